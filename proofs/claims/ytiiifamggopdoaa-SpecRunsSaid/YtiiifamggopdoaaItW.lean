/-
  spec.walk's iterator: it hands over the pairs of 'bfs', each with its word.
-/
import Derived.Test.YtiiifamggopdoaaItI
import Derived.Test.YtiiifamggopdoaaReg
import Derived.BigRegionIn
import Derived.BigFrameIn
import Derived.TacticsInMore
import Derived.LoopNIn
import Derived.LoopIn
import Derived.OwnWalkIn
import Derived.Shelf.RegionOpen
namespace Go.Proofs.Ytiiifamggopdoaa
open Go.RowKit Go.Maps

attribute [local go_sem] Oper.semAt_some

theorem Try.laidOut : laidOutB Try.prog = true := by kernel_rfl
theorem Try.cellsPair : Try.prog.cellsOf 75 = 2 := by kernel_rfl
theorem Try.arrPair : WideMaps.ArrKey Try.prog 75 3 2 := ⟨Try.underlying75, by kernel_rfl, by kernel_rfl, Try.cellsPair⟩
theorem Try.keyPair : Keyed Try.prog 75 := Keyed.of_law Try.arrPair.law
theorem Try.sizeTypes : ∃ m, Try.prog.types.size = m + 1 := ⟨Try.prog.types.size - 1, by kernel_rfl⟩
theorem Try.zeroBool (w : World) : (zeroValue 4).run Try.prog w = .ok (.bool false) w := by kernel_rfl
theorem Try.infoPair : (Try.prog.info? 75).map (fun i => (i.zero, i.size, i.bytes)) = some (some (.agg #[.int .i64 0, .int .i64 0]), 2, 16) := by kernel_rfl
theorem Try.infoInts : (Try.prog.info? 25).map (fun i => (i.zero, i.size, i.bytes)) = some (some (.slice none 0 0), 1, 24) := by kernel_rfl

theorem key_of {p : Int × Int} (h1 : 0 ≤ p.1 ∧ p.1 < 8) (h2 : 0 ≤ p.2 ∧ p.2 < 8) : keyOf Try.prog 75 (pairV p) = some (.string (keyBytes [.int .i64 p.1, .int .i64 p.2])) :=
  WideMaps.keyOf_pair Try.arrPair Try.underlying3 Try.sizeTypes (WalkArith.wf_i64 (by omega)) (WalkArith.wf_i64 (by omega))

theorem own_shape {w : World} {b e s : Nat} {v : Value} {n : Nat} {xs : List Value} (h : w.ownsRow b e s v n xs) : ∃ a c, v = .slice a n c := by
  rcases h.2 with ⟨rfl, rfl⟩ | ⟨g, cap, cur, rfl, _⟩
  · exact ⟨_, _, rfl⟩
  · exact ⟨_, _, rfl⟩

theorem own_lit {w : World} {g : Nat} {cs : Array Value} {e : TypeId} {n size : Nat} (h : Blk w g cs e) (hs : cs.size = n * size) (hn : n ≤ maxLen) : w.ownsRow 0 e size (.slice (some ⟨g, 0, none⟩) n n) n cs.toList :=
  ⟨by simpa using hs, .inr ⟨g, n, cs, rfl, Nat.zero_le _, h, Nat.le_refl _, hn, hs, by rw [List.take_of_length_le (by simp [hs])]⟩⟩

/-- What yield is handed: a pair, and a word's slice. -/
def EncW (x : Elt) (vs : Array Value) (A : World) : Prop := ∃ a c, vs = #[pairV x.1, .slice a x.2.length c] ∧ Ints A (.slice a x.2.length c) x.2

/-- A new block for a pair. -/
theorem run_alloc2 (o : Oper) (ho : o.op = .alloc 75) (ρ : Operand → Value) (w : World) : (execOp ρ o).run Try.prog w = .ok (.value (.pointer (some ⟨w.heap.size, 0, none⟩))) (w.alloc (.cells #[.int .i64 0, .int .i64 0] 75)) := by
  unfold execOp
  simp only [ho]
  simp [go_sem]

/-- It is filled. -/
theorem run_store2 (o : Oper) {a x : Operand} (ho : o.op = .store 75 a x) (ρ : Operand → Value) (w : World) (z1 z2 : Int) (ha : ρ a = .pointer (some ⟨w.heap.size, 0, none⟩)) (hx : ρ x = .agg #[.int .i64 z1, .int .i64 z2]) :
    (execOp ρ o).run Try.prog (w.drew.alloc (.cells #[.int .i64 0, .int .i64 0] 75)) = .ok .skip (phs w (.cells #[.int .i64 0, .int .i64 0] 75) (.int .i64 z1) (.int .i64 z2) 2) := by
  unfold execOp
  simp only [ho, ha, hx]
  show _ = Result.ok _ (((w.drew.alloc (.cells #[.int .i64 0, .int .i64 0] 75)).setCell ⟨w.heap.size, 0, none⟩ (.int .i64 z1)).setCell ⟨w.heap.size, 1, none⟩ (.int .i64 z2))
  have hb : Blk (w.drew.alloc (.cells #[.int .i64 0, .int .i64 0] 75)) w.heap.size #[.int .i64 0, .int .i64 0] 75 := blk_at w.drew _ _ _ rfl
  have c0 := hb.cell (i := 0) rfl
  have c1 := hb.cell (i := 1) rfl
  have f0 := hb.free 0
  have f1 := hb.free 1
  generalize w.drew.alloc (.cells #[.int .i64 0, .int .i64 0] 75) = W at *
  simp [go_sem, c0, c1, f0, f1]

/-- How a round of the outer loop begins. -/
def Head (M N : Sp) (f : Int × Int) (R D0 : Nat → Prop) (w0 : World) (J : List Elt → (Nat → Prop) → World → Prop) (sb : Nat) (fv wv : Value) (k : Nat) (wr : World) : Prop :=
  ∃ ws D, k ≤ (bfsK M N f k).length ∧ ItInv D wr fv wv sb (bfsK M N f k) ws ∧ ((∀ k, D0 k → D k) ∧ ∀ k, D k → w0.heap.size ≤ k) ∧ J ((bfs M N f).take k) D wr ∧ Kp R w0 wr

/-- How a round of the inner loop begins. -/
def Mid (M N : Sp) (f : Int × Int) (R D0 : Nat → Prop) (w0 : World) (J : List Elt → (Nat → Prop) → World → Prop) (sb at_ : Nat) (x : Elt) (wd : Value) (k o : Nat) (fv wv : Value) (wr : World) : Prop :=
  ∃ ws D, ItInv D wr fv wv sb (expandK M N x (bfsK M N f k) o) ws ∧ ((∀ k, D0 k → D k) ∧ ∀ k, D k → w0.heap.size ≤ k) ∧ J ((bfs M N f).take (k + 1)) D wr ∧ Kp R w0 wr ∧ Blk wr at_ #[.int .i64 x.1.1, .int .i64 x.1.2] 75 ∧ D at_ ∧
    wr.ownsRow 0 3 1 wd x.2.length (x.2.map (Value.int .i64)) ∧ (∀ k, wd.ownBlock = some k → D k) ∧ fv.ownBlock ≠ some at_

set_option maxRecDepth 100000 in
set_option maxHeartbeats 4000000 in
theorem walk_start (M N : Sp) (f : Int × Int) (R D0 : Nat → Prop) (w0 W w1 : World) (hW : Below w0.heap.size w0 W) (hD0 : ∀ k, D0 k → w0.heap.size ≤ k) (J : List Elt → (Nat → Prop) → World → Prop) (hJ : Abide J) (h0 : J [] D0 W)
    (hs : Seen Try.prog 75 w1 (W.heap.size + 1 + 1) ([] ++ [f]))
    (hg : (((W.alloc (.cells #[.int .i64 f.1, .int .i64 f.2] 75)).alloc (.cells #[.slice none 0 0] 25)).alloc (.map #[] 0)).grownBy w1 (some (W.heap.size + 1 + 1))) :
    Head M N f R D0 w0 J (W.heap.size + 1 + 1) (.slice (some ⟨W.heap.size, 0, none⟩) 1 1) (.slice (some ⟨W.heap.size + 1, 0, none⟩) 1 1) 0 w1 := by
  have hsz := hg.size
  simp only [World.size_alloc] at hsz
  have a1 := ((blk_at W #[.int .i64 f.1, .int .i64 f.2] 75 _ rfl).alloc (.cells #[.slice none 0 0] 25)).alloc (.map #[] 0)
  have a2 := (blk_at (W.alloc (.cells #[.int .i64 f.1, .int .i64 f.2] 75)) #[.slice none 0 0] 25 (W.heap.size + 1) (by simp)).alloc (.map #[] 0)
  have b1 : Blk w1 W.heap.size #[.int .i64 f.1, .int .i64 f.2] 75 := (hg.block _ a1.lt (by simp; omega)).trans a1
  have b2 : Blk w1 (W.heap.size + 1) #[.slice none 0 0] 25 := (hg.block _ a2.lt (by simp)).trans a2
  have hB : Below W.heap.size W w1 := ((((Below.refl _ W).alloc (Nat.le_refl _) _).alloc (by simp) _).alloc (by simp; omega) _).grown hg (by simp; omega) (fun k e => by injection e with e; omega)
  refine ⟨[.slice none 0 0], Up D0 W w1, Nat.zero_le _, ⟨?_, ?_, ?_, ?_, ?_, ?_, .inr ⟨by omega, by omega⟩⟩, ⟨fun k hk => .inl hk, fun k hk => hk.elim (hD0 k) fun h => Nat.le_trans hW.size h.1⟩, ?_, Kp.all (below2 hW hB) R⟩
  · exact own_lit b1 rfl (by decide)
  · intro k hk; have hk : W.heap.size = k := Option.some.inj hk; exact .inr ⟨by omega, by omega⟩
  · exact own_lit b2 rfl (by decide)
  · intro k hk; have hk : W.heap.size + 1 = k := Option.some.inj hk; exact .inr ⟨by omega, by omega⟩
  · intro i x hx
    cases i with
    | zero =>
      simp [bfsK] at hx; subst hx
      exact ⟨_, rfl, World.ownsRow_nil _ _ _ _, fun k e => by cases e⟩
    | succ i => simp [bfsK] at hx
  · exact hs
  · exact hJ _ _ _ _ _ h0 (Kp.all hB _) (fun k hk => hk)

theorem up_ge {D : Nat → Prop} {n : Nat} {A B : World} (h : ∀ k, D k → n ≤ k) (hA : n ≤ A.heap.size) : ∀ k, Up D A B k → n ≤ k := fun k hk => hk.elim (h k) fun h => Nat.le_trans hA h.1

theorem own_seen_at {P : Program} {w : World} {b kt sb : Nat} {cs : Array Value} {t : TypeId} {ps : List (Int × Int)} (h : Blk w b cs t) (hs : Seen P kt w sb ps) : ¬ b = sb := by
  rintro rfl
  obtain ⟨es, cl, h2, _⟩ := hs
  have h' : w.heap[b]? = some (.cells cs t (0, 0)) := h
  rw [h'] at h2
  cases h2

/-- A call that leads to a pair found before. -/
theorem mid_same {M N : Sp} {f : Int × Int} {R D0 D : Nat → Prop} {w0 wr C : World} {J : List Elt → (Nat → Prop) → World → Prop} (hJ : Abide J) {sb at_ : Nat} {x : Elt} {wd : Value} {k o : Nat} {fv wv : Value} {ws : List Value}
    (hI : ItInv D wr fv wv sb (expandK M N x (bfsK M N f k) o) ws) (hD : (∀ k, D0 k → D k) ∧ ∀ k, D k → w0.heap.size ≤ k) (hj : J ((bfs M N f).take (k + 1)) D wr) (hK : Kp R w0 wr) (hat : Blk wr at_ #[.int .i64 x.1.1, .int .i64 x.1.2] 75) (hatD : D at_)
    (hu : wr.ownsRow 0 3 1 wd x.2.length (x.2.map (Value.int .i64))) (huD : ∀ k, wd.ownBlock = some k → D k) (hfa : fv.ownBlock ≠ some at_)
    (hb : Below wr.heap.size wr C) (hmem : to2 M N x.1 o ∈ (expandK M N x (bfsK M N f k) o).map (·.1)) : Mid M N f R D0 w0 J sb at_ x wd k (o + 1) fv wv C := by
  have e : expandK M N x (bfsK M N f k) (o + 1) = expandK M N x (bfsK M N f k) o := by rw [expandK_succ]; unfold step1; rw [if_pos hmem]
  refine ⟨ws, Up D wr C, ?_, ⟨fun k h => .inl (hD.1 k h), up_ge hD.2 hK.size⟩, hJ _ _ _ _ _ hj (Kp.all hb _) (fun k h => h), hK.trans (Kp.all hb _), hat.below hb, .inl hatD, own_kp hu (Kp.all hb (fun _ => True)) (fun _ _ => trivial), fun k h => .inl (huD k h), hfa⟩
  rw [e]
  exact hI.kp (Kp.all hb (fun _ => True)) (fun _ _ => trivial) (fun k h => .inl h)

/-- A call that leads to a new pair. -/
theorem mid_new {M N : Sp} {f : Int × Int} {R D0 D : Nat → Prop} {w0 wr C : World} {J : List Elt → (Nat → Prop) → World → Prop} (hJ : Abide J) (hR : ∀ k, R k → k < w0.heap.size) {sb at_ : Nat} {x : Elt} {wd : Value} {k o : Nat} {fv' wv' u : Value} {ws : List Value}
    (hD : (∀ k, D0 k → D k) ∧ ∀ k, D k → w0.heap.size ≤ k) (hj : J ((bfs M N f).take (k + 1)) D wr) (hK : Kp R w0 wr) (hatD : D at_)
    (huD : ∀ k, wd.ownBlock = some k → D k)
    (hI : ItInv (Up D wr C) C fv' wv' sb (expandK M N x (bfsK M N f k) o ++ [(to2 M N x.1 o, x.2 ++ [(o : Int)])]) (ws ++ [u])) (hk : Kp (fun k => ¬ D k) wr C)
    (hatC : Blk C at_ #[.int .i64 x.1.1, .int .i64 x.1.2] 75) (huC : C.ownsRow 0 3 1 wd x.2.length (x.2.map (Value.int .i64))) (hfa : fv'.ownBlock ≠ some at_)
    (hmem : to2 M N x.1 o ∉ (expandK M N x (bfsK M N f k) o).map (·.1)) : Mid M N f R D0 w0 J sb at_ x wd k (o + 1) fv' wv' C := by
  have e : expandK M N x (bfsK M N f k) (o + 1) = expandK M N x (bfsK M N f k) o ++ [(to2 M N x.1 o, x.2 ++ [(o : Int)])] := by rw [expandK_succ]; unfold step1; rw [if_neg hmem]
  refine ⟨ws ++ [u], Up D wr C, ?_, ⟨fun k h => .inl (hD.1 k h), up_ge hD.2 hK.size⟩, hJ _ _ _ _ _ hj hk (fun k h => h), hK.trans (hk.mono fun k _ h e => by have := hR k h; have := hD.2 k e; omega), hatC, .inl hatD, huC, fun k h => .inl (huD k h), hfa⟩
  rw [e]
  exact hI

set_option maxRecDepth 100000 in
set_option maxHeartbeats 1000000 in
theorem walk_seq (M N : Sp) (hM : M.ok = true) (hN : N.ok = true) (hop : M.op = N.op) (f : Int × Int) (hf : okP M N f) (R : Nat → Prop) (w0 : World) (hR : ∀ k, R k → k < w0.heap.size) (n bf bm bn : Nat) (na : Option Addr) (nc : Nat) (msv : Value) (na' : Option Addr) (nc' : Nat) (nst nop nsv : Value)
    (cf : Blk w0 bf #[.int .i64 f.1, .int .i64 f.2] 75) (_ : R bf)
    (cm : Blk w0 bm #[.int .i64 M.st, .int .i64 M.op, .slice na M.nx.length nc, msv] 60) (rm : R bm)
    (cn : Blk w0 bn #[nst, nop, .slice na' N.nx.length nc', nsv] 60) (rn : R bn)
    (tm : ∀ B, Kp R w0 B → Mat B (.slice na M.nx.length nc) M.nx) (tn : ∀ B, Kp R w0 B → Mat B (.slice na' N.nx.length nc') N.nx) :
    SeqG Fence.wide n Try.prog 99 #[.pointer (some ⟨bf, 0, none⟩), .pointer (some ⟨bm, 0, none⟩), .pointer (some ⟨bn, 0, none⟩)] EncW (bfs M N f) R w0 := by
  intro l J Jx D0 W hW hD0 hJ hJx hY h0
  have okM := Sp.okE hM
  have okN := Sp.okE hN
  obtain ⟨f1, f2⟩ := f
  have hf1 : 0 ≤ f1 ∧ f1 < 8 := by have := hf.1; simp only [inR, decide_eq_true_eq] at this; omega
  have hf2 : 0 ≤ f2 ∧ f2 < 8 := by have := hf.2; simp only [inR, decide_eq_true_eq] at this; omega
  have HK := Lib.hid (key_of (p := (f1, f2)) hf1 hf2)
  have hmm := @run_makeMap Try.prog
  have cfW := cf.below hW
  have e0' := cell_al (cell_al (cell_al (cfW.cell (i := 0) rfl) (.cells #[.int .i64 f1, .int .i64 f2] 75)) (.cells #[.slice none 0 0] 25)) (.map #[] 0)
  have e1' := cell_al (cell_al (cell_al (cfW.cell (i := 1) rfl) (.cells #[.int .i64 f1, .int .i64 f2] 75)) (.cells #[.slice none 0 0] 25)) (.map #[] 0)
  have e0 := cfW.cell (i := 0) rfl
  have e1 := cfW.cell (i := 1) rfl
  have HS := Lib.hid (fun w1 => walk_start M N (f1, f2) R D0 w0 W w1 hW hD0 J hJ h0)
  have HTM := Lib.hid tm
  have HTN := Lib.hid tn
  have HOM := Lib.hid okM
  have HON := Lib.hid okN
  have HY := Lib.hid hY
  have HJ := Lib.hid hJ
  have HCM := Lib.hid cm
  have HCN := Lib.hid cn
  have HF := Lib.hid hf
  have HOP := Lib.hid hop
  have HM := Lib.hid hM
  have HN := Lib.hid hN
  have HRR := Lib.hid hR
  clear hR tm tn okM okN hY hJ cm cn hf hop hM hN hf1 hf2 h0 cf cfW hD0
  show CallsIn Fence.wide n Try.prog 99 #[.func (.yield l) #[] #[], .pointer (some ⟨bf, 0, none⟩), .pointer (some ⟨bm, 0, none⟩), .pointer (some ⟨bn, 0, none⟩)] W _
  refine callsIn_of_wp Try.func99 rfl trivial ?_ rfl
  simp only [Try.ntmps99, List.size_toArray, List.length_cons, List.length_nil, Nat.reduceAdd, Nat.reduceSub, Array.replicate_succ, Array.replicate_zero, List.push_toArray, List.append_toArray, List.nil_append, List.cons_append]
  gi_wp2_with (refine wpListIn_put_seen rfl (.tmp 16) (.tmp 17) (.const (.bool true)) 106 (.inr rfl) 75 4 Try.keyPair Try.underlying106 _ [] rfl (seen_made _ _ (by simp)) (f1, f2) _ rfl rfl HK.out (by simp) ?_; intro w1 hseen hg1)
  have HH := Lib.hid (HS.out w1 hseen hg1)
  clear hseen hg1 e0 e1 e0' e1' HS
  gi_loopw [5, 6, 8] (fun fv wv i wr => ∃ k : Nat, i = .int .i64 k ∧ k ≤ 64 ∧ Head M N (f1, f2) R D0 w0 J (W.heap.size + 1 + 1) fv wv k wr) (fun _ _ i _ => 64 - (intOf i).toNat)
  case atStart => exact ⟨0, rfl, by omega, HH.out⟩
  case round =>
    obtain ⟨k, rfl, hk64, hHead⟩ := hrel
    clear HH
    obtain ⟨ws, D, hkl, hI, hDD, hJk, hKw⟩ := hHead
    obtain ⟨acc, hacc⟩ : ∃ acc, acc = bfsK M N (f1, f2) k := ⟨_, rfl⟩
    rw [← hacc] at hI hkl
    have hFnd := bfsK_fnd HM.out HN.out HOP.out HF.out k
    rw [← hacc] at hFnd
    have HACC := Lib.hid hacc
    clear hacc
    by_cases hlt : k < acc.length
    · obtain ⟨x, hx⟩ := get_of_lt hlt
      obtain ⟨⟨p1, p2⟩, wd⟩ := x
      have hxp := hFnd.ok _ (List.mem_of_getElem? hx)
      have hwl : wd.length ≤ k := hFnd.wl _ (List.mem_of_getElem? hx)
      have hl64 := hFnd.len HM.out HN.out
      have hpre := pre_take (bfsK_bfs HM.out HN.out HOP.out HF.out k) (by rw [← HACC.out]; exact hx)
      obtain ⟨htake, hsuf⟩ := hpre
      have hr1 := hxp.1
      have hr2 := hxp.2
      simp only [inR, decide_eq_true_eq] at hr1 hr2
      obtain ⟨fb, fc, rfl, c0, c1⟩ := hI.cellF hx
      obtain ⟨wb, wc, u, rfl, c2, hu, huD⟩ := hI.cellW hx
      obtain ⟨ua, uc, rfl⟩ := own_shape hu
      dsimp only at hu c0 c1 c2 huD
      obtain ⟨A1, hA1⟩ : ∃ A1, A1 = (wr.alloc (.cells #[.int .i64 p1, .int .i64 p2] 75)).drew := ⟨_, rfl⟩
      have kA : Kp (fun _ => True) wr A1 := by rw [hA1]; exact ((Kp.refl _ wr).alloc _).trans (Kp.drew _ _)
      have hA1sz : A1.heap.size = wr.heap.size + 1 := by rw [hA1]; simp
      have hJ1 := HJ.out _ _ (Up D wr A1) _ _ hJk (kA.mono fun _ _ _ => trivial) (fun k hk => hk)
      have hI1 : ItInv (Up D wr A1) A1 _ _ _ _ _ := hI.kp kA (fun _ _ => trivial) (fun _ h => .inl h)
      have hu1 := own_kp hu kA (fun _ _ => trivial)
      have hints : Ints A1 (.slice ua wd.length uc) wd := Ints.of_own hu1 (by omega)
      have hat1 : Blk A1 wr.heap.size #[.int .i64 p1, .int .i64 p2] 75 := by rw [hA1]; exact blk_at _ _ _ _ rfl
      obtain ⟨fn, tmps, assign, body, hy, hR⟩ := HY.out ((bfs M N (f1, f2)).take k) ((p1, p2), wd) #[.agg #[.int .i64 p1, .int .i64 p2], .slice ua wd.length uc] (Up D wr A1) A1 hJ1 hsuf ⟨ua, uc, rfl, hints⟩
      rw [hA1] at hy
      have HR := Lib.hid hR
      have HI1 := Lib.hid hI1
      have HU1 := Lib.hid hu1
      have HAT1 := Lib.hid hat1
      have HKWR := Lib.hid hKw
      have HKW := Lib.hid (hKw.trans (kA.mono fun _ _ _ => trivial))
      have HX := Lib.hid hx
      have HXP := Lib.hid hxp
      have HTAKE := Lib.hid htake
      have HDD := Lib.hid hDD
      have HUD := Lib.hid huD
      have HFB := Lib.hid (cell_lt c0)
      have HR1 := Lib.hid hA1
      have hlt' : (k : Int) < (acc.length : Int) := by omega
      have c0' := cell_al c0
      have c1' := cell_al c1
      have c2' := cell_al c2
      have n1 : ¬ fb = wr.heap.size := fun e => by have := cell_lt c0; simp at this; omega
      have n2 : ¬ wb = wr.heap.size := fun e => by have := cell_lt c2; simp at this; omega
      clear hR hI1 hu1 hat1 hKw kA hints hJ1 hu hI hx hxp htake hsuf hDD huD hFnd hJk hA1
      gi_wp2_with fail
      gi_big_region
      all_goals gi_wp2_with fail
      refine ⟨(fun h => by simp [Fence.wide] at h), ?_⟩
      rw [← HR1.out]
      refine HR.out.mono ?_
      clear hy c0 c1 c2 c0' c1' c2' n1 n2
      rintro e B ⟨hkB, (⟨rfl, hJB⟩ | ⟨rfl, hxB⟩)⟩
      · rw [← HTAKE.out] at hJB
        have hIB : ItInv (Up D wr A1) B _ _ _ _ _ := HI1.out.kp hkB (fun _ h => .inr h) (fun _ h => h)
        have hatD : Up D wr A1 wr.heap.size := .inr ⟨Nat.le_refl _, by omega⟩
        have hatB : Blk B wr.heap.size #[.int .i64 p1, .int .i64 p2] 75 := (hkB.block _ (.inr hatD) HAT1.out.lt).trans HAT1.out
        have huB := own_kp HU1.out hkB (fun k e => .inr (.inl (HUD.out k e)))
        have hKB : Kp R w0 B := HKW.out.trans (hkB.mono fun _ _ h => .inl h)
        have cmB : Blk B bm _ _ := (hKB.block _ rm HCM.out.lt).trans HCM.out
        have hMid : Mid M N (f1, f2) R D0 w0 J (W.heap.size + 1 + 1) wr.heap.size ((p1, p2), wd) (.slice ua wd.length uc) k 0 (.slice (some ⟨fb, 0, none⟩) acc.length fc) (.slice (some ⟨wb, 0, none⟩) acc.length wc) B :=
          ⟨ws, Up D wr A1, by rw [expandK_zero, ← HACC.out]; exact hIB, ⟨fun k h => .inl (HDD.out.1 k h), up_ge HDD.out.2 HKWR.out.size⟩, hJB, hKB, hatB, hatD, huB, fun k h => .inl (HUD.out k h), by intro e; have e : fb = wr.heap.size := Option.some.inj e; have := HFB.out; omega⟩
        have HMID := Lib.hid hMid
        have m1 := cmB.cell (i := 1) rfl
        have hcmB := Lib.hid cmB
        clear hIB hatB huB hKB cmB hMid hJB hkB HR HY
        obtain ⟨wo, hwo⟩ : ∃ wo : World, wo = wr := ⟨_, rfl⟩
        subst hwo
        gi_wp2_with fail
        gi_loopw [5, 6, 40] (fun fv wv i wr => ∃ o : Nat, i = .int .i64 o ∧ (o : Int) ≤ M.op ∧ Mid M N (f1, f2) R D0 w0 J (W.heap.size + 1 + 1) wo.heap.size ((p1, p2), wd) (.slice ua wd.length uc) k o fv wv wr) (fun _ _ i _ => (M.op - intOf i).toNat)
        case atStart => exact ⟨0, rfl, by have := HOM.out.2.2.1; simp; omega, HMID.out⟩
        case round =>
          obtain ⟨o, rfl, ho, hMid⟩ := hrel
          clear HMID m1 hcmB
          obtain ⟨ws2, D2, hI2, hD2, hJ2, hK2, hat2, hatD2, hu2, huD2, hfa2⟩ := hMid
          obtain ⟨acc2, hacc2⟩ : ∃ acc2, acc2 = expandK M N ((p1, p2), wd) (bfsK M N (f1, f2) k) o := ⟨_, rfl⟩
          rw [← hacc2] at hI2
          by_cases ho2 : (o : Int) < M.op
          · obtain ⟨r1, hrr1, hz1, hin1, hrl1⟩ := tab_at HOM.out.2.2.2.2.1 HXP.out.1 ho2
            obtain ⟨r2, hrr2, hz2, hin2, hrl2⟩ := tab_at HON.out.2.2.2.2.1 HXP.out.2 (show (o : Int) < N.op by rw [← HOP.out]; exact ho2)
            obtain ⟨hnl1, _⟩ := tab_row HOM.out.2.2.2.2.1
            obtain ⟨hnl2, _⟩ := tab_row HON.out.2.2.2.2.1
            obtain ⟨mb, moff, ra, rc, rfl, cr1, hri1⟩ := (HTM.out wr hK2).row hrr1
            obtain ⟨mb', moff', ra', rc', rfl, cr2, hri2⟩ := (HTN.out wr hK2).row hrr2
            obtain ⟨rb, roff, rfl, cz1⟩ := hri1.at hz1
            obtain ⟨rb', roff', rfl, cz2⟩ := hri2.at hz2
            obtain ⟨z1, hzz1⟩ : ∃ z, z = at2 M.nx p1 o := ⟨_, rfl⟩
            obtain ⟨z2, hzz2⟩ : ∃ z, z = at2 N.nx p2 o := ⟨_, rfl⟩
            dsimp only at hin1 hin2 hz1 hz2 cz1 cz2 hrr1 hrr2 cr1 cr2
            rw [← hzz1] at hz1 cz1 hin1
            rw [← hzz2] at hz2 cz2 hin2
            simp only [inR, decide_eq_true_eq] at hin1 hin2
            have mm1 := (HCM.out.kp hK2 rm).cell (i := 2) rfl
            have mm2 := (HCN.out.kp hK2 rn).cell (i := 2) rfl
            have a0 := hat2.cell (i := 0) rfl
            have a1 := hat2.cell (i := 1) rfl
            have q1 : p1 < (M.nx.length : Int) := by omega
            have q2 : p2 < (N.nx.length : Int) := by omega
            have q3 : (o : Int) < (r1.length : Int) := by omega
            have q4 : (o : Int) < (r2.length : Int) := by have := HOP.out; omega
            obtain ⟨C1, hC1⟩ : ∃ C1, C1 = phs wr (.cells #[.int .i64 0, .int .i64 0] 75) (.int .i64 z1) (.int .i64 z2) 2 := ⟨_, rfl⟩
            have hbC : Below wr.heap.size wr C1 := by rw [hC1]; exact phs_below _ _ _ _
            have hC1b : Blk C1 wr.heap.size #[.int .i64 z1, .int .i64 z2] 75 := by rw [hC1]; exact phs_blk _ _ _ _ _ _
            have HC1B := Lib.hid hC1b
            have HZ := Lib.hid (key_of (p := (z1, z2)) ⟨hin1.1, Int.lt_of_lt_of_le hin1.2 HOM.out.2.1⟩ ⟨hin2.1, Int.lt_of_lt_of_le hin2.2 HON.out.2.1⟩)
            have HS1 := Lib.hid (hI2.s.kp (Kp.all hbC (fun _ => True)) trivial)
            have HI2 := Lib.hid hI2
            have HBC := Lib.hid hbC
            have HC1 := Lib.hid hC1
            have HA2 := Lib.hid hacc2
            have HJ2 := Lib.hid hJ2
            have HK2 := Lib.hid hK2
            have HD2 := Lib.hid hD2
            have HAT2 := Lib.hid hat2
            have HU2 := Lib.hid hu2
            have HUD2 := Lib.hid huD2
            have HATD2 := Lib.hid hatD2
            have HFA2 := Lib.hid hfa2
            have HZZ1 := Lib.hid hzz1
            have HZZ2 := Lib.hid hzz2
            have b1 := phs_cell (o := .cells #[.int .i64 0, .int .i64 0] 75) (u := .int .i64 z1) (v := .int .i64 z2) mm1
            have b2 := phs_cell (o := .cells #[.int .i64 0, .int .i64 0] 75) (u := .int .i64 z1) (v := .int .i64 z2) mm2
            have b3 := phs_cell (o := .cells #[.int .i64 0, .int .i64 0] 75) (u := .int .i64 z1) (v := .int .i64 z2) a0
            have b4 := phs_cell (o := .cells #[.int .i64 0, .int .i64 0] 75) (u := .int .i64 z1) (v := .int .i64 z2) a1
            have b5 := phs_cell (o := .cells #[.int .i64 0, .int .i64 0] 75) (u := .int .i64 z1) (v := .int .i64 z2) cr1
            have b6 := phs_cell (o := .cells #[.int .i64 0, .int .i64 0] 75) (u := .int .i64 z1) (v := .int .i64 z2) cr2
            have b7 := phs_cell (o := .cells #[.int .i64 0, .int .i64 0] 75) (u := .int .i64 z1) (v := .int .i64 z2) cz1
            have b8 := phs_cell (o := .cells #[.int .i64 0, .int .i64 0] 75) (u := .int .i64 z1) (v := .int .i64 z2) cz2
            clear hI2 hbC hacc2 hJ2 hK2 hD2 hat2 hu2 huD2 hatD2 hfa2 hzz1 hzz2 hri1 hri2 hz1 hz2 hrr1 hrr2 hrl1 hrl2 hnl1 hnl2 hC1 hC1b
            gi_wp2_with fail
            refine wpIn_region_fill (by kernel_rfl) 19 (by kernel_rfl) rfl rfl rfl rfl (fun _ _ => rfl) (fun _ _ => rfl) (fun w' => ∃ s, w' = phs wr (.cells #[.int .i64 0, .int .i64 0] 75) (.int .i64 z1) (.int .i64 z2) s) ⟨0, rfl⟩ ?_
            simp only [List.take_succ_cons, List.take_zero]
            repeat (gi_big_quiet_step (fail))
            refine wpQuietIn_nil ?_
            refine ⟨.pointer (some ⟨wr.heap.size, 0, none⟩), phs wr (.cells #[.int .i64 0, .int .i64 0] 75) (.int .i64 z1) (.int .i64 z2) 1, phs wr (.cells #[.int .i64 0, .int .i64 0] 75) (.int .i64 z1) (.int .i64 z2) 2, ?r1, ⟨1, rfl⟩, ?r2, ⟨2, rfl⟩, ?r3⟩
            case r1 => exact run_alloc2 _ rfl _ _
            case r2 => exact run_store2 _ rfl _ _ _ _ rfl rfl
            case r3 =>
              rw [← HC1.out]
              clear b1 b2 b3 b4 b5 b6 b7 b8 mm1 mm2 a0 a1 cr1 cr2 cz1 cz2
              have d0 := HC1B.out.cell (i := 0) rfl
              have d1 := HC1B.out.cell (i := 1) rfl
              have ho4 : (o : Int) < 4 := Int.lt_of_lt_of_le ho2 HOM.out.2.2.2.1
              by_cases hin : (z1, z2) ∈ acc2.map (·.1)
              · have HIN := Lib.hid (decide_eq_true hin)
                have HMEM := Lib.hid hin
                clear hin
                gi_wp2_with (gi_at_lookup; refine wpListIn_look_seen rfl (.tmp 62) (.tmp 63) 106 rfl 75 4 Try.keyPair Try.underlying106 (Try.zeroBool _) _ (acc2.map (·.1)) rfl HS1.out (z1, z2) _ rfl HZ.out ?_; rw [HIN.out])
                go_roundw
                case rel =>
                  refine ⟨o + 1, by go_num, by omega, ?_⟩
                  refine mid_same HJ.out (by rw [← HA2.out]; exact HI2.out) HD2.out HJ2.out HK2.out HAT2.out HATD2.out HU2.out HUD2.out HFA2.out HBC.out ?_
                  rw [← HA2.out]
                  have : to2 M N (p1, p2) o = (z1, z2) := by rw [HZZ1.out, HZZ2.out]; rfl
                  exact this ▸ HMEM.out
                case measure => simp [intOf]; omega
              · have HIN := Lib.hid (decide_eq_false hin)
                have HMEM := Lib.hid hin
                obtain ⟨i0, hi, hz0, hz1, hz2⟩ := info_parts Try.infoPair
                obtain ⟨i1, hi', hz0', hz1', hz2'⟩ := info_parts Try.infoInts
                have hlen2 : acc2.length ≤ 100 := by
                  have h1 := (((bfsK_fnd HM.out HN.out HOP.out HF.out k).mono (Nat.le_succ k)).expandK HM.out HN.out HOP.out (e := ((p1, p2), wd)) HXP.out hwl (k := o) ho).len HM.out HN.out
                  rw [← HA2.out] at h1
                  omega
                clear hin
                gi_wp2_with (first
                  | (gi_at_lookup; refine wpListIn_look_seen rfl (.tmp 62) (.tmp 63) 106 rfl 75 4 Try.keyPair Try.underlying106 (Try.zeroBool _) _ (acc2.map (·.1)) rfl HS1.out (z1, z2) _ rfl HZ.out ?_; rw [HIN.out])
                  | (gi_at_mapUpdate; refine wpListIn_put_seen rfl (.tmp 66) (.tmp 67) (.const (.bool true)) 106 (.inl rfl) 75 4 Try.keyPair Try.underlying106 _ (acc2.map (·.1)) rfl HS1.out (z1, z2) _ rfl rfl HZ.out HMEM.out ?_; intro w2 hs2 hg2; have d2 := hg2.cell d0 (by simp; exact own_seen_at HC1B.out HS1.out); have d3 := hg2.cell d1 (by simp; exact own_seen_at HC1B.out HS1.out); have HG2 := Lib.hid hg2; have HSS2 := Lib.hid hs2; clear hg2 hs2)
                  | (gi_at_builtin; refine wpListIn_append_own_at _ rfl (.tmp 68) (.tmp 70) 105 rfl 0 75 i0 (.agg #[.int .i64 0, .int .i64 0]) 2 16 Try.underlying105 hi hz0 hz1 hz2 rfl (by decide) _ acc2.length (cellsOf acc2) rfl (HI2.out.f2 HBC.out HG2.out _) ⟨w2.heap.size, 0, none⟩ 1 1 [.int .i64 z1, .int .i64 z2] rfl rfl (cell_two_new _ _ _ _) (ints_oneCell .i64 [z1, z2]) (by unfold maxLen; omega) (by omega) (Nat.zero_le _) ?_; intro fv' w3 hf3 hg3 hnil3 hl3; have HF3 := Lib.hid hf3; have HG3 := Lib.hid hg3; have HL3 := Lib.hid hl3; clear hf3 hg3 hnil3 hl3))
                refine ⟨trivial, (fun h => by simp [Fence.wide] at h), ?_⟩
                obtain ⟨wd', hwd'⟩ : ∃ wd' : List Int, wd' = wd ++ [(o : Int)] := ⟨_, rfl⟩
                have hL := longer_any _ wd o w3 (Ints.of_own (HI2.out.w2 HBC.out HG2.out _ HG3.out HU2.out) (by omega)) (by omega)
                rw [← hwd'] at hL
                have HWD := Lib.hid hwd'
                clear hwd'
                refine (callsIn_wide.2 hL).mono ?_
                clear hL
                rintro e w4 ⟨u, rfl, hu4, hb4⟩
                obtain ⟨ua', uc', hua⟩ := own_shape hu4
                subst hua
                have HU4 := Lib.hid hu4
                have HB4 := Lib.hid hb4
                clear hu4 hb4
                gi_wp2_with (gi_at_builtin; refine wpListIn_append_own_at _ rfl (.tmp 72) (.tmp 76) 22 rfl 0 25 i1 (.slice none 0 0) 1 24 Try.underlying22 hi' hz0' hz1' hz2' rfl (by decide) _ acc2.length ws2 rfl (HI2.out.g2 HBC.out HG2.out _ HG3.out HB4.out _) ⟨w4.heap.size, 0, none⟩ 1 1 [.slice ua' wd'.length uc'] rfl rfl (cell_one_new _ _ _) (by intro u hu; simp at hu; subst hu; rfl) (by unfold maxLen; omega) (by omega) (Nat.zero_le _) ?_; intro wv' w5 hg5 hgr5 hnil5 hl5; have HG5 := Lib.hid hg5; have HGR5 := Lib.hid hgr5; have HL5 := Lib.hid hl5; clear hg5 hgr5 hnil5 hl5)
                go_roundw
                case rel =>
                  refine ⟨o + 1, by go_num, by omega, ?_⟩
                  have hP := HI2.out.push HBC.out HSS2.out HG2.out _ HF3.out HG3.out HL3.out HU4.out HB4.out _ HG5.out HGR5.out HL5.out
                  have hto : to2 M N (p1, p2) o = (z1, z2) := by rw [HZZ1.out, HZZ2.out]; rfl
                  refine mid_new (ws := ws2) (u := .slice ua' wd'.length uc') HJ.out HRR.out HD2.out HJ2.out HK2.out HATD2.out HUD2.out ?_ hP.2 (HI2.out.keepB HBC.out HG2.out _ HG3.out HB4.out _ HGR5.out HAT2.out HFA2.out (by decide)) (HI2.out.keepW HBC.out HG2.out _ HG3.out HB4.out _ HGR5.out HU2.out) ?_ ?_
                  · rw [← HA2.out]; dsimp only; rw [hto, ← HWD.out]; exact hP.1
                  · have hlt := HAT2.out.lt
                    have s1 := HBC.out.size
                    have s2 := HG2.out.size
                    rcases HL3.out with e | e
                    · rw [e]; exact HFA2.out
                    · rw [e]; simp; omega
                  · rw [← HA2.out]; dsimp only; rw [hto]; exact HMEM.out
                case measure => simp [intOf]; omega
          · have hoe : (o : Int) = M.op := by omega
            have hon : o = M.op.toNat := by omega
            have hlen3 := (bfsK_fnd HM.out HN.out HOP.out HF.out (k + 1)).len HM.out HN.out
            have hnext : bfsK M N (f1, f2) (k + 1) = acc2 := by rw [hacc2, bfsK_some (e := ((p1, p2), wd)) (by rw [← HACC.out]; exact HX.out), hon]
            have hlek : acc.length ≤ acc2.length := by rw [hacc2, HACC.out]; exact (expandK_pre M N _ _ o).length_le
            have HH2 : Hid (Head M N (f1, f2) R D0 w0 J (W.heap.size + 1 + 1) u5 u6 (k + 1) wr) := ⟨ws2, D2, by rw [hnext]; omega, by rw [hnext]; exact hI2, hD2, hJ2, hK2⟩
            have hk64' : k + 1 ≤ 64 := by rw [hnext] at hlen3; omega
            clear hI2 hD2 hJ2 hK2 hat2 hatD2 hu2 huD2 hfa2 hacc2 hnext hon
            gi_wp2_with fail
            go_roundw
            case rel => exact ⟨k + 1, by go_num, hk64', HH2.out⟩
            case measure => simp [intOf]; omega
      · gi_wp2_with fail
        refine bodyPost_ret (results_none rfl _ _ _) rfl ?_
        exact ⟨⟨_, rfl⟩, .inr ⟨_, _, fun k h => .inl (HDD.out.1 k h), by rw [← HTAKE.out]; exact List.take_prefix _ _, hxB⟩⟩
    · have hpos := bfsK_pos M N (f1, f2) k
      rw [← HACC.out] at hpos
      obtain ⟨x0, hx0⟩ := get_of_lt hpos
      obtain ⟨fb, fc, rfl, _, _⟩ := hI.cellF hx0
      have hge : ¬ (k : Int) < (acc.length : Int) := by omega
      have hbfs := bfs_at HM.out HN.out HOP.out HF.out (k := k) (by rw [← HACC.out]; omega)
      have hJe : J (bfs M N (f1, f2)) D wr := by
        rw [List.take_of_length_le (by rw [hbfs, ← HACC.out]; omega)] at hJk
        exact hJk
      have HJE := Lib.hid hJe
      have HDD := Lib.hid hDD
      clear hJe hJk hDD hI hKw hFnd hx0 hbfs
      gi_wp2_with fail
      go_end0
      exact ⟨⟨_, rfl⟩, .inl ⟨D, HDD.out.1, HJE.out⟩⟩
end Go.Proofs.Ytiiifamggopdoaa
