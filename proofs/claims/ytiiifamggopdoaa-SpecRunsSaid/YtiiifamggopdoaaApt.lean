/-
  spec.apart: the first of the shortest words that have different answers.
-/
import Derived.Test.YtiiifamggopdoaaItW
import Derived.Test.YtiiifamggopdoaaAps
namespace Go.Proofs.Ytiiifamggopdoaa
open Go.RowKit Go.Maps

attribute [local go_sem] Oper.semAt_some

set_option maxHeartbeats 400000 in
theorem walk_any (a b a' b' f1 f2 : Int) (na : Option Addr) (nc : Nat) (sa : Option Addr) (sc : Nat) (na' : Option Addr) (nc' : Nat) (sa' : Option Addr) (sc' : Nat) (nl sl nl' sl' : Nat) (w : World) :
    Calls Try.prog 94 #[.agg #[.int .i64 a, .int .i64 b, .slice na nl nc, .slice sa sl sc], .agg #[.int .i64 a', .int .i64 b', .slice na' nl' nc', .slice sa' sl' sc'], .agg #[.int .i64 f1, .int .i64 f2]] w fun e w' =>
      e = .returned (.func (.func 99) #[] #[.pointer (some ⟨w.heap.size + 1 + 1, 0, none⟩), .pointer (some ⟨w.heap.size, 0, none⟩), .pointer (some ⟨w.heap.size + 1, 0, none⟩)]) ∧
      w' = ((w.alloc (.cells #[.int .i64 a, .int .i64 b, .slice na nl nc, .slice sa sl sc] 60)).alloc (.cells #[.int .i64 a', .int .i64 b', .slice na' nl' nc', .slice sa' sl' sc'] 60)).alloc (.cells #[.int .i64 f1, .int .i64 f2] 75) := by
  go_enter Try.func94, Try.ntmps94
  go_wp2
  go_ret
  exact ⟨rfl, rfl⟩

def ApRes : Option (List Int) → Value → Bool → World → Prop
  | some wd, v, b, W => b = true ∧ Ints W v wd
  | none, v, b, _ => b = false ∧ v = .slice none 0 0

/-- Between two rounds: nothing that lay has turned; no state that came is told apart. -/
def ApI (M N : Sp) (w : World) (mc nc : Array Value) (pre : List Elt) (D : Nat → Prop) (W : World) : Prop :=
  Below w.heap.size w W ∧ w.heap.size + 8 ≤ W.heap.size ∧ (∀ k, D k → w.heap.size + 8 ≤ k ∧ k < W.heap.size) ∧ Blk W w.heap.size mc 60 ∧ Blk W (w.heap.size + 1) nc 60 ∧
    Blk W (w.heap.size + 1 + 1 + 1) #[.slice none 0 0] 25 ∧ Blk W (w.heap.size + 1 + 1 + 1 + 1) #[.bool false] 4 ∧ ∀ e ∈ pre, fstDiff M N e.1 = none

/-- A round has left: the word is in the result. -/
def ApX (M N : Sp) (w : World) (c : Code) (pre : List Elt) (D : Nat → Prop) (W : World) : Prop :=
  c = .ret ∧ Below w.heap.size w W ∧ w.heap.size + 8 ≤ W.heap.size ∧ (∀ k, D k → w.heap.size + 8 ≤ k) ∧ ∃ (a : Option Addr) (cp : Nat) (wd : List Int), Blk W (w.heap.size + 1 + 1 + 1) #[.slice a wd.length cp] 25 ∧ Blk W (w.heap.size + 1 + 1 + 1 + 1) #[.bool true] 4 ∧
    W.ownsRow 0 3 1 (.slice a wd.length cp) wd.length (wd.map (Value.int .i64)) ∧ (∀ k, (Value.slice a wd.length cp).ownBlock = some k → ¬ D k) ∧ wd.length ≤ 1000 ∧ ∀ suf, apartL M N (pre ++ suf) = some wd

theorem apI_abide (M N : Sp) (w : World) (mc nc : Array Value) : Abide (ApI M N w mc nc) := by
  rintro pre D D' A B ⟨h1, h2, h3, h4, h5, h6, h7, h8⟩ hk hD
  have nD : ∀ k, k < w.heap.size + 8 → ¬ D k := fun k hk e => by have := h3 k e; omega
  have hz := hk.size
  exact ⟨below_abide h1 hk (by omega) (fun i e => by have := h3 i e; omega), Nat.le_trans h2 hk.size, fun k e => (hD k e).elim (fun e => by have := h3 k e; omega) fun e => by omega, h4.abide hk (nD _ (by omega)), h5.abide hk (nD _ (by omega)), h6.abide hk (nD _ (by omega)), h7.abide hk (nD _ (by omega)), h8⟩

theorem apX_abide (M N : Sp) (w : World) (c : Code) : Abide (ApX M N w c) := by
  rintro pre D D' A B ⟨h0, h1, h2, h3, a, cp, wd, h4, h5, h6, h7, h8, h9⟩ hk hD
  have nD : ∀ k, k < w.heap.size + 8 → ¬ D k := fun k hk e => by have := h3 k e; omega
  refine ⟨h0, below_abide h1 hk (by omega) (fun i e => by have := h3 i e; omega), Nat.le_trans h2 hk.size, fun k e => (hD k e).elim (h3 k) fun e => by omega, a, cp, wd, h4.abide hk (nD _ (by omega)), h5.abide hk (nD _ (by omega)), own_kp h6 hk h7, fun k e e' => ?_, h8, h9⟩
  rcases hD k e' with e1 | e1
  · exact h7 k e e1
  · have := (h6.lt k e).2; omega

/-- The world in which the range begins. -/
def apW (w : World) (mc nc : Array Value) (f1 f2 : Int) : World :=
  (((((((w.alloc (.cells mc 60)).alloc (.cells nc 60)).alloc (.cells #[.int .i64 f1, .int .i64 f2] 75)).alloc (.cells #[.slice none 0 0] 25)).alloc (.cells #[.bool false] 4)).alloc (.cells mc 60)).alloc (.cells nc 60)).alloc (.cells #[.int .i64 f1, .int .i64 f2] 75)

theorem apW_facts (w : World) (mc nc : Array Value) (f1 f2 : Int) : Below w.heap.size w (apW w mc nc f1 f2) ∧ (apW w mc nc f1 f2).heap.size = w.heap.size + 8 ∧ Blk (apW w mc nc f1 f2) w.heap.size mc 60 ∧ Blk (apW w mc nc f1 f2) (w.heap.size + 1) nc 60 ∧
    Blk (apW w mc nc f1 f2) (w.heap.size + 1 + 1 + 1) #[.slice none 0 0] 25 ∧ Blk (apW w mc nc f1 f2) (w.heap.size + 1 + 1 + 1 + 1) #[.bool false] 4 ∧
    Blk (apW w mc nc f1 f2) (w.heap.size + 1 + 1 + 1 + 1 + 1) mc 60 ∧ Blk (apW w mc nc f1 f2) (w.heap.size + 1 + 1 + 1 + 1 + 1 + 1) nc 60 ∧ Blk (apW w mc nc f1 f2) (w.heap.size + 1 + 1 + 1 + 1 + 1 + 1 + 1) #[.int .i64 f1, .int .i64 f2] 75 := by
  unfold apW
  refine ⟨?_, by simp, ?_, ?_, ?_, ?_, ?_, ?_, ?_⟩
  · exact ((((((((Below.refl _ w).alloc (Nat.le_refl _) _).alloc (by simp) _).alloc (by simp; omega) _).alloc (by simp; omega) _).alloc (by simp; omega) _).alloc (by simp; omega) _).alloc (by simp; omega) _).alloc (by simp; omega) _
  · exact (((((((blk_at _ _ _ _ rfl).alloc _).alloc _).alloc _).alloc _).alloc _).alloc _).alloc _
  · exact ((((((blk_at _ _ _ _ (by simp)).alloc _).alloc _).alloc _).alloc _).alloc _).alloc _
  · exact ((((blk_at _ _ _ _ (by simp)).alloc _).alloc _).alloc _).alloc _
  · exact (((blk_at _ _ _ _ (by simp)).alloc _).alloc _).alloc _
  · exact ((blk_at _ _ _ _ (by simp)).alloc _).alloc _
  · exact (blk_at _ _ _ _ (by simp)).alloc _
  · exact blk_at _ _ _ _ (by simp)

set_option maxRecDepth 100000 in
set_option maxHeartbeats 1000000 in
theorem apart_in (M N : Sp) (hM : M.ok = true) (hN : N.ok = true) (hop : M.op = N.op) (f1 f2 : Int) (hf : okP M N (f1, f2)) (na : Option Addr) (nc : Nat) (sa : Option Addr) (sc : Nat) (na' : Option Addr) (nc' : Nat) (sa' : Option Addr) (sc' : Nat) (w : World)
    (tn : Mat w (.slice na M.nx.length nc) M.nx) (ts : Mat w (.slice sa M.sy.length sc) M.sy) (tn' : Mat w (.slice na' N.nx.length nc') N.nx) (ts' : Mat w (.slice sa' N.sy.length sc') N.sy) :
    CallsIn Fence.wide 9 Try.prog 68 #[.agg #[.int .i64 M.st, .int .i64 M.op, .slice na M.nx.length nc, .slice sa M.sy.length sc], .agg #[.int .i64 N.st, .int .i64 N.op, .slice na' N.nx.length nc', .slice sa' N.sy.length sc'], .agg #[.int .i64 f1, .int .i64 f2]] w
      fun e w' => ∃ v b, e = .returned (.tuple #[v, .bool b]) ∧ ApRes (apartP M N (f1, f2)) v b w' ∧ Below w.heap.size w w' := by
  have HM := Lib.hid hM
  have HN := Lib.hid hN
  have HOP := Lib.hid hop
  have HF := Lib.hid hf
  have HTN := Lib.hid tn
  have HTS := Lib.hid ts
  have HTN' := Lib.hid tn'
  have HTS' := Lib.hid ts'
  clear hM hN hop hf tn ts tn' ts'
  refine callsIn_of_wp_marks Try.func68 rfl trivial ?_ rfl
  simp only [Try.ntmps68, List.size_toArray, List.length_cons, List.length_nil, Nat.reduceAdd, Nat.reduceSub, Array.replicate_succ, Array.replicate_zero, List.push_toArray, List.append_toArray, List.nil_append, List.cons_append]
  gi_wp2_with fail
  refine ⟨trivial, ?_⟩
  refine (callsIn_wide.2 (walk_any M.st M.op N.st N.op f1 f2 na nc sa sc na' nc' sa' sc' M.nx.length M.sy.length N.nx.length N.sy.length _)).mono ?_
  rintro e w1 ⟨rfl, rfl⟩
  gi_wp2_with fail
  -- THE RANGE
  obtain ⟨b1, bsz, c0, c1, c2, c3, c4, c5, c6⟩ := apW_facts w #[.int .i64 M.st, .int .i64 M.op, .slice na M.nx.length nc, .slice sa M.sy.length sc] #[.int .i64 N.st, .int .i64 N.op, .slice na' N.nx.length nc', .slice sa' N.sy.length sc'] f1 f2
  have hRw : ∀ k, k < w.heap.size → (k < (apW w #[.int .i64 M.st, .int .i64 M.op, .slice na M.nx.length nc, .slice sa M.sy.length sc] #[.int .i64 N.st, .int .i64 N.op, .slice na' N.nx.length nc', .slice sa' N.sy.length sc'] f1 f2).heap.size ∧ k ≠ w.heap.size + 1 + 1 + 1 ∧ k ≠ w.heap.size + 1 + 1 + 1 + 1) := fun k hk => ⟨by omega, by omega, by omega⟩
  have keep : ∀ B, Kp (fun k => k < (apW w #[.int .i64 M.st, .int .i64 M.op, .slice na M.nx.length nc, .slice sa M.sy.length sc] #[.int .i64 N.st, .int .i64 N.op, .slice na' N.nx.length nc', .slice sa' N.sy.length sc'] f1 f2).heap.size ∧ k ≠ w.heap.size + 1 + 1 + 1 ∧ k ≠ w.heap.size + 1 + 1 + 1 + 1) (apW w #[.int .i64 M.st, .int .i64 M.op, .slice na M.nx.length nc, .slice sa M.sy.length sc] #[.int .i64 N.st, .int .i64 N.op, .slice na' N.nx.length nc', .slice sa' N.sy.length sc'] f1 f2) B → Below w.heap.size w B := fun B hB =>
    b1.trans ((hB.mono fun k _ hk => hRw k hk : Kp (fun k => k < w.heap.size) _ B).below (by omega))
  change Code.wpIn Fence.wide 9 Try.prog _ _ _ (apW w #[.int .i64 M.st, .int .i64 M.op, .slice na M.nx.length nc, .slice sa M.sy.length sc] #[.int .i64 N.st, .int .i64 N.op, .slice na' N.nx.length nc', .slice sa' N.sy.length sc'] f1 f2)
  refine wpIn_rangeG rfl (by decide) (gf := 99) (lb := #[.pointer (some ⟨w.heap.size + 1 + 1 + 1 + 1 + 1 + 1 + 1, 0, none⟩), .pointer (some ⟨w.heap.size + 1 + 1 + 1 + 1 + 1, 0, none⟩), .pointer (some ⟨w.heap.size + 1 + 1 + 1 + 1 + 1 + 1, 0, none⟩)]) rfl trivial (enters_of Try.func99 (by kernel_rfl) rfl)
    (xs := bfs M N (f1, f2)) (Enc := EncW) (R := fun k => k < (apW w #[.int .i64 M.st, .int .i64 M.op, .slice na M.nx.length nc, .slice sa M.sy.length sc] #[.int .i64 N.st, .int .i64 N.op, .slice na' N.nx.length nc', .slice sa' N.sy.length sc'] f1 f2).heap.size ∧ k ≠ w.heap.size + 1 + 1 + 1 ∧ k ≠ w.heap.size + 1 + 1 + 1 + 1)
    (walk_seq M N HM.out HN.out HOP.out (f1, f2) HF.out _ (apW w #[.int .i64 M.st, .int .i64 M.op, .slice na M.nx.length nc, .slice sa M.sy.length sc] #[.int .i64 N.st, .int .i64 N.op, .slice na' N.nx.length nc', .slice sa' N.sy.length sc'] f1 f2) (fun k h => h.1) 8 _ _ _ na nc (.slice sa M.sy.length sc) na' nc' (.int .i64 N.st) (.int .i64 N.op) (.slice sa' N.sy.length sc') c6 ⟨by omega, by omega, by omega⟩ c4 ⟨by omega, by omega, by omega⟩ c5 ⟨by omega, by omega, by omega⟩ (fun B hB => HTN.out.below (keep B hB)) (fun B hB => HTN'.out.below (keep B hB)))
    (fun x vs W h => by obtain ⟨a, c, rfl, _⟩ := h; rfl) (fun k h => h.1)
    (ApI M N w #[.int .i64 M.st, .int .i64 M.op, .slice na M.nx.length nc, .slice sa M.sy.length sc] #[.int .i64 N.st, .int .i64 N.op, .slice na' N.nx.length nc', .slice sa' N.sy.length sc']) (ApX M N w) (apI_abide _ _ _ _ _) (apX_abide _ _ _) ⟨b1, by omega, fun k h => h.elim, c0, c1, c2, c3, by simp⟩ ?round ?done ?stop
  case round =>
    rintro l pre x vs D W hI hDl hloop ⟨suf, hsuf⟩ ⟨wa, wc, rfl, hints⟩ K hK
    obtain ⟨⟨p1, p2⟩, wd⟩ := x
    have HII := Lib.hid hI
    have HDL := Lib.hid hDl
    have HLP := Lib.hid hloop
    have HIN := Lib.hid hints
    have HSF := Lib.hid hsuf
    have HB1 := Lib.hid b1
    have HKK := Lib.hid hK
    clear hI hDl hloop hints hsuf hK keep hRw c0 c1 c2 c3 c4 c5 c6 b1
    dsimp only [pairV]
    gi_wp2_with fail
    refine HKK.out _ _ ((Kp.refl _ W).alloc _) (fun W2 h2 => ?_)
    have hbw : Below W.heap.size W (W.alloc (.cells #[.int .i64 p1, .int .i64 p2] 75)) := (Below.refl _ W).alloc (Nat.le_refl _) _
    have hI1 := apI_abide M N w _ _ pre D D W _ HII.out (Kp.all hbw _) (fun k h => .inl h)
    have hI2 := apI_abide M N w _ _ pre D D _ W2 hI1 (h2.mono fun k _ hk e => hk (by subst e; exact HDL.out)) (fun k h => .inl h)
    have hlt : l < W.heap.size := by obtain ⟨r, hr⟩ := HLP.out; exact (Array.getElem?_eq_some_iff.1 hr).1
    have hat : Blk W2 W.heap.size #[.int .i64 p1, .int .i64 p2] 75 := (blk_at W _ _ _ rfl).kp h2 (by omega)
    have hin : Ints W2 (.slice wa wd.length wc) wd := (HIN.out.below hbw).past (by obtain ⟨r, hr⟩ := HLP.out; exact ⟨r, (Below.heap_alloc W _ l hlt).trans hr⟩) h2
    have hfnd := bfsK_fnd HM.out HN.out HOP.out HF.out 64
    have hmem : ((p1, p2), wd) ∈ bfsK M N (f1, f2) 64 := by
      have := HSF.out
      unfold bfs at this
      rw [this]; simp
    have hxp := hfnd.ok _ hmem
    have hwl : wd.length ≤ 64 := hfnd.wl _ hmem
    have hatne : w.heap.size + 8 ≤ W.heap.size := HII.out.2.1
    have HI2 := Lib.hid hI2
    have HAT := Lib.hid hat
    have HXP := Lib.hid hxp
    have HWD := Lib.hid hin
    have HATNE := Lib.hid hatne
    have m1 := hI2.2.2.2.1.cell (i := 1) rfl
    clear hI1 hI2 hat hin hfnd hmem hxp h2 hbw hlt HKK HIN hatne
    gi_wp2_with fail
    gi_loopw [19, 10] (fun i _ wr => ∃ o : Nat, i = .int .i64 o ∧ (o : Int) ≤ M.op ∧ (∀ j : Nat, j < o → at2 M.sy p1 j = at2 N.sy p2 j) ∧ Below W2.heap.size W2 wr) (fun i _ _ => (M.op - intOf i).toNat)
    case atStart => exact ⟨0, rfl, by have := (Sp.okE HM.out).2.2.1; simp; omega, fun j hj => by omega, Below.refl _ _⟩
    case round =>
      obtain ⟨o, rfl, ho, heq, hbr⟩ := hrel
      have HEQ := Lib.hid heq
      clear heq
      by_cases ho2 : (o : Int) < M.op
      · obtain ⟨r1, hrr1, hz1, _, hrl1⟩ := tab_at (Sp.okE HM.out).2.2.2.2.2 HXP.out.1 ho2
        obtain ⟨r2, hrr2, hz2, _, hrl2⟩ := tab_at (Sp.okE HN.out).2.2.2.2.2 HXP.out.2 (show (o : Int) < N.op by rw [← HOP.out]; exact ho2)
        obtain ⟨hnl1, _⟩ := tab_row (Sp.okE HM.out).2.2.2.2.2
        obtain ⟨hnl2, _⟩ := tab_row (Sp.okE HN.out).2.2.2.2.2
        have hb2 : Below w.heap.size w wr := HI2.out.1.trans (hbr.mono (by have := HI2.out.2.1; omega))
        obtain ⟨mb, moff, ra, rc, rfl, cr1, hri1⟩ := (HTS.out.below hb2).row hrr1
        obtain ⟨mb', moff', ra', rc', rfl, cr2, hri2⟩ := (HTS'.out.below hb2).row hrr2
        obtain ⟨rb, roff, rfl, cz1⟩ := hri1.at hz1
        obtain ⟨rb', roff', rfl, cz2⟩ := hri2.at hz2
        obtain ⟨z1, hzz1⟩ : ∃ z, z = at2 M.sy p1 o := ⟨_, rfl⟩
        obtain ⟨z2, hzz2⟩ : ∃ z, z = at2 N.sy p2 o := ⟨_, rfl⟩
        have hr1 := HXP.out.1
        have hr2 := HXP.out.2
        simp only [inR, decide_eq_true_eq] at hr1 hr2
        dsimp only at hz1 hz2 cz1 cz2 hrr1 hrr2 cr1 cr2
        rw [← hzz1] at hz1 cz1
        rw [← hzz2] at hz2 cz2
        have mm1 := (HI2.out.2.2.2.1.below hbr).cell (i := 3) rfl
        have mm2 := (HI2.out.2.2.2.2.1.below hbr).cell (i := 3) rfl
        have a0 := (HAT.out.below hbr).cell (i := 0) rfl
        have a1 := (HAT.out.below hbr).cell (i := 1) rfl
        have q1 : p1 < (M.sy.length : Int) := by omega
        have q2 : p2 < (N.sy.length : Int) := by omega
        have q3 : (o : Int) < (r1.length : Int) := by omega
        have q4 : (o : Int) < (r2.length : Int) := by have := HOP.out; omega
        have HZ1 := Lib.hid hzz1
        have HZ2 := Lib.hid hzz2
        have HBR := Lib.hid hbr
        clear hzz1 hzz2 hz1 hz2 hrr1 hrr2 hri1 hri2 hnl1 hnl2 hrl1 hrl2 hbr hb2
        by_cases hz : z1 = z2
        · have hzb : (z1 != z2) = false := by simp [hz]
          have HZ := Lib.hid hz
          have ho4 : (o : Int) < 4 := Int.lt_of_lt_of_le ho2 (Sp.okE HM.out).2.2.2.1
          clear hz
          gi_wp2_with fail
          refine wpIn_region_reads (by kernel_rfl) (by kernel_rfl) ?_
          repeat (gi_big_quiet_step (fail))
          refine wpQuietIn_nil ?_
          gi_wp2_with fail
          go_roundw
          case rel =>
            refine ⟨o + 1, by go_num, by omega, fun j hj => ?_, HBR.out.drew⟩
            rcases Nat.lt_or_ge j o with h | h
            · exact HEQ.out j h
            · obtain rfl : j = o := by omega
              rw [← HZ1.out, ← HZ2.out]; exact HZ.out
          case measure => simp [intOf]; omega
        · have hzb : (z1 != z2) = true := by simp [hz]
          have HZ := Lib.hid hz
          have hbd : Below W2.heap.size W2 wr.drew := HBR.out.drew
          have HX3 := Lib.hid (HI2.out.2.2.2.2.2.1.below hbd)
          have HX4 := Lib.hid (HI2.out.2.2.2.2.2.2.1.below hbd)
          have HBD := Lib.hid hbd
          clear hz hbd
          gi_wp2_with fail
          refine wpIn_region_reads (by kernel_rfl) (by kernel_rfl) ?_
          repeat (gi_big_quiet_step (fail))
          refine wpQuietIn_nil ?_
          gi_wp2_with fail
          obtain ⟨wd', hwd'⟩ : ∃ wd' : List Int, wd' = wd ++ [(o : Int)] := ⟨_, rfl⟩
          have hL := longer_any _ wd o wr.drew (HWD.out.below HBD.out) (by omega)
          rw [← hwd'] at hL
          have HWD' := Lib.hid hwd'
          clear hwd'
          refine ⟨trivial, ?_⟩
          refine (CallsIn.inRound l (callsIn_wide.2 hL)).mono ?_
          clear hL
          rintro e w4 ⟨u, rfl, hu4, hb4⟩
          obtain ⟨ua', uc', hua⟩ := own_shape hu4
          subst hua
          have hx3 := HX3.out.below hb4
          have hx4 := HX4.out.below hb4
          have d3 := hx3.cell (i := 0) rfl
          have d4 := hx4.cell (i := 0) rfl
          have g3 := hx3.free 0
          have g4 := hx4.free 0
          have HU4 := Lib.hid hu4
          have HB4 := Lib.hid hb4
          have HX3' := Lib.hid hx3
          have HX4' := Lib.hid hx4
          clear hu4 hb4 hx3 hx4
          gi_wp2_with fail
          obtain ⟨j1, j2, j3, j4, j5, j6, j7, j8⟩ := HI2.out
          have s1 := HBD.out.size
          have s2 := HB4.out.size
          have ks : Kp (fun k => k ≠ w.heap.size + 1 + 1 + 1 ∧ k ≠ w.heap.size + 1 + 1 + 1 + 1) w4 ((w4.setCell ⟨w.heap.size + 1 + 1 + 1, 0, none⟩ (.slice ua' wd'.length uc')).setCell ⟨w.heap.size + 1 + 1 + 1 + 1, 0, none⟩ (.bool true)) :=
            ((Kp.setCell w4 ⟨w.heap.size + 1 + 1 + 1, 0, none⟩ _).mono fun k _ h => h.1).trans ((Kp.setCell _ ⟨w.heap.size + 1 + 1 + 1 + 1, 0, none⟩ _).mono fun k _ h => h.2)
          have k24 : Kp (fun _ => True) W2 w4 := (Kp.all HBD.out _).trans (Kp.all HB4.out _)
          have hlw : wd'.length ≤ 1000 := by rw [HWD'.out]; simp; omega
          refine ⟨(k24.mono fun _ _ _ => trivial).trans (ks.mono fun k _ hk => ?_), rfl, ?_, ?_, ?_, ua', uc', wd', ?_, ?_, ?_, ?_, hlw, ?_⟩
          · rcases hk with hk | hk
            · exact hk.2
            · have := (j3 k hk).1
              exact ⟨by omega, by omega⟩
          · have b4 : Below w.heap.size w w4 := (j1.trans (HBD.out.mono (by omega))).trans (HB4.out.mono (by omega))
            exact (b4.setCell (by simp; omega) _).setCell (by simp; omega) _
          · rw [size_setCell, size_setCell]; omega
          · exact fun k hk => (j3 k hk).1
          · exact (Below.heap_setCell _ _ _ _ (by simp)).trans (one_setCell HX3'.out)
          · exact one_setCell ((Below.heap_setCell _ _ _ _ (by simp)).trans HX4'.out)
          · exact own_kp (own_mono HU4.out (Nat.zero_le _)) ks fun k e => by have := (HU4.out.lt k e).1; exact ⟨by omega, by omega⟩
          · intro k e hk
            have := (HU4.out.lt k e).1
            have := (j3 k hk).2
            omega
          · intro suf'
            rw [List.append_assoc]
            have hd : at2 M.sy p1 o ≠ at2 N.sy p2 o := by rw [← HZ1.out, ← HZ2.out]; exact HZ.out
            rw [HWD'.out]
            exact apartL_some (e := ((p1, p2), wd)) (fstDiff_some (p := (p1, p2)) ho2 HEQ.out hd) j8
      · have hoe : (o : Int) = M.op := by omega
        have HBR := Lib.hid hbr
        have HOE := Lib.hid hoe
        clear hoe hbr
        gi_wp2_with fail
        obtain ⟨j1, j2, j3, j4, j5, j6, j7, j8⟩ := HI2.out
        have s1 := HBR.out.size
        refine ⟨Kp.all HBR.out _, j1.trans (HBR.out.mono (by omega)), by omega, fun k hk => by have := j3 k hk; omega, j4.below HBR.out, j5.below HBR.out, j6.below HBR.out, j7.below HBR.out, fun e he => ?_⟩
        rcases List.mem_append.1 he with he | he
        · exact j8 e he
        · simp at he; subst he
          exact fstDiff_none fun i hi => HEQ.out i (by have := HOE.out; omega)
  case done =>
    rintro Mk D W hMk hDM ⟨i1, i2, i3, i4, i5, i6, i7, i8⟩ hK
    have HAP : Hid (apartP M N (f1, f2) = none) := apartL_none i8
    have d6 := i6.cell (i := 0) rfl
    have d7 := i7.cell (i := 0) rfl
    have g6 := i6.free 0
    have g7 := i7.free 0
    have HI1 := Lib.hid i1
    have HI6 := Lib.hid i6
    have HI7 := Lib.hid i7
    have HK := Lib.hid hK
    have HMK : Hid (w.heap.size + 8 ≤ Mk) := by rw [← bsz]; exact hMk
    clear i1 i3 i4 i5 i6 i7 i8 hK hMk keep hRw c0 c1 c2 c3 c4 c5 c6 b1 bsz
    gi_wp2_with fail
    have b3 : Blk ((W.setCell ⟨w.heap.size + 1 + 1 + 1, 0, none⟩ (.slice none 0 0)).setCell ⟨w.heap.size + 1 + 1 + 1 + 1, 0, none⟩ (.bool false)) (w.heap.size + 1 + 1 + 1) #[.slice none 0 0] 25 :=
      (Below.heap_setCell _ _ _ _ (by simp)).trans (one_setCell HI6.out)
    have b4 : Blk ((W.setCell ⟨w.heap.size + 1 + 1 + 1, 0, none⟩ (.slice none 0 0)).setCell ⟨w.heap.size + 1 + 1 + 1 + 1, 0, none⟩ (.bool false)) (w.heap.size + 1 + 1 + 1 + 1) #[.bool false] 4 :=
      one_setCell ((Below.heap_setCell _ _ _ _ (by simp)).trans HI7.out)
    have bK : ((W.setCell ⟨w.heap.size + 1 + 1 + 1, 0, none⟩ (.slice none 0 0)).setCell ⟨w.heap.size + 1 + 1 + 1 + 1, 0, none⟩ (.bool false)).heap[Mk]? = some (.deferred (some [])) :=
      (Below.heap_setCell _ _ _ _ (by have := HMK.out; simp; omega)).trans ((Below.heap_setCell _ _ _ _ (by have := HMK.out; simp; omega)).trans HK.out)
    have bB : Below w.heap.size w ((W.setCell ⟨w.heap.size + 1 + 1 + 1, 0, none⟩ (.slice none 0 0)).setCell ⟨w.heap.size + 1 + 1 + 1 + 1, 0, none⟩ (.bool false)) := (HI1.out.setCell (by simp; omega) _).setCell (by simp; omega) _
    generalize (W.setCell ⟨w.heap.size + 1 + 1 + 1, 0, none⟩ (.slice none 0 0)).setCell ⟨w.heap.size + 1 + 1 + 1 + 1, 0, none⟩ (.bool false) = W' at *
    refine ⟨by simp, .inl ⟨_, _, rfl, run_takeDeferred bK, ?_⟩⟩
    have hp := Kp.putObj W' Mk (.deferred none)
    have k3 := (b3.kp hp (by have := HMK.out; omega)).cell (i := 0) rfl
    have k4 := (b4.kp hp (by have := HMK.out; omega)).cell (i := 0) rfl
    refine ⟨.tuple #[.slice none 0 0, .bool false], by simp [results, Try.results68, go_sem, k3, k4], _, _, rfl, ?_, ?_⟩
    · rw [HAP.out]; exact ⟨rfl, rfl⟩
    · exact bB.trans ((hp.mono fun k _ hk => by have := HMK.out; omega : Kp (fun k => k < w.heap.size) W' _).below bB.size)
  case stop =>
    rintro Mk c pre D W hMk hDM hpre ⟨rfl, i1, i2, i3, a, cp, wd, i6, i7, i8, i9, i10, i11⟩ hK
    have HAP : Hid (apartP M N (f1, f2) = some wd) := by
      obtain ⟨suf, hs⟩ := hpre
      have := i11 suf
      rw [hs] at this
      exact this
    have HI1 := Lib.hid i1
    have HI6 := Lib.hid i6
    have HI7 := Lib.hid i7
    have HI8 := Lib.hid i8
    have HI10 := Lib.hid i10
    have HI9 := Lib.hid (fun (e : (Value.slice a wd.length cp).ownBlock = some Mk) => i9 Mk e hDM)
    have HK := Lib.hid hK
    have HMK : Hid (w.heap.size + 8 ≤ Mk) := by rw [← bsz]; exact hMk
    clear i1 i3 i6 i7 i8 i9 i10 i11 hK hMk keep hRw c0 c1 c2 c3 c4 c5 c6 b1 bsz hpre
    gi_wp2_with fail
    refine ⟨by simp, .inl ⟨_, _, rfl, run_takeDeferred HK.out, ?_⟩⟩
    have hp := Kp.putObj W Mk (.deferred none)
    have k3 := (HI6.out.kp hp (by have := HMK.out; omega)).cell (i := 0) rfl
    have k4 := (HI7.out.kp hp (by have := HMK.out; omega)).cell (i := 0) rfl
    refine ⟨.tuple #[.slice a wd.length cp, .bool true], by simp [results, Try.results68, go_sem, k3, k4], _, _, rfl, ?_, ?_⟩
    · rw [HAP.out]; exact ⟨rfl, Ints.of_own (own_kp HI8.out hp fun k e e' => HI9.out (by rw [← e']; exact e)) (by have := HI10.out; omega)⟩
    · exact HI1.out.trans ((hp.mono fun k _ hk => by have := HMK.out; omega : Kp (fun k => k < w.heap.size) W _).below HI1.out.size)
end Go.Proofs.Ytiiifamggopdoaa
