/-
  The abstract machine, 27: what a slice that is nil does, rows made longer by zeros, a row's beginning; yields under a guard; maps whose keys are arrays. No program is named here.
-/
import Derived.Test.YtcijihofjcfpoabAv26
import Derived.Lib.AppendZeros
import Derived.WideKeyArr2
namespace Go.Proofs.Ytcijihofjcfpoab
open Go.RowKit Go.Maps

set_option linter.constructorNameAsVariable false
set_option linter.unusedVariables false
set_option linter.unusedSimpArgs false

theorem noUnL_append : ∀ (l m : List AVal), noUnL (l ++ m) = (noUnL l && noUnL m)
  | [], m => rfl
  | x :: l, m => by simp [noUnL, noUnL_append l m, Bool.and_assoc]
theorem noUnL_cx : ∀ (t : Ty) (x : El t), noUnL (cellsX t x) = true
  | .int _, _ => rfl
  | .bool, _ => rfl
  | .unit, _ => rfl
  | .pair a b, x => by
    have h1 := noUnL_cx a x.1
    have h2 := noUnL_cx b x.2
    unfold cellsX at *
    simp only [cellsOf, noUnL_append, h1, h2, Bool.and_self]
  | .sl _, _ => rfl

def decEl : (t : Ty) → DecidableEq (El t)
  | .int _ => inferInstanceAs (DecidableEq Int)
  | .bool => inferInstanceAs (DecidableEq Bool)
  | .unit => inferInstanceAs (DecidableEq Unit)
  | .pair a b => have := decEl a; have := decEl b; inferInstanceAs (DecidableEq (El a × El b))
  | .sl t => have := decEl t; inferInstanceAs (DecidableEq (List (El t)))

def decOk : (t : Ty) → (x : El t) → Decidable (okD t x)
  | .int k, n => inferInstanceAs (Decidable (k.min ≤ n ∧ n ≤ k.max))
  | .bool, _ => .isTrue trivial
  | .unit, _ => .isTrue trivial
  | .pair a b, x => have := decOk a x.1; have := decOk b x.2; inferInstanceAs (Decidable (okD a x.1 ∧ okD b x.2))
  | .sl t, _ => .isFalse (fun h => h)
instance (t : Ty) (x : El t) : Decidable (okD t x) := decOk t x

section
variable {P : Program} {T : Tab} {n : Nat} {ds : List Deferred} {A0 L0 : Nat → Prop} {w0 : Old} {η : Nat → Value} {s : ASt} {a : Act} {w : World}
variable {ro : Option Nat} {Q : Exit → ASt → Prop} {σ : Nat → AVal} {H : AHeap} {g : Gh} {o : Oper} {ops rs : List Oper} {t e : TypeId} {i ie : TInfo}

/-- The capacity of nil. -/
theorem AO.capNil (hT : TabOK P T) (hd : dstOK n [o] = true) (hg : o.guard = none) {c : Call} (ho : o.op = .call c) (hc : c.callee = .builtin .cap) {x : Operand} (ha : c.args = #[x]) (hty : c.argTypes = #[t]) (ht : T t = some i) (hi : i.desc = .sl e)
    (hx : (ASt.mk σ H g).ev x = .cv (.slice none 0 0)) (h2 : AO P ro n ops rs Q ((ASt.mk σ H g).app o.dst { v := .int .i64 0 })) : AO P ro n ops (o :: rs) Q ⟨σ, H, g⟩ := by
  intro m ds A0 L0 w0 η a w hq0 hr
  unfold wpListIn
  rw [if_pos (op_guard hg _)]
  have hxv := hr.ev x
  rw [hx] at hxv
  unfold RepV at hxv
  have hu := (hT t i ht).slice hi
  refine wpIn_value (u := .int .i64 0) (w' := w) (by simp [ho]) ?_ (h2 m ds A0 L0 w0 η _ w hq0 (hr.pure (dst_lt hd) (by unfold RepV; rfl)))
  simp [execOp, ho, resolve, hc, ha, hty, invoke, builtin, Builtin.cap_, run_underlying hu, hxv]; rfl

/-- The beginning of nil. -/
theorem AO.sliceNil (hT : TabOK P T) (hd : dstOK n [o] = true) (hg : o.guard = none) {x y : Operand} (ho : o.op = .slice t x none (some y) none) (ht : T t = some i) (hi : i.desc = .sl e) (he : T e = some ie)
    (hx : (ASt.mk σ H g).ev x = .cv (.slice none 0 0)) (hy : (ASt.mk σ H g).ev y = .int .i64 0) (h2 : AO P ro n ops rs Q ((ASt.mk σ H g).app o.dst { v := .cv (.slice none 0 0) })) : AO P ro n ops (o :: rs) Q ⟨σ, H, g⟩ := by
  intro m ds A0 L0 w0 η a w hq0 hr
  unfold wpListIn
  rw [if_pos (op_guard hg _)]
  have hxv := hr.ev x
  have hyv := hr.ev y
  rw [hx] at hxv
  rw [hy] at hyv
  unfold RepV at hxv hyv
  have hrun := run_slice_of (P := P) (w := w) hT ht hi he none 0 0 none (some (.int .i64 (0 : Nat))) 0 0 (by omega) (by omega) (.inl ⟨rfl, rfl⟩) (.inr ⟨.i64, rfl⟩)
  refine wpIn_value (u := .slice none 0 0) (w' := w) (by simp [ho]) ?_ (h2 m ds A0 L0 w0 η _ w hq0 (hr.pure (dst_lt hd) (by unfold RepV; rfl)))
  have : sliced none 0 0 0 ie.size = .slice none 0 0 := by simp [sliced]
  rw [this] at hrun
  have hrun' : (Instr.sliceAt t (.slice none 0 0) none (some (.int .i64 0)) none).run P w = .ok (.slice none 0 0) w := by simpa using hrun
  simp [execOp, ho, hxv, hyv, hrun']

theorem zeros_at {z : Array Value} {sz : Nat} (hz : z.size = sz) (hp : 0 < sz) (k q : Nat) (hq : q < k * sz) : (Builtin.zeroCells z k).toList[q]? = z.toList[q % sz]? := by
  have hm : q % sz < sz := Nat.mod_lt _ hp
  have : (Builtin.zeroCells z k)[q]? = some z[q % sz]! := by
    unfold Builtin.zeroCells
    rw [Array.getElem?_map, Array.getElem?_range]
    simp [hz, hq]
  have h2 : z[q % sz]? = some z[q % sz]! := by simp [hz, hm]
  rw [Array.getElem?_toList, Array.getElem?_toList, this, h2]

theorem flat_rep {α β : Type} (x : α) (f : α → List β) (l : List β) (hf : f x = l) : ∀ (k q : Nat), q < k * l.length → ((List.replicate k x).flatMap f)[q]? = l[q % l.length]?
  | 0, q, h => by simp at h
  | k + 1, q, h => by
    rw [List.replicate_succ, List.flatMap_cons, hf]
    by_cases hq : q < l.length
    · rw [List.getElem?_append_left hq, Nat.mod_eq_of_lt hq]
    · have h' : q < k * l.length + l.length := by rw [Nat.add_mul] at h; omega
      rw [List.getElem?_append_right (by omega), flat_rep x f l hf k (q - l.length) (by omega)]
      rw [Nat.mod_eq_sub_mod (a := q) (by omega)]

theorem repl_rep {A : Nat → Prop} (τ : Ty) : ∀ (k : Nat), RepVs η w A ((List.replicate k τ.dflt).flatMap (cellsOf τ)) ((List.replicate k ()).flatMap fun _ => zcells τ)
  | 0 => RepVs.nil
  | k + 1 => by
    rw [List.replicate_succ, List.flatMap_cons, List.replicate_succ, List.flatMap_cons]
    exact (zcells_rep τ).append (repl_rep τ k)

/-- A row of zeros behind nil. -/
theorem AO.appendZeros (hT : TabOK P T) (hd : dstOK n [o] = true) (hfew : o.dst.getD 0 < 1000) (hg : o.guard = none) {c : Call} (ho : o.op = .call c) (hc : c.callee = .builtin .append) {x y : Operand} (ha : c.args = #[x, y]) {tn : TypeId} {iN : TInfo} {kn : IntKind} (hty : c.argTypes = #[t, tn])
    (ht : T t = some i) (hi : i.desc = .sl e) (he : T e = some ie) {τ : Ty} (hdt : ie.dt = some τ) (htn : T tn = some iN) (hin : iN.desc = .int kn)
    (hx : (ASt.mk σ H g).ev x = .cv (.slice none 0 0)) {k : IntKind} {z : Int} (hy : (ASt.mk σ H g).ev y = .int k z) (hz0 : 0 < z) (hz1 : z ≤ 9223372036854775807) (hz2 : (ie.bytes : Int) * z ≤ 281474976710656)
    (h2 : AO P ro n ops rs Q ((ASt.mk σ H g).app o.dst { v := .own (o.dst.getD 0), kill := [o.dst.getD 0], hp := [(o.dst.getD 0, .arr e τ (List.replicate z.toNat τ.dflt))] })) : AO P ro n ops (o :: rs) Q ⟨σ, H, g⟩ := by
  intro m ds A0 L0 w0 η a w hq0 hr
  unfold wpListIn
  rw [if_pos (op_guard hg _)]
  have hxv := hr.ev x
  have hyv := hr.ev y
  rw [hx] at hxv
  rw [hy] at hyv
  unfold RepV at hxv hyv
  have hu := (hT t i ht).slice hi
  have hun := (hT tn iN htn).int hin
  have hte := hT e ie he
  obtain ⟨info, zv, dd, hinf, hsz, hby, hz, hzz, _⟩ := hte.ex
  obtain ⟨d1, d2, d3⟩ := hte.dt τ hdt
  obtain ⟨N, rfl⟩ : ∃ N : Nat, z = N := ⟨z.toNat, by omega⟩
  have hzs : zv.cells.size = τ.size := by
    have := hte.zsize
    rw [← hzz] at this
    rw [d1]; simpa using this
  have hb1 : ((N * ie.bytes : Nat) : Int) ≤ 281474976710656 := by rw [Int.natCast_mul, Int.mul_comm]; exact hz2
  have hbb : N * info.bytes ≤ 281474976710656 := by rw [hby]; omega
  have hrun := Lib.run_append_nil_zeros (P := P) w t tn o.type e info zv k kn hu hun hinf hz N (by omega) (by rw [hsz, ← d1]; exact d3) hz1 hbb
  have hge := grownCap_ge w N 0 e
  have hle := grownCap_le_maxLen w N 0 e (by simp [maxLen]; omega)
  have hzc : zv.cells.toList = zcells τ := by rw [hzz, d2]
  have hrel := hr.newArr (dst_lt hd) (nid := o.dst.getD 0) hfew (e := e) (τ := τ) (xs := List.replicate N τ.dflt) (ids := []) (cur := Builtin.zeroCells zv.cells N ++ Builtin.zeroCells zv.cells (grownCap w N 0 e - N)) (cap := grownCap w N 0 e)
    (w' := w.drew.alloc (.cells (Builtin.zeroCells zv.cells N ++ Builtin.zeroCells zv.cells (grownCap w N 0 e - N)) e)) (kl := [o.dst.getD 0]) (by simp) (by simp) ⟨rfl, rfl, rfl⟩ rfl (by simpa using hge) hle
    (by simp only [Array.size_append, zeroCells_size hzs, ← Nat.add_mul]; congr 1; omega)
    (fun A' k' _ => by
      intro j u hj
      have := arr_of_cells (w := w.drew.alloc (.cells (Builtin.zeroCells zv.cells N ++ Builtin.zeroCells zv.cells (grownCap w N 0 e - N)) e)) (A := A') (η := η) (g := w.heap.size) (List.replicate N τ.dflt) 0 _ (fun q v hq => by
        rw [Nat.zero_add]
        refine cells_alloc (wr := w.drew) ?_
        have hlen : (zcells τ).length = τ.size := by rw [← hzc]; simpa using hzs
        have hq' : q < N * τ.size := by
          have hl := (List.getElem?_eq_some_iff.1 hq).1
          have : ((List.replicate N ()).flatMap fun _ => zcells τ).length = N * τ.size := by simp [hlen]
          omega
        rw [zeros_at hzs d3 N q hq', hzc, ← hlen]
        rw [flat_rep () (fun _ => zcells τ) (zcells τ) rfl N q (by rw [hlen]; exact hq')] at hq
        exact hq) (repl_rep τ N) j u hj
      rwa [Nat.zero_add] at this)
  rw [List.length_replicate] at hrel
  refine wpIn_value (by simp [ho]) ?_ (h2 m ds A0 L0 w0 _ _ _ hq0 hrel)
  simp [execOp, ho, resolve, hc, ha, hty, invoke, builtin, hxv, hyv, hrun]

/-- The beginning of a row of one's own, as a row of one's own. -/
theorem AO.sliceOwn (hT : TabOK P T) (hd : dstOK n [o] = true) (hfew : o.dst.getD 0 < 1000) (hg : o.guard = none) {x y : Operand} (ho : o.op = .slice t x none (some y) none) (ht : T t = some i) (hi : i.desc = .sl e) (he : T e = some ie)
    {b : Nat} (hx : (ASt.mk σ H g).ev x = .own b) {e' : TypeId} {τ : Ty} {xs : List (El τ)} (hb : H b = some (.arr e' τ xs)) (hsz : τ.size = ie.size) {k : IntKind} {z : Int} (hy : (ASt.mk σ H g).ev y = .int k z) (hz0 : 0 ≤ z) (hz1 : z ≤ (xs.length : Int))
    (h2 : AO P ro n ops rs Q ((ASt.mk σ H g).app o.dst { v := .own (o.dst.getD 0), kill := [b, o.dst.getD 0], hp := [(o.dst.getD 0, .arr e' τ (xs.take z.toNat))] })) : AO P ro n ops (o :: rs) Q ⟨σ, H, g⟩ := by
  intro m ds A0 L0 w0 η a w hq0 hr
  unfold wpListIn
  rw [if_pos (op_guard hg _)]
  have hxv := hr.ev x
  have hyv := hr.ev y
  rw [hx] at hxv
  rw [hy] at hyv
  unfold RepV at hxv hyv
  obtain ⟨N, rfl⟩ : ∃ N : Nat, z = N := ⟨z.toNat, by omega⟩
  have hN : N ≤ xs.length := by omega
  have hblk0 := hr.hp.blk b _ (show (ASt.mk σ H g).H b = _ from hb)
  obtain ⟨nid, hnid⟩ : ∃ nid, nid = o.dst.getD 0 := ⟨_, rfl⟩
  rw [← hnid] at h2 hfew
  -- what the slice is
  have key : ∃ u, (Instr.sliceAt t (η b) none (some (.int k (N : Int))) none).run P w = .ok u w ∧ Go.Proofs.Ytcijihofjcfpoab.hblk u = Go.Proofs.Ytcijihofjcfpoab.hblk (η b) ∧ ∀ A', Keeps (Av A0 η H) A' w w → ∀ η', RelBlk η' w A' (.arr e' τ (xs.take N)) u := by
    rcases hblk0 with ⟨e1, e2⟩ | ⟨gg, cap, cur, e1, e2, e3, e4, e5, e6⟩
    · subst e1
      have : N = 0 := by simpa using hN
      subst this
      have hrun := run_slice_of (P := P) (w := w) hT ht hi he none 0 0 none (some (.int k (0 : Nat))) 0 0 (by omega) (by omega) (.inl ⟨rfl, rfl⟩) (.inr ⟨k, rfl⟩)
      refine ⟨.slice none 0 0, ?_, by rw [e2], fun A' _ η' => .inl ⟨by simp, rfl⟩⟩
      rw [e2, hrun]; simp [sliced]
    · have hrun := run_slice_of (P := P) (w := w) hT ht hi he (some ⟨gg, 0, none⟩) xs.length cap none (some (.int k (N : Nat))) 0 N (by omega) (by omega) (.inl ⟨rfl, rfl⟩) (.inr ⟨k, rfl⟩)
      refine ⟨.slice (some ⟨gg, 0, none⟩) N cap, ?_, by rw [e1]; simp [hblk], fun A' hk η' => .inr ⟨gg, cap, cur, by simp [Nat.min_eq_left hN], e2, by simp; omega, e4, e5, fun q v hq => ?_⟩⟩
      · rw [e1, hrun]; simp [sliced, add_off]
      · rw [List.getElem?_take] at hq
        split at hq
        · exact RepAt.step hk τ v gg _ rfl (e6 q v hq)
        · cases hq
  obtain ⟨u, hrun, hbu, hrel⟩ := key
  refine wpIn_value (u := u) (w' := w) (by simp [ho]) (by simp [execOp, ho, hxv, hyv, hrun]) ?_
  refine h2 m ds A0 L0 w0 (setη η nid u) _ w hq0 ?_
  have hη : ∀ b', [b, nid].contains b' = false → setη η nid u b' = η b' := fun b' hb' => setη_other _ _ (fun e => by subst e; simp at hb')
  refine hr.eff (nid := nid) (dst_lt hd) hη ⟨rfl, rfl, rfl⟩ (Nat.le_refl _) (fun g _ => .inl rfl) ?_ ?_ ?_ hfew (fun b' _ hs => by
    by_cases e : b' = nid
    · exact e
    · simp only [hpGet, e, if_false] at hs; cases hs) (fun b' hb' hs => by simp only [hpGet, hb', if_false] at hs; cases hs)
  · intro b' B g' hb' hm hg'
    simp only [hpGet] at hb'
    split at hb'
    · rename_i e9
      subst e9
      rw [setη_same] at hg'
      refine .inl ⟨b, _, hb, rfl, ?_, .inr ⟨rfl, by simp⟩⟩
      rw [← hbu]; exact hg'
    · cases hb'
  · intro k' b' B hb'
    simp only [hpGet] at hb'
    split at hb'
    · rename_i e9
      subst e9
      injection hb' with hb'
      subst hb'
      rw [setη_same]
      exact hrel _ k' _
    · cases hb'
  · intro k'; unfold RepV; exact (setη_same _ _ _).symm

/-- A guard that is known. -/
theorem wanted_of {j tt : Nat} {want : Bool} (hg : o.guard = some (j, want)) (hj : (ops[j]?).bind (·.dst) = some tt) (hσ : s.σ tt = .bool want) (hr : Rel n ds A0 L0 w0 η s a w) : Region.wanted o (yielded ops.toArray a.tmps) = true := by
  have ht := hr.tmp tt
  rw [hσ] at ht
  unfold RepV at ht
  have hj' : (ops.toArray[j]?).bind (·.dst) = some tt := by simpa using hj
  have hy : yielded ops.toArray a.tmps j = some want := by
    have hget : a.tmps[tt]? = some (.bool want) := by
      rw [Array.getD_eq_getD_getElem?] at ht
      cases hc : a.tmps[tt]? with
      | none => rw [hc] at ht; simp [undef] at ht
      | some v => rw [hc] at ht; simp at ht; rw [ht]
    unfold yielded
    rw [hj', Option.bind_some, hget]
  simp [Region.wanted, hg, hy]

end

/-! ### Yields under a guard -/
section
variable {S R Y : Type} {P : Program} {n : Nat} {ro : Option Nat} {Q : Exit → ASt → Prop} {σ : Nat → AVal} {H : AHeap} {o : Oper} {ops rs : List Oper} {c : Call} {f : Operand} {enc : Y → List AVal} {body : Y → S → Option (Step S R)} {Γ : S → Gh} {Γx : R → Gh} {lp : Nat}

theorem yield_opG {j tt : Nat} {want : Bool} (hg : o.guard = some (j, want)) (hj : (ops[j]?).bind (·.dst) = some tt) (st : S) (hσ : (ASt.mk σ H (Γ st)).σ tt = .bool want) (ho : o.op = .call c) (hc : c.callee = .value f) (hd : dstOK n [o] = true) (hf : (ASt.mk σ H (Γ st)).ev f = .fn (.yield lp) [] []) (hY : YieldOK P lp enc body Γ Γx) (hΓ : ∀ st, (Γ st).yl = true) (hΓx : ∀ r, (Γx r).yl = true)
    (y : Y) (D : List Nat) (hle : LeL H D [] (look []) (c.args.toList.map (ASt.mk σ H (Γ st)).ev) (enc y)) {x : Step S R} (hx : body y st = some x)
    (h2 : match (generalizing := false) x with
      | .next st' => AO P ro n ops rs Q (((ASt.mk σ H (Γ st')).app none { v := .un, hp := rest H D }).app o.dst { v := .bool true })
      | .done r => AO P ro n ops rs Q (((ASt.mk σ H (Γx r)).app none { v := .un, hp := rest H D }).app o.dst { v := .bool false })) : AO P ro n ops (o :: rs) Q ⟨σ, H, Γ st⟩ := by
  intro m ds A0 L0 w0 η a w hq0 hr
  have h0 : AO P ro n ops ({ o with guard := none } :: rs) Q ⟨σ, H, Γ st⟩ := yield_op (o := { o with guard := none }) ho hc rfl (by unfold dstOK at hd ⊢; simpa using hd) st hf hY hΓ hΓx y D hle hx h2
  have := h0 m ds A0 L0 w0 η a w hq0 hr
  unfold wpListIn at this ⊢
  rw [if_pos (wanted_of hg hj hσ hr)]
  rw [if_pos (op_guard rfl _)] at this
  exact this
end

/-! ### Maps whose keys are arrays of numbers -/

theorem vals_prodT (q : IntKind) : ∀ (n : Nat) (x : El (prodT n (.int q))), ((prodT n (.int q)).vals x).length = n ∧ ∀ (i : Nat) (v : Value), ((prodT n (.int q)).vals x)[i]? = some v → ∃ z : Int, v = Value.int q z ∧ (okD (prodT n (.int q)) x → InK q z)
  | 0, x => ⟨rfl, fun i v h => by simp [prodT, Ty.vals] at h⟩
  | 1, x => ⟨rfl, fun i v h => by
    have : [Value.int q x][i]? = some v := h
    cases i with
    | zero => simp at this; exact ⟨_, this.symm, fun h => h⟩
    | succ i => simp at this⟩
  | n + 2, x => by
    have ih := vals_prodT q (n + 1) x.2
    refine ⟨?_, fun i v h => ?_⟩
    · show ([Value.int q x.1] ++ (prodT (n + 1) (.int q)).vals x.2).length = n + 2
      simp [ih.1]
    · have h' : ([Value.int q x.1] ++ (prodT (n + 1) (.int q)).vals x.2)[i]? = some v := h
      cases i with
      | zero => simp at h'; exact ⟨_, h'.symm, fun hk => hk.1⟩
      | succ i =>
        rw [List.getElem?_append_right (by simp)] at h'
        obtain ⟨z, e, hz⟩ := ih.2 _ v h'
        exact ⟨z, e, fun hk => hz hk.2⟩

theorem mapM_lits {P : Program} {e : TypeId} {q : IntKind} (he : P.underlying e = some (.int q)) {D : Nat} {cs : List Value} : ∀ (L : List Nat), (∀ i ∈ L, ∃ z, cs[i]? = some (.int q z) ∧ (Lit.int q z).wf = true) →
    ∃ ls : List (List Lit), L.mapM (fun i => P.keyLits (D + 1) e ((cs.drop (i * 1)).take 1)) = some ls
  | [], _ => ⟨[], rfl⟩
  | i :: L, h => by
    obtain ⟨ls, hl⟩ := mapM_lits he L fun j hj => h j (by simp [hj])
    obtain ⟨z, hz, wz⟩ := h i (by simp)
    have : (cs.drop (i * 1)).take 1 = [.int q z] := by
      rw [Nat.mul_one]
      apply List.ext_getElem?
      intro j
      cases j with
      | zero => simp [hz]
      | succ j => rw [List.getElem?_take, if_neg (by omega)]; simp
    refine ⟨[.int q z] :: ls, ?_⟩
    rw [List.mapM_cons, hl, this]
    simp [Program.keyLits, he, wz]

theorem mapty_arr {P : Program} {t k e el : TypeId} {q : IntKind} {N : Nat} {ae : Bool} {kt vt : Ty} (hkt : kt = prodT N (.int q)) (ht : P.underlying t = some (.map k e)) (A : WideMaps.ArrKey P k el N) (he : P.underlying el = some (.int q)) (hsz : ∃ m, P.types.size = m + 1) (zero : ∀ w, (zeroValue e).run P w = .ok (pv ae (vt.vals vt.dflt)) w)
    (kdry : kt.dry = true) (vdry : vt.dry = true) (vsz : ae = true ∨ vt.size = 1) : MapTy P t k e true ae kt vt := by
  refine ⟨ht, Keyed.of_law A.law, fun x hx => ?_, zero, kdry, vdry, .inl rfl, vsz⟩
  subst hkt
  obtain ⟨hl, hv⟩ := vals_prodT q N x
  have hkt := A.keyType hsz
  obtain ⟨m, hm⟩ := hsz
  unfold keyOf
  simp only [A.hu]
  have hcell : (pv true ((prodT N (.int q)).vals x)).cells.toList = (prodT N (.int q)).vals x := by simp [pv, Value.cells]
  rw [if_pos (by simp [hkt, Value.formed, A.hu, A.size, pv, hl]), hm, hcell]
  unfold Program.keyLits
  simp only [A.hu]
  rw [if_pos (by rw [A.size, hl]), A.one]
  obtain ⟨ls, hls⟩ := mapM_lits (P := P) he (D := m) (cs := (prodT N (.int q)).vals x) (List.range N) (fun i hi => by
    have hlt : i < ((prodT N (.int q)).vals x).length := by rw [hl]; exact List.mem_range.1 hi
    obtain ⟨z, e1, e2⟩ := hv i _ (List.getElem?_eq_getElem hlt)
    exact ⟨z, by rw [List.getElem?_eq_getElem hlt, e1], inK_wf (e2 hx)⟩)
  rw [hls]
  exact ⟨_, rfl⟩

attribute [go_sem high] idsL_cx hasL_cx renL_cx cell_cx toEl_cx clean_cx LeL_cx noUnL_cx dryL_cx
attribute [go_sem] cellsX_len

end Go.Proofs.Ytcijihofjcfpoab
