/-
  The abstract machine: what is done with rows of rows of the call's own. No program is named here.
-/
import Derived.Test.YtcckpmeepcoafaaDoorAve
namespace Go.Proofs.YtcckpmeepcoafaaDoor
open Go.RowKit

set_option linter.constructorNameAsVariable false
set_option linter.unusedSimpArgs false
set_option linter.unusedVariables false

section
variable {P : Program} {T : Tab} {n : Nat} {ro : Option Nat} {Q : Exit → ASt → Prop} {σ : Nat → AVal} {H : AHeap} {g : Gh} {o : Oper} {ops rs : List Oper} {t e : TypeId} {i ie : TInfo}

theorem obx_handle {n : Nat} {ds : List Deferred} {A0 L0 : Nat → Prop} {w0 : Old} {η : Nat → Value} {s : ASt} {a : Act} {w : World} (hr : Rel n ds A0 L0 w0 η s a w) {b : Nat} {e' : TypeId} {cs : List AVal} (hb : s.H b = some (.obx e' cs)) : ∃ ad c, η b = .slice ad cs.length c := by
  rcases hr.hp.blk b _ hb with ⟨e1, e2⟩ | ⟨gg, cap, vs, e1, _⟩
  · exact ⟨none, 0, by rw [e1, e2]; rfl⟩
  · exact ⟨_, _, e1⟩

/-- How many rows. -/
theorem AO.rowsLen (hT : TabOK P T) (hd : dstOK n [o] = true) (hg : o.guard = none) {c : Call} (ho : o.op = .call c) (hc : c.callee = .builtin .len) {x : Operand} (ha : c.args = #[x]) (hty : c.argTypes = #[t]) (ht : T t = some i) (hi : i.desc = .sl e)
    {b : Nat} (hx : (ASt.mk σ H g).ev x = .own b) {e' : TypeId} {cs : List AVal} (hb : H b = some (.obx e' cs)) (h2 : AO P ro n ops rs Q ((ASt.mk σ H g).app o.dst { v := .int .i64 cs.length })) : AO P ro n ops (o :: rs) Q ⟨σ, H, g⟩ := by
  intro m ds A0 L0 w0 η a w hq0 hr
  unfold wpListIn
  rw [if_pos (op_guard hg _)]
  have hxv := hr.ev x
  rw [hx] at hxv
  unfold RepV at hxv
  obtain ⟨ad, cc, e1⟩ := obx_handle hr (show (ASt.mk σ H g).H b = _ from hb)
  have hu := (hT t i ht).slice hi
  refine wpIn_value (u := .int .i64 cs.length) (w' := w) (by simp [ho]) ?_ (h2 m ds A0 L0 w0 η _ w hq0 (hr.pure (dst_lt hd) (by unfold RepV; rfl)))
  simp [execOp, ho, resolve, hc, ha, hty, invoke, builtin, Builtin.len_, run_underlying hu, hxv, e1]; rfl

/-- The place of a row. -/
theorem AO.rowsAddr (hT : TabOK P T) (hd : dstOK n [o] = true) (hg : o.guard = none) {x ix : Operand} (ho : o.op = .indexAddr t x ix) (ht : T t = some i) (hi : i.desc = .sl e) (he : T e = some ie) (hsz : ie.size = 1)
    {b : Nat} (hx : (ASt.mk σ H g).ev x = .own b) {e' : TypeId} {cs : List AVal} (hb : H b = some (.obx e' cs)) {k : IntKind} {q : Int} (hix : (ASt.mk σ H g).ev ix = .int k q) (h0 : 0 ≤ q) (h1 : q < (cs.length : Int))
    (h2 : AO P ro n ops rs Q ((ASt.mk σ H g).app o.dst { v := .ap b 1 q.toNat 0 })) : AO P ro n ops (o :: rs) Q ⟨σ, H, g⟩ := by
  intro m ds A0 L0 w0 η a w hq0 hr
  unfold wpListIn
  rw [if_pos (op_guard hg _)]
  have hxv := hr.ev x
  have hiv := hr.ev ix
  rw [hx] at hxv
  rw [hix] at hiv
  unfold RepV at hxv hiv
  rcases hr.hp.blk b _ (show (ASt.mk σ H g).H b = _ from hb) with ⟨e1, _⟩ | ⟨gg, cap, vs, e1, _⟩
  · rw [e1] at h1; simp at h1; omega
  have hrun := run_indexAt_sl hT ht hi he gg 0 cs.length cap k q h0 h1 w
  rw [hsz, Nat.mul_one, Nat.zero_add] at hrun
  refine wpIn_value (u := .pointer (some ⟨gg, q.toNat, none⟩)) (w' := w) (by simp [ho]) ?_ (h2 m ds A0 L0 w0 η _ w hq0 (hr.pure (dst_lt hd) ?_))
  · simp only [execOp, ho, hxv, hiv, e1]; simp [hrun]
  · unfold RepV; exact ⟨gg, cs.length, cap, e1, by simp⟩

/-- A row, looked up. -/
theorem AO.rowsLoad (hT : TabOK P T) (hd : dstOK n [o] = true) (hg : o.guard = none) {x : Operand} (ho : o.op = .load t x) (ht : T t = some i) (hsz : i.size = 1) (hag : i.desc.agg = false)
    {b j : Nat} (hx : (ASt.mk σ H g).ev x = .ap b 1 j 0) {e' : TypeId} {cs : List AVal} (hb : H b = some (.obx e' cs)) {y : AVal} (hy : cs[j]? = some y)
    (h2 : AO P ro n ops rs Q ((ASt.mk σ H g).app o.dst { v := y })) : AO P ro n ops (o :: rs) Q ⟨σ, H, g⟩ := by
  intro m ds A0 L0 w0 η a w hq0 hr
  unfold wpListIn
  rw [if_pos (op_guard hg _)]
  have hxv := hr.ev x
  rw [hx] at hxv
  unfold RepV at hxv
  obtain ⟨gg, n', c', hη, hxv⟩ := hxv
  rcases hr.hp.blk b _ (show (ASt.mk σ H g).H b = _ from hb) with ⟨e1, _⟩ | ⟨gg', cap, vs, e1, e2, e3, e4, e5, e6⟩
  · rw [e1] at hy; cases hy
  rw [hη] at e1
  injection e1 with e1 _ _
  injection e1 with e1
  injection e1 with e1
  subst e1
  obtain ⟨v, hv, hrep⟩ := RepVs.get e6 hy
  have hjl : j < cs.length := (List.getElem?_eq_some_iff.1 hy).1
  have hv' : vs[j]? = some v := by
    rw [List.getElem?_take_of_lt hjl] at hv
    simpa using hv
  have hcell : w.cell? ⟨gg, j, none⟩ = some v := by simp [World.cell?, e2, hv']
  have hrun := run_loadAt_rep (P := P) (hT t i ht) (w := w) (g := gg) (o := j) (vs := [v]) (by rw [hsz]; rfl) (.inr hsz) (fun p u hp => by
    cases p with
    | zero => simp at hp; subst hp; exact hcell
    | succ p => simp at hp)
  have hp : packV i.desc [v] = v := by unfold packV; rw [hag]; rfl
  rw [hp] at hrun
  have hxv' : a.eval x = .pointer (some ⟨gg, j, none⟩) := by rw [hxv]; simp
  refine wpIn_value (u := v) (w' := w) (by simp [ho]) ?_ (h2 m ds A0 L0 w0 η _ w hq0 (hr.pure (dst_lt hd) hrep))
  simp only [execOp, ho, hxv']; simp [hrun]

end
end Go.Proofs.YtcckpmeepcoafaaDoor
