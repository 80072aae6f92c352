/-
  The abstract machine, 28: arrays and structs of numbers held against each other. No program is named here.
-/
import Derived.Test.YtcijihofjcfpoabAv27
import Derived.Laws.StructEq
import Derived.DeepKeys3
namespace Go.Proofs.Ytcijihofjcfpoab
open Go.RowKit Go.WideShapes

set_option linter.constructorNameAsVariable false
set_option linter.unusedVariables false
set_option linter.unusedSimpArgs false

/-- What is asked of a type of data that are held against each other. -/
structure EqTy (P : Program) (t : TypeId) (τ : Ty) : Prop where
  key : ∀ x : El τ, okD τ x → ∃ l, keyOf P t (.agg (τ.vals x).toArray) = some l
  at' : ∃ m, m ≤ 10000 ∧ P.keyTypeAt m t = true
  tiled : ∃ m, P.tiled m t = true
  wide : (match P.underlying t with | some (.array _ _) | some (.struct _) => true | _ => false) = true
  guard : P.eqGuardType P.depth t = false
  dry : τ.dry = true

section
variable {P : Program} {T : Tab} {n : Nat} {ro : Option Nat} {Q : Exit → ASt → Prop} {σ : Nat → AVal} {H : AHeap} {g : Gh} {o : Oper} {ops rs : List Oper} {t : TypeId} {τ : Ty}

theorem run_eq_data (E : EqTy P t τ) [DecidableEq (El τ)] {x y : El τ} (hx : okD τ x) (hy : okD τ y) (w : World) : (Op.equal t (.agg (τ.vals x).toArray) (.agg (τ.vals y).toArray)).run P w = .ok (decide (x = y)) w := by
  obtain ⟨lx, h1⟩ := E.key x hx
  obtain ⟨ly, h2⟩ := E.key y hy
  obtain ⟨m, hm, hk⟩ := E.at'
  obtain ⟨m', ht⟩ := E.tiled
  obtain ⟨r, hr, hiff⟩ := run_equal_deep w hm hk E.wide h1 h2
  rw [hr]
  congr 1
  have : r = true ↔ x = y := by
    rw [hiff]
    constructor
    · intro e
      subst e
      have := keyOf_inj_deep ht E.wide h1 h2
      injection this with this
      have := congrArg Array.toList this
      exact vals_inj τ x y E.dry (by simpa using this)
    · intro e
      subst e
      rw [h1] at h2
      injection h2
  rw [Bool.eq_iff_iff, this]; simp

theorem eqty_arr {el : TypeId} {q : IntKind} {N : Nat} (hkt : τ = prodT N (.int q)) (A : WideMaps.ArrKey P t el N) (he : P.underlying el = some (.int q)) (hsz : ∃ m, P.types.size = m + 1) (hg : P.eqGuardType P.depth t = false) (hd : τ.dry = true) : EqTy P t τ := by
  refine ⟨fun x hx => ?_, ⟨2, by omega, A.at 0⟩, ⟨2, A.tiled⟩, A.wide, hg, hd⟩
  have M : MapTy P t t el true false τ (.int q) → ∃ l, keyOf P t (.agg (τ.vals x).toArray) = some l := fun M => by
    have := M.key x hx
    simpa [pv] using this
  subst hkt
  obtain ⟨hl, hv⟩ := vals_prodT q N x
  have hkt := A.keyType hsz
  obtain ⟨m, hm⟩ := hsz
  unfold keyOf
  simp only [A.hu]
  have hcell : (Value.agg ((prodT N (.int q)).vals x).toArray).cells.toList = (prodT N (.int q)).vals x := by simp [Value.cells]
  rw [if_pos (by simp [hkt, Value.formed, A.hu, A.size, hl]), hm, hcell]
  unfold Program.keyLits
  simp only [A.hu]
  rw [if_pos (by rw [A.size, hl]), A.one]
  obtain ⟨ls, hls⟩ := mapM_lits (P := P) he (D := m) (cs := (prodT N (.int q)).vals x) (List.range N) (fun i hi => by
    have hlt : i < ((prodT N (.int q)).vals x).length := by rw [hl]; exact List.mem_range.1 hi
    obtain ⟨z, e1, e2⟩ := hv i _ (List.getElem?_eq_getElem hlt)
    exact ⟨z, by rw [List.getElem?_eq_getElem hlt, e1], inK_wf (e2 hx)⟩)
  rw [hls]
  exact ⟨_, rfl⟩

/-- Data held against each other. -/
theorem AO.aggEq (E : EqTy P t τ) [DecidableEq (El τ)] (hd : dstOK n [o] = true) (hg : o.guard = none) {x y : Operand} {z : Nat} {neg : Bool} (ho : o.op = .binOp (if neg then .neq else .eql) t x y z) {lx ly : List AVal} (hx : (ASt.mk σ H g).ev x = .agg lx) (hy : (ASt.mk σ H g).ev y = .agg ly)
    {u v : El τ} (hu : toEl H τ lx = some (u, [])) (hv : toEl H τ ly = some (v, [])) (ku : okD τ u) (kv : okD τ v)
    (h2 : AO P ro n ops rs Q ((ASt.mk σ H g).app o.dst { v := .bool (if neg then !decide (u = v) else decide (u = v)) })) : AO P ro n ops (o :: rs) Q ⟨σ, H, g⟩ := by
  intro m ds A0 L0 w0 η a w hq0 hr
  unfold wpListIn
  rw [if_pos (op_guard hg _)]
  have hxv := hr.ev x
  have hyv := hr.ev y
  rw [hx] at hxv
  rw [hy] at hyv
  have e1 := unpack_pv (ag := true) E.dry (.inl rfl) (show unpackA true (.agg lx) lx from ⟨rfl, rfl⟩) hu hxv
  have e2 := unpack_pv (ag := true) E.dry (.inl rfl) (show unpackA true (.agg ly) ly from ⟨rfl, rfl⟩) hv hyv
  have heq := run_eq_data E ku kv w
  simp only [pv, if_true] at e1 e2
  cases neg with
  | false =>
    refine wpIn_value (u := .bool (decide (u = v))) (w' := w) (by simp [ho]) ?_ (h2 m ds A0 L0 w0 η _ w hq0 (hr.pure (dst_lt hd) (by unfold RepV; rfl)))
    simp [execOp, ho, e1, e2, eqGuard, E.guard, binOp, heq]
  | true =>
    refine wpIn_value (u := .bool (!decide (u = v))) (w' := w) (by simp [ho]) ?_ (h2 m ds A0 L0 w0 η _ w hq0 (hr.pure (dst_lt hd) (by unfold RepV; rfl)))
    simp [execOp, ho, e1, e2, eqGuard, E.guard, binOp, heq]

end
end Go.Proofs.Ytcijihofjcfpoab
