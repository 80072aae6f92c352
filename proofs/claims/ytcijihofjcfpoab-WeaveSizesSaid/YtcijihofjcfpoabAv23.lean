/-
  The abstract machine, 23: a slice held against nil. No program is named here.
-/
import Derived.Test.YtcijihofjcfpoabAv22
import Derived.WalkSpells
namespace Go.Proofs.Ytcijihofjcfpoab
open Go.RowKit

set_option linter.constructorNameAsVariable false
set_option linter.unusedVariables false

section
variable {P : Program} {T : Tab} {n : Nat} {ro : Option Nat} {Q : Exit → ASt → Prop} {σ : Nat → AVal} {H : AHeap} {g : Gh} {o : Oper} {ops rs : List Oper}

/-- Slices held against nil: an empty one may be nil. -/
theorem AO.nilEq (hT : TabOK P T) (hd : dstOK n [o] = true) (hg : o.guard = none) {t e : TypeId} {i : TInfo} {x y : Operand} {z : Nat} {neg : Bool} (ho : o.op = .binOp (if neg then .neq else .eql) t x y z) (ht : T t = some i) (hi : i.desc = .sl e)
    {τ : Ty} {xs : List (El τ)} (hx : (ASt.mk σ H g).ev x = .sl τ xs) (hy : (ASt.mk σ H g).ev y = .cv (.slice none 0 0))
    (h1 : xs = [] → AO P ro n ops rs Q ((ASt.mk σ H g).app o.dst { v := .bool (!neg) })) (h2 : AO P ro n ops rs Q ((ASt.mk σ H g).app o.dst { v := .bool neg })) : AO P ro n ops (o :: rs) Q ⟨σ, H, g⟩ := by
  intro m ds A0 L0 w0 η a w hq0 hr
  unfold wpListIn
  have hwant : Region.wanted o (yielded ops.toArray a.tmps) = true := by simp [Region.wanted, hg]
  rw [if_pos hwant]
  have hdo : ∀ i, o.dst = some i → i < n := fun i hi => by
    unfold dstOK at hd
    simp only [List.all_cons, List.all_nil, Bool.and_true] at hd
    rw [hi] at hd; simpa using hd
  have hxv := hr.ev x
  have hyv := hr.ev y
  rw [hx] at hxv
  rw [hy] at hyv
  unfold RepV at hxv hyv
  obtain ⟨ad, c, hxv, hb⟩ := hxv
  have hu := (hT t i ht).slice hi
  cases neg with
  | false =>
    refine wpIn_value (u := .bool ad.isNone) (w' := w) (by simp [ho]) ?_ ?_
    · have := Lib.run_eql_slice_nil (P := P) w t e ad xs.length c 0 0 hu
      simp [execOp, ho, hxv, hyv, eqGuard, this]
    · cases ad with
      | none =>
        have hnil : xs = [] := by
          cases xs with
          | nil => rfl
          | cons z zs => obtain ⟨b, o', e1, _⟩ := hb.2.2 (by simp); cases e1
        exact h1 hnil m ds A0 L0 w0 η _ w hq0 (hr.pure hdo (by unfold RepV; rfl))
      | some ad => exact h2 m ds A0 L0 w0 η _ w hq0 (hr.pure hdo (by unfold RepV; rfl))
  | true =>
    refine wpIn_value (u := .bool (!ad.isNone)) (w' := w) (by simp [ho]) ?_ ?_
    · have := run_neq_slice_nil_any (P := P) w t e ad xs.length c 0 0 hu
      simp [execOp, ho, hxv, hyv, eqGuard, this]
    · cases ad with
      | none =>
        have hnil : xs = [] := by
          cases xs with
          | nil => rfl
          | cons z zs => obtain ⟨b, o', e1, _⟩ := hb.2.2 (by simp); cases e1
        exact h1 hnil m ds A0 L0 w0 η _ w hq0 (hr.pure hdo (by unfold RepV; rfl))
      | some ad => exact h2 m ds A0 L0 w0 η _ w hq0 (hr.pure hdo (by unfold RepV; rfl))

end
end Go.Proofs.Ytcijihofjcfpoab
