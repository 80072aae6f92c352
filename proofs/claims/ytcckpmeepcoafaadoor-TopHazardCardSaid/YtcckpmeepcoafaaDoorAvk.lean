/-
  The abstract machine: a byte of a constant text. No program is named here.
-/
import Derived.Test.YtcckpmeepcoafaaDoorAvj
namespace Go.Proofs.YtcckpmeepcoafaaDoor
open Go.RowKit

set_option linter.constructorNameAsVariable false
set_option linter.unusedVariables false

/-- The value is this text. -/
def byteIs (b : Option UInt8) (k : Nat) : Bool := match b with
  | some b => b.toNat == k
  | none => false
def isText (L : List Nat) : Value → Bool
  | .string s => (List.range L.length).all fun i => byteIs s[i]? (L.getD i 0)
  | _ => false

/-- A byte of a text. -/
def strAt (l : List Nat) (i : Nat) : Int := ((l.getD i 0 : Nat) : Int)

section
variable {P : Program} {T : Tab} {n : Nat} {ro : Option Nat} {Q : Exit → ASt → Prop} {σ : Nat → AVal} {H : AHeap} {g : Gh} {o : Oper} {ops rs : List Oper}

theorem AO.idxStr (hd : dstOK n [o] = true) (hg : o.guard = none) {t : TypeId} {v : Value} {y : Operand} (ho : o.op = .index t (.const v) y) (L : List Nat) (N : Nat) (hN : L.length = N) (hs : isText L v = true)
    (hu : P.underlying t = some .string) {k : IntKind} {q : Int} (hy : (ASt.mk σ H g).ev y = .int k q) (h0 : 0 ≤ q) (h1 : q < (N : Int))
    (h2 : AO P ro n ops rs Q ((ASt.mk σ H g).app o.dst { v := .int .u8 (strAt L q.toNat) })) : AO P ro n ops (o :: rs) Q ⟨σ, H, g⟩ := by
  intro m ds A0 L0 w0 η a w hq0 hr
  unfold wpListIn
  rw [if_pos (op_guard hg _)]
  have hyv := hr.ev y
  rw [hy] at hyv
  unfold RepV at hyv
  unfold isText at hs
  split at hs
  case h_2 => cases hs
  case h_1 s =>
    have h3 := List.all_eq_true.1 hs q.toNat (List.mem_range.2 (by omega))
    unfold byteIs at h3
    cases hb : s[q.toNat]? with
    | none => rw [hb] at h3; cases h3
    | some b =>
      rw [hb] at h3
      simp only [beq_iff_eq] at h3
      refine wpIn_value (w' := w) (by simp [ho]) ?_ (h2 m ds A0 L0 w0 η _ w hq0 (hr.pure (u := .int .u8 (strAt L q.toNat)) (dst_lt hd) (by unfold RepV; rfl)))
      have h4 : a.eval (.const (.string s)) = .string s := rfl
      have h5 : strAt L q.toNat = (b.toNat : Int) := by unfold strAt; rw [h3]
      rw [h5]
      simp [execOp, ho, hyv, h4, Instr.index, asIntOf, run_underlying hu, h0, hb]

end
end Go.Proofs.YtcckpmeepcoafaaDoor
