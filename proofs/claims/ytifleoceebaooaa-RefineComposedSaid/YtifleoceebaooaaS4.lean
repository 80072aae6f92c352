/-
  Layer 5, pure: which systems are valid, where labels lead, which lists are traces: of the program and of the reference.
-/
import Derived.Test.YtifleoceebaooaaS3
namespace Go.Proofs.Ytifleoceebaooaa
open Go.RowKit

set_option linter.unusedVariables false
set_option linter.unusedSectionVars false
set_option linter.unusedSimpArgs false

/-! ### Valid -/

structure okZ (s : Sys) : Prop where
  few : s.2.length ≤ 17592186044416
  inK : ∀ z ∈ s.2, InK .i64 z.1 ∧ InK .i64 z.2.1 ∧ InK .i64 z.2.2

/-! ### Where labels lead -/

section
variable {s : Sys} (hv : OkS s)
include hv

def begM (s : Sys) : Nat := quM s 1
def behM (s : Sys) (tr : List Int) : Nat := tr.foldl (fun m l => coM s m l) (begM s)

/-! ### The program -/

theorem states_eq {m : Nat} (hm : m < 64) : refine_set_states (m : Int) = some ((bitsL m).map fun (i : Nat) => (i : Int)) := by
  obtain ⟨r, e1, h⟩ := scan2 (R := List Int) (List.range 6) (fun k (out : List Int) => out = ((List.range k).filter m.testBit).map fun (i : Nat) => (i : Int)) (fun r => r = (bitsL m).map fun (i : Nat) => (i : Int)) (body := refine_set_states_b1 (m : Int)) (s0 := []) rfl
    (fun k z out hk hI => by
      have hlt := (List.getElem?_eq_some_iff.1 hk).1
      rw [List.length_range] at hlt
      have hol : out.length ≤ 6 := by
        rw [hI, List.length_map]
        have := List.length_filter_le m.testBit (List.range k)
        rw [List.length_range] at this
        omega
      have ki : InK .i64 ((k : Int) + 1) := by rw [inK_i64]; omega
      refine .inl ?_
      unfold refine_set_states_b1
      simp only
      rw [if_pos (by rw [decide_eq_true_eq]; omega), has_eq _ _ (by omega), Option.bind_some, bit_u8 hm (by omega) (by omega), Int.toNat_natCast, List.range_succ, List.filter_append, List.map_append, ← hI]
      by_cases hb : m.testBit k = true
      · rw [if_pos hb, ck_pos (by omega), ck_pos ki]
        exact ⟨_, rfl, by simp [hb]⟩
      · rw [if_neg hb, ck_pos ki]
        exact ⟨_, rfl, by simp [hb]⟩)
    (fun out hI => by
      refine ⟨out, ?_, hI⟩
      unfold refine_set_states_b1
      rw [if_neg (by simp)])
  unfold refine_set_states
  rw [e1, Option.bind_some, h]
  rfl

end
end Go.Proofs.Ytifleoceebaooaa
