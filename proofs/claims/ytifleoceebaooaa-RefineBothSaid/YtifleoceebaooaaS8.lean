/-
  Layer 5, pure: the law of what is hidden and of what is left out holds.
-/
import Derived.Test.YtifleoceebaooaaS7
namespace Go.Proofs.Ytifleoceebaooaa
open Go.RowKit

set_option linter.unusedVariables false
set_option linter.unusedSectionVars false
set_option linter.unusedSimpArgs false

theorem okZ_valid {s : Sys} (h : validB s = true) : okZ s := by
  have hv := okS_valid h
  have hhi := hv.hi
  have hlen := hv.len
  refine ⟨by omega, fun z hz => ?_⟩
  have := hv.st z hz
  rw [inK_i64, inK_i64, inK_i64]
  omega

theorem valid2_eq {c a : Sys} (kc : okZ c) (ka : okZ a) : lineallaw05_valid [c, a] = some (validB c && validB a) := by
  have hl := loopB (body := lineallaw05_valid_b1 [c, a]) 2 (fun k => validB ([c, a].getD k (0, []))) (fun k hk => by
    have hz : okZ ([c, a].getD k (0, [])) := by
      match k, hk with
      | 0, _ => exact kc
      | 1, _ => exact ka
    have ki : InK .i64 ((k : Int) + 1) := by rw [inK_i64]; omega
    obtain ⟨s, hs⟩ : ∃ s, [c, a].getD k (0, []) = s := ⟨_, rfl⟩
    rw [hs] at hz
    unfold lineallaw05_valid_b1 lineallaw05_Long
    simp only [Int.toNat_natCast, hs, List.length_cons, List.length_nil]
    rw [if_pos (by rw [decide_eq_true_eq]; omega), ck_pos (by omega), ck_pos (by omega), Option.bind_some]
    by_cases h1 : 100 < (s.2.length : Int)
    · rw [if_pos (by simpa using h1), if_neg]
      intro h
      have := (okS_valid h).len
      omega
    · rw [if_neg (by simpa using h1), refValid_eq s hz, Option.bind_some]
      cases h : validB s
      · simp
      · rw [if_neg (by simp), ck_pos ki, if_pos rfl]) (by
    unfold lineallaw05_valid_b1
    rw [if_neg (by simp)])
  have he : (allB 2 fun k => validB ([c, a].getD k (0, []))) = (validB c && validB a) := by
    rw [Bool.eq_iff_iff, allB_iff, Bool.and_eq_true]
    constructor
    · intro h; exact ⟨h 0 (by omega), h 1 (by omega)⟩
    · intro h k hk
      match k, hk with
      | 0, _ => exact h.1
      | 1, _ => exact h.2
  unfold lineallaw05_valid
  rw [hl, Option.bind_some, he]
  cases (validB c && validB a) <;> rfl

/-! ### One step left out -/

end Go.Proofs.Ytifleoceebaooaa
