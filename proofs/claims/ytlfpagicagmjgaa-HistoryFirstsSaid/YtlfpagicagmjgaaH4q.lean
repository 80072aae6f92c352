/-
  Layer 2, pure: For, for the reference.
-/
import Derived.Test.YtlfpagicagmjgaaH4s
import Derived.Test.YtlfpagicagmjgaaH2r
import Derived.Test.YtlfpagicagmjgaaH4r
namespace Go.Proofs.Ytlfpagicagmjgaa
open Go.RowKit

set_option linter.unusedVariables false
set_option linter.unusedSimpArgs false
set_option maxRecDepth 10000

theorem isFor_eq (specs : List Tup) (hs : ∀ s ∈ specs, okS s) (hl : specs.length ≤ 1000) (h : List HC6) : linealref02_isFor specs h = some (okSs specs && okH h && fitsB specs h) := by
  unfold linealref02_isFor
  rw [areSpecs_eq specs hs hl, Option.bind_some, rHValid_eq, Option.bind_some]
  cases okSs specs with
  | false => rfl
  | true =>
    cases hok : okH h with
    | false => rfl
    | true =>
      have hl8 := okH_len hok
      simp only [Bool.not_true, Bool.false_eq_true, if_false, Bool.true_and]
      unfold fitsB
      rw [loopB (body := linealref02_isFor_b1 specs h) h.length (fun k => fitC specs (h.getD k (0, 0, 0, 0, 0, 0))) (fun k hk => ?_) (by unfold linealref02_isFor_b1; rw [if_neg (by simp)]), Option.bind_some]
      · cases allB h.length (fun k => fitC specs (h.getD k (0, 0, 0, 0, 0, 0))) <;> rfl
      · have hc := okC_from (okH_getD hok hk)
        obtain ⟨c, hcd⟩ : ∃ c, c = h.getD k (0, 0, 0, 0, 0, 0) := ⟨_, rfl⟩
        unfold linealref02_isFor_b1 fitC
        rw [if_pos (by simpa using hk), ck_pos (by simp), ck_pos (by omega), Int.toNat_natCast]
        rw [← hcd] at hc ⊢
        by_cases h1 : c.2.1 < (specs.length : Int)
        · rw [if_neg (by rw [decide_eq_true_eq]; omega), ck_pos (by simp), ck_pos (by omega), ck_pos (by simp), ck_pos (by omega), ck_pos (by omega), ck_pos h1, decide_eq_true h1]
          by_cases h2 : c.2.2.1 < (specs.getD c.2.1.toNat (0, 0, [], [])).2.1
          · rw [if_neg (by rw [decide_eq_true_eq]; omega), ck_pos (inK_small (by omega)), decide_eq_true h2]; rfl
          · rw [if_pos (by rw [decide_eq_true_eq]; omega), decide_eq_false h2]; rfl
        · rw [if_pos (by rw [decide_eq_true_eq]; omega), decide_eq_false h1]; rfl

theorem rFor_eq (specs : List Tup) (hs : ∀ s ∈ specs, okS s) (hl : specs.length ≤ 1000) (h : List HC6) : linealref02_For specs h = some (if okSs specs = true then (okH h && fitsB specs h, 0) else (false, 10)) := by
  unfold linealref02_For
  rw [areSpecs_eq specs hs hl, Option.bind_some, isFor_eq specs hs hl h, Option.bind_some]
  cases okSs specs <;> simp

end Go.Proofs.Ytlfpagicagmjgaa
