/-
  Layer 2, pure: several specifications, for the reference.
-/
import Derived.Test.YtlfpagicagmjgaaH4s
import Derived.Test.YtlfpagicagmjgaaHsr
import Derived.Test.YtlfpagicagmjgaaH1r
namespace Go.Proofs.Ytlfpagicagmjgaa
open Go.RowKit

set_option linter.unusedVariables false
set_option linter.unusedSimpArgs false
set_option maxRecDepth 10000

theorem areSpecs_eq (specs : List Tup) (hs : ∀ s ∈ specs, okS s) (hl : specs.length ≤ 1000) : linealref02_areSpecs specs = some (okSs specs) := by
  unfold linealref02_areSpecs okSs
  rw [loopB (body := linealref02_areSpecs_b1 specs) specs.length (fun k => (toSp (specs.getD k (0, 0, [], []))).ok) (fun k hk => ?_) (by unfold linealref02_areSpecs_b1; rw [if_neg (by simp)]), Option.bind_some]
  · cases allB specs.length (fun k => (toSp (specs.getD k (0, 0, [], []))).ok) with
    | false => simp
    | true =>
      simp only [if_true, Bool.and_true]
      unfold linealref02_areSpecs_k1
      rw [rwithin_eq]; rfl
  · unfold linealref02_areSpecs_b1
    rw [if_pos (by simpa using hk), ck_pos (by simp), ck_pos (by omega), Int.toNat_natCast, refValid_eq _ (hs _ (getD_memT hk)), Option.bind_some]
    cases (toSp (specs.getD k (0, 0, [], []))).ok with
    | false => rfl
    | true => simp only [Bool.not_true, Bool.false_eq_true, if_false, if_true]; rw [ck_pos (inK_small (by omega))]

end Go.Proofs.Ytlfpagicagmjgaa
