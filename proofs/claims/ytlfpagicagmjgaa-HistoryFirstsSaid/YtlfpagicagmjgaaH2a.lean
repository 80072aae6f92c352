/-
  Layer 2, pure: what the laws ask first.
-/
import Derived.Test.YtlfpagicagmjgaaH1
import Derived.Test.YtlfpagicagmjgaaHtw
namespace Go.Proofs.Ytlfpagicagmjgaa
open Go.RowKit

set_option linter.unusedVariables false
set_option linter.unusedSimpArgs false
set_option maxRecDepth 10000

theorem Sane_eq : lineallaw02_Sane = some true := lineallaw02_Sane_run

theorem Long_eq2 (h : List HC6) : lineallaw02_Long h = some () := rfl

theorem filter_take {α : Type} (p : α → Bool) {xs : List α} {k : Nat} {x : α} (hk : xs[k]? = some x) : (xs.take (k + 1)).filter p = (xs.take k).filter p ++ (if p x = true then [x] else []) := by
  rw [take_one hk, List.filter_append]
  congr 1
  cases h : p x <;> simp [List.filter_cons, h]

theorem okH_len {h : List HC6} (hok : okH h = true) : h.length ≤ 8 := by
  unfold okH at hok; simp only [Bool.and_eq_true, decide_eq_true_eq] at hok; exact hok.1

theorem okH_at {h : List HC6} (hok : okH h = true) {k : Nat} (hk : k < h.length) : okAt h k = true := by
  unfold okH at hok; simp only [Bool.and_eq_true] at hok; exact allB_iff.1 hok.2 k hk

end Go.Proofs.Ytlfpagicagmjgaa
