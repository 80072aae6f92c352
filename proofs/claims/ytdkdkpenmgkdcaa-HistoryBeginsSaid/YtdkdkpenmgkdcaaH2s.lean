/-
  Layer 2, pure: histories held against each other.
-/
import Derived.Test.YtdkdkpenmgkdcaaH2a
namespace Go.Proofs.Ytdkdkpenmgkdcaa
open Go.RowKit

set_option linter.unusedVariables false
set_option linter.unusedSimpArgs false
set_option maxRecDepth 10000

theorem Same_self (x : List HC6) (hx : ∀ c ∈ x, okC c = true) (hl : x.length ≤ 1000) : linealref02_Same x x = some true := by
  unfold linealref02_Same
  rw [if_neg (by simp), loopB (body := linealref02_Same_b1 x x) x.length (fun _ => true) (fun k hk => ?_) (by unfold linealref02_Same_b1; rw [if_neg (by simp)]), Option.bind_some]
  · have : allB x.length (fun _ => true) = true := allB_iff.2 fun _ _ => rfl
    rw [this]; rfl
  · have hxk : x[k]? = some x[k] := List.getElem?_eq_getElem hk
    obtain ⟨i1, i2, i3, i4, i5, i6⟩ := okC_ink (hx _ (List.mem_of_getElem? hxk))
    unfold linealref02_Same_b1
    simp only [Int.toNat_natCast, getD_of hxk]
    rw [if_pos (by simpa using hk)]
    iterate 2 rw [ck_pos (by simp), ck_pos (by omega)]
    rw [ck_pos i1, ck_pos i2, ck_pos i3, ck_pos i4, ck_pos i5, ck_pos i6, ck_pos i1, ck_pos i2, ck_pos i3, ck_pos i4, ck_pos i5, ck_pos i6, if_neg (by simp), ck_pos (inK_small (by omega))]
    rfl

end Go.Proofs.Ytdkdkpenmgkdcaa
