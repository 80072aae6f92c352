/-
  Layer 5, pure: the law of what is hidden and of what is left out holds.
-/
import Derived.Test.YtljonmpcehlpaaaS7
namespace Go.Proofs.Ytljonmpcehlpaaa
open Go.RowKit

set_option linter.unusedVariables false
set_option linter.unusedSectionVars false
set_option linter.unusedSimpArgs false

theorem okZ_valid {s : Sys} (h : validB s = true) : okZ s := by
  have hv := okS_valid h
  have hhi := hv.hi
  have hlen := hv.len
  refine ⟨by omega, fun z hz => ?_⟩
  have := hv.st z hz
  rw [inK_i64, inK_i64, inK_i64]
  omega

theorem Same_eq {s : Sys} (h : validB s = true) : linealref05_Same s s = some true := by
  have hz := okZ_valid h
  have hlen := (okS_valid h).len
  have hl := loopB (body := linealref05_Same_b1 s s) s.2.length (fun _ => true) (fun k hk => by
    have hm : s.2[k]? = some (s.2.getD k (0, 0, 0)) := by rw [List.getD_eq_getElem?_getD, List.getElem?_eq_getElem hk]; rfl
    have hi := hz.inK _ (List.mem_of_getElem? hm)
    have ki : InK .i64 ((k : Int) + 1) := by rw [inK_i64]; omega
    unfold linealref05_Same_b1
    simp only [Int.toNat_natCast]
    rw [if_pos (by rw [decide_eq_true_eq]; omega), ck_pos (by omega), ck_pos (by omega), ck_pos (by omega), ck_pos (by omega), ck_pos hi.1, ck_pos hi.2.1, ck_pos hi.2.2, ck_pos hi.1, ck_pos hi.2.1, ck_pos hi.2.2, if_neg (by simp), ck_pos ki, if_pos trivial]) (by
    unfold linealref05_Same_b1
    rw [if_neg (by rw [decide_eq_true_eq]; omega)])
  unfold linealref05_Same
  rw [if_neg (by simp), if_neg (by simp), hl, Option.bind_some, if_pos (allB_iff.2 fun _ _ => rfl)]
  rfl

/-! ### One step left out -/

end Go.Proofs.Ytljonmpcehlpaaa
