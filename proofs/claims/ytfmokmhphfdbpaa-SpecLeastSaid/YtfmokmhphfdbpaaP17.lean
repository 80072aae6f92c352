/-
  Layer 1, pure: the law about the least machine.
-/
import Derived.Test.YtfmokmhphfdbpaaP16
namespace Go.Proofs.Ytfmokmhphfdbpaa
open Go.RowKit

set_option linter.unusedVariables false
set_option linter.unusedSectionVars false
set_option linter.unusedSimpArgs false

attribute [local irreducible] kL leastF waysL sameB kp clsL
theorem least_st (s : Tup) : (leastT s).1 = ((kp s).length : Int) := by unfold leastT; rfl
theorem least_op (s : Tup) : (leastT s).2.1 = s.2.1 := by unfold leastT; rfl
attribute [local irreducible] leastT unlikeOf

theorem eqv_false {a b : Bool} (h : a = b) : ((a == b) != true) = false := by subst h; cases a <;> rfl

set_option maxHeartbeats 1000000 in
/-- The law holds. -/
theorem SpecLeast_eq (s : Tup) (hs : okS s) (t : Tup) (ht : okS t) : lineallaw01_SpecLeast s t = some true := by
  unfold lineallaw01_SpecLeast
  rw [Long_eq s hs, Long_eq t ht, Awake_eq, refValid_eq s hs, refValid_eq t ht]
  cases wideB s.2.2.1 || wideB s.2.2.2
  rotate_left
  · simp
  cases wideB t.2.2.1 || wideB t.2.2.2
  rotate_left
  · simp
  cases hv : (toSp s).ok
  · simp
  cases hw : (toSp t).ok
  · simp
  have hm := leastT_ok hv
  have hk := leastT_ok hw
  have hl := kp_len hv
  have e1 : decide ((unlikeOf s (leastT s)).2 = 5) = true := by rw [decide_eq_true_eq]; exact (unlike_code hv hm).2.1.2 (least_alike hv)
  obtain ⟨u1, u2, u3, u4, _⟩ := unlike_code hv hw
  have e2 : decide ((unlikeOf s t).2 = 5) = decide (leastT s = leastT t) := by
    rw [decide_eq_decide, u2, leastT_iff hv hw]
  obtain ⟨ys, r1, r2⟩ := Reached_eq (leastT s) (ok_small hm) hm
  have r3 : (ys.length : Int) = (leastT s).1 := by
    rw [r2.length_eq, List.length_map]; exact least_reached hv
  have c1 := cls_len hm
  have hloop : whileO (lineallaw01_SpecLeast_b1 (clsL (leastT s), 0)) 0 = some (.inr ()) := by
    have hcl := least_clsL hv
    have hlen : (clsL (leastT s)).length = (kp s).length := by rw [hcl]; simp
    refine whileO_seq (body := lineallaw01_SpecLeast_b1 (clsL (leastT s), 0)) (fun k => ((k : Nat) : Int)) (kp s).length (fun k hk => ?_) ?_
    · have hg : (clsL (leastT s)).getD k 0 = (k : Int) := getD_of (by rw [hcl]; simp [hk])
      have h8 : s.1 ≤ 8 := (Sp.okE hv).2.1
      unfold lineallaw01_SpecLeast_b1
      simp only [Int.toNat_natCast, hg]
      rw [if_pos (by rw [decide_eq_true_eq]; omega), ck_pos (by omega), ck_pos (by omega), if_neg (by simp), ck_pos (by rw [inK_i64]; omega)]
      rfl
    · unfold lineallaw01_SpecLeast_b1
      simp only
      rw [if_neg (by rw [decide_eq_true_eq]; omega)]
  simp only [Option.bind_some, Bool.false_eq_true, if_false, Bool.not_true, Least_eq hv, Least_eq hw]
  simp only [show (((leastT s).1, (leastT s).2.1, (leastT s).2.2.1, (leastT s).2.2.2) : Tup) = leastT s from rfl, show (((leastT t).1, (leastT t).2.1, (leastT t).2.2.1, (leastT t).2.2.2) : Tup) = leastT t from rfl, Option.bind_some, Least_eq hm, least_twice hv, Alike_eq hv hm, Alike_eq hv hw, decide_true, Bool.not_true, Bool.false_eq_true, if_false, refValid_eq _ (ok_small hm), hm, Equal_eq _ _ (ok_small hm), e1, e2, bne_self_eq_false, BEq.rfl, Classes_eq _ (ok_small hm), if_true, r1, c1, r3, hloop]
  have h1 : ¬ s.1 < (leastT s).1 := by rw [least_st]; omega
  simp only [h1, decide_false, Bool.false_eq_true, if_false]
  unfold lineallaw01_SpecLeast_k1
  rw [Unlike_eq hv hw, Option.bind_some, Awake_eq]
  by_cases ho : s.2.1 = t.2.1
  · by_cases ha : alikeP s t
    · have h5 := u2.2 ha
      have hq := (leastT_iff hv hw).2 ha
      rw [if_neg (by simp [ho])]
      simp [h5, u3 h5, hq]
    · obtain ⟨w1, w2, w3, w4, w5⟩ := unlike_word hv hw ho ha
      have hq : ¬ leastT s = leastT t := fun h => ha ((leastT_iff hv hw).1 h)
      rw [if_neg (by simp [ho]), if_neg (by simp [hq]), Run_zero hv w2, Run_zero hw w3, Option.bind_some, Option.bind_some]
      simp only [w1, decide_true, if_true]
      rw [SameInts_eq _ _ (by rw [ans_len]; exact len_ok (by omega)), Option.bind_some]
      simp [w5]
  · have h2 := u4 ho
    have hq : ¬ leastT s = leastT t := fun h => ho ((leastT_iff hv hw).1 h).1
    rw [if_pos (by simp [ho])]
    simp [h2, hq]
end Go.Proofs.Ytfmokmhphfdbpaa
