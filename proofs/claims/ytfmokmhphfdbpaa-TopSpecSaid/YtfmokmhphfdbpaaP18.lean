/-
  Layer 1, pure: the law through the layer: words tell states apart, and the least machine is the least.
-/
import Derived.Test.YtfmokmhphfdbpaaP16
namespace Go.Proofs.Ytfmokmhphfdbpaa
open Go.RowKit

set_option linter.unusedVariables false
set_option linter.unusedSectionVars false
set_option linter.unusedSimpArgs false

attribute [local irreducible] kL leastF waysL sameB kp clsL
theorem least_op' (s : Tup) : (leastT s).2.1 = s.2.1 := by unfold leastT; rfl
attribute [local irreducible] leastT unlikeOf

theorem eqv_false' {a b : Bool} (h : a = b) : ((a == b) != true) = false := by subst h; cases a <;> rfl

section
variable {s : Tup} (hv : (toSp s).ok = true)
include hv

/-- Two states: whether they are the same, a word, whether it tells them apart. -/
theorem top_pair {a b : Nat} (ha : inR s.1 (a : Int) = true) (hb : inR s.1 (b : Int) = true) : ∃ w c, spec_Word s a b = some (w, c) ∧ spec_Tells s a b w = some (!sameB s a b, 0) ∧ decide (c = 5) = sameB s a b := by
  have hs := ok_small hv
  have hwd : wordOf (toSp s) a b = (match apartP (toSp s) (toSp s) ((a : Int), (b : Int)) with | some w => (w, 0) | none => ([], 5)) := by
    unfold wordOf
    rw [if_pos hv, if_pos (show inR (toSp s).st a = true ∧ inR (toSp s).st b = true from ⟨ha, hb⟩)]
    cases apartP (toSp s) (toSp s) ((a : Int), (b : Int)) <;> rfl
  rw [Word_eq s hs, hwd]
  cases hap : apartP (toSp s) (toSp s) ((a : Int), (b : Int)) with
  | none =>
    have hsame : sameB s a b = true := by unfold sameB; rw [hap]; rfl
    have hn : wordB s [] = true := wordB_of (by simp) fun x hx => by simp at hx
    refine ⟨[], 5, rfl, ?_, by rw [hsame]; rfl⟩
    rw [Tells_eq s hs _ _ [] (len_ok (by simp)), tells_in hv ha hb hn, hsame]
    rfl
  | some w =>
    have hsame : sameB s a b = false := by unfold sameB; rw [hap]; rfl
    obtain ⟨o1, o2, o3, o4⟩ := apart_some hv hv rfl (f := ((a : Int), (b : Int))) ⟨ha, hb⟩ hap
    obtain ⟨v, v1, v2, v3⟩ := short_diff hv ha hb o1 o3
    have o5 : (w.length : Int) ≤ s.1 - 1 := by
      have := o4 v v1 v2
      have e : (toSp s).st = s.1 := rfl
      omega
    have h2 : s.1 ≤ 8 := (Sp.okE hv).2.1
    have hw : wordB s w = true := wordB_of (by omega) o1
    refine ⟨w, 0, rfl, ?_, by rw [hsame]; rfl⟩
    have o3' : ¬ ans (toSp s) a w = ans (toSp s) b w := o3
    rw [Tells_eq s hs _ _ w (len_ok (by omega)), tells_in hv ha hb hw, hsame]
    simp [o3']

theorem top_b2 {a b : Nat} (ha : inR s.1 (a : Int) = true) (hb : b < a) : linealtop_TopSpec_b2 s (clsL s, 0) a b = some (.next ((b : Int) + 1)) := by
  have hb' : inR s.1 (b : Int) = true := inR_le (n := 0) ha (by omega)
  obtain ⟨w, c, h1, h2, h3⟩ := top_pair hv ha hb'
  have hc := cls_len hv
  have ka := cls_at ha
  have kb := cls_at hb'
  have hcs := cls_same hv ha hb'
  have ha2 := ha
  have h8 : s.1 ≤ 8 := (Sp.okE hv).2.1
  simp only [inR, decide_eq_true_eq] at ha2
  unfold linealtop_TopSpec_b2
  rw [if_pos (by rw [decide_eq_true_eq]; omega), Same_eq s (ok_small hv), h1, Option.bind_some, Option.bind_some, h2, Option.bind_some]
  simp only [hv, ha, hb', if_true, and_self, decide_true, Bool.not_true, Bool.false_eq_true, if_false]
  rw [ck_pos (by omega), ck_pos (by omega), ck_pos (by omega), ck_pos (by omega), ka, kb, hcs, eqv_false' rfl, if_neg (by simp), ← hcs, h3, eqv_false' rfl, if_neg (by simp), ck_pos (by rw [inK_i64]; omega)]
  cases sameB s a b <;> rfl

theorem top_loop : whileO (linealtop_TopSpec_b1 s (clsL s, 0)) 0 = some (.inr ()) := by
  have hc := cls_len hv
  have h1 : 1 ≤ s.1 := (Sp.okE hv).1
  have h8 : s.1 ≤ 8 := (Sp.okE hv).2.1
  refine whileO_seq (body := linealtop_TopSpec_b1 s (clsL s, 0)) (fun k => ((k : Nat) : Int)) s.1.toNat (fun k hk => ?_) ?_
  · have hin : inR s.1 (k : Int) = true := by simp only [inR, decide_eq_true_eq]; omega
    have hl : whileO (linealtop_TopSpec_b2 s (clsL s, 0) k) 0 = some (.inr ()) := by
      refine whileO_seq (body := linealtop_TopSpec_b2 s (clsL s, 0) k) (fun j => ((j : Nat) : Int)) k (fun j hj => ?_) ?_
      · exact top_b2 hv hin hj
      · unfold linealtop_TopSpec_b2
        rw [if_neg (by simp)]
    unfold linealtop_TopSpec_b1
    simp only
    rw [if_pos (by rw [decide_eq_true_eq]; omega), hl, Option.bind_some]
    unfold linealtop_TopSpec_k2
    simp only
    rw [ck_pos (by rw [inK_i64]; omega)]
    rfl
  · unfold linealtop_TopSpec_b1
    simp only
    rw [if_neg (by rw [decide_eq_true_eq]; omega)]

theorem wordB_least {w : List Int} : wordB (leastT s) w = wordB s w := by
  unfold wordB
  rw [least_op']

end

set_option maxHeartbeats 1000000 in
/-- The law holds. -/
theorem TopSpec_eq (s : Tup) (hs : okS s) (t : Tup) (ht : okS t) (word : List Int) (hlen : word.length ≤ maxLen) : linealtop_TopSpec s t word = some true := by
  unfold linealtop_TopSpec
  rw [Long_eq s hs, Long_eq t ht, Awake_eq, refValid_eq s hs, refValid_eq t ht, IsWord_eq s word hlen]
  cases wideB s.2.2.1 || wideB s.2.2.2
  rotate_left
  · simp
  cases wideB t.2.2.1 || wideB t.2.2.2
  rotate_left
  · simp
  cases hv : (toSp s).ok
  · simp
  cases hw : (toSp t).ok
  · simp
  cases hwd : wordB s word
  · simp
  have hm := leastT_ok hv
  have hk := leastT_ok hw
  obtain ⟨u1, u2, u3, u4, _⟩ := unlike_code hv hw
  have e2 : decide ((unlikeOf s t).2 = 5) = decide (leastT s = leastT t) := by
    rw [decide_eq_decide, u2, leastT_iff hv hw]
  have c1 := cls_len hv
  have hwm : wordB (leastT s) word = true := by rw [wordB_least hv]; exact hwd
  have ha1 := (least_alike hv).2 word (wordB_all hwd).2
  simp only [Option.bind_some, Bool.false_eq_true, if_false, Bool.not_true, Least_eq hv, Least_eq hw, Classes_eq s hs, hv, if_true, decide_true, c1]
  simp only [show (((leastT s).1, (leastT s).2.1, (leastT s).2.2.1, (leastT s).2.2.2) : Tup) = leastT s from rfl, Option.bind_some, refValid_eq _ (ok_small hm), hm, Bool.not_true, Bool.false_eq_true, if_false, top_loop hv]
  unfold linealtop_TopSpec_k1
  simp only [show (((leastT s).1, (leastT s).2.1, (leastT s).2.2.1, (leastT s).2.2.2) : Tup) = leastT s from rfl, show (((leastT t).1, (leastT t).2.1, (leastT t).2.2.1, (leastT t).2.2.2) : Tup) = leastT t from rfl, Run_zero hv hwd, Run_zero hm hwm, Option.bind_some, Alike_eq hv hw, decide_true, Bool.not_true, Bool.false_eq_true, if_false, e2, Equal_eq _ _ (ok_small hm)]
  have hd : decide (ans (toSp s) 0 word = ans (toSp (leastT s)) 0 word) = true := decide_eq_true ha1
  clear ha1
  have hsi := SameInts_eq (ans (toSp s) 0 word) (ans (toSp (leastT s)) 0 word) (by rw [ans_len]; exact hlen)
  rw [hd] at hsi
  simp only [hsi, Option.bind_some, Bool.not_true, Bool.false_eq_true, if_false]
  clear hsi hd
  simp only [decide_true, Bool.not_true, Bool.false_eq_true, if_false, bne_self_eq_false, BEq.rfl, Unlike_eq hv hw, Option.bind_some, Awake_eq]
  by_cases ho : s.2.1 = t.2.1
  · by_cases ha : alikeP s t
    · have h5 := u2.2 ha
      have hq := (leastT_iff hv hw).2 ha
      simp [h5, hq]
    · obtain ⟨w1, w2, w3, w4, w5⟩ := unlike_word hv hw ho ha
      have hq : ¬ leastT s = leastT t := fun h => ha ((leastT_iff hv hw).1 h)
      have m1 : wordB (leastT s) (unlikeOf s t).1 = true := by rw [wordB_least hv]; exact w2
      have m2 : wordB (leastT t) (unlikeOf s t).1 = true := by rw [wordB_least hw]; exact w3
      have a1 := (least_alike hv).2 _ (wordB_all w2).2
      have a2 := (least_alike hw).2 _ (wordB_all w3).2
      simp only [w1, decide_true, Bool.not_true, Bool.false_eq_true, if_false, Run_zero hm m1, Run_zero hk m2, Option.bind_some, hq, decide_false, Bool.not_false, if_true]
      have hd2 : decide (ans (toSp (leastT s)) 0 (unlikeOf s t).1 = ans (toSp (leastT t)) 0 (unlikeOf s t).1) = false := by
        rw [decide_eq_false_iff_not]
        exact fun h => w5 (a1.trans (h.trans a2.symm))
      have hs2 := SameInts_eq (ans (toSp (leastT s)) 0 (unlikeOf s t).1) (ans (toSp (leastT t)) 0 (unlikeOf s t).1) (by rw [ans_len]; exact len_ok (by omega))
      rw [hd2] at hs2
      simp only [hs2, Option.bind_some]
      rfl
  · have h2 := u4 ho
    have hq : ¬ leastT s = leastT t := fun h => ho ((leastT_iff hv hw).1 h).1
    simp [h2, hq, ho]
end Go.Proofs.Ytfmokmhphfdbpaa
