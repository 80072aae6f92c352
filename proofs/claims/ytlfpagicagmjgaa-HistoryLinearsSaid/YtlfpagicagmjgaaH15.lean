/-
  Layer 2, pure: the reference's allows; the calls of a path are an order that keeps time and is allowed.
-/
import Derived.Test.YtlfpagicagmjgaaH14
import Derived.Test.YtlfpagicagmjgaaH6t
import Derived.Test.YtlfpagicagmjgaaH11
namespace Go.Proofs.Ytlfpagicagmjgaa
open Go.RowKit

set_option linter.unusedVariables false
set_option linter.unusedSimpArgs false
set_option maxRecDepth 10000

theorem rallows_eq {specs : List Tup} (hs : okSs specs = true) {h : List HC6} (hc : ∀ i, i < h.length → canC specs (hAt h i) = true) {l : List Int} (hl : l.length ≤ 1000) (hin : ∀ x ∈ l, 0 ≤ x ∧ x < (h.length : Int)) : linealref02_allows specs h l = some (alwL specs h (0, 0) l) := by
  have hl2 := okSs_len hs
  obtain ⟨r, er, hr⟩ := scan2 (R := Sum Unit Unit) l (fun k (tb : List Int) => ∃ s, okP2 specs s ∧ tabI specs tb s ∧ alwL specs h (0, 0) l = alwL specs h s (l.drop k)) (fun r => r = if alwL specs h (0, 0) l = true then .inr () else .inl ()) (body := linealref02_allows_b1 specs h l) (s0 := List.replicate specs.length (0 : Int)) ⟨(0, 0), okP2_zero hs, ⟨by simp, fun i h0 h1 => by
      have e : stOf (0, 0) i = 0 := by unfold stOf; split <;> rfl
      rw [e, List.getD_eq_getElem?_getD, List.getElem?_replicate]; split <;> rfl⟩, rfl⟩ (fun k x tb hk ⟨s, hp, ht, hI⟩ => by
    obtain ⟨hlt, hin1⟩ := few_in (few_of hl) hk
    have hx := hin x (List.mem_of_getElem? hk)
    rw [alwL_drop specs h hk] at hI
    have hcx := hc x.toNat (by omega)
    obtain ⟨c, hcd⟩ : ∃ c, c = hAt h x.toNat := ⟨_, rfl⟩
    rw [← hcd] at hI hcx
    have hcd' : h.getD x.toNat (0, 0, 0, 0, 0, 0) = c := hcd.symm
    obtain ⟨_, ho, hop⟩ := canC_parts hcx
    have hsp := ok_parts (okSs_at hs ho)
    have hq := hp c.2.1 ho.1 ho.2
    obtain ⟨n1, n2, n3⟩ := tab_at hsp.2.2.2.2.1 hq hop
    obtain ⟨a1, a2, a3⟩ := tab_at hsp.2.2.2.2.2 hq hop
    have htt := ht.2 c.2.1 ho.1 ho.2
    have htl := ht.1
    have hsx : spAt specs c.2.1 = specs.getD c.2.1.toNat (0, 0, [], []) := rfl
    rw [hsx] at n1 n2 a1 a2 hq hop
    have hk2 : linealref02_allows_k2 specs h l (tb, (k : Int)) = some (.next (tb.set c.2.1.toNat (nexS (spAt specs c.2.1) (stOf s c.2.1) c.2.2.1), (k : Int) + 1)) := by
      unfold linealref02_allows_k2
      simp only [Int.toNat_natCast, getD_of hk, hcd', htt]
      rw [ck_pos ho.1, ck_pos (by rw [htl]; exact ho.2), ck_pos hq.1, ck_pos (by rw [n1]; exact hq.2), ck_pos hop.1, ck_pos (by rw [n2]; exact hop.2), ck_pos ho.1, ck_pos (by rw [htl]; exact ho.2), ck_pos hin1]
      rfl
    have go : alwB specs s c = true → ∃ s', okP2 specs s' ∧ tabI specs (tb.set c.2.1.toNat (nexS (spAt specs c.2.1) (stOf s c.2.1) c.2.2.1)) s' ∧ alwL specs h (0, 0) l = alwL specs h s' (l.drop (k + 1)) := fun ha => by
      rw [ha, Bool.true_and] at hI
      exact ⟨goOf specs s c, okP2_to hs hcx hp, tabI_to hs ht ho, hI⟩
    unfold linealref02_allows_b1
    simp only [Int.toNat_natCast, getD_of hk, hcd', htt]
    rw [if_pos (by simpa using hlt), ck_pos (by omega), ck_pos (by omega), ck_pos hx.1, ck_pos hx.2, ck_pos ho.1, ck_pos ho.2]
    by_cases h0 : c.2.2.2.2.2 = 0
    · rw [if_neg (by rw [decide_eq_true h0]; simp), hk2]
      exact .inl ⟨_, rfl, go (by unfold alwB; rw [decide_eq_true h0]; rfl)⟩
    · rw [if_pos (by rw [decide_eq_false h0]; rfl), ck_pos ho.1, ck_pos (by rw [htl]; exact ho.2), ck_pos hq.1, ck_pos (by rw [a1]; exact hq.2), ck_pos hop.1, ck_pos (by rw [a2]; exact hop.2)]
      have hsay : (((specs.getD c.2.1.toNat (0, 0, [], [])).2.2.2.getD (stOf s c.2.1).toNat []).getD c.2.2.1.toNat 0) = sayOf specs s c := rfl
      rw [hsay]
      by_cases h1 : sayOf specs s c = c.2.2.2.1
      · rw [if_neg (by rw [decide_eq_true h1]; simp), hk2]
        exact .inl ⟨_, rfl, go (by unfold alwB; rw [decide_eq_true h1]; simp)⟩
      · rw [if_pos (by rw [decide_eq_false h1]; rfl)]
        have : alwB specs s c = false := by unfold alwB; rw [decide_eq_false h0, decide_eq_false h1]; rfl
        rw [this, Bool.false_and] at hI
        exact .inr ⟨_, rfl, by rw [hI]; rfl⟩) (fun tb ⟨s, hp, ht, hI⟩ => by
    rw [List.drop_length] at hI
    unfold linealref02_allows_b1
    rw [if_neg (by simp)]
    exact ⟨_, rfl, by rw [hI]; rfl⟩)
  unfold linealref02_allows
  rw [ck_pos (by omega), er, hr, Option.bind_some]
  cases alwL specs h (0, 0) l <;> rfl

section
variable {specs : List Tup} {h : List HC6} {V : Pl → Nat}

end


end Go.Proofs.Ytlfpagicagmjgaa
