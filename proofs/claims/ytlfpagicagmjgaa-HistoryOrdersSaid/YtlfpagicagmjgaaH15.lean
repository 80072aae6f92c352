/-
  Layer 2, pure: the reference's allows; the calls of a path are an order that keeps time and is allowed.
-/
import Derived.Test.YtlfpagicagmjgaaH14
import Derived.Test.YtlfpagicagmjgaaH6t
import Derived.Test.YtlfpagicagmjgaaH11
namespace Go.Proofs.Ytlfpagicagmjgaa
open Go.RowKit

set_option linter.unusedVariables false
set_option linter.unusedSimpArgs false
set_option maxRecDepth 10000

theorem rallows_eq {specs : List Tup} (hs : okSs specs = true) {h : List HC6} (hc : ∀ i, i < h.length → canC specs (hAt h i) = true) {l : List Int} (hl : l.length ≤ 1000) (hin : ∀ x ∈ l, 0 ≤ x ∧ x < (h.length : Int)) : linealref02_allows specs h l = some (alwL specs h (0, 0) l) := by
  have hl2 := okSs_len hs
  obtain ⟨r, er, hr⟩ := scan2 (R := Sum Unit Unit) l (fun k (tb : List Int) => ∃ s, okP2 specs s ∧ tabI specs tb s ∧ alwL specs h (0, 0) l = alwL specs h s (l.drop k)) (fun r => r = if alwL specs h (0, 0) l = true then .inr () else .inl ()) (body := linealref02_allows_b1 specs h l) (s0 := List.replicate specs.length (0 : Int)) ⟨(0, 0), okP2_zero hs, ⟨by simp, fun i h0 h1 => by
      have e : stOf (0, 0) i = 0 := by unfold stOf; split <;> rfl
      rw [e, List.getD_eq_getElem?_getD, List.getElem?_replicate]; split <;> rfl⟩, rfl⟩ (fun k x tb hk ⟨s, hp, ht, hI⟩ => by
    obtain ⟨hlt, hin1⟩ := few_in (few_of hl) hk
    have hx := hin x (List.mem_of_getElem? hk)
    rw [alwL_drop specs h hk] at hI
    have hcx := hc x.toNat (by omega)
    obtain ⟨c, hcd⟩ : ∃ c, c = hAt h x.toNat := ⟨_, rfl⟩
    rw [← hcd] at hI hcx
    have hcd' : h.getD x.toNat (0, 0, 0, 0, 0, 0) = c := hcd.symm
    obtain ⟨_, ho, hop⟩ := canC_parts hcx
    have hsp := ok_parts (okSs_at hs ho)
    have hq := hp c.2.1 ho.1 ho.2
    obtain ⟨n1, n2, n3⟩ := tab_at hsp.2.2.2.2.1 hq hop
    obtain ⟨a1, a2, a3⟩ := tab_at hsp.2.2.2.2.2 hq hop
    have htt := ht.2 c.2.1 ho.1 ho.2
    have htl := ht.1
    have hsx : spAt specs c.2.1 = specs.getD c.2.1.toNat (0, 0, [], []) := rfl
    rw [hsx] at n1 n2 a1 a2 hq hop
    have hk2 : linealref02_allows_k2 specs h l (tb, (k : Int)) = some (.next (tb.set c.2.1.toNat (nexS (spAt specs c.2.1) (stOf s c.2.1) c.2.2.1), (k : Int) + 1)) := by
      unfold linealref02_allows_k2
      simp only [Int.toNat_natCast, getD_of hk, hcd', htt]
      rw [ck_pos ho.1, ck_pos (by rw [htl]; exact ho.2), ck_pos hq.1, ck_pos (by rw [n1]; exact hq.2), ck_pos hop.1, ck_pos (by rw [n2]; exact hop.2), ck_pos ho.1, ck_pos (by rw [htl]; exact ho.2), ck_pos hin1]
      rfl
    have go : alwB specs s c = true → ∃ s', okP2 specs s' ∧ tabI specs (tb.set c.2.1.toNat (nexS (spAt specs c.2.1) (stOf s c.2.1) c.2.2.1)) s' ∧ alwL specs h (0, 0) l = alwL specs h s' (l.drop (k + 1)) := fun ha => by
      rw [ha, Bool.true_and] at hI
      exact ⟨goOf specs s c, okP2_to hs hcx hp, tabI_to hs ht ho, hI⟩
    unfold linealref02_allows_b1
    simp only [Int.toNat_natCast, getD_of hk, hcd', htt]
    rw [if_pos (by simpa using hlt), ck_pos (by omega), ck_pos (by omega), ck_pos hx.1, ck_pos hx.2, ck_pos ho.1, ck_pos ho.2]
    by_cases h0 : c.2.2.2.2.2 = 0
    · rw [if_neg (by rw [decide_eq_true h0]; simp), hk2]
      exact .inl ⟨_, rfl, go (by unfold alwB; rw [decide_eq_true h0]; rfl)⟩
    · rw [if_pos (by rw [decide_eq_false h0]; rfl), ck_pos ho.1, ck_pos (by rw [htl]; exact ho.2), ck_pos hq.1, ck_pos (by rw [a1]; exact hq.2), ck_pos hop.1, ck_pos (by rw [a2]; exact hop.2)]
      have hsay : (((specs.getD c.2.1.toNat (0, 0, [], [])).2.2.2.getD (stOf s c.2.1).toNat []).getD c.2.2.1.toNat 0) = sayOf specs s c := rfl
      rw [hsay]
      by_cases h1 : sayOf specs s c = c.2.2.2.1
      · rw [if_neg (by rw [decide_eq_true h1]; simp), hk2]
        exact .inl ⟨_, rfl, go (by unfold alwB; rw [decide_eq_true h1]; simp)⟩
      · rw [if_pos (by rw [decide_eq_false h1]; rfl)]
        have : alwB specs s c = false := by unfold alwB; rw [decide_eq_false h0, decide_eq_false h1]; rfl
        rw [this, Bool.false_and] at hI
        exact .inr ⟨_, rfl, by rw [hI]; rfl⟩) (fun tb ⟨s, hp, ht, hI⟩ => by
    rw [List.drop_length] at hI
    unfold linealref02_allows_b1
    rw [if_neg (by simp)]
    exact ⟨_, rfl, by rw [hI]; rfl⟩)
  unfold linealref02_allows
  rw [ck_pos (by omega), er, hr, Option.bind_some]
  cases alwL specs h (0, 0) l <;> rfl

section
variable {specs : List Tup} {h : List HC6} {V : Pl → Nat}

theorem path_in {p : Pl} {l : List Nat} (hp : Path specs h V p l) : ∀ x ∈ l, x < h.length ∧ bitB p.2 x = false := by
  induction hp with
  | nil p e => intro x hx; cases hx
  | cons p q i l e hi hn hv hl hp ih =>
    obtain ⟨n1, _, rfl⟩ : readyB h p.2 i = true ∧ alwB specs p.1 (hAt h i) = true ∧ q = (goOf specs p.1 (hAt h i), putB p.2 i) := by
      unfold nxt at hn
      split at hn
      · rename_i hra
        simp only [Bool.and_eq_true] at hra
        injection hn with hn
        exact ⟨hra.1, hra.2, hn.symm⟩
      · cases hn
    unfold readyB at n1
    simp only [Bool.and_eq_true, Bool.not_eq_true'] at n1
    intro x hx
    rcases List.mem_cons.1 hx with rfl | hx
    · exact ⟨hi, n1.1⟩
    · obtain ⟨x1, x2⟩ := ih x hx
      have x3 : bitB (putB p.2 i) x = false := x2
      rw [bit_put] at x3
      exact ⟨x1, (Bool.or_eq_false_iff.1 x3).1⟩

theorem path_alw {p : Pl} {l : List Nat} (hp : Path specs h V p l) : alwL specs h p.1 (l.map fun (k : Nat) => (k : Int)) = true := by
  induction hp with
  | nil p e => rfl
  | cons p q i l e hi hn hv hl hp ih =>
    unfold nxt at hn
    split at hn
    · rename_i hra
      simp only [Bool.and_eq_true] at hra
      injection hn with hn
      subst hn
      show (alwB specs p.1 (hAt h ((i : Int)).toNat) && alwL specs h (goOf specs p.1 (hAt h ((i : Int)).toNat)) (l.map fun (k : Nat) => (k : Int))) = true
      rw [Int.toNat_natCast, hra.2, Bool.true_and]
      exact ih
    · cases hn

theorem path_time {p : Pl} {l : List Nat} (hp : Path specs h V p l) : l.Pairwise fun a b => bef (hAt h b) (hAt h a) = false := by
  induction hp with
  | nil p e => exact List.Pairwise.nil
  | cons p q i l e hi hn hv hl hp ih =>
    have hall := path_in hp
    refine List.Pairwise.cons (fun b hb => ?_) ih
    obtain ⟨b1, b2⟩ := hall b hb
    unfold nxt at hn
    split at hn
    · rename_i hra
      simp only [Bool.and_eq_true] at hra
      injection hn with hn
      subst hn
      have b3 : bitB (putB p.2 i) b = false := b2
      rw [bit_put] at b3
      have b4 := (Bool.or_eq_false_iff.1 b3).1
      have hr := hra.1
      unfold readyB at hr
      simp only [Bool.and_eq_true] at hr
      have := allB_iff.1 hr.2 b b1
      rw [b4, Bool.or_false] at this
      simpa using this
    · cases hn

theorem path_mark {p : Pl} {l : List Nat} (hp : Path specs h V p l) : ∀ s : List Bool, s.length = h.length → (∀ j, j < h.length → s.getD j false = bitB p.2 j) → ∃ s', markA s (l.map fun (k : Nat) => (k : Int)) = some s' ∧ ∀ j, j < h.length → (decide ((hAt h j).2.2.2.2.2 = 0) || s'.getD j false) = true := by
  induction hp with
  | nil p e =>
    intro s hs hb
    refine ⟨s, rfl, fun j hj => ?_⟩
    rw [hb j hj]
    unfold fullB at e
    exact allB_iff.1 e j hj
  | cons p q i l e hi hn hv hl hp ih =>
    intro s hs hb
    have hin := (path_in (Path.cons p q i l e hi hn hv hl hp) i (List.mem_cons_self ..)).2
    have hq : q.2 = putB p.2 i := by
      unfold nxt at hn
      split at hn
      · injection hn with hn; rw [← hn]
      · cases hn
    obtain ⟨s', e1, e2⟩ := ih (s.set i true) (by rw [List.length_set]; exact hs) (fun j hj => by
      rw [hq, bit_put, ← hb j hj]
      by_cases e : i = j
      · subst e
        rw [List.getD_eq_getElem?_getD, List.getElem?_set_self (by rw [hs]; exact hj)]; simp
      · rw [List.getD_eq_getElem?_getD, List.getElem?_set_ne e, ← List.getD_eq_getElem?_getD, decide_eq_false e]; simp)
    refine ⟨s', ?_, e2⟩
    show markA s ((i : Int) :: l.map fun (k : Nat) => (k : Int)) = some s'
    unfold markA
    have r1 : (decide ((0 : Int) ≤ (i : Int)) && decide ((i : Int) < (s.length : Int))) = true := by simp; omega
    have r2 : s.getD i false = false := by rw [hb i hi]; exact hin
    rw [if_pos r1, Int.toNat_natCast, r2, if_neg (by simp)]
    exact e1

/-- The calls of a path from the beginning are an order that keeps time and is allowed. -/
theorem path_order {l : List Nat} (hp : Path specs h V ((0, 0), 0) l) : ordB h (l.map fun (k : Nat) => (k : Int)) = true ∧ keepB bef h (l.map fun (k : Nat) => (k : Int)) = true ∧ alwL specs h (0, 0) (l.map fun (k : Nat) => (k : Int)) = true := by
  refine ⟨?_, ?_, path_alw hp⟩
  · obtain ⟨s', e1, e2⟩ := path_mark hp (List.replicate h.length false) (by simp) (fun j hj => by
      have z : bitB ((0, 0), (0 : Int)).2 j = false := by unfold bitB; simp
      rw [z, List.getD_eq_getElem?_getD, List.getElem?_replicate]; split <;> rfl)
    unfold ordB
    rw [e1]
    exact allB_iff.2 e2
  · unfold keepB
    rw [List.length_map]
    refine allB_iff.2 fun i hi => allB_iff.2 fun k hk => ?_
    have ht := List.pairwise_iff_getElem.1 (path_time hp) k i (by omega) hi hk
    have ea : ∀ j, (hj : j < l.length) → atL h (l.map fun (k : Nat) => (k : Int)) j = hAt h l[j] := fun j hj => by
      unfold atL hAt
      rw [List.getD_eq_getElem?_getD (l := l.map _), List.getElem?_map, List.getElem?_eq_getElem hj]; rfl
    rw [ea i hi, ea k (by omega), ht]; rfl

end


end Go.Proofs.Ytlfpagicagmjgaa
