/-
  Layer 1, pure: Least, Unlike, Alike.
-/
import Derived.Test.YtcgflignbhmoaaaP14
namespace Go.Proofs.Ytcgflignbhmoaaa
open Go.RowKit

set_option linter.unusedVariables false
set_option linter.unusedSectionVars false
set_option linter.unusedSimpArgs false
attribute [local irreducible] kL leastF waysL sameB kp clsL

theorem tab_okT {st op : Int} {p : Int → Bool} {rs : List (List Int)} (h : tab st op p rs = true) (h1 : st ≤ 8) (h2 : op ≤ 8) : okT rs := by
  obtain ⟨a1, a2⟩ := tab_row h
  refine ⟨by omega, fun r hr => ?_⟩
  obtain ⟨i, hi⟩ := List.getElem?_of_mem hr
  have := (a2 i r hi).1
  omega

theorem ok_small {s : Tup} (hv : (toSp s).ok = true) : okS s := by
  have hm := Sp.okE hv
  have h2 : s.1 ≤ 8 := hm.2.1
  have h4 : s.2.1 ≤ 4 := hm.2.2.2.1
  exact ⟨tab_okT hm.2.2.2.2.1 h2 (by show s.2.1 ≤ 8; omega), tab_okT hm.2.2.2.2.2 h2 (by show s.2.1 ≤ 8; omega)⟩

/-! ### Index, Contains -/

theorem index_go (l : List Int) (x : Int) (hl : l.length ≤ 1000) : ∀ (d k : Nat), l.length - k = d → k ≤ l.length → (∀ j : Nat, j < k → l[j]? ≠ some x) → whileN (slices_Index_b1 l x) (d + 1) (k : Int) = some (if x ∈ l then .inl (ixN l x : Int) else .inr ())
  | 0, k, hd, hk, hb => by
    have e : k = l.length := by omega
    have hn : x ∉ l := fun hm => by
      obtain ⟨j, hj⟩ := List.getElem?_of_mem hm
      exact hb j (by have := lt_of_get hj; omega) hj
    unfold whileN slices_Index_b1
    rw [if_neg (by rw [decide_eq_true_eq]; omega), if_neg hn]
  | d + 1, k, hd, hk, hb => by
    obtain ⟨y, hy⟩ := get_of_lt (xs := l) (k := k) (by omega)
    unfold whileN slices_Index_b1
    rw [if_pos (by rw [decide_eq_true_eq]; omega), ck_pos (by omega), ck_pos (by omega), Int.toNat_natCast, getD_of hy]
    by_cases e : x = y
    · subst e
      have hm := List.mem_of_getElem? hy
      have h1 : ixN l x = k := by
        rcases Nat.lt_trichotomy (ixN l x) k with h | h | h
        · exact absurd (ixN_get hm) (hb _ h)
        · exact h
        · exact absurd hy (ixN_before h)
      rw [if_pos (by simp), if_pos hm, h1]
    · rw [if_neg (by simp [e]), ck_pos (by rw [inK_i64]; omega)]
      have := index_go l x hl d (k + 1) (by omega) (by omega) fun j hj => by
        rcases Nat.lt_succ_iff_lt_or_eq.1 hj with hj | rfl
        · exact hb j hj
        · rw [hy]; intro e'; injection e' with e'; exact e e'.symm
      have e1 : ((k : Int) + 1) = ((k + 1 : Nat) : Int) := by omega
      show whileN (slices_Index_b1 l x) (d + 1) ((k : Int) + 1) = _
      rw [e1]; exact this

theorem Index_eq (l : List Int) (x : Int) (hl : l.length ≤ 1000) : slices_Index l x = some (if x ∈ l then (ixN l x : Int) else -1) := by
  have h := index_go l x hl l.length 0 (by omega) (by omega) fun j hj => by omega
  have h' : whileO (slices_Index_b1 l x) 0 = some (if x ∈ l then .inl (ixN l x : Int) else .inr ()) := whileO_of h
  unfold slices_Index slices_Index_k1
  rw [h', Option.bind_some]
  by_cases hm : x ∈ l
  · rw [if_pos hm, if_pos hm]
  · rw [if_neg hm, if_neg hm]

theorem Contains_eq (l : List Int) (x : Int) (hl : l.length ≤ 1000) : slices_Contains l x = some (decide (x ∈ l)) := by
  unfold slices_Contains
  rw [Index_eq l x hl, Option.bind_some]
  by_cases hm : x ∈ l
  · rw [if_pos hm]; simp [hm]
  · rw [if_neg hm]; simp [hm]

/-! ### Least -/

theorem map_range_gen {α : Type} (l : List Int) (F : Int → α) : (List.range l.length).map (fun j => F (l.getD j 0)) = l.map F := by
  refine List.ext_getElem? fun i => ?_
  by_cases h : i < l.length
  · obtain ⟨x, hx⟩ := get_of_lt h
    rw [List.getElem?_map, List.getElem?_map, List.getElem?_range h, hx, Option.map_some, Option.map_some, getD_of hx]
  · rw [List.getElem?_eq_none (by simp; omega), List.getElem?_eq_none (by simp; omega)]

section
variable {s : Tup} (hv : (toSp s).ok = true)
include hv

theorem cls_len : ((clsL s).length : Int) = s.1 := by
  have := (Sp.okE hv).1
  have h1 : 1 ≤ s.1 := this
  simp [clsL]; omega

theorem least_fold : ∀ (l acc : List (Int × List Int)), (∀ x ∈ l, inR s.1 x.1 = true) → acc.length + l.length ≤ 64 → foldY (R := Empty) (spec_Least_y1 (clsL s)) l (acc.map (·.1)) = some (.inl ((l.foldl (kStep s) acc).map (·.1)))
  | [], acc, _, _ => rfl
  | x :: l, acc, hx, hl => by
    simp only [List.length_cons] at hl
    have hq := hx x (by simp)
    have hc := cls_len hv
    have hq' := hq
    simp only [inR, decide_eq_true_eq] at hq'
    have hcl := cls_at hq
    simp only [foldY, List.foldl_cons]
    unfold spec_Least_y1
    rw [ck_pos hq'.1, ck_pos (by omega), hcl, Contains_eq _ _ (by rw [List.length_map]; omega), Option.bind_some]
    by_cases hm : (leastF s x.1.toNat : Int) ∈ acc.map (·.1)
    · rw [if_neg (by simp [hm]), Option.bind_some]
      simp only
      have ih := least_fold l acc (fun y hy => hx y (by simp [hy])) (by omega)
      have e : kStep s acc x = acc := by unfold kStep; rw [if_pos hm]
      rw [e]
      exact ih
    · rw [if_pos (by simp [hm]), ck_pos hq'.1, ck_pos (by omega), ck_pos (by rw [List.length_map]; omega), Option.bind_some]
      simp only
      have ih := least_fold l (acc ++ [((leastF s x.1.toNat : Int), x.2)]) (fun y hy => hx y (by simp [hy])) (by simp; omega)
      have e : kStep s acc x = acc ++ [((leastF s x.1.toNat : Int), x.2)] := by unfold kStep; rw [if_neg hm]
      rw [e]
      rw [List.map_append] at ih
      exact ih

theorem least_b3 {k : Nat} {q : Int} (hq : (kp s)[k]? = some q) (A B : List (List Int)) : whileO (spec_Least_b3 s (clsL s) (kp s) (A, B, (k : Int))) (List.replicate s.2.1.toNat 0, 0) = some ((s.2.2.1.getD q.toNat []).map fun to => (ixN (kp s) (leastF s to.toNat) : Int)) := by
  have hm := Sp.okE hv
  have h2 : s.1 ≤ 8 := hm.2.1
  have h4 : s.2.1 ≤ 4 := hm.2.2.2.1
  have hl := kp_len hv
  have hc := cls_len hv
  obtain ⟨r, r', g1, g2, g3, g4, g5, g6, _, _⟩ := least_row hv hq
  obtain ⟨w, hw, _, _⟩ := kp_word hv hq
  rw [whileO_fill s.2.1.toNat (fun j => (ixN (kp s) (leastF s (r.getD j 0).toNat) : Int)) (List.replicate s.2.1.toNat 0) (by simp) (fun j l hj hlj => ?_) (fun l hlj => ?_)]
  · rw [getD_of g1, show s.2.1.toNat = r.length from by omega]
    exact congrArg some (map_range_gen r fun to => (ixN (kp s) (leastF s to.toNat) : Int))
  · obtain ⟨x, hx⟩ := get_of_lt (xs := r) (k := j) (by omega)
    have hxp := g5 x (List.mem_of_getElem? hx)
    have hxp' := hxp
    simp only [inR, decide_eq_true_eq] at hxp'
    have hin : (leastF s x.toNat : Int) ∈ kp s := by
      have ho : inR s.2.1 (j : Int) = true := by simp only [inR, decide_eq_true_eq]; omega
      have hn := (kp_next hv hq ho hw).2
      have e : at2 s.2.2.1 q (j : Int).toNat = x := by simp [at2, g1, hx]
      rwa [e] at hn
    have e1 : (kp s).getD k 0 = q := getD_of hq
    have e2 : s.2.2.1.getD q.toNat [] = r := getD_of g1
    have e3 : r.getD j 0 = x := getD_of hx
    unfold spec_Least_b3
    simp only [Int.toNat_natCast, e1, e2, e3]
    rw [if_pos (by rw [decide_eq_true_eq]; omega), ck_pos (by omega), ck_pos (by omega), ck_pos hxp'.1, ck_pos (by omega), cls_at hxp, Index_eq _ _ (by omega), if_pos hin, Option.bind_some, ck_pos (by omega), ck_pos (by omega), ck_pos (by rw [inK_i64]; omega)]
  · have e1 : (kp s).getD k 0 = q := getD_of hq
    have e2 : s.2.2.1.getD q.toNat [] = r := getD_of g1
    unfold spec_Least_b3
    simp only [Int.toNat_natCast, e1, e2]
    rw [if_neg (by rw [decide_eq_true_eq]; omega)]

theorem Least_eq : spec_Least s = some ((leastT s).1, (leastT s).2.1, (leastT s).2.2.1, (leastT s).2.2.2, 0) := by
  have hm := Sp.okE hv
  have h1 : 1 ≤ s.1 := hm.1
  have h2 : s.1 ≤ 8 := hm.2.1
  have h3 : 1 ≤ s.2.1 := hm.2.2.1
  have h4 : s.2.1 ≤ 4 := hm.2.2.2.1
  have hl := kp_len hv
  have hw8 := ways_len hv
  unfold spec_Least spec_machine_ways
  rw [checked_eq s (ok_small hv) [] (by rw [maxLen_num]; simp), Option.bind_some]
  simp only [hv, if_true, List.all_nil, decide_true, Bool.not_true, Bool.false_eq_true, if_false]
  rw [show ((s.1, s.2.1, s.2.2.1, s.2.2.2) : Tup) = s from rfl, classes_eq hv, Option.bind_some, Option.bind_some]
  have hf := least_fold hv (waysL s) [] (fun x hx => ways_in hv hx) (by simp; omega)
  have hk : (waysL s).foldl (kStep s) [] = kL s := by unfold kL; rfl
  have hk2 : (kL s).map (·.1) = kp s := by unfold kp; rfl
  rw [hk, hk2] at hf
  rw [ways_eq (R := Empty) hv (spec_Least_y1 (clsL s)) [] hf, Option.bind_some]
  simp only
  unfold spec_Least_k1
  rw [whileO_app2 (kp s).length (fun k => (s.2.2.1.getD ((kp s).getD k 0).toNat []).map fun to => (ixN (kp s) (leastF s to.toNat) : Int)) (fun k => s.2.2.2.getD ((kp s).getD k 0).toNat []) (fun k hk => ?_) ?_, Option.bind_some]
  · unfold spec_Least_k2 leastT lNx lSy
    rw [← map_range_gen (kp s) fun q => (s.2.2.1.getD q.toNat []).map fun to => (ixN (kp s) (leastF s to.toNat) : Int), ← map_range_gen (kp s) fun q => s.2.2.2.getD q.toNat []]
  · unfold spec_Least_b2
    rw [if_neg (by simp)]
  · obtain ⟨q, hq⟩ := get_of_lt hk
    obtain ⟨q1, _⟩ := kp_in hv hq
    simp only [inR, decide_eq_true_eq] at q1
    obtain ⟨r, r', g1, g2, g3, g4, g5, g6, _, _⟩ := least_row hv hq
    have l1 := lt_of_get g1
    have l2 := lt_of_get g2
    have e1 : (kp s).getD k 0 = q := getD_of hq
    have e2 : s.2.2.2.getD q.toNat [] = r' := getD_of g2
    unfold spec_Least_b2
    simp only [Int.toNat_natCast, e1]
    rw [if_pos (by rw [decide_eq_true_eq]; omega), ck_pos (by omega), ck_pos (by omega), ck_pos (by omega), ck_pos (by omega), ck_pos q1.1, ck_pos (by omega), least_b3 hv hq, Option.bind_some]
    unfold spec_Least_k4 spec_Least_k3
    simp only [Int.toNat_natCast, e1, e2]
    rw [ck_pos (by rw [List.length_map, List.length_range]; omega), ck_pos q1.1, ck_pos (by omega), Clone_eq r' (by omega), Option.bind_some, ck_pos (by rw [List.length_map, List.length_range]; omega), ck_pos (by rw [inK_i64]; omega)]

end

/-! ### Alike -/

def unlikeOf (s t : Tup) : List Int × Int := if s.2.1 = t.2.1 then (match apartP (toSp s) (toSp t) (0, 0) with | some w => (w, 0) | none => ([], 5)) else ([], 2)

section
variable {s t : Tup} (hv : (toSp s).ok = true) (hw : (toSp t).ok = true)
include hv hw

end
end Go.Proofs.Ytcgflignbhmoaaa
