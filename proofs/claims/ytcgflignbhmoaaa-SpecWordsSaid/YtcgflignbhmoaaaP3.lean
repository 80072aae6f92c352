/-
  Layer 1, pure: the specification begun in another state.
-/
import Derived.Test.YtcgflignbhmoaaaP2
namespace Go.Proofs.Ytcgflignbhmoaaa
open Go.RowKit

set_option linter.unusedVariables false
set_option linter.unusedSimpArgs false

/-- Two states change places. -/
def exN (state n : Int) : Int := if n = 0 then state else if n = state then 0 else n

theorem exchanged_eq (n state : Int) : linealref01_exchanged n state = some (exN state n) := by
  unfold linealref01_exchanged exN
  by_cases h : n = 0
  · simp [h]
  · by_cases h2 : n = state
    · rw [if_neg (by simpa using h), if_pos (by simpa using h2), if_neg h, if_pos h2]
    · simp [h, h2]

theorem exN_in {st state n : Int} (hs : 0 ≤ state ∧ state < st) (hn : 0 ≤ n ∧ n < st) : 0 ≤ exN state n ∧ exN state n < st := by
  unfold exN; split
  · exact hs
  · split <;> omega

/-- The table, begun. -/
def begNx (s : Tup) (state : Int) : List (List Int) := (List.range s.1.toNat).map fun (k : Nat) => (s.2.2.1.getD (exN state k).toNat []).map (exN state)
def begSy (s : Tup) (state : Int) : List (List Int) := (List.range s.1.toNat).map fun (k : Nat) => s.2.2.2.getD (exN state k).toNat []

/-- The answer of Begun. -/
def begOf (s : Tup) (state : Int) : Int × Int × List (List Int) × List (List Int) × Int :=
  if (toSp s).ok = true then (if inR s.1 state = true then (s.1, s.2.1, begNx s state, begSy s state, 0) else (0, 0, [], [], 2)) else (0, 0, [], [], 10)

theorem row_at {st op : Int} {p : Int → Bool} {rs : List (List Int)} (h : tab st op p rs = true) {q : Int} (hq : 0 ≤ q ∧ q < st) : ∃ r, rs[q.toNat]? = some r ∧ (r.length : Int) = op ∧ (∀ x ∈ r, p x = true) ∧ q < (rs.length : Int) := by
  obtain ⟨h1, h2⟩ := tab_row h
  have hlt : q.toNat < rs.length := by omega
  refine ⟨rs[q.toNat], List.getElem?_eq_getElem hlt, ?_⟩
  obtain ⟨h3, h4⟩ := h2 q.toNat _ (List.getElem?_eq_getElem hlt)
  exact ⟨h3, fun x hx => List.all_eq_true.1 h4 x hx, by omega⟩

theorem map_get {α β : Type} {l : List α} {f : α → β} {i : Nat} {x : α} (h : l[i]? = some x) : (l.map f)[i]? = some (f x) := by simp [h]

theorem map_range_getD {l : List Int} (g : Int → Int) : (List.range l.length).map (fun j => g (l.getD j 0)) = l.map g := by
  refine List.ext_getElem? fun i => ?_
  by_cases hi : i < l.length
  · simp [hi]
  · rw [List.getElem?_eq_none (by simp; omega), List.getElem?_eq_none (by simp; omega)]

theorem specBegun_eq (s : Tup) (hs : okS s) (state : Int) : spec_Begun s state = some (begOf s state) := by
  unfold spec_Begun begOf
  rw [checked_eq s hs [state] (by rw [maxLen_num]; simp), Option.bind_some]
  cases hv : (toSp s).ok
  · simp
  simp only [if_true, List.all_cons, List.all_nil, Bool.and_true]
  cases ha : inR s.1 state
  · simp
  simp only [if_true, decide_true, Bool.not_true, Bool.false_eq_true, if_false]
  have hm := Sp.okE hv
  have h1 : 1 ≤ s.1 := hm.1
  have h2 : s.1 ≤ 8 := hm.2.1
  have h3 : 1 ≤ s.2.1 := hm.2.2.1
  have h4 : s.2.1 ≤ 4 := hm.2.2.2.1
  have h5 : tab s.1 s.2.1 (inR s.1) s.2.2.1 = true := hm.2.2.2.2.1
  have h6 : tab s.1 s.2.1 ansB s.2.2.2 = true := hm.2.2.2.2.2
  have hst : 0 ≤ state ∧ state < s.1 := by simpa [inR] using ha
  rw [ck_pos (by omega), ck_pos (by omega)]
  rw [whileO_fill s.1.toNat (fun k => (k : Int)) (List.replicate s.1.toNat 0) (by simp) (fun k l hk hl => ?_) (fun l hl => ?_), Option.bind_some]
  rotate_left
  · unfold spec_Begun_b1
    simp only [List.length_replicate, Int.toNat_natCast]
    rw [if_pos (by rw [decide_eq_true_eq]; omega), ck_pos (by omega), ck_pos (by omega), ck_pos (by rw [inK_i64]; omega)]
  · unfold spec_Begun_b1
    simp only [List.length_replicate]
    rw [if_neg (by rw [decide_eq_true_eq]; omega)]
  have hord : ∀ n : Int, 0 ≤ n → n < s.1 → ((((List.range s.1.toNat).map fun (k : Nat) => (k : Int)).set 0 state).set state.toNat 0).getD n.toNat 0 = exN state n := by
    intro n hn0 hn1
    unfold exN
    rw [List.getD, List.getElem?_set, List.getElem?_set]
    simp only [List.length_set, List.length_map, List.length_range]
    by_cases e1 : n = state
    · rw [if_pos (by omega), if_pos (by omega)]
      by_cases e0 : n = 0
      · simp [e0]; omega
      · simp [e0, e1]; omega
    · rw [if_neg (by omega)]
      by_cases e0 : n = 0
      · rw [if_pos (by omega), if_pos (by omega)]; simp [e0]
      · rw [if_neg (by omega)]
        have : n.toNat < s.1.toNat := by omega
        simp [e0, e1, this]; omega
  have hlen : ((((List.range s.1.toNat).map fun (k : Nat) => (k : Int)).set 0 state).set state.toNat 0).length = s.1.toNat := by simp
  unfold spec_Begun_k1
  rw [ck_pos (by simp; omega), ck_pos (by omega), ck_pos (by simp; omega)]
  rw [whileO_app2 s.1.toNat (fun k => (s.2.2.1.getD (exN state k).toNat []).map (exN state)) (fun k => s.2.2.2.getD (exN state k).toNat []) (fun k hk => ?_) ?_, Option.bind_some]
  · unfold spec_Begun_k2; rfl
  · unfold spec_Begun_b2
    rw [if_neg (by simp only [hlen]; simp)]
  · obtain ⟨ho1, ho2⟩ := exN_in hst (n := (k : Int)) (by omega)
    have hk0 : ((((List.range s.1.toNat).map fun (k : Nat) => (k : Int)).set 0 state).set state.toNat 0).getD k 0 = exN state k := by
      have := hord k (by omega) (by omega)
      rwa [Int.toNat_natCast] at this
    obtain ⟨r, hr, hrl, hrp, hrlt⟩ := row_at h5 ⟨ho1, ho2⟩
    obtain ⟨r2, hr2, hrl2, hrp2, hrlt2⟩ := row_at h6 ⟨ho1, ho2⟩
    unfold spec_Begun_b2
    simp only [hlen, Int.toNat_natCast, hk0]
    rw [if_pos (by simp; omega), ck_pos (by omega), ck_pos (by omega), ck_pos (by omega), ck_pos (by omega), ck_pos ho1, ck_pos hrlt]
    rw [whileO_fill s.2.1.toNat (fun j => exN state (r.getD j 0)) (List.replicate s.2.1.toNat 0) (by simp) (fun j l hj hl => ?_) (fun l hl => ?_), Option.bind_some]
    rotate_left
    · unfold spec_Begun_b3
      simp only [hlen, Int.toNat_natCast, hk0]
      obtain ⟨x, hx⟩ := get_of_lt (xs := r) (k := j) (by omega)
      have hxp := hrp x (List.mem_of_getElem? hx)
      simp only [inR, decide_eq_true_eq] at hxp
      rw [getD_of hr, getD_of hx, if_pos (by simp; omega), ck_pos (by omega), ck_pos (by omega), ck_pos hxp.1, ck_pos (by omega), ck_pos (by omega), ck_pos (by omega), ck_pos (by rw [inK_i64]; omega), hord x hxp.1 hxp.2]
    · unfold spec_Begun_b3
      simp only [Int.toNat_natCast, hk0]
      rw [getD_of hr, if_neg (by simp; omega)]
    unfold spec_Begun_k4 spec_Begun_k3
    simp only [Int.toNat_natCast, hk0]
    rw [ck_pos (by simp; omega), ck_pos ho1, ck_pos hrlt2, getD_of hr2, Clone_eq r2 (by omega), Option.bind_some, ck_pos (by simp; omega), ck_pos (by rw [inK_i64]; omega), getD_of hr]
    have : (List.range s.2.1.toNat).map (fun j => exN state (r.getD j 0)) = r.map (exN state) := by
      rw [← map_range_getD, show s.2.1.toNat = r.length from by omega]
    rw [this]

theorem refIsTable_eq (s : Tup) (l : List (List Int)) (limit : Int) (hl : okT l) : linealref01_isTable s l limit = some (tab s.1 s.2.1 (fun x => decide (0 ≤ x ∧ x < limit)) l) := by
  unfold linealref01_isTable tab
  by_cases h0 : (l.length : Int) = s.1
  · rw [if_neg (by simp [h0]), whileO_all l (fun r => decide ((r.length : Int) = s.2.1) && r.all (fun x => decide (0 ≤ x ∧ x < limit))) (fun k x hk => ?_) ?_]
    · cases ha : l.all (fun r => decide ((r.length : Int) = s.2.1) && r.all (fun x => decide (0 ≤ x ∧ x < limit))) <;> simp [linealref01_isTable_k1, h0, ha]
    · unfold linealref01_isTable_b1; simp
    · have hlt := (List.getElem?_eq_some_iff.1 hk).1
      have hxl := len_ok (hl.2 x (List.mem_of_getElem? hk))
      unfold linealref01_isTable_b1
      rw [if_pos (by simpa using hlt), ck_pos (by omega), ck_pos (by omega), Int.toNat_natCast, getD_of hk]
      by_cases h1 : (x.length : Int) = s.2.1
      · rw [if_neg (by simp [h1]), whileO_all x (fun x => decide (0 ≤ x ∧ x < limit)) (fun j y hj => ?_) ?_]
        · cases hp : x.all (fun x => decide (0 ≤ x ∧ x < limit))
          · simp [h1]
          · simp [h1, linealref01_isTable_k2, ck_pos (inK_nat hlt (len_ok hl.1))]
        · unfold linealref01_isTable_b2; rw [Int.toNat_natCast, getD_of hk]; simp
        · have hlt2 := (List.getElem?_eq_some_iff.1 hj).1
          unfold linealref01_isTable_b2
          rw [Int.toNat_natCast, getD_of hk, if_pos (by simpa using hlt2), ck_pos (by omega), ck_pos (by omega), Int.toNat_natCast, getD_of hj]
          by_cases hy : y < 0
          · rw [if_pos (by simpa using hy), if_neg (by simp; omega)]
          · rw [if_neg (by simpa using hy)]
            by_cases hy2 : limit ≤ y
            · rw [if_pos (by simpa using hy2), if_neg (by simp; omega)]
            · rw [if_neg (by simpa using hy2), ck_pos (inK_nat hlt2 hxl), if_pos (by simp; omega)]
      · simp [h1]
  · simp [h0]

theorem refValid_eq (s : Tup) (hs : okS s) : linealref01_Valid s = some (toSp s).ok := by
  unfold linealref01_Valid Sp.ok toSp
  have e6 : (fun x : Int => decide (0 ≤ x ∧ x < 6)) = ansB := by funext x; unfold ansB; congr 1; simp; omega
  have e5 : (fun x : Int => decide (0 ≤ x ∧ x < s.1)) = inR s.1 := rfl
  rw [refIsTable_eq s _ _ hs.1, refIsTable_eq s _ _ hs.2, e6, e5]
  by_cases h1 : 1 ≤ s.1
  · by_cases h2 : s.1 ≤ 8
    · by_cases h3 : 1 ≤ s.2.1
      · by_cases h4 : s.2.1 ≤ 4
        · simp only [h1, h2, h3, h4, decide_true, if_true, Option.bind_some, Bool.true_and]
          cases tab s.1 s.2.1 (inR s.1) s.2.2.1 <;> simp
        · simp [h1, h2, h3, h4]
      · simp [h1, h2, h3]
    · simp [h1, h2]
  · simp [h1]

theorem IsState_eq (s : Tup) (n : Int) : linealref01_IsState s n = some (inR s.1 n) := by
  unfold linealref01_IsState inR
  by_cases h : 0 ≤ n <;> simp [h]

theorem asked_eq (s : Tup) (hs : okS s) (a b : Int) : linealref01_asked s a b = some (if (toSp s).ok = true then (if inR s.1 a = true ∧ inR s.1 b = true then 0 else 2) else 10) := by
  unfold linealref01_asked
  rw [refValid_eq s hs, IsState_eq, IsState_eq, Option.bind_some]
  cases (toSp s).ok
  · simp
  · cases inR s.1 a
    · simp
    · cases inR s.1 b <;> simp

theorem refBegun_eq (s : Tup) (hs : okS s) (state : Int) : linealref01_Begun s state = some (begOf s state) := by
  unfold linealref01_Begun begOf
  rw [asked_eq s hs, Option.bind_some]
  cases hv : (toSp s).ok
  · simp
  cases ha : inR s.1 state
  · simp
  simp only [if_true, and_self, decide_true, Bool.not_true, Bool.false_eq_true, if_false]
  have hm := Sp.okE hv
  have h1 : 1 ≤ s.1 := hm.1
  have h2 : s.1 ≤ 8 := hm.2.1
  have h3 : 1 ≤ s.2.1 := hm.2.2.1
  have h4 : s.2.1 ≤ 4 := hm.2.2.2.1
  have h5 : tab s.1 s.2.1 (inR s.1) s.2.2.1 = true := hm.2.2.2.2.1
  have h6 : tab s.1 s.2.1 ansB s.2.2.2 = true := hm.2.2.2.2.2
  have hst : 0 ≤ state ∧ state < s.1 := by simpa [inR] using ha
  rw [whileO_app2 s.1.toNat (fun k => (s.2.2.1.getD (exN state k).toNat []).map (exN state)) (fun k => s.2.2.2.getD (exN state k).toNat []) (fun k hk => ?_) ?_, Option.bind_some]
  · rfl
  · unfold linealref01_Begun_b1
    rw [if_neg (by simp; omega)]
  · obtain ⟨ho1, ho2⟩ := exN_in hst (n := (k : Int)) (by omega)
    obtain ⟨r, hr, hrl, hrp, hrlt⟩ := row_at h5 ⟨ho1, ho2⟩
    obtain ⟨r2, hr2, hrl2, hrp2, hrlt2⟩ := row_at h6 ⟨ho1, ho2⟩
    unfold linealref01_Begun_b1
    rw [if_pos (by simp; omega), exchanged_eq, Option.bind_some, ck_pos ho1, ck_pos hrlt]
    rw [whileO_app r.length (fun j => exN state (r.getD j 0)) (fun j hj => ?_) ?_, Option.bind_some]
    · unfold linealref01_Begun_k3 linealref01_Begun_k2
      simp only []
      rw [ck_pos (by simp; omega), ck_pos ho1, ck_pos hrlt2, getD_of hr2, ck_pos (by omega), ck_pos (by simp; omega), ck_pos (by rw [inK_i64]; omega), getD_of hr, map_range_getD]
    · unfold linealref01_Begun_b2
      rw [getD_of hr, if_neg (by simp)]
    · unfold linealref01_Begun_b2
      rw [getD_of hr, if_pos (by simpa using hj), ck_pos (by omega), ck_pos (by simpa using hj), exchanged_eq, Option.bind_some, ck_pos (by simp; omega), ck_pos (by rw [inK_i64]; omega)]
      simp

theorem begOf_ok (s : Tup) (hs : okS s) (state : Int) : okS ((begOf s state).1, (begOf s state).2.1, (begOf s state).2.2.1, (begOf s state).2.2.2.1) := by
  unfold begOf
  split
  · rename_i hv
    split
    · have hm := Sp.okE hv
      have h2 : s.1 ≤ 8 := hm.2.1
      have hrow : ∀ (l : List (List Int)) (n : Nat), (∀ r ∈ l, r.length ≤ 17592186044416) → (l.getD n []).length ≤ 17592186044416 := by
        intro l n h
        rw [List.getD]
        cases e : l[n]? with
        | none => simp
        | some r => exact h r (List.mem_of_getElem? e)
      refine ⟨⟨by simp [begNx]; omega, fun r hr => ?_⟩, ⟨by simp [begSy]; omega, fun r hr => ?_⟩⟩
      · simp only [begNx, List.mem_map] at hr
        obtain ⟨k, _, rfl⟩ := hr
        rw [List.length_map]; exact hrow _ _ hs.1.2
      · simp only [begSy, List.mem_map] at hr
        obtain ⟨k, _, rfl⟩ := hr
        exact hrow _ _ hs.2.2
    · exact okS_small (by simp)
  · exact okS_small (by simp)

/-- The law holds. -/
theorem SpecBegun_eq (s : Tup) (hs : okS s) (state : Int) : lineallaw01_SpecBegun s state = some true := by
  unfold lineallaw01_SpecBegun
  rw [Long_eq s hs, Awake_eq, Option.bind_some]
  cases wideB s.2.2.1 || wideB s.2.2.2
  · rw [specBegun_eq s hs, refBegun_eq s hs]
    simp only [Option.bind_some, Bool.false_eq_true, if_false]
    rw [Equal_eq _ _ (begOf_ok s hs state)]
    simp
  · simp
end Go.Proofs.Ytcgflignbhmoaaa
