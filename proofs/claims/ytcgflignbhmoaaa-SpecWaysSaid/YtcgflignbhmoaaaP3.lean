/-
  Layer 1, pure: the specification begun in another state.
-/
import Derived.Test.YtcgflignbhmoaaaP2
namespace Go.Proofs.Ytcgflignbhmoaaa
open Go.RowKit

set_option linter.unusedVariables false
set_option linter.unusedSimpArgs false

/-- Two states change places. -/
def exN (state n : Int) : Int := if n = 0 then state else if n = state then 0 else n

/-- The table, begun. -/
def begNx (s : Tup) (state : Int) : List (List Int) := (List.range s.1.toNat).map fun (k : Nat) => (s.2.2.1.getD (exN state k).toNat []).map (exN state)
def begSy (s : Tup) (state : Int) : List (List Int) := (List.range s.1.toNat).map fun (k : Nat) => s.2.2.2.getD (exN state k).toNat []

/-- The answer of Begun. -/
def begOf (s : Tup) (state : Int) : Int × Int × List (List Int) × List (List Int) × Int :=
  if (toSp s).ok = true then (if inR s.1 state = true then (s.1, s.2.1, begNx s state, begSy s state, 0) else (0, 0, [], [], 2)) else (0, 0, [], [], 10)

theorem row_at {st op : Int} {p : Int → Bool} {rs : List (List Int)} (h : tab st op p rs = true) {q : Int} (hq : 0 ≤ q ∧ q < st) : ∃ r, rs[q.toNat]? = some r ∧ (r.length : Int) = op ∧ (∀ x ∈ r, p x = true) ∧ q < (rs.length : Int) := by
  obtain ⟨h1, h2⟩ := tab_row h
  have hlt : q.toNat < rs.length := by omega
  refine ⟨rs[q.toNat], List.getElem?_eq_getElem hlt, ?_⟩
  obtain ⟨h3, h4⟩ := h2 q.toNat _ (List.getElem?_eq_getElem hlt)
  exact ⟨h3, fun x hx => List.all_eq_true.1 h4 x hx, by omega⟩

theorem refIsTable_eq (s : Tup) (l : List (List Int)) (limit : Int) (hl : okT l) : linealref01_isTable s l limit = some (tab s.1 s.2.1 (fun x => decide (0 ≤ x ∧ x < limit)) l) := by
  unfold linealref01_isTable tab
  by_cases h0 : (l.length : Int) = s.1
  · rw [if_neg (by simp [h0]), whileO_all l (fun r => decide ((r.length : Int) = s.2.1) && r.all (fun x => decide (0 ≤ x ∧ x < limit))) (fun k x hk => ?_) ?_]
    · cases ha : l.all (fun r => decide ((r.length : Int) = s.2.1) && r.all (fun x => decide (0 ≤ x ∧ x < limit))) <;> simp [linealref01_isTable_k1, h0, ha]
    · unfold linealref01_isTable_b1; simp
    · have hlt := (List.getElem?_eq_some_iff.1 hk).1
      have hxl := len_ok (hl.2 x (List.mem_of_getElem? hk))
      unfold linealref01_isTable_b1
      rw [if_pos (by simpa using hlt), ck_pos (by omega), ck_pos (by omega), Int.toNat_natCast, getD_of hk]
      by_cases h1 : (x.length : Int) = s.2.1
      · rw [if_neg (by simp [h1]), whileO_all x (fun x => decide (0 ≤ x ∧ x < limit)) (fun j y hj => ?_) ?_]
        · cases hp : x.all (fun x => decide (0 ≤ x ∧ x < limit))
          · simp [h1]
          · simp [h1, linealref01_isTable_k2, ck_pos (inK_nat hlt (len_ok hl.1))]
        · unfold linealref01_isTable_b2; rw [Int.toNat_natCast, getD_of hk]; simp
        · have hlt2 := (List.getElem?_eq_some_iff.1 hj).1
          unfold linealref01_isTable_b2
          rw [Int.toNat_natCast, getD_of hk, if_pos (by simpa using hlt2), ck_pos (by omega), ck_pos (by omega), Int.toNat_natCast, getD_of hj]
          by_cases hy : y < 0
          · rw [if_pos (by simpa using hy), if_neg (by simp; omega)]
          · rw [if_neg (by simpa using hy)]
            by_cases hy2 : limit ≤ y
            · rw [if_pos (by simpa using hy2), if_neg (by simp; omega)]
            · rw [if_neg (by simpa using hy2), ck_pos (inK_nat hlt2 hxl), if_pos (by simp; omega)]
      · simp [h1]
  · simp [h0]

theorem refValid_eq (s : Tup) (hs : okS s) : linealref01_Valid s = some (toSp s).ok := by
  unfold linealref01_Valid Sp.ok toSp
  have e6 : (fun x : Int => decide (0 ≤ x ∧ x < 6)) = ansB := by funext x; unfold ansB; congr 1; simp; omega
  have e5 : (fun x : Int => decide (0 ≤ x ∧ x < s.1)) = inR s.1 := rfl
  rw [refIsTable_eq s _ _ hs.1, refIsTable_eq s _ _ hs.2, e6, e5]
  by_cases h1 : 1 ≤ s.1
  · by_cases h2 : s.1 ≤ 8
    · by_cases h3 : 1 ≤ s.2.1
      · by_cases h4 : s.2.1 ≤ 4
        · simp only [h1, h2, h3, h4, decide_true, if_true, Option.bind_some, Bool.true_and]
          cases tab s.1 s.2.1 (inR s.1) s.2.2.1 <;> simp
        · simp [h1, h2, h3, h4]
      · simp [h1, h2, h3]
    · simp [h1, h2]
  · simp [h1]

theorem IsState_eq (s : Tup) (n : Int) : linealref01_IsState s n = some (inR s.1 n) := by
  unfold linealref01_IsState inR
  by_cases h : 0 ≤ n <;> simp [h]

theorem asked_eq (s : Tup) (hs : okS s) (a b : Int) : linealref01_asked s a b = some (if (toSp s).ok = true then (if inR s.1 a = true ∧ inR s.1 b = true then 0 else 2) else 10) := by
  unfold linealref01_asked
  rw [refValid_eq s hs, IsState_eq, IsState_eq, Option.bind_some]
  cases (toSp s).ok
  · simp
  · cases inR s.1 a
    · simp
    · cases inR s.1 b <;> simp

end Go.Proofs.Ytcgflignbhmoaaa
