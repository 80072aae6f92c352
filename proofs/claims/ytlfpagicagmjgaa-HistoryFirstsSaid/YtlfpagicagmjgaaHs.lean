/-
  Layer 2, pure: which specifications are valid (as for layer 1).
-/
import Derived.Test.YtlfpagicagmjgaaHp
import Derived.Test.YtlfpagicagmjgaaGk
namespace Go.Proofs.Ytlfpagicagmjgaa
open Go.RowKit

set_option linter.unusedVariables false
set_option linter.unusedSimpArgs false

/-- The data of a specification. -/
structure Sp where
  st : Int
  op : Int
  nx : List (List Int)
  sy : List (List Int)

/-- A number from 0 to less than n. -/
def inR (n : Int) (x : Int) : Bool := decide (0 ≤ x ∧ x < n)
/-- An answer. -/
def ansB (x : Int) : Bool := decide (0 ≤ x ∧ x ≤ 5)

/-- The table of a specification: a row for each state, in it a number for each call. -/
def tab (st op : Int) (p : Int → Bool) (rs : List (List Int)) : Bool := decide ((rs.length : Int) = st) && rs.all fun r => decide ((r.length : Int) = op) && r.all p

def Sp.ok (S : Sp) : Bool :=
  decide (1 ≤ S.st) && decide (S.st ≤ 8) && decide (1 ≤ S.op) && decide (S.op ≤ 4) && tab S.st S.op (inR S.st) S.nx && tab S.st S.op ansB S.sy

abbrev Tup := Int × Int × List (List Int) × List (List Int)
def toSp (s : Tup) : Sp := ⟨s.1, s.2.1, s.2.2.1, s.2.2.2⟩

/-- Lengths that memory has. -/
def okT (l : List (List Int)) : Prop := l.length ≤ 17592186044416 ∧ ∀ r ∈ l, r.length ≤ 17592186044416
def okS (s : Tup) : Prop := okT s.2.2.1 ∧ okT s.2.2.2

theorem isState_eq (m : Tup) (n : Int) : spec_machine_isState m n = some (inR m.1 n) := by
  unfold spec_machine_isState inR
  by_cases h : 0 ≤ n <;> simp [h]
theorem isAnswer_eq (n : Int) : spec_isAnswer n = some (ansB n) := by
  unfold spec_isAnswer ansB
  by_cases h : 0 ≤ n <;> simp [h]

theorem all_state (m : Tup) (xs : List Int) (hl : xs.length ≤ maxLen) : spec_all m xs = some (xs.all (inR m.1)) := by
  unfold spec_all
  rw [whileO_all xs (inR m.1) (fun k x hk => ?_) ?_]
  · cases xs.all (inR m.1) <;> simp [spec_all_k1]
  · unfold spec_all_b1; simp
  · have hlt := (List.getElem?_eq_some_iff.1 hk).1
    unfold spec_all_b1
    rw [if_pos (by simpa using hlt), ck_pos (by omega), ck_pos (by omega), Int.toNat_natCast, getD_of hk, isState_eq]
    cases hp : inR m.1 x
    · simp
    · simp [ck_pos (inK_nat hlt hl)]

theorem all_answer (xs : List Int) (hl : xs.length ≤ maxLen) : spec_all_2 xs = some (xs.all ansB) := by
  unfold spec_all_2
  rw [whileO_all xs ansB (fun k x hk => ?_) ?_]
  · cases xs.all ansB <;> simp [spec_all_2_k1]
  · unfold spec_all_2_b1; simp
  · have hlt := (List.getElem?_eq_some_iff.1 hk).1
    unfold spec_all_2_b1
    rw [if_pos (by simpa using hlt), ck_pos (by omega), ck_pos (by omega), Int.toNat_natCast, getD_of hk, isAnswer_eq]
    cases hp : ansB x
    · simp
    · simp [ck_pos (inK_nat hlt hl)]

theorem len_ok {n : Nat} (h : n ≤ 17592186044416) : n ≤ maxLen := by rw [maxLen_num]; omega

theorem isTable_eq (m : Tup) (t : List (List Int)) (ht : okT t) : spec_machine_isTable m t m = some (tab m.1 m.2.1 (inR m.1) t) := by
  unfold spec_machine_isTable tab
  by_cases h0 : (t.length : Int) = m.1
  · rw [if_neg (by simp [h0]), whileO_all t (fun r => decide ((r.length : Int) = m.2.1) && r.all (inR m.1)) (fun k x hk => ?_) ?_]
    · cases ha : t.all (fun r => decide ((r.length : Int) = m.2.1) && r.all (inR m.1)) <;> simp [spec_machine_isTable_k1, h0, ha]
    · unfold spec_machine_isTable_b1; simp
    · have hlt := (List.getElem?_eq_some_iff.1 hk).1
      unfold spec_machine_isTable_b1
      rw [if_pos (by simpa using hlt), ck_pos (by omega), ck_pos (by omega), Int.toNat_natCast, getD_of hk, all_state m x (len_ok (ht.2 x (List.mem_of_getElem? hk)))]
      by_cases h1 : (x.length : Int) = m.2.1
      · cases hp : x.all (inR m.1)
        · simp [h1]
        · simp [h1, ck_pos (inK_nat hlt (len_ok ht.1))]
      · simp [h1]
  · simp [h0]

theorem isTable2_eq (m : Tup) (t : List (List Int)) (ht : okT t) : spec_machine_isTable_2 m t = some (tab m.1 m.2.1 ansB t) := by
  unfold spec_machine_isTable_2 tab
  by_cases h0 : (t.length : Int) = m.1
  · rw [if_neg (by simp [h0]), whileO_all t (fun r => decide ((r.length : Int) = m.2.1) && r.all ansB) (fun k x hk => ?_) ?_]
    · cases ha : t.all (fun r => decide ((r.length : Int) = m.2.1) && r.all ansB) <;> simp [spec_machine_isTable_2_k1, h0, ha]
    · unfold spec_machine_isTable_2_b1; simp
    · have hlt := (List.getElem?_eq_some_iff.1 hk).1
      unfold spec_machine_isTable_2_b1
      rw [if_pos (by simpa using hlt), ck_pos (by omega), ck_pos (by omega), Int.toNat_natCast, getD_of hk, all_answer x (len_ok (ht.2 x (List.mem_of_getElem? hk)))]
      by_cases h1 : (x.length : Int) = m.2.1
      · cases hp : x.all ansB
        · simp [h1]
        · simp [h1, ck_pos (inK_nat hlt (len_ok ht.1))]
      · simp [h1]
  · simp [h0]

theorem Valid_eq (s : Tup) (hs : okS s) : spec_Valid s = some (toSp s).ok := by
  unfold spec_Valid Sp.ok toSp
  rw [isTable_eq s _ hs.1, isTable2_eq s _ hs.2]
  by_cases h1 : s.1 < 1
  · simp [h1]; omega
  by_cases h2 : 8 < s.1
  · simp [h1, h2]; omega
  by_cases h3 : s.2.1 < 1
  · simp [h1, h2, h3]; omega
  by_cases h4 : 4 < s.2.1
  · simp [h1, h2, h3, h4]; omega
  have e1 : decide (1 ≤ s.1) = true := by simp; omega
  have e2 : decide (s.1 ≤ 8) = true := by simp; omega
  have e3 : decide (1 ≤ s.2.1) = true := by simp; omega
  have e4 : decide (s.2.1 ≤ 4) = true := by simp; omega
  simp only [h1, h2, h3, h4, decide_false, Bool.false_eq_true, if_false, Option.bind_some, e1, e2, e3, e4, Bool.true_and]
  cases tab s.1 s.2.1 (inR s.1) s.2.2.1 <;> simp

end Go.Proofs.Ytlfpagicagmjgaa
