/-
  Layer 1, pure: words that run; the specification begun in another state and run.
-/
import Derived.Test.YtcgflignbhmoaaaP3
namespace Go.Proofs.Ytcgflignbhmoaaa
open Go.RowKit

set_option linter.unusedVariables false
set_option linter.unusedSimpArgs false

def runStep (s : Tup) (p : List Int × Int) (o : Int) : List Int × Int := (p.1 ++ [at2 s.2.2.2 p.2 o.toNat], at2 s.2.2.1 p.2 o.toNat)
/-- The answers of a word from a state, and the state behind it. -/
def runF (s : Tup) (q : Int) (w : List Int) : List Int × Int := w.foldl (runStep s) ([], q)

def wordB (s : Tup) (w : List Int) : Bool := decide (w.length ≤ 20) && w.all (inR s.2.1)

theorem getD_at (rs : List (List Int)) (q o : Int) : (rs.getD q.toNat []).getD o.toNat 0 = at2 rs q o.toNat := by simp [at2, List.getD]

theorem run_step_ok {s : Tup} (hv : (toSp s).ok = true) {q o : Int} (hq : inR s.1 q = true) (ho : inR s.2.1 o = true) :
    0 ≤ q ∧ q < (s.2.2.2.length : Int) ∧ q < (s.2.2.1.length : Int) ∧ 0 ≤ o ∧ o < ((s.2.2.2.getD q.toNat []).length : Int) ∧ o < ((s.2.2.1.getD q.toNat []).length : Int) ∧ inR s.1 (at2 s.2.2.1 q o.toNat) = true := by
  have hm := Sp.okE hv
  simp only [inR, decide_eq_true_eq] at ho
  obtain ⟨n, rfl⟩ := Int.eq_ofNat_of_zero_le ho.1
  obtain ⟨a1, a2, a3, a4⟩ := at_row hm.2.2.2.2.1 (q := q) hq (o := n) ho.2
  obtain ⟨b1, b2, b3, b4⟩ := at_row hm.2.2.2.2.2 (q := q) hq (o := n) ho.2
  exact ⟨a1, b2, a2, ho.1, b3, a3, a4⟩

theorem wordB_all {s : Tup} {w : List Int} (h : wordB s w = true) : w.length ≤ 20 ∧ ∀ o ∈ w, inR s.2.1 o = true := by
  unfold wordB at h
  rw [Bool.and_eq_true, decide_eq_true_eq, List.all_eq_true] at h
  exact h

theorem machine_run_eq {s : Tup} (hv : (toSp s).ok = true) {q : Int} (hq : inR s.1 q = true) {w : List Int} (hw : wordB s w = true) :
    spec_machine_run s q w = some (runF s q w) ∧ (runF s q w).1.length = w.length ∧ inR s.1 (runF s q w).2 = true := by
  obtain ⟨hl, ha⟩ := wordB_all hw
  have key := whileO_list (body := spec_machine_run_b1 s w) (fun (p : List Int × Int) (i : Int) => (p.1, p.2, i)) w (runStep s) id (fun k p => p.1.length = k ∧ inR s.1 p.2 = true) (s0 := ([], q)) ⟨rfl, hq⟩ (fun k o p hk hp => ?_) (fun p hp => ?_)
  · unfold spec_machine_run
    rw [key.1, Option.bind_some]
    exact ⟨rfl, key.2⟩
  · have hlt := (List.getElem?_eq_some_iff.1 hk).1
    obtain ⟨c1, c2, c3, c4, c5, c6, c7⟩ := run_step_ok hv hp.2 (ha o (List.mem_of_getElem? hk))
    refine ⟨?_, by simp [runStep, hp.1], c7⟩
    unfold spec_machine_run_b1
    simp only [Int.toNat_natCast, getD_of hk, getD_at]
    rw [if_pos (by simpa using hlt), ck_pos (by omega), ck_pos (by omega), ck_pos c1, ck_pos c2, ck_pos c4, ck_pos c5, ck_pos (by have := hp.1; omega), ck_pos c1, ck_pos c3, ck_pos c4, ck_pos c6, ck_pos (by rw [inK_i64]; omega)]
    rfl
  · unfold spec_machine_run_b1
    rw [if_neg (by simp)]; rfl

theorem ref_run_eq {s : Tup} (hv : (toSp s).ok = true) {q : Int} (hq : inR s.1 q = true) {w : List Int} (hw : wordB s w = true) : linealref01_run s q w = some (runF s q w) := by
  obtain ⟨hl, ha⟩ := wordB_all hw
  have key := whileO_list (body := linealref01_run_b1 s w) (fun (p : List Int × Int) (i : Int) => (p.1, p.2, i)) w (runStep s) id (fun k p => p.1.length = k ∧ inR s.1 p.2 = true) (s0 := ([], q)) ⟨rfl, hq⟩ (fun k o p hk hp => ?_) (fun p hp => ?_)
  · unfold linealref01_run
    rw [key.1, Option.bind_some]
    rfl
  · have hlt := (List.getElem?_eq_some_iff.1 hk).1
    obtain ⟨c1, c2, c3, c4, c5, c6, c7⟩ := run_step_ok hv hp.2 (ha o (List.mem_of_getElem? hk))
    refine ⟨?_, by simp [runStep, hp.1], c7⟩
    unfold linealref01_run_b1
    simp only [Int.toNat_natCast, getD_of hk, getD_at]
    rw [if_pos (by simpa using hlt), ck_pos (by omega), ck_pos (by omega), ck_pos c1, ck_pos c2, ck_pos c4, ck_pos c5, ck_pos (by have := hp.1; omega), ck_pos c1, ck_pos c3, ck_pos c4, ck_pos c6, ck_pos (by rw [inK_i64]; omega)]
    rfl
  · unfold linealref01_run_b1
    rw [if_neg (by simp)]; rfl

theorem isCall_eq (m : Tup) (n : Int) : spec_machine_isCall m n = some (inR m.2.1 n) := by
  unfold spec_machine_isCall inR
  by_cases h : 0 ≤ n <;> simp [h]

theorem all_call (m : Tup) (xs : List Int) (hl : xs.length ≤ maxLen) : spec_all_3 m xs = some (xs.all (inR m.2.1)) := by
  unfold spec_all_3
  rw [whileO_all xs (inR m.2.1) (fun k x hk => ?_) ?_]
  · cases xs.all (inR m.2.1) <;> simp [spec_all_3_k1]
  · unfold spec_all_3_b1; simp
  · have hlt := (List.getElem?_eq_some_iff.1 hk).1
    unfold spec_all_3_b1
    rw [if_pos (by simpa using hlt), ck_pos (by omega), ck_pos (by omega), Int.toNat_natCast, getD_of hk, isCall_eq]
    cases hp : inR m.2.1 x
    · simp
    · simp [ck_pos (inK_nat hlt hl)]

theorem IsOp_eq (m : Tup) (n : Int) : linealref01_IsOp m n = some (inR m.2.1 n) := by
  unfold linealref01_IsOp inR
  by_cases h : 0 ≤ n <;> simp [h]

/-- The answer of Run. -/
def runOf (s : Tup) (a : Int) (w : List Int) : List Int × Int × Int :=
  if (toSp s).ok = true then (if inR s.1 a = true then (if wordB s w = true then ((runF s a w).1, (runF s a w).2, 0) else ([], 0, 2)) else ([], 0, 2)) else ([], 0, 10)

/-- The answer of Tells. -/
def tellsOf (s : Tup) (a b : Int) (w : List Int) : Bool × Int :=
  if (toSp s).ok = true then (if inR s.1 a = true ∧ inR s.1 b = true then (if wordB s w = true then (!decide ((runF s a w).1 = (runF s b w).1), 0) else (false, 2)) else (false, 2)) else (false, 10)

/-! ### Begun, and run -/

/-- The specification, begun. -/
def begT (s : Tup) (a : Int) : Tup := (s.1, s.2.1, begNx s a, begSy s a)

end Go.Proofs.Ytcgflignbhmoaaa
