/-
  Layer 1, pure: words that run; the specification begun in another state and run.
-/
import Derived.Test.YtcgflignbhmoaaaP3
namespace Go.Proofs.Ytcgflignbhmoaaa
open Go.RowKit

set_option linter.unusedVariables false
set_option linter.unusedSimpArgs false

def runStep (s : Tup) (p : List Int × Int) (o : Int) : List Int × Int := (p.1 ++ [at2 s.2.2.2 p.2 o.toNat], at2 s.2.2.1 p.2 o.toNat)
/-- The answers of a word from a state, and the state behind it. -/
def runF (s : Tup) (q : Int) (w : List Int) : List Int × Int := w.foldl (runStep s) ([], q)

def wordB (s : Tup) (w : List Int) : Bool := decide (w.length ≤ 20) && w.all (inR s.2.1)

theorem getD_at (rs : List (List Int)) (q o : Int) : (rs.getD q.toNat []).getD o.toNat 0 = at2 rs q o.toNat := by simp [at2, List.getD]

theorem run_step_ok {s : Tup} (hv : (toSp s).ok = true) {q o : Int} (hq : inR s.1 q = true) (ho : inR s.2.1 o = true) :
    0 ≤ q ∧ q < (s.2.2.2.length : Int) ∧ q < (s.2.2.1.length : Int) ∧ 0 ≤ o ∧ o < ((s.2.2.2.getD q.toNat []).length : Int) ∧ o < ((s.2.2.1.getD q.toNat []).length : Int) ∧ inR s.1 (at2 s.2.2.1 q o.toNat) = true := by
  have hm := Sp.okE hv
  simp only [inR, decide_eq_true_eq] at ho
  obtain ⟨n, rfl⟩ := Int.eq_ofNat_of_zero_le ho.1
  obtain ⟨a1, a2, a3, a4⟩ := at_row hm.2.2.2.2.1 (q := q) hq (o := n) ho.2
  obtain ⟨b1, b2, b3, b4⟩ := at_row hm.2.2.2.2.2 (q := q) hq (o := n) ho.2
  exact ⟨a1, b2, a2, ho.1, b3, a3, a4⟩

theorem wordB_all {s : Tup} {w : List Int} (h : wordB s w = true) : w.length ≤ 20 ∧ ∀ o ∈ w, inR s.2.1 o = true := by
  unfold wordB at h
  rw [Bool.and_eq_true, decide_eq_true_eq, List.all_eq_true] at h
  exact h

theorem machine_run_eq {s : Tup} (hv : (toSp s).ok = true) {q : Int} (hq : inR s.1 q = true) {w : List Int} (hw : wordB s w = true) :
    spec_machine_run s q w = some (runF s q w) ∧ (runF s q w).1.length = w.length ∧ inR s.1 (runF s q w).2 = true := by
  obtain ⟨hl, ha⟩ := wordB_all hw
  have key := whileO_list (body := spec_machine_run_b1 s w) (fun (p : List Int × Int) (i : Int) => (p.1, p.2, i)) w (runStep s) id (fun k p => p.1.length = k ∧ inR s.1 p.2 = true) (s0 := ([], q)) ⟨rfl, hq⟩ (fun k o p hk hp => ?_) (fun p hp => ?_)
  · unfold spec_machine_run
    rw [key.1, Option.bind_some]
    exact ⟨rfl, key.2⟩
  · have hlt := (List.getElem?_eq_some_iff.1 hk).1
    obtain ⟨c1, c2, c3, c4, c5, c6, c7⟩ := run_step_ok hv hp.2 (ha o (List.mem_of_getElem? hk))
    refine ⟨?_, by simp [runStep, hp.1], c7⟩
    unfold spec_machine_run_b1
    simp only [Int.toNat_natCast, getD_of hk, getD_at]
    rw [if_pos (by simpa using hlt), ck_pos (by omega), ck_pos (by omega), ck_pos c1, ck_pos c2, ck_pos c4, ck_pos c5, ck_pos (by have := hp.1; omega), ck_pos c1, ck_pos c3, ck_pos c4, ck_pos c6, ck_pos (by rw [inK_i64]; omega)]
    rfl
  · unfold spec_machine_run_b1
    rw [if_neg (by simp)]; rfl

theorem ref_run_eq {s : Tup} (hv : (toSp s).ok = true) {q : Int} (hq : inR s.1 q = true) {w : List Int} (hw : wordB s w = true) : linealref01_run s q w = some (runF s q w) := by
  obtain ⟨hl, ha⟩ := wordB_all hw
  have key := whileO_list (body := linealref01_run_b1 s w) (fun (p : List Int × Int) (i : Int) => (p.1, p.2, i)) w (runStep s) id (fun k p => p.1.length = k ∧ inR s.1 p.2 = true) (s0 := ([], q)) ⟨rfl, hq⟩ (fun k o p hk hp => ?_) (fun p hp => ?_)
  · unfold linealref01_run
    rw [key.1, Option.bind_some]
    rfl
  · have hlt := (List.getElem?_eq_some_iff.1 hk).1
    obtain ⟨c1, c2, c3, c4, c5, c6, c7⟩ := run_step_ok hv hp.2 (ha o (List.mem_of_getElem? hk))
    refine ⟨?_, by simp [runStep, hp.1], c7⟩
    unfold linealref01_run_b1
    simp only [Int.toNat_natCast, getD_of hk, getD_at]
    rw [if_pos (by simpa using hlt), ck_pos (by omega), ck_pos (by omega), ck_pos c1, ck_pos c2, ck_pos c4, ck_pos c5, ck_pos (by have := hp.1; omega), ck_pos c1, ck_pos c3, ck_pos c4, ck_pos c6, ck_pos (by rw [inK_i64]; omega)]
    rfl
  · unfold linealref01_run_b1
    rw [if_neg (by simp)]; rfl

theorem isCall_eq (m : Tup) (n : Int) : spec_machine_isCall m n = some (inR m.2.1 n) := by
  unfold spec_machine_isCall inR
  by_cases h : 0 ≤ n <;> simp [h]

theorem all_call (m : Tup) (xs : List Int) (hl : xs.length ≤ maxLen) : spec_all_3 m xs = some (xs.all (inR m.2.1)) := by
  unfold spec_all_3
  rw [whileO_all xs (inR m.2.1) (fun k x hk => ?_) ?_]
  · cases xs.all (inR m.2.1) <;> simp [spec_all_3_k1]
  · unfold spec_all_3_b1; simp
  · have hlt := (List.getElem?_eq_some_iff.1 hk).1
    unfold spec_all_3_b1
    rw [if_pos (by simpa using hlt), ck_pos (by omega), ck_pos (by omega), Int.toNat_natCast, getD_of hk, isCall_eq]
    cases hp : inR m.2.1 x
    · simp
    · simp [ck_pos (inK_nat hlt hl)]

theorem machine_isWord_eq (m : Tup) (w : List Int) (hl : w.length ≤ maxLen) : spec_machine_isWord m w = some (wordB m w) := by
  unfold spec_machine_isWord wordB
  by_cases h : w.length ≤ 20
  · rw [if_pos (by simp; omega), all_call m w hl]; simp [h]
  · rw [if_neg (by simp; omega)]; simp [h]

theorem IsOp_eq (m : Tup) (n : Int) : linealref01_IsOp m n = some (inR m.2.1 n) := by
  unfold linealref01_IsOp inR
  by_cases h : 0 ≤ n <;> simp [h]

theorem IsWord_eq (m : Tup) (w : List Int) (hl : w.length ≤ maxLen) : linealref01_IsWord m w = some (wordB m w) := by
  unfold linealref01_IsWord wordB
  rw [whileO_all w (inR m.2.1) (fun k x hk => ?_) ?_]
  · cases w.all (inR m.2.1)
    · simp
    · simp [linealref01_IsWord_k1]; omega
  · unfold linealref01_IsWord_b1; simp
  · have hlt := (List.getElem?_eq_some_iff.1 hk).1
    unfold linealref01_IsWord_b1
    rw [if_pos (by simpa using hlt), ck_pos (by omega), ck_pos (by omega), Int.toNat_natCast, getD_of hk, IsOp_eq]
    cases hp : inR m.2.1 x
    · simp
    · simp [ck_pos (inK_nat hlt hl)]

/-- The answer of Run. -/
def runOf (s : Tup) (a : Int) (w : List Int) : List Int × Int × Int :=
  if (toSp s).ok = true then (if inR s.1 a = true then (if wordB s w = true then ((runF s a w).1, (runF s a w).2, 0) else ([], 0, 2)) else ([], 0, 2)) else ([], 0, 10)

theorem Run_eq (s : Tup) (hs : okS s) (a : Int) (w : List Int) (hl : w.length ≤ maxLen) : spec_Run s a w = some (runOf s a w) := by
  unfold spec_Run runOf
  rw [checked_eq s hs [a] (by rw [maxLen_num]; simp), Option.bind_some]
  cases hv : (toSp s).ok
  · simp
  simp only [if_true, List.all_cons, List.all_nil, Bool.and_true]
  cases ha : inR s.1 a
  · simp
  simp only [if_true, decide_true, Bool.not_true, Bool.false_eq_true, if_false]
  rw [machine_isWord_eq _ w hl, Option.bind_some]
  cases hw : wordB s w
  · simp
  · simp only [Bool.not_true, Bool.false_eq_true, if_false, if_true]
    rw [show ((s.1, s.2.1, s.2.2.1, s.2.2.2) : Tup) = s from rfl, (machine_run_eq hv ha hw).1]; rfl

theorem refRun_eq (s : Tup) (hs : okS s) (a : Int) (w : List Int) (hl : w.length ≤ maxLen) : linealref01_Run s a w = some (runOf s a w) := by
  unfold linealref01_Run runOf
  rw [refValid_eq s hs, Option.bind_some, IsState_eq, IsWord_eq _ w hl]
  cases hv : (toSp s).ok
  · simp
  cases ha : inR s.1 a
  · simp
  cases hw : wordB s w
  · simp
  · simp only [Bool.not_true, Bool.false_eq_true, if_false, if_true, Option.bind_some]
    rw [ref_run_eq hv ha hw]; rfl

theorem slices_Equal_eq (a b : List Int) (h : a.length ≤ maxLen) : slices_Equal a b = some (decide (a = b)) := by
  unfold slices_Equal
  by_cases hl : a.length = b.length
  · have hz : (a.zip b).length = a.length := by simp [hl]
    rw [if_neg (by simp [hl]), whileO_all (a.zip b) (fun q => decide (q.1 = q.2)) (fun k x hk => ?_) ?_]
    · rw [all_zip_eq a b hl]
      by_cases e : a = b <;> simp [e, slices_Equal_k1]
    · rw [hz]; unfold slices_Equal_b1; rw [if_neg (by simp)]
    · obtain ⟨h1, h2⟩ := List.getElem?_zip_eq_some.1 hk
      have hlt := (List.getElem?_eq_some_iff.1 h1).1
      have hlt2 := (List.getElem?_eq_some_iff.1 h2).1
      unfold slices_Equal_b1
      rw [if_pos (by simpa using hlt), ck_pos (by omega), ck_pos (by omega), ck_pos (by omega), ck_pos (by omega), Int.toNat_natCast, getD_of h1, getD_of h2]
      by_cases e : x.1 = x.2
      · simp [e, ck_pos (inK_nat hlt h)]
      · simp [e]
  · rw [if_pos (by simp; omega)]
    have : ¬ a = b := fun e => hl (by rw [e])
    simp [this]

/-- The answer of Tells. -/
def tellsOf (s : Tup) (a b : Int) (w : List Int) : Bool × Int :=
  if (toSp s).ok = true then (if inR s.1 a = true ∧ inR s.1 b = true then (if wordB s w = true then (!decide ((runF s a w).1 = (runF s b w).1), 0) else (false, 2)) else (false, 2)) else (false, 10)

theorem Tells_eq (s : Tup) (hs : okS s) (a b : Int) (w : List Int) (hl : w.length ≤ maxLen) : spec_Tells s a b w = some (tellsOf s a b w) := by
  unfold spec_Tells tellsOf
  rw [checked_eq s hs [a, b] (by rw [maxLen_num]; simp), Option.bind_some]
  cases hv : (toSp s).ok
  · simp
  simp only [if_true, List.all_cons, List.all_nil, Bool.and_true]
  cases ha : inR s.1 a
  · simp
  cases hb : inR s.1 b
  · simp
  simp only [if_true, decide_true, Bool.not_true, Bool.false_eq_true, if_false, Bool.and_self, and_self]
  rw [machine_isWord_eq _ w hl, Option.bind_some]
  cases hw : wordB s w
  · simp
  · simp only [Bool.not_true, Bool.false_eq_true, if_false, if_true]
    have h1 := machine_run_eq hv ha hw
    have h2 := machine_run_eq hv hb hw
    rw [show ((s.1, s.2.1, s.2.2.1, s.2.2.2) : Tup) = s from rfl, h1.1, h2.1, Option.bind_some, Option.bind_some, slices_Equal_eq _ _ (by rw [h1.2.1]; exact hl)]
    rfl

theorem refTells_eq (s : Tup) (hs : okS s) (a b : Int) (w : List Int) (hl : w.length ≤ maxLen) : linealref01_Tells s a b w = some (tellsOf s a b w) := by
  unfold linealref01_Tells tellsOf
  rw [asked_eq s hs, Option.bind_some, IsWord_eq _ w hl]
  cases hv : (toSp s).ok
  · simp [linealref01_Tells_k1]
  cases ha : inR s.1 a
  · simp [linealref01_Tells_k1]
  cases hb : inR s.1 b
  · simp [linealref01_Tells_k1]
  cases hw : wordB s w
  · simp [linealref01_Tells_k1]
  · simp only [if_true, and_self, decide_true, Option.bind_some, Bool.not_true, Bool.false_eq_true, if_false, linealref01_Tells_k1]
    have h1 := machine_run_eq hv ha hw
    rw [ref_run_eq hv ha hw, ref_run_eq hv hb hw, Option.bind_some, Option.bind_some, SameInts_eq _ _ (by rw [h1.2.1]; exact hl)]
    rfl

theorem runOf_len (s : Tup) (a : Int) (w : List Int) (hl : w.length ≤ maxLen) : (runOf s a w).1.length ≤ maxLen := by
  unfold runOf
  split
  · split
    · split
      · rename_i hv ha hw
        rw [(machine_run_eq hv ha hw).2.1]; exact hl
      · simp
    · simp
  · simp

/-- The law holds. -/
theorem SpecRuns_eq (s : Tup) (hs : okS s) (a b : Int) (w : List Int) (hl : w.length ≤ maxLen) : lineallaw01_SpecRuns s a b w = some true := by
  unfold lineallaw01_SpecRuns
  rw [Long_eq s hs, Awake_eq, Option.bind_some]
  cases wideB s.2.2.1 || wideB s.2.2.2
  · rw [Run_eq s hs a w hl, refRun_eq s hs a w hl, Tells_eq s hs a b w hl, refTells_eq s hs a b w hl, Valid_eq s hs, refValid_eq s hs]
    simp only [Option.bind_some, Bool.false_eq_true, if_false]
    by_cases h : 100 < (w.length : Int)
    · simp [h]
    · rw [SameInts_eq _ _ (runOf_len s a w hl)]
      simp [h]
  · simp

/-! ### Begun, and run -/

/-- The specification, begun. -/
def begT (s : Tup) (a : Int) : Tup := (s.1, s.2.1, begNx s a, begSy s a)

theorem exN_exN (a n : Int) : exN a (exN a n) = n := by
  unfold exN
  by_cases h0 : n = 0
  · by_cases h1 : a = 0 <;> simp [h0, h1]
  · by_cases h1 : n = a
    · subst h1; simp [h0]
    · simp [h0, h1]

theorem exN_self (a : Int) : exN a a = 0 := by unfold exN; split <;> simp_all

theorem tab_iff {st op : Int} {p : Int → Bool} {rs : List (List Int)} : tab st op p rs = true ↔ (rs.length : Int) = st ∧ ∀ r ∈ rs, (r.length : Int) = op ∧ ∀ x ∈ r, p x = true := by
  unfold tab
  simp [List.all_eq_true]

theorem inR_ex {st a n : Int} (ha : inR st a = true) (hn : inR st n = true) : inR st (exN a n) = true := by
  simp only [inR, decide_eq_true_eq] at *
  exact exN_in ha hn

theorem begRow {s : Tup} (hv : (toSp s).ok = true) {a : Int} (ha : inR s.1 a = true) {q : Int} (hq : inR s.1 q = true) :
    (begNx s a).getD q.toNat [] = (s.2.2.1.getD (exN a q).toNat []).map (exN a) ∧ (begSy s a).getD q.toNat [] = s.2.2.2.getD (exN a q).toNat [] := by
  simp only [inR, decide_eq_true_eq] at hq
  obtain ⟨n, rfl⟩ := Int.eq_ofNat_of_zero_le hq.1
  have hn : n < s.1.toNat := by omega
  unfold begNx begSy
  simp [List.getD, hn]

theorem begT_ok {s : Tup} (hv : (toSp s).ok = true) {a : Int} (ha : inR s.1 a = true) : (toSp (begT s a)).ok = true := by
  have hm := Sp.okE hv
  have h1 : 1 ≤ s.1 := hm.1
  have h2 : s.1 ≤ 8 := hm.2.1
  have h3 : 1 ≤ s.2.1 := hm.2.2.1
  have h4 : s.2.1 ≤ 4 := hm.2.2.2.1
  have h5 : tab s.1 s.2.1 (inR s.1) s.2.2.1 = true := hm.2.2.2.2.1
  have h6 : tab s.1 s.2.1 ansB s.2.2.2 = true := hm.2.2.2.2.2
  have t1 : tab s.1 s.2.1 (inR s.1) (begNx s a) = true := by
    refine tab_iff.2 ⟨by simp [begNx]; omega, fun r hr => ?_⟩
    simp only [begNx, List.mem_map, List.mem_range] at hr
    obtain ⟨k, hk, rfl⟩ := hr
    have hek : inR s.1 (exN a k) = true := inR_ex ha (by simp only [inR, decide_eq_true_eq]; omega)
    obtain ⟨r, hr, hrl, hrp, _⟩ := row_at h5 (by simpa [inR] using hek)
    rw [getD_of hr]
    refine ⟨by simpa using hrl, fun x hx => ?_⟩
    obtain ⟨y, hy, rfl⟩ := List.mem_map.1 hx
    exact inR_ex ha (hrp y hy)
  have t2 : tab s.1 s.2.1 ansB (begSy s a) = true := by
    refine tab_iff.2 ⟨by simp [begSy]; omega, fun r hr => ?_⟩
    simp only [begSy, List.mem_map, List.mem_range] at hr
    obtain ⟨k, hk, rfl⟩ := hr
    have hek : inR s.1 (exN a k) = true := inR_ex ha (by simp only [inR, decide_eq_true_eq]; omega)
    obtain ⟨r, hr, hrl, hrp, _⟩ := row_at h6 (by simpa [inR] using hek)
    rw [getD_of hr]
    exact ⟨hrl, hrp⟩
  unfold Sp.ok toSp begT
  simp only [t1, t2, Bool.and_true, Bool.and_eq_true, decide_eq_true_eq]
  omega

theorem begT_at {s : Tup} (hv : (toSp s).ok = true) {a : Int} (ha : inR s.1 a = true) {q o : Int} (hq : inR s.1 q = true) (ho : inR s.2.1 o = true) :
    at2 (begT s a).2.2.1 q o.toNat = exN a (at2 s.2.2.1 (exN a q) o.toNat) ∧ at2 (begT s a).2.2.2 q o.toNat = at2 s.2.2.2 (exN a q) o.toNat := by
  obtain ⟨e1, e2⟩ := begRow hv ha hq
  have hm := Sp.okE hv
  obtain ⟨r, hr, hrl, hrp, _⟩ := row_at (show tab s.1 s.2.1 (inR s.1) s.2.2.1 = true from hm.2.2.2.2.1) (by simpa [inR] using inR_ex ha hq)
  simp only [inR, decide_eq_true_eq] at ho
  refine ⟨?_, ?_⟩
  · rw [← getD_at, ← getD_at]
    show ((begNx s a).getD q.toNat []).getD o.toNat 0 = _
    rw [e1, getD_of hr]
    obtain ⟨x, hx⟩ := get_of_lt (xs := r) (k := o.toNat) (by omega)
    rw [getD_of hx, getD_of (map_get hx)]
  · rw [← getD_at, ← getD_at]
    show ((begSy s a).getD q.toNat []).getD o.toNat 0 = _
    rw [e2]

theorem begT_run {s : Tup} (hv : (toSp s).ok = true) {a : Int} (ha : inR s.1 a = true) : ∀ (w : List Int), (∀ o ∈ w, inR s.2.1 o = true) → ∀ (acc : List Int) (q : Int), inR s.1 q = true →
    w.foldl (runStep (begT s a)) (acc, exN a q) = ((w.foldl (runStep s) (acc, q)).1, exN a (w.foldl (runStep s) (acc, q)).2)
  | [], _, acc, q, _ => rfl
  | o :: w, hw, acc, q, hq => by
    have ho := hw o (by simp)
    obtain ⟨e1, e2⟩ := begT_at hv ha (inR_ex ha hq) ho
    rw [exN_exN] at e1 e2
    simp only [List.foldl_cons, runStep]
    rw [e1, e2]
    exact begT_run hv ha w (fun o h => hw o (by simp [h])) _ _ (run_step_ok hv hq ho).2.2.2.2.2.2

theorem begNx_twice {s : Tup} (hv : (toSp s).ok = true) {a : Int} (ha : inR s.1 a = true) : begT (begT s a) a = s := by
  have hm := Sp.okE hv
  have h5 : tab s.1 s.2.1 (inR s.1) s.2.2.1 = true := hm.2.2.2.2.1
  have h6 : tab s.1 s.2.1 ansB s.2.2.2 = true := hm.2.2.2.2.2
  have l5 := (tab_iff.1 h5).1
  have l6 := (tab_iff.1 h6).1
  have hid : ∀ (r : List Int), (r.map (exN a)).map (exN a) = r := fun r => by
    rw [List.map_map]
    conv => rhs; rw [← List.map_id r]
    exact List.map_congr_left fun x _ => exN_exN a x
  have e1 : begNx (begT s a) a = s.2.2.1 := by
    refine List.ext_getElem? fun i => ?_
    unfold begNx
    by_cases hi : i < s.1.toNat
    · have hik : inR s.1 (exN a i) = true := inR_ex ha (by simp only [inR, decide_eq_true_eq]; omega)
      have := (begRow hv ha hik).1
      rw [exN_exN, Int.toNat_natCast] at this
      have hlt : i < s.2.2.1.length := by omega
      simp only [begT]
      rw [List.getElem?_map, List.getElem?_range hi, Option.map_some, this, hid, getD_of (List.getElem?_eq_getElem hlt), List.getElem?_eq_getElem hlt]
    · rw [List.getElem?_eq_none (by simp [begT]; omega), List.getElem?_eq_none (by omega)]
  have e2 : begSy (begT s a) a = s.2.2.2 := by
    refine List.ext_getElem? fun i => ?_
    unfold begSy
    by_cases hi : i < s.1.toNat
    · have hik : inR s.1 (exN a i) = true := inR_ex ha (by simp only [inR, decide_eq_true_eq]; omega)
      have := (begRow hv ha hik).2
      rw [exN_exN, Int.toNat_natCast] at this
      have hlt : i < s.2.2.2.length := by omega
      simp only [begT]
      rw [List.getElem?_map, List.getElem?_range hi, Option.map_some, this, getD_of (List.getElem?_eq_getElem hlt), List.getElem?_eq_getElem hlt]
    · rw [List.getElem?_eq_none (by simp [begT]; omega), List.getElem?_eq_none (by omega)]
  show (s.1, s.2.1, begNx (begT s a) a, begSy (begT s a) a) = s
  rw [e1, e2]

/-- The law holds. -/
theorem SpecTurns_eq (s : Tup) (hs : okS s) (x : Int) (hx : InK .u8 x) (w : List Int) (hl : w.length ≤ maxLen) : lineallaw01_SpecTurns s x w = some true := by
  unfold lineallaw01_SpecTurns
  rw [Long_eq s hs, Awake_eq, Option.bind_some]
  cases wideB s.2.2.1 || wideB s.2.2.2
  rotate_left
  · simp
  rw [refValid_eq s hs, IsWord_eq s w hl]
  cases hv : (toSp s).ok
  · simp
  cases hw : wordB s w
  · simp
  have hm := Sp.okE hv
  have h1 : 1 ≤ s.1 := hm.1
  have h2 : s.1 ≤ 8 := hm.2.1
  have hx8 : 0 ≤ x ∧ x ≤ 255 := by unfold InK at hx; simpa [IntKind.min, IntKind.max, IntKind.signed, IntKind.bits] using hx
  have ha : inR s.1 (x % s.1) = true := by
    simp only [inR, decide_eq_true_eq]
    exact ⟨Int.emod_nonneg _ (by omega), Int.emod_lt_of_pos _ (by omega)⟩
  simp only [Option.bind_some, Bool.false_eq_true, if_false, Bool.not_true]
  rw [ck_pos (by rw [inK_i64]; omega), ck_pos hx8.1, ck_pos (by omega)]
  generalize x % s.1 = a at ha ⊢
  have b1 : begOf s a = (s.1, s.2.1, begNx s a, begSy s a, 0) := by unfold begOf; rw [if_pos hv, if_pos ha]
  rw [specBegun_eq s hs a, Option.bind_some, b1]
  have hs2 : okS (begT s a) := by have := begOf_ok s hs a; rwa [b1] at this
  have hv2 := begT_ok hv ha
  have b2 : begOf (begT s a) a = (s.1, s.2.1, s.2.2.1, s.2.2.2, 0) := by
    have ha2 : inR (begT s a).1 a = true := ha
    unfold begOf; rw [if_pos hv2, if_pos ha2]
    have := begNx_twice hv ha
    have q1 := congrArg (fun t : Tup => t.2.2.1) this
    have q2 := congrArg (fun t : Tup => t.2.2.2) this
    simp only [begT] at q1 q2 ⊢
    rw [q1, q2]
  have e0 : ((s.1, s.2.1, begNx s a, begSy s a) : Tup) = begT s a := rfl
  simp only [e0]
  rw [specBegun_eq _ hs2 a, Option.bind_some, b2, Run_eq s hs a w hl, Option.bind_some, Run_eq _ hs2 0 w hl, Option.bind_some]
  have r1 : runOf s a w = ((runF s a w).1, (runF s a w).2, 0) := by unfold runOf; rw [if_pos hv, if_pos ha, if_pos hw]
  have hw2 : wordB (begT s a) w = true := hw
  have h0 : inR (begT s a).1 0 = true := by simp only [inR, decide_eq_true_eq]; exact ⟨by omega, h1⟩
  have r2 : runOf (begT s a) 0 w = ((runF s a w).1, exN a (runF s a w).2, 0) := by
    unfold runOf; rw [if_pos hv2, if_pos h0, if_pos hw2]
    have := begT_run hv ha w (wordB_all hw).2 [] a ha
    rw [exN_self] at this
    unfold runF
    rw [this]
  rw [r1, r2]
  simp only [decide_true, Bool.not_true, Bool.false_eq_true, if_false]
  rw [show ((s.1, s.2.1, s.2.2.1, s.2.2.2) : Tup) = s from rfl, Equal_eq s s hs, SameInts_eq _ _ (by rw [(machine_run_eq hv ha hw).2.1]; exact hl)]
  simp only [decide_true, Option.bind_some, Bool.not_true, Bool.false_eq_true, if_false]
  unfold lineallaw01_SpecTurns_k1
  rw [Awake_eq]
  generalize (runF s a w).2 = to
  unfold exN
  by_cases c0 : to = 0
  · simp [c0]
  · by_cases c1 : to = a
    · simp [c0, c1]
      split <;> simp_all
    · simp [c0, c1]
end Go.Proofs.Ytcgflignbhmoaaa
