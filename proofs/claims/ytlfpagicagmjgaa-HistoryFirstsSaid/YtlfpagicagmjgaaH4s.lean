/-
  Layer 2, pure: several specifications.
-/
import Derived.Test.YtlfpagicagmjgaaH2a
import Derived.Test.YtlfpagicagmjgaaHs
import Derived.Test.YtlfpagicagmjgaaRdr
namespace Go.Proofs.Ytlfpagicagmjgaa
open Go.RowKit

set_option linter.unusedVariables false
set_option linter.unusedSimpArgs false
set_option maxRecDepth 10000

/-- What the memory's bound says of specifications. -/
def fewS (specs : List Tup) : Prop := few specs ∧ ∀ s ∈ specs, few s.2.2.1 ∧ few s.2.2.2

theorem fewS_el {specs : List Tup} (k : okEl (.sl (.pair (.int .i64) (.pair (.int .i64) (.pair (.sl (.sl (.int .i64))) (.sl (.sl (.int .i64))))))) specs) : fewS specs := by
  obtain ⟨k1, _, k2⟩ := k
  have e1 : Ty.bytes (.pair (.int .i64) (.pair (.int .i64) (.pair (.sl (.sl (.int .i64))) (.sl (.sl (.int .i64)))))) = 64 := rfl
  have e2 : Ty.bytes (.sl (.int .i64)) = 24 := rfl
  rw [e1] at k1
  have q : ∀ rs : List (List Int), okEl (.sl (.sl (.int .i64))) rs → few rs := fun rs h => by
    have := h.1
    rw [e2] at this
    unfold few; omega
  refine ⟨by unfold few; omega, fun s hs => ?_⟩
  obtain ⟨_, _, k3, k4⟩ := k2 s hs
  exact ⟨q _ k3, q _ k4⟩

def lenB (rs : List (List Int)) : Bool := allB rs.length fun k => decide ((rs.getD k []).length ≤ 20)
/-- Not too long. -/
def fit (s : Tup) : Bool := decide (s.2.2.1.length ≤ 20) && decide (s.2.2.2.length ≤ 20) && lenB s.2.2.1 && lenB s.2.2.2

theorem Large_eq (specs : List Tup) (hf : fewS specs) : lineallaw02_Large specs = some (!(allB specs.length (fun k => fit (specs.getD k (0, 0, [], []))) && decide (specs.length ≤ 5))) := by
  unfold lineallaw02_Large
  have hfl : specs.length ≤ 17592186044416 := hf.1
  rw [loopB (body := lineallaw02_Large_b1 specs) specs.length (fun k => fit (specs.getD k (0, 0, [], []))) (fun k hk => ?_) (by unfold lineallaw02_Large_b1; rw [if_neg (by simp)]), Option.bind_some]
  · cases allB specs.length (fun k => fit (specs.getD k (0, 0, [], []))) with
    | false => rfl
    | true =>
      show some (decide (5 < (specs.length : Int))) = _
      congr 1
      rw [Bool.eq_iff_iff]; simp; omega
  · have hin : InK .i64 ((k : Int) + 1) := by rw [inK_i64]; omega
    obtain ⟨s, hs⟩ : ∃ s, s = specs.getD k (0, 0, [], []) := ⟨_, rfl⟩
    unfold lineallaw02_Large_b1
    rw [if_pos (by simpa using hk), ck_pos (by simp), ck_pos (by omega), Int.toNat_natCast, ← hs]
    unfold fit
    by_cases h1 : s.2.2.1.length ≤ 20
    · rw [if_neg (by simp; omega)]
      by_cases h2 : s.2.2.2.length ≤ 20
      · rw [if_neg (by simp; omega)]
        have e2 : whileO (lineallaw02_Large_b2 specs (k : Int)) 0 = some (if lenB s.2.2.1 = true then .inr () else .inl ()) := by
          refine loopB s.2.2.1.length _ (fun j hj => ?_) ?_
          · unfold lineallaw02_Large_b2
            rw [Int.toNat_natCast, ← hs, if_pos (by simpa using hj), ck_pos (by simp), ck_pos (by omega), Int.toNat_natCast]
            by_cases h3 : (s.2.2.1.getD j []).length ≤ 20
            · rw [if_neg (by rw [decide_eq_true_eq]; omega), ck_pos (inK_small (by omega)), decide_eq_true h3]; rfl
            · rw [if_pos (by rw [decide_eq_true_eq]; omega), decide_eq_false h3]; rfl
          · unfold lineallaw02_Large_b2
            rw [Int.toNat_natCast, ← hs, if_neg (by simp)]
        have e3 : whileO (lineallaw02_Large_b3 specs (k : Int)) 0 = some (if lenB s.2.2.2 = true then .inr () else .inl ()) := by
          refine loopB s.2.2.2.length _ (fun j hj => ?_) ?_
          · unfold lineallaw02_Large_b3
            rw [Int.toNat_natCast, ← hs, if_pos (by simpa using hj), ck_pos (by simp), ck_pos (by omega), Int.toNat_natCast]
            by_cases h3 : (s.2.2.2.getD j []).length ≤ 20
            · rw [if_neg (by rw [decide_eq_true_eq]; omega), ck_pos (inK_small (by omega)), decide_eq_true h3]; rfl
            · rw [if_pos (by rw [decide_eq_true_eq]; omega), decide_eq_false h3]; rfl
          · unfold lineallaw02_Large_b3
            rw [Int.toNat_natCast, ← hs, if_neg (by simp)]
        rw [e2, Option.bind_some]
        cases lenB s.2.2.1 with
        | false => simp
        | true =>
          simp only [if_true]
          unfold lineallaw02_Large_k3
          rw [e3, Option.bind_some]
          cases lenB s.2.2.2 with
          | false => simp
          | true =>
            simp only [if_true]
            unfold lineallaw02_Large_k2
            rw [ck_pos hin]
            simp [h1, h2]
      · rw [if_pos (by simp; omega)]; simp [h2]
    · rw [if_pos (by simp; omega)]; simp [h1]

theorem okS_of (s : Tup) (h : fit s = true) : okS s := by
  unfold fit lenB at h
  simp only [Bool.and_eq_true, decide_eq_true_eq] at h
  obtain ⟨⟨⟨h1, h2⟩, h3⟩, h4⟩ := h
  have row : ∀ rs : List (List Int), allB rs.length (fun k => decide ((rs.getD k []).length ≤ 20)) = true → ∀ r ∈ rs, r.length ≤ 17592186044416 := by
    intro rs hrs r hr
    obtain ⟨k, hk, e⟩ := List.getElem_of_mem hr
    have := allB_iff.1 hrs k hk
    have e2 : rs.getD k [] = r := by rw [List.getD_eq_getElem?_getD, List.getElem?_eq_getElem hk, e]; rfl
    rw [e2] at this
    have := of_decide_eq_true this
    omega
  exact ⟨⟨by omega, row _ h3⟩, ⟨by omega, row _ h4⟩⟩

/-- One or two valid specifications. -/
def okSs (specs : List Tup) : Bool := (decide (1 ≤ (specs.length : Int)) && decide ((specs.length : Int) ≤ 2)) && allB specs.length fun k => (toSp (specs.getD k (0, 0, [], []))).ok

theorem getD_memT {specs : List Tup} {k : Nat} (hk : k < specs.length) : specs.getD k (0, 0, [], []) ∈ specs := by
  rw [List.getD_eq_getElem?_getD, List.getElem?_eq_getElem hk]
  exact List.getElem_mem hk

theorem checkSpecs_eq (specs : List Tup) (hs : ∀ s ∈ specs, okS s) (hl : specs.length ≤ 1000) : history_checkSpecs specs = some (if okSs specs = true then 0 else 10) := by
  unfold history_checkSpecs okSs
  rw [within_eq, Option.bind_some]
  cases hw : (decide (1 ≤ (specs.length : Int)) && decide ((specs.length : Int) ≤ 2)) with
  | false => rfl
  | true =>
    simp only [Bool.not_true, Bool.false_eq_true, if_false, Bool.true_and]
    rw [loopB (body := history_checkSpecs_b1 specs) specs.length (fun k => (toSp (specs.getD k (0, 0, [], []))).ok) (fun k hk => ?_) (by unfold history_checkSpecs_b1; rw [if_neg (by simp)]), Option.bind_some]
    · cases allB specs.length (fun k => (toSp (specs.getD k (0, 0, [], []))).ok) <;> rfl
    · unfold history_checkSpecs_b1
      rw [if_pos (by simpa using hk), ck_pos (by simp), ck_pos (by omega), Int.toNat_natCast, Valid_eq _ (hs _ (getD_memT hk)), Option.bind_some]
      cases (toSp (specs.getD k (0, 0, [], []))).ok with
      | false => rfl
      | true => simp only [Bool.not_true, Bool.false_eq_true, if_false, if_true]; rw [ck_pos (inK_small (by omega))]

def fitC (specs : List Tup) (c : HC6) : Bool := decide (c.2.1 < (specs.length : Int)) && decide (c.2.2.1 < (specs.getD c.2.1.toNat (0, 0, [], [])).2.1)
def fitsB (specs : List Tup) (h : List HC6) : Bool := allB h.length fun k => fitC specs (h.getD k (0, 0, 0, 0, 0, 0))

theorem okH_getD {h : List HC6} (hok : okH h = true) {k : Nat} (hk : k < h.length) : okC (h.getD k (0, 0, 0, 0, 0, 0)) = true := by
  unfold okH at hok
  simp only [Bool.and_eq_true] at hok
  have := allB_iff.1 hok.2 k hk
  unfold okAt at this
  simp only [Bool.and_eq_true] at this
  exact this.1

theorem fits_eq (specs : List Tup) (h : List HC6) (hok : okH h = true) : history_fits specs h = some (fitsB specs h) := by
  unfold history_fits fitsB
  have hl := okH_len hok
  rw [loopB (body := history_fits_b1 specs h) h.length (fun k => fitC specs (h.getD k (0, 0, 0, 0, 0, 0))) (fun k hk => ?_) (by unfold history_fits_b1; rw [if_neg (by simp)]), Option.bind_some]
  · cases allB h.length (fun k => fitC specs (h.getD k (0, 0, 0, 0, 0, 0))) <;> rfl
  · have hc := okC_from (okH_getD hok hk)
    obtain ⟨c, hcd⟩ : ∃ c, c = h.getD k (0, 0, 0, 0, 0, 0) := ⟨_, rfl⟩
    unfold history_fits_b1 fitC
    rw [if_pos (by simpa using hk), ck_pos (by simp), ck_pos (by omega), Int.toNat_natCast]
    rw [← hcd] at hc ⊢
    by_cases h1 : c.2.1 < (specs.length : Int)
    · rw [if_neg (by rw [decide_eq_true_eq]; omega), ck_pos (by omega), ck_pos h1, decide_eq_true h1]
      by_cases h2 : c.2.2.1 < (specs.getD c.2.1.toNat (0, 0, [], [])).2.1
      · rw [if_neg (by rw [decide_eq_true_eq]; omega), ck_pos (inK_small (by omega)), decide_eq_true h2]; rfl
      · rw [if_pos (by rw [decide_eq_true_eq]; omega), decide_eq_false h2]; rfl
    · rw [if_pos (by rw [decide_eq_true_eq]; omega), decide_eq_false h1]; rfl

end Go.Proofs.Ytlfpagicagmjgaa
