/-
  Layer 2, pure: the calls of both objects.
-/
import Derived.Test.YtlfpagicagmjgaaH12a
import Derived.Test.YtlfpagicagmjgaaH3o
namespace Go.Proofs.Ytlfpagicagmjgaa
open Go.RowKit

set_option linter.unusedVariables false
set_option linter.unusedSimpArgs false
set_option maxRecDepth 10000

/-! ### Some of the calls -/

def kp (h : List HC6) (P : HC6 → Bool) : List Nat := (List.range h.length).filter fun i => P (hAt h i)
def kpA (h : List HC6) (P : HC6 → Bool) (j : Nat) : Nat := (kp h P).getD j 0

section
variable {h : List HC6} {P : HC6 → Bool}

theorem filter_kp : h.filter P = (kp h P).map (hAt h) := by
  conv => lhs; rw [← range_at h]
  rw [List.filter_map]; rfl

theorem filter_len : (h.filter P).length = (kp h P).length := by rw [filter_kp, List.length_map]

theorem kp_get {j : Nat} (hj : j < (kp h P).length) : kpA h P j = (kp h P)[j] := by
  unfold kpA
  rw [List.getD_eq_getElem?_getD, List.getElem?_eq_getElem hj]; rfl

theorem kp_in {j : Nat} (hj : j < (kp h P).length) : kpA h P j < h.length ∧ P (hAt h (kpA h P j)) = true := by
  rw [kp_get hj]
  have := List.mem_filter.1 (List.getElem_mem hj)
  exact ⟨by simpa using this.1, this.2⟩

theorem kp_lt {j k : Nat} (hk : k < j) (hj : j < (kp h P).length) : kpA h P k < kpA h P j := by
  rw [kp_get hj, kp_get (by omega)]
  have hp : (kp h P).Pairwise (· < ·) := List.Pairwise.filter _ List.pairwise_lt_range
  exact List.pairwise_iff_getElem.1 hp k j (by omega) hj hk

theorem kp_inj {j k : Nat} (hj : j < (kp h P).length) (hk : k < (kp h P).length) (e : kpA h P j = kpA h P k) : j = k := by
  rcases Nat.lt_trichotomy j k with h1 | h1 | h1
  · have := kp_lt h1 hk; omega
  · exact h1
  · have := kp_lt h1 hj; omega

theorem kp_surj {i : Nat} (hi : i < h.length) (hb : P (hAt h i) = true) : ∃ j, j < (kp h P).length ∧ kpA h P j = i := by
  have : i ∈ kp h P := List.mem_filter.2 ⟨by simpa using hi, hb⟩
  obtain ⟨j, hj, e⟩ := List.getElem_of_mem this
  exact ⟨j, hj, by rw [kp_get hj, e]⟩

theorem filter_at {j : Nat} (hj : j < (kp h P).length) : hAt (h.filter P) j = hAt h (kpA h P j) := by
  rw [filter_kp, kp_get hj]
  unfold hAt
  rw [List.getD_eq_getElem?_getD, List.getElem?_map, List.getElem?_eq_getElem hj]; rfl

theorem okH_filter (hok : okH h = true) : okH (h.filter P) = true := by
  have h8 := okH_len hok
  have hkl : (kp h P).length ≤ h.length := by
    unfold kp
    exact Nat.le_trans (List.length_filter_le _ _) (by simp)
  unfold okH
  rw [filter_len]
  simp only [Bool.and_eq_true, decide_eq_true_eq]
  refine ⟨by omega, allB_iff.2 fun j hj => ?_⟩
  obtain ⟨k1, k2⟩ := kp_in hj
  have ha := okH_at hok k1
  unfold okAt at ha ⊢
  simp only [Bool.and_eq_true] at ha ⊢
  have e : ∀ i, (h.filter P).getD i (0, 0, 0, 0, 0, 0) = hAt (h.filter P) i := fun _ => rfl
  rw [e, filter_at hj]
  refine ⟨ha.1, allB_iff.2 fun k hk => ?_⟩
  rw [e, filter_at (by omega)]
  exact allB_iff.1 ha.2 _ (kp_lt hk hj)

theorem fits_filter {specs : List Tup} (hf : fitsB specs h = true) : fitsB specs (h.filter P) = true := by
  unfold fitsB at hf ⊢
  rw [filter_len]
  refine allB_iff.2 fun j hj => ?_
  obtain ⟨k1, _⟩ := kp_in hj
  show fitC specs (hAt (h.filter P) j) = true
  rw [filter_at hj]
  exact allB_iff.1 hf _ k1

end

/-! ### The calls of an object -/

section
variable {specs : List Tup} {h : List HC6}

/-- A place of the calls of an object, for one of all calls. -/
def ofPl (h : List HC6) (o : Int) (p p' : Pl) : Prop := stOf p'.1 o = stOf p.1 o ∧ ∀ j, j < (kp h (isObj o)).length → bitB p'.2 j = bitB p.2 (kpA h (isObj o) j)

theorem obj_eq {o : Int} {c : HC6} (hc : isObj o c = true) : c.2.1 = o := by unfold isObj at hc; simpa using hc

theorem stOf_to13 {s : Int × Int} {i j q : Int} (hi : 0 ≤ i ∧ i < 2) (hj : 0 ≤ j ∧ j < 2) : stOf (stTo s j q) i = if i = j then q else stOf s i := by
  unfold stOf stTo
  by_cases h0 : j = 0
  · by_cases h1 : i = 0
    · simp [h0, h1]
    · simp [h0, h1]
  · have : j = 1 := by omega
    by_cases h1 : i = 0
    · subst this; simp [h1]
    · have : i = 1 := by omega
      simp [*]

theorem canC_obj {c : HC6} (hs : okSs specs = true) (hc : canC specs c = true) : 0 ≤ c.2.1 ∧ c.2.1 < 2 := by
  obtain ⟨_, ho, _⟩ := canC_parts hc
  have := okSs_len hs
  omega

/-- The step of the object's own call. -/
theorem ofPl_own (hs : okSs specs = true) {o : Int} {p p' : Pl} (R : ofPl h o p p') {j : Nat} (hj : j < (kp h (isObj o)).length) (hc : canC specs (hAt h (kpA h (isObj o) j)) = true) :
    ofPl h o (goOf specs p.1 (hAt h (kpA h (isObj o) j)), putB p.2 (kpA h (isObj o) j)) (goOf specs p'.1 (hAt h (kpA h (isObj o) j)), putB p'.2 j) := by
  have ho := obj_eq (kp_in hj).2
  have h2 := canC_obj hs hc
  refine ⟨?_, fun k hk => ?_⟩
  · show stOf (goOf specs p'.1 _) o = stOf (goOf specs p.1 _) o
    unfold goOf
    rw [ho] at h2 ⊢
    rw [stOf_to13 h2 h2, stOf_to13 h2 h2, if_pos rfl, if_pos rfl, R.1]
  · show bitB (putB p'.2 j) k = bitB (putB p.2 _) _
    rw [bit_put, bit_put, R.2 k hk]
    congr 1
    exact decide_eq_decide.2 ⟨fun e => by rw [e], fun e => kp_inj hj hk e⟩

/-- The step of another object's call. -/
theorem ofPl_other (hs : okSs specs = true) {o : Int} (ho2 : 0 ≤ o ∧ o < 2) {p p' : Pl} (R : ofPl h o p p') {i : Nat} (hi : ¬ (hAt h i).2.1 = o) (hc : canC specs (hAt h i) = true) :
    ofPl h o (goOf specs p.1 (hAt h i), putB p.2 i) p' := by
  have h2 := canC_obj hs hc
  refine ⟨?_, fun k hk => ?_⟩
  · show stOf p'.1 o = stOf (goOf specs p.1 _) o
    unfold goOf
    rw [stOf_to13 ho2 h2, if_neg (fun e => hi e.symm), R.1]
  · show bitB p'.2 k = bitB (putB p.2 i) _
    rw [bit_put, R.2 k hk]
    have : ¬ i = kpA h (isObj o) k := fun e => hi (by rw [e]; exact obj_eq (kp_in hk).2)
    rw [decide_eq_false this]; simp

theorem say_of {o : Int} {p p' : Pl} (R : stOf p'.1 o = stOf p.1 o) {c : HC6} (hc : c.2.1 = o) : alwB specs p'.1 c = alwB specs p.1 c := by
  unfold alwB sayOf
  rw [hc, R]

/-- A step among the calls of an object, as one among all calls, and the other way round. -/
theorem nxt_of {o : Int} {p p' : Pl} (R : ofPl h o p p') {j : Nat} (hj : j < (kp h (isObj o)).length) (hr : readyB h p.2 (kpA h (isObj o) j) = true) (ha : alwB specs p.1 (hAt h (kpA h (isObj o) j)) = true) :
    nxt specs (h.filter (isObj o)) p' j = some (goOf specs p'.1 (hAt h (kpA h (isObj o) j)), putB p'.2 j) := by
  have ho := obj_eq (kp_in hj).2
  unfold nxt
  have w1 : readyB (h.filter (isObj o)) p'.2 j = true := by
    unfold readyB at hr ⊢
    simp only [Bool.and_eq_true, Bool.not_eq_true'] at hr
    rw [R.2 j hj, hr.1, filter_len]
    simp only [Bool.not_false, Bool.true_and]
    refine allB_iff.2 fun k hk => ?_
    rw [R.2 k hk, filter_at hk, filter_at hj]
    exact allB_iff.1 hr.2 _ (kp_in hk).1
  rw [w1, filter_at hj, say_of R.1 ho, ha]; rfl

theorem CF_pos_step (hs : okSs specs = true) (h1 : okH h = true) (h2 : fitsB specs h = true) {p q : Pl} (hp : okPl specs p) {i : Nat} (hi : i < h.length) (e : nxt specs h p i = some q) (hq : 0 < CF specs h 9 q) : 0 < CF specs h 9 p := by
  rw [CF_nine hs (okH_len h1) (fun i hi => can_of h1 h2 hi) p hp]
  have := sumTo_at (f := fun i => contrib (CF specs h 9) (nxt specs h p i)) (k := i) (n := h.length) hi
  simp only [e] at this
  have h9 : contrib (CF specs h 9) (some q) = CF specs h 9 q := rfl
  rw [h9] at this
  omega

theorem CF_pos_full (hs : okSs specs = true) (h1 : okH h = true) (h2 : fitsB specs h = true) {p : Pl} (hp : okPl specs p) (hf : fullB h p.2 = true) : 0 < CF specs h 9 p := by
  rw [CF_nine hs (okH_len h1) (fun i hi => can_of h1 h2 hi) p hp, hf, if_pos rfl]; omega

theorem CF_pos_cases (hs : okSs specs = true) (h1 : okH h = true) (h2 : fitsB specs h = true) {p : Pl} (hp : okPl specs p) (hc : 0 < CF specs h 9 p) : fullB h p.2 = true ∨ ∃ i q, i < h.length ∧ nxt specs h p i = some q ∧ 0 < CF specs h 9 q := by
  rw [CF_nine hs (okH_len h1) (fun i hi => can_of h1 h2 hi) p hp] at hc
  cases hf : fullB h p.2 with
  | true => exact .inl rfl
  | false =>
    rw [hf] at hc
    simp only [Bool.false_eq_true, if_false, Nat.zero_add] at hc
    obtain ⟨i, hi, hci⟩ := sumTo_some hc
    cases e : nxt specs h p i with
    | none => simp only [e, contrib] at hci; omega
    | some q => simp only [e, contrib] at hci; exact .inr ⟨i, q, hi, e, hci⟩

theorem nxt_parts {p q : Pl} {i : Nat} (e : nxt specs h p i = some q) : readyB h p.2 i = true ∧ alwB specs p.1 (hAt h i) = true ∧ q = (goOf specs p.1 (hAt h i), putB p.2 i) := by
  unfold nxt at e
  split at e
  · rename_i hra
    simp only [Bool.and_eq_true] at hra
    injection e with e
    exact ⟨hra.1, hra.2, e.symm⟩
  · cases e

/-- From all calls to those of an object. -/
theorem own_linear (hs : okSs specs = true) (h1 : okH h = true) (h2 : fitsB specs h = true) {o : Int} (ho2 : 0 ≤ o ∧ o < 2) : ∀ (m : Nat) (p p' : Pl), okPl specs p → okPl specs p' → leftB p ≤ m → ofPl h o p p' → 0 < CF specs h 9 p → 0 < CF specs (h.filter (isObj o)) 9 p' := by
  intro m
  induction m with
  | zero =>
    intro p p' hp hp' hm R hc
    rcases CF_pos_cases hs h1 h2 hp hc with hf | ⟨i, q, hi, e, _⟩
    · refine CF_pos_full hs (okH_filter h1) (fits_filter h2) hp' ?_
      unfold fullB at hf ⊢
      rw [filter_len]
      refine allB_iff.2 fun j hj => ?_
      rw [filter_at hj, R.2 j hj]
      exact allB_iff.1 hf _ (kp_in hj).1
    · have := nxt_left hp (Nat.lt_of_lt_of_le hi (okH_len h1)) e
      omega
  | succ m ih =>
    intro p p' hp hp' hm R hc
    rcases CF_pos_cases hs h1 h2 hp hc with hf | ⟨i, q, hi, e, hq⟩
    · refine CF_pos_full hs (okH_filter h1) (fits_filter h2) hp' ?_
      unfold fullB at hf ⊢
      rw [filter_len]
      refine allB_iff.2 fun j hj => ?_
      rw [filter_at hj, R.2 j hj]
      exact allB_iff.1 hf _ (kp_in hj).1
    · have hi8 := Nat.lt_of_lt_of_le hi (okH_len h1)
      have hlt := nxt_left hp hi8 e
      have hcan := can_of h1 h2 hi
      have hqok := nxt_ok hs hp hi8 hcan e
      obtain ⟨n1, n2, rfl⟩ := nxt_parts e
      by_cases hob : (hAt h i).2.1 = o
      · obtain ⟨j, hj, hji⟩ := kp_surj hi (P := isObj o) (by unfold isObj; simpa using hob)
        subst hji
        have hx := nxt_of R hj n1 n2
        have hjl : j < (h.filter (isObj o)).length := by rw [filter_len]; exact hj
        have hxok := nxt_ok hs hp' (Nat.lt_of_lt_of_le hjl (okH_len (okH_filter h1))) (can_of (okH_filter h1) (fits_filter h2) hjl) hx
        exact CF_pos_step hs (okH_filter h1) (fits_filter h2) hp' hjl hx (ih _ _ hqok hxok (by omega) (ofPl_own hs R hj hcan) hq)
      · exact ih _ _ hqok hp' (by omega) (ofPl_other hs ho2 R hob hcan) hq

/-- A call of an object that is ready among its object's calls is ready among all, if none of the other object's must come before. -/
theorem ready_all {o o' : Int} (hall : ∀ i, i < h.length → (hAt h i).2.1 = o ∨ (hAt h i).2.1 = o') {p p0 : Pl} (R : ofPl h o p p0) {j : Nat} (hj : j < (kp h (isObj o)).length) (hr : readyB (h.filter (isObj o)) p0.2 j = true)
    (hno : ∀ i, i < h.length → (hAt h i).2.1 = o' → bitB p.2 i = false → bef (hAt h i) (hAt h (kpA h (isObj o) j)) = false) : readyB h p.2 (kpA h (isObj o) j) = true := by
  unfold readyB at hr ⊢
  simp only [Bool.and_eq_true, Bool.not_eq_true'] at hr ⊢
  refine ⟨by rw [← R.2 j hj]; exact hr.1, allB_iff.2 fun i hi => ?_⟩
  rcases hall i hi with ho | ho
  · obtain ⟨k, hk, hki⟩ := kp_surj hi (P := isObj o) (by unfold isObj; simpa using ho)
    have hr2 := hr.2
    rw [filter_len] at hr2
    have := allB_iff.1 hr2 k hk
    rw [filter_at hk, filter_at hj, R.2 k hk, hki] at this
    exact this
  · cases hb : bitB p.2 i with
    | true => simp
    | false => rw [hno i hi ho hb]; rfl

theorem bef_iff (c d : HC6) : bef c d = true ↔ c.2.2.2.2.2 ≠ 0 ∧ c.2.2.2.2.2 < d.2.2.2.2.1 := by
  unfold bef; simp

/-- Of two calls, each ready among its own object's, one is ready among all. -/
theorem some_ready {o o' : Int} (hall : ∀ i, i < h.length → (hAt h i).2.1 = o ∨ (hAt h i).2.1 = o') {p p0 p1 : Pl} (R0 : ofPl h o p p0) (R1 : ofPl h o' p p1) {a b : Nat} (ha : a < (kp h (isObj o)).length) (hb : b < (kp h (isObj o')).length)
    (hra : readyB (h.filter (isObj o)) p0.2 a = true) (hrb : readyB (h.filter (isObj o')) p1.2 b = true) : readyB h p.2 (kpA h (isObj o) a) = true ∨ readyB h p.2 (kpA h (isObj o') b) = true := by
  have hall' : ∀ i, i < h.length → (hAt h i).2.1 = o' ∨ (hAt h i).2.1 = o := fun i hi => (hall i hi).symm
  by_cases na : ∀ i, i < h.length → (hAt h i).2.1 = o' → bitB p.2 i = false → bef (hAt h i) (hAt h (kpA h (isObj o) a)) = false
  · exact .inl (ready_all hall R0 ha hra na)
  by_cases nb : ∀ i, i < h.length → (hAt h i).2.1 = o → bitB p.2 i = false → bef (hAt h i) (hAt h (kpA h (isObj o') b)) = false
  · exact .inr (ready_all hall' R1 hb hrb nb)
  exfalso
  simp only [Classical.not_forall] at na nb
  obtain ⟨c, hc, hco, hcb, hcx⟩ := na
  obtain ⟨d, hd, hdo, hdb, hdx⟩ := nb
  have c1 := (bef_iff _ _).1 (by simpa using hcx)
  have d1 := (bef_iff _ _).1 (by simpa using hdx)
  have no : ∀ {o : Int} {p0 : Pl} (R : ofPl h o p p0) {j : Nat} (hj : j < (kp h (isObj o)).length) (hr : readyB (h.filter (isObj o)) p0.2 j = true) {i : Nat} (hi : i < h.length) (ho : (hAt h i).2.1 = o) (hbit : bitB p.2 i = false), ¬ bef (hAt h i) (hAt h (kpA h (isObj o) j)) = true := by
    intro o p0 R j hj hr i hi ho hbit hbf
    obtain ⟨k, hk, hki⟩ := kp_surj hi (P := isObj o) (by unfold isObj; simpa using ho)
    unfold readyB at hr
    simp only [Bool.and_eq_true, Bool.not_eq_true'] at hr
    have hr2 := hr.2
    rw [filter_len] at hr2
    have := allB_iff.1 hr2 k hk
    rw [filter_at hk, filter_at hj, R.2 k hk, hki, hbf, hbit] at this
    cases this
  have x1 := no R0 ha hra hd hdo hdb
  have x2 := no R1 hb hrb hc hco hcb
  rw [bef_iff] at x1 x2
  have y1 : ¬ (hAt h d).2.2.2.2.2 < (hAt h (kpA h (isObj o) a)).2.2.2.2.1 := fun k => x1 ⟨d1.1, k⟩
  have y2 : ¬ (hAt h c).2.2.2.2.2 < (hAt h (kpA h (isObj o') b)).2.2.2.2.1 := fun k => x2 ⟨c1.1, k⟩
  omega

/-- If all that has returned of the other object is listed, what is ready among an object's calls is ready among all. -/
theorem ready_full {o o' : Int} (hall : ∀ i, i < h.length → (hAt h i).2.1 = o ∨ (hAt h i).2.1 = o') {p p0 p1 : Pl} (R0 : ofPl h o p p0) (R1 : ofPl h o' p p1) {a : Nat} (ha : a < (kp h (isObj o)).length) (hra : readyB (h.filter (isObj o)) p0.2 a = true) (hf : fullB (h.filter (isObj o')) p1.2 = true) : readyB h p.2 (kpA h (isObj o) a) = true := by
  refine ready_all hall R0 ha hra fun i hi ho hbit => ?_
  obtain ⟨k, hk, hki⟩ := kp_surj hi (P := isObj o') (by unfold isObj; simpa using ho)
  unfold fullB at hf
  rw [filter_len] at hf
  have := allB_iff.1 hf k hk
  rw [filter_at hk, R1.2 k hk, hki, hbit, Bool.or_false] at this
  have h0 := of_decide_eq_true this
  unfold bef
  rw [h0]; rfl

theorem step_back (hs : okSs specs = true) (h1 : okH h = true) (h2 : fitsB specs h = true) {o : Int} {p p0 : Pl} (R : ofPl h o p p0) {j : Nat} (hj : j < (kp h (isObj o)).length) (hr : readyB h p.2 (kpA h (isObj o) j) = true) (ha : alwB specs p0.1 (hAt (h.filter (isObj o)) j) = true) : nxt specs h p (kpA h (isObj o) j) = some (goOf specs p.1 (hAt h (kpA h (isObj o) j)), putB p.2 (kpA h (isObj o) j)) := by
  rw [filter_at hj, say_of R.1 (obj_eq (kp_in hj).2)] at ha
  unfold nxt
  rw [hr, ha]; rfl

/-- From the calls of both objects to all. -/
theorem all_linear (hs : okSs specs = true) (h1 : okH h = true) (h2 : fitsB specs h = true) : ∀ (m : Nat) (p p0 p1 : Pl), okPl specs p → okPl specs p0 → okPl specs p1 → leftB p ≤ m → ofPl h 0 p p0 → ofPl h 1 p p1 → 0 < CF specs (h.filter (isObj 0)) 9 p0 → 0 < CF specs (h.filter (isObj 1)) 9 p1 → 0 < CF specs h 9 p := by
  have hall : ∀ i, i < h.length → (hAt h i).2.1 = 0 ∨ (hAt h i).2.1 = 1 := fun i hi => by
    have := canC_obj hs (can_of h1 h2 hi); omega
  have hall' : ∀ i, i < h.length → (hAt h i).2.1 = 1 ∨ (hAt h i).2.1 = 0 := fun i hi => (hall i hi).symm
  have full_of : ∀ {p p0 p1 : Pl}, ofPl h 0 p p0 → ofPl h 1 p p1 → fullB (h.filter (isObj 0)) p0.2 = true → fullB (h.filter (isObj 1)) p1.2 = true → fullB h p.2 = true := by
    intro p p0 p1 R0 R1 f0 f1
    unfold fullB at f0 f1 ⊢
    rw [filter_len] at f0 f1
    refine allB_iff.2 fun i hi => ?_
    rcases hall i hi with ho | ho
    · obtain ⟨k, hk, hki⟩ := kp_surj hi (P := isObj 0) (by unfold isObj; simpa using ho)
      have := allB_iff.1 f0 k hk
      rwa [filter_at hk, R0.2 k hk, hki] at this
    · obtain ⟨k, hk, hki⟩ := kp_surj hi (P := isObj 1) (by unfold isObj; simpa using ho)
      have := allB_iff.1 f1 k hk
      rwa [filter_at hk, R1.2 k hk, hki] at this
  intro m
  induction m with
  | zero =>
    intro p p0 p1 hp hp0 hp1 hm R0 R1 c0 c1
    -- nothing is left: no step can be
    have nostep : ∀ i, i < h.length → ∀ q, nxt specs h p i = some q → False := fun i hi q e => by
      have := nxt_left hp (Nat.lt_of_lt_of_le hi (okH_len h1)) e; omega
    rcases CF_pos_cases hs (okH_filter h1) (fits_filter h2) hp0 c0 with f0 | ⟨a, q0, ha, e0, _⟩
    · rcases CF_pos_cases hs (okH_filter h1) (fits_filter h2) hp1 c1 with f1 | ⟨b, q1, hb, e1, _⟩
      · exact CF_pos_full hs h1 h2 hp (full_of R0 R1 f0 f1)
      · rw [filter_len] at hb
        obtain ⟨b1, b2, _⟩ := nxt_parts e1
        exact (nostep _ (kp_in hb).1 _ (step_back hs h1 h2 R1 hb (ready_full hall' R1 R0 hb b1 f0) b2)).elim
    · rw [filter_len] at ha
      obtain ⟨a1, a2, _⟩ := nxt_parts e0
      rcases CF_pos_cases hs (okH_filter h1) (fits_filter h2) hp1 c1 with f1 | ⟨b, q1, hb, e1, _⟩
      · exact (nostep _ (kp_in ha).1 _ (step_back hs h1 h2 R0 ha (ready_full hall R0 R1 ha a1 f1) a2)).elim
      · rw [filter_len] at hb
        obtain ⟨b1, b2, _⟩ := nxt_parts e1
        rcases some_ready hall R0 R1 ha hb a1 b1 with hr | hr
        · exact (nostep _ (kp_in ha).1 _ (step_back hs h1 h2 R0 ha hr a2)).elim
        · exact (nostep _ (kp_in hb).1 _ (step_back hs h1 h2 R1 hb hr b2)).elim
  | succ m ih =>
    intro p p0 p1 hp hp0 hp1 hm R0 R1 c0 c1
    have go0 : ∀ {a : Nat} {q0 : Pl}, a < (kp h (isObj 0)).length → nxt specs (h.filter (isObj 0)) p0 a = some q0 → 0 < CF specs (h.filter (isObj 0)) 9 q0 → readyB h p.2 (kpA h (isObj 0) a) = true → 0 < CF specs h 9 p := by
      intro a q0 ha e0 x0 hr
      have hal : a < (h.filter (isObj 0)).length := by rw [filter_len]; exact ha
      have hq0 := nxt_ok hs hp0 (Nat.lt_of_lt_of_le hal (okH_len (okH_filter h1))) (can_of (okH_filter h1) (fits_filter h2) hal) e0
      obtain ⟨a1, a2, rfl⟩ := nxt_parts e0
      have ki := (kp_in ha).1
      have hcan := can_of h1 h2 ki
      have st := step_back hs h1 h2 R0 ha hr a2
      have hlt := nxt_left hp (Nat.lt_of_lt_of_le ki (okH_len h1)) st
      have hqok := nxt_ok hs hp (Nat.lt_of_lt_of_le ki (okH_len h1)) hcan st
      have hob := obj_eq (kp_in ha).2
      have R0' := ofPl_own hs R0 ha hcan
      have R1' := ofPl_other hs (o := 1) (by omega) R1 (i := kpA h (isObj 0) a) (by omega) hcan
      rw [filter_at ha] at hq0 x0
      exact CF_pos_step hs h1 h2 hp ki st (ih _ _ _ hqok hq0 hp1 (by omega) R0' R1' x0 c1)
    have go1 : ∀ {b : Nat} {q1 : Pl}, b < (kp h (isObj 1)).length → nxt specs (h.filter (isObj 1)) p1 b = some q1 → 0 < CF specs (h.filter (isObj 1)) 9 q1 → readyB h p.2 (kpA h (isObj 1) b) = true → 0 < CF specs h 9 p := by
      intro b q1 hb e1 x1 hr
      have hbl : b < (h.filter (isObj 1)).length := by rw [filter_len]; exact hb
      have hq1 := nxt_ok hs hp1 (Nat.lt_of_lt_of_le hbl (okH_len (okH_filter h1))) (can_of (okH_filter h1) (fits_filter h2) hbl) e1
      obtain ⟨b1, b2, rfl⟩ := nxt_parts e1
      have ki := (kp_in hb).1
      have hcan := can_of h1 h2 ki
      have st := step_back hs h1 h2 R1 hb hr b2
      have hlt := nxt_left hp (Nat.lt_of_lt_of_le ki (okH_len h1)) st
      have hqok := nxt_ok hs hp (Nat.lt_of_lt_of_le ki (okH_len h1)) hcan st
      have hob := obj_eq (kp_in hb).2
      have R1' := ofPl_own hs R1 hb hcan
      have R0' := ofPl_other hs (o := 0) (by omega) R0 (i := kpA h (isObj 1) b) (by omega) hcan
      rw [filter_at hb] at hq1 x1
      exact CF_pos_step hs h1 h2 hp ki st (ih _ _ _ hqok hp0 hq1 (by omega) R0' R1' c0 x1)
    rcases CF_pos_cases hs (okH_filter h1) (fits_filter h2) hp0 c0 with f0 | ⟨a, q0, ha, e0, x0⟩
    · rcases CF_pos_cases hs (okH_filter h1) (fits_filter h2) hp1 c1 with f1 | ⟨b, q1, hb, e1, x1⟩
      · exact CF_pos_full hs h1 h2 hp (full_of R0 R1 f0 f1)
      · rw [filter_len] at hb
        exact go1 hb e1 x1 (ready_full hall' R1 R0 hb (nxt_parts e1).1 f0)
    · rw [filter_len] at ha
      rcases CF_pos_cases hs (okH_filter h1) (fits_filter h2) hp1 c1 with f1 | ⟨b, q1, hb, e1, x1⟩
      · exact go0 ha e0 x0 (ready_full hall R0 R1 ha (nxt_parts e0).1 f1)
      · rw [filter_len] at hb
        rcases some_ready hall R0 R1 ha hb (nxt_parts e0).1 (nxt_parts e1).1 with hr | hr
        · exact go0 ha e0 x0 hr
        · exact go1 hb e1 x1 hr

theorem ofPl_zero (o : Int) : ofPl h o ((0, 0), 0) ((0, 0), 0) := ⟨rfl, fun j hj => by
  have z : ∀ i, bitB 0 i = false := fun i => by unfold bitB; simp
  rw [z, z]⟩

theorem objects_cnt (hs : okSs specs = true) (h1 : okH h = true) (h2 : fitsB specs h = true) : decide (0 < cntA specs h) = (decide (0 < cntA specs (h.filter (isObj 0))) && decide (0 < cntA specs (h.filter (isObj 1)))) := by
  have z := okPl_zero hs
  rw [Bool.eq_iff_iff]
  simp only [Bool.and_eq_true, decide_eq_true_eq]
  exact ⟨fun hc => ⟨own_linear hs h1 h2 (by omega) 8 _ _ z z (leftB_le _) (ofPl_zero 0) hc, own_linear hs h1 h2 (by omega) 8 _ _ z z (leftB_le _) (ofPl_zero 1) hc⟩,
    fun ⟨c0, c1⟩ => all_linear hs h1 h2 8 _ _ _ z z z (leftB_le _) (ofPl_zero 0) (ofPl_zero 1) c0 c1⟩

theorem objects_len : ∀ h : List HC6, (∀ c ∈ h, c.2.1 = 0 ∨ c.2.1 = 1) → (h.filter (isObj 0)).length + (h.filter (isObj 1)).length = h.length
  | [], _ => rfl
  | c :: r, hc => by
    have ih := objects_len r fun d hd => hc d (List.mem_cons_of_mem _ hd)
    rcases hc c (List.mem_cons_self ..) with h0 | h0
    · rw [List.filter_cons_of_pos (by unfold isObj; simpa using h0), List.filter_cons_of_neg (by unfold isObj; rw [h0]; decide), List.length_cons, List.length_cons]; omega
    · rw [List.filter_cons_of_neg (by unfold isObj; rw [h0]; decide), List.filter_cons_of_pos (by unfold isObj; simpa using h0), List.length_cons, List.length_cons]; omega

end

end Go.Proofs.Ytlfpagicagmjgaa
