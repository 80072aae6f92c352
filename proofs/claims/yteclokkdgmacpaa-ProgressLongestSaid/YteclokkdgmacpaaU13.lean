/-
  Layer 7, pure: paths with circles that refute a claim: what is one (Refutes), the search for one (Lasso); ProgressLassos answers true.
-/
import Derived.Test.YteclokkdgmacpaaU12
import Derived.Test.YteclokkdgmacpaaU8
namespace Go.Proofs.Yteclokkdgmacpaa
open Go.RowKit

set_option linter.unusedVariables false
set_option linter.unusedSimpArgs false
set_option linter.unusedSectionVars false
set_option maxRecDepth 10000

abbrev mvAt (g : Gr) (i : Int) : Mv := g.2.getD i.toNat (0, 0, 0, false)
def goesL (C : Clm) (g : Gr) (l : List Int) : Bool := l.all fun i => C.goes (mvAt g i)
def cntL (C : Clm) (g : Gr) (l : List Int) : Bool := l.any fun i => C.cnt (mvAt g i)
def lasB (C : Clm) (g : Gr) (path circle : List Int) : Option Int → Bool
  | none => false
  | some b => decide (leadL g b circle = some b) && goesL C g circle && cntL C g circle
/-- A path with a circle that refutes the claim. -/
def refB (C : Clm) (g : Gr) (path circle : List Int) : Bool := decide (path.length ≤ 1000) && decide (circle.length ≤ 1000) && lasB C g path circle (leadL g 0 path)
theorem refB_iff {C : Clm} {g : Gr} {path circle : List Int} : refB C g path circle = true ↔ path.length ≤ 1000 ∧ circle.length ≤ 1000 ∧ ∃ b, leadL g 0 path = some b ∧ leadL g b circle = some b ∧ (∀ i ∈ circle, C.goes (mvAt g i) = true) ∧ ∃ i ∈ circle, C.cnt (mvAt g i) = true := by
  unfold refB
  rw [Bool.and_eq_true, Bool.and_eq_true, decide_eq_true_iff, decide_eq_true_iff, and_assoc]
  refine and_congr_right fun _ => and_congr_right fun _ => ?_
  cases h : leadL g 0 path with
  | none => exact ⟨fun hh => (by cases hh), fun ⟨b, h1, _⟩ => (by cases h1)⟩
  | some b =>
    unfold lasB goesL cntL
    rw [Bool.and_eq_true, Bool.and_eq_true, decide_eq_true_iff, List.all_eq_true, List.any_eq_true]
    constructor
    · rintro ⟨⟨h1, h2⟩, h3⟩
      exact ⟨b, rfl, h1, h2, h3⟩
    · rintro ⟨b', h0, h1, h2, h3⟩
      injection h0 with h0
      subst h0
      exact ⟨⟨h1, h2⟩, h3⟩

theorem mvAt_in {g : Gr} {i : Int} (h : isB i (g.2.length : Int) = true) : mvAt g i ∈ g.2 := getD_in (by have := isB_iff.1 h; omega)

theorem lead_rch {are : Mv → Bool} {g : Gr} (hg : GOK g) : ∀ (l : List Int) (p q : Int), 0 ≤ p ∧ p < g.1 → leadL g p l = some q → (∀ i ∈ l, are (mvAt g i) = true) → rch are g p q
  | [], p, q, hp, h, _ => by injection h with h; subst h; exact rch_refl hg hp
  | i :: l, p, q, hp, h, ha => by
    rw [leadL_cons] at h
    split at h
    · rename_i hc
      have hm := mvAt_in hc.1
      have ht := mv_to hg hm
      refine rch_trans hg hp ?_ (lead_rch hg l _ q ht h fun j hj => ha j (by simp [hj]))
      exact rch_step hg hp hm (by show rch are g p (g.2.getD i.toNat (0, 0, 0, false)).1; rw [hc.2]; exact rch_refl hg hp) (ha i (by simp))
    · cases h

/-- What refutes a claim shows a circle. -/
theorem refB_bad {C : Clm} {g : Gr} (hg : GOK g) {path circle : List Int} (h : refB C g path circle = true) : Bad C g := by
  obtain ⟨_, _, b, h1, h2, h3, i, hi, h4⟩ := refB_iff.1 h
  obtain ⟨u, v, e⟩ := List.append_of_mem hi
  subst e
  have hb : R0 g b := lead_rch hg path 0 b (zero_in hg) h1 (fun _ _ => rfl)
  have hbi := rch_in hg (zero_in hg) (are := any) hb
  rw [leadL_append, Option.bind_eq_some_iff] at h2
  obtain ⟨p, k1, k2⟩ := h2
  rw [leadL_cons] at k2
  split at k2
  · rename_i hc
    have hm := mvAt_in hc.1
    have hp : rch C.goes g b p := lead_rch hg u b p hbi k1 fun j hj => h3 j (by simp [hj])
    have hp0 : R0 g p := lead_rch hg (path ++ u) 0 p (zero_in hg) (by rw [leadL_append, h1]; exact k1) (fun _ _ => rfl)
    refine ⟨mvAt g i, hm, ?_, h4, ?_⟩
    · show R0 g (g.2.getD i.toNat (0, 0, 0, false)).1
      rw [hc.2]; exact hp0
    · show rch C.goes g _ (g.2.getD i.toNat (0, 0, 0, false)).1
      rw [hc.2]
      exact rch_trans hg (mv_to hg hm) (lead_rch hg v _ b (mv_to hg hm) k2 fun j hj => h3 j (by simp [hj])) hp
  · cases k2

/-- A circle from a place. -/
def crcM (C : Clm) (g : Gr) (p : Int) (k : Nat) (m : Mv) : Option (List Int) :=
  if m.1 = p ∧ C.cnt m = true then (wayL C.goes g m.2.2.1 p).map fun w => (k : Int) :: w else none
def crcF (C : Clm) (g : Gr) (p : Int) (k : Nat) : Option (List Int) := crcM C g p k (g.2.getD k (0, 0, 0, false))
def crc (C : Clm) (g : Gr) (p : Int) : Option (List Int) := (List.range g.2.length).findSome? (crcF C g p)
def lasA (C : Clm) (g : Gr) : Option (List Int × List Int) := (found any g 0).findSome? fun y => (crc C g y.1).map fun c => (y.2, c)

theorem crc_none {C : Clm} {g : Gr} (hg : GOK g) {p : Int} (h : crc C g p = none) : ∀ m ∈ g.2, m.1 = p → C.cnt m = true → ¬ rch C.goes g m.2.2.1 p := by
  unfold crc at h
  rw [List.findSome?_eq_none_iff] at h
  intro m hm h1 h2 h3
  obtain ⟨k, hk, rfl⟩ := List.mem_iff_getElem.1 hm
  have := h k (List.mem_range.2 hk)
  have em : g.2.getD k (0, 0, 0, false) = g.2[k] := getD_of (List.getElem?_eq_getElem hk)
  unfold crcF crcM at this
  rw [em, if_pos ⟨h1, h2⟩, Option.map_eq_none_iff] at this
  exact (wayL_none hg (mv_to hg hm)).1 this h3

theorem crc_some {C : Clm} {g : Gr} (hg : GOK g) {p : Int} {c : List Int} (h : crc C g p = some c) : leadL g p c = some p ∧ (∀ i ∈ c, C.goes (mvAt g i) = true) ∧ (∃ i ∈ c, C.cnt (mvAt g i) = true) ∧ c.length ≤ 8 := by
  unfold crc at h
  obtain ⟨k, hk, h⟩ := List.exists_of_findSome?_eq_some h
  rw [List.mem_range] at hk
  have hm : g.2.getD k (0, 0, 0, false) ∈ g.2 := getD_in hk
  unfold crcF crcM at h
  split at h
  · rename_i hc
    rw [Option.map_eq_some_iff] at h
    obtain ⟨w, h1, rfl⟩ := h
    obtain ⟨w1, w2, w3, _⟩ := wayL_some hg (mv_to hg hm) h1
    have hhi := hg.hi
    have ek : mvAt g (k : Int) = g.2.getD k (0, 0, 0, false) := by unfold mvAt; rw [Int.toNat_natCast]
    refine ⟨?_, fun i hi => ?_, ⟨(k : Int), by simp, by rw [ek]; exact hc.2⟩, by rw [List.length_cons]; omega⟩
    · rw [leadL_cons, if_pos ⟨isB_iff.2 ⟨by omega, by omega⟩, by rw [Int.toNat_natCast]; exact hc.1⟩, Int.toNat_natCast]
      exact w1
    · rcases List.mem_cons.1 hi with e | hi
      · rw [e, ek]; exact C.sub _ hc.2
      · exact w2 i hi
  · cases h

theorem found_way {are : Mv → Bool} {g : Gr} (hg : GOK g) {p : Int} (hp : 0 ≤ p ∧ p < g.1) {y : Int × List Int} (h : y ∈ found are g p) : leadL g p y.2 = some y.1 ∧ y.2.length < g.1.toNat := by
  obtain ⟨j, hB, _⟩ := srch_ok (are := are) hg hp
  obtain ⟨a, ha, hae⟩ := List.mem_iff_getElem.1 h
  have hz : (found are g p)[a]? = some y := by rw [← hae]; exact List.getElem?_eq_getElem ha
  have hz' : ((srch are g p).1.zip (srch are g p).2)[a]? = some y := hz
  rw [List.getElem?_zip_eq_some] at hz'
  have hw := hB.way a _ _ hz'.1 hz'.2
  have hl := hB.len_le hg
  have hal := (List.getElem?_eq_some_iff.1 hz'.1).1
  exact ⟨hw.1, by omega⟩
theorem found_all {are : Mv → Bool} {g : Gr} (hg : GOK g) {p q : Int} (hp : 0 ≤ p ∧ p < g.1) (h : rch are g p q) : ∃ y ∈ found are g p, y.1 = q := by
  obtain ⟨j, hB, _⟩ := srch_ok (are := are) hg hp
  obtain ⟨a, ha, hae⟩ := List.mem_iff_getElem.1 h
  have ha2 : a < (srch are g p).2.length := by rw [hB.len]; exact ha
  refine ⟨(q, (srch are g p).2[a]), ?_, rfl⟩
  have hz : (found are g p)[a]? = some (q, (srch are g p).2[a]) := by
    show ((srch are g p).1.zip (srch are g p).2)[a]? = _
    rw [List.getElem?_zip_eq_some]
    exact ⟨by rw [← hae]; exact List.getElem?_eq_getElem ha, List.getElem?_eq_getElem ha2⟩
  exact List.mem_of_getElem? hz

theorem lasA_none {C : Clm} {g : Gr} (hg : GOK g) (h : lasA C g = none) : ¬ Bad C g := by
  rintro ⟨m, hm, h1, h2, h3⟩
  unfold lasA at h
  rw [List.findSome?_eq_none_iff] at h
  obtain ⟨y, hy, e⟩ := found_all hg (zero_in hg) h1
  have := h y hy
  rw [Option.map_eq_none_iff, e] at this
  exact crc_none hg this m hm rfl h2 h3
theorem lasA_some {C : Clm} {g : Gr} (hg : GOK g) {p c : List Int} (h : lasA C g = some (p, c)) : refB C g p c = true ∧ p.length ≤ 8 ∧ c.length ≤ 8 := by
  unfold lasA at h
  obtain ⟨y, hy, h⟩ := List.exists_of_findSome?_eq_some h
  rw [Option.map_eq_some_iff] at h
  obtain ⟨c', h1, h2⟩ := h
  injection h2 with h2 h3
  subst h2; subst h3
  obtain ⟨k1, k2, k3, k4⟩ := crc_some hg h1
  obtain ⟨f1, f2⟩ := found_way hg (zero_in hg) hy
  have hhi := hg.hi
  exact ⟨refB_iff.2 ⟨by omega, by omega, y.1, f1, k1, k2, k3⟩, by omega, k4⟩

/-- What a search for a circle answers. -/
def lasP (o : Option (List Int × List Int)) : List Int × List Int × Bool := match o with | some (p, c) => (p, c, true) | none => ([], [], false)

section
variable {g : Gr} (hg : GOK g)
include hg

end

end Go.Proofs.Yteclokkdgmacpaa
