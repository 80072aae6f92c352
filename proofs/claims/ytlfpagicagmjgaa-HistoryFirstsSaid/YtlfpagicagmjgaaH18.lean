/-
  Layer 2, pure: lists that are made longer call by call, held against places: what lacks a call that must be in front is never an order.
-/
import Derived.Test.YtlfpagicagmjgaaH15
namespace Go.Proofs.Ytlfpagicagmjgaa
open Go.RowKit

set_option linter.unusedVariables false
set_option linter.unusedSimpArgs false
set_option maxRecDepth 10000

/-- q: which calls must stand in front of which. -/
def readyQ (q : HC6 → HC6 → Bool) (h : List HC6) (b : Int) (i : Nat) : Bool := !bitB b i && allB h.length fun j => !q (hAt h j) (hAt h i) || bitB b j
def nxtQ (q : HC6 → HC6 → Bool) (specs : List Tup) (h : List HC6) (p : Pl) (i : Nat) : Option Pl := if (readyQ q h p.2 i && alwB specs p.1 (hAt h i)) = true then some (goOf specs p.1 (hAt h i), putB p.2 i) else none
def adv (specs : List Tup) (h : List HC6) (p : Pl) (x : Int) : Pl := (goOf specs p.1 (hAt h x.toNat), putB p.2 x.toNat)
def plF (specs : List Tup) (h : List HC6) (l : List Int) : Pl := l.foldl (adv specs h) ((0, 0), 0)

theorem plF_add (specs : List Tup) (h : List HC6) (l : List Int) (x : Int) : plF specs h (l ++ [x]) = adv specs h (plF specs h l) x := by
  unfold plF; rw [List.foldl_append]; rfl

/-- A list that keeps time and is allowed, call by call. -/
structure GoodL (q : HC6 → HC6 → Bool) (specs : List Tup) (h : List HC6) (l : List Int) : Prop where
  inr : ∀ x ∈ l, 0 ≤ x ∧ x < (h.length : Int)
  nd : l.Nodup
  alw : alwL specs h (0, 0) l = true
  keep : keepB q h l = true
  okp : okPl specs (plF specs h l)

/-- It has the calls that must be in front of its calls. -/
def LiveL (q : HC6 → HC6 → Bool) (h : List HC6) (l : List Int) : Prop := ∀ x ∈ l, ∀ j : Nat, j < h.length → q (hAt h j) (hAt h x.toNat) = true → (j : Int) ∈ l
def DeadL (q : HC6 → HC6 → Bool) (h : List HC6) (l : List Int) : Prop := ∃ x ∈ l, ∃ j : Nat, j < h.length ∧ q (hAt h j) (hAt h x.toNat) = true ∧ (j : Int) ∉ l

/-- A call may be added. -/
def addB (q : HC6 → HC6 → Bool) (specs : List Tup) (h : List HC6) (l : List Int) (x : Int) : Bool := !(l.contains x) && (alwL specs h (0, 0) (l ++ [x]) && keepB q h (l ++ [x]))

section
variable {q : HC6 → HC6 → Bool} {specs : List Tup} {h : List HC6} {l : List Int}

theorem alwL_add (specs : List Tup) (h : List HC6) (x : Int) : ∀ (l : List Int) (p : Pl), alwL specs h p.1 (l ++ [x]) = (alwL specs h p.1 l && alwB specs (l.foldl (adv specs h) p).1 (hAt h x.toNat))
  | [], p => by
    show (alwB specs p.1 (hAt h x.toNat) && true) = (true && alwB specs p.1 (hAt h x.toNat))
    rw [Bool.and_true, Bool.true_and]
  | y :: r, p => by
    show (alwB specs p.1 (hAt h y.toNat) && alwL specs h (adv specs h p y).1 (r ++ [x])) = (alwB specs p.1 (hAt h y.toNat) && alwL specs h (adv specs h p y).1 r && _)
    rw [alwL_add specs h x r (adv specs h p y), Bool.and_assoc]; rfl

theorem alwL_add0 (x : Int) : alwL specs h (0, 0) (l ++ [x]) = (alwL specs h (0, 0) l && alwB specs (plF specs h l).1 (hAt h x.toNat)) := alwL_add specs h x l ((0, 0), 0)

theorem atL_left {k : Nat} (hk : k < l.length) (x : Int) : atL h (l ++ [x]) k = atL h l k := by
  have e : (l ++ [x]).getD k 0 = l.getD k 0 := by rw [List.getD_eq_getElem?_getD, List.getElem?_append_left hk, ← List.getD_eq_getElem?_getD]
  unfold atL
  rw [e]
theorem atL_end (x : Int) : atL h (l ++ [x]) l.length = hAt h x.toNat := by
  have e : (l ++ [x]).getD l.length 0 = x := by rw [List.getD_eq_getElem?_getD, List.getElem?_append_right (Nat.le_refl _), Nat.sub_self]; rfl
  unfold atL hAt
  rw [e]
theorem atL_get {k : Nat} (hk : k < l.length) : atL h l k = hAt h (l[k]).toNat := by
  have e : l.getD k 0 = l[k] := by rw [List.getD_eq_getElem?_getD, List.getElem?_eq_getElem hk]; rfl
  unfold atL hAt
  rw [e]

theorem keepB_add (x : Int) : keepB q h (l ++ [x]) = true ↔ keepB q h l = true ∧ ∀ y ∈ l, q (hAt h x.toNat) (hAt h y.toNat) = false := by
  unfold keepB
  rw [List.length_append, List.length_singleton]
  constructor
  · intro hk
    have h1 := allB_iff.1 hk
    refine ⟨allB_iff.2 fun i hi => allB_iff.2 fun k hk' => ?_, fun y hy => ?_⟩
    · have := allB_iff.1 (h1 i (by omega)) k hk'
      rwa [atL_left hi, atL_left (by omega)] at this
    · obtain ⟨k, hk', e⟩ := List.getElem_of_mem hy
      have := allB_iff.1 (h1 l.length (by omega)) k hk'
      rw [atL_end, atL_left hk', atL_get hk', e] at this
      simpa using this
  · rintro ⟨h1, h2⟩
    refine allB_iff.2 fun i hi => allB_iff.2 fun k hk' => ?_
    by_cases hi' : i < l.length
    · rw [atL_left hi', atL_left (by omega)]
      exact allB_iff.1 (allB_iff.1 h1 i hi') k hk'
    · have : i = l.length := by omega
      subst this
      rw [atL_end, atL_left hk', atL_get hk', h2 _ (List.getElem_mem hk')]; rfl

theorem bit_zero (j : Nat) : bitB 0 j = false := by unfold bitB; simp

theorem bit_fold : ∀ (l : List Int) (p : Pl), (∀ x ∈ l, 0 ≤ x) → ∀ j : Nat, bitB (l.foldl (adv specs h) p).2 j = (bitB p.2 j || l.contains (j : Int))
  | [], p, _, j => by show bitB p.2 j = (bitB p.2 j || false); rw [Bool.or_false]
  | x :: r, p, hx, j => by
    have hx0 := hx x (List.mem_cons_self ..)
    have := bit_fold r (adv specs h p x) (fun y hy => hx y (List.mem_cons_of_mem _ hy)) j
    rw [List.foldl_cons, this]
    have e : bitB (adv specs h p x).2 j = (bitB p.2 j || decide (x.toNat = j)) := bit_put _ _ _
    rw [e, List.contains_cons, Bool.or_assoc]
    congr 2
    by_cases hj : x.toNat = j
    · have : (j : Int) = x := by omega
      rw [decide_eq_true hj, this]; simp
    · have : ¬ (j : Int) = x := by omega
      rw [decide_eq_false hj, beq_eq_false_iff_ne.2 this]

theorem bit_plF (hg : ∀ x ∈ l, 0 ≤ x) (j : Nat) : bitB (plF specs h l).2 j = l.contains (j : Int) := by
  have := bit_fold (specs := specs) (h := h) l ((0, 0), 0) hg j
  rw [show bitB ((0, 0), (0 : Int)).2 j = false from bit_zero j, Bool.false_or] at this
  exact this

theorem good_add (hs : okSs specs = true) (hl8 : h.length ≤ 8) (hc : ∀ i, i < h.length → canC specs (hAt h i) = true) (G : GoodL q specs h l) {i : Nat} (hi : i < h.length) (ha : addB q specs h l (i : Int) = true) : GoodL q specs h (l ++ [(i : Int)]) := by
  unfold addB at ha
  simp only [Bool.and_eq_true, Bool.not_eq_true'] at ha
  obtain ⟨a1, a2, a3⟩ := ha
  have hnm : (i : Int) ∉ l := by simpa using a1
  refine ⟨fun x hx => ?_, ?_, a2, a3, ?_⟩
  · rcases List.mem_append.1 hx with hx | hx
    · exact G.inr x hx
    · rw [List.mem_singleton] at hx; omega
  · rw [List.nodup_append]
    refine ⟨G.nd, by simp, fun x hx y hy => ?_⟩
    rw [List.mem_singleton] at hy
    subst hy
    rintro rfl
    exact hnm hx
  · rw [plF_add]
    have hw : alwB specs (plF specs h l).1 (hAt h i) = true := by
      rw [alwL_add0, Bool.and_eq_true, Int.toNat_natCast] at a2; exact a2.2
    have hp := G.okp
    obtain ⟨_, ho, hop⟩ := canC_parts (hc i hi)
    have hl2 := okSs_len hs
    have hsp := ok_parts (okSs_at hs ho)
    obtain ⟨_, _, n3⟩ := tab_at hsp.2.2.2.2.1 (hp.1 _ ho.1 ho.2) hop
    unfold inR at n3
    have n4 := of_decide_eq_true n3
    have n5 : 0 ≤ nexS (spAt specs (hAt h i).2.1) (stOf (plF specs h l).1 (hAt h i).2.1) (hAt h i).2.2.1 ∧ nexS (spAt specs (hAt h i).2.1) (stOf (plF specs h l).1 (hAt h i).2.1) (hAt h i).2.2.1 ≤ 8 := ⟨n4.1, by have := n4.2; unfold nexS; omega⟩
    unfold adv
    rw [Int.toNat_natCast]
    refine ⟨okP2_to hs (hc i hi) hp.1, putB_in hp.2.1 (by omega), ?_⟩
    have := hp.2.2
    unfold goOf stTo
    split <;> simp only <;> omega

/-- A list without a call that must be in front is no order. -/
theorem dead_order (hq : ∀ i j, i < h.length → j < h.length → q (hAt h j) (hAt h i) = true → (hAt h j).2.2.2.2.2 ≠ 0) (G : GoodL q specs h l) (D : DeadL q h l) : ordB h l = false := by
  obtain ⟨x, hx, j, hj, hqj, hjl⟩ := D
  have hxr := G.inr x hx
  have hne := hq x.toNat j (by omega) hj hqj
  unfold ordB
  cases hm : markA (List.replicate h.length (false : Bool)) l with
  | none => rfl
  | some s =>
    have key : ∀ (l : List Int) (s s' : List Bool), markA s l = some s' → (∀ x ∈ l, 0 ≤ x) → (j : Int) ∉ l → s'.getD j false = s.getD j false := by
      intro l
      induction l with
      | nil => intro s s' h1 _ _; simp [markA] at h1; rw [h1]
      | cons y r ih =>
        intro s s' h1 h0 h2
        unfold markA at h1
        split at h1
        · split at h1
          · cases h1
          · rw [ih _ _ h1 (fun x hx => h0 x (List.mem_cons_of_mem _ hx)) (fun hc => h2 (List.mem_cons_of_mem _ hc))]
            have hy := h0 y (List.mem_cons_self ..)
            have : y.toNat ≠ j := fun e => h2 (by rw [show (j : Int) = y by omega]; exact List.mem_cons_self ..)
            rw [List.getD_eq_getElem?_getD, List.getElem?_set_ne this, ← List.getD_eq_getElem?_getD]
        · cases h1
    have e := key l _ s hm (fun x hx => (G.inr x hx).1) hjl
    have e0 : (List.replicate h.length false).getD j false = false := by
      rw [List.getD_eq_getElem?_getD, List.getElem?_replicate]; split <;> rfl
    rw [e0] at e
    show doneB h s = false
    unfold doneB
    cases hd : allB h.length (fun k => decide ((h.getD k (0, 0, 0, 0, 0, 0)).2.2.2.2.2 = 0) || s.getD k false) with
    | false => rfl
    | true =>
      have := allB_iff.1 hd j hj
      rw [e, Bool.or_false] at this
      exact absurd (of_decide_eq_true this) hne

theorem mark_good (G : GoodL q specs h l) : ∃ s', markA (List.replicate h.length (false : Bool)) l = some s' ∧ ∀ j, j < h.length → s'.getD j false = l.contains (j : Int) := by
  have key : ∀ (l : List Int) (s : List Bool), s.length = h.length → (∀ x ∈ l, 0 ≤ x ∧ x < (h.length : Int)) → l.Nodup → (∀ x ∈ l, s.getD x.toNat false = false) →
      ∃ s', markA s l = some s' ∧ ∀ j, j < h.length → s'.getD j false = (s.getD j false || l.contains (j : Int)) := by
    intro l
    induction l with
    | nil => intro s _ _ _ _; exact ⟨s, rfl, fun j _ => by simp⟩
    | cons x r ih =>
      intro s hs hr hn h0
      have hx := hr x (List.mem_cons_self ..)
      obtain ⟨n1, n2⟩ := List.nodup_cons.1 hn
      have hset : ∀ j, j < h.length → (s.set x.toNat true).getD j false = (s.getD j false || decide (x.toNat = j)) := fun j hj => by
        by_cases e : x.toNat = j
        · subst e
          rw [List.getD_eq_getElem?_getD, List.getElem?_set_self (by rw [hs]; exact hj)]; simp
        · rw [List.getD_eq_getElem?_getD, List.getElem?_set_ne e, ← List.getD_eq_getElem?_getD, decide_eq_false e]; simp
      obtain ⟨s', e1, e2⟩ := ih (s.set x.toNat true) (by rw [List.length_set]; exact hs) (fun y hy => hr y (List.mem_cons_of_mem _ hy)) n2 (fun y hy => by
        have hy' := hr y (List.mem_cons_of_mem _ hy)
        rw [hset y.toNat (by omega), h0 y (List.mem_cons_of_mem _ hy), Bool.false_or, decide_eq_false_iff_not]
        intro e
        exact n1 (by rw [show x = y by omega]; exact hy))
      refine ⟨s', ?_, fun j hj => ?_⟩
      · unfold markA
        have r1 : (decide ((0 : Int) ≤ x) && decide (x < (s.length : Int))) = true := by rw [hs]; simp; omega
        rw [if_pos r1, h0 x (List.mem_cons_self ..), if_neg (by simp)]
        exact e1
      · rw [e2 j hj, hset j hj, List.contains_cons, Bool.or_assoc]
        congr 2
        by_cases e : x.toNat = j
        · rw [decide_eq_true e, show (j : Int) = x by omega]; simp
        · rw [decide_eq_false e, beq_eq_false_iff_ne.2 (by omega : (j : Int) ≠ x)]
  obtain ⟨s', e1, e2⟩ := key l (List.replicate h.length false) (by simp) G.inr G.nd (fun x hx => by
    rw [List.getD_eq_getElem?_getD, List.getElem?_replicate]; split <;> rfl)
  refine ⟨s', e1, fun j hj => ?_⟩
  rw [e2 j hj]
  have e0 : (List.replicate h.length false).getD j false = false := by
    rw [List.getD_eq_getElem?_getD, List.getElem?_replicate]; split <;> rfl
  rw [e0, Bool.false_or]

theorem live_full (G : GoodL q specs h l) : ordB h l = fullB h (plF specs h l).2 := by
  obtain ⟨s', e1, e2⟩ := mark_good G
  unfold ordB
  rw [e1]
  show doneB h s' = _
  unfold doneB fullB
  rw [Bool.eq_iff_iff, allB_iff, allB_iff]
  constructor
  · intro hh j hj
    have := hh j hj
    rw [e2 j hj] at this
    rw [bit_plF (fun x hx => (G.inr x hx).1)]
    exact this
  · intro hh j hj
    have := hh j hj
    rw [bit_plF (fun x hx => (G.inr x hx).1)] at this
    rw [e2 j hj]
    exact this

/-- What may be added to a live list is what leads on from its place, or makes it a dead one. -/
theorem live_step (hq : ∀ i, i < h.length → q (hAt h i) (hAt h i) = false) (G : GoodL q specs h l) (L : LiveL q h l) {i : Nat} (hi : i < h.length) :
    (nxtQ q specs h (plF specs h l) i = none ∧ (addB q specs h l (i : Int) = true → DeadL q h (l ++ [(i : Int)]))) ∨
    (addB q specs h l (i : Int) = true ∧ nxtQ q specs h (plF specs h l) i = some (plF specs h (l ++ [(i : Int)])) ∧ LiveL q h (l ++ [(i : Int)])) := by
  have hbit := fun j => bit_plF (specs := specs) (h := h) (l := l) (fun x hx => (G.inr x hx).1) j
  by_cases hr : readyQ q h (plF specs h l).2 i = true
  · have hr' := hr
    unfold readyQ at hr'
    simp only [Bool.and_eq_true, Bool.not_eq_true'] at hr'
    obtain ⟨r1, r2⟩ := hr'
    have r3 := allB_iff.1 r2
    rw [hbit] at r1
    have hnm : (i : Int) ∉ l := by simpa using r1
    have hpre : ∀ j, j < h.length → q (hAt h j) (hAt h i) = true → (j : Int) ∈ l := fun j hj hqj => by
      have := r3 j hj
      rw [hqj, hbit] at this
      simpa using this
    have hkeep : keepB q h (l ++ [(i : Int)]) = true := (keepB_add (i : Int)).2 ⟨G.keep, fun y hy => by
      rw [Int.toNat_natCast]
      cases hh : q (hAt h i) (hAt h y.toNat) with
      | false => rfl
      | true => exact absurd (L y hy i hi hh) hnm⟩
    by_cases hw : alwB specs (plF specs h l).1 (hAt h i) = true
    · refine .inr ⟨?_, ?_, fun x hx j hj hqj => ?_⟩
      · unfold addB
        rw [alwL_add0, G.alw, Int.toNat_natCast, hw, hkeep, r1]; rfl
      · unfold nxtQ
        rw [hr, hw, if_pos (by rfl), plF_add]
        unfold adv
        rw [Int.toNat_natCast]
      · rcases List.mem_append.1 hx with hx | hx
        · exact List.mem_append_left _ (L x hx j hj hqj)
        · rw [List.mem_singleton] at hx
          subst hx
          rw [Int.toNat_natCast] at hqj
          exact List.mem_append_left _ (hpre j hj hqj)
    · have hw' : alwB specs (plF specs h l).1 (hAt h i) = false := by simpa using hw
      refine .inl ⟨?_, fun ha => ?_⟩
      · unfold nxtQ
        rw [hw', Bool.and_false, if_neg (by simp)]
      · unfold addB at ha
        simp only [Bool.and_eq_true] at ha
        rw [alwL_add0, Int.toNat_natCast, hw', Bool.and_false] at ha
        exact absurd ha.2.1 (by simp)
  · have hr' : readyQ q h (plF specs h l).2 i = false := by simpa using hr
    refine .inl ⟨?_, fun ha => ?_⟩
    · unfold nxtQ
      rw [hr', Bool.false_and, if_neg (by simp)]
    · unfold addB at ha
      simp only [Bool.and_eq_true, Bool.not_eq_true'] at ha
      obtain ⟨a1, a2, a3⟩ := ha
      unfold readyQ at hr'
      rw [hbit, a1, Bool.not_false, Bool.true_and] at hr'
      have : ¬ ∀ j, j < h.length → (!q (hAt h j) (hAt h i) || bitB (plF specs h l).2 j) = true := fun hh => by
        rw [allB_iff.2 hh] at hr'; cases hr'
      have hex : ∃ j, j < h.length ∧ q (hAt h j) (hAt h i) = true ∧ (j : Int) ∉ l := by
        refine Classical.byContradiction fun hne => this fun j hj => ?_
        cases hqj : q (hAt h j) (hAt h i) with
        | false => rfl
        | true =>
          rw [hbit]
          by_cases hm : (j : Int) ∈ l
          · simpa using hm
          · exact absurd ⟨j, hj, hqj, hm⟩ hne
      obtain ⟨j, hj, hqj, hjl⟩ := hex
      refine ⟨(i : Int), by simp, j, hj, by rw [Int.toNat_natCast]; exact hqj, fun hc => ?_⟩
      rcases List.mem_append.1 hc with hc | hc
      · exact hjl hc
      · rw [List.mem_singleton] at hc
        have : j = i := by omega
        subst this
        rw [hq j hj] at hqj; cases hqj

end
end Go.Proofs.Ytlfpagicagmjgaa
