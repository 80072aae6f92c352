/-
  Layer 7, pure: ways are shortest; ProgressWays answers true.
-/
import Derived.Test.YteclokkdgmacpaaU6
namespace Go.Proofs.Yteclokkdgmacpaa
open Go.RowKit

set_option linter.unusedVariables false
set_option linter.unusedSimpArgs false
set_option linter.unusedSectionVars false
set_option maxRecDepth 10000

theorem wayL_idx {are : Mv → Bool} {g : Gr} {p q : Int} {w : List Int} (h : wayL are g p q = some w) : ∃ a : Nat, (srch are g p).1[a]? = some q ∧ (srch are g p).2[a]? = some w := by
  unfold wayL at h
  rw [Option.map_eq_some_iff] at h
  obtain ⟨y, h1, rfl⟩ := h
  have h2 := List.find?_some h1
  have hy : y.1 = q := of_decide_eq_true h2
  obtain ⟨a, ha, hae⟩ := List.mem_iff_getElem.1 (List.mem_of_find?_eq_some h1)
  have hz : ((srch are g p).1.zip (srch are g p).2)[a]? = some y := by rw [← hae]; exact List.getElem?_eq_getElem ha
  rw [List.getElem?_zip_eq_some] at hz
  exact ⟨a, by rw [← hy]; exact hz.1, hz.2⟩

/-- No path is shorter. -/
theorem short {g : Gr} (hg : GOK g) : ∀ (w' : List Int) (q : Int), leadL g 0 w' = some q → ∃ (b : Nat) (v : List Int), (srch any g 0).1[b]? = some q ∧ (srch any g 0).2[b]? = some v ∧ v.length ≤ w'.length := by
  obtain ⟨j, hB, hj⟩ := srch_ok (are := any) hg (zero_in hg)
  intro w'
  induction w' using snoc_ind with
  | h0 =>
    intro q h
    injection h with h; subst h
    exact ⟨0, [], hB.hd.1, hB.hd.2, Nat.le_refl _⟩
  | h1 w' i ih =>
    intro q h
    rw [leadL_append, Option.bind_eq_some_iff] at h
    obtain ⟨p, h1, h2⟩ := h
    rw [leadL_cons] at h2
    split at h2
    · rename_i hc
      injection h2 with h2
      obtain ⟨b, v, b1, b2, b3⟩ := ih p h1
      have hi := isB_iff.1 hc.1
      have hm : g.2.getD i.toNat (0, 0, 0, false) ∈ g.2 := getD_in (by omega)
      have hbl := (List.getElem?_eq_some_iff.1 b1).1
      obtain ⟨b', v', c1, c2, c3⟩ := hB.cl b p v (by omega) b1 b2 _ hm hc.2 rfl
      exact ⟨b', v', by rw [← h2]; exact c1, c2, by rw [List.length_append, List.length_singleton]; omega⟩
    · cases h2

theorem way_short {g : Gr} (hg : GOK g) {w w' : List Int} {q : Int} (h : wayL any g 0 q = some w) (h' : leadL g 0 w' = some q) : w.length ≤ w'.length := by
  obtain ⟨j, hB, hj⟩ := srch_ok (are := any) hg (zero_in hg)
  obtain ⟨a, a1, a2⟩ := wayL_idx h
  obtain ⟨b, v, b1, b2, b3⟩ := short hg w' q h'
  have e : a = b := (List.getElem?_inj (List.getElem?_eq_some_iff.1 a1).1 hB.nd).1 (a1.trans b1.symm)
  subst e
  rw [a2] at b2; injection b2 with b2; subst b2
  exact b3

theorem lead_last (g : Gr) : ∀ (l : List Int) (p r i : Int), leadL g p (l ++ [i]) = some r → r = (g.2.getD i.toNat (0, 0, 0, false)).2.2.1 ∧ isB i (g.2.length : Int) = true := fun l p r i h => by
  rw [leadL_append, Option.bind_eq_some_iff] at h
  obtain ⟨q, _, h2⟩ := h
  rw [leadL_cons] at h2
  split at h2
  · rename_i hc
    injection h2 with h2
    exact ⟨h2.symm, hc.1⟩
  · cases h2

theorem lead_bound (g : Gr) : ∀ (l : List Int) (p r : Int), leadL g p l = some r → ∀ i ∈ l, isB i (g.2.length : Int) = true
  | [], _, _, _, i, hi => by cases hi
  | j :: l, p, r, h, i, hi => by
    rw [leadL_cons] at h
    split at h
    · rename_i hc
      rcases List.mem_cons.1 hi with e | hi
      · subst e; exact hc.1
      · exact lead_bound g l _ _ h i hi
    · cases h

/-- What the law asks of a path: it begins at 0 and ends at a place. -/
def leadsB (g : Gr) (l : List Int) (p : Int) : Bool := if l = [] then decide (p = 0) else (l.all fun i => isB i (g.2.length : Int)) && decide ((g.2.getD (l.getD 0 0).toNat (0, 0, 0, false)).1 = 0) && decide ((g.2.getD (l.getD (l.length - 1) 0).toNat (0, 0, 0, false)).2.2.1 = p)

theorem leadsB_eq (g : Gr) (l : List Int) (p : Int) (hf : few l) : lineallaw07_leads g l p = some (leadsB g l p) := by
  unfold lineallaw07_leads leadsB
  by_cases h0 : l = []
  · subst h0; rfl
  · have hpos : 0 < l.length := List.length_pos_iff.2 h0
    rw [if_neg (by rw [decide_eq_true_eq]; omega), if_neg h0]
    have key := whileO_all (body := lineallaw07_leads_b1 g l) l (fun i => isB i (g.2.length : Int)) (fun k i hk => by
      obtain ⟨hlt, kin⟩ := few_in hf hk
      unfold lineallaw07_leads_b1
      simp only [Int.toNat_natCast, getD_of hk]
      rw [if_pos (by rw [decide_eq_true_eq]; omega), ck_pos (by omega), ck_pos (by omega), rIsMove_eq, Option.bind_some, ck_pos kin]
      cases isB i (g.2.length : Int) <;> rfl) (by
      unfold lineallaw07_leads_b1
      rw [if_neg (by simp)])
    rw [key, Option.bind_some]
    cases ha : l.all fun i => isB i (g.2.length : Int) with
    | false => simp
    | true =>
      rw [List.all_eq_true] at ha
      have b0 := isB_iff.1 (ha _ (getD_in (d := (0 : Int)) hpos))
      have b1 := isB_iff.1 (ha _ (getD_in (d := (0 : Int)) (show l.length - 1 < l.length by omega)))
      rw [if_pos rfl]
      unfold few at hf
      unfold lineallaw07_leads_k1
      have e1 : ((l.length : Int) - 1).toNat = l.length - 1 := by omega
      simp only [e1]
      rw [ck_pos (by omega), ck_pos (by omega), ck_pos (by omega)]
      by_cases e : (g.2.getD (l.getD 0 0).toNat (0, 0, 0, false)).1 = 0
      · rw [if_pos (by rw [decide_eq_true_eq]; exact e), ck_pos (by rw [inK_i64]; omega), ck_pos (by omega), ck_pos (by omega), ck_pos (by omega), ck_pos (by omega), decide_eq_true e]
        simp
      · rw [if_neg (by rw [decide_eq_true_eq]; exact e), decide_eq_false e]
        simp

theorem last_of {l : List Int} (h : l ≠ []) : ∃ r i, l = r ++ [i] ∧ l.getD (l.length - 1) 0 = i := by
  rcases List.eq_nil_or_concat l with e | ⟨r, i, e⟩
  · exact absurd e h
  · rw [List.concat_eq_append] at e
    refine ⟨r, i, e, ?_⟩
    subst e
    simp [List.getD]

theorem path_leads {g : Gr} {l : List Int} {p : Int} (hp : isPath g l = true) (hl : leadsB g l p = true) : leadL g 0 l = some p := by
  unfold isPath at hp
  rw [Bool.and_eq_true] at hp
  unfold leadsB at hl
  by_cases h0 : l = []
  · subst h0
    rw [if_pos rfl, decide_eq_true_iff] at hl
    rw [hl]; rfl
  · rw [if_neg h0, Bool.and_eq_true, Bool.and_eq_true, decide_eq_true_iff, decide_eq_true_iff] at hl
    obtain ⟨⟨h1, h2⟩, h3⟩ := hl
    obtain ⟨r, i, e, e2⟩ := last_of h0
    rw [e2] at h3
    cases hl2 : l with
    | nil => exact absurd hl2 h0
    | cons j s =>
      have hp2 := hp.2
      rw [hl2, isPth_cons, Bool.and_eq_true] at hp2
      rw [hl2] at h2
      have e3 : (j :: s).getD 0 0 = j := rfl
      rw [e3] at h2
      rw [h2] at hp2
      obtain ⟨q, hq⟩ := Option.isSome_iff_exists.1 hp2.2
      rw [← hl2, e] at hq ⊢
      obtain ⟨q1, _⟩ := lead_last g r 0 q i hq
      rw [hq, q1, h3]

theorem lead_path {g : Gr} {l : List Int} {p : Int} (h : leadL g 0 l = some p) (hl : l.length ≤ 1000) : isPath g l = true ∧ leadsB g l p = true := by
  unfold isPath
  rw [decide_eq_true hl, Bool.true_and]
  cases l with
  | nil =>
    injection h with h
    refine ⟨rfl, ?_⟩
    unfold leadsB
    rw [if_pos rfl, decide_eq_true_iff]; exact h.symm
  | cons i r =>
    have hb := lead_bound g _ _ _ h
    have h' := h
    rw [leadL_cons] at h
    split at h
    · rename_i hc
      refine ⟨?_, ?_⟩
      · rw [isPth_cons, hc.1, hc.2, h']; rfl
      · unfold leadsB
        rw [if_neg (by simp), Bool.and_eq_true, Bool.and_eq_true, decide_eq_true_iff, decide_eq_true_iff, List.all_eq_true]
        obtain ⟨s, j, e, e2⟩ := last_of (l := i :: r) (by simp)
        refine ⟨⟨hb, hc.2⟩, ?_⟩
        rw [e2]
        rw [e] at h'
        exact (lead_last g s 0 p j h').1.symm
    · cases h

theorem in_eq (l : List Int) (n : Int) (hf : few l) : lineallaw07_in l n = some (decide (n ∈ l)) := by
  unfold lineallaw07_in
  have key := whileO_all (body := lineallaw07_in_b1 l n) l (fun x => !decide (x = n)) (fun k x hk => by
    obtain ⟨hlt, kin⟩ := few_in hf hk
    unfold lineallaw07_in_b1
    simp only [Int.toNat_natCast, getD_of hk]
    rw [if_pos (by rw [decide_eq_true_eq]; omega), ck_pos (by omega), ck_pos (by omega), ck_pos kin]
    by_cases e : x = n
    · rw [if_pos (by simpa using e), if_neg (by simpa using e)]
    · rw [if_neg (by simpa using e), if_pos (by simpa using e)]) (by
    unfold lineallaw07_in_b1
    rw [if_neg (by simp)])
  rw [key, Option.bind_some]
  by_cases h : n ∈ l
  · rw [decide_eq_true h, if_neg]
    rw [List.all_eq_true]
    intro hh
    have := hh n h
    simp at this
  · rw [decide_eq_false h, if_pos]
    · rfl
    · rw [List.all_eq_true]
      intro x hx
      have : x ≠ n := fun e => h (by rw [← e]; exact hx)
      simp [this]

section
variable {g : Gr} (hg : GOK g) (hz : okZ g) {p : Int} (hp : 0 ≤ p ∧ p < g.1)
include hg hz hp

theorem Ways_k2 (place : Int) (e : place % g.1 = p) : lineallaw07_ProgressWays_k2 g place (wayR g p) = some true := by
  unfold lineallaw07_ProgressWays_k2 wayR
  rw [if_pos (okG_iff.2 hg), if_pos (isB_iff.2 hp)]
  cases hw : wayL any g 0 p with
  | none =>
    simp only
    rw [if_pos (by simp), if_pos (by simp), Awake7]; rfl
  | some w =>
    obtain ⟨w1, _, w3, _⟩ := wayL_some hg (zero_in hg) hw
    have hhi := hg.hi
    obtain ⟨q1, q2⟩ := lead_path w1 (by omega)
    simp only
    rw [if_neg (by simp), IsPath_eq g hz, if_pos (okG_iff.2 hg), Option.bind_some, if_pos (by simp), q1, if_pos rfl, if_pos (by rw [decide_eq_true_eq]; omega), e, leadsB_eq g w p (few_of (n := 8) (by omega)), q2, Option.bind_some, if_pos rfl, Awake7]
    rfl

theorem Ways_k1 (place : Int) (path : List Int) (hpl : few path) (e : place % g.1 = p) (e2 : Int) : lineallaw07_ProgressWays_k1 g place path (wayR g p) (isPath g path, e2) = some true := by
  have hk2 := Ways_k2 hg hz hp place e
  unfold lineallaw07_ProgressWays_k1
  by_cases h1 : isPath g path = true
  · simp only
    rw [h1, if_pos rfl, e, leadsB_eq g path p hpl, Option.bind_some]
    by_cases h2 : leadsB g path p = true
    · have hl := path_leads h1 h2
      have hr : wayL any g 0 p ≠ none := fun hn => by
        obtain ⟨b, v, b1, _, _⟩ := short hg path p hl
        exact (wayL_none hg (zero_in hg)).1 hn (List.mem_of_getElem? b1)
      obtain ⟨w, hw⟩ := Option.ne_none_iff_exists'.1 hr
      have hs := way_short hg hw hl
      have hwR : wayR g p = (w, 0) := by unfold wayR; rw [if_pos (okG_iff.2 hg), if_pos (isB_iff.2 hp), hw]
      rw [h2, if_pos rfl, hwR, if_neg (by simp), if_neg (by rw [decide_eq_true_eq]; simp only; omega), ← hwR, hk2]
    · rw [if_neg h2, hk2]
  · simp only
    rw [if_neg h1, hk2]
end

theorem ProgressWays_eq (g : Gr) (hk : okEl (.pair (.int .i64) (.sl (.pair (.int .i64) (.pair (.int .i64) (.pair (.int .i64) .bool))))) g) (place : Int) (hb : okEl (.int .u8) place) (path : List Int) : lineallaw07_ProgressWays g place path = some true := by
  have hz := okZ_of hk
  have hpl : 0 ≤ place ∧ place ≤ 255 := by have : InK .u8 place := hb; rw [inK_u8] at this; exact this
  unfold lineallaw07_ProgressWays
  have e1 : lineallaw07_Long g = some () := rfl
  have e2 : lineallaw07_many path = some () := rfl
  rw [e1, Option.bind_some]
  by_cases h1 : 100 < (g.2.length : Int)
  · rw [if_pos (by simpa using h1), Awake7]; rfl
  rw [if_neg (by simpa using h1), rValid_eq g hz, Option.bind_some]
  by_cases ho : okG g = false
  · rw [if_pos (by simpa using ho), Awake7]; rfl
  have ho : okG g = true := by simpa using ho
  have hg := okG_iff.1 ho
  have hlo := hg.lo
  rw [if_neg (by simp [ho]), e2, Option.bind_some]
  by_cases h2 : 1100 < (path.length : Int)
  · rw [if_pos (by simpa using h2), Awake7]; rfl
  have hp : 0 ≤ place % g.1 ∧ place % g.1 < g.1 := ⟨Int.emod_nonneg _ (by omega), Int.emod_lt_of_pos _ (by omega)⟩
  have hpf : few path := few_of (n := 1100) (by omega)
  have hrl := reachL_len hg
  rw [if_neg (by simpa using h2), ck_pos (by rw [inK_i64]; omega), ck_pos (by omega), ck_pos (by omega), Way_eq g hz, Option.bind_some, Reached_eq g hz, Option.bind_some, IsPath_eq g hz, Option.bind_some, if_pos ho, if_pos ho, if_neg (by simp), if_neg (by simp)]
  simp only
  rw [in_eq _ _ (few_of hrl), Option.bind_some]
  have hk1 := Ways_k1 hg hz hp place path hpf rfl 0
  have hiff : decide ((wayR g (place % g.1)).2 = 0) = decide (place % g.1 ∈ reachL g) := by
    refine decide_eq_decide.2 ?_
    rw [reachL_mem]
    unfold wayR
    rw [if_pos ho, if_pos (isB_iff.2 hp)]
    cases hw : wayL any g 0 (place % g.1) with
    | none =>
      have := (wayL_none hg (zero_in hg)).1 hw
      simp only
      exact ⟨fun h => (by cases h), fun h => absurd h this⟩
    | some w =>
      have := (wayL_some hg (zero_in hg) hw).2.2.2
      exact ⟨fun _ => this, fun _ => rfl⟩
  rw [if_neg (by rw [hiff]; simp)]
  by_cases h5 : (wayR g (place % g.1)).2 = 0
  · rw [if_neg (by simp [h5]), hk1]
  · have h6 : (wayR g (place % g.1)).2 = 5 := by
      unfold wayR at h5 ⊢
      rw [if_pos ho, if_pos (isB_iff.2 hp)] at h5 ⊢
      cases hw : wayL any g 0 (place % g.1) with
      | none => rfl
      | some w => rw [hw] at h5; exact absurd rfl h5
    rw [if_pos (by simp [h5]), if_neg (by simp [h6]), hk1]

end Go.Proofs.Yteclokkdgmacpaa
