/-
  DelayNeeded: each pair that is needed has a circle, whose pairs are all needed.
-/
import Derived.Test.YtdicomoggfhbfaaD9
namespace Go.Proofs.Ytdicomoggfhbfaa
open Go.RowKit Go.Maps

set_option linter.unusedVariables false
set_option linter.unusedSimpArgs false

def ltS (a b : Sta) : Prop := a.1 < b.1 ∨ (a.1 = b.1 ∧ (a.2.1 < b.2.1 ∨ (a.2.1 = b.2.1 ∧ a.2.2 < b.2.2)))

theorem stas_asc (x : Acs) : (stas x).Pairwise ltS := by
  unfold stas
  rw [List.pairwise_flatMap]
  refine ⟨fun t _ => ?_, ?_⟩
  · rw [List.pairwise_flatMap]
    refine ⟨fun a _ => ?_, ?_⟩
    · rw [List.pairwise_flatMap]
      refine ⟨fun b _ => by split <;> simp, ?_⟩
      refine List.pairwise_lt_range.imp fun {b b'} h u hu v hv => ?_
      split at hu
      · split at hv
        · simp only [List.mem_singleton] at hu hv
          subst hu hv
          exact .inr ⟨rfl, .inr ⟨rfl, by simp only; omega⟩⟩
        · simp at hv
      · simp at hu
    · refine List.pairwise_lt_range.imp fun {a a'} h u hu v hv => ?_
      obtain ⟨b, _, hu⟩ := List.mem_flatMap.1 hu
      obtain ⟨b', _, hv⟩ := List.mem_flatMap.1 hv
      split at hu
      · split at hv
        · simp only [List.mem_singleton] at hu hv
          subst hu hv
          exact .inr ⟨rfl, .inl (by simp only; omega)⟩
        · simp at hv
      · simp at hu
  · refine List.pairwise_lt_range.imp fun {t t'} h u hu v hv => ?_
    obtain ⟨a, _, hu⟩ := List.mem_flatMap.1 hu
    obtain ⟨b, _, hu⟩ := List.mem_flatMap.1 hu
    obtain ⟨a', _, hv⟩ := List.mem_flatMap.1 hv
    obtain ⟨b', _, hv⟩ := List.mem_flatMap.1 hv
    split at hu
    · split at hv
      · simp only [List.mem_singleton] at hu hv
        subst hu hv
        exact .inl (by simp only; omega)
      · simp at hv
    · simp at hu

theorem need_asc (x : Acs) : (need x).Pairwise ltS := ((stas_asc x).filter _).filter _

theorem earlier_eq {r s : Sta} (h : ltS r s) : lineallaw09_earlier r s = some true := by
  unfold lineallaw09_earlier
  have hk : ∀ k : Int, 0 ≤ k → k ≤ 5 → InK .i64 k := fun k h1 h2 => by rw [inK_i64]; omega
  have b0 : lineallaw09_earlier_b1 r s 0 = if r.1 = s.1 then some (.next 1) else some (.done (.inl (decide (r.1 < s.1)))) := by
    unfold lineallaw09_earlier_b1
    rw [if_pos (by decide), ck_pos (by decide), ck_pos (by decide), if_pos (by decide)]
    by_cases e : r.1 = s.1
    · rw [if_neg (by simp [e]), if_pos e, ck_pos (hk _ (by decide) (by decide))]; rfl
    · rw [if_pos (by simp [e]), if_neg e]
  have b1 : lineallaw09_earlier_b1 r s 1 = if r.2.1 = s.2.1 then some (.next 2) else some (.done (.inl (decide (r.2.1 < s.2.1)))) := by
    unfold lineallaw09_earlier_b1
    rw [if_pos (by decide), ck_pos (by decide), ck_pos (by decide), if_neg (by decide), if_pos (by decide)]
    by_cases e : r.2.1 = s.2.1
    · rw [if_neg (by simp [e]), if_pos e, ck_pos (hk _ (by decide) (by decide))]; rfl
    · rw [if_pos (by simp [e]), if_neg e]
  have b2 : r.2.2 ≠ s.2.2 → lineallaw09_earlier_b1 r s 2 = some (.done (.inl (decide (r.2.2 < s.2.2)))) := fun e => by
    unfold lineallaw09_earlier_b1
    rw [if_pos (by decide), ck_pos (by decide), ck_pos (by decide), if_neg (by decide), if_neg (by decide), if_pos (by simp [e])]
  rcases h with h | ⟨e1, h | ⟨e2, h⟩⟩
  · rw [if_neg (by omega)] at b0
    rw [whileO_end b0]; simp [h]
  · rw [if_pos e1] at b0
    rw [if_neg (by omega)] at b1
    rw [whileO_on b0 (whileO_end b1)]; simp [h]
  · rw [if_pos e1] at b0
    rw [if_pos e2] at b1
    rw [whileO_on b0 (whileO_on b1 (whileO_end (b2 (by omega))))]; simp [h]

theorem all_eq {ps l : List Sta} (hf : few ps) (hps : ∀ s ∈ ps, fitS s) (hfl : few l) (hl : ∀ s ∈ l, fitS s) : lineallaw09_all ps l = some (l.all fun s => oneB s || decide (s ∈ ps)) := by
  unfold lineallaw09_all
  rw [whileO_all l (fun s => oneB s || decide (s ∈ ps)) (body := lineallaw09_all_b1 ps l) (fun k s hk => by
    obtain ⟨hlt, hik⟩ := few_in hfl hk
    unfold lineallaw09_all_b1
    rw [Int.toNat_natCast, getD_of hk, if_pos (decide_eq_true (by omega)), ck_pos (by omega), ck_pos (by omega)]
    unfold oneB
    by_cases e : s.2.1 = s.2.2
    · rw [if_neg (by simp [e]), ck_pos hik]; simp [e]
    · rw [if_pos (by simp [e]), in_eq hf hps (hl s (List.mem_of_getElem? hk)), Option.bind_some]
      by_cases e2 : s ∈ ps
      · rw [if_neg (by simp [e2]), ck_pos hik]; simp [e2]
      · rw [if_pos (by simp [e2])]; simp [e, e2]) (by unfold lineallaw09_all_b1; rw [if_neg (by simp)]), Option.bind_some]
  cases l.all fun s => oneB s || decide (s ∈ ps) <;> simp [lineallaw09_all_k1]

/-- All pairs of a circle are needed. -/
theorem isC_all {x : Acs} {l : List Sta} (h : isC x l = true) : (l.all fun s => oneB s || decide (s ∈ need x)) = true := by
  rw [List.all_eq_true]
  intro s hs
  have hst := (isC_st h).1 s hs
  cases ho : oneB s with
  | true => rfl
  | false =>
    unfold isSt at hst
    unfold oneB at ho
    simp only [Bool.or_eq_true, Bool.and_eq_true, decide_eq_true_eq, decide_eq_false_iff_not] at hst ho
    rcases hst with h1 | h1
    · exact absurd h1.1 ho
    · simp only [Bool.false_or, decide_eq_true_eq]
      exact mem_need.2 ⟨h1, l, h, hs⟩

/-- A circle has a pair. -/
theorem isC_pair {x : Acs} {l : List Sta} (h : isC x l = true) : ∃ s ∈ l, oneB s = false := by
  unfold isC at h
  split at h
  · rename_i r s
    unfold c2 at h
    simp only [Bool.and_eq_true, Bool.or_eq_true, Bool.not_eq_true'] at h
    rcases h.2.2.2.2.2 with h | h
    · exact ⟨r, by simp, h⟩
    · exact ⟨s, by simp, h⟩
  · rename_i r s q
    unfold c3 at h
    simp only [Bool.and_eq_true, Bool.or_eq_true, Bool.not_eq_true'] at h
    rcases h.2.2.2.2.2.2.2 with h | h | h
    · exact ⟨r, by simp, h⟩
    · exact ⟨s, by simp, h⟩
    · exact ⟨q, by simp, h⟩
  · cases h

theorem none_iff {x : Acs} : (circs x).length = 0 ↔ (need x).length = 0 := by
  rw [List.length_eq_zero_iff, List.length_eq_zero_iff, List.eq_nil_iff_forall_not_mem, List.eq_nil_iff_forall_not_mem]
  constructor
  · intro h p hp
    obtain ⟨_, l, hl, _⟩ := mem_need.1 hp
    exact h l (mem_circs.2 hl)
  · intro h l hl
    have hc := mem_circs.1 hl
    obtain ⟨s, hs, ho⟩ := isC_pair hc
    have := List.all_eq_true.1 (isC_all hc) s hs
    rw [ho, Bool.false_or, decide_eq_true_eq] at this
    exact h s this

theorem DelayNeeded_eq (x : Acs) (hx : okEl (.sl (.sl (.pair (.int .i64) .bool))) x) (c : List Sta) : lineallaw09_DelayNeeded x c = some true := by
  unfold lineallaw09_DelayNeeded
  rw [Long_eq (okX hx), Option.bind_some]
  cases hl : lngB x with
  | true => rw [if_pos rfl, Awake_eq]; rfl
  | false =>
    have hx20 := (lng_len hl).1
    rw [if_neg (by simp), refValid_eq hx20, Option.bind_some]
    cases hv : vld x with
    | false => rw [if_pos (show (!false) = true from rfl), Awake_eq]; rfl
    | true =>
      rw [if_neg (by simp)]
      by_cases hc : 20 < c.length
      · rw [if_pos (decide_eq_true (by omega)), Awake_eq]; rfl
      · rw [if_neg (by rw [decide_eq_true_eq]; omega), Needed_eq, Pairs_eq, Circles_eq, hv]
        simp only [if_true, Option.bind_some]
        rw [if_neg (by simp), if_neg (by simp), if_neg (by simp), if_neg (by
          have := none_iff (x := x)
          have e : decide (((circs x).length : Int) = 0) = decide (((need x).length : Int) = 0) := decide_eq_decide.2 (by omega)
          rw [e]; simp)]
        have hfit := need_fit hv
        have hfew := need_few hv
        have hloop : whileO (lineallaw09_DelayNeeded_b1 x (need x, 0) (prs x, 0)) 0 = some (.inr ()) := by
          rw [whileO_all (need x) (fun _ => true) (body := lineallaw09_DelayNeeded_b1 x (need x, 0) (prs x, 0)) (fun k p hk => by
            obtain ⟨hlt, hik⟩ := few_in hfew hk
            have hp := List.mem_of_getElem? hk
            obtain ⟨l, e, hce, hcs⟩ := Circle_eq x (hfit p hp)
            rw [hv, if_pos rfl, if_pos (mem_need.1 hp).1, if_pos hp] at hcs
            obtain ⟨rfl, h1, h2⟩ := hcs
            obtain ⟨g1, g2, g3⟩ := isC_st h1
            unfold lineallaw09_DelayNeeded_b1
            dsimp only
            rw [Int.toNat_natCast, getD_of hk, if_pos (decide_eq_true (by omega)), ck_pos (by omega), ck_pos (by omega), hce, Option.bind_some, IsCircle_eq x (few_of g3), Option.bind_some, hv]
            simp only [if_true]
            have hall : lineallaw09_all (need x) l = some true := by
              rw [all_eq hfew hfit (few_of g3) (fun s hs => st_fit hv (g1 s hs)), isC_all h1]
            rw [if_neg (by simp), if_neg (by simp), if_neg (by simp [h1]), in_eq (few_of g3) (fun s hs => st_fit hv (g1 s hs)) (hfit p hp), Option.bind_some, if_neg (by simp [h2]), in_eq (prs_few hv) (prs_fit hv) (hfit p hp), Option.bind_some, if_neg (by simp [prs_mem.2 (mem_need.1 hp).1])]
            by_cases hk0 : 0 < k
            · have hkk : ((k : Int) - 1).toNat = k - 1 := by omega
              unfold few at hfew
              rw [if_pos (decide_eq_true (by omega)), ck_pos (by rw [inK_i64]; omega), ck_pos (by omega), ck_pos (by omega), hkk, earlier_eq (by
                have h9 := List.pairwise_iff_getElem.1 (need_asc x) (k - 1) k (by omega) hlt (by omega)
                rw [getD_of (List.getElem?_eq_getElem (show k - 1 < (need x).length by omega))]
                rw [(List.getElem?_eq_some_iff.1 hk).2] at h9
                exact h9), Option.bind_some, if_neg (by simp), hall, Option.bind_some, if_neg (by simp), ck_pos hik]
            · rw [if_neg (by rw [decide_eq_true_eq]; omega), hall, Option.bind_some, if_neg (by simp), ck_pos hik]) (by
              unfold lineallaw09_DelayNeeded_b1
              dsimp only
              rw [if_neg (by simp)])]
          simp
        rw [hloop, Option.bind_some]
        simp only
        unfold lineallaw09_DelayNeeded_k1
        rw [IsCircle_eq x (few_of (n := 20) (by omega)), Option.bind_some, hv]
        simp only [if_true]
        rw [if_pos (by simp)]
        cases hcc : isC x c with
        | false => rw [if_pos (show (!false) = true from rfl), Awake_eq]; rfl
        | true =>
          obtain ⟨g1, g2, g3⟩ := isC_st hcc
          have hpos : 0 < (circs x).length := List.length_pos_of_mem (mem_circs.2 hcc)
          rw [if_neg (by simp), if_pos (decide_eq_true (by omega)), all_eq hfew hfit (few_of g3) (fun s hs => st_fit hv (g1 s hs)), isC_all hcc, Option.bind_some, if_pos rfl, Awake_eq]; rfl

end Go.Proofs.Ytdicomoggfhbfaa
