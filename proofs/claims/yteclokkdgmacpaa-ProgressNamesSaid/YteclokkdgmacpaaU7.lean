/-
  Layer 7, pure: graphs without a move, with threads exchanged, with one thread alone; ProgressOthers answers true.
-/
import Derived.Test.YteclokkdgmacpaaU6
namespace Go.Proofs.Yteclokkdgmacpaa
open Go.RowKit

set_option linter.unusedVariables false
set_option linter.unusedSimpArgs false
set_option linter.unusedSectionVars false
set_option maxRecDepth 10000

/-! ### Without -/

def lessM (ms : List Mv) (k : Nat) : List Mv := ms.take k ++ ms.drop (k + 1)
def lessR (g : Gr) (move : Int) : Int × List Mv × Int := if okG g = true then (if isB move (g.2.length : Int) = true then (g.1, lessM g.2 move.toNat, 0) else (0, [], 2)) else (0, [], 70)

/-! ### Renamed -/

def swT (a b t : Int) : Int := if t = a then b else if t = b then a else t
def swM (a b : Int) (m : Mv) : Mv := (m.1, swT a b m.2.1, m.2.2)
def renG (g : Gr) (a b : Int) : Gr := (g.1, g.2.map (swM a b))
def renR (g : Gr) (a b : Int) : Int × List Mv × Int := if okG g = true then (if isB a 3 = true then (if isB b 3 = true then (g.1, g.2.map (swM a b), 0) else (0, [], 2)) else (0, [], 2)) else (0, [], 70)

theorem CloneM_eq (s : List Mv) (h : s.length ≤ 1000) : slices_Clone s = some s := by
  unfold slices_Clone
  rw [ck_pos (by omega)]

theorem ren_loop (ms : List Mv) (hl : ms.length ≤ 20) (a b : Int) : whileO (progress_Renamed_b1 a b ms) (ms, 0) = some (ms.map (swM a b)) := by
  have key := whileO_iter (body := progress_Renamed_b1 a b ms) (fun (s : List Mv) (k : Int) => (s, k)) ms.length (fun k s => s.set k (swM a b (ms.getD k (0, 0, 0, false)))) id
    (fun k s => s.length = ms.length ∧ (∀ i, i < k → s[i]? = (ms[i]?).map (swM a b)) ∧ ∀ i, k ≤ i → s[i]? = ms[i]?) (s0 := ms) ⟨rfl, fun i hi => absurd hi (Nat.not_lt_zero i), fun _ _ => rfl⟩
    (fun k s hk hp => by
      obtain ⟨p1, p2, p3⟩ := hp
      have hg : s.getD k (0, 0, 0, false) = ms.getD k (0, 0, 0, false) := by
        have := p3 k (Nat.le_refl k)
        simp [List.getD, this]
      have hset : s.set k (ms.getD k (0, 0, 0, false)) = s := by
        refine List.ext_getElem? fun i => ?_
        rw [List.getElem?_set]
        by_cases e : k = i
        · subst e
          rw [if_pos rfl, if_pos (by omega), ← hg, getD_of (List.getElem?_eq_getElem (show k < s.length by omega))]
          exact (List.getElem?_eq_getElem (by omega)).symm
        · rw [if_neg e]
      refine ⟨?_, by simpa using p1, fun i hi => ?_, fun i hi => ?_⟩
      · have kin : InK .i64 ((k : Int) + 1) := by rw [inK_i64]; omega
        unfold progress_Renamed_b1 swM swT
        simp only [Int.toNat_natCast, hg]
        rw [if_pos (by rw [decide_eq_true_eq]; omega), ck_pos (by omega), ck_pos (by omega)]
        by_cases e1 : (ms.getD k (0, 0, 0, false)).2.1 = a
        · rw [if_pos (by rw [decide_eq_true_eq]; exact e1), ck_pos (by omega), ck_pos (by omega), ck_pos kin, if_pos e1]
        · rw [if_neg (by rw [decide_eq_true_eq]; exact e1), if_neg e1]
          by_cases e2 : (ms.getD k (0, 0, 0, false)).2.1 = b
          · rw [if_pos (by rw [decide_eq_true_eq]; exact e2), ck_pos (by omega), ck_pos (by omega), ck_pos kin, if_pos e2]
          · rw [if_neg (by rw [decide_eq_true_eq]; exact e2), ck_pos kin, if_neg e2, hset]
      · rw [List.getElem?_set]
        by_cases e : k = i
        · subst e
          rw [if_pos rfl, if_pos (by omega), List.getElem?_eq_getElem hk]
          simp [List.getD, List.getElem?_eq_getElem hk]
        · rw [if_neg e]; exact p2 i (by omega)
      · rw [List.getElem?_set, if_neg (by omega)]; exact p3 i (by omega))
    (fun s hp => by
      unfold progress_Renamed_b1
      rw [if_neg (by simp)]
      rfl)
  obtain ⟨k1, k2, k3, k4⟩ := key
  have k1' : whileO (progress_Renamed_b1 a b ms) (ms, 0) = some _ := k1
  rw [k1']
  congr 1
  refine List.ext_getElem? fun i => ?_
  rw [id, List.getElem?_map]
  by_cases hi : i < ms.length
  · exact k3 i hi
  · rw [k4 i (by omega), List.getElem?_eq_none (by omega)]; rfl

theorem Renamed_eq (g : Gr) (hz : okZ g) (a b : Int) : progress_Renamed g a b = some (renR g a b) := by
  unfold progress_Renamed renR
  rw [Valid_eq g hz, Option.bind_some]
  cases ho : okG g with
  | false => rfl
  | true =>
    have hg := okG_iff.1 ho
    have hl := hg.len
    rw [if_neg (by simp), isThread_eq, Option.bind_some, if_pos rfl]
    cases isB a 3 with
    | false => rfl
    | true =>
      rw [if_neg (by simp), isThread_eq, Option.bind_some, if_pos rfl]
      cases isB b 3 with
      | false => rfl
      | true =>
        rw [if_neg (by simp), CloneM_eq _ (by omega), Option.bind_some, ren_loop _ hl, Option.bind_some, if_pos rfl]
        rfl

theorem Swapped_eq (t a b : Int) : linealref07_Swapped t a b = some (swT a b t) := by
  unfold linealref07_Swapped swT
  by_cases e1 : t = a
  · rw [if_pos (by simpa using e1), if_pos e1]
  · rw [if_neg (by simpa using e1), if_neg e1]
    by_cases e2 : t = b
    · rw [if_pos (by simpa using e2), if_pos e2]
    · rw [if_neg (by simpa using e2), if_neg e2]

/-! ### Only -/

def onlyM (t : Int) (ms : List Mv) : List Mv := ms.filter fun m => decide (m.2.1 = t)
def onlyR (g : Gr) (t : Int) : Int × List Mv × Int := if okG g = true then (if isB t 3 = true then (g.1, onlyM t g.2, 0) else (0, [], 2)) else (0, [], 70)

/-! ### The law -/

theorem Same_eq (a b : Gr) (ha : okZ a) (hb : okZ b) : linealref07_Same a b = some (decide (a = b)) := by
  unfold linealref07_Same
  by_cases h1 : a.1 = b.1
  · rw [if_neg (by simp [h1])]
    by_cases hl : a.2.length = b.2.length
    · rw [if_neg (by simp [hl])]
      have hf := ha.few
      unfold few at hf
      have key := whileO_all (body := linealref07_Same_b1 a b) (List.range a.2.length) (fun k => decide (a.2.getD k (0, 0, 0, false) = b.2.getD k (0, 0, 0, false))) (fun k j hk => by
        obtain ⟨hlt, rfl⟩ := range_at hk
        have za := ha.inK _ (getD_in (d := (0, 0, 0, false)) hlt)
        have zb := hb.inK _ (getD_in (d := (0, 0, 0, false)) (show j < b.2.length by omega))
        unfold linealref07_Same_b1
        simp only [Int.toNat_natCast]
        rw [if_pos (by rw [decide_eq_true_eq]; omega), ck_pos (by omega), ck_pos (by omega), ck_pos (by omega), ck_pos (by omega), ck_pos za.1, ck_pos za.2.1, ck_pos za.2.2, ck_pos zb.1, ck_pos zb.2.1, ck_pos zb.2.2, ck_pos (by rw [inK_i64]; omega)]
        by_cases h : a.2.getD j (0, 0, 0, false) = b.2.getD j (0, 0, 0, false)
        · rw [if_neg (by rw [decide_eq_true h]; simp), if_pos (decide_eq_true h)]
        · rw [if_pos (by rw [decide_eq_false h]; rfl), if_neg (by rw [decide_eq_true_eq]; exact h)]) (by
        rw [List.length_range]
        unfold linealref07_Same_b1
        rw [if_neg (by simp)])
      rw [key, Option.bind_some]
      have hiff : (List.range a.2.length).all (fun k => decide (a.2.getD k (0, 0, 0, false) = b.2.getD k (0, 0, 0, false))) = decide (a = b) := by
        rw [Bool.eq_iff_iff, List.all_eq_true, decide_eq_true_iff]
        constructor
        · intro h
          refine Prod.ext h1 (List.ext_getElem hl fun i h2 h3 => ?_)
          have := of_decide_eq_true (h i (List.mem_range.2 h2))
          rwa [getD_of (List.getElem?_eq_getElem h2), getD_of (List.getElem?_eq_getElem h3)] at this
        · rintro rfl; simp
      rw [hiff]
      cases decide (a = b) <;> rfl
    · rw [if_pos (by simp; omega), decide_eq_false (fun e => hl (by rw [e]))]
  · rw [if_pos (by simp [h1]), decide_eq_false (fun e => h1 (by rw [e]))]

theorem swT_in {a b t : Int} (ha : 0 ≤ a ∧ a < 3) (hb : 0 ≤ b ∧ b < 3) (ht : 0 ≤ t ∧ t < 3) : 0 ≤ swT a b t ∧ swT a b t < 3 := by
  unfold swT
  split
  · exact hb
  · split
    · exact ha
    · exact ht
theorem okZ_ok {g : Gr} (hg : GOK g) : okZ g := by
  refine ⟨few_of hg.len, fun m hm => ?_⟩
  have := hg.mv m hm
  have := hg.hi
  exact ⟨by rw [inK_i64]; omega, by rw [inK_i64]; omega, by rw [inK_i64]; omega⟩
end Go.Proofs.Yteclokkdgmacpaa
