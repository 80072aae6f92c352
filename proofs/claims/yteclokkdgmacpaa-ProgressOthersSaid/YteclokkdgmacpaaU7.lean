/-
  Layer 7, pure: graphs without a move, with threads exchanged, with one thread alone; ProgressOthers answers true.
-/
import Derived.Test.YteclokkdgmacpaaU6
namespace Go.Proofs.Yteclokkdgmacpaa
open Go.RowKit

set_option linter.unusedVariables false
set_option linter.unusedSimpArgs false
set_option linter.unusedSectionVars false
set_option maxRecDepth 10000

theorem ConcatM_eq (x y : List Mv) (hx : x.length ≤ 1000) (hy : y.length ≤ 1000) : slices_Concat_2 [x, y] = some (x ++ y) := by
  unfold slices_Concat_2
  have h1 : whileO (slices_Concat_2_b1 [x, y]) (0, 0) = some ((x.length : Int) + (y.length : Int)) := by
    refine whileO_seq (body := slices_Concat_2_b1 [x, y]) (fun k : Nat => (match k with | 0 => (0, 0) | 1 => ((x.length : Int), 1) | _ => ((x.length : Int) + (y.length : Int), 2) : Int × Int)) 2 (fun k hk => ?_) ?_
    · rcases (show k = 0 ∨ k = 1 by omega) with rfl | rfl
      · unfold slices_Concat_2_b1
        simp only
        rw [if_pos (by simp), ck_pos (by simp), ck_pos (by simp), ck_pos (by rw [inK_i64]; first | (simp; done) | (simp; omega)), if_neg (by first | (simp; done) | (simp; omega)), ck_pos (by rw [inK_i64]; simp)]
        simp
      · unfold slices_Concat_2_b1
        simp only
        rw [if_pos (by simp), ck_pos (by simp), ck_pos (by simp), ck_pos (by rw [inK_i64]; first | (simp; done) | (simp; omega)), if_neg (by first | (simp; done) | (simp; omega)), ck_pos (by rw [inK_i64]; simp)]
        simp
    · unfold slices_Concat_2_b1
      simp only
      rw [if_neg (by simp)]
  rw [h1, Option.bind_some]
  unfold slices_Concat_2_k1
  have h2 : slices_Grow_2 ((x.length : Int) + (y.length : Int)) = some () := by
    unfold slices_Grow_2
    rw [if_neg (by simp; omega), ck_pos (by rw [inK_i64]; omega), ck_pos (by rw [inK_i64]; omega)]
    by_cases h : 0 < ((x.length : Int) + (y.length : Int) - (0 - 0))
    · rw [if_pos (by simpa using h), ck_pos h, ck_pos (by omega), ck_pos (by omega), ck_pos (by omega), ck_pos (by omega)]
    · rw [if_neg (by simpa using h)]
  have h3 : whileO (slices_Concat_2_b2 [x, y]) ([], 0) = some (x ++ y) := by
    refine whileO_seq (body := slices_Concat_2_b2 [x, y]) (fun k : Nat => (match k with | 0 => ([], 0) | 1 => (x, 1) | _ => (x ++ y, 2) : List Mv × Int)) 2 (fun k hk => ?_) ?_
    · rcases (show k = 0 ∨ k = 1 by omega) with rfl | rfl
      · unfold slices_Concat_2_b2
        simp only
        rw [if_pos (by simp), ck_pos (by simp), ck_pos (by simp), ck_pos (by simp; omega), ck_pos (by rw [inK_i64]; simp)]
        simp
      · unfold slices_Concat_2_b2
        simp only
        rw [if_pos (by simp), ck_pos (by simp), ck_pos (by simp), ck_pos (by simp; omega), ck_pos (by rw [inK_i64]; simp)]
        simp
    · unfold slices_Concat_2_b2
      simp only
      rw [if_neg (by simp)]
  rw [h2, Option.bind_some, h3, Option.bind_some]; rfl

/-! ### Without -/

def lessM (ms : List Mv) (k : Nat) : List Mv := ms.take k ++ ms.drop (k + 1)
def lessR (g : Gr) (move : Int) : Int × List Mv × Int := if okG g = true then (if isB move (g.2.length : Int) = true then (g.1, lessM g.2 move.toNat, 0) else (0, [], 2)) else (0, [], 70)

theorem Without_eq (g : Gr) (hz : okZ g) (move : Int) : progress_Without g move = some (lessR g move) := by
  unfold progress_Without lessR
  rw [Valid_eq g hz, Option.bind_some]
  cases ho : okG g with
  | false => rfl
  | true =>
    have hg := okG_iff.1 ho
    have hl := hg.len
    rw [if_neg (by simp), isBelow_eq, Option.bind_some, if_pos rfl]
    cases hb : isB move (g.2.length : Int) with
    | false => rfl
    | true =>
      have hb' := isB_iff.1 hb
      have e1 : (move + 1).toNat = move.toNat + 1 := by omega
      rw [if_neg (by simp), ck_pos (by omega), ck_pos (by omega), ck_pos (by rw [inK_i64]; omega), ck_pos (by omega), ck_pos (by omega), ConcatM_eq _ _ (by rw [List.length_take]; omega) (by rw [List.length_drop]; omega), Option.bind_some, if_pos rfl, e1]
      rfl

theorem lessM_snoc (ms : List Mv) (j k : Nat) (m : Mv) (hk : ms[k]? = some m) : lessM (ms.take (k + 1)) j = if k = j then lessM (ms.take k) j else lessM (ms.take k) j ++ [m] := by
  have hlt := (List.getElem?_eq_some_iff.1 hk).1
  have hlen : (ms.take k).length = k := by rw [List.length_take]; omega
  unfold lessM
  rw [take_one hk]
  by_cases h1 : j < k
  · rw [if_neg (by omega), List.take_append_of_le_length (by omega), List.drop_append_of_le_length (by omega), List.append_assoc]
  · by_cases h2 : k = j
    · subst h2
      rw [if_pos rfl, List.take_append_of_le_length (by omega), List.drop_eq_nil_of_le (by simp; omega), List.drop_eq_nil_of_le (by omega)]
    · have q1 : (ms.take k ++ [m]).take j = ms.take k ++ [m] := List.take_of_length_le (by rw [List.length_append, hlen, List.length_singleton]; omega)
      have q2 : (ms.take k ++ [m]).drop (j + 1) = [] := List.drop_eq_nil_of_le (by rw [List.length_append, hlen, List.length_singleton]; omega)
      have q3 : (ms.take k).take j = ms.take k := List.take_of_length_le (by omega)
      have q4 : (ms.take k).drop (j + 1) = [] := List.drop_eq_nil_of_le (by omega)
      rw [if_neg h2, q1, q2, q3, q4, List.append_nil, List.append_nil]

theorem rWithout_eq (g : Gr) (hz : okZ g) (move : Int) : linealref07_Without g move = some (lessR g move) := by
  unfold linealref07_Without lessR
  rw [rValid_eq g hz, Option.bind_some]
  cases ho : okG g with
  | false => rfl
  | true =>
    have hg := okG_iff.1 ho
    have hl := hg.len
    rw [if_neg (by simp), rIsMove_eq, Option.bind_some, if_pos rfl]
    cases hb : isB move (g.2.length : Int) with
    | false => rfl
    | true =>
      have hb' := isB_iff.1 hb
      rw [if_neg (by simp), if_pos rfl]
      have key := whileO_iter (body := linealref07_Without_b1 g move) (fun (s : List Mv) (k : Int) => (s, k)) g.2.length (fun k s => if k = move.toNat then s else s ++ [g.2.getD k (0, 0, 0, false)]) id (fun k s => s = lessM (g.2.take k) move.toNat) (s0 := []) (by simp [lessM])
        (fun k s hk hs => by
          have hkm : g.2[k]? = some (g.2.getD k (0, 0, 0, false)) := by rw [getD_of (List.getElem?_eq_getElem hk)]; exact List.getElem?_eq_getElem hk
          have hsl : s.length ≤ k := by rw [hs]; unfold lessM; simp; omega
          refine ⟨?_, ?_⟩
          · unfold linealref07_Without_b1
            simp only [Int.toNat_natCast]
            have kin : InK .i64 ((k : Int) + 1) := by rw [inK_i64]; omega
            rw [if_pos (by rw [decide_eq_true_eq]; omega), ck_pos (by omega), ck_pos (by omega)]
            by_cases e : k = move.toNat
            · rw [if_neg (by simp; omega), ck_pos kin, if_pos e]
            · rw [if_pos (by simp; omega), ck_pos (by omega), ck_pos kin, if_neg e]
          · rw [lessM_snoc g.2 move.toNat k _ hkm, hs])
        (fun s _ => by
          unfold linealref07_Without_b1
          rw [if_neg (by simp)]
          rfl)
      obtain ⟨k1, k2⟩ := key
      have k1' : whileO (linealref07_Without_b1 g move) ([], 0) = some _ := k1
      rw [k1', Option.bind_some]
      unfold linealref07_Without_k1
      rw [id, k2, List.take_length]

/-! ### Renamed -/

def swT (a b t : Int) : Int := if t = a then b else if t = b then a else t
def swM (a b : Int) (m : Mv) : Mv := (m.1, swT a b m.2.1, m.2.2)
def renG (g : Gr) (a b : Int) : Gr := (g.1, g.2.map (swM a b))
def renR (g : Gr) (a b : Int) : Int × List Mv × Int := if okG g = true then (if isB a 3 = true then (if isB b 3 = true then (g.1, g.2.map (swM a b), 0) else (0, [], 2)) else (0, [], 2)) else (0, [], 70)

theorem CloneM_eq (s : List Mv) (h : s.length ≤ 1000) : slices_Clone s = some s := by
  unfold slices_Clone
  rw [ck_pos (by omega)]

theorem ren_loop (ms : List Mv) (hl : ms.length ≤ 20) (a b : Int) : whileO (progress_Renamed_b1 a b ms) (ms, 0) = some (ms.map (swM a b)) := by
  have key := whileO_iter (body := progress_Renamed_b1 a b ms) (fun (s : List Mv) (k : Int) => (s, k)) ms.length (fun k s => s.set k (swM a b (ms.getD k (0, 0, 0, false)))) id
    (fun k s => s.length = ms.length ∧ (∀ i, i < k → s[i]? = (ms[i]?).map (swM a b)) ∧ ∀ i, k ≤ i → s[i]? = ms[i]?) (s0 := ms) ⟨rfl, fun i hi => absurd hi (Nat.not_lt_zero i), fun _ _ => rfl⟩
    (fun k s hk hp => by
      obtain ⟨p1, p2, p3⟩ := hp
      have hg : s.getD k (0, 0, 0, false) = ms.getD k (0, 0, 0, false) := by
        have := p3 k (Nat.le_refl k)
        simp [List.getD, this]
      have hset : s.set k (ms.getD k (0, 0, 0, false)) = s := by
        refine List.ext_getElem? fun i => ?_
        rw [List.getElem?_set]
        by_cases e : k = i
        · subst e
          rw [if_pos rfl, if_pos (by omega), ← hg, getD_of (List.getElem?_eq_getElem (show k < s.length by omega))]
          exact (List.getElem?_eq_getElem (by omega)).symm
        · rw [if_neg e]
      refine ⟨?_, by simpa using p1, fun i hi => ?_, fun i hi => ?_⟩
      · have kin : InK .i64 ((k : Int) + 1) := by rw [inK_i64]; omega
        unfold progress_Renamed_b1 swM swT
        simp only [Int.toNat_natCast, hg]
        rw [if_pos (by rw [decide_eq_true_eq]; omega), ck_pos (by omega), ck_pos (by omega)]
        by_cases e1 : (ms.getD k (0, 0, 0, false)).2.1 = a
        · rw [if_pos (by rw [decide_eq_true_eq]; exact e1), ck_pos (by omega), ck_pos (by omega), ck_pos kin, if_pos e1]
        · rw [if_neg (by rw [decide_eq_true_eq]; exact e1), if_neg e1]
          by_cases e2 : (ms.getD k (0, 0, 0, false)).2.1 = b
          · rw [if_pos (by rw [decide_eq_true_eq]; exact e2), ck_pos (by omega), ck_pos (by omega), ck_pos kin, if_pos e2]
          · rw [if_neg (by rw [decide_eq_true_eq]; exact e2), ck_pos kin, if_neg e2, hset]
      · rw [List.getElem?_set]
        by_cases e : k = i
        · subst e
          rw [if_pos rfl, if_pos (by omega), List.getElem?_eq_getElem hk]
          simp [List.getD, List.getElem?_eq_getElem hk]
        · rw [if_neg e]; exact p2 i (by omega)
      · rw [List.getElem?_set, if_neg (by omega)]; exact p3 i (by omega))
    (fun s hp => by
      unfold progress_Renamed_b1
      rw [if_neg (by simp)]
      rfl)
  obtain ⟨k1, k2, k3, k4⟩ := key
  have k1' : whileO (progress_Renamed_b1 a b ms) (ms, 0) = some _ := k1
  rw [k1']
  congr 1
  refine List.ext_getElem? fun i => ?_
  rw [id, List.getElem?_map]
  by_cases hi : i < ms.length
  · exact k3 i hi
  · rw [k4 i (by omega), List.getElem?_eq_none (by omega)]; rfl

theorem Renamed_eq (g : Gr) (hz : okZ g) (a b : Int) : progress_Renamed g a b = some (renR g a b) := by
  unfold progress_Renamed renR
  rw [Valid_eq g hz, Option.bind_some]
  cases ho : okG g with
  | false => rfl
  | true =>
    have hg := okG_iff.1 ho
    have hl := hg.len
    rw [if_neg (by simp), isThread_eq, Option.bind_some, if_pos rfl]
    cases isB a 3 with
    | false => rfl
    | true =>
      rw [if_neg (by simp), isThread_eq, Option.bind_some, if_pos rfl]
      cases isB b 3 with
      | false => rfl
      | true =>
        rw [if_neg (by simp), CloneM_eq _ (by omega), Option.bind_some, ren_loop _ hl, Option.bind_some, if_pos rfl]
        rfl

theorem Swapped_eq (t a b : Int) : linealref07_Swapped t a b = some (swT a b t) := by
  unfold linealref07_Swapped swT
  by_cases e1 : t = a
  · rw [if_pos (by simpa using e1), if_pos e1]
  · rw [if_neg (by simpa using e1), if_neg e1]
    by_cases e2 : t = b
    · rw [if_pos (by simpa using e2), if_pos e2]
    · rw [if_neg (by simpa using e2), if_neg e2]

theorem rRenamed_eq (g : Gr) (hz : okZ g) (a b : Int) : linealref07_Renamed g a b = some (renR g a b) := by
  unfold linealref07_Renamed renR
  rw [rValid_eq g hz, Option.bind_some]
  cases ho : okG g with
  | false => rfl
  | true =>
    have hg := okG_iff.1 ho
    have hl := hg.len
    rw [if_neg (by simp), rIsThread_eq, Option.bind_some, if_pos rfl]
    cases isB a 3 with
    | false => rfl
    | true =>
      rw [if_neg (by simp), rIsThread_eq, Option.bind_some, if_pos rfl]
      cases isB b 3 with
      | false => rfl
      | true =>
        rw [if_neg (by simp), if_pos rfl]
        have key := whileO_list (body := linealref07_Renamed_b1 g a b) (fun (s : List Mv) (k : Int) => (s, k)) g.2 (fun s m => s ++ [swM a b m]) id (fun k s => s = (g.2.take k).map (swM a b)) (s0 := []) rfl
          (fun k m s hk hs => by
            have hlt := (List.getElem?_eq_some_iff.1 hk).1
            have hsl : s.length ≤ k := by rw [hs, List.length_map, List.length_take]; omega
            refine ⟨?_, by rw [take_one hk, List.map_append, hs]; rfl⟩
            unfold linealref07_Renamed_b1
            simp only [Int.toNat_natCast, getD_of hk]
            rw [if_pos (by rw [decide_eq_true_eq]; omega), ck_pos (by omega), ck_pos (by omega), Swapped_eq, Option.bind_some, ck_pos (by omega), ck_pos (by rw [inK_i64]; omega)]
            rfl)
          (fun s _ => by
            unfold linealref07_Renamed_b1
            rw [if_neg (by simp)]
            rfl)
        obtain ⟨k1, k2⟩ := key
        have k1' : whileO (linealref07_Renamed_b1 g a b) ([], 0) = some _ := k1
        rw [k1', Option.bind_some]
        unfold linealref07_Renamed_k1
        rw [id, k2, List.take_length]

/-! ### Only -/

def onlyM (t : Int) (ms : List Mv) : List Mv := ms.filter fun m => decide (m.2.1 = t)
def onlyR (g : Gr) (t : Int) : Int × List Mv × Int := if okG g = true then (if isB t 3 = true then (g.1, onlyM t g.2, 0) else (0, [], 2)) else (0, [], 70)

theorem dfindO_step (t : Int) (l : List Mv) (hll : l.length ≤ 20) (k : Nat) (x : Mv) (hk : l[k]? = some x) : slices_IndexFunc_6_b1 l t (k : Int) = some (if (!decide (x.2.1 = t)) = true then .done (.inl (k : Int)) else .next ((k : Int) + 1)) := by
  have hlt := (List.getElem?_eq_some_iff.1 hk).1
  have ki : InK .i64 ((k : Int) + 1) := by rw [inK_i64]; omega
  unfold slices_IndexFunc_6_b1 progress_Only_1
  simp only [Int.toNat_natCast, getD_of hk, ck_pos ki, Option.bind_some]
  rw [if_pos (by rw [decide_eq_true_eq]; omega), ck_pos (by omega), ck_pos (by omega)]
  by_cases h : (!decide (x.2.1 = t)) = true
  · rw [if_pos h, if_pos h]
  · rw [if_neg h, if_neg h]
theorem dfindO_end (t : Int) (l : List Mv) : slices_IndexFunc_6_b1 l t (l.length : Int) = some (.done (.inr ())) := by
  unfold slices_IndexFunc_6_b1
  rw [if_neg (by simp)]
theorem dloopO_step (t : Int) (l' : List Mv) (hll : l'.length ≤ 20) (i j : Nat) (x : Mv) (hij : i < j) (hj : l'[j]? = some x) :
    slices_DeleteFunc_2_b1 t (l', (i : Int), (j : Int)) = some (.next (if (!decide (x.2.1 = t)) = true then (l', (i : Int), (j : Int) + 1) else (l'.set i x, (i : Int) + 1, (j : Int) + 1))) := by
  have hjl := (List.getElem?_eq_some_iff.1 hj).1
  have ki : InK .i64 ((i : Int) + 1) := by rw [inK_i64]; omega
  have kj : InK .i64 ((j : Int) + 1) := by rw [inK_i64]; omega
  unfold slices_DeleteFunc_2_b1 progress_Only_1
  simp only [Int.toNat_natCast, getD_of hj, ck_pos ki, ck_pos kj, Option.bind_some]
  rw [if_pos (by rw [decide_eq_true_eq]; omega), ck_pos (by omega), ck_pos (by omega)]
  by_cases hp : (!decide (x.2.1 = t)) = true
  · rw [hp, if_neg (by simp), if_pos rfl]
  · rw [Bool.not_eq_true] at hp
    rw [hp, if_pos (by simp), ck_pos (by omega), ck_pos (by omega), if_neg (by simp)]
theorem dloopO_end (t : Int) (l' : List Mv) (i n : Nat) (h : l'.length = n) : slices_DeleteFunc_2_b1 t (l', (i : Int), (n : Int)) = some (.done (l', (i : Int))) := by
  unfold slices_DeleteFunc_2_b1
  simp only
  rw [if_neg (by rw [decide_eq_true_eq, h]; omega)]
theorem dtailO_eq (l' : List Mv) (i : Nat) (hi : i < l'.length) (hl : l'.length ≤ 1000) (r : List Mv) (hr : l'.take i = r) : slices_DeleteFunc_2_k1 (l', (i : Int)) = some r := by
  unfold slices_DeleteFunc_2_k1
  have e5 : ((l'.length : Int) - (i : Int)).toNat = l'.length - i := by omega
  have hgl : (((l'.take i) ++ (List.replicate (l'.length - i) ((0, 0, 0, false) : Mv))) ++ (l'.drop (i + (l'.length - i)))).length = l'.length := by simp; omega
  simp only [Int.toNat_natCast, e5]
  rw [ck_pos (by omega), ck_pos (by omega), ck_pos (by omega), ck_pos (by omega), ck_pos (by omega), ck_pos (by rw [hgl]; omega), tail_clear l' i _ (by omega), hr]
theorem dfindO_none (t : Int) (l : List Mv) (e : whileO (slices_IndexFunc_6_b1 l t) 0 = some (.inr ())) : slices_IndexFunc_6 l t = some (-1) := by
  unfold slices_IndexFunc_6
  rw [e, Option.bind_some]
  rfl
theorem dfindO_some (t : Int) (l : List Mv) (k : Int) (e : whileO (slices_IndexFunc_6_b1 l t) 0 = some (.inl k)) : slices_IndexFunc_6 l t = some k := by
  unfold slices_IndexFunc_6
  rw [e, Option.bind_some]
theorem delO_none (t : Int) (l : List Mv) (e : slices_IndexFunc_6 l t = some (-1)) : slices_DeleteFunc_2 l t = some l := by
  unfold slices_DeleteFunc_2
  rw [e, Option.bind_some, if_pos (decide_eq_true rfl)]
theorem delO_some (t : Int) (l : List Mv) (k : Nat) (hk : k < 20) (e : slices_IndexFunc_6 l t = some (k : Int)) (l' : List Mv) (i : Nat)
    (e2 : whileO (slices_DeleteFunc_2_b1 t) (l, (k : Int), (k : Int) + 1) = some (l', (i : Int))) : slices_DeleteFunc_2 l t = slices_DeleteFunc_2_k1 (l', (i : Int)) := by
  have kk : InK .i64 ((k : Int) + 1) := by rw [inK_i64]; omega
  have kn : ¬ (k : Int) = -1 := by omega
  unfold slices_DeleteFunc_2
  rw [e, Option.bind_some, if_neg (by rw [decide_eq_true_eq]; exact kn), ck_pos kk, e2, Option.bind_some]

theorem delO_eq (t : Int) (l : List Mv) (hll : l.length ≤ 20) : slices_DeleteFunc_2 l t = some (onlyM t l) := by
  have hff : (l.filter fun x : Mv => !(!decide (x.2.1 = t))) = onlyM t l := by unfold onlyM; congr 1; funext x; rw [Bool.not_not]
  rw [← hff]
  rcases find_loop l (fun x => !decide (x.2.1 = t)) (dfindO_step t l hll) (dfindO_end t l) with ⟨e, h⟩ | ⟨k, x, e, h1, h2, h3⟩
  · rw [delO_none t l (dfindO_none t l e)]
    exact congrArg some (List.filter_eq_self.2 fun y hy => by rw [h y hy]; rfl).symm
  · have hlt := (List.getElem?_eq_some_iff.1 h1).1
    obtain ⟨l', i, e2, g1, g2, g3⟩ := delete_loop l (fun x => !decide (x.2.1 = t)) k h1 h2 h3 (body := slices_DeleteFunc_2_b1 t)
      (fun l' i j x hl' hij hj => dloopO_step t l' (by omega) i j x hij hj)
      (fun l' i hl' => dloopO_end t l' i l.length hl')
    rw [delO_some t l k (by omega) (dfindO_some t l k e) l' i e2]
    exact dtailO_eq l' i (by omega) (by omega) _ g3

theorem Only_eq (g : Gr) (hz : okZ g) (t : Int) : progress_Only g t = some (onlyR g t) := by
  unfold progress_Only onlyR
  rw [Valid_eq g hz, Option.bind_some]
  cases ho : okG g with
  | false => rfl
  | true =>
    have hg := okG_iff.1 ho
    have hl := hg.len
    rw [if_neg (by simp), isThread_eq, Option.bind_some, if_pos rfl]
    cases isB t 3 with
    | false => rfl
    | true => rw [if_neg (by simp), CloneM_eq _ (by omega), Option.bind_some, delO_eq t _ hl, Option.bind_some, if_pos rfl]

theorem rOnly_eq (g : Gr) (hz : okZ g) (t : Int) : linealref07_Only g t = some (onlyR g t) := by
  unfold linealref07_Only onlyR
  rw [rValid_eq g hz, Option.bind_some]
  cases ho : okG g with
  | false => rfl
  | true =>
    have hg := okG_iff.1 ho
    have hl := hg.len
    rw [if_neg (by simp), rIsThread_eq, Option.bind_some, if_pos rfl]
    cases isB t 3 with
    | false => rfl
    | true =>
      rw [if_neg (by simp), if_pos rfl]
      have key := whileO_list (body := linealref07_Only_b1 g t) (fun (s : List Mv) (k : Int) => (s, k)) g.2 (fun s m => if m.2.1 = t then s ++ [m] else s) id (fun k s => s = onlyM t (g.2.take k)) (s0 := []) rfl
        (fun k m s hk hs => by
          have hlt := (List.getElem?_eq_some_iff.1 hk).1
          have hsl : s.length ≤ k := by
            rw [hs]
            have h1 : (onlyM t (g.2.take k)).length ≤ (g.2.take k).length := List.length_filter_le _ _
            rw [List.length_take] at h1
            omega
          have kin : InK .i64 ((k : Int) + 1) := by rw [inK_i64]; omega
          refine ⟨?_, ?_⟩
          · unfold linealref07_Only_b1
            simp only [Int.toNat_natCast, getD_of hk]
            rw [if_pos (by rw [decide_eq_true_eq]; omega), ck_pos (by omega), ck_pos (by omega)]
            by_cases e : m.2.1 = t
            · rw [if_pos (by simpa using e), ck_pos (by omega), ck_pos kin, if_pos e]
            · rw [if_neg (by simpa using e), ck_pos kin, if_neg e]
          · rw [take_one hk, hs]
            unfold onlyM
            rw [List.filter_append]
            by_cases e : m.2.1 = t
            · rw [if_pos e]; simp [e]
            · rw [if_neg e]; simp [e])
        (fun s _ => by
          unfold linealref07_Only_b1
          rw [if_neg (by simp)]
          rfl)
      obtain ⟨k1, k2⟩ := key
      have k1' : whileO (linealref07_Only_b1 g t) ([], 0) = some _ := k1
      rw [k1', Option.bind_some]
      unfold linealref07_Only_k1
      rw [id, k2, List.take_length]

/-! ### The law -/

theorem Same_eq (a b : Gr) (ha : okZ a) (hb : okZ b) : linealref07_Same a b = some (decide (a = b)) := by
  unfold linealref07_Same
  by_cases h1 : a.1 = b.1
  · rw [if_neg (by simp [h1])]
    by_cases hl : a.2.length = b.2.length
    · rw [if_neg (by simp [hl])]
      have hf := ha.few
      unfold few at hf
      have key := whileO_all (body := linealref07_Same_b1 a b) (List.range a.2.length) (fun k => decide (a.2.getD k (0, 0, 0, false) = b.2.getD k (0, 0, 0, false))) (fun k j hk => by
        obtain ⟨hlt, rfl⟩ := range_at hk
        have za := ha.inK _ (getD_in (d := (0, 0, 0, false)) hlt)
        have zb := hb.inK _ (getD_in (d := (0, 0, 0, false)) (show j < b.2.length by omega))
        unfold linealref07_Same_b1
        simp only [Int.toNat_natCast]
        rw [if_pos (by rw [decide_eq_true_eq]; omega), ck_pos (by omega), ck_pos (by omega), ck_pos (by omega), ck_pos (by omega), ck_pos za.1, ck_pos za.2.1, ck_pos za.2.2, ck_pos zb.1, ck_pos zb.2.1, ck_pos zb.2.2, ck_pos (by rw [inK_i64]; omega)]
        by_cases h : a.2.getD j (0, 0, 0, false) = b.2.getD j (0, 0, 0, false)
        · rw [if_neg (by rw [decide_eq_true h]; simp), if_pos (decide_eq_true h)]
        · rw [if_pos (by rw [decide_eq_false h]; rfl), if_neg (by rw [decide_eq_true_eq]; exact h)]) (by
        rw [List.length_range]
        unfold linealref07_Same_b1
        rw [if_neg (by simp)])
      rw [key, Option.bind_some]
      have hiff : (List.range a.2.length).all (fun k => decide (a.2.getD k (0, 0, 0, false) = b.2.getD k (0, 0, 0, false))) = decide (a = b) := by
        rw [Bool.eq_iff_iff, List.all_eq_true, decide_eq_true_iff]
        constructor
        · intro h
          refine Prod.ext h1 (List.ext_getElem hl fun i h2 h3 => ?_)
          have := of_decide_eq_true (h i (List.mem_range.2 h2))
          rwa [getD_of (List.getElem?_eq_getElem h2), getD_of (List.getElem?_eq_getElem h3)] at this
        · rintro rfl; simp
      rw [hiff]
      cases decide (a = b) <;> rfl
    · rw [if_pos (by simp; omega), decide_eq_false (fun e => hl (by rw [e]))]
  · rw [if_pos (by simp [h1]), decide_eq_false (fun e => h1 (by rw [e]))]

theorem okZ_nil (n : Int) : okZ (n, []) := ⟨few_of (n := 0) (by simp), by simp⟩
theorem lessM_sub {ms : List Mv} {k : Nat} {m : Mv} (h : m ∈ lessM ms k) : m ∈ ms := by
  unfold lessM at h
  rcases List.mem_append.1 h with h | h
  · exact List.mem_of_mem_take h
  · exact List.mem_of_mem_drop h
theorem okZ_less {g : Gr} (hz : okZ g) (k : Nat) : okZ (g.1, lessM g.2 k) := by
  refine ⟨?_, fun m hm => hz.inK m (lessM_sub hm)⟩
  have := hz.few
  unfold few lessM at *
  simp
  omega
theorem swT_in {a b t : Int} (ha : 0 ≤ a ∧ a < 3) (hb : 0 ≤ b ∧ b < 3) (ht : 0 ≤ t ∧ t < 3) : 0 ≤ swT a b t ∧ swT a b t < 3 := by
  unfold swT
  split
  · exact hb
  · split
    · exact ha
    · exact ht
theorem okZ_ren {g : Gr} (hg : GOK g) {a b : Int} (ha : 0 ≤ a ∧ a < 3) (hb : 0 ≤ b ∧ b < 3) : okZ (g.1, g.2.map (swM a b)) := by
  refine ⟨few_of (n := 20) (by simpa using hg.len), fun m hm => ?_⟩
  obtain ⟨m', h1, rfl⟩ := List.mem_map.1 hm
  have := hg.mv m' h1
  have := hg.hi
  have h3 := swT_in ha hb (hg.mv m' h1).2.2
  unfold swM
  simp only
  exact ⟨by rw [inK_i64]; omega, by rw [inK_i64]; omega, by rw [inK_i64]; omega⟩
theorem okZ_only {g : Gr} (hz : okZ g) (t : Int) : okZ (g.1, onlyM t g.2) := by
  refine ⟨?_, fun m hm => hz.inK m (List.mem_filter.1 hm).1⟩
  have := hz.few
  unfold few onlyM at *
  have := List.length_filter_le (fun m : Mv => decide (m.2.1 = t)) g.2
  simp only
  omega

theorem ProgressOthers_eq (g : Gr) (hk : okEl (.pair (.int .i64) (.sl (.pair (.int .i64) (.pair (.int .i64) (.pair (.int .i64) .bool))))) g) (move a b : Int) : lineallaw07_ProgressOthers g move a b = some true := by
  have hz := okZ_of hk
  unfold lineallaw07_ProgressOthers
  have e1 : lineallaw07_Long g = some () := rfl
  rw [e1, Option.bind_some]
  by_cases h1 : 100 < (g.2.length : Int)
  · rw [if_pos (by simpa using h1), Awake7]; rfl
  have s1 : okZ ((lessR g move).1, (lessR g move).2.1) := by
    unfold lessR
    split
    · split
      · exact okZ_less hz _
      · exact okZ_nil _
    · exact okZ_nil _
  have s2 : okZ ((renR g a b).1, (renR g a b).2.1) := by
    unfold renR
    split
    · rename_i ho
      split
      · rename_i ha
        split
        · rename_i hb
          exact okZ_ren (okG_iff.1 ho) (isB_iff.1 ha) (isB_iff.1 hb)
        · exact okZ_nil _
      · exact okZ_nil _
    · exact okZ_nil _
  have s3 : okZ ((onlyR g a).1, (onlyR g a).2.1) := by
    unfold onlyR
    split
    · split
      · exact okZ_only hz _
      · exact okZ_nil _
    · exact okZ_nil _
  rw [if_neg (by simpa using h1), Without_eq g hz, Option.bind_some, rWithout_eq g hz, Option.bind_some, Same_eq _ _ s1 s1, Option.bind_some, if_neg (by simp), if_neg (by simp), Renamed_eq g hz, Option.bind_some, rRenamed_eq g hz, Option.bind_some, Same_eq _ _ s2 s2, Option.bind_some, if_neg (by simp), if_neg (by simp), Only_eq g hz, Option.bind_some, rOnly_eq g hz, Option.bind_some, Same_eq _ _ s3 s3, Option.bind_some, if_pos (by simp), if_pos (by simp), Awake7]
  rfl

end Go.Proofs.Yteclokkdgmacpaa
