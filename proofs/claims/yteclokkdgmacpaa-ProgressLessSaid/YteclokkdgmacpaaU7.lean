/-
  Layer 7, pure: graphs without a move, with threads exchanged, with one thread alone; ProgressOthers answers true.
-/
import Derived.Test.YteclokkdgmacpaaU6
namespace Go.Proofs.Yteclokkdgmacpaa
open Go.RowKit

set_option linter.unusedVariables false
set_option linter.unusedSimpArgs false
set_option linter.unusedSectionVars false
set_option maxRecDepth 10000

theorem ConcatM_eq (x y : List Mv) (hx : x.length ≤ 1000) (hy : y.length ≤ 1000) : slices_Concat_2 [x, y] = some (x ++ y) := by
  unfold slices_Concat_2
  have h1 : whileO (slices_Concat_2_b1 [x, y]) (0, 0) = some ((x.length : Int) + (y.length : Int)) := by
    refine whileO_seq (body := slices_Concat_2_b1 [x, y]) (fun k : Nat => (match k with | 0 => (0, 0) | 1 => ((x.length : Int), 1) | _ => ((x.length : Int) + (y.length : Int), 2) : Int × Int)) 2 (fun k hk => ?_) ?_
    · rcases (show k = 0 ∨ k = 1 by omega) with rfl | rfl
      · unfold slices_Concat_2_b1
        simp only
        rw [if_pos (by simp), ck_pos (by simp), ck_pos (by simp), ck_pos (by rw [inK_i64]; first | (simp; done) | (simp; omega)), if_neg (by first | (simp; done) | (simp; omega)), ck_pos (by rw [inK_i64]; simp)]
        simp
      · unfold slices_Concat_2_b1
        simp only
        rw [if_pos (by simp), ck_pos (by simp), ck_pos (by simp), ck_pos (by rw [inK_i64]; first | (simp; done) | (simp; omega)), if_neg (by first | (simp; done) | (simp; omega)), ck_pos (by rw [inK_i64]; simp)]
        simp
    · unfold slices_Concat_2_b1
      simp only
      rw [if_neg (by simp)]
  rw [h1, Option.bind_some]
  unfold slices_Concat_2_k1
  have h2 : slices_Grow_2 ((x.length : Int) + (y.length : Int)) = some () := by
    unfold slices_Grow_2
    rw [if_neg (by simp; omega), ck_pos (by rw [inK_i64]; omega), ck_pos (by rw [inK_i64]; omega)]
    by_cases h : 0 < ((x.length : Int) + (y.length : Int) - (0 - 0))
    · rw [if_pos (by simpa using h), ck_pos h, ck_pos (by omega), ck_pos (by omega), ck_pos (by omega), ck_pos (by omega)]
    · rw [if_neg (by simpa using h)]
  have h3 : whileO (slices_Concat_2_b2 [x, y]) ([], 0) = some (x ++ y) := by
    refine whileO_seq (body := slices_Concat_2_b2 [x, y]) (fun k : Nat => (match k with | 0 => ([], 0) | 1 => (x, 1) | _ => (x ++ y, 2) : List Mv × Int)) 2 (fun k hk => ?_) ?_
    · rcases (show k = 0 ∨ k = 1 by omega) with rfl | rfl
      · unfold slices_Concat_2_b2
        simp only
        rw [if_pos (by simp), ck_pos (by simp), ck_pos (by simp), ck_pos (by simp; omega), ck_pos (by rw [inK_i64]; simp)]
        simp
      · unfold slices_Concat_2_b2
        simp only
        rw [if_pos (by simp), ck_pos (by simp), ck_pos (by simp), ck_pos (by simp; omega), ck_pos (by rw [inK_i64]; simp)]
        simp
    · unfold slices_Concat_2_b2
      simp only
      rw [if_neg (by simp)]
  rw [h2, Option.bind_some, h3, Option.bind_some]; rfl

/-! ### Without -/

def lessM (ms : List Mv) (k : Nat) : List Mv := ms.take k ++ ms.drop (k + 1)
def lessR (g : Gr) (move : Int) : Int × List Mv × Int := if okG g = true then (if isB move (g.2.length : Int) = true then (g.1, lessM g.2 move.toNat, 0) else (0, [], 2)) else (0, [], 70)

theorem Without_eq (g : Gr) (hz : okZ g) (move : Int) : progress_Without g move = some (lessR g move) := by
  unfold progress_Without lessR
  rw [Valid_eq g hz, Option.bind_some]
  cases ho : okG g with
  | false => rfl
  | true =>
    have hg := okG_iff.1 ho
    have hl := hg.len
    rw [if_neg (by simp), isBelow_eq, Option.bind_some, if_pos rfl]
    cases hb : isB move (g.2.length : Int) with
    | false => rfl
    | true =>
      have hb' := isB_iff.1 hb
      have e1 : (move + 1).toNat = move.toNat + 1 := by omega
      rw [if_neg (by simp), ck_pos (by omega), ck_pos (by omega), ck_pos (by rw [inK_i64]; omega), ck_pos (by omega), ck_pos (by omega), ConcatM_eq _ _ (by rw [List.length_take]; omega) (by rw [List.length_drop]; omega), Option.bind_some, if_pos rfl, e1]
      rfl

/-! ### Renamed -/

def swT (a b t : Int) : Int := if t = a then b else if t = b then a else t
def swM (a b : Int) (m : Mv) : Mv := (m.1, swT a b m.2.1, m.2.2)
def renG (g : Gr) (a b : Int) : Gr := (g.1, g.2.map (swM a b))
def renR (g : Gr) (a b : Int) : Int × List Mv × Int := if okG g = true then (if isB a 3 = true then (if isB b 3 = true then (g.1, g.2.map (swM a b), 0) else (0, [], 2)) else (0, [], 2)) else (0, [], 70)

theorem CloneM_eq (s : List Mv) (h : s.length ≤ 1000) : slices_Clone s = some s := by
  unfold slices_Clone
  rw [ck_pos (by omega)]

/-! ### Only -/

def onlyM (t : Int) (ms : List Mv) : List Mv := ms.filter fun m => decide (m.2.1 = t)
def onlyR (g : Gr) (t : Int) : Int × List Mv × Int := if okG g = true then (if isB t 3 = true then (g.1, onlyM t g.2, 0) else (0, [], 2)) else (0, [], 70)

theorem dfindO_step (t : Int) (l : List Mv) (hll : l.length ≤ 20) (k : Nat) (x : Mv) (hk : l[k]? = some x) : slices_IndexFunc_6_b1 l t (k : Int) = some (if (!decide (x.2.1 = t)) = true then .done (.inl (k : Int)) else .next ((k : Int) + 1)) := by
  have hlt := (List.getElem?_eq_some_iff.1 hk).1
  have ki : InK .i64 ((k : Int) + 1) := by rw [inK_i64]; omega
  unfold slices_IndexFunc_6_b1 progress_Only_1
  simp only [Int.toNat_natCast, getD_of hk, ck_pos ki, Option.bind_some]
  rw [if_pos (by rw [decide_eq_true_eq]; omega), ck_pos (by omega), ck_pos (by omega)]
  by_cases h : (!decide (x.2.1 = t)) = true
  · rw [if_pos h, if_pos h]
  · rw [if_neg h, if_neg h]
theorem dfindO_end (t : Int) (l : List Mv) : slices_IndexFunc_6_b1 l t (l.length : Int) = some (.done (.inr ())) := by
  unfold slices_IndexFunc_6_b1
  rw [if_neg (by simp)]
theorem dloopO_step (t : Int) (l' : List Mv) (hll : l'.length ≤ 20) (i j : Nat) (x : Mv) (hij : i < j) (hj : l'[j]? = some x) :
    slices_DeleteFunc_2_b1 t (l', (i : Int), (j : Int)) = some (.next (if (!decide (x.2.1 = t)) = true then (l', (i : Int), (j : Int) + 1) else (l'.set i x, (i : Int) + 1, (j : Int) + 1))) := by
  have hjl := (List.getElem?_eq_some_iff.1 hj).1
  have ki : InK .i64 ((i : Int) + 1) := by rw [inK_i64]; omega
  have kj : InK .i64 ((j : Int) + 1) := by rw [inK_i64]; omega
  unfold slices_DeleteFunc_2_b1 progress_Only_1
  simp only [Int.toNat_natCast, getD_of hj, ck_pos ki, ck_pos kj, Option.bind_some]
  rw [if_pos (by rw [decide_eq_true_eq]; omega), ck_pos (by omega), ck_pos (by omega)]
  by_cases hp : (!decide (x.2.1 = t)) = true
  · rw [hp, if_neg (by simp), if_pos rfl]
  · rw [Bool.not_eq_true] at hp
    rw [hp, if_pos (by simp), ck_pos (by omega), ck_pos (by omega), if_neg (by simp)]
theorem dloopO_end (t : Int) (l' : List Mv) (i n : Nat) (h : l'.length = n) : slices_DeleteFunc_2_b1 t (l', (i : Int), (n : Int)) = some (.done (l', (i : Int))) := by
  unfold slices_DeleteFunc_2_b1
  simp only
  rw [if_neg (by rw [decide_eq_true_eq, h]; omega)]
theorem dtailO_eq (l' : List Mv) (i : Nat) (hi : i < l'.length) (hl : l'.length ≤ 1000) (r : List Mv) (hr : l'.take i = r) : slices_DeleteFunc_2_k1 (l', (i : Int)) = some r := by
  unfold slices_DeleteFunc_2_k1
  have e5 : ((l'.length : Int) - (i : Int)).toNat = l'.length - i := by omega
  have hgl : (((l'.take i) ++ (List.replicate (l'.length - i) ((0, 0, 0, false) : Mv))) ++ (l'.drop (i + (l'.length - i)))).length = l'.length := by simp; omega
  simp only [Int.toNat_natCast, e5]
  rw [ck_pos (by omega), ck_pos (by omega), ck_pos (by omega), ck_pos (by omega), ck_pos (by omega), ck_pos (by rw [hgl]; omega), tail_clear l' i _ (by omega), hr]
theorem dfindO_none (t : Int) (l : List Mv) (e : whileO (slices_IndexFunc_6_b1 l t) 0 = some (.inr ())) : slices_IndexFunc_6 l t = some (-1) := by
  unfold slices_IndexFunc_6
  rw [e, Option.bind_some]
  rfl
theorem dfindO_some (t : Int) (l : List Mv) (k : Int) (e : whileO (slices_IndexFunc_6_b1 l t) 0 = some (.inl k)) : slices_IndexFunc_6 l t = some k := by
  unfold slices_IndexFunc_6
  rw [e, Option.bind_some]
theorem delO_none (t : Int) (l : List Mv) (e : slices_IndexFunc_6 l t = some (-1)) : slices_DeleteFunc_2 l t = some l := by
  unfold slices_DeleteFunc_2
  rw [e, Option.bind_some, if_pos (decide_eq_true rfl)]
theorem delO_some (t : Int) (l : List Mv) (k : Nat) (hk : k < 20) (e : slices_IndexFunc_6 l t = some (k : Int)) (l' : List Mv) (i : Nat)
    (e2 : whileO (slices_DeleteFunc_2_b1 t) (l, (k : Int), (k : Int) + 1) = some (l', (i : Int))) : slices_DeleteFunc_2 l t = slices_DeleteFunc_2_k1 (l', (i : Int)) := by
  have kk : InK .i64 ((k : Int) + 1) := by rw [inK_i64]; omega
  have kn : ¬ (k : Int) = -1 := by omega
  unfold slices_DeleteFunc_2
  rw [e, Option.bind_some, if_neg (by rw [decide_eq_true_eq]; exact kn), ck_pos kk, e2, Option.bind_some]

theorem delO_eq (t : Int) (l : List Mv) (hll : l.length ≤ 20) : slices_DeleteFunc_2 l t = some (onlyM t l) := by
  have hff : (l.filter fun x : Mv => !(!decide (x.2.1 = t))) = onlyM t l := by unfold onlyM; congr 1; funext x; rw [Bool.not_not]
  rw [← hff]
  rcases find_loop l (fun x => !decide (x.2.1 = t)) (dfindO_step t l hll) (dfindO_end t l) with ⟨e, h⟩ | ⟨k, x, e, h1, h2, h3⟩
  · rw [delO_none t l (dfindO_none t l e)]
    exact congrArg some (List.filter_eq_self.2 fun y hy => by rw [h y hy]; rfl).symm
  · have hlt := (List.getElem?_eq_some_iff.1 h1).1
    obtain ⟨l', i, e2, g1, g2, g3⟩ := delete_loop l (fun x => !decide (x.2.1 = t)) k h1 h2 h3 (body := slices_DeleteFunc_2_b1 t)
      (fun l' i j x hl' hij hj => dloopO_step t l' (by omega) i j x hij hj)
      (fun l' i hl' => dloopO_end t l' i l.length hl')
    rw [delO_some t l k (by omega) (dfindO_some t l k e) l' i e2]
    exact dtailO_eq l' i (by omega) (by omega) _ g3

theorem Only_eq (g : Gr) (hz : okZ g) (t : Int) : progress_Only g t = some (onlyR g t) := by
  unfold progress_Only onlyR
  rw [Valid_eq g hz, Option.bind_some]
  cases ho : okG g with
  | false => rfl
  | true =>
    have hg := okG_iff.1 ho
    have hl := hg.len
    rw [if_neg (by simp), isThread_eq, Option.bind_some, if_pos rfl]
    cases isB t 3 with
    | false => rfl
    | true => rw [if_neg (by simp), CloneM_eq _ (by omega), Option.bind_some, delO_eq t _ hl, Option.bind_some, if_pos rfl]

/-! ### The law -/

theorem lessM_sub {ms : List Mv} {k : Nat} {m : Mv} (h : m ∈ lessM ms k) : m ∈ ms := by
  unfold lessM at h
  rcases List.mem_append.1 h with h | h
  · exact List.mem_of_mem_take h
  · exact List.mem_of_mem_drop h
theorem okZ_ok {g : Gr} (hg : GOK g) : okZ g := by
  refine ⟨few_of hg.len, fun m hm => ?_⟩
  have := hg.mv m hm
  have := hg.hi
  exact ⟨by rw [inK_i64]; omega, by rw [inK_i64]; omega, by rw [inK_i64]; omega⟩
end Go.Proofs.Yteclokkdgmacpaa
