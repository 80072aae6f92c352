/-
  Layer 7, pure: the places from which no move leads; ProgressPaths answers true.
-/
import Derived.Test.YteclokkdgmacpaaU5
import Derived.Test.YteclokkdgmacpaaRdr
namespace Go.Proofs.Yteclokkdgmacpaa
open Go.RowKit

set_option linter.unusedVariables false
set_option linter.unusedSimpArgs false
set_option linter.unusedSectionVars false
set_option maxRecDepth 10000

/-- A move leads from a place. -/
def goB (g : Gr) (p : Int) : Bool := g.2.any fun m => decide (m.1 = p)
def endsL (g : Gr) : List Int := (reachL g).filter fun p => !goB g p

theorem tail_clear {α : Type} (l : List α) (i : Nat) (d : α) (hi : i < l.length) : (((l.take i) ++ (List.replicate (l.length - i) d)) ++ (l.drop (i + (l.length - i)))).take i = l.take i := by
  rw [List.append_assoc, List.take_append_of_le_length (by rw [List.length_take]; omega), List.take_take, Nat.min_self]

theorem isEnd_eq {g : Gr} (hl : g.2.length ≤ 20) (p : Int) : progress_graph_isEnd g p = some (!goB g p) := by
  unfold progress_graph_isEnd slices_ContainsFunc slices_IndexFunc_5
  have hf := find_loop g.2 (fun m => decide (m.1 = p)) (body := slices_IndexFunc_5_b1 g.2 p) (fun k m hk => by
    have hlt := (List.getElem?_eq_some_iff.1 hk).1
    have ki : InK .i64 ((k : Int) + 1) := by rw [inK_i64]; omega
    unfold slices_IndexFunc_5_b1 progress_graph_isEnd_1
    simp only [Int.toNat_natCast, getD_of hk, ck_pos ki, Option.bind_some]
    rw [if_pos (by rw [decide_eq_true_eq]; omega), ck_pos (by omega), ck_pos (by omega)]
    by_cases h : m.1 = p
    · rw [if_pos (by simpa using h), if_pos (by simpa using h)]
    · rw [if_neg (by simpa using h), if_neg (by simpa using h)]) (by
    unfold slices_IndexFunc_5_b1
    rw [if_neg (by simp)])
  rcases hf with ⟨e, h⟩ | ⟨k, m, e, h1, h2, _⟩
  · have : goB g p = false := by
      unfold goB
      rw [List.any_eq_false]
      intro z hz
      rw [h z hz]; simp
    rw [e, this]
    rfl
  · have : goB g p = true := by
      unfold goB
      rw [List.any_eq_true]
      exact ⟨m, List.mem_of_getElem? h1, h2⟩
    rw [e, this]
    simp

theorem dfindE_step {g : Gr} (hl : g.2.length ≤ 20) (l : List Int) (hll : l.length ≤ 8) (k : Nat) (x : Int) (hk : l[k]? = some x) : slices_IndexFunc_4_b1 l g (k : Int) = some (if goB g x = true then .done (.inl (k : Int)) else .next ((k : Int) + 1)) := by
  have hlt := (List.getElem?_eq_some_iff.1 hk).1
  have ki : InK .i64 ((k : Int) + 1) := by rw [inK_i64]; omega
  unfold slices_IndexFunc_4_b1 progress_Ends_1
  simp only [Int.toNat_natCast, getD_of hk, ck_pos ki, isEnd_eq hl, Option.bind_some, Bool.not_not]
  rw [if_pos (by rw [decide_eq_true_eq]; omega), ck_pos (by omega), ck_pos (by omega)]
  by_cases h : goB g x = true
  · rw [if_pos h, if_pos h]
  · rw [if_neg h, if_neg h]
theorem dfindE_end (g : Gr) (l : List Int) : slices_IndexFunc_4_b1 l g (l.length : Int) = some (.done (.inr ())) := by
  unfold slices_IndexFunc_4_b1
  rw [if_neg (by simp)]
theorem dloopE_step {g : Gr} (hl : g.2.length ≤ 20) (l' : List Int) (hll : l'.length ≤ 8) (i j : Nat) (x : Int) (hij : i < j) (hj : l'[j]? = some x) :
    slices_DeleteFunc_b1 g (l', (i : Int), (j : Int)) = some (.next (if goB g x = true then (l', (i : Int), (j : Int) + 1) else (l'.set i x, (i : Int) + 1, (j : Int) + 1))) := by
  have hjl := (List.getElem?_eq_some_iff.1 hj).1
  have ki : InK .i64 ((i : Int) + 1) := by rw [inK_i64]; omega
  have kj : InK .i64 ((j : Int) + 1) := by rw [inK_i64]; omega
  unfold slices_DeleteFunc_b1 progress_Ends_1_2
  simp only [Int.toNat_natCast, getD_of hj, ck_pos ki, ck_pos kj, isEnd_eq hl, Option.bind_some, Bool.not_not]
  rw [if_pos (by rw [decide_eq_true_eq]; omega), ck_pos (by omega), ck_pos (by omega)]
  by_cases hp : goB g x = true
  · rw [hp, if_neg (by simp), if_pos rfl]
  · rw [Bool.not_eq_true] at hp
    rw [hp, if_pos (by simp), ck_pos (by omega), ck_pos (by omega), if_neg (by simp)]
theorem dloopE_end (g : Gr) (l' : List Int) (i n : Nat) (h : l'.length = n) : slices_DeleteFunc_b1 g (l', (i : Int), (n : Int)) = some (.done (l', (i : Int))) := by
  unfold slices_DeleteFunc_b1
  simp only
  rw [if_neg (by rw [decide_eq_true_eq, h]; omega)]
theorem dtailE_eq (l' : List Int) (i : Nat) (hi : i < l'.length) (hl : l'.length ≤ 1000) (r : List Int) (hr : l'.take i = r) : slices_DeleteFunc_k1 (l', (i : Int)) = some r := by
  unfold slices_DeleteFunc_k1
  have e5 : ((l'.length : Int) - (i : Int)).toNat = l'.length - i := by omega
  have hgl : (((l'.take i) ++ (List.replicate (l'.length - i) (0 : Int))) ++ (l'.drop (i + (l'.length - i)))).length = l'.length := by simp; omega
  simp only [Int.toNat_natCast, e5]
  rw [ck_pos (by omega), ck_pos (by omega), ck_pos (by omega), ck_pos (by omega), ck_pos (by omega), ck_pos (by rw [hgl]; omega), tail_clear l' i 0 (by omega), hr]
theorem dfindE_none {g : Gr} (l : List Int) (e : whileO (slices_IndexFunc_4_b1 l g) 0 = some (.inr ())) : slices_IndexFunc_4 l g = some (-1) := by
  unfold slices_IndexFunc_4
  rw [e, Option.bind_some]
  rfl
theorem dfindE_some {g : Gr} (l : List Int) (k : Int) (e : whileO (slices_IndexFunc_4_b1 l g) 0 = some (.inl k)) : slices_IndexFunc_4 l g = some k := by
  unfold slices_IndexFunc_4
  rw [e, Option.bind_some]
theorem delE_none {g : Gr} (l : List Int) (e : slices_IndexFunc_4 l g = some (-1)) : slices_DeleteFunc l g = some l := by
  unfold slices_DeleteFunc
  rw [e, Option.bind_some, if_pos (decide_eq_true rfl)]
theorem delE_some {g : Gr} (l : List Int) (k : Nat) (hk : k < 8) (e : slices_IndexFunc_4 l g = some (k : Int)) (l' : List Int) (i : Nat)
    (e2 : whileO (slices_DeleteFunc_b1 g) (l, (k : Int), (k : Int) + 1) = some (l', (i : Int))) : slices_DeleteFunc l g = slices_DeleteFunc_k1 (l', (i : Int)) := by
  have kk : InK .i64 ((k : Int) + 1) := by rw [inK_i64]; omega
  have kn : ¬ (k : Int) = -1 := by omega
  unfold slices_DeleteFunc
  rw [e, Option.bind_some, if_neg (by rw [decide_eq_true_eq]; exact kn), ck_pos kk, e2, Option.bind_some]

theorem delE_eq {g : Gr} (hl : g.2.length ≤ 20) (l : List Int) (hll : l.length ≤ 8) : slices_DeleteFunc l g = some (l.filter fun p => !goB g p) := by
  rcases find_loop l (fun x => goB g x) (dfindE_step hl l hll) (dfindE_end g l) with ⟨e, h⟩ | ⟨k, x, e, h1, h2, h3⟩
  · rw [delE_none l (dfindE_none l e)]
    exact congrArg some (List.filter_eq_self.2 fun y hy => by rw [h y hy]; rfl).symm
  · have hlt := (List.getElem?_eq_some_iff.1 h1).1
    obtain ⟨l', i, e2, g1, g2, g3⟩ := delete_loop l (fun x => goB g x) k h1 h2 h3 (body := slices_DeleteFunc_b1 g)
      (fun l' i j x hl' hij hj => dloopE_step hl l' (by omega) i j x hij hj)
      (fun l' i hl' => dloopE_end g l' i l.length hl')
    rw [delE_some l k (by omega) (dfindE_some l k e) l' i e2]
    exact dtailE_eq l' i (by omega) (by omega) _ g3

theorem Ends_eq (g : Gr) (hz : okZ g) : progress_Ends g = some (if okG g = true then (endsL g, 0) else ([], 70)) := by
  unfold progress_Ends
  rw [graphOf_eq g hz, Option.bind_some]
  cases ho : okG g with
  | false => rfl
  | true =>
    have hg := okG_iff.1 ho
    rw [if_pos rfl, if_neg (by simp), reached_eq hg, Option.bind_some, delE_eq hg.len _ (reachL_len hg)]
    rfl

theorem rEnds_in {g : Gr} (hg : GOK g) (b : Bool) (l : List Int) (p : Int) : whileO (linealref07_Ends_b2 g (l, p)) (b, 0) = some (b && !goB g p) := by
  have key := whileO_list (body := linealref07_Ends_b2 g (l, p)) (fun (s : Bool) (k : Int) => (s, k)) g.2 (fun s m => s && !decide (m.1 = p)) id (fun _ _ => True) (s0 := b) trivial
    (fun k m s hk _ => by
      refine ⟨?_, trivial⟩
      have hlt := (List.getElem?_eq_some_iff.1 hk).1
      have hl := hg.len
      have ki : InK .i64 ((k : Int) + 1) := by rw [inK_i64]; omega
      unfold linealref07_Ends_b2
      simp only [Int.toNat_natCast, getD_of hk]
      rw [if_pos (by rw [decide_eq_true_eq]; omega), ck_pos (by omega), ck_pos (by omega)]
      cases s with
      | true => rw [if_pos rfl, ck_pos ki]; rfl
      | false => rw [if_neg (by simp), ck_pos ki]; rfl)
    (fun s _ => by
      unfold linealref07_Ends_b2
      rw [if_neg (by simp)]
      rfl)
  have k1 : whileO (linealref07_Ends_b2 g (l, p)) (b, 0) = some _ := key.1
  rw [k1, id, foldl_and]
  unfold goB
  congr 2
  rw [Bool.eq_iff_iff, List.all_eq_true, Bool.not_eq_true', List.any_eq_false]
  simp

theorem rEnds_eq (g : Gr) (hz : okZ g) : linealref07_Ends g = some (if okG g = true then (endsL g, 0) else ([], 70)) := by
  unfold linealref07_Ends
  rw [rValid_eq g hz, Option.bind_some]
  cases ho : okG g with
  | false => rfl
  | true =>
    have hg := okG_iff.1 ho
    have hhi := hg.hi
    rw [if_neg (by simp), rreached_eq hg, Option.bind_some, if_pos rfl]
    have hl := thereL_len hg
    have key := whileO_iter (body := linealref07_Ends_b1 g (thereL g)) (fun (s : List Int) (k : Int) => (s, k)) g.1.toNat (fun k s => if R0 g (k : Int) ∧ goB g (k : Int) = false then s ++ [(k : Int)] else s) id (fun k s => s = (((List.range k).map fun n : Nat => (n : Int)).filter fun p => decide (R0 g p)).filter fun p => !goB g p) (s0 := []) rfl
      (fun k s hk hs => by
        have hsl : s.length ≤ k := by
          rw [hs]
          have h1 := List.length_filter_le (fun p => !goB g p) (((List.range k).map fun n : Nat => (n : Int)).filter fun p => decide (R0 g p))
          have := List.length_filter_le (fun p => decide (R0 g p)) ((List.range k).map fun n : Nat => (n : Int))
          simp at this
          omega
        refine ⟨?_, ?_⟩
        · unfold linealref07_Ends_b1
          simp only [Int.toNat_natCast]
          rw [if_pos (by rw [decide_eq_true_eq]; omega), ck_pos (by omega), ck_pos (by omega), thereL_at hg, rEnds_in hg, Option.bind_some]
          unfold linealref07_Ends_k3 linealref07_Ends_k2
          simp only
          have kin : InK .i64 ((k : Int) + 1) := by rw [inK_i64]; omega
          by_cases h : R0 g (k : Int) ∧ goB g (k : Int) = false
          · rw [if_pos h, decide_eq_true h.1, h.2, if_pos (by rfl), ck_pos (by omega), ck_pos kin]
          · rw [if_neg h, if_neg, ck_pos kin]
            intro hc
            rw [Bool.and_eq_true, decide_eq_true_iff] at hc
            exact h ⟨hc.1, by simpa using hc.2⟩
        · rw [List.range_succ, List.map_append, List.filter_append, List.filter_append, hs]
          by_cases h : R0 g (k : Int) ∧ goB g (k : Int) = false
          · rw [if_pos h]; simp [h.1, h.2]
          · rw [if_neg h]
            by_cases h1 : R0 g (k : Int)
            · have h2 : goB g (k : Int) = true := by
                cases hgo : goB g (k : Int) with
                | true => rfl
                | false => exact absurd ⟨h1, hgo⟩ h
              simp [h1, h2]
            · simp [h1])
      (fun s _ => by
        unfold linealref07_Ends_b1
        simp only
        rw [if_neg (by rw [decide_eq_true_eq]; omega)]
        rfl)
    obtain ⟨k1, k2⟩ := key
    have k1' : whileO (linealref07_Ends_b1 g (rRnds g g.1.toNat)) ([], 0) = some _ := k1
    rw [k1', Option.bind_some]
    unfold linealref07_Ends_k1 endsL
    rw [id, k2, reachL_eq hg]

theorem SameInts_eq7 (a b : List Int) (ha : few a) (hb : few b) : linealref07_SameInts a b = some (decide (a = b)) := by
  unfold linealref07_SameInts
  by_cases hl : a.length = b.length
  · rw [if_neg (by simp [hl])]
    have key := whileO_all (body := linealref07_SameInts_b1 a b) (List.range a.length) (fun k => decide (a.getD k 0 = b.getD k 0)) (fun k j hk => by
      obtain ⟨hlt, rfl⟩ := range_at hk
      unfold few at ha
      unfold linealref07_SameInts_b1
      simp only [Int.toNat_natCast]
      rw [if_pos (by rw [decide_eq_true_eq]; omega), ck_pos (by omega), ck_pos (by omega), ck_pos (by omega), ck_pos (by omega), ck_pos (by rw [inK_i64]; omega)]
      by_cases h : a.getD j 0 = b.getD j 0
      · rw [if_neg (by simpa using h), if_pos (by simpa using h)]
      · rw [if_pos (by simpa using h), if_neg (by simpa using h)]) (by
      rw [List.length_range]
      unfold linealref07_SameInts_b1
      rw [if_neg (by simp)])
    rw [key, Option.bind_some]
    have hiff : (List.range a.length).all (fun k => decide (a.getD k 0 = b.getD k 0)) = decide (a = b) := by
      rw [Bool.eq_iff_iff, List.all_eq_true, decide_eq_true_iff]
      constructor
      · intro h
        refine List.ext_getElem hl fun i h1 h2 => ?_
        have := of_decide_eq_true (h i (List.mem_range.2 h1))
        rwa [getD_of (List.getElem?_eq_getElem h1), getD_of (List.getElem?_eq_getElem h2)] at this
      · rintro rfl; simp
    rw [hiff]
    cases decide (a = b) <;> rfl
  · rw [if_pos (by simp; omega), decide_eq_false (fun e => hl (by rw [e]))]

theorem Awake7 : lineallaw07_Awake = some true := lineallaw07_Awake_run

theorem wayR_few {g : Gr} {p : Int} : few (wayR g p).1 := by
  unfold wayR
  split
  · rename_i ho
    have hg := okG_iff.1 ho
    split
    · cases hw : wayL any g 0 p with
      | none => exact few_of (n := 0) (by simp)
      | some w =>
        have := (wayL_some hg (zero_in hg) hw).2.2.1
        have := hg.hi
        exact few_of (n := 8) (by simp only; omega)
    · exact few_of (n := 0) (by simp)
  · exact few_of (n := 0) (by simp)

theorem okZ_of {g : Gr} (h : okEl (.pair (.int .i64) (.sl (.pair (.int .i64) (.pair (.int .i64) (.pair (.int .i64) .bool))))) g) : okZ g := by
  refine ⟨?_, fun m hm => ?_⟩
  · have h1 : g.2.length * 25 ≤ 140737488351232 := h.2.1
    unfold few
    omega
  · have := h.2.2.2 m hm
    exact ⟨this.1, this.2.1, this.2.2.1⟩

theorem ProgressPaths_eq (g : Gr) (hk : okEl (.pair (.int .i64) (.sl (.pair (.int .i64) (.pair (.int .i64) (.pair (.int .i64) .bool))))) g) (path : List Int) (place : Int) : lineallaw07_ProgressPaths g path place = some true := by
  have hz := okZ_of hk
  unfold lineallaw07_ProgressPaths
  have e1 : lineallaw07_Long g = some () := rfl
  have e2 : lineallaw07_many path = some () := rfl
  rw [e1, Option.bind_some]
  by_cases h1 : 100 < (g.2.length : Int)
  · rw [if_pos (by simpa using h1), Awake7]; rfl
  rw [if_neg (by simpa using h1), e2, Option.bind_some]
  by_cases h2 : 1100 < (path.length : Int)
  · rw [if_pos (by simpa using h2), Awake7]; rfl
  rw [if_neg (by simpa using h2), IsPath_eq g hz, Option.bind_some]
  have rI : linealref07_IsPath g path = some (if okG g = true then (isPath g path, 0) else (false, 70)) := by
    unfold linealref07_IsPath
    rw [rValid_eq g hz, Option.bind_some]
    cases okG g with
    | false => rfl
    | true => rw [if_neg (by simp), risPath_eq]; rfl
  rw [rI, Option.bind_some, Valid_eq g hz, Option.bind_some, rValid_eq g hz, Option.bind_some, if_neg (by simp), if_neg (by simp), if_neg (by simp), Reached_eq g hz, Option.bind_some, rReached_eq g hz, Option.bind_some]
  have fr : few (if okG g = true then (reachL g, (0 : Int)) else ([], 70)).1 := by
    split
    · rename_i ho; exact few_of (reachL_len (okG_iff.1 ho))
    · exact few_of (n := 0) (by simp)
  have fe : few (if okG g = true then (endsL g, (0 : Int)) else ([], 70)).1 := by
    split
    · rename_i ho
      have := reachL_len (okG_iff.1 ho)
      have h3 : (endsL g).length ≤ (reachL g).length := List.length_filter_le _ _
      exact few_of (n := 8) (by simp only; omega)
    · exact few_of (n := 0) (by simp)
  rw [SameInts_eq7 _ _ fr fr, Option.bind_some, if_neg (by simp), if_neg (by simp), Way_eq g hz, Option.bind_some, rWay_eq g hz, Option.bind_some, Ends_eq g hz, Option.bind_some, rEnds_eq g hz, Option.bind_some, SameInts_eq7 _ _ wayR_few wayR_few, Option.bind_some, if_pos (by simp), if_pos (by simp), SameInts_eq7 _ _ fe fe, Option.bind_some, if_pos (by simp), if_pos (by simp), Awake7]
  rfl

end Go.Proofs.Yteclokkdgmacpaa
