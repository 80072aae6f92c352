/-
  Layer 1, pure: the states that are reached, the ways to them.
-/
import Derived.Test.YtcgflignbhmoaaaP5
namespace Go.Proofs.Ytcgflignbhmoaaa
open Go.RowKit

set_option linter.unusedVariables false
set_option linter.unusedSectionVars false
set_option linter.unusedSimpArgs false

/-! ### Sorting few numbers -/

/-! ### Ways -/

/-- The states that are reached, with their words. -/
def waysL (s : Tup) : List (Int × List Int) := (bfs (toSp s) (toSp s) (0, 0)).map fun e => (e.1.1, e.2)

theorem foldY_map {Y Z S R : Type} (g : Y → Z) (yl : Z → S → Option (Step S R)) (yl' : Y → S → Option (Step S R)) (h : ∀ y s, yl' y s = yl (g y) s) : ∀ (l : List Y) (s : S), foldY yl' l s = foldY yl (l.map g) s
  | [], s => rfl
  | y :: l, s => by
    simp only [foldY, List.map_cons, h]
    congr 1
    funext x
    cases x with
    | next s' => exact foldY_map g yl yl' h l s'
    | done e => rfl

theorem zero_ok {s : Tup} (hv : (toSp s).ok = true) : okP (toSp s) (toSp s) (0, 0) := by
  have := (Sp.okE hv).1
  exact ⟨by simp only [inR, decide_eq_true_eq]; omega, by simp only [inR, decide_eq_true_eq]; omega⟩

theorem ways_eq {S R : Type} {s : Tup} (hv : (toSp s).ok = true) (yl : Int × List Int → S → Option (Step S R)) (s0 : S) {r : Sum S R} (h : foldY yl (waysL s) s0 = some r) : spec_machine_ways_1 S R s yl s0 = some r := by
  unfold spec_machine_ways_1 spec_walk
  rw [Option.bind_some]
  have h1 : foldY (spec_machine_ways_1_y1 S R yl) (bfs (toSp s) (toSp s) (0, 0)) s0 = some r := by
    rw [foldY_map (fun e : Elt => (e.1.1, e.2)) yl (spec_machine_ways_1_y1 S R yl) (fun y st => ?_)]
    · exact h
    · unfold spec_machine_ways_1_y1
      cases yl (y.1.1, y.2) st with
      | none => rfl
      | some x => cases x <;> rfl
  rw [walk_eq S R (0, 0) s s hv hv rfl (zero_ok hv) _ s0 h1, Option.bind_some]
  cases r <;> rfl

theorem lead_diag (S : Sp) : ∀ (w : List Int) (q : Int), (lead S S (q, q) w).1 = (lead S S (q, q) w).2
  | [], q => rfl
  | o :: w, q => lead_diag S w (at2 S.nx q o.toNat)

section
variable {s : Tup} (hv : (toSp s).ok = true)
include hv

theorem diag {e : Elt} (he : e ∈ bfs (toSp s) (toSp s) (0, 0)) : e.1.1 = e.1.2 := by
  rw [← (bfs_lead hv hv rfl (zero_ok hv) he).1]
  exact lead_diag _ _ _

theorem ways_nodup : ((waysL s).map (·.1)).Nodup := by
  have h := (bfsK_fnd hv hv rfl (zero_ok hv) 64).nd
  unfold waysL
  rw [List.map_map]
  unfold List.Nodup at h ⊢
  rw [List.pairwise_map] at h ⊢
  refine List.Pairwise.imp_of_mem ?_ h
  intro a b ha hb hne e
  have h1 := diag hv ha
  have h2 := diag hv hb
  have e' : a.1.1 = b.1.1 := e
  exact hne (Prod.ext e' (by rw [← h1, ← h2, e']))

theorem ways_in {x : Int × List Int} (hx : x ∈ waysL s) : inR s.1 x.1 = true := by
  obtain ⟨e, he, rfl⟩ := List.mem_map.1 hx
  exact ((bfsK_fnd hv hv rfl (zero_ok hv) 64).ok e he).1

theorem ways_len : ((waysL s).length : Int) ≤ s.1 := by
  have hm := Sp.okE hv
  have h1 : 1 ≤ s.1 := hm.1
  have h := ways_nodup hv
  have : (((waysL s).map (·.1)).map Int.toNat).length ≤ s.1.toNat := by
    refine nodup_lt _ _ ?_ ?_
    · unfold List.Nodup at h ⊢
      rw [List.pairwise_map]
      refine List.Pairwise.imp_of_mem ?_ h
      intro a b ha hb hne e
      obtain ⟨x, hx, rfl⟩ := List.mem_map.1 ha
      obtain ⟨y, hy, rfl⟩ := List.mem_map.1 hb
      have h1 := ways_in hv hx
      have h2 := ways_in hv hy
      simp only [inR, decide_eq_true_eq] at h1 h2
      exact hne (by omega)
    · intro x hx
      obtain ⟨q, hq, rfl⟩ := List.mem_map.1 hx
      obtain ⟨y, hy, rfl⟩ := List.mem_map.1 hq
      have h2 := ways_in hv hy
      simp only [inR, decide_eq_true_eq] at h2
      omega
  simp only [List.length_map] at this
  omega

/-- The state behind a word. -/
theorem run_lead : ∀ (w acc : List Int) (q : Int), (w.foldl (runStep s) (acc, q)).2 = (lead (toSp s) (toSp s) (q, q) w).1
  | [], acc, q => rfl
  | o :: w, acc, q => by
    rw [List.foldl_cons]
    exact run_lead w _ (at2 s.2.2.1 q o.toNat)

theorem way_runs {x : Int × List Int} (hx : x ∈ waysL s) : calls s.2.1 x.2 ∧ (runF s 0 x.2).2 = x.1 ∧ (x.2.length : Int) < s.1 := by
  obtain ⟨e, he, rfl⟩ := List.mem_map.1 hx
  obtain ⟨h1, h2⟩ := bfs_lead hv hv rfl (zero_ok hv) he
  refine ⟨h2, ?_, ?_⟩
  · unfold runF
    rw [run_lead hv, h1]
  · obtain ⟨i, hi⟩ := List.getElem?_of_mem he
    have h3 := (bfs_shr hv hv rfl (zero_ok hv)).ix i e hi
    have h4 := lt_of_get hi
    have h5 := ways_len hv
    unfold waysL at h5
    rw [List.length_map] at h5
    simp only
    omega

end

/-! ### The answers -/

theorem fold_find (to : Int) : ∀ (l : List (Int × List Int)), foldY (spec_Way_y1 to) l () = some (match l.find? (fun x => decide (x.1 = to)) with | some x => .inr x.2 | none => .inl ())
  | [] => rfl
  | x :: l => by
    simp only [foldY, List.find?_cons]
    unfold spec_Way_y1
    by_cases h : x.1 = to
    · simp [h]
    · simp only [h, decide_false, Bool.false_eq_true, if_false, Option.bind_some]
      exact fold_find to l

/-- The answer of Way. -/
def wayOf (s : Tup) (to : Int) : List Int × Int := match (waysL s).find? (fun x => decide (x.1 = to)) with | some x => (x.2, 0) | none => ([], 5)

theorem Way_eq (s : Tup) (hs : okS s) (to : Int) : spec_Way s to = some (if (toSp s).ok = true then (if inR s.1 to = true then wayOf s to else ([], 2)) else ([], 10)) := by
  unfold spec_Way wayOf
  rw [checked_eq s hs [to] (by rw [maxLen_num]; simp), Option.bind_some]
  cases hv : (toSp s).ok
  · simp
  simp only [if_true, List.all_cons, List.all_nil, Bool.and_true]
  cases ha : inR s.1 to
  · simp
  simp only [if_true, decide_true, Bool.not_true, Bool.false_eq_true, if_false]
  unfold spec_machine_ways
  rw [Option.bind_some, show ((s.1, s.2.1, s.2.2.1, s.2.2.2) : Tup) = s from rfl, ways_eq hv (spec_Way_y1 to) () (fold_find to (waysL s)), Option.bind_some]
  cases (waysL s).find? (fun x => decide (x.1 = to)) <;> rfl

theorem fold_app (n : Nat) : ∀ (l : List (Int × List Int)) (acc : List Int), acc.length + l.length ≤ 64 → foldY (R := Empty) spec_machine_reached_y1 l acc = some (.inl (acc ++ l.map (·.1)))
  | [], acc, _ => by simp [foldY]
  | x :: l, acc, h => by
    simp only [List.length_cons] at h
    simp only [foldY]
    unfold spec_machine_reached_y1
    rw [ck_pos (by omega), Option.bind_some]
    have := fold_app n l (acc ++ [x.1]) (by simp; omega)
    unfold spec_machine_reached_y1 at this
    simp only
    rw [this]; simp

end Go.Proofs.Ytcgflignbhmoaaa
