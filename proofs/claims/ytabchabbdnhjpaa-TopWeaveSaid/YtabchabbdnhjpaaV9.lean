/-
  Layer 3, pure: what two words share; WeaveShares.
-/
import Derived.Test.YtabchabbdnhjpaaV7
namespace Go.Proofs.Ytabchabbdnhjpaa
open Go.RowKit

set_option linter.unusedVariables false
set_option linter.unusedSimpArgs false
set_option maxRecDepth 10000

/-- The first letter with which both words can begin, and what is left of both. -/
def nxF (l : Ltr) (x y : List Int) (a : Nat) : Option (Int × List Int × List Int) := (wo l x (a : Int)).bind fun u => (wo l y (a : Int)).map fun o => ((a : Int), u, o)
def nx (l : Ltr) (x y : List Int) : Option (Int × List Int × List Int) := (List.range 6).findSome? (nxF l x y)

/-- The word that both have in front, and what is left of both. -/
def sp (l : Ltr) : Nat → List Int → List Int → List Int × List Int × List Int
  | 0, x, y => ([], x, y)
  | n + 1, x, y => match nx l x y with
    | some (a, u, o) => (a :: (sp l n u o).1, (sp l n u o).2)
    | none => ([], x, y)
theorem sp_succ (l : Ltr) (n : Nat) (x y : List Int) : sp l (n + 1) x y = match nx l x y with
    | some (a, u, o) => (a :: (sp l n u o).1, (sp l n u o).2)
    | none => ([], x, y) := rfl
def SP (l : Ltr) (x y : List Int) : List Int × List Int × List Int := sp l (x.length + 1) x y

theorem nx_some {l : Ltr} {x y : List Int} {a : Int} {u o : List Int} (h : nx l x y = some (a, u, o)) : wo l x a = some u ∧ wo l y a = some o := by
  unfold nx at h
  obtain ⟨b, hb, e⟩ := List.exists_of_findSome?_eq_some h
  unfold nxF at e
  rw [Option.bind_eq_some_iff] at e
  obtain ⟨u', h1, e⟩ := e
  rw [Option.map_eq_some_iff] at e
  obtain ⟨o', h2, e⟩ := e
  simp only [Prod.mk.injEq] at e
  obtain ⟨rfl, rfl, rfl⟩ := e
  exact ⟨h1, h2⟩

theorem sp_stable (l : Ltr) : ∀ (n m : Nat) (x y : List Int), x.length < n → x.length < m → sp l n x y = sp l m x y
  | 0, _, _, _, h, _ => by omega
  | _, 0, _, _, _, h => by omega
  | n + 1, m + 1, x, y, hn, hm => by
    unfold sp
    cases h : nx l x y with
    | none => rfl
    | some q =>
      obtain ⟨a, u, o⟩ := q
      have := (wo_some l x a u (nx_some h).1).1
      simp only
      rw [sp_stable l n m u o (by omega) (by omega)]

theorem SP_eq (l : Ltr) (x y : List Int) : SP l x y = match nx l x y with
    | some (a, u, o) => (a :: (SP l u o).1, (SP l u o).2)
    | none => ([], x, y) := by
  conv => lhs; unfold SP sp
  cases h : nx l x y with
  | none => rfl
  | some q =>
    obtain ⟨a, u, o⟩ := q
    have := (wo_some l x a u (nx_some h).1).1
    simp only
    unfold SP
    rw [sp_stable l x.length (u.length + 1) u o (by omega) (by omega)]

theorem sp_len (l : Ltr) : ∀ (n : Nat) (x y : List Int), (sp l n x y).1.length + (sp l n x y).2.1.length = x.length ∧ (sp l n x y).1.length + (sp l n x y).2.2.length = y.length ∧ (∀ z ∈ (sp l n x y).1, z ∈ x) ∧ (∀ z ∈ (sp l n x y).2.1, z ∈ x) ∧ (∀ z ∈ (sp l n x y).2.2, z ∈ y)
  | 0, x, y => by simp [sp]
  | n + 1, x, y => by
    unfold sp
    cases h : nx l x y with
    | none => simp
    | some q =>
      obtain ⟨a, u, o⟩ := q
      have h1 := wo_some l x a u (nx_some h).1
      have h2 := wo_some l y a o (nx_some h).2
      obtain ⟨i1, i2, i3, i4, i5⟩ := sp_len l n u o
      simp only
      refine ⟨by simp; omega, by simp; omega, fun z hz => ?_, fun z hz => h1.2.1 z (i4 z hz), fun z hz => h2.2.1 z (i5 z hz)⟩
      rcases List.mem_cons.1 hz with rfl | hz
      · exact h1.2.2
      · exact h1.2.1 z (i3 z hz)

theorem split_eq {l : Ltr} (hl : okL l = true) {t : El T53} (ht : Ties l t) : ∀ (n : Nat) (w v : List Int), w.length < n → isWd l w = true → isWd l v = true → weave_ties_split n t w v = some (sp l n w v)
  | 0, w, v, h, _, _ => by omega
  | n + 1, w, v, hn, hw, hv => by
    have hlen := isWd_len hw
    have hlv := isWd_len hv
    have h6 := isWd_six hl hw
    have v6 := isWd_six hl hv
    show weave_ties_splitF (weave_ties_split n) t w v = some _
    unfold weave_ties_splitF
    have est : weave_ties_starts t w = some () := rfl
    rw [est, Option.bind_some]
    have hf : ∀ L : List Nat, (∀ a ∈ L, a < 6) → foldY (weave_ties_split_y1 (weave_ties_split n) t v) (L.filterMap fun (a : Nat) => (wo l w (a : Int)).map fun u => ((a : Int), u)) () =
        some (match L.findSome? (nxF l w v) with | none => .inl () | some (a, u, o) => .inr (a :: (sp l n u o).1, (sp l n u o).2)) := by
      intro L
      induction L with
      | nil => intro _; rfl
      | cons a L ih =>
        intro hL
        have ha := hL a (by simp)
        have ih := ih fun b hb => hL b (by simp [hb])
        rw [List.filterMap_cons, List.findSome?_cons]
        cases hwo : wo l w (a : Int) with
        | none =>
          have : nxF l w v a = none := by unfold nxF; rw [hwo]; rfl
          rw [this]
          simp only [Option.map_none]
          exact ih
        | some u =>
          simp only [Option.map_some, foldY]
          have ewo := without_eq ht (a := (a : Int)) ⟨by simp, by omega⟩ v6 (by omega)
          cases hvo : wo l v (a : Int) with
          | none =>
            have e1 : nxF l w v a = none := by unfold nxF; rw [hwo, hvo]; rfl
            have e2 : weave_ties_split_y1 (weave_ties_split n) t v ((a : Int), u) () = some (.next ()) := by
              unfold weave_ties_split_y1
              simp only
              rw [ewo, hvo, Option.bind_some]; rfl
            rw [e1, e2, Option.bind_some]
            exact ih
          | some o =>
            have e1 : nxF l w v a = some ((a : Int), u, o) := by unfold nxF; rw [hwo, hvo]; rfl
            have hu := wo_some l w a u hwo
            have ku := isWd_wo hw hwo
            have ko := isWd_wo hv hvo
            have hsl := sp_len l n u o
            have e2 : weave_ties_split_y1 (weave_ties_split n) t v ((a : Int), u) () = some (.done ((a : Int) :: (sp l n u o).1, (sp l n u o).2)) := by
              unfold weave_ties_split_y1
              simp only
              rw [ewo, hvo, Option.bind_some]
              simp only [if_true]
              rw [split_eq hl ht n u o (by omega) ku ko, Option.bind_some, ck_pos (by omega)]
            rw [e1, e2, Option.bind_some]
    have hfo := hf (List.range 6) (fun a ha => List.mem_range.1 ha)
    have hst := starts_ok ht h6 (by omega) (weave_ties_split_y1 (weave_ties_split n) t v) () hfo
    rw [hst, Option.bind_some, sp_succ]
    have : nx l w v = (List.range 6).findSome? (nxF l w v) := rfl
    rw [this]
    cases (List.range 6).findSome? (nxF l w v) with
    | none => rfl
    | some q => obtain ⟨a, u, o⟩ := q; rfl

theorem SP_words {l : Ltr} {w v : List Int} (hw : isWd l w = true) (hv : isWd l v = true) : isWd l (SP l w v).1 = true ∧ isWd l (SP l w v).2.1 = true ∧ isWd l (SP l w v).2.2 = true := by
  obtain ⟨h1, h2, h3, h4, h5⟩ := sp_len l (w.length + 1) w v
  have := isWd_len hw
  have := isWd_len hv
  unfold SP
  exact ⟨isWd_sub hw (by omega) h3, isWd_sub hw (by omega) h4, isWd_sub hv (by omega) h5⟩

/-- Common. -/
def commonA (l : Ltr) (w v : List Int) : List Int × Int := if errW l [w, v] = 0 then (FF l (SP l w v).1, 0) else ([], errW l [w, v])

theorem Common_eq (l : Ltr) (w v : List Int) (hl : few l.2) (hw : w.length ≤ 60) (hv : v.length ≤ 60) : weave_Common l w v = some (commonA l w v) := by
  unfold weave_Common commonA
  obtain ⟨t, e, ht⟩ := checked2 l w v hl hw hv
  rw [e, Option.bind_some]
  by_cases h0 : errW l [w, v] = 0
  · obtain ⟨hok, kw, kv⟩ := errW_two h0
    have hlen := isWd_len kw
    rw [if_neg (by simp [h0]), if_pos h0, split_eq hok (ht h0) fuel w v (by unfold fuel; omega) kw kv, Option.bind_some, sp_stable l fuel (w.length + 1) w v (by unfold fuel; omega) (by omega)]
    have := (SP_words kw kv).1
    unfold SP at this ⊢
    rw [first_eq hok (ht h0) this, Option.bind_some]
  · rw [if_pos (by simp [h0]), if_neg h0]

/-- Both. -/
def bothA (l : Ltr) (w v : List Int) : List Int × Int :=
  if errW l [w, v] = 0 then
    (if (SP l w v).2.1.any (fun a => (SP l w v).2.2.any (dep l a)) = true then ([], 5)
     else if (SP l w v).1.length + (SP l w v).2.1.length + (SP l w v).2.2.length ≤ 10 then (FF l ((SP l w v).1 ++ (SP l w v).2.1 ++ (SP l w v).2.2), 0) else ([], 4))
  else ([], errW l [w, v])

theorem any_not {α : Type} (p : α → Bool) : ∀ u : List α, u.any p = !(u.all fun x => !p x)
  | [] => rfl
  | x :: r => by rw [List.any_cons, List.all_cons, any_not p r]; cases p x <;> simp

theorem Concat3_eq (x y z : List Int) (hx : x.length ≤ 1000) (hy : y.length ≤ 1000) (hz : z.length ≤ 1000) : slices_Concat [x, y, z] = some (x ++ y ++ z) := by
  unfold slices_Concat
  have h1 : whileO (slices_Concat_b1 [x, y, z]) (0, 0) = some ((x.length : Int) + (y.length : Int) + (z.length : Int)) := by
    refine whileO_seq (body := slices_Concat_b1 [x, y, z]) (fun k : Nat => (match k with | 0 => (0, 0) | 1 => ((x.length : Int), 1) | 2 => ((x.length : Int) + (y.length : Int), 2) | _ => ((x.length : Int) + (y.length : Int) + (z.length : Int), 3) : Int × Int)) 3 (fun k hk => ?_) ?_
    · rcases (show k = 0 ∨ k = 1 ∨ k = 2 by omega) with rfl | rfl | rfl <;>
      · unfold slices_Concat_b1
        simp only
        rw [if_pos (by simp), ck_pos (by simp), ck_pos (by simp), ck_pos (by rw [inK_i64]; first | (simp; done) | (simp; omega)), if_neg (by first | (simp; done) | (simp; omega)), ck_pos (by rw [inK_i64]; simp)]
        simp
    · unfold slices_Concat_b1
      simp only
      rw [if_neg (by simp)]
  rw [h1, Option.bind_some]
  unfold slices_Concat_k1
  have h2 : slices_Grow ((x.length : Int) + (y.length : Int) + (z.length : Int)) = some () := by
    unfold slices_Grow
    rw [if_neg (by simp; omega), ck_pos (by rw [inK_i64]; omega), ck_pos (by rw [inK_i64]; omega)]
    by_cases h : 0 < ((x.length : Int) + (y.length : Int) + (z.length : Int) - (0 - 0))
    · rw [if_pos (by simpa using h), ck_pos h, ck_pos (by omega), ck_pos (by omega), ck_pos (by omega), ck_pos (by omega)]
    · rw [if_neg (by simpa using h)]
  have h3 : whileO (slices_Concat_b2 [x, y, z]) ([], 0) = some (x ++ y ++ z) := by
    refine whileO_seq (body := slices_Concat_b2 [x, y, z]) (fun k : Nat => (match k with | 0 => ([], 0) | 1 => (x, 1) | 2 => (x ++ y, 2) | _ => (x ++ y ++ z, 3) : List Int × Int)) 3 (fun k hk => ?_) ?_
    · rcases (show k = 0 ∨ k = 1 ∨ k = 2 by omega) with rfl | rfl | rfl <;>
      · unfold slices_Concat_b2
        simp only
        rw [if_pos (by simp), ck_pos (by simp), ck_pos (by simp), ck_pos (by simp; omega), ck_pos (by rw [inK_i64]; simp)]
        simp
    · unfold slices_Concat_b2
      simp only
      rw [if_neg (by simp)]
  rw [h2, Option.bind_some, h3, Option.bind_some]; rfl

theorem Both3_eq (l : Ltr) (w v : List Int) (hl : few l.2) (hw : w.length ≤ 60) (hv : v.length ≤ 60) : weave_Both l w v = some (bothA l w v) := by
  unfold weave_Both bothA
  obtain ⟨t, e, ht⟩ := checked2 l w v hl hw hv
  rw [e, Option.bind_some]
  by_cases h0 : errW l [w, v] = 0
  · obtain ⟨hok, kw, kv⟩ := errW_two h0
    have hlen := isWd_len kw
    obtain ⟨k1, k2, k3⟩ := SP_words kw kv
    have l1 := isWd_len k1
    have l2 := isWd_len k2
    have l3 := isWd_len k3
    rw [if_neg (by simp [h0]), if_pos h0, split_eq hok (ht h0) fuel w v (by unfold fuel; omega) kw kv, Option.bind_some, sp_stable l fuel (w.length + 1) w v (by unfold fuel; omega) (by omega)]
    rw [show sp l (w.length + 1) w v = SP l w v from rfl]
    generalize SP l w v = q at k1 k2 k3 l1 l2 l3 ⊢
    obtain ⟨c, x, y⟩ := q
    simp only at k1 k2 k3 l1 l2 l3 ⊢
    have hloop : whileO (weave_Both_b1 (t, errW l [w, v]) (c, x, y)) 0 = some (if x.all (fun a => !y.any (dep l a)) = true then .inr () else .inl ()) := by
      refine whileO_all x _ (fun k a hk => ?_) ?_
      · obtain ⟨hlt, hin⟩ := few_in (few_of l2) hk
        have ha := isWd_six hok k2 a (List.mem_of_getElem? hk)
        unfold weave_Both_b1
        simp only
        rw [if_pos (by simpa using hlt), ck_pos (by simp), ck_pos (by simpa using hlt), Int.toNat_natCast, getD_of hk, onAny_eq (ht h0) ha (isWd_six hok k3) (few_of l3), Option.bind_some]
        cases y.any (dep l a) with
        | true => rfl
        | false => simp only [Bool.false_eq_true, if_false, Bool.not_false, if_true]; rw [ck_pos hin]
      · unfold weave_Both_b1; simp only; rw [if_neg (by simp)]
    rw [hloop, Option.bind_some, any_not]
    cases x.all (fun a => !y.any (dep l a)) with
    | false => rfl
    | true =>
      simp only [if_true, Bool.not_true, Bool.false_eq_true, if_false]
      unfold weave_Both_k1
      simp only
      rw [ck_pos (by rw [inK_i64]; omega), ck_pos (by rw [inK_i64]; omega)]
      by_cases hc : c.length + x.length + y.length ≤ 10
      · have kk : isWd l (c ++ x ++ y) = true := isWd_append (isWd_append k1 k2 (by omega)) k3 (by simp; omega)
        rw [if_neg (by simp; omega), if_pos hc, Concat3_eq c x y (by omega) (by omega) (by omega), Option.bind_some, first_eq hok (ht h0) kk, Option.bind_some]
      · rw [if_pos (by simp; omega), if_neg hc]
  · rw [if_pos (by simp [h0]), if_neg h0]

end Go.Proofs.Ytabchabbdnhjpaa
