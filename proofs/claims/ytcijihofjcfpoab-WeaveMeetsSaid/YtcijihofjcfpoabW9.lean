/-
  Layer 3, pure: what two words share; WeaveShares.
-/
import Derived.Test.YtcijihofjcfpoabW7
namespace Go.Proofs.Ytcijihofjcfpoab
open Go.RowKit

set_option linter.unusedVariables false
set_option linter.unusedSimpArgs false
set_option maxRecDepth 10000

/-- The first letter with which both words can begin, and what is left of both. -/
def nxF (l : Ltr) (x y : List Int) (a : Nat) : Option (Int × List Int × List Int) := (wo l x (a : Int)).bind fun u => (wo l y (a : Int)).map fun o => ((a : Int), u, o)
def nx (l : Ltr) (x y : List Int) : Option (Int × List Int × List Int) := (List.range 6).findSome? (nxF l x y)

/-- The word that both have in front, and what is left of both. -/
def sp (l : Ltr) : Nat → List Int → List Int → List Int × List Int × List Int
  | 0, x, y => ([], x, y)
  | n + 1, x, y => match nx l x y with
    | some (a, u, o) => (a :: (sp l n u o).1, (sp l n u o).2)
    | none => ([], x, y)
theorem sp_succ (l : Ltr) (n : Nat) (x y : List Int) : sp l (n + 1) x y = match nx l x y with
    | some (a, u, o) => (a :: (sp l n u o).1, (sp l n u o).2)
    | none => ([], x, y) := rfl
def SP (l : Ltr) (x y : List Int) : List Int × List Int × List Int := sp l (x.length + 1) x y

theorem nx_some {l : Ltr} {x y : List Int} {a : Int} {u o : List Int} (h : nx l x y = some (a, u, o)) : wo l x a = some u ∧ wo l y a = some o := by
  unfold nx at h
  obtain ⟨b, hb, e⟩ := List.exists_of_findSome?_eq_some h
  unfold nxF at e
  rw [Option.bind_eq_some_iff] at e
  obtain ⟨u', h1, e⟩ := e
  rw [Option.map_eq_some_iff] at e
  obtain ⟨o', h2, e⟩ := e
  simp only [Prod.mk.injEq] at e
  obtain ⟨rfl, rfl, rfl⟩ := e
  exact ⟨h1, h2⟩

theorem sp_stable (l : Ltr) : ∀ (n m : Nat) (x y : List Int), x.length < n → x.length < m → sp l n x y = sp l m x y
  | 0, _, _, _, h, _ => by omega
  | _, 0, _, _, _, h => by omega
  | n + 1, m + 1, x, y, hn, hm => by
    unfold sp
    cases h : nx l x y with
    | none => rfl
    | some q =>
      obtain ⟨a, u, o⟩ := q
      have := (wo_some l x a u (nx_some h).1).1
      simp only
      rw [sp_stable l n m u o (by omega) (by omega)]

theorem SP_eq (l : Ltr) (x y : List Int) : SP l x y = match nx l x y with
    | some (a, u, o) => (a :: (SP l u o).1, (SP l u o).2)
    | none => ([], x, y) := by
  conv => lhs; unfold SP sp
  cases h : nx l x y with
  | none => rfl
  | some q =>
    obtain ⟨a, u, o⟩ := q
    have := (wo_some l x a u (nx_some h).1).1
    simp only
    unfold SP
    rw [sp_stable l x.length (u.length + 1) u o (by omega) (by omega)]

theorem sp_len (l : Ltr) : ∀ (n : Nat) (x y : List Int), (sp l n x y).1.length + (sp l n x y).2.1.length = x.length ∧ (sp l n x y).1.length + (sp l n x y).2.2.length = y.length ∧ (∀ z ∈ (sp l n x y).1, z ∈ x) ∧ (∀ z ∈ (sp l n x y).2.1, z ∈ x) ∧ (∀ z ∈ (sp l n x y).2.2, z ∈ y)
  | 0, x, y => by simp [sp]
  | n + 1, x, y => by
    unfold sp
    cases h : nx l x y with
    | none => simp
    | some q =>
      obtain ⟨a, u, o⟩ := q
      have h1 := wo_some l x a u (nx_some h).1
      have h2 := wo_some l y a o (nx_some h).2
      obtain ⟨i1, i2, i3, i4, i5⟩ := sp_len l n u o
      simp only
      refine ⟨by simp; omega, by simp; omega, fun z hz => ?_, fun z hz => h1.2.1 z (i4 z hz), fun z hz => h2.2.1 z (i5 z hz)⟩
      rcases List.mem_cons.1 hz with rfl | hz
      · exact h1.2.2
      · exact h1.2.1 z (i3 z hz)

theorem split_eq {l : Ltr} (hl : okL l = true) {t : El T59} (ht : Ties l t) : ∀ (n : Nat) (w v : List Int), w.length < n → isWd l w = true → isWd l v = true → weave_ties_split n t w v = some (sp l n w v)
  | 0, w, v, h, _, _ => by omega
  | n + 1, w, v, hn, hw, hv => by
    have hlen := isWd_len hw
    have hlv := isWd_len hv
    have h6 := isWd_six hl hw
    have v6 := isWd_six hl hv
    show weave_ties_splitF (weave_ties_split n) t w v = some _
    unfold weave_ties_splitF
    have est : weave_ties_starts t w = some () := rfl
    rw [est, Option.bind_some]
    have hf : ∀ L : List Nat, (∀ a ∈ L, a < 6) → foldY (weave_ties_split_y1 (weave_ties_split n) t v) (L.filterMap fun (a : Nat) => (wo l w (a : Int)).map fun u => ((a : Int), u)) () =
        some (match L.findSome? (nxF l w v) with | none => .inl () | some (a, u, o) => .inr (a :: (sp l n u o).1, (sp l n u o).2)) := by
      intro L
      induction L with
      | nil => intro _; rfl
      | cons a L ih =>
        intro hL
        have ha := hL a (by simp)
        have ih := ih fun b hb => hL b (by simp [hb])
        rw [List.filterMap_cons, List.findSome?_cons]
        cases hwo : wo l w (a : Int) with
        | none =>
          have : nxF l w v a = none := by unfold nxF; rw [hwo]; rfl
          rw [this]
          simp only [Option.map_none]
          exact ih
        | some u =>
          simp only [Option.map_some, foldY]
          have ewo := without_eq ht (a := (a : Int)) ⟨by simp, by omega⟩ v6 (by omega)
          cases hvo : wo l v (a : Int) with
          | none =>
            have e1 : nxF l w v a = none := by unfold nxF; rw [hwo, hvo]; rfl
            have e2 : weave_ties_split_y1 (weave_ties_split n) t v ((a : Int), u) () = some (.next ()) := by
              unfold weave_ties_split_y1
              simp only
              rw [ewo, hvo, Option.bind_some]; rfl
            rw [e1, e2, Option.bind_some]
            exact ih
          | some o =>
            have e1 : nxF l w v a = some ((a : Int), u, o) := by unfold nxF; rw [hwo, hvo]; rfl
            have hu := wo_some l w a u hwo
            have ku := isWd_wo hw hwo
            have ko := isWd_wo hv hvo
            have hsl := sp_len l n u o
            have e2 : weave_ties_split_y1 (weave_ties_split n) t v ((a : Int), u) () = some (.done ((a : Int) :: (sp l n u o).1, (sp l n u o).2)) := by
              unfold weave_ties_split_y1
              simp only
              rw [ewo, hvo, Option.bind_some]
              simp only [if_true]
              rw [split_eq hl ht n u o (by omega) ku ko, Option.bind_some, ck_pos (by omega)]
            rw [e1, e2, Option.bind_some]
    have hfo := hf (List.range 6) (fun a ha => List.mem_range.1 ha)
    have hst := starts_ok ht h6 (by omega) (weave_ties_split_y1 (weave_ties_split n) t v) () hfo
    rw [hst, Option.bind_some, sp_succ]
    have : nx l w v = (List.range 6).findSome? (nxF l w v) := rfl
    rw [this]
    cases (List.range 6).findSome? (nxF l w v) with
    | none => rfl
    | some q => obtain ⟨a, u, o⟩ := q; rfl

theorem nx_N {l : Ltr} (hl : okL l = true) {x y : List Int} (hx : isWd l x = true) : nx l x y = (List.range l.1.toNat).findSome? (nxF l x y) := by
  have hN := okL_N hl
  have e : List.range 6 = List.range l.1.toNat ++ (List.range' l.1.toNat (6 - l.1.toNat)) := by
    rw [List.range_eq_range', List.range_eq_range']
    obtain ⟨N, hNe⟩ : ∃ N, N = l.1.toNat := ⟨_, rfl⟩
    rw [← hNe]
    have : N = 1 ∨ N = 2 ∨ N = 3 ∨ N = 4 ∨ N = 5 ∨ N = 6 := by omega
    rcases this with h | h | h | h | h | h <;> subst h <;> rfl
  unfold nx
  rw [e, List.findSome?_append]
  have : (List.range' l.1.toNat (6 - l.1.toNat)).findSome? (nxF l x y) = none := by
    rw [List.findSome?_eq_none_iff]
    intro a ha
    have ha' := (List.mem_range'_1.1 ha).1
    have : wo l x (a : Int) = none := wo_not l x _ fun hm => by have := isWd_let hx hm; omega
    unfold nxF; rw [this]; rfl
  rw [this]; simp

theorem rcommon_eq {l : Ltr} (hl : okL l = true) (hf : few l.2) {w v : List Int} (hw : isWd l w = true) (hv : isWd l v = true) : linealref03_common l w v = some (SP l w v) := by
  have hN := okL_N hl
  unfold linealref03_common
  have hs := whileO_inv (S := List Int × List Int × List Int × Int) (R := List Int × List Int × List Int) (body := linealref03_common_b1 l)
    (fun s => 0 ≤ s.2.2.2 ∧ s.2.2.2 ≤ l.1 ∧ isWd l s.2.1 = true ∧ isWd l s.2.2.1 = true ∧ (∀ j : Nat, (j : Int) < s.2.2.2 → nxF l s.2.1 s.2.2.1 j = none) ∧ (s.1 ++ (SP l s.2.1 s.2.2.1).1, (SP l s.2.1 s.2.2.1).2) = SP l w v ∧ s.1.length + s.2.1.length ≤ 10)
    (fun s => s.2.1.length * 7 + (l.1 - s.2.2.2).toNat) (fun r => r = SP l w v) ?_ ([], w, v, 0) ⟨by simp, by simp; omega, hw, hv, fun j hj => by simp at hj; omega, by simp, by simp; exact isWd_len hw⟩
  · obtain ⟨r, er, hr⟩ := hs
    rw [er, Option.bind_some, hr]; rfl
  · rintro ⟨b, x, y, a⟩ ⟨h1, h2, h3, h4, h5, h6, h7⟩
    simp only at h1 h2 h3 h4 h5 h6 h7
    have hlx := isWd_len h3
    have hly := isWd_len h4
    unfold linealref03_common_b1
    simp only
    obtain ⟨A, rfl⟩ : ∃ A : Nat, a = A := ⟨a.toNat, by omega⟩
    by_cases hlt : (A : Int) < l.1
    · rw [if_pos (by simpa using hlt)]
      obtain ⟨i, ei, hi⟩ := free_eq l x (A : Int) hf (by omega)
      obtain ⟨k, ek, hk⟩ := free_eq l y (A : Int) hf (by omega)
      rw [ei, Option.bind_some, ek, Option.bind_some]
      have stepOn : nxF l x y A = none → (∃ s', (ck (InK .i64 ((A : Int) + 1)) <| some (Step.next (R := List Int × List Int × List Int) (b, x, y, ((A : Int) + 1)))) = some (.next s') ∧ (0 ≤ s'.2.2.2 ∧ s'.2.2.2 ≤ l.1 ∧ isWd l s'.2.1 = true ∧ isWd l s'.2.2.1 = true ∧ (∀ j : Nat, (j : Int) < s'.2.2.2 → nxF l s'.2.1 s'.2.2.1 j = none) ∧ (s'.1 ++ (SP l s'.2.1 s'.2.2.1).1, (SP l s'.2.1 s'.2.2.1).2) = SP l w v ∧ s'.1.length + s'.2.1.length ≤ 10) ∧ s'.2.1.length * 7 + (l.1 - s'.2.2.2).toNat < x.length * 7 + (l.1 - (A : Int)).toNat) := by
        intro hn
        refine ⟨_, by rw [ck_pos (by rw [inK_i64]; omega)], ⟨by simp; omega, by simp; omega, h3, h4, fun j hj => ?_, h6, h7⟩, by simp; omega⟩
        by_cases e : j = A
        · subst e; exact hn
        · exact h5 j (by simp at hj; omega)
      rcases hi with ⟨rfl, hno⟩ | ⟨i', rfl, hi1, hi2⟩
      · rw [if_neg (by simp)]
        exact .inl (stepOn (by unfold nxF; rw [hno]; rfl))
      · rw [if_pos (by simp)]
        rcases hk with ⟨rfl, hno⟩ | ⟨k', rfl, hk1, hk2⟩
        · rw [if_neg (by simp)]
          exact .inl (stepOn (by unfold nxF; rw [hi2, hno]; rfl))
        · have e1 : ((i' : Int) + 1).toNat = i' + 1 := by omega
          have e2 : ((k' : Int) + 1).toNat = k' + 1 := by omega
          rw [if_pos (by simp), ck_pos (by omega), rwithout_eq x i' hi1 (by omega), Option.bind_some, rwithout_eq y k' hk1 (by omega), Option.bind_some, ck_pos (by rw [inK_i64]; omega), Int.toNat_natCast, Int.toNat_natCast, e1, e2]
          have hfound : nx l x y = some ((A : Int), x.take i' ++ x.drop (i' + 1), y.take k' ++ y.drop (k' + 1)) := by
            rw [nx_N hl h3]
            have hA : A < l.1.toNat := by omega
            have er : List.range l.1.toNat = List.range A ++ (A :: List.range' (A + 1) (l.1.toNat - A - 1)) := by
              rw [List.range_eq_range', List.range_eq_range']
              have : l.1.toNat = A + ((l.1.toNat - A - 1) + 1) := by omega
              rw [this, ← List.range'_append_1, List.range'_succ]
              simp
            rw [er, List.findSome?_append]
            have : (List.range A).findSome? (nxF l x y) = none := by
              rw [List.findSome?_eq_none_iff]
              intro j hj
              exact h5 j (by have := List.mem_range.1 hj; omega)
            rw [this, List.findSome?_cons]
            have : nxF l x y A = some ((A : Int), x.take i' ++ x.drop (i' + 1), y.take k' ++ y.drop (k' + 1)) := by unfold nxF; rw [hi2, hk2]; rfl
            rw [this]; rfl
          have hxl := wo_some l x _ _ hi2
          refine .inl ⟨_, rfl, ⟨by simp, by simp; omega, isWd_wo h3 hi2, isWd_wo h4 hk2, fun j hj => by simp at hj; omega, ?_, by simp; simp at hxl; omega⟩, by simp only; omega⟩
          rw [← h6]
          conv => rhs; rw [SP_eq l x y, hfound]
          simp
    · rw [if_neg (by simpa using hlt)]
      have hA : (A : Int) = l.1 := by omega
      refine .inr ⟨_, rfl, ?_⟩
      have hnone : nx l x y = none := by
        rw [nx_N hl h3, List.findSome?_eq_none_iff]
        intro j hj
        exact h5 j (by have := List.mem_range.1 hj; omega)
      rw [← h6, SP_eq l x y, hnone]
      simp

theorem SP_words {l : Ltr} {w v : List Int} (hw : isWd l w = true) (hv : isWd l v = true) : isWd l (SP l w v).1 = true ∧ isWd l (SP l w v).2.1 = true ∧ isWd l (SP l w v).2.2 = true := by
  obtain ⟨h1, h2, h3, h4, h5⟩ := sp_len l (w.length + 1) w v
  have := isWd_len hw
  have := isWd_len hv
  unfold SP
  exact ⟨isWd_sub hw (by omega) h3, isWd_sub hw (by omega) h4, isWd_sub hv (by omega) h5⟩

/-- Common. -/
def commonA (l : Ltr) (w v : List Int) : List Int × Int := if errW l [w, v] = 0 then (FF l (SP l w v).1, 0) else ([], errW l [w, v])

theorem Common_eq (l : Ltr) (w v : List Int) (hl : few l.2) (hw : w.length ≤ 60) (hv : v.length ≤ 60) : weave_Common l w v = some (commonA l w v) := by
  unfold weave_Common commonA
  obtain ⟨t, e, ht⟩ := checked2 l w v hl hw hv
  rw [e, Option.bind_some]
  by_cases h0 : errW l [w, v] = 0
  · obtain ⟨hok, kw, kv⟩ := errW_two h0
    have hlen := isWd_len kw
    rw [if_neg (by simp [h0]), if_pos h0, split_eq hok (ht h0) fuel w v (by unfold fuel; omega) kw kv, Option.bind_some, sp_stable l fuel (w.length + 1) w v (by unfold fuel; omega) (by omega)]
    have := (SP_words kw kv).1
    unfold SP at this ⊢
    rw [first_eq hok (ht h0) this, Option.bind_some]
  · rw [if_pos (by simp [h0]), if_neg h0]

theorem rCommon_eq (l : Ltr) (w v : List Int) (hl : few l.2) (hw : w.length ≤ 60) (hv : v.length ≤ 60) : linealref03_Common l w v = some (commonA l w v) := by
  unfold linealref03_Common commonA
  rw [asked_eq l w v hl (few_of hw) (few_of hv), Option.bind_some]
  by_cases h0 : errW l [w, v] = 0
  · obtain ⟨hok, kw, kv⟩ := errW_two h0
    rw [if_neg (by simp [h0]), if_pos h0, rcommon_eq hok hl kw kv, Option.bind_some, FirstForm_eq hok hl (SP_words kw kv).1, Option.bind_some]
  · rw [if_pos (by simp [h0]), if_neg h0]

/-- Both. -/
def bothA (l : Ltr) (w v : List Int) : List Int × Int :=
  if errW l [w, v] = 0 then
    (if (SP l w v).2.1.any (fun a => (SP l w v).2.2.any (dep l a)) = true then ([], 5)
     else if (SP l w v).1.length + (SP l w v).2.1.length + (SP l w v).2.2.length ≤ 10 then (FF l ((SP l w v).1 ++ (SP l w v).2.1 ++ (SP l w v).2.2), 0) else ([], 4))
  else ([], errW l [w, v])

theorem any_not {α : Type} (p : α → Bool) : ∀ u : List α, u.any p = !(u.all fun x => !p x)
  | [] => rfl
  | x :: r => by rw [List.any_cons, List.all_cons, any_not p r]; cases p x <;> simp

theorem Concat3_eq (x y z : List Int) (hx : x.length ≤ 1000) (hy : y.length ≤ 1000) (hz : z.length ≤ 1000) : slices_Concat [x, y, z] = some (x ++ y ++ z) := by
  unfold slices_Concat
  have h1 : whileO (slices_Concat_b1 [x, y, z]) (0, 0) = some ((x.length : Int) + (y.length : Int) + (z.length : Int)) := by
    refine whileO_seq (body := slices_Concat_b1 [x, y, z]) (fun k : Nat => (match k with | 0 => (0, 0) | 1 => ((x.length : Int), 1) | 2 => ((x.length : Int) + (y.length : Int), 2) | _ => ((x.length : Int) + (y.length : Int) + (z.length : Int), 3) : Int × Int)) 3 (fun k hk => ?_) ?_
    · rcases (show k = 0 ∨ k = 1 ∨ k = 2 by omega) with rfl | rfl | rfl <;>
      · unfold slices_Concat_b1
        simp only
        rw [if_pos (by simp), ck_pos (by simp), ck_pos (by simp), ck_pos (by rw [inK_i64]; first | (simp; done) | (simp; omega)), if_neg (by first | (simp; done) | (simp; omega)), ck_pos (by rw [inK_i64]; simp)]
        simp
    · unfold slices_Concat_b1
      simp only
      rw [if_neg (by simp)]
  rw [h1, Option.bind_some]
  unfold slices_Concat_k1
  have h2 : slices_Grow ((x.length : Int) + (y.length : Int) + (z.length : Int)) = some () := by
    unfold slices_Grow
    rw [if_neg (by simp; omega), ck_pos (by rw [inK_i64]; omega), ck_pos (by rw [inK_i64]; omega)]
    by_cases h : 0 < ((x.length : Int) + (y.length : Int) + (z.length : Int) - (0 - 0))
    · rw [if_pos (by simpa using h), ck_pos h, ck_pos (by omega), ck_pos (by omega), ck_pos (by omega), ck_pos (by omega)]
    · rw [if_neg (by simpa using h)]
  have h3 : whileO (slices_Concat_b2 [x, y, z]) ([], 0) = some (x ++ y ++ z) := by
    refine whileO_seq (body := slices_Concat_b2 [x, y, z]) (fun k : Nat => (match k with | 0 => ([], 0) | 1 => (x, 1) | 2 => (x ++ y, 2) | _ => (x ++ y ++ z, 3) : List Int × Int)) 3 (fun k hk => ?_) ?_
    · rcases (show k = 0 ∨ k = 1 ∨ k = 2 by omega) with rfl | rfl | rfl <;>
      · unfold slices_Concat_b2
        simp only
        rw [if_pos (by simp), ck_pos (by simp), ck_pos (by simp), ck_pos (by simp; omega), ck_pos (by rw [inK_i64]; simp)]
        simp
    · unfold slices_Concat_b2
      simp only
      rw [if_neg (by simp)]
  rw [h2, Option.bind_some, h3, Option.bind_some]; rfl

theorem Both3_eq (l : Ltr) (w v : List Int) (hl : few l.2) (hw : w.length ≤ 60) (hv : v.length ≤ 60) : weave_Both l w v = some (bothA l w v) := by
  unfold weave_Both bothA
  obtain ⟨t, e, ht⟩ := checked2 l w v hl hw hv
  rw [e, Option.bind_some]
  by_cases h0 : errW l [w, v] = 0
  · obtain ⟨hok, kw, kv⟩ := errW_two h0
    have hlen := isWd_len kw
    obtain ⟨k1, k2, k3⟩ := SP_words kw kv
    have l1 := isWd_len k1
    have l2 := isWd_len k2
    have l3 := isWd_len k3
    rw [if_neg (by simp [h0]), if_pos h0, split_eq hok (ht h0) fuel w v (by unfold fuel; omega) kw kv, Option.bind_some, sp_stable l fuel (w.length + 1) w v (by unfold fuel; omega) (by omega)]
    rw [show sp l (w.length + 1) w v = SP l w v from rfl]
    generalize SP l w v = q at k1 k2 k3 l1 l2 l3 ⊢
    obtain ⟨c, x, y⟩ := q
    simp only at k1 k2 k3 l1 l2 l3 ⊢
    have hloop : whileO (weave_Both_b1 (t, errW l [w, v]) (c, x, y)) 0 = some (if x.all (fun a => !y.any (dep l a)) = true then .inr () else .inl ()) := by
      refine whileO_all x _ (fun k a hk => ?_) ?_
      · obtain ⟨hlt, hin⟩ := few_in (few_of l2) hk
        have ha := isWd_six hok k2 a (List.mem_of_getElem? hk)
        unfold weave_Both_b1
        simp only
        rw [if_pos (by simpa using hlt), ck_pos (by simp), ck_pos (by simpa using hlt), Int.toNat_natCast, getD_of hk, onAny_eq (ht h0) ha (isWd_six hok k3) (few_of l3), Option.bind_some]
        cases y.any (dep l a) with
        | true => rfl
        | false => simp only [Bool.false_eq_true, if_false, Bool.not_false, if_true]; rw [ck_pos hin]
      · unfold weave_Both_b1; simp only; rw [if_neg (by simp)]
    rw [hloop, Option.bind_some, any_not]
    cases x.all (fun a => !y.any (dep l a)) with
    | false => rfl
    | true =>
      simp only [if_true, Bool.not_true, Bool.false_eq_true, if_false]
      unfold weave_Both_k1
      simp only
      rw [ck_pos (by rw [inK_i64]; omega), ck_pos (by rw [inK_i64]; omega)]
      by_cases hc : c.length + x.length + y.length ≤ 10
      · have kk : isWd l (c ++ x ++ y) = true := isWd_append (isWd_append k1 k2 (by omega)) k3 (by simp; omega)
        rw [if_neg (by simp; omega), if_pos hc, Concat3_eq c x y (by omega) (by omega) (by omega), Option.bind_some, first_eq hok (ht h0) kk, Option.bind_some]
      · rw [if_pos (by simp; omega), if_neg hc]
  · rw [if_pos (by simp [h0]), if_neg h0]

theorem rBoth_eq (l : Ltr) (w v : List Int) (hl : few l.2) (hw : w.length ≤ 60) (hv : v.length ≤ 60) : linealref03_Both l w v = some (bothA l w v) := by
  unfold linealref03_Both bothA
  rw [asked_eq l w v hl (few_of hw) (few_of hv), Option.bind_some]
  by_cases h0 : errW l [w, v] = 0
  · obtain ⟨hok, kw, kv⟩ := errW_two h0
    obtain ⟨k1, k2, k3⟩ := SP_words kw kv
    have l1 := isWd_len k1
    have l2 := isWd_len k2
    have l3 := isWd_len k3
    rw [if_neg (by simp [h0]), if_pos h0, rcommon_eq hok hl kw kv, Option.bind_some]
    generalize SP l w v = q at k1 k2 k3 l1 l2 l3 ⊢
    obtain ⟨c, x, y⟩ := q
    simp only at k1 k2 k3 l1 l2 l3 ⊢
    have hloop : whileO (linealref03_Both_b1 l (c, x, y)) 0 = some (if x.all (fun a => !y.any (dep l a)) = true then .inr () else .inl ()) := by
      refine whileO_all x _ (fun k a hk => ?_) ?_
      · obtain ⟨hlt, hin⟩ := few_in (few_of l2) hk
        have inner : whileO (linealref03_Both_b2 l (c, x, y) (k : Int)) 0 = some (if y.all (fun b => !dep l a b) = true then .inr () else .inl ()) := by
          refine whileO_all y _ (fun j b hj => ?_) ?_
          · obtain ⟨hlt', hin'⟩ := few_in (few_of l3) hj
            unfold linealref03_Both_b2
            simp only
            rw [if_pos (by simpa using hlt'), ck_pos (by simp), ck_pos (by simpa using hlt'), Int.toNat_natCast, Int.toNat_natCast, getD_of hk, getD_of hj, depend_eq l a b hl, Option.bind_some]
            cases dep l a b with
            | true => rfl
            | false => simp only [Bool.false_eq_true, if_false, Bool.not_false, if_true]; rw [ck_pos hin']
          · unfold linealref03_Both_b2; simp only; rw [if_neg (by simp)]
        unfold linealref03_Both_b1
        simp only
        rw [if_pos (by simpa using hlt), ck_pos (by simp), ck_pos (by simpa using hlt), inner, Option.bind_some, any_not (dep l a) y]
        cases y.all (fun b => !dep l a b) with
        | false => rfl
        | true => simp only [if_true, Bool.not_true, Bool.not_false]; unfold linealref03_Both_k2; rw [ck_pos hin]
      · unfold linealref03_Both_b1; simp only; rw [if_neg (by simp)]
    rw [hloop, Option.bind_some, any_not]
    cases x.all (fun a => !y.any (dep l a)) with
    | false => rfl
    | true =>
      simp only [if_true, Bool.not_true, Bool.false_eq_true, if_false]
      unfold linealref03_Both_k1
      simp only
      rw [ck_pos (by omega), ck_pos (by simp; omega)]
      unfold linealref03_limited
      by_cases hc : c.length + x.length + y.length ≤ 10
      · have kk : isWd l (c ++ x ++ y) = true := isWd_append (isWd_append k1 k2 (by omega)) k3 (by simp; omega)
        rw [if_neg (by simp; omega), if_pos hc, FirstForm_eq hok hl kk]; rfl
      · rw [if_pos (by simp; omega), if_neg hc]; rfl
  · rw [if_pos (by simp [h0]), if_neg h0]

theorem commonA_len (l : Ltr) (w v : List Int) : (commonA l w v).1.length ≤ 60 := by
  unfold commonA
  by_cases h0 : errW l [w, v] = 0
  · obtain ⟨hok, kw, kv⟩ := errW_two h0
    have h := (SP_words kw kv).1
    rw [if_pos h0]; simp only; rw [FF_len hok h]
    have := isWd_len h; omega
  · rw [if_neg h0]; simp

theorem bothA_len (l : Ltr) (w v : List Int) : (bothA l w v).1.length ≤ 60 := by
  unfold bothA
  by_cases h0 : errW l [w, v] = 0
  · obtain ⟨hok, kw, kv⟩ := errW_two h0
    obtain ⟨k1, k2, k3⟩ := SP_words kw kv
    rw [if_pos h0]
    split
    · simp
    · split
      · rename_i hc
        have kk : isWd l ((SP l w v).1 ++ (SP l w v).2.1 ++ (SP l w v).2.2) = true := isWd_append (isWd_append k1 k2 (by omega)) k3 (by simp; omega)
        simp only; rw [FF_len hok kk]
        have := isWd_len kk; omega
      · simp
  · rw [if_neg h0]; simp

theorem WeaveShares_eq (l : Ltr) (hl : few l.2) (w v : List Int) : lineallaw03_WeaveShares l w v = some true := by
  unfold lineallaw03_WeaveShares
  rw [Long3_eq l [w, v] (by unfold few; simp), Option.bind_some]
  by_cases hlong : (!([w, v].all fun u => decide (u.length ≤ 60)) || decide (60 < l.2.length)) = true
  · rw [if_pos hlong, Awake3_eq]; rfl
  rw [if_neg hlong]
  obtain ⟨hw, hv⟩ := long2 hlong
  rw [Common_eq l w v hl hw hv, Option.bind_some, rCommon_eq l w v hl hw hv, Option.bind_some, same_self _ (by have := commonA_len l w v; omega), Option.bind_some, if_neg (by simp), if_neg (by simp)]
  rw [Both3_eq l w v hl hw hv, Option.bind_some, rBoth_eq l w v hl hw hv, Option.bind_some, same_self _ (by have := bothA_len l w v; omega), Option.bind_some, if_pos rfl, if_pos (by simp), Awake3_eq]
  rfl

end Go.Proofs.Ytcijihofjcfpoab
