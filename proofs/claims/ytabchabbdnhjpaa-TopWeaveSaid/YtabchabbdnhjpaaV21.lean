/-
  Layer 3, pure: layers. A word's first layer and what is left; layers of words that are equal in class are equal, but for the order in them.
-/
import Derived.Test.YtabchabbdnhjpaaV20
namespace Go.Proofs.Ytabchabbdnhjpaa
open Go.RowKit

set_option linter.unusedVariables false
set_option linter.unusedSimpArgs false
set_option maxRecDepth 10000

/-- A letter goes behind the last layer that has a letter on which it depends. -/
def pushL (l : Ltr) : List (List Int) → Int → List (List Int)
  | [], a => [[a]]
  | L :: R, a => if (L :: R).flatten.any (dep l a) = true then L :: pushL l R a else (L ++ [a]) :: R
def lay (l : Ltr) (w : List Int) : List (List Int) := w.foldl (pushL l) []
theorem lay_snoc (l : Ltr) (w : List Int) (a : Int) : lay l (w ++ [a]) = pushL l (lay l w) a := by
  unfold lay; rw [List.foldl_append]; rfl

theorem pushL_perm (l : Ltr) : ∀ (ls : List (List Int)) (a : Int), (pushL l ls a).flatten.Perm (ls.flatten ++ [a])
  | [], a => by simp [pushL]
  | L :: R, a => by
    unfold pushL
    split
    · rw [List.flatten_cons, List.flatten_cons, List.append_assoc]
      exact (pushL_perm l R a).append_left L
    · rw [List.flatten_cons, List.flatten_cons, List.append_assoc, List.append_assoc]
      exact List.perm_append_comm.append_left L
theorem pushL_ne (l : Ltr) : ∀ (ls : List (List Int)) (a : Int), (∀ L ∈ ls, L ≠ []) → ∀ L ∈ pushL l ls a, L ≠ []
  | [], a, _, L, h => by simp [pushL] at h; subst h; simp
  | M :: R, a, hn, L, h => by
    unfold pushL at h
    split at h
    · rcases List.mem_cons.1 h with e | h
      · subst e; exact hn L (by simp)
      · exact pushL_ne l R a (fun K hK => hn K (by simp [hK])) L h
    · rcases List.mem_cons.1 h with e | h
      · subst e; simp
      · exact hn L (by simp [h])

theorem snoc_ind {P : List Int → Prop} (h0 : P []) (h1 : ∀ w a, P w → P (w ++ [a])) (w : List Int) : P w := by
  have : ∀ x : List Int, P x.reverse := by
    intro x
    induction x with
    | nil => exact h0
    | cons a r ih => rw [List.reverse_cons]; exact h1 _ a ih
  have h := this w.reverse
  rwa [List.reverse_reverse] at h

theorem lay_perm (l : Ltr) (w : List Int) : (lay l w).flatten.Perm w := by
  induction w using snoc_ind with
  | h0 => exact .refl _
  | h1 w a ih =>
    rw [lay_snoc]
    exact (pushL_perm l _ a).trans (ih.append_right [a])
theorem lay_ne (l : Ltr) (w : List Int) : ∀ L ∈ lay l w, L ≠ [] := by
  induction w using snoc_ind with
  | h0 => simp [lay]
  | h1 w a ih => rw [lay_snoc]; exact pushL_ne l _ a ih

/-! ### The first layer, and what is left -/

def fsStep (l : Ltr) (s : List Int × List Int × List Int) (a : Int) : List Int × List Int × List Int :=
  (s.1 ++ [a], if s.1.any (dep l a) = true then (s.2.1, s.2.2 ++ [a]) else (s.2.1 ++ [a], s.2.2))
def fsAll (l : Ltr) (w : List Int) : List Int × List Int × List Int := w.foldl (fsStep l) ([], [], [])
/-- The letters in front of which none stands on which they depend, and the others. -/
def fsl (l : Ltr) (w : List Int) : List Int := (fsAll l w).2.1
def rsl (l : Ltr) (w : List Int) : List Int := (fsAll l w).2.2
theorem fsAll_1 (l : Ltr) (w : List Int) : (fsAll l w).1 = w := by
  induction w using snoc_ind with
  | h0 => rfl
  | h1 w a ih => unfold fsAll at *; rw [List.foldl_append]; simp [fsStep, ih]
theorem fsl_snoc (l : Ltr) (w : List Int) (a : Int) : fsl l (w ++ [a]) = if w.any (dep l a) = true then fsl l w else fsl l w ++ [a] := by
  have := fsAll_1 l w
  unfold fsl fsAll at *
  rw [List.foldl_append]
  simp only [List.foldl_cons, List.foldl_nil, fsStep, this]
  split <;> rfl
theorem rsl_snoc (l : Ltr) (w : List Int) (a : Int) : rsl l (w ++ [a]) = if w.any (dep l a) = true then rsl l w ++ [a] else rsl l w := by
  have := fsAll_1 l w
  unfold rsl fsAll at *
  rw [List.foldl_append]
  simp only [List.foldl_cons, List.foldl_nil, fsStep, this]
  split <;> rfl

theorem any_perm {p : Int → Bool} {x y : List Int} (h : x.Perm y) : x.any p = y.any p := by
  rw [Bool.eq_iff_iff, List.any_eq_true, List.any_eq_true]
  exact ⟨fun ⟨a, h1, h2⟩ => ⟨a, h.subset h1, h2⟩, fun ⟨a, h1, h2⟩ => ⟨a, h.symm.subset h1, h2⟩⟩

theorem fr_perm (l : Ltr) (w : List Int) : (fsl l w ++ rsl l w).Perm w := by
  induction w using snoc_ind with
  | h0 => exact .refl _
  | h1 w a ih =>
    rw [fsl_snoc, rsl_snoc]
    split
    · rw [← List.append_assoc]; exact ih.append_right [a]
    · rw [List.append_assoc]
      refine (List.Perm.append_left _ List.perm_append_comm).trans ?_
      rw [← List.append_assoc]; exact ih.append_right [a]

theorem lay_eq (l : Ltr) (w : List Int) : w ≠ [] → lay l w = fsl l w :: lay l (rsl l w) := by
  induction w using snoc_ind with
  | h0 => intro h; exact absurd rfl h
  | h1 w a ih =>
    intro _
    rw [lay_snoc, fsl_snoc, rsl_snoc]
    by_cases h0 : w = []
    · subst h0; rfl
    · have ih := ih h0
      have hp : (fsl l w :: lay l (rsl l w)).flatten.Perm w := by rw [← ih]; exact lay_perm l w
      rw [ih]
      unfold pushL
      rw [any_perm hp]
      split
      · rw [lay_snoc]
      · rfl

/-! ### The first layer are the letters with which a word of the class begins -/

theorem wo_snoc (l : Ltr) : ∀ (w : List Int) (a b : Int), wo l (w ++ [b]) a = match wo l w a with
    | some u => some (u ++ [b])
    | none => if b = a ∧ w.any (dep l a) = false then some w else none
  | [], a, b => by
    by_cases e : b = a <;> simp [wo, e]
  | c :: r, a, b => by
    rw [List.cons_append]
    by_cases e : c = a
    · subst e
      rw [wo_head, wo_head]
    · unfold wo
      rw [if_neg e]
      split
      · rename_i hd
        simp [hd, e]
      · rename_i hd
        have hd' : dep l a c = false := by simpa using hd
        rw [wo_snoc l r a b, List.any_cons, hd', Bool.false_or]
        cases wo l r a with
        | some u => rfl
        | none =>
          simp only [Option.map_none]
          split <;> rfl

theorem fsl_mem (l : Ltr) (w : List Int) (a : Int) : a ∈ fsl l w ↔ ∃ u, wo l w a = some u := by
  induction w using snoc_ind with
  | h0 => simp [fsl, fsAll, wo]
  | h1 w b ih =>
    rw [wo_snoc, fsl_snoc]
    split
    · rename_i hd
      rw [ih]
      cases hw : wo l w a with
      | some u => simp
      | none =>
        simp only
        rw [if_neg]
        rintro ⟨rfl, h⟩
        rw [h] at hd; cases hd
    · rename_i hd
      rw [List.mem_append, ih]
      cases hw : wo l w a with
      | some u => simp
      | none =>
        simp only [List.mem_singleton]
        constructor
        · rintro (⟨u, h⟩ | h)
          · cases h
          · subst h
            exact ⟨w, by rw [if_pos ⟨rfl, by simpa using hd⟩]⟩
        · rintro ⟨u, h⟩
          split at h
          · rename_i hc; exact .inr hc.1.symm
          · cases h

/-- Letters none of which depends on another one. -/
def indep (l : Ltr) (x : List Int) : Prop := x.Pairwise fun a b => dep l a b = false
theorem indep_perm {l : Ltr} {x y : List Int} (h : x.Perm y) (hx : indep l x) : indep l y :=
  (h.pairwise_iff (fun {a b} e => by rw [dep_symm]; exact e)).1 hx
theorem indep_nodup {l : Ltr} {x : List Int} (hx : indep l x) : x.Nodup := hx.imp fun h => dep_ne h
theorem fsl_sub (l : Ltr) (w : List Int) {a : Int} (h : a ∈ fsl l w) : a ∈ w := (fr_perm l w).subset (by simp [h])
theorem rsl_sub (l : Ltr) (w : List Int) {a : Int} (h : a ∈ rsl l w) : a ∈ w := (fr_perm l w).subset (by simp [h])
theorem rsl_len (l : Ltr) (w : List Int) : (fsl l w).length + (rsl l w).length = w.length := by
  rw [← List.length_append]; exact (fr_perm l w).length_eq
theorem fsl_indep (l : Ltr) (w : List Int) : indep l (fsl l w) := by
  induction w using snoc_ind with
  | h0 => exact List.Pairwise.nil
  | h1 w a ih =>
    rw [fsl_snoc]
    split
    · exact ih
    · rename_i hd
      have hd' : w.any (dep l a) = false := by simpa using hd
      rw [List.any_eq_false] at hd'
      refine List.pairwise_append.2 ⟨ih, List.pairwise_singleton _ _, fun x hx b hb => ?_⟩
      rw [List.mem_singleton] at hb
      subst hb
      rw [dep_symm]
      simpa using hd' x (fsl_sub l w hx)

theorem fr_eqv (l : Ltr) (w : List Int) : eqv l (fsl l w ++ rsl l w) w := by
  induction w using snoc_ind with
  | h0 => exact eqv_refl l _
  | h1 w a ih =>
    rw [fsl_snoc, rsl_snoc]
    split
    · rw [← List.append_assoc]; exact eqv_behind ih
    · rename_i hd
      have hd' : w.any (dep l a) = false := by simpa using hd
      rw [List.any_eq_false] at hd'
      have h1 : eqv l ([a] ++ rsl l w) (rsl l w ++ [a]) := apart_comm fun x hx b hb => by
        rw [List.mem_singleton] at hx
        subst hx
        simpa using hd' b (rsl_sub l w hb)
      rw [List.append_assoc]
      refine eqv_trans (eqv_front h1) ?_
      rw [← List.append_assoc]
      exact eqv_behind ih

theorem indep_eqv {l : Ltr} {x y : List Int} (h : x.Perm y) : indep l x → eqv l x y := by
  induction h with
  | nil => intro _; exact eqv_refl l _
  | cons a _ ih =>
    intro hx
    unfold indep at hx; rw [List.pairwise_cons] at hx
    exact eqv_front (u := [a]) (ih hx.2)
  | swap a b r =>
    intro hx
    unfold indep at hx
    rw [List.pairwise_cons] at hx
    have hd : dep l b a = false := hx.1 a (by simp)
    have h1 : eqv l ([b] ++ [a]) ([a] ++ [b]) := apart_comm fun x hx y hy => by
      rw [List.mem_singleton] at hx hy; subst hx; subst hy; exact hd
    have := eqv_behind (v := r) h1
    simpa using this
  | trans h1 h2 ih1 ih2 => intro hx; exact eqv_trans (ih1 hx) (ih2 (indep_perm h1 hx))

theorem nodup_perm : ∀ {x y : List Int}, x.Nodup → y.Nodup → (∀ a, a ∈ x ↔ a ∈ y) → x.Perm y
  | [], y, _, _, h => by
    have : y = [] := List.eq_nil_iff_forall_not_mem.2 fun a ha => by have := (h a).2 ha; simp at this
    subst this; exact .nil
  | a :: x, y, hx, hy, h => by
    rw [List.nodup_cons] at hx
    have ha : a ∈ y := (h a).1 (by simp)
    refine (List.Perm.cons a (nodup_perm hx.2 (hy.erase a) fun b => ?_)).trans (List.perm_cons_erase ha).symm
    rw [hy.mem_erase_iff]
    constructor
    · intro hb
      exact ⟨fun e => by subst e; exact hx.1 hb, (h b).1 (by simp [hb])⟩
    · rintro ⟨h1, h2⟩
      rcases List.mem_cons.1 ((h b).2 h2) with e | e
      · exact absurd e h1
      · exact e

theorem fsl_perm {l : Ltr} {w v : List Int} (h : eqv l w v) : (fsl l w).Perm (fsl l v) := by
  refine nodup_perm (indep_nodup (fsl_indep l w)) (indep_nodup (fsl_indep l v)) fun a => ?_
  rw [fsl_mem, fsl_mem]
  constructor
  · rintro ⟨u, hu⟩
    obtain ⟨v', h1, _⟩ := eqv_wo h hu
    exact ⟨v', h1⟩
  · rintro ⟨u, hu⟩
    obtain ⟨v', h1, _⟩ := eqv_ow h hu
    exact ⟨v', h1⟩

theorem eqv_cancel {l : Ltr} {u v w : List Int} (h : eqv l (u ++ v) (u ++ w)) : eqv l v w := by
  unfold eqv at *
  rwa [rs_front] at h

theorem rsl_eqv {l : Ltr} {w v : List Int} (h : eqv l w v) : eqv l (rsl l w) (rsl l v) := by
  have h1 : eqv l (fsl l w ++ rsl l w) (fsl l v ++ rsl l v) := eqv_trans (eqv_trans (fr_eqv l w) h) (eqv_symm (fr_eqv l v))
  have h2 : eqv l (fsl l v ++ rsl l w) (fsl l w ++ rsl l w) := eqv_behind (eqv_symm (indep_eqv (fsl_perm h) (fsl_indep l w)))
  exact eqv_cancel (eqv_trans h2 h1)

/-- The layers, each in ascending order. -/
def layS (l : Ltr) (w : List Int) : List (List Int) := (lay l w).map srt
theorem layS_eq {l : Ltr} {w : List Int} (h : w ≠ []) : layS l w = srt (fsl l w) :: layS l (rsl l w) := by
  unfold layS; rw [lay_eq l w h, List.map_cons]
theorem fsl_ne {l : Ltr} {w : List Int} (h : w ≠ []) : fsl l w ≠ [] := lay_ne l w _ (by rw [lay_eq l w h]; simp)
theorem rsl_lt {l : Ltr} {w : List Int} (h : w ≠ []) : (rsl l w).length < w.length := by
  have h1 := rsl_len l w
  have h2 : 0 < (fsl l w).length := List.length_pos_iff.2 (fsl_ne h)
  omega

theorem layS_eqv {l : Ltr} : ∀ (n : Nat) (w v : List Int), w.length = n → eqv l w v → layS l w = layS l v := by
  intro n
  induction n using Nat.strongRecOn with
  | ind n ih =>
    intro w v hn h
    by_cases h0 : w = []
    · subst h0
      have : v = [] := List.eq_nil_of_length_eq_zero (eqv_len h).symm
      subst this; rfl
    · have h1 : v ≠ [] := fun e => by
        subst e
        have := eqv_len h
        exact h0 (List.eq_nil_of_length_eq_zero this)
      rw [layS_eq h0, layS_eq h1, srt_congr (fsl_perm h), ih (rsl l w).length (by have := rsl_lt (l := l) h0; omega) _ _ rfl (rsl_eqv h)]

theorem layS_back {l : Ltr} : ∀ (n : Nat) (w : List Int), w.length = n → eqv l (layS l w).flatten w := by
  intro n
  induction n using Nat.strongRecOn with
  | ind n ih =>
    intro w hn
    by_cases h0 : w = []
    · subst h0; exact eqv_refl l _
    · rw [layS_eq h0, List.flatten_cons]
      have h1 := ih (rsl l w).length (by have := rsl_lt (l := l) h0; omega) _ rfl
      have h2 : eqv l (srt (fsl l w)) (fsl l w) := eqv_symm (indep_eqv (srt_perm _).symm (fsl_indep l w))
      exact eqv_trans (eqv_front h1) (eqv_trans (eqv_behind h2) (fr_eqv l w))
theorem eqv_of_layS {l : Ltr} {w v : List Int} (h : layS l w = layS l v) : eqv l w v := by
  have h1 := layS_back (l := l) _ w rfl
  rw [h] at h1
  exact eqv_trans (eqv_symm h1) (layS_back (l := l) _ v rfl)
theorem layS_iff {l : Ltr} {w v : List Int} : layS l w = layS l v ↔ eqv l w v := ⟨eqv_of_layS, layS_eqv _ w v rfl⟩

end Go.Proofs.Ytabchabbdnhjpaa
