/-
  Layer 3, pure: words that are equal in class.
-/
import Derived.Test.YtabchabbdnhjpaaV7
namespace Go.Proofs.Ytabchabbdnhjpaa
open Go.RowKit

set_option linter.unusedVariables false
set_option linter.unusedSimpArgs false
set_option maxRecDepth 10000

variable {l : Ltr}

theorem dep_symm (l : Ltr) (a b : Int) : dep l a b = dep l b a := by
  unfold dep
  rw [Bool.eq_iff_iff]
  simp only [Bool.or_eq_true, decide_eq_true_eq]
  constructor
  · rintro ((h | h) | h)
    · exact .inl (.inl h.symm)
    · exact .inr h
    · exact .inl (.inr h)
  · rintro ((h | h) | h)
    · exact .inl (.inl h.symm)
    · exact .inr h
    · exact .inl (.inr h)

theorem wo_head (l : Ltr) (a : Int) (r : List Int) : wo l (a :: r) a = some r := by simp [wo]
theorem wo_skip {a b : Int} {r : List Int} (h : b ≠ a) (hd : dep l a b = false) : wo l (b :: r) a = (wo l r a).map (b :: ·) := by
  simp [wo, h, hd]
theorem wo_skip_inv {a b : Int} {r u : List Int} (h : b ≠ a) (hw : wo l (b :: r) a = some u) : dep l a b = false ∧ ∃ u', wo l r a = some u' ∧ u = b :: u' := by
  unfold wo at hw
  rw [if_neg h] at hw
  split at hw
  · cases hw
  · rename_i hd
    rw [Option.map_eq_some_iff] at hw
    obtain ⟨u', h1, h2⟩ := hw
    exact ⟨by simpa using hd, u', h1, h2.symm⟩

/-- Two letters in front: each may come first. -/
theorem wo_both : ∀ {w : List Int} {a b : Int} {u v : List Int}, a ≠ b → wo l w a = some u → wo l w b = some v → dep l a b = false ∧ ∃ z, wo l u b = some z ∧ wo l v a = some z
  | [], a, b, u, v, _, h, _ => by simp [wo] at h
  | c :: r, a, b, u, v, hab, h1, h2 => by
    by_cases ca : c = a
    · subst ca
      rw [wo_head] at h1; injection h1 with h1; subst h1
      obtain ⟨hd, v', hv, rfl⟩ := wo_skip_inv hab h2
      exact ⟨by rw [dep_symm]; exact hd, v', hv, wo_head l c v'⟩
    · by_cases cb : c = b
      · subst cb
        rw [wo_head] at h2; injection h2 with h2; subst h2
        obtain ⟨hd, u', hu, rfl⟩ := wo_skip_inv ca h1
        exact ⟨hd, u', wo_head l c u', hu⟩
      · obtain ⟨d1, u', hu, rfl⟩ := wo_skip_inv ca h1
        obtain ⟨d2, v', hv, rfl⟩ := wo_skip_inv cb h2
        obtain ⟨hd, z, e1, e2⟩ := wo_both hab hu hv
        exact ⟨hd, c :: z, by rw [wo_skip cb d2, e1]; rfl, by rw [wo_skip ca d1, e2]; rfl⟩

/-- A letter behind another one may come before it, if they do not depend on each other. -/
theorem wo_swap : ∀ {w : List Int} {a b : Int} {u z : List Int}, dep l a b = false → wo l w a = some u → wo l u b = some z → ∃ v, wo l w b = some v ∧ wo l v a = some z
  | [], a, b, u, z, _, h, _ => by simp [wo] at h
  | c :: r, a, b, u, z, hd, h1, h2 => by
    have hab : a ≠ b := fun e => by subst e; simp [dep] at hd
    by_cases ca : c = a
    · subst ca
      rw [wo_head] at h1; injection h1 with h1; subst h1
      exact ⟨c :: z, by rw [wo_skip hab (by rw [dep_symm]; exact hd), h2]; rfl, wo_head l c z⟩
    · obtain ⟨d1, u', hu, rfl⟩ := wo_skip_inv ca h1
      by_cases cb : c = b
      · subst cb
        rw [wo_head] at h2; injection h2 with h2; subst h2
        exact ⟨r, wo_head l c r, hu⟩
      · obtain ⟨d2, z', hz, rfl⟩ := wo_skip_inv cb h2
        obtain ⟨v, e1, e2⟩ := wo_swap hd hu hz
        exact ⟨c :: v, by rw [wo_skip cb d2, e1]; rfl, by rw [wo_skip ca d1, e2]; rfl⟩

/-- Equal in class. -/
def eqv (l : Ltr) (w v : List Int) : Prop := rs l w v = some []

theorem rs_cons (l : Ltr) (a : Int) (u w : List Int) : rs l (a :: u) w = (wo l w a).bind (rs l u) := rfl
theorem rs_nil (l : Ltr) (w : List Int) : rs l [] w = some w := rfl

theorem eqv_cons {a : Int} {r v : List Int} : eqv l (a :: r) v ↔ ∃ v', wo l v a = some v' ∧ eqv l r v' := by
  unfold eqv
  rw [rs_cons, Option.bind_eq_some_iff]

theorem eqv_len {w v : List Int} (h : eqv l w v) : w.length = v.length := by
  have := (rs_some l w v [] h).1
  simpa using this

theorem rs_append (l : Ltr) : ∀ (u v w : List Int), rs l (u ++ v) w = (rs l u w).bind (rs l v)
  | [], v, w => rfl
  | a :: u, v, w => by
    rw [List.cons_append, rs_cons, rs_cons]
    cases wo l w a with
    | none => rfl
    | some w' => exact rs_append l u v w'

theorem rs_front (l : Ltr) : ∀ (u v w : List Int), rs l (u ++ v) (u ++ w) = rs l v w
  | [], v, w => rfl
  | a :: u, v, w => by
    rw [List.cons_append, List.cons_append, rs_cons, wo_head, Option.bind_some]; exact rs_front l u v w

theorem eqv_refl (l : Ltr) (w : List Int) : eqv l w w := by
  have := rs_front l w [] []
  simp only [List.append_nil] at this
  exact this

theorem eqv_wo : ∀ {w v : List Int} {a : Int} {u : List Int}, eqv l w v → wo l w a = some u → ∃ v', wo l v a = some v' ∧ eqv l u v'
  | [], v, a, u, _, h => by simp [wo] at h
  | b :: r, v, a, u, he, h => by
    obtain ⟨v1, h1, h2⟩ := eqv_cons.1 he
    by_cases e : b = a
    · subst e
      rw [wo_head] at h; injection h with h; subst h
      exact ⟨v1, h1, h2⟩
    · obtain ⟨hd, u', hu, rfl⟩ := wo_skip_inv e h
      obtain ⟨v2, g1, g2⟩ := eqv_wo h2 hu
      obtain ⟨v', k1, k2⟩ := wo_swap (by rw [dep_symm]; exact hd) h1 g1
      exact ⟨v', k1, eqv_cons.2 ⟨v2, k2, g2⟩⟩

theorem eqv_ow : ∀ {w v : List Int} {a : Int} {v' : List Int}, eqv l w v → wo l v a = some v' → ∃ u, wo l w a = some u ∧ eqv l u v'
  | [], v, a, v', he, h => by
    have := eqv_len he
    have : v = [] := List.eq_nil_of_length_eq_zero this.symm
    subst this; simp [wo] at h
  | b :: r, v, a, v', he, h => by
    obtain ⟨v1, h1, h2⟩ := eqv_cons.1 he
    by_cases e : b = a
    · subst e
      rw [h1] at h; injection h with h; subst h
      exact ⟨r, wo_head l b r, h2⟩
    · obtain ⟨hd, z, k1, k2⟩ := wo_both e h1 h
      obtain ⟨u', g1, g2⟩ := eqv_ow h2 k1
      exact ⟨b :: u', by rw [wo_skip e (by rw [dep_symm]; exact hd), g1]; rfl, eqv_cons.2 ⟨z, k2, g2⟩⟩

theorem eqv_symm : ∀ {v w : List Int}, eqv l w v → eqv l v w
  | [], w, h => by
    have : w = [] := List.eq_nil_of_length_eq_zero (eqv_len h)
    subst this; exact h
  | c :: s, w, h => by
    obtain ⟨u, h1, h2⟩ := eqv_ow h (wo_head l c s)
    exact eqv_cons.2 ⟨u, h1, eqv_symm h2⟩

theorem eqv_trans : ∀ {w v x : List Int}, eqv l w v → eqv l v x → eqv l w x
  | [], v, x, h1, h2 => by
    have : v = [] := List.eq_nil_of_length_eq_zero (eqv_len h1).symm
    subst this; exact h2
  | b :: r, v, x, h1, h2 => by
    obtain ⟨v1, g1, g2⟩ := eqv_cons.1 h1
    obtain ⟨x1, k1, k2⟩ := eqv_wo h2 g1
    exact eqv_cons.2 ⟨x1, k1, eqv_trans g2 k2⟩

theorem eqv_front {u v w : List Int} (h : eqv l v w) : eqv l (u ++ v) (u ++ w) := by
  unfold eqv; rw [rs_front]; exact h

theorem wo_append : ∀ {w : List Int} {a : Int} {u v : List Int}, wo l w a = some u → wo l (w ++ v) a = some (u ++ v)
  | [], a, u, v, h => by simp [wo] at h
  | b :: r, a, u, v, h => by
    by_cases e : b = a
    · subst e
      rw [wo_head] at h; injection h with h; subst h
      rw [List.cons_append, wo_head]
    · obtain ⟨hd, u', hu, rfl⟩ := wo_skip_inv e h
      rw [List.cons_append, wo_skip e hd, wo_append hu]; rfl

theorem eqv_behind : ∀ {w w' : List Int} {v : List Int}, eqv l w w' → eqv l (w ++ v) (w' ++ v)
  | [], w', v, h => by
    have : w' = [] := List.eq_nil_of_length_eq_zero (eqv_len h).symm
    subst this; exact eqv_refl l _
  | b :: r, w', v, h => by
    obtain ⟨v1, g1, g2⟩ := eqv_cons.1 h
    rw [List.cons_append]
    exact eqv_cons.2 ⟨v1 ++ v, wo_append g1, eqv_behind g2⟩

theorem eqv_of_rs {u w v : List Int} (h : rs l u w = some v) : eqv l (u ++ v) w := by
  unfold eqv
  rw [rs_append, h, Option.bind_some]
  exact eqv_refl l v

theorem rs_of_eqv {u v w : List Int} (h : eqv l (u ++ v) w) : ∃ z, rs l u w = some z ∧ eqv l v z := by
  unfold eqv at h
  rw [rs_append, Option.bind_eq_some_iff] at h
  exact h

/-- What begins, begins all that is equal. -/
theorem rs_eqv {u u' w w' v : List Int} (h : rs l u w = some v) (hu : eqv l u u') (hw : eqv l w w') : ∃ v', rs l u' w' = some v' ∧ eqv l v v' := by
  have h1 : eqv l (u' ++ v) w' := eqv_trans (eqv_behind (eqv_symm hu)) (eqv_trans (eqv_of_rs h) hw)
  exact rs_of_eqv h1

theorem eqv_mem {w v : List Int} (h : eqv l w v) (x : Int) : x ∈ w → x ∈ v := by
  intro hx
  induction w generalizing v with
  | nil => simp at hx
  | cons b r ih =>
    obtain ⟨v1, g1, g2⟩ := eqv_cons.1 h
    have := wo_some l v b v1 g1
    rcases List.mem_cons.1 hx with rfl | hx
    · exact this.2.2
    · exact this.2.1 x (ih g2 hx)

theorem eqv_isWd {w v : List Int} (h : eqv l w v) (hv : isWd l v = true) : isWd l w = true :=
  isWd_sub hv (by have := isWd_len hv; have := eqv_len h; omega) (fun x hx => eqv_mem h x hx)

/-! ### First forms -/

theorem ff_eqv (hl : okL l = true) : ∀ (n : Nat) (w : List Int), w.length < n → isWd l w = true → eqv l (ff l n w) w
  | 0, w, h, _ => by omega
  | n + 1, w, hn, hw => by
    by_cases hw0 : w = []
    · subst hw0
      unfold ff; rw [startsL_nil]; exact eqv_refl l _
    · unfold ff
      cases hs : startsL l w with
      | nil => exact absurd hs (starts_some hl hw hw0)
      | cons p r =>
        have hp : p ∈ startsL l w := by rw [hs]; simp
        have hwo := (startsL_mem hp).1
        have := (wo_some l w p.1 p.2 hwo).1
        exact eqv_cons.2 ⟨p.2, hwo, ff_eqv hl n p.2 (by omega) (isWd_wo hw hwo)⟩

theorem FF_eqv (hl : okL l = true) {w : List Int} (hw : isWd l w = true) : eqv l (FF l w) w := ff_eqv hl _ w (by omega) hw

/-- The letters in front are the same, and what is left is equal in class. -/
def starts_match (l : Ltr) : List (Int × List Int) → List (Int × List Int) → Prop
  | [], [] => True
  | p :: A, q :: B => p.1 = q.1 ∧ eqv l p.2 q.2 ∧ starts_match l A B
  | _, _ => False

theorem startsL_match {w v : List Int} (h : eqv l w v) : starts_match l (startsL l w) (startsL l v) := by
  unfold startsL
  have : ∀ L : List Nat, starts_match l (L.filterMap fun (a : Nat) => (wo l w (a : Int)).map fun u => ((a : Int), u)) (L.filterMap fun (a : Nat) => (wo l v (a : Int)).map fun u => ((a : Int), u)) := by
    intro L
    induction L with
    | nil => trivial
    | cons a L ih =>
      rw [List.filterMap_cons, List.filterMap_cons]
      cases hw : wo l w (a : Int) with
      | none =>
        cases hv : wo l v (a : Int) with
        | none => exact ih
        | some v' => obtain ⟨u, h1, _⟩ := eqv_ow h hv; rw [hw] at h1; cases h1
      | some u =>
        obtain ⟨v', h1, h2⟩ := eqv_wo h hw
        rw [h1]
        exact ⟨rfl, h2, ih⟩
  exact this _

theorem ff_eq : ∀ (n : Nat) (w v : List Int), w.length < n → eqv l w v → ff l n w = ff l n v
  | 0, w, _, h, _ => by omega
  | n + 1, w, v, hn, h => by
    have hm := startsL_match h
    unfold ff
    cases hs : startsL l w with
    | nil =>
      cases ht : startsL l v with
      | nil => rfl
      | cons q B => rw [hs, ht] at hm; exact hm.elim
    | cons p A =>
      cases ht : startsL l v with
      | nil => rw [hs, ht] at hm; exact hm.elim
      | cons q B =>
        rw [hs, ht] at hm
        have hp : p ∈ startsL l w := by rw [hs]; simp
        have := (wo_some l w p.1 p.2 (startsL_mem hp).1).1
        simp only
        rw [hm.1, ff_eq n p.2 q.2 (by omega) hm.2.1]

theorem FF_eq {w v : List Int} (h : eqv l w v) : FF l w = FF l v := by
  unfold FF
  rw [← eqv_len h]
  exact ff_eq _ w v (by omega) h

theorem eqv_of_FF (hl : okL l = true) {w v : List Int} (hw : isWd l w = true) (hv : isWd l v = true) (h : FF l w = FF l v) : eqv l w v :=
  eqv_trans (eqv_symm (FF_eqv hl hw)) (by rw [h]; exact FF_eqv hl hv)

theorem FF_isWd (hl : okL l = true) {w : List Int} (hw : isWd l w = true) : isWd l (FF l w) = true := eqv_isWd (FF_eqv hl hw) hw

/-! ### The law's own questions -/

end Go.Proofs.Ytabchabbdnhjpaa
