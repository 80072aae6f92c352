/-
  Layer 3, pure: WeaveTells answers true: classes are told by projections, layers and first forms.
-/
import Derived.Test.YtabchabbdnhjpaaV22
import Derived.Test.YtabchabbdnhjpaaV15
namespace Go.Proofs.Ytabchabbdnhjpaa
open Go.RowKit

set_option linter.unusedVariables false
set_option linter.unusedSimpArgs false
set_option maxRecDepth 10000

theorem proj_cons (c : Int) (r : List Int) (a b : Int) : proj (c :: r) a b = if c = a ∨ c = b then c :: proj r a b else proj r a b := by
  unfold proj
  rw [List.filter_cons]
  by_cases h : c = a ∨ c = b
  · rw [if_pos h, if_pos (by simpa using h)]
  · rw [if_neg h, if_neg (by simpa using h)]
theorem proj_append (p s : List Int) (a b : Int) : proj (p ++ s) a b = proj p a b ++ proj s a b := by unfold proj; rw [List.filter_append]
theorem proj_nil {p : List Int} {a b : Int} (h : ∀ x ∈ p, x ≠ a ∧ x ≠ b) : proj p a b = [] := by
  unfold proj
  rw [List.filter_eq_nil_iff]
  intro x hx
  simpa using h x hx
theorem proj_swap (p : List Int) (a b : Int) : proj p a b = proj p b a := by
  unfold proj
  congr 1
  funext x
  exact Bool.or_comm _ _

theorem proj_eqv {l : Ltr} {a b : Int} (hd : dep l a b = true) : ∀ {w v : List Int}, eqv l w v → proj w a b = proj v a b
  | [], v, h => by
    have : v = [] := List.eq_nil_of_length_eq_zero (eqv_len h).symm
    subst this; rfl
  | c :: r, v, h => by
    obtain ⟨v', h1, h2⟩ := eqv_cons.1 h
    obtain ⟨p, s, rfl, rfl, hp⟩ := wo_parts h1
    have ih := proj_eqv hd h2
    rw [proj_cons, ih, proj_append, proj_append, proj_cons]
    by_cases hc : c = a ∨ c = b
    · rw [if_pos hc, if_pos hc, proj_nil (p := p) fun x hx => ?_]
      · rfl
      · have hx' := hp x hx
        constructor
        · rintro rfl
          rcases hc with e | e
          · subst e; rw [dep_self] at hx'; cases hx'
          · subst e; rw [dep_symm] at hx'; rw [hd] at hx'; cases hx'
        · rintro rfl
          rcases hc with e | e
          · subst e; rw [hd] at hx'; cases hx'
          · subst e; rw [dep_self] at hx'; cases hx'
    · rw [if_neg hc, if_neg hc]

theorem first_split : ∀ {v : List Int} {c : Int}, c ∈ v → ∃ p s, v = p ++ c :: s ∧ c ∉ p
  | b :: r, c, h => by
    by_cases e : b = c
    · subst e; exact ⟨[], r, rfl, by simp⟩
    · obtain ⟨p, s, h1, h2⟩ := first_split (v := r) (c := c) (by
        rcases List.mem_cons.1 h with h | h
        · exact absurd h.symm e
        · exact h)
      refine ⟨b :: p, s, by rw [h1]; rfl, ?_⟩
      rw [List.mem_cons]
      rintro (h | h)
      · exact e h.symm
      · exact h2 h

theorem eqv_proj {l : Ltr} : ∀ {w v : List Int}, (∀ a b, a ∈ w ++ v → b ∈ w ++ v → dep l a b = true → proj w a b = proj v a b) → eqv l w v
  | [], v, h => by
    cases v with
    | nil => exact eqv_refl l _
    | cons c r =>
      have := h c c (by simp) (by simp) (dep_self l c)
      rw [proj_cons, if_pos (.inl rfl)] at this
      cases this
  | c :: r, v, h => by
    have hcv : c ∈ v := by
      have := h c c (by simp) (by simp) (dep_self l c)
      rw [proj_cons, if_pos (.inl rfl)] at this
      have hm : c ∈ proj v c c := by rw [← this]; simp
      exact (List.mem_filter.1 hm).1
    obtain ⟨p, s, rfl, hp⟩ := first_split hcv
    have hd : ∀ x ∈ p, dep l c x = false := fun x hx => by
      cases hdx : dep l c x with
      | false => rfl
      | true =>
        exfalso
        have hh := h c x (by simp) (by simp [hx]) hdx
        rw [proj_cons, if_pos (.inl rfl), proj_append] at hh
        cases hq : proj p c x with
        | nil =>
          have : x ∈ proj p c x := by unfold proj; exact List.mem_filter.2 ⟨hx, by simp⟩
          rw [hq] at this; cases this
        | cons y q =>
          rw [hq, List.cons_append] at hh
          have e : c = y := (List.cons.inj hh).1
          have hy : y ∈ proj p c x := by rw [hq]; simp
          rw [← e] at hy
          exact hp (List.mem_filter.1 hy).1
    refine eqv_cons.2 ⟨p ++ s, wo_mid hd, eqv_proj fun a b ha hb hab => ?_⟩
    have hh := h a b (by simp only [List.mem_append, List.mem_cons] at ha ⊢; rcases ha with g | g | g <;> simp [g]) (by simp only [List.mem_append, List.mem_cons] at hb ⊢; rcases hb with g | g | g <;> simp [g]) hab
    rw [proj_cons, proj_append, proj_cons] at hh
    rw [proj_append]
    by_cases hc : c = a ∨ c = b
    · rw [if_pos hc, if_pos hc] at hh
      have hpn : proj p a b = [] := proj_nil fun x hx => by
        have hx' := hd x hx
        constructor
        · rintro rfl
          rcases hc with e | e
          · subst e; rw [dep_self] at hx'; cases hx'
          · subst e; rw [dep_symm] at hx'; rw [hab] at hx'; cases hx'
        · rintro rfl
          rcases hc with e | e
          · subst e; rw [hab] at hx'; cases hx'
          · subst e; rw [dep_self] at hx'; cases hx'
      rw [hpn] at hh ⊢
      exact (List.cons.inj hh).2
    · rw [if_neg hc, if_neg hc] at hh
      exact hh

theorem foldl_and {α : Type} (p : α → Bool) : ∀ (M : List α) (s : Bool), M.foldl (fun s c => s && p c) s = (s && M.all p)
  | [], s => by simp
  | c :: M, s => by rw [List.foldl_cons, foldl_and p M, List.all_cons, Bool.and_assoc]

/-- Of two letters: they don't depend on each other, or the projections are equal. -/
def sameP (l : Ltr) (w v : List Int) (a b : Nat) : Bool := !dep l (a : Int) (b : Int) || decide (proj w a b = proj v a b)
def allP (l : Ltr) (w v : List Int) : Bool := (List.range l.1.toNat).all fun a => (List.range (a + 1)).all fun b => sameP l w v a b

theorem isLet_iff {l : Ltr} {a : Int} : isLet l a = true ↔ 0 ≤ a ∧ a < l.1 := by unfold isLet; simp

theorem allP_iff {l : Ltr} {w v : List Int} (hw : isWd l w = true) (hv : isWd l v = true) : allP l w v = true ↔ eqv l w v := by
  constructor
  · intro h
    refine eqv_proj fun a b ha hb hd => ?_
    have la : 0 ≤ a ∧ a < l.1 := by
      rcases List.mem_append.1 ha with g | g
      · exact isWd_let hw g
      · exact isWd_let hv g
    have lb : 0 ≤ b ∧ b < l.1 := by
      rcases List.mem_append.1 hb with g | g
      · exact isWd_let hw g
      · exact isWd_let hv g
    unfold allP at h
    rw [List.all_eq_true] at h
    have key : ∀ x y : Int, 0 ≤ x → x < l.1 → 0 ≤ y → y ≤ x → dep l x y = true → proj w x y = proj v x y := fun x y hx hxl hy hyx hd => by
      have h1 := h x.toNat (List.mem_range.2 (by omega))
      rw [List.all_eq_true] at h1
      have h2 := h1 y.toNat (List.mem_range.2 (by omega))
      unfold sameP at h2
      rw [Int.toNat_of_nonneg hx, Int.toNat_of_nonneg hy, hd] at h2
      simpa using h2
    by_cases hab : b ≤ a
    · exact key a b la.1 la.2 lb.1 hab hd
    · rw [proj_swap w, proj_swap v]
      exact key b a lb.1 lb.2 la.1 (by omega) (by rw [dep_symm]; exact hd)
  · intro h
    unfold allP
    rw [List.all_eq_true]
    intro a ha
    rw [List.all_eq_true]
    intro b hb
    unfold sameP
    cases hd : dep l (a : Int) (b : Int) with
    | false => rfl
    | true => rw [proj_eqv hd h]; simp

section
variable {l : Ltr} (hf : few l.2) (hl : okL l = true) {w v : List Int} (hw : isWd l w = true) (hv : isWd l v = true)
include hf hl hw hv

theorem Tells_b2 (a : Nat) (ha : (a : Int) < l.1) (s : Bool) : whileO (lineallaw03_WeaveTells_b2 l w v (s, (a : Int))) (s, 0) = some (.inr (s && (List.range (a + 1)).all fun b => sameP l w v a b)) := by
  have hN := okL_N hl
  have key := whileO_iter (body := lineallaw03_WeaveTells_b2 l w v (s, (a : Int))) (fun (s : Bool) (i : Int) => (s, i)) (a + 1) (fun b s => s && sameP l w v a b) Sum.inr (fun _ _ => True) (s0 := s) trivial
    (fun b s' hb _ => by
      refine ⟨?_, trivial⟩
      have la : isLet l (a : Int) = true := isLet_iff.2 ⟨by omega, ha⟩
      have lb : isLet l (b : Int) = true := isLet_iff.2 ⟨by omega, by omega⟩
      unfold lineallaw03_WeaveTells_b2
      simp only
      rw [if_pos (by rw [decide_eq_true_eq]; omega), Depend_eq l _ _ hf, Option.bind_some, if_pos hl, Projection_eq l w _ _ hf (len60 hw), Option.bind_some, if_pos (errW_of1 hl hw), Projection_eq l v _ _ hf (len60 hv), Option.bind_some, if_pos (errW_of1 hl hv)]
      simp only [la, lb, and_self, if_true]
      rw [if_neg (by simp), if_neg (by simp), if_neg (by simp)]
      have h1 : (proj w (a : Int) (b : Int)).length ≤ 10 := Nat.le_trans (List.length_filter_le _ _) (isWd_len hw)
      have h2 : (proj v (a : Int) (b : Int)).length ≤ 10 := Nat.le_trans (List.length_filter_le _ _) (isWd_len hv)
      unfold sameP
      cases s' with
      | false => rw [if_neg (by simp), ck_pos (by rw [inK_i64]; omega)]; rfl
      | true =>
        rw [if_pos rfl]
        cases hd : dep l (a : Int) (b : Int) with
        | false => rw [if_pos (by simp), ck_pos (by rw [inK_i64]; omega)]; rfl
        | true => rw [if_neg (by simp), SameInts_eq3 _ _ (few_of h1) (few_of h2), Option.bind_some, ck_pos (by rw [inK_i64]; omega)]; rfl)
    (fun s' _ => by
      unfold lineallaw03_WeaveTells_b2
      simp only
      rw [if_neg (by rw [decide_eq_true_eq]; omega)])
  have k1 : whileO (lineallaw03_WeaveTells_b2 l w v (s, (a : Int))) (s, 0) = some _ := key.1
  rw [k1, foldl_and]

theorem Tells_b1 : whileO (lineallaw03_WeaveTells_b1 l w v) (true, 0) = some (.inr (allP l w v)) := by
  have hN := okL_N hl
  have key := whileO_iter (body := lineallaw03_WeaveTells_b1 l w v) (fun (s : Bool) (i : Int) => (s, i)) l.1.toNat (fun a s => s && (List.range (a + 1)).all fun b => sameP l w v a b) Sum.inr (fun _ _ => True) (s0 := true) trivial
    (fun a s ha _ => by
      refine ⟨?_, trivial⟩
      unfold lineallaw03_WeaveTells_b1
      simp only
      rw [if_pos (by rw [decide_eq_true_eq]; omega), ck_pos (by rw [inK_i64]; omega), Tells_b2 hf hl hw hv a (by omega) s, Option.bind_some]
      unfold lineallaw03_WeaveTells_k2
      simp only
      rw [ck_pos (by rw [inK_i64]; omega)])
    (fun s _ => by
      unfold lineallaw03_WeaveTells_b1
      simp only
      rw [if_neg (by rw [decide_eq_true_eq]; omega)])
  have k1 : whileO (lineallaw03_WeaveTells_b1 l w v) (true, 0) = some _ := key.1
  rw [k1, foldl_and, Bool.true_and]
  rfl
end

theorem layS_small {l : Ltr} {w : List Int} (hw : isWd l w = true) : few (layS l w) ∧ ∀ x ∈ layS l w, x.length ≤ 1000 := by
  have hwl := isWd_len hw
  have h1 : (layS l w).length ≤ 10 := by
    unfold layS
    rw [List.length_map]
    have := ne_len (lay_ne l w)
    rw [(lay_perm l w).length_eq] at this
    omega
  refine ⟨few_of h1, fun x hx => ?_⟩
  unfold layS at hx
  obtain ⟨M, hM, rfl⟩ := List.mem_map.1 hx
  have := flat_lenL hM
  rw [(srt_perm M).length_eq]
  rw [(lay_perm l w).length_eq] at this
  omega

theorem SameLays_eq {l : Ltr} {w v : List Int} (hw : isWd l w = true) (hv : isWd l v = true) : linealref03_SameLists (layS l w) (layS l v) = some (decide (layS l w = layS l v)) :=
  SameLists_eq3 _ _ (layS_small hw).1 (layS_small hv).1 (layS_small hw).2 (layS_small hv).2

theorem Layers_ok {l : Ltr} {w : List Int} (hf : few l.2) (hl : okL l = true) (hw : isWd l w = true) : weave_Layers l w = some (layS l w, 0) := by
  have hL := Layers_eq l w hf (len60 hw)
  unfold layA at hL
  rwa [if_pos (errW_of1 hl hw)] at hL

theorem eqv_FF {l : Ltr} (hl : okL l = true) {w v : List Int} (hw : isWd l w = true) (hv : isWd l v = true) : FF l w = FF l v ↔ eqv l w v := ⟨eqv_of_FF hl hw hv, FF_eq⟩

theorem WeaveTells_eq (l : Ltr) (hf : few l.2) (w v : List Int) : lineallaw03_WeaveTells l w v = some true := by
  unfold lineallaw03_WeaveTells
  rcases valid_cases (l := l) [w, v] hf (few_of (n := 2) (by simp)) with h | ⟨h, hl, hws⟩
  · rw [h, Option.bind_some, if_pos (by simp), Awake3_eq]; rfl
  · have hw := hws w (by simp)
    have hv := hws v (by simp)
    have e1 : decide (FF l w = FF l v) = decide (eqv l w v) := decide_eq_decide.2 (eqv_FF hl hw hv)
    have e2 : decide (layS l w = layS l v) = decide (eqv l w v) := decide_eq_decide.2 layS_iff
    have e3 : allP l w v = decide (eqv l w v) := by rw [Bool.eq_iff_iff, decide_eq_true_iff]; exact allP_iff hw hv
    have f1 : (FF l w).length ≤ 10 := by rw [FF_len hl hw]; exact isWd_len hw
    have f2 : (FF l v).length ≤ 10 := by rw [FF_len hl hv]; exact isWd_len hv
    rw [h, Option.bind_some, if_neg (by simp), Equal_ok hf hl hw hv, Option.bind_some, Layers_ok hf hl hw, Option.bind_some, Layers_ok hf hl hv, Option.bind_some, First_ok hf hl hw, Option.bind_some, First_ok hf hl hv, Option.bind_some,
      if_neg (by simp), if_neg (by simp), if_neg (by simp), if_neg (by simp), if_neg (by simp), SameLays_eq hw hv, Option.bind_some, e1, e2, if_neg (by simp), SameInts_eq3 _ _ (few_of f1) (few_of f2), Option.bind_some, e1, if_neg (by simp), Tells_b1 hf hl hw hv, Option.bind_some]
    simp only
    unfold lineallaw03_WeaveTells_k1
    rw [e3, if_pos (by simp), Awake3_eq]
    rfl

end Go.Proofs.Ytabchabbdnhjpaa
