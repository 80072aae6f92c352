/-
  Layer 1, pure: the reference's table of how far two states are from being told apart.
-/
import Derived.Test.YtcgflignbhmoaaaP5
namespace Go.Proofs.Ytcgflignbhmoaaa
open Go.RowKit

set_option linter.unusedVariables false
set_option linter.unusedSectionVars false
set_option linter.unusedSimpArgs false

/-! ### Tables -/

abbrev Tbl := List (List Int)
def ent (M : Tbl) (a b : Nat) : Int := (M.getD a []).getD b 0
def shp (S T : Nat) (M : Tbl) : Prop := M.length = S ∧ ∀ a, a < S → (M.getD a []).length = T

theorem getD_set {α : Type} {l : List α} {i j : Nat} {x d : α} (hi : i < l.length) : (l.set i x).getD j d = if j = i then x else l.getD j d := by
  by_cases e : j = i
  · subst e; simp [List.getD, hi]
  · rw [if_neg e]; simp [List.getD, List.getElem?_set_ne (Ne.symm e)]

theorem set_shp {S T : Nat} {M : Tbl} (h : shp S T M) {a b : Nat} (ha : a < S) (v : Int) : shp S T (M.set a ((M.getD a []).set b v)) := by
  refine ⟨by rw [List.length_set]; exact h.1, fun c hc => ?_⟩
  rw [getD_set (by rw [h.1]; exact ha)]
  by_cases e : c = a
  · subst e; rw [if_pos rfl, List.length_set]; exact h.2 c hc
  · rw [if_neg e]; exact h.2 c hc

theorem set_ent {S T : Nat} {M : Tbl} (h : shp S T M) {a b : Nat} (ha : a < S) (hb : b < T) (v : Int) (c d : Nat) : ent (M.set a ((M.getD a []).set b v)) c d = if c = a ∧ d = b then v else ent M c d := by
  unfold ent
  rw [getD_set (by rw [h.1]; exact ha)]
  by_cases e : c = a
  · subst e
    rw [if_pos rfl, getD_set (by rw [h.2 c ha]; exact hb)]
    by_cases e2 : d = b
    · simp [e2]
    · simp [e2]
  · simp [e]

theorem loop_mat {body : Tbl × Int → Option (Step (Tbl × Int) Tbl)} (n : Nat) (P : Nat → Tbl → Prop) (h : ∀ (k : Nat) (M : Tbl), k < n → P k M → ∃ M', body (M, (k : Int)) = some (.next (M', (k : Int) + 1)) ∧ P (k + 1) M') (hd : ∀ M, P n M → body (M, (n : Int)) = some (.done M)) :
    ∀ (d k : Nat) (M : Tbl), n - k = d → k ≤ n → P k M → ∃ M', whileO body (M, (k : Int)) = some M' ∧ P n M' := by
  have key : ∀ (d k : Nat) (M : Tbl), n - k = d → k ≤ n → P k M → ∃ M', whileN body (d + 1) (M, (k : Int)) = some M' ∧ P n M' := by
    intro d
    induction d with
    | zero =>
      intro k M h1 h2 hp
      have : k = n := by omega
      subst this
      refine ⟨M, ?_, hp⟩
      unfold whileN; rw [hd M hp]
    | succ d ih =>
      intro k M h1 h2 hp
      obtain ⟨M', e1, hp'⟩ := h k M (by omega) hp
      obtain ⟨M2, e2, hp2⟩ := ih (k + 1) M' (by omega) (by omega) hp'
      refine ⟨M2, ?_, hp2⟩
      unfold whileN
      rw [e1]
      exact e2
  intro d k M h1 h2 hp
  obtain ⟨M', e1, e2⟩ := key d k M h1 h2 hp
  exact ⟨M', whileO_of e1, e2⟩

/-! ### What the table holds -/

def nxN (s : Tup) (a o : Nat) : Nat := (at2 s.2.2.1 a o).toNat

def dF (s t : Tup) : Nat → Nat → Nat → Int
  | 0, _, _ => 0
  | n + 1, a, b => if 0 < dF s t n a b then dF s t n a b else
      if (List.range s.2.1.toNat).any (fun o => decide (at2 s.2.2.2 a o ≠ at2 t.2.2.2 b o) || (decide (0 < dF s t n (nxN s a o) (nxN t b o)) && decide (dF s t n (nxN s a o) (nxN t b o) = n))) = true then (n : Int) + 1 else 0

def hitB (s t : Tup) (n a b o : Nat) : Bool := decide (at2 s.2.2.2 a o ≠ at2 t.2.2.2 b o) || (decide (0 < dF s t n (nxN s a o) (nxN t b o)) && decide (dF s t n (nxN s a o) (nxN t b o) = n))

theorem dF_succ (s t : Tup) (n a b : Nat) : dF s t (n + 1) a b = if 0 < dF s t n a b then dF s t n a b else if (List.range s.2.1.toNat).any (hitB s t n a b) = true then (n : Int) + 1 else 0 := rfl

theorem dF_range (s t : Tup) : ∀ n a b, 0 ≤ dF s t n a b ∧ dF s t n a b ≤ n
  | 0, a, b => by simp [dF]
  | n + 1, a, b => by
    have := dF_range s t n a b
    rw [dF_succ]
    split
    · omega
    · split <;> omega

theorem dF_keep (s t : Tup) {n a b : Nat} (h : 0 < dF s t n a b) : ∀ d, dF s t (n + d) a b = dF s t n a b
  | 0 => rfl
  | d + 1 => by
    have ih := dF_keep s t h d
    rw [← Nat.add_assoc, dF_succ, ih, if_pos h]

/-- An entry that is there came in the round of its number. -/
theorem dF_born (s t : Tup) : ∀ (n a b : Nat), 0 < dF s t n a b → ∃ k : Nat, dF s t n a b = k ∧ dF s t k a b = k ∧ k ≤ n
  | 0, a, b, h => by simp [dF] at h
  | n + 1, a, b, h => by
    by_cases h1 : 0 < dF s t n a b
    · obtain ⟨k, e1, e2, e3⟩ := dF_born s t n a b h1
      exact ⟨k, by rw [dF_succ, if_pos h1]; exact e1, e2, by omega⟩
    · have e : dF s t (n + 1) a b = (n : Int) + 1 := by
        rw [dF_succ, if_neg h1] at h ⊢
        by_cases hc : (List.range s.2.1.toNat).any (hitB s t n a b) = true
        · rw [if_pos hc]
        · rw [if_neg hc] at h; omega
      exact ⟨n + 1, by rw [e]; rfl, by rw [e]; rfl, Nat.le_refl _⟩

section
variable {s t : Tup} (hv : (toSp s).ok = true) (hw : (toSp t).ok = true) (hop : s.2.1 = t.2.1)
include hv hw hop

theorem nxN_in {a o : Nat} (ha : (a : Int) < s.1) (ho : (o : Int) < s.2.1) : ((nxN s a o : Nat) : Int) = at2 s.2.2.1 a o ∧ (nxN s a o : Int) < s.1 := by
  have h := nx_in hv (p := (a : Int)) (o := (o : Int)) (by show inR s.1 _ = true; simp only [inR, decide_eq_true_eq]; omega) (by show inR s.2.1 _ = true; simp only [inR, decide_eq_true_eq]; omega)
  have h' : inR s.1 (at2 s.2.2.1 a o) = true := h
  simp only [inR, decide_eq_true_eq] at h'
  unfold nxN
  omega

/-- Zero: no word of so many calls tells them apart. -/
theorem dF_zero : ∀ (n a b : Nat), (a : Int) < s.1 → (b : Int) < t.1 → (dF s t n a b = 0 ↔ ∀ w, calls s.2.1 w → w.length ≤ n → ans (toSp s) a w = ans (toSp t) b w)
  | 0, a, b, _, _ => by
    refine ⟨fun _ w _ hl => ?_, fun _ => rfl⟩
    obtain rfl : w = [] := List.length_eq_zero_iff.1 (by omega)
    rfl
  | n + 1, a, b, ha, hb => by
    have hm := Sp.okE hv
    have h3 : 1 ≤ s.2.1 := hm.2.2.1
    have hr := dF_range s t n a b
    constructor
    · intro h w hc hl
      rw [dF_succ] at h
      by_cases h1 : 0 < dF s t n a b
      · rw [if_pos h1] at h; omega
      rw [if_neg h1] at h
      have hno : ¬ (List.range s.2.1.toNat).any (hitB s t n a b) = true := fun hc => by rw [if_pos hc] at h; omega
      cases w with
      | nil => rfl
      | cons o w =>
        have ho := hc o (by simp)
        simp only [inR, decide_eq_true_eq] at ho
        obtain ⟨o, rfl⟩ := Int.eq_ofNat_of_zero_le ho.1
        have hh : hitB s t n a b o = false := by
          cases hx : hitB s t n a b o with
          | false => rfl
          | true => exact absurd (List.any_eq_true.2 ⟨o, List.mem_range.2 (by omega), hx⟩) hno
        unfold hitB at hh
        rw [Bool.or_eq_false_iff, decide_eq_false_iff_not] at hh
        obtain ⟨g1, g2⟩ := hh
        have g1 : at2 s.2.2.2 a o = at2 t.2.2.2 b o := Classical.byContradiction fun hne => g1 hne
        obtain ⟨n1, n2⟩ := nxN_in hv hw hop ha ho.2
        obtain ⟨m1, m2⟩ := nxN_in hw hv hop.symm hb (by rw [← hop]; exact ho.2)
        have hz : dF s t n (nxN s a o) (nxN t b o) = 0 := by
          have hr2 := dF_range s t n (nxN s a o) (nxN t b o)
          refine Classical.byContradiction fun hne => ?_
          have hpos : 0 < dF s t n (nxN s a o) (nxN t b o) := by omega
          obtain ⟨k, e1, e2, e3⟩ := dF_born s t n _ _ hpos
          rcases Nat.lt_or_ge k n with hk | hk
          · have hb2 : 0 < dF s t (k + 1) a b := by
              rw [dF_succ]
              by_cases h9 : 0 < dF s t k a b
              · rw [if_pos h9]; exact h9
              · rw [if_neg h9, if_pos (List.any_eq_true.2 ⟨o, List.mem_range.2 (by omega), ?_⟩)]
                · omega
                · unfold hitB
                  rw [e2, Bool.or_eq_true]
                  refine .inr ?_
                  rw [Bool.and_eq_true, decide_eq_true_eq, decide_eq_true_eq]
                  exact ⟨by omega, rfl⟩
            have := dF_keep s t hb2 (n - (k + 1))
            rw [show k + 1 + (n - (k + 1)) = n from by omega] at this
            omega
          · have : k = n := by omega
            subst this
            rw [e1] at g2
            have h10 : (decide (0 < (k : Int)) && decide ((k : Int) = k)) = true := by
              rw [Bool.and_eq_true, decide_eq_true_eq, decide_eq_true_eq]
              exact ⟨by omega, rfl⟩
            rw [h10] at g2; cases g2
        have ih := (dF_zero n _ _ n2 m2).1 hz w (fun x hx => hc x (by simp [hx])) (by simpa using hl)
        show at2 s.2.2.2 a (o : Int).toNat :: ans (toSp s) (at2 s.2.2.1 a (o : Int).toNat) w = at2 t.2.2.2 b (o : Int).toNat :: ans (toSp t) (at2 t.2.2.1 b (o : Int).toNat) w
        rw [Int.toNat_natCast, g1, ← n1, ← m1, ih]
    · intro h
      have h0 : dF s t n a b = 0 := (dF_zero n a b ha hb).2 fun w hc hl => h w hc (by omega)
      rw [dF_succ, h0, if_neg (by omega), if_neg]
      intro hc
      obtain ⟨o, ho, hx⟩ := List.any_eq_true.1 hc
      have ho := List.mem_range.1 ho
      have ho' : (o : Int) < s.2.1 := by omega
      have hin : inR s.2.1 (o : Int) = true := by simp only [inR, decide_eq_true_eq]; omega
      obtain ⟨n1, n2⟩ := nxN_in hv hw hop ha ho'
      obtain ⟨m1, m2⟩ := nxN_in hw hv hop.symm hb (by rw [← hop]; exact ho')
      unfold hitB at hx
      rw [Bool.or_eq_true] at hx
      rcases hx with hx | hx
      · have := h [(o : Int)] (fun x hx => by simp at hx; subst hx; exact hin) (by simp)
        simp only [ans, List.cons.injEq, and_true] at this
        rw [Int.toNat_natCast] at this
        have hne := of_decide_eq_true hx
        exact hne this
      · rw [Bool.and_eq_true] at hx
        have hpos := of_decide_eq_true hx.1
        have hz := (dF_zero n _ _ n2 m2).2 fun w hc hl => by
          have := h ((o : Int) :: w) (fun x hx => by
            rcases List.mem_cons.1 hx with rfl | hx
            · exact hin
            · exact hc x hx) (by simpa using hl)
          simp only [ans, List.cons.injEq] at this
          rw [Int.toNat_natCast] at this
          have h2 : ans (toSp s) (at2 s.2.2.1 a o) w = ans (toSp t) (at2 t.2.2.1 b o) w := this.2
          rw [n1, m1]; exact h2
        omega

end
end Go.Proofs.Ytcgflignbhmoaaa
