/-
  Layer 1, pure: the reference's word, which goes down the table, is the first of all words that tell.
-/
import Derived.Test.YtcgflignbhmoaaaP16
import Derived.Test.YtcgflignbhmoaaaP20
import Derived.Test.YtcgflignbhmoaaaP24
namespace Go.Proofs.Ytcgflignbhmoaaa
open Go.RowKit

set_option linter.unusedVariables false
set_option linter.unusedSectionVars false
set_option linter.unusedSimpArgs false

/-- A call that goes down the table, or tells at once. -/
def dnB (s t : Tup) (N a b k o : Nat) : Bool := if k = 1 then decide (at2 s.2.2.2 a o ≠ at2 t.2.2.2 b o) else decide (dF s t N (nxN s a o) (nxN t b o) = (k : Int) - 1)
def gop (s t : Tup) (N a b k : Nat) : Nat := ((List.range s.2.1.toNat).find? (dnB s t N a b k)).getD 0
def tolW (s t : Tup) (N : Nat) : Nat → Nat → Nat → List Int
  | 0, _, _ => []
  | k + 1, a, b => (gop s t N a b (k + 1) : Int) :: tolW s t N k (nxN s a (gop s t N a b (k + 1))) (nxN t b (gop s t N a b (k + 1)))

theorem dF_up {s t : Tup} {n m a b : Nat} (h : 0 < dF s t n a b) (hm : n ≤ m) : dF s t m a b = dF s t n a b := by
  obtain ⟨d, rfl⟩ := Nat.le.dest hm
  exact dF_keep s t h d

theorem dF_down {s t : Tup} {n a b k : Nat} (h : dF s t n a b = ((k + 1 : Nat) : Int)) : k + 1 ≤ n ∧ dF s t k a b = 0 ∧ ∃ o, o < s.2.1.toNat ∧ hitB s t k a b o = true := by
  obtain ⟨k', e1, e2, e3⟩ := dF_born s t n a b (by omega)
  obtain rfl : k' = k + 1 := by omega
  have hr := dF_range s t k a b
  rw [dF_succ] at e2
  by_cases h1 : 0 < dF s t k a b
  · rw [if_pos h1] at e2; omega
  rw [if_neg h1] at e2
  refine ⟨e3, by omega, ?_⟩
  by_cases h2 : (List.range s.2.1.toNat).any (hitB s t k a b) = true
  · obtain ⟨o, ho, hh⟩ := List.any_eq_true.1 h2
    exact ⟨o, List.mem_range.1 ho, hh⟩
  · rw [if_neg h2] at e2; omega

theorem dF_hit {s t : Tup} {n m a b o : Nat} (ho : o < s.2.1.toNat) (h : hitB s t m a b o = true) (hm : m + 1 ≤ n) : 0 < dF s t n a b := by
  have h1 : 0 < dF s t (m + 1) a b := by
    rw [dF_succ]
    by_cases h9 : 0 < dF s t m a b
    · rw [if_pos h9]; exact h9
    · rw [if_neg h9, if_pos (List.any_eq_true.2 ⟨o, List.mem_range.2 ho, h⟩)]; omega
  rw [dF_up h1 hm]; exact h1

theorem gop_spec {s t : Tup} {N a b k : Nat} (h : ∃ o, o < s.2.1.toNat ∧ dnB s t N a b k o = true) : gop s t N a b k < s.2.1.toNat ∧ dnB s t N a b k (gop s t N a b k) = true ∧ (∀ j, j < gop s t N a b k → dnB s t N a b k j = false) ∧ (List.range s.2.1.toNat).find? (dnB s t N a b k) = some (gop s t N a b k) := by
  unfold gop
  cases hf : (List.range s.2.1.toNat).find? (dnB s t N a b k) with
  | none =>
    obtain ⟨o, h1, h2⟩ := h
    have := List.find?_eq_none.1 hf o (List.mem_range.2 h1)
    exact absurd h2 this
  | some x =>
    rw [Option.getD_some]
    have h2 := hf
    rw [List.find?_range_eq_some] at hf
    exact ⟨List.mem_range.1 hf.2.1, hf.1, fun j hj => by simpa using hf.2.2 j hj, rfl⟩

section
variable {s t : Tup} (hv : (toSp s).ok = true) (hw : (toSp t).ok = true) (hop : s.2.1 = t.2.1)
include hv hw hop

theorem dn_ex {N a b k : Nat} (h : dF s t N a b = ((k + 1 : Nat) : Int)) : ∃ o, o < s.2.1.toNat ∧ dnB s t N a b (k + 1) o = true := by
  obtain ⟨d1, d2, o, ho, hh⟩ := dF_down h
  refine ⟨o, ho, ?_⟩
  unfold dnB
  unfold hitB at hh
  rw [Bool.or_eq_true, Bool.and_eq_true, decide_eq_true_eq, decide_eq_true_eq, decide_eq_true_eq] at hh
  cases k with
  | zero =>
    rw [if_pos rfl, decide_eq_true_eq]
    rcases hh with hh | ⟨h1, h2⟩
    · exact hh
    · have : dF s t 0 (nxN s a o) (nxN t b o) = 0 := rfl
      omega
  | succ k =>
    rw [if_neg (by omega), decide_eq_true_eq]
    rcases hh with hh | ⟨h1, h2⟩
    · have := dF_hit (n := k + 1) ho (m := 0) (a := a) (b := b) (by unfold hitB; rw [decide_eq_true hh]; rfl) (by omega)
      omega
    · rw [dF_up h1 (by omega), h2]; omega

theorem says_eq {N a b k : Nat} (h : dF s t N a b = ((k + 2 : Nat) : Int)) {o : Nat} (ho : o < s.2.1.toNat) : at2 s.2.2.2 a o = at2 t.2.2.2 b o := by
  obtain ⟨d1, d2, _⟩ := dF_down (k := k + 1) h
  refine Classical.byContradiction fun hne => ?_
  have := dF_hit (n := k + 1) ho (m := 0) (a := a) (b := b) (by unfold hitB; rw [decide_eq_true hne]; rfl) (by omega)
  omega

theorem tolW_spec (N : Nat) : ∀ (k a b : Nat), (a : Int) < s.1 → (b : Int) < t.1 → dF s t N a b = ((k + 1 : Nat) : Int) →
    calls s.2.1 (tolW s t N (k + 1) a b) ∧ (tolW s t N (k + 1) a b).length = k + 1 ∧ ans (toSp s) a (tolW s t N (k + 1) a b) ≠ ans (toSp t) b (tolW s t N (k + 1) a b) ∧
      ∀ w, calls s.2.1 w → ans (toSp s) a w ≠ ans (toSp t) b w → cd (tolW s t N (k + 1) a b) ≤ cd w := by
  have h4 : s.2.1 ≤ 4 := (Sp.okE hv).2.2.2.1
  intro k
  induction k with
  | zero =>
    intro a b ha hb hd
    obtain ⟨g1, g2, g3, _⟩ := gop_spec (dn_ex hv hw hop hd)
    have e : tolW s t N (0 + 1) a b = [(gop s t N a b (0 + 1) : Int)] := rfl
    rw [e]
    generalize gop s t N a b (0 + 1) = g at *
    have hc : calls s.2.1 [(g : Int)] := fun x hx => by
      simp only [List.mem_singleton] at hx; subst hx
      simp only [inR, decide_eq_true_eq]; omega
    unfold dnB at g2
    rw [if_pos rfl, decide_eq_true_eq] at g2
    refine ⟨hc, rfl, fun h => ?_, fun w hwc hne => ?_⟩
    · have : at2 s.2.2.2 (a : Int) ((g : Int)).toNat = at2 t.2.2.2 (b : Int) ((g : Int)).toNat := (List.cons.inj h).1
      rw [Int.toNat_natCast] at this
      exact g2 this
    · cases w with
      | nil => exact absurd rfl hne
      | cons c v =>
        cases v with
        | cons c' v' => exact Nat.le_of_lt (cd_short h4 (by simp) hc)
        | nil =>
          have hcc := hwc c (by simp)
          simp only [inR, decide_eq_true_eq] at hcc
          obtain ⟨c, rfl⟩ := Int.eq_ofNat_of_zero_le hcc.1
          have hdn : ¬ (c < g) := fun hlt => by
            have hg := g3 c hlt
            unfold dnB at hg
            rw [if_pos rfl, decide_eq_false_iff_not] at hg
            refine hg fun he => hne ?_
            show [at2 s.2.2.2 (a : Int) ((c : Int)).toNat] = [at2 t.2.2.2 (b : Int) ((c : Int)).toNat]
            rw [Int.toNat_natCast, he]
          rcases Nat.lt_or_ge g c with h | h
          · exact Nat.le_of_lt (cd_first h4 rfl (fun x hx => by simp at hx) (by omega) (by omega))
          · have : c = g := by omega
            subst this; exact Nat.le_refl _
  | succ k ih =>
    intro a b ha hb hd
    obtain ⟨g1, g2, g3, _⟩ := gop_spec (dn_ex hv hw hop hd)
    obtain ⟨d1, d2, _⟩ := dF_down hd
    have e : tolW s t N (k + 1 + 1) a b = (gop s t N a b (k + 1 + 1) : Int) :: tolW s t N (k + 1) (nxN s a (gop s t N a b (k + 1 + 1))) (nxN t b (gop s t N a b (k + 1 + 1))) := rfl
    rw [e]
    generalize gop s t N a b (k + 1 + 1) = g at *
    have hgo : (g : Int) < s.2.1 := by omega
    obtain ⟨n1, n2⟩ := nxN_in hv hw hop ha hgo
    obtain ⟨m1, m2⟩ := nxN_in hw hv hop.symm hb (by rw [← hop]; exact hgo)
    unfold dnB at g2
    rw [if_neg (by omega), decide_eq_true_eq] at g2
    obtain ⟨i1, i2, i3, i4⟩ := ih (nxN s a g) (nxN t b g) n2 m2 (by rw [g2]; omega)
    generalize tolW s t N (k + 1) (nxN s a g) (nxN t b g) = W at *
    have hgr : inR s.2.1 (g : Int) = true := by simp only [inR, decide_eq_true_eq]; omega
    have hc : calls s.2.1 ((g : Int) :: W) := fun x hx => by
      rcases List.mem_cons.1 hx with rfl | hx
      · exact hgr
      · exact i1 x hx
    refine ⟨hc, by rw [List.length_cons, i2], fun h => i3 ?_, fun w hwc hne => ?_⟩
    · have := (List.cons.inj h).2
      have h2 : ans (toSp s) (at2 s.2.2.1 (a : Int) ((g : Int)).toNat) W = ans (toSp t) (at2 t.2.2.1 (b : Int) ((g : Int)).toNat) W := this
      rw [Int.toNat_natCast, ← n1, ← m1] at h2
      exact h2
    · cases w with
      | nil => exact absurd rfl hne
      | cons c v =>
        have hcc := hwc c (by simp)
        have hcr := hcc
        simp only [inR, decide_eq_true_eq] at hcc
        obtain ⟨c, rfl⟩ := Int.eq_ofNat_of_zero_le hcc.1
        have hvc : calls s.2.1 v := fun x hx => hwc x (List.mem_cons_of_mem _ hx)
        have hco : c < s.2.1.toNat := by omega
        obtain ⟨p1, p2⟩ := nxN_in hv hw hop ha hcc.2
        obtain ⟨q1, q2⟩ := nxN_in hw hv hop.symm hb (by rw [← hop]; exact hcc.2)
        have hlen : k + 1 < (((c : Int)) :: v).length := by
          rcases Nat.lt_or_ge (k + 1) ((((c : Int)) :: v).length) with h | h
          · exact h
          · exact absurd ((dF_zero hv hw hop (k + 1) a b ha hb).1 d2 _ hwc h) hne
        rw [List.length_cons] at hlen
        have hsay := says_eq hv hw hop hd hco
        have htail : ans (toSp s) (nxN s a c : Nat) v ≠ ans (toSp t) (nxN t b c : Nat) v := fun h => hne (by
          show at2 s.2.2.2 (a : Int) ((c : Int)).toNat :: ans (toSp s) (at2 s.2.2.1 (a : Int) ((c : Int)).toNat) v = at2 t.2.2.2 (b : Int) ((c : Int)).toNat :: ans (toSp t) (at2 t.2.2.1 (b : Int) ((c : Int)).toNat) v
          rw [Int.toNat_natCast, ← p1, ← q1, hsay, h])
        rcases Nat.lt_or_ge (k + 1) v.length with hlv | hlv
        · refine Nat.le_of_lt (cd_short h4 ?_ hc)
          rw [List.length_cons, List.length_cons]; omega
        have hlv : v.length = k + 1 := by omega
        have hpos : dF s t (k + 1) (nxN s a c) (nxN t b c) ≠ 0 := fun h0 => htail ((dF_zero hv hw hop (k + 1) _ _ p2 q2).1 h0 v hvc (by omega))
        have hr := dF_range s t (k + 1) (nxN s a c) (nxN t b c)
        obtain ⟨m, f1, f2, f3⟩ := dF_born s t (k + 1) (nxN s a c) (nxN t b c) (by omega)
        have hm : m = k + 1 := by
          rcases Nat.lt_or_ge m (k + 1) with h | h
          · have := dF_hit (n := k + 1) hco (m := m) (a := a) (b := b) (by
              unfold hitB
              have e1 : 0 < dF s t m (nxN s a c) (nxN t b c) := by omega
              rw [decide_eq_true e1, decide_eq_true f2]; simp) (by omega)
            omega
          · omega
        have hDc : dF s t N (nxN s a c) (nxN t b c) = ((k + 1 : Nat) : Int) := by
          rw [dF_up (n := k + 1) (by omega) (by omega), f1, hm]
        have hdn : ¬ (c < g) := fun hlt => by
          have hg := g3 c hlt
          unfold dnB at hg
          rw [if_neg (by omega), decide_eq_false_iff_not] at hg
          exact hg (by rw [hDc]; omega)
        rcases Nat.lt_or_ge g c with h | h
        · exact Nat.le_of_lt (cd_first h4 (by rw [i2, hlv]) i1 (by omega) (by omega))
        · have : c = g := by omega
          subst this
          have := i4 v hvc htail
          rw [cd_cons, cd_cons, i2, hlv]
          omega

end
end Go.Proofs.Ytcgflignbhmoaaa
