/-
  Layer 1, pure: the least machine, and that it depends on behaviour alone.
-/
import Derived.Test.YtcgflignbhmoaaaP13
namespace Go.Proofs.Ytcgflignbhmoaaa
open Go.RowKit

set_option linter.unusedVariables false
set_option linter.unusedSectionVars false
set_option linter.unusedSimpArgs false
attribute [local irreducible] kL leastF waysL sameB

/-! ### Where a number stands in a list -/

def ixN : List Int → Int → Nat
  | [], _ => 0
  | a :: l, x => if x = a then 0 else ixN l x + 1

theorem ixN_get : ∀ {l : List Int} {x : Int}, x ∈ l → l[ixN l x]? = some x
  | [], x, h => by simp at h
  | a :: l, x, h => by
    unfold ixN
    by_cases e : x = a
    · rw [if_pos e]; simp [e]
    · rw [if_neg e]
      rcases List.mem_cons.1 h with h | h
      · exact absurd h e
      · simpa using ixN_get h

theorem ixN_lt {l : List Int} {x : Int} (h : x ∈ l) : ixN l x < l.length := lt_of_get (ixN_get h)

theorem ixN_before : ∀ {l : List Int} {x : Int} {k : Nat}, k < ixN l x → l[k]? ≠ some x
  | [], x, k, h => by simp [ixN] at h
  | a :: l, x, k, h => by
    unfold ixN at h
    by_cases e : x = a
    · rw [if_pos e] at h; omega
    · rw [if_neg e] at h
      cases k with
      | zero => simp; exact fun e' => e e'.symm
      | succ k => simpa using ixN_before (l := l) (x := x) (k := k) (by omega)

theorem nodup_get {l : List Int} (hd : l.Nodup) {i j : Nat} {x : Int} (hi : l[i]? = some x) (hj : l[j]? = some x) : i = j := by
  rw [List.getElem?_eq_some_iff] at hi hj
  obtain ⟨h1, h2⟩ := hi
  obtain ⟨h3, h4⟩ := hj
  have hp := hd
  unfold List.Nodup at hp
  rw [List.pairwise_iff_getElem] at hp
  rcases Nat.lt_trichotomy i j with h | h | h
  · exact absurd (h2.trans h4.symm) (hp i j h1 h3 h)
  · exact h
  · exact absurd (h4.trans h2.symm) (hp j i h3 h1 h)

/-! ### The machine -/

def kp (s : Tup) : List Int := (kL s).map (·.1)
def lNx (s : Tup) : List (List Int) := (kp s).map fun q => (s.2.2.1.getD q.toNat []).map fun to => (ixN (kp s) (leastF s to.toNat) : Int)
def lSy (s : Tup) : List (List Int) := (kp s).map fun q => s.2.2.2.getD q.toNat []
def leastT (s : Tup) : Tup := (((kp s).length : Int), s.2.1, lNx s, lSy s)

section
variable {s : Tup} (hv : (toSp s).ok = true)
include hv

theorem leastF_idem {q : Int} (hq : inR s.1 q = true) : (leastF s (leastF s q.toNat : Int).toNat : Int) = (leastF s q.toNat : Int) := by
  obtain ⟨h1, h2⟩ := leastF_in hv hq
  rw [cls_same hv h1 hq, decide_eq_true_eq] at h2
  exact h2

theorem kp_nd : (kp s).Nodup := (kL_ki hv).nd

/-- A class that is kept: its word. -/
theorem kp_word {i : Nat} {q : Int} (hi : (kp s)[i]? = some q) : ∃ w, ((kL s).map (·.2))[i]? = some w ∧ calls s.2.1 w ∧ q = (leastF s (qAt s 0 w).toNat : Int) := by
  unfold kp at hi
  rw [List.getElem?_map] at hi
  cases h : (kL s)[i]? with
  | none => rw [h] at hi; cases hi
  | some y =>
    rw [h, Option.map_some] at hi
    have hi' : y.1 = q := Option.some.inj hi
    obtain ⟨h1, h2, _⟩ := k_mem hv (List.mem_of_getElem? h)
    exact ⟨y.2, by rw [List.getElem?_map, h, Option.map_some], h1, hi'.symm.trans h2⟩

theorem word_kp {i : Nat} {w : List Int} (hi : ((kL s).map (·.2))[i]? = some w) : (kp s)[i]? = some (leastF s (qAt s 0 w).toNat : Int) := by
  rw [List.getElem?_map] at hi
  cases h : (kL s)[i]? with
  | none => rw [h] at hi; cases hi
  | some y =>
    rw [h, Option.map_some] at hi
    have hi' : y.2 = w := Option.some.inj hi
    obtain ⟨_, h2, _⟩ := k_mem hv (List.mem_of_getElem? h)
    unfold kp
    rw [List.getElem?_map, h, Option.map_some, h2, hi']

theorem kp_in {i : Nat} {q : Int} (hi : (kp s)[i]? = some q) : inR s.1 q = true ∧ (leastF s q.toNat : Int) = q := by
  obtain ⟨w, _, h2, h3⟩ := kp_word hv hi
  have hq := qAt_in hv w 0 h2 (zero_ok hv).1
  rw [h3]
  exact ⟨(leastF_in hv hq).1, leastF_idem hv hq⟩

/-- Where a call leads from a class. -/
theorem kp_next {i : Nat} {q o : Int} (hi : (kp s)[i]? = some q) (ho : inR s.2.1 o = true) {w : List Int} (hw : ((kL s).map (·.2))[i]? = some w) : (leastF s (at2 s.2.2.1 q o.toNat).toNat : Int) = (leastF s (qAt s 0 (w ++ [o])).toNat : Int) ∧ (leastF s (at2 s.2.2.1 q o.toNat).toNat : Int) ∈ kp s := by
  obtain ⟨w', h1, h2, h3⟩ := kp_word hv hi
  rw [hw] at h1
  have h1' := Option.some.inj h1
  subst h1'
  have hq := qAt_in hv w 0 h2 (zero_ok hv).1
  obtain ⟨g1, g2⟩ := leastF_in hv hq
  rw [← h3] at g1 g2
  obtain ⟨_, n2⟩ := same_next hv g1 hq ho g2
  have n3 := cls_same hv (nx_in hv g1 ho) (nx_in hv hq ho)
  rw [show sameB s (at2 (toSp s).nx q o.toNat) (at2 (toSp s).nx (qAt s 0 w) o.toNat) = true from n2] at n3
  have n2 := of_decide_eq_true n3.symm
  have e : (leastF s (at2 s.2.2.1 q o.toNat).toNat : Int) = (leastF s (qAt s 0 (w ++ [o])).toNat : Int) := by rw [qAt_snoc]; exact n2
  refine ⟨e, ?_⟩
  obtain ⟨y, hy, hy1⟩ := k_all hv (calls_snoc h2 ho)
  rw [e, ← hy1]
  exact List.mem_map.2 ⟨y, hy, rfl⟩

theorem kp_len : ((kp s).length : Int) ≤ s.1 ∧ (kp s).length ≤ (waysL s).length := by
  unfold kp
  rw [List.length_map]
  exact k_len hv

theorem kp_zero : (kp s)[0]? = some (leastF s 0 : Int) := by
  obtain ⟨y, hy, hy1⟩ := k_all hv (v := []) (fun x hx => by simp at hx)
  obtain ⟨i, hi⟩ := List.getElem?_of_mem hy
  obtain ⟨_, _, h3⟩ := k_mem hv hy
  have h4 := h3 [] (fun x hx => by simp at hx) hy1.symm
  rw [cd_nil] at h4
  have h0 : i = 0 := by
    rcases Nat.eq_zero_or_pos i with h | h
    · exact h
    obtain ⟨z, hz⟩ := get_of_lt (xs := kL s) (k := 0) (by have := lt_of_get hi; omega)
    have hp := (kL_ki hv).srt
    rw [List.pairwise_iff_getElem] at hp
    rw [List.getElem?_eq_some_iff] at hi hz
    obtain ⟨a1, a2⟩ := hi
    obtain ⟨b1, b2⟩ := hz
    have := hp 0 i b1 a1 h
    rw [a2, b2] at this
    omega
  subst h0
  unfold kp
  rw [List.getElem?_map, hi, Option.map_some, hy1]; rfl

theorem least_row {i : Nat} {q : Int} (hi : (kp s)[i]? = some q) : ∃ r r', s.2.2.1[q.toNat]? = some r ∧ s.2.2.2[q.toNat]? = some r' ∧ (r.length : Int) = s.2.1 ∧ (r'.length : Int) = s.2.1 ∧ (∀ x ∈ r, inR s.1 x = true) ∧ (∀ x ∈ r', ansB x = true) ∧ (lNx s)[i]? = some (r.map fun to => (ixN (kp s) (leastF s to.toNat) : Int)) ∧ (lSy s)[i]? = some r' := by
  have hm := Sp.okE hv
  have hq := (kp_in hv hi).1
  simp only [inR, decide_eq_true_eq] at hq
  obtain ⟨r, e1, e2, e3⟩ := row_at (q := q) hm.2.2.2.2.1 hq
  obtain ⟨r', e1', e2', e3'⟩ := row_at (q := q) hm.2.2.2.2.2 hq
  have f1 : s.2.2.1[q.toNat]? = some r := e1
  have f2 : s.2.2.2[q.toNat]? = some r' := e1'
  refine ⟨r, r', f1, f2, e2, e2', e3.1, e3'.1, ?_, ?_⟩
  · unfold lNx; rw [List.getElem?_map, hi, Option.map_some, getD_of f1]
  · unfold lSy; rw [List.getElem?_map, hi, Option.map_some, getD_of f2]

theorem least_tabs : tab ((kp s).length : Int) s.2.1 (inR ((kp s).length : Int)) (lNx s) = true ∧ tab ((kp s).length : Int) s.2.1 ansB (lSy s) = true := by
  have hm := Sp.okE hv
  have h1 : 1 ≤ s.1 := hm.1
  have h2 : s.1 ≤ 8 := hm.2.1
  have h3 : 1 ≤ s.2.1 := hm.2.2.1
  have h4 : s.2.1 ≤ 4 := hm.2.2.2.1
  have hl := kp_len hv
  have h0 := lt_of_get (kp_zero hv)
  have t1 : tab ((kp s).length : Int) s.2.1 (inR ((kp s).length : Int)) (lNx s) = true := by
    rw [tab_iff]
    refine ⟨by simp [lNx], fun r hr => ?_⟩
    obtain ⟨i, hi⟩ := List.getElem?_of_mem hr
    obtain ⟨q, hq⟩ := get_of_lt (xs := kp s) (k := i) (by have := lt_of_get hi; simpa [lNx] using this)
    obtain ⟨r0, r', g1, _, g3, _, g5, _, g7, _⟩ := least_row hv hq
    rw [g7] at hi
    injection hi with hi
    subst hi
    refine ⟨by rw [List.length_map]; exact g3, fun x hx => ?_⟩
    obtain ⟨to, hto, rfl⟩ := List.mem_map.1 hx
    obtain ⟨o, ho⟩ := List.getElem?_of_mem hto
    have hol := lt_of_get ho
    obtain ⟨w, hw, _, _⟩ := kp_word hv hq
    have ho' : inR s.2.1 (o : Int) = true := by simp only [inR, decide_eq_true_eq]; omega
    have hn := (kp_next hv hq ho' hw).2
    have e : at2 s.2.2.1 q (o : Int).toNat = to := by simp [at2, g1, ho]
    rw [e] at hn
    have := ixN_lt hn
    simp only [inR, decide_eq_true_eq]; omega
  have t2 : tab ((kp s).length : Int) s.2.1 ansB (lSy s) = true := by
    rw [tab_iff]
    refine ⟨by simp [lSy], fun r hr => ?_⟩
    obtain ⟨i, hi⟩ := List.getElem?_of_mem hr
    obtain ⟨q, hq⟩ := get_of_lt (xs := kp s) (k := i) (by have := lt_of_get hi; simpa [lSy] using this)
    obtain ⟨r0, r', _, _, _, g4, _, g6, _, g8⟩ := least_row hv hq
    rw [g8] at hi
    injection hi with hi
    subst hi
    exact ⟨g4, g6⟩
  exact ⟨t1, t2⟩

theorem leastT_ok : (toSp (leastT s)).ok = true := by
  have hm := Sp.okE hv
  have h2 : s.1 ≤ 8 := hm.2.1
  have h3 : 1 ≤ s.2.1 := hm.2.2.1
  have h4 : s.2.1 ≤ 4 := hm.2.2.2.1
  have hl := kp_len hv
  have h0 := lt_of_get (kp_zero hv)
  obtain ⟨t1, t2⟩ := least_tabs hv
  unfold Sp.ok toSp leastT
  simp only [Bool.and_eq_true, decide_eq_true_eq]
  exact ⟨⟨⟨⟨⟨by omega, by omega⟩, h3⟩, h4⟩, t1⟩, t2⟩

end

theorem alikeP.symm {s t : Tup} (h : alikeP s t) : alikeP t s := ⟨h.1.symm, fun u hu => (h.2 u (by rw [h.1]; exact hu)).symm⟩
theorem alikeP.trans {s t r : Tup} (h : alikeP s t) (k : alikeP t r) : alikeP s r := ⟨h.1.trans k.1, fun u hu => (h.2 u hu).trans (k.2 u (by rw [← h.1]; exact hu))⟩

section
variable {s : Tup} (hv : (toSp s).ok = true)
include hv

end
end Go.Proofs.Ytcgflignbhmoaaa
