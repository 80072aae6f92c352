/-
  Layer 1, pure: the least machine, and that it depends on behaviour alone.
-/
import Derived.Test.YtcgflignbhmoaaaP13
namespace Go.Proofs.Ytcgflignbhmoaaa
open Go.RowKit

set_option linter.unusedVariables false
set_option linter.unusedSectionVars false
set_option linter.unusedSimpArgs false
attribute [local irreducible] kL leastF waysL sameB

/-! ### Where a number stands in a list -/

def ixN : List Int → Int → Nat
  | [], _ => 0
  | a :: l, x => if x = a then 0 else ixN l x + 1

theorem ixN_get : ∀ {l : List Int} {x : Int}, x ∈ l → l[ixN l x]? = some x
  | [], x, h => by simp at h
  | a :: l, x, h => by
    unfold ixN
    by_cases e : x = a
    · rw [if_pos e]; simp [e]
    · rw [if_neg e]
      rcases List.mem_cons.1 h with h | h
      · exact absurd h e
      · simpa using ixN_get h

theorem ixN_lt {l : List Int} {x : Int} (h : x ∈ l) : ixN l x < l.length := lt_of_get (ixN_get h)

theorem ixN_before : ∀ {l : List Int} {x : Int} {k : Nat}, k < ixN l x → l[k]? ≠ some x
  | [], x, k, h => by simp [ixN] at h
  | a :: l, x, k, h => by
    unfold ixN at h
    by_cases e : x = a
    · rw [if_pos e] at h; omega
    · rw [if_neg e] at h
      cases k with
      | zero => simp; exact fun e' => e e'.symm
      | succ k => simpa using ixN_before (l := l) (x := x) (k := k) (by omega)

theorem nodup_get {l : List Int} (hd : l.Nodup) {i j : Nat} {x : Int} (hi : l[i]? = some x) (hj : l[j]? = some x) : i = j := by
  rw [List.getElem?_eq_some_iff] at hi hj
  obtain ⟨h1, h2⟩ := hi
  obtain ⟨h3, h4⟩ := hj
  have hp := hd
  unfold List.Nodup at hp
  rw [List.pairwise_iff_getElem] at hp
  rcases Nat.lt_trichotomy i j with h | h | h
  · exact absurd (h2.trans h4.symm) (hp i j h1 h3 h)
  · exact h
  · exact absurd (h4.trans h2.symm) (hp j i h3 h1 h)

theorem ixN_nd {l : List Int} (hd : l.Nodup) {i : Nat} {x : Int} (hi : l[i]? = some x) : ixN l x = i :=
  nodup_get hd (ixN_get (List.mem_of_getElem? hi)) hi

/-! ### The machine -/

def kp (s : Tup) : List Int := (kL s).map (·.1)
def lNx (s : Tup) : List (List Int) := (kp s).map fun q => (s.2.2.1.getD q.toNat []).map fun to => (ixN (kp s) (leastF s to.toNat) : Int)
def lSy (s : Tup) : List (List Int) := (kp s).map fun q => s.2.2.2.getD q.toNat []
def leastT (s : Tup) : Tup := (((kp s).length : Int), s.2.1, lNx s, lSy s)

theorem tab_ext {st op : Int} {p p' : Int → Bool} {A B : List (List Int)} (hA : tab st op p A = true) (hB : tab st op p' B = true) (h : ∀ (i o : Nat), (i : Int) < st → (o : Int) < op → at2 A i o = at2 B i o) : A = B := by
  obtain ⟨a1, a2⟩ := tab_row hA
  obtain ⟨b1, b2⟩ := tab_row hB
  refine List.ext_getElem? fun i => ?_
  by_cases hi : (i : Int) < st
  · obtain ⟨r, hr⟩ := get_of_lt (xs := A) (k := i) (by omega)
    obtain ⟨r', hr'⟩ := get_of_lt (xs := B) (k := i) (by omega)
    have l1 := (a2 i r hr).1
    have l2 := (b2 i r' hr').1
    rw [hr, hr']
    congr 1
    refine List.ext_getElem? fun o => ?_
    by_cases ho : (o : Int) < op
    · obtain ⟨x, hx⟩ := get_of_lt (xs := r) (k := o) (by omega)
      obtain ⟨y, hy⟩ := get_of_lt (xs := r') (k := o) (by omega)
      have := h i o hi ho
      simp only [at2, Int.toNat_natCast, hr, hr', Option.getD_some, hx, hy] at this
      rw [hx, hy, this]
    · rw [List.getElem?_eq_none (by omega), List.getElem?_eq_none (by omega)]
  · rw [List.getElem?_eq_none (by omega), List.getElem?_eq_none (by omega)]

section
variable {s : Tup} (hv : (toSp s).ok = true)
include hv

theorem leastF_idem {q : Int} (hq : inR s.1 q = true) : (leastF s (leastF s q.toNat : Int).toNat : Int) = (leastF s q.toNat : Int) := by
  obtain ⟨h1, h2⟩ := leastF_in hv hq
  rw [cls_same hv h1 hq, decide_eq_true_eq] at h2
  exact h2

theorem kp_nd : (kp s).Nodup := (kL_ki hv).nd

/-- A class that is kept: its word. -/
theorem kp_word {i : Nat} {q : Int} (hi : (kp s)[i]? = some q) : ∃ w, ((kL s).map (·.2))[i]? = some w ∧ calls s.2.1 w ∧ q = (leastF s (qAt s 0 w).toNat : Int) := by
  unfold kp at hi
  rw [List.getElem?_map] at hi
  cases h : (kL s)[i]? with
  | none => rw [h] at hi; cases hi
  | some y =>
    rw [h, Option.map_some] at hi
    have hi' : y.1 = q := Option.some.inj hi
    obtain ⟨h1, h2, _⟩ := k_mem hv (List.mem_of_getElem? h)
    exact ⟨y.2, by rw [List.getElem?_map, h, Option.map_some], h1, hi'.symm.trans h2⟩

theorem word_kp {i : Nat} {w : List Int} (hi : ((kL s).map (·.2))[i]? = some w) : (kp s)[i]? = some (leastF s (qAt s 0 w).toNat : Int) := by
  rw [List.getElem?_map] at hi
  cases h : (kL s)[i]? with
  | none => rw [h] at hi; cases hi
  | some y =>
    rw [h, Option.map_some] at hi
    have hi' : y.2 = w := Option.some.inj hi
    obtain ⟨_, h2, _⟩ := k_mem hv (List.mem_of_getElem? h)
    unfold kp
    rw [List.getElem?_map, h, Option.map_some, h2, hi']

theorem kp_in {i : Nat} {q : Int} (hi : (kp s)[i]? = some q) : inR s.1 q = true ∧ (leastF s q.toNat : Int) = q := by
  obtain ⟨w, _, h2, h3⟩ := kp_word hv hi
  have hq := qAt_in hv w 0 h2 (zero_ok hv).1
  rw [h3]
  exact ⟨(leastF_in hv hq).1, leastF_idem hv hq⟩

/-- Where a call leads from a class. -/
theorem kp_next {i : Nat} {q o : Int} (hi : (kp s)[i]? = some q) (ho : inR s.2.1 o = true) {w : List Int} (hw : ((kL s).map (·.2))[i]? = some w) : (leastF s (at2 s.2.2.1 q o.toNat).toNat : Int) = (leastF s (qAt s 0 (w ++ [o])).toNat : Int) ∧ (leastF s (at2 s.2.2.1 q o.toNat).toNat : Int) ∈ kp s := by
  obtain ⟨w', h1, h2, h3⟩ := kp_word hv hi
  rw [hw] at h1
  have h1' := Option.some.inj h1
  subst h1'
  have hq := qAt_in hv w 0 h2 (zero_ok hv).1
  obtain ⟨g1, g2⟩ := leastF_in hv hq
  rw [← h3] at g1 g2
  obtain ⟨_, n2⟩ := same_next hv g1 hq ho g2
  have n3 := cls_same hv (nx_in hv g1 ho) (nx_in hv hq ho)
  rw [show sameB s (at2 (toSp s).nx q o.toNat) (at2 (toSp s).nx (qAt s 0 w) o.toNat) = true from n2] at n3
  have n2 := of_decide_eq_true n3.symm
  have e : (leastF s (at2 s.2.2.1 q o.toNat).toNat : Int) = (leastF s (qAt s 0 (w ++ [o])).toNat : Int) := by rw [qAt_snoc]; exact n2
  refine ⟨e, ?_⟩
  obtain ⟨y, hy, hy1⟩ := k_all hv (calls_snoc h2 ho)
  rw [e, ← hy1]
  exact List.mem_map.2 ⟨y, hy, rfl⟩

theorem kp_len : ((kp s).length : Int) ≤ s.1 ∧ (kp s).length ≤ (waysL s).length := by
  unfold kp
  rw [List.length_map]
  exact k_len hv

theorem kp_zero : (kp s)[0]? = some (leastF s 0 : Int) := by
  obtain ⟨y, hy, hy1⟩ := k_all hv (v := []) (fun x hx => by simp at hx)
  obtain ⟨i, hi⟩ := List.getElem?_of_mem hy
  obtain ⟨_, _, h3⟩ := k_mem hv hy
  have h4 := h3 [] (fun x hx => by simp at hx) hy1.symm
  rw [cd_nil] at h4
  have h0 : i = 0 := by
    rcases Nat.eq_zero_or_pos i with h | h
    · exact h
    obtain ⟨z, hz⟩ := get_of_lt (xs := kL s) (k := 0) (by have := lt_of_get hi; omega)
    have hp := (kL_ki hv).srt
    rw [List.pairwise_iff_getElem] at hp
    rw [List.getElem?_eq_some_iff] at hi hz
    obtain ⟨a1, a2⟩ := hi
    obtain ⟨b1, b2⟩ := hz
    have := hp 0 i b1 a1 h
    rw [a2, b2] at this
    omega
  subst h0
  unfold kp
  rw [List.getElem?_map, hi, Option.map_some, hy1]; rfl

theorem least_row {i : Nat} {q : Int} (hi : (kp s)[i]? = some q) : ∃ r r', s.2.2.1[q.toNat]? = some r ∧ s.2.2.2[q.toNat]? = some r' ∧ (r.length : Int) = s.2.1 ∧ (r'.length : Int) = s.2.1 ∧ (∀ x ∈ r, inR s.1 x = true) ∧ (∀ x ∈ r', ansB x = true) ∧ (lNx s)[i]? = some (r.map fun to => (ixN (kp s) (leastF s to.toNat) : Int)) ∧ (lSy s)[i]? = some r' := by
  have hm := Sp.okE hv
  have hq := (kp_in hv hi).1
  simp only [inR, decide_eq_true_eq] at hq
  obtain ⟨r, e1, e2, e3⟩ := row_at (q := q) hm.2.2.2.2.1 hq
  obtain ⟨r', e1', e2', e3'⟩ := row_at (q := q) hm.2.2.2.2.2 hq
  have f1 : s.2.2.1[q.toNat]? = some r := e1
  have f2 : s.2.2.2[q.toNat]? = some r' := e1'
  refine ⟨r, r', f1, f2, e2, e2', e3.1, e3'.1, ?_, ?_⟩
  · unfold lNx; rw [List.getElem?_map, hi, Option.map_some, getD_of f1]
  · unfold lSy; rw [List.getElem?_map, hi, Option.map_some, getD_of f2]

theorem least_at {i : Nat} {q o : Int} (hi : (kp s)[i]? = some q) (ho : inR s.2.1 o = true) : at2 (lNx s) i o.toNat = (ixN (kp s) (leastF s (at2 s.2.2.1 q o.toNat).toNat) : Int) ∧ at2 (lSy s) i o.toNat = at2 s.2.2.2 q o.toNat := by
  obtain ⟨r, r', h1, h2, h3, h4, _, _, h7, h8⟩ := least_row hv hi
  simp only [inR, decide_eq_true_eq] at ho
  obtain ⟨x, hx⟩ := get_of_lt (xs := r) (k := o.toNat) (by omega)
  refine ⟨?_, ?_⟩
  · simp [at2, h7, h1, hx]
  · simp [at2, h8, h2]

theorem least_tabs : tab ((kp s).length : Int) s.2.1 (inR ((kp s).length : Int)) (lNx s) = true ∧ tab ((kp s).length : Int) s.2.1 ansB (lSy s) = true := by
  have hm := Sp.okE hv
  have h1 : 1 ≤ s.1 := hm.1
  have h2 : s.1 ≤ 8 := hm.2.1
  have h3 : 1 ≤ s.2.1 := hm.2.2.1
  have h4 : s.2.1 ≤ 4 := hm.2.2.2.1
  have hl := kp_len hv
  have h0 := lt_of_get (kp_zero hv)
  have t1 : tab ((kp s).length : Int) s.2.1 (inR ((kp s).length : Int)) (lNx s) = true := by
    rw [tab_iff]
    refine ⟨by simp [lNx], fun r hr => ?_⟩
    obtain ⟨i, hi⟩ := List.getElem?_of_mem hr
    obtain ⟨q, hq⟩ := get_of_lt (xs := kp s) (k := i) (by have := lt_of_get hi; simpa [lNx] using this)
    obtain ⟨r0, r', g1, _, g3, _, g5, _, g7, _⟩ := least_row hv hq
    rw [g7] at hi
    injection hi with hi
    subst hi
    refine ⟨by rw [List.length_map]; exact g3, fun x hx => ?_⟩
    obtain ⟨to, hto, rfl⟩ := List.mem_map.1 hx
    obtain ⟨o, ho⟩ := List.getElem?_of_mem hto
    have hol := lt_of_get ho
    obtain ⟨w, hw, _, _⟩ := kp_word hv hq
    have ho' : inR s.2.1 (o : Int) = true := by simp only [inR, decide_eq_true_eq]; omega
    have hn := (kp_next hv hq ho' hw).2
    have e : at2 s.2.2.1 q (o : Int).toNat = to := by simp [at2, g1, ho]
    rw [e] at hn
    have := ixN_lt hn
    simp only [inR, decide_eq_true_eq]; omega
  have t2 : tab ((kp s).length : Int) s.2.1 ansB (lSy s) = true := by
    rw [tab_iff]
    refine ⟨by simp [lSy], fun r hr => ?_⟩
    obtain ⟨i, hi⟩ := List.getElem?_of_mem hr
    obtain ⟨q, hq⟩ := get_of_lt (xs := kp s) (k := i) (by have := lt_of_get hi; simpa [lSy] using this)
    obtain ⟨r0, r', _, _, _, g4, _, g6, _, g8⟩ := least_row hv hq
    rw [g8] at hi
    injection hi with hi
    subst hi
    exact ⟨g4, g6⟩
  exact ⟨t1, t2⟩

theorem leastT_ok : (toSp (leastT s)).ok = true := by
  have hm := Sp.okE hv
  have h2 : s.1 ≤ 8 := hm.2.1
  have h3 : 1 ≤ s.2.1 := hm.2.2.1
  have h4 : s.2.1 ≤ 4 := hm.2.2.2.1
  have hl := kp_len hv
  have h0 := lt_of_get (kp_zero hv)
  obtain ⟨t1, t2⟩ := least_tabs hv
  unfold Sp.ok toSp leastT
  simp only [Bool.and_eq_true, decide_eq_true_eq]
  exact ⟨⟨⟨⟨⟨by omega, by omega⟩, h3⟩, h4⟩, t1⟩, t2⟩

theorem least_ans : ∀ (w : List Int) (i : Nat) (q : Int), (kp s)[i]? = some q → calls s.2.1 w → ans (toSp (leastT s)) i w = ans (toSp s) q w
  | [], _, _, _, _ => by simp only [ans]
  | o :: w, i, q, hi, hc => by
    have ho := hc o (by simp)
    have hc' : calls s.2.1 w := fun x hx => hc x (by simp [hx])
    obtain ⟨h1, h2⟩ := least_at hv hi ho
    obtain ⟨w0, hw0, _, _⟩ := kp_word hv hi
    have hn := (kp_next hv hi ho hw0).2
    have hin := nx_in hv (kp_in hv hi).1 ho
    obtain ⟨g1, g2⟩ := leastF_in hv hin
    show at2 (lSy s) i o.toNat :: ans (toSp (leastT s)) (at2 (lNx s) i o.toNat) w = at2 s.2.2.2 q o.toNat :: ans (toSp s) (at2 s.2.2.1 q o.toNat) w
    rw [h1, h2, least_ans w _ _ (ixN_get hn) hc']
    congr 1
    exact (same_iff hv g1 hin).1 g2 w hc'

theorem least_alike : alikeP s (leastT s) := by
  refine ⟨by unfold leastT; rfl, fun u hu => ?_⟩
  have h1 := least_ans hv u 0 _ (kp_zero hv) hu
  obtain ⟨g1, g2⟩ := leastF_in hv (zero_ok hv).1
  have h2 := (same_iff hv g1 (zero_ok hv).1).1 g2 u hu
  exact h2.symm.trans h1.symm

/-- No two states of it are the same. -/
theorem least_cls {i : Nat} (hi : i < (kp s).length) : leastF (leastT s) i = i := by
  have hm := leastT_ok hv
  have hin : inR (leastT s).1 (i : Int) = true := by
    show inR ((kp s).length : Int) (i : Int) = true
    simp only [inR, decide_eq_true_eq]; omega
  refine (leastF_uniq hm hin (same_refl hm hin) fun k hk => ?_).symm
  cases h : sameB (leastT s) k i
  · rfl
  · have hk' : inR (leastT s).1 (k : Int) = true := inR_le (n := 0) hin (by omega)
    obtain ⟨p, hp⟩ := get_of_lt (xs := kp s) (k := k) (by omega)
    obtain ⟨q, hq⟩ := get_of_lt (xs := kp s) (k := i) hi
    obtain ⟨p1, p2⟩ := kp_in hv hp
    obtain ⟨q1, q2⟩ := kp_in hv hq
    have hs : sameB s p q = true := (same_iff hv p1 q1).2 fun w hw => by
      rw [← least_ans hv w k p hp hw, ← least_ans hv w i q hq hw]
      exact (same_iff hm hk' hin).1 h w hw
    rw [cls_same hv p1 q1, decide_eq_true_eq, p2, q2] at hs
    subst hs
    have := nodup_get (kp_nd hv) hp hq
    omega

end

theorem alikeP.symm {s t : Tup} (h : alikeP s t) : alikeP t s := ⟨h.1.symm, fun u hu => (h.2 u (by rw [h.1]; exact hu)).symm⟩
theorem alikeP.trans {s t r : Tup} (h : alikeP s t) (k : alikeP t r) : alikeP s r := ⟨h.1.trans k.1, fun u hu => (h.2 u hu).trans (k.2 u (by rw [← h.1]; exact hu))⟩

/-- Behaviour alone makes the least machine. -/
theorem leastT_eq {s t : Tup} (hv : (toSp s).ok = true) (hw : (toSp t).ok = true) (h : alikeP s t) : leastT s = leastT t := by
  have ek := k_alike hv hw h
  have el : (kp s).length = (kp t).length := by
    have := congrArg List.length ek
    simpa [kp] using this
  obtain ⟨s5, s6⟩ := least_tabs hv
  obtain ⟨t5, t6⟩ := least_tabs hw
  rw [← el, ← h.1] at t5 t6
  have key : ∀ (i o : Nat), (i : Int) < ((kp s).length : Int) → (o : Int) < s.2.1 → at2 (lNx s) i o = at2 (lNx t) i o ∧ at2 (lSy s) i o = at2 (lSy t) i o := by
    intro i o hi ho
    obtain ⟨p, hp⟩ := get_of_lt (xs := kp s) (k := i) (by omega)
    obtain ⟨q, hq⟩ := get_of_lt (xs := kp t) (k := i) (by omega)
    obtain ⟨w, w1, w2, w3⟩ := kp_word hv hp
    obtain ⟨w', w1', w2', w3'⟩ := kp_word hw hq
    have : w = w' := by
      rw [ek, w1'] at w1
      exact (Option.some.inj w1).symm
    subst this
    have ho1 : inR s.2.1 (o : Int) = true := by simp only [inR, decide_eq_true_eq]; omega
    have ho2 : inR t.2.1 (o : Int) = true := by rw [← h.1]; exact ho1
    obtain ⟨a1, a2⟩ := least_at hv hp ho1
    obtain ⟨b1, b2⟩ := least_at hw hq ho2
    rw [Int.toNat_natCast] at a1 a2 b1 b2
    obtain ⟨n1, n2⟩ := kp_next hv hp ho1 w1
    obtain ⟨m1, m2⟩ := kp_next hw hq ho2 w1'
    rw [Int.toNat_natCast] at n1 n2 m1 m2
    rw [a1, a2, b1, b2]
    constructor
    · have g := ixN_get n2
      obtain ⟨v, v1, v2, v3⟩ := kp_word hv g
      rw [n1] at v3
      have c1 := (cls_words hv (calls_snoc w2 ho1) v2).1 v3
      have v2' : calls t.2.1 v := by rw [← h.1]; exact v2
      have hc : calls t.2.1 (w ++ [(o : Int)]) := calls_snoc w2' ho2
      have c2 := (cls_words hw hc v2').2 fun u hu => by
        have hu' : calls s.2.1 u := by rw [h.1]; exact hu
        rw [← alike_after h (calls_snoc w2 ho1) hu', ← alike_after h v2 hu']
        exact c1 u hu'
      have := word_kp hw (i := ixN (kp s) (leastF s (at2 s.2.2.1 p o).toNat : Int)) (w := v) (by rw [← ek]; exact v1)
      rw [m1, c2]
      rw [ixN_nd (kp_nd hw) this]
    · have hqs := qAt_in hv w 0 w2 (zero_ok hv).1
      have hqt := qAt_in hw w 0 w2' (zero_ok hw).1
      obtain ⟨g1, g2⟩ := leastF_in hv hqs
      obtain ⟨k1, k2⟩ := leastF_in hw hqt
      rw [← w3] at g1 g2
      rw [← w3'] at k1 k2
      have e1 := (same_next hv g1 hqs ho1 g2).1
      have e2 := (same_next hw k1 hqt ho2 k2).1
      have hc1 : calls s.2.1 [(o : Int)] := fun x hx => by simp at hx; subst hx; exact ho1
      have e3 := alike_after h w2 hc1
      simp only [ans, List.cons.injEq, and_true] at e3
      rw [Int.toNat_natCast] at e1 e2 e3
      rw [e1, e2]
      exact e3
  unfold leastT
  rw [tab_ext s5 t5 fun i o hi ho => (key i o hi ho).1, tab_ext s6 t6 fun i o hi ho => (key i o hi ho).2, el, h.1]

theorem leastT_iff {s t : Tup} (hv : (toSp s).ok = true) (hw : (toSp t).ok = true) : leastT s = leastT t ↔ alikeP s t := by
  refine ⟨fun e => ?_, leastT_eq hv hw⟩
  have h1 := least_alike hv
  rw [e] at h1
  exact h1.trans (least_alike hw).symm

section
variable {s : Tup} (hv : (toSp s).ok = true)
include hv

theorem least_twice : leastT (leastT s) = leastT s := leastT_eq (leastT_ok hv) hv (least_alike hv).symm

/-- All its states are reached. -/
theorem least_reached : ((waysL (leastT s)).length : Int) = (leastT s).1 := by
  have hm := leastT_ok hv
  have h1 := ways_len hm
  have h2 := (kp_len hm).2
  have h3 : ((kp (leastT s)).length : Int) = (leastT s).1 := by
    have := congrArg (·.1) (least_twice hv)
    exact this
  omega

theorem least_clsL : clsL (leastT s) = (List.range (kp s).length).map fun (i : Nat) => (i : Int) := by
  unfold clsL
  have e : (leastT s).1.toNat = (kp s).length := by simp [leastT]
  rw [e]
  refine List.map_congr_left fun i hi => ?_
  rw [least_cls hv (List.mem_range.1 hi)]

end
end Go.Proofs.Ytcgflignbhmoaaa
