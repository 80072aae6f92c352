/-
  Layer 1, pure: states that are the same, classes; the word of two states.
-/
import Derived.Test.YtcgflignbhmoaaaP4
import Derived.Test.YtcgflignbhmoaaaMb
namespace Go.Proofs.Ytcgflignbhmoaaa
open Go.RowKit

set_option linter.unusedVariables false
set_option linter.unusedSimpArgs false

/-- Two states are the same. -/
def sameB (s : Tup) (a b : Int) : Bool := (apartP (toSp s) (toSp s) (a, b)).isNone

theorem same_iff {s : Tup} (hv : (toSp s).ok = true) {a b : Int} (ha : inR s.1 a = true) (hb : inR s.1 b = true) : sameB s a b = true ↔ ∀ w, calls s.2.1 w → ans (toSp s) a w = ans (toSp s) b w := by
  unfold sameB
  cases h : apartP (toSp s) (toSp s) (a, b) with
  | none => exact ⟨fun _ w hw => apart_none hv hv rfl (f := (a, b)) ⟨ha, hb⟩ h hw, fun _ => rfl⟩
  | some own =>
    obtain ⟨h1, _, h3, _⟩ := apart_some hv hv rfl (f := (a, b)) ⟨ha, hb⟩ h
    exact ⟨fun h => (by simp at h), fun hh => absurd (hh own h1) h3⟩

theorem same_refl {s : Tup} (hv : (toSp s).ok = true) {a : Int} (ha : inR s.1 a = true) : sameB s a a = true := (same_iff hv ha ha).2 fun _ _ => rfl
theorem same_symm {s : Tup} (hv : (toSp s).ok = true) {a b : Int} (ha : inR s.1 a = true) (hb : inR s.1 b = true) (h : sameB s a b = true) : sameB s b a = true := (same_iff hv hb ha).2 fun w hw => ((same_iff hv ha hb).1 h w hw).symm
theorem same_trans {s : Tup} (hv : (toSp s).ok = true) {a b c : Int} (ha : inR s.1 a = true) (hb : inR s.1 b = true) (hc : inR s.1 c = true) (h : sameB s a b = true) (k : sameB s b c = true) : sameB s a c = true :=
  (same_iff hv ha hc).2 fun w hw => ((same_iff hv ha hb).1 h w hw).trans ((same_iff hv hb hc).1 k w hw)

theorem machine_same_eq {s : Tup} (hv : (toSp s).ok = true) {a b : Int} (ha : inR s.1 a = true) (hb : inR s.1 b = true) : spec_machine_same s a b = some (sameB s a b) := by
  unfold spec_machine_same
  by_cases e : a = b
  · subst e
    rw [if_pos (by simp), same_refl hv ha]
  · rw [if_neg (by simp [e]), apart_eq s s hv hv rfl (f := (a, b)) ⟨ha, hb⟩, Option.bind_some]
    unfold sameB
    cases apartP (toSp s) (toSp s) (a, b) <;> rfl

/-! ### Classes -/

/-- The least state that is the same. -/
def leastF (s : Tup) (i : Nat) : Nat := ((List.range i).find? fun (j : Nat) => sameB s j i).getD i

theorem leastF_spec {s : Tup} (hv : (toSp s).ok = true) {i : Nat} (hi : inR s.1 (i : Int) = true) : leastF s i ≤ i ∧ sameB s (leastF s i) i = true ∧ ∀ k : Nat, k < leastF s i → sameB s k i = false := by
  unfold leastF
  cases h : (List.range i).find? fun (j : Nat) => sameB s j i with
  | none =>
    rw [List.find?_eq_none] at h
    exact ⟨Nat.le_refl _, same_refl hv hi, fun k hk => by simpa using h k (List.mem_range.2 hk)⟩
  | some c =>
    have h1 := List.find?_some h
    have h2 := List.mem_range.1 (List.mem_of_find?_eq_some h)
    refine ⟨by simp; omega, h1, fun k hk => ?_⟩
    rw [List.find?_eq_some_iff_append] at h
    obtain ⟨_, l1, l2, he, hb⟩ := h
    have hk' : k < c := hk
    have hka : k ∈ l1 := by
      have hlen : l1.length = c := by
        have := congrArg (fun l => l[l1.length]?) he
        simp only [List.getElem?_append_right (Nat.le_refl _), Nat.sub_self, List.getElem?_cons_zero] at this
        rw [List.getElem?_eq_some_iff] at this
        obtain ⟨q, hq⟩ := this
        simpa using hq
      have := congrArg (fun l => l[k]?) he
      rw [List.getElem?_append_left (by omega), List.getElem?_range (by omega)] at this
      exact List.mem_of_getElem? this.symm
    simpa using hb k hka

theorem leastF_uniq {s : Tup} (hv : (toSp s).ok = true) {i c : Nat} (hi : inR s.1 (i : Int) = true) (h1 : sameB s c i = true) (h2 : ∀ k : Nat, k < c → sameB s k i = false) : c = leastF s i := by
  obtain ⟨l1, l2, l3⟩ := leastF_spec hv hi
  rcases Nat.lt_trichotomy c (leastF s i) with h | h | h
  · rw [l3 c h] at h1; cases h1
  · exact h
  · rw [h2 _ h] at l2; cases l2

theorem inR_le {n i c : Nat} {st : Int} (hi : inR st (i : Int) = true) (hc : c ≤ i) : inR st (c : Int) = true := by
  simp only [inR, decide_eq_true_eq] at *; omega

theorem class_loop {s : Tup} (hv : (toSp s).ok = true) {i : Nat} (hi : inR s.1 (i : Int) = true) (l0 : List Int) (hk : i < l0.length) : ∀ (d j : Nat), i - j = d → j ≤ leastF s i → whileN (spec_machine_classes_b2 s (l0, (i : Int))) (d + 1) (l0.set i (j : Int)) = some (l0.set i (leastF s i : Int)) := by
  obtain ⟨l1, l2, l3⟩ := leastF_spec hv hi
  have hi8 : (i : Int) < 8 := by
    have := (Sp.okE hv).2.1
    simp only [inR, decide_eq_true_eq] at hi
    have e : (toSp s).st = s.1 := rfl
    omega
  have step : ∀ j : Nat, j ≤ leastF s i → spec_machine_classes_b2 s (l0, (i : Int)) (l0.set i (j : Int)) = some (if sameB s j i = true then .done (l0.set i (j : Int)) else .next (l0.set i ((j + 1 : Nat) : Int))) := by
    intro j hj
    unfold spec_machine_classes_b2
    have hg : (l0.set i (j : Int)).getD i 0 = j := getD_of (by simp [hk])
    simp only [Int.toNat_natCast, hg]
    rw [ck_pos (by omega), ck_pos (by simp; omega), machine_same_eq hv (inR_le (n := 0) hi (by omega)) hi, Option.bind_some]
    cases hs : sameB s j i
    · simp only [Bool.not_false, if_true, Bool.false_eq_true, if_false]
      rw [ck_pos (by omega), ck_pos (by simp; omega), ck_pos (by rw [inK_i64]; omega), ck_pos (by omega), ck_pos (by simp; omega), List.set_set]
      rfl
    · simp
  intro d
  induction d with
  | zero =>
    intro j hd hj
    obtain rfl : j = leastF s i := by omega
    unfold whileN
    rw [step _ hj, if_pos l2]
  | succ d ih =>
    intro j hd hj
    unfold whileN
    rw [step j hj]
    by_cases hs : sameB s j i = true
    · rw [if_pos hs]
      have : j = leastF s i := leastF_uniq hv hi hs fun k hk => l3 k (by omega)
      rw [this]
    · rw [if_neg hs]
      simp only
      refine ih (j + 1) (by omega) ?_
      rcases Nat.lt_or_ge j (leastF s i) with h | h
      · exact h
      · have : j = leastF s i := by omega
        rw [this] at hs
        exact absurd l2 hs

/-- The classes. -/
def clsL (s : Tup) : List Int := (List.range s.1.toNat).map fun i => (leastF s i : Int)

theorem classes_eq {s : Tup} (hv : (toSp s).ok = true) : spec_machine_classes s = some (clsL s) := by
  have hm := Sp.okE hv
  have h1 : 1 ≤ s.1 := hm.1
  have h2 : s.1 ≤ 8 := hm.2.1
  unfold spec_machine_classes
  rw [ck_pos (by omega), ck_pos (by omega)]
  have key := whileO_iter (body := spec_machine_classes_b1 s) (fun (l : List Int) (i : Int) => (l, i)) s.1.toNat (fun k l => l.set k (leastF s k : Int)) id
    (fun k l => l.length = s.1.toNat ∧ (∀ i, i < k → l[i]? = some (leastF s i : Int)) ∧ ∀ i, k ≤ i → i < s.1.toNat → l[i]? = some 0) (s0 := List.replicate s.1.toNat 0)
    ⟨by simp, fun i hi => absurd hi (Nat.not_lt_zero i), fun i _ hi => by simp [hi]⟩ (fun k l hk hp => ?_) (fun l hp => ?_)
  · rw [key.1, Option.bind_some]
    obtain ⟨p1, p2, _⟩ := key.2
    unfold spec_machine_classes_k1 clsL
    congr 1
    refine List.ext_getElem? fun i => ?_
    by_cases hi : i < s.1.toNat
    · rw [id, p2 i hi]; simp [hi]
    · rw [id, List.getElem?_eq_none (by omega), List.getElem?_eq_none (by simp; omega)]
  · obtain ⟨p1, p2, p3⟩ := hp
    have hik : inR s.1 (k : Int) = true := by simp only [inR, decide_eq_true_eq]; omega
    refine ⟨?_, by simpa using p1, fun i hi => ?_, fun i hi hin => ?_⟩
    · unfold spec_machine_classes_b1
      simp only [List.length_replicate]
      rw [if_pos (by rw [decide_eq_true_eq]; omega)]
      have h0 : l.set k ((0 : Nat) : Int) = l := by
        refine List.ext_getElem? fun i => ?_
        rw [List.getElem?_set]
        by_cases e : k = i
        · subst e; rw [if_pos rfl, if_pos (by omega), p3 k (Nat.le_refl _) hk]; rfl
        · rw [if_neg e]
      have hl := class_loop hv hik l (by omega) k 0 (by omega) (Nat.zero_le _)
      rw [h0] at hl
      rw [whileO_of hl, Option.bind_some]
      unfold spec_machine_classes_k2
      rw [ck_pos (by rw [inK_i64]; simp only; omega)]
    · rw [List.getElem?_set]
      by_cases e : k = i
      · subst e; rw [if_pos rfl, if_pos (by omega)]
      · rw [if_neg e]; exact p2 i (by omega)
    · rw [List.getElem?_set, if_neg (by omega)]
      exact p3 i (by omega) hin
  · unfold spec_machine_classes_b1
    simp only [List.length_replicate]
    rw [if_neg (by rw [decide_eq_true_eq]; omega)]; rfl

theorem cls_at {s : Tup} {a : Int} (ha : inR s.1 a = true) : (clsL s).getD a.toNat 0 = (leastF s a.toNat : Int) := by
  simp only [inR, decide_eq_true_eq] at ha
  refine getD_of ?_
  unfold clsL
  have : a.toNat < s.1.toNat := by omega
  simp [this]

theorem cls_same {s : Tup} (hv : (toSp s).ok = true) {a b : Int} (ha : inR s.1 a = true) (hb : inR s.1 b = true) : sameB s a b = decide ((leastF s a.toNat : Int) = (leastF s b.toNat : Int)) := by
  have ha' := ha
  have hb' := hb
  simp only [inR, decide_eq_true_eq] at ha' hb'
  obtain ⟨i, rfl⟩ := Int.eq_ofNat_of_zero_le ha'.1
  obtain ⟨j, rfl⟩ := Int.eq_ofNat_of_zero_le hb'.1
  simp only [Int.toNat_natCast]
  obtain ⟨l1, l2, l3⟩ := leastF_spec hv ha
  obtain ⟨k1, k2, k3⟩ := leastF_spec hv hb
  have ra := inR_le (n := 0) ha l1
  have rb := inR_le (n := 0) hb k1
  cases h : sameB s i j
  · symm
    rw [decide_eq_false_iff_not]
    intro e
    rw [Int.ofNat_inj] at e
    rw [e] at l2 ra
    have := same_trans hv ha ra hb (same_symm hv ra ha l2) k2
    rw [this] at h; cases h
  · symm
    rw [decide_eq_true_eq, Int.ofNat_inj]
    refine leastF_uniq hv hb (same_trans hv ra ha hb l2 h) fun k hk => ?_
    have rk := inR_le (n := 0) ra (Nat.le_of_lt hk)
    cases hs : sameB s k j
    · rfl
    · have := same_trans hv rk hb ha hs (same_symm hv ha hb h)
      rw [l3 k hk] at this; cases this

theorem same_next {s : Tup} (hv : (toSp s).ok = true) {a b o : Int} (ha : inR s.1 a = true) (hb : inR s.1 b = true) (ho : inR s.2.1 o = true) (h : sameB s a b = true) :
    at2 s.2.2.2 a o.toNat = at2 s.2.2.2 b o.toNat ∧ sameB s (at2 s.2.2.1 a o.toNat) (at2 s.2.2.1 b o.toNat) = true := by
  have key := (same_iff hv ha hb).1 h
  refine ⟨?_, (same_iff hv (nx_in hv ha ho) (nx_in hv hb ho)).2 fun w hw => ?_⟩
  · have := key [o] (fun x hx => by simp at hx; subst hx; exact ho)
    simpa [ans, toSp] using this
  · have := key (o :: w) (fun x hx => by rcases List.mem_cons.1 hx with rfl | hx; exact ho; exact hw x hx)
    simp only [ans, List.cons.injEq] at this
    exact this.2

end Go.Proofs.Ytcgflignbhmoaaa
