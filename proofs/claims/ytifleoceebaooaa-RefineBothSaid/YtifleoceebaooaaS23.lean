/-
  Layer 5, pure: two systems together; the program's list of their steps, sorted and each once, is the list of all steps there could be that are.
-/
import Derived.Test.YtifleoceebaooaaS21
namespace Go.Proofs.Ytifleoceebaooaa

set_option linter.unusedVariables false
set_option linter.unusedSimpArgs false
set_option linter.unusedSectionVars false
set_option maxRecDepth 100000
set_option maxHeartbeats 1000000

/-! ### Loops that append -/

theorem flatm_len {α β : Type} {f : α → List β} {c : Nat} : ∀ (l : List α), (∀ x ∈ l, (f x).length ≤ c) → (l.flatMap f).length ≤ c * l.length
  | [], _ => by simp
  | x :: l, h => by
    have := flatm_len l fun y hy => h y (by simp [hy])
    have := h x (by simp)
    rw [List.flatMap_cons, List.length_append, List.length_cons, Nat.mul_add]
    omega

theorem app_loop {α β : Type} (xs : List α) (f : α → List β) (c : Nat) (hc : ∀ x ∈ xs, (f x).length ≤ c) (a0 : List β) {body : List β × Int → Option (Step (List β × Int) (List β))}
    (h : ∀ (k : Nat) (x : α) (a : List β), xs[k]? = some x → a.length ≤ a0.length + c * xs.length → body (a, (k : Int)) = some (.next (a ++ f x, (k : Int) + 1)))
    (hd : ∀ a : List β, body (a, (xs.length : Int)) = some (.done a)) : whileO body (a0, 0) = some (a0 ++ xs.flatMap f) := by
  obtain ⟨r, e, hr⟩ := scan2 (R := List β) xs (fun k a => a = a0 ++ (xs.take k).flatMap f) (fun r => r = a0 ++ xs.flatMap f) (body := body) (s0 := a0) (by simp)
    (fun k x a hk hI => by
      refine .inl ⟨a ++ f x, h k x a hk ?_, ?_⟩
      · rw [hI, List.length_append]
        have := flatm_len (f := f) (c := c) (xs.take k) fun y hy => hc y (List.mem_of_mem_take hy)
        have hle : c * (xs.take k).length ≤ c * xs.length := Nat.mul_le_mul_left c (List.length_take_le' ..)
        omega
      · rw [hI, take_one hk, List.flatMap_append, List.append_assoc]; simp)
    (fun a hI => ⟨a, hd a, by rw [hI, List.take_length]⟩)
  rw [e, hr]

/-! ### Order -/

def ltP (x y : Stp) : Prop := x.1 < y.1 ∨ x.1 = y.1 ∧ (x.2.1 < y.2.1 ∨ x.2.1 = y.2.1 ∧ x.2.2 < y.2.2)

theorem ltP_irr {x : Stp} (h : ltP x x) : False := by unfold ltP at h; omega
theorem ltP_asym {x y : Stp} (h : ltP x y) (k : ltP y x) : False := by unfold ltP at h k; omega
theorem stp_ext {x y : Stp} (h1 : x.1 = y.1) (h2 : x.2.1 = y.2.1) (h3 : x.2.2 = y.2.2) : x = y := Prod.ext h1 (Prod.ext h2 h3)
theorem ltP_tri {x y : Stp} (h : ¬ ltP x y) (k : ¬ ltP y x) : x = y := by
  unfold ltP at h k
  exact stp_ext (by omega) (by omega) (by omega)

theorem asc_one : ∀ (l m : List Stp), l.Pairwise ltP → m.Pairwise ltP → (∀ z, z ∈ l ↔ z ∈ m) → l = m
  | [], [], _, _, _ => rfl
  | [], y :: m, _, _, h => by have := (h y).2 (by simp); simp at this
  | x :: l, [], _, _, h => by have := (h x).1 (by simp); simp at this
  | x :: l, y :: m, hl, hm, h => by
    rw [List.pairwise_cons] at hl hm
    have hxy : x = y := by
      have h1 := (h x).1 (by simp)
      have h2 := (h y).2 (by simp)
      rw [List.mem_cons] at h1 h2
      rcases h1 with h1 | h1
      · exact h1
      rcases h2 with h2 | h2
      · exact h2.symm
      exact (ltP_asym (hm.1 x h1) (hl.1 y h2)).elim
    subst hxy
    rw [asc_one l m hl.2 hm.2 fun z => by
      constructor
      · intro hz
        have := (h z).1 (by simp [hz])
        rw [List.mem_cons] at this
        rcases this with rfl | this
        · exact (ltP_irr (hl.1 z hz)).elim
        · exact this
      · intro hz
        have := (h z).2 (by simp [hz])
        rw [List.mem_cons] at this
        rcases this with rfl | this
        · exact (ltP_irr (hm.1 z hz)).elim
        · exact this]

/-! ### Each once -/

/-- Of the first m elements those that do not follow one that is the same. -/
def kp (s : List Stp) : Nat → List Stp
  | 0 => []
  | m + 1 => kp s m ++ (match s[m]? with | none => [] | some x => if m ≠ 0 ∧ s[m - 1]? = some x then [] else [x])

theorem kp_keep {s : List Stp} {m : Nat} {x : Stp} (hx : s[m]? = some x) (h : m = 0 ∨ s[m - 1]? ≠ some x) : kp s (m + 1) = kp s m ++ [x] := by
  show kp s m ++ _ = _
  rw [hx]
  simp only
  rw [if_neg (by rintro ⟨h1, h2⟩; rcases h with h | h; exact h1 h; exact h h2)]

theorem kp_drop {s : List Stp} {m : Nat} {x : Stp} (hx : s[m]? = some x) (h0 : m ≠ 0) (h : s[m - 1]? = some x) : kp s (m + 1) = kp s m := by
  show kp s m ++ _ = _
  rw [hx]
  simp only
  rw [if_pos ⟨h0, h⟩, List.append_nil]

/-- In a sorted list. -/
theorem kp_asc {s : List Stp} (hs : s.Pairwise fun x y => ¬ ltP y x) : ∀ m, m ≤ s.length → (kp s m).Pairwise ltP ∧ ∀ z, z ∈ kp s m ↔ z ∈ s.take m
  | 0, _ => ⟨List.Pairwise.nil, by simp [kp]⟩
  | m + 1, hm => by
    obtain ⟨h1, h2⟩ := kp_asc hs m (by omega)
    have hx : s[m]? = some s[m] := List.getElem?_eq_getElem (by omega)
    have hpw := List.pairwise_iff_getElem.1 hs
    by_cases hk : m = 0 ∨ s[m - 1]? ≠ some s[m]
    · rw [kp_keep hx hk, take_one hx]
      refine ⟨List.pairwise_append.2 ⟨h1, List.pairwise_singleton .., fun z hz y hy => ?_⟩, fun z => by rw [List.mem_append, List.mem_append, h2]⟩
      rw [List.mem_singleton] at hy
      subst hy
      rw [h2] at hz
      obtain ⟨i, hi, rfl⟩ := List.mem_iff_getElem.1 hz
      rw [List.length_take] at hi
      rw [List.getElem_take]
      have a1 := hpw i m (by omega) (by omega) (by omega)
      refine Classical.byContradiction fun hn => ?_
      have heq := ltP_tri hn a1
      have hm1 : m - 1 < s.length := by omega
      have hne : ¬ s[m - 1] = s[m] := fun e => by
        rcases hk with hk | hk
        · omega
        · exact hk (by rw [List.getElem?_eq_getElem hm1, e])
      by_cases him : i = m - 1
      · subst him; exact hne heq
      · have a2 := hpw i (m - 1) (by omega) (by omega) (by omega)
        have a3 := hpw (m - 1) m (by omega) (by omega) (by omega)
        rw [heq] at a2
        exact hne (ltP_tri a2 a3)
    · have hk' : m ≠ 0 ∧ s[m - 1]? = some s[m] := ⟨fun h => hk (.inl h), Classical.byContradiction fun h => hk (.inr h)⟩
      rw [kp_drop hx hk'.1 hk'.2, take_one hx]
      refine ⟨h1, fun z => ?_⟩
      rw [h2, List.mem_append, List.mem_singleton]
      constructor
      · exact .inl
      · rintro (h | rfl)
        · exact h
        · have hm1 : m - 1 < s.length := by omega
          have e : s[m - 1] = s[m] := by
            have := hk'.2
            rw [List.getElem?_eq_getElem hm1] at this
            exact Option.some.inj this
          rw [← e]
          exact List.mem_iff_getElem.2 ⟨m - 1, by rw [List.length_take]; omega, by rw [List.getElem_take]⟩

theorem compact_tail {l : List Stp} {i : Nat} (hi : i < l.length) (hl : l.length ≤ 1000000) {q : List Stp} (h : l.take i = q) : slices_Compact_k3 (l, (i : Int)) = some (.done (.inl q)) := by
  unfold slices_Compact_k3
  simp only [Int.toNat_natCast]
  have hz : ((l.length : Int) - (i : Int)).toNat = l.length - i := by omega
  rw [hz, ck_pos (by omega), ck_pos (by omega), ck_pos (by omega), ck_pos (by omega), ck_pos (by omega), ck_pos (by simp; omega), List.append_assoc, List.take_append_of_le_length (by rw [List.length_take]; omega), List.take_take, Nat.min_self, h]

section
variable {s : List Stp} (hl : s.length ≤ 1000000) (hk : ∀ z ∈ s, InK .i64 z.1 ∧ InK .i64 z.2.1 ∧ InK .i64 z.2.2)
include hl hk

theorem compact_in {k : Nat} (hk1 : k < s.length) (h0 : k ≠ 0) (heq : s[k - 1]? = s[k]?) (hkp : kp s k = s.take k) :
    ∃ l i, whileO (slices_Compact_b2 s (k : Int)) (s, (k : Int), 1) = some (l, ((i : Nat) : Int)) ∧ l.length = s.length ∧ i < s.length ∧ l.take i = kp s s.length := by
  have hx : s[k]? = some s[k] := List.getElem?_eq_getElem hk1
  obtain ⟨r, e, l, i, rfl, h1, h2, h3⟩ := whileO_inv (S := List Stp × Int × Int) (R := List Stp × Int) (body := slices_Compact_b2 s (k : Int))
    (fun st => ∃ (l : List Stp) (i j : Nat), st = (l, (i : Int), (j : Int)) ∧ l.length = s.length ∧ 1 ≤ j ∧ k + j ≤ s.length ∧ i < k + j ∧ l.take i = kp s (k + j) ∧ l.drop (k + j - 1) = s.drop (k + j - 1))
    (fun st => s.length - st.2.2.toNat)
    (fun r => ∃ (l : List Stp) (i : Nat), r = (l, (i : Int)) ∧ l.length = s.length ∧ i < s.length ∧ l.take i = kp s s.length)
    (by
      rintro st ⟨l, i, j, rfl, hll, hj, hkj, hi, ht, hdr⟩
      have hn : (((s.length : Int) - (k : Int)).toNat : Int) = (s.length : Int) - k := by omega
      by_cases hlt : k + j < s.length
      · have get : ∀ q, k + j - 1 ≤ q → l[q]? = s[q]? := fun q hq => by
          have : (l.drop (k + j - 1))[q - (k + j - 1)]? = (s.drop (k + j - 1))[q - (k + j - 1)]? := by rw [hdr]
          rw [List.getElem?_drop, List.getElem?_drop, show k + j - 1 + (q - (k + j - 1)) = q by omega] at this
          exact this
        have hy : s[k + j]? = some s[k + j] := List.getElem?_eq_getElem hlt
        have hp : s[k + j - 1]? = some (s[k + j - 1]'(by omega)) := List.getElem?_eq_getElem (by omega)
        have g1 : l.getD (k + j) (0, 0, 0) = s[k + j] := getD_of (by rw [get _ (by omega)]; exact hy)
        have e2 : ((j : Int) - 1).toNat = j - 1 := by omega
        have g2 : l.getD (k + (j - 1)) (0, 0, 0) = s[k + j - 1]'(by omega) := getD_of (by rw [show k + (j - 1) = k + j - 1 by omega, get _ (by omega)]; exact hp)
        have k1 := hk _ (List.mem_of_getElem? hy)
        have k2 := hk _ (List.mem_of_getElem? hp)
        have ki : InK .i64 ((i : Int) + 1) := by rw [inK_i64]; omega
        have kj : InK .i64 ((j : Int) + 1) := by rw [inK_i64]; omega
        have km : InK .i64 ((j : Int) - 1) := by rw [inK_i64]; omega
        have dr : l.drop (k + (j + 1) - 1) = s.drop (k + (j + 1) - 1) := by
          have := congrArg (List.drop 1) hdr
          rw [List.drop_drop, List.drop_drop, show k + j - 1 + 1 = k + (j + 1) - 1 by omega] at this
          exact this
        refine .inl ?_
        by_cases hq : s[k + j] = s[k + j - 1]'(by omega)
        · refine ⟨(l, (i : Int), ((j + 1 : Nat) : Int)), ?_, ⟨l, i, j + 1, rfl, hll, by omega, by omega, by omega, ?_, dr⟩, by simp only; omega⟩
          · unfold slices_Compact_b2
            simp only [Int.toNat_natCast, e2, g1, g2, hn]
            rw [if_pos (by rw [decide_eq_true_eq]; omega), ck_pos (by omega), ck_pos (by omega), ck_pos (by omega), ck_pos km, ck_pos (by omega), ck_pos (by omega), ck_pos (by omega), ck_pos k1.1, ck_pos k1.2.1, ck_pos k1.2.2, ck_pos k2.1, ck_pos k2.2.1, ck_pos k2.2.2, if_neg (by simp [hq]), ck_pos kj]
            rfl
          · rw [ht, show k + (j + 1) = (k + j) + 1 by omega, kp_drop hy (by omega) (by rw [hp, hq])]
        · refine ⟨(l.set i s[k + j], ((i + 1 : Nat) : Int), ((j + 1 : Nat) : Int)), ?_, ⟨l.set i s[k + j], i + 1, j + 1, rfl, by rw [List.length_set, hll], by omega, by omega, by omega, ?_, ?_⟩, by simp only; omega⟩
          · unfold slices_Compact_b2
            simp only [Int.toNat_natCast, e2, g1, g2, hn]
            rw [if_pos (by rw [decide_eq_true_eq]; omega), ck_pos (by omega), ck_pos (by omega), ck_pos (by omega), ck_pos km, ck_pos (by omega), ck_pos (by omega), ck_pos (by omega), ck_pos k1.1, ck_pos k1.2.1, ck_pos k1.2.2, ck_pos k2.1, ck_pos k2.2.1, ck_pos k2.2.2, if_pos (by simp [hq]), ck_pos (by omega), ck_pos (by omega), ck_pos (by omega), ck_pos (by omega), ck_pos (by omega), ck_pos ki, ck_pos kj]
            rfl
          · have hset : (l.set i s[k + j])[i]? = some s[k + j] := by rw [List.getElem?_set, if_pos rfl, if_pos (by omega)]
            rw [take_one hset, List.take_set_of_le (Nat.le_refl i), ht, show k + (j + 1) = (k + j) + 1 by omega, kp_keep hy (.inr (by rw [hp]; intro e; exact hq (Option.some.inj e).symm))]
          · rw [List.drop_set_of_lt (by omega), dr]
      · refine .inr ⟨(l, (i : Int)), ?_, l, i, rfl, hll, by omega, by rw [ht, show k + j = s.length by omega]⟩
        unfold slices_Compact_b2
        simp only [hn]
        rw [if_neg (by rw [decide_eq_true_eq]; omega)])
    (s, (k : Int), 1) ⟨s, k, 1, rfl, rfl, Nat.le_refl _, by omega, by omega, by rw [kp_drop hx h0 (by rw [heq, hx]), hkp], rfl⟩
  exact ⟨l, i, e, h1, h2, h3⟩

theorem compact_eq : slices_Compact s = some (kp s s.length) := by
  unfold slices_Compact
  by_cases h2 : s.length < 2
  · rw [if_pos (by rw [decide_eq_true_eq]; omega)]
    congr 1
    match s, h2 with
    | [], _ => rfl
    | [x], _ => rfl
  rw [if_neg (by rw [decide_eq_true_eq]; omega)]
  obtain ⟨r, e, hr⟩ := whileO_inv (S := Int) (R := Sum (List Stp) Unit) (body := slices_Compact_b1 s) (fun st => ∃ k : Nat, st = (k : Int) ∧ 1 ≤ k ∧ k ≤ s.length ∧ kp s k = s.take k) (fun st => s.length - st.toNat)
    (fun r => r = .inl (kp s s.length) ∨ (r = .inr () ∧ kp s s.length = s))
    (by
      rintro st ⟨k, rfl, h1, hkl, hkp⟩
      by_cases hlt : k < s.length
      · have hy : s[k]? = some s[k] := List.getElem?_eq_getElem hlt
        have hp : s[k - 1]? = some (s[k - 1]'(by omega)) := List.getElem?_eq_getElem (by omega)
        have g1 : s.getD k (0, 0, 0) = s[k] := getD_of hy
        have e2 : ((k : Int) - 1).toNat = k - 1 := by omega
        have g2 : s.getD (k - 1) (0, 0, 0) = s[k - 1]'(by omega) := getD_of hp
        have k1 := hk _ (List.mem_of_getElem? hy)
        have k2 := hk _ (List.mem_of_getElem? hp)
        have kj : InK .i64 ((k : Int) + 1) := by rw [inK_i64]; omega
        have km : InK .i64 ((k : Int) - 1) := by rw [inK_i64]; omega
        by_cases hq : s[k] = s[k - 1]'(by omega)
        · refine .inr ⟨.inl (kp s s.length), ?_, .inl rfl⟩
          obtain ⟨l, i, e3, f1, f2, f3⟩ := compact_in hl hk hlt (by omega) (by rw [hp, hy, hq]) hkp
          unfold slices_Compact_b1
          simp only [Int.toNat_natCast, e2, g1, g2]
          rw [if_pos (by rw [decide_eq_true_eq]; omega), ck_pos (by omega), ck_pos (by omega), ck_pos km, ck_pos (by omega), ck_pos (by omega), ck_pos k1.1, ck_pos k1.2.1, ck_pos k1.2.2, ck_pos k2.1, ck_pos k2.2.1, ck_pos k2.2.2, if_pos (by simp [hq]), ck_pos (by omega), ck_pos (by omega), e3, Option.bind_some]
          exact compact_tail (by omega) (by omega) f3
        · refine .inl ⟨((k + 1 : Nat) : Int), ?_, ⟨k + 1, rfl, by omega, by omega, ?_⟩, by omega⟩
          · unfold slices_Compact_b1
            simp only [Int.toNat_natCast, e2, g1, g2]
            rw [if_pos (by rw [decide_eq_true_eq]; omega), ck_pos (by omega), ck_pos (by omega), ck_pos km, ck_pos (by omega), ck_pos (by omega), ck_pos k1.1, ck_pos k1.2.1, ck_pos k1.2.2, ck_pos k2.1, ck_pos k2.2.1, ck_pos k2.2.2, if_neg (by simp [hq])]
            unfold slices_Compact_k2
            rw [ck_pos kj]
            rfl
          · rw [kp_keep hy (.inr (by rw [hp]; intro e; exact hq (Option.some.inj e).symm)), take_one hy, hkp]
      · have hks : k = s.length := by omega
        subst hks
        refine .inr ⟨.inr (), ?_, .inr ⟨rfl, by rw [hkp, List.take_length]⟩⟩
        unfold slices_Compact_b1
        rw [if_neg (by simp)])
    1 ⟨1, rfl, Nat.le_refl _, by omega, by
      have hx : s[0]? = some (s[0]'(by omega)) := List.getElem?_eq_getElem (by omega)
      rw [show (1 : Nat) = 0 + 1 from rfl, kp_keep hx (.inl rfl), take_one hx]; rfl⟩
  rw [e, Option.bind_some]
  rcases hr with rfl | ⟨rfl, h⟩
  · rfl
  · simp only
    unfold slices_Compact_k1
    rw [h]

end

end Go.Proofs.Ytifleoceebaooaa
