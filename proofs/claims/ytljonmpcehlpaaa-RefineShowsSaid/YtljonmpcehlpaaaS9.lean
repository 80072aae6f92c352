/-
  Layer 5, pure: traces and relations: what refines keeps traces; of a plain one this is all; the first trace that tells is short.
-/
import Derived.Test.YtljonmpcehlpaaaS5
import Derived.Test.YtljonmpcehlpaaaS6
namespace Go.Proofs.Ytljonmpcehlpaaa
open Go.RowKit

set_option linter.unusedVariables false
set_option linter.unusedSectionVars false
set_option linter.unusedSimpArgs false

/-- Numbers below n, none twice: no more than n. -/
theorem nodup_lt : ∀ (n : Nat) (l : List Nat), l.Nodup → (∀ x ∈ l, x < n) → l.length ≤ n
  | 0, l, _, h => by
    cases l with
    | nil => simp
    | cons x r => exact absurd (h x (by simp)) (by omega)
  | n + 1, l, hd, h => by
    by_cases hn : n ∈ l
    · have h1 := nodup_lt n (l.erase n) (hd.erase n) (fun x hx => by
        have := h x (List.mem_of_mem_erase hx)
        have hne : x ≠ n := fun e => by subst e; exact (List.Nodup.not_mem_erase hd) hx
        omega)
      rw [List.length_erase_of_mem hn] at h1
      omega
    · have h1 := nodup_lt n l hd (fun x hx => by
        have := h x hx
        have hne : x ≠ n := fun e => by subst e; exact hn hx
        omega)
      omega

def folM (s : Sys) (m : Nat) (w : List Int) : Nat := w.foldl (fun m l => coM s m l) m
theorem folM_beh (s : Sys) (v w : List Int) : behM s (v ++ w) = folM s (behM s v) w := List.foldl_append ..

theorem fold_orbit (f : Nat → Nat) (x : Nat) : ∀ (L : List Nat) (a : Nat), (L.foldl (fun a i => a ||| f i) a).testBit x = true ↔ a.testBit x = true ∨ ∃ i ∈ L, (f i).testBit x = true
  | [], a => by simp
  | i :: L, a => by
    rw [List.foldl_cons, fold_orbit f x L, Nat.testBit_or, Bool.or_eq_true]
    constructor
    · rintro ((h | h) | ⟨j, h1, h2⟩)
      · exact .inl h
      · exact .inr ⟨i, by simp, h⟩
      · exact .inr ⟨j, List.mem_cons_of_mem _ h1, h2⟩
    · rintro (h | ⟨j, h1, h2⟩)
      · exact .inl (.inl h)
      · rcases List.mem_cons.1 h1 with rfl | h1
        · exact .inl (.inr h2)
        · exact .inr ⟨j, h1, h2⟩

theorem bit_ne {a x : Nat} (h : a.testBit x = true) : a ≠ 0 := fun e => by rw [e] at h; simp at h

section
variable {s : Sys} (hv : OkS s)
include hv

theorem coM_bit {m : Nat} (hm : m < 2 ^ s.1.toNat) {l : Int} {x : Nat} : (coM s m l).testBit x = true ↔ ∃ y, m.testBit y = true ∧ (coM s (2 ^ y) l).testBit x = true := by
  rw [coM_bits hv hm l, fold_orbit]
  unfold bitsL
  constructor
  · rintro (h | ⟨y, h1, h2⟩)
    · simp at h
    · exact ⟨y, (List.mem_filter.1 h1).2, h2⟩
  · rintro ⟨y, h1, h2⟩
    have := bit_lt hm h1
    have h6 := n6 hv
    exact .inr ⟨y, List.mem_filter.2 ⟨List.mem_range.2 (by omega), h1⟩, h2⟩

theorem folM_bit {x : Nat} : ∀ (w : List Int) {m : Nat}, m < 2 ^ s.1.toNat → ((folM s m w).testBit x = true ↔ ∃ y, m.testBit y = true ∧ (folM s (2 ^ y) w).testBit x = true)
  | [], m, hm => by
    show m.testBit x = true ↔ ∃ y, m.testBit y = true ∧ (2 ^ y).testBit x = true
    constructor
    · intro h; exact ⟨x, h, by rw [Nat.testBit_two_pow]; simp⟩
    · rintro ⟨y, h1, h2⟩
      rw [Nat.testBit_two_pow, decide_eq_true_eq] at h2
      rw [← h2]; exact h1
  | l :: w, m, hm => by
    show (folM s (coM s m l) w).testBit x = true ↔ ∃ y, m.testBit y = true ∧ (folM s (coM s (2 ^ y) l) w).testBit x = true
    rw [folM_bit w (coM_lt hv hm l)]
    constructor
    · rintro ⟨z, h1, h2⟩
      obtain ⟨y, h3, h4⟩ := (coM_bit hv hm).1 h1
      exact ⟨y, h3, (folM_bit w (coM_lt hv (Nat.pow_lt_pow_right (by omega) (bit_lt hm h3)) l)).2 ⟨z, h4, h2⟩⟩
    · rintro ⟨y, h1, h2⟩
      obtain ⟨z, h3, h4⟩ := (folM_bit w (coM_lt hv (Nat.pow_lt_pow_right (by omega) (bit_lt hm h1)) l)).1 h2
      exact ⟨z, (coM_bit hv hm).2 ⟨y, h1, h3⟩, h4⟩

end

/-! ### A short one -/

section
variable {c a : Sys} (hc : OkS c) (ha : OkS a)
include hc ha

theorem tel_short {w : List Int} (hw : w.all seenB = true) (h1 : behM c w ≠ 0) (h2 : behM a w = 0) (hmin : ∀ v : List Int, v.all seenB = true → behM c v ≠ 0 → behM a v = 0 → w.length ≤ v.length) : w.length ≤ 384 := by
  have hex : ∀ i : Nat, ∃ y, (behM c (w.take i)).testBit y = true ∧ folM c (2 ^ y) (w.drop i) ≠ 0 := fun i => by
    have e : behM c w = folM c (behM c (w.take i)) (w.drop i) := by rw [← folM_beh, List.take_append_drop]
    rw [e] at h1
    obtain ⟨x, hx⟩ := ne_zero_bit h1
    obtain ⟨y, g1, g2⟩ := (folM_bit hc _ (behM_lt hc _)).1 hx
    exact ⟨y, g1, bit_ne g2⟩
  obtain ⟨f, hf⟩ := Classical.axiomOfChoice hex
  have hf6 : ∀ i, f i < 6 := fun i => Nat.lt_of_lt_of_le (bit_lt (behM_lt hc _) (hf i).1) (n6 hc)
  have hb : ∀ i, behM a (w.take i) < 64 := fun i => lt64 ha (behM_lt ha _)
  have hnd : ((List.range w.length).map fun i => f i * 64 + behM a (w.take i)).Nodup := by
    unfold List.Nodup
    rw [List.pairwise_iff_getElem]
    intro i j hi hj hij e
    simp only [List.getElem_map, List.getElem_range] at e
    rw [List.length_map, List.length_range] at hi hj
    have b1 := hb i; have b2 := hb j
    have e1 : f i = f j := by omega
    have e2 : behM a (w.take i) = behM a (w.take j) := by omega
    have hall : (w.take i ++ w.drop j).all seenB = true := by
      rw [List.all_eq_true] at hw ⊢
      intro l hl
      rcases List.mem_append.1 hl with hl | hl
      · exact hw l (List.mem_of_mem_take hl)
      · exact hw l (List.mem_of_mem_drop hl)
    have g1 : behM c (w.take i ++ w.drop j) ≠ 0 := by
      rw [folM_beh]
      obtain ⟨x, hx⟩ := ne_zero_bit (hf j).2
      refine bit_ne ((folM_bit hc _ (behM_lt hc _)).2 ⟨f i, (hf i).1, ?_⟩) (x := x)
      rw [e1]; exact hx
    have g2 : behM a (w.take i ++ w.drop j) = 0 := by
      rw [folM_beh, e2, ← folM_beh, List.take_append_drop]; exact h2
    have := hmin _ hall g1 g2
    rw [List.length_append, List.length_take, List.length_drop] at this
    omega
  have := nodup_lt 384 _ hnd (fun x hx => by
    obtain ⟨i, _, rfl⟩ := List.mem_map.1 hx
    have := hf6 i; have := hb i
    omega)
  rw [List.length_map, List.length_range] at this
  exact this

/-! ### What refines keeps traces -/

def img (Q : Nat → Nat) (S : Nat) : Nat := setM fun x => !decide (Q x &&& S = 0)

/-! ### A plain one -/

def plainP (s : Sys) : Prop := (∀ z ∈ s.2, z.2.1 ≠ 0) ∧ ∀ y ∈ s.2, ∀ z ∈ s.2, y.1 = z.1 → y.2.1 = z.2.1 → y = z

def oneM (m : Nat) : Prop := ∀ y z, m.testBit y = true → m.testBit z = true → y = z

end
end Go.Proofs.Ytljonmpcehlpaaa
