/-
  Layer 5, pure: the steps of two systems together.
-/
import Derived.Test.YtifleoceebaooaaS23
namespace Go.Proofs.Ytifleoceebaooaa

set_option linter.unusedVariables false
set_option linter.unusedSimpArgs false
set_option linter.unusedSectionVars false
set_option maxRecDepth 100000
set_option maxHeartbeats 1000000

theorem ltS_ltP (x y : Stp) : ltS x y = true ↔ ltP x y := ltS_iff

theorem sortS_asc (l : List Stp) : (sortS l).Pairwise fun x y => ¬ ltP y x := by
  have h := List.pairwise_mergeSort (le := fun x y : Stp => !ltS y x) (fun x y z h1 h2 => by
    rw [Bool.not_eq_true', ltS_no] at *; omega) (fun x y => by
    rw [Bool.or_eq_true, Bool.not_eq_true', Bool.not_eq_true', ltS_no, ltS_no]; omega) l
  unfold sortS
  refine h.imp fun {x y} hxy => ?_
  rw [Bool.not_eq_true'] at hxy
  rw [← ltS_ltP, hxy]; simp

theorem sortS_mem (l : List Stp) (z : Stp) : z ∈ sortS l ↔ z ∈ l := List.mem_mergeSort

/-- The list of the program: sorted, each once. -/
def once (l : List Stp) : List Stp := kp (sortS l) l.length

theorem once_asc (l : List Stp) : (once l).Pairwise ltP ∧ ∀ z, z ∈ once l ↔ z ∈ l := by
  have hlen := sortS_len l
  obtain ⟨h1, h2⟩ := kp_asc (sortS_asc l) l.length (by omega)
  refine ⟨h1, fun z => ?_⟩
  unfold once
  rw [h2, ← hlen, List.take_length, sortS_mem]

theorem sort_compact {l : List Stp} (hl : l.length ≤ 1000000) (hs : ∀ z ∈ l, smS z) : ((slices_SortFunc l).bind fun v => (slices_Compact v).bind fun w => some w) = some (once l) := by
  have hlen := sortS_len l
  unfold slices_SortFunc
  rw [ck_pos hl, ck_pos hs, Option.bind_some, compact_eq (by omega) (fun z hz => by
    rw [sortS_mem] at hz
    obtain ⟨h1, h2, h3⟩ := hs z hz
    unfold smI at h1 h2 h3
    rw [inK_i64, inK_i64, inK_i64]; omega), Option.bind_some]
  unfold once
  rw [hlen]

/-! ### Numbers of pairs -/

theorem pair_num {m n a b : Int} (hn : 1 ≤ n) (hn6 : n ≤ 6) (ha : 0 ≤ a ∧ a < m) (hm : m ≤ 6) (hb : 0 ≤ b ∧ b < n) : (a * n + b) / n = a ∧ (a * n + b) % n = b ∧ 0 ≤ a * n + b ∧ a * n + b < m * n ∧ a * n + b ≤ 35 := by
  have : n = 1 ∨ n = 2 ∨ n = 3 ∨ n = 4 ∨ n = 5 ∨ n = 6 := by omega
  rcases this with rfl | rfl | rfl | rfl | rfl | rfl <;> omega

theorem num_pair {m n f : Int} (hn : 1 ≤ n) (hn6 : n ≤ 6) (hf : 0 ≤ f ∧ f < m * n) : 0 ≤ f / n ∧ f / n < m ∧ 0 ≤ f % n ∧ f % n < n ∧ (f / n) * n + f % n = f := by
  have : n = 1 ∨ n = 2 ∨ n = 3 ∨ n = 4 ∨ n = 5 ∨ n = 6 := by omega
  rcases this with rfl | rfl | rfl | rfl | rfl | rfl <;> omega

theorem mul_small {a n : Int} (hn : 1 ≤ n) (hn6 : n ≤ 6) (ha : 0 ≤ a ∧ a ≤ 100) : 0 ≤ a * n ∧ a * n ≤ 600 := by
  have : n = 1 ∨ n = 2 ∨ n = 3 ∨ n = 4 ∨ n = 5 ∨ n = 6 := by omega
  rcases this with rfl | rfl | rfl | rfl | rfl | rfl <;> omega

/-! ### The program's list -/

def putZ (n : Int) (a b : Stp) : Stp := (a.1 * n + b.1, a.2.1, a.2.2 * n + b.2.2)
def seenF (n : Int) (a b : Stp) : List Stp := if a.2.1 = b.2.1 ∧ 0 < a.2.1 ∧ a.2.1 ≤ 3 then [putZ n a b] else []
def hidF (n : Int) (a : Stp) (k : Nat) : List Stp := if a.2.1 = 0 then [(a.1 * n + k, a.2.1, a.2.2 * n + k)] else []
def hidG (n : Int) (b : Stp) (i : Nat) : List Stp := if b.2.1 = 0 then [((i : Int) * n + b.1, 0, (i : Int) * n + b.2.2)] else []
def oneF (n : Int) (t : Sys) (a : Stp) : List Stp := t.2.flatMap (seenF n a) ++ (List.range n.toNat).flatMap (hidF n a)
def allU (s t : Sys) : List Stp := s.2.flatMap (oneF t.1 t) ++ t.2.flatMap fun b => (List.range s.1.toNat).flatMap (hidG t.1 b)

theorem seenF_len (n : Int) (a b : Stp) : (seenF n a b).length ≤ 1 := by unfold seenF; split <;> simp
theorem hidF_len (n : Int) (a : Stp) (k : Nat) : (hidF n a k).length ≤ 1 := by unfold hidF; split <;> simp
theorem hidG_len (n : Int) (b : Stp) (i : Nat) : (hidG n b i).length ≤ 1 := by unfold hidG; split <;> simp

theorem range_get {n k x : Nat} (h : (List.range n)[k]? = some x) : x = k ∧ k < n := by
  rw [List.getElem?_eq_some_iff] at h
  obtain ⟨h1, h2⟩ := h
  rw [List.length_range] at h1
  rw [List.getElem_range] at h2
  exact ⟨h2.symm, h1⟩

section
variable {s t : Sys} (hs : OkS s) (ht : OkS t)
include hs ht

theorem oneF_len (a : Stp) : (oneF t.1 t a).length ≤ 30 := by
  have h1 := flatm_len (f := seenF t.1 a) (c := 1) t.2 fun x _ => seenF_len ..
  have h2 := flatm_len (f := hidF t.1 a) (c := 1) (List.range t.1.toNat) fun x _ => hidF_len ..
  have := ht.len
  have := n6 ht
  unfold oneF
  rw [List.length_append]
  rw [List.length_range] at h2
  omega

theorem allU_len : (allU s t).length ≤ 1000 := by
  have h1 := flatm_len (f := oneF t.1 t) (c := 30) s.2 fun a _ => oneF_len hs ht a
  have h2 := flatm_len (f := fun b => (List.range s.1.toNat).flatMap (hidG t.1 b)) (c := 6) t.2 fun b _ => by
    have := flatm_len (f := hidG t.1 b) (c := 1) (List.range s.1.toNat) fun x _ => hidG_len ..
    have := n6 hs
    rw [List.length_range] at *
    omega
  have := hs.len
  have := ht.len
  unfold allU
  rw [List.length_append]
  omega

theorem add_ok {a b : Stp} (ha : 0 ≤ a.1 ∧ a.1 ≤ 10) (ha2 : 0 ≤ a.2.2 ∧ a.2.2 ≤ 10) (hb : 0 ≤ b.1 ∧ b.1 ≤ 10) (hb2 : 0 ≤ b.2.2 ∧ b.2.2 ≤ 10) (l : List Stp) (hl : l.length ≤ 10000) : refine_together_1_2 a b t l = some () := by
  have h1 := mul_small ht.lo ht.hi ⟨ha.1, by omega⟩
  have h2 := mul_small ht.lo ht.hi ⟨ha2.1, by omega⟩
  unfold refine_together_1_2
  rw [ck_pos (by rw [inK_i64]; omega), ck_pos (by rw [inK_i64]; omega), ck_pos (by rw [inK_i64]; omega), ck_pos (by rw [inK_i64]; omega), ck_pos (by omega)]

theorem tog_b2 (st1 : List Stp × Int) {a : Stp} {k1 : Nat} (e1 : st1.2 = (k1 : Int)) (hk1 : s.2[k1]? = some a) (hl : st1.1.length ≤ 2000) : whileO (refine_together_b2 s t st1) (st1.1, 0) = some (st1.1 ++ t.2.flatMap (seenF t.1 a)) := by
  have hlt1 := (List.getElem?_eq_some_iff.1 hk1).1
  have hlen := hs.len
  have hlen2 := ht.len
  have za := hs.st a (List.mem_of_getElem? hk1)
  have hs6 := hs.hi
  have ht6 := ht.hi
  refine app_loop t.2 (seenF t.1 a) 1 (fun x _ => seenF_len ..) st1.1 (fun k b acc hk hacc => ?_) (fun acc => ?_)
  · have hlt := (List.getElem?_eq_some_iff.1 hk).1
    have zb := ht.st b (List.mem_of_getElem? hk)
    have kj : InK .i64 ((k : Int) + 1) := by rw [inK_i64]; omega
    unfold refine_together_b2
    simp only [e1, Int.toNat_natCast, getD_of hk, getD_of hk1]
    rw [if_pos (by rw [decide_eq_true_eq]; omega), ck_pos (by omega), ck_pos (by omega)]
    unfold seenF
    by_cases h1 : a.2.1 = b.2.1
    · rw [if_pos (by rw [decide_eq_true_eq]; exact h1), isSeen_eq, Option.bind_some]
      by_cases h2 : 0 < a.2.1 ∧ a.2.1 ≤ 3
      · rw [if_pos (by rw [decide_eq_true_eq]; exact h2), add_ok hs ht (by omega) (by omega) (by omega) (by omega) acc (by omega), Option.bind_some, ck_pos kj, if_pos ⟨h1, h2⟩]
        rfl
      · rw [if_neg (by rw [decide_eq_true_eq]; exact h2), ck_pos kj, if_neg (fun h => h2 h.2), List.append_nil]
    · rw [if_neg (by rw [decide_eq_true_eq]; exact h1), ck_pos kj, if_neg (fun h => h1 h.1), List.append_nil]
  · unfold refine_together_b2
    simp only
    rw [if_neg (by rw [decide_eq_true_eq]; omega)]

theorem tog_b3 (st1 : List Stp × Int) {a : Stp} {k1 : Nat} (e1 : st1.2 = (k1 : Int)) (hk1 : s.2[k1]? = some a) (acc0 : List Stp) (hl : acc0.length ≤ 3000) : whileO (refine_together_b3 s t st1) (acc0, 0) = some (acc0 ++ (List.range t.1.toNat).flatMap (hidF t.1 a)) := by
  have hlt1 := (List.getElem?_eq_some_iff.1 hk1).1
  have hlen := hs.len
  have za := hs.st a (List.mem_of_getElem? hk1)
  have hs6 := hs.hi
  have ht6 := ht.hi
  have htl := ht.lo
  refine app_loop (List.range t.1.toNat) (hidF t.1 a) 1 (fun x _ => hidF_len ..) acc0 (fun k x acc hk hacc => ?_) (fun acc => ?_)
  · obtain ⟨rfl, hlt⟩ := range_get hk
    rw [List.length_range] at hacc
    have kj : InK .i64 ((x : Int) + 1) := by rw [inK_i64]; omega
    have hst : ∀ z, refine_stay z = some () := fun z => rfl
    have hih : ∀ z, refine_isHidden z = some () := fun z => rfl
    unfold refine_together_b3
    simp only [e1, Int.toNat_natCast, getD_of hk1]
    rw [if_pos (by rw [decide_eq_true_eq]; omega), hih, Option.bind_some]
    unfold hidF
    by_cases h1 : a.2.1 = 0
    · rw [if_pos (by rw [decide_eq_true_eq]; exact h1), hst, Option.bind_some, add_ok hs ht (by omega) (by omega) (by simp only; omega) (by simp only; omega) acc (by omega), Option.bind_some, ck_pos kj, if_pos h1]
    · rw [if_neg (by rw [decide_eq_true_eq]; exact h1), ck_pos kj, if_neg h1, List.append_nil]
  · unfold refine_together_b3
    simp only [List.length_range]
    rw [if_neg (by rw [decide_eq_true_eq]; omega)]

theorem tog_b1 : whileO (refine_together_b1 s t) ([], 0) = some (s.2.flatMap (oneF t.1 t)) := by
  have hlen := hs.len
  have := app_loop s.2 (oneF t.1 t) 30 (fun a _ => oneF_len hs ht a) [] (body := refine_together_b1 s t) (fun k a acc hk hacc => by
    have hlt := (List.getElem?_eq_some_iff.1 hk).1
    have kj : InK .i64 ((k : Int) + 1) := by rw [inK_i64]; omega
    rw [List.length_nil] at hacc
    have h1 := flatm_len (f := seenF t.1 a) (c := 1) t.2 fun x _ => seenF_len ..
    have := ht.len
    unfold refine_together_b1
    simp only
    rw [if_pos (by rw [decide_eq_true_eq]; omega), ck_pos (by omega), ck_pos (by omega)]
    have e2 := tog_b2 hs ht (acc, (k : Int)) rfl hk (by simp only; omega)
    simp only at e2
    rw [e2, Option.bind_some]
    unfold refine_together_k3
    rw [tog_b3 hs ht (acc, (k : Int)) rfl hk _ (by rw [List.length_append]; omega), Option.bind_some]
    unfold refine_together_k2
    simp only
    rw [ck_pos kj, List.append_assoc]
    rfl) (fun acc => by
    unfold refine_together_b1
    simp only
    rw [if_neg (by rw [decide_eq_true_eq]; omega)])
  rw [this, List.nil_append]

theorem tog_b5 (st4 : List Stp × Int) {b : Stp} {k1 : Nat} (e1 : st4.2 = (k1 : Int)) (hk1 : t.2[k1]? = some b) (hl : st4.1.length ≤ 3000) : whileO (refine_together_b5 s t st4) (st4.1, 0) = some (st4.1 ++ (List.range s.1.toNat).flatMap (hidG t.1 b)) := by
  have hlt1 := (List.getElem?_eq_some_iff.1 hk1).1
  have hlen := ht.len
  have zb := ht.st b (List.mem_of_getElem? hk1)
  have hs6 := hs.hi
  have ht6 := ht.hi
  have hsl := hs.lo
  refine app_loop (List.range s.1.toNat) (hidG t.1 b) 1 (fun x _ => hidG_len ..) st4.1 (fun k x acc hk hacc => ?_) (fun acc => ?_)
  · obtain ⟨rfl, hlt⟩ := range_get hk
    rw [List.length_range] at hacc
    have kj : InK .i64 ((x : Int) + 1) := by rw [inK_i64]; omega
    have hst : ∀ z, refine_stay z = some () := fun z => rfl
    have hih : ∀ z, refine_isHidden z = some () := fun z => rfl
    unfold refine_together_b5
    simp only [e1, Int.toNat_natCast, getD_of hk1]
    rw [if_pos (by rw [decide_eq_true_eq]; omega), hih, Option.bind_some]
    unfold hidG
    by_cases h1 : b.2.1 = 0
    · rw [if_pos (by rw [decide_eq_true_eq]; exact h1), hst, Option.bind_some, add_ok hs ht (by simp only; omega) (by simp only; omega) (by omega) (by omega) acc (by omega), Option.bind_some, ck_pos kj, if_pos h1]
    · rw [if_neg (by rw [decide_eq_true_eq]; exact h1), ck_pos kj, if_neg h1, List.append_nil]
  · unfold refine_together_b5
    simp only [List.length_range]
    rw [if_neg (by rw [decide_eq_true_eq]; omega)]

theorem tog_b4 (acc0 : List Stp) (hl : acc0.length ≤ 1000) : whileO (refine_together_b4 s t) (acc0, 0) = some (acc0 ++ t.2.flatMap fun b => (List.range s.1.toNat).flatMap (hidG t.1 b)) := by
  have hlen := ht.len
  have hs6 := n6 hs
  refine app_loop t.2 (fun b => (List.range s.1.toNat).flatMap (hidG t.1 b)) 6 (fun b _ => by
    have := flatm_len (f := hidG t.1 b) (c := 1) (List.range s.1.toNat) fun x _ => hidG_len ..
    rw [List.length_range] at this
    omega) acc0 (fun k b acc hk hacc => ?_) (fun acc => ?_)
  · have hlt := (List.getElem?_eq_some_iff.1 hk).1
    have kj : InK .i64 ((k : Int) + 1) := by rw [inK_i64]; omega
    unfold refine_together_b4
    simp only
    rw [if_pos (by rw [decide_eq_true_eq]; omega), ck_pos (by omega), ck_pos (by omega)]
    have e2 := tog_b5 hs ht (acc, (k : Int)) rfl hk (by simp only; omega)
    simp only at e2
    rw [e2, Option.bind_some]
    unfold refine_together_k5
    simp only
    rw [ck_pos kj]
  · unfold refine_together_b4
    simp only
    rw [if_neg (by rw [decide_eq_true_eq]; omega)]

theorem allU_mem (z : Stp) : z ∈ allU s t ↔ (∃ a ∈ s.2, ∃ b ∈ t.2, a.2.1 = b.2.1 ∧ (0 < a.2.1 ∧ a.2.1 ≤ 3) ∧ z = putZ t.1 a b) ∨ (∃ a ∈ s.2, a.2.1 = 0 ∧ ∃ k : Nat, (k : Int) < t.1 ∧ z = (a.1 * t.1 + k, 0, a.2.2 * t.1 + k)) ∨
    ∃ b ∈ t.2, b.2.1 = 0 ∧ ∃ i : Nat, (i : Int) < s.1 ∧ z = ((i : Int) * t.1 + b.1, 0, (i : Int) * t.1 + b.2.2) := by
  unfold allU oneF
  rw [List.mem_append, List.mem_flatMap, List.mem_flatMap]
  constructor
  · rintro (⟨a, ha, h⟩ | ⟨b, hb, h⟩)
    · rw [List.mem_append, List.mem_flatMap, List.mem_flatMap] at h
      rcases h with ⟨b, hb, h⟩ | ⟨k, hk, h⟩
      · unfold seenF at h
        split at h
        · rename_i hc
          exact .inl ⟨a, ha, b, hb, hc.1, hc.2, List.mem_singleton.1 h⟩
        · simp at h
      · unfold hidF at h
        rw [List.mem_range] at hk
        split at h
        · rename_i hc
          refine .inr (.inl ⟨a, ha, hc, k, by omega, ?_⟩)
          rw [List.mem_singleton.1 h, hc]
        · simp at h
    · rw [List.mem_flatMap] at h
      obtain ⟨i, hi, h⟩ := h
      unfold hidG at h
      rw [List.mem_range] at hi
      split at h
      · rename_i hc
        exact .inr (.inr ⟨b, hb, hc, i, by omega, List.mem_singleton.1 h⟩)
      · simp at h
  · rintro (⟨a, ha, b, hb, h1, h2, rfl⟩ | ⟨a, ha, h1, k, hk, rfl⟩ | ⟨b, hb, h1, i, hi, rfl⟩)
    · refine .inl ⟨a, ha, List.mem_append.2 (.inl (List.mem_flatMap.2 ⟨b, hb, ?_⟩))⟩
      unfold seenF
      rw [if_pos ⟨h1, h2⟩, List.mem_singleton]
    · refine .inl ⟨a, ha, List.mem_append.2 (.inr (List.mem_flatMap.2 ⟨k, List.mem_range.2 (by omega), ?_⟩))⟩
      unfold hidF
      rw [if_pos h1, List.mem_singleton, h1]
    · refine .inr ⟨b, hb, List.mem_flatMap.2 ⟨i, List.mem_range.2 (by omega), ?_⟩⟩
      unfold hidG
      rw [if_pos h1, List.mem_singleton]

/-- What a step of the list says. -/
def Pd (s t : Sys) (f l g : Int) : Prop := if l = 0 then ((f / t.1, 0, g / t.1) ∈ s.2 ∧ f % t.1 = g % t.1) ∨ ((f % t.1, 0, g % t.1) ∈ t.2 ∧ f / t.1 = g / t.1) else (f / t.1, l, g / t.1) ∈ s.2 ∧ (f % t.1, l, g % t.1) ∈ t.2

theorem allU_is (f l g : Int) : (f, l, g) ∈ allU s t ↔ (0 ≤ f ∧ f < s.1 * t.1) ∧ (0 ≤ l ∧ l ≤ 3) ∧ (0 ≤ g ∧ g < s.1 * t.1) ∧ Pd s t f l g := by
  have tl := ht.lo
  have t6 := ht.hi
  have sl := hs.lo
  have s6 := hs.hi
  rw [allU_mem hs ht]
  constructor
  · rintro (⟨a, ha, b, hb, h1, h2, e⟩ | ⟨a, ha, h1, k, hk, e⟩ | ⟨b, hb, h1, i, hi, e⟩)
    · have za := hs.st a ha
      have zb := ht.st b hb
      obtain ⟨a1, al, a2⟩ := a
      obtain ⟨b1, bl, b2⟩ := b
      unfold putZ at e
      simp only [Prod.mk.injEq] at e h1 h2 za zb
      obtain ⟨rfl, rfl, rfl⟩ := e
      have p := pair_num tl t6 za.1 s6 zb.1
      have q := pair_num tl t6 za.2.2 s6 zb.2.2
      refine ⟨⟨p.2.2.1, p.2.2.2.1⟩, ⟨by omega, by omega⟩, ⟨q.2.2.1, q.2.2.2.1⟩, ?_⟩
      unfold Pd
      rw [if_neg (by omega), p.1, p.2.1, q.1, q.2.1]
      exact ⟨ha, h1 ▸ hb⟩
    · have za := hs.st a ha
      obtain ⟨a1, al, a2⟩ := a
      simp only [Prod.mk.injEq] at e h1 za
      obtain ⟨rfl, rfl, rfl⟩ := e
      have kk : 0 ≤ (k : Int) ∧ (k : Int) < t.1 := ⟨by omega, hk⟩
      have p := pair_num tl t6 za.1 s6 kk
      have q := pair_num tl t6 za.2.2 s6 kk
      refine ⟨⟨p.2.2.1, p.2.2.2.1⟩, ⟨by omega, by omega⟩, ⟨q.2.2.1, q.2.2.2.1⟩, ?_⟩
      unfold Pd
      rw [if_pos rfl, p.1, p.2.1, q.1, q.2.1]
      exact .inl ⟨h1 ▸ ha, rfl⟩
    · have zb := ht.st b hb
      obtain ⟨b1, bl, b2⟩ := b
      simp only [Prod.mk.injEq] at e h1 zb
      obtain ⟨rfl, rfl, rfl⟩ := e
      have kk : 0 ≤ (i : Int) ∧ (i : Int) < s.1 := ⟨by omega, hi⟩
      have p := pair_num tl t6 kk s6 zb.1
      have q := pair_num tl t6 kk s6 zb.2.2
      refine ⟨⟨p.2.2.1, p.2.2.2.1⟩, ⟨by omega, by omega⟩, ⟨q.2.2.1, q.2.2.2.1⟩, ?_⟩
      unfold Pd
      rw [if_pos rfl, p.1, p.2.1, q.1, q.2.1]
      exact .inr ⟨h1 ▸ hb, rfl⟩
  · rintro ⟨hf, hl, hg, h⟩
    obtain ⟨f1, f2, f3, f4, f5⟩ := num_pair tl t6 hf
    obtain ⟨g1, g2, g3, g4, g5⟩ := num_pair tl t6 hg
    unfold Pd at h
    split at h
    · rename_i hl0
      subst hl0
      rcases h with ⟨h1, h2⟩ | ⟨h1, h2⟩
      · refine .inr (.inl ⟨_, h1, rfl, (f % t.1).toNat, by omega, ?_⟩)
        simp only
        rw [Int.toNat_of_nonneg f3, f5, h2, g5]
      · refine .inr (.inr ⟨_, h1, rfl, (f / t.1).toNat, by omega, ?_⟩)
        simp only
        rw [Int.toNat_of_nonneg f1, f5, h2, g5]
    · rename_i hl0
      refine .inl ⟨_, h.1, _, h.2, rfl, ⟨by simp only; omega, by simp only; omega⟩, ?_⟩
      unfold putZ
      simp only
      rw [f5, g5]

theorem together_eq : refine_together s t = some (once (allU s t)) := by
  have h1 := flatm_len (f := oneF t.1 t) (c := 30) s.2 fun a _ => oneF_len hs ht a
  have := hs.len
  unfold refine_together
  rw [tog_b1 hs ht, Option.bind_some]
  unfold refine_together_k1
  rw [tog_b4 hs ht _ (by omega), Option.bind_some]
  unfold refine_together_k4
  refine sort_compact (l := allU s t) (by have := allU_len hs ht; omega) fun z hz => ?_
  obtain ⟨f, l, g⟩ := z
  obtain ⟨h2, h3, h4, _⟩ := (allU_is hs ht f l g).1 hz
  have h36 : s.1 * t.1 ≤ 600 := (mul_small ht.lo ht.hi (a := s.1) ⟨by have := hs.lo; omega, by have := hs.hi; omega⟩).2
  unfold smS smI
  simp only
  omega

end

end Go.Proofs.Ytifleoceebaooaa
