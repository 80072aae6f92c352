/-
  How many accesses conflict; what is deleted; pairs.
-/
import Derived.Test.YtdicomoggfhbfaaD2
namespace Go.Proofs.Ytdicomoggfhbfaa
open Go.RowKit

set_option linter.unusedVariables false
set_option linter.unusedSimpArgs false

theorem getD_takeL {α : Type} {xs : List α} {k j : Nat} {d : α} (h : j < k) : (xs.take k).getD j d = xs.getD j d := by
  rw [List.getD_eq_getElem?_getD, List.getD_eq_getElem?_getD, List.getElem?_take, if_pos h]

/-- How many accesses conflict. -/
def nConf (x : Acs) : Nat := sumN x.length fun t => sumN (x.getD t []).length fun a => sumN t fun u => sumN (x.getD u []).length fun b => (conf x (t : Int) (a : Int) (u : Int) (b : Int)).toNat

theorem tnat_le (b : Bool) : b.toNat ≤ 1 := by cases b <;> simp

theorem Conflicts_eq (x : Acs) : delay_Conflicts x = some (if vld x = true then ((nConf x : Nat) : Int) else 0, if vld x = true then 0 else 90) := by
  unfold delay_Conflicts
  rw [of_eq, Option.bind_some]
  cases hv : vld x with
  | false => rfl
  | true =>
    simp only [if_true]
    rw [if_neg (by simp)]
    have hlen := vld_len hv
    have hr := vld_row hv
    have w4 : ∀ (t a u : Nat) (s1 s2 : Int) (c : Nat), t < x.length → a < (x.getD t []).length → u < t → c ≤ 500 →
        whileO (delay_Conflicts_b4 (x, 0) (s1, (t : Int)) (s2, (a : Int)) ((c : Int), (u : Int))) ((c : Int), 0) = some ((c + sumN (x.getD u []).length fun b => (conf x (t : Int) (a : Int) (u : Int) (b : Int)).toNat : Nat) : Int) := by
      intro t a u s1 s2 c ht ha hu hc
      refine addN _ 1 _ (fun k _ => tnat_le _) c (fun k e hk he => ?_) (fun e => ?_)
      · unfold delay_Conflicts_b4
        simp only [Int.toNat_natCast]
        have := hr u
        rw [if_pos (decide_eq_true (by rw [getD_takeL hu]; omega)), conf_eq (hasA_nat.2 ⟨ht, ha⟩) (hasA_nat.2 ⟨by omega, hk⟩), Option.bind_some]
        cases conf x (t : Int) (a : Int) (u : Int) (k : Int) with
        | true => rw [if_pos rfl, ck_pos (inK_nat20 (by omega)), ck_pos (inK_nat20 (by omega))]; rfl
        | false => rw [if_neg (by simp), ck_pos (inK_nat20 (by omega))]; rfl
      · unfold delay_Conflicts_b4
        simp only [Int.toNat_natCast]
        rw [if_neg (by rw [decide_eq_true_eq, getD_takeL hu]; omega)]
    have l4 : ∀ (t a u : Nat), (sumN (x.getD u []).length fun b => (conf x (t : Int) (a : Int) (u : Int) (b : Int)).toNat) ≤ 4 := fun t a u => by
      have := sumN_le (n := (x.getD u []).length) (c := 1) (f := fun b => (conf x (t : Int) (a : Int) (u : Int) (b : Int)).toNat) fun k _ => tnat_le _
      have := hr u; omega
    have w3 : ∀ (t a : Nat) (s1 : Int) (c : Nat), t < x.length → a < (x.getD t []).length → c ≤ 400 →
        whileO (delay_Conflicts_b3 (x, 0) (s1, (t : Int)) ((c : Int), (a : Int))) ((c : Int), 0) = some ((c + sumN t fun u => sumN (x.getD u []).length fun b => (conf x (t : Int) (a : Int) (u : Int) (b : Int)).toNat : Nat) : Int) := by
      intro t a s1 c ht ha hc
      refine addN _ 4 _ (fun k _ => l4 t a k) c (fun k e hk he => ?_) (fun e => ?_)
      · unfold delay_Conflicts_b3
        have hl : (x.take t).length = t := by rw [List.length_take]; omega
        simp only [Int.toNat_natCast]
        rw [if_pos (decide_eq_true (by rw [hl]; omega)), ck_pos (by omega), ck_pos (by rw [hl]; omega), w4 t a k s1 _ e ht ha hk (by omega), Option.bind_some]
        unfold delay_Conflicts_k4
        rw [ck_pos (inK_nat20 (by omega))]
      · unfold delay_Conflicts_b3
        have hl : (x.take t).length = t := by rw [List.length_take]; omega
        simp only [Int.toNat_natCast]
        rw [if_neg (by rw [decide_eq_true_eq, hl]; omega)]
    have l3 : ∀ (t a : Nat), t < x.length → (sumN t fun u => sumN (x.getD u []).length fun b => (conf x (t : Int) (a : Int) (u : Int) (b : Int)).toNat) ≤ 12 := fun t a ht => by
      have := sumN_le (n := t) (c := 4) (f := fun u => sumN (x.getD u []).length fun b => (conf x (t : Int) (a : Int) (u : Int) (b : Int)).toNat) fun k _ => l4 t a k
      omega
    have w2 : ∀ (t : Nat) (c : Nat), t < x.length → c ≤ 300 →
        whileO (delay_Conflicts_b2 (x, 0) ((c : Int), (t : Int))) ((c : Int), 0) = some ((c + sumN (x.getD t []).length fun a => sumN t fun u => sumN (x.getD u []).length fun b => (conf x (t : Int) (a : Int) (u : Int) (b : Int)).toNat : Nat) : Int) := by
      intro t c ht hc
      have := hr t
      refine addN _ 12 _ (fun k _ => l3 t k ht) c (fun k e hk he => ?_) (fun e => ?_)
      · unfold delay_Conflicts_b2
        simp only [Int.toNat_natCast]
        rw [if_pos (decide_eq_true (by omega)), ck_pos (by omega), ck_pos (by omega), w3 t k _ e ht hk (by omega), Option.bind_some]
        unfold delay_Conflicts_k3
        rw [ck_pos (inK_nat20 (by omega))]
      · unfold delay_Conflicts_b2
        simp only [Int.toNat_natCast]
        rw [if_neg (by simp)]
    have w1 : whileO (delay_Conflicts_b1 (x, 0)) (0, 0) = some ((nConf x : Nat) : Int) := by
      have := addN x.length 48 (fun t => sumN (x.getD t []).length fun a => sumN t fun u => sumN (x.getD u []).length fun b => (conf x (t : Int) (a : Int) (u : Int) (b : Int)).toNat) (fun t ht => by
        have := sumN_le (n := (x.getD t []).length) (c := 12) (f := fun a => sumN t fun u => sumN (x.getD u []).length fun b => (conf x (t : Int) (a : Int) (u : Int) (b : Int)).toNat) fun k _ => l3 t k ht
        have := hr t; omega) 0 (body := delay_Conflicts_b1 (x, 0)) (fun k e hk he => by
          unfold delay_Conflicts_b1
          rw [if_pos (decide_eq_true (by simp only; omega)), ck_pos (by simp only; omega), ck_pos (by simp only; omega)]
          simp only
          rw [w2 k e hk (by omega), Option.bind_some]
          unfold delay_Conflicts_k2
          rw [ck_pos (inK_nat20 (by omega))]) (fun e => by unfold delay_Conflicts_b1; rw [if_neg (by simp)])
      rw [Nat.zero_add] at this
      exact this
    rw [w1]; rfl

/-! ### What is deleted -/

theorem stas_len {x : Acs} (hv : vld x = true) : (stas x).length ≤ 48 := by
  have hlen := vld_len hv
  have hr := vld_row hv
  have gen : ∀ {β : Type} (n c m : Nat) (f : Nat → List β), n ≤ m → (∀ k, (f k).length ≤ c) → ((List.range n).flatMap f).length ≤ m * c := by
    intro β n c m f hn hf
    have : ∀ k, ((List.range k).flatMap f).length ≤ k * c := by
      intro k
      induction k with
      | zero => simp
      | succ k ih =>
        rw [List.range_succ, List.flatMap_append, List.length_append, Nat.succ_mul]
        have := hf k
        simp only [List.flatMap_cons, List.flatMap_nil, List.append_nil]; omega
    exact Nat.le_trans (this n) (Nat.mul_le_mul_right c hn)
  unfold stas
  exact gen _ 16 3 _ hlen.2.1 fun t => gen _ 4 4 _ (hr t) fun a => gen _ 1 4 _ (hr t) fun b => by split <;> simp

theorem mem_stas {x : Acs} {s : Sta} : s ∈ stas x ↔ isSt x s = true := by
  unfold stas
  simp only [List.mem_flatMap, List.mem_range]
  constructor
  · rintro ⟨t, ht, a, ha, b, hb, h⟩
    split at h
    · rename_i hs
      simp only [List.mem_singleton] at h
      rw [h]; exact hs
    · simp at h
  · intro h
    obtain ⟨t, a, b⟩ := s
    have hA : hasA x t a = true ∧ hasA x t b = true := by
      unfold isSt isPr at h
      simp only [Bool.or_eq_true, Bool.and_eq_true, decide_eq_true_eq] at h
      rcases h with ⟨e, h⟩ | h
      · subst e; exact ⟨h, h⟩
      · exact ⟨h.1, h.2.1⟩
    obtain ⟨h1, h2, h3, h4⟩ := hasA_iff.1 hA.1
    obtain ⟨_, _, k3, k4⟩ := hasA_iff.1 hA.2
    refine ⟨t.toNat, by omega, a.toNat, by omega, b.toNat, by omega, ?_⟩
    rw [Int.toNat_of_nonneg h1, Int.toNat_of_nonneg h3, Int.toNat_of_nonneg k3, if_pos h]; simp

theorem few_stas {x : Acs} (hv : vld x = true) : few (stas x) := few_of (stas_len hv)

def oneB (s : Sta) : Bool := decide (s.2.1 = s.2.2)
def prs (x : Acs) : List Sta := (stas x).filter fun s => !oneB s

end Go.Proofs.Ytdicomoggfhbfaa
