/-
  How many accesses conflict; what is deleted; pairs.
-/
import Derived.Test.YtdicomoggfhbfaaD2
namespace Go.Proofs.Ytdicomoggfhbfaa
open Go.RowKit

set_option linter.unusedVariables false
set_option linter.unusedSimpArgs false

/-- How many accesses conflict. -/
def nConf (x : Acs) : Nat := sumN x.length fun t => sumN (x.getD t []).length fun a => sumN t fun u => sumN (x.getD u []).length fun b => (conf x (t : Int) (a : Int) (u : Int) (b : Int)).toNat

/-! ### What is deleted -/

theorem stas_len {x : Acs} (hv : vld x = true) : (stas x).length ≤ 48 := by
  have hlen := vld_len hv
  have hr := vld_row hv
  have gen : ∀ {β : Type} (n c m : Nat) (f : Nat → List β), n ≤ m → (∀ k, (f k).length ≤ c) → ((List.range n).flatMap f).length ≤ m * c := by
    intro β n c m f hn hf
    have : ∀ k, ((List.range k).flatMap f).length ≤ k * c := by
      intro k
      induction k with
      | zero => simp
      | succ k ih =>
        rw [List.range_succ, List.flatMap_append, List.length_append, Nat.succ_mul]
        have := hf k
        simp only [List.flatMap_cons, List.flatMap_nil, List.append_nil]; omega
    exact Nat.le_trans (this n) (Nat.mul_le_mul_right c hn)
  unfold stas
  exact gen _ 16 3 _ hlen.2.1 fun t => gen _ 4 4 _ (hr t) fun a => gen _ 1 4 _ (hr t) fun b => by split <;> simp

theorem mem_stas {x : Acs} {s : Sta} : s ∈ stas x ↔ isSt x s = true := by
  unfold stas
  simp only [List.mem_flatMap, List.mem_range]
  constructor
  · rintro ⟨t, ht, a, ha, b, hb, h⟩
    split at h
    · rename_i hs
      simp only [List.mem_singleton] at h
      rw [h]; exact hs
    · simp at h
  · intro h
    obtain ⟨t, a, b⟩ := s
    have hA : hasA x t a = true ∧ hasA x t b = true := by
      unfold isSt isPr at h
      simp only [Bool.or_eq_true, Bool.and_eq_true, decide_eq_true_eq] at h
      rcases h with ⟨e, h⟩ | h
      · subst e; exact ⟨h, h⟩
      · exact ⟨h.1, h.2.1⟩
    obtain ⟨h1, h2, h3, h4⟩ := hasA_iff.1 hA.1
    obtain ⟨_, _, k3, k4⟩ := hasA_iff.1 hA.2
    refine ⟨t.toNat, by omega, a.toNat, by omega, b.toNat, by omega, ?_⟩
    rw [Int.toNat_of_nonneg h1, Int.toNat_of_nonneg h3, Int.toNat_of_nonneg k3, if_pos h]; simp

theorem few_stas {x : Acs} (hv : vld x = true) : few (stas x) := few_of (stas_len hv)

def oneB (s : Sta) : Bool := decide (s.2.1 = s.2.2)
def prs (x : Acs) : List Sta := (stas x).filter fun s => !oneB s

end Go.Proofs.Ytdicomoggfhbfaa
