/-
  Accesses, stations, pairs: what both sides ask of them.
-/
import Derived.Test.YtdicomoggfhbfaaDlp
import Derived.Test.YtdicomoggfhbfaaGn
namespace Go.Proofs.Ytdicomoggfhbfaa
open Go.RowKit

set_option linter.unusedVariables false
set_option linter.unusedSimpArgs false

abbrev Acs : Type := List (List (Int × Bool))
abbrev Sta : Type := Int × Int × Int

/-- Accesses are valid. -/
def okAc (a : Int × Bool) : Bool := decide (0 ≤ a.1) && decide (a.1 < 3)
def okTh (l : List (Int × Bool)) : Bool := decide (l.length ≤ 4) && l.all okAc
def vld (x : Acs) : Bool := (decide (1 ≤ x.length) && decide (x.length ≤ 3)) && x.all okTh
/-- Too many. -/
def lngB (x : Acs) : Bool := x.any (fun l => decide (20 < l.length)) || decide (20 < x.length)
def celA (x : Acs) (t a : Int) : Int × Bool := (x.getD t.toNat []).getD a.toNat (0, false)
def hasA (x : Acs) (t a : Int) : Bool := (decide (0 ≤ t) && decide (t < (x.length : Int))) && (decide (0 ≤ a) && decide (a < ((x.getD t.toNat []).length : Int)))
def conf (x : Acs) (t a u b : Int) : Bool := !decide (t = u) && (decide ((celA x t a).1 = (celA x u b).1) && ((celA x t a).2 || (celA x u b).2))
def isPr (x : Acs) (s : Sta) : Bool := hasA x s.1 s.2.1 && (hasA x s.1 s.2.2 && (decide (s.2.1 < s.2.2) && !decide ((celA x s.1 s.2.1).1 = (celA x s.1 s.2.2).1)))
def isSt (x : Acs) (s : Sta) : Bool := (decide (s.2.1 = s.2.2) && hasA x s.1 s.2.1) || isPr x s
/-- All stations, in ascending order. -/
def stas (x : Acs) : List Sta := (List.range x.length).flatMap fun (t : Nat) => (List.range (x.getD t []).length).flatMap fun (a : Nat) => (List.range (x.getD t []).length).flatMap fun (b : Nat) => if isSt x ((t : Int), (a : Int), (b : Int)) = true then [((t : Int), (a : Int), (b : Int))] else []

theorem vld_len {x : Acs} (h : vld x = true) : 1 ≤ x.length ∧ x.length ≤ 3 ∧ ∀ l ∈ x, l.length ≤ 4 := by
  unfold vld at h
  simp only [Bool.and_eq_true, decide_eq_true_eq, List.all_eq_true] at h
  exact ⟨h.1.1, h.1.2, fun l hl => by have := h.2 l hl; unfold okTh at this; simp only [Bool.and_eq_true, decide_eq_true_eq] at this; exact this.1⟩
theorem vld_row {x : Acs} (h : vld x = true) (t : Nat) : (x.getD t []).length ≤ 4 := by
  by_cases ht : t < x.length
  · exact (vld_len h).2.2 _ (getD_in ht)
  · rw [List.getD_eq_getElem?_getD, List.getElem?_eq_none (by omega)]; simp

theorem hasA_iff {x : Acs} {t a : Int} : hasA x t a = true ↔ 0 ≤ t ∧ t < x.length ∧ 0 ≤ a ∧ a < (x.getD t.toNat []).length := by
  unfold hasA; simp only [Bool.and_eq_true, decide_eq_true_eq, and_assoc]
/-! ### Loops -/
/-- A place in a list, or -1. -/
def idxI {α : Type} (p : α → Bool) (xs : List α) : Int := match xs.findIdx? p with | some k => (k : Int) | none => -1
theorem idxI_any {α : Type} (p : α → Bool) (xs : List α) : decide (0 ≤ idxI p xs) = xs.any p := by
  unfold idxI
  cases h : xs.findIdx? p with
  | none =>
    rw [List.findIdx?_eq_none_iff] at h
    have : xs.any p = false := by rw [List.any_eq_false]; intro y hy; simp [h y hy]
    rw [this]; rfl
  | some k =>
    obtain ⟨hk, hp, _⟩ := List.findIdx?_eq_some_iff_getElem.1 h
    have : xs.any p = true := List.any_eq_true.2 ⟨_, List.getElem_mem hk, hp⟩
    rw [this]; simp

/-- A list to which each round adds. -/
theorem appN {β : Type} (n c : Nat) (f : Nat → List β) (hc : ∀ k, k < n → (f k).length ≤ c) (a0 : List β) {body : List β × Int → Option (Step (List β × Int) (List β))}
    (h : ∀ (k : Nat) (l : List β), k < n → l.length ≤ a0.length + n * c → body (l, (k : Int)) = some (.next (l ++ f k, (k : Int) + 1))) (hd : ∀ l : List β, body (l, (n : Int)) = some (.done l)) :
    whileO body (a0, 0) = some (a0 ++ (List.range n).flatMap f) := by
  have hle : ∀ k, k ≤ n → ((List.range k).flatMap f).length ≤ k * c := by
    intro k
    induction k with
    | zero => intro _; simp
    | succ k ih =>
      intro hk
      have := ih (by omega)
      have := hc k (by omega)
      rw [List.range_succ, List.flatMap_append, List.length_append, Nat.succ_mul]
      simp only [List.flatMap_cons, List.flatMap_nil, List.append_nil]; omega
  obtain ⟨r, e, hr⟩ := scan2 (R := List β) (List.range n) (fun k l => l = a0 ++ (List.range k).flatMap f) (fun r => r = a0 ++ (List.range n).flatMap f) (body := body) (s0 := a0) (by simp)
    (fun k y l hk hI => by
      have hlt : k < n := by have := (List.getElem?_eq_some_iff.1 hk).1; simpa using this
      refine .inl ⟨l ++ f k, h k l hlt ?_, ?_⟩
      · rw [hI, List.length_append]
        have := hle k (by omega)
        have := Nat.mul_le_mul_right c (Nat.le_of_lt hlt)
        omega
      · rw [hI, List.range_succ, List.flatMap_append, List.append_assoc]; simp)
    (fun l hI => ⟨l, by rw [List.length_range]; exact hd l, by rw [List.length_range] at hI; exact hI⟩)
  rw [e, hr]

/-- A number to which each round adds. -/
def sumN (n : Nat) (f : Nat → Nat) : Nat := ((List.range n).map f).sum
end Go.Proofs.Ytdicomoggfhbfaa
