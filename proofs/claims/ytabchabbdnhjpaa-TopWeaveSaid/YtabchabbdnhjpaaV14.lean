/-
  Layer 3, pure: exchanges and paths.
-/
import Derived.Test.YtabchabbdnhjpaaV13
namespace Go.Proofs.Ytabchabbdnhjpaa
open Go.RowKit

set_option linter.unusedVariables false
set_option linter.unusedSimpArgs false
set_option maxRecDepth 10000

variable {l : Ltr}

theorem getD_mid (p : List Int) (a : Int) (s : List Int) : (p ++ a :: s).getD p.length 0 = a := by
  rw [List.getD_eq_getElem?_getD, List.getElem?_append_right (by omega), Nat.sub_self]; rfl
theorem getD_mid1 (p : List Int) (a b : Int) (s : List Int) : (p ++ a :: b :: s).getD (p.length + 1) 0 = b := by
  rw [List.getD_eq_getElem?_getD, List.getElem?_append_right (by omega)]
  have : p.length + 1 - p.length = 1 := by omega
  rw [this]; rfl

theorem canX_mid (p : List Int) (a b : Int) (s : List Int) : canX l (p ++ a :: b :: s) (p.length : Int) = !dep l a b := by
  unfold canX
  have e1 : ((p.length : Int) + 1).toNat = p.length + 1 := by omega
  rw [Int.toNat_natCast, e1, getD_mid, getD_mid1]
  have g1 : decide (0 ≤ (p.length : Int)) = true := by simp
  have g2 : decide ((p.length : Int) < ((p ++ a :: b :: s).length : Int) - 1) = true := by simp; omega
  rw [g1, g2]; rfl

theorem swp_mid (p : List Int) (a b : Int) (s : List Int) : swp (p ++ a :: b :: s) (p.length : Int) = p ++ b :: a :: s := by
  unfold swp
  have e1 : ((p.length : Int) + 1).toNat = p.length + 1 := by omega
  rw [Int.toNat_natCast, e1, getD_mid, getD_mid1]
  rw [List.set_append_right _ _ (by omega), Nat.sub_self, List.set_cons_zero, List.set_append_right _ _ (by omega)]
  have : p.length + 1 - p.length = 1 := by omega
  rw [this]; rfl

theorem canX_split {w : List Int} {z : Int} (h : canX l w z = true) : ∃ p a b s, w = p ++ a :: b :: s ∧ z = (p.length : Int) ∧ dep l a b = false := by
  have h' := h
  unfold canX at h'
  simp only [Bool.and_eq_true, decide_eq_true_eq] at h'
  obtain ⟨k, rfl⟩ : ∃ k : Nat, z = k := ⟨z.toNat, by omega⟩
  have hk : k + 1 < w.length := by omega
  refine ⟨w.take k, w[k], w[k + 1], w.drop (k + 2), ?_, ?_, ?_⟩
  · conv => lhs; rw [← List.take_append_drop k w, List.drop_eq_getElem_cons (by omega), List.drop_eq_getElem_cons hk]
  · simp; omega
  · have e1 : ((k : Int) + 1).toNat = k + 1 := by omega
    have h2 := h'.2
    rw [Int.toNat_natCast, e1, List.getD_eq_getElem?_getD, List.getD_eq_getElem?_getD, List.getElem?_eq_getElem (by omega), List.getElem?_eq_getElem hk] at h2
    simpa using h2

/-- A path, gone from a word. -/
def runP (l : Ltr) : List Int → List Int → Option (List Int)
  | [], w => some w
  | z :: ps, w => if canX l w z = true then runP l ps (swp w z) else none

theorem runP_append (l : Ltr) : ∀ (p q w : List Int), runP l (p ++ q) w = (runP l p w).bind (runP l q)
  | [], q, w => rfl
  | z :: p, q, w => by
    rw [List.cons_append]
    unfold runP
    split
    · exact runP_append l p q _
    · rfl

theorem swp_eqv {w : List Int} {z : Int} (h : canX l w z = true) : eqv l w (swp w z) := by
  obtain ⟨p, a, b, s, rfl, rfl, hd⟩ := canX_split h
  rw [swp_mid]
  refine eqv_front (eqv_cons.2 ⟨b :: s, ?_, eqv_refl l _⟩)
  have hne : b ≠ a := fun e => by subst e; simp [dep] at hd
  rw [wo_skip hne hd, wo_head]; rfl

theorem runP_eqv : ∀ {ps w v : List Int}, runP l ps w = some v → eqv l w v
  | [], w, v, h => by unfold runP at h; injection h with h; subst h; exact eqv_refl l w
  | z :: ps, w, v, h => by
    unfold runP at h
    split at h
    · rename_i hc; exact eqv_trans (swp_eqv hc) (runP_eqv h)
    · cases h

/-- The places from p + k - 1 down to p. -/
def bub (p : Nat) : Nat → List Int
  | 0 => []
  | k + 1 => ((p + k : Nat) : Int) :: bub p k
theorem bub_len (p : Nat) : ∀ k, (bub p k).length = k
  | 0 => rfl
  | k + 1 => by simp [bub, bub_len p k]

theorem bub_run (p : List Int) (a : Int) (s : List Int) : ∀ (x : List Int), (∀ b ∈ x, dep l b a = false) → runP l (bub p.length x.length) (p ++ (x ++ a :: s)) = some (p ++ a :: (x ++ s)) := by
  intro x
  obtain ⟨n, hn⟩ : ∃ n, n = x.length := ⟨_, rfl⟩
  induction n generalizing x s with
  | zero =>
    intro _
    have : x = [] := List.eq_nil_of_length_eq_zero hn.symm
    subst this
    rfl
  | succ n ih =>
    intro hx
    obtain ⟨y, b, rfl⟩ : ∃ y b, x = y ++ [b] := ⟨x.dropLast, x.getLast (by intro e; subst e; simp at hn), (List.dropLast_concat_getLast _).symm⟩
    have hy : y.length = n := by simp at hn; omega
    have hl : (y ++ [b]).length = y.length + 1 := by simp
    rw [hl]
    unfold bub
    have e1 : p ++ ((y ++ [b]) ++ a :: s) = (p ++ y) ++ b :: a :: s := by simp
    have e2 : ((p.length + y.length : Nat) : Int) = (((p ++ y).length : Nat) : Int) := by simp
    unfold runP
    rw [e1, e2, canX_mid, hx b (by simp), swp_mid]
    simp only [Bool.not_false, if_true]
    have := ih (b :: s) y hy.symm (fun c hc => hx c (by simp [hc]))
    simpa using this

def tri : Nat → Nat
  | 0 => 0
  | n + 1 => tri n + n

theorem tri_ten {n : Nat} (h : n ≤ 10) : tri n ≤ 45 := by
  have : ∀ m : Fin 11, tri m.val ≤ 45 := by decide
  exact this ⟨n, by omega⟩

/-! ### Parity -/

def below (a : Int) (w : List Int) : Int := (w.filter fun b => decide (b < a)).length
/-- How many pairs of a word are not in order. -/
def invs : List Int → Int
  | [] => 0
  | a :: r => below a r + invs r

end Go.Proofs.Ytabchabbdnhjpaa
