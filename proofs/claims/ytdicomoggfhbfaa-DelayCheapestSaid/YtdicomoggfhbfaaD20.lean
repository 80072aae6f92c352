/-
  DelayRenamed: threads under other numbers.
-/
import Derived.Test.YtdicomoggfhbfaaD18
import Derived.Test.YtdicomoggfhbfaaD13
namespace Go.Proofs.Ytdicomoggfhbfaa
open Go.RowKit

set_option linter.unusedVariables false
set_option linter.unusedSimpArgs false

def bitL : List Fen → Nat → List Fen
  | [], _ => []
  | a :: r, s => if s.testBit 0 = true then a :: bitL r (s / 2) else bitL r (s / 2)
theorem drop_cons {α : Type} {l : List α} {k : Nat} {a : α} (h : l[k]? = some a) : l.drop k = a :: l.drop (k + 1) := by
  obtain ⟨h1, h2⟩ := List.getElem?_eq_some_iff.1 h
  rw [List.drop_eq_getElem_cons h1, h2]

/-! ### What is chosen, and what it costs -/
def errO (x : Acs) (cs : Cos) : Int := if vld x = true then (if areC x cs = true then 0 else 2) else 90
theorem errO_zero {x : Acs} {cs : Cos} : errO x cs = 0 ↔ vld x = true ∧ areC x cs = true := by
  unfold errO
  cases vld x <;> cases areC x cs <;> simp

/-- The best fences; none where there are none. -/
theorem best_ex (x : Acs) (cs : Cos) : ∃ m, (errO x cs = 0 → isBest x cs m) ∧ delay_Cheapest x cs = some (if errO x cs = 0 then m else [], errO x cs) ∧ delay_Least x cs = some (if errO x cs = 0 then cstF cs m else 0, errO x cs) := by
  unfold delay_Cheapest delay_Least
  rw [offerOf_eq]
  simp only [Option.bind_some]
  unfold errO
  cases hv : vld x with
  | false => exact ⟨[], by simp, rfl, rfl⟩
  | true =>
    cases hc : areC x cs with
    | false => exact ⟨[], by simp, rfl, rfl⟩
    | true =>
      obtain ⟨m, e, hm⟩ := cheapest_eq hv hc
      have hml := hm.1.1.length_le
      have h9 := fens_len hv
      refine ⟨m, fun _ => hm, ?_, ?_⟩
      · simp only [if_true]
        rw [if_neg (by simp), e]; rfl
      · simp only [if_true]
        rw [if_neg (by simp), e, Option.bind_some]
        unfold delay_offer_cost
        dsimp only
        rw [costOf_eq hc (by omega) (sub_fens hm.1.1)]; rfl



def thr (th : List Int) (t : Int) : Int := th.getD t.toNat 0
def reS (th : List Int) (s : Sta) : Sta := (thr th s.1, s.2.1, s.2.2)
def reF (th : List Int) (f : Fen) : Fen := (thr th f.1, f.2)
def rn {α : Type} (L : List (List α)) (th : List Int) : List (List α) := th.map fun t => L.getD t.toNat []

theorem getD_mapS {α β : Type} {l : List α} {k : Nat} (h : k < l.length) (f : α → β) (d : β) (e : α) : (l.map f).getD k d = f (l.getD k e) := by
  rw [List.getD_eq_getElem?_getD, List.getElem?_map, List.getElem?_eq_getElem h, getD_of (List.getElem?_eq_getElem h)]; rfl

section
variable {x : Acs} {th : List Int} (hb : thrB x.length th = true)
include hb

end

theorem sum_permI {a b : List Int} (h : a.Perm b) : a.sum = b.sum := by
  induction h with
  | nil => rfl
  | cons a _ ih => simp only [List.sum_cons, ih]
  | swap a b l => simp only [List.sum_cons]; omega
  | trans _ _ h1 h2 => exact h1.trans h2
/-! ### The other way -/
def bkT (n : Nat) (th : List Int) : List Int := (List.range n).map fun (t : Nat) => ((th.idxOf (t : Int) : Nat) : Int)
end Go.Proofs.Ytdicomoggfhbfaa
