/-
  Layer 5, pure: relations as lists of pairs, one behind the other.
-/
import Derived.Test.YtifleoceebaooaaS8
namespace Go.Proofs.Ytifleoceebaooaa

set_option linter.unusedVariables false
set_option linter.unusedSimpArgs false
set_option maxRecDepth 100000
set_option maxHeartbeats 1000000

/-! ### Lists in ascending order -/

def pairB (n m : Int) (p : Int × Int) : Bool := decide (0 ≤ p.1 ∧ p.1 < n ∧ 0 ≤ p.2 ∧ p.2 < m)
def lexB (p q : Int × Int) : Bool := decide (p.1 < q.1 ∨ p.1 = q.1 ∧ p.2 < q.2)
def isRelB (n m : Int) (l : List (Int × Int)) : Bool := allB l.length fun i => pairB n m (l.getD i (0, 0)) && (decide (i = 0) || lexB (l.getD (i - 1) (0, 0)) (l.getD i (0, 0)))

/-! ### Marks gathered along a list of pairs -/

def accM (L : List (Nat × Nat)) (g : Nat × Nat → Nat) (x : Nat) : Nat := L.foldl (fun m p => if p.1 = x then m ||| g p else m) 0

/-! ### The reference's relations -/

/-- What a list of marks holds. -/
structure RepL (k : Nat) (ps : List Int) (R : Nat → Nat) : Prop where
  len : ps.length = k
  has : ∀ i, i < k → ps.getD i 0 = ((R i : Nat) : Int)
  lt : ∀ i, R i < 64
  out : ∀ i, k ≤ i → R i = 0

theorem reflist_eq {m : Nat} (hm : m < 64) : linealref05_list (m : Int) = some ((bitsL m).map fun (i : Nat) => (i : Int)) := by
  obtain ⟨r, e1, h⟩ := scan2 (R := List Int) (List.range 6) (fun k (o : List Int) => o = (((List.range k).filter m.testBit).map fun (i : Nat) => (i : Int))) (fun r => r = (bitsL m).map fun (i : Nat) => (i : Int)) (body := linealref05_list_b1 (m : Int)) (s0 := []) rfl
    (fun k z o hk hI => by
      have hlt := (List.getElem?_eq_some_iff.1 hk).1
      rw [List.length_range] at hlt
      have ki : InK .i64 ((k : Int) + 1) := by rw [inK_i64]; omega
      have hol : o.length ≤ k := by
        rw [hI, List.length_map]
        have := List.length_filter_le m.testBit (List.range k)
        rwa [List.length_range] at this
      refine .inl ⟨((List.range (k + 1)).filter m.testBit).map fun (i : Nat) => (i : Int), ?_, rfl⟩
      unfold linealref05_list_b1
      simp only
      rw [if_pos (by rw [decide_eq_true_eq]; omega), ck_pos (by omega), bits_i64 m hm k hlt, List.range_succ, List.filter_append, List.map_append]
      cases hb : m.testBit k with
      | true => rw [if_pos rfl, ck_pos (by omega), ck_pos ki, hI]; simp [hb]
      | false => rw [if_neg (by simp), ck_pos ki, hI]; simp [hb])
    (fun o hI => by
      refine ⟨o, ?_, hI⟩
      unfold linealref05_list_b1
      rw [if_neg (by simp)])
  unfold linealref05_list
  rw [e1, Option.bind_some, h]
  rfl

/-! ### The law -/

end Go.Proofs.Ytifleoceebaooaa
