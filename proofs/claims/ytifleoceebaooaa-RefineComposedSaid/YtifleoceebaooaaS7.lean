/-
  Layer 5, pure: the relation that the program keeps, what it holds, and that what rests of it is the greatest one that proves.
-/
import Derived.Test.YtifleoceebaooaaS5
import Derived.Test.YtifleoceebaooaaS6
namespace Go.Proofs.Ytifleoceebaooaa
open Go.RowKit

set_option linter.unusedVariables false
set_option linter.unusedSectionVars false
set_option linter.unusedSimpArgs false

/-- What the array holds. -/
structure Rep (T : El T94) (R : Nat → Nat) : Prop where
  has : ∀ i, i < 6 → intAt T94 T i = ((R i : Nat) : Int)
  lt : ∀ i, R i < 64
  out : ∀ i, 6 ≤ i → R i = 0

theorem rep_zero : Rep (Ty.dflt T94) fun _ => 0 := by
  have : ∀ q, q < 6 → intAt T94 (Ty.dflt T94) q = 0 := by decide +kernel
  exact ⟨fun i hi => this i hi, fun _ => by omega, fun _ _ => rfl⟩

theorem rep_set {T : El T94} {P : Nat → Nat} (h : Rep T P) {i m : Nat} (hi : i < 6) (hm : m < 64) : Rep (setInt T94 T i (m : Int)) fun j => if j = i then m else P j := by
  refine ⟨fun j hj => ?_, fun j => ?_, fun j hj => ?_⟩
  · rw [intAt_setInt (k := .u8) T (m : Int) rfl hi hj]
    split
    · rfl
    · exact h.has j hj
  · split
    · exact hm
    · exact h.lt j
  · rw [if_neg (by omega)]
    exact h.out j hj

/-! ### Its pairs -/

def relK (R : Nat → Nat) (k : Nat) : List (Nat × Nat) := (List.range k).flatMap fun i => (bitsL (R i)).map fun j => (i, j)
def pin (p : Nat × Nat) : Int × Int := ((p.1 : Int), (p.2 : Int))

theorem bitsL_len (m : Nat) : (bitsL m).length ≤ 6 := by
  have := List.length_filter_le m.testBit (List.range 6)
  rw [List.length_range] at this
  exact this

theorem relK_succ (R : Nat → Nat) (k : Nat) : relK R (k + 1) = relK R k ++ (bitsL (R k)).map fun j => (k, j) := by
  unfold relK
  rw [List.range_succ, List.flatMap_append]
  simp

theorem relK_len (R : Nat → Nat) : ∀ k, (relK R k).length ≤ 6 * k
  | 0 => by simp [relK]
  | k + 1 => by
    rw [relK_succ, List.length_append, List.length_map]
    have := relK_len R k
    have := bitsL_len (R k)
    omega

theorem relK_mem {R : Nat → Nat} {k : Nat} {p : Nat × Nat} : p ∈ relK R k ↔ p.1 < k ∧ p.2 < 6 ∧ (R p.1).testBit p.2 = true := by
  unfold relK bitsL
  rw [List.mem_flatMap]
  constructor
  · rintro ⟨i, hi, h⟩
    rw [List.mem_map] at h
    obtain ⟨j, hj, rfl⟩ := h
    rw [List.mem_filter, List.mem_range] at hj
    exact ⟨List.mem_range.1 hi, hj.1, hj.2⟩
  · rintro ⟨h1, h2, h3⟩
    refine ⟨p.1, List.mem_range.2 h1, List.mem_map.2 ⟨p.2, List.mem_filter.2 ⟨List.mem_range.2 h2, h3⟩, rfl⟩⟩

theorem list_in {m : Nat} (i : Nat) (out : List (Int × Int)) (ho : out.length ≤ 100) : whileO (refine_relation_list_b2 (out, (i : Int)) ((bitsL m).map fun (j : Nat) => (j : Int))) (out, 0) = some (out ++ ((bitsL m).map fun j => (i, j)).map pin) := by
  have hb := bitsL_len m
  obtain ⟨r, e1, h⟩ := scan2 (R := List (Int × Int)) (bitsL m) (fun k o => o = out ++ (((bitsL m).take k).map fun j => (i, j)).map pin) (fun r => r = out ++ ((bitsL m).map fun j => (i, j)).map pin) (body := refine_relation_list_b2 (out, (i : Int)) ((bitsL m).map fun (j : Nat) => (j : Int))) (s0 := out) (by simp)
    (fun k j o hk hI => by
      have hlt := (List.getElem?_eq_some_iff.1 hk).1
      have ki : InK .i64 ((k : Int) + 1) := by rw [inK_i64]; omega
      have hol : o.length ≤ 106 := by
        rw [hI, List.length_append, List.length_map, List.length_map, List.length_take]; omega
      have hg : ((bitsL m).map fun (j : Nat) => (j : Int)).getD k 0 = (j : Int) := getD_of (by rw [List.getElem?_map, hk]; rfl)
      refine .inl ⟨o ++ [((i : Int), (j : Int))], ?_, ?_⟩
      · unfold refine_relation_list_b2
        simp only [Int.toNat_natCast, hg, List.length_map]
        rw [if_pos (by rw [decide_eq_true_eq]; omega), ck_pos (by omega), ck_pos (by omega), ck_pos (by omega), ck_pos ki]
      · rw [hI, take_one hk, List.map_append, List.map_append, List.append_assoc]; rfl)
    (fun o hI => by
      refine ⟨o, ?_, by rw [hI, List.take_length]⟩
      unfold refine_relation_list_b2
      simp only [List.length_map]
      rw [if_neg (by rw [decide_eq_true_eq]; omega)])
  rw [e1, h]

theorem list_eq {T : El T94} {R : Nat → Nat} (h : Rep T R) : refine_relation_list T = some ((relK R 6).map pin) := by
  obtain ⟨r, e1, h⟩ := scan2 (R := List (Int × Int)) (List.range 6) (fun k o => o = (relK R k).map pin) (fun r => r = (relK R 6).map pin) (body := refine_relation_list_b1 T) (s0 := []) (by simp [relK])
    (fun k z o hk hI => by
      have hlt := (List.getElem?_eq_some_iff.1 hk).1
      rw [List.length_range] at hlt
      have ki : InK .i64 ((k : Int) + 1) := by rw [inK_i64]; omega
      have hol := relK_len R k
      refine .inl ⟨(relK R (k + 1)).map pin, ?_, rfl⟩
      unfold refine_relation_list_b1
      simp only [Int.toNat_natCast, Nat.mul_one]
      rw [if_pos (by rw [decide_eq_true_eq]; omega), ck_pos (by omega), ck_pos (by omega), h.has k hlt, states_eq (okS_valid (s := ((1 : Int), ([] : List Stp))) (by decide +kernel)) (h.lt k), Option.bind_some, hI, list_in k _ (by rw [List.length_map]; omega), Option.bind_some, relK_succ, List.map_append]
      unfold refine_relation_list_k2
      rw [ck_pos ki])
    (fun o hI => by
      refine ⟨o, ?_, hI⟩
      unfold refine_relation_list_b1
      rw [if_neg (by simp)])
  unfold refine_relation_list
  rw [e1, Option.bind_some, h]
  rfl

/-! ### What follows, what is held -/

section
variable {c a : Sys} {Tc Ta : El T69} (hc : OkS c) (ha : OkS a) (hT : Frm a Ta)
include hc ha hT

def full (c a : Sys) (x : Nat) : Nat := if x < c.1.toNat then 2 ^ a.1.toNat - 1 else 0

/-- How much there is in it. -/
def mu (P : Nat → Nat) : Nat := cnt (P 0) + cnt (P 1) + cnt (P 2) + cnt (P 3) + cnt (P 4) + cnt (P 5)

end

end Go.Proofs.Ytifleoceebaooaa
