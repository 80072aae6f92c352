/-
  Layer 2, pure: the reference's allows; the calls of a path are an order that keeps time and is allowed.
-/
import Derived.Test.YtlfpagicagmjgaaH14
import Derived.Test.YtlfpagicagmjgaaH6t
import Derived.Test.YtlfpagicagmjgaaH11
namespace Go.Proofs.Ytlfpagicagmjgaa
open Go.RowKit

set_option linter.unusedVariables false
set_option linter.unusedSimpArgs false
set_option maxRecDepth 10000

section
variable {specs : List Tup} {h : List HC6} {V : Pl → Nat}

theorem path_in {p : Pl} {l : List Nat} (hp : Path specs h V p l) : ∀ x ∈ l, x < h.length ∧ bitB p.2 x = false := by
  induction hp with
  | nil p e => intro x hx; cases hx
  | cons p q i l e hi hn hv hl hp ih =>
    obtain ⟨n1, _, rfl⟩ : readyB h p.2 i = true ∧ alwB specs p.1 (hAt h i) = true ∧ q = (goOf specs p.1 (hAt h i), putB p.2 i) := by
      unfold nxt at hn
      split at hn
      · rename_i hra
        simp only [Bool.and_eq_true] at hra
        injection hn with hn
        exact ⟨hra.1, hra.2, hn.symm⟩
      · cases hn
    unfold readyB at n1
    simp only [Bool.and_eq_true, Bool.not_eq_true'] at n1
    intro x hx
    rcases List.mem_cons.1 hx with rfl | hx
    · exact ⟨hi, n1.1⟩
    · obtain ⟨x1, x2⟩ := ih x hx
      have x3 : bitB (putB p.2 i) x = false := x2
      rw [bit_put] at x3
      exact ⟨x1, (Bool.or_eq_false_iff.1 x3).1⟩

theorem path_alw {p : Pl} {l : List Nat} (hp : Path specs h V p l) : alwL specs h p.1 (l.map fun (k : Nat) => (k : Int)) = true := by
  induction hp with
  | nil p e => rfl
  | cons p q i l e hi hn hv hl hp ih =>
    unfold nxt at hn
    split at hn
    · rename_i hra
      simp only [Bool.and_eq_true] at hra
      injection hn with hn
      subst hn
      show (alwB specs p.1 (hAt h ((i : Int)).toNat) && alwL specs h (goOf specs p.1 (hAt h ((i : Int)).toNat)) (l.map fun (k : Nat) => (k : Int))) = true
      rw [Int.toNat_natCast, hra.2, Bool.true_and]
      exact ih
    · cases hn

theorem path_time {p : Pl} {l : List Nat} (hp : Path specs h V p l) : l.Pairwise fun a b => bef (hAt h b) (hAt h a) = false := by
  induction hp with
  | nil p e => exact List.Pairwise.nil
  | cons p q i l e hi hn hv hl hp ih =>
    have hall := path_in hp
    refine List.Pairwise.cons (fun b hb => ?_) ih
    obtain ⟨b1, b2⟩ := hall b hb
    unfold nxt at hn
    split at hn
    · rename_i hra
      simp only [Bool.and_eq_true] at hra
      injection hn with hn
      subst hn
      have b3 : bitB (putB p.2 i) b = false := b2
      rw [bit_put] at b3
      have b4 := (Bool.or_eq_false_iff.1 b3).1
      have hr := hra.1
      unfold readyB at hr
      simp only [Bool.and_eq_true] at hr
      have := allB_iff.1 hr.2 b b1
      rw [b4, Bool.or_false] at this
      simpa using this
    · cases hn

theorem path_mark {p : Pl} {l : List Nat} (hp : Path specs h V p l) : ∀ s : List Bool, s.length = h.length → (∀ j, j < h.length → s.getD j false = bitB p.2 j) → ∃ s', markA s (l.map fun (k : Nat) => (k : Int)) = some s' ∧ ∀ j, j < h.length → (decide ((hAt h j).2.2.2.2.2 = 0) || s'.getD j false) = true := by
  induction hp with
  | nil p e =>
    intro s hs hb
    refine ⟨s, rfl, fun j hj => ?_⟩
    rw [hb j hj]
    unfold fullB at e
    exact allB_iff.1 e j hj
  | cons p q i l e hi hn hv hl hp ih =>
    intro s hs hb
    have hin := (path_in (Path.cons p q i l e hi hn hv hl hp) i (List.mem_cons_self ..)).2
    have hq : q.2 = putB p.2 i := by
      unfold nxt at hn
      split at hn
      · injection hn with hn; rw [← hn]
      · cases hn
    obtain ⟨s', e1, e2⟩ := ih (s.set i true) (by rw [List.length_set]; exact hs) (fun j hj => by
      rw [hq, bit_put, ← hb j hj]
      by_cases e : i = j
      · subst e
        rw [List.getD_eq_getElem?_getD, List.getElem?_set_self (by rw [hs]; exact hj)]; simp
      · rw [List.getD_eq_getElem?_getD, List.getElem?_set_ne e, ← List.getD_eq_getElem?_getD, decide_eq_false e]; simp)
    refine ⟨s', ?_, e2⟩
    show markA s ((i : Int) :: l.map fun (k : Nat) => (k : Int)) = some s'
    unfold markA
    have r1 : (decide ((0 : Int) ≤ (i : Int)) && decide ((i : Int) < (s.length : Int))) = true := by simp; omega
    have r2 : s.getD i false = false := by rw [hb i hi]; exact hin
    rw [if_pos r1, Int.toNat_natCast, r2, if_neg (by simp)]
    exact e1

/-- The calls of a path from the beginning are an order that keeps time and is allowed. -/
theorem path_order {l : List Nat} (hp : Path specs h V ((0, 0), 0) l) : ordB h (l.map fun (k : Nat) => (k : Int)) = true ∧ keepB bef h (l.map fun (k : Nat) => (k : Int)) = true ∧ alwL specs h (0, 0) (l.map fun (k : Nat) => (k : Int)) = true := by
  refine ⟨?_, ?_, path_alw hp⟩
  · obtain ⟨s', e1, e2⟩ := path_mark hp (List.replicate h.length false) (by simp) (fun j hj => by
      have z : bitB ((0, 0), (0 : Int)).2 j = false := by unfold bitB; simp
      rw [z, List.getD_eq_getElem?_getD, List.getElem?_replicate]; split <;> rfl)
    unfold ordB
    rw [e1]
    exact allB_iff.2 e2
  · unfold keepB
    rw [List.length_map]
    refine allB_iff.2 fun i hi => allB_iff.2 fun k hk => ?_
    have ht := List.pairwise_iff_getElem.1 (path_time hp) k i (by omega) hi hk
    have ea : ∀ j, (hj : j < l.length) → atL h (l.map fun (k : Nat) => (k : Int)) j = hAt h l[j] := fun j hj => by
      unfold atL hAt
      rw [List.getD_eq_getElem?_getD (l := l.map _), List.getElem?_map, List.getElem?_eq_getElem hj]; rfl
    rw [ea i hi, ea k (by omega), ht]; rfl

end


end Go.Proofs.Ytlfpagicagmjgaa
