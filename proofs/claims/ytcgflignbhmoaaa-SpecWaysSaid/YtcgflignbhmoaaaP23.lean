/-
  Layer 1, pure: the law about calls that commute, overwrite, only read, meddle.
-/
import Derived.Test.YtcgflignbhmoaaaP9
import Derived.Test.YtcgflignbhmoaaaP22
namespace Go.Proofs.Ytcgflignbhmoaaa
open Go.RowKit

set_option linter.unusedVariables false
set_option linter.unusedSectionVars false
set_option linter.unusedSimpArgs false
attribute [local irreducible] sameB waysL dF

section
variable {s : Tup} (hv : (toSp s).ok = true)
include hv

theorem reached_both : ∃ ys : List Int, spec_machine_reached s = some ys ∧ linealref01_reached s = some ys ∧ ys.length ≤ 8 ∧ (∀ x, x ∈ ys ↔ x ∈ (waysL s).map (·.1)) ∧ ∀ x ∈ ys, inR s.1 x = true := by
  have hm := Sp.okE hv
  have h1 : 1 ≤ s.1 := hm.1
  have h2 : s.1 ≤ 8 := hm.2.1
  have hwl := ways_len hv
  obtain ⟨ys, y1, y2, y3⟩ := Sort_asc ((waysL s).map (·.1)) (by rw [List.length_map]; omega)
  have hyl : ys.length ≤ 8 := by rw [y2.length_eq, List.length_map]; omega
  have hin : ∀ x, x ∈ (waysL s).map (·.1) → inR s.1 x = true := fun x hx => by
    obtain ⟨z, hz, rfl⟩ := List.mem_map.1 hx
    exact ways_in hv hz
  have hprog : spec_machine_reached s = some ys := by
    unfold spec_machine_reached spec_machine_ways
    rw [Option.bind_some, ways_eq (R := Empty) hv spec_machine_reached_y1 [] (fold_app 0 (waysL s) [] (by simp; omega)), Option.bind_some]
    simp only [List.nil_append]
    unfold spec_machine_reached_k1
    rw [y1, Option.bind_some]
  obtain ⟨W, T, t1, t2, t3⟩ := ref_ways hv
  obtain ⟨zs, z1, z2⟩ := loop_ex (body := linealref01_reached_b1 (W, T)) (fun (y : List Int) (k : Int) => (y, k)) (fun y => y) s.1.toNat (fun k y => y.length ≤ k ∧ y.Pairwise (· < ·) ∧ ∀ x, x ∈ y ↔ ∃ q : Nat, x = q ∧ q < k ∧ T.getD q false = true) (fun k y hk hy => by
    obtain ⟨a1, a2, a3⟩ := hy
    have ki : InK .i64 ((k : Int) + 1) := by rw [inK_i64]; omega
    unfold linealref01_reached_b1
    simp only [Int.toNat_natCast]
    rw [if_pos (by rw [decide_eq_true_eq]; omega), ck_pos (by omega), ck_pos (by omega)]
    by_cases hT : T.getD k false = true
    · refine ⟨y ++ [(k : Int)], by rw [if_pos hT, ck_pos (by omega), ck_pos ki], by simp; omega, ?_, fun x => ?_⟩
      · rw [List.pairwise_append]
        refine ⟨a2, by simp, fun c hc d hd => ?_⟩
        simp at hd; subst hd
        obtain ⟨q, rfl, hq, _⟩ := (a3 c).1 hc
        omega
      · rw [List.mem_append, a3, List.mem_singleton]
        constructor
        · rintro (⟨q, e, hq, hTq⟩ | e)
          · exact ⟨q, e, by omega, hTq⟩
          · exact ⟨k, e, by omega, hT⟩
        · rintro ⟨q, e, hq, hTq⟩
          rcases Nat.lt_succ_iff_lt_or_eq.1 hq with h | h
          · exact .inl ⟨q, e, h, hTq⟩
          · subst h; exact .inr e
    · refine ⟨y, by rw [if_neg hT, ck_pos ki], by omega, a2, fun x => ?_⟩
      rw [a3]
      constructor
      · rintro ⟨q, e, hq, hTq⟩
        exact ⟨q, e, by omega, hTq⟩
      · rintro ⟨q, e, hq, hTq⟩
        rcases Nat.lt_succ_iff_lt_or_eq.1 hq with h | h
        · exact ⟨q, e, h, hTq⟩
        · subst h; exact absurd hTq hT) (fun y _ => by
    unfold linealref01_reached_b1
    simp only
    rw [if_neg (by rw [decide_eq_true_eq]; omega)]) s.1.toNat 0 [] (by omega) (by omega) ⟨by simp, List.Pairwise.nil, fun x => ⟨fun h => by simp at h, fun ⟨q, _, h, _⟩ => by omega⟩⟩
  obtain ⟨z3, z4, z5⟩ := z2
  have hmem : ∀ x, x ∈ zs ↔ x ∈ (waysL s).map (·.1) := fun x => by
    rw [z5]
    constructor
    · rintro ⟨q, rfl, hq, hT⟩
      exact (t3 q hq).1 hT
    · intro h
      have := hin x h
      simp only [inR, decide_eq_true_eq] at this
      obtain ⟨q, rfl⟩ := Int.eq_ofNat_of_zero_le this.1
      exact ⟨q, rfl, by omega, (t3 q (by omega)).2 h⟩
  have e : ys = zs := asc_ext y3 (z4.imp fun h => Int.le_of_lt h) ((y2.nodup_iff).2 (ways_nodup hv)) (z4.imp fun h e => by omega) fun x => by rw [hmem, y2.mem_iff]
  refine ⟨ys, hprog, ?_, hyl, fun x => y2.mem_iff, fun x hx => hin x (y2.mem_iff.1 hx)⟩
  unfold linealref01_reached
  have z1' : whileO (linealref01_reached_b1 (W, T)) ([], 0) = some zs := z1
  rw [t1, Option.bind_some, z1', Option.bind_some, e]
  rfl

end

end Go.Proofs.Ytcgflignbhmoaaa
