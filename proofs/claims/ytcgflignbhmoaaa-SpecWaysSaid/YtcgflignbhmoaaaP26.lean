/-
  Layer 1, pure: the reference's word and classes, computed; the law about words.
-/
import Derived.Test.YtcgflignbhmoaaaP25
namespace Go.Proofs.Ytcgflignbhmoaaa
open Go.RowKit

set_option linter.unusedVariables false
set_option linter.unusedSectionVars false
set_option linter.unusedSimpArgs false

section
variable {S T : Sp} (hS : S.ok = true) (hT : T.ok = true) (hop : S.op = T.op)
include hS hT hop
end

section
variable {s t : Tup} (hv : (toSp s).ok = true) (hw : (toSp t).ok = true) (hop : s.2.1 = t.2.1)
include hv hw hop

attribute [local irreducible] dF tolW

end

attribute [local irreducible] sameB dF leastF

theorem dF_same {s : Tup} (hv : (toSp s).ok = true) {a b : Nat} (ha : (a : Int) < s.1) (hb : (b : Int) < s.1) : dF s s (s.1.toNat * s.1.toNat) a b = 0 ↔ sameB s a b = true := by
  have ia : inR s.1 (a : Int) = true := by simp only [inR, decide_eq_true_eq]; omega
  have ib : inR s.1 (b : Int) = true := by simp only [inR, decide_eq_true_eq]; omega
  have hz := dF_zero hv hv rfl (s.1.toNat * s.1.toNat) a b ha hb
  have hle : s.1.toNat ≤ s.1.toNat * s.1.toNat := Nat.le_mul_of_pos_left _ (by omega)
  rw [hz, same_iff hv ia ib]
  refine ⟨fun h w hc => Classical.byContradiction fun hd => ?_, fun h w hc _ => h w hc⟩
  obtain ⟨v, v1, v2, v3⟩ := short_diff hv ia ib hc hd
  have v3' : (v.length : Int) ≤ s.1 - 1 := v3
  exact v2 (h v v1 (by omega))

/-- The classes, as the reference counts them. -/
theorem ref_classes_eq {s : Tup} (hv : (toSp s).ok = true) : linealref01_classes s = some (clsL s) := by
  obtain ⟨M, h1, h2⟩ := far_eq hv hv rfl
  have hm := Sp.okE hv
  have q1 : 1 ≤ s.1 := hm.1
  have q2 : s.1 ≤ 8 := hm.2.1
  have k0 := h2.1.1
  have inner : ∀ (i : Nat) (out : List Int), (i : Int) < s.1 → ∀ (j : Nat), j ≤ i + 1 → ∀ le : Int, whileN (linealref01_classes_b2 M (out, (i : Int))) (j + 1) (le, (j : Int) - 1) = some (match (List.range j).find? (fun (k : Nat) => sameB s (k : Int) (i : Int)) with | some o => (o : Int) | none => le) := by
    intro i out hi j
    have k1 := h2.1.2 i (by omega)
    induction j with
    | zero =>
      intro _ le
      unfold whileN linealref01_classes_b2
      rw [if_neg (by rw [decide_eq_true_eq]; simp only; omega)]
      rfl
    | succ j ih =>
      intro hj le
      have e : (((j + 1 : Nat) : Int)) - 1 = (j : Int) := by omega
      have he : (M.getD i []).getD j 0 = dF s s (s.1.toNat * s.1.toNat) i j := h2.2 i j (by omega) (by omega)
      have ki : InK .i64 ((j : Int) - 1) := by rw [inK_i64]; omega
      have ii : inR s.1 (i : Int) = true := by simp only [inR, decide_eq_true_eq]; omega
      have ij : inR s.1 (j : Int) = true := by simp only [inR, decide_eq_true_eq]; omega
      have hsm : dF s s (s.1.toNat * s.1.toNat) i j = 0 ↔ sameB s (j : Int) (i : Int) = true := by
        rw [dF_same hv hi (by omega)]
        exact ⟨fun h => same_symm hv ii ij h, fun h => same_symm hv ij ii h⟩
      have step : linealref01_classes_b2 M (out, (i : Int)) (le, (j : Int)) = some (.next (if sameB s (j : Int) (i : Int) = true then (j : Int) else le, (j : Int) - 1)) := by
        unfold linealref01_classes_b2
        simp only [Int.toNat_natCast, he, ck_pos ki]
        rw [if_pos (by rw [decide_eq_true_eq]; omega), ck_pos (by omega), ck_pos (by omega), ck_pos (by omega), ck_pos (by omega)]
        by_cases hs : sameB s (j : Int) (i : Int) = true
        · rw [if_pos (by rw [decide_eq_true_eq]; exact hsm.2 hs), if_pos hs]
        · rw [if_neg (by rw [decide_eq_true_eq]; exact fun h => hs (hsm.1 h)), if_neg hs]
      unfold whileN
      rw [e, step]
      simp only
      rw [ih (by omega), List.range_succ, List.find?_append]
      cases (List.range j).find? (fun (k : Nat) => sameB s (k : Int) (i : Int)) with
      | some o => rfl
      | none =>
        by_cases h : sameB s (j : Int) (i : Int) = true
        · simp [h]
        · simp [h]
  have hout := whileO_app (body := linealref01_classes_b1 s M) s.1.toNat (fun (i : Nat) => (leastF s i : Int)) (fun k hk => by
    have hlen : ((List.range k).map fun (i : Nat) => (leastF s i : Int)).length = k := by simp
    generalize ((List.range k).map fun (i : Nat) => (leastF s i : Int)) = out at hlen ⊢
    have hin := whileO_of (inner k out (by omega) (k + 1) (Nat.le_refl _) (k : Int))
    have e : (((k + 1 : Nat) : Int)) - 1 = (k : Int) := by omega
    rw [e] at hin
    have ik : inR s.1 (k : Int) = true := by simp only [inR, decide_eq_true_eq]; omega
    have hself : sameB s (k : Int) (k : Int) = true := same_refl hv ik
    have hm2 : (match (List.range (k + 1)).find? (fun (q : Nat) => sameB s (q : Int) (k : Int)) with | some o => (o : Int) | none => (k : Int)) = (leastF s k : Int) := by
      rw [List.range_succ, List.find?_append]
      have hd : leastF s k = ((List.range k).find? fun (j : Nat) => sameB s j k).getD k := by unfold leastF; rfl
      rw [hd]
      cases (List.range k).find? (fun (q : Nat) => sameB s (q : Int) (k : Int)) with
      | some o => rfl
      | none => simp [hself]
    rw [hm2] at hin
    unfold linealref01_classes_b1
    simp only
    rw [if_pos (by rw [decide_eq_true_eq]; omega), hin, Option.bind_some]
    unfold linealref01_classes_k3 linealref01_classes_k2
    simp only
    rw [ck_pos (by omega), ck_pos (by rw [inK_i64]; omega)]) (by
    unfold linealref01_classes_b1
    simp only
    rw [if_neg (by rw [decide_eq_true_eq]; omega)])
  unfold linealref01_classes
  rw [h1, Option.bind_some, hout, Option.bind_some]
  unfold linealref01_classes_k1 clsL
  rfl

end Go.Proofs.Ytcgflignbhmoaaa
