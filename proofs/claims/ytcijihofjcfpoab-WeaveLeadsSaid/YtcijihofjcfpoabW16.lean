/-
  Layer 3, pure: WeaveLeads.
-/
import Derived.Test.YtcijihofjcfpoabW15
namespace Go.Proofs.Ytcijihofjcfpoab
open Go.RowKit

set_option linter.unusedVariables false
set_option linter.unusedSimpArgs false
set_option maxRecDepth 10000

variable {l : Ltr}

theorem Path_ok (hf : few l.2) (hl : okL l = true) {w v : List Int} (hw : isWd l w = true) (hv : isWd l v = true) (he : eqv l v w) : ∃ pl, weave_Path l w v = some (pl, 0) ∧ runP l pl w = some v ∧ pl.length ≤ 45 := by
  obtain ⟨pl, e1, e2, _⟩ := Path_eq l w v hf (len60 hw) (len60 hv)
  have h0 := errW_of2 hl hw hv
  refine ⟨pl, ?_, e2 h0 he⟩
  rw [e1, if_pos h0, if_pos he]

theorem IsPath_ok (hf : few l.2) (hl : okL l = true) {w v path : List Int} (hw : isWd l w = true) (hv : isWd l v = true) (hp : path.length ≤ 1000) (hr : runP l path w = some v) : weave_IsPath l w v path = some (true, 0) := by
  rw [IsPath_eq l w v path hf (len60 hw) (len60 hv)]
  unfold pathA
  rw [if_pos (errW_of2 hl hw hv), if_neg (by omega), hr]
  simp

theorem Exchanged_ok (hf : few l.2) (hl : okL l = true) {w : List Int} (hw : isWd l w = true) (z : Int) : weave_Exchanged l w z = some (if canX l w z = true then (swp w z, 0) else ([], 2)) := by
  rw [Exchanged_eq l w z hf (len60 hw), if_pos (errW_of1 hl hw)]

theorem Depend_ok (hf : few l.2) (hl : okL l = true) {a b : Int} (ha : isLet l a = true) (hb : isLet l b = true) : weave_Depend l a b = some (dep l a b, 0) := by
  rw [Depend_eq l a b hf, if_pos hl, if_pos ⟨ha, hb⟩]

theorem isWd_isLet {w : List Int} (hw : isWd l w = true) {a : Int} (ha : a ∈ w) : isLet l a = true := by
  have := isWd_let hw ha
  unfold isLet; simp; exact this

theorem Leads_k1 (hf : few l.2) (hl : okL l = true) {w v steps : List Int} (hw : isWd l w = true) (hs : runP l steps w = some v) (hsl : steps.length ≤ 200) : lineallaw03_WeaveLeads_k1 l w (v, steps) = some true := by
  have he : eqv l v w := eqv_symm (runP_eqv hs)
  have hv := eqv_isWd he hw
  obtain ⟨pl, e1, e2, e3⟩ := Path_ok hf hl hw hv he
  unfold lineallaw03_WeaveLeads_k1
  simp only
  rw [IsPath_ok hf hl hw hv (by omega) hs, Option.bind_some, Equal_ok hf hl hw hv, Option.bind_some, e1, Option.bind_some, IsPath_ok hf hl hw hv (by omega) e2, Option.bind_some]
  have hF : FF l w = FF l v := (FF_eq he).symm
  simp only [hF, decide_true, if_true]
  have p1 := runP_invs hs
  have p2 := runP_invs e2
  rw [ck_pos (by rw [inK_i64]; omega), if_pos (by
    simp only [decide_eq_true_eq]
    exact Int.tmod_eq_zero_of_dvd (by omega)), Awake3_eq]
  rfl

theorem WeaveLeads_eq (l : Ltr) (hf : few l.2) (w path : List Int) (hpk : ∀ x ∈ path, InK .u8 x) (at0 : Int) (_ : InK .u8 at0) : lineallaw03_WeaveLeads l w path at0 = some true := by
  unfold lineallaw03_WeaveLeads
  rcases valid_cases (l := l) [w] hf (by unfold few; simp) with h | ⟨h, hl, hws⟩
  · rw [h, Option.bind_some, Awake3_eq]; rfl
  rw [h, Option.bind_some]
  have hw := hws w (by simp)
  have hwl := isWd_len hw
  simp only [Bool.not_true, Bool.false_eq_true, if_false]
  by_cases hp : 200 < path.length
  · rw [if_pos (by simp; omega), Awake3_eq]; rfl
  rw [if_neg (by simp; omega), ck_pos (by omega)]
  have hs := whileO_inv (S := List Int × List Int × Int) (R := Sum (List Int × List Int) Unit) (body := lineallaw03_WeaveLeads_b1 l path)
    (fun st => ∃ k : Nat, st.2.2 = (k : Int) ∧ k ≤ path.length ∧ runP l st.2.1 w = some st.1 ∧ st.2.1.length ≤ k) (fun st => path.length - st.2.2.toNat)
    (fun r => match r with | .inl r => runP l r.2 w = some r.1 ∧ r.2.length ≤ 200 | .inr _ => False) ?_ (w, [], 0) ⟨0, rfl, Nat.zero_le _, rfl, by simp⟩
  · obtain ⟨r, er, hr⟩ := hs
    rw [er, Option.bind_some]
    cases r with
    | inl r => exact Leads_k1 hf hl hw hr.1 hr.2
    | inr u => exact hr.elim
  · rintro ⟨v, steps, z⟩ ⟨k, rfl, hk, hrun, hst⟩
    simp only at hrun hst ⊢
    have hv := eqv_isWd (eqv_symm (runP_eqv hrun)) hw
    have hvl := isWd_len hv
    unfold lineallaw03_WeaveLeads_b1
    simp only
    by_cases hlt : k < path.length
    · have hpa : path[k]? = some path[k] := List.getElem?_eq_getElem hlt
      obtain ⟨q, hq⟩ : ∃ q, q = path[k] := ⟨_, rfl⟩
      rw [← hq] at hpa
      have hqk := hpk q (List.mem_of_getElem? hpa)
      rw [inK_u8] at hqk
      rw [if_pos (by simpa using hlt), ck_pos (by simp), ck_pos (by simpa using hlt), Int.toNat_natCast, getD_of hpa]
      by_cases h2 : v.length < 2
      · rw [if_pos (by simp; omega)]
        exact .inr ⟨_, rfl, hrun, by simp only; omega⟩
      · rw [if_neg (by simp; omega), ck_pos (by rw [inK_i64]; omega), ck_pos (by rw [inK_i64]; omega), ck_pos (by omega), ck_pos (by omega)]
        obtain ⟨z, hz⟩ : ∃ z, z = q % ((v.length : Int) - 1) := ⟨_, rfl⟩
        have hz0 : 0 ≤ z := by rw [hz]; exact Int.emod_nonneg _ (by omega)
        have hz1 : z < (v.length : Int) - 1 := by rw [hz]; exact Int.emod_lt_of_pos _ (by omega)
        rw [← hz, Exchanged_ok hf hl hv z, Option.bind_some, ck_pos (by omega), ck_pos (by omega), ck_pos (by rw [inK_i64]; omega), ck_pos (by omega), ck_pos (by omega)]
        have ha := isWd_isLet hv (getD_mem (w := v) (i := z.toNat) (by omega))
        have hb := isWd_isLet hv (getD_mem (w := v) (i := (z + 1).toNat) (by omega))
        rw [Depend_ok hf hl ha hb, Option.bind_some]
        have hcan : canX l v z = !dep l (v.getD z.toNat 0) (v.getD (z + 1).toNat 0) := by
          unfold canX
          have g1 : decide (0 ≤ z) = true := by simpa using hz0
          have g2 : decide (z < (v.length : Int) - 1) = true := by simpa using hz1
          rw [g1, g2]; rfl
        rw [hcan, if_neg (by simp)]
        cases hd : dep l (v.getD z.toNat 0) (v.getD (z + 1).toNat 0) with
        | true =>
          simp only [Bool.not_true, Bool.false_eq_true, if_false]
          rw [if_neg (by simp), if_neg (by simp), ck_pos (by rw [inK_i64]; omega)]
          exact .inl ⟨_, rfl, ⟨k + 1, by simp, by omega, hrun, by simp only; omega⟩, by simp; omega⟩
        | false =>
          rw [hd] at hcan
          simp only [Bool.not_false, if_true]
          rw [if_neg (by simp), if_neg (by simp), if_pos (by simp), if_neg (by simp [swp_len]), ck_pos (by omega), ck_pos (by rw [inK_i64]; omega)]
          refine .inl ⟨_, rfl, ⟨k + 1, by simp, by omega, ?_, by simp; omega⟩, by simp; omega⟩
          simp only
          rw [runP_append, hrun, Option.bind_some]
          unfold runP
          rw [hcan]
          rfl
    · rw [if_neg (by simp; omega)]
      exact .inr ⟨_, rfl, hrun, by simp only; omega⟩

end Go.Proofs.Ytcijihofjcfpoab
