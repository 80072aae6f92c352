/-
  Layer 1, pure: the reference's machine of two side by side, and whether two are alike, computed; the law about pairs.
-/
import Derived.Test.YtcgflignbhmoaaaP11
import Derived.Test.YtcgflignbhmoaaaP26
namespace Go.Proofs.Ytcgflignbhmoaaa
open Go.RowKit

set_option linter.unusedVariables false
set_option linter.unusedSectionVars false
set_option linter.unusedSimpArgs false

section
variable {s t : Tup} (hv : (toSp s).ok = true) (hw : (toSp t).ok = true)
include hv hw

theorem refBoth_b3 {i k : Nat} (hi : (i : Int) < s.1) (hk : (k : Int) < t.1) (a b c d : List (List Int)) : whileO (linealref01_Both_b3 s t (a, b, (i : Int)) (c, d, (k : Int))) ([], [], 0) = some ((s.2.2.1.getD i []).map fun x => x * t.1 + (k : Int), s.2.2.2.getD i []) := by
  have hm := Sp.okE hv
  have hm' := Sp.okE hw
  have m1 : s.1 ≤ 8 := hm.2.1
  have m2 : t.1 ≤ 8 := hm'.2.1
  have m3 : s.2.1 ≤ 4 := hm.2.2.2.1
  obtain ⟨r1, r2, r3, _, r5, r6⟩ := row_gen hv hi
  have hbody : ∀ x : List Int × List Int × Int, linealref01_Both_b3 s t (a, b, (i : Int)) (c, d, (k : Int)) x = if (decide (x.2.2 < s.2.1)) = true then
      ck (0 ≤ (i : Int)) <| ck ((i : Int) < (s.2.2.1.length : Int)) <| ck (0 ≤ x.2.2) <| ck (x.2.2 < ((s.2.2.1.getD i []).length : Int)) <| ck (InK .i64 (((s.2.2.1.getD i []).getD x.2.2.toNat 0) * t.1)) <| ck (InK .i64 ((((s.2.2.1.getD i []).getD x.2.2.toNat 0) * t.1) + (k : Int))) <| ck ((x.1.length + 1) * 8 ≤ 140737488355328) <| ck (0 ≤ (i : Int)) <| ck ((i : Int) < (s.2.2.2.length : Int)) <| ck (0 ≤ x.2.2) <| ck (x.2.2 < ((s.2.2.2.getD i []).length : Int)) <| ck ((x.2.1.length + 1) * 8 ≤ 140737488355328) <| ck (InK .i64 (x.2.2 + 1)) <| some (.next ((x.1 ++ [((((s.2.2.1.getD i []).getD x.2.2.toNat 0) * t.1) + (k : Int))]), (x.2.1 ++ [((s.2.2.2.getD i []).getD x.2.2.toNat 0)]), (x.2.2 + 1)))
      else some (.done (x.1, x.2.1)) := fun x => rfl
  generalize s.2.2.1.getD i [] = r at *
  generalize s.2.2.2.getD i [] = q at *
  have := whileO_seq (body := linealref01_Both_b3 s t (a, b, (i : Int)) (c, d, (k : Int))) (fun j => ((List.range j).map fun j => r.getD j 0 * t.1 + (k : Int), (List.range j).map fun j => q.getD j 0, ((j : Nat) : Int))) r.length (r := ((List.range r.length).map fun j => r.getD j 0 * t.1 + (k : Int), (List.range r.length).map fun j => q.getD j 0)) (fun j hj => ?_) ?_
  · have e : r.length = q.length := by omega
    rw [map_range_getD (l := r) (fun x => x * t.1 + (k : Int)), e, map_range_getD (l := q) (fun x => x), List.map_id'] at this
    exact this
  · have hx := r2 (r.getD j 0) (by rw [List.getD_eq_getElem?_getD, List.getElem?_eq_getElem hj]; exact List.getElem_mem hj)
    have hmul := mul_small (a := r.getD j 0) (b := t.1) hx.1 (by omega) (by omega) m2
    rw [hbody]
    simp only
    rw [if_pos (by rw [decide_eq_true_eq]; omega), ck_pos (by omega), ck_pos (by omega), ck_pos (by omega), ck_pos (by omega), Int.toNat_natCast, ck_pos (by rw [inK_i64]; omega), ck_pos (by rw [inK_i64]; omega), ck_pos (by rw [List.length_map, List.length_range]; omega), ck_pos (by omega), ck_pos (by omega), ck_pos (by omega), ck_pos (by omega), ck_pos (by rw [List.length_map, List.length_range]; omega), ck_pos (by rw [inK_i64]; omega), List.range_succ, List.map_append, List.map_append]
    rfl
  · rw [hbody]
    simp only
    rw [if_neg (by rw [decide_eq_true_eq]; omega)]

theorem refBoth_b4 {i k : Nat} (hi : (i : Int) < s.1) (hk : (k : Int) < t.1) (a b c d : List (List Int)) (p1 p2 : List Int) (hp : p1.length ≤ 8) (hp2 : p2.length ≤ 8) : whileO (linealref01_Both_b4 t (a, b, (i : Int)) (c, d, (k : Int))) (p1, p2, 0) = some (p1 ++ (t.2.2.1.getD k []).map fun x => (i : Int) * t.1 + x, p2 ++ t.2.2.2.getD k []) := by
  have hm := Sp.okE hv
  have hm' := Sp.okE hw
  have m1 : s.1 ≤ 8 := hm.2.1
  have m2 : t.1 ≤ 8 := hm'.2.1
  have m3 : t.2.1 ≤ 4 := hm'.2.2.2.1
  obtain ⟨r1, r2, r3, _, r5, r6⟩ := row_gen hw hk
  have hbody : ∀ x : List Int × List Int × Int, linealref01_Both_b4 t (a, b, (i : Int)) (c, d, (k : Int)) x = if (decide (x.2.2 < t.2.1)) = true then
      ck (InK .i64 ((i : Int) * t.1)) <| ck (0 ≤ (k : Int)) <| ck ((k : Int) < (t.2.2.1.length : Int)) <| ck (0 ≤ x.2.2) <| ck (x.2.2 < ((t.2.2.1.getD k []).length : Int)) <| ck (InK .i64 (((i : Int) * t.1) + ((t.2.2.1.getD k []).getD x.2.2.toNat 0))) <| ck ((x.1.length + 1) * 8 ≤ 140737488355328) <| ck (0 ≤ (k : Int)) <| ck ((k : Int) < (t.2.2.2.length : Int)) <| ck (0 ≤ x.2.2) <| ck (x.2.2 < ((t.2.2.2.getD k []).length : Int)) <| ck ((x.2.1.length + 1) * 8 ≤ 140737488355328) <| ck (InK .i64 (x.2.2 + 1)) <| some (.next ((x.1 ++ [(((i : Int) * t.1) + ((t.2.2.1.getD k []).getD x.2.2.toNat 0))]), (x.2.1 ++ [((t.2.2.2.getD k []).getD x.2.2.toNat 0)]), (x.2.2 + 1)))
      else some (.done (x.1, x.2.1)) := fun x => rfl
  generalize t.2.2.1.getD k [] = r at *
  generalize t.2.2.2.getD k [] = q at *
  have := whileO_seq (body := linealref01_Both_b4 t (a, b, (i : Int)) (c, d, (k : Int))) (fun j => (p1 ++ (List.range j).map fun j => (i : Int) * t.1 + r.getD j 0, p2 ++ (List.range j).map fun j => q.getD j 0, ((j : Nat) : Int))) r.length (r := (p1 ++ (List.range r.length).map fun j => (i : Int) * t.1 + r.getD j 0, p2 ++ (List.range r.length).map fun j => q.getD j 0)) (fun j hj => ?_) ?_
  · have e0 : r.length = q.length := by omega
    rw [map_range_getD (l := r) (fun x => (i : Int) * t.1 + x), e0, map_range_getD (l := q) (fun x => x), List.map_id'] at this
    have e : (p1 ++ (List.range 0).map fun j => (i : Int) * t.1 + r.getD j 0, p2 ++ (List.range 0).map fun j => q.getD j 0, ((0 : Nat) : Int)) = (p1, p2, 0) := by simp
    rw [e] at this
    exact this
  · have hx := r2 (r.getD j 0) (by rw [List.getD_eq_getElem?_getD, List.getElem?_eq_getElem hj]; exact List.getElem_mem hj)
    have hmul := mul_small (a := (i : Int)) (b := t.1) (by omega) (by omega) (by omega) m2
    rw [hbody]
    simp only
    rw [if_pos (by rw [decide_eq_true_eq]; omega), ck_pos (by rw [inK_i64]; omega), ck_pos (by omega), ck_pos (by omega), ck_pos (by omega), ck_pos (by omega), Int.toNat_natCast, ck_pos (by rw [inK_i64]; omega), ck_pos (by rw [List.length_append, List.length_map, List.length_range]; omega), ck_pos (by omega), ck_pos (by omega), ck_pos (by omega), ck_pos (by omega), ck_pos (by rw [List.length_append, List.length_map, List.length_range]; omega), ck_pos (by rw [inK_i64]; omega), List.range_succ, List.map_append, List.map_append, List.append_assoc, List.append_assoc]
    rfl
  · rw [hbody]
    simp only
    rw [if_neg (by rw [decide_eq_true_eq]; omega)]

theorem refBoth_b2 {i : Nat} (hi : (i : Int) < s.1) (h8 : s.1 * t.1 ≤ 8) : whileO (linealref01_Both_b2 s t ((List.range (i * t.1.toNat)).map (bG s t), (List.range (i * t.1.toNat)).map (bS s t), (i : Int))) ((List.range (i * t.1.toNat)).map (bG s t), (List.range (i * t.1.toNat)).map (bS s t), 0) = some ((List.range ((i + 1) * t.1.toNat)).map (bG s t), (List.range ((i + 1) * t.1.toNat)).map (bS s t)) := by
  have hm := Sp.okE hv
  have hm' := Sp.okE hw
  have m0 : 1 ≤ s.1 := hm.1
  have m1 : s.1 ≤ 8 := hm.2.1
  have m2 : t.1 ≤ 8 := hm'.2.1
  have m0' : 1 ≤ t.1 := hm'.1
  have m3 : s.2.1 ≤ 4 := hm.2.2.2.1
  have m3' : t.2.1 ≤ 4 := hm'.2.2.2.1
  have m4 : 1 ≤ s.2.1 := hm.2.2.1
  have m4' : 1 ≤ t.2.1 := hm'.2.2.1
  have hbig : ∀ k : Nat, (k : Int) < t.1 → i * t.1.toNat + k ≤ 64 := fun k hk => by
    have h1 : i * t.1.toNat ≤ 7 * 8 := Nat.mul_le_mul (by omega) (by omega)
    omega
  generalize hA : (List.range (i * t.1.toNat)).map (bG s t) = A
  generalize hB : (List.range (i * t.1.toNat)).map (bS s t) = B
  have := whileO_seq (body := linealref01_Both_b2 s t (A, B, (i : Int))) (fun k => ((List.range (i * t.1.toNat + k)).map (bG s t), (List.range (i * t.1.toNat + k)).map (bS s t), ((k : Nat) : Int))) t.1.toNat (r := ((List.range ((i + 1) * t.1.toNat)).map (bG s t), (List.range ((i + 1) * t.1.toNat)).map (bS s t))) (fun k hk => ?_) ?_
  · rw [← hA, ← hB]
    rw [← hA, ← hB] at this
    exact this
  · have hk' : (k : Int) < t.1 := by omega
    obtain ⟨r1, _, r3, _, r5, r6⟩ := row_gen hv hi
    obtain ⟨s1, _, s3, _, s5, s6⟩ := row_gen hw hk'
    have hb := hbig k hk'
    unfold linealref01_Both_b2
    simp only
    rw [if_pos (by simpa using hk'), refBoth_b3 hv hw hi hk', Option.bind_some]
    unfold linealref01_Both_k4
    simp only
    rw [refBoth_b4 hv hw hi hk' _ _ _ _ _ _ (by rw [List.length_map]; omega) (by omega), Option.bind_some]
    unfold linealref01_Both_k5
    simp only
    rw [ck_pos (by rw [List.length_map, List.length_range]; omega), ck_pos (by rw [List.length_map, List.length_range]; omega)]
    unfold linealref01_Both_k3
    simp only
    rw [ck_pos (by rw [inK_i64]; omega)]
    obtain ⟨d1, d2⟩ := Both_rows hv hw hi hk'
    have g1 : (s.2.2.1.getD i []).map (fun x => x * t.1 + (k : Int)) ++ (t.2.2.1.getD k []).map (fun x => (i : Int) * t.1 + x) = bG s t (i * t.1.toNat + k) := by
      unfold bG; rw [d1, d2]
    have g2 : s.2.2.2.getD i [] ++ t.2.2.2.getD k [] = bS s t (i * t.1.toNat + k) := by
      unfold bS; rw [d1, d2]
    rw [g1, g2, ← Nat.add_assoc, List.range_succ, List.map_append, List.map_append]
    rfl
  · unfold linealref01_Both_b2
    simp only
    rw [if_neg (by simp; omega), Nat.add_mul, Nat.one_mul]

theorem refBoth_eq (hs : okS s) (ht : okS t) : linealref01_Both s t = some (if 8 < s.1 * t.1 then (0, 0, [], [], 4) else if 4 < s.2.1 + t.2.1 then (0, 0, [], [], 4) else ((bothT s t).1, (bothT s t).2.1, (bothT s t).2.2.1, (bothT s t).2.2.2, 0)) := by
  have hm := Sp.okE hv
  have hm' := Sp.okE hw
  have m0 : 1 ≤ s.1 := hm.1
  have m1 : s.1 ≤ 8 := hm.2.1
  have m2 : t.1 ≤ 8 := hm'.2.1
  have m0' : 1 ≤ t.1 := hm'.1
  have m3 : s.2.1 ≤ 4 := hm.2.2.2.1
  have m3' : t.2.1 ≤ 4 := hm'.2.2.2.1
  have m4 : 1 ≤ s.2.1 := hm.2.2.1
  have m4' : 1 ≤ t.2.1 := hm'.2.2.1
  have hmul := mul_small (a := s.1) (b := t.1) (by omega) m1 (by omega) m2
  unfold linealref01_Both
  rw [refValid_eq s hs, hv, Option.bind_some, if_neg (by simp), refValid_eq t ht, hw, Option.bind_some, if_neg (by simp), ck_pos (by rw [inK_i64]; omega), ck_pos (by rw [inK_i64]; omega)]
  by_cases h8 : 8 < s.1 * t.1
  · rw [if_pos (by simpa using h8), if_pos h8]
  rw [if_neg (by simpa using h8), if_neg h8]
  by_cases h4 : 4 < s.2.1 + t.2.1
  · rw [if_pos (by simpa using h4), if_pos h4]
  rw [if_neg (by simpa using h4), if_neg h4]
  have := whileO_seq (body := linealref01_Both_b1 s t) (fun i => ((List.range (i * t.1.toNat)).map (bG s t), (List.range (i * t.1.toNat)).map (bS s t), ((i : Nat) : Int))) s.1.toNat (r := ((bothT s t).2.2.1, (bothT s t).2.2.2)) (fun i hi => ?_) ?_
  · have e : ((List.range (0 * t.1.toNat)).map (bG s t), (List.range (0 * t.1.toNat)).map (bS s t), ((0 : Nat) : Int)) = ([], [], 0) := by simp
    rw [e] at this
    rw [this]; rfl
  · unfold linealref01_Both_b1
    simp only
    rw [if_pos (by simp; omega), refBoth_b2 hv hw (by omega) (by omega), Option.bind_some]
    unfold linealref01_Both_k2
    rw [ck_pos (by rw [inK_i64]; simp only; omega)]
    rfl
  · unfold linealref01_Both_b1
    simp only
    rw [if_neg (by simp; omega)]
    rfl

theorem refUnlike_eq : linealref01_Unlike s t = some (unlikeOf s t) := by
  unfold linealref01_Unlike unlikeOf
  rw [refValid_eq s (ok_small hv), Option.bind_some, refValid_eq t (ok_small hw), hv, hw, Option.bind_some]
  simp only [Bool.not_true, Bool.false_eq_true, if_false]
  by_cases e : s.2.1 = t.2.1
  · rw [if_neg (by simp [e]), if_pos e, told_eq hv hw e (zero_ok hv).1 (zero_ok hw).1, Option.bind_some]
    cases apartP (toSp s) (toSp t) (0, 0) <;> simp
  · rw [if_pos (by simp [e]), if_neg e]

attribute [local irreducible] dF

theorem refAlike_eq : linealref01_Alike s t = some (decide ((unlikeOf s t).2 = 5), 0) := by
  have hm := Sp.okE hv
  have m0 : 1 ≤ s.1 := hm.1
  have m1 : s.1 ≤ 8 := hm.2.1
  have hm' := Sp.okE hw
  have m0' : 1 ≤ t.1 := hm'.1
  have m1' : t.1 ≤ 8 := hm'.2.1
  unfold linealref01_Alike
  rw [refValid_eq s (ok_small hv), Option.bind_some, refValid_eq t (ok_small hw), hv, hw, Option.bind_some]
  simp only [Bool.not_true, Bool.false_eq_true, if_false]
  by_cases e : s.2.1 = t.2.1
  · obtain ⟨M, h1, h2⟩ := far_eq hv hw e
    have k0 := h2.1.1
    have k1 := h2.1.2 0 (by omega)
    have he : (M.getD 0 []).getD 0 0 = dF s t (s.1.toNat * t.1.toNat) 0 0 := h2.2 0 0 (by omega) (by omega)
    have hz := dF_zero hv hw e (s.1.toNat * t.1.toNat) 0 0 (by omega) (by omega)
    have hsum : s.1.toNat + t.1.toNat ≤ s.1.toNat * t.1.toNat + 1 := by
      obtain ⟨x, hx⟩ : ∃ x, s.1.toNat = x + 1 := ⟨s.1.toNat - 1, by omega⟩
      obtain ⟨y, hy⟩ : ∃ y, t.1.toNat = y + 1 := ⟨t.1.toNat - 1, by omega⟩
      rw [hx, hy, Nat.add_mul, Nat.mul_add]; omega
    rw [if_pos (by simp [e]), h1, Option.bind_some, ck_pos (by omega), ck_pos (by omega), he]
    congr 2
    have hcode := (unlike_code hv hw).2.1
    rw [decide_eq_decide, hcode, hz]
    constructor
    · intro h
      refine ⟨e, fun u hu => Classical.byContradiction fun hd => ?_⟩
      obtain ⟨v, v1, v2, v3⟩ := short_two2 hv hw e (zero_ok hv).1 (zero_ok hw).1 (w := u) hu hd
      have v3' : (v.length : Int) ≤ s.1 + t.1 - 1 := v3
      exact v2 (h v v1 (by omega))
    · intro h w hc _
      exact h.2 w hc
  · have h2 := (unlike_code hv hw).2.2.2.1 e
    rw [if_neg (by simp [e]), h2]
    rfl

end

theorem unlikeOf_len {s t : Tup} (hv : (toSp s).ok = true) (hw : (toSp t).ok = true) : (unlikeOf s t).1.length ≤ maxLen := by
  rw [maxLen_num]
  unfold unlikeOf
  split
  · rename_i e
    cases hx : apartP (toSp s) (toSp t) (0, 0) with
    | none => simp
    | some w => have := apart_len hv hw e (zero_ok hv).1 (zero_ok hw).1 hx; simp only; omega
  · simp

theorem okT_nil : okT [] := ⟨by simp, fun r h => by simp at h⟩

/-- The law holds. -/
theorem SpecPairs_eq (s : Tup) (hs : okS s) (t : Tup) (ht : okS t) : lineallaw01_SpecPairs s t = some true := by
  unfold lineallaw01_SpecPairs
  rw [Long_eq s hs, Awake_eq, Option.bind_some, Long_eq t ht]
  cases wideB s.2.2.1 || wideB s.2.2.2
  rotate_left
  · simp
  cases wideB t.2.2.1 || wideB t.2.2.2
  rotate_left
  · simp
  simp only [Option.bind_some, Bool.false_eq_true, if_false]
  have key : ∃ A U B, spec_Alike s t = some A ∧ linealref01_Alike s t = some A ∧ spec_Unlike s t = some U ∧ linealref01_Unlike s t = some U ∧ U.1.length ≤ maxLen ∧ spec_Both s t = some B ∧ linealref01_Both s t = some B ∧ okS (B.1, B.2.1, B.2.2.1, B.2.2.2.1) := by
    cases hv : (toSp s).ok
    · refine ⟨(false, 10), ([], 10), (0, 0, [], [], 10), ?_, ?_, ?_, ?_, by simp, ?_, ?_, ⟨okT_nil, okT_nil⟩⟩
      · unfold spec_Alike spec_Unlike; rw [Valid_eq s hs, hv]; rfl
      · unfold linealref01_Alike; rw [refValid_eq s hs, hv]; rfl
      · unfold spec_Unlike; rw [Valid_eq s hs, hv]; rfl
      · unfold linealref01_Unlike; rw [refValid_eq s hs, hv]; rfl
      · unfold spec_Both; rw [Valid_eq s hs, hv]; rfl
      · unfold linealref01_Both; rw [refValid_eq s hs, hv]; rfl
    cases hw : (toSp t).ok
    · refine ⟨(false, 10), ([], 10), (0, 0, [], [], 10), ?_, ?_, ?_, ?_, by simp, ?_, ?_, ⟨okT_nil, okT_nil⟩⟩
      · unfold spec_Alike spec_Unlike; rw [Valid_eq s hs, hv, Valid_eq t ht, hw]; rfl
      · unfold linealref01_Alike; rw [refValid_eq s hs, hv, refValid_eq t ht, hw]; rfl
      · unfold spec_Unlike; rw [Valid_eq s hs, hv, Valid_eq t ht, hw]; rfl
      · unfold linealref01_Unlike; rw [refValid_eq s hs, hv, refValid_eq t ht, hw]; rfl
      · unfold spec_Both; rw [Valid_eq s hs, hv, Valid_eq t ht, hw]; rfl
      · unfold linealref01_Both; rw [refValid_eq s hs, hv, refValid_eq t ht, hw]; rfl
    refine ⟨_, _, _, Alike_eq hv hw, refAlike_eq hv hw, Unlike_eq hv hw, refUnlike_eq hv hw, unlikeOf_len hv hw, Both_eq hv hw hs ht, refBoth_eq hv hw hs ht, ?_⟩
    split
    · exact ⟨okT_nil, okT_nil⟩
    · split
      · exact ⟨okT_nil, okT_nil⟩
      · rename_i h1 h2
        exact ok_small (s := bothT s t) (bothT_ok hv hw (by omega) (by omega))
  obtain ⟨A, U, B, a1, a2, u1, u2, u3, b1, b2, b3⟩ := key
  rw [a1, a2, u1, u2, b1, b2]
  simp only [Option.bind_some]
  rw [SameInts_eq _ _ u3, Equal_eq _ _ b3]
  simp [eqb_self]
end Go.Proofs.Ytcgflignbhmoaaa
