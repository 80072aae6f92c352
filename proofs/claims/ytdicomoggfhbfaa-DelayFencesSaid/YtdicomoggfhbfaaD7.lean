/-
  The reference's circles; the pairs that are needed, on both sides.
-/
import Derived.Test.YtdicomoggfhbfaaD6
namespace Go.Proofs.Ytdicomoggfhbfaa
open Go.RowKit Go.Maps

set_option linter.unusedVariables false
set_option linter.unusedSimpArgs false

/-- Two threads' accesses or pairs are looked at one after the other. -/
theorem whileO_acc {body : Bool × Int → Option (Step (Bool × Int) (Sum Unit Bool))} {α : Type} (xs : List α) (ok : Nat → α → Bool) (f : α → Bool)
    (h : ∀ (k : Nat) (x : α) (p : Bool), xs[k]? = some x → body (p, (k : Int)) = some (if ok k x = true then .next (p || f x, (k : Int) + 1) else .done (.inl ()))) (hd : ∀ p, body (p, (xs.length : Int)) = some (.done (.inr p))) :
    (whileO body (false, 0) = some (.inr (xs.any f)) ∧ ∀ k x, xs[k]? = some x → ok k x = true) ∨ (whileO body (false, 0) = some (.inl ()) ∧ ∃ k x, xs[k]? = some x ∧ ok k x = false) := by
  obtain ⟨r, e, hr⟩ := scan2 (S := Bool) (R := Sum Unit Bool) xs (fun k p => p = (xs.take k).any f ∧ ∀ i y, i < k → xs[i]? = some y → ok i y = true) (fun r => (r = .inr (xs.any f) ∧ ∀ k x, xs[k]? = some x → ok k x = true) ∨ (r = .inl () ∧ ∃ k x, xs[k]? = some x ∧ ok k x = false)) (body := body) (s0 := false) ⟨by simp, fun i y hi => absurd hi (Nat.not_lt_zero i)⟩
    (fun k y p hk hI => by
      have hb := h k y p hk
      cases ho : ok k y with
      | true =>
        rw [ho, if_pos rfl] at hb
        refine .inl ⟨_, hb, ?_, fun i z hi hz => ?_⟩
        · rw [take_one hk, List.any_append, hI.1]; simp
        · rcases Nat.lt_or_ge i k with h1 | h1
          · exact hI.2 i z h1 hz
          · have : i = k := by omega
            subst this
            rw [hk] at hz; injection hz with hz; rw [← hz]; exact ho
      | false =>
        rw [ho, if_neg (by simp)] at hb
        exact .inr ⟨_, hb, .inr ⟨rfl, k, y, hk, ho⟩⟩)
    (fun p hI => ⟨_, hd p, .inl ⟨by rw [hI.1, List.take_length], fun k z hz => hI.2 k z (List.getElem?_eq_some_iff.1 hz).1 hz⟩⟩)
  rcases hr with ⟨rfl, h1⟩ | ⟨rfl, h1⟩
  · exact .inl ⟨e, h1⟩
  · exact .inr ⟨e, h1⟩

theorem refIsCircle1 {x : Acs} {l : List Sta} (hf : few l) :
    (whileO (linealref09_isCircle_b1 x l) (false, 0) = some (.inr (l.any fun s => !oneB s)) ∧ ∀ k s, l[k]? = some s → (isSt x s && !(l.take k).any (fun o => decide (o.1 = s.1))) = true) ∨
    (whileO (linealref09_isCircle_b1 x l) (false, 0) = some (.inl ()) ∧ ∃ k s, l[k]? = some s ∧ (isSt x s && !(l.take k).any (fun o => decide (o.1 = s.1))) = false) := by
  refine whileO_acc l (fun k s => isSt x s && !(l.take k).any (fun o => decide (o.1 = s.1))) (fun s => !oneB s) (fun k s p hk => ?_) (fun p => by unfold linealref09_isCircle_b1; rw [if_neg (by simp)])
  obtain ⟨hlt, hik⟩ := few_in hf hk
  have hd : l.getD k (0, 0, 0) = s := getD_of hk
  have h4 : ∀ b : Bool, linealref09_isCircle_k4 l (p, (k : Int)) b = some (if (l.take k).any (fun o => decide (o.1 = s.1)) = true then .done (.inl ()) else .next (b, (k : Int) + 1)) := fun b => by
    have hft : few (l.take k) := by unfold few at *; rw [List.length_take]; omega
    unfold linealref09_isCircle_k4
    rw [whileO_all (l.take k) (fun o => !decide (o.1 = s.1)) (body := linealref09_isCircle_b2 l (p, (k : Int))) (fun j o hj => by
      obtain ⟨hlt2, hik2⟩ := few_in hft hj
      unfold linealref09_isCircle_b2
      dsimp only
      rw [Int.toNat_natCast, Int.toNat_natCast, getD_of hj, hd, if_pos (decide_eq_true (by omega)), ck_pos (by omega), ck_pos (by omega)]
      by_cases e : o.1 = s.1 <;> simp [e, ck_pos hik2]) (by
        unfold linealref09_isCircle_b2
        dsimp only
        rw [Int.toNat_natCast, if_neg (by rw [decide_eq_true_eq]; omega)]), Option.bind_some]
    have e : (l.take k).all (fun o => !decide (o.1 = s.1)) = !(l.take k).any (fun o => decide (o.1 = s.1)) := by rw [List.not_any_eq_all_not]
    rw [e]
    unfold linealref09_isCircle_k2
    cases (l.take k).any (fun o => decide (o.1 = s.1)) <;> simp [ck_pos hik]
  have h3 : linealref09_isCircle_k3 l (p, (k : Int)) = some (if (l.take k).any (fun o => decide (o.1 = s.1)) = true then .done (.inl ()) else .next (p || !oneB s, (k : Int) + 1)) := by
    unfold linealref09_isCircle_k3
    dsimp only
    cases p with
    | true => rw [if_pos rfl, ck_pos (by omega), ck_pos (by omega), h4]; rfl
    | false => rw [if_neg (by simp), ck_pos (by omega), ck_pos (by omega), h4, Int.toNat_natCast, hd]; rfl
  unfold linealref09_isCircle_b1
  dsimp only
  rw [Int.toNat_natCast, hd, if_pos (decide_eq_true (by omega)), ck_pos (by omega), ck_pos (by omega), IsAccess_eq, Option.bind_some, h3, refIsPair_eq, Option.bind_some]
  unfold isSt
  cases ha : hasA x s.1 s.2.1 with
  | false =>
    have : isPr x s = false := by unfold isPr; rw [ha]; rfl
    simp [this]
  | true =>
    rw [if_neg (by simp)]
    by_cases e : s.2.1 = s.2.2
    · rw [if_neg (by simp [e])]
      simp only [e, decide_true, Bool.and_true, Bool.true_or, Bool.true_and]
      cases (l.take k).any (fun o => decide (o.1 = s.1)) <;> simp
    · rw [if_pos (by simp [e])]
      simp only [e, decide_false, Bool.false_and, Bool.false_or]
      cases isPr x s with
      | false => simp
      | true =>
        rw [if_neg (by simp)]
        cases (l.take k).any (fun o => decide (o.1 = s.1)) <;> simp

theorem refIsCircle3 {x : Acs} {l : List Sta} (hst : ∀ s ∈ l, isSt x s = true) (hf : few l) : whileO (linealref09_isCircle_b3 x l) 0 = some (if (List.range l.length).all (fun k => mts x (l.getD k (0, 0, 0)) (l.getD ((k + 1) % l.length) (0, 0, 0))) = true then .inr () else .inl ()) := by
  have := whileO_all (body := linealref09_isCircle_b3 x l) (List.range l.length) (fun k => mts x (l.getD k (0, 0, 0)) (l.getD ((k + 1) % l.length) (0, 0, 0))) (fun k y hk => by
    have hy : y = k := by
      have := (List.getElem?_eq_some_iff.1 hk)
      obtain ⟨h1, h2⟩ := this
      simpa using h2.symm
    have hlt : k < l.length := by have := (List.getElem?_eq_some_iff.1 hk).1; simpa using this
    subst hy
    have hmod : ((y : Int) + 1) % (l.length : Int) = (((y + 1) % l.length : Nat) : Int) := rfl
    have hm2 : (y + 1) % l.length < l.length := Nat.mod_lt _ (by omega)
    unfold few at hf
    unfold linealref09_isCircle_b3
    rw [if_pos (decide_eq_true (by omega)), ck_pos (by omega), ck_pos (by omega), ck_pos (by rw [inK_i64]; omega), ck_pos (by omega), ck_pos (by omega), hmod, ck_pos (by omega), ck_pos (by omega), Int.toNat_natCast, Int.toNat_natCast, refconf_eq (isSt_has (hst _ (getD_in hlt))).2 (isSt_has (hst _ (getD_in hm2))).1, Option.bind_some]
    unfold mts
    cases conf x (l.getD y (0, 0, 0)).1 (l.getD y (0, 0, 0)).2.2 (l.getD ((y + 1) % l.length) (0, 0, 0)).1 (l.getD ((y + 1) % l.length) (0, 0, 0)).2.1 <;> simp [ck_pos (show InK .i64 ((y : Int) + 1) by rw [inK_i64]; omega)]) (by
      unfold linealref09_isCircle_b3
      rw [if_neg (by simp)])
  exact this

theorem refisCircle_eq {x : Acs} (l : List Sta) : linealref09_isCircle x l = some (isC x l) := by
  unfold linealref09_isCircle
  match l with
  | [] => rfl
  | [r] => rfl
  | r :: s :: q :: p :: m =>
    rw [if_neg (by simp; omega), if_pos (by simp; omega)]; rfl
  | [r, s] =>
    rw [if_neg (by simp), if_neg (by simp)]
    rcases refIsCircle1 (x := x) (l := [r, s]) (few_of (n := 2) (by simp)) with ⟨e, h⟩ | ⟨e, k, y, hk, h⟩
    · have h0 := h 0 r rfl
      have h1 := h 1 s rfl
      simp only [List.take_zero, List.any_nil, Bool.not_false, Bool.and_true] at h0
      simp only [List.take_succ_cons, List.take_zero, List.any_cons, List.any_nil, Bool.or_false, Bool.and_eq_true] at h1
      rw [e, Option.bind_some]
      simp only
      unfold linealref09_isCircle_k1
      rw [refIsCircle3 (fun o ho => by simp at ho; rcases ho with rfl | rfl <;> first | exact h0 | exact h1.1) (few_of (n := 2) (by simp)), Option.bind_some]
      have e2 : (List.range [r, s].length).all (fun k => mts x ([r, s].getD k (0, 0, 0)) ([r, s].getD ((k + 1) % [r, s].length) (0, 0, 0))) = (mts x r s && (mts x s r && true)) := by
        show (List.range 2).all _ = _
        rw [show List.range 2 = [0, 1] from rfl]
        simp only [List.all_cons, List.all_nil, List.length_cons, List.length_nil, Nat.reduceAdd, Nat.reduceMod, Nat.zero_add]
        rfl
      rw [e2]
      unfold isC c2
      simp only [h0, h1.1, h1.2, Bool.true_and, Bool.and_true, List.any_cons, List.any_nil, Bool.or_false, linealref09_isCircle_k5]
      cases mts x r s <;> cases mts x s r <;> rfl
    · rw [e, Option.bind_some]
      simp only
      unfold isC c2
      simp only
      congr 1
      symm
      match k, hk, h with
      | 0, hk, h =>
        simp at hk; subst hk
        simp only [List.take_zero, List.any_nil, Bool.not_false, Bool.and_true] at h
        rw [h]; rfl
      | 1, hk, h =>
        simp at hk; subst hk
        simp only [List.take_succ_cons, List.take_zero, List.any_cons, List.any_nil, Bool.or_false] at h
        cases h1 : isSt x s <;> simp_all
      | k + 2, hk, h => simp at hk
  | [r, s, q] =>
    rw [if_neg (by simp), if_neg (by simp)]
    rcases refIsCircle1 (x := x) (l := [r, s, q]) (few_of (n := 3) (by simp)) with ⟨e, h⟩ | ⟨e, k, y, hk, h⟩
    · have h0 := h 0 r rfl
      have h1 := h 1 s rfl
      have h2 := h 2 q rfl
      simp only [List.take_zero, List.any_nil, Bool.not_false, Bool.and_true] at h0
      simp only [List.take_succ_cons, List.take_zero, List.any_cons, List.any_nil, Bool.or_false, Bool.and_eq_true, Bool.not_or] at h1 h2
      rw [e, Option.bind_some]
      simp only
      unfold linealref09_isCircle_k1
      rw [refIsCircle3 (fun o ho => by simp at ho; rcases ho with rfl | rfl | rfl <;> first | exact h0 | exact h1.1 | exact h2.1) (few_of (n := 3) (by simp)), Option.bind_some]
      have e2 : (List.range [r, s, q].length).all (fun k => mts x ([r, s, q].getD k (0, 0, 0)) ([r, s, q].getD ((k + 1) % [r, s, q].length) (0, 0, 0))) = (mts x r s && (mts x s q && (mts x q r && true))) := by
        show (List.range 3).all _ = _
        rw [show List.range 3 = [0, 1, 2] from rfl]
        simp only [List.all_cons, List.all_nil, List.length_cons, List.length_nil, Nat.reduceAdd, Nat.reduceMod, Nat.zero_add]
        rfl
      rw [e2]
      unfold isC c3
      simp only [h0, h1.1, h1.2, h2.1, h2.2.1, h2.2.2, Bool.true_and, Bool.and_true, List.any_cons, List.any_nil, Bool.or_false, linealref09_isCircle_k5]
      cases mts x r s <;> cases mts x s q <;> cases mts x q r <;> rfl
    · rw [e, Option.bind_some]
      simp only
      unfold isC c3
      simp only
      congr 1
      symm
      match k, hk, h with
      | 0, hk, h =>
        simp at hk; subst hk
        simp only [List.take_zero, List.any_nil, Bool.not_false, Bool.and_true] at h
        rw [h]; rfl
      | 1, hk, h =>
        simp at hk; subst hk
        simp only [List.take_succ_cons, List.take_zero, List.any_cons, List.any_nil, Bool.or_false] at h
        cases h1 : isSt x s <;> simp_all
      | 2, hk, h =>
        simp at hk; subst hk
        simp only [List.take_succ_cons, List.take_zero, List.any_cons, List.any_nil, Bool.or_false] at h
        cases h1 : isSt x q
        · simp
        · rw [h1, Bool.true_and, Bool.not_eq_false', Bool.or_eq_true] at h
          rcases h with h | h <;> simp [h]
      | k + 3, hk, h => simp at hk

/-! ### All circles, as the reference finds them -/
def ref2 (x : Acs) (r s : Sta) : List (List Sta) := if (!decide (r.1 = s.1) && mts x r s) = true then (if isC x [r, s] = true then [[r, s]] else []) ++ (stas x).flatMap fun q => if isC x [r, s, q] = true then [[r, s, q]] else [] else []
def refCircs (x : Acs) : List (List Sta) := (stas x).flatMap fun r => (stas x).flatMap fun s => ref2 x r s

theorem ref2_len {x : Acs} (hv : vld x = true) (r s : Sta) : (ref2 x r s).length ≤ 49 := by
  unfold ref2
  split
  · have := len_flat (stas x) 1 (fun q => if isC x [r, s, q] = true then [[r, s, q]] else []) (fun y _ => by split <;> simp)
    have := stas_len hv
    rw [List.length_append]
    have : (if isC x [r, s] = true then [[r, s]] else []).length ≤ 1 := by split <;> simp
    omega
  · simp

theorem refcircles_eq {x : Acs} (hv : vld x = true) : linealref09_circles x = some (refCircs x) := by
  unfold linealref09_circles
  rw [refstations_eq hv, Option.bind_some]
  have hs := few_stas hv
  have hsl := stas_len hv
  generalize hS : stas x = S at hs hsl
  have hst : ∀ (k : Nat) (s : Sta), S[k]? = some s → isSt x s = true := fun k s hk => mem_stas.1 (by rw [hS]; exact List.mem_of_getElem? hk)
  have w3 : ∀ (i j : Nat) (r s : Sta) (l1 l2 l : List (List Sta)), S[i]? = some r → S[j]? = some s → l.length ≤ 900000 → whileO (linealref09_circles_b3 x S (l1, (i : Int)) (l2, (j : Int))) (l, 0) = some (l ++ S.flatMap fun q => if isC x [r, s, q] = true then [[r, s, q]] else []) := by
    intro i j r s l1 l2 l hi hj hl
    refine appL S 1 _ (fun y _ => by split <;> simp) l (fun k q l' hk hl' => ?_) (fun l' => ?_)
    · obtain ⟨hlt, hik⟩ := few_in hs hk
      unfold linealref09_circles_b3
      dsimp only
      rw [Int.toNat_natCast, Int.toNat_natCast, Int.toNat_natCast, getD_of hi, getD_of hj, getD_of hk, if_pos (decide_eq_true (by omega)), ck_pos (by omega), ck_pos (by omega), refisCircle_eq, Option.bind_some]
      cases isC x [r, s, q] with
      | true => rw [if_pos rfl, if_pos rfl, ck_pos (by omega), ck_pos hik]
      | false => rw [if_neg (by simp), if_neg (by simp), ck_pos hik, List.append_nil]
    · unfold linealref09_circles_b3
      rw [if_neg (by simp)]
  have w2 : ∀ (i : Nat) (r : Sta) (l : List (List Sta)), S[i]? = some r → l.length ≤ 500000 → whileO (linealref09_circles_b2 x S (l, (i : Int))) (l, 0) = some (l ++ S.flatMap fun s => ref2 x r s) := by
    intro i r l hi hl
    refine appL S 49 _ (fun y _ => ref2_len hv r y) l (fun k s l' hk hl' => ?_) (fun l' => ?_)
    · obtain ⟨hlt, hik⟩ := few_in hs hk
      have hsub : S.length * 49 ≤ 48 * 49 := Nat.mul_le_mul_right 49 hsl
      have h4 : ∀ (b : List (List Sta)), b.length ≤ 900000 → linealref09_circles_k4 x S (l, (i : Int)) (l', (k : Int)) b = some (.next (b ++ (S.flatMap fun q => if isC x [r, s, q] = true then [[r, s, q]] else []), (k : Int) + 1)) := fun b hb => by
        unfold linealref09_circles_k4 linealref09_circles_k3
        rw [w3 i k r s l l' b hi hk hb, Option.bind_some]
        dsimp only
        rw [ck_pos hik]
      unfold linealref09_circles_b2
      dsimp only
      rw [Int.toNat_natCast, Int.toNat_natCast, getD_of hi, getD_of hk, if_pos (decide_eq_true (by omega)), ck_pos (by omega), ck_pos (by omega)]
      unfold ref2
      rw [hS]
      by_cases e : r.1 = s.1
      · rw [if_pos (decide_eq_true e), if_neg (by simp [e])]
        unfold linealref09_circles_k3
        dsimp only
        rw [ck_pos hik, List.append_nil]
      · rw [if_neg (by rw [decide_eq_true_eq]; exact e), refconf_eq (isSt_has (hst i r hi)).2 (isSt_has (hst k s hk)).1, Option.bind_some]
        show (if (!mts x r s) = true then _ else _) = _
        cases hm : mts x r s with
        | false =>
          rw [if_pos (show (!false) = true from rfl), if_neg (by simp)]
          unfold linealref09_circles_k3
          dsimp only
          rw [ck_pos hik, List.append_nil]
        | true =>
          rw [if_neg (by simp), if_pos (by simp [e]), refisCircle_eq, Option.bind_some]
          cases isC x [r, s] with
          | true => rw [if_pos rfl, if_pos rfl, ck_pos (by omega), h4 _ (by simp; omega), List.append_assoc]
          | false => rw [if_neg (by simp), if_neg (by simp), h4 _ (by omega), List.nil_append]
    · unfold linealref09_circles_b2
      rw [if_neg (by simp)]
  have c2' : ∀ r, (S.flatMap fun s => ref2 x r s).length ≤ 48 * 49 := fun r => by
    have := len_flat S 49 (fun s => ref2 x r s) (fun y _ => ref2_len hv r y)
    have := Nat.mul_le_mul_right 49 hsl
    omega
  have w1 := appL S (48 * 49) (fun r => S.flatMap fun s => ref2 x r s) (fun y _ => c2' y) [] (body := linealref09_circles_b1 x S) (fun k r l' hk hl' => by
    obtain ⟨hlt, hik⟩ := few_in hs hk
    have hsub : S.length * (48 * 49) ≤ 48 * (48 * 49) := Nat.mul_le_mul_right _ hsl
    unfold linealref09_circles_b1
    dsimp only
    rw [if_pos (decide_eq_true (by omega)), ck_pos (by omega), ck_pos (by omega), w2 k r l' hk (by simp at hl'; omega), Option.bind_some]
    unfold linealref09_circles_k2
    rw [ck_pos hik]) (fun l => by unfold linealref09_circles_b1; rw [if_neg (by simp)])
  rw [w1, Option.bind_some]
  unfold linealref09_circles_k1 refCircs
  rw [hS]; rfl

theorem isC_mts {x : Acs} {r s : Sta} (h : isC x [r, s] = true) : (!decide (r.1 = s.1) && mts x r s) = true := by
  unfold isC c2 at h; simp only [Bool.and_eq_true] at h; rw [Bool.and_eq_true]; exact ⟨h.2.2.1, h.2.2.2.1⟩
theorem isC_mts3 {x : Acs} {r s q : Sta} (h : isC x [r, s, q] = true) : (!decide (r.1 = s.1) && mts x r s) = true := by
  unfold isC c3 at h; simp only [Bool.and_eq_true] at h; rw [Bool.and_eq_true]; exact h.2.2.2.1

theorem mem_refCircs {x : Acs} {l : List Sta} : l ∈ refCircs x ↔ isC x l = true := by
  unfold refCircs ref2
  simp only [List.mem_flatMap]
  constructor
  · rintro ⟨r, _, s, _, h⟩
    split at h
    · rcases List.mem_append.1 h with h | h
      · split at h
        · rename_i hc; simp only [List.mem_singleton] at h; rw [h]; exact hc
        · simp at h
      · obtain ⟨q, _, h⟩ := List.mem_flatMap.1 h
        split at h
        · rename_i hc; simp only [List.mem_singleton] at h; rw [h]; exact hc
        · simp at h
    · simp at h
  · intro h
    have h0 := h
    unfold isC at h
    split at h
    · rename_i r s
      simp only [Bool.and_eq_true] at h
      refine ⟨r, mem_stas.2 h.1, s, mem_stas.2 h.2.1, ?_⟩
      rw [if_pos (isC_mts h0), if_pos h0]; simp
    · rename_i r s q
      simp only [Bool.and_eq_true] at h
      refine ⟨r, mem_stas.2 h.1, s, mem_stas.2 h.2.1, ?_⟩
      rw [if_pos (isC_mts3 h0)]
      refine List.mem_append_right _ (List.mem_flatMap.2 ⟨q, mem_stas.2 h.2.2.1, ?_⟩)
      rw [if_pos h0]; simp
    · cases h

end Go.Proofs.Ytdicomoggfhbfaa
