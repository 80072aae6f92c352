/-
  Layer 1, pure: the law about calls that commute, overwrite, only read, meddle.
-/
import Derived.Test.YtcgflignbhmoaaaP9
import Derived.Test.YtcgflignbhmoaaaP22
namespace Go.Proofs.Ytcgflignbhmoaaa
open Go.RowKit

set_option linter.unusedVariables false
set_option linter.unusedSectionVars false
set_option linter.unusedSimpArgs false
attribute [local irreducible] sameB waysL dF

theorem loops_from {α : Type} {b1 b2 : Int → Option (Step Int (Sum α Unit))} (n : Nat) (h1 : b1 (n : Int) = some (.done (.inr ()))) (h2 : b2 (n : Int) = some (.done (.inr ()))) : ∀ (d k : Nat), n - k = d → k ≤ n → (∀ j : Nat, k ≤ j → j < n → (∃ a, b1 (j : Int) = some (.done (.inl a)) ∧ b2 (j : Int) = some (.done (.inl a))) ∨ (b1 (j : Int) = some (.next ((j : Int) + 1)) ∧ b2 (j : Int) = some (.next ((j : Int) + 1)))) → ∃ x, whileO b1 (k : Int) = some x ∧ whileO b2 (k : Int) = some x := by
  have key : ∀ (d k : Nat), n - k = d → k ≤ n → (∀ j : Nat, k ≤ j → j < n → (∃ a, b1 (j : Int) = some (.done (.inl a)) ∧ b2 (j : Int) = some (.done (.inl a))) ∨ (b1 (j : Int) = some (.next ((j : Int) + 1)) ∧ b2 (j : Int) = some (.next ((j : Int) + 1)))) → ∃ x, whileN b1 (d + 1) (k : Int) = some x ∧ whileN b2 (d + 1) (k : Int) = some x := by
    intro d
    induction d with
    | zero =>
      intro k e1 e2 _
      obtain rfl : k = n := by omega
      refine ⟨.inr (), ?_, ?_⟩
      · unfold whileN; rw [h1]
      · unfold whileN; rw [h2]
    | succ d ih =>
      intro k e1 e2 h
      rcases h k (Nat.le_refl _) (by omega) with ⟨a, g1, g2⟩ | ⟨g1, g2⟩
      · refine ⟨.inl a, ?_, ?_⟩
        · unfold whileN; rw [g1]
        · unfold whileN; rw [g2]
      · obtain ⟨x, k1, k2⟩ := ih (k + 1) (by omega) (by omega) fun j hj => h j (by omega)
        refine ⟨x, ?_, ?_⟩
        · unfold whileN; rw [g1]; exact k1
        · unfold whileN; rw [g2]; exact k2
  intro d k e1 e2 h
  obtain ⟨x, k1, k2⟩ := key d k e1 e2 h
  exact ⟨x, whileO_of k1, whileO_of k2⟩

section
variable {s : Tup} (hv : (toSp s).ok = true)
include hv

theorem ref_com_eq {p a b : Int} (hp : inR s.1 p = true) (ha : inR s.2.1 a = true) (hb : inR s.2.1 b = true) : linealref01_commute s p a b = some (comB s p a b) := by
  have w1 : wordB s [a, b] = true := wordB_of (by simp) fun x hx => by simp at hx; rcases hx with rfl | rfl <;> assumption
  have w2 : wordB s [b, a] = true := wordB_of (by simp) fun x hx => by simp at hx; rcases hx with rfl | rfl <;> assumption
  unfold linealref01_commute
  rw [ref_run_eq hv hp w1, Option.bind_some, ref_run_eq hv hp w2, Option.bind_some, run_two, run_two]
  rw [ck_pos (by simp), ck_pos (by simp)]
  unfold comB
  by_cases h1 : say s p a = say s (nxt s p b) a
  · rw [if_pos (by simp [h1]), ck_pos (by simp), ck_pos (by simp)]
    by_cases h2 : say s (nxt s p a) b = say s p b
    · rw [if_pos (by simp [h2]), ref_same_eq hv (nxt_in hv (nxt_in hv hp ha) hb) (nxt_in hv (nxt_in hv hp hb) ha)]
      simp [h1, h2]
    · rw [if_neg (by simp [h2])]; simp [h2]
  · rw [if_neg (by simp [h1])]; simp [h1]

theorem ref_ovw_eq {p a b : Int} (hp : inR s.1 p = true) (ha : inR s.2.1 a = true) (hb : inR s.2.1 b = true) : linealref01_overwrites s p a b = some (ovwB s p a b) := by
  have w1 : wordB s [a, b] = true := wordB_of (by simp) fun x hx => by simp at hx; rcases hx with rfl | rfl <;> assumption
  have w2 : wordB s [b] = true := wordB_of (by simp) fun x hx => by simp at hx; subst hx; assumption
  unfold linealref01_overwrites
  rw [ref_run_eq hv hp w1, Option.bind_some, ref_run_eq hv hp w2, Option.bind_some, run_two, run_one]
  rw [ck_pos (by simp), ck_pos (by simp)]
  unfold ovwB
  by_cases h2 : say s (nxt s p a) b = say s p b
  · rw [if_pos (by simp [h2]), ref_same_eq hv (nxt_in hv (nxt_in hv hp ha) hb) (nxt_in hv hp hb)]
    simp [h2]
  · rw [if_neg (by simp [h2])]; simp [h2]

theorem reached_both : ∃ ys : List Int, spec_machine_reached s = some ys ∧ linealref01_reached s = some ys ∧ ys.length ≤ 8 ∧ (∀ x, x ∈ ys ↔ x ∈ (waysL s).map (·.1)) ∧ ∀ x ∈ ys, inR s.1 x = true := by
  have hm := Sp.okE hv
  have h1 : 1 ≤ s.1 := hm.1
  have h2 : s.1 ≤ 8 := hm.2.1
  have hwl := ways_len hv
  obtain ⟨ys, y1, y2, y3⟩ := Sort_asc ((waysL s).map (·.1)) (by rw [List.length_map]; omega)
  have hyl : ys.length ≤ 8 := by rw [y2.length_eq, List.length_map]; omega
  have hin : ∀ x, x ∈ (waysL s).map (·.1) → inR s.1 x = true := fun x hx => by
    obtain ⟨z, hz, rfl⟩ := List.mem_map.1 hx
    exact ways_in hv hz
  have hprog : spec_machine_reached s = some ys := by
    unfold spec_machine_reached spec_machine_ways
    rw [Option.bind_some, ways_eq (R := Empty) hv spec_machine_reached_y1 [] (fold_app 0 (waysL s) [] (by simp; omega)), Option.bind_some]
    simp only [List.nil_append]
    unfold spec_machine_reached_k1
    rw [y1, Option.bind_some]
  obtain ⟨W, T, t1, t2, t3⟩ := ref_ways hv
  obtain ⟨zs, z1, z2⟩ := loop_ex (body := linealref01_reached_b1 (W, T)) (fun (y : List Int) (k : Int) => (y, k)) (fun y => y) s.1.toNat (fun k y => y.length ≤ k ∧ y.Pairwise (· < ·) ∧ ∀ x, x ∈ y ↔ ∃ q : Nat, x = q ∧ q < k ∧ T.getD q false = true) (fun k y hk hy => by
    obtain ⟨a1, a2, a3⟩ := hy
    have ki : InK .i64 ((k : Int) + 1) := by rw [inK_i64]; omega
    unfold linealref01_reached_b1
    simp only [Int.toNat_natCast]
    rw [if_pos (by rw [decide_eq_true_eq]; omega), ck_pos (by omega), ck_pos (by omega)]
    by_cases hT : T.getD k false = true
    · refine ⟨y ++ [(k : Int)], by rw [if_pos hT, ck_pos (by omega), ck_pos ki], by simp; omega, ?_, fun x => ?_⟩
      · rw [List.pairwise_append]
        refine ⟨a2, by simp, fun c hc d hd => ?_⟩
        simp at hd; subst hd
        obtain ⟨q, rfl, hq, _⟩ := (a3 c).1 hc
        omega
      · rw [List.mem_append, a3, List.mem_singleton]
        constructor
        · rintro (⟨q, e, hq, hTq⟩ | e)
          · exact ⟨q, e, by omega, hTq⟩
          · exact ⟨k, e, by omega, hT⟩
        · rintro ⟨q, e, hq, hTq⟩
          rcases Nat.lt_succ_iff_lt_or_eq.1 hq with h | h
          · exact .inl ⟨q, e, h, hTq⟩
          · subst h; exact .inr e
    · refine ⟨y, by rw [if_neg hT, ck_pos ki], by omega, a2, fun x => ?_⟩
      rw [a3]
      constructor
      · rintro ⟨q, e, hq, hTq⟩
        exact ⟨q, e, by omega, hTq⟩
      · rintro ⟨q, e, hq, hTq⟩
        rcases Nat.lt_succ_iff_lt_or_eq.1 hq with h | h
        · exact ⟨q, e, h, hTq⟩
        · subst h; exact absurd hTq hT) (fun y _ => by
    unfold linealref01_reached_b1
    simp only
    rw [if_neg (by rw [decide_eq_true_eq]; omega)]) s.1.toNat 0 [] (by omega) (by omega) ⟨by simp, List.Pairwise.nil, fun x => ⟨fun h => by simp at h, fun ⟨q, _, h, _⟩ => by omega⟩⟩
  obtain ⟨z3, z4, z5⟩ := z2
  have hmem : ∀ x, x ∈ zs ↔ x ∈ (waysL s).map (·.1) := fun x => by
    rw [z5]
    constructor
    · rintro ⟨q, rfl, hq, hT⟩
      exact (t3 q hq).1 hT
    · intro h
      have := hin x h
      simp only [inR, decide_eq_true_eq] at this
      obtain ⟨q, rfl⟩ := Int.eq_ofNat_of_zero_le this.1
      exact ⟨q, rfl, by omega, (t3 q (by omega)).2 h⟩
  have e : ys = zs := asc_ext y3 (z4.imp fun h => Int.le_of_lt h) ((y2.nodup_iff).2 (ways_nodup hv)) (z4.imp fun h e => by omega) fun x => by rw [hmem, y2.mem_iff]
  refine ⟨ys, hprog, ?_, hyl, fun x => y2.mem_iff, fun x hx => hin x (y2.mem_iff.1 hx)⟩
  unfold linealref01_reached
  have z1' : whileO (linealref01_reached_b1 (W, T)) ([], 0) = some zs := z1
  rw [t1, Option.bind_some, z1', Option.bind_some, e]
  rfl

theorem meddles_eq (hs : okS s) : ∃ r, spec_Meddles s = some r ∧ linealref01_Meddles s = some r := by
  have hm := Sp.okE hv
  have h3 : 1 ≤ s.2.1 := hm.2.2.1
  have h4 : s.2.1 ≤ 4 := hm.2.2.2.1
  obtain ⟨ys, y1, y2, y3, y4, y5⟩ := reached_both hv
  have e4 : ((s.1, s.2.1, s.2.2.1, s.2.2.2) : Tup) = s := rfl
  have b3 : ∀ (i a : Nat) (q : Int), ys[i]? = some q → a < s.2.1.toNat → ∃ x, whileO (spec_Meddles_b3 (s.1, s.2.1, s.2.2.1, s.2.2.2, 0) ys (i : Int) (a : Int)) (a : Int) = some x ∧ whileO (linealref01_Meddles_b3 s ys (i : Int) (a : Int)) (a : Int) = some x := by
    intro i a q hq ha
    have hqin := y5 q (List.mem_of_getElem? hq)
    have hg : ys.getD i 0 = q := getD_of hq
    refine loops_from s.2.1.toNat ?_ ?_ (s.2.1.toNat - a) a rfl (by omega) fun j hj1 hj2 => ?_
    · unfold spec_Meddles_b3
      rw [if_neg (by rw [decide_eq_true_eq]; simp only; omega)]
    · unfold linealref01_Meddles_b3
      rw [if_neg (by rw [decide_eq_true_eq]; omega)]
    · have ia : inR s.2.1 (a : Int) = true := by simp only [inR, decide_eq_true_eq]; omega
      have ij : inR s.2.1 (j : Int) = true := by simp only [inR, decide_eq_true_eq]; omega
      have ki : InK .i64 ((j : Int) + 1) := by rw [inK_i64]; omega
      unfold spec_Meddles_b3 linealref01_Meddles_b3
      simp only [Int.toNat_natCast, hg]
      rw [if_pos (by rw [decide_eq_true_eq]; omega), if_pos (by rw [decide_eq_true_eq]; omega), e4, med_eq hv hqin ia ij, Option.bind_some, ref_com_eq hv hqin ia ij, Option.bind_some, ref_ovw_eq hv hqin ia ij, ref_ovw_eq hv hqin ij ia]
      simp only [ck_pos ki, Option.bind_some]
      unfold medB
      cases comB s q a j
      · cases ovwB s q a j
        · cases ovwB s q j a
          · exact .inl ⟨(j : Int), rfl, rfl⟩
          · exact .inr ⟨rfl, rfl⟩
        · exact .inr ⟨rfl, rfl⟩
      · exact .inr ⟨rfl, rfl⟩
  have b2 : ∀ (i : Nat) (q : Int), ys[i]? = some q → ∃ x, whileO (spec_Meddles_b2 (s.1, s.2.1, s.2.2.1, s.2.2.2, 0) ys (i : Int)) 0 = some x ∧ whileO (linealref01_Meddles_b2 s ys (i : Int)) 0 = some x := by
    intro i q hq
    refine loops_from s.2.1.toNat ?_ ?_ s.2.1.toNat 0 (by omega) (by omega) fun j hj1 hj2 => ?_
    · unfold spec_Meddles_b2
      rw [if_neg (by rw [decide_eq_true_eq]; simp only; omega)]
    · unfold linealref01_Meddles_b2
      rw [if_neg (by rw [decide_eq_true_eq]; omega)]
    · obtain ⟨x, x1, x2⟩ := b3 i j q hq hj2
      have ki : InK .i64 ((j : Int) + 1) := by rw [inK_i64]; omega
      unfold spec_Meddles_b2 linealref01_Meddles_b2 spec_Meddles_k3 linealref01_Meddles_k3
      simp only
      rw [if_pos (by rw [decide_eq_true_eq]; omega), if_pos (by rw [decide_eq_true_eq]; omega), x1, x2, Option.bind_some]
      cases x with
      | inl c => exact .inl ⟨((j : Int), c), rfl, rfl⟩
      | inr u => exact .inr ⟨ck_pos ki _, ck_pos ki _⟩
  obtain ⟨x, x1, x2⟩ : ∃ x, whileO (spec_Meddles_b1 (s.1, s.2.1, s.2.2.1, s.2.2.2, 0) ys) 0 = some x ∧ whileO (linealref01_Meddles_b1 s ys) 0 = some x := by
    refine loops_from ys.length ?_ ?_ ys.length 0 (by omega) (by omega) fun j hj1 hj2 => ?_
    · unfold spec_Meddles_b1
      rw [if_neg (by simp)]
    · unfold linealref01_Meddles_b1
      rw [if_neg (by simp)]
    · obtain ⟨q, hq⟩ := get_of_lt hj2
      obtain ⟨x, x1, x2⟩ := b2 j q hq
      have ki : InK .i64 ((j : Int) + 1) := by rw [inK_i64]; omega
      unfold spec_Meddles_b1 linealref01_Meddles_b1 spec_Meddles_k2 linealref01_Meddles_k2
      rw [if_pos (by rw [decide_eq_true_eq]; omega), if_pos (by rw [decide_eq_true_eq]; omega)]
      simp only [ck_pos (show (0 : Int) ≤ (j : Int) by omega), ck_pos (show (j : Int) < (ys.length : Int) by omega)]
      rw [x1, x2, Option.bind_some]
      cases x with
      | inl c => exact .inl ⟨_, rfl, rfl⟩
      | inr u => exact .inr ⟨ck_pos ki _, ck_pos ki _⟩
  unfold spec_Meddles linealref01_Meddles
  rw [checked_eq s hs [] (by rw [maxLen_num]; simp), Option.bind_some, refValid_eq s hs, Option.bind_some]
  simp only [hv, if_true, List.all_nil, decide_true, Bool.not_true, Bool.false_eq_true, if_false]
  rw [e4, y1, y2, Option.bind_some, Option.bind_some, x1, x2]
  cases x with
  | inl c => exact ⟨_, rfl, rfl⟩
  | inr u => exact ⟨_, rfl, rfl⟩

theorem ref_reads {o : Int} (ho : inR s.2.1 o = true) : ∃ ys, linealref01_reached s = some ys ∧ whileO (linealref01_Reads_b1 s o ys) 0 = some (if readsB s o = true then .inr () else .inl ()) := by
  obtain ⟨ys, y1, y2, y3, y4, y5⟩ := reached_both hv
  refine ⟨ys, y2, ?_⟩
  rw [whileO_all ys (fun x => sameB s x (nxt s x o)) (fun k x hk => ?_) ?_]
  · have : ys.all (fun x => sameB s x (nxt s x o)) = readsB s o := by
      unfold readsB
      rw [Bool.eq_iff_iff, List.all_eq_true, List.all_eq_true]
      constructor
      · intro h x hx; exact h x.1 ((y4 _).2 (List.mem_map.2 ⟨x, hx, rfl⟩))
      · intro h x hx
        obtain ⟨z, hz, rfl⟩ := List.mem_map.1 ((y4 _).1 hx)
        exact h z hz
    rw [this]
  · unfold linealref01_Reads_b1
    rw [if_neg (by simp)]
  · have hx := y5 x (List.mem_of_getElem? hk)
    obtain ⟨c1, c2, c3, c4, c5, c6, c7⟩ := run_step_ok hv hx ho
    have hlt := lt_of_get hk
    have hg : ys.getD k 0 = x := getD_of hk
    unfold linealref01_Reads_b1
    simp only [Int.toNat_natCast, hg, getD_at]
    rw [if_pos (by rw [decide_eq_true_eq]; omega), ck_pos (by omega), ck_pos (by omega), ck_pos c1, ck_pos c3, ck_pos c4, ck_pos c6, ref_same_eq hv hx c7, Option.bind_some]
    have e : nxt s x o = at2 s.2.2.1 x o.toNat := rfl
    rw [e]
    cases sameB s x (at2 s.2.2.1 x o.toNat)
    · simp
    · simp [ck_pos (show InK .i64 ((k : Int) + 1) by rw [inK_i64]; omega)]

end

theorem calls_eq (s : Tup) (hs : okS s) (p a b : Int) : linealref01_calls s p a b = some (if (toSp s).ok = true then (if inR s.1 p = true ∧ inR s.2.1 a = true ∧ inR s.2.1 b = true then 0 else 2) else 10) := by
  unfold linealref01_calls
  rw [asked_eq s hs, Option.bind_some, IsOp_eq, IsOp_eq]
  cases hv : (toSp s).ok
  · simp
  cases hp : inR s.1 p
  · simp
  cases ha : inR s.2.1 a
  · simp
  cases hb : inR s.2.1 b
  · simp
  simp

set_option maxHeartbeats 1000000 in
/-- The law holds. -/
theorem SpecCalls_eq (s : Tup) (hs : okS s) (p a b : Int) : lineallaw01_SpecCalls s p a b = some true := by
  unfold lineallaw01_SpecCalls
  rw [Long_eq s hs, Awake_eq, Option.bind_some]
  cases wideB s.2.2.1 || wideB s.2.2.2
  rotate_left
  · simp
  have hcom : ∃ r, spec_Commute s p a b = some r ∧ linealref01_Commute s p a b = some r := by
    unfold spec_Commute spec_told linealref01_Commute
    rw [checked_eq s hs [p] (by rw [maxLen_num]; simp), Option.bind_some, calls_eq s hs, Option.bind_some]
    cases hv : (toSp s).ok
    · exact ⟨(false, 10), by simp, by simp⟩
    cases hp : inR s.1 p
    · exact ⟨(false, 2), by simp [hp], by simp⟩
    simp only [if_true, List.all_cons, List.all_nil, Bool.and_true, hp, decide_true, Bool.not_true, Bool.false_eq_true, if_false]
    rw [show ((s.1, s.2.1, s.2.2.1, s.2.2.2) : Tup) = s from rfl, all_call s [a, b] (by rw [maxLen_num]; simp), Option.bind_some]
    cases ha : inR s.2.1 a
    · exact ⟨(false, 2), by simp [ha], by simp⟩
    cases hb : inR s.2.1 b
    · exact ⟨(false, 2), by simp [ha, hb], by simp⟩
    exact ⟨(comB s p a b, 0), by simp [ha, hb, com_eq hv hp ha hb], by simp [ref_com_eq hv hp ha hb]⟩
  have hovw : ∃ r, spec_Overwrites s p a b = some r ∧ linealref01_Overwrites s p a b = some r := by
    unfold spec_Overwrites spec_told_2 linealref01_Overwrites
    rw [checked_eq s hs [p] (by rw [maxLen_num]; simp), Option.bind_some, calls_eq s hs, Option.bind_some]
    cases hv : (toSp s).ok
    · exact ⟨(false, 10), by simp, by simp⟩
    cases hp : inR s.1 p
    · exact ⟨(false, 2), by simp [hp], by simp⟩
    simp only [if_true, List.all_cons, List.all_nil, Bool.and_true, hp, decide_true, Bool.not_true, Bool.false_eq_true, if_false]
    rw [show ((s.1, s.2.1, s.2.2.1, s.2.2.2) : Tup) = s from rfl, all_call s [a, b] (by rw [maxLen_num]; simp), Option.bind_some]
    cases ha : inR s.2.1 a
    · exact ⟨(false, 2), by simp [ha], by simp⟩
    cases hb : inR s.2.1 b
    · exact ⟨(false, 2), by simp [ha, hb], by simp⟩
    exact ⟨(ovwB s p a b, 0), by simp [ha, hb, ovw_eq hv hp ha hb], by simp [ref_ovw_eq hv hp ha hb]⟩
  have hrd : ∃ r, spec_Reads s a = some r ∧ linealref01_Reads s a = some r := by
    cases hv : (toSp s).ok
    · refine ⟨(false, 10), ?_, ?_⟩
      · unfold spec_Reads
        rw [checked_eq s hs [] (by rw [maxLen_num]; simp), Option.bind_some]
        simp [hv]
      · unfold linealref01_Reads
        rw [calls_eq s hs, Option.bind_some]
        simp [hv]
    have z : inR s.1 0 = true := (zero_ok hv).1
    cases ha : inR s.2.1 a
    · refine ⟨(false, 2), ?_, ?_⟩
      · unfold spec_Reads
        rw [checked_eq s hs [] (by rw [maxLen_num]; simp), Option.bind_some]
        simp only [hv, if_true, List.all_nil, decide_true, Bool.not_true, Bool.false_eq_true, if_false]
        rw [show ((s.1, s.2.1, s.2.2.1, s.2.2.2) : Tup) = s from rfl, isCall_eq, Option.bind_some, ha]
        rfl
      · unfold linealref01_Reads
        rw [calls_eq s hs, Option.bind_some]
        simp [hv, ha]
    refine ⟨(readsB s a, 0), Reads_in hv hs ha, ?_⟩
    obtain ⟨ys, r1, r2⟩ := ref_reads hv ha
    unfold linealref01_Reads
    rw [calls_eq s hs, Option.bind_some]
    simp only [hv, z, ha, and_self, if_true, decide_true, Bool.not_true, Bool.false_eq_true, if_false]
    rw [r1, Option.bind_some, r2, Option.bind_some]
    cases readsB s a <;> rfl
  have hmd : ∃ r, spec_Meddles s = some r ∧ linealref01_Meddles s = some r := by
    cases hv : (toSp s).ok
    · refine ⟨(0, 0, 0, 10), ?_, ?_⟩
      · unfold spec_Meddles
        rw [checked_eq s hs [] (by rw [maxLen_num]; simp), Option.bind_some]
        simp [hv]
      · unfold linealref01_Meddles
        rw [refValid_eq s hs, Option.bind_some]
        simp [hv]
    exact meddles_eq hv hs
  obtain ⟨c, c1, c2⟩ := hcom
  obtain ⟨o, o1, o2⟩ := hovw
  obtain ⟨r, r1, r2⟩ := hrd
  obtain ⟨m, m1, m2⟩ := hmd
  rw [c1, c2, o1, o2, r1, r2, m1, m2]
  simp
end Go.Proofs.Ytcgflignbhmoaaa
