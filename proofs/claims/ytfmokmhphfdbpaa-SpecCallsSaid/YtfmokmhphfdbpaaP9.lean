/-
  Layer 1, pure: calls that commute, overwrite, only read, meddle; the law about them.
-/
import Derived.Test.YtfmokmhphfdbpaaP8
namespace Go.Proofs.Ytfmokmhphfdbpaa
open Go.RowKit

set_option linter.unusedVariables false
set_option linter.unusedSimpArgs false
set_option linter.unusedSectionVars false

def nxt (s : Tup) (q o : Int) : Int := at2 s.2.2.1 q o.toNat
def say (s : Tup) (q o : Int) : Int := at2 s.2.2.2 q o.toNat

def comB (s : Tup) (p a b : Int) : Bool := decide (say s p a = say s (nxt s p b) a) && decide (say s (nxt s p a) b = say s p b) && sameB s (nxt s (nxt s p a) b) (nxt s (nxt s p b) a)
def ovwB (s : Tup) (p a b : Int) : Bool := decide (say s (nxt s p a) b = say s p b) && sameB s (nxt s (nxt s p a) b) (nxt s p b)
def medB (s : Tup) (p a b : Int) : Bool := !comB s p a b && !ovwB s p a b && !ovwB s p b a

theorem run_two (s : Tup) (p a b : Int) : runF s p [a, b] = ([say s p a, say s (nxt s p a) b], nxt s (nxt s p a) b) := rfl
theorem run_one (s : Tup) (p a : Int) : runF s p [a] = ([say s p a], nxt s p a) := rfl

section
variable {s : Tup} (hv : (toSp s).ok = true)
include hv

theorem nxt_in {q o : Int} (hq : inR s.1 q = true) (ho : inR s.2.1 o = true) : inR s.1 (nxt s q o) = true := nx_in hv hq ho

theorem com_eq {p a b : Int} (hp : inR s.1 p = true) (ha : inR s.2.1 a = true) (hb : inR s.2.1 b = true) : spec_machine_commute s p a b = some (comB s p a b) := by
  have w1 : wordB s [a, b] = true := wordB_of (by simp) fun x hx => by simp at hx; rcases hx with rfl | rfl <;> assumption
  have w2 : wordB s [b, a] = true := wordB_of (by simp) fun x hx => by simp at hx; rcases hx with rfl | rfl <;> assumption
  unfold spec_machine_commute
  rw [(machine_run_eq hv hp w1).1, Option.bind_some, (machine_run_eq hv hp w2).1, Option.bind_some, run_two, run_two]
  rw [ck_pos (by simp), ck_pos (by simp)]
  unfold comB
  by_cases h1 : say s p a = say s (nxt s p b) a
  · rw [if_pos (by simp [h1]), ck_pos (by simp), ck_pos (by simp)]
    by_cases h2 : say s (nxt s p a) b = say s p b
    · rw [if_pos (by simp [h2]), machine_same_eq hv (nxt_in hv (nxt_in hv hp ha) hb) (nxt_in hv (nxt_in hv hp hb) ha)]
      simp [h1, h2]
    · rw [if_neg (by simp [h2])]; simp [h2]
  · rw [if_neg (by simp [h1])]; simp [h1]

theorem ovw_eq {p a b : Int} (hp : inR s.1 p = true) (ha : inR s.2.1 a = true) (hb : inR s.2.1 b = true) : spec_machine_overwrites s p a b = some (ovwB s p a b) := by
  have w1 : wordB s [a, b] = true := wordB_of (by simp) fun x hx => by simp at hx; rcases hx with rfl | rfl <;> assumption
  have w2 : wordB s [b] = true := wordB_of (by simp) fun x hx => by simp at hx; subst hx; assumption
  unfold spec_machine_overwrites
  rw [(machine_run_eq hv hp w1).1, Option.bind_some, (machine_run_eq hv hp w2).1, Option.bind_some, run_two, run_one]
  rw [ck_pos (by simp), ck_pos (by simp)]
  unfold ovwB
  by_cases h2 : say s (nxt s p a) b = say s p b
  · rw [if_pos (by simp [h2]), machine_same_eq hv (nxt_in hv (nxt_in hv hp ha) hb) (nxt_in hv hp hb)]
    simp [h2]
  · rw [if_neg (by simp [h2])]; simp [h2]

theorem med_eq {p a b : Int} (hp : inR s.1 p = true) (ha : inR s.2.1 a = true) (hb : inR s.2.1 b = true) : spec_machine_meddle s p a b = some (medB s p a b) := by
  unfold spec_machine_meddle medB
  rw [com_eq hv hp ha hb, Option.bind_some, ovw_eq hv hp ha hb, ovw_eq hv hp hb ha]
  cases comB s p a b
  · cases ovwB s p a b <;> simp
  · simp

theorem com_symm {p a b : Int} (hp : inR s.1 p = true) (ha : inR s.2.1 a = true) (hb : inR s.2.1 b = true) (h : comB s p a b = true) : comB s p b a = true := by
  unfold comB at *
  simp only [Bool.and_eq_true, decide_eq_true_eq] at *
  exact ⟨⟨h.1.2.symm, h.1.1.symm⟩, same_symm hv (nxt_in hv (nxt_in hv hp ha) hb) (nxt_in hv (nxt_in hv hp hb) ha) h.2⟩

theorem com_symm' {p a b : Int} (hp : inR s.1 p = true) (ha : inR s.2.1 a = true) (hb : inR s.2.1 b = true) : comB s p a b = comB s p b a := by
  cases h : comB s p a b
  · cases k : comB s p b a
    · rfl
    · rw [com_symm hv hp hb ha k] at h; cases h
  · exact (com_symm hv hp ha hb h).symm

theorem checked_in (hs : okS s) {p : Int} (hp : inR s.1 p = true) : spec_checked s [p] = some (s.1, s.2.1, s.2.2.1, s.2.2.2, 0) := by
  rw [checked_eq s hs [p] (by rw [maxLen_num]; simp)]
  simp [hv, hp]

theorem Commute_in (hs : okS s) {p a b : Int} (hp : inR s.1 p = true) (ha : inR s.2.1 a = true) (hb : inR s.2.1 b = true) : spec_Commute s p a b = some (comB s p a b, 0) := by
  unfold spec_Commute spec_told
  rw [checked_in hv hs hp, Option.bind_some]
  simp only [decide_true, Bool.not_true, Bool.false_eq_true, if_false]
  rw [show ((s.1, s.2.1, s.2.2.1, s.2.2.2) : Tup) = s from rfl, all_call s [a, b] (by rw [maxLen_num]; simp), com_eq hv hp ha hb]
  simp [ha, hb]

theorem Overwrites_in (hs : okS s) {p a b : Int} (hp : inR s.1 p = true) (ha : inR s.2.1 a = true) (hb : inR s.2.1 b = true) : spec_Overwrites s p a b = some (ovwB s p a b, 0) := by
  unfold spec_Overwrites spec_told_2
  rw [checked_in hv hs hp, Option.bind_some]
  simp only [decide_true, Bool.not_true, Bool.false_eq_true, if_false]
  rw [show ((s.1, s.2.1, s.2.2.1, s.2.2.2) : Tup) = s from rfl, all_call s [a, b] (by rw [maxLen_num]; simp), ovw_eq hv hp ha hb]
  simp [ha, hb]

/-- A call that only reads. -/
def readsB (s : Tup) (o : Int) : Bool := (waysL s).all fun x => sameB s x.1 (nxt s x.1 o)

theorem reads_step {o : Int} (ho : inR s.2.1 o = true) {x : Int × List Int} (hx : inR s.1 x.1 = true) (st : Unit) : spec_Reads_y1 o (s.1, s.2.1, s.2.2.1, s.2.2.2, 0) x st = some (if sameB s x.1 (nxt s x.1 o) = true then .next () else .done ()) := by
  obtain ⟨c1, c2, c3, c4, c5, c6, c7⟩ := run_step_ok hv hx ho
  unfold spec_Reads_y1
  simp only [getD_at]
  rw [ck_pos c1, ck_pos c3, ck_pos c4, ck_pos c6, show ((s.1, s.2.1, s.2.2.1, s.2.2.2) : Tup) = s from rfl, machine_same_eq hv hx c7, Option.bind_some]
  have e : nxt s x.1 o = at2 s.2.2.1 x.1 o.toNat := rfl
  rw [e]
  cases sameB s x.1 (at2 s.2.2.1 x.1 o.toNat) <;> simp

theorem fold_reads {o : Int} (ho : inR s.2.1 o = true) : ∀ (l : List (Int × List Int)), (∀ x ∈ l, inR s.1 x.1 = true) → foldY (spec_Reads_y1 o (s.1, s.2.1, s.2.2.1, s.2.2.2, 0)) l () = some (if l.all (fun x => sameB s x.1 (nxt s x.1 o)) = true then .inl () else .inr ())
  | [], _ => rfl
  | x :: l, h => by
    simp only [foldY]
    rw [reads_step hv ho (h x (by simp)), Option.bind_some, List.all_cons]
    cases sameB s x.1 (nxt s x.1 o)
    · simp
    · simp only [if_true, Bool.true_and]
      exact fold_reads ho l fun y hy => h y (by simp [hy])

theorem Reads_in (hs : okS s) {o : Int} (ho : inR s.2.1 o = true) : spec_Reads s o = some (readsB s o, 0) := by
  unfold spec_Reads spec_machine_ways readsB
  rw [checked_eq s hs [] (by rw [maxLen_num]; simp), Option.bind_some]
  simp only [hv, if_true, List.all_nil, decide_true, Bool.not_true, Bool.false_eq_true, if_false]
  rw [show ((s.1, s.2.1, s.2.2.1, s.2.2.2) : Tup) = s from rfl, isCall_eq, Option.bind_some, ho]
  simp only [Bool.not_true, Bool.false_eq_true, if_false, Option.bind_some]
  rw [ways_eq hv _ () (fold_reads hv ho (waysL s) fun x hx => ways_in hv hx), Option.bind_some]
  cases (waysL s).all fun x => sameB s x.1 (nxt s x.1 o) <;> simp [spec_Reads_k1]

theorem ways_next {x : Int × List Int} (hx : x ∈ waysL s) {o : Int} (ho : inR s.2.1 o = true) : ∃ y ∈ waysL s, y.1 = nxt s x.1 o := by
  obtain ⟨e, he, rfl⟩ := List.mem_map.1 hx
  obtain ⟨e', he', h1, _⟩ := bfs_next hv hv rfl (zero_ok hv) he ho
  exact ⟨(e'.1.1, e'.2), List.mem_map.2 ⟨e', he', rfl⟩, by rw [h1]; rfl⟩

/-- A call that only reads, with one answer everywhere, commutes with all. -/
theorem reads_com {a b : Int} (ha : inR s.2.1 a = true) (hb : inR s.2.1 b = true) (hr : readsB s a = true) (h1 : ∀ x ∈ waysL s, say s x.1 a = say s 0 a) {x : Int × List Int} (hx : x ∈ waysL s) : comB s x.1 a b = true := by
  unfold readsB at hr
  rw [List.all_eq_true] at hr
  have hp := ways_in hv hx
  obtain ⟨y, hy, hy1⟩ := ways_next hv hx hb
  have k1 := hr x hx
  have k2 := hr y hy
  rw [hy1] at k2
  have na := nxt_in hv hp ha
  have nb := nxt_in hv hp hb
  obtain ⟨n1, n2⟩ := same_next hv hp na hb k1
  have n2' : sameB s (nxt s x.1 b) (nxt s (nxt s x.1 a) b) = true := n2
  unfold comB
  simp only [Bool.and_eq_true, decide_eq_true_eq]
  refine ⟨⟨?_, n1.symm⟩, same_trans hv (nxt_in hv na hb) nb (nxt_in hv nb ha) (same_symm hv nb (nxt_in hv na hb) n2') k2⟩
  rw [h1 x hx, ← hy1, h1 y hy]

end

/-- A search among numbers. -/
theorem whileO_from {α : Type} {body : Int → Option (Step Int (Sum α Unit))} (n : Nat) (P : α → Prop) (hd : body (n : Int) = some (.done (.inr ()))) : ∀ (d k : Nat), n - k = d → k ≤ n → (∀ j : Nat, k ≤ j → j < n → (∃ a, body (j : Int) = some (.done (.inl a)) ∧ P a) ∨ body (j : Int) = some (.next ((j : Int) + 1))) → ∃ x, whileN body (d + 1) (k : Int) = some x ∧ ∀ a, x = .inl a → P a := by
  intro d
  induction d with
  | zero =>
    intro k h1 h2 _
    obtain rfl : k = n := by omega
    refine ⟨.inr (), ?_, fun a h => by cases h⟩
    unfold whileN; rw [hd]
  | succ d ih =>
    intro k h1 h2 h
    unfold whileN
    rcases h k (Nat.le_refl _) (by omega) with ⟨a, hb, hp⟩ | hb
    · rw [hb]
      exact ⟨.inl a, rfl, fun a' e => by injection e with e; subst e; exact hp⟩
    · rw [hb]
      exact ih (k + 1) (by omega) (by omega) fun j hj => h j (by omega)

theorem Meddles_in {s : Tup} (hv : (toSp s).ok = true) (hs : okS s) : ∃ r, spec_Meddles s = some r ∧ (r.2.2.2 = 5 ∨ r.2.2.2 = 0 ∧ inR s.1 r.1 = true ∧ inR s.2.1 r.2.1 = true ∧ inR s.2.1 r.2.2.1 = true ∧ r.2.1 ≤ r.2.2.1 ∧ medB s r.1 r.2.1 r.2.2.1 = true) := by
  have hm := Sp.okE hv
  have h3 : 1 ≤ s.2.1 := hm.2.2.1
  have h4 : s.2.1 ≤ 4 := hm.2.2.2.1
  have h2 : s.1 ≤ 8 := hm.2.1
  obtain ⟨ys, hy1, hy2⟩ := reached_eq hv
  have hyl : ys.length ≤ 8 := by
    have := ways_len hv
    have := hy2.length_eq
    rw [List.length_map] at this; omega
  obtain ⟨n, hn⟩ := Int.eq_ofNat_of_zero_le (show 0 ≤ s.2.1 by omega)
  have b3 : ∀ (i : Nat) (q : Int) (st2 : Nat), ys[i]? = some q → st2 < n → ∃ x, whileO (spec_Meddles_b3 (s.1, s.2.1, s.2.2.1, s.2.2.2, 0) ys (i : Int) (st2 : Int)) (st2 : Int) = some x ∧ ∀ c, x = .inl c → inR s.2.1 c = true ∧ (st2 : Int) ≤ c ∧ medB s q st2 c = true := by
    intro i q st2 hq hst
    have hqin : inR s.1 q = true := by
      obtain ⟨z, hz, rfl⟩ := List.mem_map.1 (hy2.mem_iff.1 (List.mem_of_getElem? hq))
      exact ways_in hv hz
    obtain ⟨x, h1, h2⟩ := whileO_from (body := spec_Meddles_b3 (s.1, s.2.1, s.2.2.1, s.2.2.2, 0) ys (i : Int) (st2 : Int)) n (fun c => inR s.2.1 c = true ∧ (st2 : Int) ≤ c ∧ medB s q st2 c = true) (by unfold spec_Meddles_b3; rw [if_neg (by simp [hn])]) (n - st2) st2 rfl (by omega) (fun j hj1 hj2 => by
      have hj : inR s.2.1 (j : Int) = true := by simp only [inR, decide_eq_true_eq]; omega
      have hs2 : inR s.2.1 (st2 : Int) = true := by simp only [inR, decide_eq_true_eq]; omega
      unfold spec_Meddles_b3
      simp only [Int.toNat_natCast, getD_of hq]
      rw [if_pos (by rw [decide_eq_true_eq]; omega), show ((s.1, s.2.1, s.2.2.1, s.2.2.2) : Tup) = s from rfl, med_eq hv hqin hs2 hj, Option.bind_some]
      cases hmd : medB s q st2 j
      · refine .inr ?_
        rw [if_neg (by simp), ck_pos (by rw [inK_i64]; omega)]
      · exact .inl ⟨j, by rw [if_pos rfl], hj, by omega, hmd⟩)
    exact ⟨x, whileO_of h1, h2⟩
  have b2 : ∀ (i : Nat) (q : Int), ys[i]? = some q → ∃ x, whileO (spec_Meddles_b2 (s.1, s.2.1, s.2.2.1, s.2.2.2, 0) ys (i : Int)) 0 = some x ∧ ∀ c, x = .inl c → inR s.2.1 c.1 = true ∧ inR s.2.1 c.2 = true ∧ c.1 ≤ c.2 ∧ medB s q c.1 c.2 = true := by
    intro i q hq
    obtain ⟨x, h1, h2⟩ := whileO_from (body := spec_Meddles_b2 (s.1, s.2.1, s.2.2.1, s.2.2.2, 0) ys (i : Int)) n (fun c => inR s.2.1 c.1 = true ∧ inR s.2.1 c.2 = true ∧ c.1 ≤ c.2 ∧ medB s q c.1 c.2 = true) (by unfold spec_Meddles_b2; rw [if_neg (by simp [hn])]) n 0 (by omega) (by omega) (fun j hj1 hj2 => by
      obtain ⟨x, k1, k2⟩ := b3 i q j hq hj2
      unfold spec_Meddles_b2
      rw [if_pos (by rw [decide_eq_true_eq]; simp only; omega), k1, Option.bind_some]
      cases x with
      | inl c =>
        obtain ⟨m1, m2, m3⟩ := k2 c rfl
        exact .inl ⟨((j : Int), c), rfl, by simp only [inR, decide_eq_true_eq]; omega, m1, m2, m3⟩
      | inr u =>
        refine .inr ?_
        simp only
        unfold spec_Meddles_k3
        rw [ck_pos (by rw [inK_i64]; omega)])
    exact ⟨x, whileO_of h1, h2⟩
  obtain ⟨x, h1, h5⟩ := whileO_from (body := spec_Meddles_b1 (s.1, s.2.1, s.2.2.1, s.2.2.2, 0) ys) ys.length (fun c => inR s.1 c.1 = true ∧ inR s.2.1 c.2.1 = true ∧ inR s.2.1 c.2.2 = true ∧ c.2.1 ≤ c.2.2 ∧ medB s c.1 c.2.1 c.2.2 = true) (by unfold spec_Meddles_b1; rw [if_neg (by simp)]) ys.length 0 (by omega) (by omega) (fun j hj1 hj2 => by
    obtain ⟨q, hq⟩ := get_of_lt hj2
    have hqin : inR s.1 q = true := by
      obtain ⟨z, hz, rfl⟩ := List.mem_map.1 (hy2.mem_iff.1 (List.mem_of_getElem? hq))
      exact ways_in hv hz
    obtain ⟨x, k1, k2⟩ := b2 j q hq
    unfold spec_Meddles_b1
    rw [if_pos (by rw [decide_eq_true_eq]; omega), ck_pos (by omega), ck_pos (by omega), k1, Option.bind_some]
    cases x with
    | inl c =>
      refine .inl ⟨(q, c), ?_, hqin, k2 c rfl⟩
      simp only [Int.toNat_natCast, getD_of hq]
    | inr u =>
      refine .inr ?_
      simp only
      unfold spec_Meddles_k2
      rw [ck_pos (by rw [inK_i64]; omega)])
  have hw := whileO_of h1
  have e0 : ((0 : Nat) : Int) = 0 := rfl
  rw [e0] at hw
  unfold spec_Meddles
  rw [checked_eq s hs [] (by rw [maxLen_num]; simp), Option.bind_some]
  simp only [hv, if_true, List.all_nil, decide_true, Bool.not_true, Bool.false_eq_true, if_false]
  rw [show ((s.1, s.2.1, s.2.2.1, s.2.2.2) : Tup) = s from rfl, hy1, Option.bind_some, hw, Option.bind_some]
  cases x with
  | inl c => exact ⟨_, rfl, .inr ⟨rfl, h5 c rfl⟩⟩
  | inr u => exact ⟨_, rfl, .inl rfl⟩
end Go.Proofs.Ytfmokmhphfdbpaa
