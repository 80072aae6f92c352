/-
  DelayPrices and DelayCheapest.
-/
import Derived.Test.YtdicomoggfhbfaaD22
namespace Go.Proofs.Ytdicomoggfhbfaa
open Go.RowKit

set_option linter.unusedVariables false
set_option linter.unusedSimpArgs false

set_option maxHeartbeats 4000000 in
/-- Fences of a thread that hold all pairs, and cost no more than the prices. -/
theorem thread_core (n01 n02 n03 n12 n13 n23 : Bool) (v01 v02 v03 v12 v13 v23 c0 c1 c2 : Int)
    (p01 : 0 ≤ v01) (p02 : 0 ≤ v02) (p03 : 0 ≤ v03) (p12 : 0 ≤ v12) (p13 : 0 ≤ v13) (p23 : 0 ≤ v23) (q0 : 0 ≤ c0) (q1 : 0 ≤ c1) (q2 : 0 ≤ c2)
    (h01 : if n01 = true then v01 = c0 else v01 = 0)
    (h02 : if n02 = true then (v02 ≤ c0 - v01 ∧ v02 ≤ c1 ∧ (v02 = c0 - v01 ∨ v02 = c1)) else v02 = 0)
    (h12 : if n12 = true then v12 = c1 - v02 else v12 = 0)
    (h03 : if n03 = true then (v03 ≤ c0 - v01 - v02 ∧ v03 ≤ c1 - v02 - v12 ∧ v03 ≤ c2 ∧ (v03 = c0 - v01 - v02 ∨ v03 = c1 - v02 - v12 ∨ v03 = c2)) else v03 = 0)
    (h13 : if n13 = true then (v13 ≤ c1 - v02 - v12 - v03 ∧ v13 ≤ c2 - v03 ∧ (v13 = c1 - v02 - v12 - v03 ∨ v13 = c2 - v03)) else v13 = 0)
    (h23 : if n23 = true then v23 = c2 - v03 - v13 else v23 = 0) :
    ∃ h0 h1 h2 : Bool, ((!n01 || h0) && ((!n02 || (h0 || h1)) && ((!n03 || (h0 || (h1 || h2))) && ((!n12 || h1) && ((!n13 || (h1 || h2)) && (!n23 || h2)))))) = true ∧ (if h0 = true then c0 else 0) + (if h1 = true then c1 else 0) + (if h2 = true then c2 else 0) ≤ v01 + v02 + v03 + v12 + v13 + v23 := by
  refine Classical.byContradiction fun hno => ?_
  have key : ∀ h0 h1 h2 : Bool, ((!n01 || h0) && ((!n02 || (h0 || h1)) && ((!n03 || (h0 || (h1 || h2))) && ((!n12 || h1) && ((!n13 || (h1 || h2)) && (!n23 || h2)))))) = true → v01 + v02 + v03 + v12 + v13 + v23 < (if h0 = true then c0 else 0) + (if h1 = true then c1 else 0) + (if h2 = true then c2 else 0) := fun h0 h1 h2 h => by
    refine Int.not_le.1 fun c => hno ⟨h0, h1, h2, h, c⟩
  have k0 := key false false false
  have k1 := key true false false
  have k2 := key false true false
  have k3 := key false false true
  have k4 := key true true false
  have k5 := key true false true
  have k6 := key false true true
  have k7 := key true true true
  clear hno key
  cases n01 <;> cases n02 <;> cases n03 <;> cases n12 <;> cases n13 <;> cases n23 <;>
    simp only [Bool.not_true, Bool.not_false, Bool.false_or, Bool.true_or, Bool.or_true, Bool.or_false, Bool.and_true, Bool.true_and, Bool.and_false, Bool.false_and, if_true, Bool.false_eq_true, if_false, false_implies, true_implies] at k0 k1 k2 k3 k4 k5 k6 k7 h01 h02 h12 h03 h13 h23 <;> omega

theorem sumZ_nz {α : Type} [DecidableEq α] (F : α → Int) : ∀ l : List α, sumZ l F = sumZ (l.filter fun a => !decide (F a = 0)) F
  | [] => rfl
  | a :: l => by
    rw [sumZ_cons, sumZ_nz F l]
    by_cases h : F a = 0
    · rw [List.filter_cons_of_neg (by simp [h])]; omega
    · rw [List.filter_cons_of_pos (by simp [h]), sumZ_cons]
theorem sumZ_ext {α : Type} [DecidableEq α] {l m : List α} {F : α → Int} (hl : l.Nodup) (hm : m.Nodup) (h1 : ∀ q ∈ l, F q ≠ 0 → q ∈ m) (h2 : ∀ q ∈ m, F q ≠ 0 → q ∈ l) : sumZ l F = sumZ m F := by
  rw [sumZ_nz F l, sumZ_nz F m]
  have hln := hl.filter fun a => !decide (F a = 0)
  have hmn := hm.filter fun a => !decide (F a = 0)
  have i1 : ∀ q ∈ l.filter (fun a => !decide (F a = 0)), q ∈ m.filter fun a => !decide (F a = 0) := fun q hq => by
    obtain ⟨a, b⟩ := List.mem_filter.1 hq
    exact List.mem_filter.2 ⟨h1 q a (by simpa using b), b⟩
  have i2 : ∀ q ∈ m.filter (fun a => !decide (F a = 0)), q ∈ l.filter fun a => !decide (F a = 0) := fun q hq => by
    obtain ⟨a, b⟩ := List.mem_filter.1 hq
    exact List.mem_filter.2 ⟨h2 q a (by simpa using b), b⟩
  exact sum_permI ((perm_of hln i1 (nodup_le hmn i2)).map F)
theorem sumZ_filter {α : Type} (p : α → Bool) (F : α → Int) : ∀ l : List α, sumZ (l.filter p) F = sumZ l fun a => if p a = true then F a else 0
  | [] => rfl
  | a :: l => by
    rw [sumZ_cons, ← sumZ_filter p F l]
    by_cases h : p a = true
    · rw [List.filter_cons_of_pos h, sumZ_cons, if_pos h]
    · rw [List.filter_cons_of_neg h, if_neg h]; omega

/-- The pairs that a thread can have. -/
def tri (t : Int) : List Sta := [(t, 0, 1), (t, 0, 2), (t, 0, 3), (t, 1, 2), (t, 1, 3), (t, 2, 3)]
theorem tri_nodup (t : Int) : (tri t).Nodup := by simp [tri, List.Nodup]
theorem tri_fst {t : Int} {p : Sta} (h : p ∈ tri t) : p.1 = t := by
  simp only [tri, List.mem_cons, List.not_mem_nil, or_false] at h
  rcases h with rfl | rfl | rfl | rfl | rfl | rfl <;> rfl
theorem pr_bnd {x : Acs} {p : Sta} (h : isPr x p = true) : 0 ≤ p.1 ∧ p.1 < x.length ∧ 0 ≤ p.2.1 ∧ p.2.1 < p.2.2 ∧ p.2.2 < (x.getD p.1.toNat []).length := by
  unfold isPr at h
  simp only [Bool.and_eq_true, decide_eq_true_eq, hasA_iff] at h
  obtain ⟨⟨a1, a2, a3, a4⟩, ⟨_, _, b3, b4⟩, h3, _⟩ := h
  exact ⟨a1, a2, a3, h3, b4⟩
theorem pr_tri {x : Acs} (hv : vld x = true) {p : Sta} (h : isPr x p = true) : p ∈ tri p.1 := by
  obtain ⟨a1, a2, a3, a4, a5⟩ := pr_bnd h
  have hr := vld_row hv p.1.toNat
  obtain ⟨t, a, b⟩ := p
  simp only at *
  have : (a = 0 ∧ b = 1) ∨ (a = 0 ∧ b = 2) ∨ (a = 0 ∧ b = 3) ∨ (a = 1 ∧ b = 2) ∨ (a = 1 ∧ b = 3) ∨ (a = 2 ∧ b = 3) := by omega
  rcases this with ⟨rfl, rfl⟩ | ⟨rfl, rfl⟩ | ⟨rfl, rfl⟩ | ⟨rfl, rfl⟩ | ⟨rfl, rfl⟩ | ⟨rfl, rfl⟩ <;> simp [tri]

theorem atC_nonneg {x : Acs} {cs : Cos} (hc : areC x cs = true) {t : Nat} (ht : t < x.length) (g : Nat) : 0 ≤ atC cs ((t : Int), (g : Int)) := by
  obtain ⟨h1, h2⟩ := areC_iff.1 hc
  obtain ⟨h3, h4⟩ := h2 t ht
  unfold atC
  simp only [Int.toNat_natCast]
  by_cases hg : g < (cs.getD t []).length
  · have := h4 _ (getD_in (d := 0) hg); omega
  · rw [List.getD_eq_getElem?_getD (l := cs.getD t []), List.getElem?_eq_none (by omega)]; simp

theorem bf_tri {x : Acs} (hv : vld x = true) {cs : Cos} {P : Sta → Int} (hP : prI x cs (need x) 4 0 P) (t g i j : Int) : bfS (t, g) (need x) P (t, i, j) = sumZ (tri t) fun q => if (hldB (t, g) q && befB q (t, i, j)) = true then P q else 0 := by
  unfold bfS
  refine sumZ_ext (need_nodup x) (tri_nodup t) (fun q hq hF => ?_) (fun q hq hF => ?_)
  · have hh : (hldB (t, g) q && befB q (t, i, j)) = true := by
      cases h : (hldB (t, g) q && befB q (t, i, j)) with
      | true => rfl
      | false => rw [h] at hF; simp at hF
    rw [Bool.and_eq_true] at hh
    have h1 := hh.1
    unfold hldB at h1
    simp only [Bool.and_eq_true, decide_eq_true_eq] at h1
    rw [h1.1]
    exact pr_tri hv (mem_need.1 hq).1
  · refine Classical.byContradiction fun hno => hF ?_
    rw [hP.2.2.1 q fun c => hno c.1]; simp

/-- What is true of a price, on the thread. -/
theorem eqn_at {x : Acs} {cs : Cos} {P : Sta → Int} (hP : prI x cs (need x) 4 0 P) (hv : vld x = true) {t i j : Int} (hp : (t, i, j) ∈ need x) :
    (∀ g, i ≤ g → g < j → P (t, i, j) ≤ atC cs (t, g) - bfS (t, g) (need x) P (t, i, j)) ∧ ∃ g, i ≤ g ∧ g < j ∧ P (t, i, j) = atC cs (t, g) - bfS (t, g) (need x) P (t, i, j) := by
  obtain ⟨a1, a2, a3, a4, a5⟩ := pr_bnd (mem_need.1 hp).1
  have hr := vld_row hv t.toNat
  simp only at *
  obtain ⟨h1, f, hf, hh, h2⟩ := hP.2.2.2 (t, i, j) ⟨hp, .inl (by simp only; omega)⟩
  refine ⟨fun g g1 g2 => h1 (t, g) (mem_fens.2 ⟨a1, a2, by simp only; omega, by simp only; omega⟩) (by unfold hldB; simp only [Bool.and_eq_true, decide_eq_true_eq]; exact ⟨trivial, g1, g2⟩), ?_⟩
  unfold hldB at hh
  simp only [Bool.and_eq_true, decide_eq_true_eq] at hh
  obtain ⟨e, g1, g2⟩ := hh
  obtain ⟨ft, fg⟩ := f
  simp only at e g1 g2
  subst e
  exact ⟨fg, g1, g2, h2⟩

theorem thread_ok {x : Acs} (hv : vld x = true) {cs : Cos} (hc : areC x cs = true) {P : Sta → Int} (hP : prI x cs (need x) 4 0 P) {t : Nat} (ht : t < x.length) :
    ∃ H : Nat → Bool, (∀ p ∈ need x, p.1 = (t : Int) → ∃ g : Nat, p.2.1 ≤ g ∧ (g : Int) < p.2.2 ∧ H g = true) ∧
      (if H 0 = true then atC cs ((t : Int), ((0 : Nat) : Int)) else 0) + (if H 1 = true then atC cs ((t : Int), ((1 : Nat) : Int)) else 0) + (if H 2 = true then atC cs ((t : Int), ((2 : Nat) : Int)) else 0) ≤ sumZ (tri (t : Int)) P := by
  have bf := fun g i j => bf_tri hv hP (t : Int) g i j
  have b010 := bf 0 0 1
  have b020 := bf 0 0 2
  have b021 := bf 1 0 2
  have b121 := bf 1 1 2
  have b030 := bf 0 0 3
  have b031 := bf 1 0 3
  have b032 := bf 2 0 3
  have b131 := bf 1 1 3
  have b132 := bf 2 1 3
  have b232 := bf 2 2 3
  simp [sumZ, tri, hldB, befB, ltSB] at b010 b020 b021 b121 b030 b031 b032 b131 b132 b232
  have nz := fun p (h : p ∉ need x) => hP.2.2.1 p fun c => h c.1
  obtain ⟨h0, h1, h2, hcov, hsum⟩ := thread_core (decide (((t : Int), (0 : Int), (1 : Int)) ∈ need x)) (decide (((t : Int), (0 : Int), (2 : Int)) ∈ need x)) (decide (((t : Int), (0 : Int), (3 : Int)) ∈ need x)) (decide (((t : Int), (1 : Int), (2 : Int)) ∈ need x)) (decide (((t : Int), (1 : Int), (3 : Int)) ∈ need x)) (decide (((t : Int), (2 : Int), (3 : Int)) ∈ need x))
    (P ((t : Int), 0, 1)) (P ((t : Int), 0, 2)) (P ((t : Int), 0, 3)) (P ((t : Int), 1, 2)) (P ((t : Int), 1, 3)) (P ((t : Int), 2, 3)) (atC cs ((t : Int), 0)) (atC cs ((t : Int), 1)) (atC cs ((t : Int), 2))
    (hP.1 _).1 (hP.1 _).1 (hP.1 _).1 (hP.1 _).1 (hP.1 _).1 (hP.1 _).1 (atC_nonneg hc ht 0) (atC_nonneg hc ht 1) (atC_nonneg hc ht 2)
    (by
      by_cases h : ((t : Int), (0 : Int), (1 : Int)) ∈ need x
      · rw [if_pos (decide_eq_true h)]
        obtain ⟨g, g1, g2, g3⟩ := (eqn_at hP hv h).2
        obtain rfl : g = 0 := by omega
        omega
      · rw [if_neg (by rw [decide_eq_true_eq]; exact h)]; exact nz _ h)
    (by
      by_cases h : ((t : Int), (0 : Int), (2 : Int)) ∈ need x
      · rw [if_pos (decide_eq_true h)]
        have e := eqn_at hP hv h
        have e0 := e.1 0 (by omega) (by omega)
        have e1 := e.1 1 (by omega) (by omega)
        obtain ⟨g, g1, g2, g3⟩ := e.2
        have : g = 0 ∨ g = 1 := by omega
        rcases this with rfl | rfl <;> omega
      · rw [if_neg (by rw [decide_eq_true_eq]; exact h)]; exact nz _ h)
    (by
      by_cases h : ((t : Int), (1 : Int), (2 : Int)) ∈ need x
      · rw [if_pos (decide_eq_true h)]
        obtain ⟨g, g1, g2, g3⟩ := (eqn_at hP hv h).2
        obtain rfl : g = 1 := by omega
        omega
      · rw [if_neg (by rw [decide_eq_true_eq]; exact h)]; exact nz _ h)
    (by
      by_cases h : ((t : Int), (0 : Int), (3 : Int)) ∈ need x
      · rw [if_pos (decide_eq_true h)]
        have e := eqn_at hP hv h
        have e0 := e.1 0 (by omega) (by omega)
        have e1 := e.1 1 (by omega) (by omega)
        have e2 := e.1 2 (by omega) (by omega)
        obtain ⟨g, g1, g2, g3⟩ := e.2
        have : g = 0 ∨ g = 1 ∨ g = 2 := by omega
        rcases this with rfl | rfl | rfl <;> omega
      · rw [if_neg (by rw [decide_eq_true_eq]; exact h)]; exact nz _ h)
    (by
      by_cases h : ((t : Int), (1 : Int), (3 : Int)) ∈ need x
      · rw [if_pos (decide_eq_true h)]
        have e := eqn_at hP hv h
        have e1 := e.1 1 (by omega) (by omega)
        have e2 := e.1 2 (by omega) (by omega)
        obtain ⟨g, g1, g2, g3⟩ := e.2
        have : g = 1 ∨ g = 2 := by omega
        rcases this with rfl | rfl <;> omega
      · rw [if_neg (by rw [decide_eq_true_eq]; exact h)]; exact nz _ h)
    (by
      by_cases h : ((t : Int), (2 : Int), (3 : Int)) ∈ need x
      · rw [if_pos (decide_eq_true h)]
        obtain ⟨g, g1, g2, g3⟩ := (eqn_at hP hv h).2
        obtain rfl : g = 2 := by omega
        omega
      · rw [if_neg (by rw [decide_eq_true_eq]; exact h)]; exact nz _ h)
  refine ⟨fun g => if g = 0 then h0 else if g = 1 then h1 else h2, fun p hp e => ?_, ?_⟩
  · have hm := pr_tri hv (mem_need.1 hp).1
    rw [e] at hm
    simp only [Bool.and_eq_true, Bool.or_eq_true, Bool.not_eq_true', decide_eq_false_iff_not] at hcov
    obtain ⟨c1, c2, c3, c4, c5, c6⟩ := hcov
    simp only [tri, List.mem_cons, List.not_mem_nil, or_false] at hm
    rcases hm with rfl | rfl | rfl | rfl | rfl | rfl
    · rcases c1 with c | c
      · exact absurd hp c
      · exact ⟨0, by simp, by simp, c⟩
    · rcases c2 with c | c | c
      · exact absurd hp c
      · exact ⟨0, by simp, by simp, c⟩
      · exact ⟨1, by simp, by simp, c⟩
    · rcases c3 with c | c | c | c
      · exact absurd hp c
      · exact ⟨0, by simp, by simp, c⟩
      · exact ⟨1, by simp, by simp, c⟩
      · exact ⟨2, by simp, by simp, c⟩
    · rcases c4 with c | c
      · exact absurd hp c
      · exact ⟨1, by simp, by simp, c⟩
    · rcases c5 with c | c | c
      · exact absurd hp c
      · exact ⟨1, by simp, by simp, c⟩
      · exact ⟨2, by simp, by simp, c⟩
    · rcases c6 with c | c
      · exact absurd hp c
      · exact ⟨2, by simp, by simp, c⟩
  · have e : sumZ (tri (t : Int)) P = P ((t : Int), 0, 1) + P ((t : Int), 0, 2) + P ((t : Int), 0, 3) + P ((t : Int), 1, 2) + P ((t : Int), 1, 3) + P ((t : Int), 2, 3) := by
      simp [sumZ, tri]; omega
    rw [e]
    exact hsum

theorem range3 {k : Nat} (hk : k ≤ 3) {G : Nat → Int} (h0 : 0 ≤ G 0) (h1 : 0 ≤ G 1) (h2 : 0 ≤ G 2) : sumZ (List.range k) G ≤ G 0 + G 1 + G 2 := by
  have : k = 0 ∨ k = 1 ∨ k = 2 ∨ k = 3 := by omega
  rcases this with rfl | rfl | rfl | rfl <;> simp [sumZ, List.range_succ] <;> omega

/-- Some fences are enough, and cost no more than the prices. -/
theorem cheap_ex {x : Acs} (hv : vld x = true) {cs : Cos} (hc : areC x cs = true) {P : Sta → Int} (hP : prI x cs (need x) 4 0 P) : ∃ l : List Fen, l.Sublist (fens x) ∧ enB l (need x) = true ∧ cstF cs l ≤ sumZ (need x) P := by
  obtain ⟨H, hH⟩ := Classical.axiomOfChoice (α := Nat) (β := fun _ => Nat → Bool) (r := fun t H => t < x.length → (∀ p ∈ need x, p.1 = (t : Int) → ∃ g : Nat, p.2.1 ≤ g ∧ (g : Int) < p.2.2 ∧ H g = true) ∧
      (if H 0 = true then atC cs ((t : Int), ((0 : Nat) : Int)) else 0) + (if H 1 = true then atC cs ((t : Int), ((1 : Nat) : Int)) else 0) + (if H 2 = true then atC cs ((t : Int), ((2 : Nat) : Int)) else 0) ≤ sumZ (tri (t : Int)) P) (fun t => by
    by_cases ht : t < x.length
    · obtain ⟨H, h⟩ := thread_ok hv hc hP ht
      exact ⟨H, fun _ => h⟩
    · exact ⟨fun _ => false, fun c => absurd c ht⟩)
  refine ⟨(fens x).filter fun f => H f.1.toNat f.2.toNat, List.filter_sublist, ?_, ?_⟩
  · unfold enB
    rw [List.all_eq_true]
    intro p hp
    obtain ⟨a1, a2, a3, a4, a5⟩ := pr_bnd (mem_need.1 hp).1
    obtain ⟨g, g1, g2, g3⟩ := (hH p.1.toNat (by omega)).1 p hp (by omega)
    unfold heldB
    rw [List.any_eq_true]
    refine ⟨(p.1, (g : Int)), List.mem_filter.2 ⟨mem_fens.2 ⟨a1, a2, by simp only; omega, by simp only; omega⟩, by simp only; rw [Int.toNat_natCast]; exact g3⟩, ?_⟩
    unfold hldB
    simp only [Bool.and_eq_true, decide_eq_true_eq]
    exact ⟨trivial, g1, g2⟩
  · have e : cstF cs ((fens x).filter fun f => H f.1.toNat f.2.toNat) = sumZ (fens x) fun f => if H f.1.toNat f.2.toNat = true then atC cs f else 0 := sumZ_filter _ _ _
    rw [e]
    unfold fens
    rw [sumZ_flat]
    have e2 : sumZ (need x) P = sumZ ((List.range x.length).flatMap fun (t : Nat) => tri (t : Int)) P := by
      refine sumZ_ext (need_nodup x) ?_ (fun q hq _ => ?_) (fun q hq hF => Classical.byContradiction fun hno => hF (hP.2.2.1 q fun c => hno c.1))
      · unfold List.Nodup
        rw [List.pairwise_flatMap]
        refine ⟨fun t _ => tri_nodup _, List.pairwise_lt_range.imp fun {t t'} h u hu v hv e => ?_⟩
        have h1 := tri_fst hu
        have h2 := tri_fst hv
        rw [e] at h1
        omega
      · have hq := (mem_need.1 hq).1
        obtain ⟨a1, a2, _⟩ := pr_bnd hq
        refine List.mem_flatMap.2 ⟨q.1.toNat, List.mem_range.2 (by omega), ?_⟩
        rw [Int.toNat_of_nonneg a1]
        exact pr_tri hv hq
    rw [e2, sumZ_flat]
    refine sumZ_mono fun t ht => ?_
    have ht := List.mem_range.1 ht
    have hr := vld_row hv t
    rw [sumZ_flat]
    refine Int.le_trans ?_ (hH t ht).2
    have e3 : sumZ (List.range ((x.getD t []).length - 1)) (fun (g : Nat) => sumZ [((t : Int), (g : Int))] fun f => if H f.1.toNat f.2.toNat = true then atC cs f else 0) = sumZ (List.range ((x.getD t []).length - 1)) fun (g : Nat) => if H t g = true then atC cs ((t : Int), (g : Int)) else 0 := sumZ_congr fun g _ => by
      rw [sumZ_cons, sumZ_nil]
      simp only [Int.toNat_natCast, Int.add_zero]
    rw [e3]
    have nn : ∀ g : Nat, 0 ≤ (if H t g = true then atC cs ((t : Int), (g : Int)) else 0) := fun g => by
      split
      · exact atC_nonneg hc ht g
      · exact Int.le_refl _
    exact range3 (G := fun g => if H t g = true then atC cs ((t : Int), (g : Int)) else 0) (by omega) (nn 0) (nn 1) (nn 2)

/-! ### No prices prove more -/
def wT (l : List Fen) (nd : List Sta) (ps : List Int) (i : Nat) : Int := if heldB l (nd.getD i (0, 0, 0)) = true then ps.getD i 0 else 0
theorem wT_le {nd : List Sta} {ps : List Int} (hp : ∀ v ∈ ps, 0 ≤ v ∧ v ≤ 100) (n : Nat) : ∀ l : List Fen, sumZ (List.range n) (wT l nd ps) ≤ sumZ l fun f => drwN f nd ps n
  | [] => by
    rw [sumZ_nil]
    have : sumZ (List.range n) (wT [] nd ps) = sumZ (List.range n) fun _ => 0 := sumZ_congr fun i _ => by simp [wT, heldB]
    rw [this]
    unfold sumZ
    rw [List.map_const']; simp
  | f :: l => by
    have ih := wT_le hp n (nd := nd) l
    rw [sumZ_cons]
    refine Int.le_trans (b := sumZ (List.range n) (drwT f nd ps) + sumZ (List.range n) (wT l nd ps)) ?_ ?_
    · have e : ∀ (L : List Nat), sumZ L (drwT f nd ps) + sumZ L (wT l nd ps) = sumZ L fun i => drwT f nd ps i + wT l nd ps i := fun L => by
        induction L with
        | nil => rfl
        | cons a L ih2 => rw [sumZ_cons, sumZ_cons, sumZ_cons, ← ih2]; omega
      rw [e]
      refine sumZ_mono fun i _ => ?_
      have h1 := (drwT_bnd (f := f) (nd := nd) hp i).1
      have hg : 0 ≤ ps.getD i 0 := by
        by_cases hi : i < ps.length
        · exact (hp _ (getD_in hi)).1
        · rw [List.getD_eq_getElem?_getD, List.getElem?_eq_none (by omega)]; simp
      unfold wT drwT heldB at *
      rw [List.any_cons]
      generalize ps.getD i 0 = v at hg ⊢
      cases hldB f (nd.getD i (0, 0, 0)) <;> cases (l.any fun f => hldB f (nd.getD i (0, 0, 0))) <;> simp <;> omega
    · show drwN f nd ps n + sumZ (List.range n) (wT l nd ps) ≤ _
      omega
theorem weak {x : Acs} {cs : Cos} {nd : List Sta} {ps : List Int} (hl : ps.length = nd.length) (hp : ∀ v ∈ ps, 0 ≤ v ∧ v ≤ 100) (hf : ∀ f ∈ fens x, drw f nd ps ≤ atC cs f) {l : List Fen} (hs : l.Sublist (fens x)) (he : enB l nd = true) : ps.sum ≤ cstF cs l := by
  have h1 := wT_le hp nd.length (nd := nd) l
  have h2 : sumZ (List.range nd.length) (wT l nd ps) = ps.sum := by
    have e : ps.sum = sumZ (List.range nd.length) fun i => ps.getD i 0 := by
      unfold sumZ
      rw [← hl, range_getD]
    rw [e]
    refine sumZ_congr fun i hi => ?_
    unfold wT
    unfold enB at he
    rw [List.all_eq_true] at he
    rw [if_pos (he _ (getD_in (List.mem_range.1 hi)))]
  rw [← h2]
  refine Int.le_trans h1 ?_
  exact sumZ_mono fun f hf' => hf f (sub_fens hs f hf')

theorem prices_ok {x : Acs} (hv : vld x = true) {cs : Cos} (hc : areC x cs = true) : ∃ ps, delay_offer_prices (x, need x, cs) = some ps ∧ ps.length = (need x).length ∧ ps.all okP = true ∧ (∀ f ∈ fens x, drw f (need x) ps ≤ atC cs f) ∧ ∃ l : List Fen, l.Sublist (fens x) ∧ enB l (need x) = true ∧ cstF cs l ≤ ps.sum := by
  obtain ⟨P, e, hP⟩ := prices_eq hv hc
  refine ⟨_, e, by simp, ?_, fun f hf => by rw [drw_map]; exact hP.2.1 f hf, cheap_ex hv hc hP⟩
  rw [List.all_eq_true]
  intro v hv'
  obtain ⟨p, _, rfl⟩ := List.mem_map.1 hv'
  have := hP.1 p
  unfold okP
  simp only [Bool.and_eq_true, decide_eq_true_eq]
  omega



theorem best_bnd {x : Acs} (hv : vld x = true) {cs : Cos} (hc : areC x cs = true) {m : List Fen} (hm : m.Sublist (fens x)) : (m.length : Int) ≤ cstF cs m ∧ cstF cs m ≤ 81 := by
  have h1 := cstF_bnd hc (sub_fens hm)
  have h2 := hm.length_le
  have h3 := fens_len hv
  omega

theorem Prices_ex (x : Acs) (cs : Cos) : ∃ ps, delay_Prices x cs = some (if errO x cs = 0 then ps else [], errO x cs) ∧ (errO x cs = 0 → ps.length = (need x).length ∧ ps.all okP = true ∧ (∀ f ∈ fens x, drw f (need x) ps ≤ atC cs f) ∧ ∃ l : List Fen, l.Sublist (fens x) ∧ enB l (need x) = true ∧ cstF cs l ≤ ps.sum) := by
  unfold delay_Prices
  rw [offerOf_eq, Option.bind_some]
  unfold errO
  cases hv : vld x with
  | false => exact ⟨[], rfl, by simp⟩
  | true =>
    cases hc : areC x cs with
    | false => exact ⟨[], rfl, by simp⟩
    | true =>
      obtain ⟨ps, e, h⟩ := prices_ok hv hc
      refine ⟨ps, ?_, fun _ => h⟩
      simp only [if_true]
      rw [if_neg (by simp), e]; rfl

/-- The prices prove the least cost. -/
theorem prv_least {x : Acs} {cs : Cos} {m : List Fen} (hm : isBest x cs m) {ps : List Int} (hf : ∀ f ∈ fens x, drw f (need x) ps ≤ atC cs f) (hl : ∃ l : List Fen, l.Sublist (fens x) ∧ enB l (need x) = true ∧ cstF cs l ≤ ps.sum) : prvB x cs ps (cstF cs m) = true := by
  obtain ⟨l, h1, h2, h3⟩ := hl
  have := betr_le (hm.2 l h1 h2)
  unfold prvB
  rw [Bool.and_eq_true, decide_eq_true_eq, List.all_eq_true]
  exact ⟨by omega, fun f hf' => decide_eq_true (hf f hf')⟩
/-- And no prices prove more. -/
theorem prv_le {x : Acs} {cs : Cos} {m : List Fen} (hm : isBest x cs m) {ps : List Int} {c : Int} (hl : ps.length = (need x).length) (hp : ps.all okP = true) (h : prvB x cs ps c = true) : c ≤ cstF cs m := by
  unfold prvB at h
  rw [Bool.and_eq_true, decide_eq_true_eq, List.all_eq_true] at h
  exact Int.le_trans h.1 (weak hl (okP_all hp) (fun f hf => of_decide_eq_true (h.2 f hf)) hm.1.1 hm.1.2)

theorem errP_zero {x : Acs} {cs : Cos} {ps : List Int} {c : Int} (h0 : errO x cs = 0) (hl : ps.length = (need x).length) (hp : ps.all okP = true) (h1 : 0 ≤ c) (h2 : c ≤ 1000) : errP x cs ps c = 0 := by
  unfold errP
  rw [if_pos h0, if_pos ⟨by rw [decide_eq_true hl, hp]; rfl, h1, h2⟩]

theorem asc_sub : ∀ {L l : List Fen}, L.Pairwise ltF → l.Pairwise ltF → (∀ f ∈ l, f ∈ L) → l.Sublist L
  | [], [], _, _, _ => List.Sublist.refl _
  | [], b :: l, _, _, h => by have := h b (by simp); simp at this
  | a :: L, [], _, _, _ => List.nil_sublist _
  | a :: L, b :: l, hL, hl, h => by
    rw [List.pairwise_cons] at hL
    have hl' := List.pairwise_cons.1 hl
    by_cases e : b = a
    · subst e
      refine (asc_sub hL.2 hl'.2 fun f hf => ?_).cons_cons _
      rcases List.mem_cons.1 (h f (by simp [hf])) with c | c
      · subst c; exact absurd (hl'.1 f hf) ltF_irr
      · exact c
    · have hb : b ∈ L := by
        rcases List.mem_cons.1 (h b (by simp)) with c | c
        · exact absurd c e
        · exact c
      refine (asc_sub hL.2 hl fun f hf => ?_).cons _
      rcases List.mem_cons.1 (h f hf) with c | c
      · subst c
        rcases List.mem_cons.1 hf with d | d
        · exact absurd d.symm e
        · exact absurd (ltF_trans (hL.1 b hb) (hl'.1 f d)) ltF_irr
      · exact c

theorem areF_sub {x : Acs} {l : List Fen} : areF x l = true ↔ l.Sublist (fens x) := by
  rw [areF_iff]
  exact ⟨fun h => asc_sub (fens_asc x) h.2 h.1, fun h => ⟨sub_fens h, (fens_asc x).sublist h⟩⟩

theorem DelayCheapest_eq (x : Acs) (hx : okEl (.sl (.sl (.pair (.int .i64) .bool))) x) (cs : Cos) (l : List Fen) (hfl : okEl (.sl (.pair (.int .i64) (.int .i64))) l) (ps : List Int) (c : Int) : lineallaw09_DelayCheapest x cs l ps c = some true := by
  have hfit := okFs hfl
  unfold lineallaw09_DelayCheapest
  rw [Long_eq (okX hx), Option.bind_some]
  cases hlg : lngB x with
  | true => rw [if_pos rfl, Awake_eq]; rfl
  | false =>
    have hx20 := (lng_len hlg).1
    rw [if_neg (by simp), refValid_eq hx20, Option.bind_some]
    cases hv : vld x with
    | false => rw [if_pos (show (!false) = true from rfl), Awake_eq]; rfl
    | true =>
      rw [if_neg (by simp), refAreCosts_eq hv, Option.bind_some]
      cases hc : areC x cs with
      | false => rw [if_pos (show (!false) = true from rfl), Awake_eq]; rfl
      | true =>
        rw [if_neg (by simp)]
        by_cases hll : 40 < l.length
        · rw [if_pos (decide_eq_true (by omega)), Awake_eq]; rfl
        · rw [if_neg (by rw [decide_eq_true_eq]; omega)]
          by_cases hpl : 100 < ps.length
          · rw [if_pos (decide_eq_true (by omega)), Awake_eq]; rfl
          · rw [if_neg (by rw [decide_eq_true_eq]; omega)]
            have h0 : errO x cs = 0 := errO_zero.2 ⟨hv, hc⟩
            have h9 := fens_len hv
            obtain ⟨m, hm, hm1, hm2⟩ := best_ex x cs
            obtain ⟨qs, hq1, hq2⟩ := Prices_ex x cs
            obtain ⟨k1, k2, k3, k4⟩ := hq2 h0
            have hm := hm h0
            have hb := best_bnd hv hc hm.1.1
            have hml := hm.1.1.length_le
            rw [if_pos h0, h0] at hm1 hm2 hq1
            have eF : ∀ k : List Fen, k.Sublist (fens x) → errF x k = 0 := fun k hk => by unfold errF; rw [if_pos hv, if_pos (areF_sub.2 hk)]
            have eC : ∀ k : List Fen, errC x cs k = errF x k := fun k => by
              unfold errC
              by_cases h : errF x k = 0
              · rw [if_pos h, if_pos hc, h]
              · rw [if_neg h]
            have en : ∀ k : List Fen, k.Sublist (fens x) → delay_Enough x k = some (enB k (need x), 0) := fun k hk => by
              have := hk.length_le
              rw [Enough_eq x (few_of (n := 9) (by omega)) fun f hf => fens_fit hv f (sub_fens hk f hf), eF k hk]; rfl
            have hneed : delay_Needed x = some (need x, 0) := by rw [Needed_eq, hv]; rfl
            have hcost : delay_Cost x cs m = some (cstF cs m, 0) := by
              rw [Cost_eq x cs (by omega) fun f hf => fens_fit hv f (sub_fens hm.1.1 f hf), eC, eF m hm.1.1]; rfl
            have hpr1 : delay_Prove x cs qs (cstF cs m) = some (true, 0) := by
              rw [Prove_eq, errP_zero h0 k1 k2 (by omega) (by omega), prv_least hm k3 k4]; rfl
            have hpr2 : delay_Prove x cs qs (cstF cs m + 1) = some (false, 0) := by
              rw [Prove_eq, errP_zero h0 k1 k2 (by omega) (by omega)]
              cases hb2 : prvB x cs qs (cstF cs m + 1) with
              | false => rfl
              | true => have := prv_le hm k1 k2 hb2; omega
            rw [hm1, hm2, hq1, hneed]
            simp only [Option.bind_some]
            rw [if_neg (by simp), if_neg (by simp), if_neg (by simp), if_neg (by simp), en m hm.1.1, hcost, hpr1, Option.bind_some, Option.bind_some, Option.bind_some, ck_pos (by rw [inK_i64]; omega), hpr2]
            simp only [Option.bind_some]
            rw [if_neg (by simp), if_neg (by simp), if_neg (by simp), if_neg (by simp), hm.1.2, if_neg (by simp), if_neg (by simp), if_neg (by simp), if_neg (by simp), AllFences_eq hv, Option.bind_some, en (fens x) (List.Sublist.refl _), en [] (List.nil_sublist _), fens_en x]
            simp only [Option.bind_some]
            have e1 : enB [] (need x) = decide (((need x).length : Int) = 0) := by
              cases hnd : need x with
              | nil => rfl
              | cons p nd => simp [enB, heldB]; omega
            have e2 : enB [] (need x) = decide (cstF cs m = 0) := by
              cases he : enB [] (need x) with
              | true =>
                have := betr_le (hm.2 [] (List.nil_sublist _) he)
                rw [cstF_nil] at this
                rw [decide_eq_true (show cstF cs m = 0 by omega)]
              | false =>
                rw [eq_comm, decide_eq_false_iff_not]
                intro hz
                have : m = [] := List.length_eq_zero_iff.1 (by omega)
                have h2 := hm.1.2
                rw [this, he] at h2; cases h2
            rw [if_neg (by simp), if_neg (by simp), if_neg (by simp), if_neg (by rw [e1]; simp), if_neg (by rw [e2]; simp)]
            have hk : lineallaw09_DelayCheapest_k1 x cs ps c (cstF cs m, 0) = some true := by
              unfold lineallaw09_DelayCheapest_k1
              rw [Prove_eq, Option.bind_some, Awake_eq]
              simp only [Option.bind_some]
              by_cases hz : errP x cs ps c = 0
              · rw [if_pos (by simp [hz]), if_pos hz]
                cases hb2 : prvB x cs ps c with
                | false => rw [if_pos (show (!false) = true from rfl)]
                | true =>
                  have hh : (decide (ps.length = (need x).length) && ps.all okP) = true ∧ 0 ≤ c ∧ c ≤ 1000 := by
                    refine Classical.byContradiction fun hno => ?_
                    unfold errP at hz
                    rw [if_pos h0, if_neg hno] at hz
                    cases hz
                  have hh1 := hh.1
                  rw [Bool.and_eq_true, decide_eq_true_eq] at hh1
                  have := prv_le hm hh1.1 hh1.2 hb2
                  rw [if_neg (by simp), if_pos (decide_eq_true this)]
              · have hz2 : errP x cs ps c = 2 := by
                  unfold errP at hz ⊢
                  rw [if_pos h0] at hz ⊢
                  split at hz
                  · exact absurd rfl hz
                  · rename_i hno; rw [if_neg hno]
                rw [if_neg (by simp [hz]), hz2, if_pos (by simp), if_pos (by simp)]
            rw [hk, Enough_eq x (few_of (n := 40) (by omega)) hfit, Cost_eq x cs (by omega) hfit, eC]
            simp only [Option.bind_some]
            rw [if_neg (by simp)]
            by_cases hz : errF x l = 0
            · rw [if_neg (by simp [hz]), if_pos hz, if_pos hz]
              cases hen : enB l (need x) with
              | false => rw [if_neg (by simp)]
              | true =>
                have hsub : l.Sublist (fens x) := by
                  refine areF_sub.1 ?_
                  unfold errF at hz
                  rw [if_pos hv] at hz
                  cases ha : areF x l with
                  | true => rfl
                  | false => rw [ha] at hz; simp at hz
                have := betr_le (hm.2 l hsub hen)
                rw [if_pos rfl, if_neg (by rw [decide_eq_true_eq]; omega)]
            · have hz2 : errF x l = 2 := by
                unfold errF at hz ⊢
                rw [if_pos hv] at hz ⊢
                split at hz
                · exact absurd rfl hz
                · rename_i hno; rw [if_neg hno]
              rw [if_pos (by simp [hz]), if_neg (by simp [hz2]), if_neg hz, if_neg (by simp)]

end Go.Proofs.Ytdicomoggfhbfaa
