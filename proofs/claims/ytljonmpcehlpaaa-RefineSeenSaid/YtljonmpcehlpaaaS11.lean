/-
  Layer 5, pure: the law of what is told holds.
-/
import Derived.Test.YtljonmpcehlpaaaS8
import Derived.Test.YtljonmpcehlpaaaS10
namespace Go.Proofs.Ytljonmpcehlpaaa
open Go.RowKit

set_option linter.unusedVariables false
set_option linter.unusedSectionVars false
set_option linter.unusedSimpArgs false

/-! ### Plain -/

def likeB (z y : Stp) : Bool := decide (y.1 = z.1) && decide (y.2.1 = z.2.1)

theorem like_eq (y z : Stp) : refine_isPlain_1 y z = some (likeB z y) := by
  unfold refine_isPlain_1 likeB
  by_cases h : y.1 = z.1
  · rw [if_pos (by simpa using h)]; simp [h]
  · rw [if_neg (by simpa using h)]; simp [h]

theorem likes_eq (tr : List Stp) (z : Stp) (hl : tr.length ≤ 1000) : slices_ContainsFunc_2 tr z = some (tr.any (likeB z)) := by
  obtain ⟨r, e1, h⟩ := scan1 (R := Sum Int Unit) tr (fun k => ∀ j y, j < k → tr[j]? = some y → likeB z y = false) (fun r => match r with | .inl i => 0 ≤ i ∧ tr.any (likeB z) = true | .inr _ => tr.any (likeB z) = false) (body := slices_IndexFunc_2_b1 tr z) (fun j y hj => by omega)
    (fun k y hy hI => by
      have hlt := (List.getElem?_eq_some_iff.1 hy).1
      have hm := List.mem_of_getElem? hy
      have ki : InK .i64 ((k : Int) + 1) := by rw [inK_i64]; omega
      have e0 : tr.getD k (0, 0, 0) = y := getD_of hy
      cases h : likeB z y with
      | true =>
        refine .inr ⟨.inl (k : Int), ?_, by omega, List.any_eq_true.2 ⟨y, hm, h⟩⟩
        unfold slices_IndexFunc_2_b1
        simp only [Int.toNat_natCast, e0]
        rw [if_pos (by rw [decide_eq_true_eq]; omega), ck_pos (by omega), ck_pos (by omega), like_eq, Option.bind_some, h]
        rfl
      | false =>
        refine .inl ⟨?_, fun j x hj hx => ?_⟩
        · unfold slices_IndexFunc_2_b1
          simp only [Int.toNat_natCast, e0]
          rw [if_pos (by rw [decide_eq_true_eq]; omega), ck_pos (by omega), ck_pos (by omega), like_eq, Option.bind_some, h, ck_pos ki]
          rfl
        · rcases Nat.lt_succ_iff_lt_or_eq.1 hj with hj | hj
          · exact hI j x hj hx
          · subst hj
            rw [hy] at hx
            have := Option.some.inj hx
            subst this
            exact h)
    (fun hI => by
      refine ⟨.inr (), ?_, ?_⟩
      · unfold slices_IndexFunc_2_b1
        rw [if_neg (by rw [decide_eq_true_eq]; omega)]
      · show tr.any (likeB z) = false
        rw [List.any_eq_false]
        intro y hy
        obtain ⟨j, hj⟩ := List.getElem?_of_mem hy
        rw [hI j y (List.getElem?_eq_some_iff.1 hj).1 hj]
        simp)
  unfold slices_ContainsFunc_2 slices_IndexFunc_2
  rw [e1, Option.bind_some]
  cases r with
  | inl i => simp only at h; simp only [Option.bind_some]; simp [h.1, h.2]
  | inr u => simp only at h; unfold slices_IndexFunc_2_k1; simp only [Option.bind_some]; simp [h]

def plainK (l : List Stp) (k : Nat) : Bool := !(l.take k).any (likeB (l.getD k (0, 0, 0))) && !decide ((l.getD k (0, 0, 0)).2.1 = 0)

theorem Plain_eq {s : Sys} (h : validB s = true) : ∃ b, refine_Plain s = some (b, 0) ∧ (b = true → plainP s) := by
  have hlen := (okS_valid h).len
  have hl := loopB (body := refine_isPlain_b1 s.2) s.2.length (plainK s.2) (fun k hk => by
    have ki : InK .i64 ((k : Int) + 1) := by rw [inK_i64]; omega
    unfold refine_isPlain_b1 plainK refine_isHidden
    simp only [Int.toNat_natCast]
    rw [if_pos (by rw [decide_eq_true_eq]; omega), ck_pos (by omega), ck_pos (by omega), ck_pos (by omega), ck_pos (by omega), likes_eq _ _ (by rw [List.length_take]; omega), Option.bind_some]
    cases (s.2.take k).any (likeB (s.2.getD k (0, 0, 0)))
    · rw [if_neg (by simp), Option.bind_some]
      by_cases h0 : (s.2.getD k (0, 0, 0)).2.1 = 0
      · rw [if_pos (by rw [decide_eq_true_eq]; exact h0), if_neg (by rw [decide_eq_true h0]; simp)]
      · rw [if_neg (by rw [decide_eq_true_eq]; exact h0), ck_pos ki, if_pos (by rw [decide_eq_false h0]; rfl)]
    · rfl) (by
    unfold refine_isPlain_b1
    rw [if_neg (by rw [decide_eq_true_eq]; omega)])
  refine ⟨allB s.2.length (plainK s.2), ?_, fun hb => ?_⟩
  · unfold refine_Plain refine_isPlain
    rw [Valid_eq s (okZ_valid h), Option.bind_some, h, if_neg (by simp), hl, Option.bind_some]
    cases allB s.2.length (plainK s.2) <;> rfl
  · rw [allB_iff] at hb
    have key : ∀ (i j : Nat) (y z : Stp), s.2[i]? = some y → s.2[j]? = some z → i < j → ¬ (y.1 = z.1 ∧ y.2.1 = z.2.1) := fun i j y z hi hj hij he => by
      have := hb j (List.getElem?_eq_some_iff.1 hj).1
      unfold plainK at this
      rw [getD_of hj, Bool.and_eq_true, Bool.not_eq_true', List.any_eq_false] at this
      refine this.1 y (List.mem_of_getElem? (i := i) (by rw [List.getElem?_take, if_pos hij]; exact hi)) ?_
      unfold likeB
      rw [decide_eq_true he.1, decide_eq_true he.2]; rfl
    refine ⟨fun z hz h0 => ?_, fun y hy z hz e1 e2 => ?_⟩
    · obtain ⟨j, hj⟩ := List.getElem?_of_mem hz
      have := hb j (List.getElem?_eq_some_iff.1 hj).1
      unfold plainK at this
      rw [getD_of hj, Bool.and_eq_true, Bool.not_eq_true', Bool.not_eq_true', decide_eq_false_iff_not] at this
      exact this.2 h0
    · obtain ⟨i, hi⟩ := List.getElem?_of_mem hy
      obtain ⟨j, hj⟩ := List.getElem?_of_mem hz
      rcases Nat.lt_trichotomy i j with hlt | rfl | hlt
      · exact absurd ⟨e1, e2⟩ (key i j y z hi hj hlt)
      · exact Option.some.inj (hi.symm.trans hj)
      · exact absurd ⟨e1.symm, e2.symm⟩ (key j i z y hj hi hlt)

/-! ### Shows -/

theorem Shows_eq {c a : Sys} (hc : validB c = true) (ha : validB a = true) : (∃ u, refine_Shows c a = some (u, 0) ∧ Told c a u) ∨ (refine_Shows c a = some ([], 5) ∧ ∀ v : List Int, v.all seenB = true → behM c v ≠ 0 → behM a v ≠ 0) := by
  obtain ⟨Tc, e1, h1⟩ := frameOf_eq c (okZ_valid hc)
  obtain ⟨Ta, e2, h2⟩ := frameOf_eq a (okZ_valid ha)
  rw [if_pos hc] at e1
  rw [if_pos ha] at e2
  obtain ⟨r, e3, h3⟩ := shows_eq (okS_valid hc) (okS_valid ha) (h1 hc) (h2 ha)
  have e3' : refine_two_shows (((c.1, c.2), Tc), (a.1, a.2), Ta) = some r := e3
  have hs : refine_Shows c a = if (!r.2) = true then some ([], 5) else some (r.1, 0) := by
    unfold refine_Shows refine_twoOf
    rw [e1, Option.bind_some]
    simp only [decide_true, Bool.not_true, Bool.false_eq_true, if_false]
    rw [e2, Option.bind_some]
    simp only [decide_true, Bool.not_true, Bool.false_eq_true, if_false, Option.bind_some]
    rw [e3', Option.bind_some]
  rcases h3 with ⟨u, rfl, hu⟩ | ⟨rfl, hn⟩
  · exact .inl ⟨u, by rw [hs]; rfl, hu⟩
  · exact .inr ⟨by rw [hs]; rfl, hn⟩

theorem isTrOf_eq {s : Sys} (h : validB s = true) {tr : List Int} (hl : tr.length ≤ 1000) : isTrOf s tr = if tr.all seenB = true then (!decide (behM s tr = 0), 0) else (false, 2) := by
  unfold isTrOf
  rw [if_pos h, if_neg (by omega)]

theorem has_eq2 (u : List Int) (L : List (List Int)) (hL : okL L) (hf : L.length ≤ 100000) : whileO (lineallaw05_RefineTells_b1 (u, 0) (L, 0)) (false, 0) = some (decide (u ∈ L)) := by
  obtain ⟨r, e1, h⟩ := scan2 (R := Bool) L (fun k f => f = decide (u ∈ L.take k)) (fun r => r = decide (u ∈ L)) (body := lineallaw05_RefineTells_b1 (u, 0) (L, 0)) (s0 := false) (by simp)
    (fun k y f hk hI => by
      have hlt := (List.getElem?_eq_some_iff.1 hk).1
      have ki : InK .i64 ((k : Int) + 1) := by rw [inK_i64]; omega
      have hg : L.getD k [] = y := getD_of hk
      have hm : decide (u ∈ L.take (k + 1)) = (f || decide (y = u)) := by
        rw [take_one hk, hI]
        by_cases h1 : u ∈ L.take k
        · simp [h1]
        · by_cases h2 : y = u
          · simp [h2]
          · have h3 : ¬ u = y := fun e => h2 e.symm
            simp [h1, h2, h3]
      refine .inl ⟨_, ?_, hm.symm⟩
      unfold lineallaw05_RefineTells_b1
      simp only [Int.toNat_natCast, hg]
      rw [if_pos (by rw [decide_eq_true_eq]; omega), ck_pos (by omega), ck_pos (by omega)]
      cases hff : f
      · rw [if_neg (by simp), refInts_eq y u (hL.2 y (List.mem_of_getElem? hk)), Option.bind_some, ck_pos ki]; rfl
      · rw [if_pos rfl, ck_pos ki]; rfl)
    (fun f hI => by
      rw [List.take_length] at hI
      refine ⟨f, ?_, hI⟩
      unfold lineallaw05_RefineTells_b1
      simp only
      rw [if_neg (by rw [decide_eq_true_eq]; omega)])
  rw [e1, h]

section
variable {c a : Sys} (hc : validB c = true) (ha : validB a = true)
include hc ha

theorem told_len {u : List Int} (h : Told c a u) : u.length ≤ 384 ∧ u ≠ [] := by
  refine ⟨tel_short (okS_valid hc) (okS_valid ha) h.seen h.one h.two h.short, fun e => ?_⟩
  have := h.two
  rw [e] at this
  exact beg_ne (okS_valid ha) this

theorem tells_k3 {u : List Int} (h : Told c a u) : lineallaw05_RefineTells_k3 c a (u, 0) = some true := by
  obtain ⟨hl, hne⟩ := told_len hc ha h
  have hpos : 0 < u.length := List.length_pos_iff.2 hne
  have e : ((u.length : Int) - 1).toNat = u.length - 1 := by omega
  have hsub : (u.take (u.length - 1)).all seenB = true := by
    have := h.seen
    rw [List.all_eq_true] at this ⊢
    exact fun l hl => this l (List.mem_of_mem_take hl)
  have hc1 : behM c (u.take (u.length - 1)) ≠ 0 := fun h0 => by
    have := folM_beh c (u.take (u.length - 1)) (u.drop (u.length - 1))
    rw [List.take_append_drop, h0, folM_zero (okS_valid hc)] at this
    exact h.one this
  have ha1 : behM a (u.take (u.length - 1)) ≠ 0 := fun h0 => by
    have := h.short _ hsub hc1 h0
    rw [List.length_take] at this
    omega
  unfold lineallaw05_RefineTells_k3
  simp only
  rw [IsTrace_eq c (okZ_valid hc), Option.bind_some, IsTrace_eq a (okZ_valid ha), Option.bind_some, ck_pos (by rw [inK_i64]; omega), ck_pos (by omega), ck_pos (by omega), e, IsTrace_eq a (okZ_valid ha), Option.bind_some]
  rw [isTrOf_eq hc (by omega), isTrOf_eq ha (by omega), isTrOf_eq ha (by rw [List.length_take]; omega), if_pos h.seen, if_pos h.seen, if_pos hsub]
  simp only [decide_true, Bool.not_true, Bool.false_eq_true, if_false, decide_eq_false h.one, decide_eq_true h.two, decide_eq_false ha1, Bool.not_false]
  by_cases h5 : 5 < (u.length : Int)
  · rw [if_pos (by simpa using h5), lineallaw05_Awake_run]; rfl
  rw [if_neg (by simpa using h5), Traces_eq c (okZ_valid hc), Option.bind_some]
  have hok := tracesOf_ok c (u.length : Int)
  have ht : tracesOf c (u.length : Int) = (trL c u.length [] (begM c), 0) := by
    unfold tracesOf
    rw [if_pos hc, if_neg (by omega), if_neg h5, Int.toNat_natCast]
  rw [ht] at hok ⊢
  have hlen := trL_len c u.length [] (begM c)
  have h4 : 4 ^ u.length ≤ 4 ^ 5 := Nat.pow_le_pow_right (by omega) (by omega)
  have hm : u ∈ trL c u.length [] (begM c) := by
    have := trL_mem (okS_valid hc) u u.length [] (begM c) (Nat.le_refl _) h.seen h.one
    simpa using this
  rw [has_eq2 u _ hok (by simp only; omega), Option.bind_some, decide_eq_true hm]
  unfold lineallaw05_RefineTells_k4
  rw [if_pos (by simp), if_pos rfl, lineallaw05_Awake_run]
  rfl

theorem tells_k2 {u : List Int} (h : Told c a u) (tr : List Int) (v : Bool × Int) (b : Bool) (hb : b = true → v.1 = false → u.length ≤ tr.length) : lineallaw05_RefineTells_k2 c a tr (u, 0) v b = some true := by
  obtain ⟨hl, hne⟩ := told_len hc ha h
  have hpos : 0 < u.length := List.length_pos_iff.2 hne
  unfold lineallaw05_RefineTells_k2
  simp only
  rw [if_neg (by simp), if_neg (by rw [decide_eq_true_eq]; omega), if_neg (by rw [decide_eq_true_eq]; omega), tells_k3 hc ha h]
  cases hbb : b
  · simp
  · rw [if_pos rfl]
    cases hv : v.1
    · have := hb hbb hv
      rw [if_pos (by simp), if_neg (by rw [decide_eq_true_eq]; omega)]
    · rw [if_neg (by simp)]

omit hc ha in
theorem tells_k2n (tr : List Int) (v : Bool × Int) (b : Bool) : lineallaw05_RefineTells_k2 c a tr ([], 5) v b = some true := by
  unfold lineallaw05_RefineTells_k2
  rw [lineallaw05_Awake_run]
  rfl

theorem tells_k1 {tr : List Int} (ht : tr.length ≤ 100) {v : List Int × Int} (hv : (∃ u, v = (u, 0) ∧ Told c a u) ∨ (v = ([], 5) ∧ ∀ w : List Int, w.all seenB = true → behM c w ≠ 0 → behM a w ≠ 0)) : lineallaw05_RefineTells_k1 c a tr v = some true := by
  unfold lineallaw05_RefineTells_k1
  rw [IsTrace_eq c (okZ_valid hc), Option.bind_some, IsTrace_eq a (okZ_valid ha), Option.bind_some, isTrOf_eq hc (by omega), isTrOf_eq ha (by omega)]
  have key : ∀ b w, (b = true → w.1 = false → tr.all seenB = true ∧ behM c tr ≠ 0 ∧ behM a tr = 0) → lineallaw05_RefineTells_k2 c a tr v w b = some true := fun b w hb => by
    rcases hv with ⟨u, rfl, hu⟩ | ⟨rfl, hn⟩
    · exact tells_k2 hc ha hu tr w b fun h1 h2 => by
        obtain ⟨g1, g2, g3⟩ := hb h1 h2
        exact hu.short tr g1 g2 g3
    · exact tells_k2n tr w b
  cases hs : tr.all seenB
  · simp only [Bool.false_eq_true, if_false, decide_true, Bool.not_true]
    exact key false _ fun h => by cases h
  · simp only [if_true, decide_true, Bool.not_true, Bool.false_eq_true, if_false]
    by_cases h1 : behM c tr = 0
    · rw [decide_eq_true h1, if_neg (by simp)]
      exact key false _ fun h => by cases h
    · rw [decide_eq_false h1, if_pos (by simp)]
      by_cases h2 : behM a tr = 0
      · rw [decide_eq_true h2, if_pos (by simp)]
        rcases hv with ⟨u, rfl, hu⟩ | ⟨rfl, hn⟩
        · simp only [decide_true, Bool.not_true, Bool.false_eq_true, if_false]
          exact key true _ fun _ _ => ⟨hs, h1, h2⟩
        · exact absurd h2 (hn tr hs h1)
      · rw [decide_eq_false h2, if_neg (by simp)]
        exact key true _ fun _ h => by simp at h

end

/-- The law holds. -/
theorem RefineTells_eq (c : Sys) (hc : okEl (.pair (.int .i64) (.sl (.pair (.int .i64) (.pair (.int .i64) (.int .i64))))) c) (a : Sys) (ha : okEl (.pair (.int .i64) (.sl (.pair (.int .i64) (.pair (.int .i64) (.int .i64))))) a) (tr : List Int) (hl : tr.length ≤ maxLen) : lineallaw05_RefineTells c a tr = some true := by
  have kc := okZ_of hc
  have ka := okZ_of ha
  unfold lineallaw05_RefineTells
  rw [valid2_eq kc ka, Option.bind_some, lineallaw05_Awake_run]
  cases hv : (validB c && validB a)
  · rfl
  rw [Bool.and_eq_true] at hv
  obtain ⟨vc, va⟩ := hv
  rw [if_neg (by simp)]
  by_cases ht : 100 < (tr.length : Int)
  · rw [if_pos (by simpa using ht)]; rfl
  rw [if_neg (by simpa using ht)]
  obtain ⟨b, e, hb⟩ := Refines_eq kc ka vc va
  obtain ⟨p, ep, hp⟩ := Plain_eq va
  have hs := Shows_eq vc va
  have htr := fun h => ref_tr (okS_valid vc) (okS_valid va) h
  rw [e, Option.bind_some]
  rcases hs with ⟨u, es, hu⟩ | ⟨es, hn⟩
  · have hbf : b = false := by
      cases hbb : b
      · rfl
      · exact absurd hu.two (htr (hb.1 hbb) u hu.one)
    subst hbf
    have k := tells_k1 vc va (tr := tr) (by omega) (.inl ⟨u, rfl, hu⟩)
    rw [es, Option.bind_some, ep, Option.bind_some]
    simp [k]
  · have k := tells_k1 vc va (tr := tr) (by omega) (.inr ⟨rfl, hn⟩)
    have hbp : p = true → b = true := fun h => hb.2 (plain_ref (okS_valid vc) (okS_valid va) (hp h) hn)
    rw [es, Option.bind_some, ep, Option.bind_some]
    cases hpp : p
    · cases b <;> simp [k]
    · rw [hbp hpp]; simp [k]

end Go.Proofs.Ytljonmpcehlpaaa
