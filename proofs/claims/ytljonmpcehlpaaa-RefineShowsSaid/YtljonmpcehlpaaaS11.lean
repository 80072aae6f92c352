/-
  Layer 5, pure: the law of what is told holds.
-/
import Derived.Test.YtljonmpcehlpaaaS8
import Derived.Test.YtljonmpcehlpaaaS10
namespace Go.Proofs.Ytljonmpcehlpaaa
open Go.RowKit

set_option linter.unusedVariables false
set_option linter.unusedSectionVars false
set_option linter.unusedSimpArgs false

/-! ### Plain -/

def likeB (z y : Stp) : Bool := decide (y.1 = z.1) && decide (y.2.1 = z.2.1)

theorem like_eq (y z : Stp) : refine_isPlain_1 y z = some (likeB z y) := by
  unfold refine_isPlain_1 likeB
  by_cases h : y.1 = z.1
  · rw [if_pos (by simpa using h)]; simp [h]
  · rw [if_neg (by simpa using h)]; simp [h]

theorem likes_eq (tr : List Stp) (z : Stp) (hl : tr.length ≤ 1000) : slices_ContainsFunc_2 tr z = some (tr.any (likeB z)) := by
  obtain ⟨r, e1, h⟩ := scan1 (R := Sum Int Unit) tr (fun k => ∀ j y, j < k → tr[j]? = some y → likeB z y = false) (fun r => match r with | .inl i => 0 ≤ i ∧ tr.any (likeB z) = true | .inr _ => tr.any (likeB z) = false) (body := slices_IndexFunc_2_b1 tr z) (fun j y hj => by omega)
    (fun k y hy hI => by
      have hlt := (List.getElem?_eq_some_iff.1 hy).1
      have hm := List.mem_of_getElem? hy
      have ki : InK .i64 ((k : Int) + 1) := by rw [inK_i64]; omega
      have e0 : tr.getD k (0, 0, 0) = y := getD_of hy
      cases h : likeB z y with
      | true =>
        refine .inr ⟨.inl (k : Int), ?_, by omega, List.any_eq_true.2 ⟨y, hm, h⟩⟩
        unfold slices_IndexFunc_2_b1
        simp only [Int.toNat_natCast, e0]
        rw [if_pos (by rw [decide_eq_true_eq]; omega), ck_pos (by omega), ck_pos (by omega), like_eq, Option.bind_some, h]
        rfl
      | false =>
        refine .inl ⟨?_, fun j x hj hx => ?_⟩
        · unfold slices_IndexFunc_2_b1
          simp only [Int.toNat_natCast, e0]
          rw [if_pos (by rw [decide_eq_true_eq]; omega), ck_pos (by omega), ck_pos (by omega), like_eq, Option.bind_some, h, ck_pos ki]
          rfl
        · rcases Nat.lt_succ_iff_lt_or_eq.1 hj with hj | hj
          · exact hI j x hj hx
          · subst hj
            rw [hy] at hx
            have := Option.some.inj hx
            subst this
            exact h)
    (fun hI => by
      refine ⟨.inr (), ?_, ?_⟩
      · unfold slices_IndexFunc_2_b1
        rw [if_neg (by rw [decide_eq_true_eq]; omega)]
      · show tr.any (likeB z) = false
        rw [List.any_eq_false]
        intro y hy
        obtain ⟨j, hj⟩ := List.getElem?_of_mem hy
        rw [hI j y (List.getElem?_eq_some_iff.1 hj).1 hj]
        simp)
  unfold slices_ContainsFunc_2 slices_IndexFunc_2
  rw [e1, Option.bind_some]
  cases r with
  | inl i => simp only at h; simp only [Option.bind_some]; simp [h.1, h.2]
  | inr u => simp only at h; unfold slices_IndexFunc_2_k1; simp only [Option.bind_some]; simp [h]

def plainK (l : List Stp) (k : Nat) : Bool := !(l.take k).any (likeB (l.getD k (0, 0, 0))) && !decide ((l.getD k (0, 0, 0)).2.1 = 0)

/-! ### Shows -/

theorem Shows_eq {c a : Sys} (hc : validB c = true) (ha : validB a = true) : (∃ u, refine_Shows c a = some (u, 0) ∧ Told c a u) ∨ (refine_Shows c a = some ([], 5) ∧ ∀ v : List Int, v.all seenB = true → behM c v ≠ 0 → behM a v ≠ 0) := by
  obtain ⟨Tc, e1, h1⟩ := frameOf_eq c (okZ_valid hc)
  obtain ⟨Ta, e2, h2⟩ := frameOf_eq a (okZ_valid ha)
  rw [if_pos hc] at e1
  rw [if_pos ha] at e2
  obtain ⟨r, e3, h3⟩ := shows_eq (okS_valid hc) (okS_valid ha) (h1 hc) (h2 ha)
  have e3' : refine_two_shows (((c.1, c.2), Tc), (a.1, a.2), Ta) = some r := e3
  have hs : refine_Shows c a = if (!r.2) = true then some ([], 5) else some (r.1, 0) := by
    unfold refine_Shows refine_twoOf
    rw [e1, Option.bind_some]
    simp only [decide_true, Bool.not_true, Bool.false_eq_true, if_false]
    rw [e2, Option.bind_some]
    simp only [decide_true, Bool.not_true, Bool.false_eq_true, if_false, Option.bind_some]
    rw [e3', Option.bind_some]
  rcases h3 with ⟨u, rfl, hu⟩ | ⟨rfl, hn⟩
  · exact .inl ⟨u, by rw [hs]; rfl, hu⟩
  · exact .inr ⟨by rw [hs]; rfl, hn⟩

section
variable {c a : Sys} (hc : validB c = true) (ha : validB a = true)
include hc ha

theorem told_len {u : List Int} (h : Told c a u) : u.length ≤ 384 ∧ u ≠ [] := by
  refine ⟨tel_short (okS_valid hc) (okS_valid ha) h.seen h.one h.two h.short, fun e => ?_⟩
  have := h.two
  rw [e] at this
  exact beg_ne (okS_valid ha) this

end

end Go.Proofs.Ytljonmpcehlpaaa
