/-
  Lists held against each other; the reference's pairs; DelayConflicts.
-/
import Derived.Test.YtdicomoggfhbfaaD4
import Derived.Test.YtdicomoggfhbfaaRdr
namespace Go.Proofs.Ytdicomoggfhbfaa
open Go.RowKit

set_option linter.unusedVariables false
set_option linter.unusedSimpArgs false

/-- Numbers that fit. -/
def fitS (s : Sta) : Prop := InK .i64 s.1 ∧ InK .i64 s.2.1 ∧ InK .i64 s.2.2
theorem st_fit {x : Acs} (hv : vld x = true) {s : Sta} (h : isSt x s = true) : fitS s := by
  obtain ⟨h1, h2, h3, h4⟩ := hasA_iff.1 (isSt_has h).1
  obtain ⟨_, _, k3, k4⟩ := hasA_iff.1 (isSt_has h).2
  have := vld_len hv
  have := vld_row hv s.1.toNat
  unfold fitS
  rw [inK_i64, inK_i64, inK_i64]; omega

theorem flat_filter {α : Type} (p : α → Bool) : ∀ (l : List α), (l.flatMap fun y => if p y = true then [y] else []) = l.filter p
  | [] => rfl
  | y :: l => by
    rw [List.flatMap_cons, flat_filter p l]
    cases h : p y <;> simp [h]

theorem SameStations_eq {a b : List Sta} (hf : few a) (ha : ∀ s ∈ a, fitS s) (hb : ∀ s ∈ b, fitS s) : linealref09_SameStations a b = some (decide (a = b)) := by
  unfold linealref09_SameStations
  by_cases hl : a.length = b.length
  · rw [if_neg (by simp [hl])]
    rw [whileO_all (a.zip b) (fun q => decide (q.1 = q.2)) (body := linealref09_SameStations_b1 a b) (fun k q hk => by
      rw [List.getElem?_zip_eq_some] at hk
      obtain ⟨k1, k2⟩ := hk
      obtain ⟨hlt, hik⟩ := few_in hf k1
      have hlb := (List.getElem?_eq_some_iff.1 k2).1
      obtain ⟨a1, a2, a3⟩ := ha _ (List.mem_of_getElem? k1)
      obtain ⟨b1, b2, b3⟩ := hb _ (List.mem_of_getElem? k2)
      unfold linealref09_SameStations_b1
      rw [Int.toNat_natCast, getD_of k1, getD_of k2, if_pos (decide_eq_true (by omega)), ck_pos (by omega), ck_pos (by omega), ck_pos (by omega), ck_pos (by omega), ck_pos a1, ck_pos a2, ck_pos a3, ck_pos b1, ck_pos b2, ck_pos b3]
      by_cases e : q.1 = q.2 <;> simp [e, ck_pos hik]) (by
        unfold linealref09_SameStations_b1
        rw [if_neg (by rw [decide_eq_true_eq, List.length_zip]; omega)]), Option.bind_some, all_zip_eq _ _ hl]
    by_cases e : a = b <;> simp [e, linealref09_SameStations_k1]
  · rw [if_pos (by simp; omega)]
    have : a ≠ b := fun e => hl (by rw [e])
    simp [this]

theorem refPairs_eq {x : Acs} (hx : x.length ≤ 20) : linealref09_Pairs x = some (if vld x = true then prs x else [], if vld x = true then 0 else 90) := by
  unfold linealref09_Pairs
  rw [refValid_eq hx, Option.bind_some]
  cases hv : vld x with
  | false => rfl
  | true =>
    simp only [if_true]
    rw [if_neg (by simp), refstations_eq hv, Option.bind_some]
    have hs := few_stas hv
    have hsl := stas_len hv
    rw [appL (stas x) 1 (fun s => if decide (s.2.1 < s.2.2) = true then [s] else []) (fun y _ => by split <;> simp) [] (body := linealref09_Pairs_b1 (stas x)) (fun k y l hk hl => by
      obtain ⟨hlt, hik⟩ := few_in hs hk
      unfold linealref09_Pairs_b1
      dsimp only
      rw [Int.toNat_natCast, getD_of hk, if_pos (decide_eq_true (by omega)), ck_pos (by omega), ck_pos (by omega)]
      by_cases e : y.2.1 < y.2.2
      · simp only [List.length_nil] at hl
        rw [if_pos (decide_eq_true e), if_pos (decide_eq_true e), ck_pos (by omega), ck_pos hik]
      · rw [if_neg (by rw [decide_eq_true_eq]; exact e), if_neg (by rw [decide_eq_true_eq]; exact e), ck_pos hik, List.append_nil]) (fun l => by
        unfold linealref09_Pairs_b1
        rw [if_neg (by simp)]), Option.bind_some, List.nil_append, flat_filter]
    unfold linealref09_Pairs_k1 prs
    have : (stas x).filter (fun s => decide (s.2.1 < s.2.2)) = (stas x).filter fun s => !oneB s := by
      refine List.filter_congr fun s hs => ?_
      have h := mem_stas.1 hs
      unfold isSt at h
      simp only [Bool.or_eq_true, Bool.and_eq_true, decide_eq_true_eq] at h
      unfold oneB
      rcases h with ⟨e, _⟩ | h
      · simp [e]
      · have := isPr_lt h
        simp [this, show s.2.1 ≠ s.2.2 by omega]
    rw [this]

theorem okX {x : Acs} (h : okEl (.sl (.sl (.pair (.int .i64) .bool))) x) : few x := by
  have := h.1
  simp only [Ty.bytes] at this
  unfold few; omega

theorem prs_fit {x : Acs} (hv : vld x = true) : ∀ s ∈ prs x, fitS s := fun s hs => st_fit hv (mem_stas.1 (List.mem_filter.1 hs).1)
theorem prs_few {x : Acs} (hv : vld x = true) : few (prs x) := few_of (Nat.le_trans (List.length_filter_le _ _) (stas_len hv))

end Go.Proofs.Ytdicomoggfhbfaa
