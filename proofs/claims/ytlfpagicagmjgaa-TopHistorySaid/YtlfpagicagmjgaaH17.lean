/-
  Layer 2, pure: TopHistory.
-/
import Derived.Test.YtlfpagicagmjgaaH16
import Derived.Test.YtlfpagicagmjgaaH13a
import Derived.Test.YtlfpagicagmjgaaH12b
namespace Go.Proofs.Ytlfpagicagmjgaa
open Go.RowKit

set_option linter.unusedVariables false
set_option linter.unusedSimpArgs false
set_option maxRecDepth 10000

theorem TopHistory_eq (specs : List Tup) (hf : fewS specs) (h : List HC6) (v : Int × Int × Int × Int) (hv : okEl (.pair (.int .u8) (.pair (.int .u8) (.pair (.int .u8) (.int .u8)))) v) : linealtop_TopHistory specs h v = some true := by
  obtain ⟨v1, v2, v3, v4⟩ := hv
  have w1 := (inK_u8 _).1 v1
  have w2 := (inK_u8 _).1 v2
  have w3 := (inK_u8 _).1 v3
  have w4 := (inK_u8 _).1 v4
  unfold linealtop_TopHistory
  rw [Large_eq specs hf, Option.bind_some]
  cases hlg : (allB specs.length (fun k => fit (specs.getD k (0, 0, [], []))) && decide (specs.length ≤ 5)) with
  | false => rw [if_pos (by simp), Sane_eq]; rfl
  | true =>
    simp only [Bool.and_eq_true, decide_eq_true_eq] at hlg
    have hs : ∀ s ∈ specs, okS s := fun s hs => by
      obtain ⟨k, hk, e⟩ := List.getElem_of_mem hs
      have := allB_iff.1 hlg.1 k hk
      have e2 : specs.getD k (0, 0, [], []) = s := by rw [List.getD_eq_getElem?_getD, List.getElem?_eq_getElem hk, e]; rfl
      rw [e2] at this
      exact okS_of s this
    have hsl : specs.length ≤ 1000 := by omega
    rw [if_neg (by simp), Long_eq2, Option.bind_some]
    by_cases hl : 40 < h.length
    · rw [if_pos (by simp; omega), Sane_eq]; rfl
    rw [if_neg (by simp; omega), rFor_eq specs hs hsl h, Option.bind_some]
    by_cases hk' : ¬ okSs specs = true
    · rw [if_neg hk', if_pos (by rfl), Sane_eq]; rfl
    have hk := Classical.not_not.1 hk'
    rw [if_pos hk, if_neg (by simp)]
    cases hall : (okH h && fitsB specs h) with
    | false => rw [if_pos (by rfl), Sane_eq]; rfl
    | true =>
      simp only [Bool.and_eq_true] at hall
      obtain ⟨h1, h2⟩ := hall
      have hO : ∀ o : Int, inB 0 o 1 = true → history_Of h o = some (h.filter (isObj o), 0) := fun o ho => by
        rw [Of_eq h o (by omega), h1, if_pos rfl, ho, if_pos rfl]
      have hL : ∀ o : Int, history_Linear specs (h.filter (isObj o)) = some (decide (0 < cntA specs (h.filter (isObj o))), 0) := fun o => Linear_eq hs hsl hk (okH_filter h1) (fits_filter h2)
      have hcnt := objects_cnt hk h1 h2
      rw [if_neg (by simp), Linear_eq hs hsl hk h1 h2, Option.bind_some, if_neg (by simp)]
      have b0 : linealtop_TopHistory_b1 specs h (true, 0) = some (.next (decide (0 < cntA specs (h.filter (isObj 0))), 1)) := by
        unfold linealtop_TopHistory_b1
        rw [if_pos (by decide), hO 0 (by decide), Option.bind_some]
        simp only
        rw [hL 0, Option.bind_some, if_neg (by simp), if_neg (by simp), if_pos trivial, ck_pos (by rw [inK_i64]; omega)]
        rfl
      have b1 : ∀ x : Bool, linealtop_TopHistory_b1 specs h (x, 1) = some (.next (x && decide (0 < cntA specs (h.filter (isObj 1))), 2)) := fun x => by
        unfold linealtop_TopHistory_b1
        rw [if_pos (by rfl), hO 1 (by decide), Option.bind_some]
        simp only
        rw [hL 1, Option.bind_some, if_neg (by simp), if_neg (by simp)]
        cases x with
        | true => rw [if_pos rfl, ck_pos (by rw [inK_i64]; omega)]; rfl
        | false => rw [if_neg (by simp), ck_pos (by rw [inK_i64]; omega)]; rfl
      have b2 : ∀ x, linealtop_TopHistory_b1 specs h (x, 2) = some (.done (.inr x)) := fun x => by
        unfold linealtop_TopHistory_b1
        rw [if_neg (by show ¬ decide ((2 : Int) < 2) = true; decide)]
      have hw : whileO (linealtop_TopHistory_b1 specs h) (true, 0) = some (.inr (decide (0 < cntA specs h))) := by
        refine whileO_of (n := 3) ?_
        unfold whileN
        rw [b0]
        show whileN _ 2 _ = _
        unfold whileN
        rw [b1]
        show whileN _ 1 _ = _
        unfold whileN
        rw [b2]
        show some _ = some _
        rw [hcnt]
      rw [hw, Option.bind_some]
      show linealtop_TopHistory_k1 specs h v _ (decide (0 < cntA specs h)) = some true
      unfold linealtop_TopHistory_k1
      simp only
      rw [if_neg (by simp)]
      rcases Order_eq hs hsl hk h1 h2 with ⟨z, eO⟩ | ⟨hpos, l, hpath, eO⟩
      · rw [z, if_pos (by rfl), eO, Option.bind_some, if_pos (by rfl), Sane_eq]; rfl
      · obtain ⟨p1, p2, p3⟩ := path_order hpath
        have hiso : isOrd specs h (l.map fun (k : Nat) => (k : Int)) = true := by unfold isOrd; rw [p1, p2, p3]; rfl
        have hll : (l.map fun (k : Nat) => (k : Int)).length ≤ 1000 := by
          have h8 := okH_len h1
          unfold ordB at p1
          cases hm : markA (List.replicate h.length (false : Bool)) (l.map fun (k : Nat) => (k : Int)) with
          | none => rw [hm] at p1; cases p1
          | some s =>
            obtain ⟨e1, e2⟩ := markA_len _ _ _ hm
            have := cntT_le s
            rw [e2, List.length_replicate] at this
            omega
        rw [decide_eq_true hpos, if_neg (by simp), eO, Option.bind_some]
        simp only
        rw [rIsOrder_eq hs hsl hk h1 h2 hll, hiso, Option.bind_some, if_neg (by simp), if_neg (by simp), if_neg (by simp)]
        have d0 : 0 ≤ v.1 % 101 ∧ v.1 % 101 < 101 := ⟨Int.emod_nonneg _ (by omega), Int.emod_lt_of_pos _ (by omega)⟩
        have i1 : inB 0 (v.1 % 101) 100 = true := by unfold inB; simp; omega
        rw [ck_pos (by rw [inK_i64]; omega), ck_pos w1.1, Until_eq h _ (by omega), h1, if_pos rfl, i1, if_pos rfl, Option.bind_some]
        simp only
        rw [Linear_eq hs hsl hk (okH_until h1 _) (fits_until h2 _), Option.bind_some, if_neg (by simp), if_neg (by simp), decide_eq_true (was_cnt hk h1 h2 hpos), if_neg (by simp)]
        by_cases hn : h.length = 0
        · rw [if_pos (by simp [hn]), Sane_eq]; rfl
        have hn0 : (0 : Int) < (h.length : Int) := by omega
        have m1 : 0 ≤ v.2.1 % (h.length : Int) := Int.emod_nonneg _ (by omega)
        have m2 : v.2.1 % (h.length : Int) < (h.length : Int) := Int.emod_lt_of_pos _ hn0
        obtain ⟨c, hcd⟩ : ∃ c : Nat, c = (v.2.1 % (h.length : Int)).toNat := ⟨_, rfl⟩
        have hcI : v.2.1 % (h.length : Int) = (c : Int) := by omega
        have hclt : c < h.length := by omega
        have hok := okC_from (okH_getD h1 hclt)
        rw [if_neg (by rw [decide_eq_true_eq]; omega), hcI]
        simp only [Int.toNat_natCast]
        have d1 : 0 ≤ v.2.2.1 % 10 ∧ v.2.2.1 % 10 < 10 := ⟨Int.emod_nonneg _ (by omega), Int.emod_lt_of_pos _ (by omega)⟩
        have d2 : 0 ≤ v.2.2.2 % 10 ∧ v.2.2.2 % 10 < 10 := ⟨Int.emod_nonneg _ (by omega), Int.emod_lt_of_pos _ (by omega)⟩
        rw [ck_pos (by rw [inK_i64]; omega), ck_pos w2.1, ck_pos hn0, ck_pos (by omega), ck_pos (by omega), ck_pos (by rw [inK_i64]; omega), ck_pos w3.1, ck_pos (by rw [inK_i64]; omega), ck_pos (by omega), ck_pos (by omega), ck_pos (by rw [inK_i64]; omega), ck_pos w4.1, ck_pos (by rw [inK_i64]; omega)]
        rw [Longer_eq h _ _ _ (by omega), Option.bind_some, Int.toNat_natCast]
        generalize hfd : max ((h.getD c (0, 0, 0, 0, 0, 0)).2.2.2.2.1 - v.2.2.1 % 10) 1 = f
        generalize htd : (h.getD c (0, 0, 0, 0, 0, 0)).2.2.2.2.2 + v.2.2.2 % 10 = t
        cases hb : (lngB h (c : Int) f t && okH (lng h c f t)) with
        | false =>
          have hA : lngA h (lngB h (c : Int) f t) (lng h c f t) = ([], 2) := by unfold lngA; rw [if_pos h1, hb]; rfl
          rw [hA, if_pos (by rfl), if_pos (by rfl), Sane_eq]; rfl
        | true =>
          have hb0 := hb
          simp only [Bool.and_eq_true] at hb
          obtain ⟨x1, x2⟩ := hb
          unfold lngB at x1
          simp only [Bool.and_eq_true, Bool.not_eq_true', decide_eq_true_eq, decide_eq_false_iff_not, Int.toNat_natCast] at x1
          obtain ⟨_, b3, b4, b5⟩ := x1
          have hLo := lng_loose hclt (f := f) (t := t) b3 (show 0 ≤ (h.getD c (0, 0, 0, 0, 0, 0)).2.2.2.2.2 by omega) b4 b5
          have hle : cntA specs h ≤ cntA specs (lng h c f t) := CF_loose hLo 9 _
          have hA : lngA h (lngB h (c : Int) f t) (lng h c f t) = (lng h c f t, 0) := by unfold lngA; rw [if_pos h1, hb0]; rfl
          rw [hA, if_neg (by simp), Linear_eq hs hsl hk x2 (lng_fits hclt f t h2), Option.bind_some, IsOrder_eq hs hsl hk x2 (lng_fits hclt f t h2) hll, Option.bind_some, if_pos (by rfl), if_pos (by rfl), decide_eq_true (show 0 < cntA specs (lng h c f t) by omega), if_pos rfl, isOrd_loose hLo hiso, if_pos rfl, Sane_eq]; rfl

end Go.Proofs.Ytlfpagicagmjgaa
