/-
  Layer 1, pure: the law about the word of two states.
-/
import Derived.Test.YtmcgmlcfogdioaaP5
namespace Go.Proofs.Ytmcgmlcfogdioaa
open Go.RowKit

set_option linter.unusedVariables false
set_option linter.unusedSimpArgs false

theorem wordB_of {s : Tup} {w : List Int} (h : w.length ≤ 20) (hc : calls s.2.1 w) : wordB s w = true := by
  unfold wordB
  rw [Bool.and_eq_true, decide_eq_true_eq, List.all_eq_true]
  exact ⟨h, hc⟩

set_option maxHeartbeats 1000000 in
/-- The law holds. -/
theorem SpecTold_eq (s : Tup) (hs : okS s) (x : Int) (hx : InK .u8 x) (y : Int) (hy : InK .u8 y) (o : Int) (ho : InK .u8 o) (w : List Int) (hl : w.length ≤ maxLen) : lineallaw01_SpecTold s x y o w = some true := by
  unfold lineallaw01_SpecTold lineallaw01_SpecTold_k1
  rw [Long_eq s hs, Awake_eq, Option.bind_some]
  cases wideB s.2.2.1 || wideB s.2.2.2
  rotate_left
  · simp
  rw [refValid_eq s hs, IsWord_eq s w hl]
  cases hv : (toSp s).ok
  · simp
  cases hw : wordB s w
  · simp
  have hm := Sp.okE hv
  have h1 : 1 ≤ s.1 := hm.1
  have h2 : s.1 ≤ 8 := hm.2.1
  have h3 : 1 ≤ s.2.1 := hm.2.2.1
  have h4 : s.2.1 ≤ 4 := hm.2.2.2.1
  have hx8 := u8_range hx
  have hy8 := u8_range hy
  have ho8 := u8_range ho
  have ha : inR s.1 (x % s.1) = true := emod_in h1
  have hb : inR s.1 (y % s.1) = true := emod_in h1
  have hc : inR s.2.1 (o % s.2.1) = true := emod_in h3
  simp only [Option.bind_some, Bool.false_eq_true, if_false, Bool.not_true]
  rw [ck_pos (by rw [inK_i64]; omega), ck_pos hx8.1, ck_pos (by omega), ck_pos (by rw [inK_i64]; omega), ck_pos hy8.1, ck_pos (by omega), ck_pos (by rw [inK_i64]; omega), ck_pos ho8.1, ck_pos (by omega)]
  generalize x % s.1 = a at ha ⊢
  generalize y % s.1 = b at hb ⊢
  generalize o % s.2.1 = c at hc ⊢
  have ha' := ha
  have hb' := hb
  have hc' := hc
  simp only [inR, decide_eq_true_eq] at ha' hb' hc'
  have hcl : ((clsL s).length : Int) = s.1 := by unfold clsL; simp; omega
  obtain ⟨na, rfl⟩ := Int.eq_ofNat_of_zero_le ha'.1
  obtain ⟨l1, l2, l3⟩ := leastF_spec hv ha
  have rl := inR_le (n := 0) ha l1
  have hll : leastF s (leastF s na) = leastF s na := (leastF_uniq hv rl (same_refl hv rl) fun k hk => by
    cases e : sameB s k (leastF s na)
    · rfl
    · have := same_trans hv (inR_le (n := 0) rl (Nat.le_of_lt hk)) rl ha e l2
      rw [l3 k hk] at this; cases this).symm
  have hcs := cls_same hv ha hb
  rw [Int.toNat_natCast] at hcs
  rw [Same_eq s hs, Word_eq s hs, Tells_eq s hs _ _ w hl, Classes_eq s hs]
  simp only [Option.bind_some, hv, ha, hb, if_true, and_self, tells_in hv ha hb hw, hcl, cls_at ha, cls_at hb, Int.toNat_natCast, decide_true, Bool.not_true, Bool.false_eq_true, if_false]
  have hwd : wordOf (toSp s) na b = (match apartP (toSp s) (toSp s) ((na : Int), b) with | some w => (w, 0) | none => ([], 5)) := by
    unfold wordOf
    rw [if_pos hv, if_pos (show inR (toSp s).st na = true ∧ inR (toSp s).st b = true from ⟨ha, hb⟩)]
    cases apartP (toSp s) (toSp s) ((na : Int), b) <;> rfl
  have hca : (clsL s).getD na 0 = (leastF s na : Int) := by
    have := cls_at ha
    rwa [Int.toNat_natCast] at this
  have hrl : (clsL s).getD (leastF s na) 0 = (leastF s na : Int) := by
    have := cls_at rl
    rw [Int.toNat_natCast] at this
    rw [this, hll]
  have t1 : (0 : Int) ≤ (na : Int) := ha'.1
  have t2 : (na : Int) < s.1 := ha'.2
  have t3 : (0 : Int) ≤ b := hb'.1
  have t4 : b < s.1 := hb'.2
  have t5 : (0 : Int) ≤ (leastF s na : Int) := Int.natCast_nonneg _
  have t6 : (leastF s na : Int) < s.1 := by omega
  have t7 : ¬ (leastF s na : Int) < 0 := by omega
  have t8 : ¬ (na : Int) < (leastF s na : Int) := by omega
  simp only [ck_pos t1, ck_pos t2, ck_pos t3, ck_pos t4, ck_pos t5, ck_pos t6, t7, t8, decide_false, hrl, hca, hcs, decide_true, Bool.false_eq_true, if_false, Bool.not_true, Int.toNat_natCast]
  rw [hwd]
  cases hap : apartP (toSp s) (toSp s) ((na : Int), b) with
  | none =>
    have hsame : sameB s na b = true := by unfold sameB; rw [hap]; rfl
    have e1 : decide ((leastF s na : Int) = (leastF s b.toNat : Int)) = true := by rw [← hcs]; exact hsame
    have htell : ans (toSp s) na w = ans (toSp s) b w := (same_iff hv ha hb).1 hsame w (wordB_all hw).2
    obtain ⟨n1, n2⟩ := same_next hv ha hb hc hsame
    obtain ⟨c1, c2, c3, c4, c5, c6, c7⟩ := run_step_ok hv ha hc
    obtain ⟨d1, d2, d3, d4, d5, d6, d7⟩ := run_step_ok hv hb hc
    rw [Int.toNat_natCast] at c5 c6 
    have n2' : sameB s (at2 s.2.2.1 na c.toNat) (at2 s.2.2.1 b c.toNat) = true := n2
    have g1 : (s.2.2.1.getD na []).getD c.toNat 0 = at2 s.2.2.1 na c.toNat := by have := getD_at s.2.2.1 na c; rwa [Int.toNat_natCast] at this
    have g2 : (s.2.2.2.getD na []).getD c.toNat 0 = at2 s.2.2.2 na c.toNat := by have := getD_at s.2.2.2 na c; rwa [Int.toNat_natCast] at this
    simp only [e1, htell, decide_true, BEq.rfl, bne_self_eq_false, Bool.false_eq_true, if_false, if_true, Bool.not_true, Bool.not_false, List.length_nil, Int.natCast_zero, ck_pos c2, ck_pos c3, ck_pos c4, ck_pos c5, ck_pos c6, ck_pos d2, ck_pos d3, ck_pos d5, ck_pos d6, g1, g2, getD_at, Same_eq s hs, hv, c7, d7, and_self, n2', n1, Option.bind_some]
  | some own =>
    have hsame : sameB s na b = false := by unfold sameB; rw [hap]; rfl
    have e1 : decide ((leastF s na : Int) = (leastF s b.toNat : Int)) = false := by rw [← hcs]; exact hsame
    obtain ⟨o1, o2, o3, o4⟩ := apart_some hv hv rfl (f := ((na : Int), b)) ⟨ha, hb⟩ hap
    obtain ⟨v, v1, v2, v3⟩ := short_diff hv ha hb o1 o3
    have o5 : (own.length : Int) ≤ s.1 - 1 := by
      have := o4 v v1 v2
      have e : (toSp s).st = s.1 := rfl
      omega
    have hown : wordB s own = true := wordB_of (by omega) o1
    have hpos : 0 < own.length := List.length_pos_iff.2 o2
    have htk : ((own.length : Int) - 1).toNat = own.length - 1 := by omega
    have hless : wordB s (own.take (own.length - 1)) = true := wordB_of (by rw [List.length_take]; omega) fun z hz => o1 z (List.mem_of_mem_take hz)
    have hl2 : ans (toSp s) na (own.take (own.length - 1)) = ans (toSp s) b (own.take (own.length - 1)) := Classical.byContradiction fun hd => by
      have := o4 _ (fun z hz => o1 z (List.mem_of_mem_take hz)) hd
      rw [List.length_take] at this; omega
    have f0 : ¬ (own.length : Int) = 0 := by omega
    have f1 : InK .i64 (s.1 - 1) := by rw [inK_i64]; omega
    have f2 : ¬ s.1 - 1 < (own.length : Int) := by omega
    have f3 : InK .i64 ((own.length : Int) - 1) := by rw [inK_i64]; omega
    have f4 : 0 ≤ (own.length : Int) - 1 := by omega
    have f5 : (own.length : Int) - 1 ≤ (own.length : Int) := by omega
    have o3' : ¬ ans (toSp s) na own = ans (toSp s) b own := o3
    simp only [e1, htk, Tells_eq s hs _ _ own (len_ok (by omega)), Tells_eq s hs _ _ (own.take (own.length - 1)) (len_ok (by rw [List.length_take]; omega)), tells_in hv ha hb hown, tells_in hv ha hb hless, o3', hl2, decide_false, decide_true, Bool.not_false, Bool.not_true, Option.bind_some, Bool.false_eq_true, if_false, if_true, f0, f2, ck_pos f1, ck_pos f3, ck_pos f4, ck_pos f5]
    by_cases htell : ans (toSp s) na w = ans (toSp s) b w
    · simp [htell]
    · have := o4 w (wordB_all hw).2 htell
      have f6 : ¬ (w.length : Int) < (own.length : Int) := by omega
      simp [htell, f6]
end Go.Proofs.Ytmcgmlcfogdioaa
