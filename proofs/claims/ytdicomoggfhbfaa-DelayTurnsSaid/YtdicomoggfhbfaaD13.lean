/-
  DelayTurns: what is needed of threads that are turned round.
-/
import Derived.Test.YtdicomoggfhbfaaD12
import Derived.Test.YtdicomoggfhbfaaD11
import Derived.Test.YtdicomoggfhbfaaD9
namespace Go.Proofs.Ytdicomoggfhbfaa
open Go.RowKit

set_option linter.unusedVariables false
set_option linter.unusedSimpArgs false

theorem turn_len (x : Acs) : (turnX x).length = x.length := by unfold turnX; simp
theorem turn_row (x : Acs) (k : Nat) : (turnX x).getD k [] = (x.getD k []).reverse := by
  unfold turnX
  rw [List.getD_eq_getElem?_getD, List.getElem?_map, List.getD_eq_getElem?_getD]
  cases x[k]? <;> rfl

/-- Where an access stands from behind. -/
def bkA (x : Acs) (t a : Int) : Int := ((x.getD t.toNat []).length : Int) - 1 - a
def bkS (x : Acs) (s : Sta) : Sta := (s.1, bkA x s.1 s.2.2, bkA x s.1 s.2.1)

theorem bk_has {x : Acs} {t a : Int} (h : hasA x t a = true) : hasA (turnX x) t (bkA x t a) = true ∧ celA (turnX x) t (bkA x t a) = celA x t a := by
  obtain ⟨h1, h2, h3, h4⟩ := hasA_iff.1 h
  unfold bkA
  refine ⟨hasA_iff.2 ⟨h1, by rw [turn_len]; exact h2, by omega, by rw [turn_row, List.length_reverse]; omega⟩, ?_⟩
  unfold celA
  rw [turn_row]
  generalize x.getD t.toNat [] = r at h4 ⊢
  rw [List.getD_eq_getElem?_getD, List.getD_eq_getElem?_getD, List.getElem?_reverse (by omega)]
  congr 2; omega

theorem bk_conf {x : Acs} {t a u b : Int} (h : hasA x t a = true) (k : hasA x u b = true) : conf (turnX x) t (bkA x t a) u (bkA x u b) = conf x t a u b := by
  unfold conf
  rw [(bk_has h).2, (bk_has k).2]

theorem conf_symm {x : Acs} {t a u b : Int} : conf x t a u b = conf x u b t a := by
  unfold conf
  have e1 : decide (t = u) = decide (u = t) := decide_eq_decide.2 eq_comm
  have e2 : decide ((celA x t a).1 = (celA x u b).1) = decide ((celA x u b).1 = (celA x t a).1) := decide_eq_decide.2 eq_comm
  rw [e1, e2, Bool.or_comm]

theorem bk_pr {x : Acs} {s : Sta} (h1 : hasA x s.1 s.2.1 = true) (h2 : hasA x s.1 s.2.2 = true) : isPr (turnX x) (bkS x s) = isPr x s := by
  have k1 := bk_has h1
  have k2 := bk_has h2
  unfold isPr bkS
  simp only
  rw [k1.1, k2.1, h1, h2, k1.2, k2.2]
  have e1 : decide (bkA x s.1 s.2.2 < bkA x s.1 s.2.1) = decide (s.2.1 < s.2.2) := decide_eq_decide.2 (by unfold bkA; omega)
  have e2 : decide ((celA x s.1 s.2.2).1 = (celA x s.1 s.2.1).1) = decide ((celA x s.1 s.2.1).1 = (celA x s.1 s.2.2).1) := decide_eq_decide.2 eq_comm
  rw [e1, e2]

theorem bk_one {x : Acs} {s : Sta} : oneB (bkS x s) = oneB s := by
  unfold oneB bkS bkA
  exact decide_eq_decide.2 (by simp only; omega)

theorem bk_st {x : Acs} {s : Sta} (h : isSt x s = true) : isSt (turnX x) (bkS x s) = true := by
  have h1 := isSt_has h
  have hp := bk_pr h1.1 h1.2
  have ho := bk_one (x := x) (s := s)
  unfold oneB at ho
  unfold isSt at h ⊢
  rw [hp, ho]
  have : hasA (turnX x) (bkS x s).1 (bkS x s).2.1 = hasA x s.1 s.2.1 := by
    rw [h1.1]; exact (bk_has h1.2).1
  rw [this]; exact h

theorem bk_mts {x : Acs} {r s : Sta} (hr : isSt x r = true) (hs : isSt x s = true) : mts (turnX x) (bkS x s) (bkS x r) = mts x r s := by
  unfold mts bkS
  simp only
  rw [bk_conf (isSt_has hs).1 (isSt_has hr).2, conf_symm]

theorem bk_inj {x : Acs} {r s : Sta} (h : bkS x r = bkS x s) : r = s := by
  obtain ⟨r1, r2, r3⟩ := r
  obtain ⟨s1, s2, s3⟩ := s
  unfold bkS bkA at h
  simp only [Prod.mk.injEq] at h
  obtain ⟨rfl, e2, e3⟩ := h
  have : r2 = s2 := by omega
  have : r3 = s3 := by omega
  simp [*]

theorem bk_c2 {x : Acs} {r s : Sta} (hr : isSt x r = true) (hs : isSt x s = true) : c2 (turnX x) (bkS x r) (bkS x s) = c2 x r s := by
  unfold c2
  rw [bk_mts hs hr, bk_mts hr hs, bk_one, bk_one]
  show (!decide (r.1 = s.1) && (mts x s r && (mts x r s && _))) = _
  cases mts x r s <;> cases mts x s r <;> rfl

theorem bk_c3 {x : Acs} {r s q : Sta} (hr : isSt x r = true) (hs : isSt x s = true) (hq : isSt x q = true) : c3 (turnX x) (bkS x q) (bkS x s) (bkS x r) = c3 x r s q := by
  unfold c3
  rw [bk_mts hs hq, bk_mts hr hs, bk_mts hq hr, bk_one, bk_one, bk_one]
  have e1 : decide ((bkS x q).1 = (bkS x s).1) = decide (s.1 = q.1) := decide_eq_decide.2 eq_comm
  have e2 : decide ((bkS x q).1 = (bkS x r).1) = decide (r.1 = q.1) := decide_eq_decide.2 eq_comm
  have e3 : decide ((bkS x s).1 = (bkS x r).1) = decide (r.1 = s.1) := decide_eq_decide.2 eq_comm
  rw [e1, e2, e3]
  cases decide (r.1 = s.1) <;> cases mts x r s <;> cases mts x s q <;> cases mts x q r <;> cases decide (r.1 = q.1) <;> cases decide (s.1 = q.1) <;> cases oneB r <;> cases oneB s <;> cases oneB q <;> rfl

theorem turn_le (x : Acs) : nC x ≤ nC (turnX x) := by
  have hn := map_nodup (stas_nodup x) (ι := bkS x) fun a _ b _ h => bk_inj h
  have hm : ∀ a ∈ stas x, bkS x a ∈ stas (turnX x) := fun a ha => mem_stas.2 (bk_st (mem_stas.1 ha))
  have inj : ∀ f : Sta → Nat, sumL (stas x) (fun a => f (bkS x a)) ≤ sumL (stas (turnX x)) f := sumL_inj (bkS x) hn hm
  unfold nC
  refine Nat.add_le_add ?_ ?_
  · refine Nat.le_trans (Nat.le_of_eq (sumL_congr (g := fun r => sumL (stas x) fun s => (c2 (turnX x) (bkS x r) (bkS x s)).toNat) fun r hr => sumL_congr fun s hs => by rw [bk_c2 (mem_stas.1 hr) (mem_stas.1 hs)])) ?_
    refine Nat.le_trans (sumL_mono (g := fun r => sumL (stas (turnX x)) fun s => (c2 (turnX x) (bkS x r) s).toNat) fun r _ => inj fun s => (c2 (turnX x) (bkS x r) s).toNat) ?_
    exact inj fun r => sumL (stas (turnX x)) fun s => (c2 (turnX x) r s).toNat
  · have sw : sumL (stas x) (fun r => sumL (stas x) fun s => sumL (stas x) fun q => (c3 x r s q).toNat) = sumL (stas x) fun q => sumL (stas x) fun s => sumL (stas x) fun r => (c3 x r s q).toNat := by
      rw [sumL_congr (g := fun r => sumL (stas x) fun q => sumL (stas x) fun s => (c3 x r s q).toNat) fun r _ => sumL_swap (stas x) (stas x) fun s q => (c3 x r s q).toNat]
      rw [sumL_swap (stas x) (stas x) fun r q => sumL (stas x) fun s => (c3 x r s q).toNat]
      exact sumL_congr fun q _ => sumL_swap (stas x) (stas x) fun r s => (c3 x r s q).toNat
    rw [sw]
    refine Nat.le_trans (Nat.le_of_eq (sumL_congr (g := fun q => sumL (stas x) fun s => sumL (stas x) fun r => (c3 (turnX x) (bkS x q) (bkS x s) (bkS x r)).toNat) fun q hq => sumL_congr fun s hs => sumL_congr fun r hr => by rw [bk_c3 (mem_stas.1 hr) (mem_stas.1 hs) (mem_stas.1 hq)])) ?_
    refine Nat.le_trans (sumL_mono (g := fun q => sumL (stas (turnX x)) fun s => sumL (stas (turnX x)) fun r => (c3 (turnX x) (bkS x q) s r).toNat) fun q _ => ?_) ?_
    · refine Nat.le_trans (sumL_mono (g := fun s => sumL (stas (turnX x)) fun r => (c3 (turnX x) (bkS x q) (bkS x s) r).toNat) fun s _ => inj fun r => (c3 (turnX x) (bkS x q) (bkS x s) r).toNat) ?_
      exact inj fun s => sumL (stas (turnX x)) fun r => (c3 (turnX x) (bkS x q) s r).toNat
    · exact inj fun q => sumL (stas (turnX x)) fun s => sumL (stas (turnX x)) fun r => (c3 (turnX x) q s r).toNat

theorem turn_nC (x : Acs) : nC (turnX x) = nC x := by
  have h1 := turn_le x
  have h2 := turn_le (turnX x)
  rw [turn_turn] at h2
  omega

theorem turn_isC {x : Acs} {l : List Sta} (h : isC x l = true) : ∃ m, isC (turnX x) m = true ∧ ∀ s ∈ l, bkS x s ∈ m := by
  unfold isC at h
  split at h
  · rename_i r s
    simp only [Bool.and_eq_true] at h
    refine ⟨[bkS x r, bkS x s], ?_, by simp⟩
    simp [isC, bk_st h.1, bk_st h.2.1, bk_c2 h.1 h.2.1, h.2.2]
  · rename_i r s q
    simp only [Bool.and_eq_true] at h
    refine ⟨[bkS x q, bkS x s, bkS x r], ?_, by simp⟩
    simp [isC, bk_st h.1, bk_st h.2.1, bk_st h.2.2.1, bk_c3 h.1 h.2.1 h.2.2.1, h.2.2.2]
  · cases h

theorem turn_need {x : Acs} {p : Sta} (h : p ∈ need x) : bkS x p ∈ need (turnX x) := by
  obtain ⟨h1, l, h2, h3⟩ := mem_need.1 h
  obtain ⟨m, h4, h5⟩ := turn_isC h2
  have hh : hasA x p.1 p.2.1 = true ∧ hasA x p.1 p.2.2 = true := by
    unfold isPr at h1; simp only [Bool.and_eq_true] at h1; exact ⟨h1.1, h1.2.1⟩
  exact mem_need.2 ⟨by rw [bk_pr hh.1 hh.2]; exact h1, m, h4, h5 p h3⟩

theorem need_nodup (x : Acs) : (need x).Nodup := by
  unfold need prs
  exact ((stas_nodup x).filter _).filter _

theorem turn_need_le (x : Acs) : (need x).length ≤ (need (turnX x)).length := by
  have hn := map_nodup (need_nodup x) (ι := bkS x) fun a _ b _ h => bk_inj h
  have := nodup_le hn (ys := need (turnX x)) fun b hb => by obtain ⟨a, ha, rfl⟩ := List.mem_map.1 hb; exact turn_need ha
  rwa [List.length_map] at this

theorem turn_need_len (x : Acs) : (need (turnX x)).length = (need x).length := by
  have h1 := turn_need_le x
  have h2 := turn_need_le (turnX x)
  rw [turn_turn] at h2
  omega

theorem DelayTurns_eq (x : Acs) (hx : okEl (.sl (.sl (.pair (.int .i64) .bool))) x) : lineallaw09_DelayTurns x = some true := by
  unfold lineallaw09_DelayTurns
  rw [Long_eq (okX hx), Option.bind_some]
  cases hl : lngB x with
  | true => rw [if_pos rfl, Awake_eq]; rfl
  | false =>
    have hx20 := (lng_len hl).1
    rw [if_neg (by simp), refValid_eq hx20, Option.bind_some]
    cases hv : vld x with
    | false => rw [if_pos (show (!false) = true from rfl), Awake_eq]; rfl
    | true =>
      have hvt := turn_vld hv
      have hlen := vld_len hv
      have hfit := need_fit hv
      have hfew := need_few hv
      rw [if_neg (by simp), Turned_eq, hv, if_pos rfl, Option.bind_some]
      simp only
      rw [Turned_eq, hvt, if_pos rfl, Option.bind_some, turn_turn]
      simp only
      rw [if_neg (by simp), if_neg (by simp), SameAccesses_eq (few_of hlen.2.1) (fun l h => few_of (hlen.2.2 l h)) (vld_fit hv) (vld_fit hv), Option.bind_some, if_neg (by simp), refValid_eq (by rw [turn_len]; exact hx20), hvt, Option.bind_some, if_neg (by simp), Needed_eq, Needed_eq, Circles_eq, Circles_eq, hv, hvt]
      simp only [if_true, Option.bind_some]
      rw [if_neg (by simp), if_neg (by simp), if_neg (by simp), if_neg (by simp), if_neg (by rw [turn_need_len]; simp), if_neg (by rw [circs_count, circs_count, turn_nC]; simp)]
      have hloop : whileO (lineallaw09_DelayTurns_b1 x (need x, 0) (need (turnX x), 0)) 0 = some (.inr ()) := by
        rw [whileO_all (need x) (fun _ => true) (body := lineallaw09_DelayTurns_b1 x (need x, 0) (need (turnX x), 0)) (fun k p hk => by
          obtain ⟨hlt, hik⟩ := few_in hfew hk
          have hp := List.mem_of_getElem? hk
          have hpr := (mem_need.1 hp).1
          have hh : hasA x p.1 p.2.1 = true ∧ hasA x p.1 p.2.2 = true := by
            unfold isPr at hpr; simp only [Bool.and_eq_true] at hpr; exact ⟨hpr.1, hpr.2.1⟩
          obtain ⟨h1, h2, h3, h4⟩ := hasA_iff.1 hh.1
          obtain ⟨_, _, k3, k4⟩ := hasA_iff.1 hh.2
          have hr := vld_row hv p.1.toNat
          have ht := turn_need hp
          unfold bkS bkA at ht
          unfold lineallaw09_DelayTurns_b1
          dsimp only
          rw [Int.toNat_natCast, getD_of hk, if_pos (decide_eq_true (by omega)), ck_pos (by omega), ck_pos (by omega), if_neg (by rw [decide_eq_true_eq]; omega), if_neg (by rw [decide_eq_true_eq]; omega), ck_pos (by omega), ck_pos (by omega), ck_pos (by rw [inK_i64]; omega), ck_pos (by rw [inK_i64]; omega), ck_pos (by rw [inK_i64]; omega), in_eq (need_few hvt) (need_fit hvt) (need_fit hvt _ ht), Option.bind_some, if_neg (by simp only [ht]; simp), ck_pos hik]
          rfl) (by
            unfold lineallaw09_DelayTurns_b1
            dsimp only
            rw [if_neg (by simp)])]
        simp
      rw [hloop, Option.bind_some]
      simp only
      unfold lineallaw09_DelayTurns_k1
      rw [Awake_eq]; rfl

end Go.Proofs.Ytdicomoggfhbfaa
