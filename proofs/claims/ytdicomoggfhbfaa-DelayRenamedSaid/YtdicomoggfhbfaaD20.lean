/-
  DelayRenamed: threads under other numbers.
-/
import Derived.Test.YtdicomoggfhbfaaD19
import Derived.Test.YtdicomoggfhbfaaD16
import Derived.Test.YtdicomoggfhbfaaD11
namespace Go.Proofs.Ytdicomoggfhbfaa
open Go.RowKit

set_option linter.unusedVariables false
set_option linter.unusedSimpArgs false

def thr (th : List Int) (t : Int) : Int := th.getD t.toNat 0
def reS (th : List Int) (s : Sta) : Sta := (thr th s.1, s.2.1, s.2.2)
def reF (th : List Int) (f : Fen) : Fen := (thr th f.1, f.2)
def rn {α : Type} (L : List (List α)) (th : List Int) : List (List α) := th.map fun t => L.getD t.toNat []

theorem getD_mapS {α β : Type} {l : List α} {k : Nat} (h : k < l.length) (f : α → β) (d : β) (e : α) : (l.map f).getD k d = f (l.getD k e) := by
  rw [List.getD_eq_getElem?_getD, List.getElem?_map, List.getElem?_eq_getElem h, getD_of (List.getElem?_eq_getElem h)]; rfl

theorem thr_in {n : Nat} {th : List Int} (hb : thrB n th = true) {t : Int} (h0 : 0 ≤ t) (h1 : t < n) : 0 ≤ thr th t ∧ thr th t < n := by
  obtain ⟨⟨h2, _⟩, h3⟩ := thrB_iff.1 hb
  unfold thr
  exact h2 _ (getD_in (by omega))
theorem thr_inj {n : Nat} {th : List Int} (hb : thrB n th = true) {t u : Int} (h0 : 0 ≤ t) (h1 : t < n) (g0 : 0 ≤ u) (g1 : u < n) (h : thr th t = thr th u) : t = u := by
  obtain ⟨⟨_, hn⟩, h3⟩ := thrB_iff.1 hb
  unfold thr at h
  have ht : t.toNat < th.length := by omega
  have hu : u.toNat < th.length := by omega
  rw [getD_of (List.getElem?_eq_getElem ht), getD_of (List.getElem?_eq_getElem hu)] at h
  unfold List.Nodup at hn
  rw [List.pairwise_iff_getElem] at hn
  rcases Nat.lt_trichotomy t.toNat u.toNat with c | c | c
  · exact absurd h (hn _ _ ht hu c)
  · omega
  · exact absurd h.symm (hn _ _ hu ht c)
theorem rn_row {α : Type} {n : Nat} {th : List Int} (hb : thrB n th = true) (L : List (List α)) {t : Int} (h0 : 0 ≤ t) (h1 : t < n) : (rn L th).getD t.toNat [] = L.getD (thr th t).toNat [] := by
  have h3 := (thrB_iff.1 hb).2
  unfold rn thr
  exact getD_mapS (by omega) _ _ 0

section
variable {x : Acs} {th : List Int} (hb : thrB x.length th = true)
include hb

theorem re_has {t a : Int} (h : hasA (renX x th) t a = true) : hasA x (thr th t) a = true ∧ celA (renX x th) t a = celA x (thr th t) a := by
  obtain ⟨h1, h2, h3, h4⟩ := hasA_iff.1 h
  rw [ren_len hb] at h2
  have hr : (renX x th).getD t.toNat [] = x.getD (thr th t).toNat [] := rn_row hb x h1 h2
  have hi := thr_in hb h1 h2
  rw [hr] at h4
  refine ⟨hasA_iff.2 ⟨hi.1, hi.2, h3, h4⟩, ?_⟩
  unfold celA
  rw [hr]
theorem re_eq {t u a b : Int} (h : hasA (renX x th) t a = true) (k : hasA (renX x th) u b = true) : decide (thr th t = thr th u) = decide (t = u) := by
  obtain ⟨h1, h2, _⟩ := hasA_iff.1 h
  obtain ⟨k1, k2, _⟩ := hasA_iff.1 k
  rw [ren_len hb] at h2 k2
  exact decide_eq_decide.2 ⟨thr_inj hb h1 h2 k1 k2, fun e => by rw [e]⟩
theorem re_conf {t a u b : Int} (h : hasA (renX x th) t a = true) (k : hasA (renX x th) u b = true) : conf x (thr th t) a (thr th u) b = conf (renX x th) t a u b := by
  unfold conf
  rw [(re_has hb h).2, (re_has hb k).2, re_eq hb h k]
theorem re_pr {s : Sta} (h1 : hasA (renX x th) s.1 s.2.1 = true) (h2 : hasA (renX x th) s.1 s.2.2 = true) : isPr x (reS th s) = isPr (renX x th) s := by
  have k1 := re_has hb h1
  have k2 := re_has hb h2
  unfold isPr reS
  simp only
  rw [k1.1, k2.1, h1, h2, k1.2, k2.2]
theorem re_st {s : Sta} (h : isSt (renX x th) s = true) : isSt x (reS th s) = true := by
  have h1 := isSt_has h
  have hp := re_pr hb h1.1 h1.2
  unfold isSt at h ⊢
  rw [hp]
  have : hasA x (reS th s).1 (reS th s).2.1 = hasA (renX x th) s.1 s.2.1 := by
    rw [h1.1]; exact (re_has hb h1.1).1
  rw [this]; exact h
theorem re_mts {r s : Sta} (hr : isSt (renX x th) r = true) (hs : isSt (renX x th) s = true) : mts x (reS th r) (reS th s) = mts (renX x th) r s := by
  unfold mts reS
  exact re_conf hb (isSt_has hr).2 (isSt_has hs).1
theorem re_inj {r s : Sta} (hr : isSt (renX x th) r = true) (hs : isSt (renX x th) s = true) (h : reS th r = reS th s) : r = s := by
  have h1 := re_eq hb (isSt_has hr).1 (isSt_has hs).1
  obtain ⟨r1, r2, r3⟩ := r
  obtain ⟨s1, s2, s3⟩ := s
  unfold reS at h
  simp only [Prod.mk.injEq] at h
  obtain ⟨e1, rfl, rfl⟩ := h
  rw [decide_eq_decide] at h1
  have h2 : r1 = s1 := h1.1 e1
  rw [h2]
theorem re_c2 {r s : Sta} (hr : isSt (renX x th) r = true) (hs : isSt (renX x th) s = true) : c2 x (reS th r) (reS th s) = c2 (renX x th) r s := by
  unfold c2
  rw [re_mts hb hr hs, re_mts hb hs hr]
  have := re_eq hb (isSt_has hr).1 (isSt_has hs).1
  show (!decide (thr th r.1 = thr th s.1) && _) = _
  rw [this]; rfl
theorem re_c3 {r s q : Sta} (hr : isSt (renX x th) r = true) (hs : isSt (renX x th) s = true) (hq : isSt (renX x th) q = true) : c3 x (reS th r) (reS th s) (reS th q) = c3 (renX x th) r s q := by
  unfold c3
  rw [re_mts hb hr hs, re_mts hb hs hq, re_mts hb hq hr]
  have e1 := re_eq hb (isSt_has hr).1 (isSt_has hs).1
  have e2 := re_eq hb (isSt_has hr).1 (isSt_has hq).1
  have e3 := re_eq hb (isSt_has hs).1 (isSt_has hq).1
  show ((!decide (thr th r.1 = thr th s.1) && _) && ((!decide (thr th r.1 = thr th q.1) && !decide (thr th s.1 = thr th q.1)) && _)) = _
  rw [e1, e2, e3]; rfl

theorem re_nC : nC (renX x th) ≤ nC x :=
  nC_le (reS th) (fun r hr s hs h => re_inj hb (mem_stas.1 hr) (mem_stas.1 hs) h) (fun s hs => re_st hb (mem_stas.1 hs)) (fun r hr s hs => re_c2 hb (mem_stas.1 hr) (mem_stas.1 hs)) (fun r hr s hs q hq => re_c3 hb (mem_stas.1 hr) (mem_stas.1 hs) (mem_stas.1 hq))

theorem re_isC {l : List Sta} (h : isC (renX x th) l = true) : ∃ m, isC x m = true ∧ ∀ s ∈ l, reS th s ∈ m := by
  unfold isC at h
  split at h
  · rename_i r s
    simp only [Bool.and_eq_true] at h
    refine ⟨[reS th r, reS th s], ?_, by simp⟩
    simp [isC, re_st hb h.1, re_st hb h.2.1, re_c2 hb h.1 h.2.1, h.2.2]
  · rename_i r s q
    simp only [Bool.and_eq_true] at h
    refine ⟨[reS th r, reS th s, reS th q], ?_, by simp⟩
    simp [isC, re_st hb h.1, re_st hb h.2.1, re_st hb h.2.2.1, re_c3 hb h.1 h.2.1 h.2.2.1, h.2.2.2]
  · cases h
theorem re_need {p : Sta} (h : p ∈ need (renX x th)) : reS th p ∈ need x := by
  obtain ⟨h1, l, h2, h3⟩ := mem_need.1 h
  obtain ⟨m, h4, h5⟩ := re_isC hb h2
  have hh : hasA (renX x th) p.1 p.2.1 = true ∧ hasA (renX x th) p.1 p.2.2 = true := by
    unfold isPr at h1; simp only [Bool.and_eq_true] at h1; exact ⟨h1.1, h1.2.1⟩
  exact mem_need.2 ⟨by rw [re_pr hb hh.1 hh.2]; exact h1, m, h4, h5 p h3⟩

theorem re_fen {f : Fen} : (0 ≤ f.1 ∧ f.1 < x.length) → (f ∈ fens (renX x th) ↔ reF th f ∈ fens x) := by
  rintro ⟨h1, h2⟩
  have hr : (renX x th).getD f.1.toNat [] = x.getD (thr th f.1).toNat [] := rn_row hb x h1 h2
  have hi := thr_in hb h1 h2
  rw [mem_fens, mem_fens, ren_len hb, hr]
  unfold reF
  simp only
  constructor
  · rintro ⟨_, _, a, b⟩; exact ⟨hi.1, hi.2, a, b⟩
  · rintro ⟨_, _, a, b⟩; exact ⟨h1, h2, a, b⟩

theorem re_areC {cs : Cos} (hc : areC x cs = true) : areC (renX x th) (rn cs th) = true := by
  obtain ⟨h1, h2⟩ := areC_iff.1 hc
  have hl := (thrB_iff.1 hb).2
  refine areC_iff.2 ⟨by rw [ren_len hb]; unfold rn; rw [List.length_map]; exact hl, fun t ht => ?_⟩
  rw [ren_len hb] at ht
  have e1 : (renX x th).getD t [] = x.getD (thr th (t : Int)).toNat [] := rn_row hb x (t := (t : Int)) (by omega) (by omega)
  have e2 : (rn cs th).getD t [] = cs.getD (thr th (t : Int)).toNat [] := rn_row hb cs (t := (t : Int)) (by omega) (by omega)
  have hi := thr_in hb (t := (t : Int)) (by omega) (by omega)
  rw [e1, e2]
  exact h2 _ (by omega)
end

theorem cstF_pos {cs : Cos} : ∀ {m : List Fen}, (∀ a ∈ m, 0 ≤ atC cs a) → 0 ≤ cstF cs m
  | [], _ => by simp [cstF_nil]
  | a :: m, h => by
    rw [cstF_cons]
    have := h a (by simp)
    have := cstF_pos (m := m) fun b hb => h b (by simp [hb])
    omega
theorem sum_permI {a b : List Int} (h : a.Perm b) : a.sum = b.sum := by
  induction h with
  | nil => rfl
  | cons a _ ih => simp only [List.sum_cons, ih]
  | swap a b l => simp only [List.sum_cons]; omega
  | trans _ _ h1 h2 => exact h1.trans h2
theorem cstF_sub {cs : Cos} : ∀ {l m : List Fen}, l.Nodup → (∀ a ∈ l, a ∈ m) → (∀ a ∈ m, 0 ≤ atC cs a) → cstF cs l ≤ cstF cs m
  | [], m, _, _, h => by
    rw [cstF_nil]; exact cstF_pos h
  | a :: l, m, hn, hs, h => by
    have hn' := List.nodup_cons.1 hn
    have ih := cstF_sub (cs := cs) (l := l) (m := m.erase a) hn'.2 (fun b hb => by
      have hne : b ≠ a := fun e => hn'.1 (e ▸ hb)
      exact (List.mem_erase_of_ne hne).2 (hs b (by simp [hb]))) (fun b hb => h b (List.mem_of_mem_erase hb))
    have e : cstF cs m = atC cs a + cstF cs (m.erase a) := by
      have hp := (List.perm_cons_erase (hs a (by simp))).map (atC cs)
      have := sum_permI hp
      unfold cstF
      rw [this, List.map_cons, List.sum_cons]
    rw [cstF_cons, e]
    omega

theorem fens_nodup (x : Acs) : (fens x).Nodup := (fens_asc x).imp fun {a b} h e => by rw [e] at h; exact ltF_irr h

theorem re_least {x : Acs} {th : List Int} (hb : thrB x.length th = true) {cs : Cos} (hc : areC x cs = true) {m n : List Fen} (hm : isBest x cs m) (hn : isBest (renX x th) (rn cs th) n) : cstF (rn cs th) n ≤ cstF cs m := by
  have hin : ∀ f ∈ fens (renX x th), 0 ≤ f.1 ∧ f.1 < x.length := fun f hf => by
    have := mem_fens.1 hf; rw [ren_len hb] at this; exact ⟨this.1, this.2.1⟩
  have hq : ((fens (renX x th)).filter fun f => decide (reF th f ∈ m)).Sublist (fens (renX x th)) := List.filter_sublist
  have hen : enB ((fens (renX x th)).filter fun f => decide (reF th f ∈ m)) (need (renX x th)) = true := by
    unfold enB
    rw [List.all_eq_true]
    intro p hp
    have h1 := hm.1.2
    unfold enB at h1
    rw [List.all_eq_true] at h1
    have h2 := h1 _ (re_need hb hp)
    unfold heldB at h2 ⊢
    rw [List.any_eq_true] at h2 ⊢
    obtain ⟨f, hf, hh⟩ := h2
    unfold hldB reS at hh
    simp only [Bool.and_eq_true, decide_eq_true_eq] at hh
    have hpp := (mem_need.1 hp).1
    unfold isPr at hpp
    simp only [Bool.and_eq_true] at hpp
    obtain ⟨a1, a2, _⟩ := hasA_iff.1 hpp.1
    rw [ren_len hb] at a2
    have hfe : reF th (p.1, f.2) = f := by unfold reF; exact Prod.ext hh.1.symm rfl
    refine ⟨(p.1, f.2), List.mem_filter.2 ⟨(re_fen hb ⟨a1, a2⟩).2 (by rw [hfe]; exact sub_fens hm.1.1 f hf), by rw [hfe]; exact decide_eq_true hf⟩, ?_⟩
    unfold hldB
    simp only [Bool.and_eq_true, decide_eq_true_eq]
    exact ⟨trivial, hh.2⟩
  refine Int.le_trans (betr_le (hn.2 _ hq hen)) ?_
  have e : cstF (rn cs th) ((fens (renX x th)).filter fun f => decide (reF th f ∈ m)) = cstF cs (((fens (renX x th)).filter fun f => decide (reF th f ∈ m)).map (reF th)) := by
    unfold cstF
    rw [List.map_map]
    congr 1
    refine List.map_congr_left fun f hf => ?_
    obtain ⟨h1, h2⟩ := hin f (List.mem_filter.1 hf).1
    unfold atC reF
    simp only [Function.comp_apply]
    rw [rn_row hb cs h1 h2]
  rw [e]
  refine cstF_sub (map_nodup ((fens_nodup _).filter _) fun f hf g hg h => ?_) (fun f hf => ?_) (fun f hf => by have := (atC_bnd hc (sub_fens hm.1.1 f hf)).2.2.2.2; omega)
  · obtain ⟨h1, h2⟩ := hin f (List.mem_filter.1 hf).1
    obtain ⟨g1, g2⟩ := hin g (List.mem_filter.1 hg).1
    unfold reF at h
    simp only [Prod.mk.injEq] at h
    exact Prod.ext (thr_inj hb h1 h2 g1 g2 h.1) h.2
  · obtain ⟨g, hg, rfl⟩ := List.mem_map.1 hf
    exact of_decide_eq_true (List.mem_filter.1 hg).2

/-! ### The other way -/
def bkT (n : Nat) (th : List Int) : List Int := (List.range n).map fun (t : Nat) => ((th.idxOf (t : Int) : Nat) : Int)
theorem bkT_at {n : Nat} {th : List Int} (hb : thrB n th = true) {t : Nat} (ht : t < n) : ∃ h : th.idxOf (t : Int) < th.length, th[th.idxOf (t : Int)] = (t : Int) := by
  have hm : (t : Int) ∈ th := (thrB_perm hb).subset (mem_rngI.2 ⟨by omega, by omega⟩)
  have h := List.idxOf_lt_length_iff.2 hm
  exact ⟨h, List.getElem_idxOf h⟩
theorem bkT_thr {n : Nat} {th : List Int} (hb : thrB n th = true) : thrB n (bkT n th) = true := by
  have hl := (thrB_iff.1 hb).2
  refine thrB_iff.2 ⟨⟨fun v hv => ?_, ?_⟩, by unfold bkT; simp⟩
  · unfold bkT at hv
    obtain ⟨t, ht, rfl⟩ := List.mem_map.1 hv
    obtain ⟨h1, _⟩ := bkT_at hb (List.mem_range.1 ht)
    omega
  · unfold bkT
    refine map_nodup List.nodup_range fun a ha b hb' h => ?_
    obtain ⟨h1, h2⟩ := bkT_at hb (List.mem_range.1 ha)
    obtain ⟨g1, g2⟩ := bkT_at hb (List.mem_range.1 hb')
    have e : th.idxOf (a : Int) = th.idxOf (b : Int) := by omega
    simp only [e] at h2
    omega
theorem bkT_rn {α : Type} {n : Nat} {th : List Int} (hb : thrB n th = true) {L : List (List α)} (hL : L.length = n) : rn (rn L th) (bkT n th) = L := by
  refine List.ext_getElem? fun k => ?_
  by_cases hk : k < n
  · obtain ⟨h1, h2⟩ := bkT_at hb hk
    unfold rn bkT
    rw [List.getElem?_map, List.getElem?_map, List.getElem?_range hk]
    simp only [Option.map_some]
    rw [Int.toNat_natCast, getD_mapS h1 _ _ 0, getD_of (List.getElem?_eq_getElem h1), h2, Int.toNat_natCast, getD_of (List.getElem?_eq_getElem (by omega)), List.getElem?_eq_getElem (by omega)]
  · rw [List.getElem?_eq_none (by unfold rn bkT; simp; omega), List.getElem?_eq_none (by omega)]

theorem re_nC_eq {x : Acs} {th : List Int} (hb : thrB x.length th = true) : nC (renX x th) = nC x := by
  have h1 := re_nC hb
  have h2 := re_nC (x := renX x th) (th := bkT x.length th) (by rw [ren_len hb]; exact bkT_thr hb)
  have e : renX (renX x th) (bkT x.length th) = x := bkT_rn hb rfl
  rw [e] at h2
  omega
theorem re_least_eq {x : Acs} {th : List Int} (hb : thrB x.length th = true) {cs : Cos} (hc : areC x cs = true) {m n : List Fen} (hm : isBest x cs m) (hn : isBest (renX x th) (rn cs th) n) : cstF (rn cs th) n = cstF cs m := by
  have h1 := re_least hb hc hm hn
  have e1 : renX (renX x th) (bkT x.length th) = x := bkT_rn hb rfl
  have e2 : rn (rn cs th) (bkT x.length th) = cs := bkT_rn hb (areC_iff.1 hc).1
  have h2 := re_least (x := renX x th) (th := bkT x.length th) (by rw [ren_len hb]; exact bkT_thr hb) (re_areC hb hc) hn (n := m) (by rw [e1, e2]; exact hm)
  rw [e2] at h2
  omega

theorem DelayRenamed_eq (x : Acs) (hx : okEl (.sl (.sl (.pair (.int .i64) .bool))) x) (cs : Cos) (hcs : okEl (.sl (.sl (.int .i64))) cs) (th : List Int) (hth : okEl (.sl (.int .i64)) th) : lineallaw09_DelayRenamed x cs th = some true := by
  have hfth : few th := by
    have := hth.1
    have e : Ty.bytes (.int .i64) = 8 := rfl
    rw [e] at this
    unfold few; omega
  unfold lineallaw09_DelayRenamed
  rw [Long_eq (okX hx), Option.bind_some]
  cases hl : lngB x with
  | true => rw [if_pos rfl, Awake_eq]; rfl
  | false =>
    have hx20 := (lng_len hl).1
    rw [if_neg (by simp), refValid_eq hx20, Option.bind_some]
    cases hv : vld x with
    | false => rw [if_pos (show (!false) = true from rfl), Awake_eq]; rfl
    | true =>
      rw [if_neg (by simp), refAreCosts_eq hv, Option.bind_some]
      cases hc : areC x cs with
      | false => rw [if_pos (show (!false) = true from rfl), Awake_eq]; rfl
      | true =>
        rw [if_neg (by simp), AreThreads_eq hfth, Option.bind_some]
        cases hb : thrB x.length th with
        | false => rw [if_pos (show (!false) = true from rfl), Awake_eq]; rfl
        | true =>
          have hlen := vld_len hv
          have hthl := (thrB_iff.1 hb).2
          have hin := (thrB_iff.1 hb).1.1
          have hcl := (areC_iff.1 hc).1
          rw [if_neg (by simp), Renamed_eq x (by omega), Option.bind_some]
          simp only [hv, hb, if_true]
          rw [appL th 1 (fun t => [cs.getD t.toNat []]) (fun y _ => by simp) [] (body := lineallaw09_DelayRenamed_b1 cs th) (fun k v l hk hl' => by
            obtain ⟨hlt, hik⟩ := few_in hfth hk
            have := hin v (List.mem_of_getElem? hk)
            simp only [List.length_nil] at hl'
            unfold lineallaw09_DelayRenamed_b1
            dsimp only
            rw [Int.toNat_natCast, getD_of hk, if_pos (decide_eq_true (by omega)), ck_pos (by omega), ck_pos (by omega), ck_pos (by omega), ck_pos (by omega), ck_pos (by omega), ck_pos hik]) (fun l => by unfold lineallaw09_DelayRenamed_b1; rw [if_neg (by simp)]), Option.bind_some, List.nil_append, flat_map1]
          show lineallaw09_DelayRenamed_k1 x cs (renX x th, 0) (rn cs th) = some true
          have hv2 := ren_vld hv hb
          have hc2 := re_areC hb hc
          obtain ⟨m, hm, _, hm2⟩ := best_ex x cs
          obtain ⟨n, hn, _, hn2⟩ := best_ex (renX x th) (rn cs th)
          have z1 : errO x cs = 0 := errO_zero.2 ⟨hv, hc⟩
          have z2 : errO (renX x th) (rn cs th) = 0 := errO_zero.2 ⟨hv2, hc2⟩
          have hco := re_least_eq hb hc (hm z1) (hn z2)
          unfold lineallaw09_DelayRenamed_k1
          rw [Circles_eq, Option.bind_some, Circles_eq, Option.bind_some, hm2, Option.bind_some, hn2, Option.bind_some, Awake_eq]
          simp only [hv, hv2, z1, z2, if_true, circs_count, re_nC_eq hb, hco, decide_true]
          rfl

end Go.Proofs.Ytdicomoggfhbfaa
