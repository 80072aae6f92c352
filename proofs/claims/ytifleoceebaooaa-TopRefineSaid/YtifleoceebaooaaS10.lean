/-
 Layer 5, pure: the walk over pairs of sets finds the first trace of the one alone, or there is none; which systems are plain.
-/
import Derived.Test.YtifleoceebaooaaS9
namespace Go.Proofs.Ytifleoceebaooaa
open Go.RowKit

set_option linter.unusedVariables false
set_option linter.unusedSectionVars false
set_option linter.unusedSimpArgs false

section
variable {α β : Type} [DecidableEq α]
theorem mget_mput (d : β) : ∀ (l : List (α × β)) (x y : α) (v : β), mget d (mput l x v) y = if x = y then v else mget d l y
 | [], x, y, v => by simp [mput, mget]
 | (k, w) :: r, x, y, v => by
  have ih := mget_mput d r x y v
  unfold mput
  by_cases h : k = x
  ·rw [if_pos h]; subst h
   by_cases e : k = y <;> simp [mget, e]
  ·rw [if_neg h]
   simp only [mget, ih]
   by_cases e : k = y
   ·have : ¬ x = y := fun q => h (e.trans q.symm)
    simp [e, this]
   ·simp [e]
end

def kOf (c a : Sys) (w : List Int) : Int × Int := (((behM c w : Nat) : Int), ((behM a w : Nat) : Int))

structure BI (c a : Sys) (i : Nat) (l : Int) (b : List (List Int)) (kn : List ((Int × Int) × Bool)) : Prop where
 ok : ∀ w : List Int, w ∈ b → w.all seenB = true ∧ behM c w ≠ 0 ∧ behM a w ≠ 0
 nd : (b.map (kOf c a)).Nodup
 mono : ∀ (j k : Nat) (v w : List Int), b[j]? = some v → b[k]? = some w → j ≤ k → v.length ≤ w.length
 near : ∀ v : List Int, b[i]? = some v → ∀ w ∈ b, w.length ≤ v.length + 1
 idx : ∀ (j : Nat) (w : List Int), b[j]? = some w → w.length ≤ j
 cls : ∀ (j : Nat) (w : List Int), b[j]? = some w → ∀ q : Int, 0 < q → q ≤ 3 → (j < i ∨ j = i ∧ q < l) → behM c (w ++ [q]) = 0 ∨ ∃ v ∈ b, kOf c a v = kOf c a (w ++ [q]) ∧ v.length ≤ w.length + 1
 beg : b[0]? = some []
 kn : ∀ p : Int × Int, mget false kn p = true ↔ p ∈ b.map (kOf c a)

/-- The first one that tells. -/
structure Told (c a : Sys) (u : List Int) : Prop where
 seen : u.all seenB = true
 one : behM c u ≠ 0
 two : behM a u = 0
 short : ∀ v : List Int, v.all seenB = true → behM c v ≠ 0 → behM a v = 0 → u.length ≤ v.length

section
variable {c a : Sys} {Tc Ta : El T69} (hc : OkS c) (ha : OkS a)
include hc ha

theorem kOf_snoc {v w : List Int} (h : kOf c a v = kOf c a w) (l : Int) : kOf c a (v ++ [l]) = kOf c a (w ++ [l]) := by
 unfold kOf at h ⊢
 obtain ⟨h1, h2⟩ := Prod.mk.inj h
 have e1 : behM c v = behM c w := by omega
 have e2 : behM a v = behM a w := by omega
 rw [behM_snoc hc, behM_snoc hc, behM_snoc ha, behM_snoc ha, e1, e2]

theorem bi_few {i : Nat} {l : Int} {b : List (List Int)} {kn : List ((Int × Int) × Bool)} (B : BI c a i l b kn) : b.length ≤ 4096 := by
 have hnd : (b.map fun w => behM c w * 64 + behM a w).Nodup := by
  have h := B.nd
  unfold List.Nodup at h ⊢
  rw [List.pairwise_map] at h ⊢
  refine h.imp fun {v w} hne e => hne ?_
  have b1 := lt64 ha (behM_lt ha v)
  have b2 := lt64 ha (behM_lt ha w)
  have e1 : behM c v = behM c w := by omega
  have e2 : behM a v = behM a w := by omega
  unfold kOf
  rw [e1, e2]
 have := nodup_lt 4096 _ hnd (fun x hx => by
  obtain ⟨w, _, rfl⟩ := List.mem_map.1 hx
  have b1 := lt64 ha (behM_lt ha w)
  have b2 := lt64 hc (behM_lt hc w)
  omega)
 rw [List.length_map] at this
 exact this

theorem bi_reach {i : Nat} {l : Int} {b : List (List Int)} {kn : List ((Int × Int) × Bool)} (B : BI c a i l b kn) (n : Nat) (hn : ∀ (j : Nat) (u : List Int), b[j]? = some u → u.length < n → j < i) :
  ∀ (m : Nat) (v : List Int), v.length = m → m ≤ n → v.all seenB = true → behM c v = 0 ∨ ∃ u ∈ b, kOf c a u = kOf c a v ∧ u.length ≤ v.length
 | 0, v, hv, _, _ => by
  have : v = [] := List.length_eq_zero_iff.1 hv
  subst this
  exact .inr ⟨[], List.mem_of_getElem? B.beg, rfl, Nat.le_refl _⟩
 | m + 1, v, hv, hm, hs => by
  have hne : v ≠ [] := fun e => by rw [e] at hv; simp at hv
  obtain ⟨v', q, rfl⟩ : ∃ v' q, v = v' ++ [q] := ⟨v.dropLast, v.getLast hne, (List.dropLast_concat_getLast hne).symm⟩
  rw [List.length_append, List.length_singleton] at hv
  rw [List.all_append, Bool.and_eq_true] at hs
  have hq : 0 < q ∧ q ≤ 3 := by
   have := hs.2
   rw [List.all_cons, List.all_nil, Bool.and_true] at this
   simpa [seenB] using this
  rcases bi_reach B n hn m v' (by omega) (by omega) hs.1 with h | ⟨u, hu, hk, hl⟩
  ·left
   rw [behM_snoc hc, h, coM_zero hc]
  ·obtain ⟨j, hj⟩ := List.getElem?_of_mem hu
   have hji := hn j u hj (by omega)
   have ek := kOf_snoc hc ha hk q
   rcases B.cls j u hj q hq.1 hq.2 (.inl hji) with h | ⟨x, hx, hkx, hlx⟩
   ·left
    have := (Prod.mk.inj ek).1
    omega
   ·exact .inr ⟨x, hx, hkx.trans ek, by rw [List.length_append, List.length_singleton]; omega⟩

theorem bi_none {i : Nat} {l : Int} {b : List (List Int)} {kn : List ((Int × Int) × Bool)} (B : BI c a i l b kn) (h : i = b.length) (v : List Int) (hs : v.all seenB = true) (h1 : behM c v ≠ 0) : behM a v ≠ 0 := by
 rcases bi_reach hc ha B v.length (fun j u hj _ => by have := (List.getElem?_eq_some_iff.1 hj).1; omega) _ v rfl (Nat.le_refl _) hs with g | ⟨u, hu, hk, _⟩
 ·exact absurd g h1
 ·have := (B.ok u hu).2.2
  have := (Prod.mk.inj hk).2
  omega

theorem bi_told {i : Nat} {l : Int} {b : List (List Int)} {kn : List ((Int × Int) × Bool)} (B : BI c a i l b kn) {w : List Int} (hw : b[i]? = some w) (hl : 0 < l ∧ l ≤ 3) (h1 : behM c (w ++ [l]) ≠ 0) (h2 : behM a (w ++ [l]) = 0) : Told c a (w ++ [l]) := by
 have hok := B.ok w (List.mem_of_getElem? hw)
 refine ⟨?_, h1, h2, fun v hs g1 g2 => ?_⟩
 ·rw [List.all_append, hok.1, Bool.true_and, List.all_cons, List.all_nil, Bool.and_true]
  unfold seenB; rw [decide_eq_true_eq]; exact hl
 ·refine Nat.le_of_not_lt fun hlt => ?_
  rw [List.length_append, List.length_singleton] at hlt
  rcases bi_reach hc ha B w.length (fun j u hj hu => Nat.lt_of_not_le fun hij => by have := B.mono i j w u hw hj hij; omega) _ v rfl (by omega) hs with g | ⟨u, hu, hk, _⟩
  ·exact g1 g
  ·have := (B.ok u hu).2.2
   have := (Prod.mk.inj hk).2
   omega

theorem bi_keep {i : Nat} {l : Int} {b : List (List Int)} {kn : List ((Int × Int) × Bool)} (B : BI c a i l b kn) {w : List Int} (hw : b[i]? = some w) (h : behM c (w ++ [l]) = 0 ∨ kOf c a (w ++ [l]) ∈ b.map (kOf c a)) : BI c a i (l + 1) b kn := by
 refine ⟨B.ok, B.nd, B.mono, B.near, B.idx, fun j v hj q q1 q3 hq => ?_, B.beg, B.kn⟩
 by_cases hold : j < i ∨ j = i ∧ q < l
 ·exact B.cls j v hj q q1 q3 hold
 ·have hji : j = i := by omega
  have hql : q = l := by omega
  subst hji hql
  have : v = w := Option.some.inj (hj.symm.trans hw)
  subst this
  rcases h with h | h
  ·exact .inl h
  ·obtain ⟨u, hu, hk⟩ := List.mem_map.1 h
   exact .inr ⟨u, hu, hk, B.near v hw u hu⟩

theorem bi_push {i : Nat} {l : Int} {b : List (List Int)} {kn : List ((Int × Int) × Bool)} (B : BI c a i l b kn) {w : List Int} (hw : b[i]? = some w) (hl : 0 < l ∧ l ≤ 3) (h1 : behM c (w ++ [l]) ≠ 0) (h2 : behM a (w ++ [l]) ≠ 0) (hn : kOf c a (w ++ [l]) ∉ b.map (kOf c a)) :
  BI c a i (l + 1) (b ++ [w ++ [l]]) (mput kn (kOf c a (w ++ [l])) true) := by
 have hi := (List.getElem?_eq_some_iff.1 hw).1
 have hok := B.ok w (List.mem_of_getElem? hw)
 have hlen : (w ++ [l]).length = w.length + 1 := by rw [List.length_append, List.length_singleton]
 have old : ∀ (j : Nat) (v : List Int), (b ++ [w ++ [l]])[j]? = some v → (j < b.length ∧ b[j]? = some v) ∨ (j = b.length ∧ v = w ++ [l]) := fun j v hj => by
  rw [List.getElem?_append] at hj
  by_cases h : j < b.length
  ·rw [if_pos h] at hj; exact .inl ⟨h, hj⟩
  ·rw [if_neg h] at hj
   have h0 := (List.getElem?_eq_some_iff.1 hj).1
   rw [List.length_singleton] at h0
   have e : j = b.length := by omega
   subst e
   rw [Nat.sub_self] at hj
   exact .inr ⟨rfl, (Option.some.inj hj).symm⟩
 refine ⟨fun v hv => ?_, ?_, fun j k v u hj hk hjk => ?_, fun v hv u hu => ?_, fun j v hj => ?_, fun j v hj q q1 q3 hq => ?_, ?_, fun p => ?_⟩
 ·rcases List.mem_append.1 hv with hv | hv
  ·exact B.ok v hv
  ·rw [List.mem_singleton] at hv
   subst hv
   refine ⟨?_, h1, h2⟩
   rw [List.all_append, hok.1, Bool.true_and, List.all_cons, List.all_nil, Bool.and_true]
   unfold seenB; rw [decide_eq_true_eq]; exact hl
 ·rw [List.map_append, List.nodup_append]
  refine ⟨B.nd, by simp, fun x hx y hy e => ?_⟩
  simp only [List.map_cons, List.map_nil, List.mem_singleton] at hy
  subst e hy
  exact hn hx
 ·rcases old k u hk with ⟨g1, g2⟩ | ⟨g1, g2⟩
  ·rcases old j v hj with ⟨f1, f2⟩ | ⟨f1, f2⟩
   ·exact B.mono j k v u f2 g2 hjk
   ·omega
  ·rcases old j v hj with ⟨f1, f2⟩ | ⟨f1, f2⟩
   ·rw [g2, hlen]
    exact B.near w hw v (List.mem_of_getElem? f2)
   ·rw [g2, f2]; exact Nat.le_refl _
 ·have : v = w := by
   rcases old i v hv with ⟨f1, f2⟩ | ⟨f1, f2⟩
   ·exact Option.some.inj (f2.symm.trans hw)
   ·omega
  subst this
  rcases List.mem_append.1 hu with hu | hu
  ·exact B.near v hw u hu
  ·rw [List.mem_singleton] at hu
   rw [hu, hlen]; exact Nat.le_refl _
 ·rcases old j v hj with ⟨f1, f2⟩ | ⟨f1, f2⟩
  ·exact B.idx j v f2
  ·have := B.idx i w hw
   rw [f2, hlen]; omega
 ·rcases old j v hj with ⟨f1, f2⟩ | ⟨f1, f2⟩
  ·by_cases hold : j < i ∨ j = i ∧ q < l
   ·rcases B.cls j v f2 q q1 q3 hold with h | ⟨x, hx, h⟩
    ·exact .inl h
    ·exact .inr ⟨x, List.mem_append_left _ hx, h⟩
   ·have hji : j = i := by omega
    have hql : q = l := by omega
    subst hji hql
    have : v = w := Option.some.inj (f2.symm.trans hw)
    subst this
    exact .inr ⟨v ++ [q], List.mem_append_right _ (by simp), rfl, by rw [hlen]; exact Nat.le_refl _⟩
  ·omega
 ·rw [List.getElem?_append_left (by omega)]; exact B.beg
 ·rw [mget_mput, List.map_append, List.mem_append]
  by_cases h : kOf c a (w ++ [l]) = p
  ·rw [if_pos h]
   simp [h]
  ·rw [if_neg h, B.kn]
   constructor
   ·exact .inl
   ·rintro (g | g)
    ·exact g
    ·simp only [List.map_cons, List.map_nil, List.mem_singleton] at g
     exact absurd g.symm h

variable (hTc : Frm c Tc) (hTa : Frm a Ta)
include hTc hTa

theorem shows_in {i : Nat} {b0 : List (List Int)} {kn0 : List ((Int × Int) × Bool)} (B0 : BI c a i 1 b0 kn0) (hi : i < b0.length) :
  ∃ r, whileO (refine_two_shows_b2 ((c, Tc), a, Ta) (b0.map (kOf c a), b0, kn0, (i : Int))) (b0.map (kOf c a), b0, kn0, 1) = some r ∧ (match r with
   | .inl u => Told c a u
   | .inr x => ∃ b kn, x = (b.map (kOf c a), b, kn) ∧ BI c a i 4 b kn ∧ i < b.length) := by
 refine whileO_inv (body := refine_two_shows_b2 ((c, Tc), a, Ta) (b0.map (kOf c a), b0, kn0, (i : Int))) (fun s => ∃ b kn, ∃ l : Int, s = (b.map (kOf c a), b, kn, l) ∧ 1 ≤ l ∧ l ≤ 4 ∧ BI c a i l b kn ∧ i < b.length) (fun s => (4 - s.2.2.2).toNat) (fun r => match r with
   | .inl u => Told c a u
   | .inr x => ∃ b kn, x = (b.map (kOf c a), b, kn) ∧ BI c a i 4 b kn ∧ i < b.length) (fun s hs => ?_) _ ⟨b0, kn0, 1, rfl, by omega, by omega, B0, hi⟩
 obtain ⟨b, kn, l, rfl, l1, l4, B, hib⟩ := hs
 unfold refine_two_shows_b2
 simp only
 by_cases hl : l ≤ 3
 ·obtain ⟨w, hw⟩ : ∃ w, b[i]? = some w := ⟨_, List.getElem?_eq_getElem hib⟩
  have hg : (b.map (kOf c a)).getD i (0, 0) = kOf c a w := getD_of (by rw [List.getElem?_map, hw]; rfl)
  have hgb : b.getD i [] = w := getD_of hw
  have hfew := bi_few hc ha B
  have hix := B.idx i w hw
  have e1 : refine_frame_after (c, Tc) (kOf c a w).1 l = some ((behM c (w ++ [l]) : Nat) : Int) := by
   rw [behM_snoc hc]; exact after_eq hc hTc (behM_lt hc w) (by omega) hl
  have e2 : refine_frame_after (a, Ta) (kOf c a w).2 l = some ((behM a (w ++ [l]) : Nat) : Int) := by
   rw [behM_snoc ha]; exact after_eq ha hTa (behM_lt ha w) (by omega) hl
  have b1 := lt64 hc (behM_lt hc (w ++ [l]))
  have b2 := lt64 ha (behM_lt ha (w ++ [l]))
  have ki : InK .i64 (l + 1) := by rw [inK_i64]; omega
  have k1 : InK .u8 ((behM c (w ++ [l]) : Nat) : Int) := by rw [inK_u8]; omega
  have k2 : InK .u8 ((behM a (w ++ [l]) : Nat) : Int) := by rw [inK_u8]; omega
  simp only [Int.toNat_natCast, hg, hgb, List.length_map]
  rw [if_pos (by rw [decide_eq_true_eq]; exact hl), ck_pos (by omega), ck_pos (by omega), e1, Option.bind_some, ck_pos (by omega), ck_pos (by omega), e2, Option.bind_some]
  by_cases h0 : behM c (w ++ [l]) = 0
  ·rw [if_pos (by rw [decide_eq_true_eq]; omega), ck_pos ki]
   exact .inl ⟨_, rfl, ⟨b, kn, l + 1, rfl, by omega, by omega, bi_keep hc ha B hw (.inl h0), hib⟩, by simp only; omega⟩
  rw [if_neg (by rw [decide_eq_true_eq]; omega), ck_pos k1, ck_pos k2]
  by_cases hm : mget false kn (((behM c (w ++ [l]) : Nat) : Int), ((behM a (w ++ [l]) : Nat) : Int)) = true
  ·rw [if_pos hm, ck_pos ki]
   exact .inl ⟨_, rfl, ⟨b, kn, l + 1, rfl, by omega, by omega, bi_keep hc ha B hw (.inr ((B.kn _).1 hm)), hib⟩, by simp only; omega⟩
  rw [if_neg hm, ck_pos (by omega), ck_pos (by omega), longer_eq _ _ (by omega), Option.bind_some]
  by_cases h2 : behM a (w ++ [l]) = 0
  ·rw [if_pos (by rw [decide_eq_true_eq]; omega)]
   exact .inr ⟨_, rfl, bi_told hc ha B hw ⟨by omega, hl⟩ h0 h2⟩
  ·rw [if_neg (by rw [decide_eq_true_eq]; omega), ck_pos k1, ck_pos k2, ck_pos (by omega), ck_pos (by omega), ck_pos ki]
   refine .inl ⟨_, rfl, ⟨b ++ [w ++ [l]], mput kn (kOf c a (w ++ [l])) true, l + 1, ?_, by omega, by omega, bi_push hc ha B hw ⟨by omega, hl⟩ h0 h2 (fun h => hm ((B.kn _).2 h)), by rw [List.length_append]; omega⟩, by simp only; omega⟩
   rw [List.map_append]; rfl
 ·have : l = 4 := by omega
  subst this
  rw [if_neg (by simp)]
  exact .inr ⟨_, rfl, b, kn, rfl, B, hib⟩

theorem shows_eq : ∃ r, refine_two_shows ((c, Tc), a, Ta) = some r ∧ ((∃ u, r = (u, true) ∧ Told c a u) ∨ (r = ([], false) ∧ ∀ v : List Int, v.all seenB = true → behM c v ≠ 0 → behM a v ≠ 0)) := by
 have hb : intAt T69 Tc 0 = ((begM c : Nat) : Int) := beg_eq hc hTc
 have hb' : intAt T69 Ta 0 = ((begM a : Nat) : Int) := beg_eq ha hTa
 have B0 : BI c a 0 1 [[]] (mput [] (kOf c a []) true) := by
  have one : ∀ (j : Nat) (v : List Int), [([] : List Int)][j]? = some v → j = 0 ∧ v = [] := fun j v hj => by
   have h0 := (List.getElem?_eq_some_iff.1 hj).1
   rw [List.length_singleton] at h0
   have e : j = 0 := by omega
   subst e
   exact ⟨rfl, (Option.some.inj hj).symm⟩
  refine ⟨fun w hw => ?_, by simp, fun j k v w hj hk _ => ?_, fun v hv w hw => ?_, fun j w hj => ?_, fun j w hj q q1 q3 hq => ?_, rfl, fun p => ?_⟩
  ·rw [List.mem_singleton] at hw
   subst hw
   exact ⟨rfl, beg_ne hc, beg_ne ha⟩
  ·rw [(one j v hj).2, (one k w hk).2]; exact Nat.le_refl _
  ·rw [List.mem_singleton] at hw
   rw [hw]; simp
  ·rw [(one j w hj).2]; simp
  ·have := (one j w hj).1; omega
  ·rw [mget_mput]
   by_cases h : kOf c a [] = p
   ·rw [if_pos h]; simp [h]
   ·rw [if_neg h]
    constructor
    ·intro g; simp [mget] at g
    ·intro g
     simp only [List.map_cons, List.map_nil, List.mem_singleton] at g
     exact absurd g.symm h
 obtain ⟨r, e1, h⟩ := whileO_inv (body := refine_two_shows_b1 ((c, Tc), a, Ta)) (fun s => ∃ b kn, ∃ i : Nat, s = (b.map (kOf c a), b, kn, (i : Int)) ∧ BI c a i 1 b kn ∧ i ≤ b.length) (fun s => 5000 - s.2.2.2.toNat) (fun r => match r with
   | .inl u => Told c a u
   | .inr _ => ∀ v : List Int, v.all seenB = true → behM c v ≠ 0 → behM a v ≠ 0) (fun s hs => by
  obtain ⟨b, kn, i, rfl, B, hi⟩ := hs
  have hfew := bi_few hc ha B
  unfold refine_two_shows_b1
  simp only [List.length_map]
  by_cases hlt : i < b.length
  ·obtain ⟨r, e, h⟩ := shows_in hc ha hTc hTa B hlt
   rw [if_pos (by rw [decide_eq_true_eq]; omega), e, Option.bind_some]
   cases r with
   | inl u => exact .inr ⟨_, rfl, h⟩
   | inr x =>
    obtain ⟨b', kn', rfl, B', hi'⟩ := h
    have ki : InK .i64 ((i : Int) + 1) := by rw [inK_i64]; omega
    simp only
    unfold refine_two_shows_k2
    simp only
    rw [ck_pos ki]
    refine .inl ⟨_, rfl, ⟨b', kn', i + 1, by rfl, ⟨B'.ok, B'.nd, B'.mono, fun v hv w hw => ?_, B'.idx, fun j w hj q q1 q3 hq => B'.cls j w hj q q1 q3 (by omega), B'.beg, B'.kn⟩, by omega⟩, by simp only; omega⟩
    obtain ⟨u, hu⟩ : ∃ u, b'[i]? = some u := ⟨_, List.getElem?_eq_getElem hi'⟩
    have g1 := B'.near u hu w hw
    have g2 := B'.mono i (i + 1) u v hu hv (by omega)
    omega
  ·rw [if_neg (by rw [decide_eq_true_eq]; omega)]
   exact .inr ⟨_, rfl, bi_none hc ha B (by omega)⟩) (([[]] : List (List Int)).map (kOf c a), [[]], mput [] (kOf c a []) true, 0) ⟨[[]], _, 0, rfl, B0, by simp⟩
 have hk : (((begM c : Nat) : Int), ((begM a : Nat) : Int)) = kOf c a [] := rfl
 have b1 := lt64 hc (begM_lt hc)
 have b2 := lt64 ha (begM_lt ha)
 have hu : refine_two_shows ((c, Tc), a, Ta) = (match r with | .inl r1 => some (r1, true) | .inr _ => some ([], false)) := by
  unfold refine_two_shows refine_frame_begin
  rw [Option.bind_some, Option.bind_some]
  simp only [hb, hb']
  have g : ([(((begM c : Nat) : Int), ((begM a : Nat) : Int))] : List (Int × Int)).getD 0 (0, 0) = (((begM c : Nat) : Int), ((begM a : Nat) : Int)) := rfl
  rw [g]
  rw [ck_pos (by rw [inK_u8]; simp only; omega), ck_pos (by rw [inK_u8]; simp only; omega), hk]
  have e1' : whileO (refine_two_shows_b1 ((c, Tc), a, Ta)) ([kOf c a []], [[]], mput [] (kOf c a []) true, 0) = some r := e1
  rw [e1', Option.bind_some]
  cases r <;> rfl
 rw [hu]
 cases r with
 | inl u => exact ⟨_, rfl, .inl ⟨u, rfl, h⟩⟩
 | inr x => exact ⟨_, rfl, .inr ⟨rfl, h⟩⟩

end
end Go.Proofs.Ytifleoceebaooaa
