/-
  Layer 5, pure: the words by their numbers to base four: the first trace that tells is the least one.
-/
import Derived.Test.YtljonmpcehlpaaaS10
namespace Go.Proofs.Ytljonmpcehlpaaa
open Go.RowKit

set_option linter.unusedVariables false
set_option linter.unusedSectionVars false
set_option linter.unusedSimpArgs false

def cod (w : List Int) : Nat := w.foldl (fun n l => 4 * n + l.toNat) 0
theorem cod_snoc (w : List Int) (q : Int) : cod (w ++ [q]) = 4 * cod w + q.toNat := by unfold cod; rw [List.foldl_append]; rfl

theorem seen_snoc {w : List Int} {q : Int} : (w ++ [q]).all seenB = true ↔ w.all seenB = true ∧ 0 < q ∧ q ≤ 3 := by
  rw [List.all_append, Bool.and_eq_true, List.all_cons, List.all_nil, Bool.and_true]
  unfold seenB
  rw [decide_eq_true_eq]

theorem snoc_of {v : List Int} {m : Nat} (hv : v.length = m + 1) : ∃ v' q, v = v' ++ [q] ∧ v'.length = m := by
  have hne : v ≠ [] := fun e => by rw [e] at hv; simp at hv
  exact ⟨v.dropLast, v.getLast hne, (List.dropLast_concat_getLast hne).symm, by rw [List.length_dropLast]; omega⟩

theorem cod_inj : ∀ (m : Nat) (v w : List Int), v.length = m → v.all seenB = true → w.all seenB = true → cod v = cod w → v = w
  | 0, v, w, hv, h1, h2, e => by
    have : v = [] := List.length_eq_zero_iff.1 hv
    subst this
    cases hw : w.length with
    | zero => exact (List.length_eq_zero_iff.1 hw).symm
    | succ k =>
      obtain ⟨w', q, rfl, _⟩ := snoc_of hw
      rw [cod_snoc] at e
      have := (seen_snoc.1 h2).2
      have e0 : cod [] = 0 := rfl
      omega
  | m + 1, v, w, hv, h1, h2, e => by
    obtain ⟨v', p, rfl, hl⟩ := snoc_of hv
    cases hw : w.length with
    | zero =>
      have : w = [] := List.length_eq_zero_iff.1 hw
      subst this
      rw [cod_snoc] at e
      have := (seen_snoc.1 h1).2
      have e0 : cod [] = 0 := rfl
      omega
    | succ k =>
      obtain ⟨w', q, rfl, _⟩ := snoc_of hw
      rw [cod_snoc, cod_snoc] at e
      obtain ⟨g1, g2⟩ := seen_snoc.1 h1
      obtain ⟨g3, g4⟩ := seen_snoc.1 h2
      have e1 : cod v' = cod w' := by omega
      have e2 : p = q := by omega
      rw [cod_inj m v' w' hl g1 g3 e1, e2]

/-- The least one that tells. -/
structure Least (c a : Sys) (u : List Int) : Prop where
  seen : u.all seenB = true
  one : behM c u ≠ 0
  two : behM a u = 0
  least : ∀ v : List Int, v.all seenB = true → behM c v ≠ 0 → behM a v = 0 → cod u ≤ cod v

theorem least_one {c a : Sys} {u v : List Int} (h : Least c a u) (k : Least c a v) : u = v :=
  cod_inj _ u v rfl h.seen k.seen (Nat.le_antisymm (h.least v k.seen k.one k.two) (k.least u h.seen h.one h.two))

structure BC (c a : Sys) (i : Nat) (l : Int) (b : List (List Int)) : Prop where
  ok : ∀ w : List Int, w ∈ b → w.all seenB = true ∧ behM c w ≠ 0 ∧ behM a w ≠ 0
  asc : ∀ (j k : Nat) (v w : List Int), b[j]? = some v → b[k]? = some w → j < k → cod v < cod w
  top : ∀ v : List Int, b[i]? = some v → ∀ w ∈ b, cod w < 4 * cod v + l.toNat
  cls : ∀ (j : Nat) (w : List Int), b[j]? = some w → ∀ q : Int, 0 < q → q ≤ 3 → (j < i ∨ j = i ∧ q < l) → behM c (w ++ [q]) = 0 ∨ ∃ v ∈ b, kOf c a v = kOf c a (w ++ [q]) ∧ cod v ≤ 4 * cod w + q.toNat
  beg : b[0]? = some []

section
variable {c a : Sys} (hc : OkS c) (ha : OkS a)
include hc ha

theorem bc_begin : BC c a 0 1 [[]] := by
  have one : ∀ (j : Nat) (v : List Int), [([] : List Int)][j]? = some v → j = 0 ∧ v = [] := fun j v hj => by
    have h0 := (List.getElem?_eq_some_iff.1 hj).1
    rw [List.length_singleton] at h0
    have e : j = 0 := by omega
    subst e
    exact ⟨rfl, (Option.some.inj hj).symm⟩
  refine ⟨fun w hw => ?_, fun j k v w hj hk hjk => ?_, fun v hv w hw => ?_, fun j w hj q q1 q3 hq => ?_, rfl⟩
  · rw [List.mem_singleton] at hw
    subst hw
    exact ⟨rfl, beg_ne hc, beg_ne ha⟩
  · have := (one j v hj).1; have := (one k w hk).1; omega
  · rw [List.mem_singleton] at hw
    rw [hw, (one 0 v hv).2]
    decide
  · have := (one j w hj).1; omega

omit hc ha in
theorem bc_next {i : Nat} {b : List (List Int)} (B : BC c a i 4 b) (hi : i < b.length) : BC c a (i + 1) 1 b := by
  refine ⟨B.ok, B.asc, fun v hv w hw => ?_, fun j w hj q q1 q3 hq => B.cls j w hj q q1 q3 (by omega), B.beg⟩
  obtain ⟨u, hu⟩ : ∃ u, b[i]? = some u := ⟨_, List.getElem?_eq_getElem hi⟩
  have g1 := B.top u hu w hw
  have g2 := B.asc i (i + 1) u v hu hv (by omega)
  have e4 : (4 : Int).toNat = 4 := rfl
  have e1 : (1 : Int).toNat = 1 := rfl
  omega

theorem bc_keep {i : Nat} {l : Int} {b : List (List Int)} (B : BC c a i l b) (l0 : 0 < l) {w : List Int} (hw : b[i]? = some w) (h : behM c (w ++ [l]) = 0 ∨ kOf c a (w ++ [l]) ∈ b.map (kOf c a)) : BC c a i (l + 1) b := by
  refine ⟨B.ok, B.asc, fun v hv u hu => by have := B.top v hv u hu; omega, fun j v hj q q1 q3 hq => ?_, B.beg⟩
  by_cases hold : j < i ∨ j = i ∧ q < l
  · exact B.cls j v hj q q1 q3 hold
  · have hji : j = i := by omega
    have hql : q = l := by omega
    subst hji hql
    have : v = w := Option.some.inj (hj.symm.trans hw)
    subst this
    rcases h with h | h
    · exact .inl h
    · obtain ⟨u, hu, hk⟩ := List.mem_map.1 h
      exact .inr ⟨u, hu, hk, Nat.le_of_lt (B.top v hw u hu)⟩

theorem bc_push {i : Nat} {l : Int} {b : List (List Int)} (B : BC c a i l b) {w : List Int} (hw : b[i]? = some w) (hl : 0 < l ∧ l ≤ 3) (h1 : behM c (w ++ [l]) ≠ 0) (h2 : behM a (w ++ [l]) ≠ 0) :
    BC c a i (l + 1) (b ++ [w ++ [l]]) := by
  have hi := (List.getElem?_eq_some_iff.1 hw).1
  have hok := B.ok w (List.mem_of_getElem? hw)
  have hcd := cod_snoc w l
  have old : ∀ (j : Nat) (v : List Int), (b ++ [w ++ [l]])[j]? = some v → (j < b.length ∧ b[j]? = some v) ∨ (j = b.length ∧ v = w ++ [l]) := fun j v hj => by
    rw [List.getElem?_append] at hj
    by_cases h : j < b.length
    · rw [if_pos h] at hj; exact .inl ⟨h, hj⟩
    · rw [if_neg h] at hj
      have h0 := (List.getElem?_eq_some_iff.1 hj).1
      rw [List.length_singleton] at h0
      have e : j = b.length := by omega
      subst e
      rw [Nat.sub_self] at hj
      exact .inr ⟨rfl, (Option.some.inj hj).symm⟩
  refine ⟨fun v hv => ?_, fun j k v u hj hk hjk => ?_, fun v hv u hu => ?_, fun j v hj q q1 q3 hq => ?_, ?_⟩
  · rcases List.mem_append.1 hv with hv | hv
    · exact B.ok v hv
    · rw [List.mem_singleton] at hv
      subst hv
      exact ⟨seen_snoc.2 ⟨hok.1, hl⟩, h1, h2⟩
  · rcases old k u hk with ⟨g1, g2⟩ | ⟨g1, g2⟩
    · rcases old j v hj with ⟨f1, f2⟩ | ⟨f1, f2⟩
      · exact B.asc j k v u f2 g2 hjk
      · omega
    · rcases old j v hj with ⟨f1, f2⟩ | ⟨f1, f2⟩
      · rw [g2, hcd]
        exact B.top w hw v (List.mem_of_getElem? f2)
      · omega
  · have : v = w := by
      rcases old i v hv with ⟨f1, f2⟩ | ⟨f1, f2⟩
      · exact Option.some.inj (f2.symm.trans hw)
      · omega
    subst this
    rcases List.mem_append.1 hu with hu | hu
    · have := B.top v hw u hu; omega
    · rw [List.mem_singleton] at hu
      rw [hu, hcd]; omega
  · rcases old j v hj with ⟨f1, f2⟩ | ⟨f1, f2⟩
    · by_cases hold : j < i ∨ j = i ∧ q < l
      · rcases B.cls j v f2 q q1 q3 hold with h | ⟨x, hx, h⟩
        · exact .inl h
        · exact .inr ⟨x, List.mem_append_left _ hx, h⟩
      · have hji : j = i := by omega
        have hql : q = l := by omega
        subst hji hql
        have : v = w := Option.some.inj (f2.symm.trans hw)
        subst this
        exact .inr ⟨v ++ [q], List.mem_append_right _ (by simp), rfl, by rw [hcd]; exact Nat.le_refl _⟩
    · omega
  · rw [List.getElem?_append_left (by omega)]; exact B.beg

theorem bc_reach {i : Nat} {l : Int} {b : List (List Int)} (B : BC c a i l b) (n : Nat) (hn : ∀ (j : Nat) (u : List Int), b[j]? = some u → cod u < n → j < i) :
    ∀ (m : Nat) (v : List Int), v.length = m → cod v ≤ n → v.all seenB = true → behM c v = 0 ∨ ∃ u ∈ b, kOf c a u = kOf c a v ∧ cod u ≤ cod v
  | 0, v, hv, _, _ => by
    have : v = [] := List.length_eq_zero_iff.1 hv
    subst this
    exact .inr ⟨[], List.mem_of_getElem? B.beg, rfl, Nat.le_refl _⟩
  | m + 1, v, hv, hm, hs => by
    obtain ⟨v', q, rfl, hl⟩ := snoc_of hv
    obtain ⟨hs1, hq⟩ := seen_snoc.1 hs
    rw [cod_snoc] at hm
    rcases bc_reach B n hn m v' hl (by omega) hs1 with h | ⟨u, hu, hk, hcu⟩
    · left
      rw [behM_snoc hc, h, coM_zero hc]
    · obtain ⟨j, hj⟩ := List.getElem?_of_mem hu
      have hji := hn j u hj (by omega)
      have ek := kOf_snoc hc ha hk q
      rcases B.cls j u hj q hq.1 hq.2 (.inl hji) with h | ⟨x, hx, hkx, hlx⟩
      · left
        have := (Prod.mk.inj ek).1
        omega
      · exact .inr ⟨x, hx, hkx.trans ek, by rw [cod_snoc]; omega⟩

theorem bc_none {i : Nat} {l : Int} {b : List (List Int)} (B : BC c a i l b) (h : i = b.length) (v : List Int) (hs : v.all seenB = true) (h1 : behM c v ≠ 0) : behM a v ≠ 0 := by
  rcases bc_reach hc ha B (cod v) (fun j u hj _ => by have := (List.getElem?_eq_some_iff.1 hj).1; omega) _ v rfl (Nat.le_refl _) hs with g | ⟨u, hu, hk, _⟩
  · exact absurd g h1
  · have := (B.ok u hu).2.2
    have := (Prod.mk.inj hk).2
    omega

theorem bc_least {i : Nat} {l : Int} {b : List (List Int)} (B : BC c a i l b) {w : List Int} (hw : b[i]? = some w) (hl : 0 < l ∧ l ≤ 3) (h1 : behM c (w ++ [l]) ≠ 0) (h2 : behM a (w ++ [l]) = 0) : Least c a (w ++ [l]) := by
  have hok := B.ok w (List.mem_of_getElem? hw)
  refine ⟨seen_snoc.2 ⟨hok.1, hl⟩, h1, h2, ?_⟩
  have key : ∀ (m : Nat) (v : List Int), v.length = m → v.all seenB = true → behM c v ≠ 0 → behM a v = 0 → cod (w ++ [l]) ≤ cod v := by
    intro m
    induction m with
    | zero =>
      intro v hv _ _ g2
      have : v = [] := List.length_eq_zero_iff.1 hv
      subst this
      exact absurd g2 (beg_ne ha)
    | succ m ih =>
      intro v hv hs g1 g2
      obtain ⟨v', q, rfl, hl'⟩ := snoc_of hv
      obtain ⟨hs1, hq⟩ := seen_snoc.1 hs
      have hv1 : behM c v' ≠ 0 := fun h => g1 (by rw [behM_snoc hc, h, coM_zero hc])
      rw [cod_snoc v' q]
      by_cases hv2 : behM a v' = 0
      · have := ih v' hl' hs1 hv1 hv2
        omega
      · refine Nat.le_of_not_lt fun hlt => ?_
        rw [cod_snoc] at hlt
        rcases bc_reach hc ha B (cod w) (fun j u hj hu => Nat.lt_of_not_le fun hij => by
          rcases Nat.lt_or_eq_of_le hij with h | h
          · have := B.asc i j w u hw hj h; omega
          · subst h
            have : w = u := Option.some.inj (hw.symm.trans hj)
            rw [this] at hu; omega) _ v' rfl (by omega) hs1 with g | ⟨u, hu, hk, hcu⟩
        · exact hv1 g
        · obtain ⟨j, hj⟩ := List.getElem?_of_mem hu
          have hji : j < i ∨ j = i := by
            rcases Nat.lt_trichotomy j i with h | h | h
            · exact .inl h
            · exact .inr h
            · have := B.asc i j w u hw hj h; omega
          have hjq : j < i ∨ j = i ∧ q < l := by
            rcases hji with h | h
            · exact .inl h
            · refine .inr ⟨h, ?_⟩
              subst h
              have : w = u := Option.some.inj (hw.symm.trans hj)
              rw [this] at hlt
              omega
          have ek := kOf_snoc hc ha hk q
          rcases B.cls j u hj q hq.1 hq.2 hjq with h | ⟨x, hx, hkx, _⟩
          · have := (Prod.mk.inj ek).1; omega
          · have := (B.ok x hx).2.2
            have := (Prod.mk.inj (hkx.trans ek)).2
            omega
  exact fun v hs g1 g2 => key _ v rfl hs g1 g2

/-! ### The program -/

def BJ (c a : Sys) (i : Nat) (l : Int) (b : List (List Int)) (kn : List ((Int × Int) × Bool)) : Prop := BI c a i l b kn ∧ BC c a i l b

theorem bj_few {i : Nat} {l : Int} {b : List (List Int)} {kn : List ((Int × Int) × Bool)} (B : BJ c a i l b kn) : b.length ≤ 4096 := bi_few hc ha B.1
theorem bj_none {i : Nat} {l : Int} {b : List (List Int)} {kn : List ((Int × Int) × Bool)} (B : BJ c a i l b kn) (h : i = b.length) (v : List Int) (hs : v.all seenB = true) (h1 : behM c v ≠ 0) : behM a v ≠ 0 := bi_none hc ha B.1 h v hs h1
theorem bj_told {i : Nat} {l : Int} {b : List (List Int)} {kn : List ((Int × Int) × Bool)} (B : BJ c a i l b kn) {w : List Int} (hw : b[i]? = some w) (hl : 0 < l ∧ l ≤ 3) (h1 : behM c (w ++ [l]) ≠ 0) (h2 : behM a (w ++ [l]) = 0) : Least c a (w ++ [l]) := bc_least hc ha B.2 hw hl h1 h2
theorem bj_keep {i : Nat} {l : Int} {b : List (List Int)} {kn : List ((Int × Int) × Bool)} (B : BJ c a i l b kn) (l0 : 0 < l) {w : List Int} (hw : b[i]? = some w) (h : behM c (w ++ [l]) = 0 ∨ kOf c a (w ++ [l]) ∈ b.map (kOf c a)) : BJ c a i (l + 1) b kn := ⟨bi_keep hc ha B.1 hw h, bc_keep hc ha B.2 l0 hw h⟩
theorem bj_push {i : Nat} {l : Int} {b : List (List Int)} {kn : List ((Int × Int) × Bool)} (B : BJ c a i l b kn) {w : List Int} (hw : b[i]? = some w) (hl : 0 < l ∧ l ≤ 3) (h1 : behM c (w ++ [l]) ≠ 0) (h2 : behM a (w ++ [l]) ≠ 0) (hn : kOf c a (w ++ [l]) ∉ b.map (kOf c a)) :
    BJ c a i (l + 1) (b ++ [w ++ [l]]) (mput kn (kOf c a (w ++ [l])) true) := ⟨bi_push hc ha B.1 hw hl h1 h2 hn, bc_push hc ha B.2 hw hl h1 h2⟩

variable {Tc Ta : El T69} (hTc : Frm c Tc) (hTa : Frm a Ta)
include hTc hTa

theorem shows_in2 {i : Nat} {b0 : List (List Int)} {kn0 : List ((Int × Int) × Bool)} (B0 : BJ c a i 1 b0 kn0) (hi : i < b0.length) :
    ∃ r, whileO (refine_two_shows_b2 ((c, Tc), a, Ta) (b0.map (kOf c a), b0, kn0, (i : Int))) (b0.map (kOf c a), b0, kn0, 1) = some r ∧ (match r with
      | .inl u => Least c a u
      | .inr x => ∃ b kn, x = (b.map (kOf c a), b, kn) ∧ BJ c a i 4 b kn ∧ i < b.length) := by
  refine whileO_inv (body := refine_two_shows_b2 ((c, Tc), a, Ta) (b0.map (kOf c a), b0, kn0, (i : Int))) (fun s => ∃ b kn, ∃ l : Int, s = (b.map (kOf c a), b, kn, l) ∧ 1 ≤ l ∧ l ≤ 4 ∧ BJ c a i l b kn ∧ i < b.length) (fun s => (4 - s.2.2.2).toNat) (fun r => match r with
      | .inl u => Least c a u
      | .inr x => ∃ b kn, x = (b.map (kOf c a), b, kn) ∧ BJ c a i 4 b kn ∧ i < b.length) (fun s hs => ?_) _ ⟨b0, kn0, 1, rfl, by omega, by omega, B0, hi⟩
  obtain ⟨b, kn, l, rfl, l1, l4, B, hib⟩ := hs
  unfold refine_two_shows_b2
  simp only
  by_cases hl : l ≤ 3
  · obtain ⟨w, hw⟩ : ∃ w, b[i]? = some w := ⟨_, List.getElem?_eq_getElem hib⟩
    have hg : (b.map (kOf c a)).getD i (0, 0) = kOf c a w := getD_of (by rw [List.getElem?_map, hw]; rfl)
    have hgb : b.getD i [] = w := getD_of hw
    have hfew := bj_few hc ha B
    have hix := B.1.idx i w hw
    have e1 : refine_frame_after (c, Tc) (kOf c a w).1 l = some ((behM c (w ++ [l]) : Nat) : Int) := by
      rw [behM_snoc hc]; exact after_eq hc hTc (behM_lt hc w) (by omega) hl
    have e2 : refine_frame_after (a, Ta) (kOf c a w).2 l = some ((behM a (w ++ [l]) : Nat) : Int) := by
      rw [behM_snoc ha]; exact after_eq ha hTa (behM_lt ha w) (by omega) hl
    have b1 := lt64 hc (behM_lt hc (w ++ [l]))
    have b2 := lt64 ha (behM_lt ha (w ++ [l]))
    have ki : InK .i64 (l + 1) := by rw [inK_i64]; omega
    have k1 : InK .u8 ((behM c (w ++ [l]) : Nat) : Int) := by rw [inK_u8]; omega
    have k2 : InK .u8 ((behM a (w ++ [l]) : Nat) : Int) := by rw [inK_u8]; omega
    simp only [Int.toNat_natCast, hg, hgb, List.length_map]
    rw [if_pos (by rw [decide_eq_true_eq]; exact hl), ck_pos (by omega), ck_pos (by omega), e1, Option.bind_some, ck_pos (by omega), ck_pos (by omega), e2, Option.bind_some]
    by_cases h0 : behM c (w ++ [l]) = 0
    · rw [if_pos (by rw [decide_eq_true_eq]; omega), ck_pos ki]
      exact .inl ⟨_, rfl, ⟨b, kn, l + 1, rfl, by omega, by omega, bj_keep hc ha B (by omega) hw (.inl h0), hib⟩, by simp only; omega⟩
    rw [if_neg (by rw [decide_eq_true_eq]; omega), ck_pos k1, ck_pos k2]
    by_cases hm : mget false kn (((behM c (w ++ [l]) : Nat) : Int), ((behM a (w ++ [l]) : Nat) : Int)) = true
    · rw [if_pos hm, ck_pos ki]
      exact .inl ⟨_, rfl, ⟨b, kn, l + 1, rfl, by omega, by omega, bj_keep hc ha B (by omega) hw (.inr ((B.1.kn _).1 hm)), hib⟩, by simp only; omega⟩
    rw [if_neg hm, ck_pos (by omega), ck_pos (by omega), longer_eq _ _ (by omega), Option.bind_some]
    by_cases h2 : behM a (w ++ [l]) = 0
    · rw [if_pos (by rw [decide_eq_true_eq]; omega)]
      exact .inr ⟨_, rfl, bj_told hc ha B hw ⟨by omega, hl⟩ h0 h2⟩
    · rw [if_neg (by rw [decide_eq_true_eq]; omega), ck_pos k1, ck_pos k2, ck_pos (by omega), ck_pos (by omega), ck_pos ki]
      refine .inl ⟨_, rfl, ⟨b ++ [w ++ [l]], mput kn (kOf c a (w ++ [l])) true, l + 1, ?_, by omega, by omega, bj_push hc ha B hw ⟨by omega, hl⟩ h0 h2 (fun h => hm ((B.1.kn _).2 h)), by rw [List.length_append]; omega⟩, by simp only; omega⟩
      rw [List.map_append]; rfl
  · have : l = 4 := by omega
    subst this
    rw [if_neg (by simp)]
    exact .inr ⟨_, rfl, b, kn, rfl, B, hib⟩

theorem shows_eq2 : ∃ r, refine_two_shows ((c, Tc), a, Ta) = some r ∧ ((∃ u, r = (u, true) ∧ Least c a u) ∨ (r = ([], false) ∧ ∀ v : List Int, v.all seenB = true → behM c v ≠ 0 → behM a v ≠ 0)) := by
  have hb : intAt T69 Tc 0 = ((begM c : Nat) : Int) := beg_eq hc hTc
  have hb' : intAt T69 Ta 0 = ((begM a : Nat) : Int) := beg_eq ha hTa
  have B0 : BJ c a 0 1 [[]] (mput [] (kOf c a []) true) := by
    refine ⟨?_, bc_begin hc ha⟩
    have one : ∀ (j : Nat) (v : List Int), [([] : List Int)][j]? = some v → j = 0 ∧ v = [] := fun j v hj => by
      have h0 := (List.getElem?_eq_some_iff.1 hj).1
      rw [List.length_singleton] at h0
      have e : j = 0 := by omega
      subst e
      exact ⟨rfl, (Option.some.inj hj).symm⟩
    refine ⟨fun w hw => ?_, by simp, fun j k v w hj hk _ => ?_, fun v hv w hw => ?_, fun j w hj => ?_, fun j w hj q q1 q3 hq => ?_, rfl, fun p => ?_⟩
    · rw [List.mem_singleton] at hw
      subst hw
      exact ⟨rfl, beg_ne hc, beg_ne ha⟩
    · rw [(one j v hj).2, (one k w hk).2]; exact Nat.le_refl _
    · rw [List.mem_singleton] at hw
      rw [hw]; simp
    · rw [(one j w hj).2]; simp
    · have := (one j w hj).1; omega
    · rw [mget_mput]
      by_cases h : kOf c a [] = p
      · rw [if_pos h]; simp [h]
      · rw [if_neg h]
        constructor
        · intro g; simp [mget] at g
        · intro g
          simp only [List.map_cons, List.map_nil, List.mem_singleton] at g
          exact absurd g.symm h
  obtain ⟨r, e1, h⟩ := whileO_inv (body := refine_two_shows_b1 ((c, Tc), a, Ta)) (fun s => ∃ b kn, ∃ i : Nat, s = (b.map (kOf c a), b, kn, (i : Int)) ∧ BJ c a i 1 b kn ∧ i ≤ b.length) (fun s => 5000 - s.2.2.2.toNat) (fun r => match r with
      | .inl u => Least c a u
      | .inr _ => ∀ v : List Int, v.all seenB = true → behM c v ≠ 0 → behM a v ≠ 0) (fun s hs => by
    obtain ⟨b, kn, i, rfl, B, hi⟩ := hs
    have hfew := bj_few hc ha B
    unfold refine_two_shows_b1
    simp only [List.length_map]
    by_cases hlt : i < b.length
    · obtain ⟨r, e, h⟩ := shows_in2 hc ha hTc hTa B hlt
      rw [if_pos (by rw [decide_eq_true_eq]; omega), e, Option.bind_some]
      cases r with
      | inl u => exact .inr ⟨_, rfl, h⟩
      | inr x =>
        obtain ⟨b', kn', rfl, B', hi'⟩ := h
        have ki : InK .i64 ((i : Int) + 1) := by rw [inK_i64]; omega
        simp only
        unfold refine_two_shows_k2
        simp only
        rw [ck_pos ki]
        refine .inl ⟨_, rfl, ⟨b', kn', i + 1, by rfl, ⟨⟨B'.1.ok, B'.1.nd, B'.1.mono, fun v hv w hw => ?_, B'.1.idx, fun j w hj q q1 q3 hq => B'.1.cls j w hj q q1 q3 (by omega), B'.1.beg, B'.1.kn⟩, bc_next B'.2 hi'⟩, by omega⟩, by simp only; omega⟩
        obtain ⟨u, hu⟩ : ∃ u, b'[i]? = some u := ⟨_, List.getElem?_eq_getElem hi'⟩
        have g1 := B'.1.near u hu w hw
        have g2 := B'.1.mono i (i + 1) u v hu hv (by omega)
        omega
    · rw [if_neg (by rw [decide_eq_true_eq]; omega)]
      exact .inr ⟨_, rfl, bj_none hc ha B (by omega)⟩) (([[]] : List (List Int)).map (kOf c a), [[]], mput [] (kOf c a []) true, 0) ⟨[[]], _, 0, rfl, B0, by simp⟩
  have hk : (((begM c : Nat) : Int), ((begM a : Nat) : Int)) = kOf c a [] := rfl
  have b1 := lt64 hc (begM_lt hc)
  have b2 := lt64 ha (begM_lt ha)
  have hu : refine_two_shows ((c, Tc), a, Ta) = (match r with | .inl r1 => some (r1, true) | .inr _ => some ([], false)) := by
    unfold refine_two_shows refine_frame_begin
    rw [Option.bind_some, Option.bind_some]
    simp only [hb, hb']
    have g : ([(((begM c : Nat) : Int), ((begM a : Nat) : Int))] : List (Int × Int)).getD 0 (0, 0) = (((begM c : Nat) : Int), ((begM a : Nat) : Int)) := rfl
    rw [g]
    rw [ck_pos (by rw [inK_u8]; simp only; omega), ck_pos (by rw [inK_u8]; simp only; omega), hk]
    have e1' : whileO (refine_two_shows_b1 ((c, Tc), a, Ta)) ([kOf c a []], [[]], mput [] (kOf c a []) true, 0) = some r := e1
    rw [e1', Option.bind_some]
    cases r <;> rfl
  rw [hu]
  cases r with
  | inl u => exact ⟨_, rfl, .inl ⟨u, rfl, h⟩⟩
  | inr x => exact ⟨_, rfl, .inr ⟨rfl, h⟩⟩

end
end Go.Proofs.Ytljonmpcehlpaaa
