/-
  DelayLess: with one access less no circle comes about.
-/
import Derived.Test.YtdicomoggfhbfaaD6
import Derived.Test.YtdicomoggfhbfaaD5
namespace Go.Proofs.Ytdicomoggfhbfaa
open Go.RowKit

set_option linter.unusedVariables false
set_option linter.unusedSimpArgs false

theorem sumL_append {α : Type} (a b : List α) (f : α → Nat) : sumL (a ++ b) f = sumL a f + sumL b f := by simp [sumL]
theorem sumL_flat {α β : Type} (l : List α) (g : α → List β) (f : β → Nat) : sumL (l.flatMap g) f = sumL l (fun a => sumL (g a) f) := by
  induction l with
  | nil => rfl
  | cons a l ih => rw [List.flatMap_cons, sumL_append, ih, sumL_cons]
theorem sumL_erase {α : Type} [BEq α] [LawfulBEq α] {m : List α} {a : α} (h : a ∈ m) (f : α → Nat) : sumL m f = f a + sumL (m.erase a) f := by
  rw [sumL_perm (List.perm_cons_erase h) f, sumL_cons]
theorem sumL_sub {α : Type} [BEq α] [LawfulBEq α] {f : α → Nat} : ∀ {l m : List α}, l.Nodup → (∀ a ∈ l, a ∈ m) → sumL l f ≤ sumL m f
  | [], m, _, _ => Nat.zero_le _
  | a :: l, m, hn, hs => by
    have hn' := List.nodup_cons.1 hn
    have ih := sumL_sub (f := f) (l := l) (m := m.erase a) hn'.2 (fun b hb => by
      have hne : b ≠ a := fun e => hn'.1 (e ▸ hb)
      exact (List.mem_erase_of_ne hne).2 (hs b (by simp [hb])))
    rw [sumL_cons, sumL_erase (hs a (by simp)) f]
    omega

/-- Sums over what is carried over one by one. -/
theorem sumL_inj {α β : Type} [BEq β] [LawfulBEq β] {l : List α} {m : List β} (ι : α → β) (hn : (l.map ι).Nodup) (hs : ∀ a ∈ l, ι a ∈ m) (f : β → Nat) : sumL l (fun a => f (ι a)) ≤ sumL m f := by
  rw [← sumL_map l ι f]
  exact sumL_sub hn fun b hb => by obtain ⟨a, ha, rfl⟩ := List.mem_map.1 hb; exact hs a ha

theorem map_nodup {α β : Type} {l : List α} {ι : α → β} (hn : l.Nodup) (hi : ∀ a ∈ l, ∀ b ∈ l, ι a = ι b → a = b) : (l.map ι).Nodup := by
  unfold List.Nodup at *
  rw [List.pairwise_map]
  exact List.Pairwise.imp_of_mem (fun {a b} ha hb h e => h (hi a ha b hb e)) hn

theorem stas_nodup (x : Acs) : (stas x).Nodup := by
  unfold stas List.Nodup
  rw [List.pairwise_flatMap]
  refine ⟨fun t _ => ?_, ?_⟩
  · rw [List.pairwise_flatMap]
    refine ⟨fun a _ => ?_, ?_⟩
    · rw [List.pairwise_flatMap]
      refine ⟨fun b _ => by split <;> simp, ?_⟩
      refine List.pairwise_lt_range.imp fun {b b'} h u hu v hv e => ?_
      split at hu
      · split at hv
        · simp only [List.mem_singleton] at hu hv
          rw [hu, hv] at e
          simp at e; omega
        · simp at hv
      · simp at hu
    · refine List.pairwise_lt_range.imp fun {a a'} h u hu v hv e => ?_
      obtain ⟨b, _, hu⟩ := List.mem_flatMap.1 hu
      obtain ⟨b', _, hv⟩ := List.mem_flatMap.1 hv
      split at hu
      · split at hv
        · simp only [List.mem_singleton] at hu hv
          rw [hu, hv] at e
          simp at e; omega
        · simp at hv
      · simp at hu
  · refine List.pairwise_lt_range.imp fun {t t'} h u hu v hv e => ?_
    obtain ⟨a, _, hu⟩ := List.mem_flatMap.1 hu
    obtain ⟨b, _, hu⟩ := List.mem_flatMap.1 hu
    obtain ⟨a', _, hv⟩ := List.mem_flatMap.1 hv
    obtain ⟨b', _, hv⟩ := List.mem_flatMap.1 hv
    split at hu
    · split at hv
      · simp only [List.mem_singleton] at hu hv
        rw [hu, hv] at e
        simp at e; omega
      · simp at hv
    · simp at hu

/-- Circles that are carried over. -/
theorem nC_le {x y : Acs} (ι : Sta → Sta) (hi : ∀ a ∈ stas y, ∀ b ∈ stas y, ι a = ι b → a = b) (hs : ∀ a ∈ stas y, isSt x (ι a) = true)
    (h2 : ∀ r ∈ stas y, ∀ s ∈ stas y, c2 x (ι r) (ι s) = c2 y r s) (h3 : ∀ r ∈ stas y, ∀ s ∈ stas y, ∀ q ∈ stas y, c3 x (ι r) (ι s) (ι q) = c3 y r s q) : nC y ≤ nC x := by
  have hn := map_nodup (stas_nodup y) hi
  have hm : ∀ a ∈ stas y, ι a ∈ stas x := fun a ha => mem_stas.2 (hs a ha)
  have inj : ∀ f : Sta → Nat, sumL (stas y) (fun a => f (ι a)) ≤ sumL (stas x) f := sumL_inj ι hn hm
  unfold nC
  refine Nat.add_le_add ?_ ?_
  · refine Nat.le_trans (Nat.le_of_eq (sumL_congr (g := fun r => sumL (stas y) fun s => (c2 x (ι r) (ι s)).toNat) fun r hr => sumL_congr fun s hs => by rw [h2 r hr s hs])) ?_
    refine Nat.le_trans (sumL_mono (g := fun r => sumL (stas x) fun s => (c2 x (ι r) s).toNat) fun r _ => inj fun s => (c2 x (ι r) s).toNat) ?_
    exact inj fun r => sumL (stas x) fun s => (c2 x r s).toNat
  · refine Nat.le_trans (Nat.le_of_eq (sumL_congr (g := fun r => sumL (stas y) fun s => sumL (stas y) fun q => (c3 x (ι r) (ι s) (ι q)).toNat) fun r hr => sumL_congr fun s hs => sumL_congr fun q hq => by rw [h3 r hr s hs q hq])) ?_
    refine Nat.le_trans (sumL_mono (g := fun r => sumL (stas x) fun s => sumL (stas x) fun q => (c3 x (ι r) s q).toNat) fun r _ => ?_) ?_
    · refine Nat.le_trans (sumL_mono (g := fun s => sumL (stas x) fun q => (c3 x (ι r) (ι s) q).toNat) fun s _ => inj fun q => (c3 x (ι r) (ι s) q).toNat) ?_
      exact inj fun s => sumL (stas x) fun q => (c3 x (ι r) s q).toNat
    · exact inj fun r => sumL (stas x) fun s => sumL (stas x) fun q => (c3 x r s q).toNat

/-! ### Conflicts, as a sum over accesses -/
def accs (x : Acs) : List (Nat × Nat) := (List.range x.length).flatMap fun t => (List.range (x.getD t []).length).map fun a => (t, a)
theorem mem_accs {x : Acs} {p : Nat × Nat} : p ∈ accs x ↔ p.1 < x.length ∧ p.2 < (x.getD p.1 []).length := by
  unfold accs
  simp only [List.mem_flatMap, List.mem_range, List.mem_map]
  constructor
  · rintro ⟨t, ht, a, ha, rfl⟩; exact ⟨ht, ha⟩
  · rintro ⟨h1, h2⟩; exact ⟨p.1, h1, p.2, h2, rfl⟩
theorem accs_nodup (x : Acs) : (accs x).Nodup := by
  unfold accs List.Nodup
  rw [List.pairwise_flatMap]
  refine ⟨fun t _ => map_nodup List.nodup_range fun a _ b _ h => by injection h, ?_⟩
  refine List.pairwise_lt_range.imp fun {t t'} h u hu v hv e => ?_
  obtain ⟨a, _, rfl⟩ := List.mem_map.1 hu
  obtain ⟨a', _, rfl⟩ := List.mem_map.1 hv
  injection e with e _
  omega
theorem sumN_cut {t n : Nat} (h : t ≤ n) (F : Nat → Nat) : sumN t F = sumN n (fun u => if u < t then F u else 0) := by
  induction n with
  | zero =>
    have : t = 0 := by omega
    subst this; rfl
  | succ n ih =>
    rw [sumN_succ]
    rcases Nat.lt_or_ge n t with h1 | h1
    · have : t = n + 1 := by omega
      subst this
      rw [sumN_succ, if_pos (by omega)]
      congr 1
      exact sumN_congr fun k hk => (if_pos (by omega)).symm
    · rw [← ih h1, if_neg (by omega)]; rfl
def cfl (x : Acs) (p q : Nat × Nat) : Nat := if q.1 < p.1 then (conf x (p.1 : Int) (p.2 : Int) (q.1 : Int) (q.2 : Int)).toNat else 0
theorem nConf_sum (x : Acs) : nConf x = sumL (accs x) fun p => sumL (accs x) fun q => cfl x p q := by
  unfold nConf accs
  rw [sumL_flat]
  refine sumL_congr fun t ht => ?_
  rw [sumL_map]
  refine sumL_congr fun a _ => ?_
  rw [sumL_flat]
  have ht := List.mem_range.1 ht
  rw [sumN_cut (Nat.le_of_lt ht)]
  refine sumL_congr fun u _ => ?_
  rw [sumL_map]
  unfold cfl
  simp only
  by_cases h : u < t
  · rw [if_pos h]
    exact sumL_congr fun b _ => (if_pos h).symm
  · rw [if_neg h]
    rw [sumL_congr (g := fun _ => 0) fun b _ => if_neg h, sumL_zero]
theorem nConf_le {x y : Acs} (ι : Nat × Nat → Nat × Nat) (hi : ∀ a ∈ accs y, ∀ b ∈ accs y, ι a = ι b → a = b) (hs : ∀ a ∈ accs y, ι a ∈ accs x) (h : ∀ p ∈ accs y, ∀ q ∈ accs y, cfl x (ι p) (ι q) = cfl y p q) : nConf y ≤ nConf x := by
  have hn := map_nodup (accs_nodup y) hi
  have inj : ∀ f : Nat × Nat → Nat, sumL (accs y) (fun a => f (ι a)) ≤ sumL (accs x) f := sumL_inj ι hn hs
  rw [nConf_sum, nConf_sum]
  refine Nat.le_trans (Nat.le_of_eq (sumL_congr (g := fun p => sumL (accs y) fun q => cfl x (ι p) (ι q)) fun p hp => sumL_congr fun q hq => by rw [h p hp q hq])) ?_
  refine Nat.le_trans (sumL_mono (g := fun p => sumL (accs x) fun q => cfl x (ι p) q) fun p _ => inj fun q => cfl x (ι p) q) ?_
  exact inj fun p => sumL (accs x) fun q => cfl x p q

/-! ### Without an access -/
theorem flat_one {α β : Type} (f : α → β) : ∀ l : List α, (l.flatMap fun k => [f k]) = l.map f
  | [] => rfl
  | a :: l => by rw [List.flatMap_cons, flat_one f l]; rfl
def lessA (x : Acs) (t a : Nat) : Acs := (List.range x.length).map fun k => if k = t then (x.getD k []).take a ++ (x.getD k []).drop (a + 1) else x.getD k []
def upA (t a : Nat) (u b : Nat) : Nat := if u = t ∧ a ≤ b then b + 1 else b

theorem less_len (x : Acs) (t a : Nat) : (lessA x t a).length = x.length := by unfold lessA; simp
theorem less_row {x : Acs} {t a k : Nat} (hk : k < x.length) : (lessA x t a).getD k [] = if k = t then (x.getD k []).take a ++ (x.getD k []).drop (a + 1) else x.getD k [] := by
  unfold lessA
  rw [List.getD_eq_getElem?_getD, List.getElem?_map, List.getElem?_range hk]; rfl
theorem less_rowlen {x : Acs} {t a k : Nat} (hk : k < x.length) (ha : a < (x.getD t []).length) : ((lessA x t a).getD k []).length = if k = t then (x.getD k []).length - 1 else (x.getD k []).length := by
  rw [less_row hk]
  by_cases e : k = t
  · subst e; rw [if_pos rfl, if_pos rfl, List.length_append, List.length_take, List.length_drop]; omega
  · rw [if_neg e, if_neg e]
theorem less_cel {x : Acs} {t a k b : Nat} (hk : k < x.length) (ha : a < (x.getD t []).length) : ((lessA x t a).getD k []).getD b (0, false) = (x.getD k []).getD (upA t a k b) (0, false) := by
  rw [less_row hk]
  unfold upA
  by_cases e : k = t
  · subst e
    rw [if_pos rfl]
    generalize x.getD k [] = r at ha ⊢
    rw [List.getD_eq_getElem?_getD, List.getD_eq_getElem?_getD]
    by_cases h : a ≤ b
    · rw [if_pos ⟨rfl, h⟩, List.getElem?_append_right (by rw [List.length_take]; omega), List.length_take, List.getElem?_drop]
      congr 2; omega
    · rw [if_neg fun c => h c.2, List.getElem?_append_left (by rw [List.length_take]; omega), List.getElem?_take, if_pos (by omega)]
  · rw [if_neg e, if_neg fun c => e c.1]

theorem less_vld {x : Acs} {t a : Nat} (hv : vld x = true) (ht : t < x.length) (ha : a < (x.getD t []).length) : vld (lessA x t a) = true := by
  have hlen := vld_len hv
  have h0 := hv
  unfold vld at h0 ⊢
  simp only [Bool.and_eq_true, decide_eq_true_eq, List.all_eq_true] at h0 ⊢
  refine ⟨by rw [less_len]; exact h0.1, fun l hl => ?_⟩
  obtain ⟨k, hk, rfl⟩ := List.getElem_of_mem hl
  rw [less_len] at hk
  have hr : (lessA x t a)[k] = (lessA x t a).getD k [] := (getD_of (List.getElem?_eq_getElem (by rw [less_len]; exact hk))).symm
  rw [hr, less_row hk]
  have hx : okTh (x.getD k []) = true := h0.2 _ (getD_in hk)
  by_cases e : k = t
  · rw [if_pos e]
    unfold okTh at hx ⊢
    simp only [Bool.and_eq_true, decide_eq_true_eq, List.all_eq_true] at hx ⊢
    refine ⟨by rw [List.length_append, List.length_take, List.length_drop]; omega, fun b hb => ?_⟩
    rcases List.mem_append.1 hb with hb | hb
    · exact hx.2 b (List.mem_of_mem_take hb)
    · exact hx.2 b (List.mem_of_mem_drop hb)
  · rw [if_neg e]; exact hx

/-- Where an access stands with the one that is gone. -/
def upI (t a : Nat) (u b : Int) : Int := (upA t a u.toNat b.toNat : Nat)
def upS (t a : Nat) (s : Sta) : Sta := (s.1, upI t a s.1 s.2.1, upI t a s.1 s.2.2)

theorem upI_lt {t a : Nat} {u b c : Int} (hb : 0 ≤ b) (hc : 0 ≤ c) : (upI t a u b < upI t a u c ↔ b < c) ∧ (upI t a u b = upI t a u c ↔ b = c) := by
  unfold upI upA
  split <;> split <;> omega

section
variable {x : Acs} {t a : Nat} (ht : t < x.length) (ha : a < (x.getD t []).length)
include ht ha

theorem up_has {u b : Int} (h : hasA (lessA x t a) u b = true) : hasA x u (upI t a u b) = true ∧ celA (lessA x t a) u b = celA x u (upI t a u b) := by
  obtain ⟨h1, h2, h3, h4⟩ := hasA_iff.1 h
  rw [less_len] at h2
  have hk : u.toNat < x.length := by omega
  rw [less_rowlen hk ha] at h4
  unfold upI
  refine ⟨hasA_iff.2 ⟨h1, h2, by omega, ?_⟩, ?_⟩
  · unfold upA
    split at h4
    · rename_i e
      split <;> omega
    · rename_i e
      rw [if_neg fun c => e c.1]; omega
  · unfold celA
    rw [less_cel hk ha, Int.toNat_natCast]

theorem up_conf {u b v c : Int} (h : hasA (lessA x t a) u b = true) (k : hasA (lessA x t a) v c = true) : conf x u (upI t a u b) v (upI t a v c) = conf (lessA x t a) u b v c := by
  unfold conf
  rw [(up_has ht ha h).2, (up_has ht ha k).2]

theorem up_pr {s : Sta} (h1 : hasA (lessA x t a) s.1 s.2.1 = true) (h2 : hasA (lessA x t a) s.1 s.2.2 = true) : isPr x (upS t a s) = isPr (lessA x t a) s := by
  have k1 := up_has ht ha h1
  have k2 := up_has ht ha h2
  have hb := (hasA_iff.1 h1).2.2.1
  have hc := (hasA_iff.1 h2).2.2.1
  have e := upI_lt (t := t) (a := a) (u := s.1) hb hc
  unfold isPr upS
  simp only
  rw [k1.1, k2.1, h1, h2, ← k1.2, ← k2.2]
  have : decide (upI t a s.1 s.2.1 < upI t a s.1 s.2.2) = decide (s.2.1 < s.2.2) := decide_eq_decide.2 e.1
  rw [this]

omit ht ha in
theorem up_one {s : Sta} (h : isSt (lessA x t a) s = true) : oneB (upS t a s) = oneB s := by
  have h1 := isSt_has h
  unfold oneB upS
  exact decide_eq_decide.2 (upI_lt (t := t) (a := a) (hasA_iff.1 h1.1).2.2.1 (hasA_iff.1 h1.2).2.2.1).2

theorem up_st {s : Sta} (h : isSt (lessA x t a) s = true) : isSt x (upS t a s) = true := by
  have h1 := isSt_has h
  have hp := up_pr ht ha h1.1 h1.2
  have ho := up_one h
  unfold oneB at ho
  unfold isSt at h ⊢
  rw [hp, ho]
  have : hasA x (upS t a s).1 (upS t a s).2.1 = hasA (lessA x t a) s.1 s.2.1 := by
    rw [h1.1]; exact (up_has ht ha h1.1).1
  rw [this]; exact h

theorem up_mts {r s : Sta} (hr : isSt (lessA x t a) r = true) (hs : isSt (lessA x t a) s = true) : mts x (upS t a r) (upS t a s) = mts (lessA x t a) r s := by
  unfold mts upS
  exact up_conf ht ha (isSt_has hr).2 (isSt_has hs).1

omit ht ha in
theorem up_inj {r s : Sta} (hr : isSt (lessA x t a) r = true) (hs : isSt (lessA x t a) s = true) (h : upS t a r = upS t a s) : r = s := by
  have h1 := isSt_has hr
  have h2 := isSt_has hs
  obtain ⟨r1, r2, r3⟩ := r
  obtain ⟨s1, s2, s3⟩ := s
  unfold upS at h
  simp only [Prod.mk.injEq] at h
  obtain ⟨rfl, e2, e3⟩ := h
  have g2 := (upI_lt (t := t) (a := a) (hasA_iff.1 h1.1).2.2.1 (hasA_iff.1 h2.1).2.2.1).2.1 e2
  have g3 := (upI_lt (t := t) (a := a) (hasA_iff.1 h1.2).2.2.1 (hasA_iff.1 h2.2).2.2.1).2.1 e3
  simp only at g2 g3
  rw [g2, g3]

theorem less_nC : nC (lessA x t a) ≤ nC x := by
  refine nC_le (upS t a) (fun r hr s hs h => up_inj (mem_stas.1 hr) (mem_stas.1 hs) h) (fun s hs => up_st ht ha (mem_stas.1 hs)) (fun r hr s hs => ?_) (fun r hr s hs q hq => ?_)
  · have hr := mem_stas.1 hr
    have hs := mem_stas.1 hs
    unfold c2
    rw [up_mts ht ha hr hs, up_mts ht ha hs hr, up_one hr, up_one hs]; rfl
  · have hr := mem_stas.1 hr
    have hs := mem_stas.1 hs
    have hq := mem_stas.1 hq
    unfold c3
    rw [up_mts ht ha hr hs, up_mts ht ha hs hq, up_mts ht ha hq hr, up_one hr, up_one hs, up_one hq]; rfl

theorem less_nConf : nConf (lessA x t a) ≤ nConf x := by
  refine nConf_le (fun p => (p.1, upA t a p.1 p.2)) (fun p hp q hq h => ?_) (fun p hp => ?_) (fun p hp q hq => ?_)
  · obtain ⟨p1, p2⟩ := p
    obtain ⟨q1, q2⟩ := q
    simp only [Prod.mk.injEq] at h
    obtain ⟨rfl, h⟩ := h
    congr 1
    unfold upA at h
    split at h <;> split at h <;> omega
  · obtain ⟨h1, h2⟩ := mem_accs.1 hp
    have := up_has ht ha (hasA_nat.2 ⟨h1, h2⟩)
    unfold upI at this
    rw [Int.toNat_natCast, Int.toNat_natCast] at this
    exact mem_accs.2 (hasA_nat.1 this.1)
  · obtain ⟨h1, h2⟩ := mem_accs.1 hp
    obtain ⟨k1, k2⟩ := mem_accs.1 hq
    have := up_conf ht ha (hasA_nat.2 ⟨h1, h2⟩) (hasA_nat.2 ⟨k1, k2⟩)
    unfold upI at this
    simp only [Int.toNat_natCast] at this
    unfold cfl
    simp only
    rw [this]
end

theorem DelayLess_eq (x : Acs) (hx : okEl (.sl (.sl (.pair (.int .i64) .bool))) x) (th : Int) (hth : okEl (.int .u8) th) (ac : Int) (hac : okEl (.int .u8) ac) : lineallaw09_DelayLess x th ac = some true := by
  have hth : 0 ≤ th ∧ th ≤ 255 := (inK_u8 th).1 hth
  have hac : 0 ≤ ac ∧ ac ≤ 255 := (inK_u8 ac).1 hac
  unfold lineallaw09_DelayLess
  rw [Long_eq (okX hx), Option.bind_some]
  cases hl : lngB x with
  | true => rw [if_pos rfl, Awake_eq]; rfl
  | false =>
    have hx20 := (lng_len hl).1
    rw [if_neg (by simp), refValid_eq hx20, Option.bind_some]
    cases hv : vld x with
    | false => rw [if_pos (show (!false) = true from rfl), Awake_eq]; rfl
    | true =>
      have hlen := vld_len hv
      have hr := vld_row hv
      rw [if_neg (by simp)]
      obtain ⟨t, ht⟩ : ∃ t : Nat, th % (x.length : Int) = (t : Int) := ⟨(th % (x.length : Int)).toNat, (Int.toNat_of_nonneg (Int.emod_nonneg _ (by omega))).symm⟩
      have htl : t < x.length := by have := Int.emod_lt_of_pos th (show (0 : Int) < (x.length : Int) by omega); omega
      rw [ht, Int.toNat_natCast, ck_pos (by rw [inK_i64]; omega), ck_pos hth.1, ck_pos (by omega), ck_pos (by omega), ck_pos (by omega)]
      have h4 := hr t
      by_cases h0 : (x.getD t []).length = 0
      · rw [if_pos (decide_eq_true (by omega)), Awake_eq]; rfl
      · rw [if_neg (by rw [decide_eq_true_eq]; omega), ck_pos (by rw [inK_i64]; omega), ck_pos (by omega), ck_pos (by omega), ck_pos hac.1, ck_pos (by omega)]
        obtain ⟨a, ha⟩ : ∃ a : Nat, ac % ((x.getD t []).length : Int) = (a : Int) := ⟨(ac % ((x.getD t []).length : Int)).toNat, (Int.toNat_of_nonneg (Int.emod_nonneg _ (by omega))).symm⟩
        have hal : a < (x.getD t []).length := by have := Int.emod_lt_of_pos ac (show (0 : Int) < ((x.getD t []).length : Int) by omega); omega
        have hw := appN x.length 1 (fun k => [if k = t then (x.getD k []).take a ++ (x.getD k []).drop (a + 1) else x.getD k []]) (fun k _ => by simp) [] (body := lineallaw09_DelayLess_b1 x th ac) (fun k l hk hl => by
          have h4k := hr k
          simp only [List.length_nil] at hl
          unfold lineallaw09_DelayLess_b1
          dsimp only
          rw [ht, Int.toNat_natCast, ha, if_pos (decide_eq_true (by omega)), ck_pos (by omega), ck_pos (by omega)]
          by_cases e : k = t
          · subst e
            have e1 : ((a : Int) + 1).toNat = a + 1 := by omega
            rw [if_pos (by simp), if_pos rfl, e1, Int.toNat_natCast, Int.toNat_natCast, ck_pos (by omega), ck_pos (by omega), ck_pos (by rw [List.length_take]; omega), ck_pos (by rw [inK_i64]; omega), ck_pos (by omega), ck_pos (by omega), ck_pos (by rw [List.length_take, List.length_drop]; omega), ck_pos (by omega), ck_pos (inK_nat20 (by omega))]
          · rw [if_neg (by rw [decide_eq_true_eq]; omega), if_neg e, Int.toNat_natCast, ck_pos (by omega), ck_pos (inK_nat20 (by omega))]) (fun l => by unfold lineallaw09_DelayLess_b1; rw [if_neg (by simp)])
        have hy : ([] : Acs) ++ (List.range x.length).flatMap (fun k => [if k = t then (x.getD k []).take a ++ (x.getD k []).drop (a + 1) else x.getD k []]) = lessA x t a := by
          unfold lessA
          rw [List.nil_append, flat_one]
        rw [hw, Option.bind_some, hy]
        unfold lineallaw09_DelayLess_k1
        rw [Circles_eq, Circles_eq, Conflicts_eq, Conflicts_eq, hv, less_vld hv htl hal]
        simp only [Option.bind_some, if_true]
        have m1 := less_nC htl hal
        have m2 := less_nConf htl hal
        rw [← circs_count, ← circs_count] at m1
        rw [if_pos (by simp), if_pos (by simp), if_pos (by simp), if_pos (by simp), if_pos (decide_eq_true (by omega)), if_pos (decide_eq_true (by omega)), Awake_eq]; rfl

end Go.Proofs.Ytdicomoggfhbfaa
