/-
  Fences, what they hold, and what they cost: on both sides.
-/
import Derived.Test.YtdicomoggfhbfaaD9
namespace Go.Proofs.Ytdicomoggfhbfaa
open Go.RowKit

set_option linter.unusedVariables false
set_option linter.unusedSimpArgs false

abbrev Fen : Type := Int × Int
def fens (x : Acs) : List Fen := (List.range x.length).flatMap fun (t : Nat) => (List.range ((x.getD t []).length - 1)).flatMap fun (g : Nat) => [((t : Int), (g : Int))]
def ltF (a b : Fen) : Prop := a.1 < b.1 ∨ (a.1 = b.1 ∧ a.2 < b.2)
def fitF (f : Fen) : Prop := InK .i64 f.1 ∧ InK .i64 f.2

theorem mem_fens {x : Acs} {f : Fen} : f ∈ fens x ↔ 0 ≤ f.1 ∧ f.1 < x.length ∧ 0 ≤ f.2 ∧ f.2 < ((x.getD f.1.toNat []).length : Int) - 1 := by
  unfold fens
  simp only [List.mem_flatMap, List.mem_range, List.mem_singleton]
  constructor
  · rintro ⟨t, ht, g, hg, rfl⟩
    simp only [Int.toNat_natCast]; omega
  · rintro ⟨h1, h2, h3, h4⟩
    refine ⟨f.1.toNat, by omega, f.2.toNat, by omega, ?_⟩
    rw [Int.toNat_of_nonneg h1, Int.toNat_of_nonneg h3]
theorem fens_asc (x : Acs) : (fens x).Pairwise ltF := by
  unfold fens
  rw [List.pairwise_flatMap]
  refine ⟨fun t _ => ?_, ?_⟩
  · rw [List.pairwise_flatMap]
    refine ⟨fun a _ => by simp, ?_⟩
    refine List.pairwise_lt_range.imp fun {b b'} h u hu v hv => ?_
    simp only [List.mem_singleton] at hu hv
    subst hu hv
    exact .inr ⟨rfl, by simp only; omega⟩
  · refine List.pairwise_lt_range.imp fun {t t'} h u hu v hv => ?_
    obtain ⟨b, _, hu⟩ := List.mem_flatMap.1 hu
    obtain ⟨b', _, hv⟩ := List.mem_flatMap.1 hv
    simp only [List.mem_singleton] at hu hv
    subst hu hv
    exact .inl (by simp only; omega)
theorem fens_len {x : Acs} (hv : vld x = true) : (fens x).length ≤ 9 := by
  have hlen := vld_len hv
  have hr := vld_row hv
  have gen : ∀ {β : Type} (n c m : Nat) (f : Nat → List β), n ≤ m → (∀ k, (f k).length ≤ c) → ((List.range n).flatMap f).length ≤ m * c := by
    intro β n c m f hn hf
    have := len_flat (List.range n) c f fun y _ => hf y
    rw [List.length_range] at this
    exact Nat.le_trans this (Nat.mul_le_mul_right c hn)
  unfold fens
  exact gen _ 3 3 _ hlen.2.1 fun t => gen _ 1 3 _ (by have := hr t; omega) fun g => by simp
theorem fens_fit {x : Acs} (hv : vld x = true) : ∀ f ∈ fens x, fitF f := by
  intro f hf
  obtain ⟨h1, h2, h3, h4⟩ := mem_fens.1 hf
  have := vld_len hv
  have := vld_row hv f.1.toNat
  unfold fitF
  rw [inK_i64, inK_i64]; omega

theorem fens_loop {x : Acs} (hv : vld x = true) {b1 : List Fen × Int → Option (Step (List Fen × Int) (List Fen))} {b2 : List Fen × Int → List Fen × Int → Option (Step (List Fen × Int) (List Fen))}
    (h2 : ∀ (t g : Nat) (l1 l : List Fen), g < (x.getD t []).length - 1 → l.length ≤ 1000 → b2 (l1, (t : Int)) (l, (g : Int)) = some (.next (l ++ [((t : Int), (g : Int))], (g : Int) + 1)))
    (d2 : ∀ (t : Nat) (l1 l : List Fen), b2 (l1, (t : Int)) (l, (((x.getD t []).length - 1 : Nat) : Int)) = some (.done l))
    (h1 : ∀ (t : Nat) (l r : List Fen), t < x.length → whileO (b2 (l, (t : Int))) (l, 0) = some r → b1 (l, (t : Int)) = some (.next (r, (t : Int) + 1)))
    (d1 : ∀ (l : List Fen), b1 (l, (x.length : Int)) = some (.done l)) : whileO b1 ([], 0) = some (fens x) := by
  have hlen := vld_len hv
  have w2 : ∀ (t : Nat) (l : List Fen), l.length ≤ 900 → whileO (b2 (l, (t : Int))) (l, 0) = some (l ++ (List.range ((x.getD t []).length - 1)).flatMap fun (g : Nat) => [((t : Int), (g : Int))]) := fun t l hl =>
    appN _ 1 _ (fun k hk => by simp) l (fun k l' hk hl' => h2 t k l l' hk (by have := vld_row hv t; omega)) (fun l' => d2 t l l')
  have := appN x.length 3 (fun (t : Nat) => (List.range ((x.getD t []).length - 1)).flatMap fun (g : Nat) => [((t : Int), (g : Int))]) (fun k hk => by
    have := len_flat (List.range ((x.getD k []).length - 1)) 1 (fun (g : Nat) => [((k : Int), (g : Int))]) fun y _ => by simp
    rw [List.length_range] at this
    have := vld_row hv k
    omega) [] (body := b1) (fun k l' hk hl' => h1 k l' _ hk (w2 k l' (by simp at hl'; omega))) d1
  rw [this]; rfl

theorem fences_eq {x : Acs} (hv : vld x = true) : delay_accesses_fences x = some (fens x) := by
  unfold delay_accesses_fences
  have hlen := vld_len hv
  rw [fens_loop hv (b1 := delay_accesses_fences_b1 x) (b2 := delay_accesses_fences_b2 x)
    (fun t g l1 l hg hl => by
      have := vld_row hv t
      unfold delay_accesses_fences_b2
      dsimp only
      rw [Int.toNat_natCast, if_pos (decide_eq_true (by omega)), ck_pos (by omega), ck_pos (inK_nat20 (by omega))])
    (fun t l1 l => by
      unfold delay_accesses_fences_b2
      dsimp only
      rw [Int.toNat_natCast, if_neg (by rw [decide_eq_true_eq]; omega)])
    (fun t l r ht h => by
      have := vld_row hv t
      unfold delay_accesses_fences_b1
      dsimp only
      rw [h, Int.toNat_natCast, if_pos (decide_eq_true (by omega)), ck_pos (by omega), ck_pos (by omega), ck_pos (by rw [inK_i64]; omega), Option.bind_some]
      unfold delay_accesses_fences_k2
      rw [ck_pos (inK_nat20 (by omega))])
    (fun l => by unfold delay_accesses_fences_b1; rw [if_neg (by simp)]), Option.bind_some]
  rfl

/-! ### Which lists are fences -/
theorem ltF_trans {a b c : Fen} (h : ltF a b) (k : ltF b c) : ltF a c := by unfold ltF at *; omega
theorem ltF_irr {a : Fen} : ¬ ltF a a := by unfold ltF; omega

/-- One after the other, each behind the one in front of it. -/
def subB : List Fen → List Fen → Bool
  | [], _ => true
  | f :: l, all => match all.findIdx? (fun g => decide (f = g)) with
    | some k => subB l (all.drop (k + 1))
    | none => false

theorem subB_iff : ∀ (l all : List Fen), all.Pairwise ltF → (subB l all = true ↔ (∀ f ∈ l, f ∈ all) ∧ l.Pairwise ltF)
  | [], all, _ => by simp [subB]
  | f :: l, all, hp => by
    unfold subB
    cases h : all.findIdx? (fun g => decide (f = g)) with
    | none =>
      rw [List.findIdx?_eq_none_iff] at h
      simp only [Bool.false_eq_true, false_iff]
      rintro ⟨h1, _⟩
      have := h f (h1 f (by simp))
      simp at this
    | some k =>
      obtain ⟨hk, hf, _⟩ := List.findIdx?_eq_some_iff_getElem.1 h
      have hf := of_decide_eq_true hf
      have hd : all.drop k = f :: all.drop (k + 1) := by rw [List.drop_eq_getElem_cons hk, ← hf]
      have hpd : (f :: all.drop (k + 1)).Pairwise ltF := by rw [← hd]; exact hp.sublist (List.drop_sublist k all)
      rw [List.pairwise_cons] at hpd
      simp only
      rw [subB_iff l _ hpd.2, List.pairwise_cons]
      have hsplit : ∀ g, g ∈ all → ltF f g → g ∈ all.drop (k + 1) := by
        intro g hg hlt
        have : g ∈ all.take k ++ all.drop k := by rw [List.take_append_drop]; exact hg
        rcases List.mem_append.1 this with h1 | h1
        · exfalso
          obtain ⟨i, hi, rfl⟩ := List.getElem_of_mem h1
          rw [List.length_take] at hi
          rw [List.getElem_take] at hlt
          have := List.pairwise_iff_getElem.1 hp i k (by omega) hk (by omega)
          rw [← hf] at this
          exact ltF_irr (ltF_trans hlt this)
        · rw [hd] at h1
          rcases List.mem_cons.1 h1 with e | h1
          · subst e; exact absurd hlt ltF_irr
          · exact h1
      constructor
      · rintro ⟨h1, h2⟩
        refine ⟨fun g hg => ?_, fun g hg => hpd.1 g (h1 g hg), h2⟩
        rcases List.mem_cons.1 hg with rfl | hg
        · rw [hf]; exact List.getElem_mem hk
        · exact List.mem_of_mem_drop (h1 g hg)
      · rintro ⟨h1, h2, h3⟩
        exact ⟨fun g hg => hsplit g (h1 g (by simp [hg])) (h2 g hg), h3⟩

def areF (x : Acs) (l : List Fen) : Bool := subB l (fens x)
theorem areF_iff {x : Acs} {l : List Fen} : areF x l = true ↔ (∀ f ∈ l, f ∈ fens x) ∧ l.Pairwise ltF := subB_iff l _ (fens_asc x)

theorem Index_eq {s : List Fen} {f : Fen} (hs : few s) (hfs : ∀ g ∈ s, fitF g) (hf : fitF f) : slices_Index s f = some (idxI (fun g => decide (f = g)) s) := by
  unfold slices_Index
  rw [whileO_first s (fun g => decide (f = g)) (fun k a hk => by
    obtain ⟨hlt, hik⟩ := few_in hs hk
    obtain ⟨a1, a2⟩ := hfs a (List.mem_of_getElem? hk)
    unfold slices_Index_b1
    rw [Int.toNat_natCast, getD_of hk, if_pos (decide_eq_true (by omega)), ck_pos (by omega), ck_pos (by omega), ck_pos hf.1, ck_pos hf.2, ck_pos a1, ck_pos a2]
    by_cases e : f = a <;> simp [e, ck_pos hik]) (by unfold slices_Index_b1; rw [if_neg (by simp)]), Option.bind_some]
  unfold idxI slices_Index_k1
  cases s.findIdx? (fun g => decide (f = g)) <;> rfl

theorem areFences_eq {x : Acs} (hv : vld x = true) {l : List Fen} (hl : few l) (hfit : ∀ f ∈ l, fitF f) : delay_accesses_areFences x l = some (areF x l) := by
  unfold delay_accesses_areFences
  rw [fences_eq hv, Option.bind_some]
  have h9 := fens_len hv
  obtain ⟨r, e, hr⟩ := scan2 (S := List Fen) (R := Sum Unit Unit) l (fun k all => all.length ≤ 9 ∧ (∀ g ∈ all, fitF g) ∧ areF x l = subB (l.drop k) all) (fun r => (r = .inr () ∧ areF x l = true) ∨ (r = .inl () ∧ areF x l = false)) (body := delay_accesses_areFences_b1 l) (s0 := fens x) ⟨h9, fens_fit hv, rfl⟩
    (fun k f all hk hI => by
      obtain ⟨h1, h2, h3⟩ := hI
      obtain ⟨hlt, hik⟩ := few_in hl hk
      have hd : l.drop k = f :: l.drop (k + 1) := by
        rw [List.drop_eq_getElem_cons hlt, (List.getElem?_eq_some_iff.1 hk).2]
      rw [hd] at h3
      unfold subB at h3
      unfold delay_accesses_areFences_b1
      dsimp only
      rw [Int.toNat_natCast, getD_of hk, if_pos (decide_eq_true (by omega)), ck_pos (by omega), ck_pos (by omega), Index_eq (few_of h1) h2 (hfit f (List.mem_of_getElem? hk)), Option.bind_some]
      unfold idxI
      cases hi : all.findIdx? (fun g => decide (f = g)) with
      | none =>
        rw [hi] at h3
        right
        exact ⟨_, by rw [if_pos (by simp)], .inr ⟨rfl, h3⟩⟩
      | some j =>
        obtain ⟨hj, _, _⟩ := List.findIdx?_eq_some_iff_getElem.1 hi
        rw [hi] at h3
        left
        have e1 : ((j : Int) + 1).toNat = j + 1 := by omega
        simp only
        refine ⟨all.drop (j + 1), by rw [if_neg (by rw [decide_eq_true_eq]; omega), ck_pos (by rw [inK_i64]; omega), ck_pos (by omega), ck_pos (by omega), ck_pos hik, e1], by rw [List.length_drop]; omega, fun g hg => h2 g (List.mem_of_mem_drop hg), h3⟩)
    (fun all hI => ⟨.inr (), by unfold delay_accesses_areFences_b1; rw [if_neg (by simp)], .inl ⟨rfl, by rw [hI.2.2, List.drop_length]; rfl⟩⟩)
  rw [e, Option.bind_some]
  rcases hr with ⟨rfl, h⟩ | ⟨rfl, h⟩ <;> rw [h] <;> rfl

theorem refareFences_eq {x : Acs} (hv : vld x = true) {l : List Fen} (hl : few l) : linealref09_areFences x l = some (areF x l) := by
  unfold linealref09_areFences
  have hlen := vld_len hv
  obtain ⟨r, e, hr⟩ := scan1 (R := Sum Unit Unit) l (fun k => ∀ i, i < k → l.getD i (0, 0) ∈ fens x ∧ (0 < i → ltF (l.getD (i - 1) (0, 0)) (l.getD i (0, 0))))
    (fun r => (r = .inr () ∧ ∀ i, i < l.length → l.getD i (0, 0) ∈ fens x ∧ (0 < i → ltF (l.getD (i - 1) (0, 0)) (l.getD i (0, 0)))) ∨ (r = .inl () ∧ ∃ i, i < l.length ∧ ¬ (l.getD i (0, 0) ∈ fens x ∧ (0 < i → ltF (l.getD (i - 1) (0, 0)) (l.getD i (0, 0)))))) (body := linealref09_areFences_b1 x l) (fun i hi => absurd hi (Nat.not_lt_zero i))
    (fun k f hk hI => by
      obtain ⟨hlt, hik⟩ := few_in hl hk
      have hd : l.getD k (0, 0) = f := getD_of hk
      have hb : (l.getD k (0, 0) ∈ fens x ∧ (0 < k → ltF (l.getD (k - 1) (0, 0)) (l.getD k (0, 0))) ∧ linealref09_areFences_b1 x l (k : Int) = some (.next ((k : Int) + 1))) ∨ (¬ (l.getD k (0, 0) ∈ fens x ∧ (0 < k → ltF (l.getD (k - 1) (0, 0)) (l.getD k (0, 0)))) ∧ linealref09_areFences_b1 x l (k : Int) = some (.done (Sum.inl ()))) := by
        unfold linealref09_areFences_b1
        rw [Int.toNat_natCast, hd, if_pos (decide_eq_true (by omega)), ck_pos (by omega), ck_pos (by omega), IsAccess_eq, Option.bind_some]
        have h4 := vld_row hv f.1.toNat
        cases ha : hasA x f.1 f.2 with
        | false =>
          right
          refine ⟨fun hc => ?_, by simp⟩
          obtain ⟨g1, g2, g3, g4⟩ := mem_fens.1 hc.1
          have : hasA x f.1 f.2 = true := hasA_iff.2 ⟨g1, g2, g3, by omega⟩
          rw [ha] at this; cases this
        | true =>
          obtain ⟨g1, g2, g3, g4⟩ := hasA_iff.1 ha
          rw [if_neg (by simp), ck_pos g1, ck_pos g2, ck_pos (by rw [inK_i64]; omega)]
          by_cases h5 : f.2 = ((x.getD f.1.toNat []).length : Int) - 1
          · right
            refine ⟨fun hc => ?_, by rw [if_pos (decide_eq_true h5)]⟩
            have := mem_fens.1 hc.1
            omega
          · have hm : f ∈ fens x := mem_fens.2 ⟨g1, g2, g3, by omega⟩
            rw [if_neg (by rw [decide_eq_true_eq]; exact h5)]
            by_cases hk0 : 0 < k
            · have hkk : ((k : Int) - 1).toNat = k - 1 := by omega
              unfold few at hl
              have hik' : InK .i64 ((k : Int) - 1) := by rw [inK_i64]; omega
              rw [if_pos (decide_eq_true (by omega)), hkk, ck_pos hik', ck_pos (by omega), ck_pos (by omega)]
              by_cases h6 : f.1 < (l.getD (k - 1) (0, 0)).1
              · right
                refine ⟨fun hc => ?_, by rw [if_pos (decide_eq_true h6)]⟩
                have := hc.2 hk0
                unfold ltF at this; omega
              · rw [if_neg (by rw [decide_eq_true_eq]; exact h6), ck_pos hik', ck_pos (by omega), ck_pos (by omega)]
                by_cases h7 : f.1 = (l.getD (k - 1) (0, 0)).1
                · rw [if_pos (decide_eq_true h7), ck_pos hik', ck_pos (by omega), ck_pos (by omega)]
                  by_cases h8 : f.2 ≤ (l.getD (k - 1) (0, 0)).2
                  · right
                    refine ⟨fun hc => ?_, by rw [if_pos (decide_eq_true h8)]⟩
                    have := hc.2 hk0
                    unfold ltF at this; omega
                  · left
                    refine ⟨hm, fun _ => by unfold ltF; omega, by rw [if_neg (by rw [decide_eq_true_eq]; exact h8), ck_pos hik]⟩
                · left
                  refine ⟨hm, fun _ => by unfold ltF; omega, by rw [if_neg (by rw [decide_eq_true_eq]; exact h7), ck_pos hik]⟩
            · left
              refine ⟨hm, fun h => absurd h hk0, by rw [if_neg (by rw [decide_eq_true_eq]; omega), ck_pos hik]⟩
      rcases hb with ⟨h1, h2, h3⟩ | ⟨h1, h2⟩
      · refine .inl ⟨h3, fun i hi => ?_⟩
        rcases Nat.lt_or_ge i k with h | h
        · exact hI i h
        · have : i = k := by omega
          subst this
          exact ⟨h1, h2⟩
      · exact .inr ⟨_, h2, .inr ⟨rfl, k, hlt, h1⟩⟩)
    (fun hI => ⟨_, (by unfold linealref09_areFences_b1; rw [if_neg (by simp)]), .inl ⟨rfl, hI⟩⟩)
  rw [e, Option.bind_some]
  have key : areF x l = true ↔ ∀ i, i < l.length → l.getD i (0, 0) ∈ fens x ∧ (0 < i → ltF (l.getD (i - 1) (0, 0)) (l.getD i (0, 0))) := by
    rw [areF_iff]
    constructor
    · rintro ⟨h1, h2⟩ i hi
      refine ⟨h1 _ (getD_in hi), fun h0 => ?_⟩
      rw [getD_of (List.getElem?_eq_getElem hi), getD_of (List.getElem?_eq_getElem (show i - 1 < l.length by omega))]
      exact List.pairwise_iff_getElem.1 h2 (i - 1) i (by omega) hi (by omega)
    · intro h
      refine ⟨fun f hf => ?_, ?_⟩
      · obtain ⟨i, hi, rfl⟩ := List.getElem_of_mem hf
        have := (h i hi).1
        rwa [getD_of (List.getElem?_eq_getElem hi)] at this
      · rw [List.pairwise_iff_getElem]
        intro i j hi hj hij
        induction j with
        | zero => omega
        | succ j ih =>
          have hs := (h (j + 1) hj).2 (by omega)
          rw [show j + 1 - 1 = j by omega, getD_of (List.getElem?_eq_getElem hj), getD_of (List.getElem?_eq_getElem (show j < l.length by omega))] at hs
          rcases Nat.lt_or_ge i j with h9 | h9
          · exact ltF_trans (ih (by omega) h9) hs
          · have : i = j := by omega
            subst this
            exact hs
  rcases hr with ⟨rfl, h⟩ | ⟨rfl, i, hi, hno⟩
  · rw [key.2 h]; rfl
  · have : areF x l = false := by rw [Bool.eq_false_iff]; exact fun hc => hno (key.1 hc i hi)
    rw [this]

theorem fenced_eq (x : Acs) {l : List Fen} (hl : few l) (hfit : ∀ f ∈ l, fitF f) : delay_fenced x l = some (if vld x = true then (if areF x l = true then (x, 0) else ([], 2)) else ([], 90)) := by
  unfold delay_fenced
  rw [of_eq, Option.bind_some]
  cases hv : vld x with
  | false => rfl
  | true =>
    simp only [if_true]
    rw [if_neg (by simp), areFences_eq hv hl hfit, Option.bind_some]
    cases areF x l <;> simp
theorem reffenced_eq {x : Acs} (hx : x.length ≤ 20) {l : List Fen} (hl : few l) : linealref09_fenced x l = some (if vld x = true then (if areF x l = true then 0 else 2) else 90) := by
  unfold linealref09_fenced
  rw [refValid_eq hx, Option.bind_some]
  cases hv : vld x with
  | false => rfl
  | true =>
    simp only [if_true]
    rw [if_neg (by simp), refareFences_eq hv hl, Option.bind_some]
    cases areF x l <;> simp

end Go.Proofs.Ytdicomoggfhbfaa
