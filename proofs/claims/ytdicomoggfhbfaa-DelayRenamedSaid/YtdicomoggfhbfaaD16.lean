/-
  Threads renamed, on both sides.
-/
import Derived.Test.YtdicomoggfhbfaaD12
import Derived.Test.YtdicomoggfhbfaaD4
namespace Go.Proofs.Ytdicomoggfhbfaa
open Go.RowKit

set_option linter.unusedVariables false
set_option linter.unusedSimpArgs false

theorem perm_of {α : Type} [BEq α] [LawfulBEq α] : ∀ {xs ys : List α}, xs.Nodup → (∀ a ∈ xs, a ∈ ys) → ys.length ≤ xs.length → xs.Perm ys
  | [], ys, _, _, h => by
    have : ys = [] := List.eq_nil_of_length_eq_zero (by simpa using h)
    rw [this]
  | a :: xs, ys, hn, hs, hl => by
    have hn' := List.nodup_cons.1 hn
    have ha := hs a (by simp)
    have := perm_of (xs := xs) (ys := ys.erase a) hn'.2 (fun b hb => by
      have hne : b ≠ a := fun e => hn'.1 (e ▸ hb)
      exact (List.mem_erase_of_ne hne).2 (hs b (by simp [hb]))) (by rw [List.length_erase_of_mem ha]; simp at hl; omega)
    exact (this.cons a).trans (List.perm_cons_erase ha).symm

def rngI (n : Nat) : List Int := (List.range n).map fun (k : Nat) => (k : Int)
theorem mem_rngI {n : Nat} {v : Int} : v ∈ rngI n ↔ 0 ≤ v ∧ v < n := by
  unfold rngI
  simp only [List.mem_map, List.mem_range]
  constructor
  · rintro ⟨k, hk, rfl⟩; omega
  · rintro ⟨h1, h2⟩; exact ⟨v.toNat, by omega, Int.toNat_of_nonneg h1⟩
theorem rngI_nodup (n : Nat) : (rngI n).Nodup := by
  unfold rngI List.Nodup
  rw [List.pairwise_map]
  exact List.pairwise_lt_range.imp fun {a b} h e => by omega
theorem rngI_len (n : Nat) : (rngI n).length = n := by unfold rngI; simp

/-- Each thread, once. -/
def thrB (n : Nat) (l : List Int) : Bool := (rngI n).all (fun k => l.contains k) && decide (l.length = n)

theorem thrB_perm {n : Nat} {l : List Int} (h : thrB n l = true) : (rngI n).Perm l := by
  unfold thrB at h
  simp only [Bool.and_eq_true, decide_eq_true_eq, List.all_eq_true, List.contains_iff_mem] at h
  exact perm_of (rngI_nodup n) h.1 (by rw [rngI_len]; omega)

theorem thrB_iff {n : Nat} {l : List Int} : thrB n l = true ↔ ((∀ v ∈ l, 0 ≤ v ∧ v < n) ∧ l.Nodup) ∧ l.length = n := by
  constructor
  · intro h
    have hp := thrB_perm h
    refine ⟨⟨fun v hv => mem_rngI.1 (hp.mem_iff.2 hv), hp.nodup_iff.1 (rngI_nodup n)⟩, ?_⟩
    have := hp.length_eq
    rw [rngI_len] at this; exact this.symm
  · rintro ⟨⟨h1, h2⟩, h3⟩
    have hp := perm_of h2 (fun v hv => mem_rngI.2 (h1 v hv)) (by rw [rngI_len]; omega)
    unfold thrB
    simp only [Bool.and_eq_true, decide_eq_true_eq, List.all_eq_true, List.contains_iff_mem]
    exact ⟨fun k hk => hp.mem_iff.2 hk, h3⟩

theorem Contains2_eq {l : List Int} (hl : few l) (v : Int) : slices_Contains_2 l v = some (l.contains v) := by
  unfold slices_Contains_2
  have hidx : slices_Index_2 l v = some (idxI (fun a => decide (v = a)) l) := by
    unfold slices_Index_2
    rw [whileO_first l (fun a => decide (v = a)) (fun k a hk => by
      obtain ⟨hlt, hik⟩ := few_in hl hk
      unfold slices_Index_2_b1
      rw [Int.toNat_natCast, getD_of hk, if_pos (decide_eq_true (by omega)), ck_pos (by omega), ck_pos (by omega)]
      by_cases e : v = a <;> simp [e, ck_pos hik]) (by unfold slices_Index_2_b1; rw [if_neg (by simp)]), Option.bind_some]
    unfold idxI slices_Index_2_k1
    cases l.findIdx? (fun a => decide (v = a)) <;> rfl
  rw [hidx, Option.bind_some, idxI_any]
  congr 1
  rw [Bool.eq_iff_iff, List.any_eq_true, List.contains_iff_mem]
  constructor
  · rintro ⟨a, ha, e⟩; rw [of_decide_eq_true e]; exact ha
  · intro h; exact ⟨v, h, by simp⟩

theorem isEach_eq {n : Nat} (hn : n ≤ 1000) {l : List Int} (hl : few l) : delay_isEach l (n : Int) = some (thrB n l) := by
  unfold delay_isEach thrB
  rw [whileO_all (body := delay_isEach_b1 l (n : Int)) (rngI n) (fun k => l.contains k) (fun k v hk => by
    have hlt : k < n := by have := (List.getElem?_eq_some_iff.1 hk).1; rwa [rngI_len] at this
    have hv : v = (k : Int) := by
      unfold rngI at hk
      rw [List.getElem?_map, List.getElem?_range hlt] at hk
      simpa using hk.symm
    subst hv
    unfold delay_isEach_b1
    rw [if_pos (decide_eq_true (by omega)), Contains2_eq hl, Option.bind_some]
    cases l.contains (k : Int) <;> simp [ck_pos (inK_nat20 (show k ≤ 1000 by omega))]) (by
    unfold delay_isEach_b1
    rw [rngI_len, if_neg (by simp)]), Option.bind_some]
  cases (rngI n).all fun k => l.contains k with
  | false => rfl
  | true =>
    unfold delay_isEach_k1
    simp only [if_true, Bool.true_and]
    have : decide ((l.length : Int) = (n : Int)) = decide (l.length = n) := decide_eq_decide.2 (by omega)
    rw [this]

theorem AreThreads_eq {n : Nat} {l : List Int} (hl : few l) : linealref09_AreThreads (n : Int) l = some (thrB n l) := by
  unfold linealref09_AreThreads
  obtain ⟨r, e, hr⟩ := scan1 (R := Sum Unit Unit) l (fun k => (∀ v ∈ l.take k, 0 ≤ v ∧ v < n) ∧ (l.take k).Nodup)
    (fun r => (r = .inr () ∧ (∀ v ∈ l, 0 ≤ v ∧ v < n) ∧ l.Nodup) ∨ (r = .inl () ∧ ¬ ((∀ v ∈ l, 0 ≤ v ∧ v < n) ∧ l.Nodup))) (body := linealref09_AreThreads_b1 (n : Int) l) (by simp)
    (fun k v hk hI => by
      obtain ⟨hlt, hik⟩ := few_in hl hk
      have hm := List.mem_of_getElem? hk
      have ht := take_one hk
      unfold linealref09_AreThreads_b1
      rw [Int.toNat_natCast, getD_of hk, if_pos (decide_eq_true (by omega)), ck_pos (by omega), ck_pos (by omega)]
      by_cases h1 : v < 0
      · right; exact ⟨_, by rw [if_pos (decide_eq_true h1)], .inr ⟨rfl, fun hc => by have := hc.1 v hm; omega⟩⟩
      · rw [if_neg (by rw [decide_eq_true_eq]; exact h1)]
        by_cases h2 : (n : Int) ≤ v
        · right; exact ⟨_, by rw [if_pos (decide_eq_true h2)], .inr ⟨rfl, fun hc => by have := hc.1 v hm; omega⟩⟩
        · rw [if_neg (by rw [decide_eq_true_eq]; exact h2), ck_pos (by omega), ck_pos (by omega)]
          have hft : few (l.take k) := by unfold few at *; rw [List.length_take]; omega
          have h9 : whileO (linealref09_AreThreads_b2 l (k : Int)) 0 = some (if (l.take k).all (fun o => !decide (v = o)) = true then .inr () else .inl ()) :=
            whileO_all (l.take k) (fun o => !decide (v = o)) (body := linealref09_AreThreads_b2 l (k : Int)) (fun j o hj => by
              obtain ⟨hlt2, hik2⟩ := few_in hft hj
              unfold linealref09_AreThreads_b2
              rw [Int.toNat_natCast, Int.toNat_natCast, getD_of hj, getD_of hk, if_pos (decide_eq_true (by omega)), ck_pos (by omega), ck_pos (by omega)]
              by_cases e : v = o <;> simp [e, ck_pos hik2]) (by
                unfold linealref09_AreThreads_b2
                rw [Int.toNat_natCast, if_neg (by simp)])
          rw [h9, Option.bind_some]
          have hall : (l.take k).all (fun o => !decide (v = o)) = true ↔ v ∉ l.take k := by
            rw [List.all_eq_true]
            constructor
            · intro h hc; have := h v hc; simp at this
            · intro h o ho
              simp only [Bool.not_eq_true', decide_eq_false_iff_not]
              exact fun e => h (e ▸ ho)
          cases hd : (l.take k).all fun o => !decide (v = o) with
          | true =>
            left
            have hnm := hall.1 hd
            unfold linealref09_AreThreads_k2
            refine ⟨by simp [ck_pos hik], fun w hw => ?_, ?_⟩
            · rw [ht, List.mem_append, List.mem_singleton] at hw
              rcases hw with hw | rfl
              · exact hI.1 w hw
              · omega
            · rw [ht, List.nodup_append]
              exact ⟨hI.2, by simp, fun a ha b hb => by simp at hb; subst hb; exact fun e => hnm (e ▸ ha)⟩
          | false =>
            right
            refine ⟨.inl (), by simp, .inr ⟨rfl, fun hc => ?_⟩⟩
            have hin : v ∈ l.take k := by
              refine Classical.byContradiction fun h => ?_
              rw [hall.2 h] at hd; cases hd
            have hsub : (l.take (k + 1)).Nodup := hc.2.sublist (List.take_sublist _ _)
            rw [ht, List.nodup_append] at hsub
            exact hsub.2.2 v hin v (by simp) rfl)
    (fun hI => ⟨_, (by unfold linealref09_AreThreads_b1; rw [if_neg (by simp)]), .inl ⟨rfl, by rw [List.take_length] at hI; exact hI⟩⟩)
  rw [e, Option.bind_some]
  have key := thrB_iff (n := n) (l := l)
  rcases hr with ⟨rfl, h⟩ | ⟨rfl, h⟩
  · unfold linealref09_AreThreads_k1
    simp only
    congr 1
    rw [Bool.eq_iff_iff, key, decide_eq_true_eq]
    constructor
    · intro h2; exact ⟨h, by omega⟩
    · intro h2; omega
  · simp only
    congr 1
    symm
    rw [Bool.eq_false_iff]
    exact fun hc => h (key.1 hc).1

def renX (x : Acs) (th : List Int) : Acs := th.map fun t => x.getD t.toNat []

theorem Renamed_eq (x : Acs) {th : List Int} (ht : th.length ≤ 1000) : delay_Renamed x th = some (if vld x = true then (if thrB x.length th = true then (renX x th, 0) else ([], 2)) else ([], 90)) := by
  unfold delay_Renamed
  rw [Valid_eq, Option.bind_some]
  cases hv : vld x with
  | false => rfl
  | true =>
    have hlen := vld_len hv
    rw [if_neg (by simp), isEach_eq (by omega) (few_of ht), Option.bind_some]
    simp only [if_true]
    cases hb : thrB x.length th with
    | false => rfl
    | true =>
      have hi := (thrB_iff.1 hb).1.1
      have hl := (thrB_iff.1 hb).2
      rw [if_neg (by simp), appL th 1 (fun t => [x.getD t.toNat []]) (fun y _ => by simp) [] (body := delay_Renamed_b1 x th) (fun k v l hk hl' => by
        obtain ⟨hlt, hik⟩ := few_in (few_of ht) hk
        have := hi v (List.mem_of_getElem? hk)
        have hr := vld_row hv v.toNat
        simp only [List.length_nil] at hl'
        unfold delay_Renamed_b1
        dsimp only
        rw [Int.toNat_natCast, getD_of hk, if_pos (decide_eq_true (by omega)), ck_pos (by omega), ck_pos (by omega), ck_pos (by omega), ck_pos (by omega), Clone_eq _ (by omega), Option.bind_some, ck_pos (by omega), ck_pos hik]) (fun l => by unfold delay_Renamed_b1; rw [if_neg (by simp)]), Option.bind_some, List.nil_append, flat_map1]
      rfl

theorem ren_mem {x : Acs} {th : List Int} (hb : thrB x.length th = true) : ∀ l ∈ renX x th, l ∈ x := by
  intro l hl
  obtain ⟨t, ht, rfl⟩ := List.mem_map.1 hl
  have := (thrB_iff.1 hb).1.1 t ht
  exact getD_in (by omega)
theorem ren_len {x : Acs} {th : List Int} (hb : thrB x.length th = true) : (renX x th).length = x.length := by
  unfold renX; rw [List.length_map]; exact (thrB_iff.1 hb).2
theorem ren_vld {x : Acs} {th : List Int} (hv : vld x = true) (hb : thrB x.length th = true) : vld (renX x th) = true := by
  unfold vld at hv ⊢
  rw [ren_len hb]
  simp only [Bool.and_eq_true, decide_eq_true_eq, List.all_eq_true] at hv ⊢
  exact ⟨hv.1, fun l hl => hv.2 l (ren_mem hb l hl)⟩

end Go.Proofs.Ytdicomoggfhbfaa
