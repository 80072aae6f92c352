/-
  Hazard: the numbers of deeds with a new yard.
-/
import Derived.Test.YtcckpmeepcoafaaDoorHy8
import Derived.Test.YtcckpmeepcoafaaDoorHztw
namespace Go.Proofs.YtcckpmeepcoafaaDoor
open Go.RowKit

set_option linter.unusedVariables false
set_option linter.unusedSimpArgs false
set_option linter.constructorNameAsVariable false
set_option maxRecDepth 10000

section
variable {n m : Nat} {A : Mo}

theorem New_no {a b : Int} (h : ¬ ((1 ≤ a ∧ a ≤ 4) ∧ 1 ≤ b ∧ b ≤ 4)) : hazard_New a b = some (Sum.inl ()) := by
  unfold hazard_New
  by_cases h1 : a < 1
  · rw [if_pos (decide_eq_true h1)]
  · by_cases h2 : 4 < a
    · rw [if_neg (by simpa using h1), if_pos (decide_eq_true h2)]
    · by_cases h3 : b < 1
      · rw [if_neg (by simpa using h1), if_neg (by simpa using h2), if_pos (decide_eq_true h3)]
      · have h4 : 4 < b := by omega
        rw [if_neg (by simpa using h1), if_neg (by simpa using h2), if_neg (by simpa using h3), if_pos (decide_eq_true h4)]

theorem do_err (n m : Nat) (A : Mo) (d : Int × Int × Int × Int) : (doA n m A d).2.1 = 0 ∨ (doA n m A d).2.1 = 2 ∨ (doA n m A d).2.1 = 5 := by
  unfold doA
  split
  · split
    · unfold takeA
      split
      · split <;> simp
      · simp
    · split
      · unfold pointA
        split
        · split <;> simp
        · simp
      · split
        · unfold clearA
          split <;> simp
        · split
          · unfold putA
            split
            · split
              · split <;> simp
              · simp
            · simp
          · split
            · unfold sweepA
              split <;> simp
            · unfold useA
              split
              · split <;> simp
              · simp
  · simp

/-- What a deed's number is. -/
def numA (r : Int × Int × Mo) : Int := if r.2.1 = 0 then r.1 else -r.2.1
/-- The first numbers. -/
def numL (n m : Nat) (ds : List (Int × Int × Int × Int)) (k : Nat) : List Int := (List.range k).map fun j => numA (doA n m (behind n m newM (ds.take j)) (ds.getD j (0, 0, 0, 0)))
theorem numL_succ (n m : Nat) (ds : List (Int × Int × Int × Int)) (k : Nat) : numL n m ds (k + 1) = numL n m ds k ++ [numA (doA n m (behind n m newM (ds.take k)) (ds.getD k (0, 0, 0, 0)))] := by
  unfold numL
  rw [List.range_succ, List.map_append]; rfl

theorem behind_succ {ds : List (Int × Int × Int × Int)} {k : Nat} (hk : k < ds.length) : behind n m newM (ds.take (k + 1)) = (doA n m (behind n m newM (ds.take k)) ds[k]).2.2 := by
  unfold behind
  rw [take_one (List.getElem?_eq_getElem hk), List.foldl_append]; rfl

theorem play_loop (hI : Iv n m newM) {N0 : El T63} {S0 : El T65} {L0 : El T69} (hR0 : Rp N0 S0 L0 newM) (ds : List (Int × Int × Int × Int)) (hl : ds.length ≤ 100) :
    whileO (hazard_Play_b1 (n : Int) (m : Int) ds) (N0, S0, L0, [], 0) = some (numL n m ds ds.length) := by
  have key : ∃ r : List Int, whileO (hazard_Play_b1 (n : Int) (m : Int) ds) (N0, S0, L0, [], 0) = some r ∧ r = numL n m ds ds.length := by
    refine whileO_inv (fun q : El T63 × El T65 × El T69 × List Int × Int => ∃ k : Nat, q.2.2.2.2 = (k : Int) ∧ k ≤ ds.length ∧ Rp q.1 q.2.1 q.2.2.1 (behind n m newM (ds.take k)) ∧ q.2.2.2.1 = numL n m ds k) (fun q => ds.length - q.2.2.2.2.toNat) _ ?_ (N0, S0, L0, [], 0) ⟨0, rfl, Nat.zero_le _, hR0, rfl⟩
    rintro ⟨N, S, L, l, q⟩ ⟨k, hq, hk, hR, hll⟩
    simp only at hq hR hll
    subst hq
    subst hll
    by_cases hlt : k < ds.length
    · left
      have hx := List.getElem?_eq_getElem hlt
      obtain ⟨N', S', L', e, hR'⟩ := Do_eq (hI.behind_ (ds.take k)) hR ds[k]
      have hg : ds.getD ((k : Nat) : Int).toNat (0, 0, 0, 0) = ds[k] := getD_of hx
      have hg2 : ds.getD k (0, 0, 0, 0) = ds[k] := getD_of hx
      have hlen : (numL n m ds k).length = k := by simp [numL]
      refine ⟨(N', S', L', numL n m ds (k + 1), (k : Int) + 1), ?_, ⟨k + 1, rfl, hlt, by rw [behind_succ hlt]; exact hR', rfl⟩, by simp; omega⟩
      unfold hazard_Play_b1
      dsimp only
      rw [if_pos (decide_eq_true (show ((k : Nat) : Int) < (ds.length : Int) by omega)), ck_pos (show (0 : Int) ≤ (k : Int) by omega), ck_pos (show ((k : Nat) : Int) < (ds.length : Int) by omega), hg, e, Option.bind_some, numL_succ, hg2]
      dsimp only
      have he := do_err n m (behind n m newM (ds.take k)) ds[k]
      by_cases h0 : (doA n m (behind n m newM (ds.take k)) ds[k]).2.1 = 0
      · rw [if_neg (by simp [h0]), ck_pos (by omega), ck_pos (inK_small (by omega))]
        unfold numA
        rw [if_pos h0]
      · rw [if_pos (nd_true h0), ck_pos (by rw [inK_i64]; omega), ck_pos (by omega), ck_pos (inK_small (by omega))]
        unfold numA
        rw [if_neg h0]
    · right
      have : k = ds.length := by omega
      subst this
      exact ⟨_, by unfold hazard_Play_b1; rw [if_neg (by simp)], rfl⟩
  obtain ⟨r, h1, rfl⟩ := key
  exact h1

theorem Play_no {a b : Int} (ds : List (Int × Int × Int × Int)) (h : ¬ ((1 ≤ a ∧ a ≤ 4) ∧ 1 ≤ b ∧ b ≤ 4) ∨ 100 < ds.length) : hazard_Play a b ds = some ([], 2) := by
  unfold hazard_Play
  by_cases h1 : (1 ≤ a ∧ a ≤ 4) ∧ 1 ≤ b ∧ b ≤ 4
  · obtain ⟨S0, e0, _⟩ := New_eq h1.1 h1.2
    rw [e0, Option.bind_some]
    dsimp only
    rw [if_pos (decide_eq_true (by rcases h with h | h; exact absurd h1 h; omega))]
  · rw [New_no h1, Option.bind_some]

theorem Play_eq (h1 : 1 ≤ n) (h2 : n ≤ 4) (h3 : 1 ≤ m) (h4 : m ≤ 4) (ds : List (Int × Int × Int × Int)) (hl : ds.length ≤ 100) : hazard_Play (n : Int) (m : Int) ds = some (numL n m ds ds.length, 0) := by
  obtain ⟨S0, e0, hR0⟩ := New_eq (a := (n : Int)) (b := (m : Int)) (by omega) (by omega)
  unfold hazard_Play
  rw [e0, Option.bind_some]
  dsimp only
  rw [if_neg (by simp; omega), play_loop (Iv.new h1 h2 h3 h4) hR0 ds hl, Option.bind_some]
  unfold hazard_Play_k1
  rfl

theorem plays_loop (hI : Iv n m newM) {X0 : El T66} {Y0 : List (Int × Int)} {Z0 : List (List Int)} (hR0 : Rr n X0 Y0 Z0 newM) (ds : List (Int × Int × Int × Int)) (hl : ds.length ≤ 100) :
    whileO (lineallaw06_HazardPlays_b1 (n : Int) (m : Int) ds (numL n m ds ds.length, 0)) (X0, Y0, Z0, 0) = some (Sum.inr ()) := by
  have key : ∃ r : Sum Unit Unit, whileO (lineallaw06_HazardPlays_b1 (n : Int) (m : Int) ds (numL n m ds ds.length, 0)) (X0, Y0, Z0, 0) = some r ∧ r = Sum.inr () := by
    refine whileO_inv (fun q : El T66 × List (Int × Int) × List (List Int) × Int => ∃ k : Nat, q.2.2.2 = (k : Int) ∧ k ≤ ds.length ∧ Rr n q.1 q.2.1 q.2.2.1 (behind n m newM (ds.take k))) (fun q => ds.length - q.2.2.2.toNat) _ ?_ (X0, Y0, Z0, 0) ⟨0, rfl, Nat.zero_le _, hR0⟩
    rintro ⟨X, Y, Z, q⟩ ⟨k, hq, hk, hR⟩
    simp only at hq hR
    subst hq
    by_cases hlt : k < ds.length
    · left
      have hx := List.getElem?_eq_getElem hlt
      obtain ⟨X', Y', Z', e, hR'⟩ := rDo_eq (hI.behind_ (ds.take k)) hR ds[k]
      have hg : ds.getD ((k : Nat) : Int).toNat (0, 0, 0, 0) = ds[k] := getD_of hx
      have hg2 : ds.getD k (0, 0, 0, 0) = ds[k] := getD_of hx
      have hlen : (numL n m ds ds.length).length = ds.length := by simp [numL]
      have hn : (numL n m ds ds.length).getD ((k : Nat) : Int).toNat 0 = numA (doA n m (behind n m newM (ds.take k)) ds[k]) := by
        refine getD_of ?_
        rw [Int.toNat_natCast]
        unfold numL
        rw [List.getElem?_map, List.getElem?_range hlt, Option.map_some, hg2]
      refine ⟨(X', Y', Z', (k : Int) + 1), ?_, ⟨k + 1, rfl, hlt, by rw [behind_succ hlt]; exact hR'⟩, by simp; omega⟩
      unfold lineallaw06_HazardPlays_b1
      dsimp only
      rw [if_pos (decide_eq_true (show ((k : Nat) : Int) < (ds.length : Int) by omega)), ck_pos (show (0 : Int) ≤ (k : Int) by omega), ck_pos (show ((k : Nat) : Int) < (ds.length : Int) by omega), hg, e, Option.bind_some]
      dsimp only
      have he := do_err n m (behind n m newM (ds.take k)) ds[k]
      by_cases h0 : (doA n m (behind n m newM (ds.take k)) ds[k]).2.1 = 0
      · have hna : numA (doA n m (behind n m newM (ds.take k)) ds[k]) = (doA n m (behind n m newM (ds.take k)) ds[k]).1 := if_pos h0
        rw [if_neg (by simp [h0]), ck_pos (show (0 : Int) ≤ (k : Int) by omega), ck_pos (by rw [hlen]; omega), hn, hna, if_neg (by simp), ck_pos (inK_small (by omega))]
      · have hna : numA (doA n m (behind n m newM (ds.take k)) ds[k]) = -(doA n m (behind n m newM (ds.take k)) ds[k]).2.1 := if_neg h0
        rw [if_pos (nd_true h0), ck_pos (by rw [inK_i64]; omega), ck_pos (show (0 : Int) ≤ (k : Int) by omega), ck_pos (by rw [hlen]; omega), hn, hna, if_neg (by simp), ck_pos (inK_small (by omega))]
    · right
      have : k = ds.length := by omega
      subst this
      exact ⟨Sum.inr (), by unfold lineallaw06_HazardPlays_b1; rw [if_neg (by simp)], rfl⟩
  obtain ⟨r, h1, rfl⟩ := key
  exact h1

theorem HazardPlays_eq (a b : Int) (ds : List (Int × Int × Int × Int)) : lineallaw06_HazardPlays a b ds = some true := by
  unfold lineallaw06_HazardPlays
  by_cases hl : 1000 < (ds.length : Int)
  · rw [if_pos (decide_eq_true hl), lineallaw06_Sane_run]; rfl
  · rw [if_neg (by simpa using hl)]
    by_cases hab : (1 ≤ a ∧ a ≤ 4) ∧ 1 ≤ b ∧ b ≤ 4
    · by_cases h100 : 100 < ds.length
      · rw [Play_no ds (.inr h100), Option.bind_some, rIsNew_eq, Option.bind_some, if_neg (by simp [hab]), if_pos (decide_eq_true (by omega))]
        dsimp only
        rw [if_pos (by simp), if_pos (by simp), lineallaw06_Sane_run]; rfl
      · obtain ⟨n, rfl⟩ : ∃ n : Nat, a = (n : Int) := ⟨a.toNat, by omega⟩
        obtain ⟨m, rfl⟩ : ∃ m : Nat, b = (m : Int) := ⟨b.toNat, by omega⟩
        have hlen : (numL n m ds ds.length).length = ds.length := by simp [numL]
        have hI : Iv n m newM := Iv.new (by omega) (by omega) (by omega) (by omega)
        rw [Play_eq (by omega) (by omega) (by omega) (by omega) ds (by omega), Option.bind_some, rIsNew_eq, Option.bind_some, if_neg (by simp [hab]), if_neg (by simp; omega)]
        dsimp only
        rw [if_neg (by simp), if_neg (by simp [hlen]), rNew_eq (by omega), Option.bind_some]
        dsimp only
        rw [plays_loop hI (Rr.new_ fun j hj => z66 hj) ds (by omega), Option.bind_some]
        unfold lineallaw06_HazardPlays_k1
        dsimp only
        rw [lineallaw06_Sane_run]; rfl
    · rw [Play_no ds (.inl hab), Option.bind_some, rIsNew_eq, Option.bind_some, if_pos (by simp [hab])]
      dsimp only
      rw [if_pos (by simp), if_pos (by simp), lineallaw06_Sane_run]; rfl

end
end Go.Proofs.YtcckpmeepcoafaaDoor
