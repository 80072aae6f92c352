/-
  Fences, what they hold, and what they cost: on both sides.
-/
import Derived.Test.YtdicomoggfhbfaaD9
namespace Go.Proofs.Ytdicomoggfhbfaa
open Go.RowKit

set_option linter.unusedVariables false
set_option linter.unusedSimpArgs false

abbrev Fen : Type := Int × Int
def fens (x : Acs) : List Fen := (List.range x.length).flatMap fun (t : Nat) => (List.range ((x.getD t []).length - 1)).flatMap fun (g : Nat) => [((t : Int), (g : Int))]
def ltF (a b : Fen) : Prop := a.1 < b.1 ∨ (a.1 = b.1 ∧ a.2 < b.2)
def fitF (f : Fen) : Prop := InK .i64 f.1 ∧ InK .i64 f.2

theorem mem_fens {x : Acs} {f : Fen} : f ∈ fens x ↔ 0 ≤ f.1 ∧ f.1 < x.length ∧ 0 ≤ f.2 ∧ f.2 < ((x.getD f.1.toNat []).length : Int) - 1 := by
  unfold fens
  simp only [List.mem_flatMap, List.mem_range, List.mem_singleton]
  constructor
  · rintro ⟨t, ht, g, hg, rfl⟩
    simp only [Int.toNat_natCast]; omega
  · rintro ⟨h1, h2, h3, h4⟩
    refine ⟨f.1.toNat, by omega, f.2.toNat, by omega, ?_⟩
    rw [Int.toNat_of_nonneg h1, Int.toNat_of_nonneg h3]
theorem fens_asc (x : Acs) : (fens x).Pairwise ltF := by
  unfold fens
  rw [List.pairwise_flatMap]
  refine ⟨fun t _ => ?_, ?_⟩
  · rw [List.pairwise_flatMap]
    refine ⟨fun a _ => by simp, ?_⟩
    refine List.pairwise_lt_range.imp fun {b b'} h u hu v hv => ?_
    simp only [List.mem_singleton] at hu hv
    subst hu hv
    exact .inr ⟨rfl, by simp only; omega⟩
  · refine List.pairwise_lt_range.imp fun {t t'} h u hu v hv => ?_
    obtain ⟨b, _, hu⟩ := List.mem_flatMap.1 hu
    obtain ⟨b', _, hv⟩ := List.mem_flatMap.1 hv
    simp only [List.mem_singleton] at hu hv
    subst hu hv
    exact .inl (by simp only; omega)
theorem fens_len {x : Acs} (hv : vld x = true) : (fens x).length ≤ 9 := by
  have hlen := vld_len hv
  have hr := vld_row hv
  have gen : ∀ {β : Type} (n c m : Nat) (f : Nat → List β), n ≤ m → (∀ k, (f k).length ≤ c) → ((List.range n).flatMap f).length ≤ m * c := by
    intro β n c m f hn hf
    have := len_flat (List.range n) c f fun y _ => hf y
    rw [List.length_range] at this
    exact Nat.le_trans this (Nat.mul_le_mul_right c hn)
  unfold fens
  exact gen _ 3 3 _ hlen.2.1 fun t => gen _ 1 3 _ (by have := hr t; omega) fun g => by simp
theorem fens_loop {x : Acs} (hv : vld x = true) {b1 : List Fen × Int → Option (Step (List Fen × Int) (List Fen))} {b2 : List Fen × Int → List Fen × Int → Option (Step (List Fen × Int) (List Fen))}
    (h2 : ∀ (t g : Nat) (l1 l : List Fen), g < (x.getD t []).length - 1 → l.length ≤ 1000 → b2 (l1, (t : Int)) (l, (g : Int)) = some (.next (l ++ [((t : Int), (g : Int))], (g : Int) + 1)))
    (d2 : ∀ (t : Nat) (l1 l : List Fen), b2 (l1, (t : Int)) (l, (((x.getD t []).length - 1 : Nat) : Int)) = some (.done l))
    (h1 : ∀ (t : Nat) (l r : List Fen), t < x.length → whileO (b2 (l, (t : Int))) (l, 0) = some r → b1 (l, (t : Int)) = some (.next (r, (t : Int) + 1)))
    (d1 : ∀ (l : List Fen), b1 (l, (x.length : Int)) = some (.done l)) : whileO b1 ([], 0) = some (fens x) := by
  have hlen := vld_len hv
  have w2 : ∀ (t : Nat) (l : List Fen), l.length ≤ 900 → whileO (b2 (l, (t : Int))) (l, 0) = some (l ++ (List.range ((x.getD t []).length - 1)).flatMap fun (g : Nat) => [((t : Int), (g : Int))]) := fun t l hl =>
    appN _ 1 _ (fun k hk => by simp) l (fun k l' hk hl' => h2 t k l l' hk (by have := vld_row hv t; omega)) (fun l' => d2 t l l')
  have := appN x.length 3 (fun (t : Nat) => (List.range ((x.getD t []).length - 1)).flatMap fun (g : Nat) => [((t : Int), (g : Int))]) (fun k hk => by
    have := len_flat (List.range ((x.getD k []).length - 1)) 1 (fun (g : Nat) => [((k : Int), (g : Int))]) fun y _ => by simp
    rw [List.length_range] at this
    have := vld_row hv k
    omega) [] (body := b1) (fun k l' hk hl' => h1 k l' _ hk (w2 k l' (by simp at hl'; omega))) d1
  rw [this]; rfl

theorem fences_eq {x : Acs} (hv : vld x = true) : delay_accesses_fences x = some (fens x) := by
  unfold delay_accesses_fences
  have hlen := vld_len hv
  rw [fens_loop hv (b1 := delay_accesses_fences_b1 x) (b2 := delay_accesses_fences_b2 x)
    (fun t g l1 l hg hl => by
      have := vld_row hv t
      unfold delay_accesses_fences_b2
      dsimp only
      rw [Int.toNat_natCast, if_pos (decide_eq_true (by omega)), ck_pos (by omega), ck_pos (inK_nat20 (by omega))])
    (fun t l1 l => by
      unfold delay_accesses_fences_b2
      dsimp only
      rw [Int.toNat_natCast, if_neg (by rw [decide_eq_true_eq]; omega)])
    (fun t l r ht h => by
      have := vld_row hv t
      unfold delay_accesses_fences_b1
      dsimp only
      rw [h, Int.toNat_natCast, if_pos (decide_eq_true (by omega)), ck_pos (by omega), ck_pos (by omega), ck_pos (by rw [inK_i64]; omega), Option.bind_some]
      unfold delay_accesses_fences_k2
      rw [ck_pos (inK_nat20 (by omega))])
    (fun l => by unfold delay_accesses_fences_b1; rw [if_neg (by simp)]), Option.bind_some]
  rfl

/-! ### Which lists are fences -/
theorem ltF_irr {a : Fen} : ¬ ltF a a := by unfold ltF; omega

/-- One after the other, each behind the one in front of it. -/
def subB : List Fen → List Fen → Bool
  | [], _ => true
  | f :: l, all => match all.findIdx? (fun g => decide (f = g)) with
    | some k => subB l (all.drop (k + 1))
    | none => false

def areF (x : Acs) (l : List Fen) : Bool := subB l (fens x)
end Go.Proofs.Ytdicomoggfhbfaa
