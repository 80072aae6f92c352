/-
  The abstract machine, 26: arrays as data; fuel of functions that call themselves. No program is named here.
-/
import Derived.Test.YtcijihofjcfpoabAv25
namespace Go.Proofs.Ytcijihofjcfpoab
open Go.RowKit

set_option linter.constructorNameAsVariable false
set_option linter.unusedVariables false
set_option linter.unusedSimpArgs false

/-- How deep functions that call themselves may go. -/
def fuel : Nat := 100

/-- n data of a type, one behind the other. -/
def prodT : Nat → Ty → Ty
  | 0, _ => .unit
  | 1, t => t
  | n + 2, t => .pair t (prodT (n + 1) t)

theorem prodT_size : ∀ (n : Nat) (t : Ty), (prodT n t).size = n * t.size
  | 0, t => by simp [prodT, Ty.size]
  | 1, t => by simp [prodT]
  | n + 2, t => by
    show t.size + (prodT (n + 1) t).size = (n + 2) * t.size
    rw [prodT_size (n + 1) t, Nat.add_mul (n + 1) 1 t.size]; omega

/-- The cells of data, not taken apart. -/
def cellsX (t : Ty) (x : El t) : List AVal := cellsOf t x

theorem cellsX_len (t : Ty) (x : El t) : (cellsX t x).length = t.size := cellsOf_len t x

/-- The number in a cell of dry data. -/
def intAt : (t : Ty) → El t → Nat → Int
  | .int _, n, _ => n
  | .bool, _, _ => 0
  | .unit, _, _ => 0
  | .pair a b, x, j => if j < a.size then intAt a x.1 j else intAt b x.2 (j - a.size)
  | .sl _, _, _ => 0
def boolAt : (t : Ty) → El t → Nat → Bool
  | .int _, _, _ => false
  | .bool, p, _ => p
  | .unit, _, _ => false
  | .pair a b, x, j => if j < a.size then boolAt a x.1 j else boolAt b x.2 (j - a.size)
  | .sl _, _, _ => false
def setInt : (t : Ty) → El t → Nat → Int → El t
  | .int _, _, _, v => v
  | .bool, p, _, _ => p
  | .unit, _, _, _ => ()
  | .pair a b, x, j, v => if j < a.size then (setInt a x.1 j v, x.2) else (x.1, setInt b x.2 (j - a.size) v)
  | .sl _, x, _, _ => x
def setBool : (t : Ty) → El t → Nat → Bool → El t
  | .int _, n, _, _ => n
  | .bool, _, _, v => v
  | .unit, _, _, _ => ()
  | .pair a b, x, j, v => if j < a.size then (setBool a x.1 j v, x.2) else (x.1, setBool b x.2 (j - a.size) v)
  | .sl _, x, _, _ => x

/-- All cells are numbers of this kind. -/
def allInt (k : IntKind) : Ty → Bool
  | .int q => q == k
  | .bool => false
  | .unit => true
  | .pair a b => allInt k a && allInt k b
  | .sl _ => false
def allBool : Ty → Bool
  | .int _ => false
  | .bool => true
  | .unit => true
  | .pair a b => allBool a && allBool b
  | .sl _ => false

theorem take_drop_app {α : Type} (l m : List α) (j : Nat) (h : j < l.length) : ((l ++ m).drop j).take 1 = (l.drop j).take 1 := by
  rw [List.drop_append_of_le_length (by omega), List.take_append_of_le_length (by simp; omega)]
theorem take_drop_app' {α : Type} (l m : List α) (j : Nat) (h : ¬ j < l.length) : ((l ++ m).drop j).take 1 = (m.drop (j - l.length)).take 1 := by
  rw [List.drop_append, List.drop_eq_nil_of_le (by omega), List.nil_append]

theorem cx_int {k : IntKind} : ∀ {t : Ty} (x : El t) {j : Nat}, allInt k t = true → j < t.size → ((cellsX t x).drop j).take 1 = [.int k (intAt t x j)]
  | .int q, x, j, hk, hj => by
    have e : q = k := by simpa [allInt] using hk
    subst e
    have : j = 0 := by simp only [Ty.size] at hj; omega
    subst this; rfl
  | .unit, x, j, hk, hj => by simp [Ty.size] at hj
  | .pair a b, x, j, hk, hj => by
    simp only [allInt, Bool.and_eq_true] at hk
    show ((cellsOf a x.1 ++ cellsOf b x.2).drop j).take 1 = [.int k (if j < a.size then _ else _)]
    have hl := cellsOf_len a x.1
    by_cases h : j < a.size
    · rw [if_pos h, take_drop_app _ _ _ (by omega)]
      exact cx_int x.1 hk.1 h
    · rw [if_neg h, take_drop_app' _ _ _ (by omega), hl]
      simp only [Ty.size] at hj
      exact cx_int x.2 hk.2 (by omega)
theorem cx_bool : ∀ {t : Ty} (x : El t) {j : Nat}, allBool t = true → j < t.size → ((cellsX t x).drop j).take 1 = [.bool (boolAt t x j)]
  | .bool, x, j, hk, hj => by
    have : j = 0 := by simp only [Ty.size] at hj; omega
    subst this; rfl
  | .unit, x, j, hk, hj => by simp [Ty.size] at hj
  | .pair a b, x, j, hk, hj => by
    simp only [allBool, Bool.and_eq_true] at hk
    show ((cellsOf a x.1 ++ cellsOf b x.2).drop j).take 1 = [.bool (if j < a.size then _ else _)]
    have hl := cellsOf_len a x.1
    by_cases h : j < a.size
    · rw [if_pos h, take_drop_app _ _ _ (by omega)]
      exact cx_bool x.1 hk.1 h
    · rw [if_neg h, take_drop_app' _ _ _ (by omega), hl]
      simp only [Ty.size] at hj
      exact cx_bool x.2 hk.2 (by omega)

theorem splice_app (l m us : List AVal) (j : Nat) (h : j + us.length ≤ l.length) : splice (l ++ m) j us = splice l j us ++ m := by
  unfold splice
  rw [List.take_append_of_le_length (by omega), List.drop_append_of_le_length (by omega)]; simp
theorem splice_app' (l m us : List AVal) (j : Nat) (h : l.length ≤ j) : splice (l ++ m) j us = l ++ splice m (j - l.length) us := by
  unfold splice
  rw [List.take_append, List.drop_append, List.take_of_length_le (by omega), List.drop_eq_nil_of_le (by omega), List.nil_append, show j + us.length - l.length = j - l.length + us.length by omega]; simp

theorem cx_setInt {k : IntKind} : ∀ {t : Ty} (x : El t) {j : Nat} (v : Int), allInt k t = true → j < t.size → splice (cellsX t x) j [.int k v] = cellsX t (setInt t x j v)
  | .int q, x, j, v, hk, hj => by
    have e : q = k := by simpa [allInt] using hk
    subst e
    have : j = 0 := by simp only [Ty.size] at hj; omega
    subst this; rfl
  | .unit, x, j, v, hk, hj => by simp [Ty.size] at hj
  | .pair a b, x, j, v, hk, hj => by
    simp only [allInt, Bool.and_eq_true] at hk
    have hl := cellsOf_len a x.1
    show splice (cellsOf a x.1 ++ cellsOf b x.2) j _ = cellsOf (.pair a b) (if j < a.size then _ else _)
    by_cases h : j < a.size
    · rw [if_pos h, splice_app _ _ _ _ (by simp; omega)]
      have := cx_setInt x.1 v hk.1 h
      unfold cellsX at this
      rw [this]; rfl
    · rw [if_neg h, splice_app' _ _ _ _ (by omega), hl]
      simp only [Ty.size] at hj
      have := cx_setInt x.2 (j := j - a.size) v hk.2 (by omega)
      unfold cellsX at this
      rw [this]; rfl
theorem cx_setBool : ∀ {t : Ty} (x : El t) {j : Nat} (v : Bool), allBool t = true → j < t.size → splice (cellsX t x) j [.bool v] = cellsX t (setBool t x j v)
  | .bool, x, j, v, hk, hj => by
    have : j = 0 := by simp only [Ty.size] at hj; omega
    subst this; rfl
  | .unit, x, j, v, hk, hj => by simp [Ty.size] at hj
  | .pair a b, x, j, v, hk, hj => by
    simp only [allBool, Bool.and_eq_true] at hk
    have hl := cellsOf_len a x.1
    show splice (cellsOf a x.1 ++ cellsOf b x.2) j _ = cellsOf (.pair a b) (if j < a.size then _ else _)
    by_cases h : j < a.size
    · rw [if_pos h, splice_app _ _ _ _ (by simp; omega)]
      have := cx_setBool x.1 v hk.1 h
      unfold cellsX at this
      rw [this]; rfl
    · rw [if_neg h, splice_app' _ _ _ _ (by omega), hl]
      simp only [Ty.size] at hj
      have := cx_setBool x.2 (j := j - a.size) v hk.2 (by omega)
      unfold cellsX at this
      rw [this]; rfl

/-! ### What is asked of cells -/

theorem idsL_cx (t : Ty) (x : El t) : AVal.idsL (cellsX t x) = [] := cellsOf_ids t x
theorem hasL_cx (t : Ty) (x : El t) (c : Nat) : AVal.hasL (cellsX t x) c = false := no_ids (cellsOf_ids t x) c

theorem renL_append (f : Nat → Nat) : ∀ (l m : List AVal), AVal.renL f (l ++ m) = AVal.renL f l ++ AVal.renL f m
  | [], m => rfl
  | x :: l, m => by simp [AVal.renL, renL_append f l m]
theorem renL_cx (f : Nat → Nat) : ∀ (t : Ty) (x : El t), AVal.renL f (cellsX t x) = cellsX t x
  | .int _, _ => rfl
  | .bool, _ => rfl
  | .unit, _ => rfl
  | .pair a b, x => by
    have h1 := renL_cx f a x.1
    have h2 := renL_cx f b x.2
    unfold cellsX at *
    simp only [cellsOf, renL_append, h1, h2]
  | .sl _, _ => rfl

theorem dryL_append : ∀ (l m : List AVal), AVal.dryL (l ++ m) = (AVal.dryL l && AVal.dryL m)
  | [], m => rfl
  | x :: l, m => by simp [AVal.dryL, dryL_append l m, Bool.and_assoc]
theorem dryL_cx : ∀ (t : Ty) (x : El t), AVal.dryL (cellsX t x) = t.dry
  | .int _, _ => rfl
  | .bool, _ => rfl
  | .unit, _ => rfl
  | .pair a b, x => by
    have h1 := dryL_cx a x.1
    have h2 := dryL_cx b x.2
    unfold cellsX at *
    simp only [cellsOf, dryL_append, h1, h2, Ty.dry]
  | .sl _, _ => rfl

theorem cell_cx (H : AHeap) : ∀ (t : Ty) (x : El t), (cellsX t x).all (AVal.cell H) = true
  | .int _, _ => rfl
  | .bool, _ => rfl
  | .unit, _ => rfl
  | .pair a b, x => by
    have h1 := cell_cx H a x.1
    have h2 := cell_cx H b x.2
    unfold cellsX at *
    simp only [cellsOf, List.all_append, h1, h2, Bool.and_self]
  | .sl _, _ => rfl

theorem toEl_app (H : AHeap) : ∀ (t : Ty) (x : El t) (r : List AVal), toEl H t (cellsX t x ++ r) = some (x, r)
  | .int k, _, _ => by simp [toEl, toInt, cellsX, cellsOf]
  | .bool, _, _ => by simp [toEl, toBool, cellsX, cellsOf]
  | .unit, _, _ => rfl
  | .pair a b, x, r => by
    have h1 := toEl_app H a x.1 (cellsX b x.2 ++ r)
    have h2 := toEl_app H b x.2 r
    unfold cellsX at *
    simp only [cellsOf, List.append_assoc, toEl, h1, h2]
  | .sl t, _, _ => by simp [toEl, toSl, cellsX, cellsOf]
theorem toEl_cx (H : AHeap) (t : Ty) (x : El t) : toEl H t (cellsX t x) = some (x, []) := by
  have := toEl_app H t x []
  rwa [List.append_nil] at this

theorem clean_cx (K : List Nat) (t : Ty) (x : El t) : (cellsX t x).map (AVal.clean K) = cellsX t x := by
  have : ∀ (l : List AVal), AVal.idsL l = [] → l.map (AVal.clean K) = l := by
    intro l
    induction l with
    | nil => intro _; rfl
    | cons y r ih =>
      intro h
      simp only [AVal.idsL, List.append_eq_nil_iff] at h
      rw [List.map_cons, ih h.2]
      have hy : y.clean K = y := by
        unfold AVal.clean
        rw [if_neg]
        intro hc
        obtain ⟨b, _, hb⟩ := List.any_eq_true.1 hc
        have := mem_ids y b hb
        rw [h.1] at this; cases this
      rw [hy]
  exact this _ (cellsOf_ids t x)

theorem LeL_append (H : AHeap) (D N : List Nat) (ρ : Nat → Nat) : ∀ (l l' m m' : List AVal), l.length = l'.length → (LeL H D N ρ (l ++ m) (l' ++ m') ↔ LeL H D N ρ l l' ∧ LeL H D N ρ m m')
  | [], [], m, m', _ => by simp [LeL]
  | x :: l, y :: l', m, m', h => by
    have := LeL_append H D N ρ l l' m m' (by simpa using h)
    simp only [List.cons_append, LeL, this, and_assoc]
  | [], _ :: _, _, _, h => by simp at h
  | _ :: _, [], _, _, h => by simp at h

theorem LeL_cx (H : AHeap) (D N : List Nat) (ρ : Nat → Nat) : ∀ (t : Ty) (x y : El t), LeL H D N ρ (cellsX t x) (cellsX t y) ↔ x = y
  | .int k, x, y => by simp [cellsX, cellsOf, LeL, LeV]
  | .bool, x, y => by simp [cellsX, cellsOf, LeL, LeV]
  | .unit, x, y => by simp [cellsX, cellsOf, LeL]
  | .pair a b, x, y => by
    have h1 := LeL_cx H D N ρ a x.1 y.1
    have h2 := LeL_cx H D N ρ b x.2 y.2
    unfold cellsX at *
    simp only [cellsOf]
    rw [LeL_append _ _ _ _ _ _ _ _ (by rw [cellsOf_len, cellsOf_len]), h1, h2]
    exact ⟨fun h => Prod.ext h.1 h.2, fun h => by subst h; exact ⟨rfl, rfl⟩⟩
  | .sl t, x, y => by simp [cellsX, cellsOf, LeL, LeV, castL_rfl]

theorem LeL_cons_cx (H : AHeap) (D N : List Nat) (ρ : Nat → Nat) (v : AVal) (l : List AVal) (t : Ty) (y : El t) : LeL H D N ρ (v :: l) (cellsX t y) = LeL H D N ρ (v :: l) (cellsOf t y) := rfl
theorem LeL_cx_cons (H : AHeap) (D N : List Nat) (ρ : Nat → Nat) (v : AVal) (l : List AVal) (t : Ty) (y : El t) : LeL H D N ρ (cellsX t y) (v :: l) = LeL H D N ρ (cellsOf t y) (v :: l) := rfl
theorem agg_cx (t : Ty) (x : El t) (w : AVal) : (AVal.agg (cellsX t x) = w) = (AVal.agg (cellsX t x) = w) := rfl

end Go.Proofs.Ytcijihofjcfpoab
