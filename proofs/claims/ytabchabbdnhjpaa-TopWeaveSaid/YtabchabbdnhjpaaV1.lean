/-
  Layer 3, pure: letters, words, ties.
-/
import Derived.Test.YtabchabbdnhjpaaVp
import Derived.Test.YtabchabbdnhjpaaPk
namespace Go.Proofs.Ytabchabbdnhjpaa
open Go.RowKit

set_option linter.unusedVariables false
set_option linter.unusedSimpArgs false
set_option maxRecDepth 10000

/-! ### Loops over lists -/

theorem scan1 {α R : Type} (xs : List α) (I : Nat → Prop) (G : R → Prop) {body : Int → Option (Step Int R)} (h0 : I 0)
    (h : ∀ (k : Nat) (x : α), xs[k]? = some x → I k → (body k = some (.next ((k : Int) + 1)) ∧ I (k + 1)) ∨ ∃ r, body k = some (.done r) ∧ G r)
    (hd : I xs.length → ∃ r, body (xs.length : Int) = some (.done r) ∧ G r) : ∃ r, whileO body 0 = some r ∧ G r := by
  refine whileO_inv (S := Int) (fun s : Int => ∃ k : Nat, s = (k : Int) ∧ k ≤ xs.length ∧ I k) (fun s : Int => xs.length - s.toNat) G ?_ 0 ⟨0, rfl, Nat.zero_le _, h0⟩
  rintro s ⟨k, rfl, hk, hI⟩
  by_cases hlt : k < xs.length
  · rcases h k _ (List.getElem?_eq_getElem hlt) hI with ⟨h1, h2⟩ | h1
    · exact .inl ⟨_, h1, ⟨k + 1, by omega, by omega, h2⟩, by omega⟩
    · exact .inr h1
  · have : k = xs.length := by omega
    subst this
    exact .inr (hd hI)

theorem scan2 {α S R : Type} (xs : List α) (I : Nat → S → Prop) (G : R → Prop) {body : S × Int → Option (Step (S × Int) R)} {s0 : S} (h0 : I 0 s0)
    (h : ∀ (k : Nat) (x : α) (s : S), xs[k]? = some x → I k s → (∃ s', body (s, (k : Int)) = some (.next (s', (k : Int) + 1)) ∧ I (k + 1) s') ∨ ∃ r, body (s, (k : Int)) = some (.done r) ∧ G r)
    (hd : ∀ s, I xs.length s → ∃ r, body (s, (xs.length : Int)) = some (.done r) ∧ G r) : ∃ r, whileO body (s0, 0) = some r ∧ G r := by
  refine whileO_inv (S := S × Int) (fun s : S × Int => ∃ k : Nat, s.2 = (k : Int) ∧ k ≤ xs.length ∧ I k s.1) (fun s : S × Int => xs.length - s.2.toNat) G ?_ (s0, 0) ⟨0, rfl, Nat.zero_le _, h0⟩
  rintro ⟨s, q⟩ ⟨k, hq, hk, hI⟩
  simp only at hq hI
  subst hq
  by_cases hlt : k < xs.length
  · rcases h k _ s (List.getElem?_eq_getElem hlt) hI with ⟨s', h1, h2⟩ | h1
    · exact .inl ⟨_, h1, ⟨k + 1, by simp, by omega, h2⟩, by simp; omega⟩
    · exact .inr h1
  · have : k = xs.length := by omega
    subst this
    exact .inr (hd s hI)

/-- Lists that may come up: their length is a number. -/
def few {α : Type} (xs : List α) : Prop := xs.length ≤ 17592186044416

theorem few_in {α : Type} {xs : List α} (h : few xs) {k : Nat} {x : α} (hk : xs[k]? = some x) : k < xs.length ∧ InK .i64 ((k : Int) + 1) := by
  have hlt := (List.getElem?_eq_some_iff.1 hk).1
  unfold few at h
  exact ⟨hlt, by rw [inK_i64]; omega⟩

theorem take_one {α : Type} {xs : List α} {k : Nat} {x : α} (hk : xs[k]? = some x) : xs.take (k + 1) = xs.take k ++ [x] := by
  rw [List.take_add_one, hk]; rfl

/-! ### Letters and words -/
abbrev Ltr := Int × List (Int × Int)

def okPr (n : Int) (p : Int × Int) : Bool := decide (0 ≤ p.1) && decide (p.1 < p.2) && decide (p.2 < n)
def okL (l : Ltr) : Bool := decide (1 ≤ l.1) && decide (l.1 ≤ 6) && l.2.all (okPr l.1) && decide l.2.Nodup
def dep (l : Ltr) (a b : Int) : Bool := decide (a = b) || decide ((a, b) ∈ l.2) || decide ((b, a) ∈ l.2)
def isLet (l : Ltr) (a : Int) : Bool := decide (0 ≤ a) && decide (a < l.1)
def isWd (l : Ltr) (w : List Int) : Bool := decide (w.length ≤ 10) && w.all (isLet l)

theorem boolAt_set : ∀ (t : Ty) (x : El t) (i j : Nat) (v : Bool), allBool t = true → i < t.size → j < t.size → boolAt t (setBool t x i v) j = if i = j then v else boolAt t x j
  | .bool, x, i, j, v, _, hi, hj => by
    simp only [Ty.size] at hi hj
    have : i = j := by omega
    rw [if_pos this]; rfl
  | .unit, x, i, j, v, _, hi, hj => by simp [Ty.size] at hi
  | .pair a b, x, i, j, v, hk, hi, hj => by
    simp only [allBool, Bool.and_eq_true] at hk
    simp only [Ty.size] at hi hj
    show (if j < a.size then boolAt a (if i < a.size then (setBool a x.1 i v, x.2) else (x.1, setBool b x.2 (i - a.size) v) : El a × El b).1 j else boolAt b (if i < a.size then (setBool a x.1 i v, x.2) else (x.1, setBool b x.2 (i - a.size) v) : El a × El b).2 (j - a.size)) = if i = j then v else if j < a.size then boolAt a x.1 j else boolAt b x.2 (j - a.size)
    by_cases h1 : i < a.size <;> by_cases h2 : j < a.size
    · simp only [h1, h2, if_true]
      exact boolAt_set a x.1 i j v hk.1 h1 h2
    · simp only [h1, h2, if_true, if_false]
      rw [if_neg (by omega)]
    · simp only [h1, h2, if_true, if_false]
      rw [if_neg (by omega)]
    · simp only [h1, h2, if_false]
      rw [boolAt_set b x.2 _ _ v hk.2 (by omega) (by omega)]
      by_cases h : i = j
      · rw [if_pos (by omega), if_pos h]
      · rw [if_neg (by omega), if_neg h]

/-- What the ties say of two letters. -/
def tie (t : El T53) (a b : Int) : Bool := boolAt T53 t ((0 + a.toNat * 6) + b.toNat * 1)

theorem tie_set {t : El T53} {a b c d : Int} {v : Bool} (ha : 0 ≤ a ∧ a < 6) (hb : 0 ≤ b ∧ b < 6) (hc : 0 ≤ c ∧ c < 6) (hd : 0 ≤ d ∧ d < 6) :
    tie (setBool T53 t ((0 + a.toNat * 6) + b.toNat * 1) v) c d = if a = c ∧ b = d then v else tie t c d := by
  unfold tie
  rw [boolAt_set T53 t _ _ v rfl (by rw [T53_size]; omega) (by rw [T53_size]; omega)]
  by_cases h : a = c ∧ b = d
  · rw [if_pos h, if_pos (by rw [h.1, h.2])]
  · rw [if_neg h, if_neg]
    intro e
    apply h
    constructor <;> omega

/-- These are the ties of letters. -/
def Ties (l : Ltr) (t : El T53) : Prop := ∀ a b : Int, 0 ≤ a → a < 6 → 0 ≤ b → b < 6 → tie t a b = dep l a b

theorem diag_eq : ∃ t : El T53, whileO (weave_tiesOf_b1) ((Ty.dflt T53), 0) = some t ∧ ∀ a b : Int, 0 ≤ a → a < 6 → 0 ≤ b → b < 6 → tie t a b = decide (a = b) := by
  have h := scan2 (α := Nat) (List.range 6) (fun k (t : El T53) => ∀ a b : Int, 0 ≤ a → a < 6 → 0 ≤ b → b < 6 → tie t a b = (decide (a = b) && decide (a < k))) (fun t : El T53 => ∀ a b : Int, 0 ≤ a → a < 6 → 0 ≤ b → b < 6 → tie t a b = decide (a = b))
    (body := weave_tiesOf_b1) (s0 := Ty.dflt T53) ?_ ?_ ?_
  · exact h
  · intro a b h1 h2 h3 h4
    have : ∀ j : Fin 36, boolAt T53 (Ty.dflt T53) j.val = false := by decide
    have hj := this ⟨0 + a.toNat * 6 + b.toNat * 1, by omega⟩
    unfold tie
    rw [hj]
    simp; omega
  · intro k x t hk hI
    have hlt : k < 6 := by have := (List.getElem?_eq_some_iff.1 hk).1; simpa using this
    refine .inl ⟨setBool T53 t ((0 + (k : Int).toNat * 6) + (k : Int).toNat * 1) true, ?_, ?_⟩
    · unfold weave_tiesOf_b1
      rw [if_pos (by simp; omega), ck_pos (by simp), ck_pos (by simp; omega), ck_pos (by simp), ck_pos (by simp; omega), ck_pos (by rw [inK_i64]; simp; omega)]
    · intro a b h1 h2 h3 h4
      rw [tie_set (by omega) (by omega) ⟨h1, h2⟩ ⟨h3, h4⟩, hI a b h1 h2 h3 h4]
      split
      · rename_i h
        rw [Bool.eq_iff_iff]; simp; omega
      · rename_i h
        rw [Bool.eq_iff_iff]; simp; omega
  · intro t hI
    refine ⟨t, ?_, ?_⟩
    · unfold weave_tiesOf_b1; rw [if_neg (by simp)]
    · intro a b h1 h2 h3 h4
      rw [hI a b h1 h2 h3 h4]
      rw [Bool.eq_iff_iff]; simp; omega

theorem okPr_in {l : Ltr} {p : Int × Int} (hN : l.1 ≤ 6) (h : okPr l.1 p = true) : 0 ≤ p.1 ∧ p.1 < p.2 ∧ p.2 < l.1 := by
  unfold okPr at h
  simp only [Bool.and_eq_true, decide_eq_true_eq] at h
  exact ⟨h.1.1, h.1.2, h.2⟩

theorem tiesOf_eq (l : Ltr) (hf : few l.2) : ∃ r : El T53 × Bool, weave_tiesOf l = some r ∧ r.2 = okL l ∧ (okL l = true → Ties l r.1) := by
  unfold weave_tiesOf
  by_cases h1 : l.1 < 1
  · rw [if_pos (by simpa using h1)]
    exact ⟨_, rfl, by unfold okL; simp; omega, fun h => by unfold okL at h; simp at h; omega⟩
  rw [if_neg (by simpa using h1)]
  by_cases h6 : 6 < l.1
  · rw [if_pos (by simpa using h6)]
    exact ⟨_, rfl, by unfold okL; simp; omega, fun h => by unfold okL at h; simp at h; omega⟩
  rw [if_neg (by simpa using h6)]
  obtain ⟨t0, e0, ht0⟩ := diag_eq
  rw [e0, Option.bind_some]
  unfold weave_tiesOf_k1
  have hs := scan2 (R := Sum Unit (El T53)) l.2 (fun k (t : El T53) => (l.2.take k).all (okPr l.1) = true ∧ (l.2.take k).Nodup ∧ ∀ a b : Int, 0 ≤ a → a < 6 → 0 ≤ b → b < 6 → tie t a b = (decide (a = b) || decide ((a, b) ∈ l.2.take k) || decide ((b, a) ∈ l.2.take k)))
    (fun r => match r with | .inl _ => okL l = false | .inr t => okL l = true ∧ Ties l t) (body := weave_tiesOf_b2 l) (s0 := t0) ⟨by simp, by simp, fun a b q1 q2 q3 q4 => by rw [ht0 a b q1 q2 q3 q4]; simp⟩ ?_ ?_
  · obtain ⟨r, er, hr⟩ := hs
    rw [er, Option.bind_some]
    cases r with
    | inl u => exact ⟨_, rfl, by simp only at hr; rw [hr], fun h => by simp only at hr; rw [hr] at h; cases h⟩
    | inr t => exact ⟨_, rfl, by simp only at hr; rw [hr.1], fun _ => hr.2⟩
  · rintro k p t hk ⟨i1, i2, i3⟩
    obtain ⟨hlt, hin⟩ := few_in hf hk
    have hp : l.2.getD (k : Int).toNat (0, 0) = p := by rw [Int.toNat_natCast]; exact getD_of hk
    unfold weave_tiesOf_b2
    simp only [hp]
    rw [if_pos (by simpa using hlt), ck_pos (by simp), ck_pos (by simpa using hlt)]
    have bad : okPr l.1 p = false → okL l = false := fun h => by
      unfold okL
      have : l.2.all (okPr l.1) = false := by
        rw [List.all_eq_false]; exact ⟨p, List.mem_of_getElem? hk, by rw [h]; simp⟩
      rw [this]; simp
    by_cases c1 : p.1 < 0
    · rw [if_pos (by simpa using c1)]
      exact .inr ⟨_, rfl, bad (by unfold okPr; simp; omega)⟩
    rw [if_neg (by simpa using c1)]
    by_cases c2 : p.2 ≤ p.1
    · rw [if_pos (by simpa using c2)]
      exact .inr ⟨_, rfl, bad (by unfold okPr; simp; omega)⟩
    rw [if_neg (by simpa using c2)]
    by_cases c3 : l.1 ≤ p.2
    · rw [if_pos (by simpa using c3)]
      exact .inr ⟨_, rfl, bad (by unfold okPr; simp; omega)⟩
    rw [if_neg (by simpa using c3), ck_pos (by omega), ck_pos (by omega), ck_pos (by omega), ck_pos (by omega)]
    have ht := i3 p.1 p.2 (by omega) (by omega) (by omega) (by omega)
    have hrev : (p.2, p.1) ∉ l.2.take k := fun hm => by
      have := okPr_in (by omega) (List.all_eq_true.1 i1 _ hm)
      simp only at this; omega
    have e1 : boolAt T53 t ((0 + p.1.toNat * 6) + p.2.toNat * 1) = decide (p ∈ l.2.take k) := by
      have : boolAt T53 t ((0 + p.1.toNat * 6) + p.2.toNat * 1) = tie t p.1 p.2 := rfl
      rw [this, ht]
      have hne : ¬ p.1 = p.2 := by omega
      simp [hne, hrev]
    rw [e1]
    by_cases c4 : p ∈ l.2.take k
    · rw [if_pos (by simpa using c4)]
      refine .inr ⟨_, rfl, ?_⟩
      have : ¬ l.2.Nodup := fun hn => by
        have h1 : (l.2.take (k + 1)).Nodup := hn.sublist (List.take_sublist _ _)
        rw [take_one hk, List.nodup_append] at h1
        exact h1.2.2 p c4 p (by simp) rfl
      simp only [okL, this, decide_false, Bool.and_false]
    · rw [if_neg (by simpa using c4)]
      iterate 8 rw [ck_pos (by omega)]
      rw [ck_pos hin]
      refine .inl ⟨_, rfl, ?_, ?_, ?_⟩
      · rw [take_one hk, List.all_append, i1]
        have : okPr l.1 p = true := by unfold okPr; simp; omega
        simp [this]
      · rw [take_one hk, List.nodup_append]
        exact ⟨i2, by simp, fun a ha b hb => by simp at hb; subst hb; exact fun e => c4 (e ▸ ha)⟩
      · intro a b q1 q2 q3 q4
        rw [tie_set (by omega) (by omega) ⟨q1, q2⟩ ⟨q3, q4⟩, tie_set (by omega) (by omega) ⟨q1, q2⟩ ⟨q3, q4⟩, i3 a b q1 q2 q3 q4, take_one hk]
        obtain ⟨p1, p2⟩ := p
        simp only [List.mem_append, List.mem_singleton, Prod.mk.injEq]
        by_cases d1 : p2 = a ∧ p1 = b
        · rw [if_pos d1]; obtain ⟨rfl, rfl⟩ := d1; simp
        · rw [if_neg d1]
          by_cases d2 : p1 = a ∧ p2 = b
          · rw [if_pos d2]; obtain ⟨rfl, rfl⟩ := d2; simp
          · rw [if_neg d2]
            have n1 : ¬ (a = p1 ∧ b = p2) := fun h => d2 ⟨h.1.symm, h.2.symm⟩
            have n2 : ¬ (b = p1 ∧ a = p2) := fun h => d1 ⟨h.2.symm, h.1.symm⟩
            simp [n1, n2]
  · rintro t ⟨i1, i2, i3⟩
    rw [List.take_length] at i1 i2 i3
    unfold weave_tiesOf_b2
    rw [if_neg (by simp)]
    refine ⟨_, rfl, ?_, ?_⟩
    · unfold okL; rw [i1]; simp [i2]; omega
    · exact i3

end Go.Proofs.Ytabchabbdnhjpaa
