/-
  Layer 3, pure: the size of a class, reckoned from the front as the program does, is that which the reference reckons over sets of occurrences.
-/
import Derived.Test.YtabchabbdnhjpaaV13
namespace Go.Proofs.Ytabchabbdnhjpaa
open Go.RowKit

set_option linter.unusedVariables false
set_option linter.unusedSimpArgs false
set_option maxRecDepth 10000

/-! ### Bits -/

theorem ofInt_nat (a : Nat) (ha : a < 2 ^ 62) : (BitVec.ofInt 64 (a : Int)).toNat = a := by
  rw [BitVec.ofInt_natCast, BitVec.toNat_ofNat]
  exact Nat.mod_eq_of_lt (by omega)
theorem iand_nat {a b : Nat} (ha : a < 2 ^ 62) (hb : b < 2 ^ 62) : iand .i64 (a : Int) (b : Int) = ((a &&& b : Nat) : Int) := by
  unfold iand
  have e : IntKind.bits .i64 = 64 := rfl
  rw [e, BitVec.toNat_and, ofInt_nat a ha, ofInt_nat b hb]
  have := Nat.and_le_left (n := a) (m := b)
  exact wrap_in (by rw [inK_i64]; omega)
theorem ior_nat {a b : Nat} (ha : a < 2 ^ 62) (hb : b < 2 ^ 62) : ior .i64 (a : Int) (b : Int) = ((a ||| b : Nat) : Int) := by
  unfold ior
  have e : IntKind.bits .i64 = 64 := rfl
  rw [e, BitVec.toNat_or, ofInt_nat a ha, ofInt_nat b hb]
  have := Nat.or_lt_two_pow ha hb
  exact wrap_in (by rw [inK_i64]; omega)
theorem ishl_nat {i : Nat} (hi : i < 62) : ishl .i64 1 (i : Int) = ((2 ^ i : Nat) : Int) := by
  unfold ishl
  have e : IntKind.bits .i64 = 64 := rfl
  rw [e, Int.toNat_natCast, Nat.min_eq_left (by omega), Int.one_mul]
  have : 2 ^ i < 2 ^ 62 := Nat.pow_lt_pow_right (by omega) hi
  have e2 : ((2 : Int) ^ i) = ((2 ^ i : Nat) : Int) := by norm_cast
  rw [e2]
  generalize 2 ^ i = p at this
  exact wrap_in (by rw [inK_i64]; omega)
/-- A set without a number. -/
def cut (a i : Nat) : Nat := a &&& (2 ^ 64 - (2 ^ i + 1))
theorem cut_bit {a i : Nat} (ha : a < 2 ^ 62) (hi : i < 62) (j : Nat) : (cut a i).testBit j = (a.testBit j && !decide (j = i)) := by
  unfold cut
  have h1 : 2 ^ i < 2 ^ 64 := Nat.pow_lt_pow_right (by omega) (by omega)
  rw [Nat.testBit_and, Nat.testBit_two_pow_sub_succ h1, Nat.testBit_two_pow]
  by_cases hj : j < 64
  · have : decide (i = j) = decide (j = i) := decide_eq_decide.2 eq_comm
    simp [hj, this]
  · have : a.testBit j = false := Nat.testBit_lt_two_pow (Nat.lt_of_lt_of_le ha (Nat.pow_le_pow_right (by omega) (by omega)))
    simp [this]
theorem cut_le (a i : Nat) : cut a i ≤ a := Nat.and_le_left
theorem iandn_nat {a i : Nat} (ha : a < 2 ^ 62) (hi : i < 62) : iandn .i64 (a : Int) ((2 ^ i : Nat) : Int) = ((cut a i : Nat) : Int) := by
  unfold iandn
  have e : IntKind.bits .i64 = 64 := rfl
  have h2 : 2 ^ i < 2 ^ 62 := Nat.pow_lt_pow_right (by omega) hi
  rw [e, BitVec.toNat_and, BitVec.toNat_not, ofInt_nat a ha, ofInt_nat _ h2]
  have e2 : a &&& (2 ^ 64 - 1 - 2 ^ i) = cut a i := by unfold cut; rw [Nat.sub_sub, Nat.add_comm 1]
  rw [e2]
  have := cut_le a i
  exact wrap_in (by rw [inK_i64]; omega)
theorem cut_eq {a i : Nat} (ha : a < 2 ^ 62) (hi : i < 62) : cut a i = a ↔ a.testBit i = false := by
  constructor
  · intro h
    have := cut_bit ha hi i
    rw [h] at this
    simpa using this
  · intro h
    refine Nat.eq_of_testBit_eq fun j => ?_
    rw [cut_bit ha hi]
    by_cases e : j = i
    · subst e; rw [h]; rfl
    · simp [e]

/-! ### Occurrences -/

theorem dep_self25 (l : Ltr) (a : Int) : dep l a a = true := by simp [dep]
def wAt (w : List Int) (i : Nat) : Int := w.getD i 0
def woP (l : Ltr) (w : List Int) : List Nat → Int → Option (List Nat)
  | [], _ => none
  | i :: r, a => if wAt w i = a then some r else if dep l a (wAt w i) = true then none else (woP l w r a).map (i :: ·)
theorem woP_cons (l : Ltr) (w : List Int) (i : Nat) (r : List Nat) (a : Int) : woP l w (i :: r) a = if wAt w i = a then some r else if dep l a (wAt w i) = true then none else (woP l w r a).map (i :: ·) := rfl
theorem woP_map (l : Ltr) (w : List Int) : ∀ (q : List Nat) (a : Int), wo l (q.map (wAt w)) a = (woP l w q a).map (List.map (wAt w))
  | [], a => rfl
  | i :: r, a => by
    rw [List.map_cons]
    unfold wo woP
    split
    · rfl
    · split
      · rfl
      · rw [woP_map l w r a]
        cases woP l w r a <;> rfl

def TT (l : Ltr) (w : List Int) : (Int → Bool) → (List Nat → Int) → List Nat → Int
  | _, _, [] => 0
  | Q, G, i :: r => (if Q (wAt w i) = true then G r else 0) + TT l w (fun a => Q a && !dep l a (wAt w i)) (fun r' => G (i :: r')) r

theorem sum_zero {α : Type} {f : α → Int} : ∀ {xs : List α}, (∀ x ∈ xs, f x = 0) → (xs.map f).sum = 0
  | [], _ => rfl
  | x :: r, h => by rw [List.map_cons, List.sum_cons, h x (by simp), sum_zero fun y hy => h y (by simp [hy])]; rfl
theorem sum_add {α : Type} (f g : α → Int) : ∀ xs : List α, (xs.map fun x => f x + g x).sum = (xs.map f).sum + (xs.map g).sum
  | [] => rfl
  | x :: r => by simp only [List.map_cons, List.sum_cons]; rw [sum_add f g r]; omega
theorem sum_single {c v : Int} (h0 : 0 ≤ c) (h6 : c < 6) : ((List.range 6).map fun a : Nat => if (a : Int) = c then v else 0).sum = v := by
  have : c = 0 ∨ c = 1 ∨ c = 2 ∨ c = 3 ∨ c = 4 ∨ c = 5 := by omega
  rcases this with e | e | e | e | e | e <;> subst e <;> simp [List.range_succ]
theorem sum_fm {α β : Type} (f : α → Option β) (g : β → Int) : ∀ xs : List α, ((xs.filterMap f).map g).sum = (xs.map fun x => match f x with | some y => g y | none => 0).sum
  | [] => rfl
  | x :: r => by
    rw [List.filterMap_cons, List.map_cons, List.sum_cons, ← sum_fm f g r]
    cases f x with
    | none => simp
    | some y => simp

theorem sum_letters (l : Ltr) (w : List Int) : ∀ (q : List Nat), (∀ i ∈ q, 0 ≤ wAt w i ∧ wAt w i < 6) → ∀ (Q : Int → Bool) (G : List Nat → Int),
    ((List.range 6).map fun a : Nat => if Q (a : Int) = true then (match woP l w q (a : Int) with | some r => G r | none => 0) else 0).sum = TT l w Q G q
  | [], _, Q, G => by
    refine sum_zero fun a _ => ?_
    unfold woP
    split <;> rfl
  | i :: r, h, Q, G => by
    have hi := h i (by simp)
    unfold TT
    rw [← sum_letters l w r (fun j hj => h j (by simp [hj])) (fun a => Q a && !dep l a (wAt w i)) (fun r' => G (i :: r')), ← sum_single (v := if Q (wAt w i) = true then G r else 0) hi.1 hi.2, ← sum_add]
    congr 1
    refine List.map_congr_left fun a _ => ?_
    rw [woP_cons]
    by_cases e : (a : Int) = wAt w i
    · rw [← e]
      simp [dep_self25]
    · rw [if_neg e, if_neg (Ne.symm e)]
      cases hd : dep l (a : Int) (wAt w i) with
      | true => simp
      | false =>
        simp only [Bool.not_false, Bool.and_true, Int.zero_add, Bool.false_eq_true, if_false]
        split
        · cases woP l w r (a : Int) <;> rfl
        · rfl

theorem cnt_TT {l : Ltr} {w : List Int} {q : List Nat} (hq : q ≠ []) (h : ∀ i ∈ q, 0 ≤ wAt w i ∧ wAt w i < 6) : cntW l (q.map (wAt w)) = TT l w (fun _ => true) (fun r => cntW l (r.map (wAt w))) q := by
  rw [cntW_eq, if_neg (by simpa using hq), ← sum_letters l w q h]
  unfold startsL
  rw [sum_fm]
  congr 1
  refine List.map_congr_left fun a _ => ?_
  rw [woP_map]
  cases woP l w q (a : Int) <;> simp

theorem TT_sum (l : Ltr) (w : List Int) : ∀ (q : List Nat), q.Nodup → ∀ (Q : Int → Bool) (G : List Nat → Int),
    TT l w Q G q = (q.map fun i => if (Q (wAt w i) && (q.takeWhile fun j => decide (j ≠ i)).all fun j => !dep l (wAt w i) (wAt w j)) = true then G (q.erase i) else 0).sum
  | [], _, _, _ => rfl
  | i :: r, h, Q, G => by
    rw [List.nodup_cons] at h
    unfold TT
    rw [TT_sum l w r h.2, List.map_cons, List.sum_cons]
    congr 1
    · simp
    · congr 1
      refine List.map_congr_left fun j hj => ?_
      have hne : i ≠ j := fun e => by subst e; exact h.1 hj
      have e : ((i :: r).takeWhile fun k => decide (k ≠ j)) = i :: r.takeWhile fun k => decide (k ≠ j) := by rw [List.takeWhile_cons]; simp [hne]
      rw [e, List.all_cons, List.erase_cons_tail (by simpa using hne), Bool.and_assoc]

/-! ### Sets of occurrences -/

def pos (n S : Nat) : List Nat := ((List.range n).filter S.testBit).reverse
theorem pos_mem {n S i : Nat} : i ∈ pos n S ↔ i < n ∧ S.testBit i = true := by unfold pos; simp [List.mem_filter]
theorem pos_desc (n S : Nat) : (pos n S).Pairwise (· > ·) := by
  unfold pos
  rw [List.pairwise_reverse]
  exact List.Pairwise.filter _ List.pairwise_lt_range
theorem pos_nodup (n S : Nat) : (pos n S).Nodup := (pos_desc n S).imp fun h => by omega
theorem pos_cut {n S i : Nat} (hS : S < 2 ^ 62) (hi : i < 62) : (pos n S).erase i = pos n (cut S i) := by
  rw [(pos_nodup n S).erase_eq_filter]
  unfold pos
  rw [List.filter_reverse, List.filter_filter]
  congr 1
  refine List.filter_congr fun j _ => ?_
  rw [cut_bit hS hi, Bool.and_comm]
  congr 1
theorem take_desc : ∀ {q : List Nat}, q.Pairwise (· > ·) → ∀ {i : Nat}, i ∈ q → ∀ {j : Nat}, j ∈ (q.takeWhile fun j => decide (j ≠ i)) ↔ j ∈ q ∧ i < j
  | [], _, i, h, j => by cases h
  | k :: r, hp, i, h, j => by
    rw [List.pairwise_cons] at hp
    rw [List.takeWhile_cons]
    by_cases e : k = i
    · subst e
      rw [if_neg (by simp)]
      simp only [List.not_mem_nil, List.mem_cons, false_iff, not_and]
      rintro (g | g)
      · omega
      · have := hp.1 j g; omega
    · rw [if_pos (by simpa using e)]
      have hi : i ∈ r := by
        rcases List.mem_cons.1 h with g | g
        · exact absurd g.symm e
        · exact g
      rw [List.mem_cons, List.mem_cons, take_desc hp.2 hi]
      have := hp.1 i hi
      constructor
      · rintro (g | g)
        · subst g; exact ⟨.inl rfl, this⟩
        · exact ⟨.inr g.1, g.2⟩
      · rintro ⟨g | g, h2⟩
        · exact .inl g
        · exact .inr ⟨g, h2⟩

/-- What is in front of an occurrence and what it depends on is in the set, too. -/
def downB (l : Ltr) (w : List Int) (S : Nat) : Bool := (List.range w.length).all fun i => !S.testBit i || (List.range i).all fun k => !dep l (wAt w i) (wAt w k) || S.testBit k
theorem downB_iff {l : Ltr} {w : List Int} {S : Nat} : downB l w S = true ↔ ∀ i, i < w.length → S.testBit i = true → ∀ k, k < i → dep l (wAt w i) (wAt w k) = true → S.testBit k = true := by
  unfold downB
  rw [List.all_eq_true]
  constructor
  · intro h i hi hs k hk hd
    have h1 := h i (List.mem_range.2 hi)
    rw [hs, Bool.not_true, Bool.false_or, List.all_eq_true] at h1
    have h2 := h1 k (List.mem_range.2 hk)
    rw [hd] at h2
    simpa using h2
  · intro h i hi
    cases hs : S.testBit i with
    | false => rfl
    | true =>
      rw [Bool.not_true, Bool.false_or, List.all_eq_true]
      intro k hk
      cases hd : dep l (wAt w i) (wAt w k) with
      | false => rfl
      | true => rw [h i (List.mem_range.1 hi) hs k (List.mem_range.1 hk) hd]; rfl

/-- In how many orders the occurrences of a set can stand in front. -/
def ways (l : Ltr) (w : List Int) (S : Nat) : Int := if downB l w S = true then cntW l ((pos w.length S).map (wAt w)) else 0
def frees (l : Ltr) (w : List Int) (S i : Nat) : Bool := (List.range i).all fun k => !dep l (wAt w i) (wAt w k) || S.testBit k
theorem frees_iff {l : Ltr} {w : List Int} {S i : Nat} : frees l w S i = true ↔ ∀ k, k < i → dep l (wAt w i) (wAt w k) = true → S.testBit k = true := by
  unfold frees
  rw [List.all_eq_true]
  constructor
  · intro h k hk hd
    have h2 := h k (List.mem_range.2 hk)
    rw [hd] at h2
    simpa using h2
  · intro h k hk
    cases hd : dep l (wAt w i) (wAt w k) with
    | false => rfl
    | true => rw [h k (List.mem_range.1 hk) hd]; rfl
def term (l : Ltr) (w : List Int) (S i : Nat) : Int := if S.testBit i = true ∧ frees l w S i = true then ways l w (cut S i) else 0

theorem sum_if {α : Type} (p : α → Bool) (f : α → Int) : ∀ xs : List α, ((xs.filter p).map f).sum = (xs.map fun x => if p x = true then f x else 0).sum
  | [] => rfl
  | x :: r => by
    rw [List.filter_cons, List.map_cons, List.sum_cons, ← sum_if p f r]
    split <;> simp
theorem sum_rev {α : Type} (f : α → Int) (xs : List α) : (xs.reverse.map f).sum = (xs.map f).sum := by
  rw [List.map_reverse, List.sum_reverse]

theorem ways_sum {l : Ltr} {w : List Int} (hl : w.length ≤ 10) (hw : ∀ x ∈ w, 0 ≤ x ∧ x < 6) {S : Nat} (hS : S < 2 ^ w.length) (h0 : S ≠ 0) : ways l w S = ((List.range w.length).map (term l w S)).sum := by
  have hS62 : S < 2 ^ 62 := Nat.lt_of_lt_of_le hS (Nat.pow_le_pow_right (by omega) (by omega))
  have hat : ∀ i, i < w.length → 0 ≤ wAt w i ∧ wAt w i < 6 := fun i hi => by
    unfold wAt
    exact hw _ (getD_mem hi)
  unfold ways
  by_cases hd : downB l w S = true
  · rw [if_pos hd]
    have hne : pos w.length S ≠ [] := fun e => by
      apply h0
      refine Nat.eq_of_testBit_eq fun j => ?_
      rw [Nat.zero_testBit]
      cases hb : S.testBit j with
      | false => rfl
      | true =>
        exfalso
        have hj : j < w.length := by
          by_cases g : j < w.length
          · exact g
          · have := Nat.testBit_lt_two_pow (Nat.lt_of_lt_of_le hS (Nat.pow_le_pow_right (by omega) (Nat.le_of_not_lt g)))
            rw [hb] at this; cases this
        have : j ∈ pos w.length S := pos_mem.2 ⟨hj, hb⟩
        rw [e] at this; cases this
    rw [cnt_TT hne (fun i hi => hat i (pos_mem.1 hi).1), TT_sum l w _ (pos_nodup _ _)]
    have hp : pos w.length S = ((List.range w.length).filter S.testBit).reverse := rfl
    have step : ∀ F : Nat → Int, ((pos w.length S).map F).sum = ((List.range w.length).map fun i => if S.testBit i = true then F i else 0).sum := fun F => by
      rw [hp, sum_rev, sum_if]
    rw [step]
    congr 1
    refine List.map_congr_left fun i hi => ?_
    have hi := List.mem_range.1 hi
    unfold term
    by_cases hb : S.testBit i = true
    · have hfr : frees l w S i = true := frees_iff.2 (downB_iff.1 hd i hi hb)
      rw [if_pos hb, if_pos (show S.testBit i = true ∧ frees l w S i = true from ⟨hb, hfr⟩)]
      unfold ways
      rw [Bool.true_and, pos_cut hS62 (by omega)]
      have hiff : ((pos w.length S).takeWhile fun j => decide (j ≠ i)).all (fun j => !dep l (wAt w i) (wAt w j)) = downB l w (cut S i) := by
        rw [Bool.eq_iff_iff, List.all_eq_true, downB_iff]
        constructor
        · intro h j hj hbj k hk hdk
          rw [cut_bit hS62 (by omega), Bool.and_eq_true] at hbj ⊢
          refine ⟨downB_iff.1 hd j hj hbj.1 k hk hdk, ?_⟩
          by_cases e : k = i
          · exfalso
            subst e
            have := h j ((take_desc (pos_desc _ _) (pos_mem.2 ⟨hi, hb⟩)).2 ⟨pos_mem.2 ⟨hj, hbj.1⟩, hk⟩)
            rw [dep_symm, hdk] at this
            cases this
          · simp [e]
        · intro h j hj
          obtain ⟨h1, h2⟩ := (take_desc (pos_desc _ _) (pos_mem.2 ⟨hi, hb⟩)).1 hj
          obtain ⟨h3, h4⟩ := pos_mem.1 h1
          cases hdj : dep l (wAt w i) (wAt w j) with
          | false => rfl
          | true =>
            exfalso
            have := h j h3 (by rw [cut_bit hS62 (by omega), h4]; simp; omega) i h2 (by rw [dep_symm]; exact hdj)
            rw [cut_bit hS62 (by omega)] at this
            simp at this
      rw [hiff]
    · rw [if_neg hb, if_neg fun g => hb g.1]
  · rw [if_neg hd]
    refine (sum_zero fun i hi => ?_).symm
    have hi := List.mem_range.1 hi
    unfold term
    split
    · rename_i hc
      unfold ways
      rw [if_neg]
      intro hd'
      apply hd
      rw [downB_iff]
      intro j hj hbj k hk hdk
      by_cases e : j = i
      · subst e; exact frees_iff.1 hc.2 k hk hdk
      · have := downB_iff.1 hd' j hj (by rw [cut_bit hS62 (by omega), hbj]; simp [e]) k hk hdk
        rw [cut_bit hS62 (by omega), Bool.and_eq_true] at this
        exact this.1
    · rfl

theorem ways_zero (l : Ltr) (w : List Int) : ways l w 0 = 1 := by
  unfold ways
  have : pos w.length 0 = [] := by
    refine List.eq_nil_iff_forall_not_mem.2 fun i hi => ?_
    have := (pos_mem.1 hi).2
    simp at this
  rw [if_pos (downB_iff.2 fun i _ h => by simp at h), this, List.map_nil, cntW_eq, if_pos rfl]

theorem ways_full {l : Ltr} (hl : okL l = true) {w : List Int} (hw : isWd l w = true) : ways l w (2 ^ w.length - 1) = cntW l w := by
  have hb : ∀ i, (2 ^ w.length - 1).testBit i = decide (i < w.length) := fun i => Nat.testBit_two_pow_sub_one ..
  unfold ways
  rw [if_pos (downB_iff.2 fun i hi _ k hk _ => by rw [hb]; simp; omega)]
  have : (pos w.length (2 ^ w.length - 1)).map (wAt w) = w.reverse := by
    unfold pos
    rw [List.map_reverse]
    congr 1
    have : (List.range w.length).filter (2 ^ w.length - 1).testBit = List.range w.length := by
      rw [List.filter_eq_self]
      intro i hi
      rw [hb]; simpa using hi
    rw [this]
    refine List.ext_getElem (by simp) fun i h1 h2 => ?_
    simp [wAt, List.getD, h2]
  rw [this, cntW_reverse hl hw]

theorem ways_in {l : Ltr} {w : List Int} (hl : w.length ≤ 10) (S : Nat) : 0 ≤ ways l w S ∧ ways l w S ≤ 60466176 := by
  unfold ways
  split
  · refine cntW_in ?_
    rw [List.length_map]
    unfold pos
    rw [List.length_reverse]
    have := List.length_filter_le S.testBit (List.range w.length)
    rw [List.length_range] at this
    omega
  · omega
theorem term_in {l : Ltr} {w : List Int} (hl : w.length ≤ 10) (S i : Nat) : 0 ≤ term l w S i ∧ term l w S i ≤ 60466176 := by
  unfold term
  split
  · exact ways_in hl _
  · omega

end Go.Proofs.Ytabchabbdnhjpaa
