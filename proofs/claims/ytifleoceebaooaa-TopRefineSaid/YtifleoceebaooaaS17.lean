/-
 Layer 5, pure: relations as lists of pairs, one behind the other.
-/
import Derived.Test.YtifleoceebaooaaS8
namespace Go.Proofs.Ytifleoceebaooaa

set_option linter.unusedVariables false
set_option linter.unusedSimpArgs false
set_option maxRecDepth 100000
set_option maxHeartbeats 1000000

theorem whileO_fin {S R : Type} {body : S → Option (Step S R)} {s : S} {r : R} (h : body s = some (.done r)) : whileO body s = some r := whileO_of (n := 1) (by unfold whileN; rw [h])
theorem whileO_next {S R : Type} {body : S → Option (Step S R)} {s s' : S} {r : R} (h : body s = some (.next s')) (k : whileO body s' = some r) : whileO body s = some r := by
 obtain ⟨n, hn⟩ := whileO_to k
 exact whileO_of (n := n + 1) (by unfold whileN; rw [h]; exact hn)

/-! ### Lists in ascending order -/

def pairB (n m : Int) (p : Int × Int) : Bool := decide (0 ≤ p.1 ∧ p.1 < n ∧ 0 ≤ p.2 ∧ p.2 < m)
def lexB (p q : Int × Int) : Bool := decide (p.1 < q.1 ∨ p.1 = q.1 ∧ p.2 < q.2)
def isRelB (n m : Int) (l : List (Int × Int)) : Bool := allB l.length fun i => pairB n m (l.getD i (0, 0)) && (decide (i = 0) || lexB (l.getD (i - 1) (0, 0)) (l.getD i (0, 0)))

theorem Compare2_eq (p q : Int × Int) : slices_Compare [p.1, p.2] q = some (if p.1 < q.1 then -1 else if q.1 < p.1 then 1 else if p.2 < q.2 then -1 else if q.2 < p.2 then 1 else 0) := by
 have b0 : slices_Compare_b1 [p.1, p.2] q 0 = some (if p.1 < q.1 then .done (.inl (-1)) else if q.1 < p.1 then .done (.inl 1) else .next 1) := by
  unfold slices_Compare_b1 slices_Compare_k2 cmp_Compare cmp_isNaN
  simp only [List.length_cons, List.length_nil, Option.bind_some]
  rw [if_pos (by simp), ck_pos (by omega), ck_pos (by simp), if_neg (by simp), ck_pos (by omega), ck_pos (by omega), if_pos (by simp)]
  by_cases h1 : p.1 < q.1
  ·simp [h1]
  ·by_cases h2 : q.1 < p.1
   ·simp [h1, h2]
   ·simp only [h1, h2, List.getD_cons_zero, decide_false, Bool.false_eq_true, if_false, Option.bind_some, decide_true, Bool.not_true]
    rw [ck_pos (by rw [inK_i64]; omega)]; rfl
 have b1 : slices_Compare_b1 [p.1, p.2] q 1 = some (if p.2 < q.2 then .done (.inl (-1)) else if q.2 < p.2 then .done (.inl 1) else .next 2) := by
  unfold slices_Compare_b1 slices_Compare_k2 cmp_Compare cmp_isNaN
  simp only [List.length_cons, List.length_nil, Option.bind_some]
  rw [if_pos (by simp), ck_pos (by omega), ck_pos (by simp), if_neg (by simp), ck_pos (by omega), ck_pos (by omega), if_neg (by simp)]
  by_cases h1 : p.2 < q.2
  ·simp [h1]
  ·by_cases h2 : q.2 < p.2
   ·simp [h1, h2]
   ·simp only [h1, h2, List.getD_cons_succ, List.getD_cons_zero, decide_false, Bool.false_eq_true, if_false, Option.bind_some, decide_true, Bool.not_true]
    rw [ck_pos (by rw [inK_i64]; omega)]; rfl
 have b2 : slices_Compare_b1 [p.1, p.2] q 2 = some (.done (.inr ())) := by
  unfold slices_Compare_b1
  rw [if_neg (by simp)]
 have k1 : slices_Compare_k1 [p.1, p.2] = some 0 := by
  unfold slices_Compare_k1
  rw [if_neg (by simp)]
 have fin : ∀ (v : Int), whileO (slices_Compare_b1 [p.1, p.2] q) 0 = some (.inl v) → slices_Compare [p.1, p.2] q = some v := fun v h => by
  unfold slices_Compare
  rw [h]; rfl
 by_cases h1 : p.1 < q.1
 ·rw [if_pos h1] at b0 ⊢
  exact fin _ (whileO_fin b0)
 rw [if_neg h1] at b0 ⊢
 by_cases h2 : q.1 < p.1
 ·rw [if_pos h2] at b0 ⊢
  exact fin _ (whileO_fin b0)
 rw [if_neg h2] at b0 ⊢
 by_cases h3 : p.2 < q.2
 ·rw [if_pos h3] at b1 ⊢
  exact fin _ (whileO_next b0 (whileO_fin b1))
 rw [if_neg h3] at b1 ⊢
 by_cases h4 : q.2 < p.2
 ·rw [if_pos h4] at b1 ⊢
  exact fin _ (whileO_next b0 (whileO_fin b1))
 rw [if_neg h4] at b1 ⊢
 unfold slices_Compare
 rw [whileO_next b0 (whileO_next b1 (whileO_fin b2))]
 exact k1

theorem isRel_eq (l : List (Int × Int)) (n m : Int) (hl : few l) : refine_isRelation l n m = some (isRelB n m l) := by
 unfold refine_isRelation isRelB
 have hL := loopB (body := refine_isRelation_b1 l n m) l.length (fun i => pairB n m (l.getD i (0, 0)) && (decide (i = 0) || lexB (l.getD (i - 1) (0, 0)) (l.getD i (0, 0)))) (fun k hk => by
  have hl' : l.length ≤ 17592186044416 := hl
  have ki : InK .i64 ((k : Int) + 1) := by rw [inK_i64]; omega
  unfold refine_isRelation_b1
  simp only [Int.toNat_natCast]
  rw [if_pos (by rw [decide_eq_true_eq]; omega), ck_pos (by omega), ck_pos (by omega)]
  obtain ⟨p, hp⟩ : ∃ p, l.getD k (0, 0) = p := ⟨_, rfl⟩
  simp only [hp]
  by_cases h1 : p.1 < 0
  ·rw [if_pos (by simpa using h1), if_neg (by simp [pairB]; omega)]
  rw [if_neg (by simpa using h1)]
  by_cases h2 : n ≤ p.1
  ·rw [if_pos (by simpa using h2), if_neg (by simp [pairB]; omega)]
  rw [if_neg (by simpa using h2)]
  by_cases h3 : p.2 < 0
  ·rw [if_pos (by simpa using h3), if_neg (by simp [pairB]; omega)]
  rw [if_neg (by simpa using h3)]
  by_cases h4 : m ≤ p.2
  ·rw [if_pos (by simpa using h4), if_neg (by simp [pairB]; omega)]
  rw [if_neg (by simpa using h4)]
  have hpb : pairB n m p = true := by simp [pairB]; omega
  rw [hpb, Bool.true_and]
  by_cases h5 : k = 0
  ·subst h5
   rw [if_neg (by decide), ck_pos ki]
   rfl
  ·obtain ⟨j, rfl⟩ : ∃ j, k = j + 1 := ⟨k - 1, by omega⟩
   have e1 : ((j + 1 : Nat) : Int) - 1 = (j : Int) := by omega
   rw [if_pos (by rw [decide_eq_true_eq]; omega), e1, ck_pos (by rw [inK_i64]; omega), ck_pos (by omega), ck_pos (by omega)]
   simp only [Int.toNat_natCast]
   rw [Compare2_eq, Option.bind_some, Nat.add_sub_cancel]
   obtain ⟨q, hq⟩ : ∃ q, l.getD j (0, 0) = q := ⟨_, rfl⟩
   simp only [hq]
   by_cases hlx : q.1 < p.1 ∨ q.1 = p.1 ∧ q.2 < p.2
   ·have : lexB q p = true := by simp only [lexB, decide_eq_true_eq]; exact hlx
    rw [this, Bool.or_true, if_pos rfl]
    have hneg : ¬ (0 ≤ (if q.1 < p.1 then (-1 : Int) else if p.1 < q.1 then 1 else if q.2 < p.2 then -1 else if p.2 < q.2 then 1 else 0)) := by
     rcases hlx with h | ⟨h, h'⟩
     ·rw [if_pos h]; decide
     ·rw [if_neg (by omega), if_neg (by omega), if_pos h']; decide
    rw [if_neg (by rw [decide_eq_true_eq]; exact hneg), ck_pos ki]
   ·have : lexB q p = false := by simp only [lexB, decide_eq_false_iff_not]; exact hlx
    have hpos : 0 ≤ (if q.1 < p.1 then (-1 : Int) else if p.1 < q.1 then 1 else if q.2 < p.2 then -1 else if p.2 < q.2 then 1 else 0) := by
     by_cases g1 : q.1 < p.1
     ·exact (hlx (.inl g1)).elim
     ·rw [if_neg g1]
      by_cases g2 : p.1 < q.1
      ·rw [if_pos g2]; decide
      ·rw [if_neg g2, if_neg (fun g3 => hlx (.inr ⟨by omega, g3⟩))]
       split <;> decide
    rw [if_pos (by rw [decide_eq_true_eq]; exact hpos), this, Bool.or_false, if_neg (by simp)]) (by
  unfold refine_isRelation_b1
  rw [if_neg (by rw [decide_eq_true_eq]; omega)])
 rw [hL, Option.bind_some]
 cases allB l.length fun i => pairB n m (l.getD i (0, 0)) && (decide (i = 0) || lexB (l.getD (i - 1) (0, 0)) (l.getD i (0, 0))) <;> rfl

theorem refisRel_eq (l : List (Int × Int)) (n m : Int) (hl : few l) : linealref05_isRelation l n m = some (isRelB n m l) := by
 unfold linealref05_isRelation isRelB
 have hL := loopB (body := linealref05_isRelation_b1 l n m) l.length (fun i => pairB n m (l.getD i (0, 0)) && (decide (i = 0) || lexB (l.getD (i - 1) (0, 0)) (l.getD i (0, 0)))) (fun k hk => by
  have hl' : l.length ≤ 17592186044416 := hl
  have ki : InK .i64 ((k : Int) + 1) := by rw [inK_i64]; omega
  unfold linealref05_isRelation_b1
  simp only [Int.toNat_natCast]
  rw [if_pos (by rw [decide_eq_true_eq]; omega), ck_pos (by omega), ck_pos (by omega)]
  obtain ⟨p, hp⟩ : ∃ p, l.getD k (0, 0) = p := ⟨_, rfl⟩
  simp only [hp]
  by_cases h1 : p.1 < 0
  ·rw [if_pos (by simpa using h1), if_neg (by simp [pairB]; omega)]
  rw [if_neg (by simpa using h1)]
  by_cases h2 : n ≤ p.1
  ·rw [if_pos (by simpa using h2), if_neg (by simp [pairB]; omega)]
  rw [if_neg (by simpa using h2)]
  by_cases h3 : p.2 < 0
  ·rw [if_pos (by simpa using h3), if_neg (by simp [pairB]; omega)]
  rw [if_neg (by simpa using h3)]
  by_cases h4 : m ≤ p.2
  ·rw [if_pos (by simpa using h4), if_neg (by simp [pairB]; omega)]
  rw [if_neg (by simpa using h4)]
  have hpb : pairB n m p = true := by simp [pairB]; omega
  rw [hpb, Bool.true_and]
  by_cases h5 : k = 0
  ·subst h5
   rw [if_neg (by decide), ck_pos ki]
   rfl
  ·obtain ⟨j, rfl⟩ : ∃ j, k = j + 1 := ⟨k - 1, by omega⟩
   have e1 : ((j + 1 : Nat) : Int) - 1 = (j : Int) := by omega
   have kj : InK .i64 (j : Int) := by rw [inK_i64]; omega
   rw [if_pos (by rw [decide_eq_true_eq]; omega), e1, ck_pos kj, ck_pos (by omega), ck_pos (by omega)]
   simp only [Int.toNat_natCast]
   rw [Nat.add_sub_cancel]
   obtain ⟨q, hq⟩ : ∃ q, l.getD j (0, 0) = q := ⟨_, rfl⟩
   simp only [hq]
   by_cases g1 : p.1 < q.1
   ·rw [if_pos (by simpa using g1), if_neg (by simp [lexB]; omega)]
   rw [if_neg (by simpa using g1), ck_pos kj, ck_pos (by omega), ck_pos (by omega)]
   by_cases g2 : p.1 = q.1
   ·rw [if_pos (by simpa using g2), ck_pos kj, ck_pos (by omega), ck_pos (by omega)]
    by_cases g3 : p.2 ≤ q.2
    ·rw [if_pos (by simpa using g3), if_neg (by simp [lexB]; omega)]
    ·rw [if_neg (by simpa using g3), ck_pos ki, if_pos (by simp [lexB]; omega)]
   ·rw [if_neg (by simpa using g2), ck_pos ki, if_pos (by simp [lexB]; omega)]) (by
  unfold linealref05_isRelation_b1
  rw [if_neg (by rw [decide_eq_true_eq]; omega)])
 rw [hL, Option.bind_some]
 cases allB l.length fun i => pairB n m (l.getD i (0, 0)) && (decide (i = 0) || lexB (l.getD (i - 1) (0, 0)) (l.getD i (0, 0))) <;> rfl

/-! ### Marks gathered along a list of pairs -/

def accM (L : List (Nat × Nat)) (g : Nat × Nat → Nat) (x : Nat) : Nat := L.foldl (fun m p => if p.1 = x then m ||| g p else m) 0

theorem accM_snoc (L : List (Nat × Nat)) (g : Nat × Nat → Nat) (p : Nat × Nat) (x : Nat) : accM (L ++ [p]) g x = if x = p.1 then accM L g x ||| g p else accM L g x := by
 unfold accM
 rw [List.foldl_append]
 simp only [List.foldl_cons, List.foldl_nil]
 by_cases h : p.1 = x
 ·rw [if_pos h, if_pos h.symm]
 ·rw [if_neg h, if_neg (fun e => h e.symm)]

theorem accM_bit {g : Nat × Nat → Nat} {x j : Nat} : ∀ {L : List (Nat × Nat)}, (accM L g x).testBit j = true ↔ ∃ p ∈ L, p.1 = x ∧ (g p).testBit j = true := by
 intro L
 have key : ∀ (L : List (Nat × Nat)) (a : Nat), (L.foldl (fun m p => if p.1 = x then m ||| g p else m) a).testBit j = true ↔ a.testBit j = true ∨ ∃ p ∈ L, p.1 = x ∧ (g p).testBit j = true := by
  intro L
  induction L with
  | nil => intro a; simp
  | cons p L ih =>
   intro a
   rw [List.foldl_cons, ih]
   by_cases h : p.1 = x
   ·rw [if_pos h, Nat.testBit_or, Bool.or_eq_true]
    constructor
    ·rintro ((h1 | h1) | ⟨q, h1, h2⟩)
     ·exact .inl h1
     ·exact .inr ⟨p, List.mem_cons_self .., h, h1⟩
     ·exact .inr ⟨q, List.mem_cons_of_mem _ h1, h2⟩
    ·rintro (h1 | ⟨q, h1, h2, h3⟩)
     ·exact .inl (.inl h1)
     ·rcases List.mem_cons.1 h1 with rfl | h1
      ·exact .inl (.inr h3)
      ·exact .inr ⟨q, h1, h2, h3⟩
   ·rw [if_neg h]
    constructor
    ·rintro (h1 | ⟨q, h1, h2⟩)
     ·exact .inl h1
     ·exact .inr ⟨q, List.mem_cons_of_mem _ h1, h2⟩
    ·rintro (h1 | ⟨q, h1, h2, h3⟩)
     ·exact .inl h1
     ·rcases List.mem_cons.1 h1 with rfl | h1
      ·exact (h h2).elim
      ·exact .inr ⟨q, h1, h2, h3⟩
 have := key L 0
 simpa [accM] using this

/-- The program's loops that add marks. -/
theorem gather {L : List (Nat × Nat)} {g : Nat × Nat → Nat} (hL : ∀ p ∈ L, p.1 < 6) (hg : ∀ p ∈ L, g p < 64) {body : El T94 × Int → Option (Step (El T94 × Int) (El T94))} {T0 : El T94} {R0 : Nat → Nat} (h0 : Rep T0 R0)
  (hb : ∀ (k : Nat) (p : Nat × Nat) (T : El T94), L[k]? = some p → body (T, (k : Int)) = some (.next (setInt T94 T p.1 (ior .u8 (intAt T94 T p.1) ((g p : Nat) : Int)), (k : Int) + 1)))
  (hd : ∀ T : El T94, body (T, (L.length : Int)) = some (.done T)) : ∃ T, whileO body (T0, 0) = some T ∧ Rep T fun x => R0 x ||| accM L g x := by
 obtain ⟨r, e1, h⟩ := scan2 (R := El T94) L (fun k T => Rep T fun x => R0 x ||| accM (L.take k) g x) (fun T => Rep T fun x => R0 x ||| accM L g x) (body := body) (s0 := T0) (by simpa [accM] using h0)
  (fun k p T hk hI => by
   refine .inl ⟨_, hb k p T hk, ?_⟩
   have hm := List.mem_of_getElem? hk
   have h6 := hL p hm
   have hl := hI.lt p.1
   rw [hI.has p.1 h6, or_u8 _ hl _ (hg p hm), take_one hk]
   have := rep_set hI h6 (or_lt (n := 6) hl (hg p hm))
   refine ⟨fun i hi => ?_, fun i => ?_, fun i hi => ?_⟩
   ·rw [this.has i hi, accM_snoc]
    by_cases e : i = p.1
    ·subst e; rw [if_pos rfl, if_pos rfl, Nat.or_assoc]
    ·rw [if_neg e, if_neg e]
   ·have h9 := this.lt i
    rw [accM_snoc]
    by_cases e : i = p.1
    ·subst e; rw [if_pos rfl] at h9 ⊢; rwa [← Nat.or_assoc]
    ·rw [if_neg e] at h9 ⊢; exact h9
   ·have h9 := this.out i hi
    rw [accM_snoc]
    have e : i ≠ p.1 := by omega
    rw [if_neg e] at h9 ⊢; exact h9)
  (fun T hI => ⟨T, hd T, by rwa [List.take_length] at hI⟩)
 exact ⟨r, e1, h⟩

theorem relOf_eq {L : List (Nat × Nat)} (hL : ∀ p ∈ L, p.1 < 6 ∧ p.2 < 6) (hf : few L) : ∃ T, refine_relationOf (L.map pin) = some T ∧ Rep T (accM L fun p => 2 ^ p.2) := by
 have hg : ∀ p ∈ L, 2 ^ p.2 < 64 := fun p hp => Nat.pow_lt_pow_right (by omega) (hL p hp).2
 obtain ⟨T, e, h⟩ := gather (L := L) (g := fun p => 2 ^ p.2) (fun p hp => (hL p hp).1) hg (body := refine_relationOf_b1 (L.map pin)) rep_zero
  (fun k p T hk => by
   have hlt := (List.getElem?_eq_some_iff.1 hk).1
   obtain ⟨_, ki⟩ := few_in hf hk
   have hp := hL p (List.mem_of_getElem? hk)
   have hgd : (L.map pin).getD k (0, 0) = ((p.1 : Int), (p.2 : Int)) := getD_of (by rw [List.getElem?_map, hk]; rfl)
   unfold refine_relationOf_b1
   simp only [Int.toNat_natCast, hgd, List.length_map]
   rw [if_pos (by rw [decide_eq_true_eq]; omega), ck_pos (by omega), ck_pos (by omega), ck_pos (by omega), ck_pos (by omega), ck_pos (by omega), ck_pos (by omega), ck_pos (by omega), ck_pos ki]
   simp only [Nat.zero_add, Nat.mul_one]
   rw [shl_u8 p.2 hp.2])
  (fun T => by
   unfold refine_relationOf_b1
   rw [if_neg (by simp)])
 unfold refine_relationOf
 rw [e, Option.bind_some]
 refine ⟨T, rfl, ?_⟩
 have : (fun x => 0 ||| accM L (fun p => 2 ^ p.2) x) = accM L fun p => 2 ^ p.2 := by funext x; rw [Nat.zero_or]
 rwa [this] at h

theorem composed_eq {T S : El T94} {R Q : Nat → Nat} (h : Rep T R) (k : Rep S Q) : ∃ U, refine_relation_composed T S = some U ∧ Rep U (accM (relK R 6) fun p => Q p.2) := by
 have hm : ∀ p ∈ relK R 6, p.1 < 6 ∧ p.2 < 6 := fun p hp => by
  obtain ⟨h1, h2, _⟩ := relK_mem.1 hp
  exact ⟨h1, h2⟩
 obtain ⟨U, e, hU⟩ := gather (L := relK R 6) (g := fun p => Q p.2) (fun p hp => (hm p hp).1) (fun p _ => k.lt _) (body := refine_relation_composed_b1 S ((relK R 6).map pin)) rep_zero
  (fun j p U hk => by
   have hlt := (List.getElem?_eq_some_iff.1 hk).1
   have hl := relK_len R 6
   have ki : InK .i64 ((j : Int) + 1) := by rw [inK_i64]; omega
   have hp := hm p (List.mem_of_getElem? hk)
   have hgd : ((relK R 6).map pin).getD j (0, 0) = ((p.1 : Int), (p.2 : Int)) := getD_of (by rw [List.getElem?_map, hk]; rfl)
   unfold refine_relation_composed_b1
   simp only [Int.toNat_natCast, hgd, List.length_map]
   rw [if_pos (by rw [decide_eq_true_eq]; omega), ck_pos (by omega), ck_pos (by omega), ck_pos (by omega), ck_pos (by omega), ck_pos (by omega), ck_pos (by omega), ck_pos (by omega), ck_pos (by omega), ck_pos ki]
   simp only [Nat.zero_add, Nat.mul_one]
   rw [k.has p.2 hp.2])
  (fun U => by
   unfold refine_relation_composed_b1
   rw [if_neg (by simp)])
 unfold refine_relation_composed
 rw [list_eq h, Option.bind_some, e, Option.bind_some]
 refine ⟨U, rfl, ?_⟩
 have : (fun x => 0 ||| accM (relK R 6) (fun p => Q p.2) x) = accM (relK R 6) fun p => Q p.2 := by funext x; rw [Nat.zero_or]
 rwa [this] at hU

/-! ### The reference's relations -/

/-- What a list of marks holds. -/
structure RepL (k : Nat) (ps : List Int) (R : Nat → Nat) : Prop where
 len : ps.length = k
 has : ∀ i, i < k → ps.getD i 0 = ((R i : Nat) : Int)
 lt : ∀ i, R i < 64
 out : ∀ i, k ≤ i → R i = 0

theorem repL_set {k : Nat} {ps : List Int} {R : Nat → Nat} (h : RepL k ps R) {i m : Nat} (hi : i < k) (hm : m < 64) : RepL k (ps.set i (m : Int)) fun j => if j = i then m else R j := by
 refine ⟨by rw [List.length_set, h.len], fun j hj => ?_, fun j => ?_, fun j hj => ?_⟩
 ·rw [List.getD_eq_getElem?_getD, List.getElem?_set]
  by_cases e : i = j
  ·subst e
   rw [if_pos rfl, if_pos (by rw [h.len]; exact hi), if_pos rfl]; rfl
  ·rw [if_neg e, if_neg (fun e' => e e'.symm), ← List.getD_eq_getElem?_getD]; exact h.has j hj
 ·split
  ·exact hm
  ·exact h.lt j
 ·rw [if_neg (by omega)]; exact h.out j hj

theorem repL_zero (k : Nat) : RepL k (List.replicate k 0) fun _ => 0 := by
 refine ⟨List.length_replicate, fun i hi => ?_, fun _ => by omega, fun _ _ => rfl⟩
 rw [List.getD_eq_getElem?_getD, List.getElem?_replicate]
 split <;> rfl

theorem reflist_eq {m : Nat} (hm : m < 64) : linealref05_list (m : Int) = some ((bitsL m).map fun (i : Nat) => (i : Int)) := by
 obtain ⟨r, e1, h⟩ := scan2 (R := List Int) (List.range 6) (fun k (o : List Int) => o = (((List.range k).filter m.testBit).map fun (i : Nat) => (i : Int))) (fun r => r = (bitsL m).map fun (i : Nat) => (i : Int)) (body := linealref05_list_b1 (m : Int)) (s0 := []) rfl
  (fun k z o hk hI => by
   have hlt := (List.getElem?_eq_some_iff.1 hk).1
   rw [List.length_range] at hlt
   have ki : InK .i64 ((k : Int) + 1) := by rw [inK_i64]; omega
   have hol : o.length ≤ k := by
    rw [hI, List.length_map]
    have := List.length_filter_le m.testBit (List.range k)
    rwa [List.length_range] at this
   refine .inl ⟨((List.range (k + 1)).filter m.testBit).map fun (i : Nat) => (i : Int), ?_, rfl⟩
   unfold linealref05_list_b1
   simp only
   rw [if_pos (by rw [decide_eq_true_eq]; omega), ck_pos (by omega), bits_i64 m hm k hlt, List.range_succ, List.filter_append, List.map_append]
   cases hb : m.testBit k with
   | true => rw [if_pos rfl, ck_pos (by omega), ck_pos ki, hI]; simp [hb]
   | false => rw [if_neg (by simp), ck_pos ki, hI]; simp [hb])
  (fun o hI => by
   refine ⟨o, ?_, hI⟩
   unfold linealref05_list_b1
   rw [if_neg (by simp)])
 unfold linealref05_list
 rw [e1, Option.bind_some, h]
 rfl

theorem refrel_in {m : Nat} (i : Nat) (out : List (Int × Int)) (ho : out.length ≤ 100) : whileO (linealref05_relation_b2 (out, (i : Int)) ((bitsL m).map fun (j : Nat) => (j : Int))) (out, 0) = some (out ++ ((bitsL m).map fun j => (i, j)).map pin) := by
 have hb := bitsL_len m
 obtain ⟨r, e1, h⟩ := scan2 (R := List (Int × Int)) (bitsL m) (fun k o => o = out ++ (((bitsL m).take k).map fun j => (i, j)).map pin) (fun r => r = out ++ ((bitsL m).map fun j => (i, j)).map pin) (body := linealref05_relation_b2 (out, (i : Int)) ((bitsL m).map fun (j : Nat) => (j : Int))) (s0 := out) (by simp)
  (fun k j o hk hI => by
   have hlt := (List.getElem?_eq_some_iff.1 hk).1
   have ki : InK .i64 ((k : Int) + 1) := by rw [inK_i64]; omega
   have hol : o.length ≤ 106 := by
    rw [hI, List.length_append, List.length_map, List.length_map, List.length_take]; omega
   have hg : ((bitsL m).map fun (j : Nat) => (j : Int)).getD k 0 = (j : Int) := getD_of (by rw [List.getElem?_map, hk]; rfl)
   refine .inl ⟨o ++ [((i : Int), (j : Int))], ?_, ?_⟩
   ·unfold linealref05_relation_b2
    simp only [Int.toNat_natCast, hg, List.length_map]
    rw [if_pos (by rw [decide_eq_true_eq]; omega), ck_pos (by omega), ck_pos (by omega), ck_pos (by omega), ck_pos ki]
   ·rw [hI, take_one hk, List.map_append, List.map_append, List.append_assoc]; rfl)
  (fun o hI => by
   refine ⟨o, ?_, by rw [hI, List.take_length]⟩
   unfold linealref05_relation_b2
   simp only [List.length_map]
   rw [if_neg (by rw [decide_eq_true_eq]; omega)])
 rw [e1, h]

theorem refrel_eq {n : Nat} {ps : List Int} {R : Nat → Nat} (hn : n ≤ 6) (h : RepL n ps R) : linealref05_relation ps = some ((relK R n).map pin) := by
 obtain ⟨r, e1, h⟩ := scan2 (R := List (Int × Int)) (List.range n) (fun k o => o = (relK R k).map pin) (fun r => r = (relK R n).map pin) (body := linealref05_relation_b1 ps) (s0 := []) (by simp [relK])
  (fun k z o hk hI => by
   have hlt := (List.getElem?_eq_some_iff.1 hk).1
   rw [List.length_range] at hlt
   have ki : InK .i64 ((k : Int) + 1) := by rw [inK_i64]; omega
   have hol := relK_len R k
   refine .inl ⟨(relK R (k + 1)).map pin, ?_, rfl⟩
   unfold linealref05_relation_b1
   simp only [Int.toNat_natCast]
   rw [h.len, if_pos (by rw [decide_eq_true_eq]; omega), ck_pos (by omega), ck_pos (by omega), h.has k hlt, reflist_eq (h.lt k), Option.bind_some, hI, refrel_in k _ (by rw [List.length_map]; omega), Option.bind_some, relK_succ, List.map_append]
   unfold linealref05_relation_k2
   rw [ck_pos ki])
  (fun o hI => by
   rw [List.length_range] at hI
   refine ⟨o, ?_, hI⟩
   unfold linealref05_relation_b1
   rw [h.len, List.length_range, if_neg (by simp)])
 unfold linealref05_relation
 rw [e1, Option.bind_some, h]
 rfl

/-! ### The law -/

/-- The reference's composition. -/
theorem refcomp_in {L M : List (Nat × Nat)} (hM : ∀ p ∈ M, p.1 < 6 ∧ p.2 < 6) (fM : few M) {k : Nat} {p : Nat × Nat} (hk : L[k]? = some p) (hp : p.1 < 6) (ps : List Int) {R : Nat → Nat} (h : RepL 6 ps R) :
  ∃ ps', whileO (linealref05_Composed_b2 (L.map pin) (M.map pin) (ps, (k : Int))) (ps, 0) = some ps' ∧ ∃ R', RepL 6 ps' R' ∧ ∀ i z, (R' i).testBit z = true ↔ (R i).testBit z = true ∨ i = p.1 ∧ (p.2, z) ∈ M := by
 have hgk : (L.map pin).getD k (0, 0) = ((p.1 : Int), (p.2 : Int)) := getD_of (by rw [List.getElem?_map, hk]; rfl)
 obtain ⟨r, e1, h⟩ := scan2 (R := List Int) M (fun j o => ∃ R', RepL 6 o R' ∧ ∀ i z, (R' i).testBit z = true ↔ (R i).testBit z = true ∨ i = p.1 ∧ (p.2, z) ∈ M.take j) (fun o => ∃ R', RepL 6 o R' ∧ ∀ i z, (R' i).testBit z = true ↔ (R i).testBit z = true ∨ i = p.1 ∧ (p.2, z) ∈ M) (body := linealref05_Composed_b2 (L.map pin) (M.map pin) (ps, (k : Int))) (s0 := ps)
  ⟨R, h, fun i z => by simp⟩
  (fun j q o hj hI => by
   obtain ⟨R', h1, h2⟩ := hI
   have hlt := (List.getElem?_eq_some_iff.1 hj).1
   obtain ⟨_, ki⟩ := few_in fM hj
   have hq := hM q (List.mem_of_getElem? hj)
   have hgj : (M.map pin).getD j (0, 0) = ((q.1 : Int), (q.2 : Int)) := getD_of (by rw [List.getElem?_map, hj]; rfl)
   unfold linealref05_Composed_b2
   simp only [Int.toNat_natCast, hgk, hgj, List.length_map]
   rw [if_pos (by rw [decide_eq_true_eq]; omega), ck_pos (by omega), ck_pos (by omega)]
   by_cases e : p.2 = q.1
   ·rw [if_pos (by rw [decide_eq_true_eq]; omega), ck_pos (by omega), ck_pos (by rw [h1.len]; omega), ck_pos (by omega), ck_pos (by omega), ck_pos (by rw [h1.len]; omega), ck_pos ki]
    have h64 : 2 ^ q.2 < 64 := Nat.pow_lt_pow_right (by omega) hq.2
    rw [h1.has p.1 hp, shl_i64 q.2 hq.2, or_i64 _ (h1.lt _) _ h64]
    refine .inl ⟨_, rfl, _, repL_set h1 hp (or_lt (n := 6) (h1.lt p.1) h64), fun i z => ?_⟩
    rw [take_one hj, List.mem_append, List.mem_singleton]
    by_cases ei : i = p.1
    ·subst ei
     rw [if_pos rfl, Nat.testBit_or, Bool.or_eq_true, h2, Nat.testBit_two_pow, decide_eq_true_eq]
     constructor
     ·rintro ((h3 | ⟨_, h3⟩) | h3)
      ·exact .inl h3
      ·exact .inr ⟨rfl, .inl h3⟩
      ·exact .inr ⟨rfl, .inr (by rw [e, ← h3])⟩
     ·rintro (h3 | ⟨_, h3 | h3⟩)
      ·exact .inl (.inl h3)
      ·exact .inl (.inr ⟨rfl, h3⟩)
      ·exact .inr (by rw [← h3])
    ·rw [if_neg ei, h2]
     simp [ei]
   ·rw [if_neg (by rw [decide_eq_true_eq]; omega), ck_pos ki]
    refine .inl ⟨o, rfl, R', h1, fun i z => ?_⟩
    rw [h2, take_one hj, List.mem_append, List.mem_singleton]
    constructor
    ·rintro (h3 | ⟨h3, h4⟩)
     ·exact .inl h3
     ·exact .inr ⟨h3, .inl h4⟩
    ·rintro (h3 | ⟨h3, h4 | h4⟩)
     ·exact .inl h3
     ·exact .inr ⟨h3, h4⟩
     ·exact (e (by rw [← h4])).elim)
  (fun o hI => by
   refine ⟨o, ?_, by rwa [List.take_length] at hI⟩
   unfold linealref05_Composed_b2
   rw [if_neg (by simp)])
 exact ⟨r, e1, h⟩

theorem refcomp_eq {L M : List (Nat × Nat)} (hL : ∀ p ∈ L, p.1 < 6 ∧ p.2 < 6) (fL : few L) (hM : ∀ p ∈ M, p.1 < 6 ∧ p.2 < 6) (fM : few M) :
  ∃ ps R, whileO (linealref05_Composed_b1 (L.map pin) (M.map pin)) ((List.replicate 6 (0 : Int)), 0) = some ps ∧ RepL 6 ps R ∧ ∀ i z, (R i).testBit z = true ↔ ∃ y, (i, y) ∈ L ∧ (y, z) ∈ M := by
 obtain ⟨r, e1, R, h1, h2⟩ := scan2 (R := List Int) L (fun k o => ∃ R, RepL 6 o R ∧ ∀ i z, (R i).testBit z = true ↔ ∃ y, (i, y) ∈ L.take k ∧ (y, z) ∈ M) (fun o => ∃ R, RepL 6 o R ∧ ∀ i z, (R i).testBit z = true ↔ ∃ y, (i, y) ∈ L ∧ (y, z) ∈ M) (body := linealref05_Composed_b1 (L.map pin) (M.map pin)) (s0 := List.replicate 6 (0 : Int))
  ⟨_, repL_zero 6, fun i z => by simp⟩
  (fun k p o hk hI => by
   obtain ⟨R, h1, h2⟩ := hI
   have hlt := (List.getElem?_eq_some_iff.1 hk).1
   obtain ⟨_, ki⟩ := few_in fL hk
   have hp := hL p (List.mem_of_getElem? hk)
   obtain ⟨ps', e2, R', h3, h4⟩ := refcomp_in (L := L) hM fM hk hp.1 o h1
   refine .inl ⟨ps', ?_, R', h3, fun i z => ?_⟩
   ·unfold linealref05_Composed_b1
    simp only [List.length_map]
    rw [if_pos (by rw [decide_eq_true_eq]; omega), ck_pos (by omega), ck_pos (by omega), e2, Option.bind_some]
    unfold linealref05_Composed_k2
    rw [ck_pos ki]
   ·rw [h4, h2, take_one hk]
    constructor
    ·rintro (⟨y, h5, h6⟩ | ⟨rfl, h6⟩)
     ·exact ⟨y, List.mem_append_left _ h5, h6⟩
     ·exact ⟨p.2, List.mem_append_right _ (by simp), h6⟩
    ·rintro ⟨y, h5, h6⟩
     rcases List.mem_append.1 h5 with h5 | h5
     ·exact .inl ⟨y, h5, h6⟩
     ·rw [List.mem_singleton] at h5
      subst h5
      exact .inr ⟨rfl, h6⟩)
  (fun o hI => by
   refine ⟨o, ?_, by rwa [List.take_length] at hI⟩
   unfold linealref05_Composed_b1
   rw [if_neg (by simp)])
 exact ⟨r, R, e1, h1, h2⟩

/-- Both compositions. -/
theorem Composed_eq {L M : List (Nat × Nat)} (hL : ∀ p ∈ L, p.1 < 6 ∧ p.2 < 6) (fL : few L) (hM : ∀ p ∈ M, p.1 < 6 ∧ p.2 < 6) (fM : few M) (iL : isRelB 6 6 (L.map pin) = true) (iM : isRelB 6 6 (M.map pin) = true) :
  ∃ R, refine_Composed (L.map pin) (M.map pin) = some ((relK R 6).map pin, 0) ∧ linealref05_Composed (L.map pin) (M.map pin) = some ((relK R 6).map pin, 0) ∧ (∀ i, R i < 64) ∧ (∀ i, 6 ≤ i → R i = 0) ∧ ∀ i z, (R i).testBit z = true ↔ ∃ y, (i, y) ∈ L ∧ (y, z) ∈ M := by
 have fL' : few (L.map pin) := by unfold few at fL ⊢; rwa [List.length_map]
 have fM' : few (M.map pin) := by unfold few at fM ⊢; rwa [List.length_map]
 obtain ⟨T, e1, h1⟩ := relOf_eq hL fL
 obtain ⟨S, e2, h2⟩ := relOf_eq hM fM
 obtain ⟨U, e3, h3⟩ := composed_eq h1 h2
 obtain ⟨ps, R, e4, h4, h5⟩ := refcomp_eq hL fL hM fM
 have hRA : (accM (relK (accM L fun p => 2 ^ p.2) 6) fun p => accM M (fun p => 2 ^ p.2) p.2) = R := by
  funext i
  refine Nat.eq_of_testBit_eq fun z => ?_
  rw [Bool.eq_iff_iff, h5, accM_bit]
  constructor
  ·rintro ⟨p, hp, rfl, hz⟩
   obtain ⟨h6, h7, h8⟩ := relK_mem.1 hp
   obtain ⟨q, hq, hq1, hq2⟩ := accM_bit.1 h8
   obtain ⟨u, hu, hu1, hu2⟩ := accM_bit.1 hz
   rw [Nat.testBit_two_pow, decide_eq_true_eq] at hq2 hu2
   refine ⟨p.2, ?_, ?_⟩
   ·rw [← hq1, ← hq2]; exact hq
   ·rw [← hu1, ← hu2]; exact hu
  ·rintro ⟨y, hy, hz⟩
   refine ⟨(i, y), relK_mem.2 ⟨(hL _ hy).1, (hL _ hy).2, accM_bit.2 ⟨(i, y), hy, rfl, by simp⟩⟩, rfl, accM_bit.2 ⟨(y, z), hz, rfl, by simp⟩⟩
 refine ⟨R, ?_, ?_, h4.lt, h4.out, h5⟩
 ·unfold refine_Composed
  rw [isRel_eq _ 6 6 fL', Option.bind_some, iL, if_neg (by simp), isRel_eq _ 6 6 fM', Option.bind_some, iM, if_neg (by simp), e1, Option.bind_some, e2, Option.bind_some, e3, Option.bind_some, list_eq h3, Option.bind_some, hRA]
 ·unfold linealref05_Composed
  rw [refisRel_eq _ 6 6 fL', Option.bind_some, iL, if_neg (by simp), refisRel_eq _ 6 6 fM', Option.bind_some, iM, if_neg (by simp), e4, Option.bind_some]
  unfold linealref05_Composed_k1
  rw [refrel_eq (by omega) h4, Option.bind_some]

end Go.Proofs.Ytifleoceebaooaa
