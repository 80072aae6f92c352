/-
  Layer 5, pure: relations as lists of pairs, one behind the other.
-/
import Derived.Test.YtifleoceebaooaaS8
namespace Go.Proofs.Ytifleoceebaooaa

set_option linter.unusedVariables false
set_option linter.unusedSimpArgs false
set_option maxRecDepth 100000
set_option maxHeartbeats 1000000

theorem whileO_fin {S R : Type} {body : S → Option (Step S R)} {s : S} {r : R} (h : body s = some (.done r)) : whileO body s = some r := whileO_of (n := 1) (by unfold whileN; rw [h])
theorem whileO_next {S R : Type} {body : S → Option (Step S R)} {s s' : S} {r : R} (h : body s = some (.next s')) (k : whileO body s' = some r) : whileO body s = some r := by
  obtain ⟨n, hn⟩ := whileO_to k
  exact whileO_of (n := n + 1) (by unfold whileN; rw [h]; exact hn)

/-! ### Lists in ascending order -/

def pairB (n m : Int) (p : Int × Int) : Bool := decide (0 ≤ p.1 ∧ p.1 < n ∧ 0 ≤ p.2 ∧ p.2 < m)
def lexB (p q : Int × Int) : Bool := decide (p.1 < q.1 ∨ p.1 = q.1 ∧ p.2 < q.2)
def isRelB (n m : Int) (l : List (Int × Int)) : Bool := allB l.length fun i => pairB n m (l.getD i (0, 0)) && (decide (i = 0) || lexB (l.getD (i - 1) (0, 0)) (l.getD i (0, 0)))

theorem Compare2_eq (p q : Int × Int) : slices_Compare [p.1, p.2] q = some (if p.1 < q.1 then -1 else if q.1 < p.1 then 1 else if p.2 < q.2 then -1 else if q.2 < p.2 then 1 else 0) := by
  have b0 : slices_Compare_b1 [p.1, p.2] q 0 = some (if p.1 < q.1 then .done (.inl (-1)) else if q.1 < p.1 then .done (.inl 1) else .next 1) := by
    unfold slices_Compare_b1 slices_Compare_k2 cmp_Compare cmp_isNaN
    simp only [List.length_cons, List.length_nil, Option.bind_some]
    rw [if_pos (by simp), ck_pos (by omega), ck_pos (by simp), if_neg (by simp), ck_pos (by omega), ck_pos (by omega), if_pos (by simp)]
    by_cases h1 : p.1 < q.1
    · simp [h1]
    · by_cases h2 : q.1 < p.1
      · simp [h1, h2]
      · simp only [h1, h2, List.getD_cons_zero, decide_false, Bool.false_eq_true, if_false, Option.bind_some, decide_true, Bool.not_true]
        rw [ck_pos (by rw [inK_i64]; omega)]; rfl
  have b1 : slices_Compare_b1 [p.1, p.2] q 1 = some (if p.2 < q.2 then .done (.inl (-1)) else if q.2 < p.2 then .done (.inl 1) else .next 2) := by
    unfold slices_Compare_b1 slices_Compare_k2 cmp_Compare cmp_isNaN
    simp only [List.length_cons, List.length_nil, Option.bind_some]
    rw [if_pos (by simp), ck_pos (by omega), ck_pos (by simp), if_neg (by simp), ck_pos (by omega), ck_pos (by omega), if_neg (by simp)]
    by_cases h1 : p.2 < q.2
    · simp [h1]
    · by_cases h2 : q.2 < p.2
      · simp [h1, h2]
      · simp only [h1, h2, List.getD_cons_succ, List.getD_cons_zero, decide_false, Bool.false_eq_true, if_false, Option.bind_some, decide_true, Bool.not_true]
        rw [ck_pos (by rw [inK_i64]; omega)]; rfl
  have b2 : slices_Compare_b1 [p.1, p.2] q 2 = some (.done (.inr ())) := by
    unfold slices_Compare_b1
    rw [if_neg (by simp)]
  have k1 : slices_Compare_k1 [p.1, p.2] = some 0 := by
    unfold slices_Compare_k1
    rw [if_neg (by simp)]
  have fin : ∀ (v : Int), whileO (slices_Compare_b1 [p.1, p.2] q) 0 = some (.inl v) → slices_Compare [p.1, p.2] q = some v := fun v h => by
    unfold slices_Compare
    rw [h]; rfl
  by_cases h1 : p.1 < q.1
  · rw [if_pos h1] at b0 ⊢
    exact fin _ (whileO_fin b0)
  rw [if_neg h1] at b0 ⊢
  by_cases h2 : q.1 < p.1
  · rw [if_pos h2] at b0 ⊢
    exact fin _ (whileO_fin b0)
  rw [if_neg h2] at b0 ⊢
  by_cases h3 : p.2 < q.2
  · rw [if_pos h3] at b1 ⊢
    exact fin _ (whileO_next b0 (whileO_fin b1))
  rw [if_neg h3] at b1 ⊢
  by_cases h4 : q.2 < p.2
  · rw [if_pos h4] at b1 ⊢
    exact fin _ (whileO_next b0 (whileO_fin b1))
  rw [if_neg h4] at b1 ⊢
  unfold slices_Compare
  rw [whileO_next b0 (whileO_next b1 (whileO_fin b2))]
  exact k1

theorem isRel_eq (l : List (Int × Int)) (n m : Int) (hl : few l) : refine_isRelation l n m = some (isRelB n m l) := by
  unfold refine_isRelation isRelB
  have hL := loopB (body := refine_isRelation_b1 l n m) l.length (fun i => pairB n m (l.getD i (0, 0)) && (decide (i = 0) || lexB (l.getD (i - 1) (0, 0)) (l.getD i (0, 0)))) (fun k hk => by
    have hl' : l.length ≤ 17592186044416 := hl
    have ki : InK .i64 ((k : Int) + 1) := by rw [inK_i64]; omega
    unfold refine_isRelation_b1
    simp only [Int.toNat_natCast]
    rw [if_pos (by rw [decide_eq_true_eq]; omega), ck_pos (by omega), ck_pos (by omega)]
    obtain ⟨p, hp⟩ : ∃ p, l.getD k (0, 0) = p := ⟨_, rfl⟩
    simp only [hp]
    by_cases h1 : p.1 < 0
    · rw [if_pos (by simpa using h1), if_neg (by simp [pairB]; omega)]
    rw [if_neg (by simpa using h1)]
    by_cases h2 : n ≤ p.1
    · rw [if_pos (by simpa using h2), if_neg (by simp [pairB]; omega)]
    rw [if_neg (by simpa using h2)]
    by_cases h3 : p.2 < 0
    · rw [if_pos (by simpa using h3), if_neg (by simp [pairB]; omega)]
    rw [if_neg (by simpa using h3)]
    by_cases h4 : m ≤ p.2
    · rw [if_pos (by simpa using h4), if_neg (by simp [pairB]; omega)]
    rw [if_neg (by simpa using h4)]
    have hpb : pairB n m p = true := by simp [pairB]; omega
    rw [hpb, Bool.true_and]
    by_cases h5 : k = 0
    · subst h5
      rw [if_neg (by decide), ck_pos ki]
      rfl
    · obtain ⟨j, rfl⟩ : ∃ j, k = j + 1 := ⟨k - 1, by omega⟩
      have e1 : ((j + 1 : Nat) : Int) - 1 = (j : Int) := by omega
      rw [if_pos (by rw [decide_eq_true_eq]; omega), e1, ck_pos (by rw [inK_i64]; omega), ck_pos (by omega), ck_pos (by omega)]
      simp only [Int.toNat_natCast]
      rw [Compare2_eq, Option.bind_some, Nat.add_sub_cancel]
      obtain ⟨q, hq⟩ : ∃ q, l.getD j (0, 0) = q := ⟨_, rfl⟩
      simp only [hq]
      by_cases hlx : q.1 < p.1 ∨ q.1 = p.1 ∧ q.2 < p.2
      · have : lexB q p = true := by simp only [lexB, decide_eq_true_eq]; exact hlx
        rw [this, Bool.or_true, if_pos rfl]
        have hneg : ¬ (0 ≤ (if q.1 < p.1 then (-1 : Int) else if p.1 < q.1 then 1 else if q.2 < p.2 then -1 else if p.2 < q.2 then 1 else 0)) := by
          rcases hlx with h | ⟨h, h'⟩
          · rw [if_pos h]; decide
          · rw [if_neg (by omega), if_neg (by omega), if_pos h']; decide
        rw [if_neg (by rw [decide_eq_true_eq]; exact hneg), ck_pos ki]
      · have : lexB q p = false := by simp only [lexB, decide_eq_false_iff_not]; exact hlx
        have hpos : 0 ≤ (if q.1 < p.1 then (-1 : Int) else if p.1 < q.1 then 1 else if q.2 < p.2 then -1 else if p.2 < q.2 then 1 else 0) := by
          by_cases g1 : q.1 < p.1
          · exact (hlx (.inl g1)).elim
          · rw [if_neg g1]
            by_cases g2 : p.1 < q.1
            · rw [if_pos g2]; decide
            · rw [if_neg g2, if_neg (fun g3 => hlx (.inr ⟨by omega, g3⟩))]
              split <;> decide
        rw [if_pos (by rw [decide_eq_true_eq]; exact hpos), this, Bool.or_false, if_neg (by simp)]) (by
    unfold refine_isRelation_b1
    rw [if_neg (by rw [decide_eq_true_eq]; omega)])
  rw [hL, Option.bind_some]
  cases allB l.length fun i => pairB n m (l.getD i (0, 0)) && (decide (i = 0) || lexB (l.getD (i - 1) (0, 0)) (l.getD i (0, 0))) <;> rfl

theorem refisRel_eq (l : List (Int × Int)) (n m : Int) (hl : few l) : linealref05_isRelation l n m = some (isRelB n m l) := by
  unfold linealref05_isRelation isRelB
  have hL := loopB (body := linealref05_isRelation_b1 l n m) l.length (fun i => pairB n m (l.getD i (0, 0)) && (decide (i = 0) || lexB (l.getD (i - 1) (0, 0)) (l.getD i (0, 0)))) (fun k hk => by
    have hl' : l.length ≤ 17592186044416 := hl
    have ki : InK .i64 ((k : Int) + 1) := by rw [inK_i64]; omega
    unfold linealref05_isRelation_b1
    simp only [Int.toNat_natCast]
    rw [if_pos (by rw [decide_eq_true_eq]; omega), ck_pos (by omega), ck_pos (by omega)]
    obtain ⟨p, hp⟩ : ∃ p, l.getD k (0, 0) = p := ⟨_, rfl⟩
    simp only [hp]
    by_cases h1 : p.1 < 0
    · rw [if_pos (by simpa using h1), if_neg (by simp [pairB]; omega)]
    rw [if_neg (by simpa using h1)]
    by_cases h2 : n ≤ p.1
    · rw [if_pos (by simpa using h2), if_neg (by simp [pairB]; omega)]
    rw [if_neg (by simpa using h2)]
    by_cases h3 : p.2 < 0
    · rw [if_pos (by simpa using h3), if_neg (by simp [pairB]; omega)]
    rw [if_neg (by simpa using h3)]
    by_cases h4 : m ≤ p.2
    · rw [if_pos (by simpa using h4), if_neg (by simp [pairB]; omega)]
    rw [if_neg (by simpa using h4)]
    have hpb : pairB n m p = true := by simp [pairB]; omega
    rw [hpb, Bool.true_and]
    by_cases h5 : k = 0
    · subst h5
      rw [if_neg (by decide), ck_pos ki]
      rfl
    · obtain ⟨j, rfl⟩ : ∃ j, k = j + 1 := ⟨k - 1, by omega⟩
      have e1 : ((j + 1 : Nat) : Int) - 1 = (j : Int) := by omega
      have kj : InK .i64 (j : Int) := by rw [inK_i64]; omega
      rw [if_pos (by rw [decide_eq_true_eq]; omega), e1, ck_pos kj, ck_pos (by omega), ck_pos (by omega)]
      simp only [Int.toNat_natCast]
      rw [Nat.add_sub_cancel]
      obtain ⟨q, hq⟩ : ∃ q, l.getD j (0, 0) = q := ⟨_, rfl⟩
      simp only [hq]
      by_cases g1 : p.1 < q.1
      · rw [if_pos (by simpa using g1), if_neg (by simp [lexB]; omega)]
      rw [if_neg (by simpa using g1), ck_pos kj, ck_pos (by omega), ck_pos (by omega)]
      by_cases g2 : p.1 = q.1
      · rw [if_pos (by simpa using g2), ck_pos kj, ck_pos (by omega), ck_pos (by omega)]
        by_cases g3 : p.2 ≤ q.2
        · rw [if_pos (by simpa using g3), if_neg (by simp [lexB]; omega)]
        · rw [if_neg (by simpa using g3), ck_pos ki, if_pos (by simp [lexB]; omega)]
      · rw [if_neg (by simpa using g2), ck_pos ki, if_pos (by simp [lexB]; omega)]) (by
    unfold linealref05_isRelation_b1
    rw [if_neg (by rw [decide_eq_true_eq]; omega)])
  rw [hL, Option.bind_some]
  cases allB l.length fun i => pairB n m (l.getD i (0, 0)) && (decide (i = 0) || lexB (l.getD (i - 1) (0, 0)) (l.getD i (0, 0))) <;> rfl

/-- A relation's list is one of pairs of small numbers. -/
theorem isRel_pin {n m : Nat} {l : List (Int × Int)} (h : isRelB n m l = true) : ∃ L : List (Nat × Nat), l = L.map pin ∧ ∀ p ∈ L, p.1 < n ∧ p.2 < m := by
  have hp : ∀ p ∈ l, 0 ≤ p.1 ∧ p.1 < n ∧ 0 ≤ p.2 ∧ p.2 < m := by
    intro p hp
    obtain ⟨i, hi, rfl⟩ := List.mem_iff_getElem.1 hp
    have := allB_iff.1 h i hi
    rw [Bool.and_eq_true] at this
    have := this.1
    rw [List.getD_eq_getElem?_getD, List.getElem?_eq_getElem hi] at this
    simpa [pairB] using this
  refine ⟨l.map fun p => (p.1.toNat, p.2.toNat), ?_, ?_⟩
  · rw [List.map_map]
    conv => lhs; rw [← List.map_id l]
    refine List.map_congr_left fun p hpm => ?_
    have := hp p hpm
    show p = ((p.1.toNat : Int), (p.2.toNat : Int))
    rw [Int.toNat_of_nonneg this.1, Int.toNat_of_nonneg this.2.2.1]
  · intro q hq
    obtain ⟨p, hpm, rfl⟩ := List.mem_map.1 hq
    have := hp p hpm
    simp only
    omega

/-! ### Marks gathered along a list of pairs -/

def accM (L : List (Nat × Nat)) (g : Nat × Nat → Nat) (x : Nat) : Nat := L.foldl (fun m p => if p.1 = x then m ||| g p else m) 0

theorem accM_snoc (L : List (Nat × Nat)) (g : Nat × Nat → Nat) (p : Nat × Nat) (x : Nat) : accM (L ++ [p]) g x = if x = p.1 then accM L g x ||| g p else accM L g x := by
  unfold accM
  rw [List.foldl_append]
  simp only [List.foldl_cons, List.foldl_nil]
  by_cases h : p.1 = x
  · rw [if_pos h, if_pos h.symm]
  · rw [if_neg h, if_neg (fun e => h e.symm)]

theorem accM_bit {g : Nat × Nat → Nat} {x j : Nat} : ∀ {L : List (Nat × Nat)}, (accM L g x).testBit j = true ↔ ∃ p ∈ L, p.1 = x ∧ (g p).testBit j = true := by
  intro L
  have key : ∀ (L : List (Nat × Nat)) (a : Nat), (L.foldl (fun m p => if p.1 = x then m ||| g p else m) a).testBit j = true ↔ a.testBit j = true ∨ ∃ p ∈ L, p.1 = x ∧ (g p).testBit j = true := by
    intro L
    induction L with
    | nil => intro a; simp
    | cons p L ih =>
      intro a
      rw [List.foldl_cons, ih]
      by_cases h : p.1 = x
      · rw [if_pos h, Nat.testBit_or, Bool.or_eq_true]
        constructor
        · rintro ((h1 | h1) | ⟨q, h1, h2⟩)
          · exact .inl h1
          · exact .inr ⟨p, List.mem_cons_self .., h, h1⟩
          · exact .inr ⟨q, List.mem_cons_of_mem _ h1, h2⟩
        · rintro (h1 | ⟨q, h1, h2, h3⟩)
          · exact .inl (.inl h1)
          · rcases List.mem_cons.1 h1 with rfl | h1
            · exact .inl (.inr h3)
            · exact .inr ⟨q, h1, h2, h3⟩
      · rw [if_neg h]
        constructor
        · rintro (h1 | ⟨q, h1, h2⟩)
          · exact .inl h1
          · exact .inr ⟨q, List.mem_cons_of_mem _ h1, h2⟩
        · rintro (h1 | ⟨q, h1, h2, h3⟩)
          · exact .inl h1
          · rcases List.mem_cons.1 h1 with rfl | h1
            · exact (h h2).elim
            · exact .inr ⟨q, h1, h2, h3⟩
  have := key L 0
  simpa [accM] using this

/-- The program's loops that add marks. -/
theorem gather {L : List (Nat × Nat)} {g : Nat × Nat → Nat} (hL : ∀ p ∈ L, p.1 < 6) (hg : ∀ p ∈ L, g p < 64) {body : El T94 × Int → Option (Step (El T94 × Int) (El T94))} {T0 : El T94} {R0 : Nat → Nat} (h0 : Rep T0 R0)
    (hb : ∀ (k : Nat) (p : Nat × Nat) (T : El T94), L[k]? = some p → body (T, (k : Int)) = some (.next (setInt T94 T p.1 (ior .u8 (intAt T94 T p.1) ((g p : Nat) : Int)), (k : Int) + 1)))
    (hd : ∀ T : El T94, body (T, (L.length : Int)) = some (.done T)) : ∃ T, whileO body (T0, 0) = some T ∧ Rep T fun x => R0 x ||| accM L g x := by
  obtain ⟨r, e1, h⟩ := scan2 (R := El T94) L (fun k T => Rep T fun x => R0 x ||| accM (L.take k) g x) (fun T => Rep T fun x => R0 x ||| accM L g x) (body := body) (s0 := T0) (by simpa [accM] using h0)
    (fun k p T hk hI => by
      refine .inl ⟨_, hb k p T hk, ?_⟩
      have hm := List.mem_of_getElem? hk
      have h6 := hL p hm
      have hl := hI.lt p.1
      rw [hI.has p.1 h6, or_u8 _ hl _ (hg p hm), take_one hk]
      have := rep_set hI h6 (or_lt (n := 6) hl (hg p hm))
      refine ⟨fun i hi => ?_, fun i => ?_, fun i hi => ?_⟩
      · rw [this.has i hi, accM_snoc]
        by_cases e : i = p.1
        · subst e; rw [if_pos rfl, if_pos rfl, Nat.or_assoc]
        · rw [if_neg e, if_neg e]
      · have h9 := this.lt i
        rw [accM_snoc]
        by_cases e : i = p.1
        · subst e; rw [if_pos rfl] at h9 ⊢; rwa [← Nat.or_assoc]
        · rw [if_neg e] at h9 ⊢; exact h9
      · have h9 := this.out i hi
        rw [accM_snoc]
        have e : i ≠ p.1 := by omega
        rw [if_neg e] at h9 ⊢; exact h9)
    (fun T hI => ⟨T, hd T, by rwa [List.take_length] at hI⟩)
  exact ⟨r, e1, h⟩

theorem relOf_eq {L : List (Nat × Nat)} (hL : ∀ p ∈ L, p.1 < 6 ∧ p.2 < 6) (hf : few L) : ∃ T, refine_relationOf (L.map pin) = some T ∧ Rep T (accM L fun p => 2 ^ p.2) := by
  have hg : ∀ p ∈ L, 2 ^ p.2 < 64 := fun p hp => Nat.pow_lt_pow_right (by omega) (hL p hp).2
  obtain ⟨T, e, h⟩ := gather (L := L) (g := fun p => 2 ^ p.2) (fun p hp => (hL p hp).1) hg (body := refine_relationOf_b1 (L.map pin)) rep_zero
    (fun k p T hk => by
      have hlt := (List.getElem?_eq_some_iff.1 hk).1
      obtain ⟨_, ki⟩ := few_in hf hk
      have hp := hL p (List.mem_of_getElem? hk)
      have hgd : (L.map pin).getD k (0, 0) = ((p.1 : Int), (p.2 : Int)) := getD_of (by rw [List.getElem?_map, hk]; rfl)
      unfold refine_relationOf_b1
      simp only [Int.toNat_natCast, hgd, List.length_map]
      rw [if_pos (by rw [decide_eq_true_eq]; omega), ck_pos (by omega), ck_pos (by omega), ck_pos (by omega), ck_pos (by omega), ck_pos (by omega), ck_pos (by omega), ck_pos (by omega), ck_pos ki]
      simp only [Nat.zero_add, Nat.mul_one]
      rw [shl_u8 p.2 hp.2])
    (fun T => by
      unfold refine_relationOf_b1
      rw [if_neg (by simp)])
  unfold refine_relationOf
  rw [e, Option.bind_some]
  refine ⟨T, rfl, ?_⟩
  have : (fun x => 0 ||| accM L (fun p => 2 ^ p.2) x) = accM L fun p => 2 ^ p.2 := by funext x; rw [Nat.zero_or]
  rwa [this] at h

/-! ### The reference's relations -/

/-- What a list of marks holds. -/
structure RepL (k : Nat) (ps : List Int) (R : Nat → Nat) : Prop where
  len : ps.length = k
  has : ∀ i, i < k → ps.getD i 0 = ((R i : Nat) : Int)
  lt : ∀ i, R i < 64
  out : ∀ i, k ≤ i → R i = 0

theorem repL_set {k : Nat} {ps : List Int} {R : Nat → Nat} (h : RepL k ps R) {i m : Nat} (hi : i < k) (hm : m < 64) : RepL k (ps.set i (m : Int)) fun j => if j = i then m else R j := by
  refine ⟨by rw [List.length_set, h.len], fun j hj => ?_, fun j => ?_, fun j hj => ?_⟩
  · rw [List.getD_eq_getElem?_getD, List.getElem?_set]
    by_cases e : i = j
    · subst e
      rw [if_pos rfl, if_pos (by rw [h.len]; exact hi), if_pos rfl]; rfl
    · rw [if_neg e, if_neg (fun e' => e e'.symm), ← List.getD_eq_getElem?_getD]; exact h.has j hj
  · split
    · exact hm
    · exact h.lt j
  · rw [if_neg (by omega)]; exact h.out j hj

theorem repL_zero (k : Nat) : RepL k (List.replicate k 0) fun _ => 0 := by
  refine ⟨List.length_replicate, fun i hi => ?_, fun _ => by omega, fun _ _ => rfl⟩
  rw [List.getD_eq_getElem?_getD, List.getElem?_replicate]
  split <;> rfl

/-! ### The law -/

end Go.Proofs.Ytifleoceebaooaa
