/-
  Layer 2, pure: the reference's search for orders, as a fold over the calls; what it counts, and which order comes first.
-/
import Derived.Test.YtlfpagicagmjgaaH18
import Derived.Test.YtlfpagicagmjgaaH10a
namespace Go.Proofs.Ytlfpagicagmjgaa
open Go.RowKit

set_option linter.unusedVariables false
set_option linter.unusedSimpArgs false
set_option maxRecDepth 10000

/-- The calls one after the other. -/
def rsTo (f : Nat → Nat × List Int → Nat × List Int) : Nat → Nat × List Int → Nat × List Int
  | 0, s => s
  | k + 1, s => f k (rsTo f k s)

def rs0 (h : List HC6) (l : List Int) (s : Nat × List Int) : Nat × List Int := if ordB h l = true then (s.1 + 1, if s.1 = 0 then l else s.2) else s

def rsF (q : HC6 → HC6 → Bool) (specs : List Tup) (h : List HC6) (one : Bool) : Nat → List Int → Nat × List Int → Nat × List Int
  | 0, _, s => s
  | d + 1, l, s => rsTo (fun i s => if (one && decide (0 < s.1)) = true then s else if addB q specs h l (i : Int) = true then rsF q specs h one d (l ++ [(i : Int)]) s else s) h.length (rs0 h l s)

theorem rsF_succ (q : HC6 → HC6 → Bool) (specs : List Tup) (h : List HC6) (one : Bool) (d : Nat) (l : List Int) (s : Nat × List Int) : rsF q specs h one (d + 1) l s = rsTo (fun i s => if (one && decide (0 < s.1)) = true then s else if addB q specs h l (i : Int) = true then rsF q specs h one d (l ++ [(i : Int)]) s else s) h.length (rs0 h l s) := rfl

/-- How many orders go on from a place. -/
def CFQ (q : HC6 → HC6 → Bool) (specs : List Tup) (h : List HC6) : Nat → Pl → Nat
  | 0, _ => 0
  | d + 1, p => (if fullB h p.2 = true then 1 else 0) + sumTo (fun i => contrib (CFQ q specs h d) (nxtQ q specs h p i)) h.length

theorem CFQ_bef (specs : List Tup) (h : List HC6) : ∀ (d : Nat) (p : Pl), CFQ bef specs h d p = CF specs h d p
  | 0, _ => rfl
  | d + 1, p => by
    show _ + _ = _ + _
    congr 1
    refine sumTo_same fun i hi => ?_
    show contrib _ (nxt specs h p i) = contrib _ (nxt specs h p i)
    cases nxt specs h p i with
    | none => rfl
    | some q => exact CFQ_bef specs h d q

section
variable {q : HC6 → HC6 → Bool} {specs : List Tup} {h : List HC6} {one : Bool}

theorem rsTo_same {f : Nat → Nat × List Int → Nat × List Int} {s : Nat × List Int} : ∀ {n : Nat}, (∀ i, i < n → f i s = s) → rsTo f n s = s
  | 0, _ => rfl
  | n + 1, h => by
    show f n (rsTo f n s) = s
    rw [rsTo_same fun i hi => h i (by omega)]
    exact h n (by omega)

/-- From a list that can't become an order nothing is found. -/
theorem rs_dead (hs : okSs specs = true) (hl8 : h.length ≤ 8) (hc : ∀ i, i < h.length → canC specs (hAt h i) = true) (hq : ∀ i j, i < h.length → j < h.length → q (hAt h j) (hAt h i) = true → (hAt h j).2.2.2.2.2 ≠ 0) :
    ∀ (d : Nat) (l : List Int) (s : Nat × List Int), GoodL q specs h l → DeadL q h l → rsF q specs h one d l s = s := by
  intro d
  induction d with
  | zero => intro l s _ _; rfl
  | succ d ih =>
    intro l s G D
    rw [rsF_succ]
    have e0 : rs0 h l s = s := by unfold rs0; rw [dead_order hq G D, if_neg (by simp)]
    rw [e0]
    refine rsTo_same fun i hi => ?_
    by_cases h1 : (one && decide (0 < s.1)) = true
    · rw [if_pos h1]
    · rw [if_neg h1]
      by_cases ha : addB q specs h l (i : Int) = true
      · rw [if_pos ha, ih _ _ (good_add hs hl8 hc G hi ha) (dead_add G D ha)]
      · rw [if_neg ha]

/-- All orders are counted. -/
theorem rs_count (hs : okSs specs = true) (hl8 : h.length ≤ 8) (hc : ∀ i, i < h.length → canC specs (hAt h i) = true) (hq : ∀ i j, i < h.length → j < h.length → q (hAt h j) (hAt h i) = true → (hAt h j).2.2.2.2.2 ≠ 0) (hq0 : ∀ i, i < h.length → q (hAt h i) (hAt h i) = false) :
    ∀ (d : Nat) (l : List Int) (s : Nat × List Int), GoodL q specs h l → LiveL q h l → (rsF q specs h false d l s).1 = s.1 + CFQ q specs h d (plF specs h l) := by
  intro d
  induction d with
  | zero => intro l s _ _; rfl
  | succ d ih =>
    intro l s G L
    rw [rsF_succ]
    have e0 : (rs0 h l s).1 = s.1 + (if fullB h (plF specs h l).2 = true then 1 else 0) := by
      unfold rs0; rw [live_full G]
      split <;> rfl
    have key : ∀ k, k ≤ h.length → (rsTo (fun i s => if (false && decide (0 < s.1)) = true then s else if addB q specs h l (i : Int) = true then rsF q specs h false d (l ++ [(i : Int)]) s else s) k (rs0 h l s)).1 = s.1 + (if fullB h (plF specs h l).2 = true then 1 else 0) + sumTo (fun i => contrib (CFQ q specs h d) (nxtQ q specs h (plF specs h l) i)) k := by
      intro k
      induction k with
      | zero => intro _; exact e0
      | succ k ihk =>
        intro hk
        have := ihk (by omega)
        show ((fun i s => if (false && decide (0 < s.1)) = true then s else if addB q specs h l (i : Int) = true then rsF q specs h false d (l ++ [(i : Int)]) s else s) k (rsTo _ k (rs0 h l s))).1 = _ + (sumTo _ k + contrib _ (nxtQ q specs h (plF specs h l) k))
        simp only [Bool.false_and, Bool.false_eq_true, if_false]
        simp only [Bool.false_and, Bool.false_eq_true, if_false] at this
        rcases live_step hq0 G L (show k < h.length by omega) with ⟨n1, n2⟩ | ⟨n1, n2, n3⟩
        · rw [n1]
          by_cases ha : addB q specs h l (k : Int) = true
          · rw [if_pos ha, rs_dead hs hl8 hc hq d _ _ (good_add hs hl8 hc G (by omega) ha) (n2 ha), this]; rfl
          · rw [if_neg ha, this]; rfl
        · rw [if_pos n1, ih _ _ (good_add hs hl8 hc G (by omega) n1) n3, this, n2]
          show _ = _ + (_ + CFQ q specs h d _)
          omega
    rw [key h.length (Nat.le_refl _)]
    show _ = s.1 + (_ + _)
    omega

/-- The first order, if one is enough: along the path of least calls. -/
theorem rs_first (hs : okSs specs = true) (hl8 : h.length ≤ 8) (hc : ∀ i, i < h.length → canC specs (hAt h i) = true) (hq : ∀ i j, i < h.length → j < h.length → q (hAt h j) (hAt h i) = true → (hAt h j).2.2.2.2.2 ≠ 0) (hq0 : ∀ i, i < h.length → q (hAt h i) (hAt h i) = false) :
    ∀ (d : Nat) (l : List Int) (f : List Int), GoodL q specs h l → LiveL q h l →
      (CFQ q specs h d (plF specs h l) = 0 ∧ rsF q specs h true d l (0, f) = (0, f)) ∨ (0 < CFQ q specs h d (plF specs h l) ∧ ∃ (n : Nat) (r : List Nat), rsF q specs h true d l (0, f) = (n + 1, l ++ r.map fun (k : Nat) => (k : Int)) ∧
        ((fullB h (plF specs h l).2 = true ∧ r = []) ∨ (fullB h (plF specs h l).2 = false ∧ ∃ (e i : Nat) (p : Pl) (t : List Nat), d = e + 1 ∧ r = i :: t ∧ i < h.length ∧ nxtQ q specs h (plF specs h l) i = some p ∧ p = plF specs h (l ++ [(i : Int)]) ∧ addB q specs h l (i : Int) = true ∧ LiveL q h (l ++ [(i : Int)]) ∧ 0 < CFQ q specs h e p ∧
          (∃ m, rsF q specs h true e (l ++ [(i : Int)]) (0, f) = (m + 1, (l ++ [(i : Int)]) ++ t.map fun (k : Nat) => (k : Int))) ∧ ∀ j, j < i → ∀ p', nxtQ q specs h (plF specs h l) j = some p' → CFQ q specs h e p' = 0))) := by
  intro d
  induction d with
  | zero => intro l f _ _; exact .inl ⟨rfl, rfl⟩
  | succ d ih =>
    intro l f G L
    rw [rsF_succ]
    have hcs : CFQ q specs h (d + 1) (plF specs h l) = (if fullB h (plF specs h l).2 = true then 1 else 0) + sumTo (fun i => contrib (CFQ q specs h d) (nxtQ q specs h (plF specs h l) i)) h.length := rfl
    have hstop : ∀ (F : Nat → Nat × List Int → Nat × List Int) (n : Nat) (s : Nat × List Int), (∀ i (s : Nat × List Int), 0 < s.1 → F i s = s) → 0 < s.1 → rsTo F n s = s := fun F n s hF hs => rsTo_same fun i _ => hF i s hs
    generalize hF : (fun (i : Nat) (s : Nat × List Int) => if (true && decide (0 < s.1)) = true then s else if addB q specs h l (i : Int) = true then rsF q specs h true d (l ++ [(i : Int)]) s else s) = F
    have hF1 : ∀ i (s : Nat × List Int), 0 < s.1 → F i s = s := fun i s hs => by
      rw [← hF]; simp [hs]
    have hF0 : ∀ i (f : List Int), F i (0, f) = if addB q specs h l (i : Int) = true then rsF q specs h true d (l ++ [(i : Int)]) (0, f) else (0, f) := fun i f => by
      rw [← hF]; simp
    cases hfu : fullB h (plF specs h l).2 with
    | true =>
      have e0 : rs0 h l (0, f) = (1, l) := by unfold rs0; rw [live_full G, hfu, if_pos (by rfl), if_pos (by rfl)]
      refine .inr ⟨by rw [hcs, hfu, if_pos (by rfl)]; omega, 0, [], ?_, .inl ⟨rfl, rfl⟩⟩
      rw [e0, hstop F _ _ hF1 (by simp), List.map_nil, List.append_nil]
    | false =>
      have e0 : rs0 h l (0, f) = (0, f) := by unfold rs0; rw [live_full G, hfu, if_neg (by simp)]
      rw [e0]
      rw [hfu, if_neg (by simp), Nat.zero_add] at hcs
      have key : ∀ k, k ≤ h.length → (sumTo (fun i => contrib (CFQ q specs h d) (nxtQ q specs h (plF specs h l) i)) k = 0 ∧ rsTo F k (0, f) = (0, f)) ∨
          ∃ (n : Nat) (i : Nat) (t : List Nat) (p : Pl), rsTo F k (0, f) = (n + 1, l ++ (i :: t).map fun (k : Nat) => (k : Int)) ∧ i < k ∧ nxtQ q specs h (plF specs h l) i = some p ∧ p = plF specs h (l ++ [(i : Int)]) ∧ addB q specs h l (i : Int) = true ∧ LiveL q h (l ++ [(i : Int)]) ∧ 0 < CFQ q specs h d p ∧
            (∃ m, rsF q specs h true d (l ++ [(i : Int)]) (0, f) = (m + 1, (l ++ [(i : Int)]) ++ t.map fun (k : Nat) => (k : Int))) ∧ ∀ j, j < i → ∀ p', nxtQ q specs h (plF specs h l) j = some p' → CFQ q specs h d p' = 0 := by
        intro k
        induction k with
        | zero => intro _; exact .inl ⟨rfl, rfl⟩
        | succ k ihk =>
          intro hk
          rcases ihk (by omega) with ⟨z1, z2⟩ | ⟨n, i, t, p, z1, z2, z3⟩
          · have hz : ∀ j, j < k → ∀ p', nxtQ q specs h (plF specs h l) j = some p' → CFQ q specs h d p' = 0 := fun j hj p' hp' => by
              have a1 := sumTo_le (fun i => contrib (CFQ q specs h d) (nxtQ q specs h (plF specs h l) i)) (k := j + 1) (n := k) (by omega)
              have a2 : sumTo (fun i => contrib (CFQ q specs h d) (nxtQ q specs h (plF specs h l) i)) (j + 1) = sumTo (fun i => contrib (CFQ q specs h d) (nxtQ q specs h (plF specs h l) i)) j + contrib (CFQ q specs h d) (nxtQ q specs h (plF specs h l) j) := rfl
              rw [hp'] at a2
              have a3 : contrib (CFQ q specs h d) (some p') = CFQ q specs h d p' := rfl
              omega
            have es : rsTo F (k + 1) (0, f) = F k (0, f) := by show F k (rsTo F k (0, f)) = _; rw [z2]
            have ec : sumTo (fun i => contrib (CFQ q specs h d) (nxtQ q specs h (plF specs h l) i)) (k + 1) = contrib (CFQ q specs h d) (nxtQ q specs h (plF specs h l) k) := by
              show sumTo _ k + _ = _
              rw [z1, Nat.zero_add]
            rw [es, ec, hF0]
            rcases live_step hq0 G L (show k < h.length by omega) with ⟨n1, n2⟩ | ⟨n1, n2, n3⟩
            · refine .inl ⟨by rw [n1]; rfl, ?_⟩
              by_cases ha : addB q specs h l (k : Int) = true
              · rw [if_pos ha, rs_dead hs hl8 hc hq d _ _ (good_add hs hl8 hc G (by omega) ha) (n2 ha)]
              · rw [if_neg ha]
            · rw [if_pos n1, n2]
              have G2 := good_add hs hl8 hc G (show k < h.length by omega) n1
              rcases ih _ f G2 n3 with ⟨w1, w2⟩ | ⟨w1, n, r, w2, _⟩
              · exact .inl ⟨w1, w2⟩
              · refine .inr ⟨n, k, r, _, ?_, Nat.lt_succ_self _, n2, rfl, n1, n3, w1, ⟨n, w2⟩, hz⟩
                rw [w2, List.append_assoc]; rfl
          · refine .inr ⟨n, i, t, p, ?_, by omega, z3⟩
            show F k (rsTo F k (0, f)) = _
            rw [z1]
            exact hF1 k _ (by simp)
      rcases key h.length (Nat.le_refl _) with ⟨z1, z2⟩ | ⟨n, i, t, p, z1, z2, z3, z4, z5, z6, z7, z8, z9⟩
      · exact .inl ⟨by rw [hcs]; exact z1, z2⟩
      · refine .inr ⟨?_, n, i :: t, z1, .inr ⟨rfl, d, i, p, t, rfl, rfl, z2, z3, z4, z5, z6, z7, z8, z9⟩⟩
        rw [hcs]
        have a1 := sumTo_le (fun i => contrib (CFQ q specs h d) (nxtQ q specs h (plF specs h l) i)) (k := i + 1) (n := h.length) (by omega)
        have a2 : sumTo (fun i => contrib (CFQ q specs h d) (nxtQ q specs h (plF specs h l) i)) (i + 1) = sumTo (fun i => contrib (CFQ q specs h d) (nxtQ q specs h (plF specs h l) i)) i + contrib (CFQ q specs h d) (nxtQ q specs h (plF specs h l) i) := rfl
        rw [z3] at a2
        have a3 : contrib (CFQ q specs h d) (some p) = CFQ q specs h d p := rfl
        omega

/-- Not more is found than there are lists. -/
theorem rs_bound (hl8 : h.length ≤ 8) : ∀ (d : Nat) (l : List Int) (s : Nat × List Int), (rsF q specs h one d l s).1 ≤ s.1 + 9 ^ d := by
  intro d
  induction d with
  | zero => intro l s; show s.1 ≤ s.1 + 1; omega
  | succ d ih =>
    intro l s
    rw [rsF_succ]
    have e0 : (rs0 h l s).1 ≤ s.1 + 1 := by unfold rs0; split <;> simp
    have key : ∀ k, (rsTo (fun i s => if (one && decide (0 < s.1)) = true then s else if addB q specs h l (i : Int) = true then rsF q specs h one d (l ++ [(i : Int)]) s else s) k (rs0 h l s)).1 ≤ s.1 + 1 + k * 9 ^ d := by
      intro k
      induction k with
      | zero => rw [Nat.zero_mul]; exact e0
      | succ k ihk =>
        show ((fun i s => if (one && decide (0 < s.1)) = true then s else if addB q specs h l (i : Int) = true then rsF q specs h one d (l ++ [(i : Int)]) s else s) k (rsTo _ k (rs0 h l s))).1 ≤ _
        rw [Nat.add_mul]
        dsimp only
        split
        · omega
        · split
          · have := ih (l ++ [(k : Int)]) (rsTo (fun i s => if (one && decide (0 < s.1)) = true then s else if addB q specs h l (i : Int) = true then rsF q specs h one d (l ++ [(i : Int)]) s else s) k (rs0 h l s))
            omega
          · omega
    have a1 := key h.length
    have a2 : h.length * 9 ^ d ≤ 8 * 9 ^ d := Nat.mul_le_mul_right _ hl8
    have a3 : 9 ^ (d + 1) = 9 * 9 ^ d := by rw [Nat.pow_succ, Nat.mul_comm]
    have a4 : 1 ≤ 9 ^ d := Nat.one_le_pow _ _ (by decide)
    omega

/-- That first order is the path of H11. -/
theorem rs_path (hs : okSs specs = true) (hl8 : h.length ≤ 8) (hc : ∀ i, i < h.length → canC specs (hAt h i) = true) (hq : ∀ i j, i < h.length → j < h.length → bef (hAt h j) (hAt h i) = true → (hAt h j).2.2.2.2.2 ≠ 0) (hq0 : ∀ i, i < h.length → bef (hAt h i) (hAt h i) = false) :
    ∀ (d : Nat) (l : List Int) (f : List Int) (n : Nat) (r : List Nat), GoodL bef specs h l → LiveL bef h l → leftB (plF specs h l) < d → rsF bef specs h true d l (0, f) = (n + 1, l ++ r.map fun (k : Nat) => (k : Int)) → Path specs h (CF specs h 9) (plF specs h l) r := by
  intro d
  induction d with
  | zero => intro l f n r _ _ hlt; omega
  | succ d ih =>
    intro l f n r G L hlt hr
    rcases rs_first hs hl8 hc hq hq0 (d + 1) l f G L with ⟨_, e2⟩ | ⟨_, n', r', e2, e3⟩
    · rw [e2] at hr; cases hr
    · rw [e2] at hr
      injection hr with e4 e5
      have e6 : r' = r := by
        have := List.append_cancel_left e5
        exact (List.map_inj_right fun {a b} hab => by omega).1 this
      subst e6
      rcases e3 with ⟨f1, rfl⟩ | ⟨f1, e, i, p, t, he, rfl, hi, hn, hp, ha, hL, hv, ⟨m, hm⟩, hz⟩
      · exact .nil _ f1
      · have : e = d := by omega
        subst this
        have G2 := good_add hs hl8 hc G hi ha
        have hnl : leftB p < leftB (plF specs h l) := nxt_left G.okp (by omega) hn
        have hst : ∀ p', okPl specs p' → leftB p' < e → CFQ bef specs h e p' = CF specs h 9 p' := fun p' hp' hlt' => by
          rw [CFQ_bef]
          exact CF_stable hs hl8 hc e 9 p' hp' hlt' (Nat.lt_of_le_of_lt (leftB_le p') (by decide))
        subst hp
        refine .cons _ _ i t f1 hi hn ?_ (fun j hj p' hp' => ?_) (ih _ f m t G2 hL (by omega) hm)
        · rw [← hst _ G2.okp (by omega)]; exact hv
        · rw [← hst p' (nxt_ok hs G.okp (by omega) (hc j (by omega)) hp') (by have := nxt_left G.okp (show j < 8 by omega) hp'; omega)]
          exact hz j hj p' hp'

end
end Go.Proofs.Ytlfpagicagmjgaa
