/-
  Layer 2, pure: orders, and those that keep time.
-/
import Derived.Test.YtlfpagicagmjgaaH2r
namespace Go.Proofs.Ytlfpagicagmjgaa
open Go.RowKit

set_option linter.unusedVariables false
set_option linter.unusedSimpArgs false
set_option maxRecDepth 10000

theorem isIndex_eq7 (h : List HC6) (i : Int) : history_isIndex h i = some (decide (0 ≤ i) && decide (i < (h.length : Int))) := by
  unfold history_isIndex
  by_cases h0 : 0 ≤ i <;> simp [h0]

/-- Indices marked one after the other; none if one is no index, or comes twice. -/
def markA : List Bool → List Int → Option (List Bool)
  | s, [] => some s
  | s, x :: r => if (decide (0 ≤ x) && decide (x < (s.length : Int))) = true then (if s.getD x.toNat false = true then none else markA (s.set x.toNat true) r) else none

def cntT : List Bool → Nat
  | [] => 0
  | b :: r => (if b = true then 1 else 0) + cntT r

theorem cntT_le : ∀ s : List Bool, cntT s ≤ s.length
  | [] => Nat.le_refl _
  | b :: r => by
    have := cntT_le r
    unfold cntT
    rw [List.length_cons]
    split <;> omega

theorem cntT_set : ∀ (s : List Bool) (i : Nat), i < s.length → s.getD i false = false → cntT (s.set i true) = cntT s + 1
  | [], i, h, _ => by simp at h
  | b :: r, 0, _, hf => by
    have : b = false := hf
    subst this
    simp [cntT]; omega
  | b :: r, i + 1, h, hf => by
    have := cntT_set r i (by simpa using h) hf
    simp only [List.set_cons_succ, cntT, this]; omega

theorem markA_len : ∀ (l : List Int) (s s' : List Bool), markA s l = some s' → cntT s + l.length = cntT s' ∧ s'.length = s.length
  | [], s, s', h => by simp [markA] at h; subst h; simp
  | x :: r, s, s', h => by
    unfold markA at h
    split at h
    · rename_i hx
      simp only [Bool.and_eq_true, decide_eq_true_eq] at hx
      split at h
      · cases h
      · rename_i hs
        have := markA_len r _ _ h
        rw [cntT_set s x.toNat (by omega) (by simpa using hs), List.length_set] at this
        rw [List.length_cons]; omega
    · cases h

theorem markA_in : ∀ (l : List Int) (s s' : List Bool), markA s l = some s' → ∀ x ∈ l, 0 ≤ x ∧ x < (s.length : Int)
  | [], s, s', h, x, hx => by cases hx
  | y :: r, s, s', h, x, hx => by
    unfold markA at h
    split at h
    · rename_i hy
      simp only [Bool.and_eq_true, decide_eq_true_eq] at hy
      split at h
      · cases h
      · rcases List.mem_cons.1 hx with rfl | hx
        · exact hy
        · have := markA_in r _ _ h x hx
          rwa [List.length_set] at this
    · cases h

def outA (o : Option (List Bool)) : Sum Unit (List Bool) := match o with
  | none => .inl ()
  | some s => .inr s

theorem markA_drop {l : List Int} {k : Nat} {x : Int} (hk : l[k]? = some x) (s : List Bool) : markA s (l.drop k) = if (decide (0 ≤ x) && decide (x < (s.length : Int))) = true then (if s.getD x.toNat false = true then none else markA (s.set x.toNat true) (l.drop (k + 1))) else none := by
  obtain ⟨hlt, e⟩ := List.getElem?_eq_some_iff.1 hk
  rw [List.drop_eq_getElem_cons hlt, e]
  rfl

theorem order_loop (h : List HC6) (l : List Int) (hl : l.length ≤ 1000) : whileO (history_isOrder_b1 h l) (List.replicate h.length (false : Bool), 0) = some (outA (markA (List.replicate h.length (false : Bool)) l)) := by
  obtain ⟨r, er, hr⟩ := scan2 (R := Sum Unit (List Bool)) l (fun k (s : List Bool) => s.length = h.length ∧ markA (List.replicate h.length (false : Bool)) l = markA s (l.drop k)) (fun r => r = outA (markA (List.replicate h.length (false : Bool)) l)) (body := history_isOrder_b1 h l) (s0 := List.replicate h.length (false : Bool)) ⟨by simp, rfl⟩ (fun k x s hk ⟨hsl, hI⟩ => by
    obtain ⟨hlt, hin⟩ := few_in (few_of hl) hk
    rw [markA_drop hk, hsl] at hI
    unfold history_isOrder_b1
    simp only [Int.toNat_natCast, getD_of hk]
    rw [if_pos (by simpa using hlt), ck_pos (by omega), ck_pos (by omega), isIndex_eq7, Option.bind_some]
    cases h1 : (decide (0 ≤ x) && decide (x < (h.length : Int))) with
    | false =>
      rw [h1] at hI
      rw [if_pos (by rfl)]
      exact .inr ⟨_, rfl, by rw [hI]; rfl⟩
    | true =>
      rw [h1] at hI
      simp only [Bool.and_eq_true, decide_eq_true_eq] at h1
      rw [if_neg (by simp), ck_pos h1.1, ck_pos (by rw [hsl]; exact h1.2)]
      cases h2 : s.getD x.toNat false with
      | true =>
        rw [h2] at hI
        rw [if_pos rfl]
        exact .inr ⟨_, rfl, by rw [hI]; rfl⟩
      | false =>
        rw [h2] at hI
        rw [if_neg (by simp), ck_pos h1.1, ck_pos (by rw [hsl]; exact h1.2), ck_pos hin]
        exact .inl ⟨_, rfl, by rw [List.length_set]; exact hsl, by simpa using hI⟩) (fun s ⟨hsl, hI⟩ => by
    rw [List.drop_length] at hI
    unfold history_isOrder_b1
    rw [if_neg (by simp)]
    exact ⟨_, rfl, by rw [hI]; rfl⟩)
  rw [er, hr]

/-- All calls that have returned are marked. -/
def doneB (h : List HC6) (s : List Bool) : Bool := allB h.length fun k => decide ((h.getD k (0, 0, 0, 0, 0, 0)).2.2.2.2.2 = 0) || s.getD k false

def ordB (h : List HC6) (l : List Int) : Bool := match markA (List.replicate h.length (false : Bool)) l with
  | none => false
  | some s => doneB h s

theorem order_k1 (h : List HC6) (hh : h.length ≤ 1000) (s : List Bool) (hs : s.length = h.length) : history_isOrder_k1 h s = some (doneB h s) := by
  unfold history_isOrder_k1 doneB
  rw [loopB (body := history_isOrder_b2 h s) h.length (fun k => decide ((h.getD k (0, 0, 0, 0, 0, 0)).2.2.2.2.2 = 0) || s.getD k false) (fun k hk => ?_) (by unfold history_isOrder_b2; rw [if_neg (by simp)]), Option.bind_some]
  · cases allB h.length (fun k => decide ((h.getD k (0, 0, 0, 0, 0, 0)).2.2.2.2.2 = 0) || s.getD k false) <;> rfl
  · unfold history_isOrder_b2
    simp only [Int.toNat_natCast]
    rw [if_pos (by simpa using hk), ck_pos (by omega), ck_pos (by omega)]
    by_cases h0 : (h.getD k (0, 0, 0, 0, 0, 0)).2.2.2.2.2 = 0
    · rw [if_neg (by rw [decide_eq_true h0]; simp), decide_eq_true h0, ck_pos (inK_small (by omega))]; rfl
    · rw [if_pos (by rw [decide_eq_false h0]; rfl), decide_eq_false h0, ck_pos (by omega), ck_pos (by omega), ck_pos (inK_small (by omega))]
      by_cases hb : s.getD k false = true
      · simp only [hb]; rfl
      · have hb' : s.getD k false = false := by simpa using hb
        simp only [hb']; rfl

theorem isOrder_eq (h : List HC6) (hh : h.length ≤ 1000) (l : List Int) (hl : l.length ≤ 1000) : history_isOrder h l = some (ordB h l) := by
  unfold history_isOrder ordB
  rw [ck_pos (by omega), order_loop h l hl, Option.bind_some]
  cases hm : markA (List.replicate h.length (false : Bool)) l with
  | none => rfl
  | some s =>
    have := (markA_len _ _ _ hm).2
    show history_isOrder_k1 h s = _
    rw [order_k1 h hh s (by simpa using this)]

theorem ordB_in {h : List HC6} {l : List Int} (ho : ordB h l = true) {k : Nat} (hk : k < l.length) : 0 ≤ l.getD k 0 ∧ l.getD k 0 < (h.length : Int) := by
  unfold ordB at ho
  cases hm : markA (List.replicate h.length (false : Bool)) l with
  | none => rw [hm] at ho; cases ho
  | some s =>
    have := markA_in _ _ _ hm (l[k]) (List.getElem_mem hk)
    rw [List.length_replicate] at this
    have e : l.getD k 0 = l[k] := by rw [List.getD_eq_getElem?_getD, List.getElem?_eq_getElem hk]; rfl
    rw [e]; exact this

def atL (h : List HC6) (l : List Int) (i : Nat) : HC6 := h.getD (l.getD i 0).toNat (0, 0, 0, 0, 0, 0)

def keepB (q : HC6 → HC6 → Bool) (h : List HC6) (l : List Int) : Bool := allB l.length fun i => allB i fun k => !q (atL h l i) (atL h l k)

theorem inTime_eq (a b : HC6) : history_inTime a b = some (bef b a) := by
  unfold history_inTime
  rw [before_eq]; rfl

theorem keeps_eq (h : List HC6) (l : List Int) (hl : l.length ≤ 1000) (ho : ordB h l = true) : history_keeps h l = some (keepB bef h l) := by
  unfold history_keeps keepB
  rw [loopB (body := history_keeps_b1 h l) l.length (fun i => allB i fun k => !bef (atL h l i) (atL h l k)) (fun i hi => ?_) (by unfold history_keeps_b1; rw [if_neg (by simp)]), Option.bind_some]
  · cases allB l.length (fun i => allB i fun k => !bef (atL h l i) (atL h l k)) <;> rfl
  · obtain ⟨p1, p2⟩ := ordB_in ho hi
    unfold history_keeps_b1
    rw [if_pos (by simpa using hi), ck_pos (by omega), ck_pos (by omega), ck_pos (by omega), ck_pos (by omega)]
    have htl : (l.take i).length = i := by simp; omega
    rw [loopB (body := history_keeps_b2 h l (i : Int)) i (fun k => !bef (atL h l i) (atL h l k)) (fun k hk => ?_) (by unfold history_keeps_b2; rw [if_neg (by rw [Int.toNat_natCast, htl]; simp)]), Option.bind_some]
    · cases allB i (fun k => !bef (atL h l i) (atL h l k)) with
      | false => rfl
      | true => simp only [if_true]; unfold history_keeps_k2; rw [ck_pos (inK_small (by omega))]
    · obtain ⟨q1, q2⟩ := ordB_in ho (k := k) (by omega)
      unfold history_keeps_b2
      simp only [Int.toNat_natCast, htl, getD_take hk]
      rw [if_pos (by simpa using hk), ck_pos (by omega), ck_pos (by omega), ck_pos q1, ck_pos q2, ck_pos p1, ck_pos p2, inTime_eq, Option.bind_some, ck_pos (inK_small (by omega))]
      unfold atL
      cases bef (h.getD (l.getD i 0).toNat (0, 0, 0, 0, 0, 0)) (h.getD (l.getD k 0).toNat (0, 0, 0, 0, 0, 0)) <;> rfl

end Go.Proofs.Ytlfpagicagmjgaa
