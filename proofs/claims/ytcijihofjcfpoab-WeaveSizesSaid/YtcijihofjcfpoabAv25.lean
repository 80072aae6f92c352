/-
  The check of a region that draws its order, with a table of what waits for what. No program is named here.
-/
import Derived.Test.YtcijihofjcfpoabAv24
namespace Go.Proofs.Ytcijihofjcfpoab
open Go.RowKit

set_option linter.unusedVariables false

/-- What an operation waits for, as the bits of a number. -/
def ancOf (tb : List Nat) (oi : Oper) : Nat :=
  oi.after.toList.foldl (fun m e => if Region.binds .any e && decide (e.on < tb.length) then (m ||| 2 ^ e.on) ||| tb.getD e.on 0 else m) 0

def ancs (ops : List Oper) : List Nat := ops.foldl (fun tb oi => tb ++ [ancOf tb oi]) []

def freeT (ops : Array Oper) (X F : List (Nat × List Nat)) (tb : List Nat) (listed : Array Bool) (i : Nat) : Bool :=
  match ops[i]? with
  | none => false
  | some oi => (List.range ops.size).all fun j => j == i || listed.getD j true || (tb.getD j 0).testBit i || match ops[j]? with
      | some oj => oi.apart ops oj && compat X F (blindB oi) (blindB oj) i j
      | none => true

def lexFromT (ops : Array Oper) (X F : List (Nat × List Nat)) (tb : List Nat) : Nat → Nat → Array Bool → Bool
  | 0, _, listed => (Region.ready .any ops listed).isEmpty
  | fuel + 1, k, listed => (Region.ready .any ops listed).contains k && freeT ops X F tb listed k && lexFromT ops X F tb fuel (k + 1) (listed.setIfInBounds k true)

def lexT (ops : List Oper) (X F : List (Nat × List Nat)) : Bool := lexFromT ops.toArray X F (ancs ops) ops.length 0 (Array.replicate ops.length false)

theorem waitsB_mono {ops : Array Oper} : ∀ {n m j i : Nat}, n ≤ m → waitsB ops n j i = true → waitsB ops m j i = true
  | 0, m, j, i, _, h => by cases h
  | n + 1, 0, j, i, hm, _ => by omega
  | n + 1, m + 1, j, i, hm, h => by
    unfold waitsB at h ⊢
    cases hj : ops[j]? with
    | none => rw [hj] at h; cases h
    | some oj =>
      rw [hj] at h
      simp only [Bool.or_eq_true, Array.any_eq_true, Bool.and_eq_true] at h ⊢
      rcases h with h | ⟨k, hk, h1, h2⟩
      · exact .inl h
      · exact .inr ⟨k, hk, h1, waitsB_mono (by omega) h2⟩

theorem anc_bit (tb : List Nat) (i : Nat) : ∀ (l : List Edge) (m : Nat), (l.foldl (fun m e => if Region.binds .any e && decide (e.on < tb.length) then (m ||| 2 ^ e.on) ||| tb.getD e.on 0 else m) m).testBit i = true →
    m.testBit i = true ∨ ∃ e ∈ l, Region.binds .any e = true ∧ e.on < tb.length ∧ (e.on = i ∨ (tb.getD e.on 0).testBit i = true)
  | [], m, h => .inl h
  | e :: l, m, h => by
    rw [List.foldl_cons] at h
    rcases anc_bit tb i l _ h with h | ⟨e', h1, h2⟩
    · split at h
      · rename_i hc
        simp only [Bool.and_eq_true, decide_eq_true_eq] at hc
        rw [Nat.testBit_or, Nat.testBit_or, Bool.or_eq_true, Bool.or_eq_true, Nat.testBit_two_pow, decide_eq_true_eq] at h
        rcases h with (h | h) | h
        · exact .inl h
        · exact .inr ⟨e, by simp, hc.1, hc.2, .inl h⟩
        · exact .inr ⟨e, by simp, hc.1, hc.2, .inr h⟩
      · exact .inl h
    · exact .inr ⟨e', by simp [h1], h2⟩

theorem ancs_snoc (l : List Oper) (o : Oper) : ancs (l ++ [o]) = ancs l ++ [ancOf (ancs l) o] := by simp [ancs]

theorem ancs_len (l : List Oper) : (ancs l).length = l.length := by
  have : ∀ (l : List Oper) (tb : List Nat), (l.foldl (fun tb oi => tb ++ [ancOf tb oi]) tb).length = tb.length + l.length := by
    intro l
    induction l with
    | nil => intro tb; rfl
    | cons o l ih => intro tb; rw [List.foldl_cons, ih]; simp; omega
  simpa [ancs] using this l []

theorem ancs_ok (ops : List Oper) : ∀ (k : Nat), k ≤ ops.length → ∀ (j i : Nat), j < k → ((ancs (ops.take k)).getD j 0).testBit i = true → waitsB ops.toArray (j + 1) j i = true := by
  intro k
  induction k with
  | zero => intro _ j i hj; omega
  | succ k ih =>
    intro hk j i hj h
    have hlt : k < ops.length := by omega
    have ih := ih (by omega)
    have e1 : ops.take (k + 1) = ops.take k ++ [ops[k]] := by rw [List.take_add_one]; simp [hlt]
    have hl : (ancs (ops.take k)).length = k := by rw [ancs_len, List.length_take]; omega
    rw [e1, ancs_snoc] at h
    rcases Nat.lt_or_ge j k with hjk | hjk
    · rw [List.getD, List.getElem?_append_left (by omega)] at h
      exact ih j i hjk h
    · obtain rfl : j = k := by omega
      rw [List.getD, List.getElem?_append_right (by omega), hl] at h
      simp only [Nat.sub_self, List.getElem?_cons_zero, Option.getD_some] at h
      unfold ancOf at h
      rcases anc_bit _ i _ 0 h with h | ⟨e, he, hb, hon, h⟩
      · simp at h
      · rw [hl] at hon
        unfold waitsB
        have hj' : ops.toArray[j]? = some ops[j] := by simp [hlt]
        rw [hj']
        simp only [Bool.or_eq_true, Array.any_eq_true]
        obtain ⟨q, hq, rfl⟩ := List.getElem_of_mem he
        have hq' : q < ops[j].after.size := by simpa using hq
        rcases h with h | h
        · exact .inl ⟨q, hq', by simp only [Array.getElem_toList] at hb h ⊢; simp [hb, h]⟩
        · refine .inr ⟨q, hq', ?_⟩
          simp only [Array.getElem_toList] at hb h hon ⊢
          simp only [hb, Bool.true_and]
          exact waitsB_mono (by omega) (ih _ i hon h)

theorem freeT_free {ops : List Oper} {X F : List (Nat × List Nat)} {listed : Array Bool} {i : Nat} (h : freeT ops.toArray X F (ancs ops) listed i = true) : freeE ops.toArray X F listed i = true := by
  unfold freeT at h
  unfold freeE
  cases hi : ops.toArray[i]? with
  | none => rw [hi] at h; exact h
  | some oi =>
    rw [hi] at h
    simp only [List.all_eq_true] at h ⊢
    intro j hj
    have := h j hj
    have hjl : j < ops.length := by simpa using List.mem_range.1 hj
    cases hoj : ops.toArray[j]? with
    | none => simp
    | some oj =>
      rw [hoj] at this
      simp only [Bool.or_eq_true] at this ⊢
      rcases this with (h1 | h1) | h1
      · exact .inl h1
      · refine .inr (.inl ?_)
        have := ancs_ok ops ops.length (Nat.le_refl _) j i hjl (by rw [List.take_length]; exact h1)
        exact waitsB_mono (by rw [List.size_toArray]; omega) this
      · exact .inr (.inr h1)

theorem lexFromT_lex {ops : List Oper} {X F : List (Nat × List Nat)} : ∀ {fuel k : Nat} {listed : Array Bool}, lexFromT ops.toArray X F (ancs ops) fuel k listed = true → lexFromE ops.toArray X F fuel k listed = true
  | 0, k, listed, h => h
  | fuel + 1, k, listed, h => by
    unfold lexFromT at h
    unfold lexFromE
    simp only [Bool.and_eq_true] at h ⊢
    exact ⟨⟨h.1.1, freeT_free h.1.2⟩, lexFromT_lex h.2⟩

theorem lex_fast {ops : List Oper} {X F : List (Nat × List Nat)} (h : lexT ops X F = true) : lexE ops X F = true := lexFromT_lex h
end Go.Proofs.Ytcijihofjcfpoab
