/-
  Loops and lists, in general. No program is named here.
-/
import Derived.Test.YtdicomoggfhbfaaPk
namespace Go.Proofs.Ytdicomoggfhbfaa
open Go.RowKit

set_option linter.unusedVariables false
set_option linter.unusedSimpArgs false
set_option maxRecDepth 10000

theorem scan2 {α S R : Type} (xs : List α) (I : Nat → S → Prop) (G : R → Prop) {body : S × Int → Option (Step (S × Int) R)} {s0 : S} (h0 : I 0 s0)
    (h : ∀ (k : Nat) (x : α) (s : S), xs[k]? = some x → I k s → (∃ s', body (s, (k : Int)) = some (.next (s', (k : Int) + 1)) ∧ I (k + 1) s') ∨ ∃ r, body (s, (k : Int)) = some (.done r) ∧ G r)
    (hd : ∀ s, I xs.length s → ∃ r, body (s, (xs.length : Int)) = some (.done r) ∧ G r) : ∃ r, whileO body (s0, 0) = some r ∧ G r := by
  refine whileO_inv (S := S × Int) (fun s : S × Int => ∃ k : Nat, s.2 = (k : Int) ∧ k ≤ xs.length ∧ I k s.1) (fun s : S × Int => xs.length - s.2.toNat) G ?_ (s0, 0) ⟨0, rfl, Nat.zero_le _, h0⟩
  rintro ⟨s, q⟩ ⟨k, hq, hk, hI⟩
  simp only at hq hI
  subst hq
  by_cases hlt : k < xs.length
  · rcases h k _ s (List.getElem?_eq_getElem hlt) hI with ⟨s', h1, h2⟩ | h1
    · exact .inl ⟨_, h1, ⟨k + 1, by simp, by omega, h2⟩, by simp; omega⟩
    · exact .inr h1
  · have : k = xs.length := by omega
    subst this
    exact .inr (hd s hI)

/-- Lists that may come up: their length is a number. -/
def few {α : Type} (xs : List α) : Prop := xs.length ≤ 17592186044416

theorem few_in {α : Type} {xs : List α} (h : few xs) {k : Nat} {x : α} (hk : xs[k]? = some x) : k < xs.length ∧ InK .i64 ((k : Int) + 1) := by
  have hlt := (List.getElem?_eq_some_iff.1 hk).1
  unfold few at h
  exact ⟨hlt, by rw [inK_i64]; omega⟩

theorem take_one {α : Type} {xs : List α} {k : Nat} {x : α} (hk : xs[k]? = some x) : xs.take (k + 1) = xs.take k ++ [x] := by
  rw [List.take_add_one, hk]; rfl


theorem few_of {α : Type} {xs : List α} {n : Nat} (h : xs.length ≤ n) (hn : n ≤ 17592186044416 := by omega) : few xs := Nat.le_trans h hn
theorem whileO_end {S R : Type} {body : S → Option (Step S R)} {s : S} {r : R} (h : body s = some (.done r)) : whileO body s = some r := whileO_of (n := 1) (by unfold whileN; rw [h])
theorem whileO_on {S R : Type} {body : S → Option (Step S R)} {s s' : S} {r : R} (h : body s = some (.next s')) (k : whileO body s' = some r) : whileO body s = some r := by
  obtain ⟨n, hn⟩ := whileO_to k
  exact whileO_of (n := n + 1) (by unfold whileN; rw [h]; exact hn)
theorem getD_in {α : Type} {xs : List α} {d : α} {k : Nat} (h : k < xs.length) : xs.getD k d ∈ xs := by
  rw [getD_of (List.getElem?_eq_getElem h)]; exact List.getElem_mem h
/-- The first place in a list of what is so. -/
theorem whileO_first {α : Type} {body : Int → Option (Step Int (Sum Int Unit))} (xs : List α) (p : α → Bool) (h : ∀ (k : Nat) (x : α), xs[k]? = some x → body k = some (if p x = true then .done (.inl (k : Int)) else .next ((k : Int) + 1))) (hd : body xs.length = some (.done (.inr ()))) :
    whileO body 0 = some (match xs.findIdx? p with | some k => .inl (k : Int) | none => .inr ()) := by
  have : ∀ (d k : Nat), xs.length - k = d → k ≤ xs.length → whileN body (d + 1) (k : Int) = some (match (xs.drop k).findIdx? p with | some j => .inl ((k + j : Nat) : Int) | none => .inr ()) := by
    intro d
    induction d with
    | zero =>
      intro k h1 h2
      have : k = xs.length := by omega
      subst this
      simp [whileN, hd]
    | succ d ih =>
      intro k h1 h2
      have hlt : k < xs.length := by omega
      have hb := h k xs[k] (by simp)
      unfold whileN
      rw [hb, List.drop_eq_getElem_cons hlt, List.findIdx?_cons]
      cases hp : p xs[k] with
      | true => simp
      | false =>
        simp only [Bool.false_eq_true, if_false]
        have e : ((k : Int) + 1) = ((k + 1 : Nat) : Int) := by omega
        rw [e, ih (k + 1) (by omega) (by omega)]
        cases hf : (xs.drop (k + 1)).findIdx? p with
        | none => simp
        | some j => simp; omega
  have h0 := this xs.length 0 (by omega) (by omega)
  rw [List.drop_zero] at h0
  have h1 := whileO_of h0
  have e0 : ((0 : Nat) : Int) = 0 := rfl
  rw [e0] at h1
  rw [h1]
  cases xs.findIdx? p with
  | none => rfl
  | some j => simp

section
variable {S R Y Z : Type}
theorem foldY_append (yl : Y → S → Option (Step S R)) : ∀ (A B : List Y) (s : S), foldY yl (A ++ B) s = (foldY yl A s).bind fun x => match x with | .inl s' => foldY yl B s' | .inr e => some (.inr e)
  | [], B, s => rfl
  | y :: A, B, s => by
    simp only [List.cons_append, foldY]
    cases yl y s with
    | none => rfl
    | some x =>
      cases x with
      | next s' => simp only [Option.bind_some]; exact foldY_append yl A B s'
      | done e => rfl

end

/-- A list in ascending order. -/
def srt (x : List Int) : List Int := x.mergeSort (fun a b => decide (a ≤ b))
/-! ### What is found, and what is deleted -/

/-- What stays is moved to the front. -/
theorem delete_loop {α : Type} (s : List α) (p : α → Bool) (i0 : Nat) {x0 : α} (hx0 : s[i0]? = some x0) (hp0 : p x0 = true) (hi0 : ∀ y ∈ s.take i0, p y = false) {body : List α × Int × Int → Option (Step (List α × Int × Int) (List α × Int))}
    (hb : ∀ (l : List α) (i j : Nat) (x : α), l.length = s.length → i < j → l[j]? = some x → body (l, (i : Int), (j : Int)) = some (.next (if p x = true then (l, (i : Int), (j : Int) + 1) else (l.set i x, (i : Int) + 1, (j : Int) + 1))))
    (hd : ∀ (l : List α) (i : Nat), l.length = s.length → body (l, (i : Int), (s.length : Int)) = some (.done (l, (i : Int)))) :
    ∃ (l : List α) (i : Nat), whileO body (s, (i0 : Int), (i0 : Int) + 1) = some (l, (i : Int)) ∧ l.length = s.length ∧ i < s.length ∧ l.take i = s.filter fun x => !p x := by
  have hlt := (List.getElem?_eq_some_iff.1 hx0).1
  have hf0 : ∀ (l : List α), (∀ y ∈ l, p y = false) → l.filter (fun x => !p x) = l := fun l h => List.filter_eq_self.2 fun y hy => by rw [h y hy]; rfl
  obtain ⟨r, e, l, i, rfl, h1, h2, h3⟩ := whileO_inv (S := List α × Int × Int) (R := List α × Int) (body := body) (fun st => ∃ (l : List α) (i j : Nat), st = (l, (i : Int), (j : Int)) ∧ l.length = s.length ∧ i < j ∧ j ≤ s.length ∧ l.take i = (s.take j).filter (fun x => !p x) ∧ l.drop j = s.drop j) (fun st => s.length - st.2.2.toNat)
    (fun r => ∃ (l : List α) (i : Nat), r = (l, (i : Int)) ∧ l.length = s.length ∧ i < s.length ∧ l.take i = s.filter fun x => !p x)
    (by
      rintro st ⟨l, i, j, rfl, hl, hij, hj, ht, hdr⟩
      by_cases hjl : j < s.length
      · have hjx : l[j]? = some (s[j]) := by
          have : (l.drop j)[0]? = (s.drop j)[0]? := by rw [hdr]
          rw [List.getElem?_drop, List.getElem?_drop, Nat.add_zero] at this
          rw [this]; exact List.getElem?_eq_getElem hjl
        have hsj : s[j]? = some (s[j]) := List.getElem?_eq_getElem hjl
        have hd1 : l.drop (j + 1) = s.drop (j + 1) := by
          have := congrArg (List.drop 1) hdr
          rwa [List.drop_drop, List.drop_drop] at this
        refine .inl ⟨_, hb l i j _ hl hij hjx, ?_, ?_⟩
        · cases hp : p (s[j]) with
          | true =>
            rw [if_pos rfl]
            refine ⟨l, i, j + 1, by simp, hl, by omega, by omega, ?_, hd1⟩
            rw [ht, take_one hsj, List.filter_append]
            simp [hp]
          | false =>
            rw [if_neg (by simp)]
            refine ⟨l.set i (s[j]), i + 1, j + 1, by simp, by rw [List.length_set, hl], by omega, by omega, ?_, ?_⟩
            · have hset : (l.set i (s[j]))[i]? = some (s[j]) := by rw [List.getElem?_set, if_pos rfl, if_pos (by omega)]
              rw [take_one hset, List.take_set_of_le (Nat.le_refl i), ht, take_one hsj, List.filter_append]
              simp [hp]
            · rw [List.drop_set_of_lt (by omega), hd1]
        · cases hp : p (s[j]) with
          | true => rw [if_pos rfl]; simp only; omega
          | false => rw [if_neg (by simp)]; simp only; omega
      · have : j = s.length := by omega
        subst this
        exact .inr ⟨_, hd l i hl, l, i, rfl, hl, by omega, by rw [ht, List.take_length]⟩)
    (s, (i0 : Int), (i0 : Int) + 1) ⟨s, i0, i0 + 1, by simp, rfl, by omega, by omega, by rw [take_one hx0, List.filter_append, hf0 _ hi0]; simp [hp0], rfl⟩
  exact ⟨l, i, e, h1, h2, h3⟩


end Go.Proofs.Ytdicomoggfhbfaa
