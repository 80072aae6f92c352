/-
  Layer 2, pure: which orders are allowed.
-/
import Derived.Test.YtlfpagicagmjgaaH8
import Derived.Test.YtlfpagicagmjgaaH7a
namespace Go.Proofs.Ytlfpagicagmjgaa
open Go.RowKit

set_option linter.unusedVariables false
set_option linter.unusedSimpArgs false
set_option maxRecDepth 10000

/-- The calls of a list are answered as they say. -/
def alwL (specs : List Tup) (h : List HC6) : Int × Int → List Int → Bool
  | _, [] => true
  | s, x :: r => alwB specs s (hAt h x.toNat) && alwL specs h (goOf specs s (hAt h x.toNat)) r

theorem alwL_drop (specs : List Tup) (h : List HC6) {l : List Int} {k : Nat} {x : Int} (hk : l[k]? = some x) (s : Int × Int) : alwL specs h s (l.drop k) = (alwB specs s (hAt h x.toNat) && alwL specs h (goOf specs s (hAt h x.toNat)) (l.drop (k + 1))) := by
  obtain ⟨hlt, e⟩ := List.getElem?_eq_some_iff.1 hk
  rw [List.drop_eq_getElem_cons hlt, e]; rfl

theorem answer14_eq {specs : List Tup} (hs : okSs specs = true) {c : HC6} (hc : canC specs c = true) {s : Int × Int} (h : okP2 specs s) :
    history_states_answer_2 specs c s = some (sayOf specs s c, goOf specs s c) := by
  obtain ⟨_, ho, hp⟩ := canC_parts hc
  have hl2 := okSs_len hs
  obtain ⟨_, _, _, _, t1, t2⟩ := ok_parts (okSs_at hs ho)
  have hq := h c.2.1 ho.1 ho.2
  obtain ⟨n1, n2, n3⟩ := tab_at t1 hq hp
  obtain ⟨a1, a2, a3⟩ := tab_at t2 hq hp
  unfold history_states_answer_2
  rw [ck_pos ho.1, ck_pos ho.2, ck_pos ho.1, ck_pos (by omega)]
  by_cases h0 : c.2.1 = 0
  · rw [if_pos (by rw [decide_eq_true h0])]
    have e0 : spAt specs c.2.1 = specs.getD 0 (0, 0, [], []) := by unfold spAt; rw [h0]; rfl
    have e1 : stOf s c.2.1 = s.1 := by unfold stOf; rw [if_pos h0]
    unfold sayOf goOf
    rw [e0] at n1 a1 hp
    rw [e0, e1] at n2 a2 hq ⊢
    unfold history_states_answer_2_k1
    simp only
    rw [ck_pos hq.1, ck_pos (by omega), ck_pos hp.1, ck_pos (by omega), ck_pos (by omega), ck_pos (by omega), if_pos (by rfl)]
    unfold history_states_answer_2_k2
    simp only
    rw [ck_pos hq.1, ck_pos (by omega), ck_pos hp.1, ck_pos (by omega)]
    unfold stTo; rw [if_pos h0]; rfl
  · rw [if_neg (by rw [decide_eq_false h0]; simp)]
    have h1 : c.2.1 = 1 := by omega
    have e0 : spAt specs c.2.1 = specs.getD 1 (0, 0, [], []) := by unfold spAt; rw [h1]; rfl
    have e1 : stOf s c.2.1 = s.2 := by unfold stOf; rw [if_neg h0]
    unfold sayOf goOf
    rw [e0] at n1 a1 hp
    rw [e0, e1] at n2 a2 hq ⊢
    unfold history_states_answer_2_k1
    simp only
    rw [ck_pos hq.1, ck_pos (by omega), ck_pos hp.1, ck_pos (by omega), ck_pos (by omega), ck_pos (by omega), if_neg (by simp)]
    unfold history_states_answer_2_k2
    simp only
    rw [ck_pos hq.1, ck_pos (by omega), ck_pos hp.1, ck_pos (by omega)]
    unfold stTo; rw [if_neg h0]; rfl

theorem allow14_eq {specs : List Tup} (hs : okSs specs = true) {c : HC6} (hc : canC specs c = true) {s : Int × Int} (hp : okP2 specs s) :
    history_states_allow_2 specs c s = some (alwB specs s c, goOf specs s c) := by
  unfold history_states_allow_2 alwB
  rw [answer14_eq hs hc hp, Option.bind_some]
  by_cases h0 : c.2.2.2.2.2 = 0
  · rw [if_pos (by rw [decide_eq_true h0]), decide_eq_true h0]; rfl
  · rw [if_neg (by rw [decide_eq_false h0]; simp), decide_eq_false h0]; rfl

theorem scan4 {α S T R : Type} (xs : List α) (I : Nat → S → T → Prop) (G : R → Prop) {body : S × T × Int → Option (Step (S × T × Int) R)} {s0 : S} {t0 : T} (h0 : I 0 s0 t0)
    (h : ∀ (k : Nat) (x : α) (s : S) (t : T), xs[k]? = some x → I k s t → (∃ s' t', body (s, t, (k : Int)) = some (.next (s', t', (k : Int) + 1)) ∧ I (k + 1) s' t') ∨ ∃ r, body (s, t, (k : Int)) = some (.done r) ∧ G r)
    (hd : ∀ s t, I xs.length s t → ∃ r, body (s, t, (xs.length : Int)) = some (.done r) ∧ G r) : ∃ r, whileO body (s0, t0, 0) = some r ∧ G r := by
  refine whileO_inv (S := S × T × Int) (fun s : S × T × Int => ∃ k : Nat, s.2.2 = (k : Int) ∧ k ≤ xs.length ∧ I k s.1 s.2.1) (fun s : S × T × Int => xs.length - s.2.2.toNat) G ?_ (s0, t0, 0) ⟨0, rfl, Nat.zero_le _, h0⟩
  rintro ⟨s, t, q⟩ ⟨k, hq, hk, hI⟩
  simp only at hq hI
  subst hq
  by_cases hlt : k < xs.length
  · rcases h k _ s t (List.getElem?_eq_getElem hlt) hI with ⟨s', t', h1, h2⟩ | h1
    · exact .inl ⟨_, h1, ⟨k + 1, by simp, by omega, h2⟩, by simp; omega⟩
    · exact .inr h1
  · have : k = xs.length := by omega
    subst this
    exact .inr (hd s t hI)

theorem allows_eq {specs : List Tup} (hs : okSs specs = true) {h : List HC6} (hc : ∀ i, i < h.length → canC specs (hAt h i) = true) {l : List Int} (hl : l.length ≤ 1000) (hin : ∀ x ∈ l, 0 ≤ x ∧ x < (h.length : Int)) : history_allows specs h l = some (alwL specs h (0, 0) l) := by
  obtain ⟨r, er, hr⟩ := scan4 (R := Sum Unit Unit) l (fun k (s t : Int) => okP2 specs (s, t) ∧ alwL specs h (0, 0) l = alwL specs h (s, t) (l.drop k)) (fun r => r = if alwL specs h (0, 0) l = true then .inr () else .inl ()) (body := history_allows_b1 specs h l) (s0 := 0) (t0 := 0) ⟨okP2_zero hs, rfl⟩ (fun k x s t hk ⟨hp, hI⟩ => by
    obtain ⟨hlt, hin1⟩ := few_in (few_of hl) hk
    have hx := hin x (List.mem_of_getElem? hk)
    rw [alwL_drop specs h hk] at hI
    have hcx := hc x.toNat (by omega)
    unfold history_allows_b1
    simp only [Int.toNat_natCast, getD_of hk]
    rw [if_pos (by simpa using hlt), ck_pos (by omega), ck_pos (by omega), ck_pos hx.1, ck_pos hx.2, show h.getD x.toNat (0, 0, 0, 0, 0, 0) = hAt h x.toNat from rfl, allow14_eq hs hcx hp, Option.bind_some]
    simp only
    cases ha : alwB specs (s, t) (hAt h x.toNat) with
    | false =>
      rw [ha, Bool.false_and] at hI
      rw [if_pos (by rfl)]
      exact .inr ⟨_, rfl, by rw [hI]; rfl⟩
    | true =>
      rw [ha, Bool.true_and] at hI
      rw [if_neg (by simp), ck_pos hin1]
      exact .inl ⟨_, _, rfl, okP2_to hs hcx hp, hI⟩) (fun s t ⟨hp, hI⟩ => by
    rw [List.drop_length] at hI
    unfold history_allows_b1
    rw [if_neg (by simp)]
    exact ⟨_, rfl, by rw [hI]; rfl⟩)
  unfold history_allows
  rw [er, hr, Option.bind_some]
  cases alwL specs h (0, 0) l <;> rfl

end Go.Proofs.Ytlfpagicagmjgaa
