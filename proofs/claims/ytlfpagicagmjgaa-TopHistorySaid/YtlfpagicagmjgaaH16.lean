/-
  Layer 2, pure: orders of a looser history; IsOrder of both sides (for TopHistory).
-/
import Derived.Test.YtlfpagicagmjgaaH15
import Derived.Test.YtlfpagicagmjgaaH10l
namespace Go.Proofs.Ytlfpagicagmjgaa
open Go.RowKit

set_option linter.unusedVariables false
set_option linter.unusedSimpArgs false
set_option maxRecDepth 10000

theorem ordB_loose {h h' : List HC6} (L : Looser h h') {l : List Int} (ho : ordB h l = true) : ordB h' l = true := by
  unfold ordB at ho ⊢
  rw [L.len]
  cases hm : markA (List.replicate h.length (false : Bool)) l with
  | none => rw [hm] at ho; cases ho
  | some s =>
    rw [hm] at ho
    show doneB h' s = true
    have ho' : doneB h s = true := ho
    unfold doneB at ho' ⊢
    rw [L.len]
    refine allB_iff.2 fun j hj => ?_
    have h1 := allB_iff.1 ho' j hj
    have h2 := (L.call j hj).2.2.2
    unfold hAt at h2
    rw [decide_eq_decide.2 h2]
    exact h1

theorem keepB_loose {h h' : List HC6} (L : Looser h h') {l : List Int} (ho : ordB h l = true) (hk : keepB bef h l = true) : keepB bef h' l = true := by
  unfold keepB at hk ⊢
  refine allB_iff.2 fun i hi => allB_iff.2 fun k hk' => ?_
  have h1 := allB_iff.1 (allB_iff.1 hk i hi) k hk'
  obtain ⟨i1, i2⟩ := ordB_in ho hi
  obtain ⟨k1, k2⟩ := ordB_in ho (k := k) (by omega)
  have e : ∀ (h : List HC6) (j : Nat), atL h l j = hAt h (l.getD j 0).toNat := fun _ _ => rfl
  rw [e, e] at h1 ⊢
  cases hb : bef (hAt h' (l.getD i 0).toNat) (hAt h' (l.getD k 0).toNat) with
  | false => rfl
  | true => rw [L.less _ _ (by omega) (by omega) hb] at h1; exact h1

theorem alwL_loose {specs : List Tup} {h h' : List HC6} (L : Looser h h') : ∀ (l : List Int) (s : Int × Int), (∀ x ∈ l, 0 ≤ x ∧ x < (h.length : Int)) → alwL specs h' s l = alwL specs h s l
  | [], s, _ => rfl
  | x :: r, s, hx => by
    have h0 := hx x (List.mem_cons_self ..)
    obtain ⟨c1, c2, c3, c4⟩ := L.call x.toNat (by omega)
    have hsay : sayOf specs s (hAt h' x.toNat) = sayOf specs s (hAt h x.toNat) := by unfold sayOf; rw [c1, c2]
    have hgo : goOf specs s (hAt h' x.toNat) = goOf specs s (hAt h x.toNat) := by unfold goOf; rw [c1, c2]
    have halw : alwB specs s (hAt h' x.toNat) = alwB specs s (hAt h x.toNat) := by
      unfold alwB
      rw [hsay, c3, decide_eq_decide.2 c4]
    show (alwB specs s (hAt h' x.toNat) && alwL specs h' (goOf specs s (hAt h' x.toNat)) r) = (alwB specs s (hAt h x.toNat) && alwL specs h (goOf specs s (hAt h x.toNat)) r)
    rw [halw, hgo, alwL_loose L r _ fun y hy => hx y (List.mem_cons_of_mem _ hy)]

theorem ordB_mem {h : List HC6} {l : List Int} (ho : ordB h l = true) : ∀ x ∈ l, 0 ≤ x ∧ x < (h.length : Int) := fun x hx => by
  obtain ⟨k, hk, e⟩ := List.getElem_of_mem hx
  have := ordB_in ho hk
  have e2 : l.getD k 0 = x := by rw [List.getD_eq_getElem?_getD, List.getElem?_eq_getElem hk, e]; rfl
  rwa [e2] at this

/-- What both sides call an order that keeps time and is allowed. -/
def isOrd (specs : List Tup) (h : List HC6) (l : List Int) : Bool := ordB h l && (keepB bef h l && alwL specs h (0, 0) l)

theorem isOrd_loose {specs : List Tup} {h h' : List HC6} (L : Looser h h') {l : List Int} (ho : isOrd specs h l = true) : isOrd specs h' l = true := by
  unfold isOrd at ho ⊢
  simp only [Bool.and_eq_true] at ho ⊢
  exact ⟨ordB_loose L ho.1, keepB_loose L ho.1 ho.2.1, by rw [alwL_loose L l _ (ordB_mem ho.1)]; exact ho.2.2⟩

theorem IsOrder_eq {specs : List Tup} (hs : ∀ s ∈ specs, okS s) (hl : specs.length ≤ 1000) (hk : okSs specs = true) {h : List HC6} (h1 : okH h = true) (h2 : fitsB specs h = true) {l : List Int} (hl1 : l.length ≤ 1000) : history_IsOrder specs h l = some (isOrd specs h l, 0) := by
  unfold history_IsOrder
  rw [checkFor_fit hs hl hk h1 h2, Option.bind_some, if_pos (by rfl)]
  unfold history_told_23 history_IsOrder_1 isOrd
  have h8 := okH_len h1
  rw [isOrder_eq h (by omega) l hl1, Option.bind_some]
  cases ho : ordB h l with
  | false => rfl
  | true =>
    rw [if_pos rfl, keeps_eq h l hl1 ho, Option.bind_some]
    cases keepB bef h l with
    | false => rfl
    | true => rw [if_pos rfl, allows_eq hk (fun i hi => can_of h1 h2 hi) hl1 (ordB_mem ho)]; rfl

theorem rIsOrder_eq {specs : List Tup} (hs : ∀ s ∈ specs, okS s) (hl : specs.length ≤ 1000) (hk : okSs specs = true) {h : List HC6} (h1 : okH h = true) (h2 : fitsB specs h = true) {l : List Int} (hl1 : l.length ≤ 1000) : linealref02_IsOrder specs h l = some (isOrd specs h l, 0) := by
  have h8 := okH_len h1
  unfold linealref02_IsOrder linealref02_asked isOrd
  rw [areSpecs_eq specs hs hl, hk, Option.bind_some, if_neg (by simp), isFor_eq specs hs hl h, hk, h1, h2, Option.bind_some, if_neg (by simp), Option.bind_some, if_neg (by simp), isList_eq h (by omega) l hl1, Option.bind_some]
  cases ho : ordB h l with
  | false => rfl
  | true =>
    rw [if_pos rfl, keepsTime_eq h l hl1 ho, Option.bind_some]
    cases keepB bef h l with
    | false => rfl
    | true => rw [if_pos rfl, rallows_eq hk (fun i hi => can_of h1 h2 hi) hl1 (ordB_mem ho)]; rfl

end Go.Proofs.Ytlfpagicagmjgaa
