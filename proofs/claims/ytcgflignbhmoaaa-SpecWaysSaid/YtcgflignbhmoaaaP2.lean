/-
  Layer 1, pure: the word that tells apart; equality; the flag's example.
-/
import Derived.Test.YtcgflignbhmoaaaP1
namespace Go.Proofs.Ytcgflignbhmoaaa
open Go.RowKit

set_option linter.unusedVariables false
set_option linter.unusedSimpArgs false

theorem findSome_range (p : Nat → Bool) {R : Type} (g : Nat → R) : ∀ (l : List Nat), l.findSome? (fun o => if p o = true then some (g o) else none) = (l.find? p).map g
  | [] => rfl
  | o :: r => by
    rw [List.findSome?_cons, List.find?_cons]
    cases hp : p o
    · simpa using findSome_range p g r
    · simp

theorem apart_round (M N : Tup) (hM : (toSp M).ok = true) (hN : (toSp N).ok = true) (hop : M.2.1 = N.2.1) {e : Elt} (he : okP (toSp M) (toSp N) e.1) (hl : e.2.length ≤ 1000) :
    spec_apart_y1 M N e () = some (match fstDiff (toSp M) (toSp N) e.1 with | some o => .done (e.2 ++ [(o : Int)]) | none => .next ()) := by
  have hm := Sp.okE hM
  have hn := Sp.okE hN
  have hM1 : (toSp M).op = M.2.1 := rfl
  have hopn : (M.2.1.toNat : Int) = M.2.1 := by have := hm.2.2.1; rw [hM1] at this; omega
  have h4 : M.2.1 ≤ 4 := hm.2.2.2.1
  unfold spec_apart_y1
  rw [whileO_find M.2.1.toNat (fun o => if (at2 (toSp M).sy e.1.1 o != at2 (toSp N).sy e.1.2 o) = true then some (Sum.inl (e.2 ++ [(o : Int)])) else none) (Sum.inr ()) (fun o ho => ?_) ?_]
  · rw [findSome_range, Option.bind_some]
    have : fstDiff (toSp M) (toSp N) e.1 = (List.range M.2.1.toNat).find? fun o => at2 (toSp M).sy e.1.1 o != at2 (toSp N).sy e.1.2 o := rfl
    rw [this]
    cases (List.range M.2.1.toNat).find? fun o => at2 (toSp M).sy e.1.1 o != at2 (toSp N).sy e.1.2 o <;> rfl
  · unfold spec_apart_b2
    rw [if_neg (by simp; omega)]
  · have ho' : (o : Int) < M.2.1 := by omega
    obtain ⟨a1, a2, a3, a4⟩ := at_row hm.2.2.2.2.2 he.1 (o := o) (by rw [hM1]; exact ho')
    obtain ⟨b1, b2, b3, b4⟩ := at_row hn.2.2.2.2.2 he.2 (o := o) (by rw [show (toSp N).op = M.2.1 from hop.symm]; exact ho')
    have a2' : e.1.1 < (M.2.2.2.length : Int) := a2
    have b2' : e.1.2 < (N.2.2.2.length : Int) := b2
    have a3' : (o : Int) < ((M.2.2.2.getD e.1.1.toNat []).length : Int) := a3
    have b3' : (o : Int) < ((N.2.2.2.getD e.1.2.toNat []).length : Int) := b3
    unfold spec_apart_b2
    rw [if_pos (by simpa using ho'), ck_pos a1, ck_pos a2', ck_pos (by omega), ck_pos a3', ck_pos b1, ck_pos b2', ck_pos (by omega), ck_pos b3']
    simp only [getD_nx]
    have e1 : (toSp M).sy = M.2.2.2 := rfl
    have e2 : (toSp N).sy = N.2.2.2 := rfl
    rw [e1, e2]
    by_cases hd : at2 M.2.2.2 e.1.1 o = at2 N.2.2.2 e.1.2 o
    · rw [if_neg (by simp [hd]), if_neg (by simp [hd]), ck_pos (by rw [inK_i64]; omega)]
    · rw [if_pos (by simp [hd]), if_pos (by simp [hd]), longer_eq _ _ (by omega)]; rfl

theorem fold_apart (M N : Tup) (hM : (toSp M).ok = true) (hN : (toSp N).ok = true) (hop : M.2.1 = N.2.1) : ∀ {l : List Elt}, (∀ e ∈ l, okP (toSp M) (toSp N) e.1 ∧ e.2.length ≤ 1000) →
    foldY (spec_apart_y1 M N) l () = some (match apartL (toSp M) (toSp N) l with | some w => .inr w | none => .inl ())
  | [], _ => rfl
  | e :: r, h => by
    have ih := fold_apart M N hM hN hop (l := r) fun x hx => h x (by simp [hx])
    simp only [foldY, apartL]
    rw [apart_round M N hM hN hop (h e (by simp)).1 (h e (by simp)).2, Option.bind_some]
    cases fstDiff (toSp M) (toSp N) e.1 with
    | some o => rfl
    | none => exact ih

theorem apart_eq (M N : Tup) (hM : (toSp M).ok = true) (hN : (toSp N).ok = true) (hop : M.2.1 = N.2.1) {f : Int × Int} (hf : okP (toSp M) (toSp N) f) :
    spec_apart M N f = some (match apartP (toSp M) (toSp N) f with | some w => (w, true) | none => ([], false)) := by
  unfold spec_apart spec_walk
  rw [Option.bind_some]
  have hfnd := bfsK_fnd hM hN hop hf 64
  rw [walk_eq Unit (List Int) f M N hM hN hop hf (spec_apart_y1 M N) () (fold_apart M N hM hN hop (l := bfs (toSp M) (toSp N) f) fun e he => ⟨hfnd.ok e he, Nat.le_trans (hfnd.wl e he) (by omega)⟩), Option.bind_some]
  unfold apartP
  cases apartL (toSp M) (toSp N) (bfs (toSp M) (toSp N) f) with
  | some w => rfl
  | none => rfl

/-- The answer of Word. -/
def wordOf (S : Sp) (a b : Int) : List Int × Int :=
  if S.ok = true then (if inR S.st a = true ∧ inR S.st b = true then (match apartP S S (a, b) with | some w => (w, 0) | none => ([], 5)) else ([], 2)) else ([], 10)

theorem Word_eq (s : Tup) (hs : okS s) (a b : Int) : spec_Word s a b = some (wordOf (toSp s) a b) := by
  unfold spec_Word wordOf
  rw [checked_eq s hs [a, b] (by rw [maxLen_num]; simp), Option.bind_some]
  have e0 : (toSp s).st = s.1 := rfl
  cases hv : (toSp s).ok
  · simp
  · simp only [if_true, e0, List.all_cons, List.all_nil, Bool.and_true]
    cases ha : inR s.1 a
    · simp
    · cases hb : inR s.1 b
      · simp
      · simp only [Bool.true_and, if_true, and_self, decide_true, Bool.not_true, Bool.false_eq_true, if_false]
        rw [apart_eq s s hv hv rfl (f := (a, b)) ⟨ha, hb⟩, Option.bind_some]
        cases apartP (toSp s) (toSp s) (a, b) <;> simp

theorem SameInts_eq (a b : List Int) (h : a.length ≤ maxLen) : linealref01_SameInts a b = some (decide (a = b)) := by
  unfold linealref01_SameInts
  by_cases hl : a.length = b.length
  · have hz : (a.zip b).length = a.length := by simp [hl]
    rw [if_neg (by simp [hl]), whileO_all (a.zip b) (fun q => decide (q.1 = q.2)) (fun k x hk => ?_) ?_]
    · rw [all_zip_eq a b hl]
      by_cases e : a = b <;> simp [e, linealref01_SameInts_k1]
    · rw [hz]; unfold linealref01_SameInts_b1; rw [if_neg (by simp)]
    · obtain ⟨h1, h2⟩ := List.getElem?_zip_eq_some.1 hk
      have hlt := (List.getElem?_eq_some_iff.1 h1).1
      have hlt2 := (List.getElem?_eq_some_iff.1 h2).1
      unfold linealref01_SameInts_b1
      rw [if_pos (by simpa using hlt), ck_pos (by omega), ck_pos (by omega), ck_pos (by omega), ck_pos (by omega), Int.toNat_natCast, getD_of h1, getD_of h2]
      by_cases e : x.1 = x.2
      · simp [e, ck_pos (inK_nat hlt h)]
      · simp [e]
  · rw [if_pos (by simp; omega)]
    have : ¬ a = b := fun e => hl (by rw [e])
    simp [this]

theorem SameLists_eq (a b : List (List Int)) (ha : okT a) : linealref01_SameLists a b = some (decide (a = b)) := by
  unfold linealref01_SameLists
  by_cases hl : a.length = b.length
  · have hz : (a.zip b).length = a.length := by simp [hl]
    rw [if_neg (by simp [hl]), whileO_all (a.zip b) (fun q => decide (q.1 = q.2)) (fun k x hk => ?_) ?_]
    · rw [all_zip_eq a b hl]
      by_cases e : a = b <;> simp [e, linealref01_SameLists_k1]
    · rw [hz]; unfold linealref01_SameLists_b1; rw [if_neg (by simp)]
    · obtain ⟨h1, h2⟩ := List.getElem?_zip_eq_some.1 hk
      have hlt := (List.getElem?_eq_some_iff.1 h1).1
      have hlt2 := (List.getElem?_eq_some_iff.1 h2).1
      unfold linealref01_SameLists_b1
      rw [if_pos (by simpa using hlt), ck_pos (by omega), ck_pos (by omega), ck_pos (by omega), ck_pos (by omega), Int.toNat_natCast, getD_of h1, getD_of h2, SameInts_eq _ _ (len_ok (ha.2 _ (List.mem_of_getElem? h1))), Option.bind_some]
      by_cases e : x.1 = x.2
      · simp [e, ck_pos (inK_nat hlt (len_ok ha.1))]
      · simp [e]
  · rw [if_pos (by simp; omega)]
    have : ¬ a = b := fun e => hl (by rw [e])
    simp [this]

theorem Equal_eq (a b : Tup) (ha : okS a) : linealref01_Equal a b = some (decide (a = b)) := by
  obtain ⟨a1, a2, a3, a4⟩ := a
  obtain ⟨b1, b2, b3, b4⟩ := b
  unfold linealref01_Equal
  simp only [Prod.mk.injEq]
  by_cases e1 : a1 = b1
  · by_cases e2 : a2 = b2
    · rw [if_pos (by simp [e1]), if_pos (by simp [e2]), SameLists_eq _ _ ha.1, Option.bind_some]
      by_cases e3 : a3 = b3
      · rw [if_pos (by simp [e3]), SameLists_eq _ _ ha.2]; simp [e1, e2, e3]
      · simp [e3]
    · simp [e1, e2]
  · simp [e1]

/-- The flag. -/
theorem flag_word : wordOf (toSp (2, 2, [[1, 0], [1, 1]], [[0, 0], [0, 1]])) 0 1 = ([1], 0) := by decide +kernel

theorem okS_small {s : Tup} (h : s.2.2.1.length ≤ 40 ∧ (∀ r ∈ s.2.2.1, r.length ≤ 40) ∧ s.2.2.2.length ≤ 40 ∧ ∀ r ∈ s.2.2.2, r.length ≤ 40) : okS s :=
  ⟨⟨by omega, fun r hr => Nat.le_trans (h.2.1 r hr) (by omega)⟩, ⟨by omega, fun r hr => Nat.le_trans (h.2.2.2 r hr) (by omega)⟩⟩

theorem Awake_eq : lineallaw01_Awake = some true := by
  unfold lineallaw01_Awake
  rw [Word_eq _ (okS_small (by decide)), flag_word, Option.bind_some]
  rw [if_pos (by decide), SameInts_eq _ _ (by rw [maxLen_num]; decide)]
  rfl

/-- Some row is longer than forty, or there are more than forty. -/
def wideB (l : List (List Int)) : Bool := l.any (fun r => decide (40 < r.length)) || decide (40 < l.length)

theorem wide_eq (l : List (List Int)) (hl : okT l) : lineallaw01_wide l = some (wideB l) := by
  unfold lineallaw01_wide wideB
  rw [whileO_all l (fun r => !decide (40 < r.length)) (fun k x hk => ?_) ?_]
  · have : l.any (fun r => decide (40 < r.length)) = !(l.all fun r => !decide (40 < r.length)) := by
      rw [List.not_all_eq_any_not]; simp
    rw [this]
    cases l.all (fun r => !decide (40 < r.length))
    · simp
    · simp [lineallaw01_wide_k1]; omega
  · unfold lineallaw01_wide_b1; rw [if_neg (by simp)]
  · have hlt := (List.getElem?_eq_some_iff.1 hk).1
    unfold lineallaw01_wide_b1
    rw [if_pos (by simpa using hlt), ck_pos (by omega), ck_pos (by omega), Int.toNat_natCast, getD_of hk]
    by_cases h : 40 < x.length
    · rw [if_pos (by simp; omega)]; simp [h]
    · rw [if_neg (by simp; omega), ck_pos (inK_nat hlt (len_ok hl.1))]; simp [h]

theorem Long_eq (s : Tup) (hs : okS s) : lineallaw01_Long s = some (wideB s.2.2.1 || wideB s.2.2.2) := by
  unfold lineallaw01_Long
  rw [wide_eq _ hs.1, wide_eq _ hs.2, Option.bind_some]
  cases wideB s.2.2.1 <;> simp

end Go.Proofs.Ytcgflignbhmoaaa
