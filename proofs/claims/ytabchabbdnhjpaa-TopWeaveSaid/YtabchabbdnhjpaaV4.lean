/-
  Layer 3, pure: Size as the number of a class's words; the chapter's example.
-/
import Derived.Test.YtabchabbdnhjpaaV3
namespace Go.Proofs.Ytabchabbdnhjpaa
open Go.RowKit

set_option linter.unusedVariables false
set_option linter.unusedSimpArgs false
set_option maxRecDepth 10000

section
variable {α β : Type} [DecidableEq α]
theorem mhas_mput : ∀ (l : List (α × β)) (x y : α) (v : β), mhas (mput l x v) y = (decide (x = y) || mhas l y)
  | [], x, y, v => by simp [mput, mhas]
  | (k, w) :: r, x, y, v => by
    have ih := mhas_mput r x y v
    unfold mput
    by_cases h : k = x
    · rw [if_pos h]; subst h
      by_cases e : k = y <;> simp [mhas, e]
    · rw [if_neg h]
      simp only [mhas, ih]
      by_cases e : k = y
      · simp [e]
      · simp [e]
theorem mget_mput (d : β) : ∀ (l : List (α × β)) (x y : α) (v : β), mget d (mput l x v) y = if x = y then v else mget d l y
  | [], x, y, v => by simp [mput, mget]
  | (k, w) :: r, x, y, v => by
    have ih := mget_mput d r x y v
    unfold mput
    by_cases h : k = x
    · rw [if_pos h]; subst h
      by_cases e : k = y <;> simp [mget, e]
    · rw [if_neg h]
      simp only [mget, ih]
      by_cases e : k = y
      · have : ¬ x = y := fun q => h (e.trans q.symm)
        simp [e, this]
      · simp [e]
end

theorem intAt_set : ∀ (t : Ty) (k : IntKind) (x : El t) (i j : Nat) (v : Int), allInt k t = true → i < t.size → j < t.size → intAt t (setInt t x i v) j = if i = j then v else intAt t x j
  | .int _, k, x, i, j, v, _, hi, hj => by
    simp only [Ty.size] at hi hj
    have : i = j := by omega
    rw [if_pos this]; rfl
  | .unit, k, x, i, j, v, _, hi, hj => by simp [Ty.size] at hi
  | .pair a b, k, x, i, j, v, hk, hi, hj => by
    simp only [allInt, Bool.and_eq_true] at hk
    simp only [Ty.size] at hi hj
    show (if j < a.size then intAt a (if i < a.size then (setInt a x.1 i v, x.2) else (x.1, setInt b x.2 (i - a.size) v) : El a × El b).1 j else intAt b (if i < a.size then (setInt a x.1 i v, x.2) else (x.1, setInt b x.2 (i - a.size) v) : El a × El b).2 (j - a.size)) = if i = j then v else if j < a.size then intAt a x.1 j else intAt b x.2 (j - a.size)
    by_cases h1 : i < a.size <;> by_cases h2 : j < a.size
    · simp only [h1, h2, if_true]
      exact intAt_set a k x.1 i j v hk.1 h1 h2
    · simp only [h1, h2, if_true, if_false]
      rw [if_neg (by omega)]
    · simp only [h1, h2, if_true, if_false]
      rw [if_neg (by omega)]
    · simp only [h1, h2, if_false]
      rw [intAt_set b k x.2 _ _ v hk.2 (by omega) (by omega)]
      by_cases h : i = j
      · rw [if_pos (by omega), if_pos h]
      · rw [if_neg (by omega), if_neg h]

theorem okD_set : ∀ (t : Ty) (x : El t) (i : Nat) (v : Int), allInt .i64 t = true → okD t x → InK .i64 v → okD t (setInt t x i v)
  | .int k, x, i, v, hk, hx, hv => by
    have e : k = .i64 := by simpa [allInt] using hk
    subst e
    exact hv
  | .unit, x, i, v, hk, hx, hv => trivial
  | .pair a b, x, i, v, hk, hx, hv => by
    simp only [allInt, Bool.and_eq_true] at hk
    show okD (.pair a b) (if i < a.size then _ else _)
    split
    · exact ⟨okD_set a x.1 i v hk.1 hx.1 hv, hx.2⟩
    · exact ⟨hx.1, okD_set b x.2 _ v hk.2 hx.2 hv⟩

/-- The key of a word. -/
theorem keyOf_eq (w : List Int) (hl : w.length ≤ 10) (hw : ∀ x ∈ w, 0 ≤ x ∧ x < 6) : ∃ κ : El T85, weave_keyOf w = some κ ∧ okD T85 κ ∧ ∀ i, i < 10 → intAt T85 κ i = match w[i]? with | some x => x + 1 | none => 0 := by
  unfold weave_keyOf
  have hs := scan2 (R := El T85) w (fun k (κ : El T85) => okD T85 κ ∧ ∀ i, i < 10 → intAt T85 κ i = match (w.take k)[i]? with | some x => x + 1 | none => 0)
    (fun κ => okD T85 κ ∧ ∀ i, i < 10 → intAt T85 κ i = match w[i]? with | some x => x + 1 | none => 0) (body := weave_keyOf_b1 w) (s0 := Ty.dflt T85) ?_ ?_ ?_
  · obtain ⟨κ, e, h⟩ := hs
    exact ⟨κ, by rw [e, Option.bind_some]; rfl, h⟩
  · refine ⟨by decide, fun i hi => ?_⟩
    have : ∀ j : Fin 10, intAt T85 (Ty.dflt T85) j.val = 0 := by decide
    have := this ⟨i, hi⟩
    simp only at this
    rw [this]; simp
  · rintro k x κ hk ⟨i1, i2⟩
    obtain ⟨hlt, hin⟩ := few_in (few_of hl) hk
    have hx := hw x (List.mem_of_getElem? hk)
    refine .inl ⟨setInt T85 κ (0 + (k : Int).toNat * 1) (x + 1), ?_, ?_, ?_⟩
    · unfold weave_keyOf_b1
      simp only
      rw [if_pos (by simpa using hlt), ck_pos (by simp), ck_pos (by simpa using hlt), Int.toNat_natCast, getD_of hk, ck_pos (by rw [inK_i64]; omega), ck_pos (by simp), ck_pos (by omega), ck_pos hin]
    · exact okD_set T85 κ _ _ rfl i1 (by rw [inK_i64]; omega)
    · intro i hi
      rw [intAt_set T85 .i64 κ _ i (x + 1) rfl (by rw [T85_size, Int.toNat_natCast]; omega) (by rw [T85_size]; exact hi), i2 i hi, Int.toNat_natCast, take_one hk]
      by_cases e : 0 + k * 1 = i
      · have : i = (w.take k).length := by simp; omega
        rw [if_pos e, List.getElem?_append_right (by omega), this]; simp
      · rw [if_neg e]
        by_cases h : i < (w.take k).length
        · rw [List.getElem?_append_left h]
        · rw [List.getElem?_eq_none (by omega), List.getElem?_eq_none (by simp at h ⊢; omega)]
  · rintro κ ⟨i1, i2⟩
    rw [List.take_length] at i2
    unfold weave_keyOf_b1
    rw [if_neg (by simp)]
    exact ⟨_, rfl, i1, i2⟩

theorem key_inj {w v : List Int} (hw : w.length ≤ 10) (hv : v.length ≤ 10) (kw : ∀ x ∈ w, 0 ≤ x ∧ x < 6) (kv : ∀ x ∈ v, 0 ≤ x ∧ x < 6) {κ : El T85} (h1 : weave_keyOf w = some κ) (h2 : weave_keyOf v = some κ) : w = v := by
  obtain ⟨κ1, e1, _, g1⟩ := keyOf_eq w hw kw
  obtain ⟨κ2, e2, _, g2⟩ := keyOf_eq v hv kv
  rw [h1] at e1; injection e1 with e1; subst e1
  rw [h2] at e2; injection e2 with e2; subst e2
  refine List.ext_getElem? fun i => ?_
  by_cases hi : i < 10
  · have a := g1 i hi
    rw [g2 i hi] at a
    cases hwi : w[i]? with
    | none =>
      cases hvi : v[i]? with
      | none => rfl
      | some y => rw [hwi, hvi] at a; simp only at a; have := kv y (List.mem_of_getElem? hvi); omega
    | some x =>
      cases hvi : v[i]? with
      | none => rw [hwi, hvi] at a; simp only at a; have := kw x (List.mem_of_getElem? hwi); omega
      | some y => rw [hwi, hvi] at a; simp only at a; congr 1; omega
  · rw [List.getElem?_eq_none (by omega), List.getElem?_eq_none (by omega)]

/-- What is known of sizes is so. -/
def Inv (l : Ltr) (known : List (El T85 × Int)) : Prop := ∀ w κ, isWd l w = true → weave_keyOf w = some κ → mhas known κ = true → mget 0 known κ = cntW l w

theorem isWd_six {l : Ltr} (hl : okL l = true) {w : List Int} (h : isWd l w = true) : ∀ x ∈ w, 0 ≤ x ∧ x < 6 := fun x hx => by
  have := isWd_let h hx
  have := okL_N hl
  omega

theorem size_eq {l : Ltr} (hl : okL l = true) {t : El T53} (ht : Ties l t) : ∀ (n : Nat) (w : List Int) (known : List (El T85 × Int)), w.length < n → isWd l w = true → Inv l known →
    ∃ known', weave_ties_size n t w known = some (cntW l w, known') ∧ Inv l known'
  | 0, w, known, h, _, _ => by omega
  | n + 1, w, known, hn, hw, hI => by
    have hlen := isWd_len hw
    have h6 := isWd_six hl hw
    show ∃ known', weave_ties_sizeF (weave_ties_size n) t w known = some (cntW l w, known') ∧ Inv l known'
    unfold weave_ties_sizeF
    by_cases hw0 : w = []
    · subst hw0
      rw [if_pos (by simp), cntW_eq, if_pos rfl]
      exact ⟨known, rfl, hI⟩
    rw [if_neg (by simp; exact hw0)]
    obtain ⟨κ, eκ, hκ, _⟩ := keyOf_eq w hlen h6
    rw [eκ, Option.bind_some, ck_pos hκ]
    by_cases hm : mhas known κ = true
    · rw [if_pos hm, hI w κ hw eκ hm]
      exact ⟨known, rfl, hI⟩
    rw [if_neg hm]
    have est : weave_ties_starts t w = some () := rfl
    rw [est, Option.bind_some]
    -- the rounds
    have rounds : ∀ (L : List (Int × List Int)) (kn : List (El T85 × Int)) (tot : Int), (∀ p ∈ L, p.2.length < n ∧ isWd l p.2 = true) → Inv l kn → 0 ≤ tot → tot + (L.length : Int) * 60466176 ≤ 1000000000000 →
        ∃ kn', foldY (weave_ties_size_y1 (weave_ties_size n) t) L (kn, tot) = some (Sum.inl (kn', tot + (L.map fun p => cntW l p.2).sum)) ∧ Inv l kn' := by
      intro L
      induction L with
      | nil => intro kn tot _ hk _ _; exact ⟨kn, by simp [foldY], hk⟩
      | cons p r ih =>
        intro kn tot hp hk h0 hb
        obtain ⟨hp1, hp2⟩ := hp p (by simp)
        obtain ⟨kn1, e1, hk1⟩ := size_eq hl ht n p.2 kn hp1 hp2 hk
        have hc := cntW_in (l := l) (isWd_len hp2)
        simp only [List.length_cons, Int.natCast_add, Int.add_mul] at hb
        obtain ⟨kn2, e2, hk2⟩ := ih kn1 (tot + cntW l p.2) (fun q hq => hp q (by simp [hq])) hk1 (by omega) (by omega)
        refine ⟨kn2, ?_, hk2⟩
        have hr : (0 : Int) ≤ (r.length : Int) * 60466176 := by omega
        have ey : weave_ties_size_y1 (weave_ties_size n) t p (kn, tot) = some (.next (kn1, tot + cntW l p.2)) := by
          unfold weave_ties_size_y1
          simp only
          rw [e1, Option.bind_some]
          simp only
          rw [ck_pos (by rw [inK_i64]; omega)]
        simp only [foldY]
        rw [ey, Option.bind_some]
        simp only
        rw [e2]
        simp [Int.add_assoc]
    obtain ⟨kn', e', hk'⟩ := rounds (startsL l w) known 0 (fun p hp => by
      have h1 := (startsL_mem hp).1
      have h2 := wo_some l w p.1 p.2 h1
      exact ⟨by omega, isWd_wo hw h1⟩) hI (by omega) (by have := startsL_len l w; omega)
    have hst := starts_ok ht h6 (by omega) (weave_ties_size_y1 (weave_ties_size n) t) (known, 0) e'
    rw [hst, Option.bind_some]
    simp only
    unfold weave_ties_size_k1
    rw [ck_pos hκ]
    have hc : 0 + ((startsL l w).map fun p => cntW l p.2).sum = cntW l w := by rw [Int.zero_add]; conv => rhs; rw [cntW_eq, if_neg hw0]
    refine ⟨_, by rw [hc], fun v κ' hv ev hm' => ?_⟩
    simp only at hm' ⊢
    rw [mget_mput]
    by_cases e : κ = κ'
    · subst e
      rw [if_pos rfl, key_inj hlen (isWd_len hv) h6 (isWd_six hl hv) eκ ev]
    · rw [if_neg e]
      rw [mhas_mput] at hm'
      have : mhas kn' κ' = true := by simpa [e] using hm'
      exact hk' v κ' hv ev this

theorem Size_eq (l : Ltr) (w : List Int) (hl : few l.2) (hw : few w) : weave_Size l w = some (if errW l [w] = 0 then cntW l w else 0, errW l [w]) := by
  unfold weave_Size
  obtain ⟨t, e, ht⟩ := checked_eq3 l [w] hl (by unfold few; simp) (fun u hu => by simp at hu; subst hu; exact hw)
  rw [e, Option.bind_some]
  by_cases h0 : errW l [w] = 0
  · rw [if_neg (by simp [h0])]
    have hok : okL l = true := by unfold errW at h0; cases h : okL l <;> simp [h] at h0 ⊢
    have hwd : isWd l w = true := by unfold errW at h0; rw [hok] at h0; cases h : isWd l w <;> simp [h] at h0 ⊢
    obtain ⟨kn, ek, _⟩ := size_eq hok (ht h0) fuel w [] (by have := isWd_len hwd; unfold fuel; omega) hwd (fun v κ _ _ hm => by simp [mhas] at hm)
    rw [ek, Option.bind_some, if_pos h0, h0]
  · rw [if_pos (by simp [h0]), if_neg h0]

theorem Awake3_eq : lineallaw03_Awake = some true := by
  unfold lineallaw03_Awake
  rw [Size_eq _ _ (by unfold few; simp) (by unfold few; simp), Option.bind_some]
  have h1 : errW (3, [(0, 1)]) [[2, 0, 1]] = 0 := by decide
  have h2 : cntW (3, [(0, 1)]) [2, 0, 1] = 3 := by decide
  simp only [h1, h2]
  rfl

end Go.Proofs.Ytabchabbdnhjpaa
