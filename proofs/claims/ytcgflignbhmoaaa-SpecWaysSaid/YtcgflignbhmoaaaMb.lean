/-
  States that some word tells apart are told apart by one with fewer calls than there are states. No program is named here.
-/
import Derived.Test.YtcgflignbhmoaaaBs
namespace Go.Proofs.Ytcgflignbhmoaaa

set_option linter.unusedVariables false
set_option linter.unusedSectionVars false

/-- Words of at most n calls tell the states not apart. -/
def Eqv (S : Sp) (n : Nat) (p q : Int) : Prop := ∀ w, calls S.op w → w.length ≤ n → ans S p w = ans S q w

theorem Eqv.refl (S : Sp) (n : Nat) (p : Int) : Eqv S n p p := fun _ _ _ => rfl
theorem Eqv.symm {S : Sp} {n : Nat} {p q : Int} (h : Eqv S n p q) : Eqv S n q p := fun w h1 h2 => (h w h1 h2).symm
theorem Eqv.trans {S : Sp} {n : Nat} {p q r : Int} (h : Eqv S n p q) (k : Eqv S n q r) : Eqv S n p r := fun w h1 h2 => (h w h1 h2).trans (k w h1 h2)
theorem Eqv.mono {S : Sp} {n m : Nat} {p q : Int} (h : Eqv S n p q) (hm : m ≤ n) : Eqv S m p q := fun w h1 h2 => h w h1 (Nat.le_trans h2 hm)

theorem Eqv.succ_iff {S : Sp} {n : Nat} {p q : Int} : Eqv S (n + 1) p q ↔ ∀ o, inR S.op o = true → at2 S.sy p o.toNat = at2 S.sy q o.toNat ∧ Eqv S n (at2 S.nx p o.toNat) (at2 S.nx q o.toNat) := by
  constructor
  · intro h o ho
    refine ⟨?_, fun w hw hl => ?_⟩
    · have := h [o] (fun x hx => by simp at hx; subst hx; exact ho) (by simp)
      simpa [ans] using this
    · have := h (o :: w) (fun x hx => by rcases List.mem_cons.1 hx with rfl | hx; exact ho; exact hw x hx) (by simp; omega)
      simp only [ans, List.cons.injEq] at this
      exact this.2
  · intro h w hw hl
    cases w with
    | nil => rfl
    | cons o w =>
      obtain ⟨h1, h2⟩ := h o (hw o (by simp))
      simp only [ans, h1]
      rw [h2 w (fun x hx => hw x (by simp [hx])) (by simpa using hl)]

/-- No further call tells more. -/
def Stable (S : Sp) (n : Nat) : Prop := ∀ p q, inR S.st p = true → inR S.st q = true → Eqv S n p q → Eqv S (n + 1) p q

theorem nx_in {S : Sp} (h : S.ok = true) {p o : Int} (hp : inR S.st p = true) (ho : inR S.op o = true) : inR S.st (at2 S.nx p o.toNat) = true := by
  have hs := ho
  simp only [inR, decide_eq_true_eq] at hs
  obtain ⟨r, _, _, h2, _⟩ := tab_at (Sp.okE h).2.2.2.2.1 hp (o := o.toNat) (by omega)
  exact h2

theorem Stable.all {S : Sp} (hS : S.ok = true) {n : Nat} (h : Stable S n) : ∀ m p q, inR S.st p = true → inR S.st q = true → Eqv S n p q → Eqv S (n + m) p q
  | 0, p, q, _, _, he => he
  | m + 1, p, q, hp, hq, he => by
    have h1 := h p q hp hq he
    rw [Eqv.succ_iff] at h1
    refine Eqv.succ_iff.2 fun o ho => ⟨(h1 o ho).1, ?_⟩
    exact Stable.all hS h m _ _ (nx_in hS hp ho) (nx_in hS hq ho) (h1 o ho).2

theorem filter_lt {α : Type} {p q : α → Bool} : ∀ {l : List α}, (∀ x ∈ l, p x = true → q x = true) → (∃ x ∈ l, q x = true ∧ p x = false) → (l.filter p).length < (l.filter q).length
  | [], _, ⟨x, hx, _⟩ => by simp at hx
  | a :: l, h, ⟨x, hx, h1, h2⟩ => by
    have le : (l.filter p).length ≤ (l.filter q).length := by
      have key : ∀ (l : List α), (∀ x ∈ l, p x = true → q x = true) → (l.filter p).length ≤ (l.filter q).length := by
        intro l
        induction l with
        | nil => intro _; simp
        | cons b l ih =>
          intro hh
          have := ih fun x hx => hh x (by simp [hx])
          rw [List.filter_cons, List.filter_cons]
          by_cases hp : p b = true
          · rw [if_pos hp, if_pos (hh b (by simp) hp)]; simpa using this
          · rw [if_neg hp]; split <;> simp <;> omega
      exact key l fun x hx => h x (by simp [hx])
    rw [List.filter_cons, List.filter_cons]
    rcases List.mem_cons.1 hx with rfl | hx
    · rw [if_neg (by simp [h2]), if_pos h1]; simp; omega
    · have ih := filter_lt (p := p) (q := q) (l := l) (fun x hx => h x (by simp [hx])) ⟨x, hx, h1, h2⟩
      by_cases hp : p a = true
      · rw [if_pos hp, if_pos (h a (by simp) hp)]; simpa using ih
      · rw [if_neg hp]; split <;> simp <;> omega

open Classical in
noncomputable def isFirst (S : Sp) (n : Nat) (q : Nat) : Bool := if ∀ r : Nat, r < q → ¬ Eqv S n r q then true else false
theorem isFirst_iff {S : Sp} {n q : Nat} : isFirst S n q = true ↔ ∀ r : Nat, r < q → ¬ Eqv S n r q := by unfold isFirst; split <;> simp_all

/-- States that are the first of their kind. -/
noncomputable def firsts (S : Sp) (n : Nat) : List Nat := (List.range S.st.toNat).filter (isFirst S n)

/-- The first of its kind. -/
theorem first_of (S : Sp) (n : Nat) : ∀ (q : Nat), ∃ r : Nat, r ≤ q ∧ Eqv S n r q ∧ ∀ k : Nat, k < r → ¬ Eqv S n k r := by
  intro q
  induction q using Nat.strongRecOn with
  | ind q ih =>
    by_cases h : ∀ r : Nat, r < q → ¬ Eqv S n r q
    · exact ⟨q, Nat.le_refl _, Eqv.refl _ _ _, h⟩
    · have : ∃ r : Nat, r < q ∧ Eqv S n r q := Classical.byContradiction fun hn => h fun r hr he => hn ⟨r, hr, he⟩
      obtain ⟨r, hr, he⟩ := this
      obtain ⟨x, h1, h2, h3⟩ := ih r hr
      exact ⟨x, by omega, h2.trans he, h3⟩

theorem firsts_lt {S : Sp} {n : Nat} (h : ¬ Stable S n) : (firsts S n).length < (firsts S (n + 1)).length := by
  have : ∃ p q, inR S.st p = true ∧ inR S.st q = true ∧ Eqv S n p q ∧ ¬ Eqv S (n + 1) p q := Classical.byContradiction fun hn => h fun p q hp hq he => Classical.byContradiction fun hne => hn ⟨p, q, hp, hq, he, hne⟩
  obtain ⟨p, q, hp, hq, he, hne⟩ := this
  simp only [inR, decide_eq_true_eq] at hp hq
  obtain ⟨p, rfl⟩ := Int.eq_ofNat_of_zero_le hp.1
  obtain ⟨q, rfl⟩ := Int.eq_ofNat_of_zero_le hq.1
  obtain ⟨p0, g1, g2, g3⟩ := first_of S n p
  have hx : ∃ x : Nat, (x : Int) < S.st ∧ Eqv S n p0 x ∧ ¬ Eqv S (n + 1) p0 x := by
    by_cases h1 : Eqv S (n + 1) p0 p
    · exact ⟨q, hq.2, g2.trans he, fun h2 => hne (h1.symm.trans h2)⟩
    · exact ⟨p, hp.2, g2, h1⟩
  obtain ⟨x, x1, x2, x3⟩ := hx
  obtain ⟨x0, f1, f2, f3⟩ := first_of S (n + 1) x
  have hne0 : x0 ≠ p0 := fun e => x3 (e ▸ f2)
  have heq : Eqv S n p0 x0 := x2.trans (f2.mono (Nat.le_succ n)).symm
  have hlt : p0 < x0 := by
    rcases Nat.lt_trichotomy p0 x0 with h | h | h
    · exact h
    · exact absurd h.symm hne0
    · exact absurd heq.symm (g3 x0 h)
  refine filter_lt (fun y _ hy => ?_) ⟨x0, List.mem_range.2 (by omega), ?_, ?_⟩
  · rw [isFirst_iff] at hy ⊢
    exact fun r hr he => hy r hr (he.mono (Nat.le_succ n))
  · rw [isFirst_iff]; exact f3
  · rw [Bool.eq_false_iff, ne_eq, isFirst_iff]
    exact fun hh => hh p0 hlt heq

/-- Some word tells them apart: one of fewer calls than there are states. -/
theorem short_diff {S : Sp} (hS : S.ok = true) {p q : Int} (hp : inR S.st p = true) (hq : inR S.st q = true) {w : List Int} (hw : calls S.op w) (hd : ans S p w ≠ ans S q w) : ∃ v, calls S.op v ∧ ans S p v ≠ ans S q v ∧ (v.length : Int) ≤ S.st - 1 := by
  have hs := Sp.okE hS
  have h0 : 1 ≤ (firsts S 0).length := by
    have : (0 : Nat) ∈ firsts S 0 := by
      unfold firsts
      rw [List.mem_filter]
      exact ⟨List.mem_range.2 (by omega), by rw [isFirst_iff]; exact fun r hr => by omega⟩
    have := List.length_pos_of_mem this
    omega
  have hst : ∃ n : Nat, (n : Int) ≤ S.st - 1 ∧ Stable S n := by
    refine Classical.byContradiction fun hn => ?_
    have key : ∀ n : Nat, (n : Int) ≤ S.st → n + 1 ≤ (firsts S n).length := by
      intro n
      induction n with
      | zero => intro _; exact h0
      | succ n ih =>
        intro hle
        have h1 := ih (by omega)
        have h2 := firsts_lt (S := S) (n := n) fun hst => hn ⟨n, by omega, hst⟩
        omega
    have h1 := key S.st.toNat (by omega)
    have h2 : (firsts S S.st.toNat).length ≤ S.st.toNat := by
      have := List.length_filter_le (isFirst S S.st.toNat) (List.range S.st.toNat)
      simpa [firsts] using this
    omega
  obtain ⟨n, hn, hstab⟩ := hst
  have hne : ¬ Eqv S n p q := fun he => hd ((hstab.all hS w.length p q hp hq he) w hw (by omega))
  have : ∃ v, calls S.op v ∧ v.length ≤ n ∧ ans S p v ≠ ans S q v := Classical.byContradiction fun hh => hne fun v h1 h2 => Classical.byContradiction fun h3 => hh ⟨v, h1, h2, h3⟩
  obtain ⟨v, h1, h2, h3⟩ := this
  exact ⟨v, h1, h3, by omega⟩

end Go.Proofs.Ytcgflignbhmoaaa
