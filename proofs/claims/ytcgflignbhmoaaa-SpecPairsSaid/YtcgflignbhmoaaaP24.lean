/-
  Layer 1, pure: the word that tells two states apart is the first of all that do.
-/
import Derived.Test.YtcgflignbhmoaaaP13
namespace Go.Proofs.Ytcgflignbhmoaaa
open Go.RowKit

set_option linter.unusedVariables false
set_option linter.unusedSectionVars false
set_option linter.unusedSimpArgs false

/-! ### Words as numbers: call by call from the front -/

theorem cd_foldl : ∀ (w : List Int) (a : Nat), w.foldl (fun a o => 5 * a + o.toNat + 1) a = 5 ^ w.length * a + cd w
  | [], a => by simp [cd]
  | o :: w, a => by
    have h1 := cd_foldl w (5 * a + o.toNat + 1)
    have h2 := cd_foldl w (5 * 0 + o.toNat + 1)
    have e2 : cd (o :: w) = w.foldl (fun a o => 5 * a + o.toNat + 1) (5 * 0 + o.toNat + 1) := rfl
    rw [List.foldl_cons, h1, e2, h2, List.length_cons, Nat.pow_succ]
    have e : 5 ^ w.length * (5 * a + o.toNat + 1) = 5 ^ w.length * 5 * a + 5 ^ w.length * (5 * 0 + o.toNat + 1) := by
      rw [Nat.mul_assoc, ← Nat.mul_add]; congr 1; omega
    omega

theorem cd_cons (o : Int) (w : List Int) : cd (o :: w) = 5 ^ w.length * (o.toNat + 1) + cd w := by
  have e2 : cd (o :: w) = w.foldl (fun a o => 5 * a + o.toNat + 1) (5 * 0 + o.toNat + 1) := rfl
  rw [e2, cd_foldl]; congr 2; omega

theorem cd_lt {op : Int} (h4 : op ≤ 4) : ∀ {w : List Int}, calls op w → cd w < 5 ^ w.length
  | [], _ => by simp [cd]
  | o :: w, h => by
    have ho := h o (by simp)
    simp only [inR, decide_eq_true_eq] at ho
    have ih := cd_lt h4 (w := w) fun x hx => h x (by simp [hx])
    rw [cd_cons, List.length_cons, Nat.pow_succ]
    have : 5 ^ w.length * (o.toNat + 1) ≤ 5 ^ w.length * 4 := Nat.mul_le_mul_left _ (by omega)
    omega

/-- Of two words of one length, the first call decides. -/
theorem cd_first {op : Int} (h4 : op ≤ 4) {a b : Int} {v w : List Int} (hl : v.length = w.length) (hv : calls op v) (ha : 0 ≤ a) (hab : a < b) : cd (a :: v) < cd (b :: w) := by
  rw [cd_cons, cd_cons, hl]
  have h1 := cd_lt h4 hv
  rw [hl] at h1
  have h2 : 5 ^ w.length * (a.toNat + 1) + 5 ^ w.length ≤ 5 ^ w.length * (b.toNat + 1) := by
    rw [← Nat.mul_succ]
    exact Nat.mul_le_mul_left _ (by omega)
  omega

/-- A shorter word comes first. -/
theorem cd_short {op : Int} (h4 : op ≤ 4) {v w : List Int} (hl : v.length < w.length) (hv : calls op v) : cd v < cd w := by
  cases w with
  | nil => simp at hl
  | cons o w =>
    rw [cd_cons]
    have h1 := cd_lt h4 hv
    have h2 : 5 ^ v.length ≤ 5 ^ w.length := Nat.pow_le_pow_right (by omega) (by simp at hl; omega)
    have h3 : 5 ^ w.length ≤ 5 ^ w.length * (o.toNat + 1) := Nat.le_mul_of_pos_right _ (by omega)
    omega

theorem cd_prefix {v r : List Int} : cd v ≤ cd (v ++ r) := by
  unfold cd
  rw [List.foldl_append, cd_foldl r]
  have : List.foldl (fun a o => 5 * a + o.toNat + 1) 0 v ≤ 5 ^ r.length * List.foldl (fun a o => 5 * a + o.toNat + 1) 0 v := Nat.le_mul_of_pos_left _ (Nat.pow_pos (by omega))
  omega

section
variable {M N : Sp} (hM : M.ok = true) (hN : N.ok = true) (hop : M.op = N.op) {f : Int × Int} (hf : okP M N f)
include hM hN hop hf

/-- It is the first of all words that tell. -/
theorem apart_cd {own : List Int} (h : apartP M N f = some own) {w : List Int} (hw : calls M.op w) (hd : ans M f.1 w ≠ ans N f.2 w) : cd own ≤ cd w := by
  obtain ⟨i, e, o, h1, h2, rfl, h4⟩ := apartL_some' h
  obtain ⟨v, c, r, rfl, hne⟩ := ans_diff M N w f hd
  have hv : calls M.op v := fun x hx => hw x (by simp [hx])
  have hc := hw c (by simp)
  simp only [inR, decide_eq_true_eq] at hc
  obtain ⟨e', he', k1, k2⟩ := bfs_first hM hN hop hf v.length v rfl hv
  have hfst : ∃ o', fstDiff M N e'.1 = some o' ∧ o' ≤ c.toNat := by
    cases hx : fstDiff M N e'.1 with
    | none =>
      rw [← k1] at hne
      exact absurd (fstDiff_none' hx (by omega)) hne
    | some o' =>
      refine ⟨o', rfl, ?_⟩
      unfold fstDiff at hx
      rcases Nat.lt_or_ge c.toNat o' with hlt | hge
      · rw [List.find?_range_eq_some] at hx
        have := hx.2.2 c.toNat hlt
        rw [← k1] at hne
        simp at this
        exact absurd this hne
      · exact hge
  obtain ⟨o', q1, q2⟩ := hfst
  obtain ⟨j, hj⟩ := List.getElem?_of_mem he'
  have hij : i ≤ j := by
    rcases Nat.lt_or_ge j i with hlt | hge
    · rw [h4 j e' hlt hj] at q1; cases q1
    · exact hge
  have hp : cd (v ++ [c]) ≤ cd (v ++ c :: r) := by
    have := cd_prefix (v := v ++ [c]) (r := r)
    rwa [List.append_assoc, List.singleton_append] at this
  refine Nat.le_trans ?_ hp
  rw [cd_snoc, cd_snoc, Int.toNat_natCast]
  rcases Nat.lt_or_ge i j with hlt | hge
  · have := (bfsK_sc hM (N := N) f 64).srt i j e e' hlt h1 hj
    obtain ⟨ho, _⟩ := fstDiff_some' h2
    have := (Sp.okE hM).2.2.2.1
    omega
  · have : i = j := by omega
    subst this
    rw [h1] at hj
    have := Option.some.inj hj
    subst this
    rw [h2] at q1
    have := Option.some.inj q1
    omega

end
end Go.Proofs.Ytcgflignbhmoaaa
