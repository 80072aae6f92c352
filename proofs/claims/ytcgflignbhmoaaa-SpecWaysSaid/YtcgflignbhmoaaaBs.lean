/-
  What the walk over pairs finds: each pair to which words lead, with one of its shortest words, in the order of their lengths. No program is named here.
-/
import Derived.Test.YtcgflignbhmoaaaAps
namespace Go.Proofs.Ytcgflignbhmoaaa

set_option linter.unusedVariables false
set_option linter.unusedSectionVars false

/-- A list of calls. -/
def calls (op : Int) (w : List Int) : Prop := ∀ o ∈ w, inR op o = true

/-- Where a word leads. -/
def lead (M N : Sp) (p : Int × Int) (w : List Int) : Int × Int := w.foldl (fun p o => to2 M N p o.toNat) p

/-- The answers of a word. -/
def ans (S : Sp) : Int → List Int → List Int
  | _, [] => []
  | q, o :: w => at2 S.sy q o.toNat :: ans S (at2 S.nx q o.toNat) w

theorem lead_snoc (M N : Sp) (p : Int × Int) (w : List Int) (o : Int) : lead M N p (w ++ [o]) = to2 M N (lead M N p w) o.toNat := by simp [lead]

theorem calls_snoc {op : Int} {w : List Int} {o : Int} (h : calls op w) (ho : inR op o = true) : calls op (w ++ [o]) := fun x hx => by
  rcases List.mem_append.1 hx with hx | hx
  · exact h x hx
  · simp at hx; subst hx; exact ho

theorem ans_snoc (M N : Sp) : ∀ (w : List Int) (p : Int × Int) (o : Int), ans M p.1 (w ++ [o]) = ans M p.1 w ++ [at2 M.sy (lead M N p w).1 o.toNat] ∧ ans N p.2 (w ++ [o]) = ans N p.2 w ++ [at2 N.sy (lead M N p w).2 o.toNat]
  | [], p, o => by simp [ans, lead]
  | c :: w, p, o => by
    obtain ⟨h1, h2⟩ := ans_snoc M N w (to2 M N p c.toNat) o
    simp only [List.cons_append, ans, lead, List.foldl_cons]
    exact ⟨by rw [← List.cons_append] at *; simp only [to2] at h1; rw [h1]; rfl, by simp only [to2] at h2; rw [h2]; rfl⟩

/-- Other answers begin with some call. -/
theorem ans_diff (M N : Sp) : ∀ (w : List Int) (p : Int × Int), ans M p.1 w ≠ ans N p.2 w → ∃ v o r, w = v ++ o :: r ∧ at2 M.sy (lead M N p v).1 o.toNat ≠ at2 N.sy (lead M N p v).2 o.toNat
  | [], p, h => absurd rfl h
  | c :: w, p, h => by
    by_cases hc : at2 M.sy p.1 c.toNat = at2 N.sy p.2 c.toNat
    · have : ans M (to2 M N p c.toNat).1 w ≠ ans N (to2 M N p c.toNat).2 w := fun e => h (by simp only [ans, hc]; exact congrArg _ e)
      obtain ⟨v, o, r, rfl, hd⟩ := ans_diff M N w (to2 M N p c.toNat) this
      exact ⟨c :: v, o, r, rfl, hd⟩
    · exact ⟨[], c, w, rfl, hc⟩

/-- What holds after k pairs have been seen to. -/
structure Shr (M N : Sp) (f : Int × Int) (k : Nat) (acc : List Elt) : Prop where
  ld : ∀ e ∈ acc, lead M N f e.2 = e.1 ∧ calls M.op e.2
  srt : ∀ (i j : Nat) (e e' : Elt), i ≤ j → acc[i]? = some e → acc[j]? = some e' → e.2.length ≤ e'.2.length
  bd : ∀ e0 : Elt, acc[k]? = some e0 → ∀ e ∈ acc, e.2.length ≤ e0.2.length + 1
  cl : ∀ (i : Nat) (e : Elt), i < k → acc[i]? = some e → ∀ o : Nat, (o : Int) < M.op → ∃ e' ∈ acc, e'.1 = to2 M N e.1 o ∧ e'.2.length ≤ e.2.length + 1
  ix : ∀ (i : Nat) (e : Elt), acc[i]? = some e → e.2.length ≤ i

/-- The same, while the k-th is seen to. -/
structure Shs (M N : Sp) (f : Int × Int) (k : Nat) (e : Elt) (n : Nat) (acc : List Elt) : Prop where
  ld : ∀ e ∈ acc, lead M N f e.2 = e.1 ∧ calls M.op e.2
  srt : ∀ (i j : Nat) (e e' : Elt), i ≤ j → acc[i]? = some e → acc[j]? = some e' → e.2.length ≤ e'.2.length
  bd : ∀ x ∈ acc, x.2.length ≤ e.2.length + 1
  cl : ∀ (i : Nat) (x : Elt), i < k → acc[i]? = some x → ∀ o : Nat, (o : Int) < M.op → ∃ e' ∈ acc, e'.1 = to2 M N x.1 o ∧ e'.2.length ≤ x.2.length + 1
  ck : ∀ o : Nat, o < n → ∃ e' ∈ acc, e'.1 = to2 M N e.1 o ∧ e'.2.length ≤ e.2.length + 1
  at_ : acc[k]? = some e
  ix : ∀ (i : Nat) (e : Elt), acc[i]? = some e → e.2.length ≤ i

theorem Shs.step {M N : Sp} {f : Int × Int} {k : Nat} {e : Elt} {n : Nat} {acc : List Elt} (h : Shs M N f k e n acc) (hn : (n : Int) < M.op) : Shs M N f k e (n + 1) (step1 M N e acc n) := by
  unfold step1
  split
  · rename_i hm
    obtain ⟨x, hx, hx1⟩ := List.mem_map.1 hm
    refine ⟨h.ld, h.srt, h.bd, h.cl, fun o ho => ?_, h.at_, h.ix⟩
    rcases Nat.lt_succ_iff_lt_or_eq.1 ho with ho | rfl
    · exact h.ck o ho
    · exact ⟨x, hx, hx1, h.bd x hx⟩
  · rename_i hm
    have hem := List.mem_of_getElem? h.at_
    obtain ⟨l1, l2⟩ := h.ld e hem
    have hk := lt_of_get h.at_
    have getE : ∀ {i : Nat} {x : Elt}, (acc ++ [(to2 M N e.1 n, e.2 ++ [(n : Int)])])[i]? = some x → acc[i]? = some x ∨ i = acc.length ∧ x = (to2 M N e.1 n, e.2 ++ [(n : Int)]) := by
      intro i x hx
      rcases Nat.lt_or_ge i acc.length with hi | hi
      · rw [List.getElem?_append_left hi] at hx; exact .inl hx
      · rw [List.getElem?_append_right hi] at hx
        have hlt := lt_of_get hx
        simp only [List.length_singleton] at hlt
        have h0 : i - acc.length = 0 := by omega
        rw [h0] at hx
        simp at hx
        exact .inr ⟨by omega, hx.symm⟩
    have keep : ∀ {x : Elt}, x ∈ acc → x ∈ acc ++ [(to2 M N e.1 n, e.2 ++ [(n : Int)])] := fun hx => List.mem_append_left _ hx
    refine ⟨fun x hx => ?_, fun i j x y hij hx hy => ?_, fun x hx => ?_, fun i x hi hx o ho => ?_, fun o ho => ?_, ?_, fun i x hx => ?_⟩
    · rcases List.mem_append.1 hx with hx | hx
      · exact h.ld x hx
      · simp at hx; subst hx
        refine ⟨by rw [lead_snoc, l1]; simp, calls_snoc l2 (by simp only [inR, decide_eq_true_eq]; omega)⟩
    · rcases getE hx with hx | ⟨rfl, rfl⟩
      · rcases getE hy with hy | ⟨rfl, rfl⟩
        · exact h.srt i j x y hij hx hy
        · have := h.bd x (List.mem_of_getElem? hx); simpa using this
      · rcases getE hy with hy | ⟨rfl, rfl⟩
        · have := lt_of_get hy; omega
        · exact Nat.le_refl _
    · rcases List.mem_append.1 hx with hx | hx
      · exact h.bd x hx
      · simp at hx; subst hx; simp
    · rcases getE hx with hx | ⟨rfl, rfl⟩
      · obtain ⟨y, hy, h1, h2⟩ := h.cl i x hi hx o ho
        exact ⟨y, keep hy, h1, h2⟩
      · omega
    · rcases Nat.lt_succ_iff_lt_or_eq.1 ho with ho | rfl
      · obtain ⟨y, hy, h1, h2⟩ := h.ck o ho
        exact ⟨y, keep hy, h1, h2⟩
      · exact ⟨_, List.mem_append_right _ (List.mem_singleton.2 rfl), rfl, by simp⟩
    · rw [List.getElem?_append_left hk]; exact h.at_
    · rcases getE hx with hx | ⟨rfl, rfl⟩
      · exact h.ix i x hx
      · have := h.ix k e h.at_
        simp; omega

theorem Shs.expandK {M N : Sp} {f : Int × Int} {k : Nat} {e : Elt} {acc : List Elt} (h : Shs M N f k e 0 acc) : ∀ {n : Nat}, (n : Int) ≤ M.op → Shs M N f k e n (Proofs.Ytcgflignbhmoaaa.expandK M N e acc n)
  | 0, _ => h
  | n + 1, hn => by
    rw [expandK_succ]
    exact (Shs.expandK h (n := n) (by omega)).step (by omega)

theorem bfsK_shr {M N : Sp} (hM : M.ok = true) (f : Int × Int) : ∀ k, Shr M N f k (bfsK M N f k)
  | 0 => by
    have g : ∀ {i : Nat} {e : Elt}, ([(f, [])] : List Elt)[i]? = some e → i = 0 ∧ e = (f, []) := by
      intro i e h
      have := lt_of_get h
      simp at this; subst this; simp at h; exact ⟨rfl, h.symm⟩
    refine ⟨fun e he => ?_, fun i j e e' _ h1 h2 => ?_, fun e0 h0 e he => ?_, fun i e hi => by omega, fun i e h => ?_⟩
    · simp [bfsK] at he; subst he; exact ⟨rfl, fun o ho => by simp at ho⟩
    · rw [(g h1).2, (g h2).2]; exact Nat.le_refl _
    · simp [bfsK] at he; subst he; simp
    · rw [(g h).2]; simp
  | k + 1 => by
    have ih := bfsK_shr hM (N := N) f k
    cases h : (bfsK M N f k)[k]? with
    | none =>
      rw [bfsK_none h]
      refine ⟨ih.ld, ih.srt, fun e0 h0 => ?_, fun i e hi hx => ?_, ih.ix⟩
      · have := lt_of_get h0
        rw [List.getElem?_eq_none_iff] at h; omega
      · rcases Nat.lt_succ_iff_lt_or_eq.1 hi with hi | rfl
        · exact ih.cl i e hi hx
        · rw [h] at hx; cases hx
    | some e =>
      rw [bfsK_some h]
      have hm := (Sp.okE hM).2.2.1
      have s0 : Shs M N f k e 0 (bfsK M N f k) := ⟨ih.ld, ih.srt, ih.bd e h, ih.cl, fun o ho => by omega, h, ih.ix⟩
      have s1 := s0.expandK (n := M.op.toNat) (by omega)
      refine ⟨s1.ld, s1.srt, fun e0 h0 x hx => ?_, fun i x hi hx o ho => ?_, s1.ix⟩
      · have h1 := s1.bd x hx
        have h2 := s1.srt k (k + 1) e e0 (by omega) s1.at_ h0
        omega
      · rcases Nat.lt_succ_iff_lt_or_eq.1 hi with hi | rfl
        · exact s1.cl i x hi hx o ho
        · have := s1.at_
          rw [this] at hx
          injection hx with hx
          subst hx
          exact s1.ck o (by omega)

section
variable {M N : Sp} (hM : M.ok = true) (hN : N.ok = true) (hop : M.op = N.op) {f : Int × Int} (hf : okP M N f)
include hM hN hop hf

theorem bfs_shr : Shr M N f 64 (bfs M N f) := bfsK_shr hM f 64

theorem bfs_len : (bfs M N f).length ≤ 64 := (bfsK_fnd hM hN hop hf 64).len hM hN

theorem bfs_next {e : Elt} (he : e ∈ bfs M N f) {o : Int} (ho : inR M.op o = true) : ∃ e' ∈ bfs M N f, e'.1 = to2 M N e.1 o.toNat ∧ e'.2.length ≤ e.2.length + 1 := by
  obtain ⟨i, hi⟩ := List.getElem?_of_mem he
  have := bfs_len hM hN hop hf
  have := lt_of_get hi
  simp only [inR, decide_eq_true_eq] at ho
  exact (bfs_shr hM hN hop hf).cl i e (by omega) hi o.toNat (by omega)

theorem bfs_goes : ∀ (v : List Int), calls M.op v → ∀ e ∈ bfs M N f, ∃ e' ∈ bfs M N f, e'.1 = lead M N e.1 v ∧ e'.2.length ≤ e.2.length + v.length
  | [], _, e, he => ⟨e, he, rfl, by simp⟩
  | o :: v, hv, e, he => by
    obtain ⟨e1, h1, h2, h3⟩ := bfs_next hM hN hop hf he (hv o (by simp))
    obtain ⟨e2, h4, h5, h6⟩ := bfs_goes v (fun x hx => hv x (by simp [hx])) e1 h1
    refine ⟨e2, h4, ?_, by simp only [List.length_cons]; omega⟩
    rw [h5, h2]; rfl

theorem bfs_from : (f, []) ∈ bfs M N f := by
  obtain ⟨r, hr⟩ := bfsK_bfs hM hN hop hf 0
  rw [← hr]; simp [bfsK]

/-- Whatever pair a word leads to, it is found, with a word that is no longer. -/
theorem bfs_short {v : List Int} (hv : calls M.op v) : ∃ e ∈ bfs M N f, e.1 = lead M N f v ∧ e.2.length ≤ v.length := by
  obtain ⟨e, h1, h2, h3⟩ := bfs_goes hM hN hop hf v hv _ (bfs_from hM hN hop hf)
  exact ⟨e, h1, h2, by simpa using h3⟩

theorem bfs_lead {e : Elt} (he : e ∈ bfs M N f) : lead M N f e.2 = e.1 ∧ calls M.op e.2 := (bfs_shr hM hN hop hf).ld e he

end

theorem apartL_none' {M N : Sp} : ∀ {l : List Elt}, apartL M N l = none → ∀ e ∈ l, fstDiff M N e.1 = none
  | [], _, e, he => by simp at he
  | x :: r, h, e, he => by
    unfold apartL at h
    cases hx : fstDiff M N x.1 with
    | some o => rw [hx] at h; cases h
    | none =>
      rw [hx] at h
      rcases List.mem_cons.1 he with rfl | he
      · exact hx
      · exact apartL_none' h e he

theorem apartL_some' {M N : Sp} : ∀ {l : List Elt} {w : List Int}, apartL M N l = some w → ∃ (i : Nat) (e : Elt) (o : Nat), l[i]? = some e ∧ fstDiff M N e.1 = some o ∧ w = e.2 ++ [(o : Int)] ∧ ∀ j e', j < i → l[j]? = some e' → fstDiff M N e'.1 = none
  | [], w, h => by cases h
  | x :: r, w, h => by
    unfold apartL at h
    cases hx : fstDiff M N x.1 with
    | some o =>
      rw [hx] at h
      injection h with h
      exact ⟨0, x, o, rfl, hx, h.symm, fun j e' hj => by omega⟩
    | none =>
      rw [hx] at h
      obtain ⟨i, e, o, h1, h2, h3, h4⟩ := apartL_some' h
      refine ⟨i + 1, e, o, by simpa using h1, h2, h3, fun j e' hj he => ?_⟩
      cases j with
      | zero => simp at he; subst he; exact hx
      | succ j => exact h4 j e' (by omega) (by simpa using he)

theorem fstDiff_none' {M N : Sp} {p : Int × Int} (h : fstDiff M N p = none) {o : Nat} (ho : (o : Int) < M.op) : at2 M.sy p.1 o = at2 N.sy p.2 o := by
  unfold fstDiff at h
  rw [List.find?_eq_none] at h
  have := h o (List.mem_range.2 (by omega))
  simpa using this

theorem fstDiff_some' {M N : Sp} {p : Int × Int} {o : Nat} (h : fstDiff M N p = some o) : (o : Int) < M.op ∧ at2 M.sy p.1 o ≠ at2 N.sy p.2 o := by
  unfold fstDiff at h
  have h1 := List.find?_some h
  have h2 := List.mem_of_find?_eq_some h
  refine ⟨by have := List.mem_range.1 h2; omega, by simpa using h1⟩

section
variable {M N : Sp} (hM : M.ok = true) (hN : N.ok = true) (hop : M.op = N.op) {f : Int × Int} (hf : okP M N f)
include hM hN hop hf

/-- A word with other answers: a pair that is found differs, and its word with one call more is no longer. -/
theorem diff_found {w : List Int} (hw : calls M.op w) (hd : ans M f.1 w ≠ ans N f.2 w) : ∃ e ∈ bfs M N f, fstDiff M N e.1 ≠ none ∧ e.2.length + 1 ≤ w.length := by
  obtain ⟨v, o, r, rfl, hne⟩ := ans_diff M N w f hd
  obtain ⟨e, he, h1, h2⟩ := bfs_short hM hN hop hf (v := v) (fun x hx => hw x (by simp [hx]))
  have ho := hw o (by simp)
  simp only [inR, decide_eq_true_eq] at ho
  refine ⟨e, he, fun hn => hne ?_, by simp; omega⟩
  rw [← h1]
  exact fstDiff_none' hn (by omega)

theorem apart_none (h : apartP M N f = none) {w : List Int} (hw : calls M.op w) : ans M f.1 w = ans N f.2 w :=
  Classical.byContradiction fun hd => by
    obtain ⟨e, he, h1, _⟩ := diff_found hM hN hop hf hw hd
    exact h1 (apartL_none' h e he)

theorem apart_some {own : List Int} (h : apartP M N f = some own) : calls M.op own ∧ own ≠ [] ∧ ans M f.1 own ≠ ans N f.2 own ∧ ∀ w, calls M.op w → ans M f.1 w ≠ ans N f.2 w → own.length ≤ w.length := by
  obtain ⟨i, e, o, h1, h2, rfl, h4⟩ := apartL_some' h
  have he := List.mem_of_getElem? h1
  obtain ⟨l1, l2⟩ := bfs_lead hM hN hop hf he
  obtain ⟨o1, o2⟩ := fstDiff_some' h2
  refine ⟨calls_snoc l2 (by simp only [inR, decide_eq_true_eq]; omega), by simp, fun hd => ?_, fun w hw hd => ?_⟩
  · obtain ⟨a1, a2⟩ := ans_snoc M N e.2 f o
    rw [a1, a2] at hd
    have := (List.append_inj' hd rfl).2
    simp only [List.cons.injEq, and_true, l1, Int.toNat_natCast] at this
    exact o2 this
  · obtain ⟨e', he', h5, h6⟩ := diff_found hM hN hop hf hw hd
    obtain ⟨j, hj⟩ := List.getElem?_of_mem he'
    have hij : i ≤ j := by
      rcases Nat.lt_or_ge j i with hlt | hge
      · exact absurd (h4 j e' hlt hj) h5
      · exact hge
    have := (bfs_shr hM hN hop hf).srt i j e e' hij h1 hj
    simp; omega

end
end Go.Proofs.Ytcgflignbhmoaaa
