/-
  Layer 1, pure: the walk finds for each pair the first word of all that lead there (words as numbers); the classes that are reached, in their order; they depend on behaviour alone.
-/
import Derived.Test.YtcgflignbhmoaaaP7
namespace Go.Proofs.Ytcgflignbhmoaaa
open Go.RowKit

set_option linter.unusedVariables false
set_option linter.unusedSectionVars false
set_option linter.unusedSimpArgs false

/-! ### Words as numbers: by length, then call by call -/

def cd (w : List Int) : Nat := w.foldl (fun a o => 5 * a + o.toNat + 1) 0

theorem cd_nil : cd [] = 0 := rfl
theorem cd_snoc (w : List Int) (o : Int) : cd (w ++ [o]) = 5 * cd w + o.toNat + 1 := by simp [cd]

theorem snoc_cases {α : Type} (l : List α) : l = [] ∨ ∃ r x, l = r ++ [x] := by
  rcases List.eq_nil_or_concat l with h | ⟨r, x, h⟩
  · exact .inl h
  · exact .inr ⟨r, x, by rw [h, List.concat_eq_append]⟩

theorem calls_init {op : Int} {w : List Int} {o : Int} (h : calls op (w ++ [o])) : calls op w ∧ inR op o = true :=
  ⟨fun x hx => h x (List.mem_append_left _ hx), h o (by simp)⟩

/-! ### The walk -/

/-- What holds after k pairs have been seen to. -/
structure Sc (M N : Sp) (k : Nat) (acc : List Elt) : Prop where
  srt : ∀ (i j : Nat) (e e' : Elt), i < j → acc[i]? = some e → acc[j]? = some e' → cd e.2 < cd e'.2
  bd : ∀ e0 : Elt, acc[k]? = some e0 → ∀ e ∈ acc, cd e.2 ≤ 5 * cd e0.2
  cl : ∀ (i : Nat) (e : Elt), i < k → acc[i]? = some e → ∀ o : Nat, (o : Int) < M.op → ∃ e' ∈ acc, e'.1 = to2 M N e.1 o ∧ cd e'.2 ≤ 5 * cd e.2 + o + 1
  ix : ∀ (i : Nat) (e : Elt), acc[i]? = some e → i ≤ cd e.2

/-- The same, while the k-th is seen to. -/
structure Scs (M N : Sp) (k : Nat) (e : Elt) (n : Nat) (acc : List Elt) : Prop where
  srt : ∀ (i j : Nat) (e e' : Elt), i < j → acc[i]? = some e → acc[j]? = some e' → cd e.2 < cd e'.2
  bd : ∀ x ∈ acc, cd x.2 ≤ 5 * cd e.2 + n
  cl : ∀ (i : Nat) (x : Elt), i < k → acc[i]? = some x → ∀ o : Nat, (o : Int) < M.op → ∃ e' ∈ acc, e'.1 = to2 M N x.1 o ∧ cd e'.2 ≤ 5 * cd x.2 + o + 1
  ck : ∀ o : Nat, o < n → ∃ e' ∈ acc, e'.1 = to2 M N e.1 o ∧ cd e'.2 ≤ 5 * cd e.2 + o + 1
  at_ : acc[k]? = some e
  ix : ∀ (i : Nat) (e : Elt), acc[i]? = some e → i ≤ cd e.2

theorem Scs.step {M N : Sp} {k : Nat} {e : Elt} {n : Nat} {acc : List Elt} (h : Scs M N k e n acc) (hn : (n : Int) < M.op) : Scs M N k e (n + 1) (step1 M N e acc n) := by
  unfold step1
  split
  · rename_i hm
    obtain ⟨x, hx, hx1⟩ := List.mem_map.1 hm
    refine ⟨h.srt, fun x hx => by have := h.bd x hx; omega, h.cl, fun o ho => ?_, h.at_, h.ix⟩
    rcases Nat.lt_succ_iff_lt_or_eq.1 ho with ho | rfl
    · exact h.ck o ho
    · exact ⟨x, hx, hx1, by have := h.bd x hx; omega⟩
  · rename_i hm
    have hem := List.mem_of_getElem? h.at_
    have hk := lt_of_get h.at_
    have hcd : cd (e.2 ++ [(n : Int)]) = 5 * cd e.2 + n + 1 := by rw [cd_snoc]; simp
    have getE : ∀ {i : Nat} {x : Elt}, (acc ++ [(to2 M N e.1 n, e.2 ++ [(n : Int)])])[i]? = some x → acc[i]? = some x ∨ i = acc.length ∧ x = (to2 M N e.1 n, e.2 ++ [(n : Int)]) := by
      intro i x hx
      rcases Nat.lt_or_ge i acc.length with hi | hi
      · rw [List.getElem?_append_left hi] at hx; exact .inl hx
      · rw [List.getElem?_append_right hi] at hx
        have hlt := lt_of_get hx
        simp only [List.length_singleton] at hlt
        have h0 : i - acc.length = 0 := by omega
        rw [h0] at hx
        simp at hx
        exact .inr ⟨by omega, hx.symm⟩
    have keep : ∀ {x : Elt}, x ∈ acc → x ∈ acc ++ [(to2 M N e.1 n, e.2 ++ [(n : Int)])] := fun hx => List.mem_append_left _ hx
    refine ⟨fun i j x y hij hx hy => ?_, fun x hx => ?_, fun i x hi hx o ho => ?_, fun o ho => ?_, ?_, fun i x hx => ?_⟩
    · rcases getE hx with hx | ⟨rfl, rfl⟩
      · rcases getE hy with hy | ⟨rfl, rfl⟩
        · exact h.srt i j x y hij hx hy
        · have := h.bd x (List.mem_of_getElem? hx)
          show _ < cd (e.2 ++ [(n : Int)])
          omega
      · rcases getE hy with hy | ⟨rfl, rfl⟩
        · have := lt_of_get hy; omega
        · omega
    · rcases List.mem_append.1 hx with hx | hx
      · have := h.bd x hx; omega
      · simp at hx; subst hx
        show cd (e.2 ++ [(n : Int)]) ≤ _
        omega
    · rcases getE hx with hx | ⟨rfl, rfl⟩
      · obtain ⟨y, hy, h1, h2⟩ := h.cl i x hi hx o ho
        exact ⟨y, keep hy, h1, h2⟩
      · omega
    · rcases Nat.lt_succ_iff_lt_or_eq.1 ho with ho | rfl
      · obtain ⟨y, hy, h1, h2⟩ := h.ck o ho
        exact ⟨y, keep hy, h1, h2⟩
      · exact ⟨_, List.mem_append_right _ (List.mem_singleton.2 rfl), rfl, by show cd (e.2 ++ [(o : Int)]) ≤ _; omega⟩
    · rw [List.getElem?_append_left hk]; exact h.at_
    · rcases getE hx with hx | ⟨rfl, rfl⟩
      · exact h.ix i x hx
      · obtain ⟨z, hz⟩ := get_of_lt (xs := acc) (k := acc.length - 1) (by omega)
        have h1 := h.ix _ _ hz
        have h2 := h.bd z (List.mem_of_getElem? hz)
        show _ ≤ cd (e.2 ++ [(n : Int)])
        omega

theorem Scs.expandK {M N : Sp} {k : Nat} {e : Elt} {acc : List Elt} (h : Scs M N k e 0 acc) : ∀ {n : Nat}, (n : Int) ≤ M.op → Scs M N k e n (Proofs.Ytcgflignbhmoaaa.expandK M N e acc n)
  | 0, _ => h
  | n + 1, hn => by
    rw [expandK_succ]
    exact (Scs.expandK h (n := n) (by omega)).step (by omega)

theorem bfsK_sc {M N : Sp} (hM : M.ok = true) (f : Int × Int) : ∀ k, Sc M N k (bfsK M N f k)
  | 0 => by
    have g : ∀ {i : Nat} {e : Elt}, ([(f, [])] : List Elt)[i]? = some e → i = 0 ∧ e = (f, []) := by
      intro i e h
      have := lt_of_get h
      simp at this; subst this; simp at h; exact ⟨rfl, h.symm⟩
    refine ⟨fun i j e e' hij h1 h2 => ?_, fun e0 h0 e he => ?_, fun i e hi => by omega, fun i e h => ?_⟩
    · have := (g h1).1
      have := (g h2).1
      omega
    · simp [bfsK] at he; subst he; rw [cd_nil]; omega
    · rw [(g h).1]; omega
  | k + 1 => by
    have ih := bfsK_sc hM (N := N) f k
    cases h : (bfsK M N f k)[k]? with
    | none =>
      rw [bfsK_none h]
      refine ⟨ih.srt, fun e0 h0 => ?_, fun i e hi hx => ?_, ih.ix⟩
      · have := lt_of_get h0
        rw [List.getElem?_eq_none_iff] at h; omega
      · rcases Nat.lt_succ_iff_lt_or_eq.1 hi with hi | rfl
        · exact ih.cl i e hi hx
        · rw [h] at hx; cases hx
    | some e =>
      rw [bfsK_some h]
      have hm := Sp.okE hM
      have h3 := hm.2.2.1
      have h4 := hm.2.2.2.1
      have s0 : Scs M N k e 0 (bfsK M N f k) := ⟨ih.srt, fun x hx => by have := ih.bd e h x hx; omega, ih.cl, fun o ho => by omega, h, ih.ix⟩
      have s1 := s0.expandK (n := M.op.toNat) (by omega)
      refine ⟨s1.srt, fun e0 h0 x hx => ?_, fun i x hi hx o ho => ?_, s1.ix⟩
      · have h1 := s1.bd x hx
        have h2 := s1.srt k (k + 1) e e0 (by omega) s1.at_ h0
        omega
      · rcases Nat.lt_succ_iff_lt_or_eq.1 hi with hi | rfl
        · exact s1.cl i x hi hx o ho
        · have := s1.at_
          rw [this] at hx
          injection hx with hx
          subst hx
          exact s1.ck o (by omega)

section
variable {M N : Sp} (hM : M.ok = true) (hN : N.ok = true) (hop : M.op = N.op) {f : Int × Int} (hf : okP M N f)
include hM hN hop hf

/-- Whatever pair a word leads to, it is found, with a word that does not come behind. -/
theorem bfs_first : ∀ (n : Nat) (v : List Int), v.length = n → calls M.op v → ∃ e ∈ bfs M N f, e.1 = lead M N f v ∧ cd e.2 ≤ cd v
  | 0, v, hn, hv => by
    obtain rfl : v = [] := List.length_eq_zero_iff.1 hn
    exact ⟨_, bfs_from hM hN hop hf, rfl, Nat.le_refl _⟩
  | n + 1, v, hn, hv => by
    rcases snoc_cases v with h | ⟨r, o, rfl⟩
    · rw [h] at hn; simp at hn
    obtain ⟨v1, v2⟩ := calls_init hv
    obtain ⟨e, he, h1, h2⟩ := bfs_first n r (by simpa using hn) v1
    obtain ⟨i, hi⟩ := List.getElem?_of_mem he
    have := bfs_len hM hN hop hf
    have := lt_of_get hi
    simp only [inR, decide_eq_true_eq] at v2
    obtain ⟨e', he', h3, h4⟩ := (bfsK_sc hM (N := N) f 64).cl i e (by omega) hi o.toNat (by omega)
    refine ⟨e', he', by rw [h3, h1, lead_snoc], ?_⟩
    rw [cd_snoc]; omega

end

/-! ### The states that are reached -/

/-- Where a word leads. -/
def qAt (s : Tup) (q : Int) (w : List Int) : Int := w.foldl (fun q o => at2 s.2.2.1 q o.toNat) q

theorem qAt_snoc (s : Tup) (q : Int) (w : List Int) (o : Int) : qAt s q (w ++ [o]) = at2 s.2.2.1 (qAt s q w) o.toNat := by simp [qAt]

theorem lead_qAt (s : Tup) : ∀ (w : List Int) (q : Int), lead (toSp s) (toSp s) (q, q) w = (qAt s q w, qAt s q w)
  | [], q => rfl
  | o :: w, q => lead_qAt s w (at2 s.2.2.1 q o.toNat)

theorem pairwise_get {α : Type} {R : α → α → Prop} : ∀ {l : List α}, (∀ (i j : Nat) (x y : α), i < j → l[i]? = some x → l[j]? = some y → R x y) → l.Pairwise R
  | [], _ => List.Pairwise.nil
  | a :: l, h => by
    refine List.Pairwise.cons (fun b hb => ?_) (pairwise_get fun i j x y hij hx hy => h (i + 1) (j + 1) x y (by omega) (by simpa using hx) (by simpa using hy))
    obtain ⟨j, hj⟩ := List.getElem?_of_mem hb
    exact h 0 (j + 1) a b (by omega) rfl (by simpa using hj)

section
variable {s : Tup} (hv : (toSp s).ok = true)
include hv

theorem qAt_in : ∀ (w : List Int) (q : Int), calls s.2.1 w → inR s.1 q = true → inR s.1 (qAt s q w) = true
  | [], q, _, hq => hq
  | o :: w, q, hc, hq => qAt_in w (at2 s.2.2.1 q o.toNat) (fun x hx => hc x (by simp [hx])) (nx_in hv hq (hc o (by simp)))

theorem ways_first {v : List Int} (hc : calls s.2.1 v) : ∃ x ∈ waysL s, x.1 = qAt s 0 v ∧ cd x.2 ≤ cd v := by
  obtain ⟨e, he, h1, h2⟩ := bfs_first hv hv rfl (zero_ok hv) v.length v rfl hc
  exact ⟨(e.1.1, e.2), List.mem_map.2 ⟨e, he, rfl⟩, by rw [h1, lead_qAt], h2⟩

theorem ways_srt : (waysL s).Pairwise fun x y => cd x.2 < cd y.2 := by
  unfold waysL
  rw [List.pairwise_map]
  exact pairwise_get fun i j x y hij hx hy => (bfsK_sc hv (N := toSp s) (0, 0) 64).srt i j x y hij hx hy

theorem ways_word {x : Int × List Int} (hx : x ∈ waysL s) : calls s.2.1 x.2 ∧ x.1 = qAt s 0 x.2 := by
  obtain ⟨e, he, rfl⟩ := List.mem_map.1 hx
  obtain ⟨h1, h2⟩ := bfs_lead hv hv rfl (zero_ok hv) he
  refine ⟨h2, ?_⟩
  show e.1.1 = _
  rw [← h1, lead_qAt]

/-! ### Their classes -/

theorem leastF_in {q : Int} (hq : inR s.1 q = true) : inR s.1 (leastF s q.toNat : Int) = true ∧ sameB s (leastF s q.toNat) q = true := by
  have hq' := hq
  simp only [inR, decide_eq_true_eq] at hq'
  obtain ⟨i, rfl⟩ := Int.eq_ofNat_of_zero_le hq'.1
  obtain ⟨l1, l2, _⟩ := leastF_spec hv hq
  exact ⟨inR_le (n := 0) hq (by simpa using l1), by simpa using l2⟩

end

/-- The first of each class. -/
def kStep (s : Tup) (acc : List (Int × List Int)) (x : Int × List Int) : List (Int × List Int) :=
  if (leastF s x.1.toNat : Int) ∈ acc.map (·.1) then acc else acc ++ [((leastF s x.1.toNat : Int), x.2)]
def kL (s : Tup) : List (Int × List Int) := (waysL s).foldl (kStep s) []

structure KI (s : Tup) (p acc : List (Int × List Int)) : Prop where
  a : ∀ y ∈ acc, ∃ x ∈ p, y = ((leastF s x.1.toNat : Int), x.2) ∧ ∀ x' ∈ p, (leastF s x'.1.toNat : Int) = y.1 → cd x.2 ≤ cd x'.2
  b : ∀ x ∈ p, ∃ y ∈ acc, y.1 = (leastF s x.1.toNat : Int)
  srt : acc.Pairwise fun x y => cd x.2 < cd y.2
  nd : (acc.map (·.1)).Nodup
  len : acc.length ≤ p.length

theorem KI.step {s : Tup} {p acc : List (Int × List Int)} (h : KI s p acc) {x : Int × List Int} (hx : ∀ y ∈ p, cd y.2 < cd x.2) : KI s (p ++ [x]) (kStep s acc x) := by
  unfold kStep
  split
  · rename_i hm
    obtain ⟨y, hy, hy1⟩ := List.mem_map.1 hm
    refine ⟨fun z hz => ?_, fun z hz => ?_, h.srt, h.nd, by have := h.len; simp; omega⟩
    · obtain ⟨x0, h1, h2, h3⟩ := h.a z hz
      refine ⟨x0, List.mem_append_left _ h1, h2, fun x' hx' e => ?_⟩
      rcases List.mem_append.1 hx' with hx' | hx'
      · exact h3 x' hx' e
      · simp at hx'; subst hx'; exact Nat.le_of_lt (hx x0 h1)
    · rcases List.mem_append.1 hz with hz | hz
      · exact h.b z hz
      · simp at hz; subst hz; exact ⟨y, hy, hy1⟩
  · rename_i hm
    refine ⟨fun z hz => ?_, fun z hz => ?_, ?_, ?_, by have := h.len; simp; omega⟩
    · rcases List.mem_append.1 hz with hz | hz
      · obtain ⟨x0, h1, h2, h3⟩ := h.a z hz
        refine ⟨x0, List.mem_append_left _ h1, h2, fun x' hx' e => ?_⟩
        rcases List.mem_append.1 hx' with hx' | hx'
        · exact h3 x' hx' e
        · simp at hx'; subst hx'; exact Nat.le_of_lt (hx x0 h1)
      · simp at hz; subst hz
        refine ⟨x, by simp, rfl, fun x' hx' e => ?_⟩
        rcases List.mem_append.1 hx' with hx' | hx'
        · obtain ⟨y, hy, hy1⟩ := h.b x' hx'
          exact absurd (List.mem_map.2 ⟨y, hy, hy1.trans e⟩) hm
        · simp at hx'; subst hx'; exact Nat.le_refl _
    · rcases List.mem_append.1 hz with hz | hz
      · obtain ⟨y, hy, hy1⟩ := h.b z hz
        exact ⟨y, List.mem_append_left _ hy, hy1⟩
      · simp at hz; subst hz; exact ⟨_, List.mem_append_right _ (List.mem_singleton.2 rfl), rfl⟩
    · rw [List.pairwise_append]
      refine ⟨h.srt, by simp, fun y hy z hz => ?_⟩
      simp at hz; subst hz
      obtain ⟨x0, h1, rfl, _⟩ := h.a y hy
      exact hx x0 h1
    · rw [List.map_append, List.nodup_append]
      refine ⟨h.nd, by simp, fun a ha b hb => ?_⟩
      simp at hb; subst hb
      exact fun e => hm (e ▸ ha)

theorem KI.fold {s : Tup} : ∀ (l p acc : List (Int × List Int)), KI s p acc → (p ++ l).Pairwise (fun x y => cd x.2 < cd y.2) → KI s (p ++ l) (l.foldl (kStep s) acc)
  | [], p, acc, h, _ => by simpa using h
  | x :: l, p, acc, h, hs => by
    have e : p ++ x :: l = (p ++ [x]) ++ l := by simp
    rw [e] at hs ⊢
    refine KI.fold l (p ++ [x]) _ (h.step fun y hy => ?_) hs
    rw [List.pairwise_append, List.pairwise_append] at hs
    exact hs.1.2.2 y hy x (by simp)

theorem kL_ki {s : Tup} (hv : (toSp s).ok = true) : KI s (waysL s) (kL s) := by
  have h0 : KI s [] [] := ⟨fun y hy => by simp at hy, fun x hx => by simp at hx, List.Pairwise.nil, by simp, by simp⟩
  have := KI.fold (waysL s) [] [] h0 (by simpa using ways_srt hv)
  rw [List.nil_append] at this
  exact this

section
variable {s : Tup} (hv : (toSp s).ok = true)
include hv

theorem k_mem {y : Int × List Int} (hy : y ∈ kL s) : calls s.2.1 y.2 ∧ y.1 = (leastF s (qAt s 0 y.2).toNat : Int) ∧ ∀ v, calls s.2.1 v → (leastF s (qAt s 0 v).toNat : Int) = y.1 → cd y.2 ≤ cd v := by
  obtain ⟨x, hx, rfl, h3⟩ := (kL_ki hv).a y hy
  obtain ⟨w1, w2⟩ := ways_word hv hx
  refine ⟨w1, by simp only; rw [w2], fun v hc e => ?_⟩
  obtain ⟨x', hx', e1, e2⟩ := ways_first hv hc
  exact Nat.le_trans (h3 x' hx' (by rw [e1]; exact e)) e2

theorem k_all {v : List Int} (hc : calls s.2.1 v) : ∃ y ∈ kL s, y.1 = (leastF s (qAt s 0 v).toNat : Int) := by
  obtain ⟨x, hx, e1, _⟩ := ways_first hv hc
  obtain ⟨y, hy, hy1⟩ := (kL_ki hv).b x hx
  exact ⟨y, hy, by rw [hy1, e1]⟩

theorem k_len : ((kL s).length : Int) ≤ s.1 ∧ (kL s).length ≤ (waysL s).length := by
  have h1 := (kL_ki hv).len
  have h2 := ways_len hv
  exact ⟨by omega, h1⟩

end

/-- As many calls, and the same answers from the first state. -/
def alikeP (s t : Tup) : Prop := s.2.1 = t.2.1 ∧ ∀ u, calls s.2.1 u → ans (toSp s) 0 u = ans (toSp t) 0 u

end Go.Proofs.Ytcgflignbhmoaaa
