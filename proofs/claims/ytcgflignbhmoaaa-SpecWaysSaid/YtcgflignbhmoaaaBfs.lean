/-
  The walk over pairs of states, in plain terms: which pairs are found, with which words, in which order. No program is named here.
-/
import Derived.Test.YtcgflignbhmoaaaBase
namespace Go.Proofs.Ytcgflignbhmoaaa

abbrev Elt := (Int × Int) × List Int

/-- The number of a table at a state and a call. -/
def at2 (rs : List (List Int)) (q : Int) (o : Nat) : Int := ((rs[q.toNat]?.getD [])[o]?).getD 0

def to2 (M N : Sp) (p : Int × Int) (o : Nat) : Int × Int := (at2 M.nx p.1 o, at2 N.nx p.2 o)

def step1 (M N : Sp) (e : Elt) (acc : List Elt) (o : Nat) : List Elt :=
  if to2 M N e.1 o ∈ acc.map (·.1) then acc else acc ++ [(to2 M N e.1 o, e.2 ++ [(o : Int)])]

def expandK (M N : Sp) (e : Elt) (acc : List Elt) (k : Nat) : List Elt := (List.range k).foldl (step1 M N e) acc

theorem expandK_succ (M N : Sp) (e : Elt) (acc : List Elt) (k : Nat) : expandK M N e acc (k + 1) = step1 M N e (expandK M N e acc k) k := by
  simp [expandK, List.range_succ]

def bfsK (M N : Sp) (from_ : Int × Int) : Nat → List Elt
  | 0 => [(from_, [])]
  | k + 1 => match (bfsK M N from_ k)[k]? with
    | some e => expandK M N e (bfsK M N from_ k) M.op.toNat
    | none => bfsK M N from_ k

def bfs (M N : Sp) (from_ : Int × Int) : List Elt := bfsK M N from_ 64

theorem bfsK_some {M N : Sp} {f : Int × Int} {k : Nat} {e : Elt} (h : (bfsK M N f k)[k]? = some e) : bfsK M N f (k + 1) = expandK M N e (bfsK M N f k) M.op.toNat := by
  simp only [bfsK, h]
theorem bfsK_none {M N : Sp} {f : Int × Int} {k : Nat} (h : (bfsK M N f k)[k]? = none) : bfsK M N f (k + 1) = bfsK M N f k := by
  simp only [bfsK, h]

theorem step1_pre (M N : Sp) (e : Elt) (acc : List Elt) (o : Nat) : acc <+: step1 M N e acc o := by
  unfold step1; split
  · exact List.prefix_rfl
  · exact List.prefix_append _ _
theorem expandK_pre (M N : Sp) (e : Elt) (acc : List Elt) (k : Nat) : acc <+: expandK M N e acc k := by
  induction k with
  | zero => exact List.prefix_rfl
  | succ k ih => rw [expandK_succ]; exact ih.trans (step1_pre _ _ _ _ _)
theorem bfsK_pre1 (M N : Sp) (f : Int × Int) (k : Nat) : bfsK M N f k <+: bfsK M N f (k + 1) := by
  cases h : (bfsK M N f k)[k]? with
  | none => rw [bfsK_none h]; exact List.prefix_rfl
  | some e => rw [bfsK_some h]; exact expandK_pre _ _ _ _ _
theorem bfsK_pre (M N : Sp) (f : Int × Int) {j k : Nat} (h : j ≤ k) : bfsK M N f j <+: bfsK M N f k := by
  induction k with
  | zero => obtain rfl : j = 0 := by omega
            exact List.prefix_rfl
  | succ k ih =>
    rcases Nat.lt_or_ge k j with hj | hj
    · obtain rfl : j = k + 1 := by omega
      exact List.prefix_rfl
    · exact (ih hj).trans (bfsK_pre1 _ _ _ _)
theorem bfsK_stop {M N : Sp} {f : Int × Int} {k : Nat} (h : (bfsK M N f k).length ≤ k) (d : Nat) : bfsK M N f (k + d) = bfsK M N f k := by
  induction d with
  | zero => rfl
  | succ d ih =>
    have : bfsK M N f (k + d + 1) = bfsK M N f (k + d) := bfsK_none (List.getElem?_eq_none (by rw [ih]; omega))
    rw [← Nat.add_assoc, this, ih]

/-- Numbers below n, none twice: no more than n. -/
theorem nodup_lt : ∀ (n : Nat) (l : List Nat), l.Nodup → (∀ x ∈ l, x < n) → l.length ≤ n
  | 0, l, _, h => by
    cases l with
    | nil => simp
    | cons x r => exact absurd (h x (by simp)) (by omega)
  | n + 1, l, hd, h => by
    by_cases hn : n ∈ l
    · have h1 := nodup_lt n (l.erase n) (hd.erase n) (fun x hx => by
        have := h x (List.mem_of_mem_erase hx)
        have hne : x ≠ n := fun e => by subst e; exact (List.Nodup.not_mem_erase hd) hx
        omega)
      rw [List.length_erase_of_mem hn] at h1
      omega
    · have h1 := nodup_lt n l hd (fun x hx => by
        have := h x hx
        have hne : x ≠ n := fun e => by subst e; exact hn hx
        omega)
      omega

/-! ### Valid specifications -/

theorem Sp.okE {S : Sp} (h : S.ok = true) : 1 ≤ S.st ∧ S.st ≤ 8 ∧ 1 ≤ S.op ∧ S.op ≤ 4 ∧ tab S.st S.op (inR S.st) S.nx = true ∧ tab S.st S.op ansB S.sy = true := by
  simp only [Sp.ok, Bool.and_eq_true, decide_eq_true_eq] at h
  exact ⟨h.1.1.1.1.1, h.1.1.1.1.2, h.1.1.1.2, h.1.1.2, h.1.2, h.2⟩

theorem tab_row {st op : Int} {p : Int → Bool} {rs : List (List Int)} (h : tab st op p rs = true) : (rs.length : Int) = st ∧ ∀ (i : Nat) (r : List Int), rs[i]? = some r → (r.length : Int) = op ∧ r.all p = true := by
  simp only [tab, Bool.and_eq_true, decide_eq_true_eq] at h
  refine ⟨h.1, fun i r hr => ?_⟩
  have := List.all_eq_true.1 h.2 r (List.mem_of_getElem? hr)
  simpa using this

/-- The row of a state, its number at a call. -/
theorem tab_at {st op : Int} {p : Int → Bool} {rs : List (List Int)} (h : tab st op p rs = true) {q : Int} {o : Nat} (hq : inR st q = true) (ho : (o : Int) < op) :
    ∃ r, rs[q.toNat]? = some r ∧ r[o]? = some (at2 rs q o) ∧ p (at2 rs q o) = true ∧ (r.length : Int) = op := by
  obtain ⟨hl, hr⟩ := tab_row h
  simp only [inR, decide_eq_true_eq] at hq
  obtain ⟨r, hrr⟩ := get_of_lt (xs := rs) (k := q.toNat) (by omega)
  obtain ⟨h1, h2⟩ := hr _ r hrr
  obtain ⟨z, hz⟩ := get_of_lt (xs := r) (k := o) (by omega)
  have e : at2 rs q o = z := by simp [at2, hrr, hz]
  refine ⟨r, hrr, by rw [e, hz], ?_, h1⟩
  rw [e]
  exact List.all_eq_true.1 h2 z (List.mem_of_getElem? hz)

/-- A pair of states of M and N. -/
def okP (M N : Sp) (p : Int × Int) : Prop := inR M.st p.1 = true ∧ inR N.st p.2 = true

theorem to2_ok {M N : Sp} (hM : M.ok = true) (hN : N.ok = true) (hop : M.op = N.op) {p : Int × Int} (hp : okP M N p) {o : Nat} (ho : (o : Int) < M.op) : okP M N (to2 M N p o) := by
  obtain ⟨r, _, _, h2, _⟩ := tab_at (Sp.okE hM).2.2.2.2.1 hp.1 ho
  obtain ⟨r', _, _, h3, _⟩ := tab_at (Sp.okE hN).2.2.2.2.1 hp.2 (by rw [← hop]; exact ho)
  exact ⟨h2, h3⟩

/-- What holds of all that is found. -/
structure Fnd (M N : Sp) (w : Nat) (acc : List Elt) : Prop where
  ok : ∀ e ∈ acc, okP M N e.1
  nd : (acc.map (·.1)).Nodup
  wl : ∀ e ∈ acc, e.2.length ≤ w

theorem Fnd.step1 {M N : Sp} (hM : M.ok = true) (hN : N.ok = true) (hop : M.op = N.op) {w : Nat} {acc : List Elt} (h : Fnd M N (w + 1) acc) {e : Elt} (he : okP M N e.1) (hw : e.2.length ≤ w) {o : Nat} (ho : (o : Int) < M.op) : Fnd M N (w + 1) (step1 M N e acc o) := by
  unfold Proofs.Ytcgflignbhmoaaa.step1
  split
  · exact h
  · rename_i hn
    refine ⟨fun x hx => ?_, ?_, fun x hx => ?_⟩
    · rcases List.mem_append.1 hx with hx | hx
      · exact h.ok x hx
      · simp at hx; subst hx; exact to2_ok hM hN hop he ho
    · rw [List.map_append, List.nodup_append]
      refine ⟨h.nd, by simp, fun a ha b hb => ?_⟩
      simp at hb; subst hb
      exact fun e1 => hn (e1 ▸ ha)
    · rcases List.mem_append.1 hx with hx | hx
      · exact h.wl x hx
      · simp at hx; subst hx; simp; omega

theorem Fnd.expandK {M N : Sp} (hM : M.ok = true) (hN : N.ok = true) (hop : M.op = N.op) {w : Nat} {acc : List Elt} (h : Fnd M N (w + 1) acc) {e : Elt} (he : okP M N e.1) (hw : e.2.length ≤ w) : ∀ {k : Nat}, (k : Int) ≤ M.op → Fnd M N (w + 1) (expandK M N e acc k)
  | 0, _ => h
  | k + 1, hk => by
    rw [expandK_succ]
    exact (Fnd.expandK hM hN hop h he hw (k := k) (by omega)).step1 hM hN hop he hw (by omega)

theorem Fnd.mono {M N : Sp} {w w' : Nat} {acc : List Elt} (h : Fnd M N w acc) (hw : w ≤ w') : Fnd M N w' acc := ⟨h.ok, h.nd, fun e he => Nat.le_trans (h.wl e he) hw⟩

theorem bfsK_fnd {M N : Sp} (hM : M.ok = true) (hN : N.ok = true) (hop : M.op = N.op) {f : Int × Int} (hf : okP M N f) : ∀ k, Fnd M N k (bfsK M N f k)
  | 0 => ⟨fun e he => by simp [bfsK] at he; subst he; exact hf, by simp [bfsK], fun e he => by simp [bfsK] at he; subst he; simp⟩
  | k + 1 => by
    have ih := bfsK_fnd hM hN hop hf k
    cases h : (bfsK M N f k)[k]? with
    | none => rw [bfsK_none h]; exact ih.mono (by omega)
    | some e =>
      rw [bfsK_some h]
      have hm := List.mem_of_getElem? h
      have := (Sp.okE hM).2.2.1
      exact (ih.mono (Nat.le_succ k)).expandK hM hN hop (ih.ok e hm) (ih.wl e hm) (by omega)

theorem Fnd.len {M N : Sp} (hM : M.ok = true) (hN : N.ok = true) {w : Nat} {acc : List Elt} (h : Fnd M N w acc) : acc.length ≤ 64 := by
  have hm := Sp.okE hM
  have hn := Sp.okE hN
  have key : ∀ e ∈ acc, 0 ≤ e.1.1 ∧ e.1.1 < 8 ∧ 0 ≤ e.1.2 ∧ e.1.2 < 8 := fun e he => by
    obtain ⟨h1, h2⟩ := h.ok e he
    simp only [inR, decide_eq_true_eq] at h1 h2
    omega
  have hl : ((acc.map (·.1)).map fun p : Int × Int => p.1.toNat * 8 + p.2.toNat).length ≤ 64 := by
    refine nodup_lt 64 _ ?_ ?_
    · unfold List.Nodup
      rw [List.pairwise_map]
      refine List.Pairwise.imp_of_mem ?_ h.nd
      intro a b ha hb hne e
      obtain ⟨ea, hea, rfl⟩ := List.mem_map.1 ha
      obtain ⟨eb, heb, rfl⟩ := List.mem_map.1 hb
      have k1 := key ea hea
      have k2 := key eb heb
      exact hne (Prod.ext (by omega) (by omega))
    · intro x hx
      obtain ⟨p, hp, rfl⟩ := List.mem_map.1 hx
      obtain ⟨e, he, rfl⟩ := List.mem_map.1 hp
      have := key e he
      omega
  simpa using hl

/-- All that is found, when the walk has come to its end. -/
theorem bfs_at {M N : Sp} (hM : M.ok = true) (hN : N.ok = true) (hop : M.op = N.op) {f : Int × Int} (hf : okP M N f) {k : Nat} (h : (bfsK M N f k).length ≤ k) : bfs M N f = bfsK M N f k := by
  have hl := (bfsK_fnd hM hN hop hf 64).len hM hN
  rcases Nat.lt_or_ge k 64 with hk | hk
  · have := bfsK_stop h (64 - k)
    rw [show k + (64 - k) = 64 from by omega] at this
    exact this
  · have := bfsK_stop (M := M) (N := N) (f := f) (k := 64) hl (k - 64)
    rw [show 64 + (k - 64) = k from by omega] at this
    exact this.symm

theorem bfsK_bfs {M N : Sp} (hM : M.ok = true) (hN : N.ok = true) (hop : M.op = N.op) {f : Int × Int} (hf : okP M N f) (k : Nat) : bfsK M N f k <+: bfs M N f := by
  rcases Nat.lt_or_ge k 64 with hk | hk
  · exact bfsK_pre M N f (by omega)
  · have hl := (bfsK_fnd hM hN hop hf 64).len hM hN
    have := bfsK_stop (M := M) (N := N) (f := f) (k := 64) hl (k - 64)
    rw [show 64 + (k - 64) = k from by omega] at this
    rw [this]
    exact List.prefix_rfl

theorem pre_take {α : Type} {l L : List α} (h : l <+: L) {k : Nat} {x : α} (hx : l[k]? = some x) : L.take (k + 1) = L.take k ++ [x] ∧ ∃ suf, L = L.take k ++ x :: suf := by
  obtain ⟨r, rfl⟩ := h
  have hk := lt_of_get hx
  have hx' : (l ++ r)[k]? = some x := by rw [List.getElem?_append_left hk]; exact hx
  have h1 : (l ++ r).take (k + 1) = (l ++ r).take k ++ [x] := by rw [List.take_add_one, hx']; rfl
  refine ⟨h1, (l ++ r).drop (k + 1), ?_⟩
  have h2 := List.take_append_drop (k + 1) (l ++ r)
  rw [h1, List.append_assoc] at h2
  exact h2.symm
end Go.Proofs.Ytcgflignbhmoaaa
