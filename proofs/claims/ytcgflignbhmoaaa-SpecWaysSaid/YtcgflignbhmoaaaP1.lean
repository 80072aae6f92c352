/-
  Layer 1, pure: which specifications are valid, and the walk over pairs.
-/
import Derived.Test.YtcgflignbhmoaaaQp
import Derived.Test.YtcgflignbhmoaaaPk
import Derived.Test.YtcgflignbhmoaaaAps
namespace Go.Proofs.Ytcgflignbhmoaaa
open Go.RowKit

set_option linter.unusedVariables false
set_option linter.unusedSimpArgs false

abbrev Tup := Int × Int × List (List Int) × List (List Int)
def toSp (s : Tup) : Sp := ⟨s.1, s.2.1, s.2.2.1, s.2.2.2⟩

/-- Lengths that memory has. -/
def okT (l : List (List Int)) : Prop := l.length ≤ 17592186044416 ∧ ∀ r ∈ l, r.length ≤ 17592186044416
def okS (s : Tup) : Prop := okT s.2.2.1 ∧ okT s.2.2.2

theorem isState_eq (m : Tup) (n : Int) : spec_machine_isState m n = some (inR m.1 n) := by
  unfold spec_machine_isState inR
  by_cases h : 0 ≤ n <;> simp [h]
theorem isAnswer_eq (n : Int) : spec_isAnswer n = some (ansB n) := by
  unfold spec_isAnswer ansB
  by_cases h : 0 ≤ n <;> simp [h]

theorem all_state (m : Tup) (xs : List Int) (hl : xs.length ≤ maxLen) : spec_all m xs = some (xs.all (inR m.1)) := by
  unfold spec_all
  rw [whileO_all xs (inR m.1) (fun k x hk => ?_) ?_]
  · cases xs.all (inR m.1) <;> simp [spec_all_k1]
  · unfold spec_all_b1; simp
  · have hlt := (List.getElem?_eq_some_iff.1 hk).1
    unfold spec_all_b1
    rw [if_pos (by simpa using hlt), ck_pos (by omega), ck_pos (by omega), Int.toNat_natCast, getD_of hk, isState_eq]
    cases hp : inR m.1 x
    · simp
    · simp [ck_pos (inK_nat hlt hl)]

theorem all_answer (xs : List Int) (hl : xs.length ≤ maxLen) : spec_all_2 xs = some (xs.all ansB) := by
  unfold spec_all_2
  rw [whileO_all xs ansB (fun k x hk => ?_) ?_]
  · cases xs.all ansB <;> simp [spec_all_2_k1]
  · unfold spec_all_2_b1; simp
  · have hlt := (List.getElem?_eq_some_iff.1 hk).1
    unfold spec_all_2_b1
    rw [if_pos (by simpa using hlt), ck_pos (by omega), ck_pos (by omega), Int.toNat_natCast, getD_of hk, isAnswer_eq]
    cases hp : ansB x
    · simp
    · simp [ck_pos (inK_nat hlt hl)]

theorem len_ok {n : Nat} (h : n ≤ 17592186044416) : n ≤ maxLen := by rw [maxLen_num]; omega

theorem isTable_eq (m : Tup) (t : List (List Int)) (ht : okT t) : spec_machine_isTable m t m = some (tab m.1 m.2.1 (inR m.1) t) := by
  unfold spec_machine_isTable tab
  by_cases h0 : (t.length : Int) = m.1
  · rw [if_neg (by simp [h0]), whileO_all t (fun r => decide ((r.length : Int) = m.2.1) && r.all (inR m.1)) (fun k x hk => ?_) ?_]
    · cases ha : t.all (fun r => decide ((r.length : Int) = m.2.1) && r.all (inR m.1)) <;> simp [spec_machine_isTable_k1, h0, ha]
    · unfold spec_machine_isTable_b1; simp
    · have hlt := (List.getElem?_eq_some_iff.1 hk).1
      unfold spec_machine_isTable_b1
      rw [if_pos (by simpa using hlt), ck_pos (by omega), ck_pos (by omega), Int.toNat_natCast, getD_of hk, all_state m x (len_ok (ht.2 x (List.mem_of_getElem? hk)))]
      by_cases h1 : (x.length : Int) = m.2.1
      · cases hp : x.all (inR m.1)
        · simp [h1]
        · simp [h1, ck_pos (inK_nat hlt (len_ok ht.1))]
      · simp [h1]
  · simp [h0]

theorem isTable2_eq (m : Tup) (t : List (List Int)) (ht : okT t) : spec_machine_isTable_2 m t = some (tab m.1 m.2.1 ansB t) := by
  unfold spec_machine_isTable_2 tab
  by_cases h0 : (t.length : Int) = m.1
  · rw [if_neg (by simp [h0]), whileO_all t (fun r => decide ((r.length : Int) = m.2.1) && r.all ansB) (fun k x hk => ?_) ?_]
    · cases ha : t.all (fun r => decide ((r.length : Int) = m.2.1) && r.all ansB) <;> simp [spec_machine_isTable_2_k1, h0, ha]
    · unfold spec_machine_isTable_2_b1; simp
    · have hlt := (List.getElem?_eq_some_iff.1 hk).1
      unfold spec_machine_isTable_2_b1
      rw [if_pos (by simpa using hlt), ck_pos (by omega), ck_pos (by omega), Int.toNat_natCast, getD_of hk, all_answer x (len_ok (ht.2 x (List.mem_of_getElem? hk)))]
      by_cases h1 : (x.length : Int) = m.2.1
      · cases hp : x.all ansB
        · simp [h1]
        · simp [h1, ck_pos (inK_nat hlt (len_ok ht.1))]
      · simp [h1]
  · simp [h0]

theorem Valid_eq (s : Tup) (hs : okS s) : spec_Valid s = some (toSp s).ok := by
  unfold spec_Valid Sp.ok toSp
  rw [isTable_eq s _ hs.1, isTable2_eq s _ hs.2]
  by_cases h1 : s.1 < 1
  · simp [h1]; omega
  by_cases h2 : 8 < s.1
  · simp [h1, h2]; omega
  by_cases h3 : s.2.1 < 1
  · simp [h1, h2, h3]; omega
  by_cases h4 : 4 < s.2.1
  · simp [h1, h2, h3, h4]; omega
  have e1 : decide (1 ≤ s.1) = true := by simp; omega
  have e2 : decide (s.1 ≤ 8) = true := by simp; omega
  have e3 : decide (1 ≤ s.2.1) = true := by simp; omega
  have e4 : decide (s.2.1 ≤ 4) = true := by simp; omega
  simp only [h1, h2, h3, h4, decide_false, Bool.false_eq_true, if_false, Option.bind_some, e1, e2, e3, e4, Bool.true_and]
  cases tab s.1 s.2.1 (inR s.1) s.2.2.1 <;> simp

theorem checked_eq (s : Tup) (hs : okS s) (l : List Int) (hl : l.length ≤ maxLen) : spec_checked s l = some (if (toSp s).ok = true then (if l.all (inR s.1) = true then (s.1, s.2.1, s.2.2.1, s.2.2.2, 0) else (0, 0, [], [], 2)) else (0, 0, [], [], 10)) := by
  unfold spec_checked
  rw [Valid_eq s hs, Option.bind_some]
  cases hv : (toSp s).ok
  · simp
  · simp only [Bool.not_true, Bool.false_eq_true, if_false, if_true]
    rw [all_state s l hl, Option.bind_some]
    cases l.all (inR s.1) <;> simp

theorem Clone_eq (xs : List Int) (h : xs.length ≤ 17592186044416) : slices_Clone xs = some xs := by
  unfold slices_Clone; rw [ck_pos (by omega)]

theorem longer_eq (xs : List Int) (o : Int) (h : xs.length ≤ 1000000) : spec_longer xs o = some (xs ++ [o]) := by
  unfold spec_longer
  rw [Clone_eq xs (by omega), Option.bind_some, ck_pos (by omega)]

/-! ### The walk -/

def seenOf (l : List Elt) : List ((Int × Int) × Bool) := l.map fun e => (e.1, true)

theorem mget_seen (l : List Elt) (p : Int × Int) : mget false (seenOf l) p = decide (p ∈ l.map (·.1)) := by
  induction l with
  | nil => simp [seenOf, mget]
  | cons e r ih =>
    simp only [seenOf, List.map_cons, mget]
    by_cases h : e.1 = p
    · simp [h]
    · rw [if_neg h]
      have := ih
      unfold seenOf at this
      rw [this]
      simp [Ne.symm h]

theorem mput_seen (l : List Elt) (p : Int × Int) (w : List Int) (h : p ∉ l.map (·.1)) : mput (seenOf l) p true = seenOf (l ++ [(p, w)]) := by
  rw [mput_not (by simpa [seenOf, Function.comp_def] using h)]
  simp [seenOf]

/-- The state of the walk: what is found. -/
def wst (l : List Elt) (k : Int) : (List (Int × Int)) × (List (List Int)) × (List ((Int × Int) × Bool)) × Int := (l.map (·.1), l.map (·.2), seenOf l, k)

theorem getD_nx (rs : List (List Int)) (q : Int) (o : Nat) : (rs.getD q.toNat []).getD ((o : Int)).toNat 0 = at2 rs q o := by
  simp [at2, List.getD]

theorem at_row {st op : Int} {p : Int → Bool} {rs : List (List Int)} (h : tab st op p rs = true) {q : Int} {o : Nat} (hq : inR st q = true) (ho : (o : Int) < op) :
    0 ≤ q ∧ q < (rs.length : Int) ∧ (o : Int) < ((rs.getD q.toNat []).length : Int) ∧ p (at2 rs q o) = true := by
  obtain ⟨r, h1, h2, h3, h4⟩ := tab_at h hq ho
  simp only [inR, decide_eq_true_eq] at hq
  have := (tab_row h).1
  refine ⟨hq.1, by omega, ?_, h3⟩
  rw [getD_of h1]; omega

theorem inK_small {n : Int} (h : 0 ≤ n ∧ n < 8) : InK .i64 n := by rw [inK_i64]; omega

theorem expand_loop (S R : Type) (M N : Tup) (hM : (toSp M).ok = true) (hN : (toSp N).ok = true) (hop : M.2.1 = N.2.1) (st1 : (List (Int × Int)) × (List (List Int)) × (List ((Int × Int) × Bool)) × Int × S) {acc : List Elt} {e : Elt} {k : Nat} (hk : acc[k]? = some e)
    (hst : st1.1 = acc.map (·.1) ∧ st1.2.1 = acc.map (·.2) ∧ st1.2.2.2.1 = (k : Int)) {w : Nat} (hf : Fnd (toSp M) (toSp N) (w + 1) acc) (hw : e.2.length ≤ w) (hwb : w ≤ 1000) :
    whileO (spec_walk_1_b2 S R M N st1) (wst acc 0) = some ((expandK (toSp M) (toSp N) e acc M.2.1.toNat).map (·.1), (expandK (toSp M) (toSp N) e acc M.2.1.toNat).map (·.2), seenOf (expandK (toSp M) (toSp N) e acc M.2.1.toNat)) := by
  have hm := Sp.okE hM
  have hn := Sp.okE hN
  have he := hf.ok e (List.mem_of_getElem? hk)
  have hM1 : (toSp M).op = M.2.1 := rfl
  have hopn : (M.2.1.toNat : Int) = M.2.1 := by have := hm.2.2.1; rw [hM1] at this; omega
  have key := whileO_iter (body := spec_walk_1_b2 S R M N st1) (fun l (i : Int) => wst l i) M.2.1.toNat (fun o l => step1 (toSp M) (toSp N) e l o) (fun l => (l.map (·.1), l.map (·.2), seenOf l)) (fun i l => l = expandK (toSp M) (toSp N) e acc i) (s0 := acc) rfl ?_ ?_
  · have h2 := key.2
    rw [← h2]; exact key.1
  · rintro o l ho rfl
    have ho' : (o : Int) < M.2.1 := by omega
    have hfk := hf.expandK hM hN hop he hw (k := o) (by rw [hM1]; omega)
    refine ⟨?_, by rw [expandK_succ]⟩
    obtain ⟨a1, a2, a3, a4⟩ := at_row hm.2.2.2.2.1 he.1 (o := o) (by rw [hM1]; exact ho')
    obtain ⟨b1, b2, b3, b4⟩ := at_row hn.2.2.2.2.1 he.2 (o := o) (by rw [show (toSp N).op = M.2.1 from hop.symm]; exact ho')
    have ea : st1.1.getD st1.2.2.2.1.toNat (0, 0) = e.1 := by
      rw [hst.1, hst.2.2, Int.toNat_natCast]; exact getD_of (by simp [hk])
    have ew : st1.2.1.getD st1.2.2.2.1.toNat [] = e.2 := by
      rw [hst.2.1, hst.2.2, Int.toNat_natCast]; exact getD_of (by simp [hk])
    simp only [inR, decide_eq_true_eq] at a4 b4
    have hM8 : (toSp M).st ≤ 8 := hm.2.1
    have hN8 : (toSp N).st ≤ 8 := hn.2.1
    have hlen := hfk.len hM hN
    have a2' : e.1.1 < (M.2.2.1.length : Int) := a2
    have b2' : e.1.2 < (N.2.2.1.length : Int) := b2
    have a3' : (o : Int) < ((M.2.2.1.getD e.1.1.toNat []).length : Int) := a3
    have b3' : (o : Int) < ((N.2.2.1.getD e.1.2.toNat []).length : Int) := b3
    have k1 : InK .i64 (at2 M.2.2.1 e.1.1 o) := inK_small ⟨a4.1, Int.lt_of_lt_of_le a4.2 hM8⟩
    have k2 : InK .i64 (at2 N.2.2.1 e.1.2 o) := inK_small ⟨b4.1, Int.lt_of_lt_of_le b4.2 hN8⟩
    have k3 : InK .i64 ((o : Int) + 1) := by rw [inK_i64]; have := hm.2.2.2.1; rw [hM1] at this; omega
    unfold spec_walk_1_b2 wst
    simp only [ea, ew]
    rw [if_pos (by simpa using ho'), ck_pos a1, ck_pos a2', ck_pos (by omega), ck_pos a3', ck_pos b1, ck_pos b2', ck_pos (by omega), ck_pos b3']
    simp only [getD_nx]
    rw [ck_pos k1, ck_pos k2, mget_seen]
    have e2 : (at2 M.2.2.1 e.1.1 o, at2 N.2.2.1 e.1.2 o) = to2 (toSp M) (toSp N) e.1 o := rfl
    rw [e2]
    unfold step1
    by_cases hmem : to2 (toSp M) (toSp N) e.1 o ∈ (expandK (toSp M) (toSp N) e acc o).map (·.1)
    · rw [if_neg (by simp only [hmem]; simp), if_pos hmem, ck_pos k3]
    · rw [if_pos (by simp only [hmem]; simp), if_neg hmem, ck_pos k1, ck_pos k2, ck_pos (by simp; omega), longer_eq _ _ (by omega), Option.bind_some, ck_pos (by simp; omega), ck_pos k3, mput_seen _ _ (e.2 ++ [(o : Int)]) hmem]
      simp
  · rintro l rfl
    unfold spec_walk_1_b2 wst
    rw [if_neg (by simp; omega)]

theorem walk_eq (S R : Type) (f : Int × Int) (M N : Tup) (hM : (toSp M).ok = true) (hN : (toSp N).ok = true) (hop : M.2.1 = N.2.1) (hf : okP (toSp M) (toSp N) f) (yl : Elt → S → Option (Step S R)) (s0 : S) {r : Sum S R} (h : foldY yl (bfs (toSp M) (toSp N) f) s0 = some r) :
    spec_walk_1 S R f M N yl s0 = some r := by
  have hm := Sp.okE hM
  have hn := Sp.okE hN
  have f1 := hf.1
  have f2 := hf.2
  simp only [inR, decide_eq_true_eq] at f1 f2
  have hM8 : (toSp M).st ≤ 8 := hm.2.1
  have hN8 : (toSp N).st ≤ 8 := hn.2.1
  unfold spec_walk_1
  rw [ck_pos (inK_small ⟨f1.1, Int.lt_of_lt_of_le f1.2 hM8⟩), ck_pos (inK_small ⟨f2.1, Int.lt_of_lt_of_le f2.2 hN8⟩)]
  have key : ∀ (d k : Nat) (s : S) (r : Sum S R), 64 - k = d → k ≤ (bfsK (toSp M) (toSp N) f k).length → foldY yl ((bfs (toSp M) (toSp N) f).drop k) s = some r →
      ∃ x, whileO (spec_walk_1_b1 S R M N yl) ((bfsK (toSp M) (toSp N) f k).map (·.1), (bfsK (toSp M) (toSp N) f k).map (·.2), seenOf (bfsK (toSp M) (toSp N) f k), (k : Int), s) = some x ∧ (match x with | .inl e => Sum.inr e | .inr s => Sum.inl s) = r := by
    have stop : ∀ (k : Nat) (s : S) (r : Sum S R), (bfsK (toSp M) (toSp N) f k).length ≤ k → foldY yl ((bfs (toSp M) (toSp N) f).drop k) s = some r →
        ∃ x, whileO (spec_walk_1_b1 S R M N yl) ((bfsK (toSp M) (toSp N) f k).map (·.1), (bfsK (toSp M) (toSp N) f k).map (·.2), seenOf (bfsK (toSp M) (toSp N) f k), (k : Int), s) = some x ∧ (match x with | .inl e => Sum.inr e | .inr s => Sum.inl s) = r := by
      intro k s r hlen hfo
      rw [bfs_at hM hN hop hf hlen, List.drop_eq_nil_of_le hlen] at hfo
      simp only [foldY, Option.some.injEq] at hfo
      subst hfo
      refine ⟨.inr s, whileO_of (n := 1) ?_, rfl⟩
      unfold whileN spec_walk_1_b1
      rw [if_neg (by simp; omega)]
    intro d
    induction d with
    | zero =>
      intro k s r hd hk hfo
      exact stop k s r (Nat.le_trans ((bfsK_fnd hM hN hop hf k).len hM hN) (by omega)) hfo
    | succ d ih =>
      intro k s r hd hk hfo
      by_cases hlen : (bfsK (toSp M) (toSp N) f k).length ≤ k
      · exact stop k s r hlen hfo
      · obtain ⟨e, he⟩ : ∃ e, (bfsK (toSp M) (toSp N) f k)[k]? = some e := ⟨_, List.getElem?_eq_getElem (by omega)⟩
        obtain ⟨_, suf, hsuf⟩ := pre_take (bfsK_bfs hM hN hop hf k) he
        have hfk := bfsK_fnd hM hN hop hf k
        have hbig := (bfsK_fnd hM hN hop hf k).len hM hN
        have hdrop : (bfs (toSp M) (toSp N) f).drop k = e :: suf := by
          have hlt : k ≤ (bfs (toSp M) (toSp N) f).length := by
            have := (bfsK_bfs hM hN hop hf k).length_le; omega
          conv => lhs; rw [hsuf]
          rw [List.drop_append, List.length_take, Nat.min_eq_left hlt, Nat.sub_self, List.drop_zero, List.drop_eq_nil_of_le (by rw [List.length_take]; omega), List.nil_append]
        have hdrop' : (bfs (toSp M) (toSp N) f).drop (k + 1) = suf := by
          have := congrArg (List.drop 1) hdrop
          rw [List.drop_drop] at this
          simpa [Nat.add_comm] using this
        rw [hdrop] at hfo
        simp only [foldY] at hfo
        have hbody : ∀ x, yl e s = some x → spec_walk_1_b1 S R M N yl ((bfsK (toSp M) (toSp N) f k).map (·.1), (bfsK (toSp M) (toSp N) f k).map (·.2), seenOf (bfsK (toSp M) (toSp N) f k), (k : Int), s) =
            some (match x with | .next s' => .next ((bfsK (toSp M) (toSp N) f (k + 1)).map (·.1), (bfsK (toSp M) (toSp N) f (k + 1)).map (·.2), seenOf (bfsK (toSp M) (toSp N) f (k + 1)), ((k + 1 : Nat) : Int), s') | .done e => .done (.inl e)) := by
          intro x hx
          unfold spec_walk_1_b1
          have hlt : (k : Int) < ((bfsK (toSp M) (toSp N) f k).length : Int) := by omega
          simp only [List.length_map]
          rw [if_pos (by simpa using hlt), ck_pos (by omega), ck_pos hlt, ck_pos (by omega), ck_pos hlt, Int.toNat_natCast, getD_of (x := e.1) (by simp [he]), getD_of (x := e.2) (by simp [he])]
          rw [show ((e.1, e.2) : Elt) = e from rfl, hx, Option.bind_some]
          cases x with
          | done e' => rfl
          | next s' =>
            simp only
            have hl := expand_loop S R M N hM hN hop ((bfsK (toSp M) (toSp N) f k).map (·.1), (bfsK (toSp M) (toSp N) f k).map (·.2), seenOf (bfsK (toSp M) (toSp N) f k), (k : Int), s) he ⟨rfl, rfl, rfl⟩ (hfk.mono (Nat.le_succ k)) (hfk.wl e (List.mem_of_getElem? he)) (by omega)
            unfold wst at hl
            rw [hl, Option.bind_some]
            unfold spec_walk_1_k1
            rw [ck_pos (show InK .i64 ((k : Int) + 1) by rw [inK_i64]; omega), bfsK_some he]
            rfl
        obtain ⟨x, hx, hfo⟩ := Option.bind_eq_some_iff.1 hfo
        have hbody := hbody x hx
        cases x with
        | done e' =>
          simp only [Option.some.injEq] at hfo
          subst hfo
          refine ⟨.inl e', whileO_of (n := 1) ?_, rfl⟩
          unfold whileN
          rw [hbody]
        | next s' =>
          simp only at hfo
          rw [← hdrop'] at hfo
          obtain ⟨x', h1, h2⟩ := ih (k + 1) s' r (by omega) (by have := (bfsK_pre1 (toSp M) (toSp N) f k).length_le; omega) hfo
          refine ⟨x', ?_, h2⟩
          obtain ⟨m, hm⟩ := whileO_to h1
          refine whileO_of (n := m + 1) ?_
          unfold whileN
          rw [hbody]
          exact hm
  obtain ⟨x, h1, h2⟩ := key 64 0 s0 r rfl (Nat.zero_le _) (by simpa using h)
  have h1' : whileO (spec_walk_1_b1 S R M N yl) ([f], [[]], mput [] f true, 0, s0) = some x := h1
  rw [h1', Option.bind_some]
  cases x <;> simp only at h2 ⊢ <;> rw [h2]
end Go.Proofs.Ytcgflignbhmoaaa
