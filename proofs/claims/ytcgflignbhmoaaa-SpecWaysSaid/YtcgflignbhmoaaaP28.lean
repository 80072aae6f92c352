/-
  Layer 1, pure: the reference's walk by layers finds what the program's walk finds, with the same words.
-/
import Derived.Test.YtcgflignbhmoaaaP22
namespace Go.Proofs.Ytcgflignbhmoaaa
open Go.RowKit

set_option linter.unusedVariables false
set_option linter.unusedSectionVars false
set_option linter.unusedSimpArgs false

/-- What the reference's tables hold, beside what the walk has found. -/
structure Sm (s : Tup) (acc : List Elt) (W : Tbl) (T : List Bool) : Prop where
  lw : W.length = s.1.toNat
  lt : T.length = s.1.toNat
  fd : Fnd (toSp s) (toSp s) 65 acc
  dg : ∀ x ∈ acc, x.1.1 = x.1.2
  tg : ∀ q : Nat, q < s.1.toNat → (T.getD q false = true ↔ (q : Int) ∈ acc.map (·.1.1))
  wd : ∀ x ∈ acc, W.getD x.1.1.toNat [] = x.2

section
variable {s : Tup} (hv : (toSp s).ok = true)
include hv

theorem sm_len {acc : List Elt} {W : Tbl} {T : List Bool} (h : Sm s acc W T) : acc.length ≤ 64 := h.fd.len hv hv

theorem sm_step {acc : List Elt} {c0 : Nat} {now : List Int} (W0 : Tbl) (T0 : List Bool) (x1 : WX) {i : Nat} {e : Elt} (he : e ∈ acc) (hel : e.2.length ≤ 64) (hi : now[i]? = some e.1.1) {j : Nat} (x : WX) (hj : j < s.2.1.toNat) (hc : c0 ≤ acc.length)
    (hp : Sm s acc x.1 x.2.1 ∧ x.2.2 = (acc.map (·.1.1)).drop c0) :
    ∃ x' : WX, linealref01_ways_b3 s (W0, T0, now) (x1.1, x1.2.1, x1.2.2, (i : Int)) (x.1, x.2.1, x.2.2, (j : Int)) = some (.next (x'.1, x'.2.1, x'.2.2, (j : Int) + 1)) ∧
      Sm s (step1 (toSp s) (toSp s) e acc j) x'.1 x'.2.1 ∧ x'.2.2 = ((step1 (toSp s) (toSp s) e acc j).map (·.1.1)).drop c0 := by
  obtain ⟨W, T, N⟩ := x
  obtain ⟨hS, hN⟩ := hp
  simp only at hS hN
  have hm := Sp.okE hv
  have h1 : 1 ≤ s.1 := hm.1
  have h2 : s.1 ≤ 8 := hm.2.1
  have h4 : s.2.1 ≤ 4 := hm.2.2.2.1
  have ia0 : inR s.1 e.1.1 = true := (hS.fd.ok e he).1
  have hd := hS.dg e he
  have hwd := hS.wd e he
  have hin := ia0
  simp only [inR, decide_eq_true_eq] at hin
  obtain ⟨n, hn⟩ := Int.eq_ofNat_of_zero_le hin.1
  rw [hn] at hin ia0 hi hwd
  rw [Int.toNat_natCast] at hwd
  have hj1 : (j : Int) < s.2.1 := by omega
  obtain ⟨r1, q1, y1, _, w1⟩ := tab_at hm.2.2.2.2.1 ia0 hj1
  rw [Int.toNat_natCast] at q1
  have e1 : s.2.2.1.getD n [] = r1 := getD_of q1
  have f1 : r1.getD j 0 = at2 s.2.2.1 n j := getD_of y1
  have l1 : n < s.2.2.1.length := lt_of_get q1
  have w1' : (r1.length : Int) = s.2.1 := w1
  obtain ⟨n1, n2⟩ := nxN_in hv hv rfl (a := n) (by omega) hj1
  have en : now.getD i 0 = (n : Int) := getD_of hi
  have hlt := hS.lt
  have hlw := hS.lw
  have ki : InK .i64 ((j : Int) + 1) := by rw [inK_i64]; omega
  have hl64 := sm_len hv hS
  have hNl : N.length ≤ 64 := by rw [hN, List.length_drop, List.length_map]; omega
  have ht2 : to2 (toSp s) (toSp s) e.1 j = (((nxN s n j : Nat) : Int), ((nxN s n j : Nat) : Int)) := by
    show (at2 s.2.2.1 e.1.1 j, at2 s.2.2.1 e.1.2 j) = _
    rw [← hd, hn, n1]
  have hmem : to2 (toSp s) (toSp s) e.1 j ∈ acc.map (·.1) ↔ ((nxN s n j : Nat) : Int) ∈ acc.map (·.1.1) := by
    rw [ht2]
    constructor
    · intro h
      obtain ⟨x, hx, hx1⟩ := List.mem_map.1 h
      exact List.mem_map.2 ⟨x, hx, by rw [hx1]⟩
    · intro h
      obtain ⟨x, hx, hx1⟩ := List.mem_map.1 h
      have := hS.dg x hx
      exact List.mem_map.2 ⟨x, hx, Prod.ext hx1 (this.symm.trans hx1)⟩
  have hfd := hS.fd.step1 hv hv rfl (e := e) (hS.fd.ok e he) hel (o := j) hj1
  have htg := hS.tg (nxN s n j) (by omega)
  unfold linealref01_ways_b3
  simp only [Int.toNat_natCast, en, e1, f1, ← n1]
  rw [if_pos (by rw [decide_eq_true_eq]; exact hj1), ck_pos (by omega), ck_pos (by omega), ck_pos (by omega), ck_pos (by omega), ck_pos (by omega), ck_pos (by omega)]
  by_cases hT : T.getD (nxN s n j) false = true
  · have hst : step1 (toSp s) (toSp s) e acc j = acc := by
      unfold step1; rw [if_pos (hmem.2 (htg.1 hT))]
    rw [hst]
    refine ⟨(W, T, N), ?_, hS, hN⟩
    rw [if_neg (by rw [hT]; simp), ck_pos ki]
  · have hTf : T.getD (nxN s n j) false = false := by simpa using hT
    have hno : ((nxN s n j : Nat) : Int) ∉ acc.map (·.1.1) := fun h => hT (htg.2 h)
    have hst : step1 (toSp s) (toSp s) e acc j = acc ++ [(((((nxN s n j : Nat) : Int), ((nxN s n j : Nat) : Int))), e.2 ++ [(j : Int)])] := by
      unfold step1; rw [if_neg (fun h => hno (hmem.1 h)), ht2]
    rw [hst] at hfd ⊢
    refine ⟨(W.set (nxN s n j) (W.getD n [] ++ [(j : Int)]), T.set (nxN s n j) true, N ++ [((nxN s n j : Nat) : Int)]), ?_, ⟨by simp [hlw], by simp [hlt], hfd, ?_, ?_, ?_⟩, ?_⟩
    · rw [if_pos (by rw [hTf]; rfl), ck_pos (by omega), ck_pos (by omega), ck_pos (by omega), ck_pos (by omega), ck_pos (by rw [hwd]; omega), ck_pos (by rw [hwd]; omega), ck_pos (by omega), ck_pos (by omega), ck_pos (by omega), ck_pos ki]
    · intro x hx
      rcases List.mem_append.1 hx with hx | hx
      · exact hS.dg x hx
      · simp at hx; subst hx; rfl
    · intro q hq
      rw [getD_set (by omega), List.map_append, List.mem_append]
      by_cases e : q = nxN s n j
      · simp [e]
      · rw [if_neg e, hS.tg q hq]
        refine ⟨fun h => .inl h, fun h => ?_⟩
        rcases h with h | h
        · exact h
        · rw [List.map_cons, List.map_nil, List.mem_singleton] at h
          have h' : (q : Int) = ((nxN s n j : Nat) : Int) := h
          exact absurd (by omega) e
    · intro x hx
      rcases List.mem_append.1 hx with hx | hx
      · have hxr := (hS.fd.ok x hx).1
        have hxr' : inR s.1 x.1.1 = true := hxr
        simp only [inR, decide_eq_true_eq] at hxr'
        rw [getD_set (by omega), if_neg, hS.wd x hx]
        intro h
        exact hno (List.mem_map.2 ⟨x, hx, by omega⟩)
      · simp at hx; subst hx
        simp only [Int.toNat_natCast]
        rw [getD_set (by omega), if_pos rfl, hwd]
    · rw [hN, List.map_append, List.drop_append_of_le_length (by rw [List.length_map]; exact hc)]
      rfl

theorem sm_b2 {k : Nat} {c0 : Nat} {now : List Int} (hn : now.length ≤ 100) (W0 : Tbl) (T0 : List Bool) {i : Nat} (x : WX) {e : Elt} (hk : k ≤ 64) (he : (bfsK (toSp s) (toSp s) (0, 0) k)[k]? = some e) (hi : now[i]? = some e.1.1) (hc : c0 ≤ (bfsK (toSp s) (toSp s) (0, 0) k).length)
    (hp : Sm s (bfsK (toSp s) (toSp s) (0, 0) k) x.1 x.2.1 ∧ x.2.2 = ((bfsK (toSp s) (toSp s) (0, 0) k).map (·.1.1)).drop c0) :
    ∃ x' : WX, linealref01_ways_b2 s (W0, T0, now) (x.1, x.2.1, x.2.2, (i : Int)) = some (.next (x'.1, x'.2.1, x'.2.2, (i : Int) + 1)) ∧
      Sm s (bfsK (toSp s) (toSp s) (0, 0) (k + 1)) x'.1 x'.2.1 ∧ x'.2.2 = ((bfsK (toSp s) (toSp s) (0, 0) (k + 1)).map (·.1.1)).drop c0 := by
  have hm := Sp.okE hv
  have h3 : 1 ≤ s.2.1 := hm.2.2.1
  have hmem := List.mem_of_getElem? he
  have hwl := (bfsK_fnd hv hv rfl (zero_ok hv) k).wl e hmem
  have hlt := lt_of_get hi
  rw [bfsK_some he]
  generalize bfsK (toSp s) (toSp s) (0, 0) k = acc at *
  obtain ⟨x', e1, hS, hN⟩ := loop_ex (body := linealref01_ways_b3 s (W0, T0, now) (x.1, x.2.1, x.2.2, (i : Int))) (fun (y : WX) (k : Int) => (y.1, y.2.1, y.2.2, k)) (fun y => y) s.2.1.toNat
    (fun q (y : WX) => Sm s (expandK (toSp s) (toSp s) e acc q) y.1 y.2.1 ∧ y.2.2 = ((expandK (toSp s) (toSp s) e acc q).map (·.1.1)).drop c0)
    (fun q y hq hy => by
      have hpre := expandK_pre (toSp s) (toSp s) e acc q
      rw [expandK_succ]
      exact sm_step hv W0 T0 x (hpre.subset hmem) (by omega) hi y hq (Nat.le_trans hc hpre.length_le) hy) (fun y _ => by
      unfold linealref01_ways_b3
      rw [if_neg (by rw [decide_eq_true_eq]; simp only; omega)]) s.2.1.toNat 0 x (by omega) (by omega) hp
  refine ⟨x', ?_, hS, hN⟩
  unfold linealref01_ways_b2
  simp only
  have e1' : whileO (linealref01_ways_b3 s (W0, T0, now) (x.1, x.2.1, x.2.2, (i : Int))) (x.1, x.2.1, x.2.2, 0) = some x' := e1
  rw [if_pos (by rw [decide_eq_true_eq]; omega), ck_pos (by omega), ck_pos (by omega), e1', Option.bind_some]
  unfold linealref01_ways_k3
  rw [ck_pos (by rw [inK_i64]; simp only; omega)]

theorem bfs8 (k : Nat) : (bfsK (toSp s) (toSp s) (0, 0) k).length ≤ 8 := by
  have h1 := (bfsK_bfs hv hv rfl (zero_ok hv) k).length_le
  have h2 := ways_len hv
  have h3 : s.1 ≤ 8 := (Sp.okE hv).2.1
  unfold waysL at h2
  rw [List.length_map] at h2
  omega

theorem sm_b1 : ∀ (d k : Nat) (W : Tbl) (T : List Bool), k + d = 9 → Sm s (bfsK (toSp s) (toSp s) (0, 0) k) W T → k ≤ (bfsK (toSp s) (toSp s) (0, 0) k).length →
    ∃ (W' : Tbl) (T' : List Bool), whileN (linealref01_ways_b1 s) (d + 1) (W, T, ((bfsK (toSp s) (toSp s) (0, 0) k).map (·.1.1)).drop k) = some (W', T') ∧ Sm s (bfs (toSp s) (toSp s) (0, 0)) W' T' := by
  intro d
  induction d using Nat.strongRecOn with
  | ind d ih =>
  intro k W T hkd hS hkl
  have h8 := bfs8 hv k
  by_cases hend : (bfsK (toSp s) (toSp s) (0, 0) k).length ≤ k
  · refine ⟨W, T, ?_, by rw [bfs_at hv hv rfl (zero_ok hv) hend]; exact hS⟩
    rw [List.drop_eq_nil_of_le (by rw [List.length_map]; exact hend)]
    unfold whileN linealref01_ways_b1
    rw [if_neg (by simp)]
  · generalize hacc : bfsK (toSp s) (toSp s) (0, 0) k = acc at *
    generalize hnow : (acc.map (·.1.1)).drop k = now
    have hnl : now.length = acc.length - k := by rw [← hnow, List.length_drop, List.length_map]
    obtain ⟨x', e1, hS', hN'⟩ := loop_ex (body := linealref01_ways_b2 s (W, T, now)) (fun (y : WX) (q : Int) => (y.1, y.2.1, y.2.2, q)) (fun y => y) now.length
      (fun q (y : WX) => Sm s (bfsK (toSp s) (toSp s) (0, 0) (k + q)) y.1 y.2.1 ∧ y.2.2 = ((bfsK (toSp s) (toSp s) (0, 0) (k + q)).map (·.1.1)).drop acc.length)
      (fun q y hq hy => by
        obtain ⟨a, ha⟩ := get_of_lt (xs := acc) (k := k + q) (by omega)
        have hpre := bfsK_pre (toSp s) (toSp s) (0, 0) (j := k) (k := k + q) (by omega)
        rw [hacc] at hpre
        obtain ⟨suf, hsuf⟩ := hpre
        have he : (bfsK (toSp s) (toSp s) (0, 0) (k + q))[k + q]? = some a := by
          rw [← hsuf, List.getElem?_append_left (by omega)]; exact ha
        have hnq : now[q]? = some a.1.1 := by
          rw [← hnow, List.getElem?_drop, List.getElem?_map, ha]; rfl
        have := sm_b2 hv (k := k + q) (c0 := acc.length) (by omega) W T y (by omega) he hnq (by rw [← hsuf, List.length_append]; omega) hy
        exact this) (fun y _ => by
        unfold linealref01_ways_b2
        rw [if_neg (by rw [decide_eq_true_eq]; simp)]) now.length 0 (W, T, []) (by omega) (by omega) ⟨by rw [Nat.add_zero, hacc]; exact hS, by
          rw [Nat.add_zero, hacc, List.drop_eq_nil_of_le (by rw [List.length_map]; omega)]⟩
    have hk' : k + now.length = acc.length := by omega
    rw [hk'] at hS' hN'
    have hstep : linealref01_ways_b1 s (W, T, now) = some (.next (x'.1, x'.2.1, x'.2.2)) := by
      unfold linealref01_ways_b1
      simp only
      have e1' : whileO (linealref01_ways_b2 s (W, T, now)) (W, T, [], 0) = some x' := e1
      rw [if_pos (by rw [decide_eq_true_eq]; omega), e1', Option.bind_some]
      rfl
    obtain ⟨d', rfl⟩ : ∃ d', d = d' + 1 := ⟨d - 1, by omega⟩
    have hpre := bfsK_pre (toSp s) (toSp s) (0, 0) (j := k) (k := acc.length) (by omega)
    rw [hacc] at hpre
    obtain ⟨W2, T2, r1, r2⟩ := ih (9 - acc.length) (by omega) acc.length x'.1 x'.2.1 (by omega) hS' hpre.length_le
    refine ⟨W2, T2, ?_, r2⟩
    unfold whileN
    rw [hstep]
    simp only
    rw [hN']
    exact whileN_up r1 (by omega)

theorem ref_ways_sm : ∃ W T, linealref01_ways s = some (W, T) ∧ Sm s (bfs (toSp s) (toSp s) (0, 0)) W T := by
  have hm := Sp.okE hv
  have h1 : 1 ≤ s.1 := hm.1
  have h2 : s.1 ≤ 8 := hm.2.1
  have hT0 : ∀ q, ((List.replicate s.1.toNat false).set 0 true).getD q false = if q = 0 then true else (List.replicate s.1.toNat false).getD q false := fun q => getD_set (by simp; omega)
  have hb0 : bfsK (toSp s) (toSp s) (0, 0) 0 = [((0, 0), [])] := rfl
  have start : Sm s (bfsK (toSp s) (toSp s) (0, 0) 0) (List.replicate s.1.toNat []) ((List.replicate s.1.toNat false).set 0 true) := by
    have hf := bfsK_fnd hv hv rfl (zero_ok hv) 0
    refine ⟨by simp, by simp, hf.mono (by omega), ?_, fun q hq => ?_, ?_⟩
    · rw [hb0]; intro x hx; simp at hx; subst hx; rfl
    · rw [hT0, hb0]
      by_cases e : q = 0
      · simp [e]
      · rw [if_neg e]
        simp [e, List.getD, hq]
    · rw [hb0]; intro x hx; simp at hx; subst hx
      simp only [Int.toNat_zero, List.getD, List.getElem?_replicate]
      split <;> rfl
  obtain ⟨W, T, e1, e2⟩ := sm_b1 hv 9 0 _ _ rfl start (by rw [hb0]; simp)
  refine ⟨W, T, ?_, e2⟩
  rw [hb0] at e1
  have e1' : whileN (linealref01_ways_b1 s) (9 + 1) (List.replicate s.1.toNat [], (List.replicate s.1.toNat false).set 0 true, [0]) = some (W, T) := e1
  unfold linealref01_ways
  rw [ck_pos (by omega), ck_pos (by omega), ck_pos (by omega), ck_pos (by omega), ck_pos (by rw [List.length_replicate]; omega), whileO_of e1', Option.bind_some]
  rfl

end

theorem ref_Way_eq (s : Tup) (hs : okS s) (to : Int) : linealref01_Way s to = some (if (toSp s).ok = true then (if inR s.1 to = true then wayOf s to else ([], 2)) else ([], 10)) := by
  unfold linealref01_Way
  rw [asked_eq s hs, Option.bind_some]
  cases hv : (toSp s).ok
  · simp
  cases ht : inR s.1 to
  · simp
  obtain ⟨W, T, e1, hS⟩ := ref_ways_sm hv
  have htr := ht
  simp only [inR, decide_eq_true_eq] at htr
  obtain ⟨q, rfl⟩ := Int.eq_ofNat_of_zero_le htr.1
  have hlt := hS.lt
  have hlw := hS.lw
  have htg := hS.tg q (by omega)
  simp only [and_self, if_true, decide_true, Bool.not_true, Bool.false_eq_true, if_false]
  rw [e1, Option.bind_some]
  simp only [Int.toNat_natCast]
  rw [ck_pos (by omega), ck_pos (by omega)]
  unfold wayOf
  cases hf : (waysL s).find? (fun x => decide (x.1 = (q : Int))) with
  | none =>
    have hno : ¬ T.getD q false = true := fun h => by
      obtain ⟨x, hx, hx1⟩ := List.mem_map.1 (htg.1 h)
      have := List.find?_eq_none.1 hf (x.1.1, x.2) (List.mem_map.2 ⟨x, hx, rfl⟩)
      simp at this
      exact this hx1
    rw [if_pos (by simpa using hno)]
  | some x =>
    have h1 := List.find?_some hf
    have h2 := List.mem_of_find?_eq_some hf
    rw [decide_eq_true_eq] at h1
    obtain ⟨e, he, rfl⟩ := List.mem_map.1 h2
    have hT : T.getD q false = true := htg.2 (List.mem_map.2 ⟨e, he, h1⟩)
    have hw := hS.wd e he
    have h1' : e.1.1 = (q : Int) := h1
    rw [h1', Int.toNat_natCast] at hw
    rw [if_neg (by rw [hT]; simp), ck_pos (by omega), ck_pos (by omega), hw]
end Go.Proofs.Ytcgflignbhmoaaa
