/-
  Layer 1, pure: the reference's walk by layers finds the same states.
-/
import Derived.Test.YtcgflignbhmoaaaP13
import Derived.Test.YtcgflignbhmoaaaP21
namespace Go.Proofs.Ytcgflignbhmoaaa
open Go.RowKit

set_option linter.unusedVariables false
set_option linter.unusedSectionVars false
set_option linter.unusedSimpArgs false

theorem loop_ex {X ST R : Type} {body : ST → Option (Step ST R)} (st : X → Int → ST) (out : X → R) (n : Nat) (P : Nat → X → Prop) (h : ∀ (k : Nat) (x : X), k < n → P k x → ∃ x', body (st x (k : Int)) = some (.next (st x' ((k : Int) + 1))) ∧ P (k + 1) x') (hd : ∀ x, P n x → body (st x (n : Int)) = some (.done (out x))) :
    ∀ (d k : Nat) (x : X), n - k = d → k ≤ n → P k x → ∃ x', whileO body (st x (k : Int)) = some (out x') ∧ P n x' := by
  have key : ∀ (d k : Nat) (x : X), n - k = d → k ≤ n → P k x → ∃ x', whileN body (d + 1) (st x (k : Int)) = some (out x') ∧ P n x' := by
    intro d
    induction d with
    | zero =>
      intro k x h1 h2 hp
      have : k = n := by omega
      subst this
      refine ⟨x, ?_, hp⟩
      unfold whileN; rw [hd x hp]
    | succ d ih =>
      intro k x h1 h2 hp
      obtain ⟨x', e1, hp'⟩ := h k x (by omega) hp
      obtain ⟨x2, e2, hp2⟩ := ih (k + 1) x' (by omega) (by omega) hp'
      refine ⟨x2, ?_, hp2⟩
      unfold whileN
      rw [e1]
      exact e2
  intro d k x h1 h2 hp
  obtain ⟨x', e1, e2⟩ := key d k x h1 h2 hp
  exact ⟨x', whileO_of e1, e2⟩

/-- The walk by layers, in round r: G are the states found. -/
structure RW (s : Tup) (r c0 : Nat) (now : List Int) (W : Tbl) (T : List Bool) (N : List Int) (G : List Nat) : Prop where
  lw : W.length = s.1.toNat
  lt : T.length = s.1.toNat
  gd : G.Nodup
  gr : ∀ q ∈ G, q < s.1.toNat
  tg : ∀ q, q < s.1.toNat → (T.getD q false = true ↔ q ∈ G)
  sd : ∀ q ∈ G, (q : Int) ∈ (waysL s).map (·.1)
  wn : ∀ a ∈ now, (W.getD a.toNat []).length ≤ r
  wl : ∀ q, q < s.1.toNat → (W.getD q []).length ≤ r + 1
  nw : ∀ a ∈ now, 0 ≤ a ∧ a.toNat ∈ G
  nn : ∀ a ∈ N, 0 ≤ a ∧ a.toNat ∈ G
  ct : c0 + N.length ≤ G.length
  z : 0 ∈ G
  cl : ∀ q ∈ G, (q : Int) ∈ now ∨ (q : Int) ∈ N ∨ ∀ o, o < s.2.1.toNat → nxN s q o ∈ G

abbrev WX := Tbl × List Bool × List Int

section
variable {s : Tup} (hv : (toSp s).ok = true)
include hv

theorem found_next {q : Nat} (hq : (q : Int) ∈ (waysL s).map (·.1)) {o : Nat} (ho : (o : Int) < s.2.1) : ((nxN s q o : Nat) : Int) ∈ (waysL s).map (·.1) := by
  obtain ⟨x, hx, hx1⟩ := List.mem_map.1 hq
  obtain ⟨e, he, rfl⟩ := List.mem_map.1 hx
  have hin := ways_in hv hx
  simp only at hx1 hin
  have hin' := hin
  simp only [inR, decide_eq_true_eq] at hin'
  obtain ⟨e', he', h1, _⟩ := bfs_next hv hv rfl (zero_ok hv) he (o := (o : Int)) (by show inR s.2.1 _ = true; simp only [inR, decide_eq_true_eq]; omega)
  refine List.mem_map.2 ⟨(e'.1.1, e'.2), List.mem_map.2 ⟨e', he', rfl⟩, ?_⟩
  have h2 : e'.1.1 = at2 s.2.2.1 e.1.1 (o : Int).toNat := by rw [h1]; rfl
  rw [hx1, Int.toNat_natCast] at h2
  show e'.1.1 = _
  rw [h2, (nxN_in hv hv rfl (by rw [← hx1]; exact hin'.2) ho).1]

theorem ways_b3 {r c0 : Nat} (hr : r ≤ 100) {now : List Int} (W0 : Tbl) (T0 : List Bool) (x1 : WX) {i : Nat} {a : Int} (hi : now[i]? = some a) {j : Nat} (x : WX) (hj : j < s.2.1.toNat)
    (hp : ∃ G, RW s r c0 now x.1 x.2.1 x.2.2 G ∧ (∀ i' a', now[i']? = some a' → i' < i → ∀ o, o < s.2.1.toNat → nxN s a'.toNat o ∈ G) ∧ ∀ o, o < j → nxN s a.toNat o ∈ G) :
    ∃ x' : WX, linealref01_ways_b3 s (W0, T0, now) (x1.1, x1.2.1, x1.2.2, (i : Int)) (x.1, x.2.1, x.2.2, (j : Int)) = some (.next (x'.1, x'.2.1, x'.2.2, (j : Int) + 1)) ∧
      ∃ G, RW s r c0 now x'.1 x'.2.1 x'.2.2 G ∧ (∀ i' a', now[i']? = some a' → i' < i → ∀ o, o < s.2.1.toNat → nxN s a'.toNat o ∈ G) ∧ ∀ o, o < j + 1 → nxN s a.toNat o ∈ G := by
  obtain ⟨W, T, N⟩ := x
  obtain ⟨G, hG, hd, ho⟩ := hp
  simp only at hG
  have hm := Sp.okE hv
  have h1 : 1 ≤ s.1 := hm.1
  have h2 : s.1 ≤ 8 := hm.2.1
  have h4 : s.2.1 ≤ 4 := hm.2.2.2.1
  have hmem := List.mem_of_getElem? hi
  obtain ⟨a0, aG⟩ := hG.nw a hmem
  have aS := hG.gr _ aG
  obtain ⟨n, rfl⟩ := Int.eq_ofNat_of_zero_le a0
  rw [Int.toNat_natCast] at aG aS
  have ia : inR s.1 (n : Int) = true := by simp only [inR, decide_eq_true_eq]; omega
  have hj1 : (j : Int) < s.2.1 := by omega
  obtain ⟨r1, q1, y1, _, w1⟩ := tab_at hm.2.2.2.2.1 ia hj1
  rw [Int.toNat_natCast] at q1
  have e1 : s.2.2.1.getD n [] = r1 := getD_of q1
  have f1 : r1.getD j 0 = at2 s.2.2.1 n j := getD_of y1
  have l1 : n < s.2.2.1.length := lt_of_get q1
  have w1' : (r1.length : Int) = s.2.1 := w1
  obtain ⟨n1, n2⟩ := nxN_in hv hv rfl (a := n) (by omega) hj1
  have en : now.getD i 0 = (n : Int) := getD_of hi
  have hlt := hG.lt
  have hlw := hG.lw
  have ki : InK .i64 ((j : Int) + 1) := by rw [inK_i64]; omega
  have hGl : G.length ≤ 8 := Nat.le_trans (nodup_lt s.1.toNat G hG.gd hG.gr) (by omega)
  have hct := hG.ct
  have hwa := hG.wn (n : Int) hmem
  rw [Int.toNat_natCast] at hwa
  unfold linealref01_ways_b3
  simp only [Int.toNat_natCast, en, e1, f1, ← n1]
  rw [if_pos (by rw [decide_eq_true_eq]; exact hj1), ck_pos (by omega), ck_pos (by omega), ck_pos (by omega), ck_pos (by omega), ck_pos (by omega), ck_pos (by omega)]
  by_cases hT : T.getD (nxN s n j) false = true
  · refine ⟨(W, T, N), ?_, G, hG, hd, fun o ho' => ?_⟩
    · rw [if_neg (by rw [hT]; simp), ck_pos ki]
    · rcases Nat.lt_succ_iff_lt_or_eq.1 ho' with h | h
      · exact ho o h
      · subst h; exact (hG.tg _ (by omega)).1 hT
  · have hTf : T.getD (nxN s n j) false = false := by simpa using hT
    have hnG : nxN s n j ∉ G := fun h => hT ((hG.tg _ (by omega)).2 h)
    have key : ∀ q, q ∈ G ++ [nxN s n j] ↔ q ∈ G ∨ q = nxN s n j := fun q => by simp
    refine ⟨(W.set (nxN s n j) (W.getD n [] ++ [(j : Int)]), T.set (nxN s n j) true, N ++ [((nxN s n j : Nat) : Int)]), ?_, G ++ [nxN s n j], ⟨?_, ?_, ?_, ?_, ?_, ?_, ?_, ?_, ?_, ?_, ?_, ?_, ?_⟩, ?_, ?_⟩
    · rw [if_pos (by rw [hTf]; rfl), ck_pos (by omega), ck_pos (by omega), ck_pos (by omega), ck_pos (by omega), ck_pos (by omega), ck_pos (by omega), ck_pos (by omega), ck_pos (by omega), ck_pos (by omega), ck_pos ki]
    · simp [hlw]
    · simp [hlt]
    · rw [List.nodup_append]
      refine ⟨hG.gd, by simp, fun c hc d hd e => ?_⟩
      simp at hd; subst hd e; exact hnG hc
    · intro q hq
      rcases (key q).1 hq with h | h
      · exact hG.gr q h
      · omega
    · intro q hq
      rw [key, getD_set (by omega)]
      by_cases e : q = nxN s n j
      · simp [e]
      · rw [if_neg e, hG.tg q hq]; simp [e]
    · intro q hq
      rcases (key q).1 hq with h | h
      · exact hG.sd q h
      · subst h; exact found_next hv (hG.sd n aG) hj1
    · intro c hc
      obtain ⟨_, cG⟩ := hG.nw c hc
      rw [getD_set (by omega), if_neg (fun (e : c.toNat = nxN s n j) => hnG (by rw [← e]; exact cG))]
      exact hG.wn c hc
    · intro q hq
      rw [getD_set (by omega)]
      split
      · rw [List.length_append, List.length_singleton]; omega
      · exact hG.wl q hq
    · intro c hc
      obtain ⟨c0, cG⟩ := hG.nw c hc
      exact ⟨c0, (key _).2 (.inl cG)⟩
    · intro c hc
      rcases List.mem_append.1 hc with hc | hc
      · obtain ⟨c0, cG⟩ := hG.nn c hc
        exact ⟨c0, (key _).2 (.inl cG)⟩
      · simp at hc; subst hc
        exact ⟨by omega, (key _).2 (.inr (by simp))⟩
    · simp; omega
    · exact (key _).2 (.inl hG.z)
    · intro q hq
      rcases (key q).1 hq with h | h
      · rcases hG.cl q h with h | h | h
        · exact .inl h
        · exact .inr (.inl (List.mem_append_left _ h))
        · exact .inr (.inr fun o ho' => (key _).2 (.inl (h o ho')))
      · subst h; exact .inr (.inl (by simp))
    · intro i' a' h5 h6 o ho'
      exact (key _).2 (.inl (hd i' a' h5 h6 o ho'))
    · intro o ho'
      rcases Nat.lt_succ_iff_lt_or_eq.1 ho' with h | h
      · exact (key _).2 (.inl (ho o h))
      · subst h; exact (key _).2 (.inr rfl)

theorem ways_b2 {r c0 : Nat} (hr : r ≤ 100) {now : List Int} (hn : now.length ≤ 100) (W0 : Tbl) (T0 : List Bool) {i : Nat} (x : WX) (hi : i < now.length)
    (hp : ∃ G, RW s r c0 now x.1 x.2.1 x.2.2 G ∧ ∀ i' a', now[i']? = some a' → i' < i → ∀ o, o < s.2.1.toNat → nxN s a'.toNat o ∈ G) :
    ∃ x' : WX, linealref01_ways_b2 s (W0, T0, now) (x.1, x.2.1, x.2.2, (i : Int)) = some (.next (x'.1, x'.2.1, x'.2.2, (i : Int) + 1)) ∧
      ∃ G, RW s r c0 now x'.1 x'.2.1 x'.2.2 G ∧ ∀ i' a', now[i']? = some a' → i' < i + 1 → ∀ o, o < s.2.1.toNat → nxN s a'.toNat o ∈ G := by
  obtain ⟨a, ha⟩ := get_of_lt hi
  have hm := Sp.okE hv
  have h3 : 1 ≤ s.2.1 := hm.2.2.1
  obtain ⟨G, hG, hd⟩ := hp
  obtain ⟨x', e1, G', hG', hd', ho'⟩ := loop_ex (body := linealref01_ways_b3 s (W0, T0, now) (x.1, x.2.1, x.2.2, (i : Int))) (fun (y : WX) (k : Int) => (y.1, y.2.1, y.2.2, k)) (fun y => y) s.2.1.toNat
    (fun k (y : WX) => ∃ G, RW s r c0 now y.1 y.2.1 y.2.2 G ∧ (∀ i' a', now[i']? = some a' → i' < i → ∀ o, o < s.2.1.toNat → nxN s a'.toNat o ∈ G) ∧ ∀ o, o < k → nxN s a.toNat o ∈ G)
    (fun k y hk hy => ways_b3 hv hr W0 T0 x ha y hk hy) (fun y _ => by
      unfold linealref01_ways_b3
      rw [if_neg (by rw [decide_eq_true_eq]; simp only; omega)]) s.2.1.toNat 0 x (by omega) (by omega) ⟨G, hG, hd, fun o ho => by omega⟩
  refine ⟨x', ?_, G', hG', fun i' a' h5 h6 o ho => ?_⟩
  · unfold linealref01_ways_b2
    simp only
    have e1' : whileO (linealref01_ways_b3 s (W0, T0, now) (x.1, x.2.1, x.2.2, (i : Int))) (x.1, x.2.1, x.2.2, 0) = some x' := e1
    rw [if_pos (by rw [decide_eq_true_eq]; omega), ck_pos (by omega), ck_pos (by omega), e1', Option.bind_some]
    unfold linealref01_ways_k3
    rw [ck_pos (by rw [inK_i64]; simp only; omega)]
  · rcases Nat.lt_succ_iff_lt_or_eq.1 h6 with h | h
    · exact hd' i' a' h5 h o ho
    · subst h
      rw [ha] at h5
      have := Option.some.inj h5
      subst this
      exact ho' o ho

theorem ways_b1 : ∀ (d r : Nat) (now : List Int) (W : Tbl) (T : List Bool) (G : List Nat), r + d = 9 → (now = [] ∨ r + 1 ≤ G.length) → RW s r (r + 1 - 1) now W T [] G → now.length ≤ 100 → (∀ q, q < s.1.toNat → (W.getD q []).length ≤ r) →
    ∃ (W' : Tbl) (T' : List Bool) (G' : List Nat), whileN (linealref01_ways_b1 s) (d + 1) (W, T, now) = some (W', T') ∧ T'.length = s.1.toNat ∧ W'.length = s.1.toNat ∧ (∀ q, q < s.1.toNat → (T'.getD q false = true ↔ q ∈ G')) ∧ (∀ q ∈ G', q < s.1.toNat ∧ (q : Int) ∈ (waysL s).map (·.1)) ∧ 0 ∈ G' ∧ ∀ q ∈ G', ∀ o, o < s.2.1.toNat → nxN s q o ∈ G' := by
  intro d
  induction d with
  | zero =>
    intro r now W T G hrd hnow hG hn hW
    have hm := Sp.okE hv
    have h2 : s.1 ≤ 8 := hm.2.1
    have hGl : G.length ≤ 8 := Nat.le_trans (nodup_lt s.1.toNat G hG.gd hG.gr) (by omega)
    rcases hnow with h | h
    · subst h
      refine ⟨W, T, G, ?_, hG.lt, hG.lw, hG.tg, fun q hq => ⟨hG.gr q hq, hG.sd q hq⟩, hG.z, fun q hq o ho => ?_⟩
      · unfold whileN linealref01_ways_b1
        rw [if_neg (by simp)]
      · rcases hG.cl q hq with h | h | h
        · simp at h
        · simp at h
        · exact h o ho
    · omega
  | succ d ih =>
    intro r now W T G hrd hnow hG hn hW
    have hm := Sp.okE hv
    have h2 : s.1 ≤ 8 := hm.2.1
    have hGl : G.length ≤ 8 := Nat.le_trans (nodup_lt s.1.toNat G hG.gd hG.gr) (by omega)
    cases now with
    | nil =>
      refine ⟨W, T, G, ?_, hG.lt, hG.lw, hG.tg, fun q hq => ⟨hG.gr q hq, hG.sd q hq⟩, hG.z, fun q hq o ho => ?_⟩
      · unfold whileN linealref01_ways_b1
        rw [if_neg (by simp)]
      · rcases hG.cl q hq with h | h | h
        · simp at h
        · simp at h
        · exact h o ho
    | cons a0 now0 =>
      have hrG : r + 1 ≤ G.length := by
        rcases hnow with h | h
        · cases h
        · exact h
      have hG1 : RW s r G.length (a0 :: now0) W T [] G := ⟨hG.lw, hG.lt, hG.gd, hG.gr, hG.tg, hG.sd, hG.wn, hG.wl, hG.nw, hG.nn, by simp, hG.z, hG.cl⟩
      obtain ⟨x', e1, G', hG', hd'⟩ := loop_ex (body := linealref01_ways_b2 s (W, T, a0 :: now0)) (fun (y : WX) (k : Int) => (y.1, y.2.1, y.2.2, k)) (fun y => y) (a0 :: now0).length
        (fun k (y : WX) => ∃ G', RW s r G.length (a0 :: now0) y.1 y.2.1 y.2.2 G' ∧ ∀ i' a', (a0 :: now0)[i']? = some a' → i' < k → ∀ o, o < s.2.1.toNat → nxN s a'.toNat o ∈ G')
        (fun k y hk hy => ways_b2 hv (by omega) hn W T y hk hy) (fun y _ => by
          unfold linealref01_ways_b2
          rw [if_neg (by rw [decide_eq_true_eq]; simp)]) (a0 :: now0).length 0 (W, T, []) (by omega) (by omega) ⟨G, hG1, fun i' a' _ h => by omega⟩
      obtain ⟨W', T', N'⟩ := x'
      simp only at hG' hd'
      have hGl' : G'.length ≤ 8 := Nat.le_trans (nodup_lt s.1.toNat G' hG'.gd hG'.gr) (by omega)
      have hct := hG'.ct
      have hstep : linealref01_ways_b1 s (W, T, a0 :: now0) = some (.next (W', T', N')) := by
        unfold linealref01_ways_b1
        simp only
        have e1' : whileO (linealref01_ways_b2 s (W, T, a0 :: now0)) (W, T, [], 0) = some (W', T', N') := e1
        rw [if_pos (by simp), e1', Option.bind_some]
        rfl
      have hcl : ∀ q ∈ G', (q : Int) ∈ N' ∨ (q : Int) ∈ ([] : List Int) ∨ ∀ o, o < s.2.1.toNat → nxN s q o ∈ G' := fun q hq => by
        rcases hG'.cl q hq with h | h | h
        · obtain ⟨i', hi'⟩ := List.getElem?_of_mem h
          have := hd' i' q hi' (lt_of_get hi')
          rw [Int.toNat_natCast] at this
          exact .inr (.inr this)
        · exact .inl h
        · exact .inr (.inr h)
      have hnx : RW s (r + 1) (r + 1 + 1 - 1) N' W' T' [] G' := ⟨hG'.lw, hG'.lt, hG'.gd, hG'.gr, hG'.tg, hG'.sd, fun a ha => hG'.wl _ (hG'.gr _ (hG'.nn a ha).2), fun q hq => Nat.le_succ_of_le (hG'.wl q hq), hG'.nn, fun a ha => by simp at ha, by simp; omega, hG'.z, hcl⟩
      obtain ⟨W2, T2, G2, e2, rest⟩ := ih (r + 1) N' W' T' G' (by omega) (by
        cases N' with
        | nil => exact .inl rfl
        | cons b N' => right; simp at hct; omega) hnx (by omega) hG'.wl
      refine ⟨W2, T2, G2, ?_, rest⟩
      unfold whileN
      rw [hstep]
      exact e2

theorem ref_ways : ∃ W T, linealref01_ways s = some (W, T) ∧ T.length = s.1.toNat ∧ ∀ q, q < s.1.toNat → (T.getD q false = true ↔ (q : Int) ∈ (waysL s).map (·.1)) := by
  have hm := Sp.okE hv
  have h1 : 1 ≤ s.1 := hm.1
  have h2 : s.1 ≤ 8 := hm.2.1
  have z0 : ((0 : Nat) : Int) ∈ (waysL s).map (·.1) := by
    obtain ⟨x, hx, hx1, _⟩ := ways_first hv (v := []) (fun x hx => by simp at hx)
    exact List.mem_map.2 ⟨x, hx, hx1⟩
  have hT0 : ∀ q, ((List.replicate s.1.toNat false).set 0 true).getD q false = if q = 0 then true else (List.replicate s.1.toNat false).getD q false := fun q => getD_set (by simp; omega)
  have start : RW s 0 (0 + 1 - 1) [0] (List.replicate s.1.toNat []) ((List.replicate s.1.toNat false).set 0 true) [] [0] := by
    refine ⟨by simp, by simp, by simp, fun q hq => by simp at hq; omega, fun q hq => ?_, fun q hq => ?_, fun a ha => ?_, fun q hq => ?_, fun a ha => ?_, fun a ha => by simp at ha, by simp, by simp, fun q hq => ?_⟩
    · rw [hT0]
      by_cases e : q = 0
      · simp [e]
      · simp [e, List.getD, hq]
    · simp at hq; subst hq; exact z0
    · simp at ha; subst ha
      have : (List.replicate s.1.toNat ([] : List Int)).getD (0 : Int).toNat [] = [] := by
        simp only [Int.toNat_zero, List.getD, List.getElem?_replicate]
        split <;> rfl
      rw [this]; simp
    · simp [List.getD, hq]
    · simp at ha; subst ha; simp
    · simp at hq; subst hq; exact .inl (by simp)
  obtain ⟨W, T, G, e1, l1, _, t1, g1, gz, gc⟩ := ways_b1 hv 9 0 [0] _ _ [0] rfl (.inr (by simp)) start (by simp) (fun q hq => by simp [List.getD, hq])
  refine ⟨W, T, ?_, l1, fun q hq => ?_⟩
  · unfold linealref01_ways
    rw [ck_pos (by omega), ck_pos (by omega), ck_pos (by omega), ck_pos (by omega), ck_pos (by rw [List.length_replicate]; omega), whileO_of e1, Option.bind_some]
    rfl
  · rw [t1 q hq]
    refine ⟨fun h => (g1 q h).2, fun h => ?_⟩
    obtain ⟨x, hx, hx1⟩ := List.mem_map.1 h
    obtain ⟨w1, w2⟩ := ways_word hv hx
    have key : ∀ (n : Nat) (w : List Int), w.length = n → calls s.2.1 w → ∃ p ∈ G, qAt s 0 w = (p : Int) := by
      intro n
      induction n with
      | zero =>
        intro w hw _
        obtain rfl : w = [] := List.length_eq_zero_iff.1 hw
        exact ⟨0, gz, rfl⟩
      | succ n ih =>
        intro w hw hc
        rcases snoc_cases w with h | ⟨v, o, rfl⟩
        · rw [h] at hw; simp at hw
        obtain ⟨c1, c2⟩ := calls_init hc
        obtain ⟨p, hp, hp1⟩ := ih v (by simpa using hw) c1
        simp only [inR, decide_eq_true_eq] at c2
        have hps := (g1 p hp).1
        refine ⟨nxN s p o.toNat, gc p hp o.toNat (by omega), ?_⟩
        rw [qAt_snoc, hp1]
        exact ((nxN_in hv hv rfl (a := p) (o := o.toNat) (by omega) (by omega)).1).symm
    obtain ⟨p, hp, hp1⟩ := key _ x.2 rfl w1
    have : p = q := by
      rw [← w2, hx1] at hp1
      omega
    rw [← this]; exact hp

end
end Go.Proofs.Ytcgflignbhmoaaa
