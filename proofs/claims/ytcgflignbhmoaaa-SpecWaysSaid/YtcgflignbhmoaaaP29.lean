/-
  Layer 1, pure: the reference's least machine, computed; the law about ways.
-/
import Derived.Test.YtcgflignbhmoaaaP23
import Derived.Test.YtcgflignbhmoaaaP26
import Derived.Test.YtcgflignbhmoaaaP28
namespace Go.Proofs.Ytcgflignbhmoaaa
open Go.RowKit

set_option linter.unusedVariables false
set_option linter.unusedSectionVars false
set_option linter.unusedSimpArgs false

/-- The class of a state: its least one. -/
def cl (s : Tup) (q : Int) : Int := (leastF s q.toNat : Int)

attribute [local irreducible] sameB dF leastF kL waysL

section
variable {s : Tup} (hv : (toSp s).ok = true)
include hv

theorem number_go (ms : List Int) (hms : ∀ q ∈ ms, inR s.1 q = true) (hl : ms.length ≤ 1000) {a : Int} (ha : inR s.1 a = true) : ∀ (d k : Nat), ms.length - k = d → k ≤ ms.length → (∀ j : Nat, j < k → (ms.map (cl s))[j]? ≠ some (cl s a)) →
    whileN (linealref01_number_b1 (clsL s) ms a) (d + 1) (k : Int) = some (if cl s a ∈ ms.map (cl s) then .inl (ixN (ms.map (cl s)) (cl s a) : Int) else .inr ())
  | 0, k, hd, hk, hb => by
    have e : k = ms.length := by omega
    have hn : cl s a ∉ ms.map (cl s) := fun hm => by
      obtain ⟨j, hj⟩ := List.getElem?_of_mem hm
      exact hb j (by have := lt_of_get hj; rw [List.length_map] at this; omega) hj
    unfold whileN linealref01_number_b1
    rw [if_neg (by rw [decide_eq_true_eq]; omega), if_neg hn]
  | d + 1, k, hd, hk, hb => by
    obtain ⟨y, hy⟩ := get_of_lt (xs := ms) (k := k) (by omega)
    have hyr := hms y (List.mem_of_getElem? hy)
    have hlen := cls_len hv
    have ha' := ha
    have hyr' := hyr
    simp only [inR, decide_eq_true_eq] at ha' hyr'
    have hmy : (ms.map (cl s))[k]? = some (cl s y) := by rw [List.getElem?_map, hy]; rfl
    have hstep : linealref01_number_b1 (clsL s) ms a (k : Int) = some (if cl s a = cl s y then .done (.inl (k : Int)) else .next ((k : Int) + 1)) := by
      unfold linealref01_number_b1
      rw [if_pos (by rw [decide_eq_true_eq]; omega), ck_pos (by omega), ck_pos (by omega), Int.toNat_natCast, getD_of hy, ck_pos (by omega), ck_pos (by omega), ck_pos (by omega), ck_pos (by omega), cls_at ha, cls_at hyr]
      by_cases e : (leastF s a.toNat : Int) = (leastF s y.toNat : Int)
      · rw [if_pos (by rw [decide_eq_true_eq]; exact e), if_pos (show cl s a = cl s y from e)]
      · rw [if_neg (by rw [decide_eq_true_eq]; exact e), if_neg (show ¬ cl s a = cl s y from e), ck_pos (by rw [inK_i64]; omega)]
    unfold whileN
    rw [hstep]
    by_cases e2 : cl s a = cl s y
    · have hm : cl s a ∈ ms.map (cl s) := by rw [e2]; exact List.mem_of_getElem? hmy
      have h1 : ixN (ms.map (cl s)) (cl s a) = k := by
        rcases Nat.lt_trichotomy (ixN (ms.map (cl s)) (cl s a)) k with h | h | h
        · exact absurd (ixN_get hm) (hb _ h)
        · exact h
        · exact absurd (by rw [e2]; exact hmy) (ixN_before h)
      rw [if_pos e2, if_pos hm, h1]
    · rw [if_neg e2]
      have := number_go ms hms hl ha d (k + 1) (by omega) (by omega) fun j hj => by
        rcases Nat.lt_succ_iff_lt_or_eq.1 hj with hj | rfl
        · exact hb j hj
        · rw [hmy]; intro e'; exact e2 (Option.some.inj e').symm
      have e1 : ((k : Int) + 1) = ((k + 1 : Nat) : Int) := by omega
      simp only
      rw [e1]; exact this

theorem number_eq (ms : List Int) (hms : ∀ q ∈ ms, inR s.1 q = true) (hl : ms.length ≤ 1000) {a : Int} (ha : inR s.1 a = true) : linealref01_number (clsL s) ms a = some (if cl s a ∈ ms.map (cl s) then (ixN (ms.map (cl s)) (cl s a) : Int) else -1) := by
  have h := whileO_of (number_go hv ms hms hl ha ms.length 0 (by omega) (by omega) fun j hj => by omega)
  have h' : whileO (linealref01_number_b1 (clsL s) ms a) 0 = some (if cl s a ∈ ms.map (cl s) then .inl (ixN (ms.map (cl s)) (cl s a) : Int) else .inr ()) := h
  unfold linealref01_number
  rw [h', Option.bind_some]
  split
  · rename_i x r1 heq
    split at heq
    · rename_i h; rw [if_pos h]; injection heq with e; rw [e]
    · cases heq
  · rename_i x u heq
    split at heq
    · cases heq
    · rename_i h; rw [if_neg h]; rfl

theorem cl_next {p q o : Int} (hp : inR s.1 p = true) (hq : inR s.1 q = true) (ho : inR s.2.1 o = true) (h : cl s p = cl s q) : cl s (at2 s.2.2.1 p o.toNat) = cl s (at2 s.2.2.1 q o.toNat) ∧ at2 s.2.2.2 p o.toNat = at2 s.2.2.2 q o.toNat := by
  have hs : sameB s p q = true := by rw [cls_same hv hp hq, decide_eq_true_eq]; exact h
  obtain ⟨n1, n2⟩ := same_next hv hp hq ho hs
  have n3 := cls_same hv (nx_in hv hp ho) (nx_in hv hq ho)
  rw [show sameB s (at2 (toSp s).nx p o.toNat) (at2 (toSp s).nx q o.toNat) = true from n2] at n3
  exact ⟨of_decide_eq_true n3.symm, n1⟩

theorem kw_srt {i j : Nat} {v w : List Int} (hij : i < j) (hi : ((kL s).map (·.2))[i]? = some v) (hj : ((kL s).map (·.2))[j]? = some w) : cd v < cd w := by
  rw [List.getElem?_map] at hi hj
  obtain ⟨x, hx, rfl⟩ := Option.map_eq_some_iff.1 hi
  obtain ⟨y, hy, rfl⟩ := Option.map_eq_some_iff.1 hj
  obtain ⟨a1, a2⟩ := List.getElem?_eq_some_iff.1 hx
  obtain ⟨b1, b2⟩ := List.getElem?_eq_some_iff.1 hy
  have := (List.pairwise_iff_getElem.1 (kL_ki hv).srt) i j a1 b1 hij
  rw [a2, b2] at this
  exact this

theorem kw_min {i : Nat} {w v : List Int} {q : Int} (hi : ((kL s).map (·.2))[i]? = some w) (hq : (kp s)[i]? = some q) (hc : calls s.2.1 v) (h : cl s (qAt s 0 v) = q) : cd w ≤ cd v := by
  unfold kp at hq
  rw [List.getElem?_map] at hi hq
  obtain ⟨x, hx, rfl⟩ := Option.map_eq_some_iff.1 hi
  obtain ⟨y, hy, rfl⟩ := Option.map_eq_some_iff.1 hq
  rw [hx] at hy
  have := Option.some.inj hy
  subst this
  exact (k_mem hv (List.mem_of_getElem? hx)).2.2 v hc h

/-- Each class but the first is led to from one before it. -/
theorem kp_parent {m : Nat} (h1 : 1 ≤ m) {wm : List Int} (hw : ((kL s).map (·.2))[m]? = some wm) : ∃ (i c : Nat) (q : Int) (w : List Int), i < m ∧ c < s.2.1.toNat ∧ (kp s)[i]? = some q ∧ ((kL s).map (·.2))[i]? = some w ∧ cd wm = 5 * cd w + c + 1 ∧ (kp s)[m]? = some (cl s (at2 s.2.2.1 q c)) := by
  have hm := word_kp hv hw
  have hcm : calls s.2.1 wm := by
    rw [List.getElem?_map] at hw
    obtain ⟨x, hx, rfl⟩ := Option.map_eq_some_iff.1 hw
    exact (k_mem hv (List.mem_of_getElem? hx)).1
  rcases snoc_cases wm with rfl | ⟨v, o, rfl⟩
  · have h0 := kp_zero hv
    have e : (kp s)[m]? = some (leastF s 0 : Int) := hm
    have := nodup_get (kp_nd hv) e h0
    omega
  obtain ⟨hcv, ho⟩ := calls_init hcm
  obtain ⟨y, hy, hy1⟩ := k_all hv hcv
  obtain ⟨i, hi⟩ := List.getElem?_of_mem hy
  have hki : (kp s)[i]? = some y.1 := by unfold kp; rw [List.getElem?_map, hi]; rfl
  have hwi : ((kL s).map (·.2))[i]? = some y.2 := by rw [List.getElem?_map, hi]; rfl
  obtain ⟨m1, m2, m3⟩ := k_mem hv hy
  have c1 := m3 v hcv hy1.symm
  obtain ⟨p1, p2⟩ := kp_in hv hki
  have hqv := qAt_in hv v 0 hcv (zero_ok hv).1
  have hcl : cl s y.1 = cl s (qAt s 0 v) := p2.trans hy1
  have n1 := (cl_next hv p1 hqv ho hcl).1
  have n2 : cl s (at2 s.2.2.1 y.1 o.toNat) = cl s (qAt s 0 (y.2 ++ [o])) := (kp_next hv hki ho hwi).1
  have hm' : (kp s)[m]? = some (cl s (at2 s.2.2.1 y.1 o.toNat)) := by
    rw [n1, ← qAt_snoc]; exact hm
  have c2 := kw_min hv hw hm' (v := y.2 ++ [o]) (calls_snoc m1 ho) n2.symm
  rw [cd_snoc, cd_snoc] at c2
  have ec : cd (v ++ [o]) = 5 * cd y.2 + o.toNat + 1 := by rw [cd_snoc]; omega
  have ho' := ho
  simp only [inR, decide_eq_true_eq] at ho'
  refine ⟨i, o.toNat, y.1, y.2, ?_, by omega, hki, hwi, ec, hm'⟩
  rcases Nat.lt_trichotomy i m with h | h | h
  · exact h
  · subst h
    rw [hw] at hwi
    have := Option.some.inj hwi
    rw [this] at ec
    omega
  · have := kw_srt hv h hw hwi
    omega

theorem mem_take {l : List Int} {i m : Nat} {x : Int} (h : l[i]? = some x) (hi : i < m) : x ∈ l.take m := by
  refine List.mem_of_getElem? (i := i) ?_
  rw [List.getElem?_take, if_pos hi]; exact h

theorem not_take {l : List Int} (hd : l.Nodup) {m : Nat} {x : Int} (h : l[m]? = some x) : x ∉ l.take m := fun hx => by
  obtain ⟨j, hj⟩ := List.getElem?_of_mem hx
  have hl := lt_of_get hj
  rw [List.length_take] at hl
  rw [List.getElem?_take, if_pos (by omega)] at hj
  have := nodup_get hd h hj
  omega

/-- The next class that is found is the next one of the list. -/
theorem kp_order {i op m : Nat} {q : Int} (hi : (kp s)[i]? = some q) (ho : op < s.2.1.toNat) (him : i < m)
    (inv : ∀ i' c, i' < m → (i' < i ∨ i' = i ∧ c < op) → c < s.2.1.toNat → ∀ q', (kp s)[i']? = some q' → cl s (at2 s.2.2.1 q' c) ∈ (kp s).take m) :
    cl s (at2 s.2.2.1 q op) ∈ (kp s).take m ∨ (kp s)[m]? = some (cl s (at2 s.2.2.1 q op)) := by
  have h4 : s.2.1 ≤ 4 := (Sp.okE hv).2.2.2.1
  have hor : inR s.2.1 (op : Int) = true := by simp only [inR, decide_eq_true_eq]; omega
  obtain ⟨wi, w1, w2, w3⟩ := kp_word hv hi
  obtain ⟨n1, n2⟩ := kp_next hv hi hor w1
  rw [Int.toNat_natCast] at n1 n2
  obtain ⟨jx, hjx⟩ := List.getElem?_of_mem n2
  rcases Nat.lt_trichotomy jx m with h | h | h
  · exact .inl (mem_take hv hjx h)
  · subst h; exact .inr hjx
  · obtain ⟨qm, hqm⟩ := get_of_lt (xs := kp s) (k := m) (by have := lt_of_get hjx; omega)
    obtain ⟨wm, hwm, _, _⟩ := kp_word hv hqm
    obtain ⟨wj, hwj, _, _⟩ := kp_word hv hjx
    obtain ⟨i', c, q', w', g1, g2, g3, g4, g5, g6⟩ := kp_parent hv (by omega) hwm
    have d1 := kw_srt hv h hwm hwj
    have d2 := kw_min hv hwj hjx (v := wi ++ [(op : Int)]) (calls_snoc w2 hor) n1.symm
    rw [cd_snoc, Int.toNat_natCast] at d2
    have hlt : i' < i ∨ i' = i ∧ c < op := by
      rcases Nat.lt_trichotomy i' i with h | h | h
      · exact .inl h
      · subst h
        rw [w1] at g4
        have := Option.some.inj g4
        subst this
        exact .inr ⟨rfl, by omega⟩
      · have := kw_srt hv h w1 g4
        omega
    exact absurd (inv i' c g1 hlt g2 q' g3) (not_take hv (kp_nd hv) g6)

/-- The members so far: what is found behind the calls that are done. -/
structure Mi (s : Tup) (i op : Nat) (ms : List Int) : Prop where
  r : ∀ q ∈ ms, inR s.1 q = true
  le : ms.length ≤ (kp s).length
  mp : ms.map (cl s) = (kp s).take ms.length
  inv : ∀ i' c, i' < ms.length → (i' < i ∨ i' = i ∧ c < op) → c < s.2.1.toNat → ∀ q', (kp s)[i']? = some q' → cl s (at2 s.2.2.1 q' c) ∈ (kp s).take ms.length

theorem Mi_at {i op : Nat} {ms : List Int} (h : Mi s i op ms) {k : Nat} {p : Int} (hk : ms[k]? = some p) : inR s.1 p = true ∧ (kp s)[k]? = some (cl s p) := by
  refine ⟨h.r p (List.mem_of_getElem? hk), ?_⟩
  have h1 : (ms.map (cl s))[k]? = some (cl s p) := by rw [List.getElem?_map, hk]; rfl
  rw [h.mp, List.getElem?_take, if_pos (lt_of_get hk)] at h1
  exact h1

theorem cl_cl {p : Int} (hp : inR s.1 p = true) : inR s.1 (cl s p) = true ∧ cl s (cl s p) = cl s p := ⟨(leastF_in hv hp).1, leastF_idem hv hp⟩

theorem kp8 : (kp s).length ≤ 8 := by
  have h1 := (kp_len hv).1
  have h2 : s.1 ≤ 8 := (Sp.okE hv).2.1
  omega

theorem least_b2 {i : Nat} (M0 : List Int) {op : Nat} {ms : List Int} (hi : i < ms.length) (ho : op < s.2.1.toNat) (h : Mi s i op ms) :
    ∃ ms', linealref01_Least_b2 s (clsL s) (M0, (i : Int)) (ms, (op : Int)) = some (.next (ms', (op : Int) + 1)) ∧ i < ms'.length ∧ Mi s i (op + 1) ms' := by
  have hm := Sp.okE hv
  have h2 : s.1 ≤ 8 := hm.2.1
  have h4 : s.2.1 ≤ 4 := hm.2.2.2.1
  have h8 := kp8 hv
  have hle := h.le
  obtain ⟨p, hp⟩ := get_of_lt hi
  obtain ⟨p1, p2⟩ := Mi_at hv h hp
  obtain ⟨c1, c2⟩ := cl_cl hv p1
  have hor : inR s.2.1 (op : Int) = true := by simp only [inR, decide_eq_true_eq]; omega
  have hcn := (cl_next hv c1 p1 hor c2).1
  rw [Int.toNat_natCast] at hcn
  have hord := kp_order hv p2 ho hi h.inv
  rw [hcn] at hord
  have hp' := p1
  simp only [inR, decide_eq_true_eq] at hp'
  obtain ⟨r1, q1, y1, z1, w1⟩ := tab_at hm.2.2.2.2.1 (q := p) (o := op) p1 (by show (op : Int) < s.2.1; omega)
  have e1 : s.2.2.1.getD p.toNat [] = r1 := getD_of q1
  have f1 : r1.getD op 0 = at2 s.2.2.1 p op := getD_of y1
  have l1 : p.toNat < s.2.2.1.length := lt_of_get q1
  have w1' : (r1.length : Int) = s.2.1 := w1
  have z1' : inR s.1 (at2 s.2.2.1 p op) = true := z1
  have ki : InK .i64 ((op : Int) + 1) := by rw [inK_i64]; omega
  have hnum := number_eq hv ms h.r (by omega) z1'
  rw [h.mp] at hnum
  unfold linealref01_Least_b2
  simp only [Int.toNat_natCast, getD_of hp, e1, f1]
  rw [if_pos (by rw [decide_eq_true_eq]; omega), ck_pos (by omega), ck_pos (by omega), ck_pos (by omega), ck_pos (by omega), ck_pos (by omega), ck_pos (by omega), hnum, Option.bind_some]
  by_cases hin : cl s (at2 s.2.2.1 p op) ∈ (kp s).take ms.length
  · rw [if_pos hin, if_neg (by rw [decide_eq_true_eq]; omega), ck_pos ki]
    refine ⟨ms, rfl, hi, h.r, h.le, h.mp, fun i' c g1 g2 g3 q' g4 => ?_⟩
    rcases g2 with g2 | ⟨g2, g5⟩
    · exact h.inv i' c g1 (.inl g2) g3 q' g4
    · rcases Nat.lt_succ_iff_lt_or_eq.1 g5 with g5 | g5
      · exact h.inv i' c g1 (.inr ⟨g2, g5⟩) g3 q' g4
      · subst g2 g5
        rw [p2] at g4
        have := Option.some.inj g4
        subst this
        rw [hcn]; exact hin
  · have hnx : (kp s)[ms.length]? = some (cl s (at2 s.2.2.1 p op)) := by
      rcases hord with h | h
      · exact absurd h hin
      · exact h
    have hlt := lt_of_get hnx
    have htk : (kp s).take (ms.length + 1) = (kp s).take ms.length ++ [cl s (at2 s.2.2.1 p op)] := by
      rw [List.take_add_one, hnx]; rfl
    have hl1 : (ms ++ [at2 s.2.2.1 p op]).length = ms.length + 1 := by simp
    rw [if_neg hin, if_pos (by simp), ck_pos (by omega), ck_pos ki]
    refine ⟨ms ++ [at2 s.2.2.1 p op], rfl, by rw [hl1]; omega, fun q hq => ?_, by rw [hl1]; omega, ?_, fun i' c g1 g2 g3 q' g4 => ?_⟩
    · rcases List.mem_append.1 hq with hq | hq
      · exact h.r q hq
      · simp at hq; subst hq; exact z1'
    · rw [hl1, List.map_append, h.mp, htk]; rfl
    · rw [hl1] at g1 ⊢
      rw [htk]
      rcases g2 with g2 | ⟨g2, g5⟩
      · exact List.mem_append_left _ (h.inv i' c (by omega) (.inl g2) g3 q' g4)
      · rcases Nat.lt_succ_iff_lt_or_eq.1 g5 with g5 | g5
        · exact List.mem_append_left _ (h.inv i' c (by omega) (.inr ⟨g2, g5⟩) g3 q' g4)
        · subst g2 g5
          rw [p2] at g4
          have := Option.some.inj g4
          subst this
          rw [hcn]; exact List.mem_append_right _ (by simp)

theorem least_b1 : ∀ (d i : Nat) (ms : List Int), (kp s).length - i = d → i ≤ ms.length → 1 ≤ ms.length → Mi s i 0 ms → ∃ ms', whileN (linealref01_Least_b1 s (clsL s)) (d + 1) (ms, (i : Int)) = some ms' ∧ (∀ q ∈ ms', inR s.1 q = true) ∧ ms'.map (cl s) = kp s := by
  have h8 := kp8 hv
  intro d
  induction d with
  | zero =>
    intro i ms hd hi h1 h
    have hle := h.le
    have e : i = ms.length := by omega
    refine ⟨ms, ?_, h.r, ?_⟩
    · unfold whileN linealref01_Least_b1
      rw [if_neg (by rw [decide_eq_true_eq]; simp only; omega)]
    · rw [h.mp, List.take_of_length_le (by omega)]
  | succ d ih =>
    intro i ms hd hi h1 h
    have hle := h.le
    rcases Nat.lt_or_ge i ms.length with hlt | hge
    · obtain ⟨ms', e1, g1, g2⟩ := loop_ex (body := linealref01_Least_b2 s (clsL s) (ms, (i : Int))) (fun (y : List Int) (k : Int) => (y, k)) (fun y => y) s.2.1.toNat (fun k y => i < y.length ∧ Mi s i k y)
        (fun k y hk hy => by
          obtain ⟨ms', a1, a2, a3⟩ := least_b2 hv ms hy.1 hk hy.2
          exact ⟨ms', a1, a2, a3⟩) (fun y _ => by
          unfold linealref01_Least_b2
          rw [if_neg (by rw [decide_eq_true_eq]; simp only; omega)]) s.2.1.toNat 0 ms (by omega) (by omega) ⟨hlt, h⟩
      have g3 : Mi s (i + 1) 0 ms' := ⟨g2.r, g2.le, g2.mp, fun i' c a1 a2 a3 q' a4 => g2.inv i' c a1 (by
        rcases a2 with a2 | ⟨_, a2⟩
        · rcases Nat.lt_succ_iff_lt_or_eq.1 a2 with a2 | a2
          · exact .inl a2
          · exact .inr ⟨a2, a3⟩
        · omega) a3 q' a4⟩
      obtain ⟨ms2, r1, r2⟩ := ih (i + 1) ms' (by omega) (by omega) (by omega) g3
      refine ⟨ms2, ?_, r2⟩
      have e1' : whileO (linealref01_Least_b2 s (clsL s) (ms, (i : Int))) (ms, 0) = some ms' := e1
      have step : linealref01_Least_b1 s (clsL s) (ms, (i : Int)) = some (.next (ms', ((i + 1 : Nat) : Int))) := by
        unfold linealref01_Least_b1
        simp only
        rw [if_pos (by rw [decide_eq_true_eq]; omega), e1', Option.bind_some]
        unfold linealref01_Least_k2
        rw [ck_pos (by rw [inK_i64]; simp only; omega)]
        rfl
      unfold whileN
      rw [step]
      exact r1
    · have e : i = ms.length := by omega
      refine ⟨ms, ?_, h.r, ?_⟩
      · unfold whileN linealref01_Least_b1
        rw [if_neg (by rw [decide_eq_true_eq]; simp only; omega)]
      · rw [h.mp]
        refine List.take_of_length_le ?_
        refine Nat.le_of_not_lt fun hlt => ?_
        obtain ⟨qm, hqm⟩ := get_of_lt (xs := kp s) (k := ms.length) hlt
        obtain ⟨wm, hwm, _, _⟩ := kp_word hv hqm
        obtain ⟨i', c, q', w', a1, a2, a3, a4, a5, a6⟩ := kp_parent hv h1 hwm
        exact not_take hv (kp_nd hv) a6 (h.inv i' c a1 (.inl (by omega)) a2 q' a3)

theorem row_next {p q : Int} (hp : inR s.1 p = true) (hq : inR s.1 q = true) (h : cl s p = cl s q) :
    (List.range s.2.1.toNat).map (fun o => (ixN (kp s) (cl s (at2 s.2.2.1 p o)) : Int)) = ((s.2.2.1.getD q.toNat []).map fun to => (ixN (kp s) (leastF s to.toNat) : Int)) ∧ s.2.2.2.getD p.toNat [] = s.2.2.2.getD q.toNat [] := by
  have hm := Sp.okE hv
  have h3 : 1 ≤ s.2.1 := hm.2.2.1
  have rows : ∀ x : Int, inR s.1 x = true → ((s.2.2.1.getD x.toNat []).length : Int) = s.2.1 ∧ ((s.2.2.2.getD x.toNat []).length : Int) = s.2.1 := fun x hx => by
    obtain ⟨r1, q1, y1, _, w1⟩ := tab_at hm.2.2.2.2.1 (q := x) (o := 0) hx (by show ((0 : Nat) : Int) < s.2.1; omega)
    obtain ⟨r2, q2, y2, _, w2⟩ := tab_at hm.2.2.2.2.2 (q := x) (o := 0) hx (by show ((0 : Nat) : Int) < s.2.1; omega)
    have e1 : s.2.2.1.getD x.toNat [] = r1 := getD_of q1
    have e2 : s.2.2.2.getD x.toNat [] = r2 := getD_of q2
    rw [e1, e2]; exact ⟨w1, w2⟩
  obtain ⟨p1, p2⟩ := rows p hp
  obtain ⟨q1, q2⟩ := rows q hq
  have nxt1 : ∀ o : Nat, o < s.2.1.toNat → (s.2.2.1.getD q.toNat [])[o]? = some (at2 s.2.2.1 q o) := fun o ho => by
    obtain ⟨r1, x1, y1, _, w1⟩ := tab_at hm.2.2.2.2.1 (q := q) (o := o) hq (by show (o : Int) < s.2.1; omega)
    have e1 : s.2.2.1.getD q.toNat [] = r1 := getD_of x1
    rw [e1]; exact y1
  have say1 : ∀ x : Int, inR s.1 x = true → ∀ o : Nat, o < s.2.1.toNat → (s.2.2.2.getD x.toNat [])[o]? = some (at2 s.2.2.2 x o) := fun x hx o ho => by
    obtain ⟨r1, x1, y1, _, w1⟩ := tab_at hm.2.2.2.2.2 (q := x) (o := o) hx (by show (o : Int) < s.2.1; omega)
    have e1 : s.2.2.2.getD x.toNat [] = r1 := getD_of x1
    rw [e1]; exact y1
  have cn : ∀ o : Nat, o < s.2.1.toNat → cl s (at2 s.2.2.1 p o) = cl s (at2 s.2.2.1 q o) ∧ at2 s.2.2.2 p o = at2 s.2.2.2 q o := fun o ho => by
    have := cl_next hv hp hq (o := (o : Int)) (by simp only [inR, decide_eq_true_eq]; omega) h
    rw [Int.toNat_natCast] at this
    exact this
  refine ⟨List.ext_getElem? fun o => ?_, List.ext_getElem? fun o => ?_⟩
  · rcases Nat.lt_or_ge o s.2.1.toNat with ho | ho
    · rw [List.getElem?_map, List.getElem?_map, nxt1 o ho, List.getElem?_range ho, Option.map_some, Option.map_some, (cn o ho).1]
      rfl
    · rw [List.getElem?_eq_none (by simpa using ho), List.getElem?_eq_none (by rw [List.length_map]; omega)]
  · rcases Nat.lt_or_ge o s.2.1.toNat with ho | ho
    · rw [say1 p hp o ho, say1 q hq o ho, (cn o ho).2]
    · rw [List.getElem?_eq_none (by omega), List.getElem?_eq_none (by omega)]

theorem refLeast_eq (hs : okS s) : linealref01_Least s = some ((leastT s).1, (leastT s).2.1, (leastT s).2.2.1, (leastT s).2.2.2, 0) := by
  have hm := Sp.okE hv
  have g1 : 1 ≤ s.1 := hm.1
  have g2 : s.1 ≤ 8 := hm.2.1
  have g4 : s.2.1 ≤ 4 := hm.2.2.2.1
  have h8 := kp8 hv
  have z := (zero_ok hv).1
  have hk0 := kp_zero hv
  have start : Mi s 0 0 [0] := by
    have hlt := lt_of_get hk0
    refine ⟨fun q hq => by simp at hq; subst hq; exact z, by simp; omega, ?_, fun i' c a1 a2 => by omega⟩
    show [cl s 0] = (kp s).take 1
    rw [List.take_add_one, hk0]; rfl
  obtain ⟨ms, e1, e2, e3⟩ := least_b1 hv (kp s).length 0 [0] (by omega) (by simp) (by simp) start
  have e1' : whileO (linealref01_Least_b1 s (clsL s)) ([0], 0) = some ms := whileO_of e1
  have hlen : ms.length = (kp s).length := by rw [← e3, List.length_map]
  have msat : ∀ (k : Nat) (p : Int), ms[k]? = some p → inR s.1 p = true ∧ (kp s)[k]? = some (cl s p) := fun k p hk => ⟨e2 p (List.mem_of_getElem? hk), by rw [← e3, List.getElem?_map, hk]; rfl⟩
  have b4 : ∀ (k : Nat) (p : Int) (A B : List (List Int)), ms[k]? = some p → whileO (linealref01_Least_b4 s (clsL s) ms (A, B, (k : Int))) ([], 0) = some ((List.range s.2.1.toNat).map fun o => (ixN (kp s) (cl s (at2 s.2.2.1 p o)) : Int)) := by
    intro k p A B hk
    obtain ⟨p1, p2⟩ := msat k p hk
    have hp' := p1
    simp only [inR, decide_eq_true_eq] at hp'
    refine whileO_app (n := s.2.1.toNat) (f := fun o => (ixN (kp s) (cl s (at2 s.2.2.1 p o)) : Int)) (fun o ho => ?_) ?_
    · have hlo : ((List.range o).map fun o => (ixN (kp s) (cl s (at2 s.2.2.1 p o)) : Int)).length = o := by simp
      generalize ((List.range o).map fun o => (ixN (kp s) (cl s (at2 s.2.2.1 p o)) : Int)) = out at hlo ⊢
      obtain ⟨r1, q1, y1, z1, w1⟩ := tab_at hm.2.2.2.2.1 (q := p) (o := o) p1 (by show (o : Int) < s.2.1; omega)
      have f0 : s.2.2.1.getD p.toNat [] = r1 := getD_of q1
      have f1 : r1.getD o 0 = at2 s.2.2.1 p o := getD_of y1
      have l1 : p.toNat < s.2.2.1.length := lt_of_get q1
      have w1' : (r1.length : Int) = s.2.1 := w1
      have z1' : inR s.1 (at2 s.2.2.1 p o) = true := z1
      have hnum := number_eq hv ms e2 (by omega) z1'
      rw [e3] at hnum
      have hor : inR s.2.1 (o : Int) = true := by simp only [inR, decide_eq_true_eq]; omega
      obtain ⟨c1, c2⟩ := cl_cl hv p1
      obtain ⟨w, hw, _, _⟩ := kp_word hv p2
      have hmem : cl s (at2 s.2.2.1 p o) ∈ kp s := by
        have n2 := (kp_next hv p2 hor hw).2
        rw [Int.toNat_natCast] at n2
        have hcn := (cl_next hv c1 p1 hor c2).1
        rw [Int.toNat_natCast] at hcn
        rw [← hcn]; exact n2
      rw [if_pos hmem] at hnum
      unfold linealref01_Least_b4
      simp only [Int.toNat_natCast, getD_of hk, f0, f1]
      rw [if_pos (by rw [decide_eq_true_eq]; omega), ck_pos (by omega), ck_pos (by omega), ck_pos (by omega), ck_pos (by omega), hnum, Option.bind_some, ck_pos (by omega), ck_pos (by rw [inK_i64]; omega)]
    · unfold linealref01_Least_b4
      simp only
      rw [if_neg (by rw [decide_eq_true_eq]; omega)]
  have b3 : whileO (linealref01_Least_b3 s (clsL s) ms) ([], [], 0) = some ((List.range ms.length).map (fun k => (List.range s.2.1.toNat).map fun o => (ixN (kp s) (cl s (at2 s.2.2.1 (ms.getD k 0) o)) : Int)), (List.range ms.length).map fun k => s.2.2.2.getD (ms.getD k 0).toNat []) := by
    refine whileO_app2 (n := ms.length) (f := fun k => (List.range s.2.1.toNat).map fun o => (ixN (kp s) (cl s (at2 s.2.2.1 (ms.getD k 0) o)) : Int)) (g := fun k => s.2.2.2.getD (ms.getD k 0).toNat []) (fun k hk => ?_) ?_
    · have hA : ((List.range k).map fun k => (List.range s.2.1.toNat).map fun o => (ixN (kp s) (cl s (at2 s.2.2.1 (ms.getD k 0) o)) : Int)).length = k := by simp
      have hB : ((List.range k).map fun k => s.2.2.2.getD (ms.getD k 0).toNat []).length = k := by simp
      generalize ((List.range k).map fun k => (List.range s.2.1.toNat).map fun o => (ixN (kp s) (cl s (at2 s.2.2.1 (ms.getD k 0) o)) : Int)) = A at hA ⊢
      generalize ((List.range k).map fun k => s.2.2.2.getD (ms.getD k 0).toNat []) = B at hB ⊢
      obtain ⟨p, hp⟩ := get_of_lt hk
      obtain ⟨p1, p2⟩ := msat k p hp
      have hp' := p1
      simp only [inR, decide_eq_true_eq] at hp'
      have h3 : 1 ≤ s.2.1 := hm.2.2.1
      obtain ⟨r2, q2, y2, _, w2⟩ := tab_at hm.2.2.2.2.2 (q := p) (o := 0) p1 (by show ((0 : Nat) : Int) < s.2.1; omega)
      have f2 : s.2.2.2.getD p.toNat [] = r2 := getD_of q2
      have l2 : p.toNat < s.2.2.2.length := lt_of_get q2
      have w2' : (r2.length : Int) = s.2.1 := w2
      rw [getD_of hp]
      unfold linealref01_Least_b3
      simp only
      rw [if_pos (by rw [decide_eq_true_eq]; omega), ck_pos (by omega), ck_pos (by omega), b4 k p A B hp, Option.bind_some]
      unfold linealref01_Least_k5
      simp only [Int.toNat_natCast, getD_of hp, f2]
      rw [ck_pos (by omega), ck_pos (by omega), ck_pos (by omega), ck_pos (by omega), ck_pos (by omega)]
      unfold linealref01_Least_k4
      simp only [Int.toNat_natCast, getD_of hp, f2]
      rw [ck_pos (by rw [inK_i64]; omega)]
    · unfold linealref01_Least_b3
      simp only
      rw [if_neg (by rw [decide_eq_true_eq]; omega)]
  unfold linealref01_Least
  rw [refValid_eq s hs, hv, Option.bind_some, if_neg (by simp), ref_classes_eq hv, Option.bind_some, e1', Option.bind_some]
  unfold linealref01_Least_k1
  rw [b3, Option.bind_some]
  unfold linealref01_Least_k3
  have hrow : ∀ k, k < ms.length → ∃ p, ms[k]? = some p ∧ ms.getD k 0 = p ∧ inR s.1 p = true ∧ (kp s)[k]? = some (cl s p) := fun k hk => by
    obtain ⟨p, hp⟩ := get_of_lt hk
    exact ⟨p, hp, getD_of hp, (msat k p hp).1, (msat k p hp).2⟩
  have eN : (List.range ms.length).map (fun k => (List.range s.2.1.toNat).map fun o => (ixN (kp s) (cl s (at2 s.2.2.1 (ms.getD k 0) o)) : Int)) = lNx s := by
    refine List.ext_getElem? fun k => ?_
    unfold lNx
    rcases Nat.lt_or_ge k ms.length with hk | hk
    · obtain ⟨p, h1, h2, h3, h5⟩ := hrow k hk
      obtain ⟨c1, c2⟩ := cl_cl hv h3
      rw [List.getElem?_map, List.getElem?_map, h5, List.getElem?_range hk, Option.map_some, Option.map_some, h2, (row_next hv h3 c1 c2.symm).1]
    · rw [List.getElem?_eq_none (by simpa using hk), List.getElem?_eq_none (by rw [List.length_map]; omega)]
  have eS : (List.range ms.length).map (fun k => s.2.2.2.getD (ms.getD k 0).toNat []) = lSy s := by
    refine List.ext_getElem? fun k => ?_
    unfold lSy
    rcases Nat.lt_or_ge k ms.length with hk | hk
    · obtain ⟨p, h1, h2, h3, h5⟩ := hrow k hk
      obtain ⟨c1, c2⟩ := cl_cl hv h3
      rw [List.getElem?_map, List.getElem?_map, h5, List.getElem?_range hk, Option.map_some, Option.map_some, h2, (row_next hv h3 c1 c2.symm).2]
    · rw [List.getElem?_eq_none (by simpa using hk), List.getElem?_eq_none (by rw [List.length_map]; omega)]
  rw [eN, eS, hlen]
  unfold leastT
  rfl

end

attribute [local irreducible] leastT

theorem wayOf_len {s : Tup} (hv : (toSp s).ok = true) (to : Int) : (wayOf s to).1.length ≤ maxLen := by
  rw [maxLen_num]
  unfold wayOf
  cases hf : (waysL s).find? (fun x => decide (x.1 = to)) with
  | none => simp
  | some x =>
    have h2 := List.mem_of_find?_eq_some hf
    have h3 := (way_runs hv h2).2.2
    have h4 : s.1 ≤ 8 := (Sp.okE hv).2.1
    simp only; omega

/-- The law holds. -/
theorem SpecWays_eq (s : Tup) (hs : okS s) (to : Int) : lineallaw01_SpecWays s to = some true := by
  unfold lineallaw01_SpecWays
  rw [Long_eq s hs, Awake_eq, Option.bind_some]
  cases wideB s.2.2.1 || wideB s.2.2.2
  rotate_left
  · simp
  simp only [Bool.false_eq_true, if_false]
  rw [Way_eq s hs, ref_Way_eq s hs]
  have key : ∃ R L, spec_Reached s = some R ∧ linealref01_Reached s = some R ∧ R.1.length ≤ maxLen ∧ spec_Least s = some L ∧ linealref01_Least s = some L ∧ okS (L.1, L.2.1, L.2.2.1, L.2.2.2.1) := by
    cases hv : (toSp s).ok
    · refine ⟨([], 10), (0, 0, [], [], 10), ?_, ?_, by simp, ?_, ?_, ⟨⟨by simp, fun r h => by simp at h⟩, ⟨by simp, fun r h => by simp at h⟩⟩⟩
      · unfold spec_Reached; rw [checked_eq s hs [] (by rw [maxLen_num]; simp), hv]; rfl
      · unfold linealref01_Reached; rw [refValid_eq s hs, hv]; rfl
      · unfold spec_Least; rw [checked_eq s hs [] (by rw [maxLen_num]; simp), hv]; rfl
      · unfold linealref01_Least; rw [refValid_eq s hs, hv]; rfl
    obtain ⟨ys, y1, y2, y3, _, _⟩ := reached_both hv
    refine ⟨(ys, 0), _, ?_, ?_, by rw [maxLen_num]; simp only; omega, Least_eq hv, refLeast_eq hv hs, ok_small (s := leastT s) (leastT_ok hv)⟩
    · unfold spec_Reached
      rw [checked_eq s hs [] (by rw [maxLen_num]; simp), Option.bind_some]
      simp only [hv, if_true, List.all_nil, decide_true, Bool.not_true, Bool.false_eq_true, if_false]
      rw [show ((s.1, s.2.1, s.2.2.1, s.2.2.2) : Tup) = s from rfl, y1]
      rfl
    · unfold linealref01_Reached
      rw [refValid_eq s hs, hv, Option.bind_some, if_neg (by simp), y2]
      rfl
  obtain ⟨R, L, r1, r2, r3, l1, l2, l3⟩ := key
  have hw : (if (toSp s).ok = true then (if inR s.1 to = true then wayOf s to else ([], (2 : Int))) else ([], 10)).1.length ≤ maxLen := by
    split
    · rename_i hv
      split
      · exact wayOf_len hv to
      · rw [maxLen_num]; simp
    · rw [maxLen_num]; simp
  generalize (if (toSp s).ok = true then (if inR s.1 to = true then wayOf s to else ([], (2 : Int))) else ([], 10)) = W at *
  rw [r1, r2, l1, l2]
  simp only [Option.bind_some]
  rw [SameInts_eq _ _ r3, SameInts_eq _ _ hw, Equal_eq _ _ l3]
  simp
end Go.Proofs.Ytcgflignbhmoaaa
