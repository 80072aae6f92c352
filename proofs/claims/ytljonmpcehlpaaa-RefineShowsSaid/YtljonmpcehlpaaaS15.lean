/-
  Layer 5, pure: the reference finds the least trace that tells, too.
-/
import Derived.Test.YtljonmpcehlpaaaS11
import Derived.Test.YtljonmpcehlpaaaS12
import Derived.Test.YtljonmpcehlpaaaS14
namespace Go.Proofs.Ytljonmpcehlpaaa
open Go.RowKit

set_option linter.unusedVariables false
set_option linter.unusedSectionVars false
set_option linter.unusedSimpArgs false

theorem boolAt_setBool : ∀ {t : Ty} (x : El t) {j q : Nat} (v : Bool), allBool t = true → j < t.size → q < t.size → boolAt t (setBool t x j v) q = if q = j then v else boolAt t x q
  | .bool, x, j, q, v, _, hj, hq => by
    simp only [Ty.size] at hj hq
    have e : q = j := by omega
    simp [boolAt, setBool, e]
  | .int _, x, j, q, v, h, _, _ => by simp [allBool] at h
  | .unit, x, j, q, v, _, hj, _ => by simp [Ty.size] at hj
  | .sl t, x, j, q, v, h, _, _ => by simp [allBool] at h
  | .pair a b, x, j, q, v, h, hj, hq => by
    simp only [allBool, Bool.and_eq_true] at h
    simp only [Ty.size] at hj hq
    by_cases h1 : j < a.size
    · by_cases h2 : q < a.size
      · have := boolAt_setBool x.1 v h.1 h1 h2
        simp only [boolAt, setBool, h1, h2, if_true, this]
      · have hne : ¬ q = j := by omega
        simp only [boolAt, setBool, h1, h2, if_true, if_false, hne]
    · by_cases h2 : q < a.size
      · have hne : ¬ q = j := by omega
        simp only [boolAt, setBool, h1, h2, if_true, if_false, hne]
      · have := boolAt_setBool x.2 (j := j - a.size) (q := q - a.size) v h.2 (by omega) (by omega)
        simp only [boolAt, setBool, h1, h2, if_false, this]
        by_cases h3 : q = j
        · rw [if_pos (by omega), if_pos h3]
        · rw [if_neg (by omega), if_neg h3]

theorem boolAt_dflt : ∀ (t : Ty) (q : Nat), boolAt t t.dflt q = false
  | .bool, q => rfl
  | .int _, q => rfl
  | .unit, q => rfl
  | .sl _, q => rfl
  | .pair a b, q => by
    show (if q < a.size then boolAt a a.dflt q else boolAt b b.dflt (q - a.size)) = false
    rw [boolAt_dflt a, boolAt_dflt b]
    simp

theorem at_setB (T : El T108) {j q : Nat} (v : Bool) (hj : j < 4096) (hq : q < 4096) : boolAt T108 (setBool T108 T j v) q = if q = j then v else boolAt T108 T q :=
  boolAt_setBool T v rfl (by rw [T108_size]; exact hj) (by rw [T108_size]; exact hq)

structure RI (c a : Sys) (i : Nat) (l : Int) (b : List (List Int)) (T : El T108) : Prop where
  B : BC c a i l b
  idx : ∀ (j : Nat) (w : List Int), b[j]? = some w → w.length ≤ j
  nd : (b.tail.map (kOf c a)).Nodup
  tab : ∀ x y : Nat, x < 64 → y < 64 → (boolAt T108 T (x * 64 + y) = true ↔ (((x : Nat) : Int), ((y : Nat) : Int)) ∈ b.tail.map (kOf c a))

section
variable {c a : Sys} (hc : OkS c) (ha : OkS a)
include hc ha

theorem ri_few {i : Nat} {l : Int} {b : List (List Int)} {T : El T108} (R : RI c a i l b T) : b.length ≤ 4097 := by
  have hnd : (b.tail.map fun w => behM c w * 64 + behM a w).Nodup := by
    have h := R.nd
    unfold List.Nodup at h ⊢
    rw [List.pairwise_map] at h ⊢
    refine h.imp fun {v w} hne e => hne ?_
    have b1 := lt64 ha (behM_lt ha v)
    have b2 := lt64 ha (behM_lt ha w)
    have e1 : behM c v = behM c w := by omega
    have e2 : behM a v = behM a w := by omega
    unfold kOf
    rw [e1, e2]
  have := nodup_lt 4096 _ hnd (fun x hx => by
    obtain ⟨w, _, rfl⟩ := List.mem_map.1 hx
    have b1 := lt64 ha (behM_lt ha w)
    have b2 := lt64 hc (behM_lt hc w)
    omega)
  rw [List.length_map, List.length_tail] at this
  omega

theorem ri_push {i : Nat} {l : Int} {b : List (List Int)} {T : El T108} (R : RI c a i l b T) {w : List Int} (hw : b[i]? = some w) (hl : 0 < l ∧ l ≤ 3) (h1 : behM c (w ++ [l]) ≠ 0) (h2 : behM a (w ++ [l]) ≠ 0) (hn : kOf c a (w ++ [l]) ∉ b.tail.map (kOf c a)) :
    RI c a i (l + 1) (b ++ [w ++ [l]]) (setBool T108 T (behM c (w ++ [l]) * 64 + behM a (w ++ [l])) true) := by
  have hi := (List.getElem?_eq_some_iff.1 hw).1
  have b1 := lt64 hc (behM_lt hc (w ++ [l]))
  have b2 := lt64 ha (behM_lt ha (w ++ [l]))
  have ht : (b ++ [w ++ [l]]).tail = b.tail ++ [w ++ [l]] := by
    cases b with
    | nil => simp at hi
    | cons x r => rfl
  refine ⟨bc_push hc ha R.B hw hl h1 h2, fun j v hj => ?_, ?_, fun x y hx hy => ?_⟩
  · rw [List.getElem?_append] at hj
    by_cases h : j < b.length
    · rw [if_pos h] at hj; exact R.idx j v hj
    · rw [if_neg h] at hj
      have h0 := (List.getElem?_eq_some_iff.1 hj).1
      rw [List.length_singleton] at h0
      have e : j = b.length := by omega
      subst e
      rw [Nat.sub_self] at hj
      have : w ++ [l] = v := Option.some.inj hj
      rw [← this, List.length_append, List.length_singleton]
      have := R.idx i w hw
      omega
  · rw [ht, List.map_append, List.nodup_append]
    refine ⟨R.nd, by simp, fun x hx y hy e => ?_⟩
    simp only [List.map_cons, List.map_nil, List.mem_singleton] at hy
    subst e hy
    exact hn hx
  · rw [at_setB T true (by omega) (by omega), ht, List.map_append, List.mem_append]
    by_cases h : x * 64 + y = behM c (w ++ [l]) * 64 + behM a (w ++ [l])
    · rw [if_pos h]
      have e1 : x = behM c (w ++ [l]) := by omega
      have e2 : y = behM a (w ++ [l]) := by omega
      subst e1 e2
      simp [kOf]
    · rw [if_neg h, R.tab x y hx hy]
      constructor
      · exact .inl
      · rintro (g | g)
        · exact g
        · simp only [List.map_cons, List.map_nil, List.mem_singleton] at g
          obtain ⟨e1, e2⟩ := Prod.mk.inj g
          exact absurd (by have e1 : x = behM c (w ++ [l]) := by omega
                           have e2 : y = behM a (w ++ [l]) := by omega
                           rw [e1, e2]) h

theorem ri_keep {i : Nat} {l : Int} {b : List (List Int)} {T : El T108} (R : RI c a i l b T) (l0 : 0 < l) {w : List Int} (hw : b[i]? = some w) (h : behM c (w ++ [l]) = 0 ∨ kOf c a (w ++ [l]) ∈ b.tail.map (kOf c a)) : RI c a i (l + 1) b T :=
  ⟨bc_keep hc ha R.B l0 hw (h.imp id fun h => by
    obtain ⟨u, hu, e⟩ := List.mem_map.1 h
    exact List.mem_map.2 ⟨u, List.mem_of_mem_tail hu, e⟩), R.idx, R.nd, R.tab⟩

theorem refshows_in {i i1 : Nat} {b0 : List (List Int)} {T0 : El T108} (R0 : RI c a i 1 b0 T0) {st1 : El T108 × List (List Int)} {st2 : El T108 × List (List Int) × Int} {w : List Int} (hw : b0[i]? = some w) (hst : st1.2.getD st2.2.2.toNat [] = w) (hi : i < i1) (h1 : i1 ≤ b0.length) :
    ∃ r, whileO (linealref05_Shows_b3 c a st1 st2) (T0, b0.drop i1, 1) = some r ∧ (match r with
      | .inl u => Least c a u
      | .inr x => ∃ b T, x = (T, b.drop i1) ∧ RI c a i 4 b T ∧ b.take i1 = b0.take i1 ∧ i1 ≤ b.length) := by
  refine whileO_inv (body := linealref05_Shows_b3 c a st1 st2) (fun s => ∃ b T, ∃ l : Int, s = (T, b.drop i1, l) ∧ 1 ≤ l ∧ l ≤ 4 ∧ RI c a i l b T ∧ b.take i1 = b0.take i1 ∧ i1 ≤ b.length) (fun s => (4 - s.2.2).toNat) (fun r => match r with
      | .inl u => Least c a u
      | .inr x => ∃ b T, x = (T, b.drop i1) ∧ RI c a i 4 b T ∧ b.take i1 = b0.take i1 ∧ i1 ≤ b.length) (fun s hs => ?_) _ ⟨b0, T0, 1, rfl, by omega, by omega, R0, rfl, h1⟩
  obtain ⟨b, T, l, rfl, l1, l4, R, ht, hib⟩ := hs
  have hwb : b[i]? = some w := by
    have e1 : (b.take i1)[i]? = b[i]? := by rw [List.getElem?_take, if_pos hi]
    have e2 : (b0.take i1)[i]? = b0[i]? := by rw [List.getElem?_take, if_pos hi]
    rw [← e1, ht, e2]; exact hw
  have hfew := ri_few hc ha R
  have hil := (List.getElem?_eq_some_iff.1 hwb).1
  have hix := R.idx i w hwb
  unfold linealref05_Shows_b3
  simp only [hst]
  by_cases hl : l ≤ 3
  · have b1 := lt64 hc (behM_lt hc (w ++ [l]))
    have b2 := lt64 ha (behM_lt ha (w ++ [l]))
    have ki : InK .i64 (l + 1) := by rw [inK_i64]; omega
    have hlen : (w ++ [l]).length ≤ 17592186044416 := by rw [List.length_append, List.length_singleton]; omega
    have hdl : (b.drop i1).length ≤ 4097 := by rw [List.length_drop]; omega
    rw [if_pos (by rw [decide_eq_true_eq]; exact hl), ck_pos (by omega), ck_pos (by omega), refbehind_eq hc _ hlen, Option.bind_some, refbehind_eq ha _ hlen, Option.bind_some]
    by_cases h0 : behM c (w ++ [l]) = 0
    · rw [if_pos (by rw [decide_eq_true_eq]; omega), ck_pos ki]
      exact .inl ⟨_, rfl, ⟨b, T, l + 1, rfl, by omega, by omega, ri_keep hc ha R (by omega) hwb (.inl h0), ht, hib⟩, by simp only; omega⟩
    rw [if_neg (by rw [decide_eq_true_eq]; omega), ck_pos (by omega), ck_pos (by omega), ck_pos (by omega), ck_pos (by omega)]
    simp only [Int.toNat_natCast, Nat.zero_add, Nat.mul_one]
    by_cases hm : boolAt T108 T (behM c (w ++ [l]) * 64 + behM a (w ++ [l])) = true
    · rw [if_pos hm, ck_pos ki]
      exact .inl ⟨_, rfl, ⟨b, T, l + 1, rfl, by omega, by omega, ri_keep hc ha R (by omega) hwb (.inr ((R.tab _ _ b1 b2).1 hm)), ht, hib⟩, by simp only; omega⟩
    rw [if_neg hm]
    by_cases h2 : behM a (w ++ [l]) = 0
    · rw [if_pos (by rw [decide_eq_true_eq]; omega)]
      exact .inr ⟨_, rfl, bc_least hc ha R.B hwb ⟨by omega, hl⟩ h0 h2⟩
    · rw [if_neg (by rw [decide_eq_true_eq]; omega), ck_pos (by omega), ck_pos (by omega), ck_pos (by omega), ck_pos (by omega), ck_pos (by omega), ck_pos ki]
      refine .inl ⟨_, rfl, ⟨b ++ [w ++ [l]], _, l + 1, ?_, by omega, by omega, ri_push hc ha R hwb ⟨by omega, hl⟩ h0 h2 (fun h => hm ((R.tab _ _ b1 b2).2 h)), by rw [List.take_append_of_le_length hib]; exact ht, by rw [List.length_append]; omega⟩, by simp only; omega⟩
      rw [List.drop_append_of_le_length hib]
  · have : l = 4 := by omega
    subst this
    rw [if_neg (by simp)]
    exact .inr ⟨_, rfl, b, T, rfl, R, ht, hib⟩

theorem refshows_mid {i0 : Nat} {b0 : List (List Int)} {T0 : El T108} (R0 : RI c a i0 1 b0 T0) (h0 : i0 ≤ b0.length) :
    ∃ r, whileO (linealref05_Shows_b2 c a (T0, b0.drop i0)) (T0, [], 0) = some r ∧ (match r with
      | .inl u => Least c a u
      | .inr x => ∃ b T, x = (T, b.drop b0.length) ∧ RI c a b0.length 1 b T ∧ b0.length ≤ b.length) := by
  refine whileO_inv (body := linealref05_Shows_b2 c a (T0, b0.drop i0)) (fun s => ∃ b T, ∃ k : Nat, s = (T, b.drop b0.length, (k : Int)) ∧ i0 + k ≤ b0.length ∧ RI c a (i0 + k) 1 b T ∧ b.take b0.length = b0 ∧ b0.length ≤ b.length) (fun s => b0.length - s.2.2.toNat) (fun r => match r with
      | .inl u => Least c a u
      | .inr x => ∃ b T, x = (T, b.drop b0.length) ∧ RI c a b0.length 1 b T ∧ b0.length ≤ b.length) (fun s hs => ?_) _ ⟨b0, T0, 0, by rw [List.drop_length]; rfl, by omega, R0, List.take_length, Nat.le_refl _⟩
  obtain ⟨b, T, k, rfl, hk, R, ht, hib⟩ := hs
  have hfew := ri_few hc ha R
  unfold linealref05_Shows_b2
  simp only [List.length_drop]
  by_cases hlt : i0 + k < b0.length
  · obtain ⟨w, hw⟩ : ∃ w, b0[i0 + k]? = some w := ⟨_, List.getElem?_eq_getElem hlt⟩
    have hwb : b[i0 + k]? = some w := by
      have e1 : (b.take b0.length)[i0 + k]? = b[i0 + k]? := by rw [List.getElem?_take, if_pos hlt]
      rw [← e1, ht]; exact hw
    have hst : (T0, b0.drop i0).2.getD ((T, b.drop b0.length, (k : Int)) : El T108 × List (List Int) × Int).2.2.toNat [] = w := getD_of (by
      show (b0.drop i0)[(k : Int).toNat]? = some w
      rw [Int.toNat_natCast, List.getElem?_drop]; exact hw)
    obtain ⟨r, e, h⟩ := refshows_in hc ha R hwb hst hlt hib
    rw [if_pos (by rw [decide_eq_true_eq]; omega), ck_pos (by omega), ck_pos (by omega), e, Option.bind_some]
    cases r with
    | inl u => exact .inr ⟨_, rfl, h⟩
    | inr x =>
      obtain ⟨b', T', rfl, R', ht', hib'⟩ := h
      simp only
      unfold linealref05_Shows_k3
      simp only
      rw [ck_pos (by rw [inK_i64]; omega)]
      have hnx : RI c a (i0 + (k + 1)) 1 b' T' := ⟨bc_next (i := i0 + k) R'.B (by omega), R'.idx, R'.nd, R'.tab⟩
      exact .inl ⟨_, rfl, ⟨b', T', k + 1, by rfl, by omega, hnx, by rw [ht', ht], hib'⟩, by simp only; omega⟩
  · rw [if_neg (by rw [decide_eq_true_eq]; omega)]
    have e : i0 + k = b0.length := by omega
    rw [e] at R
    exact .inr ⟨_, rfl, b, T, rfl, R, hib⟩

theorem refshows_out (n : Nat) : ∀ (i0 : Nat) (b : List (List Int)) (T : El T108), 5000 ≤ n + i0 → i0 ≤ b.length → RI c a i0 1 b T →
    ∃ r, whileO (linealref05_Shows_b1 c a) (T, b.drop i0) = some r ∧ (match r with
      | .inl u => Least c a u
      | .inr _ => ∀ v : List Int, v.all seenB = true → behM c v ≠ 0 → behM a v ≠ 0) := by
  induction n with
  | zero => intro i0 b T hn hi R; have := ri_few hc ha R; omega
  | succ n ih =>
    intro i0 b T hn hi R
    by_cases hlt : i0 < b.length
    · obtain ⟨r, e, h⟩ := refshows_mid hc ha R hi
      cases r with
      | inl u =>
        refine ⟨.inl u, whileO_done ?_, h⟩
        unfold linealref05_Shows_b1
        simp only [List.length_drop]
        rw [if_pos (by rw [decide_eq_true_eq]; omega), e, Option.bind_some]
      | inr x =>
        obtain ⟨b', T', rfl, R', hb'⟩ := h
        obtain ⟨r, e', h'⟩ := ih b.length b' T' (by omega) hb' R'
        refine ⟨r, whileO_next ?_ e', h'⟩
        unfold linealref05_Shows_b1
        simp only [List.length_drop]
        rw [if_pos (by rw [decide_eq_true_eq]; omega), e, Option.bind_some]
        rfl
    · refine ⟨.inr (), whileO_done ?_, bc_none hc ha R.B (by omega)⟩
      unfold linealref05_Shows_b1
      simp only [List.length_drop]
      rw [if_neg (by rw [decide_eq_true_eq]; omega)]

theorem ri_begin : RI c a 0 1 [[]] (Ty.dflt T108) := by
  refine ⟨bc_begin hc ha, fun j w hj => ?_, by simp, fun x y _ _ => ?_⟩
  · have hm := List.mem_of_getElem? hj
    rw [List.mem_singleton] at hm
    rw [hm]; simp
  · rw [boolAt_dflt]; simp

end

theorem refShows_eq {c a : Sys} (hc : validB c = true) (ha : validB a = true) : (∃ u, linealref05_Shows c a = some (u, 0) ∧ Least c a u) ∨ (linealref05_Shows c a = some ([], 5) ∧ ∀ v : List Int, v.all seenB = true → behM c v ≠ 0 → behM a v ≠ 0) := by
  obtain ⟨r, e, h⟩ := refshows_out (okS_valid hc) (okS_valid ha) 5000 0 [[]] (Ty.dflt T108) (by omega) (by simp) (ri_begin (okS_valid hc) (okS_valid ha))
  have e' : whileO (linealref05_Shows_b1 c a) ((Ty.dflt T108), [[]]) = some r := e
  cases r with
  | inl u =>
    refine .inl ⟨u, ?_, h⟩
    unfold linealref05_Shows
    rw [refValid_eq c (okZ_valid hc), Option.bind_some, hc, if_neg (by simp), refValid_eq a (okZ_valid ha), Option.bind_some, ha, if_neg (by simp), e', Option.bind_some]
  | inr x =>
    refine .inr ⟨?_, h⟩
    unfold linealref05_Shows
    rw [refValid_eq c (okZ_valid hc), Option.bind_some, hc, if_neg (by simp), refValid_eq a (okZ_valid ha), Option.bind_some, ha, if_neg (by simp), e', Option.bind_some]
    rfl

theorem Shows_eq2 {c a : Sys} (hc : validB c = true) (ha : validB a = true) : (∃ u, refine_Shows c a = some (u, 0) ∧ Least c a u) ∨ (refine_Shows c a = some ([], 5) ∧ ∀ v : List Int, v.all seenB = true → behM c v ≠ 0 → behM a v ≠ 0) := by
  obtain ⟨Tc, e1, h1⟩ := frameOf_eq c (okZ_valid hc)
  obtain ⟨Ta, e2, h2⟩ := frameOf_eq a (okZ_valid ha)
  rw [if_pos hc] at e1
  rw [if_pos ha] at e2
  obtain ⟨r, e3, h3⟩ := shows_eq2 (okS_valid hc) (okS_valid ha) (h1 hc) (h2 ha)
  have e3' : refine_two_shows (((c.1, c.2), Tc), (a.1, a.2), Ta) = some r := e3
  have hs : refine_Shows c a = if (!r.2) = true then some ([], 5) else some (r.1, 0) := by
    unfold refine_Shows refine_twoOf
    rw [e1, Option.bind_some]
    simp only [decide_true, Bool.not_true, Bool.false_eq_true, if_false]
    rw [e2, Option.bind_some]
    simp only [decide_true, Bool.not_true, Bool.false_eq_true, if_false, Option.bind_some]
    rw [e3', Option.bind_some]
  rcases h3 with ⟨u, rfl, hu⟩ | ⟨rfl, hn⟩
  · exact .inl ⟨u, by rw [hs]; rfl, hu⟩
  · exact .inr ⟨by rw [hs]; rfl, hn⟩

theorem shows_same {c a : Sys} (hc : validB c = true) (ha : validB a = true) : ∃ x, refine_Shows c a = some x ∧ linealref05_Shows c a = some x ∧ x.1.length ≤ 384 := by
  rcases Shows_eq2 hc ha with ⟨u, e1, h1⟩ | ⟨e1, h1⟩
  · rcases refShows_eq hc ha with ⟨v, e2, h2⟩ | ⟨e2, h2⟩
    · have := least_one h1 h2
      subst this
      rcases Shows_eq hc ha with ⟨w, e3, h3⟩ | ⟨e3, h3⟩
      · have e : some (w, (0 : Int)) = some (u, 0) := e3.symm.trans e1
        have : w = u := (Prod.mk.inj (Option.some.inj e)).1
        rw [this] at h3
        exact ⟨_, e1, e2, (told_len hc ha h3).1⟩
      · exact absurd h1.two (h3 u h1.seen h1.one)
    · exact absurd h1.two (h2 u h1.seen h1.one)
  · rcases refShows_eq hc ha with ⟨v, e2, h2⟩ | ⟨e2, h2⟩
    · exact absurd h2.two (h1 v h2.seen h2.one)
    · exact ⟨_, e1, e2, by simp⟩

end Go.Proofs.Ytljonmpcehlpaaa
