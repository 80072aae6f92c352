/-
 Layer 5, pure: which systems are valid, where labels lead, which lists are traces: of the program and of the reference.
-/
import Derived.Test.YtifleoceebaooaaS3
namespace Go.Proofs.Ytifleoceebaooaa
open Go.RowKit

set_option linter.unusedVariables false
set_option linter.unusedSectionVars false
set_option linter.unusedSimpArgs false

/-! ### Valid -/

structure okZ (s : Sys) : Prop where
 few : s.2.length ≤ 17592186044416
 inK : ∀ z ∈ s.2, InK .i64 z.1 ∧ InK .i64 z.2.1 ∧ InK .i64 z.2.2

theorem index_stp (l : List Stp) (z : Stp) (hl : l.length ≤ 17592186044416) (hk : ∀ y ∈ l, InK .i64 y.1 ∧ InK .i64 y.2.1 ∧ InK .i64 y.2.2) (hz : InK .i64 z.1 ∧ InK .i64 z.2.1 ∧ InK .i64 z.2.2) : slices_Contains l z = some (decide (z ∈ l)) := by
 obtain ⟨r, e1, h⟩ := scan1 (R := Sum Int Unit) l (fun k => ∀ j y, j < k → l[j]? = some y → y ≠ z) (fun r => match r with | .inl i => 0 ≤ i ∧ z ∈ l | .inr _ => z ∉ l) (body := slices_Index_b1 l z) (fun j y hj => by omega)
  (fun k y hy hI => by
   obtain ⟨hlt, ki⟩ := few_in (xs := l) hl hy
   have hm := List.mem_of_getElem? hy
   obtain ⟨y1, y2, y3⟩ := hk y hm
   have e0 : l.getD k (0, 0, 0) = y := getD_of hy
   by_cases h : z = y
   ·refine .inr ⟨.inl (k : Int), ?_, by omega, by rw [h]; exact hm⟩
    unfold slices_Index_b1
    simp only [Int.toNat_natCast, e0]
    rw [if_pos (by rw [decide_eq_true_eq]; omega), ck_pos (by omega), ck_pos (by omega), ck_pos hz.1, ck_pos hz.2.1, ck_pos hz.2.2, ck_pos y1, ck_pos y2, ck_pos y3, if_pos (by simpa using h)]
   ·refine .inl ⟨?_, fun j x hj hx => ?_⟩
    ·unfold slices_Index_b1
     simp only [Int.toNat_natCast, e0]
     rw [if_pos (by rw [decide_eq_true_eq]; omega), ck_pos (by omega), ck_pos (by omega), ck_pos hz.1, ck_pos hz.2.1, ck_pos hz.2.2, ck_pos y1, ck_pos y2, ck_pos y3, if_neg (by simpa using h), ck_pos ki]
    ·rcases Nat.lt_succ_iff_lt_or_eq.1 hj with hj | hj
     ·exact hI j x hj hx
     ·subst hj
      rw [hy] at hx
      have := Option.some.inj hx
      subst this
      exact fun e => h e.symm)
  (fun hI => by
   refine ⟨.inr (), ?_, fun hm => ?_⟩
   ·unfold slices_Index_b1
    rw [if_neg (by rw [decide_eq_true_eq]; omega)]
   ·obtain ⟨j, hj⟩ := List.getElem?_of_mem hm
    exact hI j z (List.getElem?_eq_some_iff.1 hj).1 hj rfl)
 unfold slices_Contains slices_Index
 rw [e1, Option.bind_some]
 cases r with
 | inl i => simp only at h; simp only [Option.bind_some]; simp [h.1, h.2]
 | inr u => simp only at h; unfold slices_Index_k1; simp only [Option.bind_some]; simp [h]

theorem isState_eq (s : Sys) (n : Int) : refine_isState s n = some (decide (0 ≤ n ∧ n < s.1)) := by
 unfold refine_isState
 by_cases h : 0 ≤ n
 ·rw [if_pos (by simpa using h)]; simp [h]
 ·rw [if_neg (by simpa using h)]; simp [h]

theorem isStep_eq (s : Sys) (z : Stp) : refine_isStep s z = some (stepB s z) := by
 unfold refine_isStep stepB refine_isLabel refine_isHidden
 rw [isState_eq, isState_eq, isSeen_eq]
 simp only [Option.bind_some]
 by_cases h1 : 0 ≤ z.1 ∧ z.1 < s.1
 ·by_cases h2 : z.2.1 = 0
  ·simp [h1, h2]
  ·have h3 : (0 < z.2.1 ∧ z.2.1 ≤ 3) ↔ (0 ≤ z.2.1 ∧ z.2.1 ≤ 3) := by omega
   by_cases h4 : 0 ≤ z.2.1 ∧ z.2.1 ≤ 3
   ·have h5 : 0 < z.2.1 := by omega
    simp [h1, h2, h4, h5]
   ·simp [h1, h2, h3, h4]
 ·simp [h1]

theorem take_inK {s : Sys} (hs : okZ s) (k : Nat) : ∀ y ∈ s.2.take k, InK .i64 y.1 ∧ InK .i64 y.2.1 ∧ InK .i64 y.2.2 := fun y hy => hs.inK y (List.mem_of_mem_take hy)

theorem Valid_eq (s : Sys) (hs : okZ s) : refine_Valid s = some (validB s) := by
 unfold refine_Valid validB
 by_cases h1 : s.1 < 1
 ·rw [if_pos (by simpa using h1), decide_eq_false (by omega), Bool.false_and]
 rw [if_neg (by simpa using h1)]
 by_cases h2 : 6 < s.1
 ·rw [if_pos (by simpa using h2), decide_eq_false (by omega), Bool.false_and]
 rw [if_neg (by simpa using h2)]
 by_cases h3 : 24 < (s.2.length : Int)
 ·rw [if_pos (by simpa using h3), decide_eq_false (by omega), Bool.false_and]
 rw [if_neg (by simpa using h3), decide_eq_true (by omega), Bool.true_and]
 have hl := loopB (body := refine_Valid_b1 s) s.2.length (fun k => stepB s (s.2.getD k (0, 0, 0)) && !decide (s.2.getD k (0, 0, 0) ∈ s.2.take k)) (fun k hk => by
  have hz : s.2[k]? = some (s.2.getD k (0, 0, 0)) := by rw [List.getD_eq_getElem?_getD, List.getElem?_eq_getElem hk]; rfl
  have ki : InK .i64 ((k : Int) + 1) := by rw [inK_i64]; omega
  have hc := index_stp (s.2.take k) (s.2.getD k (0, 0, 0)) (by rw [List.length_take]; omega) (take_inK hs k) (hs.inK _ (List.mem_of_getElem? hz))
  unfold refine_Valid_b1
  simp only [Int.toNat_natCast]
  rw [if_pos (by rw [decide_eq_true_eq]; omega), ck_pos (by omega), ck_pos (by omega), isStep_eq, Option.bind_some]
  cases stepB s (s.2.getD k (0, 0, 0))
  ·simp
  ·rw [if_neg (by simp), ck_pos (by omega), ck_pos (by omega), hc, Option.bind_some, ck_pos ki]
   by_cases hm : s.2.getD k (0, 0, 0) ∈ s.2.take k
   ·rw [if_pos (by rw [decide_eq_true_eq]; exact hm), if_neg (by rw [decide_eq_true hm]; simp)]
   ·rw [if_neg (by rw [decide_eq_true_eq]; exact hm), if_pos (by rw [decide_eq_false hm]; rfl)]) (by
  unfold refine_Valid_b1
  rw [if_neg (by rw [decide_eq_true_eq]; omega)])
 rw [hl, Option.bind_some]
 cases allB s.2.length fun k => stepB s (s.2.getD k (0, 0, 0)) && !decide (s.2.getD k (0, 0, 0) ∈ s.2.take k) <;> rfl

theorem refIsState_eq (s : Sys) (n : Int) : linealref05_IsState s n = some (decide (0 ≤ n ∧ n < s.1)) := by
 unfold linealref05_IsState
 by_cases h : 0 ≤ n
 ·rw [if_pos (by simpa using h)]; simp [h]
 ·rw [if_neg (by simpa using h)]; simp [h]

theorem refValid_eq (s : Sys) (hs : okZ s) : linealref05_Valid s = some (validB s) := by
 unfold linealref05_Valid validB
 by_cases h1 : s.1 < 1
 ·rw [if_pos (by simpa using h1), decide_eq_false (by omega), Bool.false_and]
 rw [if_neg (by simpa using h1)]
 by_cases h2 : 6 < s.1
 ·rw [if_pos (by simpa using h2), decide_eq_false (by omega), Bool.false_and]
 rw [if_neg (by simpa using h2)]
 by_cases h3 : 24 < (s.2.length : Int)
 ·rw [if_pos (by simpa using h3), decide_eq_false (by omega), Bool.false_and]
 rw [if_neg (by simpa using h3), decide_eq_true (by omega), Bool.true_and]
 have hl := loopB (body := linealref05_Valid_b1 s) s.2.length (fun k => stepB s (s.2.getD k (0, 0, 0)) && !decide (s.2.getD k (0, 0, 0) ∈ s.2.take k)) (fun k hk => by
  obtain ⟨z, hz⟩ : ∃ z, s.2[k]? = some z := ⟨_, List.getElem?_eq_getElem hk⟩
  have e0 : s.2.getD k (0, 0, 0) = z := getD_of hz
  have ki : InK .i64 ((k : Int) + 1) := by rw [inK_i64]; omega
  obtain ⟨z1, z2, z3⟩ := hs.inK _ (List.mem_of_getElem? hz)
  have hlk : (s.2.take k).length = k := by rw [List.length_take]; omega
  have hin := loopB (body := linealref05_Valid_b2 s (k : Int)) (s.2.take k).length (fun j => !decide (z = (s.2.take k).getD j (0, 0, 0))) (fun j hj => by
   obtain ⟨y, hy⟩ : ∃ y, (s.2.take k)[j]? = some y := ⟨_, List.getElem?_eq_getElem hj⟩
   have e1 : (s.2.take k).getD j (0, 0, 0) = y := getD_of hy
   obtain ⟨y1, y2, y3⟩ := take_inK hs k _ (List.mem_of_getElem? hy)
   have kj : InK .i64 ((j : Int) + 1) := by rw [inK_i64]; omega
   unfold linealref05_Valid_b2
   simp only [Int.toNat_natCast, e0, e1]
   rw [if_pos (by rw [decide_eq_true_eq]; omega), ck_pos (by omega), ck_pos (by omega), ck_pos z1, ck_pos z2, ck_pos z3, ck_pos y1, ck_pos y2, ck_pos y3, ck_pos kj]
   by_cases h : z = y
   ·rw [if_pos (by simpa using h), if_neg (by simpa using h)]
   ·rw [if_neg (by simpa using h), if_pos (by simpa using h)]) (by
   unfold linealref05_Valid_b2
   simp only [Int.toNat_natCast]
   rw [if_neg (by rw [decide_eq_true_eq]; omega)])
  have hall : (allB (s.2.take k).length fun j => !decide (z = (s.2.take k).getD j (0, 0, 0))) = !decide (z ∈ s.2.take k) := by
   rw [Bool.eq_iff_iff, allB_iff, Bool.not_eq_true', decide_eq_false_iff_not]
   constructor
   ·intro h hm
    obtain ⟨j, hj⟩ := List.getElem?_of_mem hm
    have := h j (List.getElem?_eq_some_iff.1 hj).1
    rw [Bool.not_eq_true', decide_eq_false_iff_not] at this
    exact this (getD_of hj).symm
   ·intro h j hj
    rw [Bool.not_eq_true', decide_eq_false_iff_not]
    intro e
    have hy : (s.2.take k)[j]? = some ((s.2.take k).getD j (0, 0, 0)) := by rw [List.getD_eq_getElem?_getD, List.getElem?_eq_getElem hj]; rfl
    rw [← e] at hy
    exact h (List.mem_of_getElem? hy)
  rw [hall] at hin
  unfold linealref05_Valid_b1
  simp only [Int.toNat_natCast, e0]
  rw [if_pos (by rw [decide_eq_true_eq]; omega), ck_pos (by omega), ck_pos (by omega), refIsState_eq, Option.bind_some, refIsState_eq, hin]
  unfold stepB linealref05_Valid_k2
  rw [ck_pos ki]
  by_cases g1 : 0 ≤ z.1 ∧ z.1 < s.1
  ·by_cases g2 : 0 ≤ z.2.2 ∧ z.2.2 < s.1
   ·by_cases g3 : z.2.1 < 0
    ·have : ¬ (0 ≤ z.2.1) := by omega
     simp [g1, g2, g3, this]
    ·by_cases g4 : 3 < z.2.1
     ·have : ¬ (z.2.1 ≤ 3) := by omega
      simp [g1, g2, g3, g4, this]
     ·have g5 : 0 ≤ z.2.1 := by omega
      have g6 : z.2.1 ≤ 3 := by omega
      by_cases g7 : z ∈ s.2.take k
      ·simp [g1, g2, g3, g4, g5, g6, g7, ck, show k ≤ s.2.length from by omega]
      ·simp [g1, g2, g3, g4, g5, g6, g7, ck, show k ≤ s.2.length from by omega]
   ·simp [g1, g2]
  ·simp [g1]) (by
  unfold linealref05_Valid_b1
  rw [if_neg (by rw [decide_eq_true_eq]; omega)])
 rw [hl, Option.bind_some]
 cases allB s.2.length fun k => stepB s (s.2.getD k (0, 0, 0)) && !decide (s.2.getD k (0, 0, 0) ∈ s.2.take k) <;> rfl

/-! ### Where labels lead -/

section
variable {s : Sys} (hv : OkS s)
include hv

theorem fold_lt (m : Nat) (l : Int) : ∀ (L : List Stp) (a : Nat), a < 2 ^ s.1.toNat → (∀ z ∈ L, z ∈ s.2) → L.foldl (fun a z => if hitS m l z = true then a ||| 2 ^ z.2.2.toNat else a) a < 2 ^ s.1.toNat
 | [], a, ha, _ => ha
 | z :: L, a, ha, hL => by
  have hz := (hv.st z (hL z (by simp))).2.2
  rw [List.foldl_cons]
  refine fold_lt m l L _ ?_ fun y hy => hL y (List.mem_cons_of_mem _ hy)
  split
  ·exact or_lt ha (Nat.pow_lt_pow_right (by omega) (by omega))
  ·exact ha

theorem refstep_eq {m : Nat} (hm : m < 64) (l : Int) : linealref05_step s (m : Int) l = some ((stM s m l : Nat) : Int) := by
 have h6 := n6 hv
 have hlen := hv.len
 obtain ⟨r, e1, h⟩ := scan2 (R := Int) s.2 (fun k (cur : Int) => cur = (((s.2.take k).foldl (fun a z => if hitS m l z = true then a ||| 2 ^ z.2.2.toNat else a) 0 : Nat) : Int)) (fun r => r = ((stM s m l : Nat) : Int)) (body := linealref05_step_b1 s (m : Int) l) (s0 := 0) rfl
  (fun k z cur hk hI => by
   subst hI
   have hlt := (List.getElem?_eq_some_iff.1 hk).1
   have hz := hv.st z (List.mem_of_getElem? hk)
   have ki : InK .i64 ((k : Int) + 1) := by rw [inK_i64]; omega
   have hf := lt64 hv (fold_lt hv m l (s.2.take k) 0 (Nat.two_pow_pos _) fun y hy => List.mem_of_mem_take hy)
   refine .inl ?_
   rw [take_one hk, List.foldl_append]
   simp only [List.foldl_cons, List.foldl_nil]
   generalize (s.2.take k).foldl (fun a z => if hitS m l z = true then a ||| 2 ^ z.2.2.toNat else a) 0 = c at *
   obtain ⟨p, hp⟩ := Int.eq_ofNat_of_zero_le hz.1.1
   obtain ⟨q, hq⟩ := Int.eq_ofNat_of_zero_le hz.2.2.1
   have hpb : decide (iand .i64 (ishr .i64 (m : Int) z.1) 1 = 1) = m.testBit z.1.toNat := by rw [hp, Int.toNat_natCast]; exact bits_i64 m hm p (by omega)
   have hqb : ior .i64 (c : Int) (ishl .i64 1 z.2.2) = ((c ||| 2 ^ z.2.2.toNat : Nat) : Int) := by rw [hq, Int.toNat_natCast, shl_i64 q (by omega)]; exact or_i64 c hf (2 ^ q) (Nat.lt_of_lt_of_le (Nat.pow_lt_pow_right (by omega) (by omega) : 2 ^ q < 2 ^ 6) (by omega))
   unfold linealref05_step_b1
   simp only [Int.toNat_natCast, getD_of hk, ck_pos ki]
   rw [if_pos (by rw [decide_eq_true_eq]; omega), ck_pos (by omega), ck_pos (by omega)]
   unfold hitS
   by_cases h1 : z.2.1 = l
   ·rw [if_pos (by simpa using h1), ck_pos (by omega), hpb]
    by_cases h2 : m.testBit z.1.toNat = true
    ·rw [if_pos h2, ck_pos (by omega), hqb]
     exact ⟨_, rfl, by simp [h1, h2]⟩
    ·rw [if_neg h2]
     exact ⟨_, rfl, by simp [h1, h2]⟩
   ·rw [if_neg (by simpa using h1)]
    exact ⟨_, rfl, by simp [h1]⟩)
  (fun cur hI => by
   refine ⟨cur, ?_, by rw [hI, List.take_length]; rfl⟩
   unfold linealref05_step_b1
   rw [if_neg (by rw [decide_eq_true_eq]; simp only; omega)])
 unfold linealref05_step
 rw [e1, Option.bind_some, h]
 rfl

theorem refquiet_eq {m : Nat} (hm : m < 2 ^ s.1.toNat) : linealref05_quiet s (m : Int) = some ((quM s m : Nat) : Int) := by
 have h6 := n6 hv
 have hlo := hv.lo
 obtain ⟨r, e1, h⟩ := scan2 (R := Int) (List.range s.1.toNat) (fun k (cur : Int) => cur = ((itr (fun a => a ||| stM s a 0) k m : Nat) : Int)) (fun r => r = ((quM s m : Nat) : Int)) (body := linealref05_quiet_b1 s) (s0 := (m : Int)) rfl
  (fun k z cur hk hI => by
   subst hI
   have hlt := (List.getElem?_eq_some_iff.1 hk).1
   rw [List.length_range] at hlt
   have ki : InK .i64 ((k : Int) + 1) := by rw [inK_i64]; omega
   have hb := itr_lt hv hm k
   refine .inl ⟨((itr (fun a => a ||| stM s a 0) (k + 1) m : Nat) : Int), ?_, rfl⟩
   unfold linealref05_quiet_b1
   simp only
   rw [if_pos (by rw [decide_eq_true_eq]; omega), refstep_eq hv (lt64 hv hb) 0, Option.bind_some, ck_pos ki, or_i64 _ (lt64 hv hb) _ (lt64 hv (stM_lt hv _ 0))]
   rfl)
  (fun cur hI => by
   rw [List.length_range] at hI ⊢
   refine ⟨cur, ?_, hI⟩
   unfold linealref05_quiet_b1
   simp only
   rw [if_neg (by rw [decide_eq_true_eq]; omega)])
 unfold linealref05_quiet
 rw [e1, Option.bind_some, h]
 rfl

theorem refcomes_eq {m : Nat} (hm : m < 2 ^ s.1.toNat) (l : Int) : linealref05_comes s (m : Int) l = some ((coM s m l : Nat) : Int) := by
 unfold linealref05_comes coM
 by_cases h : l = 0
 ·rw [if_pos (by simpa using h), refquiet_eq hv hm, Option.bind_some, if_pos h]
 ·rw [if_neg (by simpa using h), refquiet_eq hv hm, Option.bind_some, refstep_eq hv (lt64 hv (quM_lt hv hm)), Option.bind_some, refquiet_eq hv (stM_lt hv _ _), Option.bind_some, if_neg h]

def begM (s : Sys) : Nat := quM s 1
def behM (s : Sys) (tr : List Int) : Nat := tr.foldl (fun m l => coM s m l) (begM s)

theorem one_lt : 1 < 2 ^ s.1.toNat := Nat.one_lt_two_pow (by have := hv.lo; omega)
theorem begM_lt : begM s < 2 ^ s.1.toNat := quM_lt hv (one_lt hv)
theorem foldM_lt : ∀ (tr : List Int) (m : Nat), m < 2 ^ s.1.toNat → tr.foldl (fun m l => coM s m l) m < 2 ^ s.1.toNat
 | [], m, h => h
 | l :: tr, m, h => foldM_lt tr _ (coM_lt hv h l)
theorem behM_lt (tr : List Int) : behM s tr < 2 ^ s.1.toNat := foldM_lt hv tr _ (begM_lt hv)
theorem behM_snoc (tr : List Int) (l : Int) : behM s (tr ++ [l]) = coM s (behM s tr) l := by unfold behM; rw [List.foldl_append]; rfl

/-! ### The program -/

theorem states_eq {m : Nat} (hm : m < 64) : refine_set_states (m : Int) = some ((bitsL m).map fun (i : Nat) => (i : Int)) := by
 obtain ⟨r, e1, h⟩ := scan2 (R := List Int) (List.range 6) (fun k (out : List Int) => out = ((List.range k).filter m.testBit).map fun (i : Nat) => (i : Int)) (fun r => r = (bitsL m).map fun (i : Nat) => (i : Int)) (body := refine_set_states_b1 (m : Int)) (s0 := []) rfl
  (fun k z out hk hI => by
   have hlt := (List.getElem?_eq_some_iff.1 hk).1
   rw [List.length_range] at hlt
   have hol : out.length ≤ 6 := by
    rw [hI, List.length_map]
    have := List.length_filter_le m.testBit (List.range k)
    rw [List.length_range] at this
    omega
   have ki : InK .i64 ((k : Int) + 1) := by rw [inK_i64]; omega
   refine .inl ?_
   unfold refine_set_states_b1
   simp only
   rw [if_pos (by rw [decide_eq_true_eq]; omega), has_eq _ _ (by omega), Option.bind_some, bit_u8 hm (by omega) (by omega), Int.toNat_natCast, List.range_succ, List.filter_append, List.map_append, ← hI]
   by_cases hb : m.testBit k = true
   ·rw [if_pos hb, ck_pos (by omega), ck_pos ki]
    exact ⟨_, rfl, by simp [hb]⟩
   ·rw [if_neg hb, ck_pos ki]
    exact ⟨_, rfl, by simp [hb]⟩)
  (fun out hI => by
   refine ⟨out, ?_, hI⟩
   unfold refine_set_states_b1
   rw [if_neg (by simp)])
 unfold refine_set_states
 rw [e1, Option.bind_some, h]
 rfl

theorem after_eq {T : El T69} (hT : Frm s T) {m : Nat} (hm : m < 2 ^ s.1.toNat) {l : Int} (h0 : 0 ≤ l) (h3 : l ≤ 3) : refine_frame_after (s, T) (m : Int) l = some ((coM s m l : Nat) : Int) := by
 have h6 := n6 hv
 have hbl : (bitsL m).length ≤ 6 := by
  have := List.length_filter_le m.testBit (List.range 6)
  rw [List.length_range] at this
  exact this
 have hpart : ∀ (L : List Nat) (a : Nat), a < 2 ^ s.1.toNat → (∀ i ∈ L, i < s.1.toNat) → L.foldl (fun a i => a ||| coM s (2 ^ i) l) a < 2 ^ s.1.toNat := by
  intro L
  induction L with
  | nil => intro a ha _; exact ha
  | cons i L ih => intro a ha hL; exact ih _ (or_lt ha (coM_lt hv (Nat.pow_lt_pow_right (by omega) (hL i (by simp))) l)) fun j hj => hL j (List.mem_cons_of_mem _ hj)
 have hin : ∀ i ∈ bitsL m, i < s.1.toNat := fun i hi => by
  unfold bitsL at hi
  rw [List.mem_filter] at hi
  exact bit_lt hm hi.2
 obtain ⟨r, e1, h⟩ := scan2 (R := Int) (bitsL m) (fun k (cur : Int) => cur = ((((bitsL m).take k).foldl (fun a i => a ||| coM s (2 ^ i) l) 0 : Nat) : Int)) (fun r => r = ((coM s m l : Nat) : Int)) (body := refine_frame_after_b1 (s, T) l ((bitsL m).map fun (i : Nat) => (i : Int))) (s0 := 0) rfl
  (fun k i cur hk hI => by
   subst hI
   have hlt := (List.getElem?_eq_some_iff.1 hk).1
   have hi := hin i (List.mem_of_getElem? hk)
   have ki : InK .i64 ((k : Int) + 1) := by rw [inK_i64]; omega
   have hg : ((bitsL m).map fun (i : Nat) => (i : Int)).getD k 0 = (i : Int) := getD_of (by rw [List.getElem?_map, hk]; rfl)
   have hp := hpart ((bitsL m).take k) 0 (Nat.two_pow_pos _) fun j hj => hin j (List.mem_of_mem_take hj)
   obtain ⟨ln, rfl⟩ := Int.eq_ofNat_of_zero_le h0
   have ht := hT i ln hi (by omega)
   have e4 : i * 4 + ln * 1 = i * 4 + ln := by omega
   refine .inl ⟨((((bitsL m).take (k + 1)).foldl (fun a i => a ||| coM s (2 ^ i) (ln : Int)) 0 : Nat) : Int), ?_, rfl⟩
   rw [take_one hk, List.foldl_append]
   simp only [List.foldl_cons, List.foldl_nil]
   unfold refine_frame_after_b1
   simp only [Int.toNat_natCast, hg, List.length_map, e4, ht]
   rw [if_pos (by rw [decide_eq_true_eq]; omega), ck_pos (by omega), ck_pos (by omega), ck_pos (by omega), ck_pos (by omega), ck_pos (by omega), ck_pos (by omega), ck_pos ki, or_u8 _ (lt64 hv hp) _ (lt64 hv (coM_lt hv (Nat.pow_lt_pow_right (by omega) hi) _))])
  (fun cur hI => by
   refine ⟨cur, ?_, by rw [hI, List.take_length, ← coM_bits hv hm l]⟩
   unfold refine_frame_after_b1
   simp only [List.length_map]
   rw [if_neg (by rw [decide_eq_true_eq]; omega)])
 unfold refine_frame_after
 rw [states_eq hv (lt64 hv hm), Option.bind_some, e1, Option.bind_some, h]
 rfl

theorem beg_eq {T : El T69} (hT : Frm s T) : intAt T69 T 0 = ((begM s : Nat) : Int) := by
 have := hT 0 0 (by have := hv.lo; omega) (by omega)
 rw [show 0 * 4 + 0 = 0 from rfl] at this
 rw [this]
 rfl

end
end Go.Proofs.Ytifleoceebaooaa
