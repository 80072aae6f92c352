/-
  Layer 1, pure: the law about ways.
-/
import Derived.Test.YtfmokmhphfdbpaaP7
namespace Go.Proofs.Ytfmokmhphfdbpaa
open Go.RowKit

set_option linter.unusedVariables false
set_option linter.unusedSimpArgs false

theorem foldl_or (a : Int) : ∀ (l : List Int) (b : Bool), l.foldl (fun b x => b || decide (a = x)) b = (b || decide (a ∈ l))
  | [], b => by simp
  | x :: l, b => by
    rw [List.foldl_cons, foldl_or a l]
    by_cases h : a = x
    · simp [h]
    · simp [h]

theorem led_in (s : Tup) (x : Int) (ys : List Int) (e : Int) (hl : ys.length ≤ 8) : whileO (lineallaw01_SpecLed_b1 s x (ys, e)) (false, 0) = some (decide (x % s.1 ∈ ys)) := by
  have key := whileO_list (body := lineallaw01_SpecLed_b1 s x (ys, e)) (fun (b : Bool) (i : Int) => (b, i)) ys (fun b y => b || decide (x % s.1 = y)) id (fun _ _ => True) (s0 := false) trivial (fun k y b hk _ => ?_) (fun b _ => ?_)
  · rw [key.1, foldl_or]; simp
  · have hlt := (List.getElem?_eq_some_iff.1 hk).1
    refine ⟨?_, trivial⟩
    unfold lineallaw01_SpecLed_b1
    simp only [Int.toNat_natCast, getD_of hk]
    rw [if_pos (by simpa using hlt), ck_pos (by omega), ck_pos (by omega)]
    cases b
    · rw [if_neg (by simp), ck_pos (by rw [inK_i64]; omega)]; simp
    · rw [if_pos rfl, ck_pos (by rw [inK_i64]; omega)]; simp
  · unfold lineallaw01_SpecLed_b1
    rw [if_neg (by simp)]; rfl

/-- The law holds. -/
theorem SpecLed_eq (s : Tup) (hs : okS s) (x : Int) (hx : InK .u8 x) (w : List Int) (hl : w.length ≤ maxLen) : lineallaw01_SpecLed s x w = some true := by
  unfold lineallaw01_SpecLed
  rw [Long_eq s hs, Awake_eq, Option.bind_some]
  cases wideB s.2.2.1 || wideB s.2.2.2
  rotate_left
  · simp
  rw [refValid_eq s hs, IsWord_eq s w hl]
  cases hv : (toSp s).ok
  · simp
  cases hw : wordB s w
  · simp
  have hm := Sp.okE hv
  have h1 : 1 ≤ s.1 := hm.1
  have h2 : s.1 ≤ 8 := hm.2.1
  have hx8 := u8_range hx
  have ha : inR s.1 (x % s.1) = true := emod_in h1
  have h0 : inR s.1 0 = true := by simp only [inR, decide_eq_true_eq]; omega
  obtain ⟨ys, hy1, hy2⟩ := Reached_eq s hs hv
  have hyl : ys.length ≤ 8 := by
    have := ways_len hv
    have := hy2.length_eq
    rw [List.length_map] at this; omega
  have hrun : runOf s 0 w = ((runF s 0 w).1, (runF s 0 w).2, 0) := by unfold runOf; rw [if_pos hv, if_pos h0, if_pos hw]
  simp only [Option.bind_some, Bool.false_eq_true, if_false, Bool.not_true]
  rw [ck_pos (by rw [inK_i64]; omega), ck_pos hx8.1, ck_pos (by omega), Way_eq s hs, hy1, Run_eq s hs 0 w hl, hrun]
  simp only [Option.bind_some, hv, ha, if_true, decide_true, Bool.not_true, Bool.false_eq_true, if_false]
  unfold lineallaw01_SpecLed_k1
  rw [led_in s x ys 0 hyl, Option.bind_some]
  unfold lineallaw01_SpecLed_k2 lineallaw01_SpecLed_k3
  rw [Awake_eq]
  obtain ⟨z, hz, hz1, hz2⟩ := way_of hv (wordB_all hw).2
  generalize x % s.1 = a at ha ⊢
  unfold wayOf
  cases hf : (waysL s).find? (fun y => decide (y.1 = a)) with
  | none =>
    have hno : a ∉ ys := fun hin => by
      obtain ⟨y, hy, rfl⟩ := List.mem_map.1 (hy2.mem_iff.1 hin)
      have := List.find?_eq_none.1 hf y hy
      simp at this
    have hto : ¬ (runF s 0 w).2 = a := fun e => by
      have := List.find?_eq_none.1 hf z hz
      rw [hz1, e] at this
      simp at this
    simp [hno, hto]
  | some y =>
    have hy := List.mem_of_find?_eq_some hf
    have hya : y.1 = a := by have := List.find?_some hf; simpa using this
    have hin : a ∈ ys := hy2.mem_iff.2 (List.mem_map.2 ⟨y, hy, hya⟩)
    obtain ⟨r1, r2, r3⟩ := way_runs hv hy
    have hyw : wordB s y.2 = true := wordB_of (by omega) r1
    have hrun2 : runOf s 0 y.2 = ((runF s 0 y.2).1, a, 0) := by unfold runOf; rw [if_pos hv, if_pos h0, if_pos hyw, r2, hya]
    simp only [Run_eq s hs 0 y.2 (len_ok (by omega)), hrun2]
    by_cases hto : (runF s 0 w).2 = a
    · have : z = y := way_uniq hv hz hy (by rw [hz1, hto, hya])
      subst this
      have hlt : ¬ (w.length : Int) < (z.2.length : Int) := by omega
      simp [hin, hto, hlt, r3]
    · simp [hin, hto, r3]
end Go.Proofs.Ytfmokmhphfdbpaa
