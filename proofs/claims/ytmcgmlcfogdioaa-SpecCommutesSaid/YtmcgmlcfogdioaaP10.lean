/-
  Layer 1, pure: the law about calls that commute.
-/
import Derived.Test.YtmcgmlcfogdioaaP9
namespace Go.Proofs.Ytmcgmlcfogdioaa
open Go.RowKit

set_option linter.unusedVariables false
set_option linter.unusedSimpArgs false

theorem foldl_same (s : Tup) (a : Int) : ∀ (l : List Int) (b : Bool), l.foldl (fun b q => b && decide (say s q a = say s 0 a)) b = (b && l.all fun q => decide (say s q a = say s 0 a))
  | [], b => by simp
  | q :: l, b => by rw [List.foldl_cons, foldl_same s a l, List.all_cons, Bool.and_assoc]

/-- The law holds. -/
theorem SpecCommutes_eq (s : Tup) (hs : okS s) (p : Int) (hp : InK .u8 p) (x : Int) (hx : InK .u8 x) (y : Int) (hy : InK .u8 y) : lineallaw01_SpecCommutes s p x y = some true := by
  unfold lineallaw01_SpecCommutes
  rw [Long_eq s hs, Awake_eq, Option.bind_some]
  cases wideB s.2.2.1 || wideB s.2.2.2
  rotate_left
  · simp
  rw [refValid_eq s hs]
  cases hv : (toSp s).ok
  · simp
  have hm := Sp.okE hv
  have h1 : 1 ≤ s.1 := hm.1
  have h2 : s.1 ≤ 8 := hm.2.1
  have h3 : 1 ≤ s.2.1 := hm.2.2.1
  have h4 : s.2.1 ≤ 4 := hm.2.2.2.1
  have hp8 := u8_range hp
  have hx8 := u8_range hx
  have hy8 := u8_range hy
  have hq : inR s.1 (p % s.1) = true := emod_in h1
  have ha : inR s.2.1 (x % s.2.1) = true := emod_in h3
  have hb : inR s.2.1 (y % s.2.1) = true := emod_in h3
  have h0 : inR s.1 0 = true := by simp only [inR, decide_eq_true_eq]; omega
  obtain ⟨ys, hy1, hy2⟩ := Reached_eq s hs hv
  have hyl : ys.length ≤ 8 := by
    have := ways_len hv
    have := hy2.length_eq
    rw [List.length_map] at this; omega
  have hin : ∀ q ∈ ys, inR s.1 q = true := fun q hq => by
    obtain ⟨z, hz, rfl⟩ := List.mem_map.1 (hy2.mem_iff.1 hq)
    exact ways_in hv hz
  simp only [Option.bind_some, Bool.false_eq_true, if_false, Bool.not_true]
  rw [ck_pos (by rw [inK_i64]; omega), ck_pos hx8.1, ck_pos (by omega), ck_pos (by rw [inK_i64]; omega), ck_pos hy8.1, ck_pos (by omega), ck_pos (by rw [inK_i64]; omega), ck_pos hp8.1, ck_pos (by omega)]
  rw [Commute_in hv hs hq ha hb, Option.bind_some, Commute_in hv hs hq hb ha, Option.bind_some, Reads_in hv hs ha, Option.bind_some, hy1, Option.bind_some]
  rw [com_symm' hv hq ha hb]
  simp only [decide_true, Bool.not_true, Bool.false_eq_true, if_false, BEq.rfl, bne_self_eq_false]
  -- the first loop
  have l1 : whileO (lineallaw01_SpecCommutes_b1 s x (ys, 0)) (true, 0) = some (.inr (ys.all fun q => decide (say s q (x % s.2.1) = say s 0 (x % s.2.1)))) := by
    have key := whileO_list (body := lineallaw01_SpecCommutes_b1 s x (ys, 0)) (fun (b : Bool) (i : Int) => (b, i)) ys (fun b q => b && decide (say s q (x % s.2.1) = say s 0 (x % s.2.1))) (fun b => Sum.inr b) (fun _ _ => True) (s0 := true) trivial (fun k q b hk _ => ?_) (fun b _ => ?_)
    · rw [key.1, foldl_same]; simp
    · have hlt := (List.getElem?_eq_some_iff.1 hk).1
      have hqi := hin q (List.mem_of_getElem? hk)
      obtain ⟨c1, c2, c3, c4, c5, c6, c7⟩ := run_step_ok hv hqi ha
      obtain ⟨d1, d2, d3, d4, d5, d6, d7⟩ := run_step_ok hv h0 ha
      have hq' := hqi
      simp only [inR, decide_eq_true_eq] at hq'
      refine ⟨?_, trivial⟩
      unfold lineallaw01_SpecCommutes_b1
      simp only [Int.toNat_natCast, getD_of hk]
      rw [if_pos (by simpa using hlt), ck_pos (by omega), ck_pos (by omega), if_neg (by rw [decide_eq_true_eq]; omega), if_neg (by rw [decide_eq_true_eq]; omega)]
      cases b
      · rw [if_neg (by simp), ck_pos (by rw [inK_i64]; omega)]; simp
      · have d5' : x % s.2.1 < ((s.2.2.2.getD 0 []).length : Int) := d5
        rw [if_pos rfl, ck_pos c1, ck_pos c2, ck_pos c4, ck_pos c5, ck_pos d2, ck_pos c4, ck_pos d5', ck_pos (by rw [inK_i64]; omega)]
        have e0 : (s.2.2.2.getD 0 []).getD (x % s.2.1).toNat 0 = say s 0 (x % s.2.1) := getD_at s.2.2.2 0 _
        have e1 : (s.2.2.2.getD q.toNat []).getD (x % s.2.1).toNat 0 = say s q (x % s.2.1) := getD_at s.2.2.2 q _
        rw [e0, e1]; simp
    · unfold lineallaw01_SpecCommutes_b1
      rw [if_neg (by simp)]
  rw [l1, Option.bind_some]
  simp only
  unfold lineallaw01_SpecCommutes_k1
  -- the second
  have l2 : ∀ one : Bool, (one = true → ∀ q ∈ ys, say s q (x % s.2.1) = say s 0 (x % s.2.1)) → whileO (lineallaw01_SpecCommutes_b2 s x y (ys, 0)) (readsB s (x % s.2.1), one, 0) = some (.inr ()) := by
    intro one hone
    have key := whileO_list (body := lineallaw01_SpecCommutes_b2 s x y (ys, 0)) (fun (_ : Unit) (i : Int) => (readsB s (x % s.2.1), one, i)) ys (fun u _ => u) (fun _ => Sum.inr ()) (fun _ _ => True) (s0 := ()) trivial (fun k q u hk _ => ?_) (fun u _ => ?_)
    · exact key.1
    · have hlt := (List.getElem?_eq_some_iff.1 hk).1
      have hqm := List.mem_of_getElem? hk
      have hqi := hin q hqm
      refine ⟨?_, trivial⟩
      unfold lineallaw01_SpecCommutes_b2
      simp only [Int.toNat_natCast, getD_of hk]
      rw [if_pos (by simpa using hlt), ck_pos (by omega), ck_pos (by omega), Commute_in hv hs hqi ha hb, Option.bind_some]
      have hk' : InK .i64 ((k : Int) + 1) := by rw [inK_i64]; omega
      simp only [decide_true, Bool.not_true, Bool.false_eq_true, if_false, ck_pos hk']
      cases hr : readsB s (x % s.2.1)
      · simp
      · cases one
        · simp
        · have hc : comB s q (x % s.2.1) (y % s.2.1) = true := by
            obtain ⟨z, hz, rfl⟩ := List.mem_map.1 (hy2.mem_iff.1 hqm)
            refine reads_com hv ha hb hr (fun w hw => ?_) hz
            exact hone rfl w.1 (hy2.mem_iff.2 (List.mem_map.2 ⟨w, hw, rfl⟩))
          rw [hc]; simp
    · unfold lineallaw01_SpecCommutes_b2
      rw [if_neg (by simp)]
  rw [l2 _ fun h q hq => by simpa using List.all_eq_true.1 h q hq, Option.bind_some]
  simp only
  unfold lineallaw01_SpecCommutes_k2
  obtain ⟨r, r1, r2⟩ := Meddles_in hv hs
  rw [r1, Option.bind_some, Awake_eq]
  rcases r2 with r2 | ⟨r2, q1, q2, q3, q4, q5⟩
  · simp [r2]
  · unfold medB at q5
    simp only [Bool.and_eq_true, Bool.not_eq_true'] at q5
    rw [Commute_in hv hs q1 q2 q3, Overwrites_in hv hs q1 q2 q3, Overwrites_in hv hs q1 q3 q2]
    simp [r2, q5.1.1, q5.1.2, q5.2, q4]
end Go.Proofs.Ytmcgmlcfogdioaa
