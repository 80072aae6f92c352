import Derived.Test.YtiiifamggopdoaaTab
namespace Go.Proofs.Ytiiifamggopdoaa
open Go.RowKit

theorem Sp.ok_st1 {S : Sp} (h : S.st < 1) : S.ok = false := by unfold Sp.ok; rw [decide_eq_false (by omega)]; simp
theorem Sp.ok_st8 {S : Sp} (h : 8 < S.st) : S.ok = false := by unfold Sp.ok; rw [show decide (S.st ≤ 8) = false from decide_eq_false (by omega)]; simp
theorem Sp.ok_op1 {S : Sp} (h : S.op < 1) : S.ok = false := by unfold Sp.ok; rw [show decide (1 ≤ S.op) = false from decide_eq_false (by omega)]; simp
theorem Sp.ok_op4 {S : Sp} (h : 4 < S.op) : S.ok = false := by unfold Sp.ok; rw [show decide (S.op ≤ 4) = false from decide_eq_false (by omega)]; simp
theorem Sp.ok_nx {S : Sp} (h : tab S.st S.op (inR S.st) S.nx = false) : S.ok = false := by unfold Sp.ok; rw [h]; simp
theorem Sp.ok_sy {S : Sp} (a : ¬ S.st < 1) (b : ¬ 8 < S.st) (c : ¬ S.op < 1) (d : ¬ 4 < S.op) (h : tab S.st S.op (inR S.st) S.nx = true) : S.ok = tab S.st S.op ansB S.sy := by
  unfold Sp.ok
  rw [h, show decide (1 ≤ S.st) = true from decide_eq_true (by omega), show decide (S.st ≤ 8) = true from decide_eq_true (by omega), show decide (1 ≤ S.op) = true from decide_eq_true (by omega), show decide (S.op ≤ 4) = true from decide_eq_true (by omega)]
  simp

set_option maxHeartbeats 400000 in
theorem Valid_any (u : Value) (S : Sp) (w : World) (hu : IsSp w u S) :
    Calls Try.prog 21 #[u] w fun e w' => e = .returned (.bool S.ok) ∧ Below w.heap.size w w' := by
  obtain ⟨na, nc, sa, sc, rfl, hn, hs⟩ := hu
  obtain ⟨st, op, nx, sy⟩ := S
  have HN := Lib.hid hn
  have HS := Lib.hid hs
  clear hn hs
  dsimp only at HN HS ⊢
  by_cases h1 : st < 1
  · go_enter Try.func21, Try.ntmps21
    go_wp2_with fail
    go_ret
    exact ⟨ret_bool (Sp.ok_st1 h1).symm, (Below.refl _ _).alloc (Nat.le_refl _) _⟩
  by_cases h2 : 8 < st
  · go_enter Try.func21, Try.ntmps21
    go_wp2_with fail
    go_ret
    exact ⟨ret_bool (Sp.ok_st8 h2).symm, (Below.refl _ _).alloc (Nat.le_refl _) _⟩
  by_cases h3 : op < 1
  · go_enter Try.func21, Try.ntmps21
    go_wp2_with fail
    go_ret
    exact ⟨ret_bool (Sp.ok_op1 h3).symm, (Below.refl _ _).alloc (Nat.le_refl _) _⟩
  by_cases h4 : 4 < op
  · go_enter Try.func21, Try.ntmps21
    go_wp2_with fail
    go_ret
    exact ⟨ret_bool (Sp.ok_op4 h4).symm, (Below.refl _ _).alloc (Nat.le_refl _) _⟩
  have hb0 : Below w.heap.size w ((w.alloc (.cells #[.int .i64 st, .int .i64 op, .slice na nx.length nc, .slice sa sy.length sc] 24)).alloc (.cells #[.int .i64 st, .int .i64 op, .slice na nx.length nc, .slice sa sy.length sc] 60)) := ((Below.refl _ _).alloc (Nat.le_refl _) _).alloc (by simp) _
  have HB0 := Lib.hid ((blk_at w #[.int .i64 st, .int .i64 op, .slice na nx.length nc, .slice sa sy.length sc] 24 _ rfl).alloc (.cells #[.int .i64 st, .int .i64 op, .slice na nx.length nc, .slice sa sy.length sc] 60))
  have HB1 := Lib.hid (blk_at (w.alloc (.cells #[.int .i64 st, .int .i64 op, .slice na nx.length nc, .slice sa sy.length sc] 24)) #[.int .i64 st, .int .i64 op, .slice na nx.length nc, .slice sa sy.length sc] 60 (w.heap.size + 1) (by simp))
  by_cases h5 : tab st op (inR st) nx = true
  · have HT := Lib.hid h5
    have hfin := Lib.hid (Sp.ok_sy (S := ⟨st, op, nx, sy⟩) h1 h2 h3 h4 h5)
    clear h5
    go_enter Try.func21, Try.ntmps21
    go_wp2_with fail
    refine (isTable_isState st op _ _ st op _ _ _ nx _ (HN.out.below hb0)).mono ?_
    rintro e w1 ⟨rfl, hb1⟩
    rw [HT.out]
    have hb01 := below2 hb0 hb1
    have f1 := (HB0.out.below hb1).cell (i := 3) rfl
    have f2 := HB1.out.below hb1
    have e0 := f2.cell (i := 0) rfl
    have e1 := f2.cell (i := 1) rfl
    have e2 := f2.cell (i := 2) rfl
    have e3 := f2.cell (i := 3) rfl
    clear f2
    go_wp2_with fail
    refine (isTable_isAnswer st op _ _ _ sy _ (HS.out.below hb01)).mono ?_
    rintro e w2 ⟨rfl, hb2⟩
    go_wp2_with fail
    go_ret
    exact ⟨ret_bool hfin.out.symm, below2 hb01 hb2⟩
  · have h5' : tab st op (inR st) nx = false := by simpa using h5
    have HT := Lib.hid h5'
    clear h5 h5'
    go_enter Try.func21, Try.ntmps21
    go_wp2_with fail
    refine (isTable_isState st op _ _ st op _ _ _ nx _ (HN.out.below hb0)).mono ?_
    rintro e w1 ⟨rfl, hb1⟩
    rw [HT.out]
    have hb01 := below2 hb0 hb1
    go_wp2_with fail
    go_ret
    exact ⟨ret_bool (Sp.ok_nx (S := ⟨st, op, nx, sy⟩) HT.out).symm, hb01⟩
end Go.Proofs.Ytiiifamggopdoaa
