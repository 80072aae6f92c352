import Derived.Test.YtiiifamggopdoaaVal
namespace Go.Proofs.Ytiiifamggopdoaa
open Go.RowKit

def zeroSp : Value := .agg #[.int .i64 0, .int .i64 0, .slice none 0 0, .slice none 0 0]

set_option maxHeartbeats 400000 in
theorem checked_bad (st op : Int) (na : Option Addr) (nc : Nat) (sa : Option Addr) (sc : Nat) (nx sy : List (List Int)) (ns : Value) (w : World)
    (hu : IsSp w (.agg #[.int .i64 st, .int .i64 op, .slice na nx.length nc, .slice sa sy.length sc]) ⟨st, op, nx, sy⟩) (hok : Hid ((Sp.mk st op nx sy).ok = false)) :
    Calls Try.prog 55 #[.agg #[.int .i64 st, .int .i64 op, .slice na nx.length nc, .slice sa sy.length sc], ns] w fun e w' => e = .returned (.tuple #[zeroSp, .int .i64 10]) ∧ Below w.heap.size w w' := by
  have HU := Lib.hid hu
  clear hu
  have hb0 : Below w.heap.size w ((w.alloc (.cells #[.int .i64 st, .int .i64 op, .slice na nx.length nc, .slice sa sy.length sc] 24)).alloc (.cells #[.int .i64 0, .int .i64 0, .slice none 0 0, .slice none 0 0] 60)) := ((Below.refl _ _).alloc (Nat.le_refl _) _).alloc (by simp) _
  have HB1 := Lib.hid (blk_at (w.alloc (.cells #[.int .i64 st, .int .i64 op, .slice na nx.length nc, .slice sa sy.length sc] 24)) #[.int .i64 0, .int .i64 0, .slice none 0 0, .slice none 0 0] 60 (w.heap.size + 1) (by simp))
  go_enter Try.func55, Try.ntmps55
  go_wp2_with fail
  refine (Valid_any _ _ _ (HU.out.below hb0)).mono ?_
  rintro e w1 ⟨rfl, hb1⟩
  rw [hok.out]
  have f2 := HB1.out.below hb1
  have e0 := f2.cell (i := 0) rfl
  have e1 := f2.cell (i := 1) rfl
  have e2 := f2.cell (i := 2) rfl
  have e3 := f2.cell (i := 3) rfl
  have g0 := f2.free 0
  have g1 := f2.free 1
  have g2 := f2.free 2
  have g3 := f2.free 3
  clear f2
  go_wp2_with fail
  refine bodyPost_ret (v := .tuple #[zeroSp, .int .i64 10]) (by simp [results, zeroSp, Try.results55, go_sem, e0, e1, e2, e3]) rfl ⟨rfl, ?_⟩
  have hb01 := below2 hb0 hb1
  exact (((hb01.setCell (by simp) _).setCell (by simp) _).setCell (by simp) _).setCell (by simp) _

set_option maxHeartbeats 400000 in
theorem checked_arg (st op : Int) (na : Option Addr) (nc : Nat) (sa : Option Addr) (sc : Nat) (nx sy : List (List Int)) (nv : Value) (ns : List Int) (w : World)
    (hu : IsSp w (.agg #[.int .i64 st, .int .i64 op, .slice na nx.length nc, .slice sa sy.length sc]) ⟨st, op, nx, sy⟩) (hns : Ints w nv ns) (hok : Hid ((Sp.mk st op nx sy).ok = true)) (hall : Hid (ns.all (inR st) = false)) :
    Calls Try.prog 55 #[.agg #[.int .i64 st, .int .i64 op, .slice na nx.length nc, .slice sa sy.length sc], nv] w fun e w' => e = .returned (.tuple #[zeroSp, .int .i64 2]) ∧ Below w.heap.size w w' := by
  have HU := Lib.hid hu
  have HNS := Lib.hid hns
  clear hu hns
  have hb0 : Below w.heap.size w ((w.alloc (.cells #[.int .i64 st, .int .i64 op, .slice na nx.length nc, .slice sa sy.length sc] 24)).alloc (.cells #[.int .i64 0, .int .i64 0, .slice none 0 0, .slice none 0 0] 60)) := ((Below.refl _ _).alloc (Nat.le_refl _) _).alloc (by simp) _
  have HB0 := Lib.hid ((blk_at w #[.int .i64 st, .int .i64 op, .slice na nx.length nc, .slice sa sy.length sc] 24 _ rfl).alloc (.cells #[.int .i64 0, .int .i64 0, .slice none 0 0, .slice none 0 0] 60))
  have HB1 := Lib.hid (blk_at (w.alloc (.cells #[.int .i64 st, .int .i64 op, .slice na nx.length nc, .slice sa sy.length sc] 24)) #[.int .i64 0, .int .i64 0, .slice none 0 0, .slice none 0 0] 60 (w.heap.size + 1) (by simp))
  go_enter Try.func55, Try.ntmps55
  go_wp2_with fail
  refine (Valid_any _ _ _ (HU.out.below hb0)).mono ?_
  rintro e w1 ⟨rfl, hb1⟩
  rw [hok.out]
  have hb01 := below2 hb0 hb1
  have hs1 : w.heap.size + 2 ≤ w1.heap.size := by have := hb1.size; simp at this; omega
  have HB1' := Lib.hid (HB1.out.below hb1)
  have f2 := HB0.out.below hb1
  have e0 := f2.cell (i := 0) rfl
  have e1 := f2.cell (i := 1) rfl
  have e2 := f2.cell (i := 2) rfl
  have e3 := f2.cell (i := 3) rfl
  clear f2
  have hb1' : Below w1.heap.size w1 (w1.alloc (.cells #[.int .i64 st, .int .i64 op, .slice na nx.length nc, .slice sa sy.length sc] 60)) := (Below.refl _ _).alloc (Nat.le_refl _) _
  have HM := Lib.hid (blk_at w1 #[.int .i64 st, .int .i64 op, .slice na nx.length nc, .slice sa sy.length sc] 60 _ rfl)
  go_wp2_with fail
  refine (all_isState st op _ _ _ ns _ (HNS.out.below (below2 hb01 hb1'))).mono ?_
  rintro e w2 ⟨rfl, hb2⟩
  rw [hall.out]
  have hb02 := below2 (below2 hb01 hb1') hb2
  have hs2 : w1.heap.size + 1 ≤ w2.heap.size := by have := hb2.size; simp at this; omega
  have f3 := (HB1'.out.below hb1').below hb2
  have e4 := f3.cell (i := 0) rfl
  have e5 := f3.cell (i := 1) rfl
  have e6 := f3.cell (i := 2) rfl
  have e7 := f3.cell (i := 3) rfl
  have g0 := f3.free 0
  have g1 := f3.free 1
  have g2 := f3.free 2
  have g3 := f3.free 3
  clear f3 e0 e1 e2 e3
  have f4 := HM.out.below hb2
  have e8 := f4.cell (i := 0) rfl
  have e9 := f4.cell (i := 1) rfl
  have e10 := f4.cell (i := 2) rfl
  have e11 := f4.cell (i := 3) rfl
  clear f4
  go_wp2_with fail
  refine bodyPost_ret (v := .tuple #[zeroSp, .int .i64 2]) (by simp [results, zeroSp, Try.results55, go_sem, e4, e5, e6, e7]) rfl ⟨rfl, ?_⟩
  exact (((hb02.setCell (by simp) _).setCell (by simp) _).setCell (by simp) _).setCell (by simp) _

set_option maxHeartbeats 400000 in
theorem checked_ok (st op : Int) (na : Option Addr) (nc : Nat) (sa : Option Addr) (sc : Nat) (nx sy : List (List Int)) (nv : Value) (ns : List Int) (w : World)
    (hu : IsSp w (.agg #[.int .i64 st, .int .i64 op, .slice na nx.length nc, .slice sa sy.length sc]) ⟨st, op, nx, sy⟩) (hns : Ints w nv ns) (hok : Hid ((Sp.mk st op nx sy).ok = true)) (hall : Hid (ns.all (inR st) = true)) :
    Calls Try.prog 55 #[.agg #[.int .i64 st, .int .i64 op, .slice na nx.length nc, .slice sa sy.length sc], nv] w fun e w' => e = .returned (.tuple #[.agg #[.int .i64 st, .int .i64 op, .slice na nx.length nc, .slice sa sy.length sc], .int .i64 0]) ∧ Below w.heap.size w w' := by
  have HU := Lib.hid hu
  have HNS := Lib.hid hns
  clear hu hns
  have hb0 : Below w.heap.size w ((w.alloc (.cells #[.int .i64 st, .int .i64 op, .slice na nx.length nc, .slice sa sy.length sc] 24)).alloc (.cells #[.int .i64 0, .int .i64 0, .slice none 0 0, .slice none 0 0] 60)) := ((Below.refl _ _).alloc (Nat.le_refl _) _).alloc (by simp) _
  have HB0 := Lib.hid ((blk_at w #[.int .i64 st, .int .i64 op, .slice na nx.length nc, .slice sa sy.length sc] 24 _ rfl).alloc (.cells #[.int .i64 0, .int .i64 0, .slice none 0 0, .slice none 0 0] 60))
  have HB1 := Lib.hid (blk_at (w.alloc (.cells #[.int .i64 st, .int .i64 op, .slice na nx.length nc, .slice sa sy.length sc] 24)) #[.int .i64 0, .int .i64 0, .slice none 0 0, .slice none 0 0] 60 (w.heap.size + 1) (by simp))
  go_enter Try.func55, Try.ntmps55
  go_wp2_with fail
  refine (Valid_any _ _ _ (HU.out.below hb0)).mono ?_
  rintro e w1 ⟨rfl, hb1⟩
  rw [hok.out]
  have hb01 := below2 hb0 hb1
  have hs1 : w.heap.size + 2 ≤ w1.heap.size := by have := hb1.size; simp at this; omega
  have HB1' := Lib.hid (HB1.out.below hb1)
  have f2 := HB0.out.below hb1
  have e0 := f2.cell (i := 0) rfl
  have e1 := f2.cell (i := 1) rfl
  have e2 := f2.cell (i := 2) rfl
  have e3 := f2.cell (i := 3) rfl
  clear f2
  have hb1' : Below w1.heap.size w1 (w1.alloc (.cells #[.int .i64 st, .int .i64 op, .slice na nx.length nc, .slice sa sy.length sc] 60)) := (Below.refl _ _).alloc (Nat.le_refl _) _
  have HM := Lib.hid (blk_at w1 #[.int .i64 st, .int .i64 op, .slice na nx.length nc, .slice sa sy.length sc] 60 _ rfl)
  go_wp2_with fail
  refine (all_isState st op _ _ _ ns _ (HNS.out.below (below2 hb01 hb1'))).mono ?_
  rintro e w2 ⟨rfl, hb2⟩
  rw [hall.out]
  have hb02 := below2 (below2 hb01 hb1') hb2
  have hs2 : w1.heap.size + 1 ≤ w2.heap.size := by have := hb2.size; simp at this; omega
  have f3 := (HB1'.out.below hb1').below hb2
  have e4 := f3.cell (i := 0) rfl
  have e5 := f3.cell (i := 1) rfl
  have e6 := f3.cell (i := 2) rfl
  have e7 := f3.cell (i := 3) rfl
  have g0 := f3.free 0
  have g1 := f3.free 1
  have g2 := f3.free 2
  have g3 := f3.free 3
  clear f3 e0 e1 e2 e3
  have f4 := HM.out.below hb2
  have e8 := f4.cell (i := 0) rfl
  have e9 := f4.cell (i := 1) rfl
  have e10 := f4.cell (i := 2) rfl
  have e11 := f4.cell (i := 3) rfl
  clear f4
  go_wp2_with fail
  refine bodyPost_ret (v := .tuple #[.agg #[.int .i64 st, .int .i64 op, .slice na nx.length nc, .slice sa sy.length sc], .int .i64 0]) (by simp [results, Try.results55, go_sem, e4, e5, e6, e7]) rfl ⟨rfl, ?_⟩
  exact (((hb02.setCell (by simp) _).setCell (by simp) _).setCell (by simp) _).setCell (by simp) _

end Go.Proofs.Ytiiifamggopdoaa
