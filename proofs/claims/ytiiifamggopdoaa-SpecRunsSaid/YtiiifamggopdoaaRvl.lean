import Derived.Test.YtiiifamggopdoaaRtb
import Derived.Test.YtiiifamggopdoaaIsw
namespace Go.Proofs.Ytiiifamggopdoaa
open Go.RowKit

set_option linter.constructorNameAsVariable false

set_option maxHeartbeats 1000000 in
theorem refValid_any (u : Value) (S : Sp) (w : World) (hu : IsSp w u S) :
    Calls Try.prog 22 #[u] w fun e w' => e = .returned (.bool S.ok) ∧ Below w.heap.size w w' := by
  obtain ⟨na, nc, sa, sc, rfl, hn, hs⟩ := hu
  obtain ⟨st, op, nx, sy⟩ := S
  have HN := Lib.hid hn
  have HS := Lib.hid hs
  clear hn hs
  dsimp only at HN HS ⊢
  have hb0 : Below w.heap.size w (w.alloc (.cells #[.int .i64 st, .int .i64 op, .slice na nx.length nc, .slice sa sy.length sc] 24)) := (Below.refl _ _).alloc (Nat.le_refl _) _
  have HB0 := Lib.hid (blk_at w #[.int .i64 st, .int .i64 op, .slice na nx.length nc, .slice sa sy.length sc] 24 _ rfl)
  by_cases h1 : st < 1
  · go_enter Try.func22, Try.ntmps22
    go_wp2_with fail
    go_ret
    exact ⟨ret_bool (Sp.ok_st1 (S := ⟨st, op, nx, sy⟩) h1).symm, hb0⟩
  by_cases h2 : 8 < st
  · go_enter Try.func22, Try.ntmps22
    go_wp2_with fail
    go_ret
    exact ⟨ret_bool (Sp.ok_st8 (S := ⟨st, op, nx, sy⟩) h2).symm, hb0⟩
  by_cases h3 : op < 1
  · go_enter Try.func22, Try.ntmps22
    go_wp2_with fail
    go_ret
    exact ⟨ret_bool (Sp.ok_op1 (S := ⟨st, op, nx, sy⟩) h3).symm, hb0⟩
  by_cases h4 : 4 < op
  · go_enter Try.func22, Try.ntmps22
    go_wp2_with fail
    go_ret
    exact ⟨ret_bool (Sp.ok_op4 (S := ⟨st, op, nx, sy⟩) h4).symm, hb0⟩
  by_cases h5 : tab st op (inR st) nx = true
  · have HT := Lib.hid h5
    have hfin := Lib.hid (Sp.ok_sy (S := ⟨st, op, nx, sy⟩) h1 h2 h3 h4 h5)
    clear h5
    go_enter Try.func22, Try.ntmps22
    go_wp2_with fail
    refine (refTable_any st op _ _ st _ nx _ (HN.out.below hb0)).mono ?_
    rintro e w1 ⟨rfl, hb1⟩
    rw [HT.out]
    have hb01 := below2 hb0 hb1
    have f2 := HB0.out.below hb1
    have e0 := f2.cell (i := 0) rfl
    have e1 := f2.cell (i := 1) rfl
    have e2 := f2.cell (i := 2) rfl
    have e3 := f2.cell (i := 3) rfl
    clear f2
    go_wp2_with fail
    refine (refTable_any st op _ _ 6 _ sy _ (HS.out.below hb01)).mono ?_
    rintro e w2 ⟨rfl, hb2⟩
    rw [← ans_six]
    go_wp2_with fail
    go_ret
    exact ⟨ret_bool hfin.out.symm, below2 hb01 hb2⟩
  · have h5' : tab st op (inR st) nx = false := by simpa using h5
    have HT := Lib.hid h5'
    clear h5 h5'
    go_enter Try.func22, Try.ntmps22
    go_wp2_with fail
    refine (refTable_any st op _ _ st _ nx _ (HN.out.below hb0)).mono ?_
    rintro e w1 ⟨rfl, hb1⟩
    rw [HT.out]
    have hb01 := below2 hb0 hb1
    go_wp2_with fail
    go_ret
    exact ⟨ret_bool (Sp.ok_nx (S := ⟨st, op, nx, sy⟩) HT.out).symm, hb01⟩

/-- The code that a call asked at states gets: 10, 2 or 0. -/
def askP (S : Sp) (ns : List Int) : Int := if S.ok = true then (if ns.all (inR S.st) = true then 0 else 2) else 10

set_option maxHeartbeats 1000000 in
theorem asked_any (u : Value) (S : Sp) (p q : Int) (w : World) (hu : IsSp w u S) :
    Calls Try.prog 61 #[u, .int .i64 p, .int .i64 q] w fun e w' => e = .returned (.int .i64 (askP S [p, q])) ∧ Below w.heap.size w w' := by
  have hu0 := hu
  obtain ⟨na, nc, sa, sc, rfl, hn, hs⟩ := hu
  obtain ⟨st, op, nx, sy⟩ := S
  dsimp only at hn hs hu0 ⊢
  have HU := Lib.hid hu0
  clear hn hs hu0
  have hb0 : Below w.heap.size w (w.alloc (.cells #[.int .i64 st, .int .i64 op, .slice na nx.length nc, .slice sa sy.length sc] 24)) := (Below.refl _ _).alloc (Nat.le_refl _) _
  have HB0 := Lib.hid (blk_at w #[.int .i64 st, .int .i64 op, .slice na nx.length nc, .slice sa sy.length sc] 24 _ rfl)
  cases hok : (Sp.mk st op nx sy).ok with
  | false =>
    have HOK := Lib.hid hok
    clear hok
    go_enter Try.func61, Try.ntmps61
    go_wp2_with fail
    refine (refValid_any _ _ _ (HU.out.below hb0)).mono ?_
    rintro e w1 ⟨rfl, hb1⟩
    rw [HOK.out]
    have hb01 := below2 hb0 hb1
    go_wp2_with fail
    go_ret
    exact ⟨ret_int (by unfold askP; rw [HOK.out]; rfl), hb01⟩
  | true =>
    have HOK := Lib.hid hok
    clear hok
    cases hp : inR st p with
    | false =>
      have HP := Lib.hid hp
      clear hp
      go_enter Try.func61, Try.ntmps61
      go_wp2_with fail
      refine (refValid_any _ _ _ (HU.out.below hb0)).mono ?_
      rintro e w1 ⟨rfl, hb1⟩
      rw [HOK.out]
      have hb01 := below2 hb0 hb1
      have f2 := HB0.out.below hb1
      have e0 := f2.cell (i := 0) rfl
      have e1 := f2.cell (i := 1) rfl
      have e2 := f2.cell (i := 2) rfl
      have e3 := f2.cell (i := 3) rfl
      clear f2
      go_wp2_with fail
      refine (IsState_any st op _ _ p _).mono ?_
      rintro e w2 ⟨rfl, hb2⟩
      rw [HP.out]
      have hb02 := below2 hb01 hb2
      go_wp2_with fail
      go_ret
      exact ⟨ret_int (by unfold askP; rw [HOK.out]; simp [HP.out]), hb02⟩
    | true =>
      have HP := Lib.hid hp
      clear hp
      go_enter Try.func61, Try.ntmps61
      go_wp2_with fail
      refine (refValid_any _ _ _ (HU.out.below hb0)).mono ?_
      rintro e w1 ⟨rfl, hb1⟩
      rw [HOK.out]
      have hb01 := below2 hb0 hb1
      have f2 := HB0.out.below hb1
      have HF2 := Lib.hid f2
      have e0 := f2.cell (i := 0) rfl
      have e1 := f2.cell (i := 1) rfl
      have e2 := f2.cell (i := 2) rfl
      have e3 := f2.cell (i := 3) rfl
      clear f2
      go_wp2_with fail
      refine (IsState_any st op _ _ p _).mono ?_
      rintro e w2 ⟨rfl, hb2⟩
      rw [HP.out]
      have hb02 := below2 hb01 hb2
      have f2 := HF2.out.below hb2
      clear e0 e1 e2 e3
      have e0 := f2.cell (i := 0) rfl
      have e1 := f2.cell (i := 1) rfl
      have e2 := f2.cell (i := 2) rfl
      have e3 := f2.cell (i := 3) rfl
      clear f2
      go_wp2_with fail
      refine (IsState_any st op _ _ q _).mono ?_
      rintro e w3 ⟨rfl, hb3⟩
      have hb03 := below2 hb02 hb3
      cases hq : inR st q
      all_goals
        have HQ := Lib.hid hq
        clear hq
        go_wp2_with fail
        go_ret
        exact ⟨ret_int (by unfold askP; rw [HOK.out]; simp [HP.out, HQ.out]), hb03⟩
end Go.Proofs.Ytiiifamggopdoaa
