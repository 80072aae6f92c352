import Derived.Test.YtiiifamggopdoaaRns
namespace Go.Proofs.Ytiiifamggopdoaa
open Go.RowKit

set_option linter.constructorNameAsVariable false

theorem tells_of {w0 w' : World} {r : Bool × Int} {b : Bool} {n : Int} (hr : r = (b, n)) (hb : Below w0.heap.size w0 w') : TellsRes w0 r (.returned (.tuple #[.bool b, .int .i64 n])) w' := by
  subst hr; exact ⟨rfl, hb⟩

set_option maxRecDepth 100000 in
set_option maxHeartbeats 1000000 in
theorem Tells_any (u : Value) (S : Sp) (a b : Int) (v : Value) (ws : List Int) (w : World) (hu : IsSp w u S) (hv : Ints w v ws) :
    Calls Try.prog 19 #[u, .int .i64 a, .int .i64 b, v] w (TellsRes w (tellsP S a b ws)) := by
  have hu0 := hu
  obtain ⟨na, nc, sa, sc, rfl, hn, hs⟩ := hu
  obtain ⟨st, op, nx, sy⟩ := S
  dsimp only at hn hs hu0 ⊢
  have HU := Lib.hid hu0
  have HN := Lib.hid hn
  have HS := Lib.hid hs
  have HV := Lib.hid hv
  clear hn hs hu0 hv
  have hb0 : Below w.heap.size w ((w.alloc (.cells #[.int .i64 st, .int .i64 op, .slice na nx.length nc, .slice sa sy.length sc] 24)).alloc (.cells #[.int .i64 a, .int .i64 b] 3)) := ((Below.refl _ _).alloc (Nat.le_refl _) _).alloc (by simp) _
  have HNS := Lib.hid (pair_ints (w.alloc (.cells #[.int .i64 st, .int .i64 op, .slice na nx.length nc, .slice sa sy.length sc] 24)) a b (w.heap.size + 1) (by simp) 3)
  cases hok : (Sp.mk st op nx sy).ok with
  | false =>
    have HOK := Lib.hid hok
    have HFIN : Hid (tellsP ⟨st, op, nx, sy⟩ a b ws = (false, 10)) := by show _ = _; unfold tellsP; rw [hok]; rfl
    clear hok
    go_enter Try.func19, Try.ntmps19
    go_wp2_with fail
    refine (checked_bad st op na nc sa sc nx sy _ _ (HU.out.below hb0) HOK.out).mono ?_
    rintro e w1 ⟨rfl, hb1⟩
    unfold zeroSp
    have hb01 := below2 hb0 hb1
    go_wp2_with fail
    go_ret2
    exact tells_of HFIN.out (hb01.alloc hb01.size _)
  | true =>
    have HOK := Lib.hid hok
    cases hin : [a, b].all (inR st) with
    | false =>
      have HIN := Lib.hid hin
      have HFIN : Hid (tellsP ⟨st, op, nx, sy⟩ a b ws = (false, 2)) := by
        show _ = _
        unfold tellsP
        rw [if_pos hok, if_neg (fun h => by simp [h.1, h.2] at hin)]
      clear hok hin
      go_enter Try.func19, Try.ntmps19
      go_wp2_with fail
      refine (checked_arg st op na nc sa sc nx sy _ [a, b] _ (HU.out.below hb0) HNS.out HOK.out HIN.out).mono ?_
      rintro e w1 ⟨rfl, hb1⟩
      unfold zeroSp
      have hb01 := below2 hb0 hb1
      go_wp2_with fail
      go_ret2
      exact tells_of HFIN.out (hb01.alloc hb01.size _)
    | true =>
      have HIN := Lib.hid hin
      have hab : inR st a = true ∧ inR st b = true := by simpa using hin
      have HAB := Lib.hid hab
      have HFIN : Hid (tellsP ⟨st, op, nx, sy⟩ a b ws = if wordB op ws = true then (!sameIntsL (runP ⟨st, op, nx, sy⟩ a ws).1 (runP ⟨st, op, nx, sy⟩ b ws).1, 0) else (false, 2)) := by
        show _ = _
        unfold tellsP
        rw [if_pos hok, if_pos hab]
      clear hok hin hab
      go_enter Try.func19, Try.ntmps19
      go_wp2_with fail
      refine (checked_ok st op na nc sa sc nx sy _ [a, b] _ (HU.out.below hb0) HNS.out HOK HIN).mono ?_
      rintro e w1 ⟨rfl, hb1⟩
      have hb01 := below2 hb0 hb1
      have hb12 : Below w1.heap.size w1 (w1.alloc (.cells #[.int .i64 st, .int .i64 op, .slice na nx.length nc, .slice sa sy.length sc] 60)) := (Below.refl _ _).alloc (Nat.le_refl _) _
      have hb02 := below2 hb01 hb12
      have HM := Lib.hid (blk_at w1 #[.int .i64 st, .int .i64 op, .slice na nx.length nc, .slice sa sy.length sc] 60 _ rfl)
      have HB02 := Lib.hid hb02
      go_wp2_with fail
      refine (isWord_any st op _ _ _ ws _ (HV.out.below hb02)).mono ?_
      rintro e w2 ⟨rfl, hb2⟩
      have hb03 := below2 hb02 hb2
      have f2 := HM.out.below hb2
      have HF2 := Lib.hid f2
      have e0 := f2.cell (i := 0) rfl
      have e1 := f2.cell (i := 1) rfl
      have e2 := f2.cell (i := 2) rfl
      have e3 := f2.cell (i := 3) rfl
      clear f2
      cases hw : wordB op ws with
      | false =>
        have HW := Lib.hid hw
        clear hw
        go_wp2_with fail
        go_ret2
        exact tells_of (by rw [HFIN.out, HW.out]; rfl) hb03
      | true =>
        have HW := Lib.hid hw
        clear hw
        go_wp2_with fail
        refine (run_any ⟨st, op, nx, sy⟩ HOK.out a HAB.out.1 _ ws (wordB_all HW.out).1 (wordB_all HW.out).2 na nc sa sc _ (HN.out.below hb03) (HS.out.below hb03) (HV.out.below hb03)).mono ?_
        rintro e w3 ⟨v1, rfl, hv1, hb3⟩
        have hb04 := below2 hb03 hb3
        have HV1 := Lib.hid hv1
        have f2 := HF2.out.below hb3
        clear hv1 e0 e1 e2 e3
        have e0 := f2.cell (i := 0) rfl
        have e1 := f2.cell (i := 1) rfl
        have e2 := f2.cell (i := 2) rfl
        have e3 := f2.cell (i := 3) rfl
        clear f2
        go_wp2_with fail
        refine (run_any ⟨st, op, nx, sy⟩ HOK.out b HAB.out.2 _ ws (wordB_all HW.out).1 (wordB_all HW.out).2 na nc sa sc _ (HN.out.below hb04) (HS.out.below hb04) (HV.out.below hb04)).mono ?_
        rintro e w4 ⟨v2, rfl, hv2, hb4⟩
        have hb05 := below2 hb04 hb4
        have HV1' := Lib.hid (HV1.out.below hb4)
        have HV2 := Lib.hid hv2
        clear hv2
        go_wp2_with fail
        refine (Equal_any _ _ _ _ _ HV1'.out HV2.out).mono ?_
        rintro e w5 ⟨rfl, hb5⟩
        have hb06 := below2 hb05 hb5
        go_wp2_with fail
        go_ret2
        exact tells_of (by rw [HFIN.out, HW.out]; rfl) hb06

set_option maxRecDepth 100000 in
set_option maxHeartbeats 1000000 in
theorem refTells_any (u : Value) (S : Sp) (a b : Int) (v : Value) (ws : List Int) (w : World) (hu : IsSp w u S) (hv : Ints w v ws) :
    Calls Try.prog 20 #[u, .int .i64 a, .int .i64 b, v] w (TellsRes w (tellsP S a b ws)) := by
  have hu0 := hu
  obtain ⟨na, nc, sa, sc, rfl, hn, hs⟩ := hu
  obtain ⟨st, op, nx, sy⟩ := S
  dsimp only at hn hs hu0 ⊢
  have HU := Lib.hid hu0
  have HN := Lib.hid hn
  have HS := Lib.hid hs
  have HV := Lib.hid hv
  clear hn hs hu0 hv
  have hb0 : Below w.heap.size w (w.alloc (.cells #[.int .i64 st, .int .i64 op, .slice na nx.length nc, .slice sa sy.length sc] 24)) := (Below.refl _ _).alloc (Nat.le_refl _) _
  have HB0 := Lib.hid (blk_at w #[.int .i64 st, .int .i64 op, .slice na nx.length nc, .slice sa sy.length sc] 24 _ rfl)
  cases hok : (Sp.mk st op nx sy).ok with
  | false =>
    have HOK := Lib.hid hok
    have HFIN : Hid (tellsP ⟨st, op, nx, sy⟩ a b ws = (false, 10)) := by show _ = _; unfold tellsP; rw [hok]; rfl
    have HASK : Hid (askP ⟨st, op, nx, sy⟩ [a, b] = 10) := by show _ = _; unfold askP; rw [hok]; rfl
    clear hok
    go_enter Try.func20, Try.ntmps20
    go_wp2_with fail
    refine (asked_any _ _ a b _ (HU.out.below hb0)).mono ?_
    rintro e w1 ⟨rfl, hb1⟩
    rw [HASK.out]
    have hb01 := below2 hb0 hb1
    go_wp2_with fail
    go_ret2
    exact tells_of HFIN.out hb01
  | true =>
    have HOK := Lib.hid hok
    cases hin : [a, b].all (inR st) with
    | false =>
      have HFIN : Hid (tellsP ⟨st, op, nx, sy⟩ a b ws = (false, 2)) := by
        show _ = _
        unfold tellsP
        rw [if_pos hok, if_neg (fun h => by simp [h.1, h.2] at hin)]
      have HASK : Hid (askP ⟨st, op, nx, sy⟩ [a, b] = 2) := by show _ = _; unfold askP; rw [if_pos hok, hin]; rfl
      clear hok hin
      go_enter Try.func20, Try.ntmps20
      go_wp2_with fail
      refine (asked_any _ _ a b _ (HU.out.below hb0)).mono ?_
      rintro e w1 ⟨rfl, hb1⟩
      rw [HASK.out]
      have hb01 := below2 hb0 hb1
      go_wp2_with fail
      go_ret2
      exact tells_of HFIN.out hb01
    | true =>
      have hab : inR st a = true ∧ inR st b = true := by simpa using hin
      have HAB := Lib.hid hab
      have HASK : Hid (askP ⟨st, op, nx, sy⟩ [a, b] = 0) := by show _ = _; unfold askP; rw [if_pos hok, hin]; rfl
      have HFIN : Hid (tellsP ⟨st, op, nx, sy⟩ a b ws = if wordB op ws = true then (!sameIntsL (runP ⟨st, op, nx, sy⟩ a ws).1 (runP ⟨st, op, nx, sy⟩ b ws).1, 0) else (false, 2)) := by
        show _ = _
        unfold tellsP
        rw [if_pos hok, if_pos hab]
      clear hok hin hab
      go_enter Try.func20, Try.ntmps20
      go_wp2_with fail
      refine (asked_any _ _ a b _ (HU.out.below hb0)).mono ?_
      rintro e w1 ⟨rfl, hb1⟩
      rw [HASK.out]
      have hb01 := below2 hb0 hb1
      have f2 := HB0.out.below hb1
      have HF2 := Lib.hid f2
      have e0 := f2.cell (i := 0) rfl
      have e1 := f2.cell (i := 1) rfl
      have e2 := f2.cell (i := 2) rfl
      have e3 := f2.cell (i := 3) rfl
      clear f2
      go_wp2_with fail
      refine (IsWord_any st op _ _ _ ws _ (HV.out.below hb01)).mono ?_
      rintro e w2 ⟨rfl, hb2⟩
      have hb03 := below2 hb01 hb2
      have f2 := HF2.out.below hb2
      have HF3 := Lib.hid f2
      clear e0 e1 e2 e3
      have e0 := f2.cell (i := 0) rfl
      have e1 := f2.cell (i := 1) rfl
      have e2 := f2.cell (i := 2) rfl
      have e3 := f2.cell (i := 3) rfl
      clear f2
      cases hw : wordB op ws with
      | false =>
        have HW := Lib.hid hw
        clear hw
        go_wp2_with fail
        go_ret2
        exact tells_of (by rw [HFIN.out, HW.out]; rfl) hb03
      | true =>
        have HW := Lib.hid hw
        clear hw
        go_wp2_with fail
        refine (refrun_any ⟨st, op, nx, sy⟩ HOK.out a HAB.out.1 _ ws (wordB_all HW.out).1 (wordB_all HW.out).2 na nc sa sc _ (HN.out.below hb03) (HS.out.below hb03) (HV.out.below hb03)).mono ?_
        rintro e w3 ⟨v1, rfl, hv1, hb3⟩
        have hb04 := below2 hb03 hb3
        have HV1 := Lib.hid hv1
        have f2 := HF3.out.below hb3
        clear hv1 e0 e1 e2 e3
        have e0 := f2.cell (i := 0) rfl
        have e1 := f2.cell (i := 1) rfl
        have e2 := f2.cell (i := 2) rfl
        have e3 := f2.cell (i := 3) rfl
        clear f2
        go_wp2_with fail
        refine (refrun_any ⟨st, op, nx, sy⟩ HOK.out b HAB.out.2 _ ws (wordB_all HW.out).1 (wordB_all HW.out).2 na nc sa sc _ (HN.out.below hb04) (HS.out.below hb04) (HV.out.below hb04)).mono ?_
        rintro e w4 ⟨v2, rfl, hv2, hb4⟩
        have hb05 := below2 hb04 hb4
        have HV1' := Lib.hid (HV1.out.below hb4)
        have HV2 := Lib.hid hv2
        clear hv2
        go_wp2_with fail
        refine (SameInts_any _ _ _ _ _ HV1'.out HV2.out).mono ?_
        rintro e w5 ⟨rfl, hb5⟩
        have hb06 := below2 hb05 hb5
        go_wp2_with fail
        go_ret2
        exact tells_of (by rw [HFIN.out, HW.out]; rfl) hb06

end Go.Proofs.Ytiiifamggopdoaa
