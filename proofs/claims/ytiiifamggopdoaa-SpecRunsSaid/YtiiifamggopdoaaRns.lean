import Derived.Test.YtiiifamggopdoaaRun
import Derived.Test.YtiiifamggopdoaaRvl
import Derived.Test.YtiiifamggopdoaaAwk
import Derived.OwnWalk
namespace Go.Proofs.Ytiiifamggopdoaa
open Go.RowKit

set_option linter.constructorNameAsVariable false

/-- The results of Run. -/
def runsP (S : Sp) (q : Int) (ws : List Int) : List Int × Int × Int :=
  if S.ok = true then (if inR S.st q = true then (if wordB S.op ws = true then ((runP S q ws).1, (runP S q ws).2, 0) else ([], 0, 2)) else ([], 0, 2)) else ([], 0, 10)

/-- The results of Tells. -/
def tellsP (S : Sp) (a b : Int) (ws : List Int) : Bool × Int :=
  if S.ok = true then (if inR S.st a = true ∧ inR S.st b = true then (if wordB S.op ws = true then (!sameIntsL (runP S a ws).1 (runP S b ws).1, 0) else (false, 2)) else (false, 2)) else (false, 10)

def RunsRes (w0 : World) (r : List Int × Int × Int) (e : Ending) (w' : World) : Prop :=
  ∃ v, e = .returned (.tuple #[v, .int .i64 r.2.1, .int .i64 r.2.2]) ∧ Ints w' v r.1 ∧ Below w0.heap.size w0 w'

theorem runsRes_nil {w0 w' : World} {r : List Int × Int × Int} {n : Int} (hr : r = ([], 0, n)) (hb : Below w0.heap.size w0 w') : RunsRes w0 r (.returned (.tuple #[.slice none 0 0, .int .i64 0, .int .i64 n])) w' := by
  subst hr; exact ⟨_, rfl, Ints.nil _, hb⟩

theorem runsRes_of {w0 w' : World} {r : List Int × Int × Int} {p : List Int × Int} {v : Value} (hr : r = (p.1, p.2, 0)) (hv : Ints w' v p.1) (hb : Below w0.heap.size w0 w') : RunsRes w0 r (.returned (.tuple #[v, .int .i64 p.2, .int .i64 0])) w' := by
  subst hr; exact ⟨_, rfl, hv, hb⟩

def TellsRes (w0 : World) (r : Bool × Int) (e : Ending) (w' : World) : Prop := e = .returned (.tuple #[.bool r.1, .int .i64 r.2]) ∧ Below w0.heap.size w0 w'

theorem wordB_all {o : Int} {ws : List Int} (h : wordB o ws = true) : ws.all (inR o) = true ∧ ws.length ≤ 20 := by
  unfold wordB at h; rw [Bool.and_eq_true, decide_eq_true_eq] at h; exact ⟨h.2, h.1⟩

set_option maxHeartbeats 1000000 in
theorem Run_any (u : Value) (S : Sp) (q : Int) (v : Value) (ws : List Int) (w : World) (hu : IsSp w u S) (hv : Ints w v ws) :
    Calls Try.prog 17 #[u, .int .i64 q, v] w (RunsRes w (runsP S q ws)) := by
  have hu0 := hu
  obtain ⟨na, nc, sa, sc, rfl, hn, hs⟩ := hu
  obtain ⟨st, op, nx, sy⟩ := S
  dsimp only at hn hs hu0 ⊢
  have HU := Lib.hid hu0
  have HN := Lib.hid hn
  have HS := Lib.hid hs
  have HV := Lib.hid hv
  clear hn hs hu0 hv
  have hb0 : Below w.heap.size w ((w.alloc (.cells #[.int .i64 st, .int .i64 op, .slice na nx.length nc, .slice sa sy.length sc] 24)).alloc (.cells #[.int .i64 q] 3)) := ((Below.refl _ _).alloc (Nat.le_refl _) _).alloc (by simp) _
  have HNS := Lib.hid (one_ints (w.alloc (.cells #[.int .i64 st, .int .i64 op, .slice na nx.length nc, .slice sa sy.length sc] 24)) q (w.heap.size + 1) (by simp) 3)
  cases hok : (Sp.mk st op nx sy).ok with
  | false =>
    have HOK := Lib.hid hok
    have HFIN : Hid (runsP ⟨st, op, nx, sy⟩ q ws = ([], 0, 10)) := by show _ = _; unfold runsP; rw [hok]; rfl
    clear hok
    go_enter Try.func17, Try.ntmps17
    go_wp2_with fail
    refine (checked_bad st op na nc sa sc nx sy _ _ (HU.out.below hb0) HOK.out).mono ?_
    rintro e w1 ⟨rfl, hb1⟩
    unfold zeroSp
    have hb01 := below2 hb0 hb1
    go_wp2_with fail
    go_ret3
    exact runsRes_nil HFIN.out (hb01.alloc hb01.size _)
  | true =>
    have HOK := Lib.hid hok
    cases hin : inR st q with
    | false =>
      have HFIN : Hid (runsP ⟨st, op, nx, sy⟩ q ws = ([], 0, 2)) := by
        show _ = _
        unfold runsP
        rw [if_pos hok, if_neg (fun h => by simp [h] at hin)]
      have HIN : Hid ([q].all (inR st) = false) := Lib.hid (by simp [hin])
      clear hok hin
      go_enter Try.func17, Try.ntmps17
      go_wp2_with fail
      refine (checked_arg st op na nc sa sc nx sy _ [q] _ (HU.out.below hb0) HNS.out HOK.out HIN.out).mono ?_
      rintro e w1 ⟨rfl, hb1⟩
      unfold zeroSp
      have hb01 := below2 hb0 hb1
      go_wp2_with fail
      go_ret3
      exact runsRes_nil HFIN.out (hb01.alloc hb01.size _)
    | true =>
      have HIN : Hid ([q].all (inR st) = true) := Lib.hid (by simp [hin])
      have HQ := Lib.hid hin
      have HFIN : Hid (runsP ⟨st, op, nx, sy⟩ q ws = if wordB op ws = true then ((runP ⟨st, op, nx, sy⟩ q ws).1, (runP ⟨st, op, nx, sy⟩ q ws).2, 0) else ([], 0, 2)) := by
        show _ = _
        unfold runsP
        rw [if_pos hok, if_pos hin]
      clear hok hin
      go_enter Try.func17, Try.ntmps17
      go_wp2_with fail
      refine (checked_ok st op na nc sa sc nx sy _ [q] _ (HU.out.below hb0) HNS.out HOK HIN).mono ?_
      rintro e w1 ⟨rfl, hb1⟩
      have hb01 := below2 hb0 hb1
      have hb12 : Below w1.heap.size w1 (w1.alloc (.cells #[.int .i64 st, .int .i64 op, .slice na nx.length nc, .slice sa sy.length sc] 60)) := (Below.refl _ _).alloc (Nat.le_refl _) _
      have hb02 := below2 hb01 hb12
      have HM := Lib.hid (blk_at w1 #[.int .i64 st, .int .i64 op, .slice na nx.length nc, .slice sa sy.length sc] 60 _ rfl)
      have HB02 := Lib.hid hb02
      go_wp2_with fail
      refine (isWord_any st op _ _ _ ws _ (HV.out.below hb02)).mono ?_
      rintro e w2 ⟨rfl, hb2⟩
      have hb03 := below2 hb02 hb2
      have f2 := HM.out.below hb2
      have e0 := f2.cell (i := 0) rfl
      have e1 := f2.cell (i := 1) rfl
      have e2 := f2.cell (i := 2) rfl
      have e3 := f2.cell (i := 3) rfl
      clear f2
      cases hw : wordB op ws with
      | false =>
        have HW := Lib.hid hw
        clear hw
        go_wp2_with fail
        go_ret3
        exact runsRes_nil (by rw [HFIN.out, HW.out]; rfl) hb03
      | true =>
        have HW := Lib.hid hw
        clear hw
        go_wp2_with fail
        refine (run_any ⟨st, op, nx, sy⟩ HOK.out q HQ.out _ ws (wordB_all HW.out).1 (wordB_all HW.out).2 na nc sa sc _ (HN.out.below hb03) (HS.out.below hb03) (HV.out.below hb03)).mono ?_
        rintro e w3 ⟨v', rfl, hv', hb3⟩
        have hb04 := below2 hb03 hb3
        have HV' := Lib.hid hv'
        clear hv'
        go_wp2_with fail
        go_ret3
        exact runsRes_of (by rw [HFIN.out, HW.out]; rfl) HV'.out hb04

set_option maxHeartbeats 1000000 in
theorem refRun_any (u : Value) (S : Sp) (q : Int) (v : Value) (ws : List Int) (w : World) (hu : IsSp w u S) (hv : Ints w v ws) :
    Calls Try.prog 18 #[u, .int .i64 q, v] w (RunsRes w (runsP S q ws)) := by
  have hu0 := hu
  obtain ⟨na, nc, sa, sc, rfl, hn, hs⟩ := hu
  obtain ⟨st, op, nx, sy⟩ := S
  dsimp only at hn hs hu0 ⊢
  have HU := Lib.hid hu0
  have HN := Lib.hid hn
  have HS := Lib.hid hs
  have HV := Lib.hid hv
  clear hn hs hu0 hv
  have hb0 : Below w.heap.size w (w.alloc (.cells #[.int .i64 st, .int .i64 op, .slice na nx.length nc, .slice sa sy.length sc] 24)) := (Below.refl _ _).alloc (Nat.le_refl _) _
  have HB0 := Lib.hid (blk_at w #[.int .i64 st, .int .i64 op, .slice na nx.length nc, .slice sa sy.length sc] 24 _ rfl)
  cases hok : (Sp.mk st op nx sy).ok with
  | false =>
    have HOK := Lib.hid hok
    have HFIN : Hid (runsP ⟨st, op, nx, sy⟩ q ws = ([], 0, 10)) := by show _ = _; unfold runsP; rw [hok]; rfl
    clear hok
    go_enter Try.func18, Try.ntmps18
    go_wp2_with fail
    refine (refValid_any _ _ _ (HU.out.below hb0)).mono ?_
    rintro e w1 ⟨rfl, hb1⟩
    rw [HOK.out]
    have hb01 := below2 hb0 hb1
    go_wp2_with fail
    go_ret3
    exact runsRes_nil HFIN.out hb01
  | true =>
    have HOK := Lib.hid hok
    cases hin : inR st q with
    | false =>
      have HFIN : Hid (runsP ⟨st, op, nx, sy⟩ q ws = ([], 0, 2)) := by
        show _ = _
        unfold runsP
        rw [if_pos hok, if_neg (fun h => by simp [h] at hin)]
      have HIN := Lib.hid hin
      clear hok hin
      go_enter Try.func18, Try.ntmps18
      go_wp2_with fail
      refine (refValid_any _ _ _ (HU.out.below hb0)).mono ?_
      rintro e w1 ⟨rfl, hb1⟩
      rw [HOK.out]
      have hb01 := below2 hb0 hb1
      have f2 := HB0.out.below hb1
      have e0 := f2.cell (i := 0) rfl
      have e1 := f2.cell (i := 1) rfl
      have e2 := f2.cell (i := 2) rfl
      have e3 := f2.cell (i := 3) rfl
      clear f2
      go_wp2_with fail
      refine (IsState_any st op _ _ q _).mono ?_
      rintro e w2 ⟨rfl, hb2⟩
      rw [HIN.out]
      have hb02 := below2 hb01 hb2
      go_wp2_with fail
      go_ret3
      exact runsRes_nil HFIN.out hb02
    | true =>
      have HQ := Lib.hid hin
      have HFIN : Hid (runsP ⟨st, op, nx, sy⟩ q ws = if wordB op ws = true then ((runP ⟨st, op, nx, sy⟩ q ws).1, (runP ⟨st, op, nx, sy⟩ q ws).2, 0) else ([], 0, 2)) := by
        show _ = _
        unfold runsP
        rw [if_pos hok, if_pos hin]
      clear hok hin
      go_enter Try.func18, Try.ntmps18
      go_wp2_with fail
      refine (refValid_any _ _ _ (HU.out.below hb0)).mono ?_
      rintro e w1 ⟨rfl, hb1⟩
      rw [HOK.out]
      have hb01 := below2 hb0 hb1
      have f2 := HB0.out.below hb1
      have HF2 := Lib.hid f2
      have e0 := f2.cell (i := 0) rfl
      have e1 := f2.cell (i := 1) rfl
      have e2 := f2.cell (i := 2) rfl
      have e3 := f2.cell (i := 3) rfl
      clear f2
      go_wp2_with fail
      refine (IsState_any st op _ _ q _).mono ?_
      rintro e w2 ⟨rfl, hb2⟩
      rw [HQ.out]
      have hb02 := below2 hb01 hb2
      have f2 := HF2.out.below hb2
      have HF3 := Lib.hid f2
      clear e0 e1 e2 e3
      have e0 := f2.cell (i := 0) rfl
      have e1 := f2.cell (i := 1) rfl
      have e2 := f2.cell (i := 2) rfl
      have e3 := f2.cell (i := 3) rfl
      clear f2
      go_wp2_with fail
      refine (IsWord_any st op _ _ _ ws _ (HV.out.below hb02)).mono ?_
      rintro e w3 ⟨rfl, hb3⟩
      have hb03 := below2 hb02 hb3
      have f2 := HF3.out.below hb3
      clear e0 e1 e2 e3
      have e0 := f2.cell (i := 0) rfl
      have e1 := f2.cell (i := 1) rfl
      have e2 := f2.cell (i := 2) rfl
      have e3 := f2.cell (i := 3) rfl
      clear f2
      cases hw : wordB op ws with
      | false =>
        have HW := Lib.hid hw
        clear hw
        go_wp2_with fail
        go_ret3
        exact runsRes_nil (by rw [HFIN.out, HW.out]; rfl) hb03
      | true =>
        have HW := Lib.hid hw
        clear hw
        go_wp2_with fail
        refine (refrun_any ⟨st, op, nx, sy⟩ HOK.out q HQ.out _ ws (wordB_all HW.out).1 (wordB_all HW.out).2 na nc sa sc _ (HN.out.below hb03) (HS.out.below hb03) (HV.out.below hb03)).mono ?_
        rintro e w4 ⟨v', rfl, hv', hb4⟩
        have hb04 := below2 hb03 hb4
        have HV' := Lib.hid hv'
        clear hv'
        go_wp2_with fail
        go_ret3
        exact runsRes_of (by rw [HFIN.out, HW.out]; rfl) HV'.out hb04

end Go.Proofs.Ytiiifamggopdoaa
