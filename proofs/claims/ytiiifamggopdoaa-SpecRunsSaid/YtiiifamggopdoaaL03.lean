import Derived.Test.YtiiifamggopdoaaTel
import Derived.Test.YtiiifamggopdoaaLng
import Derived.Lib.QuietBelow
namespace Go.Proofs.Ytiiifamggopdoaa
open Go.RowKit Go.Sort

set_option linter.constructorNameAsVariable false

theorem same_self (xs : List Int) : sameIntsL xs xs = true := by simp [sameIntsL]

set_option maxRecDepth 100000 in
set_option maxHeartbeats 2000000 in
theorem SpecRuns_any (u : Value) (S : Sp) (a b : Int) (v : Value) (ws : List Int) (w : World) (hu : IsSp w u S) (hv : Ints w v ws) :
    Calls Try.prog 3 #[u, .int .i64 a, .int .i64 b, v] w fun e w' => e = .returned (.bool true) ∧ Below w.heap.size w w' := by
  have hu0 := hu
  obtain ⟨na, nc, sa, sc, rfl, hn, hs⟩ := hu
  obtain ⟨st, op, nx, sy⟩ := S
  dsimp only at hn hs hu0 ⊢
  have HU := Lib.hid hu0
  have HN := Lib.hid hn
  have HS := Lib.hid hs
  have hv0 := hv
  obtain ⟨va, vc, rfl, hv1, hv2, _⟩ := hv
  have HV := Lib.hid hv0
  clear hn hs hu0 hv0
  have hb0 : Below w.heap.size w (w.alloc (.cells #[.int .i64 st, .int .i64 op, .slice na nx.length nc, .slice sa sy.length sc] 24)) := (Below.refl _ _).alloc (Nat.le_refl _) _
  have HB0 := Lib.hid (blk_at w #[.int .i64 st, .int .i64 op, .slice na nx.length nc, .slice sa sy.length sc] 24 _ rfl)
  cases hsh : (Sp.mk st op nx sy).short with
  | false =>
    have HSH := Lib.hid hsh
    clear hsh
    go_enter Try.func3, Try.ntmps3
    go_wp2_with fail
    refine (Long_any _ _ _ (HU.out.below hb0)).mono ?_
    rintro e w1 ⟨rfl, hb1⟩
    rw [HSH.out]
    have hb01 := below2 hb0 hb1
    go_wp2_with fail
    refine (Awake_any _).mono ?_
    rintro e w2 ⟨rfl, hb2⟩
    have hb02 := below2 hb01 hb2
    go_wp2_with fail
    go_ret
    exact ⟨rfl, hb02⟩
  | true =>
    have HSH := Lib.hid hsh
    clear hsh
    by_cases hl : 100 < ws.length
    · go_enter Try.func3, Try.ntmps3
      go_wp2_with fail
      refine (Long_any _ _ _ (HU.out.below hb0)).mono ?_
      rintro e w1 ⟨rfl, hb1⟩
      rw [HSH.out]
      have hb01 := below2 hb0 hb1
      go_wp2_with fail
      refine (Awake_any _).mono ?_
      rintro e w2 ⟨rfl, hb2⟩
      have hb02 := below2 hb01 hb2
      go_wp2_with fail
      go_ret
      exact ⟨rfl, hb02⟩
    · go_enter Try.func3, Try.ntmps3
      go_wp2_with fail
      refine (Long_any _ _ _ (HU.out.below hb0)).mono ?_
      rintro e w1 ⟨rfl, hb1⟩
      rw [HSH.out]
      have hb01 := below2 hb0 hb1
      have f2 := HB0.out.below hb1
      have HF2 := Lib.hid f2
      have e0 := f2.cell (i := 0) rfl
      have e1 := f2.cell (i := 1) rfl
      have e2 := f2.cell (i := 2) rfl
      have e3 := f2.cell (i := 3) rfl
      clear f2
      go_wp2_with fail
      refine (Run_any _ _ a _ ws _ (HU.out.below hb01) (HV.out.below hb01)).mono ?_
      rintro e w2 ⟨r1, rfl, hr1, hb2⟩
      have hb02 := below2 hb01 hb2
      have f2 := HF2.out.below hb2
      have HF3 := Lib.hid f2
      have HR1 := Lib.hid hr1
      clear e0 e1 e2 e3 hr1
      have e0 := f2.cell (i := 0) rfl
      have e1 := f2.cell (i := 1) rfl
      have e2 := f2.cell (i := 2) rfl
      have e3 := f2.cell (i := 3) rfl
      clear f2
      go_wp2_with fail
      refine (refRun_any _ _ a _ ws _ (HU.out.below hb02) (HV.out.below hb02)).mono ?_
      rintro e w3 ⟨r2, rfl, hr2, hb3⟩
      have hb03 := below2 hb02 hb3
      have HR1' := Lib.hid (HR1.out.below hb3)
      have f2 := HF3.out.below hb3
      have HF4 := Lib.hid f2
      have HR2 := Lib.hid hr2
      clear e0 e1 e2 e3 hr2 HR1
      have e0 := f2.cell (i := 0) rfl
      have e1 := f2.cell (i := 1) rfl
      have e2 := f2.cell (i := 2) rfl
      have e3 := f2.cell (i := 3) rfl
      clear f2
      go_wp2_with fail
      refine (Tells_any _ _ a b _ ws _ (HU.out.below hb03) (HV.out.below hb03)).mono ?_
      rintro e w4 ⟨rfl, hb4⟩
      have hb04 := below2 hb03 hb4
      have HR1'' := Lib.hid (HR1'.out.below hb4)
      have HR2' := Lib.hid (HR2.out.below hb4)
      have f2 := HF4.out.below hb4
      have HF5 := Lib.hid f2
      clear e0 e1 e2 e3 HR1' HR2
      have e0 := f2.cell (i := 0) rfl
      have e1 := f2.cell (i := 1) rfl
      have e2 := f2.cell (i := 2) rfl
      have e3 := f2.cell (i := 3) rfl
      clear f2
      go_wp2_with fail
      refine (refTells_any _ _ a b _ ws _ (HU.out.below hb04) (HV.out.below hb04)).mono ?_
      rintro e w5 ⟨rfl, hb5⟩
      have hb05 := below2 hb04 hb5
      have HR1 := Lib.hid (HR1''.out.below hb5)
      have HR2 := Lib.hid (HR2'.out.below hb5)
      have f2 := HF5.out.below hb5
      clear e0 e1 e2 e3 HR1'' HR2'
      have e0 := f2.cell (i := 0) rfl
      have e1 := f2.cell (i := 1) rfl
      have e2 := f2.cell (i := 2) rfl
      have e3 := f2.cell (i := 3) rfl
      have c0 := cell_regrown e0
      have c1 := cell_regrown e1
      have c2 := cell_regrown e2
      have c3 := cell_regrown e3
      have HU5 := Lib.hid (HU.out.below hb05)
      clear f2 e0 e1 e2 e3
      generalize runsP ⟨st, op, nx, sy⟩ a ws = r at *
      generalize tellsP ⟨st, op, nx, sy⟩ a b ws = t at *
      have cV : ∀ d os, Calls Try.prog 21 #[.agg #[.int .i64 st, .int .i64 op, .slice na nx.length nc, .slice sa sy.length sc]] (grow (redrawn w5 d) os) fun e w'' => e = .returned (.bool (Sp.mk st op nx sy).ok) ∧ ∃ p : Regrown, w'' = grow (redrawn w5 p.d) p.os := fun d os => Calls.regrown_of (Valid_any _ _ _ (HU5.out.below (below_regrown w5 d os)))
      have cW : ∀ d os, Calls Try.prog 22 #[.agg #[.int .i64 st, .int .i64 op, .slice na nx.length nc, .slice sa sy.length sc]] (grow (redrawn w5 d) os) fun e w'' => e = .returned (.bool (Sp.mk st op nx sy).ok) ∧ ∃ p : Regrown, w'' = grow (redrawn w5 p.d) p.os := fun d os => Calls.regrown_of (refValid_any _ _ _ (HU5.out.below (below_regrown w5 d os)))
      have cS : ∀ d os, Calls Try.prog 23 #[r1, r2] (grow (redrawn w5 d) os) fun e w'' => e = .returned (.bool true) ∧ ∃ p : Regrown, w'' = grow (redrawn w5 p.d) p.os := fun d os => by
        have h := SameInts_any _ _ _ _ _ (HR1.out.below (below_regrown w5 d os)) (HR2.out.below (below_regrown w5 d os))
        rw [same_self] at h
        exact Calls.regrown_of h
      have cA : ∀ d os, Calls Try.prog 16 #[] (grow (redrawn w5 d) os) fun e w'' => e = .returned (.bool true) ∧ ∃ p : Regrown, w'' = grow (redrawn w5 p.d) p.os := fun d os => Calls.regrown_of (Awake_any _)
      have hfin : ∀ d os, Below w.heap.size w (grow (redrawn w5 d) os) := fun d os => below2 hb05 (below_regrown w5 d os)
      clear HR1 HR2 HU5 HU HN HS HV HB0 hb0 hb1 hb2 hb3 hb4 hb5 hb01 hb02 hb03 hb04 hb05 HF2 HF3 HF4 HF5 HSH
      go_wp2_with fail
      refine wp_region_quiet_below (by kernel_rfl) (by kernel_rfl) ?_
      repeat (quiet_step (first | exact cV _ _ | exact cW _ _ | exact cS _ _ | exact cA _ _))
      refine wpQuiet_nil ?_
      intro _ hw'
      obtain ⟨⟨dq, osq⟩, hw''⟩ := hw'
      subst hw''
      go_wp2_with fail
      go_ret
      exact ⟨rfl, hfin dq osq⟩
end Go.Proofs.Ytiiifamggopdoaa
