import Derived.Test.YtiiifamggopdoaaIsw
import Derived.Test.YtiiifamggopdoaaBfs
import Derived.Test.YtiiifamggopdoaaLon
namespace Go.Proofs.Ytiiifamggopdoaa
open Go.RowKit

set_option linter.constructorNameAsVariable false

/-- The answers to a word from a state, and the state after it. -/
def runP (M : Sp) : Int → List Int → List Int × Int
  | q, [] => ([], q)
  | q, c :: r => (at2 M.sy q c.toNat :: (runP M (at2 M.nx q c.toNat) r).1, (runP M (at2 M.nx q c.toNat) r).2)

theorem runP_snoc (M : Sp) : ∀ (ws : List Int) (q c : Int), runP M q (ws ++ [c]) = ((runP M q ws).1 ++ [at2 M.sy (runP M q ws).2 c.toNat], at2 M.nx (runP M q ws).2 c.toNat)
  | [], q, c => rfl
  | x :: r, q, c => by simp only [List.cons_append, runP, runP_snoc M r]

theorem runP_len (M : Sp) : ∀ (ws : List Int) (q : Int), (runP M q ws).1.length = ws.length
  | [], q => rfl
  | x :: r, q => by simp only [runP, List.length_cons, runP_len M r]

theorem runP_ok {M : Sp} (hM : M.ok = true) : ∀ (ws : List Int) {q : Int}, inR M.st q = true → ws.all (inR M.op) = true → inR M.st (runP M q ws).2 = true
  | [], q, h, _ => h
  | x :: r, q, h, hw => by
    rw [List.all_cons, Bool.and_eq_true] at hw
    simp only [runP]
    refine runP_ok hM r ?_ hw.2
    have hx := hw.1
    simp only [inR, decide_eq_true_eq] at hx
    obtain ⟨_, _, _, h1, _⟩ := tab_at (Sp.okE hM).2.2.2.2.1 h (o := x.toNat) (by omega)
    exact h1

theorem runP_all {M : Sp} (hM : M.ok = true) : ∀ (ws : List Int) {q : Int}, inR M.st q = true → ws.all (inR M.op) = true → (runP M q ws).1.all ansB = true
  | [], q, h, _ => rfl
  | x :: r, q, h, hw => by
    rw [List.all_cons, Bool.and_eq_true] at hw
    simp only [runP, List.all_cons, Bool.and_eq_true]
    have hx := hw.1
    simp only [inR, decide_eq_true_eq] at hx
    obtain ⟨_, _, _, h1, _⟩ := tab_at (Sp.okE hM).2.2.2.2.2 h (o := x.toNat) (by omega)
    obtain ⟨_, _, _, h2, _⟩ := tab_at (Sp.okE hM).2.2.2.2.1 h (o := x.toNat) (by omega)
    exact ⟨h1, runP_all hM r h2 hw.2⟩

def RunRes (w0 : World) (r : List Int × Int) (e : Ending) (w' : World) : Prop :=
  ∃ v, e = .returned (.tuple #[v, .int .i64 r.2]) ∧ Ints w' v r.1 ∧ Below w0.heap.size w0 w'

set_option maxRecDepth 100000 in
set_option maxHeartbeats 1000000 in
theorem run_any (M : Sp) (hM : M.ok = true) (q : Int) (hq : inR M.st q = true) (u : Value) (ws : List Int) (hws : ws.all (inR M.op) = true) (hlen : ws.length ≤ 20) (na : Option Addr) (nc : Nat) (sa : Option Addr) (sc : Nat) (w : World)
    (tn : Mat w (.slice na M.nx.length nc) M.nx) (ts : Mat w (.slice sa M.sy.length sc) M.sy) (hu : Ints w u ws) :
    Calls Try.prog 57 #[.agg #[.int .i64 M.st, .int .i64 M.op, .slice na M.nx.length nc, .slice sa M.sy.length sc], .int .i64 q, u] w (RunRes w (runP M q ws)) := by
  obtain ⟨i0, hi, hz0, hz1, hz2⟩ := info_parts Try.infoInt
  obtain ⟨a, c, rfl, hc1, hc2, hc3⟩ := hu
  have H3 := Lib.hid hc3
  have HM := Lib.hid hM
  have HQ := Lib.hid hq
  have HW := Lib.hid hws
  have HTN := Lib.hid tn
  have HTS := Lib.hid ts
  clear hc3 hM hq hws tn ts
  have HB1 := Lib.hid (blk_at w #[.int .i64 M.st, .int .i64 M.op, .slice na M.nx.length nc, .slice sa M.sy.length sc] 60 _ rfl)
  have hb0 : Below w.heap.size w (w.alloc (.cells #[.int .i64 M.st, .int .i64 M.op, .slice na M.nx.length nc, .slice sa M.sy.length sc] 60)) := (Below.refl _ _).alloc (Nat.le_refl _) _
  obtain ⟨w0, hw0⟩ : ∃ w0, w0 = w.alloc (.cells #[.int .i64 M.st, .int .i64 M.op, .slice na M.nx.length nc, .slice sa M.sy.length sc] 60) := ⟨_, rfl⟩
  have hsz : w0.heap.size = w.heap.size + 1 := by rw [hw0]; simp
  rw [← hw0] at hb0 HB1
  have HW0 := Lib.hid hw0
  have HSZ := Lib.hid hsz
  have HB0 := Lib.hid hb0
  clear hw0 hsz hb0
  go_enter Try.func57, Try.ntmps57
  go_wp2_with fail
  go_loopw [13, 9, 6, 7] (fun i _ v t' wr => ∃ (k : Nat) (t : Int), k ≤ ws.length ∧ i = .int .i64 k ∧ t' = .int .i64 t ∧ Hid (t = (runP M q (ws.take k)).2) ∧ wr.ownsRow (w.heap.size + 1) 3 1 v k ((runP M q (ws.take k)).1.map (Value.int .i64)) ∧ Below w0.heap.size w0 wr) (fun i _ _ _ _ => ws.length - (intOf i).toNat)
  case atStart => exact ⟨0, q, Nat.zero_le _, rfl, rfl, Lib.hid rfl, World.ownsRow_nil _ _ _ _, by rw [HW0.out]; exact Below.refl _ _⟩
  case round =>
    obtain ⟨k, t, hk, rfl, rfl, HT, hown, hb⟩ := hrel
    have HO := Lib.hid hown
    have HBR := Lib.hid hb
    have hbw : Below w.heap.size w wr := HB0.out.trans (hb.mono HB0.out.size)
    have HBW := Lib.hid hbw
    have hrs : w.heap.size + 1 ≤ wr.heap.size := by have := hb.size; have := HSZ.out; omega
    have HRS := Lib.hid hrs
    clear hown hb hbw hrs
    by_cases hlt : k < ws.length
    · obtain ⟨z, hx⟩ := get_of_lt hlt
      obtain ⟨b, off, ha, hcl⟩ := H3.out (by omega)
      subst ha
      have c1 := (HBW.out.cell (p := ⟨b, off + k, none⟩) (cell_lt (hcl k z hx))).trans (hcl k z hx)
      have hzr := List.all_eq_true.1 HW.out z (List.mem_of_getElem? hx)
      have hzr' := hzr
      simp only [inR, decide_eq_true_eq] at hzr'
      obtain ⟨o, rfl⟩ : ∃ o : Nat, z = o := ⟨z.toNat, by omega⟩
      have ho2 : (o : Int) < M.op := hzr'.2
      have hst : inR M.st t = true := by
        rw [HT.out]
        exact runP_ok HM.out _ HQ.out (List.all_eq_true.2 fun y hy => List.all_eq_true.1 HW.out y (List.mem_of_mem_take hy))
      obtain ⟨r1, hrr1, hz1', _, hrl1⟩ := tab_at (Sp.okE HM.out).2.2.2.2.2 hst ho2
      obtain ⟨r2, hrr2, hz2', _, hrl2⟩ := tab_at (Sp.okE HM.out).2.2.2.2.1 hst ho2
      obtain ⟨hnl1, _⟩ := tab_row (Sp.okE HM.out).2.2.2.2.2
      obtain ⟨hnl2, _⟩ := tab_row (Sp.okE HM.out).2.2.2.2.1
      obtain ⟨mb, moff, ra, rc, rfl, cr1, hri1⟩ := (HTS.out.below HBW.out).row hrr1
      have HRR2 := Lib.hid hrr2
      obtain ⟨mb', moff', _, _, rfl, _, _⟩ := (HTN.out.below HBW.out).row hrr2
      obtain ⟨rb, roff, rfl, cz1⟩ := hri1.at hz1'
      have HZ2' := Lib.hid hz2'
      obtain ⟨z1, hzz1⟩ : ∃ z, z = at2 M.sy t o := ⟨_, rfl⟩
      obtain ⟨z2, hzz2⟩ : ∃ z, z = at2 M.nx t o := ⟨_, rfl⟩
      simp only [inR, decide_eq_true_eq] at hst
      rw [← hzz1] at hz1' cz1
      have HZZ2 := Lib.hid hzz2
      have mm := HB1.out.below HBR.out
      have mm3 := mm.cell (i := 3) rfl
      have q1 : t < (M.sy.length : Int) := by omega
      have q2 : t < (M.nx.length : Int) := by omega
      have q3 : (o : Int) < (r1.length : Int) := by omega
      have q4 : (o : Int) < (r2.length : Int) := by omega
      have htk : ws.take (k + 1) = ws.take k ++ [(o : Int)] := by rw [List.take_add_one, hx]; rfl
      have hsn := runP_snoc M (ws.take k) q o
      rw [← htk, ← HT.out, Int.toNat_natCast, ← hzz1, ← hzz2] at hsn
      have HSN := Lib.hid hsn
      have hl0 := runP_len M (ws.take k) q
      have HMM := Lib.hid mm
      clear hx hcl hzr hzr' hrr1 hrr2 hnl1 hnl2 hz1' hz2' hri1 hzz1 hzz2 hsn htk hl0 hrl1 hrl2 mm
      go_wp2_with (
        at_builtin
        refine wpList_append_own _ rfl _ _ 25 rfl (w.heap.size + 1) 3 i0 (.int .i64 0) 1 8 Try.underlying25 hi hz0 hz1 hz2 rfl (by decide) _ k ((runP M q (ws.take k)).1.map (Value.int .i64)) rfl (HO.out.alloc _) ⟨wr.heap.size, 0, none⟩ 1 1 [.int .i64 z1] rfl rfl (cell_one_new _ _ _) (ints_oneCell .i64 [z1]) (by unfold maxLen; omega) (by omega) (by have := HRS.out; simp; omega) ?_
        intro v' w2 hown' hgrow hnil
        have HOW := Lib.hid hown'
        have hb2 : Below wr.heap.size wr (wr.alloc (.cells #[.int .i64 z1] 3)) := (Below.refl _ _).alloc (Nat.le_refl _) _
        have hb3 : Below w0.heap.size w0 w2 := (HBR.out.trans (hb2.mono HBR.out.size)).grown hgrow (by have := HSZ.out; have := HRS.out; simp; omega) (fun k hk => by rw [HSZ.out]; exact (HO.out.lt k hk).1)
        have HB3 := Lib.hid hb3
        have hb4 : Below w.heap.size w w2 := HB0.out.trans (hb3.mono HB0.out.size)
        have HMM2 := Lib.hid (HB1.out.below hb3)
        have mm2 := HMM2.out.cell (i := 2) rfl
        obtain ⟨_, _, _, _, hea, cr2, hri2⟩ := (HTN.out.below hb4).row HRR2.out
        injection hea with hea
        injection hea with hea1 hea2 _
        subst hea1
        subst hea2
        obtain ⟨rb', roff', rfl, cz2⟩ := hri2.at HZ2'.out
        rw [← HZZ2.out] at cz2
        have HB4 := Lib.hid hb4
        clear hown' hgrow hnil hb2 hb3 hb4 hri2)
      go_roundw
      case rel =>
        refine ⟨k + 1, z2, by omega, by go_num, rfl, Lib.hid (by rw [HSN.out]), ?_, HB3.out⟩
        rw [HSN.out]
        simpa using HOW.out
      case measure => simp [intOf]; omega
    · have : k = ws.length := by omega
      subst this
      have hrt : ws.take ws.length = ws := List.take_of_length_le (Nat.le_refl _)
      rw [hrt] at HO HT
      have HIN := Lib.hid (Ints.of_own HO.out (by omega))
      clear hrt
      go_wp2_with fail
      go_ret2
      unfold RunRes
      rw [← HT.out]
      exact ⟨_, rfl, HIN.out, HBW.out⟩

set_option maxRecDepth 100000 in
set_option maxHeartbeats 1000000 in
theorem refrun_any (M : Sp) (hM : M.ok = true) (q : Int) (hq : inR M.st q = true) (u : Value) (ws : List Int) (hws : ws.all (inR M.op) = true) (hlen : ws.length ≤ 20) (na : Option Addr) (nc : Nat) (sa : Option Addr) (sc : Nat) (w : World)
    (tn : Mat w (.slice na M.nx.length nc) M.nx) (ts : Mat w (.slice sa M.sy.length sc) M.sy) (hu : Ints w u ws) :
    Calls Try.prog 59 #[.agg #[.int .i64 M.st, .int .i64 M.op, .slice na M.nx.length nc, .slice sa M.sy.length sc], .int .i64 q, u] w (RunRes w (runP M q ws)) := by
  obtain ⟨i0, hi, hz0, hz1, hz2⟩ := info_parts Try.infoInt
  obtain ⟨a, c, rfl, hc1, hc2, hc3⟩ := hu
  have H3 := Lib.hid hc3
  have HM := Lib.hid hM
  have HQ := Lib.hid hq
  have HW := Lib.hid hws
  have HTN := Lib.hid tn
  have HTS := Lib.hid ts
  clear hc3 hM hq hws tn ts
  have HB1 := Lib.hid (blk_at w #[.int .i64 M.st, .int .i64 M.op, .slice na M.nx.length nc, .slice sa M.sy.length sc] 24 _ rfl)
  have hb0 : Below w.heap.size w (w.alloc (.cells #[.int .i64 M.st, .int .i64 M.op, .slice na M.nx.length nc, .slice sa M.sy.length sc] 24)) := (Below.refl _ _).alloc (Nat.le_refl _) _
  obtain ⟨w0, hw0⟩ : ∃ w0, w0 = w.alloc (.cells #[.int .i64 M.st, .int .i64 M.op, .slice na M.nx.length nc, .slice sa M.sy.length sc] 24) := ⟨_, rfl⟩
  have hsz : w0.heap.size = w.heap.size + 1 := by rw [hw0]; simp
  rw [← hw0] at hb0 HB1
  have HW0 := Lib.hid hw0
  have HSZ := Lib.hid hsz
  have HB0 := Lib.hid hb0
  clear hw0 hsz hb0
  go_enter Try.func59, Try.ntmps59
  go_wp2_with fail
  go_loopw [13, 9, 6, 7] (fun i _ v t' wr => ∃ (k : Nat) (t : Int), k ≤ ws.length ∧ i = .int .i64 k ∧ t' = .int .i64 t ∧ Hid (t = (runP M q (ws.take k)).2) ∧ wr.ownsRow (w.heap.size + 1) 3 1 v k ((runP M q (ws.take k)).1.map (Value.int .i64)) ∧ Below w0.heap.size w0 wr) (fun i _ _ _ _ => ws.length - (intOf i).toNat)
  case atStart => exact ⟨0, q, Nat.zero_le _, rfl, rfl, Lib.hid rfl, World.ownsRow_nil _ _ _ _, by rw [HW0.out]; exact Below.refl _ _⟩
  case round =>
    obtain ⟨k, t, hk, rfl, rfl, HT, hown, hb⟩ := hrel
    have HO := Lib.hid hown
    have HBR := Lib.hid hb
    have hbw : Below w.heap.size w wr := HB0.out.trans (hb.mono HB0.out.size)
    have HBW := Lib.hid hbw
    have hrs : w.heap.size + 1 ≤ wr.heap.size := by have := hb.size; have := HSZ.out; omega
    have HRS := Lib.hid hrs
    clear hown hb hbw hrs
    by_cases hlt : k < ws.length
    · obtain ⟨z, hx⟩ := get_of_lt hlt
      obtain ⟨b, off, ha, hcl⟩ := H3.out (by omega)
      subst ha
      have c1 := (HBW.out.cell (p := ⟨b, off + k, none⟩) (cell_lt (hcl k z hx))).trans (hcl k z hx)
      have hzr := List.all_eq_true.1 HW.out z (List.mem_of_getElem? hx)
      have hzr' := hzr
      simp only [inR, decide_eq_true_eq] at hzr'
      obtain ⟨o, rfl⟩ : ∃ o : Nat, z = o := ⟨z.toNat, by omega⟩
      have ho2 : (o : Int) < M.op := hzr'.2
      have hst : inR M.st t = true := by
        rw [HT.out]
        exact runP_ok HM.out _ HQ.out (List.all_eq_true.2 fun y hy => List.all_eq_true.1 HW.out y (List.mem_of_mem_take hy))
      obtain ⟨r1, hrr1, hz1', _, hrl1⟩ := tab_at (Sp.okE HM.out).2.2.2.2.2 hst ho2
      obtain ⟨r2, hrr2, hz2', _, hrl2⟩ := tab_at (Sp.okE HM.out).2.2.2.2.1 hst ho2
      obtain ⟨hnl1, _⟩ := tab_row (Sp.okE HM.out).2.2.2.2.2
      obtain ⟨hnl2, _⟩ := tab_row (Sp.okE HM.out).2.2.2.2.1
      obtain ⟨mb, moff, ra, rc, rfl, cr1, hri1⟩ := (HTS.out.below HBW.out).row hrr1
      have HRR2 := Lib.hid hrr2
      obtain ⟨mb', moff', _, _, rfl, _, _⟩ := (HTN.out.below HBW.out).row hrr2
      obtain ⟨rb, roff, rfl, cz1⟩ := hri1.at hz1'
      have HZ2' := Lib.hid hz2'
      obtain ⟨z1, hzz1⟩ : ∃ z, z = at2 M.sy t o := ⟨_, rfl⟩
      obtain ⟨z2, hzz2⟩ : ∃ z, z = at2 M.nx t o := ⟨_, rfl⟩
      simp only [inR, decide_eq_true_eq] at hst
      rw [← hzz1] at hz1' cz1
      have HZZ2 := Lib.hid hzz2
      have mm := HB1.out.below HBR.out
      have mm3 := mm.cell (i := 3) rfl
      have q1 : t < (M.sy.length : Int) := by omega
      have q2 : t < (M.nx.length : Int) := by omega
      have q3 : (o : Int) < (r1.length : Int) := by omega
      have q4 : (o : Int) < (r2.length : Int) := by omega
      have htk : ws.take (k + 1) = ws.take k ++ [(o : Int)] := by rw [List.take_add_one, hx]; rfl
      have hsn := runP_snoc M (ws.take k) q o
      rw [← htk, ← HT.out, Int.toNat_natCast, ← hzz1, ← hzz2] at hsn
      have HSN := Lib.hid hsn
      have hl0 := runP_len M (ws.take k) q
      have HMM := Lib.hid mm
      clear hx hcl hzr hzr' hrr1 hrr2 hnl1 hnl2 hz1' hz2' hri1 hzz1 hzz2 hsn htk hl0 hrl1 hrl2 mm
      go_wp2_with (
        at_builtin
        refine wpList_append_own _ rfl _ _ 25 rfl (w.heap.size + 1) 3 i0 (.int .i64 0) 1 8 Try.underlying25 hi hz0 hz1 hz2 rfl (by decide) _ k ((runP M q (ws.take k)).1.map (Value.int .i64)) rfl (HO.out.alloc _) ⟨wr.heap.size, 0, none⟩ 1 1 [.int .i64 z1] rfl rfl (cell_one_new _ _ _) (ints_oneCell .i64 [z1]) (by unfold maxLen; omega) (by omega) (by have := HRS.out; simp; omega) ?_
        intro v' w2 hown' hgrow hnil
        have HOW := Lib.hid hown'
        have hb2 : Below wr.heap.size wr (wr.alloc (.cells #[.int .i64 z1] 3)) := (Below.refl _ _).alloc (Nat.le_refl _) _
        have hb3 : Below w0.heap.size w0 w2 := (HBR.out.trans (hb2.mono HBR.out.size)).grown hgrow (by have := HSZ.out; have := HRS.out; simp; omega) (fun k hk => by rw [HSZ.out]; exact (HO.out.lt k hk).1)
        have HB3 := Lib.hid hb3
        have hb4 : Below w.heap.size w w2 := HB0.out.trans (hb3.mono HB0.out.size)
        have HMM2 := Lib.hid (HB1.out.below hb3)
        have mm2 := HMM2.out.cell (i := 2) rfl
        obtain ⟨_, _, _, _, hea, cr2, hri2⟩ := (HTN.out.below hb4).row HRR2.out
        injection hea with hea
        injection hea with hea1 hea2 _
        subst hea1
        subst hea2
        obtain ⟨rb', roff', rfl, cz2⟩ := hri2.at HZ2'.out
        rw [← HZZ2.out] at cz2
        have HB4 := Lib.hid hb4
        clear hown' hgrow hnil hb2 hb3 hb4 hri2)
      go_roundw
      case rel =>
        refine ⟨k + 1, z2, by omega, by go_num, rfl, Lib.hid (by rw [HSN.out]), ?_, HB3.out⟩
        rw [HSN.out]
        simpa using HOW.out
      case measure => simp [intOf]; omega
    · have : k = ws.length := by omega
      subst this
      have hrt : ws.take ws.length = ws := List.take_of_length_le (Nat.le_refl _)
      rw [hrt] at HO HT
      have HIN := Lib.hid (Ints.of_own HO.out (by omega))
      clear hrt
      go_wp2_with fail
      go_ret2
      unfold RunRes
      rw [← HT.out]
      exact ⟨_, rfl, HIN.out, HBW.out⟩

end Go.Proofs.Ytiiifamggopdoaa
