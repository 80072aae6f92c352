/-
  spec.Word, and the sanity check of the statements of layer 1.
-/
import Derived.Test.YtiiifamggopdoaaApt
import Derived.Test.YtiiifamggopdoaaCkd
namespace Go.Proofs.Ytiiifamggopdoaa
open Go.RowKit

set_option linter.constructorNameAsVariable false

theorem apart_any (M N : Sp) (hM : M.ok = true) (hN : N.ok = true) (hop : M.op = N.op) (f1 f2 : Int) (hf : okP M N (f1, f2)) (na : Option Addr) (nc : Nat) (sa : Option Addr) (sc : Nat) (na' : Option Addr) (nc' : Nat) (sa' : Option Addr) (sc' : Nat) (w : World)
    (tn : Mat w (.slice na M.nx.length nc) M.nx) (ts : Mat w (.slice sa M.sy.length sc) M.sy) (tn' : Mat w (.slice na' N.nx.length nc') N.nx) (ts' : Mat w (.slice sa' N.sy.length sc') N.sy) :
    Calls Try.prog 68 #[.agg #[.int .i64 M.st, .int .i64 M.op, .slice na M.nx.length nc, .slice sa M.sy.length sc], .agg #[.int .i64 N.st, .int .i64 N.op, .slice na' N.nx.length nc', .slice sa' N.sy.length sc'], .agg #[.int .i64 f1, .int .i64 f2]] w
      fun e w' => ∃ v b, e = .returned (.tuple #[v, .bool b]) ∧ ApRes (apartP M N (f1, f2)) v b w' ∧ Below w.heap.size w w' :=
  callsIn_wide.1 (apart_in M N hM hN hop f1 f2 hf na nc sa sc na' nc' sa' sc' w tn ts tn' ts')

def wordP (S : Sp) (a b : Int) : List Int × Int :=
  if S.ok = true then (if inR S.st a = true ∧ inR S.st b = true then (match apartP S S (a, b) with | some wd => (wd, 0) | none => ([], 5)) else ([], 2)) else ([], 10)

def IntsErr (w0 : World) (r : List Int × Int) (e : Ending) (w' : World) : Prop := ∃ v, e = .returned (.tuple #[v, .int .i64 r.2]) ∧ Ints w' v r.1 ∧ Below w0.heap.size w0 w'

theorem intsErr_nil {w0 w' : World} {r : List Int × Int} {n : Int} (hr : r = ([], n)) (hb : Below w0.heap.size w0 w') : IntsErr w0 r (.returned (.tuple #[.slice none 0 0, .int .i64 n])) w' := by
  subst hr; exact ⟨_, rfl, Ints.nil _, hb⟩

theorem pair_ints (w : World) (a b : Int) (n : Nat) (hn : n = w.heap.size) (t : TypeId) : Ints (w.alloc (.cells #[.int .i64 a, .int .i64 b] t)) (.slice (some ⟨n, 0, none⟩) 2 2) [a, b] := by
  refine ⟨some ⟨n, 0, none⟩, 2, rfl, by simp, by simp, fun _ => ⟨n, 0, rfl, fun i x hx => ?_⟩⟩
  have hb := blk_at w #[.int .i64 a, .int .i64 b] t n hn
  match i, hx with
  | 0, hx => simp at hx; subst hx; exact hb.cell (i := 0) rfl
  | 1, hx => simp at hx; subst hx; exact hb.cell (i := 1) rfl
  | i + 2, hx => simp at hx

set_option maxHeartbeats 1000000 in
theorem Word_any (u : Value) (S : Sp) (a b : Int) (w : World) (hu : IsSp w u S) : Calls Try.prog 26 #[u, .int .i64 a, .int .i64 b] w (IntsErr w (wordP S a b)) := by
  have hu0 := hu
  obtain ⟨na, nc, sa, sc, rfl, hn, hs⟩ := hu
  obtain ⟨st, op, nx, sy⟩ := S
  dsimp only at hn hs hu0 ⊢
  have HU := Lib.hid hu0
  have HN := Lib.hid hn
  have HS := Lib.hid hs
  clear hn hs hu0
  have hb0 : Below w.heap.size w ((w.alloc (.cells #[.int .i64 st, .int .i64 op, .slice na nx.length nc, .slice sa sy.length sc] 24)).alloc (.cells #[.int .i64 a, .int .i64 b] 3)) := ((Below.refl _ _).alloc (Nat.le_refl _) _).alloc (by simp) _
  have HNS := Lib.hid (pair_ints (w.alloc (.cells #[.int .i64 st, .int .i64 op, .slice na nx.length nc, .slice sa sy.length sc] 24)) a b (w.heap.size + 1) (by simp) 3)
  have HB0 := Lib.hid ((blk_at w #[.int .i64 st, .int .i64 op, .slice na nx.length nc, .slice sa sy.length sc] 24 _ rfl).alloc (.cells #[.int .i64 a, .int .i64 b] 3))
  cases hok : (Sp.mk st op nx sy).ok with
  | false =>
    have HOK := Lib.hid hok
    have HFIN : Hid (wordP ⟨st, op, nx, sy⟩ a b = ([], 10)) := by show _ = _; unfold wordP; rw [hok]; rfl
    clear hok
    go_enter Try.func26, Try.ntmps26
    go_wp2_with fail
    refine (checked_bad st op na nc sa sc nx sy _ _ (HU.out.below hb0) HOK.out).mono ?_
    rintro e w1 ⟨rfl, hb1⟩
    unfold zeroSp
    have hb01 := below2 hb0 hb1
    go_wp2_with fail
    go_ret2
    exact intsErr_nil HFIN.out (hb01.alloc hb01.size _)
  | true =>
    have HOK := Lib.hid hok
    cases hin : [a, b].all (inR st) with
    | false =>
      have HIN := Lib.hid hin
      have HFIN : Hid (wordP ⟨st, op, nx, sy⟩ a b = ([], 2)) := by
        show _ = _
        unfold wordP
        rw [if_pos hok, if_neg (fun h => by simp [h.1, h.2] at hin)]
      clear hok hin
      go_enter Try.func26, Try.ntmps26
      go_wp2_with fail
      refine (checked_arg st op na nc sa sc nx sy _ [a, b] _ (HU.out.below hb0) HNS.out HOK.out HIN.out).mono ?_
      rintro e w1 ⟨rfl, hb1⟩
      unfold zeroSp
      have hb01 := below2 hb0 hb1
      go_wp2_with fail
      go_ret2
      exact intsErr_nil HFIN.out (hb01.alloc hb01.size _)
    | true =>
      have HIN := Lib.hid hin
      have hab : inR st a = true ∧ inR st b = true := by simpa using hin
      have HAB := Lib.hid hab
      have HFIN : Hid (wordP ⟨st, op, nx, sy⟩ a b = (match apartP ⟨st, op, nx, sy⟩ ⟨st, op, nx, sy⟩ (a, b) with | some wd => (wd, 0) | none => ([], 5))) := by
        show _ = _
        unfold wordP
        rw [if_pos hok, if_pos hab]
      clear hok hin hab
      go_enter Try.func26, Try.ntmps26
      go_wp2_with fail
      refine (checked_ok st op na nc sa sc nx sy _ [a, b] _ (HU.out.below hb0) HNS.out HOK.out HIN.out).mono ?_
      rintro e w1 ⟨rfl, hb1⟩
      have hb01 := below2 hb0 hb1
      have hb12 : Below w1.heap.size w1 (w1.alloc (.cells #[.int .i64 st, .int .i64 op, .slice na nx.length nc, .slice sa sy.length sc] 60)) := (Below.refl _ _).alloc (Nat.le_refl _) _
      have hb02 := below2 hb01 hb12
      have HB02 := Lib.hid hb02
      go_wp2_with fail
      refine (apart_any ⟨st, op, nx, sy⟩ ⟨st, op, nx, sy⟩ HOK.out HOK.out rfl a b HAB.out na nc sa sc na nc sa sc _ (HN.out.below hb02) (HS.out.below hb02) (HN.out.below hb02) (HS.out.below hb02)).mono ?_
      rintro e w2 ⟨v, bb, rfl, hr, hb2⟩
      have hb03 := below2 hb02 hb2
      cases hap : apartP ⟨st, op, nx, sy⟩ ⟨st, op, nx, sy⟩ (a, b) with
      | none =>
        rw [hap] at hr
        obtain ⟨rfl, rfl⟩ := hr
        have HAP := Lib.hid hap
        clear hap
        go_wp2_with fail
        go_ret2
        exact intsErr_nil (by rw [HFIN.out, HAP.out]) hb03
      | some wd =>
        rw [hap] at hr
        obtain ⟨rfl, hv⟩ := hr
        have HAP := Lib.hid hap
        have HV := Lib.hid hv
        clear hap hv
        go_wp2_with fail
        go_ret2
        have e1 : wordP ⟨st, op, nx, sy⟩ a b = (wd, 0) := by rw [HFIN.out, HAP.out]
        rw [e1]
        exact ⟨_, rfl, HV.out, hb03⟩
end Go.Proofs.Ytiiifamggopdoaa
