/-
  The sanity check of the statements of layer 1: true.
-/
import Derived.Test.YtiiifamggopdoaaWrd
import Derived.Test.YtiiifamggopdoaaT1
namespace Go.Proofs.Ytiiifamggopdoaa
open Go.RowKit

set_option linter.constructorNameAsVariable false

theorem mat2 {w : World} {b : Nat} {a1 a2 : Option Addr} {n1 n2 c1 c2 : Nat} {r1 r2 : List Int} {t : TypeId} (h1 : Ints w (.slice a1 n1 c1) r1) (h2 : Ints w (.slice a2 n2 c2) r2) (hb : Blk w b #[.slice a1 n1 c1, .slice a2 n2 c2] t) :
    Mat w (.slice (some ⟨b, 0, none⟩) 2 2) [r1, r2] := by
  have e1 := h1.len
  have e2 := h2.len
  subst e1; subst e2
  refine ⟨some ⟨b, 0, none⟩, 2, rfl, by simp, by simp, fun _ => ⟨b, 0, rfl, fun i x hx => ?_⟩⟩
  match i, hx with
  | 0, hx => simp at hx; subst hx; exact ⟨_, _, hb.cell (i := 0) rfl, h1⟩
  | 1, hx => simp at hx; subst hx; exact ⟨_, _, hb.cell (i := 1) rfl, h2⟩
  | i + 2, hx => simp at hx

theorem one_ints (w : World) (a : Int) (n : Nat) (hn : n = w.heap.size) (t : TypeId) : Ints (w.alloc (.cells #[.int .i64 a] t)) (.slice (some ⟨n, 0, none⟩) 1 1) [a] := by
  refine ⟨some ⟨n, 0, none⟩, 1, rfl, by simp, by simp, fun _ => ⟨n, 0, rfl, fun i x hx => ?_⟩⟩
  have hb := blk_at w #[.int .i64 a] t n hn
  match i, hx with
  | 0, hx => simp at hx; subst hx; exact hb.cell (i := 0) rfl
  | i + 1, hx => simp at hx

def flagS : Sp := ⟨2, 2, [[1, 0], [1, 1]], [[0, 0], [0, 1]]⟩
theorem flag_word : wordP flagS 0 1 = ([1], 0) := by decide +kernel

def flagW (w : World) : World :=
  ((((((w.alloc (.cells #[.int .i64 1, .int .i64 0] 3)).alloc (.cells #[.int .i64 1, .int .i64 1] 3)).alloc (.cells #[.slice (some ⟨w.heap.size, 0, none⟩) 2 2, .slice (some ⟨w.heap.size + 1, 0, none⟩) 2 2] 25)).alloc (.cells #[.int .i64 0, .int .i64 0] 3)).alloc (.cells #[.int .i64 0, .int .i64 1] 3)).alloc (.cells #[.slice (some ⟨w.heap.size + 1 + 1 + 1, 0, none⟩) 2 2, .slice (some ⟨w.heap.size + 1 + 1 + 1 + 1, 0, none⟩) 2 2] 25)).alloc
    (.cells #[.int .i64 2, .int .i64 2, .slice (some ⟨w.heap.size + 1 + 1, 0, none⟩) 2 2, .slice (some ⟨w.heap.size + 1 + 1 + 1 + 1 + 1, 0, none⟩) 2 2] 24)

theorem flag_sp (w : World) : IsSp (flagW w) (.agg #[.int .i64 2, .int .i64 2, .slice (some ⟨w.heap.size + 1 + 1, 0, none⟩) 2 2, .slice (some ⟨w.heap.size + 1 + 1 + 1 + 1 + 1, 0, none⟩) 2 2]) flagS ∧ Below w.heap.size w (flagW w) := by
  have al : ∀ (W : World) (o : Obj), Below W.heap.size W (W.alloc o) := fun W o => (Below.refl _ _).alloc (Nat.le_refl _) _
  unfold flagW
  refine ⟨⟨_, _, _, _, rfl, ?_, ?_⟩, ?_⟩
  · refine mat2 (t := 25) (a1 := some ⟨w.heap.size, 0, none⟩) (n1 := 2) (c1 := 2) (a2 := some ⟨w.heap.size + 1, 0, none⟩) (n2 := 2) (c2 := 2) ?_ ?_ ?_
    · exact ((((((pair_ints w 1 0 _ rfl 3).below (al _ _)).below (al _ _)).below (al _ _)).below (al _ _)).below (al _ _)).below (al _ _)
    · exact (((((pair_ints _ 1 1 _ (by simp) 3).below (al _ _)).below (al _ _)).below (al _ _)).below (al _ _)).below (al _ _)
    · exact ((((blk_at _ _ _ _ (by simp)).alloc _).alloc _).alloc _).alloc _
  · refine mat2 (t := 25) (a1 := some ⟨w.heap.size + 1 + 1 + 1, 0, none⟩) (n1 := 2) (c1 := 2) (a2 := some ⟨w.heap.size + 1 + 1 + 1 + 1, 0, none⟩) (n2 := 2) (c2 := 2) ?_ ?_ ?_
    · exact (((pair_ints _ 0 0 _ (by simp) 3).below (al _ _)).below (al _ _)).below (al _ _)
    · exact ((pair_ints _ 0 1 _ (by simp) 3).below (al _ _)).below (al _ _)
    · exact (blk_at _ _ _ _ (by simp)).alloc _
  · exact (((((((Below.refl _ w).alloc (Nat.le_refl _) _).alloc (by simp) _).alloc (by simp; omega) _).alloc (by simp; omega) _).alloc (by simp; omega) _).alloc (by simp; omega) _).alloc (by simp; omega) _

set_option maxHeartbeats 1000000 in
theorem Awake_any (w : World) : Calls Try.prog 16 #[] w fun e w' => e = .returned (.bool true) ∧ Below w.heap.size w w' := by
  have HS := Lib.hid (flag_sp w)
  go_enter Try.func16, Try.ntmps16
  go_wp2_with fail
  refine Calls.mono (Word_any _ flagS 0 1 _ HS.out.1) ?_
  rintro e w1 ⟨v, rfl, hv, hb1⟩
  rw [flag_word] at hv ⊢
  have HB := Lib.hid (HS.out.2.trans (hb1.mono HS.out.2.size))
  have HV := Lib.hid hv
  clear hb1 hv
  have HV2 := Lib.hid (HV.out.below ((Below.refl _ _).alloc (Nat.le_refl _) (.cells #[.int .i64 1] 3)))
  have HO := Lib.hid (one_ints w1 1 _ rfl 3)
  go_wp2_with fail
  refine (SameInts_any _ _ [1] [1] _ HV2.out HO.out).mono ?_
  rintro e w2 ⟨rfl, hb2⟩
  have h1 : sameIntsL [1] [1] = true := by decide
  rw [h1]
  go_wp2_with fail
  go_ret
  exact ⟨rfl, (HB.out.alloc (by have := HB.out.size; omega) _).trans (hb2.mono (by have := HB.out.size; simp; omega))⟩
end Go.Proofs.Ytiiifamggopdoaa
