import Derived.Test.YtiiifamggopdoaaBase
import Derived.Test.YtiiifamggopdoaaProg
import Derived.Maps.AppendAt
namespace Go.Proofs.Ytiiifamggopdoaa
open Go.RowKit

theorem Try.infoInt : (Try.prog.info? 3).map (fun i => (i.zero, i.size, i.bytes)) = some (some (.int .i64 0), 1, 8) := by kernel_rfl

def OwnInts (w0 : World) (xs : List Int) (e : Ending) (w' : World) : Prop :=
  ∃ v, e = .returned v ∧ w'.ownsRow w0.heap.size 3 1 v xs.length (xs.map (Value.int .i64)) ∧ Below w0.heap.size w0 w'

set_option maxHeartbeats 400000 in
theorem Clone_any (u : Value) (xs : List Int) (w : World) (hu : Ints w u xs) :
    Calls Try.prog 78 #[u] w (OwnInts w xs) := by
  obtain ⟨a, c, rfl, hc1, hc2, hc3⟩ := hu
  cases a with
  | none =>
    have h0 : xs = [] := by
      cases xs with
      | nil => rfl
      | cons x r => obtain ⟨b, off, h, _⟩ := hc3 (by simp); cases h
    subst h0
    clear hc3 hc1 hc2
    have hq := fun (w : World) => Lib.run_eql_slice_nil (P := Try.prog) w 25 3 none 0 c 0 0 Try.underlying25
    go_enter Try.func78, Try.ntmps78
    go_wp2
    go_ret
    exact ⟨_, rfl, World.ownsRow_nil _ _ _ _, Below.refl _ _⟩
  | some ad =>
    obtain ⟨i0, hi, hz0, hz1, hz2⟩ := info_parts Try.infoInt
    have hq := fun (w : World) => Lib.run_eql_slice_nil (P := Try.prog) w 25 3 (some ad) xs.length c 0 0 Try.underlying25
    have hu' : Ints w (.slice (some ad) xs.length c) xs := ⟨some ad, c, rfl, hc1, hc2, hc3⟩
    have hnews := Lib.hid (hu'.news ((Below.refl _ _).alloc (Nat.le_refl _) (.cells #[] 3)))
    clear hu' hc3
    go_enter Try.func78, Try.ntmps78
    go_wp2_with (at_builtin; refine wpList_append_own _ rfl _ _ 25 rfl w.heap.size 3 i0 (.int .i64 0) 1 8 Try.underlying25 hi hz0 hz1 hz2 rfl (by decide) _ 0 [] rfl (World.ownsRow_made _ _ _ (Nat.le_refl _) (by decide) (by simp)) ad xs.length c (xs.map (Value.int .i64)) rfl (by simp) hnews.out (ints_oneCell .i64 xs) (by unfold maxLen; omega) (by omega) (by simp) ?_; intro v' w1 hown' hgrow hnil)
    go_ret
    refine ⟨_, rfl, by simpa using hown', ?_⟩
    exact ((Below.refl _ _).alloc (Nat.le_refl _) _).grown hgrow (by simp) (fun k hk => Nat.le_of_eq (Option.some.inj hk))

set_option maxHeartbeats 400000 in
theorem longer_any (u : Value) (xs : List Int) (z : Int) (w : World) (hu : Ints w u xs) (hl : xs.length ≤ 1000000) :
    Calls Try.prog 95 #[u, .int .i64 z] w (OwnInts w (xs ++ [z])) := by
  obtain ⟨i0, hi, hz0, hz1, hz2⟩ := info_parts Try.infoInt
  have HU := Lib.hid hu
  clear hu
  go_enter Try.func95, Try.ntmps95
  go_wp2_with fail
  refine (Clone_any u xs w HU.out).mono ?_
  rintro e w1 ⟨v1, rfl, hown, hb1⟩
  have hs1 := hb1.size
  have HO := Lib.hid hown
  clear hown
  go_wp2_with (at_builtin; refine wpList_append_own _ rfl _ _ 25 rfl w.heap.size 3 i0 (.int .i64 0) 1 8 Try.underlying25 hi hz0 hz1 hz2 rfl (by decide) v1 xs.length (xs.map (Value.int .i64)) rfl (HO.out.alloc _) ⟨w1.heap.size, 0, none⟩ 1 1 [.int .i64 z] rfl rfl (cell_one_new _ _ _) (ints_oneCell .i64 [z]) (by unfold maxLen; omega) (by omega) (by simp; omega) ?_; intro v' w2 hown' hgrow hnil)
  go_ret
  refine ⟨_, rfl, by simpa using hown', ?_⟩
  exact (hb1.alloc (by omega) _).grown hgrow (by simp; omega) (fun k hk => (HO.out.lt k hk).1)
end Go.Proofs.Ytiiifamggopdoaa
