import Derived.Test.YtiiifamggopdoaaBase
import Derived.Test.YtiiifamggopdoaaProg
import Derived.BigQuiet
import Derived.Deep.QuietTactic
import Derived.Lib.Hide
import Derived.WalkSmall
namespace Go.Proofs.Ytiiifamggopdoaa
open Go.RowKit

def sameIntsL (xs ys : List Int) : Bool := decide (xs = ys)

theorem sameIntsL_ne {xs ys : List Int} {k : Nat} {x y : Int} (hx : xs[k]? = some x) (hy : ys[k]? = some y) (h : x ≠ y) : sameIntsL xs ys = false := by
  unfold sameIntsL
  refine decide_eq_false fun e => h ?_
  subst e; rw [hx] at hy; injection hy

theorem take_step {xs ys : List Int} {k : Nat} {x : Int} (hx : xs[k]? = some x) (hy : ys[k]? = some x) (h : xs.take k = ys.take k) : xs.take (k + 1) = ys.take (k + 1) := by
  rw [List.take_add_one, List.take_add_one, h, hx, hy]

set_option maxHeartbeats 400000 in
theorem SameInts_any (u v : Value) (xs ys : List Int) (w : World) (hu : Ints w u xs) (hv : Ints w v ys) :
    Calls Try.prog 23 #[u, v] w fun e w' => e = .returned (.bool (sameIntsL xs ys)) ∧ Below w.heap.size w w' := by
  obtain ⟨a, c, rfl, hc1, hc2, hc3⟩ := hu
  obtain ⟨a', c', rfl, hc1', hc2', hc3'⟩ := hv
  by_cases hl : xs.length = ys.length
  · have h1 : ((xs.length : Int) != (ys.length : Int)) = false := by simp [hl]
    have HL := Lib.hid hl
    have H3 := Lib.hid hc3
    have H3' := Lib.hid hc3'
    clear hl hc3 hc3'
    go_enter Try.func23, Try.ntmps23
    go_wp2
    go_loopw [13, 5] (fun i _ wr => ∃ k : Nat, k ≤ xs.length ∧ i = .int .i64 k ∧ xs.take k = ys.take k ∧ Below w.heap.size w wr) (fun i _ _ => xs.length - (intOf i).toNat)
    case atStart => exact ⟨0, Nat.zero_le _, rfl, by simp, Below.refl _ _⟩
    case round =>
      obtain ⟨k, hk, rfl, ht, hb⟩ := hrel
      have HT := Lib.hid ht
      clear ht
      by_cases hlt : k < xs.length
      · obtain ⟨x, hx⟩ := get_of_lt hlt
        obtain ⟨y, hy⟩ := get_of_lt (show k < ys.length by rw [← HL.out]; exact hlt)
        obtain ⟨b, off, ha, hcl⟩ := H3.out (by omega)
        obtain ⟨b', off', ha', hcl'⟩ := H3'.out (Nat.lt_of_le_of_lt (Nat.zero_le _) (show k < ys.length by rw [← HL.out]; exact hlt))
        subst ha; subst ha'
        have c1 := (hb.cell (p := ⟨b, off + k, none⟩) (cell_lt (hcl k x hx))).trans (hcl k x hx)
        have c2 := (hb.cell (p := ⟨b', off' + k, none⟩) (cell_lt (hcl' k y hy))).trans (hcl' k y hy)
        have HX := Lib.hid hx
        have HY := Lib.hid hy
        have hky : k < ys.length := by rw [← HL.out]; exact hlt
        clear hx hy hcl hcl'
        by_cases hxy : x = y
        · subst hxy
          have hne : (x != x) = false := by simp
          go_wp2
          go_quiet (fail)
          go_wp2
          go_roundw
          case rel => exact ⟨k + 1, by omega, by go_num, take_step HX.out HY.out HT.out, by first | exact hb | exact below_drewN hb _⟩
          case measure => simp [intOf]; omega
        · have hne : (x != y) = true := by simp [hxy]
          go_wp2
          go_quiet (fail)
          go_wp2
          go_ret
          exact ⟨ret_bool (sameIntsL_ne HX.out HY.out hxy).symm, by first | exact hb | exact below_drewN hb _⟩
      · have : k = xs.length := by omega
        subst this
        go_wp2
        go_ret
        refine ⟨?_, hb⟩
        have h2 := HT.out
        rw [List.take_of_length_le (Nat.le_refl _), List.take_of_length_le (by rw [← HL.out]; exact Nat.le_refl _)] at h2
        simp [sameIntsL, h2]
  · have h1 : ((xs.length : Int) != (ys.length : Int)) = true := by simp; omega
    go_enter Try.func23, Try.ntmps23
    go_wp2
    go_ret
    refine ⟨?_, Below.refl _ _⟩
    have : xs ≠ ys := fun h => hl (by rw [h])
    simp [sameIntsL, this]
end Go.Proofs.Ytiiifamggopdoaa
