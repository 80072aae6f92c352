import Derived.Test.YtiiifamggopdoaaChk
import Derived.Test.YtiiifamggopdoaaT1
import Derived.Lib.Hide
namespace Go.Proofs.Ytiiifamggopdoaa
open Go.RowKit

/-- A word: at most 20 calls. -/
def wordB (o : Int) (xs : List Int) : Bool := decide (xs.length ≤ 20) && xs.all (inR o)

set_option maxHeartbeats 400000 in
theorem isWord_any (s o : Int) (x y : Value) (u : Value) (xs : List Int) (w : World) (hu : Ints w u xs) :
    Calls Try.prog 56 #[.agg #[.int .i64 s, .int .i64 o, x, y], u] w fun e w' => e = .returned (.bool (wordB o xs)) ∧ Below w.heap.size w w' := by
  have hu0 := Lib.hid (hu.below ((Below.refl w.heap.size w).alloc (Nat.le_refl _) (.cells #[.int .i64 s, .int .i64 o, x, y] 60)))
  obtain ⟨a, c, rfl, hc1, hc2, hc3⟩ := hu
  clear hc3
  by_cases hl : xs.length ≤ 20
  · go_enter Try.func56, Try.ntmps56
    go_wp2_with fail
    refine (all_isCall s o x y _ xs _ hu0.out).mono ?_
    rintro e w1 ⟨rfl, hb1⟩
    go_wp2_with fail
    go_ret
    refine ⟨ret_bool ?_, below2 ((Below.refl _ _).alloc (Nat.le_refl _) _) hb1⟩
    unfold wordB; rw [decide_eq_true hl]; simp
  · go_enter Try.func56, Try.ntmps56
    go_wp2_with fail
    go_ret
    refine ⟨ret_bool ?_, (Below.refl _ _).alloc (Nat.le_refl _) _⟩
    unfold wordB; rw [decide_eq_false hl]; simp

set_option maxHeartbeats 400000 in
theorem IsState_any (s o : Int) (x y : Value) (n : Int) (w : World) :
    Calls Try.prog 58 #[.agg #[.int .i64 s, .int .i64 o, x, y], .int .i64 n] w fun e w' => e = .returned (.bool (inR s n)) ∧ Below w.heap.size w w' := by
  by_cases h0 : 0 ≤ n
  all_goals
    go_enter Try.func58, Try.ntmps58
    go_wp2
    go_ret
    exact ⟨ret_bool (by first | (simp [inR]; omega) | simp [inR, h0]), ((Below.refl _ _).alloc (Nat.le_refl _) _)⟩

set_option maxHeartbeats 400000 in
theorem IsOp_any (s o : Int) (x y : Value) (n : Int) (w : World) :
    Calls Try.prog 92 #[.agg #[.int .i64 s, .int .i64 o, x, y], .int .i64 n] w fun e w' => e = .returned (.bool (inR o n)) ∧ Below w.heap.size w w' := by
  by_cases h0 : 0 ≤ n
  all_goals
    go_enter Try.func92, Try.ntmps92
    go_wp2
    go_ret
    exact ⟨ret_bool (by first | (simp [inR]; omega) | simp [inR, h0]), ((Below.refl _ _).alloc (Nat.le_refl _) _)⟩

set_option maxHeartbeats 400000 in
theorem IsWord_any (s o : Int) (x y : Value) (u : Value) (xs : List Int) (w : World) (hu : Ints w u xs) :
    Calls Try.prog 53 #[.agg #[.int .i64 s, .int .i64 o, x, y], u] w fun e w' => e = .returned (.bool (wordB o xs)) ∧ Below w.heap.size w w' := by
  obtain ⟨a, c, rfl, hc1, hc2, hc3⟩ := hu
  have H3 := Lib.hid hc3
  clear hc3
  have HB1 := Lib.hid (blk_at w #[.int .i64 s, .int .i64 o, x, y] 24 _ rfl)
  have hb0 : Below w.heap.size w (w.alloc (.cells #[.int .i64 s, .int .i64 o, x, y] 24)) := (Below.refl _ _).alloc (Nat.le_refl _) _
  go_enter Try.func53, Try.ntmps53
  go_wp2_with fail
  go_loopw [9, 6] (fun i _ wr => ∃ k : Nat, k ≤ xs.length ∧ i = .int .i64 k ∧ (xs.take k).all (inR o) = true ∧ Below w.heap.size w wr ∧ Blk wr w.heap.size #[.int .i64 s, .int .i64 o, x, y] 24) (fun i _ _ => xs.length - (intOf i).toNat)
  case atStart => exact ⟨0, Nat.zero_le _, rfl, by simp, hb0, HB1.out⟩
  case round =>
    obtain ⟨k, hk, rfl, ht, hb, hblk⟩ := hrel
    have HT := Lib.hid ht
    have m0 := hblk.cell (i := 0) rfl
    have m1 := hblk.cell (i := 1) rfl
    have m2 := hblk.cell (i := 2) rfl
    have m3 := hblk.cell (i := 3) rfl
    have HBL := Lib.hid hblk
    clear ht hblk
    by_cases hlt : k < xs.length
    · obtain ⟨z, hx⟩ := get_of_lt hlt
      obtain ⟨b, off, ha, hcl⟩ := H3.out (by omega)
      subst ha
      have c1 := (hb.cell (p := ⟨b, off + k, none⟩) (cell_lt (hcl k z hx))).trans (hcl k z hx)
      have HX := Lib.hid hx
      clear hx hcl
      by_cases hp : inR o z = true
      · have HP := Lib.hid hp
        clear hp
        go_wp2_with fail
        refine (IsOp_any s o x y z _).mono ?_
        rintro e w' ⟨rfl, hb'⟩
        rw [HP.out]
        have HBL' := Lib.hid (HBL.out.below hb')
        go_wp2_with fail
        go_roundw
        case rel => exact ⟨k + 1, by omega, by go_num, all_take_step HX.out HT.out HP.out, hb.trans (hb'.mono hb.size), HBL'.out⟩
        case measure => simp [intOf]; omega
      · have hp' : inR o z = false := by simpa using hp
        have HP := Lib.hid hp'
        clear hp hp'
        go_wp2_with fail
        refine (IsOp_any s o x y z _).mono ?_
        rintro e w' ⟨rfl, hb'⟩
        rw [HP.out]
        go_wp2_with fail
        go_ret
        exact ⟨ret_bool (by unfold wordB; rw [all_no HX.out HP.out]; simp), hb.trans (hb'.mono hb.size)⟩
    · have : k = xs.length := by omega
      subst this
      have hal := Lib.hid (all_end HT.out)
      by_cases hl : xs.length ≤ 20
      all_goals
        go_wp2_with fail
        go_ret
        exact ⟨ret_bool (by unfold wordB; rw [hal.out]; simp [hl] <;> omega), hb⟩

set_option maxHeartbeats 400000 in
theorem Equal_any (u v : Value) (xs ys : List Int) (w : World) (hu : Ints w u xs) (hv : Ints w v ys) :
    Calls Try.prog 60 #[u, v] w fun e w' => e = .returned (.bool (sameIntsL xs ys)) ∧ Below w.heap.size w w' := by
  obtain ⟨a, c, rfl, hc1, hc2, hc3⟩ := hu
  obtain ⟨a', c', rfl, hc1', hc2', hc3'⟩ := hv
  by_cases hl : xs.length = ys.length
  · have h1 : ((xs.length : Int) != (ys.length : Int)) = false := by simp [hl]
    have HL := Lib.hid hl
    have H3 := Lib.hid hc3
    have H3' := Lib.hid hc3'
    clear hl hc3 hc3'
    go_enter Try.func60, Try.ntmps60
    go_wp2
    go_loopw [13, 5] (fun i _ wr => ∃ k : Nat, k ≤ xs.length ∧ i = .int .i64 k ∧ xs.take k = ys.take k ∧ Below w.heap.size w wr) (fun i _ _ => xs.length - (intOf i).toNat)
    case atStart => exact ⟨0, Nat.zero_le _, rfl, by simp, Below.refl _ _⟩
    case round =>
      obtain ⟨k, hk, rfl, ht, hb⟩ := hrel
      have HT := Lib.hid ht
      clear ht
      by_cases hlt : k < xs.length
      · obtain ⟨x, hx⟩ := get_of_lt hlt
        obtain ⟨y, hy⟩ := get_of_lt (show k < ys.length by rw [← HL.out]; exact hlt)
        obtain ⟨b, off, ha, hcl⟩ := H3.out (by omega)
        obtain ⟨b', off', ha', hcl'⟩ := H3'.out (Nat.lt_of_le_of_lt (Nat.zero_le _) (show k < ys.length by rw [← HL.out]; exact hlt))
        subst ha; subst ha'
        have c1 := (hb.cell (p := ⟨b, off + k, none⟩) (cell_lt (hcl k x hx))).trans (hcl k x hx)
        have c2 := (hb.cell (p := ⟨b', off' + k, none⟩) (cell_lt (hcl' k y hy))).trans (hcl' k y hy)
        have HX := Lib.hid hx
        have HY := Lib.hid hy
        have hky : k < ys.length := by rw [← HL.out]; exact hlt
        clear hx hy hcl hcl'
        by_cases hxy : x = y
        · subst hxy
          have hne : (x != x) = false := by simp
          go_wp2
          go_quiet (fail)
          go_wp2
          go_roundw
          case rel => exact ⟨k + 1, by omega, by go_num, take_step HX.out HY.out HT.out, by first | exact hb | exact below_drewN hb _⟩
          case measure => simp [intOf]; omega
        · have hne : (x != y) = true := by simp [hxy]
          go_wp2
          go_quiet (fail)
          go_wp2
          go_ret
          exact ⟨ret_bool (sameIntsL_ne HX.out HY.out hxy).symm, by first | exact hb | exact below_drewN hb _⟩
      · have : k = xs.length := by omega
        subst this
        go_wp2
        go_ret
        refine ⟨?_, hb⟩
        have h2 := HT.out
        rw [List.take_of_length_le (Nat.le_refl _), List.take_of_length_le (by rw [← HL.out]; exact Nat.le_refl _)] at h2
        simp [sameIntsL, h2]
  · have h1 : ((xs.length : Int) != (ys.length : Int)) = true := by simp; omega
    go_enter Try.func60, Try.ntmps60
    go_wp2
    go_ret
    refine ⟨?_, Below.refl _ _⟩
    have : xs ≠ ys := fun h => hl (by rw [h])
    simp [sameIntsL, this]
end Go.Proofs.Ytiiifamggopdoaa
