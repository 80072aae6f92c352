import Derived.Test.YtiiifamggopdoaaBase
import Derived.Test.YtiiifamggopdoaaProg
import Derived.BigQuiet
import Derived.Deep.QuietTactic
namespace Go.Proofs.Ytiiifamggopdoaa
open Go.RowKit

set_option maxHeartbeats 400000 in
theorem isState_any (s o : Int) (x y : Value) (n : Int) (w : World) :
    Calls Try.prog 63 #[.agg #[.int .i64 s, .int .i64 o, x, y], .int .i64 n] w fun e w' => e = .returned (.bool (inR s n)) ∧ Below w.heap.size w w' := by
  by_cases h0 : 0 ≤ n
  all_goals
    go_enter Try.func63, Try.ntmps63
    go_wp2
    go_ret
    exact ⟨ret_bool (by first | (simp [inR]; omega) | simp [inR, h0]), ((Below.refl _ _).alloc (Nat.le_refl _) _)⟩

set_option maxHeartbeats 400000 in
theorem isCall_any (s o : Int) (x y : Value) (n : Int) (w : World) :
    Calls Try.prog 89 #[.agg #[.int .i64 s, .int .i64 o, x, y], .int .i64 n] w fun e w' => e = .returned (.bool (inR o n)) ∧ Below w.heap.size w w' := by
  by_cases h0 : 0 ≤ n
  all_goals
    go_enter Try.func89, Try.ntmps89
    go_wp2
    go_ret
    exact ⟨ret_bool (by first | (simp [inR]; omega) | simp [inR, h0]), ((Below.refl _ _).alloc (Nat.le_refl _) _)⟩

set_option maxHeartbeats 400000 in
theorem isAnswer_any (n : Int) (w : World) :
    Calls Try.prog 64 #[.int .i64 n] w fun e w' => e = .returned (.bool (ansB n)) ∧ Below w.heap.size w w' := by
  by_cases h0 : 0 ≤ n
  all_goals
    go_enter Try.func64, Try.ntmps64
    go_wp2
    go_ret
    exact ⟨ret_bool (by first | (simp [ansB]; omega) | simp [ansB, h0]), Below.refl _ _⟩

set_option maxHeartbeats 400000 in
theorem all_isState (s o : Int) (x y : Value) (u : Value) (xs : List Int) (w : World) (hu : Ints w u xs) :
    Calls Try.prog 93 #[.func (.func 63) #[.agg #[.int .i64 s, .int .i64 o, x, y]] #[], u] w fun e w' => e = .returned (.bool (xs.all (inR s))) ∧ Below w.heap.size w w' := by
  obtain ⟨a, c, rfl, hc1, hc2, hc3⟩ := hu
  have H3 := Lib.hid hc3
  clear hc3
  go_enter Try.func93, Try.ntmps93
  go_wp2
  go_loopw [9, 6] (fun i _ wr => ∃ k : Nat, k ≤ xs.length ∧ i = .int .i64 k ∧ (xs.take k).all (inR s) = true ∧ Below w.heap.size w wr) (fun i _ _ => xs.length - (intOf i).toNat)
  case atStart => exact ⟨0, Nat.zero_le _, rfl, by simp, Below.refl _ _⟩
  case round =>
    obtain ⟨k, hk, rfl, ht, hb⟩ := hrel
    have HT := Lib.hid ht
    clear ht
    by_cases hlt : k < xs.length
    · obtain ⟨z, hx⟩ := get_of_lt hlt
      obtain ⟨b, off, ha, hcl⟩ := H3.out (by omega)
      subst ha
      have c1 := (hb.cell (p := ⟨b, off + k, none⟩) (cell_lt (hcl k z hx))).trans (hcl k z hx)
      have HX := Lib.hid hx
      clear hx hcl
      by_cases hp : inR s z = true
      · have HP := Lib.hid hp
        go_wp2_with (go_at_call 63; refine (isState_any s o x y z _).mono ?_; rintro e w' ⟨rfl, hb'⟩)
        go_roundw
        case rel => exact ⟨k + 1, by omega, by go_num, all_take_step HX.out HT.out HP.out, hb.trans (hb'.mono hb.size)⟩
        case measure => simp [intOf]; omega
      · have hp' : inR s z = false := by simpa using hp
        have HP := Lib.hid hp'
        clear hp
        go_wp2_with (go_at_call 63; refine (isState_any s o x y z _).mono ?_; rintro e w' ⟨rfl, hb'⟩)
        go_ret
        exact ⟨ret_bool (all_no HX.out HP.out).symm, hb.trans (hb'.mono hb.size)⟩
    · have : k = xs.length := by omega
      subst this
      go_wp2
      go_ret
      exact ⟨ret_bool (all_end HT.out).symm, hb⟩

set_option maxHeartbeats 400000 in
theorem all_isCall (s o : Int) (x y : Value) (u : Value) (xs : List Int) (w : World) (hu : Ints w u xs) :
    Calls Try.prog 93 #[.func (.func 89) #[.agg #[.int .i64 s, .int .i64 o, x, y]] #[], u] w fun e w' => e = .returned (.bool (xs.all (inR o))) ∧ Below w.heap.size w w' := by
  obtain ⟨a, c, rfl, hc1, hc2, hc3⟩ := hu
  have H3 := Lib.hid hc3
  clear hc3
  go_enter Try.func93, Try.ntmps93
  go_wp2
  go_loopw [9, 6] (fun i _ wr => ∃ k : Nat, k ≤ xs.length ∧ i = .int .i64 k ∧ (xs.take k).all (inR o) = true ∧ Below w.heap.size w wr) (fun i _ _ => xs.length - (intOf i).toNat)
  case atStart => exact ⟨0, Nat.zero_le _, rfl, by simp, Below.refl _ _⟩
  case round =>
    obtain ⟨k, hk, rfl, ht, hb⟩ := hrel
    have HT := Lib.hid ht
    clear ht
    by_cases hlt : k < xs.length
    · obtain ⟨z, hx⟩ := get_of_lt hlt
      obtain ⟨b, off, ha, hcl⟩ := H3.out (by omega)
      subst ha
      have c1 := (hb.cell (p := ⟨b, off + k, none⟩) (cell_lt (hcl k z hx))).trans (hcl k z hx)
      have HX := Lib.hid hx
      clear hx hcl
      by_cases hp : inR o z = true
      · have HP := Lib.hid hp
        go_wp2_with (go_at_call 89; refine (isCall_any s o x y z _).mono ?_; rintro e w' ⟨rfl, hb'⟩)
        go_roundw
        case rel => exact ⟨k + 1, by omega, by go_num, all_take_step HX.out HT.out HP.out, hb.trans (hb'.mono hb.size)⟩
        case measure => simp [intOf]; omega
      · have hp' : inR o z = false := by simpa using hp
        have HP := Lib.hid hp'
        clear hp
        go_wp2_with (go_at_call 89; refine (isCall_any s o x y z _).mono ?_; rintro e w' ⟨rfl, hb'⟩)
        go_ret
        exact ⟨ret_bool (all_no HX.out HP.out).symm, hb.trans (hb'.mono hb.size)⟩
    · have : k = xs.length := by omega
      subst this
      go_wp2
      go_ret
      exact ⟨ret_bool (all_end HT.out).symm, hb⟩

set_option maxHeartbeats 400000 in
theorem all_isAnswer (u : Value) (xs : List Int) (w : World) (hu : Ints w u xs) :
    Calls Try.prog 93 #[.func (.func 64) #[] #[], u] w fun e w' => e = .returned (.bool (xs.all ansB)) ∧ Below w.heap.size w w' := by
  obtain ⟨a, c, rfl, hc1, hc2, hc3⟩ := hu
  have H3 := Lib.hid hc3
  clear hc3
  go_enter Try.func93, Try.ntmps93
  go_wp2
  go_loopw [9, 6] (fun i _ wr => ∃ k : Nat, k ≤ xs.length ∧ i = .int .i64 k ∧ (xs.take k).all ansB = true ∧ Below w.heap.size w wr) (fun i _ _ => xs.length - (intOf i).toNat)
  case atStart => exact ⟨0, Nat.zero_le _, rfl, by simp, Below.refl _ _⟩
  case round =>
    obtain ⟨k, hk, rfl, ht, hb⟩ := hrel
    have HT := Lib.hid ht
    clear ht
    by_cases hlt : k < xs.length
    · obtain ⟨z, hx⟩ := get_of_lt hlt
      obtain ⟨b, off, ha, hcl⟩ := H3.out (by omega)
      subst ha
      have c1 := (hb.cell (p := ⟨b, off + k, none⟩) (cell_lt (hcl k z hx))).trans (hcl k z hx)
      have HX := Lib.hid hx
      clear hx hcl
      by_cases hp : ansB z = true
      · have HP := Lib.hid hp
        go_wp2_with (go_at_call 64; refine (isAnswer_any z _).mono ?_; rintro e w' ⟨rfl, hb'⟩)
        go_roundw
        case rel => exact ⟨k + 1, by omega, by go_num, all_take_step HX.out HT.out HP.out, hb.trans (hb'.mono hb.size)⟩
        case measure => simp [intOf]; omega
      · have hp' : ansB z = false := by simpa using hp
        have HP := Lib.hid hp'
        clear hp
        go_wp2_with (go_at_call 64; refine (isAnswer_any z _).mono ?_; rintro e w' ⟨rfl, hb'⟩)
        go_ret
        exact ⟨ret_bool (all_no HX.out HP.out).symm, hb.trans (hb'.mono hb.size)⟩
    · have : k = xs.length := by omega
      subst this
      go_wp2
      go_ret
      exact ⟨ret_bool (all_end HT.out).symm, hb⟩

end Go.Proofs.Ytiiifamggopdoaa
