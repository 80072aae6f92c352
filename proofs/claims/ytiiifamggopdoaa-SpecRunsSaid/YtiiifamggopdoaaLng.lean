import Derived.Test.YtiiifamggopdoaaBase
import Derived.Test.YtiiifamggopdoaaProg
import Derived.BigQuiet
import Derived.Deep.QuietTactic
import Derived.Lib.Hide
namespace Go.Proofs.Ytiiifamggopdoaa
open Go.RowKit

set_option linter.constructorNameAsVariable false

/-- A table with more than 40 rows, or with a row of more than 40 numbers. -/
def narrow (rs : List (List Int)) : Bool := rs.all (fun r => decide (r.length ≤ 40)) && decide (rs.length ≤ 40)

set_option maxHeartbeats 1000000 in
theorem wide_any (u : Value) (rs : List (List Int)) (w : World) (hu : Mat w u rs) :
    Calls Try.prog 54 #[u] w fun e w' => e = .returned (.bool (!narrow rs)) ∧ w' = w := by
  obtain ⟨a, c, rfl, hc1, hc2, hc3⟩ := hu
  have H3 := Lib.hid hc3
  clear hc3
  go_enter Try.func54, Try.ntmps54
  go_wp2
  go_loopw [7, 4] (fun i _ wr => ∃ k : Nat, k ≤ rs.length ∧ i = .int .i64 k ∧ (rs.take k).all (fun r => decide (r.length ≤ 40)) = true ∧ wr = w) (fun i _ _ => rs.length - (intOf i).toNat)
  case atStart => exact ⟨0, Nat.zero_le _, rfl, by simp, rfl⟩
  case round =>
    obtain ⟨k, hk, rfl, ht, rfl⟩ := hrel
    have HT := Lib.hid ht
    clear ht
    by_cases hlt : k < rs.length
    · obtain ⟨r, hx⟩ := get_of_lt hlt
      obtain ⟨b, off, ha, hcl⟩ := H3.out (by omega)
      subst ha
      obtain ⟨a', c', c1, g2⟩ := hcl k r hx
      have HX := Lib.hid hx
      clear hx hcl g2
      by_cases hlr : r.length ≤ 40
      · have HR := Lib.hid hlr
        go_wp2_with fail
        go_roundw
        case rel => exact ⟨k + 1, by omega, by go_num, all_take_step HX.out HT.out (decide_eq_true HR.out), trivial⟩
        case measure => simp [intOf]; omega
      · have HR := Lib.hid hlr
        go_wp2_with fail
        go_ret
        refine ⟨ret_bool ?_, rfl⟩
        unfold narrow; rw [all_no HX.out (decide_eq_false HR.out)]; rfl
    · have : k = rs.length := by omega
      subst this
      have HA := Lib.hid (all_end HT.out)
      by_cases hl : rs.length ≤ 40
      all_goals
        go_wp2_with fail
        go_ret
        refine ⟨ret_bool ?_, rfl⟩
        unfold narrow; rw [HA.out]; simp [hl] <;> omega

/-- A specification that the law looks at. -/
def Sp.short (S : Sp) : Bool := narrow S.nx && narrow S.sy

set_option maxHeartbeats 1000000 in
theorem Long_any (u : Value) (S : Sp) (w : World) (hu : IsSp w u S) :
    Calls Try.prog 15 #[u] w fun e w' => e = .returned (.bool (!S.short)) ∧ Below w.heap.size w w' := by
  obtain ⟨na, nc, sa, sc, rfl, hn, hs⟩ := hu
  obtain ⟨st, op, nx, sy⟩ := S
  dsimp only at hn hs ⊢
  have hb0 : Below w.heap.size w (w.alloc (.cells #[.int .i64 st, .int .i64 op, .slice na nx.length nc, .slice sa sy.length sc] 24)) := (Below.refl _ _).alloc (Nat.le_refl _) _
  have HN := Lib.hid (hn.below hb0)
  have HS := Lib.hid (hs.below hb0)
  clear hn hs
  cases h1 : narrow nx
  all_goals
    have H1 := Lib.hid h1
    clear h1
    go_enter Try.func15, Try.ntmps15
    go_wp2_with fail
    refine (wide_any _ _ _ HN.out).mono ?_
    rintro e w1 ⟨rfl, rfl⟩
    rw [H1.out]
    go_wp2_with fail
  · go_ret
    exact ⟨ret_bool (by unfold Sp.short; rw [H1.out]; rfl), hb0⟩
  · refine (wide_any _ _ _ HS.out).mono ?_
    rintro e w1 ⟨rfl, rfl⟩
    go_wp2_with fail
    go_ret
    exact ⟨ret_bool (by unfold Sp.short; rw [H1.out]; simp), hb0⟩
end Go.Proofs.Ytiiifamggopdoaa
