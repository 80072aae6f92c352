import Derived.Test.YtiiifamggopdoaaVal
import Derived.Lib.Hide
namespace Go.Proofs.Ytiiifamggopdoaa
open Go.RowKit

set_option linter.constructorNameAsVariable false

theorem ans_six : ansB = inR 6 := by
  funext x; unfold ansB inR; exact decide_eq_decide.2 (by omega)

set_option maxHeartbeats 1000000 in
theorem refTable_any (s o : Int) (x y : Value) (n : Int) (u : Value) (rs : List (List Int)) (w : World) (hu : Mat w u rs) :
    Calls Try.prog 65 #[.agg #[.int .i64 s, .int .i64 o, x, y], u, .int .i64 n] w fun e w' => e = .returned (.bool (tab s o (inR n) rs)) ∧ Below w.heap.size w w' := by
  obtain ⟨a, c, rfl, hc1, hc2, hc3⟩ := hu
  have H3 := Lib.hid hc3
  clear hc3
  have hb0 : Below w.heap.size w (w.alloc (.cells #[.int .i64 s, .int .i64 o, x, y] 24)) := (Below.refl _ _).alloc (Nat.le_refl _) _
  by_cases hl : (rs.length : Int) = s
  · have h1 : ((rs.length : Int) != s) = false := by simp [hl]
    have HL := Lib.hid hl
    clear hl
    go_enter Try.func65, Try.ntmps65
    go_wp2
    go_loopw [18, 8, 29, 28, 27, 10] (fun i _ _ _ _ _ wr => ∃ k : Nat, k ≤ rs.length ∧ i = .int .i64 k ∧ (rs.take k).all (fun r => decide ((r.length : Int) = o) && r.all (inR n)) = true ∧ Below w.heap.size w wr ∧ wr.cell? ⟨w.heap.size, 1, none⟩ = some (.int .i64 o)) (fun i _ _ _ _ _ _ => rs.length - (intOf i).toNat)
    case atStart => exact ⟨0, Nat.zero_le _, rfl, by simp, hb0, by go_simp⟩
    case round =>
      obtain ⟨k, hk, rfl, ht, hb, hco⟩ := hrel
      have HT := Lib.hid ht
      clear ht
      by_cases hlt : k < rs.length
      · obtain ⟨r, hx⟩ := get_of_lt hlt
        obtain ⟨b, off, ha, hcl⟩ := H3.out (by omega)
        subst ha
        obtain ⟨a', c', g1, g2⟩ := hcl k r hx
        have c1 := (hb.cell (p := ⟨b, off + k, none⟩) (cell_lt g1)).trans g1
        have g3 := g2.below hb
        have hrl : r.length ≤ 17592186044416 := by obtain ⟨_, _, _, _, h3, _⟩ := g3; exact h3
        have HX := Lib.hid hx
        clear hx hcl g1 g2
        by_cases hlr : (r.length : Int) = o
        · have h2 : ((r.length : Int) != o) = false := by simp [hlr]
          have HR := Lib.hid hlr
          have G3 := Lib.hid g3
          clear hlr g3
          go_wp2
          go_loopw [29, 10] (fun i _ wq => ∃ j : Nat, j ≤ r.length ∧ i = .int .i64 j ∧ (r.take j).all (inR n) = true ∧ wq = wr) (fun i _ _ => r.length - (intOf i).toNat)
          case atStart => exact ⟨0, Nat.zero_le _, rfl, by simp, rfl⟩
          case round =>
            obtain ⟨j, hj, rfl, htj, rfl⟩ := hrel
            have HTJ := Lib.hid htj
            clear htj
            by_cases hjt : j < r.length
            · obtain ⟨z, hz⟩ := get_of_lt hjt
              obtain ⟨zb, zoff, hza, hzc⟩ := G3.out.at hz
              subst hza
              have HZ := Lib.hid hz
              clear hz
              by_cases hneg : z < 0
              · have hp : Hid (inR n z = false) := Lib.hid (by simp [inR]; omega)
                go_wp2_with fail
                go_ret
                refine ⟨ret_bool ?_, hb⟩
                unfold tab; rw [all_no HX.out (by rw [all_no HZ.out hp.out]; simp)]; simp
              by_cases hge : n ≤ z
              · have hp : Hid (inR n z = false) := Lib.hid (by simp [inR]; omega)
                go_wp2_with fail
                go_ret
                refine ⟨ret_bool ?_, hb⟩
                unfold tab; rw [all_no HX.out (by rw [all_no HZ.out hp.out]; simp)]; simp
              · have hp : Hid (inR n z = true) := Lib.hid (by simp [inR]; omega)
                go_wp2_with fail
                go_roundw
                case rel => exact ⟨j + 1, by omega, by go_num, all_take_step HZ.out HTJ.out hp.out, trivial⟩
                case measure => simp [intOf]; omega
            · have : j = r.length := by omega
              subst this
              have HP := Lib.hid (all_end HTJ.out)
              go_wp2_with fail
              go_roundw
              case rel => exact ⟨k + 1, by omega, by go_num, all_take_step HX.out HT.out (by rw [HP.out, decide_eq_true HR.out]; rfl), hb, hco⟩
              case measure => simp [intOf]; omega
        · have h2 : ((r.length : Int) != o) = true := by simp [hlr]
          have HR := Lib.hid hlr
          clear hlr
          go_wp2_with fail
          go_ret
          refine ⟨ret_bool ?_, hb⟩
          unfold tab; rw [all_no HX.out (by rw [decide_eq_false HR.out]; simp)]; simp
      · have : k = rs.length := by omega
        subst this
        go_wp2
        go_ret
        refine ⟨ret_bool ?_, hb⟩
        unfold tab; rw [all_end HT.out, decide_eq_true HL.out]; rfl
  · have h1 : ((rs.length : Int) != s) = true := by simp [hl]
    have HL := Lib.hid hl
    clear hl
    go_enter Try.func65, Try.ntmps65
    go_wp2
    go_ret
    refine ⟨ret_bool ?_, hb0⟩
    unfold tab; rw [decide_eq_false HL.out]; rfl
end Go.Proofs.Ytiiifamggopdoaa
