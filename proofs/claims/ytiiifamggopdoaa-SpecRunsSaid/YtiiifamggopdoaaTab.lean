import Derived.Test.YtiiifamggopdoaaChk
namespace Go.Proofs.Ytiiifamggopdoaa
open Go.RowKit

set_option maxHeartbeats 400000 in
theorem isTable_isState (s o : Int) (x y : Value) (s' o' : Int) (x' y' : Value) (u : Value) (rs : List (List Int)) (w : World) (hu : Mat w u rs) :
    Calls Try.prog 62 #[.agg #[.int .i64 s', .int .i64 o', x', y'], u, .func (.func 63) #[.agg #[.int .i64 s, .int .i64 o, x, y]] #[]] w fun e w' => e = .returned (.bool (tab s' o' (inR s) rs)) ∧ Below w.heap.size w w' := by
  obtain ⟨a, c, rfl, hc1, hc2, hc3⟩ := hu
  have H3 := Lib.hid hc3
  clear hc3
  by_cases hl : (rs.length : Int) = s'
  · have h1 : ((rs.length : Int) != s') = false := by simp [hl]
    have HL := Lib.hid hl
    clear hl
    go_enter Try.func62, Try.ntmps62
    go_wp2
    go_loopw [16, 8] (fun i _ wr => ∃ k : Nat, k ≤ rs.length ∧ i = .int .i64 k ∧ (rs.take k).all (fun r => decide ((r.length : Int) = o') && r.all (inR s)) = true ∧ Below w.heap.size w wr ∧ wr.cell? ⟨w.heap.size, 1, none⟩ = some (.int .i64 o')) (fun i _ _ => rs.length - (intOf i).toNat)
    case atStart => exact ⟨0, Nat.zero_le _, rfl, by simp, (Below.refl _ _).alloc (Nat.le_refl _) _, by go_simp⟩
    case round =>
      obtain ⟨k, hk, rfl, ht, hb, hco⟩ := hrel
      have HT := Lib.hid ht
      clear ht
      by_cases hlt : k < rs.length
      · obtain ⟨r, hx⟩ := get_of_lt hlt
        obtain ⟨b, off, ha, hcl⟩ := H3.out (by omega)
        subst ha
        obtain ⟨a', c', g1, g2⟩ := hcl k r hx
        have c1 := (hb.cell (p := ⟨b, off + k, none⟩) (cell_lt g1)).trans g1
        have g3 := Lib.hid (g2.below hb)
        have HX := Lib.hid hx
        clear hx hcl g1 g2
        by_cases hlr : (r.length : Int) = o'
        · have h2 : ((r.length : Int) != o') = false := by simp [hlr]
          have HR := Lib.hid hlr
          clear hlr
          by_cases hp : r.all (inR s) = true
          · have HP := Lib.hid hp
            clear hp
            go_wp2_with (go_at_call 93; refine (all_isState s o x y _ r _ g3.out).mono ?_; rintro e w' ⟨rfl, hb'⟩; have hco' := (hb'.cell (p := ⟨w.heap.size, 1, none⟩) (cell_lt hco)).trans hco; rw [HP.out])
            go_roundw
            case rel => exact ⟨k + 1, by omega, by go_num, all_take_step HX.out HT.out (by rw [HP.out, decide_eq_true HR.out]; rfl), below2 hb hb', hco'⟩
            case measure => simp [intOf]; omega
          · have hp' : r.all (inR s) = false := by simpa using hp
            have HP := Lib.hid hp'
            clear hp hp'
            go_wp2_with (go_at_call 93; refine (all_isState s o x y _ r _ g3.out).mono ?_; rintro e w' ⟨rfl, hb'⟩; rw [HP.out])
            go_ret
            refine ⟨ret_bool ?_, below2 hb hb'⟩
            unfold tab; rw [all_no HX.out (by rw [HP.out]; simp)]; simp
        · have h2 : ((r.length : Int) != o') = true := by simp [hlr]
          have HR := Lib.hid hlr
          clear hlr
          go_wp2_with fail
          go_ret
          refine ⟨ret_bool ?_, hb⟩
          unfold tab; rw [all_no HX.out (by rw [decide_eq_false HR.out]; simp)]; simp
      · have : k = rs.length := by omega
        subst this
        go_wp2
        go_ret
        refine ⟨ret_bool ?_, hb⟩
        unfold tab; rw [all_end HT.out, decide_eq_true HL.out]; rfl
  · have h1 : ((rs.length : Int) != s') = true := by simp [hl]
    have HL := Lib.hid hl
    clear hl
    go_enter Try.func62, Try.ntmps62
    go_wp2
    go_ret
    refine ⟨ret_bool ?_, (Below.refl _ _).alloc (Nat.le_refl _) _⟩
    unfold tab; rw [decide_eq_false HL.out]; rfl

set_option maxHeartbeats 400000 in
theorem isTable_isAnswer (s' o' : Int) (x' y' : Value) (u : Value) (rs : List (List Int)) (w : World) (hu : Mat w u rs) :
    Calls Try.prog 62 #[.agg #[.int .i64 s', .int .i64 o', x', y'], u, .func (.func 64) #[] #[]] w fun e w' => e = .returned (.bool (tab s' o' ansB rs)) ∧ Below w.heap.size w w' := by
  obtain ⟨a, c, rfl, hc1, hc2, hc3⟩ := hu
  have H3 := Lib.hid hc3
  clear hc3
  by_cases hl : (rs.length : Int) = s'
  · have h1 : ((rs.length : Int) != s') = false := by simp [hl]
    have HL := Lib.hid hl
    clear hl
    go_enter Try.func62, Try.ntmps62
    go_wp2
    go_loopw [16, 8] (fun i _ wr => ∃ k : Nat, k ≤ rs.length ∧ i = .int .i64 k ∧ (rs.take k).all (fun r => decide ((r.length : Int) = o') && r.all ansB) = true ∧ Below w.heap.size w wr ∧ wr.cell? ⟨w.heap.size, 1, none⟩ = some (.int .i64 o')) (fun i _ _ => rs.length - (intOf i).toNat)
    case atStart => exact ⟨0, Nat.zero_le _, rfl, by simp, (Below.refl _ _).alloc (Nat.le_refl _) _, by go_simp⟩
    case round =>
      obtain ⟨k, hk, rfl, ht, hb, hco⟩ := hrel
      have HT := Lib.hid ht
      clear ht
      by_cases hlt : k < rs.length
      · obtain ⟨r, hx⟩ := get_of_lt hlt
        obtain ⟨b, off, ha, hcl⟩ := H3.out (by omega)
        subst ha
        obtain ⟨a', c', g1, g2⟩ := hcl k r hx
        have c1 := (hb.cell (p := ⟨b, off + k, none⟩) (cell_lt g1)).trans g1
        have g3 := Lib.hid (g2.below hb)
        have HX := Lib.hid hx
        clear hx hcl g1 g2
        by_cases hlr : (r.length : Int) = o'
        · have h2 : ((r.length : Int) != o') = false := by simp [hlr]
          have HR := Lib.hid hlr
          clear hlr
          by_cases hp : r.all ansB = true
          · have HP := Lib.hid hp
            clear hp
            go_wp2_with (go_at_call 93; refine (all_isAnswer _ r _ g3.out).mono ?_; rintro e w' ⟨rfl, hb'⟩; have hco' := (hb'.cell (p := ⟨w.heap.size, 1, none⟩) (cell_lt hco)).trans hco; rw [HP.out])
            go_roundw
            case rel => exact ⟨k + 1, by omega, by go_num, all_take_step HX.out HT.out (by rw [HP.out, decide_eq_true HR.out]; rfl), below2 hb hb', hco'⟩
            case measure => simp [intOf]; omega
          · have hp' : r.all ansB = false := by simpa using hp
            have HP := Lib.hid hp'
            clear hp hp'
            go_wp2_with (go_at_call 93; refine (all_isAnswer _ r _ g3.out).mono ?_; rintro e w' ⟨rfl, hb'⟩; rw [HP.out])
            go_ret
            refine ⟨ret_bool ?_, below2 hb hb'⟩
            unfold tab; rw [all_no HX.out (by rw [HP.out]; simp)]; simp
        · have h2 : ((r.length : Int) != o') = true := by simp [hlr]
          have HR := Lib.hid hlr
          clear hlr
          go_wp2_with fail
          go_ret
          refine ⟨ret_bool ?_, hb⟩
          unfold tab; rw [all_no HX.out (by rw [decide_eq_false HR.out]; simp)]; simp
      · have : k = rs.length := by omega
        subst this
        go_wp2
        go_ret
        refine ⟨ret_bool ?_, hb⟩
        unfold tab; rw [all_end HT.out, decide_eq_true HL.out]; rfl
  · have h1 : ((rs.length : Int) != s') = true := by simp [hl]
    have HL := Lib.hid hl
    clear hl
    go_enter Try.func62, Try.ntmps62
    go_wp2
    go_ret
    refine ⟨ret_bool ?_, (Below.refl _ _).alloc (Nat.le_refl _) _⟩
    unfold tab; rw [decide_eq_false HL.out]; rfl

end Go.Proofs.Ytiiifamggopdoaa
