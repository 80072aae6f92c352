/-
  The abstract machine, 9: append, slicing, struct literals, calls. No program is named here.
-/
import Derived.Test.YtcijihofjcfpoabAv8
namespace Go.Proofs.Ytcijihofjcfpoab
open Go.RowKit

set_option linter.constructorNameAsVariable false

section
variable {P : Program} {T : Tab} {n : Nat} {ds : List Deferred} {A0 L0 : Nat → Prop} {w0 : Old} {η : Nat → Value} {s : ASt} {a : Act} {w : World}

/-- A slice value and the cells behind it. -/
theorem listOf_cells (h : Rel n ds A0 L0 w0 η s a w) {x : AVal} {xv : Value} (hx : RepV η w (Av A0 η s.H) x xv) {t : Ty} {xs : List (El t)} (hl : listOf s x = some ⟨t, xs⟩) :
    ∃ a' c, xv = .slice a' xs.length c ∧ (0 < xs.length → ∃ g o, a' = some ⟨g, o, none⟩ ∧ ∃ cells : List Value, (∀ i v, cells[i]? = some v → w.cell? ⟨g, o + i, none⟩ = some v) ∧ RepVs η w (Av A0 η s.H) (xs.flatMap (cellsOf t)) cells) := by
  cases x <;> simp only [listOf] at hl
  case sl τ ys =>
    injection hl with hl
    injection hl with e1 e2
    subst e1
    have e2 := eq_of_heq e2
    subst e2
    unfold RepV at hx
    obtain ⟨a', c, rfl, hb⟩ := hx
    refine ⟨a', c, rfl, fun hp => ?_⟩
    obtain ⟨g, o, e, _, _, hx⟩ := hb.2.2 hp
    exact ⟨g, o, e, arr_cells η ys o hx⟩
  case own b =>
    unfold RepV at hx
    cases hb : s.H b with
    | none => simp [hb] at hl
    | some B =>
      cases B <;> simp only [hb] at hl
      case box => cases hl
      case map => cases hl
      case arr e' τ ys =>
        injection hl with hl
        injection hl with e1 e2
        subst e1
        have e2 := eq_of_heq e2
        subst e2
        rcases h.hp.blk b _ hb with ⟨e1, e2⟩ | ⟨g, cap, cur, e1, _, e3, e4, _, e6⟩
        · rw [hx, e2, e1]; exact ⟨none, 0, rfl, fun hp => by simp at hp⟩
        · rw [hx, e1]; exact ⟨_, cap, rfl, fun _ => ⟨g, 0, rfl, arr_cells η ys 0 (fun i x hi => by have := e6 i x hi; simpa using this)⟩⟩
      case imm τ ys =>
        injection hl with hl
        injection hl with e1 e2
        subst e1
        have e2 := eq_of_heq e2
        subst e2
        obtain ⟨a', c, e1, hbd⟩ := h.hp.blk b _ hb
        rw [hx, e1]
        refine ⟨a', c, rfl, fun hp => ?_⟩
        obtain ⟨g, o, e, _, _, hx⟩ := hbd.2.2 hp
        exact ⟨g, o, e, arr_cells η ys o hx⟩
  all_goals cases hl

theorem run_append_empty (t ty e : TypeId) (i : TypeInfo) (ht : P.underlying t = some (.slice e)) (hi : P.info? e = some i) (base : Option Addr) (k cap : Nat) (hk : k ≤ cap) (ad : Option Addr) (c : Nat) :
    (Builtin.append_ #[t, t] ty #[.slice base k cap, .slice ad 0 c]).run P w = .ok (.slice base k cap) w := by
  cases ad <;> cases base <;> simp [Builtin.append_, run_underlying ht, sizeOf, typeInfo, hi, Builtin.lenOf, Builtin.firstCells, hk, storeCells, loadCells, loadCellsFrom]

theorem zeroCells_size {z : Array Value} {sz : Nat} (h : z.size = sz) (k : Nat) : (Builtin.zeroCells z k).size = k * sz := by rw [size_zeroCells, h]

/-- The cells of a list that an append puts together. -/
theorem append_elems {A' : Nat → Prop} {w' : World} (k : Keeps (Av A0 η s.H) A' w w') {τ : Ty} {xs ys : List (El τ)} {c1 c2 : List Value} (r1 : RepVs η w (Av A0 η s.H) (xs.flatMap (cellsOf τ)) c1) (r2 : RepVs η w (Av A0 η s.H) (ys.flatMap (cellsOf τ)) c2)
    {g : Nat} (hc : ∀ q v, (c1 ++ c2)[q]? = some v → w'.cell? ⟨g, q, none⟩ = some v) : ∀ i x, (xs ++ ys)[i]? = some x → RepAt w' A' τ x g (i * τ.size) := by
  intro i x hi
  have h1 : RepVs η w' A' ((xs ++ ys).flatMap (cellsOf τ)) (c1 ++ c2) := by
    rw [List.flatMap_append]
    exact (RepVs.flat (η' := η) k r1).append (RepVs.flat (η' := η) k r2)
  have := arr_of_cells (xs ++ ys) 0 (c1 ++ c2) (fun q v hq => by rw [Nat.zero_add]; exact hc q v hq) h1 i x hi
  rwa [Nat.zero_add] at this

theorem cells_alloc {wr : World} {c1 c2 : Array Value} {e : TypeId} {q : Nat} {v : Value} (hq : c1.toList[q]? = some v) : (wr.alloc (.cells (c1 ++ c2) e)).cell? ⟨wr.heap.size, q, none⟩ = some v := by
  rw [World.cell?_alloc_new]
  have : c1[q]? = some v := by simpa using hq
  rw [Array.getElem?_append_left (Array.getElem?_eq_some_iff.1 this).1]
  exact this

theorem stAppend_does (hT : TabOK P T) (h : Rel n ds A0 L0 w0 η s a w) {d : Option Nat} (hd : ∀ i, d = some i → i < n) {nid : Nat} (hnid : nid < 1000) {t ty : TypeId} {x y : AVal} {xv yv : Value} (hx : RepV η w (Av A0 η s.H) x xv) (hy : RepV η w (Av A0 η s.H) y yv) {K : Eff → Prop}
    (hs : stAppend T s nid t x y K) : Does P (Builtin.append_ #[t, t] ty #[xv, yv]) n ds A0 L0 w0 s a w d K := by
  unfold stAppend at hs
  cases ht : T t with
  | none => simp [ht] at hs
  | some i =>
    simp only [ht] at hs
    cases hdd : i.desc <;> simp only [hdd] at hs
    case sl e =>
      cases he : T e with
      | none => simp [he] at hs
      | some ie =>
        simp only [he] at hs
        cases hdt : ie.dt with
        | none => simp [hdt] at hs
        | some τ =>
          simp only [hdt] at hs
          have hte := hT e ie he
          have hu := (hT t i ht).slice hdd
          obtain ⟨info, z, dd, hi, hsz, hby, hz, hzz, _⟩ := hte.ex
          obtain ⟨d1, d2, d3⟩ := hte.dt τ hdt
          have hzs : z.cells.size = τ.size := by
            have := hte.zsize
            rw [← hzz] at this
            rw [d1]; simpa using this
          have hit : info.size = τ.size := by rw [hsz, d1]
          -- a list behind, in a new row
          have fresh : ∀ (kl : List Nat) (_ : kl.contains nid = true) (xs ys : List (El τ)) (c1 c2 : List Value) (old : Nat), RepVs η w (Av A0 η s.H) (xs.flatMap (cellsOf τ)) c1 → RepVs η w (Av A0 η s.H) (ys.flatMap (cellsOf τ)) c2 → xs.length + ys.length ≤ maxLen →
              K { v := .own nid, kill := kl, hp := [(nid, .arr e τ (xs ++ ys))] } →
              (Builtin.append_ #[t, t] ty #[xv, yv]).run P w = .ok (.slice (some ⟨w.heap.size, 0, none⟩) (xs.length + ys.length) (grownCap w (xs.length + ys.length) old e))
                (w.drew.alloc (.cells (c1.toArray ++ c2.toArray ++ Builtin.zeroCells z.cells (grownCap w (xs.length + ys.length) old e - (xs.length + ys.length))) e)) →
              Does P (Builtin.append_ #[t, t] ty #[xv, yv]) n ds A0 L0 w0 s a w d K := by
            intro kl hkl xs ys c1 c2 old r1 r2 hmax hK hrun
            have hge := grownCap_ge w (xs.length + ys.length) old e
            have hle := grownCap_le_maxLen w (xs.length + ys.length) old e hmax
            have hl1 : c1.length = xs.length * τ.size := by rw [← r1.length, flat_len]
            have hl2 : c2.length = ys.length * τ.size := by rw [← r2.length, flat_len]
            have hrel := h.newArr hd (nid := nid) hnid (e := e) (τ := τ) (xs := xs ++ ys) (ids := []) (cur := c1.toArray ++ c2.toArray ++ Builtin.zeroCells z.cells (grownCap w (xs.length + ys.length) old e - (xs.length + ys.length))) (cap := grownCap w (xs.length + ys.length) old e)
              (w' := w.drew.alloc (.cells (c1.toArray ++ c2.toArray ++ Builtin.zeroCells z.cells (grownCap w (xs.length + ys.length) old e - (xs.length + ys.length))) e)) (kl := kl) hkl (by simp) ⟨rfl, rfl, rfl⟩ rfl (by simpa using hge) hle
              (by simp only [Array.size_append, List.size_toArray, zeroCells_size hzs, hl1, hl2, ← Nat.add_mul]; congr 1; omega)
              (fun A' k' _ => append_elems k' r1 r2 (g := w.heap.size) fun q v hq => cells_alloc (wr := w.drew) (by simpa using hq))
            rw [List.length_append] at hrel
            exact ⟨_, _, _, _, hK, hrun, hrel⟩
          cases x <;> simp only at hs
          case own b =>
            cases hb : s.H b with
            | none => simp [hb] at hs
            | some B =>
              cases B <;> simp only [hb] at hs
              case arr e' τ' xs =>
                obtain ⟨rfl, hid, hid2, hs⟩ := hs
                have hx0 := hx
                unfold RepV at hx0
                have hblk := h.hp.blk b _ hb
                split at hs
                · obtain ⟨rfl, rfl, hK⟩ := hs
                  unfold RepV at hy
                  subst hy
                  refine does_pure h hd ?_ hx hK
                  rcases hblk with ⟨_, e2⟩ | ⟨g, cap, cur, e2, _, e3, _⟩
                  · rw [hx0, e2]; exact run_append_empty t ty _ info hu hi none 0 0 (Nat.le_refl _) none 0
                  · rw [hx0, e2]; exact run_append_empty t ty _ info hu hi _ _ cap e3 none 0
                · cases hly : listOf s y with
                  | none => simp [hly] at hs
                  | some q =>
                    obtain ⟨τy, ys⟩ := q
                    simp only [hly] at hs
                    split at hs
                    case isFalse => exact hs.elim
                    rename_i h1
                    split at hs
                    case isFalse => exact hs.elim
                    rename_i h2
                    subst h1 h2
                    obtain ⟨hbytes, hmax, hK⟩ := hs
                    simp only [castL_rfl] at hK
                    obtain ⟨ay, cy, rfl, hyc⟩ := listOf_cells h hy hly
                    rw [← hby] at hbytes
                    by_cases hy0 : ys.length = 0
                    · -- nothing is appended
                      have hyn : ys = [] := List.eq_nil_of_length_eq_zero hy0
                      subst hyn
                      rw [List.append_nil] at hK
                      simp only [List.length_nil] at hyc ⊢
                      have hrun : (Builtin.append_ #[t, t] ty #[xv, .slice ay 0 cy]).run P w = .ok xv w := by
                        rcases hblk with ⟨_, e2⟩ | ⟨g, cap, cur, e2, _, e3, _⟩
                        · rw [hx0, e2]; exact run_append_empty t ty _ info hu hi none 0 0 (Nat.le_refl _) ay cy
                        · rw [hx0, e2]; exact run_append_empty t ty _ info hu hi _ _ cap e3 ay cy
                      refine ⟨_, xv, w, setη η nid (η b), hK, hrun, ?_⟩
                      have hη : ∀ b', [b, nid].contains b' = false → setη η nid (η b) b' = η b' := fun b' hb' => setη_other _ _ (fun e => by subst e; simp at hb')
                      refine h.eff (nid := nid) hd hη ⟨rfl, rfl, rfl⟩ (Nat.le_refl _) (fun g _ => .inl rfl) ?_ ?_ ?_ hnid (fun b' _ hs => by
                        by_cases e : b' = nid
                        · exact e
                        · simp only [hpGet, e, if_false] at hs; cases hs) (fun b' hb' hs => by simp only [hpGet, hb', if_false] at hs; cases hs)
                      · intro b' B g hb' hm hg
                        simp only [hpGet] at hb'
                        split at hb'
                        · rename_i e9
                          subst e9
                          rw [setη_same] at hg
                          exact .inl ⟨b, _, hb, rfl, hg, .inr ⟨rfl, by simp⟩⟩
                        · cases hb'
                      · intro k b' B hb'
                        simp only [hpGet] at hb'
                        split at hb'
                        · rename_i e9
                          subst e9
                          injection hb' with hb'
                          subst hb'
                          rw [setη_same]
                          have := RelBlk.step (K := []) (η' := η) k (fun _ _ => rfl) (fun g _ _ => rfl) hblk
                          rw [bclean_nil] at this
                          exact this
                        · cases hb'
                      · intro k; unfold RepV; rw [setη_same]; exact hx0
                    · obtain ⟨gy, oy, rfl, c2, hc2, r2⟩ := hyc (by omega)
                      have hl2 : c2.length = ys.length * info.size := by rw [← r2.length, flat_len, hit]
                      have hc2' : ∀ j v, c2[j]? = some v → w.cell? ((⟨gy, oy, none⟩ : Addr).add j) = some v := fun j v hj => by rw [add_off]; exact hc2 j v hj
                      have hone2 := flat_oneCell ys c2 r2
                      rcases hblk with ⟨e1, e2⟩ | ⟨g, cap, cur, e1, e2, e3, e4, e5, e6⟩
                      · -- from nil
                        subst e1
                        refine fresh [b, nid] (by simp) [] ys [] c2 0 RepVs.nil r2 (by simpa using hmax) (by simpa using hK) ?_
                        rw [hx0, e2]
                        have hr := run_append_nil (P := P) w t ty _ info z hu hi hz ⟨gy, oy, none⟩ ys.length cy c2 hl2 hc2' (by omega) (by simp [maxLen] at hmax; omega) (by simp only [List.length_nil, Nat.zero_add] at hbytes; omega)
                        simpa using hr
                      · obtain ⟨c1, hc1, r1⟩ := arr_cells η xs 0 (fun i x hi => by have := e6 i x hi; simpa using this)
                        have hl1 : c1.length = xs.length * info.size := by rw [← r1.length, flat_len, hit]
                        have hone1 := flat_oneCell xs c1 r1
                        have hcur1 : cur.toList.take (xs.length * info.size) = c1 := by
                          apply List.ext_getElem?
                          intro q
                          rw [List.getElem?_take]
                          split
                          · rename_i hq
                            have hlt : q < c1.length := by rw [hl1]; exact hq
                            have := hc1 q c1[q] (by simp [hlt])
                            rw [Nat.zero_add, cell_of_row w g q cur _ _ e2] at this
                            simp [hlt, this]
                          · rename_i hq
                            rw [List.getElem?_eq_none (by rw [hl1]; omega)]
                        by_cases hroom : xs.length + ys.length ≤ cap
                        · -- in place
                          have hfit : xs.length * info.size + c2.length ≤ cur.size := by
                            rw [hl2, e5, hit, ← Nat.add_mul]; exact Nat.mul_le_mul_right _ hroom
                          have hr := run_append_room (P := P) w t ty _ info hu hi g xs.length cap cur e2 ⟨gy, oy, none⟩ ys.length cy c2 hl2 hc2' hone2 hroom hfit
                          rw [hcur1] at hr
                          rw [hx0, e1]
                          have hrow := setRow_heap w g cur (c1 ++ c2 ++ cur.toList.drop (xs.length * info.size + c2.length)).toArray _ _ e2
                          refine ⟨_, _, _, setη η nid (.slice (some ⟨g, 0, none⟩) (xs.length + ys.length) cap), hK, hr, ?_⟩
                          have hη : ∀ b', [b, nid].contains b' = false → setη η nid (.slice (some ⟨g, 0, none⟩) (xs.length + ys.length) cap) b' = η b' := fun b' hb' => setη_other _ _ (fun e => by subst e; simp at hb')
                          refine h.eff (nid := nid) hd hη ⟨rfl, rfl, rfl⟩ (by simp [World.setRow]) ?_ ?_ ?_ ?_ hnid (fun b' _ hs => by
                            by_cases e : b' = nid
                            · exact e
                            · simp only [hpGet, e, if_false] at hs; cases hs) (fun b' hb' hs => by simp only [hpGet, hb', if_false] at hs; cases hs)
                          · intro g' _
                            by_cases hg' : g' = g
                            · subst hg'
                              exact .inr ⟨b, _, hb, rfl, by rw [e1]; rfl, .inr (by simp)⟩
                            · exact .inl (setRow_same w g g' _ hg')
                          · intro b' B g' hb' hm hg'
                            simp only [hpGet] at hb'
                            split at hb'
                            · rename_i e9
                              subst e9
                              rw [setη_same] at hg'
                              refine .inl ⟨b, _, hb, rfl, ?_, .inr ⟨rfl, by simp⟩⟩
                              rw [e1]; exact hg'
                            · cases hb'
                          · intro k b' B hb'
                            simp only [hpGet] at hb'
                            split at hb'
                            · rename_i e9
                              subst e9
                              injection hb' with hb'
                              subst hb'
                              refine .inr ⟨g, cap, _, by rw [setη_same, List.length_append], hrow, by simpa using hroom, e4, ?_, append_elems k r1 r2 fun q v hq => ?_⟩
                              · simp only [List.size_toArray, List.length_append, List.length_drop, Array.length_toList, hl1]
                                omega
                              · rw [cell_of_row _ g q _ _ _ hrow, List.getElem?_toArray, List.getElem?_append_left (List.getElem?_eq_some_iff.1 hq).1]
                                exact hq
                            · cases hb'
                          · intro k; unfold RepV; exact (setη_same _ _ _).symm
                        · -- in a new row
                          refine fresh [b, nid] (by simp) xs ys c1 c2 cap r1 r2 hmax hK ?_
                          rw [hx0, e1]
                          exact run_append_grow (P := P) w t ty _ info z hu hi hz ⟨g, 0, none⟩ xs.length cap c1 hl1 (fun j v hj => by rw [add_off]; exact hc1 j v hj) ⟨gy, oy, none⟩ ys.length cy c2 hl2 hc2' (by omega) (by simp [maxLen] at hmax; omega) (growslice_fits (by omega) hbytes)
          case cv v =>
            obtain ⟨rfl, hid, hs⟩ := hs
            unfold RepV at hx
            subst hx
            cases hly : listOf s y with
            | none => simp [hly] at hs
            | some q =>
              obtain ⟨τy, ys⟩ := q
              simp only [hly] at hs
              split at hs
              case isFalse => exact hs.elim
              rename_i h2
              subst h2
              obtain ⟨hbytes, hmax, hK⟩ := hs
              simp only [castL_rfl] at hK
              obtain ⟨ay, cy, rfl, hyc⟩ := listOf_cells h hy hly
              rw [← hby] at hbytes
              by_cases hy0 : ys.length = 0
              · have hyn : ys = [] := List.eq_nil_of_length_eq_zero hy0
                subst hyn
                exact ⟨_, _, _, _, hK, run_append_empty t ty _ info hu hi none 0 0 (Nat.le_refl _) ay cy, h.newNil hd hnid⟩
              · obtain ⟨gy, oy, rfl, c2, hc2, r2⟩ := hyc (by omega)
                have hl2 : c2.length = ys.length * info.size := by rw [← r2.length, flat_len, hit]
                have hc2' : ∀ j v, c2[j]? = some v → w.cell? ((⟨gy, oy, none⟩ : Addr).add j) = some v := fun j v hj => by rw [add_off]; exact hc2 j v hj
                refine fresh [nid] (by simp) [] ys [] c2 0 RepVs.nil r2 (by simpa using hmax) (by simpa using hK) ?_
                have hr := run_append_nil (P := P) w t ty _ info z hu hi hz ⟨gy, oy, none⟩ ys.length cy c2 hl2 hc2' (by omega) (by simp [maxLen] at hmax; omega) (by omega)
                simpa using hr

end
end Go.Proofs.Ytcijihofjcfpoab
