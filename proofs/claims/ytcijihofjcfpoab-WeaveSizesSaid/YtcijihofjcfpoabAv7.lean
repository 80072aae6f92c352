/-
  The abstract machine, 7: rows of the call's own: stores, literals, make, append. No program is named here.
-/
import Derived.Test.YtcijihofjcfpoabAv6
namespace Go.Proofs.Ytcijihofjcfpoab
open Go.RowKit

set_option linter.constructorNameAsVariable false

theorem splice_get {α : Type} (L us : List α) (o q : Nat) (h : o + us.length ≤ L.length) : (L.take o ++ us ++ L.drop (o + us.length))[q]? = if o ≤ q ∧ q < o + us.length then us[q - o]? else L[q]? := by
  have ht : (L.take o).length = o := by simp; omega
  by_cases h1 : q < o
  · rw [if_neg (by omega), List.append_assoc, List.getElem?_append_left (by omega), List.getElem?_take, if_pos h1]
  · by_cases h2 : q < o + us.length
    · rw [if_pos ⟨by omega, h2⟩, List.append_assoc, List.getElem?_append_right (by omega), ht, List.getElem?_append_left (by omega)]
    · rw [if_neg (by omega), List.getElem?_append_right (by simp; omega), List.getElem?_drop]
      congr 1
      simp; omega

theorem flat_len {t : Ty} : ∀ (xs : List (El t)), (xs.flatMap (cellsOf t)).length = xs.length * t.size
  | [] => by simp
  | x :: xs => by simp [flat_len xs, cellsOf_len, Nat.add_mul, Nat.add_comm]

section
variable {η : Nat → Value} {w : World} {A : Nat → Prop} {t : Ty}

theorem arr_cells (η : Nat → Value) {g : Nat} : ∀ (xs : List (El t)) (o : Nat), (∀ i x, xs[i]? = some x → RepAt w A t x g (o + i * t.size)) →
    ∃ cells : List Value, (∀ i v, cells[i]? = some v → w.cell? ⟨g, o + i, none⟩ = some v) ∧ RepVs η w A (xs.flatMap (cellsOf t)) cells
  | [], o, _ => ⟨[], fun i v hi => by simp at hi, RepVs.nil⟩
  | x :: xs, o, h => by
    obtain ⟨v1, c1, r1⟩ := RepAt.cells η t x g o (by simpa using h 0 x rfl)
    obtain ⟨v2, c2, r2⟩ := arr_cells η xs (o + t.size) (fun i y hi => by
      have := h (i + 1) y (by simpa using hi)
      rwa [show o + (i + 1) * t.size = o + t.size + i * t.size by rw [Nat.add_mul]; omega] at this)
    have hl : v1.length = t.size := by rw [← r1.length, cellsOf_len]
    refine ⟨v1 ++ v2, fun i v hi => ?_, by rw [List.flatMap_cons]; exact r1.append r2⟩
    by_cases hlt : i < v1.length
    · exact c1 i v (by rwa [List.getElem?_append_left hlt] at hi)
    · rw [List.getElem?_append_right (by omega)] at hi
      have := c2 _ v hi
      rwa [show o + t.size + (i - v1.length) = o + i by omega] at this

theorem arr_of_cells {g : Nat} : ∀ (xs : List (El t)) (o : Nat) (cells : List Value), (∀ i v, cells[i]? = some v → w.cell? ⟨g, o + i, none⟩ = some v) → RepVs η w A (xs.flatMap (cellsOf t)) cells →
    ∀ i x, xs[i]? = some x → RepAt w A t x g (o + i * t.size)
  | [], o, cells, _, _, i, x, hi => by simp at hi
  | y :: xs, o, cells, hc, hr, i, x, hi => by
    rw [List.flatMap_cons] at hr
    obtain ⟨v1, v2, rfl, r1, r2⟩ := hr.split
    have hl : v1.length = t.size := by rw [← r1.length, cellsOf_len]
    cases i with
    | zero =>
      simp at hi
      subst hi
      rw [Nat.zero_mul, Nat.add_zero]
      exact RepAt.of_cells t y g o v1 (fun j v hj => hc j v (by rw [List.getElem?_append_left (List.getElem?_eq_some_iff.1 hj).1]; exact hj)) r1
    | succ i =>
      have := arr_of_cells xs (o + t.size) v2 (fun j v hj => by
        have := hc (t.size + j) v (by rw [List.getElem?_append_right (by omega), hl, Nat.add_sub_cancel_left]; exact hj)
        rwa [← Nat.add_assoc] at this) r2 i x (by simpa using hi)
      rwa [show o + t.size + i * t.size = o + (i + 1) * t.size by rw [Nat.add_mul]; omega] at this

theorem data_oneCell : ∀ (t : Ty) (x : El t) (vs : List Value), RepVs η w A (cellsOf t x) vs → ∀ v ∈ vs, v.oneCell' = true := by
  intro t x vs h
  refine cells_oneCell (H := fun _ => none) (fun b B hb => by cases hb) ?_ h
  have : ∀ (t : Ty) (x : El t), (cellsOf t x).all (AVal.cell fun _ => none) = true := by
    intro t
    induction t with
    | int => intro x; rfl
    | bool => intro x; rfl
    | unit => intro x; rfl
    | pair a b ha hb => intro x; simp only [cellsOf, List.all_append, ha, hb, Bool.and_true]
    | sl => intro x; rfl
  exact this t x

theorem flat_oneCell : ∀ (xs : List (El t)) (vs : List Value), RepVs η w A (xs.flatMap (cellsOf t)) vs → ∀ v ∈ vs, v.oneCell' = true
  | [], vs, h, v, hv => by rw [List.flatMap_nil] at h; unfold RepVs at h; subst h; simp at hv
  | x :: xs, vs, h, v, hv => by
    rw [List.flatMap_cons] at h
    obtain ⟨v1, v2, rfl, r1, r2⟩ := h.split
    rcases List.mem_append.1 hv with hv | hv
    · exact data_oneCell t x v1 r1 v hv
    · exact flat_oneCell xs v2 r2 v hv

theorem flat_ids : ∀ (xs : List (El t)), AVal.idsL (xs.flatMap (cellsOf t)) = []
  | [] => rfl
  | x :: xs => by rw [List.flatMap_cons, ids_append, cellsOf_ids, flat_ids xs]; rfl

theorem RepVs.flat {η' : Nat → Value} {A' : Nat → Prop} {w' : World} (k : Keeps A A' w w') {xs : List (El t)} {vs : List Value} (h : RepVs η w A (xs.flatMap (cellsOf t)) vs) : RepVs η' w' A' (xs.flatMap (cellsOf t)) vs :=
  RepVs.step k _ _ (fun b hb => by rw [no_ids (flat_ids xs) b] at hb; cases hb) h

end

section
variable {P : Program} {T : Tab} {n : Nat} {ds : List Deferred} {A0 L0 : Nat → Prop} {w0 : Old} {η : Nat → Value} {s : ASt} {a : Act} {w : World}

theorem stStore_ap (hT : TabOK P T) (h : Rel n ds A0 L0 w0 η s a w) {d : Option Nat} (hd : ∀ i, d = some i → i < n) {t : TypeId} {i : TInfo} (ht : T t = some i) {b sz j off : Nat} {xv : Value} (hx : RepV η w (Av A0 η s.H) (.ap b sz j off) xv)
    {v : AVal} {vv : Value} (hv : RepV η w (Av A0 η s.H) v vv) (hl : (cellsV v).length = i.size) (hc : (cellsV v).all (AVal.cell s.H) = true) {e : TypeId} {τ : Ty} {xs : List (El τ)} (hb : s.H b = some (.arr e τ xs)) (hsz : sz = τ.size) (hfit : off + i.size ≤ τ.size)
    (hj : j < xs.length) (hid : v.ids.contains b = false) {x' : El τ} (hel : toEl s.H τ (splice (cellsOf τ (xs.getD j τ.dflt)) off (cellsV v)) = some (x', [])) :
    ∃ w', (Instr.storeAt t xv vv).run P w = .ok () w' ∧ Rel n ds A0 L0 w0 η (s.app d { v := .un, hp := (b, .arr e τ (xs.set j x')) :: rest s.H v.ids }) (a.put d undef) w' := by
  unfold RepV at hx
  obtain ⟨g, n', c, hη, rfl⟩ := hx
  subst hsz
  have hH : ∀ b B, s.H b = some B → RelBlk η w (Av A0 η s.H) B (η b) := fun b B hb => h.hp.blk b B hb
  rcases hH b _ hb with ⟨e1, _⟩ | ⟨g', cap, cur, e1, e2, e3, e4, e5, e6⟩
  · rw [e1] at hj; simp at hj
  rw [hη] at e1
  injection e1 with e1 e7 e8
  injection e1 with e1
  injection e1 with e1 _ _
  subst e1 e8
  have hr := cellsV_rep hH hc hv
  have hlen : vv.cells.toList.length = i.size := by rw [← hr.length, hl]
  have hone := cells_oneCell hH hc hr
  have hjc : (j + 1) * τ.size ≤ c * τ.size := Nat.mul_le_mul_right _ (by omega)
  rw [Nat.add_mul, Nat.one_mul] at hjc
  have hfit' : j * τ.size + off + i.size ≤ cur.size := by rw [e5]; omega
  refine ⟨_, run_storeAt_rep (hT t i ht) e2 (by simpa using hlen) hfit' hone, ?_⟩
  have hrow : (w.setRow g (cur.toList.take (j * τ.size + off) ++ vv.cells.toList ++ cur.toList.drop (j * τ.size + off + vv.cells.toList.length)).toArray).heap[g]? = _ := setRow_heap w g _ _ _ _ e2
  have hcell : ∀ q, (w.setRow g (cur.toList.take (j * τ.size + off) ++ vv.cells.toList ++ cur.toList.drop (j * τ.size + off + vv.cells.toList.length)).toArray).cell? ⟨g, q, none⟩ = if j * τ.size + off ≤ q ∧ q < j * τ.size + off + i.size then vv.cells.toList[q - (j * τ.size + off)]? else cur[q]? := by
    intro q
    rw [cell_of_row _ g q _ _ _ hrow, List.getElem?_toArray, splice_get cur.toList vv.cells.toList (j * τ.size + off) q (by rw [hlen]; simpa using hfit'), hlen, ← Array.getElem?_toList (xs := cur)]
  have hN : ∀ b' B g', hpGet ((b, ABlk.arr e τ (xs.set j x')) :: rest s.H v.ids) b' = some B → B.mut = true → hblk (η b') = some g' → (∃ b0 B0, s.H b0 = some B0 ∧ B0.mut = true ∧ hblk (η b0) = some g' ∧ (b0 = b' ∨ (b' = 0 ∧ ([] : List Nat).contains b0 = true))) ∨ (w.heap.size ≤ g' ∧ b' = 0) := by
    intro b' B g' hb' hm hg'
    simp only [hpGet] at hb'
    split at hb'
    · rename_i e
      subst e
      exact .inl ⟨_, _, hb, rfl, hg', .inl rfl⟩
    · obtain ⟨_, _, _, _, e9, _⟩ := hpGet_rest _ _ _ _ hb'
      subst e9
      cases hm
  refine h.eff (nid := 0) hd (fun _ _ => rfl) ⟨rfl, rfl, rfl⟩ (by simp [World.setRow]) (fun k hk => ?_) hN ?_ ?_ (hhn := fun b' _ hs => by
    simp only [hpGet] at hs
    split at hs
    · rename_i e; subst e; rw [hb]; rfl
    · obtain ⟨B9, hB9⟩ := Option.isSome_iff_exists.1 hs
      obtain ⟨_, _, _, h9, _⟩ := hpGet_rest _ _ _ _ hB9
      rw [h9]; rfl)
  · by_cases hkg : k = g
    · subst hkg
      exact .inr ⟨b, _, hb, rfl, by rw [hη]; rfl, .inl (by simp [hpGet])⟩
    · exact .inl (setRow_same w g k _ hkg)
  · intro k b' B' hb'
    -- rows that come to rest
    have hown : ∀ b' t' ys e', b' ∈ v.ids → (s.H b' = some (.arr e' t' ys) ∨ s.H b' = some (.imm t' ys)) →
        ∃ a' c', η b' = .slice a' ys.length c' ∧ SlBody (w.setRow g (cur.toList.take (j * τ.size + off) ++ vv.cells.toList ++ cur.toList.drop (j * τ.size + off + vv.cells.toList.length)).toArray).heap.size
          (Av A0 η (s.app d { v := .un, hp := (b, .arr e τ (xs.set j x')) :: rest s.H v.ids }).H) t'.size (fun y p z => RepAt (w.setRow g (cur.toList.take (j * τ.size + off) ++ vv.cells.toList ++ cur.toList.drop (j * τ.size + off + vv.cells.toList.length)).toArray)
          (Av A0 η (s.app d { v := .un, hp := (b, .arr e τ (xs.set j x')) :: rest s.H v.ids }).H) t' y p z) ys a' c' := by
      intro b' t' ys e' hm' hbb
      have hne : b' ≠ b := fun e => by
        subst e
        have : v.ids.contains b' = true := by simpa using hm'
        rw [hid] at this; cases this
      refine rested h.hp hbb k fun g' hba hg' => ⟨setRow_same w g g' _ (fun e => ?_), ?_⟩
      · subst e
        exact hne (h.hp.inj b' b _ _ _ hba hb rfl rfl hg' (by rw [hη]; rfl))
      · refine notLive_of (nid := 0) h.hp (app_live (fun _ _ => rfl) hN) hba ?_ rfl hg'
        simp only [ASt.app, hpGet, hne, if_false, rest_get _ _ _ hm' hba]
    simp only [hpGet] at hb'
    split at hb'
    · rename_i e
      subst e
      injection hb' with hb'
      subst hb'
      refine .inr ⟨g, c, _, by rw [hη, e7]; simp, hrow, by simpa using e3, e4, ?_, fun q x hq => ?_⟩
      · simp only [List.size_toArray, List.length_append, List.length_take, List.length_drop, Array.length_toList, hlen]
        omega
      · by_cases hqj : q = j
        · subst hqj
          have hxx : x = x' := by
            have : (xs.set q x')[q]? = some x' := by simp [hj]
            rw [this] at hq; injection hq with hq; exact hq.symm
          subst hxx
          have hxq : xs[q]? = some (xs.getD q τ.dflt) := by simp [List.getD, hj]
          obtain ⟨vs, hvc, hvr⟩ := RepAt.cells η τ _ g _ (e6 q _ hxq)
          have hvl : vs.length = τ.size := by rw [← hvr.length, cellsOf_len]
          have hsp := splice_rep off hvr hr
          obtain ⟨v1, v2, hv12, r1, r2, _⟩ := toEl_rep (η' := η) k τ _ x [] _ hel hsp (fun b' t' ys e' hm' hbb => hown b' t' ys e' (by
            unfold splice at hm'
            rw [ids_append, ids_append] at hm'
            have h1 : AVal.idsL ((cellsOf τ (xs.getD q τ.dflt)).take off) = [] := by
              have := cellsOf_ids τ (xs.getD q τ.dflt)
              rw [← List.take_append_drop off (cellsOf τ _), ids_append] at this
              exact (List.append_eq_nil_iff.1 this).1
            have h2 : AVal.idsL ((cellsOf τ (xs.getD q τ.dflt)).drop (off + (cellsV v).length)) = [] := by
              have := cellsOf_ids τ (xs.getD q τ.dflt)
              rw [← List.take_append_drop (off + (cellsV v).length) (cellsOf τ _), ids_append] at this
              exact (List.append_eq_nil_iff.1 this).2
            rw [h1, h2, idsL_cellsV] at hm'
            simpa using hm') hbb)
          unfold RepVs at r2
          subst r2
          rw [List.append_nil] at hv12
          subst hv12
          refine RepAt.of_cells τ x g _ _ (fun p u hp => ?_) r1
          rw [hcell]
          rw [splice_get vs vv.cells.toList off p (by rw [hvl, hlen]; exact hfit), hlen] at hp
          by_cases hp1 : off ≤ p ∧ p < off + i.size
          · rw [if_pos hp1] at hp
            rw [if_pos (by omega), show q * τ.size + p - (q * τ.size + off) = p - off by omega]
            exact hp
          · rw [if_neg hp1] at hp
            rw [if_neg (by omega)]
            have := hvc p u hp
            rwa [cell_of_row w g _ cur e _ e2] at this
        · have hq' : xs[q]? = some x := by rwa [List.getElem?_set_ne (fun e => hqj e.symm)] at hq
          obtain ⟨vs, hvc, hvr⟩ := RepAt.cells η τ x g _ (e6 q _ hq')
          have hvl : vs.length = τ.size := by rw [← hvr.length, cellsOf_len]
          refine RepAt.of_cells τ x g _ vs (fun p u hp => ?_) (RepVs.data (η' := η) k hvr)
          have hpl : p < τ.size := by rw [← hvl]; exact (List.getElem?_eq_some_iff.1 hp).1
          rw [hcell, if_neg ?_]
          · have := hvc p u hp
            rwa [cell_of_row w g _ cur e _ e2] at this
          · rcases Nat.lt_or_gt_of_ne hqj with hlt | hgt
            · have := Nat.mul_le_mul_right τ.size (show q + 1 ≤ j by omega)
              rw [Nat.add_mul, Nat.one_mul] at this
              omega
            · have := Nat.mul_le_mul_right τ.size (show j + 1 ≤ q by omega)
              rw [Nat.add_mul, Nat.one_mul] at this
              omega
    · obtain ⟨e9, t9, ys, h9, e10, hm9⟩ := hpGet_rest _ _ _ _ hb'
      subst e10
      exact hown b' t9 ys e9 hm9 (.inl h9)
  · intro k; unfold RepV; trivial

end
end Go.Proofs.Ytcijihofjcfpoab
