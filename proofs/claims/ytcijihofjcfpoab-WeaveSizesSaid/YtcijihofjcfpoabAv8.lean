/-
  The abstract machine, 8: literals, make, append, slicing. No program is named here.
-/
import Derived.Test.YtcijihofjcfpoabAv7
namespace Go.Proofs.Ytcijihofjcfpoab
open Go.RowKit

set_option linter.constructorNameAsVariable false

section
variable {P : Program} {T : Tab} {n : Nat} {ds : List Deferred} {A0 L0 : Nat → Prop} {w0 : Old} {η : Nat → Value} {s : ASt} {a : Act} {w : World}

/-- A new row; rows that its elements speak of come to rest. -/
theorem Rel.newArr (h : Rel n ds A0 L0 w0 η s a w) {d : Option Nat} (hd : ∀ i, d = some i → i < n) {nid : Nat} (hnid0 : nid < 1000) {e : TypeId} {τ : Ty} {xs : List (El τ)} {ids : List Nat} {cur : Array Value} {cap : Nat} {w' : World} {kl : List Nat} (hkl : kl.contains nid = true) (hki : ∀ b, kl.contains b = true → ids.contains b = false)
    (hos : w'.os = w.os ∧ w'.tape = w.tape ∧ w'.output = w.output) (hheap : w'.heap = w.heap.push (.cells cur e)) (hcap : xs.length ≤ cap) (hmax : cap ≤ maxLen) (hcur : cur.size = cap * τ.size)
    (hel : ∀ A', Keeps (Av A0 η s.H) A' w w' →
      (∀ b' t' ys e', b' ∈ ids → (s.H b' = some (.arr e' t' ys) ∨ s.H b' = some (.imm t' ys)) → ∃ a' c', η b' = .slice a' ys.length c' ∧ SlBody w'.heap.size A' t'.size (fun y p z => RepAt w' A' t' y p z) ys a' c') →
      ∀ i x, xs[i]? = some x → RepAt w' A' τ x w.heap.size (i * τ.size)) :
    Rel n ds A0 L0 w0 (setη η nid (.slice (some ⟨w.heap.size, 0, none⟩) xs.length cap)) (s.app d { v := .own nid, kill := kl, hp := (nid, .arr e τ xs) :: rest s.H ids }) (a.put d (.slice (some ⟨w.heap.size, 0, none⟩) xs.length cap)) w' := by
  have hη : ∀ b, kl.contains b = false → setη η nid (.slice (some ⟨w.heap.size, 0, none⟩) xs.length cap) b = η b := fun b hb => setη_other _ _ (fun e => by rw [e, hkl] at hb; cases hb)
  have hold : ∀ g, g < w.heap.size → w'.heap[g]? = w.heap[g]? := fun g hg => by rw [hheap, Array.getElem?_push, if_neg (by omega)]
  have hN : ∀ b B g, hpGet ((nid, ABlk.arr e τ xs) :: rest s.H ids) b = some B → B.mut = true → hblk (setη η nid (.slice (some ⟨w.heap.size, 0, none⟩) xs.length cap) b) = some g → (∃ b0 B0, s.H b0 = some B0 ∧ B0.mut = true ∧ hblk (η b0) = some g ∧ (b0 = b ∨ (b = nid ∧ kl.contains b0 = true))) ∨ (w.heap.size ≤ g ∧ b = nid) := by
    intro b B g hb hm hg
    simp only [hpGet] at hb
    split at hb
    · rename_i e'
      subst e'
      rw [setη_same] at hg
      injection hg with hg
      exact .inr ⟨Nat.le_of_eq hg, rfl⟩
    · obtain ⟨_, _, _, _, e9, _⟩ := hpGet_rest _ _ _ _ hb
      subst e9
      cases hm
  refine h.eff (nid := nid) hd hη hos (by rw [hheap]; simp) (fun g hg => .inl (hold g hg)) hN ?_ ?_ hnid0 (fun b hb hs => by
    by_cases e : b = nid
    · exact e
    · exfalso
      simp only [hpGet, e, if_false] at hs
      obtain ⟨B9, hB9⟩ := Option.isSome_iff_exists.1 hs
      obtain ⟨_, _, _, _, _, h9⟩ := hpGet_rest _ _ _ _ hB9
      have := hki b hb
      simp only [List.contains_eq_mem, decide_eq_false_iff_not] at this
      exact this h9) (fun b hb hs => by
    simp only [hpGet, hb, if_false] at hs
    obtain ⟨B9, hB9⟩ := Option.isSome_iff_exists.1 hs
    obtain ⟨_, _, _, h9, _⟩ := hpGet_rest _ _ _ _ hB9
    rw [h9]; rfl)
  · intro k b B hb
    have hown : ∀ b' t' ys e', b' ∈ ids → (s.H b' = some (.arr e' t' ys) ∨ s.H b' = some (.imm t' ys)) →
        ∃ a' c', η b' = .slice a' ys.length c' ∧ SlBody w'.heap.size (Av A0 (setη η nid (.slice (some ⟨w.heap.size, 0, none⟩) xs.length cap)) (s.app d { v := .own nid, kill := kl, hp := (nid, .arr e τ xs) :: rest s.H ids }).H) t'.size
          (fun y p z => RepAt w' (Av A0 (setη η nid (.slice (some ⟨w.heap.size, 0, none⟩) xs.length cap)) (s.app d { v := .own nid, kill := kl, hp := (nid, .arr e τ xs) :: rest s.H ids }).H) t' y p z) ys a' c' := by
      intro b' t' ys e' hm' hbb
      have hnk : kl.contains b' = false := by
        cases hk : kl.contains b' with
        | false => rfl
        | true =>
          have := hki b' hk
          simp only [List.contains_eq_mem, decide_eq_false_iff_not] at this
          exact absurd hm' this
      have hne : b' ≠ nid := fun e => by rw [e, hkl] at hnk; cases hnk
      refine rested h.hp hbb k fun g' hba hg' => ⟨hold g' (Live.lt h.hp ⟨b', _, hba, rfl, hg'⟩), ?_⟩
      refine notLive_of (nid := nid) h.hp (app_live hη hN) hba ?_ hnk hg'
      simp only [ASt.app, hpGet, hne, if_false, rest_get _ _ _ hm' hba]
    simp only [hpGet] at hb
    split at hb
    · rename_i e'
      subst e'
      injection hb with hb
      subst hb
      refine .inr ⟨w.heap.size, cap, cur, setη_same _ _ _, by rw [hheap, Array.getElem?_push, if_pos rfl], hcap, hmax, hcur, hel _ k hown⟩
    · rename_i hne
      obtain ⟨e9, t9, ys, h9, e10, hm9⟩ := hpGet_rest _ _ _ _ hb
      subst e10
      rw [setη_other _ _ hne]
      exact hown b t9 ys e9 hm9 (.inl h9)
  · intro k
    unfold RepV
    exact (setη_same _ _ _).symm

/-- A row that is still empty, and nil. -/
theorem Rel.newNil (h : Rel n ds A0 L0 w0 η s a w) {d : Option Nat} (hd : ∀ i, d = some i → i < n) {nid : Nat} (hnid : nid < 1000) {e : TypeId} {τ : Ty} :
    Rel n ds A0 L0 w0 (setη η nid (.slice none 0 0)) (s.app d { v := .own nid, kill := [nid], hp := [(nid, .arr e τ [])] }) (a.put d (.slice none 0 0)) w := by
  refine h.eff (nid := nid) hd (fun b hb => setη_other _ _ (by simpa using hb)) ⟨rfl, rfl, rfl⟩ (Nat.le_refl _) (fun g _ => .inl rfl) ?_ ?_ ?_ hnid (fun b hb _ => by simpa using hb) (fun b hb hs => by simp only [hpGet, hb, if_false] at hs; cases hs)
  · intro b B g hb hm hg
    simp only [hpGet] at hb
    split at hb
    · rename_i e'
      subst e'
      rw [setη_same] at hg
      cases hg
    · cases hb
  · intro k b B hb
    simp only [hpGet] at hb
    split at hb
    · rename_i e'
      subst e'
      injection hb with hb
      subst hb
      exact .inl ⟨rfl, setη_same _ _ _⟩
    · cases hb
  · intro k
    unfold RepV
    exact (setη_same _ _ _).symm

theorem zcells_rep {A : Nat → Prop} : ∀ (t : Ty), RepVs η w A (cellsOf t t.dflt) (zcells t)
  | .int k => RepVs.cons (by unfold RepV; rfl) RepVs.nil
  | .bool => RepVs.cons (by unfold RepV; rfl) RepVs.nil
  | .unit => RepVs.nil
  | .pair a b => by
    unfold cellsOf zcells
    exact (zcells_rep a).append (zcells_rep b)
  | .sl t => RepVs.cons (by unfold RepV; exact ⟨none, 0, rfl, by simp [Ty.dflt], by simp [maxLen], fun hp => by simp [Ty.dflt] at hp⟩) RepVs.nil

theorem stMake_does (hT : TabOK P T) (h : Rel n ds A0 L0 w0 η s a w) {d : Option Nat} (hd : ∀ i, d = some i → i < n) {nid : Nat} (hnid : nid < 1000) {t : TypeId} {x y : AVal} {xv yv : Value} (hx : RepV η w (Av A0 η s.H) x xv) (hy : RepV η w (Av A0 η s.H) y yv) {K : Eff → Prop}
    (hs : stMakeSlice T nid t x y K) : Does P (Instr.makeSlice t xv yv) n ds A0 L0 w0 s a w d K := by
  unfold stMakeSlice at hs
  split at hs
  case h_2 => exact hs.elim
  rename_i i k l k' c ht
  cases hdd : i.desc <;> simp only [hdd] at hs
  case sl e =>
    cases he : T e with
    | none => simp [he] at hs
    | some ie =>
      simp only [he] at hs
      cases hdt : ie.dt with
      | none => simp [hdt] at hs
      | some τ =>
        simp only [hdt] at hs
        obtain ⟨h0, h1, h2, h3, hK⟩ := hs
        unfold RepV at hx hy
        subst hx hy
        have hte := hT e ie he
        obtain ⟨info, z, dd, hi, hsz, hby, hz, hzz, _⟩ := hte.ex
        obtain ⟨d1, d2, d3⟩ := hte.dt τ hdt
        have hzs : z.cells.size = τ.size := by
          have := hte.zsize
          rw [← hzz] at this
          rw [d1]; simpa using this
        have hr := run_make (P := P) w t e info z ((hT t i ht).slice hdd) hi hz k k' l c h0 h1 (by rw [hby]; exact h2) h3
        rw [hsz, ← d1] at hr
        have hl : (List.replicate l.toNat τ.dflt).length = l.toNat := by simp
        have hrel := h.newArr hd (nid := nid) hnid (e := e) (τ := τ) (xs := List.replicate l.toNat τ.dflt) (ids := []) (cur := madeCells z.cells (c.toNat * τ.size)) (cap := c.toNat) (w' := w.alloc (.cells (madeCells z.cells (c.toNat * τ.size)) e))
          (kl := [nid]) (by simp) (by simp) ⟨rfl, rfl, rfl⟩ rfl (by rw [hl]; omega) (by simp [maxLen]; omega) (size_madeCells _ _) (fun A' k' _ j x hj => by
            obtain ⟨hjl, hjx⟩ := List.getElem?_eq_some_iff.1 hj
            rw [List.getElem_replicate] at hjx
            subst hjx
            rw [hl] at hjl
            refine RepAt.of_cells (η := η) τ _ _ _ (zcells τ) (fun p u hp => ?_) (zcells_rep τ)
            rw [World.cell?_alloc_new]
            have hpl : p < τ.size := by
              have := (List.getElem?_eq_some_iff.1 hp).1
              rw [← d2, hte.zsize, ← d1] at this
              exact this
            have hjc := Nat.mul_le_mul_right τ.size (show j + 1 ≤ c.toNat by omega)
            rw [Nat.add_mul, Nat.one_mul] at hjc
            have hq : j * τ.size + p < c.toNat * τ.size := by omega
            have hmod : (j * τ.size + p) % z.cells.size = p := by rw [hzs, Nat.mul_comm, Nat.mul_add_mod, Nat.mod_eq_of_lt hpl]
            rw [← d2, ← hzz] at hp
            have hp' : z.cells[p]? = some u := by simpa using hp
            simp only [madeCells, Array.getElem?_map, Array.getElem?_range, hq, if_true, Option.map_some, hmod]
            rw [getElem!_def, hp'])
        rw [hl] at hrel
        exact ⟨_, _, _, _, hK, hr, hrel⟩

theorem toEls_rep {A A' : Nat → Prop} {w' : World} {η' : Nat → Value} (hH : ∀ b B, s.H b = some B → RelBlk η w A B (η b)) (k : Keeps A A' w w') {τ : Ty} (hpos : 0 < τ.size) : ∀ (l : List AVal) (xs : List (El τ)) (vs : List Value), toEls s.H τ l = some xs → RepVs η w A l vs → (l.all fun p => (cellsV p).all (AVal.cell s.H)) = true →
    (∀ b t ys e, b ∈ AVal.idsL l → (s.H b = some (.arr e t ys) ∨ s.H b = some (.imm t ys)) → ∃ a c, η b = .slice a ys.length c ∧ SlBody w'.heap.size A' t.size (fun x b o => RepAt w' A' t x b o) ys a c) →
    xs.length = vs.length ∧ (∀ v ∈ vs, v.cells.size = τ.size) ∧ RepVs η' w' A' (xs.flatMap (cellsOf τ)) (vs.flatMap fun v => v.cells.toList)
  | [], xs, vs, h, hr, _, _ => by
    simp [toEls] at h
    subst h
    unfold RepVs at hr
    subst hr
    exact ⟨rfl, by simp, RepVs.nil⟩
  | v :: l, xs, vs, h, hr, hc, hown => by
    unfold toEls at h
    split at h
    case h_2 => cases h
    rename_i x xs' h1 h2
    injection h with h
    subst h
    unfold RepVs at hr
    obtain ⟨u, us, rfl, hu, hl⟩ := hr
    simp only [List.all_cons, Bool.and_eq_true] at hc
    have hcell := cellsV_rep hH hc.1 hu
    obtain ⟨v1, v2, e1, r1, r2, _⟩ := toEl_rep (η' := η') k τ _ x [] _ h1 hcell (fun b t ys e hb => hown b t ys e (by rw [idsL_cellsV] at hb; simp [AVal.idsL, hb]))
    unfold RepVs at r2
    subst r2
    rw [List.append_nil] at e1
    obtain ⟨k1, k2, k3⟩ := toEls_rep (η' := η') hH k hpos l xs' us h2 hl hc.2 (fun b t ys e hb => hown b t ys e (by simp [AVal.idsL, hb]))
    have hsz : u.cells.size = τ.size := by
      have := r1.length
      rw [cellsOf_len, ← e1] at this
      simpa using this.symm
    refine ⟨by simp [k1], fun y hy => ?_, by rw [List.flatMap_cons, List.flatMap_cons, e1]; exact r1.append k3⟩
    rcases List.mem_cons.1 hy with rfl | hy
    · exact hsz
    · exact k2 y hy

theorem zip_parts {α : Type} : ∀ (l : List (Nat × α)) (k : Nat), l.map (·.1) = List.range' k l.length → l = ((l.map (·.2)).zipIdx k).map fun x => (x.2, x.1)
  | [], k, _ => rfl
  | (i, x) :: l, k, h => by
    simp only [List.map_cons, List.length_cons, List.range'_succ, List.cons.injEq] at h
    simp only [List.map_cons, List.zipIdx_cons]
    rw [← zip_parts l (k + 1) h.2, h.1]

theorem flat_size {vs : List Value} {sz : Nat} (h : ∀ v ∈ vs, v.cells.size = sz) : (vs.flatMap fun v => v.cells.toList).length = vs.length * sz := by
  induction vs with
  | nil => simp
  | cons v vs ih =>
    rw [List.flatMap_cons, List.length_append, ih (fun y hy => h y (by simp [hy]))]
    have := h v (by simp)
    simp [this, Nat.add_mul, Nat.add_comm]

theorem stBuildSlice_does (hT : TabOK P T) (h : Rel n ds A0 L0 w0 η s a w) {d : Option Nat} (hd : ∀ i, d = some i → i < n) {nid : Nat} (hnid : nid < 1000) {t : TypeId} {len : Nat} {parts : List (Nat × AVal)} {vparts : Array (Nat × Value)} (hp1 : vparts.toList.map (·.1) = parts.map (·.1))
    (hp2 : RepVs η w (Av A0 η s.H) (parts.map (·.2)) (vparts.toList.map (·.2))) {K : Eff → Prop} (hs : stBuildSlice T s nid t len parts K) : Does P (Instr.buildSlice t len vparts) n ds A0 L0 w0 s a w d K := by
  unfold stBuildSlice at hs
  cases ht : T t with
  | none => simp [ht] at hs
  | some i =>
    simp only [ht] at hs
    cases hdd : i.desc <;> simp only [hdd] at hs
    case sl e =>
      cases he : T e with
      | none => simp [he] at hs
      | some ie =>
        simp only [he] at hs
        cases hdt : ie.dt with
        | none => simp [hdt] at hs
        | some τ =>
          simp only [hdt] at hs
          obtain ⟨hix, hsm, hc, hid, hs⟩ := hs
          split at hs
          case h_2 => exact hs.elim
          rename_i xs hxs
          have hte := hT e ie he
          obtain ⟨info, z, dd, hi, hsz, hby, hz, hzz, _⟩ := hte.ex
          obtain ⟨d1, d2, d3⟩ := hte.dt τ hdt
          have hH : ∀ b B, s.H b = some B → RelBlk η w (Av A0 η s.H) B (η b) := fun b B hb => h.hp.blk b B hb
          have hzs : z.cells.size = τ.size := by
            have := hte.zsize
            rw [← hzz] at this
            rw [d1]; simpa using this
          have hplen : parts.length = len := by have := congrArg List.length hix; simpa using this
          have hvlen : vparts.toList.length = len := by have := congrArg List.length hp1; simp only [List.length_map, hplen] at this; exact this
          have hvp : vparts.toList = ((vparts.toList.map (·.2)).zipIdx 0).map fun x => (x.2, x.1) := zip_parts _ 0 (by rw [hp1, hix, hvlen, List.range_eq_range'])
          generalize hvs : vparts.toList.map (·.2) = vs at hp2 hvp
          have hvsl : vs.length = len := by rw [← hvs]; simpa using hvlen
          have hcall : ((parts.map (·.2)).all fun p => (cellsV p).all (AVal.cell s.H)) = true := by rw [List.all_map]; exact hc
          have hsizes : xs.length = vs.length ∧ ∀ v ∈ vs, v.cells.size = τ.size := by
            have hown : ∀ b t ys e, b ∈ AVal.idsL (parts.map (·.2)) → (s.H b = some (.arr e t ys) ∨ s.H b = some (.imm t ys)) → ∃ a c, η b = .slice a ys.length c ∧ SlBody w.heap.size (fun _ => False) t.size (fun x b o => RepAt w (fun _ => False) t x b o) ys a c := fun b t ys e _ hb =>
              rested h.hp hb ⟨Nat.le_refl _, fun _ _ _ => rfl, fun _ _ hf => hf.elim⟩ (fun g _ _ => ⟨rfl, fun hf => hf⟩)
            obtain ⟨k1, k2, _⟩ := toEls_rep (η' := η) hH ⟨Nat.le_refl _, fun _ _ _ => rfl, fun _ _ hf => hf.elim⟩ d3 _ xs vs hxs hp2 hcall hown
            exact ⟨k1, k2⟩
          have hfs := flat_size hsizes.2
          have hrun : (Instr.buildSlice t len vparts).run P w = .ok (.slice (some ⟨w.heap.size, 0, none⟩) len len) (w.alloc (.cells (vs.flatMap fun v => v.cells.toList).toArray e)) := by
            by_cases hlen : len = 0
            · have hvnil : vs = [] := List.eq_nil_of_length_eq_zero (by omega)
              have hvpn : vparts.toList = [] := List.eq_nil_of_length_eq_zero (by omega)
              subst hlen
              rw [hvnil]
              simp [Instr.buildSlice, run_underlying ((hT t i ht).slice hdd), sizeOf, typeInfo, hi, hvpn, Instr.fill, newRow, Array.range_zero']
            · refine run_buildSlice w t e len vparts _ info z ((hT t i ht).slice hdd) hi hz (by rw [hsz]; omega) (by rw [hsz, ← d1]; exact fun h0 => (Nat.mul_eq_zero.1 h0).elim hlen (by omega)) ?_
              rw [hvp, hsz, ← d1]
              exact Great.fill_whole d3 vs _ hsizes.2 (by simp [hvsl])
          have hxl : xs.length = len := by rw [hsizes.1, hvsl]
          have hlenmax : len ≤ maxLen := by
            have h1 : 1 ≤ ie.size := by omega
            have := Nat.mul_le_mul_left len h1
            simp [maxLen]; omega
          have hrel := h.newArr hd (nid := nid) hnid (e := e) (τ := τ) (xs := xs) (ids := AVal.idsL (parts.map (·.2))) (cur := (vs.flatMap fun v => v.cells.toList).toArray) (cap := len) (w' := w.alloc (.cells (vs.flatMap fun v => v.cells.toList).toArray e))
            (kl := [nid]) (by simp) (fun b hb => by
              have : b = nid := by simpa using hb
              rw [this]; exact hid) ⟨rfl, rfl, rfl⟩ rfl (by omega) hlenmax (by simp only [List.size_toArray, hfs, hvsl]) (fun A' k' hown j x hj => by
              obtain ⟨_, _, k3⟩ := toEls_rep (η' := η) hH k' d3 _ xs vs hxs hp2 hcall hown
              have := arr_of_cells (w := w.alloc (.cells (vs.flatMap fun v => v.cells.toList).toArray e)) (g := w.heap.size) xs 0 (vs.flatMap fun v => v.cells.toList) (fun q v hq => by
                rw [Nat.zero_add, World.cell?_alloc_new]; simpa using hq) k3 j x hj
              rwa [Nat.zero_add] at this)
          rw [hxl] at hrel
          exact ⟨_, _, _, _, hs, hrun, hrel⟩

end
end Go.Proofs.Ytcijihofjcfpoab
