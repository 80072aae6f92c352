/-
  The abstract machine, 4: cells and values; the laws that the operations need. No program is named here.
-/
import Derived.Test.YtcijihofjcfpoabAv3
import Derived.Great.BuildSlice
import Derived.Laws.Cells
import Derived.Laws.Slices
namespace Go.Proofs.Ytcijihofjcfpoab
open Go.RowKit

set_option linter.constructorNameAsVariable false

/-! ### Lists of values -/
section
variable {η : Nat → Value} {w : World} {A : Nat → Prop}

theorem RepVs.length : ∀ {l : List AVal} {vs : List Value}, RepVs η w A l vs → l.length = vs.length
  | [], vs, h => by unfold RepVs at h; simp [h]
  | x :: l, vs, h => by
    unfold RepVs at h
    obtain ⟨u, us, rfl, _, hl⟩ := h
    simp [RepVs.length hl]

theorem RepVs.cons {x : AVal} {l : List AVal} {v : Value} {vs : List Value} (hx : RepV η w A x v) (hl : RepVs η w A l vs) : RepVs η w A (x :: l) (v :: vs) := by
  unfold RepVs; exact ⟨v, vs, rfl, hx, hl⟩
theorem RepVs.nil : RepVs η w A [] [] := by unfold RepVs; rfl

theorem RepVs.append : ∀ {l m : List AVal} {vs us : List Value}, RepVs η w A l vs → RepVs η w A m us → RepVs η w A (l ++ m) (vs ++ us)
  | [], m, vs, us, h, k => by unfold RepVs at h; subst h; exact k
  | x :: l, m, vs, us, h, k => by
    unfold RepVs at h
    obtain ⟨u, vs', rfl, hx, hl⟩ := h
    exact RepVs.cons hx (RepVs.append hl k)

theorem RepVs.drop : ∀ {l : List AVal} {vs : List Value} (j : Nat), RepVs η w A l vs → RepVs η w A (l.drop j) (vs.drop j)
  | l, vs, 0, h => by simpa using h
  | [], vs, j + 1, h => by unfold RepVs at h; subst h; simpa using RepVs.nil
  | x :: l, vs, j + 1, h => by
    unfold RepVs at h
    obtain ⟨u, vs', rfl, hx, hl⟩ := h
    simpa using RepVs.drop j hl

theorem RepVs.take : ∀ {l : List AVal} {vs : List Value} (j : Nat), RepVs η w A l vs → RepVs η w A (l.take j) (vs.take j)
  | l, vs, 0, h => by simpa using RepVs.nil
  | [], vs, j + 1, h => by unfold RepVs at h; subst h; simpa using RepVs.nil
  | x :: l, vs, j + 1, h => by
    unfold RepVs at h
    obtain ⟨u, vs', rfl, hx, hl⟩ := h
    rw [List.take_succ_cons, List.take_succ_cons]
    exact RepVs.cons hx (RepVs.take j hl)

theorem RepVs.split : ∀ {l m : List AVal} {vs : List Value}, RepVs η w A (l ++ m) vs → ∃ v1 v2, vs = v1 ++ v2 ∧ RepVs η w A l v1 ∧ RepVs η w A m v2
  | [], m, vs, h => ⟨[], vs, rfl, RepVs.nil, h⟩
  | x :: l, m, vs, h => by
    rw [List.cons_append] at h
    unfold RepVs at h
    obtain ⟨u, vs', rfl, hx, hl⟩ := h
    obtain ⟨v1, v2, rfl, h1, h2⟩ := RepVs.split hl
    exact ⟨u :: v1, v2, rfl, RepVs.cons hx h1, h2⟩

theorem RepVs.get : ∀ {l : List AVal} {vs : List Value} {i : Nat} {x : AVal}, RepVs η w A l vs → l[i]? = some x → ∃ v, vs[i]? = some v ∧ RepV η w A x v
  | [], vs, i, x, h, hi => by simp at hi
  | y :: l, vs, 0, x, h, hi => by
    unfold RepVs at h
    obtain ⟨u, vs', rfl, hx, hl⟩ := h
    simp at hi
    subst hi
    exact ⟨u, rfl, hx⟩
  | y :: l, vs, i + 1, x, h, hi => by
    unfold RepVs at h
    obtain ⟨u, vs', rfl, hx, hl⟩ := h
    simpa using RepVs.get hl (by simpa using hi)

theorem RepVs.of_map {α : Type} {f : α → AVal} {g : α → Value} : ∀ (l : List α), (∀ x ∈ l, RepV η w A (f x) (g x)) → RepVs η w A (l.map f) (l.map g)
  | [], _ => RepVs.nil
  | x :: l, h => RepVs.cons (h x (by simp)) (RepVs.of_map l fun y hy => h y (by simp [hy]))

theorem cellsOf_len : ∀ (t : Ty) (x : El t), (cellsOf t x).length = t.size
  | .int _, _ => rfl
  | .bool, _ => rfl
  | .unit, _ => rfl
  | .pair a b, x => by simp [cellsOf, Ty.size, cellsOf_len a, cellsOf_len b]
  | .sl _, _ => rfl

/-- The cells that hold data are values that do. -/
theorem RepAt.cells (η : Nat → Value) : ∀ (t : Ty) (x : El t) (g o : Nat), RepAt w A t x g o → ∃ vs : List Value, (∀ i v, vs[i]? = some v → w.cell? ⟨g, o + i, none⟩ = some v) ∧ RepVs η w A (cellsOf t x) vs
  | .int k, x, g, o, h => by
    unfold RepAt at h
    refine ⟨[.int k x], fun i v hi => ?_, RepVs.cons (by unfold RepV; rfl) RepVs.nil⟩
    cases i with
    | zero => simp at hi; subst hi; exact h
    | succ i => simp at hi
  | .bool, x, g, o, h => by
    unfold RepAt at h
    refine ⟨[.bool x], fun i v hi => ?_, RepVs.cons (by unfold RepV; rfl) RepVs.nil⟩
    cases i with
    | zero => simp at hi; subst hi; exact h
    | succ i => simp at hi
  | .unit, x, g, o, h => ⟨[], fun i v hi => by simp at hi, RepVs.nil⟩
  | .pair s t, x, g, o, h => by
    unfold RepAt at h
    obtain ⟨v1, h1, r1⟩ := RepAt.cells η s x.1 g o h.1
    obtain ⟨v2, h2, r2⟩ := RepAt.cells η t x.2 g (o + s.size) h.2
    have hl : v1.length = s.size := by rw [← r1.length, cellsOf_len]
    refine ⟨v1 ++ v2, fun i v hi => ?_, r1.append r2⟩
    by_cases hlt : i < v1.length
    · exact h1 i v (by rwa [List.getElem?_append_left hlt] at hi)
    · rw [List.getElem?_append_right (by omega)] at hi
      have := h2 _ v hi
      rwa [show o + s.size + (i - v1.length) = o + i by omega] at this
  | .sl t, xs, g, o, h => by
    unfold RepAt at h
    obtain ⟨a, c, hc, hs⟩ := h
    refine ⟨[_], fun i v hi => ?_, RepVs.cons (v := .slice a (List.length (α := El t) xs) c) (by unfold RepV; exact ⟨a, c, rfl, hs⟩) RepVs.nil⟩
    cases i with
    | zero => simp at hi; subst hi; exact hc
    | succ i => simp at hi

/-- And back. -/
theorem RepAt.of_cells {η : Nat → Value} : ∀ (t : Ty) (x : El t) (g o : Nat) (vs : List Value), (∀ i v, vs[i]? = some v → w.cell? ⟨g, o + i, none⟩ = some v) → RepVs η w A (cellsOf t x) vs → RepAt w A t x g o
  | .int k, x, g, o, vs, hc, h => by
    unfold cellsOf RepVs at h
    obtain ⟨u, us, rfl, hu, _⟩ := h
    unfold RepV at hu
    unfold RepAt
    subst hu
    exact hc 0 _ rfl
  | .bool, x, g, o, vs, hc, h => by
    unfold cellsOf RepVs at h
    obtain ⟨u, us, rfl, hu, _⟩ := h
    unfold RepV at hu
    unfold RepAt
    subst hu
    exact hc 0 _ rfl
  | .unit, x, g, o, vs, hc, h => by unfold RepAt; trivial
  | .pair s t, x, g, o, vs, hc, h => by
    unfold cellsOf at h
    obtain ⟨v1, v2, rfl, h1, h2⟩ := h.split
    have hl : v1.length = s.size := by rw [← h1.length, cellsOf_len]
    unfold RepAt
    refine ⟨RepAt.of_cells s x.1 g o v1 (fun i v hi => hc i v (by
      rw [List.getElem?_append_left (List.getElem?_eq_some_iff.1 hi).1]; exact hi)) h1, RepAt.of_cells t x.2 g _ v2 (fun i v hi => ?_) h2⟩
    have := hc (s.size + i) v (by rw [List.getElem?_append_right (by omega), hl, Nat.add_sub_cancel_left]; exact hi)
    rwa [← Nat.add_assoc] at this
  | .sl t, xs, g, o, vs, hc, h => by
    unfold cellsOf RepVs at h
    obtain ⟨u, us, rfl, hu, _⟩ := h
    unfold RepV at hu
    obtain ⟨a, c, rfl, hs⟩ := hu
    unfold RepAt
    exact ⟨a, c, hc 0 _ rfl, hs⟩

end

/-! ### Types -/
section
variable {P : Program} {t : TypeId} {i : TInfo}

theorem TOK.isAgg (h : TOK P t i) (w : World) : (Go.isAgg t).run P w = .ok i.desc.agg w := by
  obtain ⟨info, z, d, _, _, _, _, _, hu, hf⟩ := h.ex
  cases d <;> cases hd : i.desc <;> rw [hd] at hf <;> simp [fitsD] at hf <;> simp [Go.isAgg, run_underlying hu, TDesc.agg]

theorem TOK.sizeOf (h : TOK P t i) (w : World) : (Go.sizeOf t).run P w = .ok i.size w := by
  obtain ⟨info, z, d, hi, hs, _⟩ := h.ex
  simp [Go.sizeOf, typeInfo, hi, hs]

theorem TOK.cellsOf (h : TOK P t i) : P.cellsOf t = i.size := by
  obtain ⟨info, z, d, hi, hs, _⟩ := h.ex
  simp [Program.cellsOf, hi, hs]

theorem TOK.slice (h : TOK P t i) {e : TypeId} (hd : i.desc = .sl e) : P.underlying t = some (.slice e) := by
  obtain ⟨info, z, d, _, _, _, _, _, hu, hf⟩ := h.ex
  rw [hd] at hf
  cases d <;> simp [fitsD] at hf
  rw [hf] at hu; exact hu

theorem TOK.array (h : TOK P t i) {n : Nat} {e : TypeId} (hd : i.desc = .arr n e) : P.underlying t = some (.array n e) := by
  obtain ⟨info, z, d, _, _, _, _, _, hu, hf⟩ := h.ex
  rw [hd] at hf
  cases d <;> simp [fitsD] at hf
  rw [hf.1, hf.2] at hu; exact hu

theorem TOK.int (h : TOK P t i) {k : IntKind} (hd : i.desc = .int k) : P.underlying t = some (.int k) := by
  obtain ⟨info, z, d, _, _, _, _, _, hu, hf⟩ := h.ex
  rw [hd] at hf
  cases d <;> simp [fitsD] at hf
  rw [hf] at hu; exact hu

theorem TOK.bool (h : TOK P t i) (hd : i.desc = .bool) : P.underlying t = some .bool := by
  obtain ⟨info, z, d, _, _, _, _, _, hu, hf⟩ := h.ex
  rw [hd] at hf
  cases d <;> simp [fitsD] at hf
  exact hu

theorem TOK.struct (h : TOK P t i) {fs : List (Nat × TypeId × Nat)} (hd : i.desc = .struct fs) : ∃ gs, P.underlying t = some (.struct gs) ∧ gs.toList.map (fun f => (f.offset, f.type, P.cellsOf f.type)) = fs ∧ ∀ f ∈ gs.toList, (P.info? f.type).isSome = true := by
  obtain ⟨info, z, d, _, _, _, _, _, hu, hf⟩ := h.ex
  rw [hd] at hf
  cases d <;> unfold fitsD at hf <;> try (cases hf; done)
  simp only [Bool.and_eq_true, beq_iff_eq, List.all_eq_true] at hf
  exact ⟨_, hu, hf.2, hf.1⟩

end

/-! ### Loads and stores -/

def packV (d : TDesc) (vs : List Value) : Value := if d.agg then .agg vs.toArray else vs.headD undef

theorem pack_rep {η : Nat → Value} {w : World} {A : Nat → Prop} {d : TDesc} {l : List AVal} {vs : List Value} (h : RepVs η w A l vs) : RepV η w A (pack d l) (packV d vs) := by
  unfold pack packV
  split
  · unfold RepV; exact ⟨_, rfl, h⟩
  · cases l with
    | nil => unfold RepVs at h; subst h; simp [RepV]
    | cons x l =>
      unfold RepVs at h
      obtain ⟨u, us, rfl, hx, _⟩ := h
      exact hx

theorem add_off (g o j : Nat) : (⟨g, o, none⟩ : Addr).add j = ⟨g, o + j, none⟩ := by unfold Addr.add; split <;> simp_all

theorem run_loadAt_rep {P : Program} {t : TypeId} {i : TInfo} (hT : TOK P t i) {w : World} {g o : Nat} {vs : List Value} (hl : vs.length = i.size) (h1 : i.desc.agg = true ∨ i.size = 1)
    (hc : ∀ j v, vs[j]? = some v → w.cell? ⟨g, o + j, none⟩ = some v) : (Instr.loadAt t (.pointer (some ⟨g, o, none⟩))).run P w = .ok (packV i.desc vs) w := by
  unfold Instr.loadAt Instr.sureAddr loadVar packV
  by_cases ha : i.desc.agg = true
  · have hr := run_loadCells_list (P := P) w ⟨g, o, none⟩ vs (fun j v hj => by rw [add_off]; exact hc j v hj)
    rw [hl] at hr
    simp [hT.isAgg, ha, hT.sizeOf, hr]
  · have hs := h1.resolve_left ha
    rw [hs] at hl
    cases vs with
    | nil => simp at hl
    | cons v vs =>
      have := hc 0 v rfl
      simp only [Nat.add_zero] at this
      simp [hT.isAgg, ha, this]

theorem cell_oneCell {η : Nat → Value} {w : World} {A : Nat → Prop} {H : AHeap} {x : AVal} {v : Value} (hH : ∀ b B, H b = some B → RelBlk η w A B (η b)) (hx : x.cell H = true) (h : RepV η w A x v) : v.oneCell' = true := by
  cases x <;> simp only [AVal.cell, Bool.false_eq_true] at hx <;> unfold RepV at h
  case int => subst h; rfl
  case bool => subst h; rfl
  case sl => obtain ⟨a, c, rfl, _⟩ := h; rfl
  case own b =>
    cases hb : H b with
    | none => rw [hb] at hx; cases hx
    | some B =>
      have := hH b B hb
      subst h
      cases B with
      | box => obtain ⟨g, vs, e, _⟩ := this; rw [e]; rfl
      | arr =>
        rcases this with ⟨_, e⟩ | ⟨_, _, _, e, _⟩ <;> rw [e] <;> rfl
      | imm => obtain ⟨a, c, e, _⟩ := this; rw [e]; rfl
      | map => obtain ⟨g, es, c, e, _⟩ := this; rw [e]; rfl
  case bp => obtain ⟨g, _, rfl⟩ := h; rfl
  case ap => obtain ⟨g, n, c, _, rfl⟩ := h; rfl
  case dp => obtain ⟨g, o, rfl, _⟩ := h; rfl
  case cv => subst h; exact hx
  case fn => obtain ⟨_, _, rfl, _⟩ := h; rfl

theorem cells_oneCell {η : Nat → Value} {w : World} {A : Nat → Prop} {H : AHeap} (hH : ∀ b B, H b = some B → RelBlk η w A B (η b)) : ∀ {l : List AVal} {vs : List Value}, l.all (AVal.cell H) = true → RepVs η w A l vs → ∀ v ∈ vs, v.oneCell' = true
  | [], vs, _, h, v, hv => by unfold RepVs at h; subst h; simp at hv
  | x :: l, vs, hl, h, v, hv => by
    unfold RepVs at h
    obtain ⟨u, us, rfl, hx, hr⟩ := h
    simp only [List.all_cons, Bool.and_eq_true] at hl
    rcases List.mem_cons.1 hv with rfl | hv
    · exact cell_oneCell hH hl.1 hx
    · exact cells_oneCell hH hl.2 hr v hv

/-- A value and its cells. -/
theorem cellsV_rep {η : Nat → Value} {w : World} {A : Nat → Prop} {H : AHeap} (hH : ∀ b B, H b = some B → RelBlk η w A B (η b)) {x : AVal} {v : Value} (hx : (cellsV x).all (AVal.cell H) = true) (h : RepV η w A x v) :
    RepVs η w A (cellsV x) v.cells.toList := by
  by_cases ha : ∃ l, x = .agg l
  · obtain ⟨l, rfl⟩ := ha
    unfold RepV at h
    obtain ⟨vs, rfl, hl⟩ := h
    exact hl
  · have e : cellsV x = [x] := by cases x <;> first | rfl | (exact absurd ⟨_, rfl⟩ ha)
    rw [e] at hx ⊢
    have h1 : x.cell H = true := by simpa using hx
    have := cell_oneCell hH h1 h
    have hc : v.cells = #[v] := by cases v <;> first | rfl | cases this
    rw [hc]
    exact RepVs.cons h RepVs.nil

theorem run_storeAt_rep {P : Program} {t : TypeId} {i : TInfo} (hT : TOK P t i) {w : World} {g o : Nat} {v : Value} {cur : Array Value} {e : TypeId} (hg : w.heap[g]? = some (.cells cur e (0, 0))) (hl : v.cells.size = i.size)
    (hfit : o + i.size ≤ cur.size) (h1 : ∀ u ∈ v.cells.toList, u.oneCell' = true) :
    (Instr.storeAt t (.pointer (some ⟨g, o, none⟩)) v).run P w = .ok () (w.setRow g (cur.toList.take o ++ v.cells.toList ++ cur.toList.drop (o + v.cells.toList.length)).toArray) := by
  unfold Instr.storeAt Instr.sureAddr storeVar
  have := run_storeCells_at P g o e v.cells.toList 0 cur w hg (by simpa [hl] using hfit) h1
  simp only [Nat.add_zero] at this
  simp [hT.sizeOf, hl, this]

end Go.Proofs.Ytcijihofjcfpoab
