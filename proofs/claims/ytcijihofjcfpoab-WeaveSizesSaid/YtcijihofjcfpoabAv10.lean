/-
  The abstract machine, 10: slicing, struct literals, calls. No program is named here.
-/
import Derived.Test.YtcijihofjcfpoabAv9
namespace Go.Proofs.Ytcijihofjcfpoab
open Go.RowKit

set_option linter.constructorNameAsVariable false

section
variable {P : Program} {T : Tab} {n : Nat} {ds : List Deferred} {A0 L0 : Nat → Prop} {w0 : Old} {η : Nat → Value} {s : ASt} {a : Act} {w : World}

/-- Rows come to rest; nothing is written; the world may have grown. -/
theorem Rel.resting (h : Rel n ds A0 L0 w0 η s a w) {d : Option Nat} (hd : ∀ i, d = some i → i < n) {v : AVal} {u : Value} {ids : List Nat} {w' : World} (hb : Below w.heap.size w w')
    (hv : Keeps (Av A0 η s.H) (Av A0 η (s.app d { v := v, hp := rest s.H ids }).H) w w' →
      (∀ b' t' ys e', b' ∈ ids → (s.H b' = some (.arr e' t' ys) ∨ s.H b' = some (.imm t' ys)) → ∃ a' c', η b' = .slice a' ys.length c' ∧ SlBody w'.heap.size (Av A0 η (s.app d { v := v, hp := rest s.H ids }).H) t'.size (fun y p z => RepAt w' (Av A0 η (s.app d { v := v, hp := rest s.H ids }).H) t' y p z) ys a' c') →
      RepV η w' (Av A0 η (s.app d { v := v, hp := rest s.H ids }).H) v u) :
    Rel n ds A0 L0 w0 η (s.app d { v := v, hp := rest s.H ids }) (a.put d u) w' := by
  have hN : ∀ b B g, hpGet (rest s.H ids) b = some B → B.mut = true → hblk (η b) = some g → (∃ b0 B0, s.H b0 = some B0 ∧ B0.mut = true ∧ hblk (η b0) = some g ∧ (b0 = b ∨ (b = 0 ∧ ([] : List Nat).contains b0 = true))) ∨ (w.heap.size ≤ g ∧ b = 0) := by
    intro b B g hb hm hg
    obtain ⟨_, _, _, _, e9, _⟩ := hpGet_rest _ _ _ _ hb
    subst e9
    cases hm
  have hown : Keeps (Av A0 η s.H) (Av A0 η (s.app d { v := v, hp := rest s.H ids }).H) w w' → ∀ b' t' ys e', b' ∈ ids → (s.H b' = some (.arr e' t' ys) ∨ s.H b' = some (.imm t' ys)) →
      ∃ a' c', η b' = .slice a' ys.length c' ∧ SlBody w'.heap.size (Av A0 η (s.app d { v := v, hp := rest s.H ids }).H) t'.size (fun y p z => RepAt w' (Av A0 η (s.app d { v := v, hp := rest s.H ids }).H) t' y p z) ys a' c' := by
    intro k b' t' ys e' hm' hbb
    refine rested h.hp hbb k fun g' hba hg' => ⟨hb.block g' (Live.lt h.hp ⟨b', _, hba, rfl, hg'⟩), ?_⟩
    refine notLive_of (nid := 0) h.hp (app_live (fun _ _ => rfl) hN) hba ?_ rfl hg'
    simp only [ASt.app, rest_get _ _ _ hm' hba]
  refine h.eff (nid := 0) hd (fun _ _ => rfl) ⟨hb.os, hb.tape, hb.output⟩ hb.size (fun g hg => .inl (hb.block g hg)) hN ?_ (fun k => hv k (hown k)) (hhn := fun b _ hs => by
    obtain ⟨B9, hB9⟩ := Option.isSome_iff_exists.1 hs
    obtain ⟨_, _, _, h9, _⟩ := hpGet_rest _ _ _ _ hB9
    rw [h9]; rfl)
  intro k b B hb
  obtain ⟨e9, t9, ys, h9, e10, hm9⟩ := hpGet_rest _ _ _ _ hb
  subst e10
  exact hown k b t9 ys e9 hm9 (.inl h9)

theorem listOf_body {A' : Nat → Prop} {w' : World} {x : AVal} {xv : Value} (k : Keeps (Av A0 η s.H) A' w w') (hx : RepV η w (Av A0 η s.H) x xv) {t : Ty} {xs : List (El t)} (hl : listOf s x = some ⟨t, xs⟩)
    (hown : ∀ b' t' ys e', b' ∈ x.ids → (s.H b' = some (.arr e' t' ys) ∨ s.H b' = some (.imm t' ys)) → ∃ a' c', η b' = .slice a' ys.length c' ∧ SlBody w'.heap.size A' t'.size (fun y p z => RepAt w' A' t' y p z) ys a' c') :
    ∃ a' c, xv = .slice a' xs.length c ∧ SlBody w'.heap.size A' t.size (fun y p z => RepAt w' A' t y p z) xs a' c := by
  cases x <;> simp only [listOf] at hl
  case sl τ ys =>
    injection hl with hl
    injection hl with e1 e2
    subst e1
    have e2 := eq_of_heq e2
    subst e2
    have := RepV.step (η' := η) k _ _ (fun _ _ => rfl) hx
    unfold RepV at this
    exact this
  case own b =>
    unfold RepV at hx
    cases hb : s.H b with
    | none => simp [hb] at hl
    | some B =>
      cases B <;> simp only [hb] at hl
      case box => cases hl
      case map => cases hl
      case arr e' τ ys =>
        injection hl with hl
        injection hl with e1 e2
        subst e1
        have e2 := eq_of_heq e2
        subst e2
        obtain ⟨a', c, e3, hs⟩ := hown b _ ys e' (by simp [AVal.ids]) (.inl hb)
        exact ⟨a', c, by rw [hx, e3], hs⟩
      case imm τ ys =>
        injection hl with hl
        injection hl with e1 e2
        subst e1
        have e2 := eq_of_heq e2
        subst e2
        obtain ⟨a', c, e3, hs⟩ := hown b _ ys 0 (by simp [AVal.ids]) (.inr hb)
        exact ⟨a', c, by rw [hx, e3], hs⟩
  all_goals cases hl

theorem SlBody.part {α : Type} {N : Nat} {A : Nat → Prop} {sz : Nat} {R : α → Nat → Nat → Prop} {xs : List α} {a : Option Addr} {c : Nat} (h : SlBody N A sz R xs a c) {l k : Nat} (hlk : l ≤ k) (hk : k ≤ xs.length) :
    ∃ a', sliced a l k c sz = .slice a' ((xs.take k).drop l).length (c - l) ∧ SlBody N A sz R ((xs.take k).drop l) a' (c - l) := by
  obtain ⟨h1, h2, h3⟩ := h
  have hl : ((xs.take k).drop l).length = k - l := by simp; omega
  refine ⟨if c = l then a else a.map (·.add (l * sz)), by rw [hl]; rfl, by rw [hl]; omega, by omega, fun hp => ?_⟩
  rw [hl] at hp
  obtain ⟨b, o, e, hb, hn, hx⟩ := h3 (by omega)
  subst e
  refine ⟨b, o + l * sz, by rw [if_neg (by omega)]; simp [add_off], hb, hn, fun i x hi => ?_⟩
  rw [List.getElem?_drop, List.getElem?_take] at hi
  split at hi
  · have := hx (l + i) x hi
    rwa [show o + (l + i) * sz = o + l * sz + i * sz by rw [Nat.add_mul]; omega] at this
  · cases hi

theorem run_slice_of {t e : TypeId} {i ie : TInfo} (hT : TabOK P T) (ht : T t = some i) (hd : i.desc = .sl e) (he : T e = some ie) (ad : Option Addr) (len cap : Nat) (lo hi : Option Value) (l k : Nat) (hlk : l ≤ k) (hk : k ≤ cap)
    (hlo : lo = none ∧ l = 0 ∨ ∃ kk, lo = some (.int kk (l : Int))) (hhi : hi = none ∧ k = len ∨ ∃ kk, hi = some (.int kk (k : Int))) :
    (Instr.sliceAt t (.slice ad len cap) lo hi none).run P w = .ok (sliced ad l k cap ie.size) w := by
  have hu := (hT t i ht).slice hd
  have hsz := (hT e ie he).sizeOf w
  have b1 : ∀ kk, (Instr.sliceBound (.int kk (k : Int)) cap .sliceAcap).run P w = .ok k w := fun kk => by
    have := run_sliceBound (P := P) (w := w) kk (k : Int) cap .sliceAcap (by omega) (by omega)
    simpa using this
  have b2 : ∀ kk, (Instr.sliceBound (.int kk (l : Int)) k .sliceB).run P w = .ok l w := fun kk => by
    have := run_sliceBound (P := P) (w := w) kk (l : Int) k .sliceB (by omega) (by omega)
    simpa using this
  rcases hlo with ⟨rfl, rfl⟩ | ⟨k1, rfl⟩ <;> rcases hhi with ⟨rfl, rfl⟩ | ⟨k2, rfl⟩ <;>
    simp [Instr.sliceAt, run_underlying hu, Instr.slice, Instr.sliceBounds, hsz, sliced, b1, b2]

theorem stSlice_does (hT : TabOK P T) (h : Rel n ds A0 L0 w0 η s a w) {d : Option Nat} (hd : ∀ i, d = some i → i < n) {t : TypeId} {x : AVal} {xv : Value} (hx : RepV η w (Av A0 η s.H) x xv) {lo hi : Option AVal} {lov hiv : Option Value}
    (hlo : lo = none ∧ lov = none ∨ ∃ y v, lo = some y ∧ lov = some v ∧ RepV η w (Av A0 η s.H) y v) (hhi : hi = none ∧ hiv = none ∨ ∃ y v, hi = some y ∧ hiv = some v ∧ RepV η w (Av A0 η s.H) y v) {K : Eff → Prop}
    (hs : stSlice T s t x lo hi K) : Does P (Instr.sliceAt t xv lov hiv none) n ds A0 L0 w0 s a w d K := by
  unfold stSlice at hs
  cases ht : T t with
  | none => simp [ht] at hs
  | some i =>
    simp only [ht] at hs
    cases hdd : i.desc <;> simp only [hdd] at hs
    case sl e =>
      cases he : T e with
      | none => simp [he] at hs
      | some ie =>
        cases hl : listOf s x with
        | none => simp [he, hl] at hs
        | some q =>
          obtain ⟨τ, xs⟩ := q
          simp only [he, hl] at hs
          obtain ⟨hsz, hs⟩ := hs
          obtain ⟨a0, c0, hxv, hle, hmax⟩ := listOf_len h hx hl
          -- the part from l to k
          have part : ∀ (l k : Nat) (r : List (El τ)), l ≤ k → k ≤ xs.length → r = (xs.take k).drop l → (lov = none ∧ l = 0 ∨ ∃ kk, lov = some (.int kk (l : Int))) → (hiv = none ∧ k = xs.length ∨ ∃ kk, hiv = some (.int kk (k : Int))) →
              K { v := .sl τ r, hp := rest s.H x.ids } → Does P (Instr.sliceAt t xv lov hiv none) n ds A0 L0 w0 s a w d K := by
            intro l k r hlk hk hr h1 h2 hK
            have hrun := run_slice_of (w := w) hT ht hdd he a0 xs.length c0 lov hiv l k hlk (by omega) h1 h2
            rw [← hxv] at hrun
            refine ⟨_, _, w, η, hK, hrun, h.resting hd (Below.refl _ _) fun k' hown => ?_⟩
            obtain ⟨a1, c1, e1, hb⟩ := listOf_body k' hx hl hown
            rw [hxv] at e1
            injection e1 with e1 _ e3
            subst e1 e3
            obtain ⟨a2, e4, hb2⟩ := hb.part hlk hk
            unfold RepV
            rw [← hsz]
            subst hr
            exact ⟨a2, _, e4, hb2⟩
          have int : ∀ {y : AVal} {v : Value} {kk : IntKind} {z : Int}, y = .int kk z → RepV η w (Av A0 η s.H) y v → v = .int kk z := fun e hr => by subst e; unfold RepV at hr; exact hr
          split at hs
          · rcases hlo with ⟨_, rfl⟩ | ⟨_, _, e, _⟩
            · rcases hhi with ⟨_, rfl⟩ | ⟨_, _, e, _⟩
              · exact part 0 xs.length xs (by omega) (by omega) (by simp) (.inl ⟨rfl, rfl⟩) (.inl ⟨rfl, rfl⟩) hs
              · cases e
            · cases e
          · rename_i kk l
            obtain ⟨h0, h1, hK⟩ := hs
            rcases hlo with ⟨e, _⟩ | ⟨y, v, e, rfl, hr⟩
            · cases e
            · injection e with e
              have := int e.symm hr
              subst this
              rcases hhi with ⟨_, rfl⟩ | ⟨_, _, e, _⟩
              · exact part l.toNat xs.length _ (by omega) (by omega) (by simp) (.inr ⟨kk, by rw [Int.toNat_of_nonneg h0]⟩) (.inl ⟨rfl, rfl⟩) hK
              · cases e
          · rename_i kk k
            obtain ⟨h0, h1, hK⟩ := hs
            rcases hhi with ⟨e, _⟩ | ⟨y, v, e, rfl, hr⟩
            · cases e
            · injection e with e
              have := int e.symm hr
              subst this
              rcases hlo with ⟨_, rfl⟩ | ⟨_, _, e, _⟩
              · exact part 0 k.toNat _ (by omega) (by omega) (by simp) (.inl ⟨rfl, rfl⟩) (.inr ⟨kk, by rw [Int.toNat_of_nonneg h0]⟩) hK
              · cases e
          · rename_i k1 l k2 k
            obtain ⟨h0, h1, h2, hK⟩ := hs
            rcases hlo with ⟨e, _⟩ | ⟨y, v, e, rfl, hr⟩
            · cases e
            · injection e with e
              have := int e.symm hr
              subst this
              rcases hhi with ⟨e, _⟩ | ⟨y, v, e, rfl, hr⟩
              · cases e
              · injection e with e
                have := int e.symm hr
                subst this
                exact part l.toNat k.toNat _ (by omega) (by omega) rfl (.inr ⟨k1, by rw [Int.toNat_of_nonneg h0]⟩) (.inr ⟨k2, by rw [Int.toNat_of_nonneg (by omega)]⟩) hK
          · exact hs.elim

/-! ### Struct literals -/

theorem fold_splice (off : Nat) (l : List Value) (cs : Array Value) (h : off + l.length ≤ cs.size) :
    ((l.zipIdx 0).foldl (fun cs (x : Value × Nat) => cs.setIfInBounds (off + x.2) x.1) cs).toList = cs.toList.take off ++ l ++ cs.toList.drop (off + l.length) := by
  obtain ⟨_, h2⟩ := Great.foldl_set off l 0 cs
  apply List.ext_getElem?
  intro q
  rw [splice_get _ _ _ _ (by simpa using h), Array.getElem?_toList, h2 q, Nat.add_zero]
  by_cases hq : off ≤ q ∧ q < off + l.length
  · rw [if_pos ⟨hq.1, hq.2, by omega⟩, if_pos hq]
  · rw [if_neg (by omega), if_neg hq, Array.getElem?_toList]

theorem fill_rep {A : Nat → Prop} {H : AHeap} (hH : ∀ b B, H b = some B → RelBlk η w A B (η b)) {fs : List (Nat × TypeId × Nat)} {place : Nat → Option (Nat × Nat)} (hp : ∀ i off ty sz, fs[i]? = some (off, ty, sz) → place i = some (off, sz)) :
    ∀ (parts : List (Nat × AVal)) (vparts : List (Nat × Value)) (cells : List AVal) (vcells : Array Value) (r : List AVal), fillA fs cells parts = some r → (parts.all fun p => (cellsV p.2).all (AVal.cell H)) = true → vparts.map (·.1) = parts.map (·.1) →
      RepVs η w A (parts.map (·.2)) (vparts.map (·.2)) → RepVs η w A cells vcells.toList → ∃ vr : Array Value, Instr.fill place vcells vparts = some vr ∧ RepVs η w A r vr.toList
  | [], vparts, cells, vcells, r, h, _, h1, _, hc => by
    simp [fillA] at h
    subst h
    have : vparts = [] := by simpa using h1
    subst this
    exact ⟨vcells, rfl, hc⟩
  | (i, x) :: parts, vparts, cells, vcells, r, h, hall, h1, h2, hc => by
    cases vparts with
    | nil => simp at h1
    | cons q vparts =>
      obtain ⟨i', v⟩ := q
      simp only [List.map_cons, List.cons.injEq] at h1
      obtain ⟨rfl, h1⟩ := h1
      simp only [List.map_cons] at h2
      unfold RepVs at h2
      obtain ⟨u, us, e, hx, h2⟩ := h2
      injection e with e1 e2
      subst e1 e2
      simp only [List.all_cons, Bool.and_eq_true] at hall
      unfold fillA at h
      cases hf : fs[i']? with
      | none => simp [hf] at h
      | some q =>
        obtain ⟨off, ty, sz⟩ := q
        simp only [hf] at h
        split at h
        · rename_i hfit
          have hr := cellsV_rep hH hall.1 hx
          have hl : v.cells.size = sz := by have := hr.length; rw [hfit.1] at this; simpa using this.symm
          have hcl := hc.length
          have hfit2 : off + v.cells.toList.length ≤ vcells.size := by
            simp only [Array.length_toList] at hcl ⊢
            omega
          have hsp := splice_rep off hc hr
          rw [← fold_splice off v.cells.toList vcells hfit2] at hsp
          obtain ⟨vr, hvr, hrep⟩ := fill_rep hH hp parts vparts _ _ r h hall.2 h1 h2 hsp
          refine ⟨vr, ?_, hrep⟩
          unfold Instr.fill
          rw [hp _ _ _ _ hf]
          simp only
          rw [if_neg (by simp only [Array.length_toList] at hfit2; simp [hl]; omega)]
          rw [← hvr]
          congr 1
          rw [← Array.foldl_toList, Array.toList_zipIdx]
        · cases h

theorem stBuild_does (hT : TabOK P T) (h : Rel n ds A0 L0 w0 η s a w) {d : Option Nat} (hd : ∀ i, d = some i → i < n) {t : TypeId} {parts : List (Nat × AVal)} {vparts : Array (Nat × Value)} (hp1 : vparts.toList.map (·.1) = parts.map (·.1))
    (hp2 : RepVs η w (Av A0 η s.H) (parts.map (·.2)) (vparts.toList.map (·.2))) {K : Eff → Prop} (hs : stBuild T s t parts K) : Does P (Instr.build t vparts) n ds A0 L0 w0 s a w d K := by
  unfold stBuild at hs
  have hH : ∀ b B, s.H b = some B → RelBlk η w (Av A0 η s.H) B (η b) := fun b B hb => h.hp.blk b B hb
  cases ht : T t with
  | none => simp [ht] at hs
  | some i =>
    simp only [ht] at hs
    have hti := hT t i ht
    obtain ⟨info, z, dd, hi, hsz, hby, hz, hzz, _⟩ := hti.ex
    have hzr : RepVs η w (Av A0 η s.H) (i.zero.map ofConst) z.cells.toList := by rw [hzz]; exact zero_rep _ _ _
    cases hdd : i.desc <;> simp only [hdd] at hs
    case struct fs =>
      obtain ⟨hall, hs⟩ := hs
      cases hfa : fillA fs (i.zero.map ofConst) parts with
      | none => simp [hfa] at hs
      | some r =>
        simp only [hfa] at hs
        obtain ⟨gs, hu, hg, hinf⟩ := hti.struct hdd
        have hpl : gs.toList.mapM (fun f => (P.info? f.type).map fun i => (f.offset, i.size)) = some (fs.map fun q => (q.1, q.2.2)) := by
          rw [← hg]
          clear hg hu
          generalize gs.toList = l at hinf
          induction l with
          | nil => rfl
          | cons f l ih =>
            obtain ⟨j, hj⟩ := Option.isSome_iff_exists.1 (hinf f (by simp))
            have ih := ih (fun g hg => hinf g (by simp [hg]))
            simp only [List.mapM_cons, hj, Option.map_some, Option.bind_eq_bind, Option.bind_some, ih, List.map_cons, Option.pure_def, Program.cellsOf, Option.getD_some]
        obtain ⟨vr, hvr, hrep⟩ := fill_rep hH (place := fun q => ((fs.map fun q => (q.1, q.2.2)).toArray)[q]?) (fun q off ty sz hq => by simp [hq]) parts vparts.toList _ z.cells r hfa hall hp1 hp2 hzr
        have hb : P.built t vparts.toList = some vr := by
          unfold Program.built
          simp only [hi, hu, hz, hpl]
          exact hvr
        exact does_pure h hd (run_build w t vparts vr hb) (by unfold RepV; exact ⟨vr, rfl, hrep⟩) hs
    case arr len e =>
      cases he : T e with
      | none => simp [he] at hs
      | some ie =>
        simp only [he] at hs
        obtain ⟨hall, hs⟩ := hs
        cases hfa : fillA ((List.range len).map fun j => (j * ie.size, e, ie.size)) (i.zero.map ofConst) parts with
        | none => simp [hfa] at hs
        | some r =>
          simp only [hfa] at hs
          have hu := hti.array hdd
          obtain ⟨info2, _, _, hi2, hsz2, _⟩ := (hT e ie he).ex
          obtain ⟨vr, hvr, hrep⟩ := fill_rep hH (place := fun q => some (q * ie.size, ie.size)) (fun q off ty sz hq => by
            simp only [List.getElem?_map] at hq
            cases hr : (List.range len)[q]? with
            | none => rw [hr] at hq; cases hq
            | some y =>
              rw [hr] at hq
              obtain ⟨hlt, hy⟩ := List.getElem?_eq_some_iff.1 hr
              rw [List.getElem_range] at hy
              subst hy
              simp at hq
              rw [hq.1, hq.2.2]) parts vparts.toList _ z.cells r hfa hall hp1 hp2 hzr
          have hb : P.built t vparts.toList = some vr := by
            unfold Program.built
            simp only [hi, hu, hz, hi2, hsz2]
            exact hvr
          exact does_pure h hd (run_build w t vparts vr hb) (by unfold RepV; exact ⟨vr, rfl, hrep⟩) hs

end
end Go.Proofs.Ytcijihofjcfpoab
