/-
  The abstract machine, 5: the operations that only read. No program is named here.
-/
import Derived.Test.YtcijihofjcfpoabAv4
import Derived.Laws.Small
namespace Go.Proofs.Ytcijihofjcfpoab
open Go.RowKit

set_option linter.constructorNameAsVariable false

section
variable {P : Program} {T : Tab} {n : Nat} {ds : List Deferred} {A0 L0 : Nat → Prop} {w0 : Old} {η : Nat → Value} {s : ASt} {a : Act} {w : World}

/-- The run yields a value, and leaves a state that K takes. -/
def Does (P : Program) (S : Sem Value) (n : Nat) (ds : List Deferred) (A0 L0 : Nat → Prop) (w0 : Old) (s : ASt) (a : Act) (w : World) (d : Option Nat) (K : Eff → Prop) : Prop :=
  ∃ e u w' η', K e ∧ S.run P w = .ok u w' ∧ Rel n ds A0 L0 w0 η' (s.app d e) (a.put d u) w'

theorem does_pure (h : Rel n ds A0 L0 w0 η s a w) {d : Option Nat} (hd : ∀ i, d = some i → i < n) {S : Sem Value} {K : Eff → Prop} {v : AVal} {u : Value}
    (hr : S.run P w = .ok u w) (hv : RepV η w (Av A0 η s.H) v u) (hK : K { v := v }) : Does P S n ds A0 L0 w0 s a w d K :=
  ⟨_, u, w, η, hK, hr, h.pure hd hv⟩

theorem get_take_drop {vs : List Value} {off k j : Nat} {v : Value} (h : ((vs.drop off).take k)[j]? = some v) : vs[off + j]? = some v := by
  rw [List.getElem?_take] at h
  split at h
  · rwa [List.getElem?_drop] at h
  · cases h

theorem blk_row (h : RelH A0 η s.H w) {b : Nat} {e : TypeId} {t : Ty} {xs : List (El t)} (hb : s.H b = some (.arr e t xs)) {g n' c : Nat} (hg : η b = .slice (some ⟨g, 0, none⟩) n' c) :
    ∃ cur, w.heap[g]? = some (.cells cur e (0, 0)) ∧ n' = xs.length ∧ xs.length ≤ c ∧ cur.size = c * t.size ∧ ∀ i x, xs[i]? = some x → RepAt w (Av A0 η s.H) t x g (i * t.size) := by
  rcases h.blk b _ hb with ⟨_, e1⟩ | ⟨g', cap, cur, e1, e2, e3, _, e5, e6⟩
  · rw [hg] at e1; cases e1
  · rw [hg] at e1
    injection e1 with e1 e7 e8
    injection e1 with e1
    injection e1 with e1 _ _
    subst e1 e8
    exact ⟨cur, e2, e7, e3, e5, e6⟩

theorem stLoad_does (hT : TabOK P T) (h : Rel n ds A0 L0 w0 η s a w) {d : Option Nat} (hd : ∀ i, d = some i → i < n) {t : TypeId} {x : AVal} {xv : Value} (hx : RepV η w (Av A0 η s.H) x xv) {K : Eff → Prop} (hs : stLoad T s t x K) :
    Does P (Instr.loadAt t xv) n ds A0 L0 w0 s a w d K := by
  unfold stLoad at hs
  cases ht : T t with
  | none => simp [ht] at hs
  | some i =>
    have hti := hT t i ht
    simp only [ht] at hs
    cases x <;> simp only at hs
    case bp b off =>
      unfold RepV at hx
      obtain ⟨g, hη, rfl⟩ := hx
      cases hb : s.H b with
      | none => simp [hb] at hs
      | some B =>
        cases B <;> simp only [hb] at hs
        case box ty cs =>
          obtain ⟨h1, h2, hK⟩ := hs
          obtain ⟨g', vs, e1, e2, e3⟩ := h.hp.blk b _ hb
          rw [hη] at e1
          injection e1 with e1
          injection e1 with e1
          injection e1 with e1
          subst e1
          have hl := e3.length
          refine does_pure h hd (run_loadAt_rep (vs := (vs.toList.drop off).take i.size) hti (by simp; simp at hl; omega) h2 fun j v hj => ?_) (pack_rep ((e3.drop off).take i.size)) hK
          have := get_take_drop hj
          simp [World.cell?, e2]
          simpa using this
    case dp τ y off =>
      unfold RepV at hx
      obtain ⟨g, o, rfl, _, _, hat⟩ := hx
      obtain ⟨h1, h2, hK⟩ := hs
      obtain ⟨vs, hc, hr⟩ := RepAt.cells η τ y g o hat
      have hl := hr.length
      rw [cellsOf_len] at hl
      refine does_pure h hd (run_loadAt_rep (vs := (vs.drop off).take i.size) hti (by simp; omega) h2 fun j v hj => ?_) (pack_rep ((hr.drop off).take i.size)) hK
      have := hc _ v (get_take_drop hj)
      rwa [← Nat.add_assoc] at this
    case ap b sz j off =>
      unfold RepV at hx
      obtain ⟨g, n', c, hη, rfl⟩ := hx
      cases hb : s.H b with
      | none => simp [hb] at hs
      | some B =>
        cases B <;> simp only [hb] at hs
        case arr e τ xs =>
          obtain ⟨rfl, h1, h2, hj, hK⟩ := hs
          obtain ⟨cur, _, _, _, _, hat⟩ := blk_row h.hp hb hη
          have hxj : xs[j]? = some (xs.getD j τ.dflt) := by simp [List.getD, hj]
          obtain ⟨vs, hc, hr⟩ := RepAt.cells η τ _ g _ (hat j _ hxj)
          have hl := hr.length
          rw [cellsOf_len] at hl
          refine does_pure h hd (run_loadAt_rep (vs := (vs.drop off).take i.size) hti (by simp; omega) h2 fun k v hk => ?_) (pack_rep ((hr.drop off).take i.size)) hK
          have := hc _ v (get_take_drop hk)
          rwa [← Nat.add_assoc] at this

theorem stBin_does (h : Rel n ds A0 L0 w0 η s a w) {d : Option Nat} (hd : ∀ i, d = some i → i < n) {op : BinOp} {t : TypeId} {x y : AVal} {ox oy : Operand} {xv yv : Value}
    (hx : RepV η w (Av A0 η s.H) x xv) (hy : RepV η w (Av A0 η s.H) y yv) {K : Eff → Prop} (hs : stBin op x y K) :
    Does P (do eqGuard op t ox oy xv yv; binOp op t xv yv) n ds A0 L0 w0 s a w d K := by
  unfold stBin at hs
  split at hs
  case h_1 k p k' q =>
      obtain ⟨rfl, hs⟩ := hs
      unfold RepV at hx hy
      subst hx hy
      have rep : ∀ z : Int, RepV η w (Av A0 η s.H) (.int k z) (.int k z) := fun z => by unfold RepV; rfl
      have repb : ∀ z : Bool, RepV η w (Av A0 η s.H) (.bool z) (.bool z) := fun z => by unfold RepV; rfl
      cases op <;> simp only at hs
      case add => exact does_pure h hd (by simp [eqGuard, binOp, Op.intArith, wrap_in hs.1]) (rep _) hs.2
      case sub => exact does_pure h hd (by simp [eqGuard, binOp, Op.intArith, wrap_in hs.1]) (rep _) hs.2
      case mul => exact does_pure h hd (by simp [eqGuard, binOp, Op.intArith, wrap_in hs.1]) (rep _) hs.2
      case quo =>
        obtain ⟨h1, h2, h3, hK⟩ := hs
        have hq : ¬ q = 0 := by omega
        exact does_pure h hd (by simp [eqGuard, binOp, Op.intDiv, hq, Int.tdiv_eq_ediv_of_nonneg h1, wrap_in h3]) (rep _) hK
      case rem =>
        obtain ⟨h1, h2, hK⟩ := hs
        have hq : ¬ q = 0 := by omega
        exact does_pure h hd (by simp [eqGuard, binOp, Op.intDiv, hq, Int.tmod_eq_emod_of_nonneg h1]) (rep _) hK
      case eql => exact does_pure h hd (u := .bool (decide (p = q))) (by simp [eqGuard, binOp, Op.intCmp]; rfl) (repb _) hs
      case neq => exact does_pure h hd (u := .bool (!decide (p = q))) (by simp [eqGuard, binOp, Op.intCmp]; rfl) (repb _) hs
      case lss => exact does_pure h hd (by simp [eqGuard, binOp, Op.intCmp]) (repb _) hs
      case leq => exact does_pure h hd (by simp [eqGuard, binOp, Op.intCmp]) (repb _) hs
      case gtr => exact does_pure h hd (by simp [eqGuard, binOp, Op.intCmp]) (repb _) hs
      case geq => exact does_pure h hd (by simp [eqGuard, binOp, Op.intCmp]) (repb _) hs
  case h_2 => exact hs.elim

theorem stEq_does (hT : TabOK P T) (h : Rel n ds A0 L0 w0 η s a w) {d : Option Nat} (hd : ∀ i, d = some i → i < n) {op : BinOp} {t : TypeId} {neg : Bool} {x y : AVal} {ox oy : Operand} {xv yv : Value}
    (hop : op = if neg then .neq else .eql)
    (hx : RepV η w (Av A0 η s.H) x xv) (hy : RepV η w (Av A0 η s.H) y yv) {K : Eff → Prop} (hs : stEq T t neg x y K) :
    Does P (do eqGuard op t ox oy xv yv; binOp op t xv yv) n ds A0 L0 w0 s a w d K := by
  unfold stEq at hs
  split at hs
  case h_2 => exact hs.elim
  case h_1 p q =>
      obtain ⟨ht, hK⟩ := hs
      unfold RepV at hx hy
      subst hx hy
      cases hti : T t with
      | none => simp [hti] at ht
      | some i =>
        simp only [hti] at ht
        have hu := (hT t i hti).bool ht
        cases neg
        · subst hop
          exact does_pure h hd (u := .bool ((p == q) != false)) (by have := run_eql_bool (P := P) w t p q hu; simp [eqGuard, this]) (by unfold RepV; rfl) hK
        · subst hop
          exact does_pure h hd (u := .bool ((p == q) != true)) (by have := run_neq_bool (P := P) w t p q hu; simp [eqGuard, this]) (by unfold RepV; rfl) hK

theorem stUn_does (h : Rel n ds A0 L0 w0 η s a w) {d : Option Nat} (hd : ∀ i, d = some i → i < n) {op : UnOp} {x : AVal} {xv : Value}
    (hx : RepV η w (Av A0 η s.H) x xv) {K : Eff → Prop} (hs : stUn op x K) : Does P (Op.unary op xv) n ds A0 L0 w0 s a w d K := by
  unfold stUn at hs
  split at hs
  · unfold RepV at hx; subst hx
    exact does_pure h hd (by simp [Op.unary]; rfl) (by unfold RepV; rfl) hs
  · unfold RepV at hx; subst hx
    exact does_pure h hd (by simp [Op.unary, Op.intArith, wrap_in hs.1]; rfl) (by unfold RepV; rfl) hs.2
  · exact hs.elim

theorem stConv_does (hT : TabOK P T) (h : Rel n ds A0 L0 w0 η s a w) {d : Option Nat} (hd : ∀ i, d = some i → i < n) {src dst : TypeId} {x : AVal} {xv : Value} (hsrc : ∃ d, P.underlying src = some d)
    (hx : RepV η w (Av A0 η s.H) x xv) {K : Eff → Prop} (hs : stConv T dst x K) : Does P (convert src dst xv) n ds A0 L0 w0 s a w d K := by
  unfold stConv at hs
  cases hti : T dst with
  | none => simp [hti] at hs
  | some i =>
    cases x <;> simp only [hti] at hs
    case int k q =>
      cases hd' : i.desc <;> simp only [hd'] at hs
      case int k' =>
        unfold RepV at hx; subst hx
        have hu := (hT dst i hti).int hd'
        obtain ⟨sd, hsd⟩ := hsrc
        exact does_pure h hd (by simp [convert, run_underlying hu, run_underlying hsd, Conv.intToInt, wrap_in hs.1]; rfl) (by unfold RepV; rfl) hs.2

theorem stExtract_does (h : Rel n ds A0 L0 w0 η s a w) {d : Option Nat} (hd : ∀ i, d = some i → i < n) {i : Nat} {x : AVal} {xv : Value}
    (hx : RepV η w (Av A0 η s.H) x xv) {K : Eff → Prop} (hs : stExtract x i K) : Does P (Instr.extract xv i) n ds A0 L0 w0 s a w d K := by
  unfold stExtract at hs
  cases x <;> simp only at hs
  case tup l =>
    unfold RepV at hx
    obtain ⟨vs, rfl, hl⟩ := hx
    cases hi : l[i]? with
    | none => simp [hi] at hs
    | some v =>
      simp only [hi] at hs
      obtain ⟨u, hu, hr⟩ := hl.get hi
      have hu' : vs[i]? = some u := by simpa using hu
      exact does_pure h hd (by simp [Instr.extract, hu']) hr hs

theorem run_fieldAt_off (hT : TabOK P T) {t : TypeId} {i : TInfo} (ht : T t = some i) {fs : List (Nat × TypeId × Nat)} (hd : i.desc = .struct fs) {f off sz : Nat} {ft : TypeId} (hf : fs[f]? = some (off, ft, sz)) (hz : sz ≠ 0) (g o : Nat) (w : World) :
    (Instr.fieldAt t (.pointer (some ⟨g, o, none⟩)) f).run P w = .ok (.pointer (some ⟨g, o + off, none⟩)) w := by
  obtain ⟨gs, hu, hg, _⟩ := (hT t i ht).struct hd
  rw [← hg, List.getElem?_map] at hf
  cases hgf : gs.toList[f]? with
  | none => rw [hgf] at hf; cases hf
  | some fl =>
    rw [hgf] at hf
    injection hf with hf
    injection hf with e1 e2
    injection e2 with e2 e3
    have hgf' : gs[f]? = some fl := by simpa using hgf
    have hso : ∃ j, P.info? fl.type = some j ∧ j.size = sz := by
      unfold Program.cellsOf at e3
      cases hj : P.info? fl.type with
      | none => rw [hj] at e3; simp at e3; exact absurd e3.symm hz
      | some j => rw [hj] at e3; exact ⟨j, rfl, by simpa using e3⟩
    obtain ⟨j, hj, hjs⟩ := hso
    subst e1
    simp [Instr.fieldAt, run_underlying hu, hgf', Instr.sureAddr, fieldPlace, sizeOf, typeInfo, hj, hjs, hz, add_off]

theorem stFieldAddr_does (hT : TabOK P T) (h : Rel n ds A0 L0 w0 η s a w) {d : Option Nat} (hd : ∀ i, d = some i → i < n) {t : TypeId} {f : Nat} {x : AVal} {xv : Value}
    (hx : RepV η w (Av A0 η s.H) x xv) {K : Eff → Prop} (hs : stFieldAddr T t x f K) : Does P (Instr.fieldAt t xv f) n ds A0 L0 w0 s a w d K := by
  unfold stFieldAddr at hs
  cases ht : T t with
  | none => simp [ht] at hs
  | some i =>
    simp only [ht] at hs
    cases hdd : i.desc <;> simp only [hdd] at hs
    case struct fs =>
      cases hf : fs[f]? with
      | none => simp [hf] at hs
      | some q =>
        obtain ⟨off, ft, sz⟩ := q
        simp only [hf] at hs
        obtain ⟨hz, hs⟩ := hs
        cases x <;> simp only at hs
        case bp b o =>
          unfold RepV at hx
          obtain ⟨g, hη, rfl⟩ := hx
          exact does_pure h hd (run_fieldAt_off hT ht hdd hf hz g o w) (by unfold RepV; exact ⟨g, hη, rfl⟩) hs
        case dp τ y o =>
          unfold RepV at hx
          obtain ⟨g, p, rfl, hr⟩ := hx
          exact does_pure h hd (run_fieldAt_off hT ht hdd hf hz g _ w) (by unfold RepV; exact ⟨g, p, by rw [Nat.add_assoc], hr⟩) hs
        case ap b m j o =>
          unfold RepV at hx
          obtain ⟨g, n', c, hη, rfl⟩ := hx
          exact does_pure h hd (run_fieldAt_off hT ht hdd hf hz g _ w) (by unfold RepV; exact ⟨g, n', c, hη, by rw [Nat.add_assoc]⟩) hs

theorem run_part_rep {t : TypeId} {i : TInfo} (hT : TOK P t i) {cs : Array Value} {off : Nat} (hfit : off + i.size ≤ cs.size) (h1 : i.desc.agg = true ∨ i.size = 1) (w : World) :
    (part t cs off).run P w = .ok (packV i.desc ((cs.toList.drop off).take i.size)) w := by
  unfold part packV
  by_cases ha : i.desc.agg = true
  · have : cs.extract off (off + i.size) = ((cs.toList.drop off).take i.size).toArray := by
      apply Array.ext'
      simp [Array.toList_extract, List.extract_eq_take_drop]
    simp [hT.isAgg, ha, hT.sizeOf, this]
  · have hs := h1.resolve_left ha
    have hlt : off < cs.size := by omega
    have e : (cs.toList.drop off).take i.size = [cs[off]] := by
      rw [hs, List.take_one, List.head?_drop]
      simp [hlt]
    simp [hT.isAgg, ha, hlt, e]

theorem stField_does (hT : TabOK P T) (h : Rel n ds A0 L0 w0 η s a w) {d : Option Nat} (hd : ∀ i, d = some i → i < n) {t : TypeId} {f : Nat} {x : AVal} {xv : Value}
    (hx : RepV η w (Av A0 η s.H) x xv) {K : Eff → Prop} (hs : stField T t x f K) : Does P (Instr.field t xv f) n ds A0 L0 w0 s a w d K := by
  unfold stField at hs
  cases ht : T t with
  | none => simp [ht] at hs
  | some i =>
    simp only [ht] at hs
    cases hdd : i.desc <;> simp only [hdd] at hs
    case struct fs =>
      cases hf : fs[f]? with
      | none => simp [hf] at hs
      | some q =>
        obtain ⟨off, ft, sz⟩ := q
        cases x <;> simp only [hf] at hs
        case agg l =>
          cases hj : T ft with
          | none => simp [hj] at hs
          | some j =>
            simp only [hj] at hs
            obtain ⟨rfl, h1, h2, hK⟩ := hs
            unfold RepV at hx
            obtain ⟨vs, rfl, hl⟩ := hx
            have hlen := hl.length
            obtain ⟨gs, hu, hg, _⟩ := (hT t i ht).struct hdd
            rw [← hg, List.getElem?_map] at hf
            cases hgf : gs.toList[f]? with
            | none => rw [hgf] at hf; cases hf
            | some fl =>
              rw [hgf] at hf
              injection hf with hf
              injection hf with e1 e2
              injection e2 with e2 e3
              have hgf' : gs[f]? = some fl := by simpa using hgf
              subst e1 e2
              have hp := run_part_rep (P := P) (hT _ _ hj) (cs := vs) (off := fl.offset) (by simp at hlen; omega) h2 w
              exact does_pure h hd (by simp [Instr.field, run_underlying hu, hgf', asAgg, hp]) (pack_rep ((hl.drop _).take _)) hK

theorem run_indexAt_sl (hT : TabOK P T) {t e : TypeId} {i ie : TInfo} (ht : T t = some i) (hd : i.desc = .sl e) (he : T e = some ie) (g o len c : Nat) (k : IntKind) (q : Int) (h0 : 0 ≤ q) (h1 : q < len) (w : World) :
    (Instr.indexAt t (.slice (some ⟨g, o, none⟩) len c) (.int k q)).run P w = .ok (.pointer (some ⟨g, o + q.toNat * ie.size, none⟩)) w := by
  have hu := (hT t i ht).slice hd
  simp [Instr.indexAt, asIntOf, run_underlying hu, h0, h1, (hT e ie he).sizeOf, add_off]

theorem run_indexAt_arr (hT : TabOK P T) {t e : TypeId} {i ie : TInfo} {len : Nat} (ht : T t = some i) (hd : i.desc = .arr len e) (he : T e = some ie) (g o : Nat) (k : IntKind) (q : Int) (h0 : 0 ≤ q) (h1 : q < len) (w : World) :
    (Instr.indexAt t (.pointer (some ⟨g, o, none⟩)) (.int k q)).run P w = .ok (.pointer (some ⟨g, o + q.toNat * ie.size, none⟩)) w := by
  have hu := (hT t i ht).array hd
  simp [Instr.indexAt, asIntOf, run_underlying hu, h0, h1, Instr.sureAddr, (hT e ie he).sizeOf, add_off]

theorem slBody_index {t : Ty} {xs : List (El t)} {a : Option Addr} {c : Nat} {A : Nat → Prop} (hs : SlBody w.heap.size A t.size (fun x b o => RepAt w A t x b o) xs a c) {q : Int} (h0 : 0 ≤ q) (h1 : q < (xs.length : Int)) :
    ∃ g o, a = some ⟨g, o, none⟩ ∧ g < w.heap.size ∧ ¬ A g ∧ RepAt w A t (xs.getD q.toNat t.dflt) g (o + q.toNat * t.size) := by
  obtain ⟨_, _, h3⟩ := hs
  obtain ⟨g, o, e, hg, hn, hx⟩ := h3 (by omega)
  refine ⟨g, o, e, hg, hn, hx q.toNat _ ?_⟩
  have : q.toNat < xs.length := by omega
  simp [List.getD, this]

theorem stIndexAddr_does (hT : TabOK P T) (h : Rel n ds A0 L0 w0 η s a w) {d : Option Nat} (hd : ∀ i, d = some i → i < n) {t : TypeId} {x ix : AVal} {xv iv : Value}
    (hx : RepV η w (Av A0 η s.H) x xv) (hi : RepV η w (Av A0 η s.H) ix iv) {K : Eff → Prop} (hs : stIndexAddr T s t x ix K) : Does P (Instr.indexAt t xv iv) n ds A0 L0 w0 s a w d K := by
  unfold stIndexAddr at hs
  cases ht : T t with
  | none => simp [ht] at hs
  | some i =>
    simp only [ht] at hs
    cases hdd : i.desc <;> simp only [hdd] at hs
    case sl e =>
      cases he : T e with
      | none => simp [he] at hs
      | some ie =>
        cases ix <;> simp only [he] at hs
        case int k q =>
          unfold RepV at hi; subst hi
          cases x <;> simp only at hs
          case sl τ xs =>
            obtain ⟨hsz, h0, h1, hK⟩ := hs
            unfold RepV at hx
            obtain ⟨a', c, rfl, hb⟩ := hx
            obtain ⟨g, o, rfl, hg, hn, hr⟩ := slBody_index hb h0 h1
            refine does_pure h hd (run_indexAt_sl hT ht hdd he g o _ c k q h0 h1 w) ?_ hK
            unfold RepV
            exact ⟨g, _, by rw [hsz]; rfl, hg, hn, hr⟩
          case own b =>
            unfold RepV at hx
            cases hb : s.H b with
            | none => simp [hb] at hs
            | some B =>
              cases B <;> simp only [hb] at hs
              case arr e' τ xs =>
                obtain ⟨hsz, h0, h1, hK⟩ := hs
                rcases h.hp.blk b _ hb with ⟨e1, _⟩ | ⟨g, cap, cur, e1, _⟩
                · rw [e1] at h1; simp at h1; omega
                · rw [hx, e1]
                  refine does_pure h hd (run_indexAt_sl hT ht hdd he g 0 _ cap k q h0 h1 w) ?_ hK
                  unfold RepV
                  exact ⟨g, _, cap, e1, by rw [hsz]; simp⟩
              case imm τ xs =>
                obtain ⟨hsz, h0, h1, hK⟩ := hs
                obtain ⟨a', c, e1, hbd⟩ := h.hp.blk b _ hb
                obtain ⟨g, o, rfl, hg, hn, hr⟩ := slBody_index hbd h0 h1
                rw [hx, e1]
                refine does_pure h hd (run_indexAt_sl hT ht hdd he g o _ c k q h0 h1 w) ?_ hK
                unfold RepV
                exact ⟨g, _, by rw [hsz]; rfl, hg, hn, hr⟩
    case arr len e =>
      cases he : T e with
      | none => simp [he] at hs
      | some ie =>
        cases ix <;> simp only [he] at hs
        case int k q =>
          unfold RepV at hi; subst hi
          obtain ⟨h0, h1, hs⟩ := hs
          cases x <;> simp only at hs
          case bp b o =>
            unfold RepV at hx
            obtain ⟨g, hη, rfl⟩ := hx
            exact does_pure h hd (run_indexAt_arr hT ht hdd he g o k q h0 h1 w) (by unfold RepV; exact ⟨g, hη, rfl⟩) hs
          case dp τ y o =>
            unfold RepV at hx
            obtain ⟨g, p, rfl, hr⟩ := hx
            exact does_pure h hd (run_indexAt_arr hT ht hdd he g _ k q h0 h1 w) (by unfold RepV; exact ⟨g, p, by rw [Nat.add_assoc], hr⟩) hs
          case ap b m j o =>
            unfold RepV at hx
            obtain ⟨g, n', c, hη, rfl⟩ := hx
            exact does_pure h hd (run_indexAt_arr hT ht hdd he g _ k q h0 h1 w) (by unfold RepV; exact ⟨g, n', c, hη, by rw [Nat.add_assoc]⟩) hs

theorem listOf_len (h : Rel n ds A0 L0 w0 η s a w) {x : AVal} {xv : Value} (hx : RepV η w (Av A0 η s.H) x xv) {t : Ty} {xs : List (El t)} (hl : listOf s x = some ⟨t, xs⟩) : ∃ a c, xv = .slice a xs.length c ∧ xs.length ≤ c ∧ c ≤ maxLen := by
  cases x <;> simp only [listOf] at hl
  case sl τ ys =>
    injection hl with hl
    injection hl with e1 e2
    subst e1
    have e2 := eq_of_heq e2
    subst e2
    unfold RepV at hx
    obtain ⟨a', c, rfl, hb⟩ := hx
    exact ⟨a', c, rfl, hb.1, hb.2.1⟩
  case own b =>
    unfold RepV at hx
    cases hb : s.H b with
    | none => simp [hb] at hl
    | some B =>
      cases B <;> simp only [hb] at hl
      case box => cases hl
      case map => cases hl
      case arr e' τ ys =>
        injection hl with hl
        injection hl with e1 e2
        subst e1
        have e2 := eq_of_heq e2
        subst e2
        rcases h.hp.blk b _ hb with ⟨e1, e2⟩ | ⟨g, cap, cur, e1, _, e3, e4, _⟩
        · rw [hx, e2, e1]; exact ⟨none, 0, rfl, by simp, by simp [maxLen]⟩
        · rw [hx, e1]; exact ⟨_, cap, rfl, e3, e4⟩
      case imm τ ys =>
        injection hl with hl
        injection hl with e1 e2
        subst e1
        have e2 := eq_of_heq e2
        subst e2
        obtain ⟨a', c, e1, hbd⟩ := h.hp.blk b _ hb
        rw [hx, e1]
        exact ⟨a', c, rfl, hbd.1, hbd.2.1⟩
  all_goals cases hl

theorem stLen_does (hT : TabOK P T) (h : Rel n ds A0 L0 w0 η s a w) {d : Option Nat} (hd : ∀ i, d = some i → i < n) {t ty : TypeId} {i : TInfo} (ht : T t = some i) {e : TypeId} (hdd : i.desc = .sl e) {x : AVal} {xv : Value}
    (hx : RepV η w (Av A0 η s.H) x xv) {K : Eff → Prop} (hs : stLen s x K) : Does P (Builtin.len_ #[t] ty #[xv]) n ds A0 L0 w0 s a w d K := by
  have hu := (hT t i ht).slice hdd
  unfold stLen at hs
  split at hs
  · obtain ⟨rfl, hK⟩ := hs
    unfold RepV at hx; subst hx
    exact does_pure h hd (by simp [Builtin.len_, run_underlying hu]; rfl) (by unfold RepV; rfl) hK
  · cases hl : listOf s x with
    | none => simp [hl] at hs
    | some q =>
      obtain ⟨τ, xs⟩ := q
      simp only [hl] at hs
      obtain ⟨a', c, rfl, _⟩ := listOf_len h hx hl
      exact does_pure h hd (by simp [Builtin.len_, run_underlying hu]; rfl) (by unfold RepV; rfl) hs

end
end Go.Proofs.Ytcijihofjcfpoab
