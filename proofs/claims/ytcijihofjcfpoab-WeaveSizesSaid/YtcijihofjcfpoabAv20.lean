/-
  The abstract machine, 20: the statement that ranges over a function. No program is named here.
-/
import Derived.Test.YtcijihofjcfpoabAv19
namespace Go.Proofs.Ytcijihofjcfpoab
open Go.RowKit

set_option linter.constructorNameAsVariable false
set_option linter.unusedVariables false

section
variable {S R Y X : Type} {P : Program} {n : Nat}

/-- What the statement's function has between the rounds, as others know it. -/
def lgh (L0 : Nat → Prop) (w0 : Old) (tmps : Array Value) (l0 : List (Nat × AVal)) (ηe : Nat → Value) (Ms : List Nat) (l : Nat) (h : X → List (Nat × ABlk)) (gg : X → Gh) (lp : X → Loop) (st : X) : Gh where
  yl := true
  J C I W := ∃ ηr A1, LoopSt L0 w0 tmps l0 ηe Ms l (h st) (gg st) (lp st) C I W ηr A1
  cl := fun _ _ _ _ _ ⟨ηr, A1, H⟩ ht hi => ⟨ηr, A1, H.turn ht hi⟩

/-- The record of a loop. -/
def mkLoop (fn : FuncId) (tmps : Array Value) (ps : Array Tmp) (assign bd : Code) (dfb : Nat) (st : LoopState) (pe : Option Code) : Loop := { state := st, pending := pe, fn, tmps, params := ps, assign, body := bd, defers := dfb }

/-- How a round may end. -/
def rpost (h : S → List (Nat × ABlk)) (gg : S → Gh) (hx : R → List (Nat × ABlk)) (gx : R → Gh) (code : R → Code) : Step S R → Exit → ASt → Prop
  | .next st', e, s => e = .normal ∧ s.g = gg st' ∧ ∃ (D N : List Nat) (rn : List (Nat × Nat)), namesOK (look rn) D N (h st') = true ∧ LeH s.H D N (look rn) (h st')
  | .done r, e, s => ((e = .ret ∧ code r = .ret) ∨ ∃ id, e = .exit id ∧ code r = .exit id) ∧ s.g = gx r ∧ ∃ (D N : List Nat) (rn : List (Nat × Nat)), namesOK (look rn) D N (hx r) = true ∧ LeH s.H D N (look rn) (hx r)

theorem rpost_next {h : S → List (Nat × ABlk)} {gg : S → Gh} {hx : R → List (Nat × ABlk)} {gx : R → Gh} {code : R → Code} {st' : S} {s : ASt} (hg : s.g = gg st') (D N : List Nat) (rn : List (Nat × Nat)) (ok : namesOK (look rn) D N (h st') = true) (hl : LeH s.H D N (look rn) (h st')) :
    rpost h gg hx gx code (.next st') .normal s := ⟨rfl, hg, D, N, rn, ok, hl⟩
theorem rpost_ret {h : S → List (Nat × ABlk)} {gg : S → Gh} {hx : R → List (Nat × ABlk)} {gx : R → Gh} {code : R → Code} {r : R} {s : ASt} (hc : code r = .ret) (hg : s.g = gx r) (D N : List Nat) (rn : List (Nat × Nat)) (ok : namesOK (look rn) D N (hx r) = true) (hl : LeH s.H D N (look rn) (hx r)) :
    rpost h gg hx gx code (.done r) .ret s := ⟨.inl ⟨rfl, hc⟩, hg, D, N, rn, ok, hl⟩
theorem rpost_exit {h : S → List (Nat × ABlk)} {gg : S → Gh} {hx : R → List (Nat × ABlk)} {gx : R → Gh} {code : R → Code} {r : R} {s : ASt} {id : Nat} (hc : code r = .exit id) (hg : s.g = gx r) (D N : List Nat) (rn : List (Nat × Nat)) (ok : namesOK (look rn) D N (hx r) = true) (hl : LeH s.H D N (look rn) (hx r)) :
    rpost h gg hx gx code (.done r) (.exit id) s := ⟨.inr ⟨id, rfl, hc⟩, hg, D, N, rn, ok, hl⟩

/-- The record of a round's loop turns. -/
theorem Rel.putLoop {L0 A0 : Nat → Prop} {w0 : Old} {η : Nat → Value} {s : ASt} {a : Act} {w : World} {ds : List Deferred} (h : Rel n ds A0 L0 w0 η s a w) {l : Nat} {lp lp' : Loop} (hrd : w0.rd = some (l, lp)) (hl : L0 l) : Rel n ds A0 L0 { w0 with rd := some (l, lp') } η s a (w.putObj l (.loop lp')) := by
  obtain ⟨A1, Ms, k1, k2, k3, k7, k8, k4, k5, k6⟩ := h.gh
  obtain ⟨hU, hlp⟩ := k8 l lp hrd
  have hlt : l < w.heap.size := (Array.getElem?_eq_some_iff.1 hlp).1
  have hs : w.heap.size ≤ (w.putObj l (.loop lp')).heap.size := by simp
  have hc : ∀ (q : Nat) ob, w.heap[q]? = some ob → isReal ob = true → (w.putObj l (.loop lp')).heap[q]? = w.heap[q]? := fun q ob hq hr => World.putObj_heap_other fun e => by subst e; rw [hlp] at hq; cases hq; cases hr
  refine ⟨h.size, h.few, h.hd, fun i => rep_keepV hs hc _ _ (h.tmp i), rel_keepH hs hc h.hp, ⟨h.fr.os, h.fr.tape, h.fr.output, Nat.le_trans h.fr.size hs, fun q hq hn => ?_⟩, h.old, ⟨A1, Ms, k1, k2, fun M hM => ⟨(k3 M hM).1, (k3 M hM).2.1, ?_⟩, k7, fun q r hq => ?_, k4, ?_, k6⟩⟩
  · rw [World.putObj_heap_other (fun e => hn (by rw [e]; exact hl))]; exact h.fr.heap q hq hn
  · rw [World.putObj_heap_other (fun e => by subst e; rw [(k3 M hM).2.2] at hlp; cases hlp)]; exact (k3 M hM).2.2
  · cases hq
    exact ⟨hU, World.putObj_heap_same hlt⟩
  · exact s.g.cl _ _ _ _ _ k5 ⟨rfl, rfl, rfl, hs, fun q _ hq => World.putObj_heap_other fun e => hq (.inr (.inl (by rw [e]; exact hU)))⟩ fun q hq => .inl hq

variable {L0 : Nat → Prop} {w0 : Old} {tmps : Array Value} {l0 : List (Nat × AVal)} {ηe : Nat → Value} {Ms : List Nat} {l : Nat} {enc : Y → List AVal} {bodyP : Y → S → Option (Step S R)}
  {h : S → List (Nat × ABlk)} {gg : S → Gh} {hx : R → List (Nat × ABlk)} {gx : R → Gh} {code : R → Code} {ps : Array Tmp} {assign bd : Code} {fnid : FuncId} {dfb : Nat}

theorem yield_of_rounds (hn : tmps.size = n) (hfew : n ≤ 1000)
    (henc : ∀ y, (enc y).length = ps.size) (hno : ∀ y b, AVal.hasL (enc y) b = false) (hpl : ∀ p ∈ ps.toList, p < n)
    (hyl : ∀ st st', (gg st).yl = (gg st').yl) (hylx : ∀ st r, (gx r).yl = (gg st).yl)
    (hid : ∀ i b, (fr l0 i).has b = true → handed b ∧ (∀ st, (hpGet (h st) b).isSome = true) ∧ ∀ r, (hpGet (hx r) b).isSome = true)
    (hround : ∀ y st x, bodyP y st = some x → AW P (some l) n assign (fun e s1 => e = .normal ∧ AW P (some l) n bd (rpost h gg hx gx code x) s1) ⟨fr (setF (ps.toList.zip (enc y)) l0), hpGet (h st), gg st⟩) :
    YieldOK P l enc bodyP (lgh L0 w0 tmps l0 ηe Ms l h gg fun _ => mkLoop fnid tmps ps assign bd dfb .ready none) (lgh L0 w0 tmps l0 ηe Ms l hx gx fun r => mkLoop fnid tmps ps assign bd dfb .done (some (code r))) := by
  rintro y st x hxe η A I w us ⟨ηr, A1, H⟩ hA hI hv
  have hsub : ∀ q, Av (AR w0 Ms l A1 I) ηr (hpGet (h st)) q → A q ∨ I q := by
    rintro q ((h1 | h1 | h1 | h1 | h1) | h1)
    · exact .inl ((H.cdef q).2 (.inr (.inl h1)))
    · exact .inl ((H.cdef q).2 (.inr (.inr (.inl h1))))
    · exact .inl ((H.cdef q).2 (.inr (.inr (.inr (.inl h1)))))
    · exact .inr h1
    · exact .inl ((H.cdef q).2 (.inr (.inr (.inr (.inr h1)))))
    · exact .inl ((H.cdef q).2 (.inl h1))
  have hv' : RepVs ηr w (Av (AR w0 Ms l A1 I) ηr (hpGet (h st))) (enc y) us.toList :=
    RepVs.step ⟨Nat.le_refl _, fun _ _ _ => rfl, fun q _ hq => hsub q hq⟩ _ _ (fun b hb => by rw [hno y b] at hb; cases hb) hv
  have hus : us.size = ps.size := by
    have := hv.length
    rw [henc y] at this
    simpa using this.symm
  have hlt : l < w.heap.size := (Array.getElem?_eq_some_iff.1 H.rcd).1
  refine ⟨_, _, _, _, run_yield (P := P) (args := us) H.rcd hus, ?_⟩
  have hfold : (((mkLoop fnid tmps ps assign bd dfb .ready none).params.zip us).foldl (fun tmps (t, a) => tmps.setIfInBounds t a) (mkLoop fnid tmps ps assign bd dfb .ready none).tmps) = (ps.toList.zip us.toList).foldl (fun t (q : Nat × Value) => t.setIfInBounds q.1 q.2) tmps := by
    show (ps.zip us).foldl _ tmps = _
    rw [← Array.foldl_toList, Array.toList_zip]
  rw [hfold]
  have hrel := H.toRel (n := n) hn hfew (ps := ps.toList) (ys := enc y) (us := us.toList) (by rw [henc y]; simp) hpl hv'
  refine roundIn_of_wpIn trivial (wpIn_mono (hround y st x hxe 0 [] _ _ _ ηr _ w rfl hrel) ?_)
  rintro e a1 w1 ⟨A0', η', s1, ⟨rfl, hbody⟩, hr1⟩
  have hrd1 : (roundOld w0 w ηe A1 I Ms l (mkLoop fnid tmps ps assign bd dfb .ready none)).rd = some (l, mkLoop fnid tmps ps assign bd dfb .ready none) := rfl
  obtain ⟨_, _, _, _, _, _, hk8, _⟩ := hr1.gh
  have hl1 := (hk8 l _ hrd1).2
  have hbeg := run_beginRound (P := P) hl1 rfl
  refine ⟨_, hbeg, ?_⟩
  have hr2 := hr1.putLoop hrd1 (lp' := mkLoop fnid tmps ps assign bd dfb .busy none) (.inr (.inr rfl))
  refine wpIn_mono (hbody 0 [] _ _ _ η' _ _ rfl hr2) ?_
  rintro e a2 w2 ⟨A0'', η2, s2, hQ, hr3⟩
  have hr3' : Rel n [] A0'' (roundL ηr (h st) (gg st) A1 l) (roundOld w0 w ηe A1 I Ms l (mkLoop fnid tmps ps assign bd dfb .busy none)) η2 s2 a2 w2 := hr3
  have hl3 := (show w2.heap[l]? = some (.loop (mkLoop fnid tmps ps assign bd dfb .busy none)) from by obtain ⟨_, _, _, _, _, _, hk8, _⟩ := hr3'.gh; exact (hk8 l _ rfl).2)
  cases x with
  | next st' =>
    obtain ⟨rfl, hg, D, N, rn, ok, hle⟩ := hQ
    obtain ⟨C', ηr', A1', H', ht, hC'⟩ := H.ofRel hr3' ok hle (by rw [hg]; exact hyl _ _) (fun i b hb => ⟨(hid i b hb).1, (hid i b hb).2.1 st, (hid i b hb).2.1 st'⟩)
    have hend := run_endRound (P := P) none hl3
    refine ⟨_, _, hend, ht.trans ⟨rfl, rfl, rfl, by simp, fun q hq hn => World.putObj_heap_other fun e => hn ((H.cdef q).2 (.inr (.inr (.inr (.inr e)))))⟩, C', fun q hq => by simpa using hC' q hq, rfl, ηr', A1', ?_⟩
    rw [← hg]
    exact H'.putl _
  | done r =>
    obtain ⟨hcode, hg, D, N, rn, ok, hle⟩ := hQ
    obtain ⟨C', ηr', A1', H', ht, hC'⟩ := H.ofRel hr3' ok hle (by rw [hg]; exact hylx _ _) (fun i b hb => ⟨(hid i b hb).1, (hid i b hb).2.1 st, (hid i b hb).2.2 r⟩)
    have hend := run_endRound (P := P) (some (code r)) hl3
    have fin : Turns A w (w2.putObj l (.loop (mkLoop fnid tmps ps assign bd dfb .done (some (code r))))) ∧ ∃ A' : Nat → Prop, (∀ q, A' q → A q ∨ (w.heap.size ≤ q ∧ q < (w2.putObj l (.loop (mkLoop fnid tmps ps assign bd dfb .done (some (code r))))).heap.size)) ∧
        Ending.returned (.bool false) = .returned (.bool false) ∧ (lgh L0 w0 tmps l0 ηe Ms l hx gx (fun r => mkLoop fnid tmps ps assign bd dfb .done (some (code r))) r).J A' I (w2.putObj l (.loop (mkLoop fnid tmps ps assign bd dfb .done (some (code r))))) := by
      refine ⟨ht.trans ⟨rfl, rfl, rfl, by simp, fun q hq hn => World.putObj_heap_other fun e => hn ((H.cdef q).2 (.inr (.inr (.inr (.inr e)))))⟩, C', fun q hq => by simpa using hC' q hq, rfl, ηr', A1', ?_⟩
      rw [← hg]
      exact H'.putl _
    rcases hcode with ⟨rfl, hc⟩ | ⟨id, rfl, hc⟩
    · exact ⟨.bool false, w2.putObj l (.loop (mkLoop fnid tmps ps assign bd dfb .done (some (code r)))), by rw [← hc]; exact hend, fin⟩
    · exact ⟨.bool false, w2.putObj l (.loop (mkLoop fnid tmps ps assign bd dfb .done (some (code r)))), by rw [← hc]; exact hend, fin⟩

end
end Go.Proofs.Ytcijihofjcfpoab
