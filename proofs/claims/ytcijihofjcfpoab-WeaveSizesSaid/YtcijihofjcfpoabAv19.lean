/-
  The abstract machine, 19: contracts of iterators; ranges over functions. No program is named here.
-/
import Derived.Test.YtcijihofjcfpoabAv18
namespace Go.Proofs.Ytcijihofjcfpoab
open Go.RowKit

set_option linter.constructorNameAsVariable false
set_option linter.unusedVariables false

section
variable {S R Y : Type} {P : Program}

/-- What others know when all rounds are done. -/
def gend (Γ : S → Gh) (Γx : R → Gh) : Sum S R → Gh
  | .inl s => Γ s
  | .inr x => Γx x

/-- Whatever the rounds do: the iterator leads them from s0 to r. -/
def IC (P : Program) (gf : FuncId) (hin : List (Nat × ABlk)) (cap : List AVal) (enc : Y → List AVal) (body : Y → S → Option (Step S R)) (s0 : S) (r : Sum S R) : Prop :=
  FnOK P gf ∧ ∀ (Γ : S → Gh) (Γx : R → Gh), (∀ s, (Γ s).yl = true) → (∀ r, (Γx r).yl = true) → ∀ l, YieldOK P l enc body Γ Γx →
    ∀ (η : Nat → Value) (A0 : Nat → Prop) (w : World) (vs : Array Value), RelH A0 η (hpGet hin) w → RepVs η w (Av A0 η (hpGet hin)) cap vs.toList → (Γ s0).J A0 (Live η (hpGet hin)) w →
      Calls P gf (#[.func (.yield l) #[] #[]] ++ vs) w fun e w' => (∃ v, e = .returned v) ∧ ∃ A1 I1 : Nat → Prop, Turns (fun g => A0 g ∨ Live η (hpGet hin) g) w w' ∧ (gend Γ Γx r).J A1 I1 w'

/-- How an iterator may end. -/
def ipost (G : Gh) : Exit → ASt → Prop
  | .normal, s => s.g = G
  | .ret, s => s.g = G
  | _, _ => False

theorem IC.of_body {gf : FuncId} {fn : Func} {c : Code} {hin : List (Nat × ABlk)} {cap : List AVal} {enc : Y → List AVal} {body : Y → S → Option (Step S R)} {s0 : S} {r : Sum S R} (hf : P.funcs[gf]? = some fn) (hb : fn.body = some c) (hname : (fn.name == "runtime.NumGoroutine") = false) (hres : fn.results = #[])
    {nt : Nat} (hnt : fn.ntmps = nt) (hfew : nt ≤ 1000) (hl : cap.length + 1 ≤ nt)
    (h : ∀ (Γ : S → Gh) (Γx : R → Gh) (l : Nat), (∀ s, (Γ s).yl = true) → (∀ r, (Γx r).yl = true) → YieldOK P l enc body Γ Γx → AW P none nt c (ipost (gend Γ Γx r)) ⟨fr (enumF 0 (.fn (.yield l) [] [] :: cap)), hpGet hin, Γ s0⟩) : IC P gf hin cap enc body s0 r := by
  refine ⟨⟨fn, hf, by simp [hb], hname⟩, fun Γ Γx hΓ hΓx l hY η A0 w vs hA hv hJ => ?_⟩
  subst hnt
  have hlen := hv.length
  have hv' : RepVs η w (Av A0 η (hpGet hin)) (.fn (.yield l) [] [] :: cap) (#[Value.func (.yield l) #[] #[]] ++ vs).toList := by
    rw [Array.toList_append]
    exact RepVs.cons (by unfold RepV; exact ⟨#[], #[], rfl, RepVs.nil, RepVs.nil⟩) hv
  have hrel : Rel fn.ntmps [] A0 (fun g => A0 g ∨ Live η (hpGet hin) g) { toWorld := w, ηh := η } η ⟨fr (enumF 0 (.fn (.yield l) [] [] :: cap)), hpGet hin, Γ s0⟩ { tmps := (#[Value.func (.yield l) #[] #[]] ++ vs) ++ Array.replicate (fn.ntmps - (#[Value.func (.yield l) #[] #[]] ++ vs).size) undef, defers := [] } w := by
    refine ⟨by simp; simp at hlen; omega, hfew, fun b _ _ => rfl, fun i => ?_, hA, Fr.refl _ _, fun g hg _ => .inr hg, ⟨A0, [], rfl, List.nodup_nil, by simp, fun _ _ h => h, (fun _ _ h => by cases h), fun g => by simp, (Γ s0).cl _ _ _ _ _ hJ (Turns.refl _ _) (fun g hg => .inl (by simpa using hg)), by rw [show (ASt.mk (fr (enumF 0 (.fn (.yield l) [] [] :: cap))) (hpGet hin) (Γ s0)).g = Γ s0 from rfl, hΓ, if_pos rfl]; exact fun g hg _ => .inl hg⟩⟩
    by_cases hi : i < (AVal.fn (.yield l) [] [] :: cap).length
    · have hx : (AVal.fn (.yield l) [] [] :: cap)[i]? = some (AVal.fn (.yield l) [] [] :: cap)[i] := by simp
      obtain ⟨v, hv1, hv2⟩ := hv'.get hx
      have e1 : (AVal.fn (.yield l) [] [] :: cap).getD i .un = (AVal.fn (.yield l) [] [] :: cap)[i] := by simp [List.getD, hx]
      have hvi : (#[Value.func (.yield l) #[] #[]] ++ vs)[i]? = some v := by simpa only [Array.getElem?_toList] using hv1
      have e2 : ((#[Value.func (.yield l) #[] #[]] ++ vs) ++ Array.replicate (fn.ntmps - (#[Value.func (.yield l) #[] #[]] ++ vs).size) undef).getD i undef = v := by
        rw [Array.getD_eq_getD_getElem?, Array.getElem?_append_left (Array.getElem?_eq_some_iff.1 hvi).1, hvi]; rfl
      show RepV η w (Av A0 η (hpGet hin)) (fr (enumF 0 (.fn (.yield l) [] [] :: cap)) i) (Array.getD _ i undef)
      rw [fr_enum, Nat.sub_zero, if_neg (by omega), e1, e2]
      exact hv2
    · have : (AVal.fn (.yield l) [] [] :: cap).getD i .un = .un := by
        rw [List.getD, List.getElem?_eq_none (Nat.le_of_not_lt hi)]; rfl
      show RepV η w (Av A0 η (hpGet hin)) (fr (enumF 0 (.fn (.yield l) [] [] :: cap)) i) (Array.getD _ i undef)
      rw [fr_enum, Nat.sub_zero, if_neg (by omega), this]; unfold RepV; trivial
  have hwp := h Γ Γx l hΓ hΓx hY 0 [] A0 _ _ η _ w rfl hrel
  rw [show (fen none) = Fence.wide from rfl] at hwp
  refine callsIn_wide.1 (callsIn_of_wp_marks (n := 0) hf hb trivial (wpIn_mono hwp ?_) rfl)
  rintro e a' w' ⟨A1, η', s', hQ, hR⟩
  have fin : s'.g = (gend Γ Γx r) → LeavesInM Fence.wide 0 P fn a'.tmps (fun e w' => (∃ v, e = .returned v) ∧ ∃ A1 I1 : Nat → Prop, Turns (fun g => A0 g ∨ Live η (hpGet hin) g) w w' ∧ (gend Γ Γx r).J A1 I1 w') a'.defers .returning w' := by
    intro hg
    obtain ⟨A2, Ms, hMs, hMn, hM, hU2, hRd, hA2, hJ2, hA3⟩ := hR.gh
    rw [List.append_nil] at hMs
    rw [hMs]
    refine leaves_marks (s := s') (η := η') (w0 := { toWorld := w, ηh := η }) (A1 := A2) hU2 hA3 ?_ Ms A1 a' w' rfl hMn hM hRd hA2 hJ2 hR
    intro a2 w2 e3 hR2 hJ3
    rw [hg] at hJ3
    exact ⟨.tuple #[], by rw [results_eq, hres]; simp, ⟨_, rfl⟩, A2, _, ⟨hR2.fr.os, hR2.fr.tape, hR2.fr.output, hR2.fr.size, hR2.fr.heap⟩, hJ3⟩
  cases e with
  | normal => exact fin hQ
  | ret => exact fin hQ
  | _ => exact hQ.elim

end

/-! ### Ranges over functions -/

def AR (w0 : Old) (Ms : List Nat) (l : Nat) (A1 I : Nat → Prop) : Nat → Prop := fun q => A1 q ∨ w0.U q ∨ q ∈ Ms ∨ I q ∨ q = l

/-- Between the rounds: what the statement's function has, in names for rounds. C: what rounds may turn; I: what the iterator may. -/
structure LoopSt (L0 : Nat → Prop) (w0 : Old) (tmps : Array Value) (l0 : List (Nat × AVal)) (ηe : Nat → Value) (Ms : List Nat) (l : Nat) (h : List (Nat × ABlk)) (g : Gh) (lp : Loop) (C I : Nat → Prop) (W : World) (ηr : Nat → Value) (A1 : Nat → Prop) : Prop where
  cdef : ∀ q, C q ↔ Live ηr (hpGet h) q ∨ A1 q ∨ w0.U q ∨ q ∈ Ms ∨ q = l
  hp : RelH (AR w0 Ms l A1 I) ηr (hpGet h) W
  tmp : ∀ i, RepV ηr W (Av (AR w0 Ms l A1 I) ηr (hpGet h)) (fr l0 i) (tmps.getD i undef)
  hd : ∀ b, handed b → (hpGet h b).isSome = true → ηr b = ηe b
  frm : Fr L0 w0.toWorld W
  old : ∀ q, Live ηr (hpGet h) q → q < w0.heap.size → L0 q
  iold : ∀ q, I q → q < w0.heap.size → L0 q
  mks : ∀ M ∈ Ms, w0.heap.size ≤ M ∧ W.heap[M]? = some (.deferred (some []))
  dis : ∀ q, A1 q → ¬ w0.U q ∧ q ∉ Ms ∧ ¬ I q ∧ q ≠ l
  idis : ¬ I l ∧ (∀ M ∈ Ms, ¬ I M) ∧ ∀ q, w0.U q → ¬ I q
  ldis : l ∉ Ms
  lnu : ¬ w0.U l
  rcd : W.heap[l]? = some (.loop lp)
  lnew : w0.heap.size ≤ l
  rds : Rounds w0 W
  know : g.J A1 (fun q => Live ηr (hpGet h) q ∨ w0.U q ∨ q ∈ Ms ∨ I q ∨ q = l) W
  yl : if g.yl = true then ∀ q, A1 q → q < w0.heap.size → L0 q else A1 = w0.A

section
variable {L0 : Nat → Prop} {w0 : Old} {tmps : Array Value} {l0 : List (Nat × AVal)} {ηe : Nat → Value} {Ms : List Nat} {l : Nat} {h : List (Nat × ABlk)} {g : Gh} {lp : Loop} {C I : Nat → Prop} {W : World} {ηr : Nat → Value} {A1 : Nat → Prop}

theorem LoopSt.turn (H : LoopSt L0 w0 tmps l0 ηe Ms l h g lp C I W ηr A1) {I' : Nat → Prop} {W' : World} (ht : Turns I W W') (hI : ∀ q, I' q → I q ∨ (W.heap.size ≤ q ∧ q < W'.heap.size)) : LoopSt L0 w0 tmps l0 ηe Ms l h g lp C I' W' ηr A1 := by
  have sub : ∀ q, q < W.heap.size → AR w0 Ms l A1 I' q → AR w0 Ms l A1 I q := by
    rintro q hq (h1 | h1 | h1 | h1 | h1)
    · exact .inl h1
    · exact .inr (.inl h1)
    · exact .inr (.inr (.inl h1))
    · rcases hI q h1 with h2 | h2
      · exact .inr (.inr (.inr (.inl h2)))
      · omega
    · exact .inr (.inr (.inr (.inr h1)))
  have k : Keeps (Av (AR w0 Ms l A1 I) ηr (hpGet h)) (Av (AR w0 Ms l A1 I') ηr (hpGet h)) W W' :=
    ⟨ht.size, fun q hq hn => ht.heap q hq fun hi => hn (.inl (.inr (.inr (.inr (.inl hi))))), fun q hq hc => hc.imp (sub q hq) id⟩
  have hni : ∀ q, Live ηr (hpGet h) q → ¬ I q := fun q hl hi => (H.hp.av q (.inr (.inr (.inr (.inl hi))))).2 hl
  have hlt : l < W.heap.size := (Array.getElem?_eq_some_iff.1 H.rcd).1
  refine ⟨H.cdef, ⟨fun b B hb => ?_, H.hp.inj, fun q hq => ?_⟩, fun i => RepV.step k _ _ (fun _ _ => rfl) (H.tmp i), H.hd, ⟨ht.os.trans H.frm.os, ht.tape.trans H.frm.tape, ht.output.trans H.frm.output, Nat.le_trans H.frm.size ht.size, fun q hq hn => (ht.heap q (Nat.lt_of_lt_of_le hq H.frm.size) fun hi => hn (H.iold q hi hq)).trans (H.frm.heap q hq hn)⟩, H.old, fun q hq hlt => ?_, fun M hM => ⟨(H.mks M hM).1, ?_⟩, fun q hq => ⟨(H.dis q hq).1, (H.dis q hq).2.1, fun hi => ?_, (H.dis q hq).2.2.2⟩, ⟨fun hi => ?_, fun M hM hi => ?_, fun q hq hi => ?_⟩, H.ldis, H.lnu, ?_, H.lnew, ?_, ?_, H.yl⟩
  · have := RelBlk.step (K := []) (η' := ηr) (η := ηr) k (fun _ _ => rfl) (fun q hm hg => ht.heap q (Live.lt H.hp ⟨b, B, hb, hm, hg⟩) (hni q ⟨b, B, hb, hm, hg⟩)) (H.hp.blk b B hb)
    rwa [bclean_nil] at this
  · by_cases hlt : q < W.heap.size
    · have := H.hp.av q (sub q hlt hq); exact ⟨Nat.lt_of_lt_of_le this.1 ht.size, this.2⟩
    · refine ⟨?_, fun hl => hlt (Live.lt H.hp hl)⟩
      rcases hq with h1 | h1 | h1 | h1 | h1
      · have := (H.hp.av q (.inl h1)).1; omega
      · have := (H.hp.av q (.inr (.inl h1))).1; omega
      · have := (H.hp.av q (.inr (.inr (.inl h1)))).1; omega
      · rcases hI q h1 with h2 | h2
        · have := (H.hp.av q (.inr (.inr (.inr (.inl h2))))).1; omega
        · exact h2.2
      · subst h1; omega
  · rcases hI q hq with h2 | h2
    · exact H.iold q h2 hlt
    · have := H.frm.size; omega
  · exact (ht.heap M (Array.getElem?_eq_some_iff.1 (H.mks M hM).2).1 (H.idis.2.1 M hM)).trans (H.mks M hM).2
  · rcases hI q hi with h2 | h2
    · exact (H.dis q hq).2.2.1 h2
    · have := (H.hp.av q (.inl hq)).1; omega
  · rcases hI l hi with h2 | h2
    · exact H.idis.1 h2
    · omega
  · rcases hI M hi with h2 | h2
    · exact H.idis.2.1 M hM h2
    · have := (Array.getElem?_eq_some_iff.1 (H.mks M hM).2).1; omega
  · rcases hI q hi with h2 | h2
    · exact H.idis.2.2 q hq h2
    · have := (H.hp.av q (.inr (.inl hq))).1; omega
  · exact (ht.heap l hlt H.idis.1).trans H.rcd
  · intro q r hq
    obtain ⟨h1, h2⟩ := H.rds q r hq
    exact ⟨h1, (ht.heap q (Array.getElem?_eq_some_iff.1 h2).1 (H.idis.2.2 q h1)).trans h2⟩
  · refine g.cl _ _ _ _ _ H.know (ht.mono fun q _ hi => .inr (.inr (.inr (.inl hi)))) fun q hq => ?_
    rcases hq with h1 | h1 | h1 | h1 | h1
    · exact .inl (.inl h1)
    · exact .inl (.inr (.inl h1))
    · exact .inl (.inr (.inr (.inl h1)))
    · rcases hI q h1 with h2 | h2
      · exact .inl (.inr (.inr (.inr (.inl h2))))
      · exact .inr h2
    · exact .inl (.inr (.inr (.inr (.inr h1))))

/-- The loop's record turns. -/
theorem LoopSt.putl (H : LoopSt L0 w0 tmps l0 ηe Ms l h g lp C I W ηr A1) (lp' : Loop) : LoopSt L0 w0 tmps l0 ηe Ms l h g lp' C I (W.putObj l (.loop lp')) ηr A1 := by
  have hlt : l < W.heap.size := (Array.getElem?_eq_some_iff.1 H.rcd).1
  have hs : W.heap.size ≤ (W.putObj l (.loop lp')).heap.size := by simp
  have hc : ∀ (q : Nat) ob, W.heap[q]? = some ob → isReal ob = true → (W.putObj l (.loop lp')).heap[q]? = W.heap[q]? := fun q ob hq hr => World.putObj_heap_other fun e => by subst e; rw [H.rcd] at hq; cases hq; cases hr
  refine ⟨H.cdef, rel_keepH hs hc H.hp, fun i => rep_keepV hs hc _ _ (H.tmp i), H.hd, ⟨H.frm.os, H.frm.tape, H.frm.output, Nat.le_trans H.frm.size hs, fun q hq hn => ?_⟩, H.old, H.iold, fun M hM => ⟨(H.mks M hM).1, ?_⟩, H.dis, H.idis, H.ldis, H.lnu, World.putObj_heap_same hlt, H.lnew, ?_, ?_, H.yl⟩
  · rw [World.putObj_heap_other (fun e => by subst e; have h1 := H.lnew; have h2 : q < w0.heap.size := hq; omega)]; exact H.frm.heap q hq hn
  · rw [World.putObj_heap_other (fun e => by subst e; exact H.ldis hM)]; exact (H.mks M hM).2
  · intro q r hq
    obtain ⟨h1, h2⟩ := H.rds q r hq
    have hne : q ≠ l := fun e => H.lnu (by rw [← e]; exact h1)
    exact ⟨h1, by rw [World.putObj_heap_other hne]; exact h2⟩
  · refine g.cl _ _ _ _ _ H.know ⟨rfl, rfl, rfl, hs, fun q _ hq => World.putObj_heap_other fun e => hq (.inr (.inr (.inr (.inr e))))⟩ fun q hq => .inl hq

/-- The world of a round's beginning. -/
def roundOld (w0 : Old) (W : World) (ηe : Nat → Value) (A1 I : Nat → Prop) (Ms : List Nat) (l : Nat) (lp : Loop) : Old := { toWorld := W, ηh := ηe, A := A1, U := fun q => w0.U q ∨ q ∈ Ms ∨ I q ∨ q = l, rd := some (l, lp) }

def roundL (ηr : Nat → Value) (h : List (Nat × ABlk)) (g : Gh) (A1 : Nat → Prop) (l : Nat) : Nat → Prop := fun q => Live ηr (hpGet h) q ∨ (g.yl = true ∧ A1 q) ∨ q = l

/-- What yield hands over lies in the round's temporaries. -/
def setF : List (Nat × AVal) → List (Nat × AVal) → List (Nat × AVal)
  | [], l => l
  | p :: r, l => setF r (p :: l)

theorem setF_rep {η : Nat → Value} {A : Nat → Prop} : ∀ (ps : List Tmp) (ys : List AVal) (us : List Value) (l : List (Nat × AVal)) (tmps : Array Value), ps.length = ys.length → RepVs η W A ys us → (∀ p ∈ ps, p < tmps.size) → (∀ i, RepV η W A (fr l i) (tmps.getD i undef)) →
    ∀ i, RepV η W A (fr (setF (ps.zip ys) l) i) (((ps.zip us).foldl (fun t (q : Nat × Value) => t.setIfInBounds q.1 q.2) tmps).getD i undef)
  | [], [], us, l, tmps, _, hv, _, hl, i => by simpa [setF] using hl i
  | p :: ps, y :: ys, us, l, tmps, hn, hv, hp, hl, i => by
    unfold RepVs at hv
    obtain ⟨u, us', rfl, hu, hv⟩ := hv
    simp only [List.zip_cons_cons, setF, List.foldl_cons]
    refine setF_rep ps ys us' ((p, y) :: l) (tmps.setIfInBounds p u) (by simpa using hn) hv (fun q hq => by rw [Array.size_setIfInBounds]; exact hp q (by simp [hq])) (fun j => ?_) i
    unfold fr
    by_cases e : j = p
    · subst e
      rw [if_pos rfl]
      have hlt := hp j (by simp)
      have : (tmps.setIfInBounds j u).getD j undef = u := by
        rw [Array.getD_eq_getD_getElem?]; simp [hlt]
      rw [this]; exact hu
    · rw [if_neg e]
      have : (tmps.setIfInBounds p u).getD j undef = tmps.getD j undef := by
        rw [Array.getD_eq_getD_getElem?, Array.getD_eq_getD_getElem?, Array.getElem?_setIfInBounds_ne (Ne.symm e)]
      rw [this]; exact hl j

theorem LoopSt.toRel {n : Nat} (H : LoopSt L0 w0 tmps l0 ηe Ms l h g lp C I W ηr A1) (hn : tmps.size = n) (hfew : n ≤ 1000) {ps : List Tmp} {ys : List AVal} {us : List Value} (hps : ps.length = ys.length) (hpl : ∀ p ∈ ps, p < n) (hv : RepVs ηr W (Av (AR w0 Ms l A1 I) ηr (hpGet h)) ys us) :
    Rel n [] (AR w0 Ms l A1 I) (roundL ηr h g A1 l) (roundOld w0 W ηe A1 I Ms l lp) ηr ⟨fr (setF (ps.zip ys) l0), hpGet h, g⟩ { tmps := (ps.zip us).foldl (fun t (q : Nat × Value) => t.setIfInBounds q.1 q.2) tmps, defers := [] } W := by
  have hsz : ∀ (l : List (Nat × Value)) (t : Array Value), (l.foldl (fun t (q : Nat × Value) => t.setIfInBounds q.1 q.2) t).size = t.size := by
    intro l
    induction l with
    | nil => intro t; rfl
    | cons x l ih => intro t; rw [List.foldl_cons, ih, Array.size_setIfInBounds]
  refine ⟨by rw [hsz]; exact hn, hfew, H.hd, setF_rep ps ys us l0 tmps hps hv (by rw [hn]; exact hpl) H.tmp, H.hp, Fr.refl _ _, fun q hq _ => .inl hq, ⟨A1, [], rfl, List.nodup_nil, by simp, ?_, ?_, ?_, ?_, ?_⟩⟩
  · rintro q hq (h1 | h1 | h1 | h1)
    · exact (H.dis q hq).1 h1
    · exact (H.dis q hq).2.1 h1
    · exact (H.dis q hq).2.2.1 h1
    · exact (H.dis q hq).2.2.2 h1
  · intro q r hq
    cases hq
    exact ⟨.inr (.inr (.inr rfl)), H.rcd⟩
  · intro q
    simp [AR, roundOld]
  · exact g.cl _ _ _ _ _ H.know (Turns.refl _ _) fun q hq => .inl (by simpa [roundOld] using hq)
  · show if g.yl = true then _ else _
    split
    · rename_i e; exact fun q hq _ => .inr (.inl ⟨e, hq⟩)
    · rfl

/-- A round has come to its end. -/
theorem LoopSt.ofRel {n : Nat} {lp' : Loop} (H : LoopSt L0 w0 tmps l0 ηe Ms l h g lp C I W ηr A1) {A0' : Nat → Prop} {η' : Nat → Value} {s' : ASt} {a' : Act} {W' : World} (hr : Rel n [] A0' (roundL ηr h g A1 l) (roundOld w0 W ηe A1 I Ms l lp') η' s' a' W')
    {h' : List (Nat × ABlk)} {D N : List Nat} {ρ : Nat → Nat} (ok : namesOK ρ D N h' = true) (hle : LeH s'.H D N ρ h') (hyl : s'.g.yl = g.yl) (hid : ∀ i b, (fr l0 i).has b = true → handed b ∧ (hpGet h b).isSome = true ∧ (hpGet h' b).isSome = true) :
    ∃ C' ηr' A1', LoopSt L0 w0 tmps l0 ηe Ms l h' s'.g lp' C' I W' ηr' A1' ∧ Turns C W W' ∧ (∀ q, C' q → C q ∨ (W.heap.size ≤ q ∧ q < W'.heap.size)) := by
  have hn := namesIn_of ok
  have hnh := namesHd_of ok
  obtain ⟨A1', Ms', k1, k2, k3, k7, k8, k4, k5, k6⟩ := hr.gh
  have hA1' : ∀ q, A1' q → q < W.heap.size → A1 q ∨ Live ηr (hpGet h) q := by
    intro q hq hlt
    rw [hyl] at k6
    split at k6
    · rcases k6 q hq hlt with h1 | h1
      · exact .inr h1
      · rcases h1 with h1 | h1
        · exact .inl h1.2
        · subst h1; exact absurd (.inr (.inr (.inr rfl))) (k7 q hq)
    · rw [k6] at hq; exact .inl hq
  have hLn : ∀ q, roundL ηr h g A1 l q → C q := fun q hq => (H.cdef q).2 (hq.imp id fun h1 => h1.elim (fun h1 => .inl h1.2) fun h1 => .inr (.inr (.inr h1)))
  have hlive : ∀ q, Live (newη η' N ρ) (hpGet h') q → Live η' s'.H q := fun q hq => by
    obtain ⟨c, B, B0, _, _, j3, j4, _, j6⟩ := le_live hle hq
    exact ⟨_, B0, j3, j4, j6⟩
  have hlive' : ∀ q, Live (newη η' N ρ) (hpGet h') q → q < W.heap.size → roundL ηr h g A1 l q := fun q hq hlt => hr.old q (hlive q hq) hlt
  have hsub : ∀ q, AR w0 Ms l A1' I q → A0' q := fun q hq => (k4 q).2 (by
    rcases hq with h1 | h1
    · exact .inl h1
    · exact .inr (.inl h1))
  obtain ⟨r1, _, _⟩ := le_rel (A1 := AR w0 Ms l A1' I) hr.hp hn hle (fun q hq => (hr.hp.av q (hsub q hq)).1) (fun q hq => .inl (hsub q hq)) (fun q b e t xs hq hb _ hbl => (hr.hp.av q (hsub q hq)).2 ⟨b, _, hb, rfl, hbl⟩) (fun q hq hl => (hr.hp.av q (hsub q hq)).2 (hlive q hl))
  have hhd : ∀ b, handed b → (hpGet h' b).isSome = true → newη η' N ρ b = ηe b := by
    intro b hb hsm
    obtain ⟨B, hB⟩ := Option.isSome_iff_exists.1 hsm
    rcases LeH.get hle hB with ⟨hc, _⟩ | ⟨hc, B0, hB0, _⟩
    · exact absurd hb (hnh.nil b B hB hc)
    · have e := hnh.hand b B hB hc hb
      have : newη η' N ρ b = η' b := by
        unfold newη
        rw [hc, e]; simp
      rw [this]
      rw [e] at hB0
      exact hr.hd b hb (by rw [hB0]; rfl)
  have hLl : ∀ q, roundL ηr h g A1 l q → q < w0.heap.size → L0 q := by
    rintro q (h1 | ⟨h1, h2⟩ | h1) hlt
    · exact H.old q h1 hlt
    · have := H.yl; rw [h1, if_pos rfl] at this; exact this q h2 hlt
    · subst h1; have := H.lnew; omega
  have hUn : ∀ q, (w0.U q ∨ q ∈ Ms) → ¬ roundL ηr h g A1 l q := by
    rintro q hu (h1 | h1 | h1)
    · exact (H.hp.av q (.inr (hu.elim .inl fun h => .inr (.inl h)))).2 h1
    · have := H.dis q h1.2
      rcases hu with h2 | h2
      · exact this.1 h2
      · exact this.2.1 h2
    · subst h1; exact hu.elim H.lnu H.ldis
  have hsame : ∀ q, q < W.heap.size → ¬ roundL ηr h g A1 l q → W'.heap[q]? = W.heap[q]? := hr.fr.heap
  have k : Keeps (Av (AR w0 Ms l A1 I) ηr (hpGet h)) (Av (AR w0 Ms l A1' I) (newη η' N ρ) (hpGet h')) W W' := by
    refine ⟨hr.fr.size, fun q hq hc => hsame q hq fun hl => hc (by
      rcases hl with h1 | h1
      · exact .inr h1
      · exact .inl (h1.elim (fun h1 => .inl h1.2) fun h1 => .inr (.inr (.inr (.inr h1))))), fun q hq hc => ?_⟩
    rcases hc with (h1 | h1) | h1
    · rcases hA1' q h1 hq with h2 | h2
      · exact .inl (.inl h2)
      · exact .inr h2
    · exact .inl (.inr h1)
    · rcases hlive' q h1 hq with h2 | h2
      · exact .inr h2
      · exact .inl (h2.elim (fun h2 => .inl h2.2) fun h2 => .inr (.inr (.inr (.inr h2))))
  refine ⟨fun q => Live (newη η' N ρ) (hpGet h') q ∨ A1' q ∨ w0.U q ∨ q ∈ Ms ∨ q = l, newη η' N ρ, A1', ⟨fun q => Iff.rfl, r1, fun i => RepV.step k _ _ (fun b hb => ?_) (H.tmp i), hhd, ⟨hr.fr.os.trans H.frm.os, hr.fr.tape.trans H.frm.tape, hr.fr.output.trans H.frm.output, Nat.le_trans H.frm.size hr.fr.size, fun q hq hc => ?_⟩, fun q hq hlt => hLl q (hlive' q hq (Nat.lt_of_lt_of_le hlt H.frm.size)) hlt, H.iold, fun M hM => ⟨(H.mks M hM).1, ?_⟩, fun q hq => ?_, H.idis, H.ldis, H.lnu, ?_, H.lnew, ?_, ?_, ?_⟩, ?_, ?_⟩
  · obtain ⟨h1, h2, h3⟩ := hid i b hb
    rw [hhd b h1 h3, H.hd b h1 h2]
  · exact (hsame q (Nat.lt_of_lt_of_le hq H.frm.size) fun hl => hc (hLl q hl hq)).trans (H.frm.heap q hq hc)
  · exact (hsame M (Array.getElem?_eq_some_iff.1 (H.mks M hM).2).1 (hUn M (.inr hM))).trans (H.mks M hM).2
  · have := k7 q hq
    refine ⟨fun h1 => this (.inl h1), fun h1 => this (.inr (.inl h1)), fun h1 => this (.inr (.inr (.inl h1))), fun h1 => this (.inr (.inr (.inr h1)))⟩
  · exact (k8 l lp' rfl).2
  · intro q r hq
    obtain ⟨h1, h2⟩ := H.rds q r hq
    exact ⟨h1, (hsame q (Array.getElem?_eq_some_iff.1 h2).1 (hUn q (.inl h1))).trans h2⟩
  · refine s'.g.cl _ _ _ _ _ k5 (Turns.refl _ _) fun q hq => .inl ?_
    rcases hq with h1 | h1
    · exact .inl (hlive q h1)
    · exact .inr (.inl h1)
  · have hy := H.yl
    rw [hyl] at k6 ⊢
    split
    · rename_i e
      rw [e, if_pos rfl] at hy k6
      intro q hq hlt
      exact hLl q (k6 q hq (Nat.lt_of_lt_of_le hlt H.frm.size)) hlt
    · rename_i e
      rw [if_neg e] at hy k6
      rw [k6]; exact hy
  · exact ⟨hr.fr.os, hr.fr.tape, hr.fr.output, hr.fr.size, fun q hq hc => hsame q hq fun hl => hc (hLn q hl)⟩
  · rintro q (h1 | h1 | h1)
    · by_cases hlt : q < W.heap.size
      · exact .inl (hLn q (hlive' q h1 hlt))
      · exact .inr ⟨by omega, Live.lt r1 h1⟩
    · by_cases hlt : q < W.heap.size
      · rcases hA1' q h1 hlt with h2 | h2
        · exact .inl ((H.cdef q).2 (.inr (.inl h2)))
        · exact .inl ((H.cdef q).2 (.inl h2))
      · exact .inr ⟨by omega, (r1.av q (.inl h1)).1⟩
    · exact .inl ((H.cdef q).2 (.inr (.inr h1)))

end
end Go.Proofs.Ytcijihofjcfpoab
