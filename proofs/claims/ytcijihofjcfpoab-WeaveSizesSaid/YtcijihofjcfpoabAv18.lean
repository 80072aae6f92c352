/-
  The abstract machine, 18: iterators: calls of yield, contracts of iterators. No program is named here.
-/
import Derived.Test.YtcijihofjcfpoabAv17
import Derived.RangeFuncNested
import Derived.RangeFuncBound
import Derived.RangeFuncCalls
namespace Go.Proofs.Ytcijihofjcfpoab
open Go.RowKit

set_option linter.constructorNameAsVariable false

section
variable {P : Program} {T : Tab} {n : Nat} {ds : List Deferred} {A0 L0 : Nat → Prop} {w0 : Old} {η : Nat → Value} {s : ASt} {a : Act} {w : World}

/-- Rows come to rest, and values are data then. -/
theorem Rel.restD (h : Rel n ds A0 L0 w0 η s a w) (D : List Nat) :
    Rel n ds A0 L0 w0 η (s.app none { v := .un, hp := rest s.H D }) a w ∧ ∀ (xs ys : List AVal) (vs : List Value), LeL s.H D [] (look []) xs ys → RepVs η w (Av A0 η s.H) xs vs → RepVs η w (Av A0 η (s.app none { v := .un, hp := rest s.H D }).H) ys vs := by
  have h1 := h.resting (d := none) (fun i hi => by cases hi) (v := .un) (u := undef) (ids := D) (w' := w) (Below.refl _ _) (fun _ _ => by unfold RepV; trivial)
  refine ⟨h1, fun xs ys vs hl hv => ?_⟩
  have hN : ∀ b B g, hpGet (rest s.H D) b = some B → B.mut = true → hblk (η b) = some g → (∃ b0 B0, s.H b0 = some B0 ∧ B0.mut = true ∧ hblk (η b0) = some g ∧ (b0 = b ∨ (b = 0 ∧ ([] : List Nat).contains b0 = true))) ∨ (w.heap.size ≤ g ∧ b = 0) := by
    intro b B g hb hm hg
    obtain ⟨_, _, _, _, e9, _⟩ := hpGet_rest _ _ _ _ hb
    subst e9
    cases hm
  have hlv := app_live (s := s) (η := η) (η' := η) (w := w) (d := none) (e := { v := .un, hp := rest s.H D }) (fun _ _ => rfl) hN
  have k : Keeps (Av A0 η s.H) (Av A0 η (s.app none { v := .un, hp := rest s.H D }).H) w w := ⟨Nat.le_refl _, fun _ _ _ => rfl, fun g hg hc => hc.imp id fun ⟨b, B, h1, h2, h3⟩ => by
    rcases hlv b B g h1 h2 h3 with ⟨b0, B0, j1, j2, j3, _⟩ | ⟨j1, _⟩
    · exact ⟨b0, B0, j1, j2, j3⟩
    · omega⟩
  refine LeL.rep k (fun c hc => by simp at hc) (fun c _ => rfl) (fun b t zs hb => ?_) xs ys vs hl hv
  have key : ∀ e, s.H b = some (.arr e t zs) ∨ s.H b = some (.imm t zs) → b ∈ D ∨ s.H b = some (.imm t zs) → ∃ a' c', η b = .slice a' zs.length c' ∧ SlBody w.heap.size (Av A0 η (s.app none { v := .un, hp := rest s.H D }).H) t.size (fun y p z => RepAt w (Av A0 η (s.app none { v := .un, hp := rest s.H D }).H) t y p z) zs a' c' := by
    intro e hbb hD
    refine rested h.hp hbb k fun g hba hg => ⟨rfl, ?_⟩
    have hbD : b ∈ D := by
      rcases hD with hD | hD
      · exact hD
      · rw [hba] at hD; cases hD
    refine notLive_of (nid := 0) h.hp hlv hba ?_ rfl hg
    simp only [ASt.app, rest_get _ _ _ hbD hba]
  rcases hb with ⟨⟨e, hb⟩, hD⟩ | hb
  · exact key e (.inl hb) (.inl (by simpa using hD))
  · exact key 0 (.inr hb) (.inr hb)

/-- Others have turned their blocks. -/
theorem Rel.turned (h : Rel n ds A0 L0 w0 η s a w) {A1 A1' : Nat → Prop} {Ms : List Nat} (hA : ∀ g, A0 g ↔ A1 g ∨ w0.U g ∨ g ∈ Ms) (hd : a.defers = Ms.map mark ++ ds) (hn : Ms.Nodup) (hM : ∀ M ∈ Ms, w0.heap.size ≤ M ∧ ¬ A1 M ∧ w.heap[M]? = some (.deferred (some [])))
    (hU : ∀ g, A1 g → ¬ w0.U g) (hR : Rounds w0 w) (hL : ∀ g, A1 g → g < w0.heap.size → L0 g) {w' : World} (ht : Turns A1 w w') (hA' : ∀ g, A1' g → A1 g ∨ (w.heap.size ≤ g ∧ g < w'.heap.size)) {G : Gh} (hG : G.yl = true) (hJ : G.J A1' (fun g => Live η s.H g ∨ w0.U g ∨ g ∈ Ms) w') :
    Rel n ds (fun g => A1' g ∨ w0.U g ∨ g ∈ Ms) L0 w0 η { s with g := G } a w' := by
  have k : Keeps (Av A0 η s.H) (Av (fun g => A1' g ∨ w0.U g ∨ g ∈ Ms) η s.H) w w' := by
    refine ⟨ht.size, fun g hg hn => ht.heap g hg fun hc => hn (.inl ((hA g).2 (.inl hc))), fun g hg hc => ?_⟩
    rcases hc with (hc | hc) | hc
    · rcases hA' g hc with h1 | h1
      · exact .inl ((hA g).2 (.inl h1))
      · omega
    · exact .inl ((hA g).2 (.inr hc))
    · exact .inr hc
  have hlive : ∀ g, Live η s.H g → ¬ A1 g := fun g hg hc => (h.hp.av g ((hA g).2 (.inl hc))).2 hg
  refine ⟨h.size, h.few, h.hd, fun i => RepV.step k _ _ (fun _ _ => rfl) (h.tmp i), ⟨fun b B hb => ?_, h.hp.inj, fun g hg => ?_⟩, ⟨ht.os.trans h.fr.os, ht.tape.trans h.fr.tape, ht.output.trans h.fr.output, Nat.le_trans h.fr.size ht.size, fun g hg hn => ?_⟩, h.old, ⟨A1', Ms, hd, hn, fun M hMm => ?_, fun g hg hu => ?_, ?_, fun _ => Iff.rfl, hJ, ?_⟩⟩
  · have := RelBlk.step (K := []) (η' := η) (η := η) k (fun _ _ => rfl) (fun g hm hg => ht.heap g (Live.lt h.hp ⟨b, B, hb, hm, hg⟩) (hlive g ⟨b, B, hb, hm, hg⟩)) (h.hp.blk b B hb)
    rwa [bclean_nil] at this
  · rcases hg with hg | hg
    · rcases hA' g hg with h1 | h1
      · have := h.hp.av g ((hA g).2 (.inl h1)); exact ⟨Nat.lt_of_lt_of_le this.1 ht.size, this.2⟩
      · exact ⟨h1.2, fun hl => by have := Live.lt h.hp hl; omega⟩
    · have := h.hp.av g ((hA g).2 (.inr hg)); exact ⟨Nat.lt_of_lt_of_le this.1 ht.size, this.2⟩
  · exact (ht.heap g (Nat.lt_of_lt_of_le hg h.fr.size) fun hc => hn (hL g hc hg)).trans (h.fr.heap g hg hn)
  · obtain ⟨m1, m2, m3⟩ := hM M hMm
    have hlt := (Array.getElem?_eq_some_iff.1 m3).1
    refine ⟨m1, fun hc => ?_, (ht.heap M hlt m2).trans m3⟩
    rcases hA' M hc with h1 | h1
    · exact m2 h1
    · omega
  · rcases hA' g hg with h1 | h1
    · exact hU g h1 hu
    · have := (h.hp.av g ((hA g).2 (.inr (.inl hu)))).1; omega
  · intro q r hq
    obtain ⟨h1, h2⟩ := hR q r hq
    exact ⟨h1, (ht.heap q (Array.getElem?_eq_some_iff.1 h2).1 fun hc => hU q hc h1).trans h2⟩
  · rw [show ({ s with g := G } : ASt).g = G from rfl, hG, if_pos rfl]
    intro g hg hlt
    rcases hA' g hg with h1 | h1
    · exact hL g h1 hlt
    · have := h.fr.size; omega

end

/-! ### Yield -/
section
variable {S R Y : Type} {P : Program}

/-- What a round of the loop does to what others know. -/
def YieldOK (P : Program) (l : Nat) (enc : Y → List AVal) (body : Y → S → Option (Step S R)) (Γ : S → Gh) (Γx : R → Gh) : Prop :=
  ∀ (y : Y) (st : S) (x : Step S R), body y st = some x → ∀ (η : Nat → Value) (A I : Nat → Prop) (w : World) (us : Array Value), (Γ st).J A I w → (∀ g, A g → g < w.heap.size ∧ ¬ I g) → (∀ g, I g → g < w.heap.size) → RepVs η w (fun g => A g ∨ I g) (enc y) us.toList →
    YieldAt Fence.wide 0 P l us w fun e w' => Turns A w w' ∧ ∃ A' : Nat → Prop, (∀ g, A' g → A g ∨ (w.heap.size ≤ g ∧ g < w'.heap.size)) ∧
      match x with
      | .next st' => e = .returned (.bool true) ∧ (Γ st').J A' I w'
      | .done r => e = .returned (.bool false) ∧ (Γx r).J A' I w'

theorem roundIn_fen {ro : Option Nat} {m k : Nat} {l : Nat} {f : FuncId} {tmps : Array Value} {assign body : Code} {w : World} {Q : Ending → World → Prop} (h : RoundIn Fence.wide m P l f tmps assign body w Q) : RoundIn (fen ro) k P l f tmps assign body w Q :=
  ⟨trivial, fun c cs _ => h.2 c cs (room_wide _)⟩

theorem callsIn_fen {ro : Option Nat} {m k : Nat} {f : FuncId} {args : Array Value} {w : World} {Q : Ending → World → Prop} (h : CallsIn Fence.wide m P f args w Q) : CallsIn (fen ro) k P f args w Q :=
  ⟨trivial, fun cs _ => h.2 cs (room_wide _)⟩

variable {n : Nat} {ro : Option Nat} {Q : Exit → ASt → Prop} {σ : Nat → AVal} {H : AHeap} {o : Oper} {ops rs : List Oper} {c : Call} {f : Operand} {enc : Y → List AVal} {body : Y → S → Option (Step S R)} {Γ : S → Gh} {Γx : R → Gh} {lp : Nat}

theorem RepVs.sub {η : Nat → Value} {w : World} {A A' : Nat → Prop} (h : ∀ g, A' g → A g) {l : List AVal} {vs : List Value} (hr : RepVs η w A l vs) : RepVs η w A' l vs :=
  RepVs.step ⟨Nat.le_refl _, fun _ _ _ => rfl, fun g _ hg => h g hg⟩ l vs (fun _ _ => rfl) hr

theorem yield_op (ho : o.op = .call c) (hc : c.callee = .value f) (hg : o.guard = none) (hd : dstOK n [o] = true) (st : S) (hf : (ASt.mk σ H (Γ st)).ev f = .fn (.yield lp) [] []) (hY : YieldOK P lp enc body Γ Γx) (hΓ : ∀ st, (Γ st).yl = true) (hΓx : ∀ r, (Γx r).yl = true)
    (y : Y) (D : List Nat) (hle : LeL H D [] (look []) (c.args.toList.map (ASt.mk σ H (Γ st)).ev) (enc y)) {x : Step S R} (hx : body y st = some x)
    (h2 : match (generalizing := false) x with
      | .next st' => AO P ro n ops rs Q (((ASt.mk σ H (Γ st')).app none { v := .un, hp := rest H D }).app o.dst { v := .bool true })
      | .done r => AO P ro n ops rs Q (((ASt.mk σ H (Γx r)).app none { v := .un, hp := rest H D }).app o.dst { v := .bool false })) : AO P ro n ops (o :: rs) Q ⟨σ, H, Γ st⟩ := by
  intro m ds A0 L0 w0 η a w hq0 hr
  unfold wpListIn
  have hwant : Region.wanted o (yielded ops.toArray a.tmps) = true := by simp [Region.wanted, hg]
  rw [if_pos hwant]
  obtain ⟨hr1, hargs⟩ := hr.restD D
  have hdo : ∀ i, o.dst = some i → i < n := fun i hi => by
    unfold dstOK at hd
    simp only [List.all_cons, List.all_nil, Bool.and_true] at hd
    rw [hi] at hd; simpa using hd
  have hfv : a.eval f = .func (.yield lp) #[] #[] := by
    have := hr.ev f
    rw [hf] at this
    unfold RepV at this
    obtain ⟨ps, cs, e, h1, h2⟩ := this
    unfold RepVs at h1 h2
    rw [e]
    rw [Array.toList_eq_nil_iff.1 h1, Array.toList_eq_nil_iff.1 h2]
  have hvs : RepVs η w (Av A0 η ((ASt.mk σ H (Γ st)).app none { v := .un, hp := rest H D }).H) (enc y) (c.args.map a.eval).toList := by
    refine hargs _ _ _ hle ?_
    rw [Array.toList_map]
    exact evs hr _
  have hexe : (execOp a.eval o).run P w = (Instr.yield lp (c.args.map a.eval)).run P w := by
    simp [execOp, ho, resolve, hc, hfv, invoke, Deferred.ofValue]
  refine ⟨fun f _ => fen_fn ro f, ?_⟩
  rw [Oper.semAt_eq _ _ _ (by simp [ho]), hexe]
  obtain ⟨A1, Ms, k1, k2, k3, k7, k8, k4, k5, k6⟩ := hr1.gh
  have hyl : ((ASt.mk σ H (Γ st)).app none { v := .un, hp := rest H D }).g = Γ st := rfl
  rw [hyl] at k5 k6
  rw [hΓ st, if_pos rfl] at k6
  obtain ⟨fn, tmps, assign, bd, hy, hround⟩ := hY y st x hx η A1 _ w (c.args.map a.eval) k5 (fun g hg => by
      have := hr1.hp.av g ((k4 g).2 (.inl hg))
      refine ⟨this.1, fun hc => ?_⟩
      rcases hc with hc | hc | hc
      · exact this.2 hc
      · exact k7 g hg hc
      · exact (k3 g hc).2.1 hg) (fun g hg => by
      rcases hg with hg | hg
      · exact Live.lt hr1.hp hg
      · exact (hr1.hp.av g ((k4 g).2 (.inr hg))).1) (RepVs.sub (fun g hg => by
      rcases hg with hg | hg | hg
      · exact .inl ((k4 g).2 (.inl hg))
      · exact .inr hg
      · exact .inl ((k4 g).2 (.inr hg))) hvs)
  rw [hy]
  refine ⟨fen_depth ro _, RoundIn.mono (roundIn_fen hround) ?_⟩
  rintro e w' ⟨ht, A', hA', hm⟩
  cases x with
  | next st' =>
    obtain ⟨rfl, hJ⟩ := hm
    have hr2 := hr1.turned k4 k1 k2 k3 k7 k8 k6 ht hA' (hΓ st') hJ
    exact h2 m ds _ L0 w0 η _ w' hq0 (hr2.pure (v := .bool true) (u := .bool true) hdo (by unfold RepV; rfl))
  | done r =>
    obtain ⟨rfl, hJ⟩ := hm
    have hr2 := hr1.turned k4 k1 k2 k3 k7 k8 k6 ht hA' (hΓx r) hJ
    exact h2 m ds _ L0 w0 η _ w' hq0 (hr2.pure (v := .bool false) (u := .bool false) hdo (by unfold RepV; rfl))

end
end Go.Proofs.Ytcijihofjcfpoab
