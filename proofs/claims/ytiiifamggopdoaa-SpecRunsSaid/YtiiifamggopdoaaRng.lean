/-
  A range over a function whose iterator keeps state of its own in memory: which blocks are whose is said by two sets: R (what the loop body lets lie for the iterator) and D (what the iterator and the statement itself have laid since the loop began). No program is named here.
-/
import Derived.Test.YtiiifamggopdoaaBase
import Derived.RangeFuncNested
import Derived.RangeFuncBound
import Derived.RangeFuncCalls
import Derived.RangeFuncLeaves
namespace Go.Proofs.Ytiiifamggopdoaa
open Go.RowKit

/-- From A to B the blocks of R lie as they lay. -/
structure Kp (R : Nat → Prop) (A B : World) : Prop where
  os : B.os = A.os
  tape : B.tape = A.tape
  output : B.output = A.output
  size : A.heap.size ≤ B.heap.size
  block : ∀ k, R k → k < A.heap.size → B.heap[k]? = A.heap[k]?

theorem Kp.refl (R : Nat → Prop) (A : World) : Kp R A A := ⟨rfl, rfl, rfl, Nat.le_refl _, fun _ _ _ => rfl⟩
theorem Kp.trans {R : Nat → Prop} {A B C : World} (h : Kp R A B) (k : Kp R B C) : Kp R A C :=
  ⟨k.os.trans h.os, k.tape.trans h.tape, k.output.trans h.output, Nat.le_trans h.size k.size, fun i hr hi => (k.block i hr (Nat.lt_of_lt_of_le hi h.size)).trans (h.block i hr hi)⟩
theorem Kp.mono {R R' : Nat → Prop} {A B : World} (h : Kp R A B) (hr : ∀ k, k < A.heap.size → R' k → R k) : Kp R' A B :=
  ⟨h.os, h.tape, h.output, h.size, fun k hk hl => h.block k (hr k hl hk) hl⟩
theorem Kp.alloc {R : Nat → Prop} {A B : World} (h : Kp R A B) (o : Obj) : Kp R A (B.alloc o) :=
  h.trans ⟨rfl, rfl, rfl, by simp, fun k _ hk => Below.heap_alloc _ _ _ hk⟩
theorem Kp.of_below {n : Nat} {A B : World} (h : Below n A B) : Kp (fun k => k < n) A B := ⟨h.os, h.tape, h.output, h.size, fun k hk _ => h.block k hk⟩
theorem Kp.below {n : Nat} {A B : World} (h : Kp (fun k => k < n) A B) (hn : n ≤ A.heap.size) : Below n A B := ⟨h.os, h.tape, h.output, h.size, fun k hk => h.block k hk (by omega)⟩
theorem Kp.all {A B : World} (h : Below A.heap.size A B) (R : Nat → Prop) : Kp R A B := ⟨h.os, h.tape, h.output, h.size, fun k _ hk => h.block k hk⟩
theorem Kp.of_grownBy {A B : World} {row : Option Nat} (h : A.grownBy B row) : Kp (fun k => some k ≠ row) A B := ⟨h.os, h.tape, h.output, h.size, fun k hr hk => h.block k hk hr⟩
theorem Kp.putObj (A : World) (l : Nat) (o : Obj) : Kp (fun k => k ≠ l) A (A.putObj l o) := (Kp.of_grownBy (grownBy_putObj' A l o)).mono fun k _ hk e => hk (by injection e)
theorem Kp.setCell (A : World) (p : Addr) (v : Value) : Kp (fun k => k ≠ p.block) A (A.setCell p v) :=
  ⟨rfl, rfl, rfl, by simp [World.setCell], fun k hk _ => Below.heap_setCell _ _ _ _ hk⟩
theorem Kp.drewN (R : Nat → Prop) (A : World) (n : Nat) : Kp R A (A.drewN n) := ⟨rfl, rfl, rfl, Nat.le_refl _, fun _ _ _ => rfl⟩
theorem Kp.drew (R : Nat → Prop) (A : World) : Kp R A A.drew := ⟨rfl, rfl, rfl, Nat.le_refl _, fun _ _ _ => rfl⟩

theorem Blk.kp {R : Nat → Prop} {A B : World} {b : Nat} {cs : Array Value} {t : TypeId} (h : Blk A b cs t) (k : Kp R A B) (hr : R b) : Blk B b cs t := (k.block b hr h.lt).trans h

/-- What a caller's invariant must abide: the turn of blocks of D, new blocks; D may grow by new ones. -/
def Abide {α : Type} (J : List α → (Nat → Prop) → World → Prop) : Prop :=
  ∀ pre D D' A B, J pre D A → Kp (fun k => ¬ D k) A B → (∀ k, D' k → D k ∨ (A.heap.size ≤ k ∧ k < B.heap.size)) → J pre D' B

theorem Blk.abide {D : Nat → Prop} {A B : World} {b : Nat} {cs : Array Value} {t : TypeId} (h : Blk A b cs t) (k : Kp (fun k => ¬ D k) A B) (hD : ¬ D b) : Blk B b cs t := h.kp k hD
theorem below_abide {n : Nat} {D : Nat → Prop} {w A B : World} (h : Below n w A) (k : Kp (fun k => ¬ D k) A B) (hn : n ≤ A.heap.size) (hD : ∀ i, D i → n ≤ i) : Below n w B :=
  h.trans ((k.mono fun i _ hi e => by have := hD i e; omega : Kp (fun i => i < n) A B).below hn)

theorem Ints.past {W W2 : World} {l : Nat} {v : Value} {xs : List Int} (h : Ints W v xs) (hl : ∃ r : Loop, W.heap[l]? = some (.loop r)) (hk : Kp (fun k => k ≠ l) W W2) : Ints W2 v xs := by
  obtain ⟨a, c, h1, h2, h3, h4⟩ := h
  refine ⟨a, c, h1, h2, h3, fun hp => ?_⟩
  obtain ⟨b, off, ha, hc⟩ := h4 hp
  refine ⟨b, off, ha, fun i x hx => ?_⟩
  have hcell := hc i x hx
  have hne : b ≠ l := by
    rintro rfl
    obtain ⟨r, hr⟩ := hl
    simp [World.cell?, hr] at hcell
  exact (World.cell?_of_block (hk.block b hne (cell_lt hcell))).trans hcell

/-- An iterator's contract: it hands over the elements of xs, in order. -/
def SeqG {α : Type} (F : Fence) (n : Nat) (P : Program) (g : Nat) (lb : Array Value) (Enc : α → Array Value → World → Prop) (xs : List α) (R : Nat → Prop) (w0 : World) : Prop :=
  ∀ (l : Nat) (J Jx : List α → (Nat → Prop) → World → Prop) (D0 : Nat → Prop) (W : World), Below w0.heap.size w0 W → (∀ k, D0 k → w0.heap.size ≤ k) → Abide J → Abide Jx →
    (∀ pre x vs D A, J pre D A → (∃ suf, xs = pre ++ x :: suf) → Enc x vs A → YieldAt F (n - 1) P l vs A fun e B =>
      Kp (fun k => R k ∨ D k) A B ∧ ((e = .returned (.bool true) ∧ J (pre ++ [x]) D B) ∨ (e = .returned (.bool false) ∧ Jx (pre ++ [x]) D B))) →
    J [] D0 W →
    CallsIn F n P g (#[.func (.yield l) #[] #[]] ++ lb) W fun e B => (∃ v, e = .returned v) ∧ ((∃ D, (∀ k, D0 k → D k) ∧ J xs D B) ∨ (∃ pre D, (∀ k, D0 k → D k) ∧ pre <+: xs ∧ Jx pre D B))

/-- How the body of a round may be left. -/
def postG {α : Type} (R : Nat → Prop) (I : List α → (Nat → Prop) → World → Prop) (Ix : Code → List α → (Nat → Prop) → World → Prop) (D : Nat → Prop) (xs : List α) (W : World) : Exit → Act → World → Prop
  | .normal, _, W' => Kp (fun k => R k ∨ D k) W W' ∧ I xs D W'
  | .ret, _, W' => Kp (fun k => R k ∨ D k) W W' ∧ Ix .ret xs D W'
  | .exit id, _, W' => Kp (fun k => R k ∨ D k) W W' ∧ Ix (.exit id) xs D W'
  | .goto t, _, W' => Kp (fun k => R k ∨ D k) W W' ∧ Ix (.goto t) xs D W'
  | .panic _, _, _ => False
  | .outgrown, _, _ => False

variable {F : Fence} {n : Nat} {P : Program}

theorem wpIn_rangeG {α : Type} {g : Operand} {ps : Array Tmp} {assign body : Code} {Q : Exit → Act → World → Prop} {a : Act} {w : World}
    (hro : F.round = none) (h1 : 1 ≤ n) {gf : Nat} {lb : Array Value} (hg : a.eval g = .func (.func gf) #[] lb) (hFg : F.fn gf) (eg : ∀ args w, (callFunc gf args).run P w = .ok (.enter gf args) w)
    {Enc : α → Array Value → World → Prop} {xs : List α} {R : Nat → Prop} (hseq : SeqG F (n - 1) P gf lb Enc xs R w) (hps : ∀ x vs W, Enc x vs W → vs.size = ps.size)
    (hR : ∀ k, R k → k < w.heap.size)
    (I : List α → (Nat → Prop) → World → Prop) (Ix : Code → List α → (Nat → Prop) → World → Prop) (hI : Abide I) (hIx : ∀ c, Abide (Ix c)) (h0 : I [] (fun _ => False) w)
    (hround : ∀ (l : Nat) (pre : List α) (x : α) (vs : Array Value) (D : Nat → Prop) (W : World), I pre D W → D l → (∃ r : Loop, W.heap[l]? = some (.loop r)) → (∃ suf, xs = pre ++ x :: suf) → Enc x vs W → ∀ K : Act → World → Prop,
      (∀ a₁ W₁, Kp (fun _ => True) W W₁ → (∀ W₂, Kp (fun k => k ≠ l) W₁ W₂ → body.wpIn (F.inRound l) (n - 1 - 1) P (postG R I Ix D (pre ++ [x]) W₂) a₁ W₂) → K a₁ W₁) →
      assign.wpIn (F.inRound l) (n - 1 - 1) P (Exit.then K (fun _ _ _ => False)) { tmps := (ps.zip vs).foldl (fun t (p, v) => t.setIfInBounds p v) a.tmps, defers := [] } W)
    (hdone : ∀ (M : Nat) (D : Nat → Prop) (W : World), w.heap.size ≤ M → D M → I xs D W → W.heap[M]? = some (.deferred (some [])) → Q .normal { a with defers := { target := .collected M, args := #[] } :: a.defers } W)
    (hstop : ∀ (M : Nat) (c : Code) (pre : List α) (D : Nat → Prop) (W : World), w.heap.size ≤ M → D M → pre <+: xs → Ix c pre D W → W.heap[M]? = some (.deferred (some [])) → c.wpIn F n P Q { a with defers := { target := .collected M, args := #[] } :: a.defers } W) :
    (Code.rangeFunc g ps assign body).wpIn F n P Q a w := by
  refine wpIn_rangeFunc ?_
  intro fn hfn
  rw [hro]
  obtain ⟨rec, hrec⟩ : ∃ rec : LoopState → Option Code → Loop, rec = fun st pe => { state := st, pending := pe, fn, tmps := a.tmps, params := ps, assign, body, defers := w.heap.size } := ⟨_, rfl⟩
  obtain ⟨W1, hW1⟩ : ∃ W1, (w.alloc (.deferred (some []))).alloc (.loop (rec .ready none)) = W1 := ⟨_, rfl⟩
  have hL1 : W1.heap[w.heap.size + 1]? = some (.loop (rec .ready none)) := by
    rw [← hW1]; have := World.alloc_heap_new (w.alloc (.deferred (some []))) (.loop (rec .ready none)); rwa [World.size_alloc] at this
  have hK1 : W1.heap[w.heap.size]? = some (.deferred (some [])) := by
    rw [← hW1]; exact (Below.heap_alloc _ _ _ (by simp)).trans (World.alloc_heap_new w _)
  have hB1 : Below w.heap.size w W1 := by
    rw [← hW1]; exact ((Below.refl _ w).alloc (Nat.le_refl _) _).alloc (by simp) _
  have hsz : W1.heap.size = w.heap.size + 2 := by rw [← hW1]; simp
  have hI1 : I [] (fun k => k = w.heap.size ∨ k = w.heap.size + 1) W1 :=
    hI _ _ _ _ _ h0 (Kp.all hB1 _) (fun k hk => .inr (by omega))
  refine ⟨w.heap.size + 1, [{ target := .collected w.heap.size, args := #[] }], W1, { target := .fn (.func gf) lb, args := #[.func (.yield (w.heap.size + 1)) #[] #[]] }, W1, gf,
    #[.func (.yield (w.heap.size + 1)) #[] #[]] ++ lb, W1, ?_, ?_, ?_, ?_, fun _ => h1, ?_⟩
  · rw [← hW1, hrec]; exact run_enterLoop_outer _ _ _ _ _
  · simp only [resolve, hg]
    simp [go_sem]
  · intro f' hf'; simp [Target.leads] at hf'; subst hf'; exact hFg
  · simp [invoke, go_sem, eg]
  · -- the two blocks of the statement's own are kept out of the iterator's set
    refine (hseq (w.heap.size + 1)
      (fun pre E W => (∃ D : Nat → Prop, (∀ k, D k ↔ E k ∨ k = w.heap.size ∨ k = w.heap.size + 1) ∧ I pre D W) ∧ ¬ E (w.heap.size) ∧ ¬ E (w.heap.size + 1) ∧ W.heap[w.heap.size + 1]? = some (.loop (rec .ready none)) ∧ W.heap[w.heap.size]? = some (.deferred (some [])))
      (fun pre E W => ∃ c, (∃ D : Nat → Prop, (∀ k, D k ↔ E k ∨ k = w.heap.size ∨ k = w.heap.size + 1) ∧ Ix c pre D W) ∧ ¬ E (w.heap.size) ∧ ¬ E (w.heap.size + 1) ∧ W.heap[w.heap.size + 1]? = some (.loop (rec .done (some c))) ∧ W.heap[w.heap.size]? = some (.deferred (some [])))
      (fun _ => False) W1 hB1 (fun k hk => hk.elim) ?_ ?_ ?_ ⟨⟨_, fun k => by simp, hI1⟩, id, id, hL1, hK1⟩).mono ?_
    · rintro pre E E' A B ⟨⟨D, hD, hi⟩, n0, n1, hl, hk⟩ hkp hE
      have l1 := (Array.getElem?_eq_some_iff.1 hl).1
      refine ⟨⟨fun k => E' k ∨ k = w.heap.size ∨ k = w.heap.size + 1, fun _ => Iff.rfl, hI _ _ _ _ _ hi (hkp.mono fun k _ hk e => hk ((hD k).2 (.inl e))) fun k hk => ?_⟩, fun e => ?_, fun e => ?_, (hkp.block _ n1 l1).trans hl, (hkp.block _ n0 (by omega)).trans hk⟩
      · rcases hk with hk | hk
        · rcases hE k hk with h | h
          · exact .inl ((hD k).2 (.inl h))
          · exact .inr h
        · exact .inl ((hD k).2 (.inr hk))
      · rcases hE _ e with h | h
        · exact n0 h
        · omega
      · rcases hE _ e with h | h
        · exact n1 h
        · omega
    · rintro pre E E' A B ⟨c, ⟨D, hD, hi⟩, n0, n1, hl, hk⟩ hkp hE
      have l1 := (Array.getElem?_eq_some_iff.1 hl).1
      refine ⟨c, ⟨fun k => E' k ∨ k = w.heap.size ∨ k = w.heap.size + 1, fun _ => Iff.rfl, hIx c _ _ _ _ _ hi (hkp.mono fun k _ hk e => hk ((hD k).2 (.inl e))) fun k hk => ?_⟩, fun e => ?_, fun e => ?_, (hkp.block _ n1 l1).trans hl, (hkp.block _ n0 (by omega)).trans hk⟩
      · rcases hk with hk | hk
        · rcases hE k hk with h | h
          · exact .inl ((hD k).2 (.inl h))
          · exact .inr h
        · exact .inl ((hD k).2 (.inr hk))
      · rcases hE _ e with h | h
        · exact n0 h
        · omega
      · rcases hE _ e with h | h
        · exact n1 h
        · omega
    · -- one round
      rintro pre x vs E W ⟨⟨D, hD, hi⟩, n0, n1, hl, hk⟩ hsuf henc
      have hlt : w.heap.size + 1 < W.heap.size := (Array.getElem?_eq_some_iff.1 hl).1
      have hDl : D (w.heap.size + 1) := (hD _).2 (.inr (.inr rfl))
      have hDk : D (w.heap.size) := (hD _).2 (.inr (.inl rfl))
      have hy := run_yield (P := P) (args := vs) hl (by rw [hrec]; exact hps x vs W henc)
      rw [hrec] at hy
      refine ⟨fn, _, assign, body, hy, roundIn_of_wpIn hfn (hround _ pre x vs D W hi hDl ⟨_, hl⟩ hsuf henc _ ?_)⟩
      intro a₁ W₁ hk1 hbody
      have hl1 : W₁.heap[w.heap.size + 1]? = some (.loop (rec .ready none)) := (hk1.block _ trivial hlt).trans hl
      have hkk1 : W₁.heap[w.heap.size]? = some (.deferred (some [])) := (hk1.block _ trivial (by omega)).trans hk
      have hlt1 : w.heap.size + 1 < W₁.heap.size := (Array.getElem?_eq_some_iff.1 hl1).1
      refine ⟨_, run_beginRound hl1 (by rw [hrec]), ?_⟩
      have hp := Kp.putObj W₁ (w.heap.size + 1) (.loop { rec .ready none with state := .busy })
      refine wpIn_mono (hbody _ hp) ?_
      have hl2 : (W₁.putObj (w.heap.size + 1) (.loop { rec .ready none with state := .busy })).heap[w.heap.size + 1]? = some (.loop { rec .ready none with state := .busy }) := World.putObj_heap_same hlt1
      have hkk2 : (W₁.putObj (w.heap.size + 1) (.loop { rec .ready none with state := .busy })).heap[w.heap.size]? = some (.deferred (some [])) := (World.putObj_heap_other (by omega)).trans hkk1
      have fin : ∀ (jump : Option Code) (W3 : World), Kp (fun k => R k ∨ D k) (W₁.putObj (w.heap.size + 1) (.loop { rec .ready none with state := .busy })) W3 →
          (Instr.endRound (w.heap.size + 1) jump).run P W3 = .ok (.bool jump.isNone) (W3.putObj (w.heap.size + 1) (.loop (rec (if jump.isNone then .ready else .done) jump))) ∧
          (W3.putObj (w.heap.size + 1) (.loop (rec (if jump.isNone then .ready else .done) jump))).heap[w.heap.size + 1]? = some (.loop (rec (if jump.isNone then .ready else .done) jump)) ∧
          (W3.putObj (w.heap.size + 1) (.loop (rec (if jump.isNone then .ready else .done) jump))).heap[w.heap.size]? = some (.deferred (some [])) ∧
          Kp (fun k => R k ∨ E k) W (W3.putObj (w.heap.size + 1) (.loop (rec (if jump.isNone then .ready else .done) jump))) ∧
          Kp (fun k => ¬ D k) W3 (W3.putObj (w.heap.size + 1) (.loop (rec (if jump.isNone then .ready else .done) jump))) := fun jump W3 hk3 => by
        have hl3 := (hk3.block _ (.inr hDl) (Array.getElem?_eq_some_iff.1 hl2).1).trans hl2
        have hkk3 := (hk3.block _ (.inr hDk) (Array.getElem?_eq_some_iff.1 hkk2).1).trans hkk2
        have hr := run_endRound (P := P) jump hl3
        rw [hrec] at hr ⊢
        have hq := Kp.putObj W3 (w.heap.size + 1) (.loop (rec (if jump.isNone then .ready else .done) jump))
        rw [hrec] at hq
        have side : ∀ k, R k ∨ E k → k ≠ w.heap.size + 1 := fun k hk e => by
          subst e
          rcases hk with hk | hk
          · have := hR _ hk; omega
          · exact n1 hk
        refine ⟨hr, World.putObj_heap_same (Array.getElem?_eq_some_iff.1 hl3).1, (World.putObj_heap_other (by omega)).trans hkk3, ?_, hq.mono fun k _ hk e => hk (by subst e; exact hDl)⟩
        refine (((hk1.mono fun _ _ _ => trivial).trans (hp.mono fun k _ hk => side k hk)).trans ?_).trans (hq.mono fun k _ hk => side k hk)
        exact hk3.mono fun k _ hk => hk.imp id fun h => (hD k).2 (.inl h)
      rintro e a3 W3 hpost
      cases e with
      | normal =>
        obtain ⟨hk3, hi3⟩ := hpost
        obtain ⟨hr, hl4, hk4, hkp, hnd⟩ := fin none W3 hk3
        exact ⟨_, _, hr, hkp, .inl ⟨rfl, ⟨D, hD, hI _ _ _ _ _ hi3 hnd fun k h => .inl h⟩, n0, n1, hl4, hk4⟩⟩
      | ret =>
        obtain ⟨hk3, hi3⟩ := hpost
        obtain ⟨hr, hl4, hk4, hkp, hnd⟩ := fin (some .ret) W3 hk3
        exact ⟨_, _, hr, hkp, .inr ⟨rfl, .ret, ⟨D, hD, hIx _ _ _ _ _ _ hi3 hnd fun k h => .inl h⟩, n0, n1, hl4, hk4⟩⟩
      | exit id =>
        obtain ⟨hk3, hi3⟩ := hpost
        obtain ⟨hr, hl4, hk4, hkp, hnd⟩ := fin (some (.exit id)) W3 hk3
        exact ⟨_, _, hr, hkp, .inr ⟨rfl, .exit id, ⟨D, hD, hIx _ _ _ _ _ _ hi3 hnd fun k h => .inl h⟩, n0, n1, hl4, hk4⟩⟩
      | goto t =>
        obtain ⟨hk3, hi3⟩ := hpost
        obtain ⟨hr, hl4, hk4, hkp, hnd⟩ := fin (some (.goto t)) W3 hk3
        exact ⟨_, _, hr, hkp, .inr ⟨rfl, .goto t, ⟨D, hD, hIx _ _ _ _ _ _ hi3 hnd fun k h => .inl h⟩, n0, n1, hl4, hk4⟩⟩
      | panic ch => exact hpost.elim
      | outgrown => exact hpost.elim
    · -- behind the iterator
      rintro e W2 ⟨⟨v, rfl⟩, (⟨E, _, ⟨D, hD, hi⟩, n0, n1, hl, hk⟩ | ⟨pre, E, _, hpre, c, ⟨D, hD, hi⟩, n0, n1, hl, hk⟩)⟩
      · have hDl : D (w.heap.size + 1) := (hD _).2 (.inr (.inr rfl))
        have hDk : D (w.heap.size) := (hD _).2 (.inr (.inl rfl))
        refine ⟨none, _, by have := run_endLoop (P := P) hl (by rw [hrec]; simp); rw [hrec] at this; exact this, hdone _ D _ (Nat.le_refl _) hDk (hI _ _ _ _ _ hi ((Kp.putObj _ _ _).mono fun k _ hk e => hk (by subst e; exact hDl)) fun k h => .inl h) ((World.putObj_heap_other (by omega)).trans hk)⟩
      · have hDl : D (w.heap.size + 1) := (hD _).2 (.inr (.inr rfl))
        have hDk : D (w.heap.size) := (hD _).2 (.inr (.inl rfl))
        refine ⟨some c, _, by have := run_endLoop (P := P) hl (by rw [hrec]; simp); rw [hrec] at this; exact this, hstop _ c pre D _ (Nat.le_refl _) hDk hpre (hIx c _ _ _ _ _ hi ((Kp.putObj _ _ _).mono fun k _ hk e => hk (by subst e; exact hDl)) fun k h => .inl h) ((World.putObj_heap_other (by omega)).trans hk)⟩
end Go.Proofs.Ytiiifamggopdoaa
