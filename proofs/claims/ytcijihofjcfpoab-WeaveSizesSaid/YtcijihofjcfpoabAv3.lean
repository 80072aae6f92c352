/-
  The abstract machine, 3: how its states stand to frames and worlds; one effect. No program is named here.
-/
import Derived.Test.YtcijihofjcfpoabAv2
namespace Go.Proofs.Ytcijihofjcfpoab
open Go.RowKit

set_option linter.constructorNameAsVariable false

theorem Fr.below {w0 w : World} (h : Fr (fun _ => False) w0 w) : Below w0.heap.size w0 w := ⟨h.os, h.tape, h.output, h.size, fun k hk => h.heap k hk (fun x => x)⟩
theorem Fr.refl (L0 : Nat → Prop) (w : World) : Fr L0 w w := ⟨rfl, rfl, rfl, Nat.le_refl _, fun _ _ _ => rfl⟩

/-- The world at the beginning, and the handles of the blocks that were handed in then: their names are 1000 to 1999. -/
structure Old extends World where
  ηh : Nat → Value
  A : Nat → Prop := fun _ => False
  U : Nat → Prop := fun _ => False
  rd : Option (Nat × Loop) := none

/-- The loop in a round of which the run stands. -/
def Rounds (w0 : Old) (w : World) : Prop := ∀ q r, w0.rd = some (q, r) → w0.U q ∧ w.heap[q]? = some (.loop r)

def mark (M : Nat) : Deferred := { target := .collected M, args := #[] }

/-- What others know is so, and the marks that ranges over functions have left. A1: the others' blocks; U: those of iterators that wait. -/
def Knows (w0 : Old) (ds dfs : List Deferred) (A0 L0 : Nat → Prop) (η : Nat → Value) (s : ASt) (w : World) : Prop :=
  ∃ (A1 : Nat → Prop) (Ms : List Nat), dfs = Ms.map mark ++ ds ∧ Ms.Nodup ∧ (∀ M ∈ Ms, w0.heap.size ≤ M ∧ ¬ A1 M ∧ w.heap[M]? = some (.deferred (some []))) ∧
    (∀ g, A1 g → ¬ w0.U g) ∧ Rounds w0 w ∧ (∀ g, A0 g ↔ A1 g ∨ w0.U g ∨ g ∈ Ms) ∧ s.g.J A1 (fun g => Live η s.H g ∨ w0.U g ∨ g ∈ Ms) w ∧ (if s.g.yl = true then ∀ g, A1 g → g < w0.heap.size → L0 g else A1 = w0.A)

structure Rel (n : Nat) (ds : List Deferred) (A0 L0 : Nat → Prop) (w0 : Old) (η : Nat → Value) (s : ASt) (a : Act) (w : World) : Prop where
  size : a.tmps.size = n
  few : n ≤ 1000
  hd : ∀ b, handed b → (s.H b).isSome = true → η b = w0.ηh b
  tmp : ∀ i, RepV η w (Av A0 η s.H) (s.σ i) (a.tmps.getD i undef)
  hp : RelH A0 η s.H w
  fr : Fr L0 w0.toWorld w
  old : ∀ g, Live η s.H g → g < w0.heap.size → L0 g
  gh : Knows w0 ds a.defers A0 L0 η s w

theorem Live.cells {A0 : Nat → Prop} {η : Nat → Value} {H : AHeap} {w : World} (h : RelH A0 η H w) {g : Nat} (hg : Live η H g) : (∀ d, w.heap[g]? ≠ some (.deferred d)) ∧ ∀ r, w.heap[g]? ≠ some (.loop r) := by
  obtain ⟨b, B, hb, hm, he⟩ := hg
  have := h.blk b B hb
  cases B with
  | box ty cs =>
    obtain ⟨g', vs, e1, e2, _⟩ := this
    rw [e1] at he
    injection he with he
    subst he
    exact ⟨(fun d hc => by rw [hc] at e2; cases e2), (fun d hc => by rw [hc] at e2; cases e2)⟩
  | arr e t xs =>
    rcases this with ⟨_, e1⟩ | ⟨g', cap, cur, e1, e2, _⟩
    · rw [e1] at he; cases he
    · rw [e1] at he
      injection he with he
      subst he
      exact ⟨(fun d hc => by rw [hc] at e2; cases e2), (fun d hc => by rw [hc] at e2; cases e2)⟩
  | imm t xs => cases hm
  | map ak ae kt vt xs =>
    obtain ⟨g', es, c, e1, e2, _⟩ := this
    rw [e1] at he
    injection he with he
    subst he
    exact ⟨(fun d hc => by rw [hc] at e2; cases e2), (fun d hc => by rw [hc] at e2; cases e2)⟩

theorem rounds_step {w0 : Old} {w w' : World} (h : Rounds w0 w) (hk : ∀ q : Nat, (∃ r, w.heap[q]? = some (.loop r)) → w'.heap[q]? = w.heap[q]?) : Rounds w0 w' := fun q r hq => by
  obtain ⟨h1, h2⟩ := h q r hq
  refine ⟨h1, ?_⟩
  rw [hk q ⟨r, h2⟩]; exact h2

theorem knows_step {w0 : Old} {ds dfs : List Deferred} {A0 L0 : Nat → Prop} {η η' : Nat → Value} {s s' : ASt} {w w' : World} (h : Knows w0 ds dfs A0 L0 η s w) (hp : RelH A0 η s.H w) (hs : s'.g = s.g) (ht : Turns (fun g => Live η s.H g) w w')
    (hl : ∀ g, Live η' s'.H g → Live η s.H g ∨ (w.heap.size ≤ g ∧ g < w'.heap.size)) : Knows w0 ds dfs A0 L0 η' s' w' := by
  obtain ⟨A1, Ms, h1, h2, h3, h7, h8, h4, h5, h6⟩ := h
  refine ⟨A1, Ms, h1, h2, fun M hM => ⟨(h3 M hM).1, (h3 M hM).2.1, ?_⟩, h7, rounds_step h8 fun q hq => ?_, h4, ?_, by rw [hs]; exact h6⟩
  · rw [ht.heap M (Array.getElem?_eq_some_iff.1 (h3 M hM).2.2).1 (fun hl => (Live.cells hp hl).1 _ (h3 M hM).2.2)]
    exact (h3 M hM).2.2
  · obtain ⟨r, hq⟩ := hq
    exact ht.heap q (Array.getElem?_eq_some_iff.1 hq).1 fun hl => (Live.cells hp hl).2 _ hq
  · rw [hs]
    refine s.g.cl _ _ _ _ _ h5 (ht.mono fun g _ hg => .inl hg) fun g hg => ?_
    rcases hg with hg | hg
    · rcases hl g hg with hg | hg
      · exact .inl (.inl hg)
      · exact .inr hg
    · exact .inl (.inr hg)

theorem ofConst_rep (η : Nat → Value) (w : World) (A : Nat → Prop) (v : Value) : RepV η w A (ofConst v) v := by
  cases v <;> simp [ofConst, RepV]

theorem Rel.ev {n : Nat} {ds : List Deferred} {A0 L0 : Nat → Prop} {w0 : Old} {η : Nat → Value} {s : ASt} {a : Act} {w : World} (h : Rel n ds A0 L0 w0 η s a w) (x : Operand) :
    RepV η w (Av A0 η s.H) (s.ev x) (a.eval x) := by
  cases x with
  | tmp t => exact h.tmp t
  | const v => exact ofConst_rep _ _ _ v
  | global g => simp [ASt.ev, Act.eval, RepV]
  | func f => simp [ASt.ev, Act.eval, RepV, RepVs]

theorem RepV.clean {η η' : Nat → Value} {A A' : Nat → Prop} {w w' : World} {K : List Nat} (k : Keeps A A' w w') (hη : ∀ b, K.contains b = false → η' b = η b) (x : AVal) (v : Value) (h : RepV η w A x v) :
    RepV η' w' A' (x.clean K) v := by
  unfold AVal.clean
  split
  · unfold RepV; trivial
  · rename_i hK
    refine RepV.step k x v (fun b hb => hη b ?_) h
    cases hc : K.contains b with
    | false => rfl
    | true => exact absurd (List.any_eq_true.2 ⟨b, by simpa using hc, hb⟩) hK

theorem RepVs.clean {η η' : Nat → Value} {A A' : Nat → Prop} {w w' : World} {K : List Nat} (k : Keeps A A' w w') (hη : ∀ b, K.contains b = false → η' b = η b) : ∀ (l : List AVal) (vs : List Value), RepVs η w A l vs →
    RepVs η' w' A' (l.map (AVal.clean K)) vs
  | [], vs, h => by unfold RepVs at *; exact h
  | x :: l, vs, h => by
    rw [List.map_cons]
    unfold RepVs at *
    obtain ⟨u, us, hv, hx, hl⟩ := h
    exact ⟨u, us, hv, RepV.clean k hη x u hx, RepVs.clean k hη l us hl⟩

theorem map_clean (K : List Nat) (ak ae : Bool) (kt vt : Ty) (xs : List (El kt × El vt)) : ABlk.clean K (.map ak ae kt vt xs) = .map ak ae kt vt xs := rfl

theorem ABlk.mut_clean (K : List Nat) (B : ABlk) : (B.clean K).mut = B.mut := by cases B <;> rfl

theorem RelBlk.step {η η' : Nat → Value} {A A' : Nat → Prop} {w w' : World} {K : List Nat} (k : Keeps A A' w w') (hη : ∀ b, K.contains b = false → η' b = η b) {B : ABlk} {h : Value}
    (hg : ∀ g, B.mut = true → hblk h = some g → w'.heap[g]? = w.heap[g]?) (hr : RelBlk η w A B h) : RelBlk η' w' A' (B.clean K) h := by
  cases B with
  | box ty cs =>
    obtain ⟨g, vs, e, hw, hc⟩ := hr
    exact ⟨g, vs, e, (hg g rfl (by rw [e]; rfl)).trans hw, RepVs.clean k hη cs _ hc⟩
  | arr e t xs =>
    rcases hr with hn | ⟨g, cap, cur, e1, hw, h1, h2, h3, h4⟩
    · exact .inl hn
    · have hs := hg g rfl (by rw [e1]; rfl)
      exact .inr ⟨g, cap, cur, e1, hs.trans hw, h1, h2, h3, fun i x hi => RepAt.step k t x g _ hs (h4 i x hi)⟩
  | imm t xs =>
    obtain ⟨a, c, e, hs⟩ := hr
    exact ⟨a, c, e, hs.step k.size k.av fun x b' o' hb' hn hx => RepAt.step k t x b' o' (k.heap b' hb' hn) hx⟩
  | map ak ae kt vt xs =>
    obtain ⟨g, es, c, e, hw, hm⟩ := hr
    exact ⟨g, es, c, e, (hg g rfl (by rw [e]; rfl)).trans hw, hm⟩

theorem put_size (a : Act) (d : Option Nat) (v : Value) : (a.put d v).tmps.size = a.tmps.size := by cases d <;> simp [Act.put]
theorem put_defers (a : Act) (d : Option Nat) (v : Value) : (a.put d v).defers = a.defers := by cases d <;> rfl

theorem put_getD (a : Act) (d : Option Nat) (v : Value) (i : Nat) : (a.put d v).tmps.getD i undef = if d = some i ∧ i < a.tmps.size then v else a.tmps.getD i undef := by
  cases d with
  | none => simp [Act.put]
  | some d =>
    simp only [Act.put, Array.getD_eq_getD_getElem?, Option.some.injEq]
    by_cases hd : d = i
    · subst hd
      by_cases hlt : d < a.tmps.size
      · simp [hlt]
      · simp [hlt]
    · simp [hd]

theorem clean_nil (x : AVal) : x.clean [] = x := by simp [AVal.clean]
theorem bclean_nil (B : ABlk) : B.clean [] = B := by
  cases B with
  | box ty cs => simp only [ABlk.clean]; congr 1; rw [show AVal.clean [] = id from funext clean_nil]; simp
  | arr => rfl
  | imm => rfl
  | map => rfl

section
variable {n : Nat} {ds : List Deferred} {A0 L0 : Nat → Prop} {w0 : Old} {η : Nat → Value} {s : ASt} {a : Act} {w : World}

/-- What an effect has to keep, and then it does. N: the names that it gives. -/
theorem Rel.effN (h : Rel n ds A0 L0 w0 η s a w) {e : Eff} {d : Option Nat} {w' : World} {η' : Nat → Value} {u : Value} (N : Nat → Prop)
    (hd : ∀ i, d = some i → i < n)
    (hη : ∀ b, e.kill.contains b = false → η' b = η b)
    (hos : w'.os = w.os ∧ w'.tape = w.tape ∧ w'.output = w.output) (hsz : w.heap.size ≤ w'.heap.size)
    (hW : ∀ g, g < w.heap.size → w'.heap[g]? = w.heap[g]? ∨ ∃ b B, s.H b = some B ∧ B.mut = true ∧ hblk (η b) = some g ∧ ((hpGet e.hp b).isSome = true ∨ e.kill.contains b = true))
    (hN : ∀ b B g, hpGet e.hp b = some B → B.mut = true → hblk (η' b) = some g → (∃ b0 B0, s.H b0 = some B0 ∧ B0.mut = true ∧ hblk (η b0) = some g ∧ (b0 = b ∨ (N b ∧ e.kill.contains b0 = true))) ∨ (w.heap.size ≤ g ∧ N b))
    (hI : ∀ b b' B B' g, N b → N b' → hpGet e.hp b = some B → hpGet e.hp b' = some B' → B.mut = true → B'.mut = true → hblk (η' b) = some g → hblk (η' b') = some g → b = b')
    (hK : ∀ b, e.kill.contains b = true → (hpGet e.hp b).isSome = true → N b)
    (hN1 : ∀ b, N b → ¬ handed b)
    (hhn : ∀ b, handed b → (hpGet e.hp b).isSome = true → e.kill.contains b = false → (s.H b).isSome = true)
    (hhp : Keeps (Av A0 η s.H) (Av A0 η' (s.app d e).H) w w' → ∀ b B, hpGet e.hp b = some B → RelBlk η' w' (Av A0 η' (s.app d e).H) B (η' b))
    (hv : Keeps (Av A0 η s.H) (Av A0 η' (s.app d e).H) w w' → RepV η' w' (Av A0 η' (s.app d e).H) e.v u) :
    Rel n ds A0 L0 w0 η' (s.app d e) (a.put d u) w' := by
  have hold : ∀ b B, (s.app d e).H b = some B → hpGet e.hp b = some B ∨ (hpGet e.hp b = none ∧ e.kill.contains b = false ∧ ∃ B0, s.H b = some B0 ∧ B = B0.clean e.kill) := by
    intro b B hb
    simp only [ASt.app] at hb
    cases hg : hpGet e.hp b with
    | some B' => rw [hg] at hb; exact .inl hb
    | none =>
      rw [hg] at hb
      simp only at hb
      cases hk : e.kill.contains b with
      | true => simp at hb; exact absurd (by simpa using hk) hb.1
      | false =>
        have hk' : ¬ b ∈ e.kill := by simpa using hk
        simp only [List.elem_eq_mem, hk', decide_false, Bool.false_eq_true, if_false, Option.map_eq_some_iff] at hb
        obtain ⟨B0, h1, h2⟩ := hb
        exact .inr ⟨rfl, rfl, B0, h1, h2.symm⟩
  -- a live block behind is one that was live, or a new one
  have hL : ∀ b B g, (s.app d e).H b = some B → B.mut = true → hblk (η' b) = some g → (∃ b0 B0, s.H b0 = some B0 ∧ B0.mut = true ∧ hblk (η b0) = some g ∧ ((b0 = b ∧ (hpGet e.hp b = some B ∨ e.kill.contains b = false)) ∨ (N b ∧ hpGet e.hp b = some B ∧ e.kill.contains b0 = true))) ∨
      (w.heap.size ≤ g ∧ N b ∧ hpGet e.hp b = some B) := by
    intro b B g hb hm hg
    rcases hold b B hb with h1 | ⟨_, hk, B0, h1, h2⟩
    · rcases hN b B g h1 hm hg with ⟨b0, B0, k1, k2, k3, k4⟩ | ⟨k1, k2⟩
      · refine .inl ⟨b0, B0, k1, k2, k3, ?_⟩
        rcases k4 with k4 | ⟨k4, k5⟩
        · exact .inl ⟨k4, .inl h1⟩
        · exact .inr ⟨k4, h1, k5⟩
      · exact .inr ⟨k1, k2, h1⟩
    · refine .inl ⟨b, B0, h1, by rw [h2, ABlk.mut_clean] at hm; exact hm, ?_, .inl ⟨rfl, .inr hk⟩⟩
      rw [← hη b hk]; exact hg
  have hlive : ∀ g, Live η' (s.app d e).H g → g < w.heap.size → Live η s.H g := by
    rintro g ⟨b, B, h1, h2, h3⟩ hg
    rcases hL b B g h1 h2 h3 with ⟨b0, B0, k1, k2, k3, _⟩ | ⟨k1, _⟩
    · exact ⟨b0, B0, k1, k2, k3⟩
    · omega
  have k : Keeps (Av A0 η s.H) (Av A0 η' (s.app d e).H) w w' := by
    refine ⟨hsz, fun g hg hn => ?_, fun g hg hc => ?_⟩
    · rcases hW g hg with h1 | ⟨b, B, h1, h2, h3, _⟩
      · exact h1
      · exact absurd (.inr ⟨b, B, h1, h2, h3⟩) hn
    · rcases hc with hc | hc
      · exact .inl hc
      · exact .inr (hlive g hc hg)
  have hp' : RelH A0 η' (s.app d e).H w' := by
    refine ⟨fun b B hb => ?_, fun b b' B B' g hb hb' hm hm' hg hg' => ?_, fun g hg => ?_⟩
    · rcases hold b B hb with h1 | ⟨h0, hk, B0, h1, h2⟩
      · exact hhp k b B h1
      · rw [h2, hη b hk]
        refine RelBlk.step k hη (fun g hm hg => ?_) (h.hp.blk b B0 h1)
        rcases hW g (Live.lt h.hp ⟨b, B0, h1, hm, hg⟩) with h3 | ⟨b', B', k1, k2, k3, k4⟩
        · exact h3
        · have : b' = b := h.hp.inj b' b B' B0 g k1 h1 k2 hm k3 hg
          subst this
          rcases k4 with k4 | k4
          · rw [h0] at k4; cases k4
          · rw [hk] at k4; cases k4
    · rcases hL b B g hb hm hg with ⟨b0, B0, k1, k2, k3, k4⟩ | ⟨h4, h5, h6⟩
      · rcases hL b' B' g hb' hm' hg' with ⟨b0', B0', k1', k2', k3', k4'⟩ | ⟨h4', _⟩
        · have e0 := h.hp.inj b0 b0' B0 B0' g k1 k1' k2 k2' k3 k3'
          subst e0
          rcases k4 with ⟨k4, k5⟩ | ⟨k4, k5, k6⟩ <;> rcases k4' with ⟨k4', k5'⟩ | ⟨k4', k5', k6'⟩
          · exact k4.symm.trans k4'
          · subst k4
            rcases k5 with k5 | k5
            · exact hI _ _ _ _ g (hK _ k6' (by rw [k5]; rfl)) k4' k5 k5' hm hm' hg hg'
            · rw [k6'] at k5; cases k5
          · subst k4'
            rcases k5' with k5' | k5'
            · exact hI _ _ _ _ g k4 (hK _ k6 (by rw [k5']; rfl)) k5 k5' hm hm' hg hg'
            · rw [k6] at k5'; cases k5'
          · exact hI _ _ _ _ g k4 k4' k5 k5' hm hm' hg hg'
        · have := Live.lt h.hp ⟨b0, B0, k1, k2, k3⟩; omega
      · rcases hL b' B' g hb' hm' hg' with ⟨b0', B0', k1', k2', k3', k4'⟩ | ⟨h4', h5', h6'⟩
        · have := Live.lt h.hp ⟨b0', B0', k1', k2', k3'⟩; omega
        · exact hI _ _ _ _ g h5 h5' h6 h6' hm hm' hg hg'
    · obtain ⟨h1, h2⟩ := h.hp.av g hg
      exact ⟨Nat.lt_of_lt_of_le h1 hsz, fun hl => h2 (hlive g hl h1)⟩
  have hWn : ∀ g, g < w.heap.size → ¬ Live η s.H g → w'.heap[g]? = w.heap[g]? := fun g hg hn => by
    rcases hW g hg with h1 | ⟨b, B, h1, h2, h3, _⟩
    · exact h1
    · exact absurd ⟨b, B, h1, h2, h3⟩ hn
  refine ⟨by rw [put_size]; exact h.size, h.few, fun b hb hs => ?_, fun i => ?_, hp', ⟨hos.1.trans h.fr.os, hos.2.1.trans h.fr.tape, hos.2.2.trans h.fr.output, Nat.le_trans h.fr.size hsz, fun g hg hn => ?_⟩, fun g hg hlt => ?_, ?_⟩
  · have hk : e.kill.contains b = false := by
      cases hk : e.kill.contains b with
      | false => rfl
      | true =>
        obtain ⟨B, hB⟩ := Option.isSome_iff_exists.1 hs
        rcases hold b B hB with h1 | ⟨_, h2, _⟩
        · exact absurd hb (hN1 b (hK b hk (by rw [h1]; rfl)))
        · rw [hk] at h2; cases h2
    rw [hη b hk]
    refine h.hd b hb ?_
    obtain ⟨B, hB⟩ := Option.isSome_iff_exists.1 hs
    rcases hold b B hB with h1 | ⟨_, _, B0, h2, _⟩
    · exact hhn b hb (by rw [h1]; rfl) hk
    · rw [h2]; rfl
  · rw [put_getD, h.size]
    by_cases hdi : d = some i
    · rw [if_pos ⟨hdi, hd i hdi⟩]
      simp only [ASt.app, hdi, if_true]
      rw [hdi] at hv k
      exact hv k
    · rw [if_neg (fun hc => hdi hc.1)]
      have := RepV.clean (K := e.kill) k hη _ _ (h.tmp i)
      simp only [ASt.app, hdi, if_false]
      exact this
  · have hgw : g < w.heap.size := Nat.lt_of_lt_of_le hg h.fr.size
    rcases hW g hgw with h1 | ⟨b, B, h1, h2, h3, _⟩
    · exact h1.trans (h.fr.heap g hg hn)
    · exact absurd (h.old g ⟨b, B, h1, h2, h3⟩ hg) hn
  · exact h.old g (hlive g hg (Nat.lt_of_lt_of_le hlt h.fr.size)) hlt
  · rw [put_defers]
    refine knows_step h.gh h.hp rfl ⟨hos.1, hos.2.1, hos.2.2, hsz, fun g hg hn => hWn g hg hn⟩ fun g hg => ?_
    by_cases hlt : g < w.heap.size
    · exact .inl (hlive g hg hlt)
    · exact .inr ⟨by omega, Live.lt hp' hg⟩

/-- The same, of one name. -/
theorem Rel.eff (h : Rel n ds A0 L0 w0 η s a w) {e : Eff} {d : Option Nat} {w' : World} {η' : Nat → Value} {u : Value} {nid : Nat}
    (hd : ∀ i, d = some i → i < n)
    (hη : ∀ b, e.kill.contains b = false → η' b = η b)
    (hos : w'.os = w.os ∧ w'.tape = w.tape ∧ w'.output = w.output) (hsz : w.heap.size ≤ w'.heap.size)
    (hW : ∀ g, g < w.heap.size → w'.heap[g]? = w.heap[g]? ∨ ∃ b B, s.H b = some B ∧ B.mut = true ∧ hblk (η b) = some g ∧ ((hpGet e.hp b).isSome = true ∨ e.kill.contains b = true))
    (hN : ∀ b B g, hpGet e.hp b = some B → B.mut = true → hblk (η' b) = some g → (∃ b0 B0, s.H b0 = some B0 ∧ B0.mut = true ∧ hblk (η b0) = some g ∧ (b0 = b ∨ (b = nid ∧ e.kill.contains b0 = true))) ∨ (w.heap.size ≤ g ∧ b = nid))
    (hhp : Keeps (Av A0 η s.H) (Av A0 η' (s.app d e).H) w w' → ∀ b B, hpGet e.hp b = some B → RelBlk η' w' (Av A0 η' (s.app d e).H) B (η' b))
    (hv : Keeps (Av A0 η s.H) (Av A0 η' (s.app d e).H) w w' → RepV η' w' (Av A0 η' (s.app d e).H) e.v u)
    (hnid : nid < 1000 := by omega)
    (hK : ∀ b, e.kill.contains b = true → (hpGet e.hp b).isSome = true → b = nid := by intro b hb; simp at hb)
    (hhn : ∀ b, b ≠ nid → (hpGet e.hp b).isSome = true → (s.H b).isSome = true := by intro b _ hb; simp [hpGet] at hb) :
    Rel n ds A0 L0 w0 η' (s.app d e) (a.put d u) w' :=
  h.effN (fun b => b = nid) hd hη hos hsz hW hN (fun b b' _ _ _ e1 e2 _ _ _ _ _ _ => e1.trans e2.symm) hK (fun b e hc => by unfold handed at hc; omega) (fun b hb hs _ => hhn b (fun e => by unfold handed at hb; omega) hs) hhp hv

/-- An effect that writes nothing. -/
theorem Rel.pure (h : Rel n ds A0 L0 w0 η s a w) {v : AVal} {d : Option Nat} {u : Value} (hd : ∀ i, d = some i → i < n) (hv : RepV η w (Av A0 η s.H) v u) :
    Rel n ds A0 L0 w0 η (s.app d { v := v }) (a.put d u) w := by
  refine h.eff (nid := 0) hd (fun _ _ => rfl) ⟨rfl, rfl, rfl⟩ (Nat.le_refl _) (fun g _ => .inl rfl) (fun b B g hb => by simp [hpGet] at hb) (fun _ b B hb => by simp [hpGet] at hb) (fun k => ?_)
  exact RepV.step k v u (fun _ _ => rfl) hv

end

/-- The fence of everything, in a round or not. -/
def fen (ro : Option Nat) : Fence := { Fence.wide with round := ro }
theorem fen_fn (ro : Option Nat) (f : FuncId) : (fen ro).fn f := trivial
theorem fen_depth (ro : Option Nat) (n : Nat) : (fen ro).depth.isSome = true → 1 ≤ n := by intro h; simp [fen, Fence.wide] at h
theorem fen_room (ro : Option Nat) (k : Nat) : (fen ro).room k := fun d hd => by simp [fen, Fence.wide] at hd

section
variable {P : Program} {ro : Option Nat} {m : Nat} {o : Oper} {a : Act} {w w' : World} {next : Act → World → Prop} {Q : Exit → Act → World → Prop} {u : Value}

theorem wpIn_value (hdf : ∀ c, o.op ≠ .defer c) (h : (execOp a.eval o).run P w = .ok (.value u) w') (hn : next (a.put o.dst u) w') : o.wpIn (fen ro) m P a w next Q := by
  refine ⟨fun f _ => fen_fn ro f, ?_⟩
  rw [Oper.semAt_eq _ _ _ hdf, h]
  exact hn

theorem wpIn_skipped (hdf : ∀ c, o.op ≠ .defer c) (h : (execOp a.eval o).run P w = .ok .skip w') (hn : next (a.put o.dst undef) w') : o.wpIn (fen ro) m P a w next Q := by
  refine ⟨fun f _ => fen_fn ro f, ?_⟩
  rw [Oper.semAt_eq _ _ _ hdf, h]
  exact hn

theorem wpIn_call (hdf : ∀ c, o.op ≠ .defer c) {f : FuncId} {vs : Array Value} (h : (execOp a.eval o).run P w = .ok (.enter f vs) w')
    (hc : Calls P f vs w' fun e w'' => ∃ v, e = .returned v ∧ next (a.put o.dst v) w'') : o.wpIn (fen ro) m P a w next Q := by
  refine ⟨fun f _ => fen_fn ro f, ?_⟩
  rw [Oper.semAt_eq _ _ _ hdf, h]
  refine ⟨fen_depth ro _, ?_⟩
  have h1 := (callsIn_wide (n := m - 1)).2 hc
  refine CallsIn.mono (R := fun e w'' => ∃ v, e = .returned v ∧ next (a.put o.dst v) w'') ?_ (fun e w'' ⟨v, he, hn⟩ => by subst he; exact hn)
  exact ⟨trivial, fun cs _ => h1.2 cs (room_wide _)⟩
end

end Go.Proofs.Ytcijihofjcfpoab
