/-
  The abstract machine, 12: code, and whole functions. No program is named here.
-/
import Derived.Test.YtcijihofjcfpoabAv11
import Derived.TacticsIn
import Derived.RangeFuncLeaves
import Derived.RangeFuncRecord
namespace Go.Proofs.Ytcijihofjcfpoab
open Go.RowKit

set_option linter.constructorNameAsVariable false

section
variable (P : Program) (T : Tab)

def notBool : Value → Bool
  | .bool _ => false
  | _ => true

/-- An operation under its guard. -/
def gstep (ops : List Oper) (s : ASt) (o : Oper) (K : Eff → Prop) : Prop :=
  match o.guard with
  | none => stepOp P T s o K
  | some (j, want) => match (ops[j]?).bind (·.dst) with
    | some t => match s.σ t with
      | .bool p => (p = want → stepOp P T s o K) ∧ (p ≠ want → K { v := .cv undef })
      | .cv u => notBool u = true ∧ K { v := .cv undef }
      | _ => False
    | none => False

/-- Operations in their order. -/
def aops (ops : List Oper) : List Oper → ASt → (ASt → Prop) → Prop
  | [], s, K => K s
  | o :: r, s, K => gstep P T ops s o fun e => aops ops r (s.app o.dst e) K

end

def dstOK (n : Nat) (ops : List Oper) : Bool := ops.all fun o => match o.dst with | some d => decide (d < n) | none => true

section
variable {P : Program} {T : Tab} {n : Nat} {ds : List Deferred} {A0 L0 : Nat → Prop} {w0 : Old}

theorem gstep_sound (hT : TabOK P T) {ro : Option Nat} {m : Nat} {Q : Exit → Act → World → Prop} {next : Act → World → Prop} {ops : List Oper} {o : Oper} (hdo : ∀ i, o.dst = some i → i < n) {s : ASt} {η : Nat → Value} {a : Act} {w : World} {K : Eff → Prop} (h : Rel n ds A0 L0 w0 η s a w) (hK : gstep P T ops s o K)
    (hn : ∀ e η' a' w', K e → Rel n ds A0 L0 w0 η' (s.app o.dst e) a' w' → next a' w') :
    if Region.wanted o (yielded ops.toArray a.tmps) then o.wpIn (fen ro) m P a w next Q else (∀ f, o.about P w a.eval = some f → (fen ro).fn f) ∧ next (a.put o.dst undef) w := by
  unfold gstep at hK
  cases hg : o.guard with
  | none =>
    simp only [hg] at hK
    simp only [Region.wanted, hg, if_true]
    exact stepOp_sound hT h hdo hK hn
  | some q =>
    obtain ⟨j, want⟩ := q
    simp only [hg] at hK
    cases hj : (ops[j]?).bind (·.dst) with
    | none => simp [hj] at hK
    | some t =>
      simp only [hj] at hK
      have ht := h.tmp t
      have hj' : (ops.toArray[j]?).bind (·.dst) = some t := by simpa using hj
      cases hσ : s.σ t <;> simp only [hσ] at hK
      case bool p =>
        rw [hσ] at ht
        unfold RepV at ht
        have hy : yielded ops.toArray a.tmps j = some p := by
          have hget : a.tmps[t]? = some (.bool p) := by
            rw [Array.getD_eq_getD_getElem?] at ht
            cases hc : a.tmps[t]? with
            | none => rw [hc] at ht; simp [undef] at ht
            | some v => rw [hc] at ht; simp at ht; rw [ht]
          unfold yielded
          rw [hj', Option.bind_some, hget]
        simp only [Region.wanted, hg, hy]
        by_cases hp : p = want
        · subst hp
          simp only [beq_self_eq_true, if_true]
          exact stepOp_sound hT h hdo (hK.1 rfl) hn
        · have : ((some p : Option Bool) == some want) = false := by simpa using hp
          simp only [this, Bool.false_eq_true, if_false]
          refine ⟨fun f _ => fen_fn ro f, hn _ η _ w (hK.2 hp) (h.pure hdo ?_)⟩
          unfold RepV; rfl
      case cv u =>
        rw [hσ] at ht
        unfold RepV at ht
        have hy : yielded ops.toArray a.tmps j = none := by
          unfold yielded
          rw [hj', Option.bind_some]
          rw [Array.getD_eq_getD_getElem?] at ht
          cases hc : a.tmps[t]? with
          | none => rfl
          | some v =>
            rw [hc] at ht
            simp only [Option.getD_some] at ht
            subst ht
            have := hK.1
            cases v <;> first | rfl | cases this
        simp only [Region.wanted, hg, hy]
        have : ((none : Option Bool) == some want) = false := rfl
        simp only [this, Bool.false_eq_true, if_false]
        refine ⟨fun f _ => fen_fn ro f, hn _ η _ w hK.2 (h.pure hdo ?_)⟩
        unfold RepV; rfl

theorem aops_sound (hT : TabOK P T) {ro : Option Nat} {m : Nat} {Q : Exit → Act → World → Prop} {ops : List Oper} : ∀ (l : List Oper), dstOK n l = true → ∀ (s : ASt) (η : Nat → Value) (a : Act) (w : World) (K : ASt → Prop), Rel n ds A0 L0 w0 η s a w → aops P T ops l s K →
    ∀ rest : List Oper, (∀ s' η' a' w', K s' → Rel n ds A0 L0 w0 η' s' a' w' → wpListIn (fen ro) m P ops.toArray Q rest a' w') → wpListIn (fen ro) m P ops.toArray Q (l ++ rest) a w
  | [], _, s, η, a, w, K, h, hK, rest, hQ => hQ s η a w hK h
  | o :: r, hd, s, η, a, w, K, h, hK, rest, hQ => by
    unfold dstOK at hd
    simp only [List.all_cons, Bool.and_eq_true] at hd
    have hdo : ∀ i, o.dst = some i → i < n := fun i hi => by have := hd.1; rw [hi] at this; simpa using this
    have hdr : dstOK n r = true := hd.2
    rw [List.cons_append]
    unfold wpListIn
    unfold aops at hK
    exact gstep_sound hT hdo h hK fun e η' a' w' he hr => aops_sound hT r hdr _ η' a' w' K hr he rest hQ

end

/-! ### Code -/

def RelQ (n : Nat) (ds : List Deferred) (L0 : Nat → Prop) (w0 : Old) (Q : Exit → ASt → Prop) : Exit → Act → World → Prop := fun e a w => ∃ A0 η s, Q e s ∧ Rel n ds A0 L0 w0 η s a w

/-- The code leads from the state to what Q takes. -/
def AW (P : Program) (ro : Option Nat) (n : Nat) (c : Code) (Q : Exit → ASt → Prop) (s : ASt) : Prop :=
  ∀ (m : Nat) (ds : List Deferred) (A0 L0 : Nat → Prop) (w0 : Old) (η : Nat → Value) (a : Act) (w : World), w0.rd.map (·.1) = ro → Rel n ds A0 L0 w0 η s a w → c.wpIn (fen ro) m P (RelQ n ds L0 w0 Q) a w

/-- The state s' says less. -/
def Wk (n : Nat) (s s' : ASt) : Prop :=
  ∀ (ds : List Deferred) (A0 L0 : Nat → Prop) (w0 : Old) (η : Nat → Value) (a : Act) (w : World), Rel n ds A0 L0 w0 η s a w → ∃ η', Rel n ds A0 L0 w0 η' s' a w

def athen (K : ASt → Prop) (Q : Exit → ASt → Prop) : Exit → ASt → Prop
  | .normal, s => K s
  | e, s => Q e s

def ablock (id : Nat) (Q : Exit → ASt → Prop) : Exit → ASt → Prop
  | .exit id', s => if id' = id then Q .normal s else Q (.exit id') s
  | e, s => Q e s

section
variable {P : Program} {T : Tab} {ro : Option Nat} {n : Nat} {Q : Exit → ASt → Prop} {s s' : ASt}

theorem AW.weaken {c : Code} (hw : Wk n s s') (h : AW P ro n c Q s') : AW P ro n c Q s := by
  intro m ds A0 L0 w0 η a w hq0 hr
  obtain ⟨η', hr'⟩ := hw ds A0 L0 w0 η a w hr
  exact h m ds A0 L0 w0 η' a w hq0 hr'

theorem AW.mono {c : Code} {Q' : Exit → ASt → Prop} (h : AW P ro n c Q s) (hq : ∀ e s, Q e s → Q' e s) : AW P ro n c Q' s := by
  intro m ds A0 L0 w0 η a w hq0 hr
  exact wpIn_mono (h m ds A0 L0 w0 η a w hq0 hr) fun e a w ⟨A1, η, s, hQ, hR⟩ => ⟨A1, η, s, hq e s hQ, hR⟩

theorem AW.region (hT : TabOK P T) {id : Nat} {l : List Oper} (hd : dstOK n l = true) (h : aops P T l l s (Q .normal)) : AW P ro n (.region id l.toArray false) Q s := by
  intro m ds A0 L0 w0 η a w hq0 hr
  have := aops_sound (ro := ro) (m := m) (Q := RelQ n ds L0 w0 Q) hT l hd s η a w _ hr h [] (fun s' η' a' w' hK hR => ⟨A0, η', s', hK, hR⟩)
  rw [List.append_nil] at this
  exact wpIn_region_lit this

/-- The rest l of a region's operations leads from the state to what Q takes. -/
def AO (P : Program) (ro : Option Nat) (n : Nat) (ops l : List Oper) (Q : Exit → ASt → Prop) (s : ASt) : Prop :=
  ∀ (m : Nat) (ds : List Deferred) (A0 L0 : Nat → Prop) (w0 : Old) (η : Nat → Value) (a : Act) (w : World), w0.rd.map (·.1) = ro → Rel n ds A0 L0 w0 η s a w → wpListIn (fen ro) m P ops.toArray (RelQ n ds L0 w0 Q) l a w

theorem AW.ops {id : Nat} {l : List Oper} (h : AO P ro n l l Q s) : AW P ro n (.region id l.toArray false) Q s :=
  fun m ds A0 L0 w0 η a w hq0 hr => wpIn_region_lit (h m ds A0 L0 w0 η a w hq0 hr)

theorem AO.nil {ops : List Oper} (h : Q .normal s) : AO P ro n ops [] Q s := fun _ _ A0 _ _ η _ _ _ hr => ⟨A0, η, s, h, hr⟩

theorem AO.weaken {ops l : List Oper} (hw : Wk n s s') (h : AO P ro n ops l Q s') : AO P ro n ops l Q s := by
  intro m ds A0 L0 w0 η a w hq0 hr
  obtain ⟨η', hr'⟩ := hw ds A0 L0 w0 η a w hr
  exact h m ds A0 L0 w0 η' a w hq0 hr'

/-- The first k operations lead to a state; from there the others go on. -/
theorem AO.seg (hT : TabOK P T) (k : Nat) {ops l : List Oper} (hd : dstOK n (l.take k) = true) (s' : ASt) (h : aops P T ops (l.take k) s fun s'' => Wk n s'' s') (h2 : AO P ro n ops (l.drop k) Q s') : AO P ro n ops l Q s := by
  intro m ds A0 L0 w0 η a w hq0 hr
  have := aops_sound (ro := ro) (m := m) (Q := RelQ n ds L0 w0 Q) hT _ hd s η a w _ hr h (l.drop k) (fun s'' η' a' w' hK hR => AO.weaken hK h2 m ds A0 L0 w0 η' a' w' hq0 hR)
  rwa [List.take_append_drop] at this

theorem AW.seq {x y : Code} (h : AW P ro n x (athen (AW P ro n y Q) Q) s) : AW P ro n (.seq x y) Q s := by
  intro m ds A0 L0 w0 η a w hq0 hr
  refine wpIn_seq (wpIn_mono (h m ds A0 L0 w0 η a w hq0 hr) fun e a w ⟨A1, η, s, hQ, hR⟩ => ?_)
  cases e with
  | normal => exact hQ m ds A1 L0 w0 η a w hq0 hR
  | _ => exact ⟨A1, η, s, hQ, hR⟩

theorem AW.cond {c : Operand} {x y : Code} {b : Bool} (hc : s.ev c = .bool b) (ht : b = true → AW P ro n x Q s) (hf : b = false → AW P ro n y Q s) : AW P ro n (.cond c x y) Q s := by
  intro m ds A0 L0 w0 η a w hq0 hr
  have := hr.ev c
  rw [hc] at this
  unfold RepV at this
  exact wpIn_cond_split this (fun e => ht e m ds A0 L0 w0 η a w hq0 hr) (fun e => hf e m ds A0 L0 w0 η a w hq0 hr)

theorem AW.block {id : Nat} {c : Code} (h : AW P ro n c (ablock id Q) s) : AW P ro n (.block id c) Q s := by
  intro m ds A0 L0 w0 η a w hq0 hr
  refine wpIn_block (wpIn_mono (h m ds A0 L0 w0 η a w hq0 hr) fun e a w ⟨A1, η, s, hQ, hR⟩ => ?_)
  cases e with
  | exit id' =>
    simp only [ablock] at hQ
    simp only [Exit.inBlock]
    split at hQ
    · rename_i e; subst e; simp only [if_true]; exact ⟨A1, η, s, hQ, hR⟩
    · rename_i e; simp only [e, if_false]; exact ⟨A1, η, s, hQ, hR⟩
  | _ => exact ⟨A1, η, s, hQ, hR⟩

theorem AW.skip (h : Q .normal s) : AW P ro n .skip Q s := fun _ _ A0 _ _ η _ _ _ hr => wpIn_skip ⟨A0, η, s, h, hr⟩
theorem AW.exit {id : Nat} (h : Q (.exit id) s) : AW P ro n (.exit id) Q s := fun _ _ A0 _ _ η _ _ _ hr => wpIn_exit ⟨A0, η, s, h, hr⟩
theorem AW.ret (h : Q .ret s) : AW P ro n .ret Q s := fun _ _ A0 _ _ η _ _ _ hr => wpIn_ret ⟨A0, η, s, h, hr⟩

theorem AW.loop {c : Code} {ι : Type} (inv : ι → ASt) (ok : ι → Prop) (μ : ι → Nat) (x0 : ι) (h0 : Wk n s (inv x0)) (hok : ok x0)
    (round : ∀ x, ok x → AW P ro n c (athen (fun s'' => ∃ y, ok y ∧ μ y < μ x ∧ Wk n s'' (inv y)) Q) (inv x)) : AW P ro n (.loop c) Q s := by
  refine AW.weaken h0 ?_
  intro m ds A0 L0 w0 η a w hq0 hr b k cs hro hb hrm
  have key : ∀ j x, μ x = j → ok x → ∀ A0 η a w, Rel n ds A0 L0 w0 η (inv x) a w →
      ∃ e a' w', RelQ n ds L0 w0 Q e a' w' ∧ ArrivesIn (Machine.fenced P (fen ro)) P (lone (b.atR a (.code c :: .inLoop c :: k)) cs w) b k cs e a' w' := by
    intro j
    induction j using Nat.strongRecOn with
    | _ j ih =>
      intro x hn hx A0 η a w hI
      obtain ⟨e, a₁, w₁, ⟨A₁, η₁, s₁, hq, hR⟩, harr⟩ := round x hx m ds A0 L0 w0 η a w hq0 hI b (.inLoop c :: k) cs hro hb hrm
      cases e with
      | normal =>
        obtain ⟨y, hy, hlt, hwk⟩ := hq
        obtain ⟨η₂, hR₂⟩ := hwk ds A₁ L0 w0 η₁ a₁ w₁ hR
        obtain ⟨e₂, a₂, w₂, hq₂, harr₂⟩ := ih (μ y) (hn ▸ hlt) y rfl hy A₁ η₂ a₁ w₁ hR₂
        exact ⟨e₂, a₂, w₂, hq₂, .of_steps (StepsIn.trans harr (.one (fenced_calm hb hrm rfl) stepR_inLoop)) harr₂⟩
      | exit id => exact ⟨_, a₁, w₁, ⟨A₁, η₁, s₁, hq, hR⟩, .pass (x := .inLoop c) rfl (fun _ _ => .inl (by simp)) harr⟩
      | goto l => exact ⟨_, a₁, w₁, ⟨A₁, η₁, s₁, hq, hR⟩, .pass (x := .inLoop c) rfl (fun _ _ => .inl (by simp)) harr⟩
      | ret => exact ⟨_, a₁, w₁, ⟨A₁, η₁, s₁, hq, hR⟩, .pass (x := .inLoop c) rfl (fun _ _ => .inl (by simp)) harr⟩
      | panic ch => exact ⟨_, a₁, w₁, ⟨A₁, η₁, s₁, hq, hR⟩, .pass (x := .inLoop c) rfl (fun _ _ => .inl (by simp)) harr⟩
      | outgrown => exact ⟨_, a₁, w₁, ⟨A₁, η₁, s₁, hq, hR⟩, .pass (x := .inLoop c) rfl (fun _ _ => .inl (by simp)) harr⟩
  obtain ⟨e, a', w', hq, harr⟩ := key _ x0 rfl hok A0 η a w hr
  exact ⟨e, a', w', hq, .of_steps (.one (fenced_calm hb hrm rfl) stepR_loop) harr⟩

theorem Wk.refl (n : Nat) (s : ASt) : Wk n s s := fun _ _ _ _ η _ _ hr => ⟨η, hr⟩
theorem Wk.trans {s'' : ASt} (h : Wk n s s') (k : Wk n s' s'') : Wk n s s'' := fun ds A0 L0 w0 η a w hr =>
  let ⟨η', hr'⟩ := h ds A0 L0 w0 η a w hr
  k ds A0 L0 w0 η' a w hr'

theorem Rel.few0 {ds : List Deferred} {A0 L0 : Nat → Prop} {w0 : Old} {η : Nat → Value} {a : Act} {w : World} (hr : Rel n ds A0 L0 w0 η s a w) : n ≤ 1000 := hr.few

/-- Less is said, under other names. -/
theorem Wk.leG (D N : List Nat) (ρ : Nat → Nat) {h' : List (Nat × ABlk)} (hs : s'.H = hpGet h') (hg : s'.g = s.g) (ok : namesOK ρ D N h' = true) (hσ : ∀ i, LeV s.H D N ρ (s.σ i) (s'.σ i)) (hH : LeH s.H D N ρ h') : Wk n s s' := by
  intro ds A0 L0 w0 η a w hr
  have hn := namesIn_of ok
  have hnh := namesHd_of ok
  have hlive : ∀ g, Live (newη η N ρ) (hpGet h') g → Live η s.H g := fun g hg => by
    obtain ⟨c, B, B0, _, _, k3, k4, _, k6⟩ := le_live hH hg
    exact ⟨_, B0, k3, k4, k6⟩
  obtain ⟨r1, r2, _⟩ := le_rel (A1 := A0) hr.hp hn hH (fun g hg => (hr.hp.av g hg).1) (fun g hg => .inl hg) (fun g b e t xs hg hb _ hbl => (hr.hp.av g hg).2 ⟨b, _, hb, rfl, hbl⟩) (fun g hg hl => (hr.hp.av g hg).2 (hlive g hl))
  refine ⟨newη η N ρ, hr.size, hr.few, fun b hb hsm => ?_, fun i => ?_, by rw [hs]; exact r1, hr.fr, fun g hg => hr.old g (hlive g (by rw [← hs]; exact hg)), knows_step hr.gh hr.hp hg (Turns.refl _ _) fun g hg => .inl (hlive g (by rw [← hs]; exact hg))⟩
  · rw [hs] at hsm
    obtain ⟨B, hB⟩ := Option.isSome_iff_exists.1 hsm
    rcases LeH.get hH hB with ⟨hc, _⟩ | ⟨hc, B0, hB0, _⟩
    · exact absurd hb (hnh.nil b B hB hc)
    · have e := hnh.hand b B hB hc hb
      have : newη η N ρ b = η b := by
        unfold newη
        rw [hc, e]; simp
      rw [this]
      rw [e] at hB0
      exact hr.hd b hb (by rw [hB0]; rfl)
  · rw [hs]; exact r2 _ _ _ (hσ i) (hr.tmp i)

end

/-! ### States written out -/

def fr : List (Nat × AVal) → Nat → AVal
  | [], _ => .un
  | (j, v) :: r, i => if i = j then v else fr r i

def fitsF (s : ASt) : List (Nat × AVal) → Prop
  | [] => True
  | (i, v) :: r => s.σ i = v ∧ fitsF s r

def fitsH (s : ASt) : List (Nat × ABlk) → Prop
  | [] => True
  | (b, B) :: r => s.H b = some B ∧ fitsH s r

def leF (s : ASt) (D N : List Nat) (ρ : Nat → Nat) : List (Nat × AVal) → Prop
  | [] => True
  | (i, v) :: r => LeV s.H D N ρ (s.σ i) v ∧ leF s D N ρ r

theorem LeV.toUn (H : AHeap) (D N : List Nat) (ρ : Nat → Nat) (x : AVal) : LeV H D N ρ x .un := by
  cases x <;> unfold LeV <;> trivial

theorem leF_fr {s : ASt} {D N : List Nat} {ρ : Nat → Nat} : ∀ {l : List (Nat × AVal)}, leF s D N ρ l → ∀ i, LeV s.H D N ρ (s.σ i) (fr l i)
  | [], _, i => LeV.toUn _ _ _ _ _
  | (j, v) :: r, h, i => by
    unfold fr
    split
    · rename_i e; subst e; exact h.1
    · exact leF_fr h.2 i

theorem Wk.le {n : Nat} {s : ASt} (D N : List Nat) (rn : List (Nat × Nat)) {l : List (Nat × AVal)} {h : List (Nat × ABlk)} (ok : namesOK (look rn) D N h = true) (hl : leF s D N (look rn) l) (hh : LeH s.H D N (look rn) h) : Wk n s ⟨fr l, hpGet h, s.g⟩ :=
  Wk.leG D N (look rn) rfl rfl ok (leF_fr hl) hh

/-- The state is at least what is written. -/
def fits (l : List (Nat × AVal)) (h : List (Nat × ABlk)) (g : Gh) (s : ASt) : Prop := fitsF s l ∧ fitsH s h ∧ s.g = g

theorem fitsF_get {s : ASt} : ∀ {l : List (Nat × AVal)}, fitsF s l → ∀ i, fr l i = .un ∨ fr l i = s.σ i
  | [], _, i => .inl rfl
  | (j, v) :: r, h, i => by
    unfold fr
    split
    · rename_i e; subst e; exact .inr h.1.symm
    · exact fitsF_get h.2 i

theorem fitsH_get {s : ASt} : ∀ {l : List (Nat × ABlk)}, fitsH s l → ∀ b B, hpGet l b = some B → s.H b = some B
  | [], _, b, B, h => by cases h
  | (c, C) :: r, h, b, B, hb => by
    unfold hpGet at hb
    split at hb
    · rename_i e; subst e; injection hb with hb; subst hb; exact h.1
    · exact fitsH_get h.2 b B hb

theorem Wk.to {n : Nat} {s : ASt} {l : List (Nat × AVal)} {h : List (Nat × ABlk)} {g : Gh} (hf : fits l h g s) : Wk n s ⟨fr l, hpGet h, g⟩ := by
  intro ds A0 L0 w0 η a w hr
  have hH := fitsH_get hf.2.1
  have hσ := fitsF_get hf.1
  have hL : ∀ g, Live η (hpGet h) g → Live η s.H g := fun g ⟨b, B, h1, h2, h3⟩ => ⟨b, B, hH b B h1, h2, h3⟩
  have k : Keeps (Av A0 η s.H) (Av A0 η (hpGet h)) w w := ⟨Nat.le_refl _, fun _ _ _ => rfl, fun g _ hA => hA.imp id (hL g)⟩
  refine ⟨η, hr.size, hr.few, fun b hb hs => ?_, fun i => ?_, ⟨fun b B hb => ?_, fun b b' B B' g hb hb' => hr.hp.inj b b' B B' g (hH _ _ hb) (hH _ _ hb'), fun g hg => ⟨(hr.hp.av g hg).1, fun hl => (hr.hp.av g hg).2 (hL g hl)⟩⟩, hr.fr, fun g hg => hr.old g (hL g hg), knows_step hr.gh hr.hp hf.2.2.symm (Turns.refl _ _) fun g hg => .inl (hL g hg)⟩
  · obtain ⟨B, hB⟩ := Option.isSome_iff_exists.1 hs
    exact hr.hd b hb (by rw [hH b B hB]; rfl)
  · rcases hσ i with h1 | h1
    · show RepV η w _ (fr l i) _
      rw [h1]; unfold RepV; trivial
    · show RepV η w _ (fr l i) _
      rw [h1]; exact RepV.step k _ _ (fun _ _ => rfl) (hr.tmp i)
  · have := RelBlk.step (K := []) k (fun _ _ => rfl) (fun g _ _ => rfl) (hr.hp.blk b B (hH b B hb))
    rwa [bclean_nil] at this

/-! ### Whole functions -/

def enumF (k : Nat) : List AVal → List (Nat × AVal)
  | [] => []
  | x :: l => (k, x) :: enumF (k + 1) l

theorem fr_enum : ∀ (l : List AVal) (k i : Nat), fr (enumF k l) i = if i < k then .un else l.getD (i - k) .un
  | [], k, i => by simp [enumF, fr]
  | x :: l, k, i => by
    unfold enumF fr
    by_cases h : i = k
    · subst h; simp
    · rw [if_neg h, fr_enum l (k + 1) i]
      by_cases h2 : i < k
      · rw [if_pos h2, if_pos (by omega)]
      · rw [if_neg h2, if_neg (by omega), show i - k = (i - (k + 1)) + 1 by omega]
        simp


def ares (T : Tab) (s : ASt) : List ResultVar → List AVal → Prop
  | [], xs => xs = []
  | .tmp t :: r, xs => ∃ ys, xs = s.σ t :: ys ∧ ares T s r ys
  | .cell p t :: r, xs => ∃ x ys, xs = x :: ys ∧ stLoad T s t (s.σ p) (fun e => e.v = x) ∧ ares T s r ys

def aresK (T : Tab) (s : ASt) : List ResultVar → (List AVal → Prop) → Prop
  | [], K => K []
  | .tmp t :: r, K => aresK T s r fun ys => K (s.σ t :: ys)
  | .cell p t :: r, K => stLoad T s t (s.σ p) fun e => aresK T s r fun ys => K (e.v :: ys)

theorem stLoad_dt {T : Tab} {s : ASt} {K : Eff → Prop} {t : TypeId} {x : AVal} (h : stLoad T s t x K) : ∃ e, stLoad T s t x (fun y => y = e) ∧ K e := by
  unfold stLoad at *
  (repeat' split at h) <;> first | exact h.elim | ((repeat (obtain ⟨_, h⟩ := h)) <;> subst_vars <;> refine ⟨_, ?_, h⟩ <;> first | (simp only [*]; done) | (simp only [*, and_self]; done) | (simp only [*]; repeat' apply And.intro) <;> first | trivial | assumption | (simp; done))
theorem stLoad_mn {T : Tab} {s : ASt} {K K' : Eff → Prop} {t : TypeId} {x : AVal} (hk : ∀ e, K e → K' e) (h : stLoad T s t x K) : stLoad T s t x K' := by
  unfold stLoad at *
  (repeat' split at h) <;> first | exact h.elim | ((repeat (obtain ⟨_, h⟩ := h)) <;> subst_vars <;> have hk2 := hk _ h <;> first | exact hk2 | ((repeat' apply And.intro) <;> assumption) | (simp only [*]; done) | (simp only [*, and_self]; done) | (simp only [*]; repeat' apply And.intro) <;> first | trivial | assumption | (simp; done))

theorem aresK_ares {T : Tab} {s : ASt} : ∀ {rs : List ResultVar} {K : List AVal → Prop}, aresK T s rs K → ∃ xs, ares T s rs xs ∧ K xs
  | [], K, h => ⟨[], rfl, h⟩
  | .tmp t :: r, K, h => by
    obtain ⟨ys, h1, h2⟩ := aresK_ares (rs := r) h
    exact ⟨_, ⟨ys, rfl, h1⟩, h2⟩
  | .cell p t :: r, K, h => by
    unfold aresK at h
    obtain ⟨e, h1, h2⟩ := stLoad_dt h
    obtain ⟨ys, h3, h4⟩ := aresK_ares (rs := r) h2
    exact ⟨_, ⟨e.v, ys, rfl, stLoad_mn (fun y hy => by rw [hy]) h1, h3⟩, h4⟩

def one : List AVal → AVal
  | [x] => x
  | xs => .tup xs

/-- How a function may end. -/
def apost (T : Tab) (res : List ResultVar) (hout : List (Nat × ABlk)) (r : AVal) : Exit → ASt → Prop
  | .normal, s => s.g = gt ∧ ∃ (D N : List Nat) (rn : List (Nat × Nat)), namesOK (look rn) D N hout = true ∧ aresK T s res fun xs => LeV s.H D N (look rn) (one xs) r ∧ LeH s.H D N (look rn) hout
  | .ret, s => s.g = gt ∧ ∃ (D N : List Nat) (rn : List (Nat × Nat)), namesOK (look rn) D N hout = true ∧ aresK T s res fun xs => LeV s.H D N (look rn) (one xs) r ∧ LeH s.H D N (look rn) hout
  | _, _ => False

section
variable {P : Program} {T : Tab} {n : Nat} {ds : List Deferred} {A0 L0 : Nat → Prop} {w0 : Old} {η : Nat → Value} {s : ASt} {a : Act} {w : World}

def resSem (tmps : Array Value) : ResultVar → Sem Value
  | .tmp t => pure (tmps.getD t undef)
  | .cell p t => do loadVar t (← asAddr (tmps.getD p undef))

theorem results_eq (fn : Func) (tmps : Array Value) : results fn tmps = (do let vs ← fn.results.mapM (resSem tmps); pure (if h : vs.size = 1 then vs[0] else .tuple vs)) := by
  unfold results
  congr 1

theorem run_res (hT : TabOK P T) (h : Rel n ds A0 L0 w0 η s a w) : ∀ (rs : List ResultVar) (xs : List AVal), ares T s rs xs →
    ∃ vs : List Value, (rs.mapM (resSem a.tmps)).run P w = .ok vs w ∧ RepVs η w (Av A0 η s.H) xs vs
  | [], xs, hx => by
    unfold ares at hx
    subst hx
    exact ⟨[], by simp, RepVs.nil⟩
  | .tmp t :: rs, xs, hx => by
    unfold ares at hx
    obtain ⟨ys, rfl, hy⟩ := hx
    obtain ⟨vs, hr, hv⟩ := run_res hT h rs ys hy
    exact ⟨a.tmps.getD t undef :: vs, by simp only [List.mapM_cons, resSem, Sem.run_bind, Sem.run_pure, Result.andThen_ok, hr], RepVs.cons (h.tmp t) hv⟩
  | .cell p t :: rs, xs, hx => by
    unfold ares at hx
    obtain ⟨x, ys, rfl, hx, hy⟩ := hx
    obtain ⟨vs, hr, hv⟩ := run_res hT h rs ys hy
    obtain ⟨e, u, w', η', he, hrun, hrel⟩ := stLoad_does hT h (d := none) (fun i hi => by cases hi) (h.tmp p) hx
    -- the load leaves the world alone
    have hld : (Instr.loadAt t (a.tmps.getD p undef)).run P w = .ok u w ∧ RepV η w (Av A0 η s.H) x u := by
      have : ∃ u2, (Instr.loadAt t (a.tmps.getD p undef)).run P w = .ok u2 w ∧ RepV η w (Av A0 η s.H) x u2 := by
        have hxp := h.tmp p
        unfold stLoad at hx
        cases ht : T t with
        | none => simp [ht] at hx
        | some i =>
          have hti := hT t i ht
          simp only [ht] at hx
          cases hsp : s.σ p <;> simp only [hsp] at hx
          case bp b off =>
            rw [hsp] at hxp
            generalize a.tmps.getD p undef = xv at *
            unfold RepV at hxp
            obtain ⟨g, hη, rfl⟩ := hxp
            cases hb : s.H b with
            | none => simp [hb] at hx
            | some B =>
              cases B <;> simp only [hb] at hx
              case box ty cs =>
                obtain ⟨h1, h2, hK⟩ := hx
                subst hK
                obtain ⟨g', vs, e1, e2, e3⟩ := h.hp.blk b _ hb
                rw [hη] at e1
                injection e1 with e1
                injection e1 with e1
                injection e1 with e1
                subst e1
                have hl := e3.length
                refine ⟨_, run_loadAt_rep (vs := (vs.toList.drop off).take i.size) hti (by simp; simp at hl; omega) h2 fun j v hj => ?_, pack_rep ((e3.drop off).take i.size)⟩
                have := get_take_drop hj
                simp [World.cell?, e2]
                simpa using this
          case dp τ y off =>
            rw [hsp] at hxp
            generalize a.tmps.getD p undef = xv at *
            unfold RepV at hxp
            obtain ⟨g, o, rfl, _, _, hat⟩ := hxp
            obtain ⟨h1, h2, hK⟩ := hx
            subst hK
            obtain ⟨vs, hc, hr⟩ := RepAt.cells η τ y g o hat
            have hl := hr.length
            rw [cellsOf_len] at hl
            refine ⟨_, run_loadAt_rep (vs := (vs.drop off).take i.size) hti (by simp; omega) h2 fun j v hj => ?_, pack_rep ((hr.drop off).take i.size)⟩
            have := hc _ v (get_take_drop hj)
            rwa [← Nat.add_assoc] at this
          case ap b sz j off =>
            rw [hsp] at hxp
            generalize a.tmps.getD p undef = xv at *
            unfold RepV at hxp
            obtain ⟨g, n', c, hη, rfl⟩ := hxp
            cases hb : s.H b with
            | none => simp [hb] at hx
            | some B =>
              cases B <;> simp only [hb] at hx
              case arr e τ xs =>
                obtain ⟨rfl, h1, h2, hj, hK⟩ := hx
                subst hK
                obtain ⟨cur, _, _, _, _, hat⟩ := blk_row h.hp hb hη
                have hxj : xs[j]? = some (xs.getD j τ.dflt) := by simp [List.getD, hj]
                obtain ⟨vs, hc, hr⟩ := RepAt.cells η τ _ g _ (hat j _ hxj)
                have hl := hr.length
                rw [cellsOf_len] at hl
                refine ⟨_, run_loadAt_rep (vs := (vs.drop off).take i.size) hti (by simp; omega) h2 fun k v hk => ?_, pack_rep ((hr.drop off).take i.size)⟩
                have := hc _ v (get_take_drop hk)
                rwa [← Nat.add_assoc] at this
      obtain ⟨u2, h1, h2⟩ := this
      rw [h1] at hrun
      injection hrun with e1 e2
      subst e1
      exact ⟨h1, h2⟩
    have hl2 : (resSem a.tmps (.cell p t)).run P w = .ok u w := by
      unfold resSem
      simp only
      have := hld.1
      generalize a.tmps.getD p undef = xv at this ⊢
      unfold Instr.loadAt at this
      unfold Instr.sureAddr at this
      split at this
      · simp only [Sem.run_bind, Sem.run_pure, Result.andThen_ok] at this
        simp [asAddr, this]
      · simp at this
    exact ⟨u :: vs, by rw [List.mapM_cons, Sem.run_bind, hl2]; simp only [Sem.run_bind, Sem.run_pure, Result.andThen_ok, hr], RepVs.cons hld.2 hv⟩

theorem one_rep {A : Nat → Prop} {xs : List AVal} {vs : List Value} (h : RepVs η w A xs vs) : RepV η w A (one xs) (if hs : vs.toArray.size = 1 then vs.toArray[0] else .tuple vs.toArray) := by
  cases xs with
  | nil =>
    unfold RepVs at h
    subst h
    simp only [one, List.size_toArray, List.length_nil, Nat.zero_ne_one, dite_false]
    unfold RepV
    exact ⟨_, rfl, RepVs.nil⟩
  | cons x xs =>
    unfold RepVs at h
    obtain ⟨u, us, rfl, hx, hl⟩ := h
    cases xs with
    | nil =>
      unfold RepVs at hl
      subst hl
      exact hx
    | cons y ys =>
      have hl' := hl
      unfold RepVs at hl'
      obtain ⟨u2, us2, rfl, _, _⟩ := hl'
      have e1 : one (x :: y :: ys) = .tup (x :: y :: ys) := rfl
      rw [e1, dif_neg (by simp)]
      unfold RepV
      exact ⟨_, rfl, RepVs.cons hx hl⟩

end

/-! ### What is no row of cells may turn -/

def isReal : Obj → Bool
  | .cells _ _ _ => true
  | .map _ _ => true
  | _ => false

theorem rep_keepAt {A : Nat → Prop} {w w' : World} (hs : w.heap.size ≤ w'.heap.size) (hc : ∀ (g : Nat) ob, w.heap[g]? = some ob → isReal ob = true → w'.heap[g]? = w.heap[g]?) : ∀ (t : Ty) (x : El t) (b o : Nat), RepAt w A t x b o → RepAt w' A t x b o := by
  have hcell : ∀ (b o : Nat) (v : Value), w.cell? ⟨b, o, none⟩ = some v → w'.cell? ⟨b, o, none⟩ = some v := by
    intro b o v h
    have : w'.heap[b]? = w.heap[b]? := by
      unfold World.cell? at h
      simp only at h
      split at h
      · rename_i e; exact hc _ _ e rfl
      · cases h
    rw [cell_same this]; exact h
  intro t
  induction t with
  | int k => intro x b o h; unfold RepAt at h ⊢; exact hcell _ _ _ h
  | bool => intro x b o h; unfold RepAt at h ⊢; exact hcell _ _ _ h
  | unit => intro x b o h; unfold RepAt; trivial
  | pair s t ih1 ih2 => intro x b o h; unfold RepAt at h ⊢; exact ⟨ih1 _ _ _ h.1, ih2 _ _ _ h.2⟩
  | sl t ih =>
    intro xs b o h
    unfold RepAt at h ⊢
    obtain ⟨a, c, h1, h2⟩ := h
    exact ⟨a, c, hcell _ _ _ h1, h2.step hs (fun _ _ h => h) fun x b' o' _ _ hx => ih x b' o' hx⟩

mutual
theorem rep_keepV {η : Nat → Value} {A : Nat → Prop} {w w' : World} (hs : w.heap.size ≤ w'.heap.size) (hc : ∀ (g : Nat) ob, w.heap[g]? = some ob → isReal ob = true → w'.heap[g]? = w.heap[g]?) : ∀ (x : AVal) (v : Value), RepV η w A x v → RepV η w' A x v
  | .un, v, _ => by unfold RepV; trivial
  | .int _ _, v, h => by unfold RepV at *; exact h
  | .bool _, v, h => by unfold RepV at *; exact h
  | .sl t xs, v, h => by
    unfold RepV at *
    obtain ⟨a, c, hv, hb⟩ := h
    exact ⟨a, c, hv, hb.step hs (fun _ _ h => h) fun x b' o' _ _ hx => rep_keepAt hs hc t x b' o' hx⟩
  | .own b, v, h => by unfold RepV at *; exact h
  | .bp b _, v, h => by unfold RepV at *; exact h
  | .ap b _ _ _, v, h => by unfold RepV at *; exact h
  | .dp t x off, v, h => by
    unfold RepV at *
    obtain ⟨g, o, hv, hg, hn, hx⟩ := h
    exact ⟨g, o, hv, Nat.lt_of_lt_of_le hg hs, hn, rep_keepAt hs hc t x g o hx⟩
  | .cv _, v, h => by unfold RepV at *; exact h
  | .agg l, v, h => by
    unfold RepV at *
    obtain ⟨vs, hv, hl⟩ := h
    exact ⟨vs, hv, rep_keepVs hs hc l _ hl⟩
  | .tup l, v, h => by
    unfold RepV at *
    obtain ⟨vs, hv, hl⟩ := h
    exact ⟨vs, hv, rep_keepVs hs hc l _ hl⟩
  | .fn f p c, v, h => by
    unfold RepV at *
    obtain ⟨ps, cs, hv, hp, hq⟩ := h
    exact ⟨ps, cs, hv, rep_keepVs hs hc p _ hp, rep_keepVs hs hc c _ hq⟩
theorem rep_keepVs {η : Nat → Value} {A : Nat → Prop} {w w' : World} (hs : w.heap.size ≤ w'.heap.size) (hc : ∀ (g : Nat) ob, w.heap[g]? = some ob → isReal ob = true → w'.heap[g]? = w.heap[g]?) : ∀ (l : List AVal) (vs : List Value), RepVs η w A l vs → RepVs η w' A l vs
  | [], vs, h => by unfold RepVs at *; exact h
  | x :: l, vs, h => by
    unfold RepVs at *
    obtain ⟨u, us, hv, hx, hl⟩ := h
    exact ⟨u, us, hv, rep_keepV hs hc x u hx, rep_keepVs hs hc l us hl⟩
end

theorem rel_keepB {η : Nat → Value} {A : Nat → Prop} {w w' : World} (hs : w.heap.size ≤ w'.heap.size) (hc : ∀ (g : Nat) ob, w.heap[g]? = some ob → isReal ob = true → w'.heap[g]? = w.heap[g]?) {B : ABlk} {h : Value} (hr : RelBlk η w A B h) : RelBlk η w' A B h := by
  cases B with
  | box ty cs =>
    obtain ⟨g, vs, e, hw, hl⟩ := hr
    exact ⟨g, vs, e, (hc _ _ hw rfl).trans hw, rep_keepVs hs hc cs _ hl⟩
  | arr e t xs =>
    rcases hr with hn | ⟨g, cap, cur, e1, hw, h1, h2, h3, h4⟩
    · exact .inl hn
    · exact .inr ⟨g, cap, cur, e1, (hc _ _ hw rfl).trans hw, h1, h2, h3, fun i x hi => rep_keepAt hs hc t x g _ (h4 i x hi)⟩
  | imm t xs =>
    obtain ⟨a, c, e, hb⟩ := hr
    exact ⟨a, c, e, hb.step hs (fun _ _ h => h) fun x b' o' _ _ hx => rep_keepAt hs hc t x b' o' hx⟩
  | map ak ae kt vt xs =>
    obtain ⟨g, es, c, e, hw, hm⟩ := hr
    exact ⟨g, es, c, e, (hc _ _ hw rfl).trans hw, hm⟩

theorem rel_keepH {A0 : Nat → Prop} {η : Nat → Value} {H : AHeap} {w w' : World} (hs : w.heap.size ≤ w'.heap.size) (hc : ∀ (g : Nat) ob, w.heap[g]? = some ob → isReal ob = true → w'.heap[g]? = w.heap[g]?) (h : RelH A0 η H w) : RelH A0 η H w' :=
  ⟨fun b B hb => rel_keepB hs hc (h.blk b B hb), h.inj, fun g hg => ⟨Nat.lt_of_lt_of_le (h.av g hg).1 hs, (h.av g hg).2⟩⟩

section
variable {P : Program} {T : Tab} {n : Nat} {ds : List Deferred} {A0 L0 : Nat → Prop} {w0 : Old} {η : Nat → Value} {s : ASt} {a : Act} {w : World}

theorem putObj_cells {M : Nat} (h : w.heap[M]? = some (.deferred (some []))) (o : Obj) : ∀ (g : Nat) ob, w.heap[g]? = some ob → isReal ob = true → (w.putObj M o).heap[g]? = w.heap[g]? := by
  intro g ob hg hr
  refine World.putObj_heap_other ?_
  rintro rfl
  rw [h] at hg; cases hg; cases hr

/-- The first mark is taken over. -/
theorem Rel.shut {A1 : Nat → Prop} {M : Nat} {Ms : List Nat} (h : Rel n [] A0 L0 w0 η s a w) (hn : (M :: Ms).Nodup) (hM : ∀ k ∈ M :: Ms, w0.heap.size ≤ k ∧ ¬ A1 k ∧ w.heap[k]? = some (.deferred (some [])))
    (hU : ∀ g, A1 g → ¬ w0.U g) (hR : Rounds w0 w) (hA : ∀ g, A0 g ↔ A1 g ∨ w0.U g ∨ g ∈ M :: Ms) (hJ : s.g.J A1 (fun g => Live η s.H g ∨ w0.U g ∨ g ∈ M :: Ms) w) (hy : if s.g.yl = true then ∀ g, A1 g → g < w0.heap.size → L0 g else A1 = w0.A) :
    Rel n [] (fun g => A1 g ∨ w0.U g ∨ g ∈ Ms) L0 w0 η s { a with defers := Ms.map mark } (w.putObj M (.deferred none)) ∧ (∀ k ∈ Ms, w0.heap.size ≤ k ∧ ¬ A1 k ∧ (w.putObj M (.deferred none)).heap[k]? = some (.deferred (some []))) ∧
      s.g.J A1 (fun g => Live η s.H g ∨ w0.U g ∨ g ∈ Ms) (w.putObj M (.deferred none)) := by
  have hc := putObj_cells (hM M (by simp)).2.2 (.deferred none)
  have hs : w.heap.size ≤ (w.putObj M (.deferred none)).heap.size := by simp
  have hM' : ∀ k ∈ Ms, w0.heap.size ≤ k ∧ ¬ A1 k ∧ (w.putObj M (.deferred none)).heap[k]? = some (.deferred (some [])) := fun k hk => ⟨(hM k (by simp [hk])).1, (hM k (by simp [hk])).2.1, by
    rw [World.putObj_heap_other (fun e => by subst e; exact (List.nodup_cons.1 hn).1 hk)]; exact (hM k (by simp [hk])).2.2⟩
  have hJ' : s.g.J A1 (fun g => Live η s.H g ∨ w0.U g ∨ g ∈ Ms) (w.putObj M (.deferred none)) := by
    refine s.g.cl _ _ _ _ _ hJ ⟨rfl, rfl, rfl, hs, fun g _ hg => World.putObj_heap_other fun e => hg (by subst e; exact .inr (.inr (by simp)))⟩ fun g hg => .inl ?_
    rcases hg with hg | hg | hg
    · exact .inl hg
    · exact .inr (.inl hg)
    · exact .inr (.inr (by simp [hg]))
  have hsub : ∀ g, (A1 g ∨ w0.U g ∨ g ∈ Ms) → A0 g := fun g hg => (hA g).2 (by
    rcases hg with hg | hg | hg
    · exact .inl hg
    · exact .inr (.inl hg)
    · exact .inr (.inr (by simp [hg])))
  have k : Keeps (Av A0 η s.H) (Av (fun g => A1 g ∨ w0.U g ∨ g ∈ Ms) η s.H) (w.putObj M (.deferred none)) (w.putObj M (.deferred none)) := ⟨Nat.le_refl _, fun _ _ _ => rfl, fun g _ hg => hg.imp (hsub g) id⟩
  have hp := rel_keepH hs hc h.hp
  have hR' : Rounds w0 (w.putObj M (.deferred none)) := rounds_step hR fun q hq => World.putObj_heap_other fun e => by
    subst e; rw [(hM q (by simp)).2.2] at hq; obtain ⟨r, hq⟩ := hq; cases hq
  refine ⟨⟨h.size, h.few, h.hd, fun i => RepV.step k _ _ (fun _ _ => rfl) (rep_keepV hs hc _ _ (h.tmp i)), ⟨fun b B hb => ?_, h.hp.inj, fun g hg => hp.av g (hsub g hg)⟩, ⟨h.fr.os, h.fr.tape, h.fr.output, Nat.le_trans h.fr.size hs, ?_⟩, h.old, ⟨A1, Ms, by simp, (List.nodup_cons.1 hn).2, hM', hU, hR', fun g => Iff.rfl, hJ', hy⟩⟩, hM', hJ'⟩
  · have := RelBlk.step (K := []) (η' := η) (η := η) k (fun _ _ => rfl) (fun _ _ _ => rfl) (hp.blk b B hb)
    rwa [bclean_nil] at this
  · intro q hq hqL
    rw [World.putObj_heap_other (fun e => by subst e; have h1 : w0.heap.size ≤ q := (hM q (by simp)).1; have h2 : q < w0.heap.size := hq; omega)]; exact h.fr.heap q hq hqL

/-- All marks are taken over. -/
theorem leaves_marks {F : Fence} {m : Nat} {fn : Func} {R : Ending → World → Prop} {tmps : Array Value} {A1 : Nat → Prop} (hU : ∀ g, A1 g → ¬ w0.U g) (hy : if s.g.yl = true then ∀ g, A1 g → g < w0.heap.size → L0 g else A1 = w0.A)
    (hend : ∀ a' w', a'.tmps = tmps → Rel n [] (fun g => A1 g ∨ w0.U g ∨ g ∈ ([] : List Nat)) L0 w0 η s a' w' → s.g.J A1 (fun g => Live η s.H g ∨ w0.U g ∨ g ∈ ([] : List Nat)) w' → ∃ v, (results fn tmps).run P w' = .ok v w' ∧ R (.returned v) w') :
    ∀ (Ms : List Nat) (A0 : Nat → Prop) (a' : Act) (w' : World), a'.tmps = tmps → Ms.Nodup → (∀ k ∈ Ms, w0.heap.size ≤ k ∧ ¬ A1 k ∧ w'.heap[k]? = some (.deferred (some []))) → Rounds w0 w' →
      (∀ g, A0 g ↔ A1 g ∨ w0.U g ∨ g ∈ Ms) → s.g.J A1 (fun g => Live η s.H g ∨ w0.U g ∨ g ∈ Ms) w' → Rel n [] A0 L0 w0 η s a' w' → LeavesInM F m P fn tmps R (Ms.map mark) .returning w'
  | [], A0, a', w', e3, _, _, _, hA, hJ, hr => by
    have e : A0 = fun g => A1 g ∨ w0.U g ∨ g ∈ ([] : List Nat) := funext fun g => propext (hA g)
    subst e
    obtain ⟨v, h1, h2⟩ := hend a' w' e3 hr hJ
    exact ⟨v, h1, h2⟩
  | M :: Ms, A0, a', w', e3, hn, hM, hR, hA, hJ, hr => by
    refine ⟨by simp, .inl ⟨M, _, rfl, run_takeDeferred (hM M (by simp)).2.2, ?_⟩⟩
    obtain ⟨h1, h2, h3⟩ := hr.shut hn hM hU hR hA hJ hy
    exact leaves_marks hU hy hend Ms _ { a' with defers := Ms.map mark } _ e3 (List.nodup_cons.1 hn).2 h2 (rounds_step hR fun q hq => World.putObj_heap_other fun e => by
      subst e; rw [(hM q (by simp)).2.2] at hq; obtain ⟨r, hq⟩ := hq; cases hq) (fun _ => Iff.rfl) h3 h1

/-- A contract out of the body's walk. -/
theorem HC.of_body (hT : TabOK P T) {f : FuncId} {fn : Func} {c : Code} {hin hout : List (Nat × ABlk)} {l : List AVal} {r : AVal} {res : List ResultVar} (hf : P.funcs[f]? = some fn) (hb : fn.body = some c) (hname : (fn.name == "runtime.NumGoroutine") = false) (hres : fn.results = res.toArray)
    {nt : Nat} (hnt : fn.ntmps = nt) (hfew : nt ≤ 1000) (hl : l.length ≤ nt) (h : AW P none nt c (apost T res hout r) ⟨fr (enumF 0 l), hpGet hin, gt⟩) : HC P f hin l hout r := by
  refine ⟨⟨fn, hf, by simp [hb], hname⟩, fun η A0 w vs hA hv => ?_⟩
  subst hnt
  have hlen := hv.length
  have hrel : Rel fn.ntmps [] A0 (Live η (hpGet hin)) { toWorld := w, ηh := η, A := A0 } η ⟨fr (enumF 0 l), hpGet hin, gt⟩ { tmps := vs ++ Array.replicate (fn.ntmps - vs.size) undef, defers := [] } w := by
    refine ⟨by simp; simp at hlen; omega, hfew, fun b _ _ => rfl, fun i => ?_, hA, Fr.refl _ _, fun g hg _ => hg, ⟨A0, [], rfl, List.nodup_nil, by simp, fun _ _ h => h, (fun _ _ h => by cases h), fun g => by simp, trivial, rfl⟩⟩
    by_cases hi : i < l.length
    · have hx : l[i]? = some l[i] := by simp [hi]
      obtain ⟨v, hv1, hv2⟩ := hv.get hx
      have e1 : l.getD i .un = l[i] := by simp [List.getD, hx]
      have hvi : vs[i]? = some v := by simpa using hv1
      have e2 : (vs ++ Array.replicate (fn.ntmps - vs.size) undef).getD i undef = v := by
        rw [Array.getD_eq_getD_getElem?, Array.getElem?_append_left (Array.getElem?_eq_some_iff.1 hvi).1, hvi]; rfl
      show RepV η w (Av A0 η (hpGet hin)) (fr (enumF 0 l) i) (Array.getD _ i undef)
      rw [fr_enum, Nat.sub_zero, if_neg (by omega), e1, e2]
      exact hv2
    · have : l.getD i .un = .un := by simp [List.getD, List.getElem?_eq_none (Nat.le_of_not_lt hi)]
      show RepV η w (Av A0 η (hpGet hin)) (fr (enumF 0 l) i) (Array.getD _ i undef)
      rw [fr_enum, Nat.sub_zero, if_neg (by omega), this]; unfold RepV; trivial
  have hwp := h 0 [] A0 _ _ η _ w rfl hrel
  have hwide : (fen none) = Fence.wide := rfl
  rw [hwide] at hwp
  refine callsIn_wide.1 (callsIn_of_wp_marks (n := 0) hf hb trivial (wpIn_mono hwp ?_) rfl)
  rintro e a' w' ⟨A1, η', s', hQ, hR⟩
  have fin : (s'.g = gt ∧ ∃ (D N : List Nat) (rn : List (Nat × Nat)), namesOK (look rn) D N hout = true ∧ aresK T s' res fun xs => LeV s'.H D N (look rn) (one xs) r ∧ LeH s'.H D N (look rn) hout) →
      LeavesInM Fence.wide 0 P fn a'.tmps (fun e w' => ∃ v0 η0, e = .returned v0 ∧ Gave η A0 w hin hout r v0 η0 w') a'.defers .returning w' := by
    rintro ⟨hg, D, N, rn, hok, hk⟩
    obtain ⟨A2, Ms, hMs, hMn, hM, hU2, hRd, hA2, hJ, hA3⟩ := hR.gh
    have hA4 : A2 = A0 := by have h6 := hA3; rw [hg] at h6; exact h6
    subst hA4
    obtain ⟨xs, hx, hle, hlh⟩ := aresK_ares hk
    have hn := namesIn_of hok
    have hnh := namesHd_of hok
    rw [List.append_nil] at hMs
    rw [hMs]
    refine leaves_marks (s := s') (η := η') (w0 := { toWorld := w, ηh := η, A := A2 }) (A1 := A2) hU2 hA3 ?_ Ms A1 a' w' rfl hMn hM hRd hA2 hJ hR
    intro a2 w2 e3 hR2 _
    obtain ⟨vs', hrun, hvs⟩ := run_res hT hR2 res xs hx
    rw [e3] at hrun
    have hlive : ∀ g, Live (newη η' N (look rn)) (hpGet hout) g → Live η' s'.H g := fun g hg => by
      obtain ⟨c, B, B0, _, _, k3, k4, _, k6⟩ := le_live hlh hg
      exact ⟨_, B0, k3, k4, k6⟩
    obtain ⟨r1, r2, _⟩ := le_rel (A1 := A2) hR2.hp hn hlh (fun g hg => (hR2.hp.av g (.inl hg)).1) (fun g hg => .inl (.inl hg)) (fun g b e t xs hg hb _ hbl => (hR2.hp.av g (.inl hg)).2 ⟨b, _, hb, rfl, hbl⟩) (fun g hg hl => (hR2.hp.av g (.inl hg)).2 (hlive g hl))
    refine ⟨if hs : vs'.toArray.size = 1 then vs'.toArray[0] else .tuple vs'.toArray, ?_, _, newη η' N (look rn), rfl, ?_⟩
    · rw [results_eq, hres, List.mapM_toArray]
      simp only [Sem.run_bind, Sem.run_map, hrun, Result.andThen_ok, Sem.run_pure]
    · refine ⟨fun b hb hk => ?_, r1, r2 _ _ _ hle (one_rep hvs), hR2.fr, fun g hg hlt => hR2.old g (hlive g hg) hlt⟩
      obtain ⟨B, hB⟩ := hasKey_get.1 hk
      rcases LeH.get hlh hB with ⟨hc, _⟩ | ⟨hc, B0, hB0, _⟩
      · exact absurd hb (hnh.nil b B hB hc)
      · have e := hnh.hand b B hB hc hb
        have : newη η' N (look rn) b = η' b := by
          unfold newη
          rw [hc, e]; simp
        rw [this]
        rw [e] at hB0
        exact hR2.hd b hb (by rw [hB0]; rfl)
  cases e with
  | normal => exact fin hQ
  | ret => exact fin hQ
  | _ => exact hQ.elim

end
end Go.Proofs.Ytcijihofjcfpoab
