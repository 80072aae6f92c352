/-
  The abstract machine, 17: loops and joins beside what pure functions do. No program is named here.
-/
import Derived.Test.YtcijihofjcfpoabAv16
namespace Go.Proofs.Ytcijihofjcfpoab
open Go.RowKit

set_option linter.constructorNameAsVariable false

/-! ### Pure functions -/

/-- What a round of a loop leads to. -/
inductive Step (S R : Type) where
  | next (s : S)
  | done (r : R)

instance instInK (k : IntKind) (n : Int) : Decidable (InK k n) := by unfold InK; infer_instance

def ck {α : Type} (c : Prop) [Decidable c] (k : Option α) : Option α := if c then k else none

theorem ck_some {α : Type} {c : Prop} [Decidable c] {k : Option α} {r : α} : ck c k = some r ↔ c ∧ k = some r := by
  unfold ck
  split
  · rename_i h; simp [h]
  · rename_i h; simp [h]
theorem ck_eq {α : Type} {c : Prop} [Decidable c] {k : Option α} (h : c) : ck c k = k := if_pos h

variable {S R : Type}

def whileN (body : S → Option (Step S R)) : Nat → S → Option R
  | 0, _ => none
  | n + 1, s => match body s with
    | none => none
    | some (.next s') => whileN body n s'
    | some (.done r) => some r

theorem whileN_up {body : S → Option (Step S R)} : ∀ {n m : Nat} {s : S} {r : R}, whileN body n s = some r → n ≤ m → whileN body m s = some r
  | 0, _, _, _, h, _ => by cases h
  | n + 1, 0, _, _, _, hm => by omega
  | n + 1, m + 1, s, r, h, hm => by
    unfold whileN at *
    cases hb : body s with
    | none => simp [hb] at h
    | some x =>
      cases x with
      | next s' => simp only [hb] at h ⊢; exact whileN_up h (by omega)
      | done r' => simp only [hb] at h ⊢; exact h

theorem whileN_one {body : S → Option (Step S R)} {n m : Nat} {s : S} {r r' : R} (h : whileN body n s = some r) (h' : whileN body m s = some r') : r = r' := by
  have h1 := whileN_up h (Nat.le_max_left n m)
  have h2 := whileN_up h' (Nat.le_max_right n m)
  rw [h1] at h2; injection h2

open Classical in
/-- Rounds, as many as it takes. -/
noncomputable def whileO (body : S → Option (Step S R)) (s : S) : Option R :=
  if h : ∃ r n, whileN body n s = some r then some h.choose else none

theorem whileO_of {body : S → Option (Step S R)} {n : Nat} {s : S} {r : R} (h : whileN body n s = some r) : whileO body s = some r := by
  have hx : ∃ r n, whileN body n s = some r := ⟨r, n, h⟩
  unfold whileO
  rw [dif_pos hx]
  obtain ⟨m, hm⟩ := hx.choose_spec
  rw [whileN_one hm h]

theorem whileO_to {body : S → Option (Step S R)} {s : S} {r : R} (h : whileO body s = some r) : ∃ n, whileN body n s = some r := by
  unfold whileO at h
  split at h
  · rename_i hx
    injection h with h
    obtain ⟨m, hm⟩ := hx.choose_spec
    exact ⟨m, by rw [h] at hm; exact hm⟩
  · cases h

/-- The states at which the rounds begin are known. -/
theorem whileO_seq {body : S → Option (Step S R)} (σ : Nat → S) (n : Nat) {r : R} (h : ∀ k, k < n → body (σ k) = some (.next (σ (k + 1)))) (hd : body (σ n) = some (.done r)) : whileO body (σ 0) = some r := by
  have : ∀ k, k ≤ n → whileN body (n - k + 1) (σ k) = some r := by
    intro k hk
    obtain ⟨d, hd'⟩ : ∃ d, n - k = d := ⟨_, rfl⟩
    induction d generalizing k with
    | zero =>
      have : k = n := by omega
      subst this
      simp [whileN, hd]
    | succ d ih =>
      have := ih (k + 1) (by omega) (by omega)
      rw [hd']
      unfold whileN
      rw [h k (by omega)]
      simp only
      rw [show n - (k + 1) = d by omega] at this
      exact this
  exact whileO_of (this 0 (Nat.zero_le _))

/-- An invariant, and what becomes smaller. -/
theorem whileO_inv {body : S → Option (Step S R)} (I : S → Prop) (μ : S → Nat) (G : R → Prop) (h : ∀ s, I s → (∃ s', body s = some (.next s') ∧ I s' ∧ μ s' < μ s) ∨ (∃ r, body s = some (.done r) ∧ G r)) : ∀ s, I s → ∃ r, whileO body s = some r ∧ G r := by
  have : ∀ m s, μ s = m → I s → ∃ r n, whileN body n s = some r ∧ G r := by
    intro m
    induction m using Nat.strongRecOn with
    | _ m ih =>
      intro s hs hI
      rcases h s hI with ⟨s', h1, h2, h3⟩ | ⟨r, h1, h2⟩
      · obtain ⟨r, n, h4, h5⟩ := ih (μ s') (hs ▸ h3) s' rfl h2
        exact ⟨r, n + 1, by simp [whileN, h1, h4], h5⟩
      · exact ⟨r, 1, by simp [whileN, h1], h2⟩
  intro s hI
  obtain ⟨r, n, h1, h2⟩ := this _ s rfl hI
  exact ⟨r, whileO_of h1, h2⟩

/-! ### Code -/
section
variable {P : Program} {ro : Option Nat} {n : Nat} {Q : Exit → ASt → Prop} {s : ASt} {K : ASt → Prop}

theorem AW.loopO {c : Code} (body : S → Option (Step S R)) (inv : S → ASt) (s0 : S) {r : R} (hr : whileO body s0 = some r) (h0 : Wk n s (inv s0))
    (round : ∀ st x, body st = some x → (∀ r', x = .done r' → r' = r) → AW P ro n c (athen (fun s'' => ∃ st', x = .next st' ∧ Wk n s'' (inv st')) Q) (inv st)) : AW P ro n (.loop c) Q s := by
  obtain ⟨m, hm⟩ := whileO_to hr
  refine AW.loop (ι := Nat × S) (fun p => inv p.2) (fun p => whileN body p.1 p.2 = some r) (fun p => p.1) (m, s0) h0 hm ?_
  rintro ⟨k, st⟩ hk
  simp only at hk
  cases k with
  | zero => cases hk
  | succ k =>
    unfold whileN at hk
    cases hb : body st with
    | none => simp [hb] at hk
    | some x =>
      refine AW.mono (round st x hb ?_) ?_
      · rintro r' rfl
        simp only [hb] at hk
        injection hk
      · intro e s'' hq
        cases e with
        | normal =>
          obtain ⟨st', rfl, hw⟩ := hq
          simp only [hb] at hk
          exact ⟨(k, st'), hk, Nat.lt_succ_self _, hw⟩
        | _ => exact hq

theorem athen_n {e : Code} (h : AW P ro n e Q s) : athen (AW P ro n e Q) Q .normal s := h
theorem athen_e {id : Nat} (h : Q (.exit id) s) : athen K Q (.exit id) s := h
theorem athen_r (h : Q .ret s) : athen K Q .ret s := h
theorem ablock_n {id : Nat} (h : Q .normal s) : ablock id Q .normal s := h
theorem ablock_r {id : Nat} (h : Q .ret s) : ablock id Q .ret s := h
theorem ablock_s {id : Nat} (h : Q .normal s) : ablock id Q (.exit id) s := by
  show if id = id then Q .normal s else Q (.exit id) s
  rw [if_pos rfl]; exact h
theorem ablock_o {id id' : Nat} (hne : id' ≠ id) (h : Q (.exit id') s) : ablock id Q (.exit id') s := by
  show if id' = id then Q .normal s else Q (.exit id') s
  rw [if_neg hne]; exact h

/-- Where several ways come together. -/
theorem AW.have1 {B : Type} {x z : Code} (p : B → Prop) (out : B → ASt) (hk : ∀ b, p b → AW P ro n z Q (out b)) (h : (∀ b, p b → AW P ro n z Q (out b)) → AW P ro n (.seq x z) Q s) : AW P ro n (.seq x z) Q s := h hk
theorem AW.have2 {B : Type} {x y z : Code} (p : B → Prop) (out : B → ASt) (hk : ∀ b, p b → AW P ro n z Q (out b)) (h : (∀ b, p b → AW P ro n z Q (out b)) → AW P ro n (.seq x (.seq y z)) Q s) : AW P ro n (.seq x (.seq y z)) Q s := h hk
theorem AW.have3 {B : Type} {x y v z : Code} (p : B → Prop) (out : B → ASt) (hk : ∀ b, p b → AW P ro n z Q (out b)) (h : (∀ b, p b → AW P ro n z Q (out b)) → AW P ro n (.seq x (.seq y (.seq v z))) Q s) : AW P ro n (.seq x (.seq y (.seq v z))) Q s := h hk
theorem AW.have4 {B : Type} {x y v u z : Code} (p : B → Prop) (out : B → ASt) (hk : ∀ b, p b → AW P ro n z Q (out b)) (h : (∀ b, p b → AW P ro n z Q (out b)) → AW P ro n (.seq x (.seq y (.seq v (.seq u z)))) Q s) : AW P ro n (.seq x (.seq y (.seq v (.seq u z)))) Q s := h hk
theorem AW.have5 {B : Type} {x y v u t z : Code} (p : B → Prop) (out : B → ASt) (hk : ∀ b, p b → AW P ro n z Q (out b)) (h : (∀ b, p b → AW P ro n z Q (out b)) → AW P ro n (.seq x (.seq y (.seq v (.seq u (.seq t z))))) Q s) : AW P ro n (.seq x (.seq y (.seq v (.seq u (.seq t z))))) Q s := h hk
theorem AW.have6 {B : Type} {x y v u t t' z : Code} (p : B → Prop) (out : B → ASt) (hk : ∀ b, p b → AW P ro n z Q (out b)) (h : (∀ b, p b → AW P ro n z Q (out b)) → AW P ro n (.seq x (.seq y (.seq v (.seq u (.seq t (.seq t' z)))))) Q s) : AW P ro n (.seq x (.seq y (.seq v (.seq u (.seq t (.seq t' z)))))) Q s := h hk

/-! ### Calls -/
section
variable {σ : Nat → AVal} {H : AHeap} {gg : Gh} {T : Tab} {ops l : List Oper} {o : Oper} {c : Call} {f : Operand} {g : FuncId} {p cp lx : List AVal} {r : AVal} {hin hout : List (Nat × ABlk)}

theorem stepCall {K : Eff → Prop} (ho : o.op = .call c) (hc : c.callee = .value f) (hf : s.ev f = .fn (.func g) p cp) (D : List Nat) (rn : List (Nat × Nat)) (hcon : HC P g hin lx hout r)
    (hok : callOK (o.dst.getD 0) D rn hin hout r (p ++ c.args.toList.map s.ev ++ cp) = true) (hle : LeL s.H D [] (look rn) (p ++ c.args.toList.map s.ev ++ cp) lx) (hlh : LeH s.H D [] (look rn) hin)
    (hK : K { v := r.ren (back (o.dst.getD 0) rn hin), kill := lostH rn hout hin ++ newH (o.dst.getD 0) hin hout, hp := renH (back (o.dst.getD 0) rn hin) hout ++ (if (r.dry && dryH hout) = true then [] else rest s.H D) }) : stepOp P T s o K := by
  unfold stepOp
  rw [ho]
  simp only [hc]
  unfold stCall
  rw [hf]
  exact ⟨D, rn, hin, lx, hout, r, hcon, hok, hle, hlh, hK⟩

theorem AO.call (hT : TabOK P T) (hd : dstOK n [o] = true) (ho : o.op = .call c) (hc : c.callee = .value f) (hf : (ASt.mk σ H gg).ev f = .fn (.func g) p cp) (hg : ∀ K, stepOp P T (ASt.mk σ H gg) o K → gstep P T ops (ASt.mk σ H gg) o K) (D : List Nat) (rn : List (Nat × Nat)) (hcon : HC P g hin lx hout r)
    (hok : callOK (o.dst.getD 0) D rn hin hout r (p ++ c.args.toList.map (ASt.mk σ H gg).ev ++ cp) = true) (hle : LeL H D [] (look rn) (p ++ c.args.toList.map (ASt.mk σ H gg).ev ++ cp) lx) (hlh : LeH H D [] (look rn) hin)
    (l' : List (Nat × AVal)) (h' : List (Nat × ABlk))
    (hK : fits l' h' gg ((ASt.mk σ H gg).app o.dst { v := r.ren (back (o.dst.getD 0) rn hin), kill := lostH rn hout hin ++ newH (o.dst.getD 0) hin hout, hp := renH (back (o.dst.getD 0) rn hin) hout ++ (if (r.dry && dryH hout) = true then [] else rest H D) }))
    (h2 : AO P ro n ops l Q ⟨fr l', hpGet h', gg⟩) : AO P ro n ops (o :: l) Q ⟨σ, H, gg⟩ :=
  AO.segF hT 1 hd l' h' (hg _ (stepCall ho hc hf D rn hcon hok hle hlh hK)) h2

/-- A call in a region that draws its order. -/
theorem adops.call {X F : List (Nat × List Nat)} {i : Nat} {K : ASt → Prop} (hs : match lookL F i with | some φ => seesB s φ o = true | none => True) (ho : o.op = .call c) (hc : c.callee = .value f) (hf : s.ev f = .fn (.func g) p cp) (hg : ∀ K, stepOp P T s o K → gstep P T ops s o K) (D : List Nat) (rn : List (Nat × Nat)) (hcon : HC P g hin lx hout r)
    (hok : callOK (o.dst.getD 0) D rn hin hout r (p ++ c.args.toList.map s.ev ++ cp) = true) (hle : LeL s.H D [] (look rn) (p ++ c.args.toList.map s.ev ++ cp) lx) (hlh : LeH s.H D [] (look rn) hin)
    (hX : effB X F i { v := r.ren (back (o.dst.getD 0) rn hin), kill := lostH rn hout hin ++ newH (o.dst.getD 0) hin hout, hp := renH (back (o.dst.getD 0) rn hin) hout ++ (if (r.dry && dryH hout) = true then [] else rest s.H D) } = true)
    (hK : adops P T ops X F (i + 1) l (s.app o.dst { v := r.ren (back (o.dst.getD 0) rn hin), kill := lostH rn hout hin ++ newH (o.dst.getD 0) hin hout, hp := renH (back (o.dst.getD 0) rn hin) hout ++ (if (r.dry && dryH hout) = true then [] else rest s.H D) }) K) :
    adops P T ops X F i (o :: l) s K := by
  unfold adops
  exact ⟨hs, hg _ (stepCall ho hc hf D rn hcon hok hle hlh ⟨hX, hK⟩)⟩

theorem adops_nil {X F : List (Nat × List Nat)} {i : Nat} {K : ASt → Prop} (h : K s) : adops P T ops X F i [] s K := h

end
end
end Go.Proofs.Ytcijihofjcfpoab
