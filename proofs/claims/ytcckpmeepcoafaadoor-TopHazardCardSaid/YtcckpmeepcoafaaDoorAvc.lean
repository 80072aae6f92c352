/-
  The abstract machine (Av17, Av18, Av19, Av20, Av21, Av22, Av23, Av24). No program is named here.
-/
import Derived.Test.YtcckpmeepcoafaaDoorAvb
import Derived.RangeFuncNested
import Derived.RangeFuncBound
import Derived.RangeFuncCalls
import Derived.WalkSpells
import Derived.Maps.Keyed
import Derived.MapKept
import Derived.ChangeMaps5
import Derived.WideKeyPair
/-! The abstract machine, 17: loops and joins beside what pure functions do. No program is named here. -/
namespace Go.Proofs.YtcckpmeepcoafaaDoor
open Go.RowKit

set_option linter.constructorNameAsVariable false

/-! ### Pure functions -/

/-- What a round of a loop leads to. -/
inductive Step (S R : Type) where
  | next (s : S)
  | done (r : R)

instance instInK (k : IntKind) (n : Int) : Decidable (InK k n) := by unfold InK; infer_instance

def ck {α : Type} (c : Prop) [Decidable c] (k : Option α) : Option α := if c then k else none

theorem ck_some {α : Type} {c : Prop} [Decidable c] {k : Option α} {r : α} : ck c k = some r ↔ c ∧ k = some r := by
  unfold ck
  split
  · rename_i h; simp [h]
  · rename_i h; simp [h]
theorem ck_eq {α : Type} {c : Prop} [Decidable c] {k : Option α} (h : c) : ck c k = k := if_pos h

variable {S R : Type}

def whileN (body : S → Option (Step S R)) : Nat → S → Option R
  | 0, _ => none
  | n + 1, s => match body s with
    | none => none
    | some (.next s') => whileN body n s'
    | some (.done r) => some r

theorem whileN_up {body : S → Option (Step S R)} : ∀ {n m : Nat} {s : S} {r : R}, whileN body n s = some r → n ≤ m → whileN body m s = some r
  | 0, _, _, _, h, _ => by cases h
  | n + 1, 0, _, _, _, hm => by omega
  | n + 1, m + 1, s, r, h, hm => by
    unfold whileN at *
    cases hb : body s with
    | none => simp [hb] at h
    | some x =>
      cases x with
      | next s' => simp only [hb] at h ⊢; exact whileN_up h (by omega)
      | done r' => simp only [hb] at h ⊢; exact h

theorem whileN_one {body : S → Option (Step S R)} {n m : Nat} {s : S} {r r' : R} (h : whileN body n s = some r) (h' : whileN body m s = some r') : r = r' := by
  have h1 := whileN_up h (Nat.le_max_left n m)
  have h2 := whileN_up h' (Nat.le_max_right n m)
  rw [h1] at h2; injection h2

open Classical in
/-- Rounds, as many as it takes. -/
noncomputable def whileO (body : S → Option (Step S R)) (s : S) : Option R :=
  if h : ∃ r n, whileN body n s = some r then some h.choose else none

theorem whileO_of {body : S → Option (Step S R)} {n : Nat} {s : S} {r : R} (h : whileN body n s = some r) : whileO body s = some r := by
  have hx : ∃ r n, whileN body n s = some r := ⟨r, n, h⟩
  unfold whileO
  rw [dif_pos hx]
  obtain ⟨m, hm⟩ := hx.choose_spec
  rw [whileN_one hm h]

theorem whileO_to {body : S → Option (Step S R)} {s : S} {r : R} (h : whileO body s = some r) : ∃ n, whileN body n s = some r := by
  unfold whileO at h
  split at h
  · rename_i hx
    injection h with h
    obtain ⟨m, hm⟩ := hx.choose_spec
    exact ⟨m, by rw [h] at hm; exact hm⟩
  · cases h

/-- The states at which the rounds begin are known. -/
theorem whileO_seq {body : S → Option (Step S R)} (σ : Nat → S) (n : Nat) {r : R} (h : ∀ k, k < n → body (σ k) = some (.next (σ (k + 1)))) (hd : body (σ n) = some (.done r)) : whileO body (σ 0) = some r := by
  have : ∀ k, k ≤ n → whileN body (n - k + 1) (σ k) = some r := by
    intro k hk
    obtain ⟨d, hd'⟩ : ∃ d, n - k = d := ⟨_, rfl⟩
    induction d generalizing k with
    | zero =>
      have : k = n := by omega
      subst this
      simp [whileN, hd]
    | succ d ih =>
      have := ih (k + 1) (by omega) (by omega)
      rw [hd']
      unfold whileN
      rw [h k (by omega)]
      simp only
      rw [show n - (k + 1) = d by omega] at this
      exact this
  exact whileO_of (this 0 (Nat.zero_le _))

/-- An invariant, and what becomes smaller. -/
theorem whileO_inv {body : S → Option (Step S R)} (I : S → Prop) (μ : S → Nat) (G : R → Prop) (h : ∀ s, I s → (∃ s', body s = some (.next s') ∧ I s' ∧ μ s' < μ s) ∨ (∃ r, body s = some (.done r) ∧ G r)) : ∀ s, I s → ∃ r, whileO body s = some r ∧ G r := by
  have : ∀ m s, μ s = m → I s → ∃ r n, whileN body n s = some r ∧ G r := by
    intro m
    induction m using Nat.strongRecOn with
    | _ m ih =>
      intro s hs hI
      rcases h s hI with ⟨s', h1, h2, h3⟩ | ⟨r, h1, h2⟩
      · obtain ⟨r, n, h4, h5⟩ := ih (μ s') (hs ▸ h3) s' rfl h2
        exact ⟨r, n + 1, by simp [whileN, h1, h4], h5⟩
      · exact ⟨r, 1, by simp [whileN, h1], h2⟩
  intro s hI
  obtain ⟨r, n, h1, h2⟩ := this _ s rfl hI
  exact ⟨r, whileO_of h1, h2⟩

/-! ### Code -/
section
variable {P : Program} {ro : Option Nat} {n : Nat} {Q : Exit → ASt → Prop} {s : ASt} {K : ASt → Prop}

theorem AW.loopO {c : Code} (body : S → Option (Step S R)) (inv : S → ASt) (s0 : S) {r : R} (hr : whileO body s0 = some r) (h0 : Wk n s (inv s0))
    (round : ∀ st x, body st = some x → (∀ r', x = .done r' → r' = r) → AW P ro n c (athen (fun s'' => ∃ st', x = .next st' ∧ Wk n s'' (inv st')) Q) (inv st)) : AW P ro n (.loop c) Q s := by
  obtain ⟨m, hm⟩ := whileO_to hr
  refine AW.loop (ι := Nat × S) (fun p => inv p.2) (fun p => whileN body p.1 p.2 = some r) (fun p => p.1) (m, s0) h0 hm ?_
  rintro ⟨k, st⟩ hk
  simp only at hk
  cases k with
  | zero => cases hk
  | succ k =>
    unfold whileN at hk
    cases hb : body st with
    | none => simp [hb] at hk
    | some x =>
      refine AW.mono (round st x hb ?_) ?_
      · rintro r' rfl
        simp only [hb] at hk
        injection hk
      · intro e s'' hq
        cases e with
        | normal =>
          obtain ⟨st', rfl, hw⟩ := hq
          simp only [hb] at hk
          exact ⟨(k, st'), hk, Nat.lt_succ_self _, hw⟩
        | _ => exact hq

theorem athen_n {e : Code} (h : AW P ro n e Q s) : athen (AW P ro n e Q) Q .normal s := h
theorem athen_e {id : Nat} (h : Q (.exit id) s) : athen K Q (.exit id) s := h
theorem athen_r (h : Q .ret s) : athen K Q .ret s := h
theorem ablock_n {id : Nat} (h : Q .normal s) : ablock id Q .normal s := h
theorem ablock_r {id : Nat} (h : Q .ret s) : ablock id Q .ret s := h
theorem ablock_s {id : Nat} (h : Q .normal s) : ablock id Q (.exit id) s := by
  show if id = id then Q .normal s else Q (.exit id) s
  rw [if_pos rfl]; exact h
theorem ablock_o {id id' : Nat} (hne : id' ≠ id) (h : Q (.exit id') s) : ablock id Q (.exit id') s := by
  show if id' = id then Q .normal s else Q (.exit id') s
  rw [if_neg hne]; exact h

/-- Where several ways come together. -/
theorem AW.have1 {B : Type} {x z : Code} (p : B → Prop) (out : B → ASt) (hk : ∀ b, p b → AW P ro n z Q (out b)) (h : (∀ b, p b → AW P ro n z Q (out b)) → AW P ro n (.seq x z) Q s) : AW P ro n (.seq x z) Q s := h hk
theorem AW.have2 {B : Type} {x y z : Code} (p : B → Prop) (out : B → ASt) (hk : ∀ b, p b → AW P ro n z Q (out b)) (h : (∀ b, p b → AW P ro n z Q (out b)) → AW P ro n (.seq x (.seq y z)) Q s) : AW P ro n (.seq x (.seq y z)) Q s := h hk
theorem AW.have3 {B : Type} {x y v z : Code} (p : B → Prop) (out : B → ASt) (hk : ∀ b, p b → AW P ro n z Q (out b)) (h : (∀ b, p b → AW P ro n z Q (out b)) → AW P ro n (.seq x (.seq y (.seq v z))) Q s) : AW P ro n (.seq x (.seq y (.seq v z))) Q s := h hk
theorem AW.have4 {B : Type} {x y v u z : Code} (p : B → Prop) (out : B → ASt) (hk : ∀ b, p b → AW P ro n z Q (out b)) (h : (∀ b, p b → AW P ro n z Q (out b)) → AW P ro n (.seq x (.seq y (.seq v (.seq u z)))) Q s) : AW P ro n (.seq x (.seq y (.seq v (.seq u z)))) Q s := h hk
theorem AW.have5 {B : Type} {x y v u t z : Code} (p : B → Prop) (out : B → ASt) (hk : ∀ b, p b → AW P ro n z Q (out b)) (h : (∀ b, p b → AW P ro n z Q (out b)) → AW P ro n (.seq x (.seq y (.seq v (.seq u (.seq t z))))) Q s) : AW P ro n (.seq x (.seq y (.seq v (.seq u (.seq t z))))) Q s := h hk
theorem AW.have6 {B : Type} {x y v u t t' z : Code} (p : B → Prop) (out : B → ASt) (hk : ∀ b, p b → AW P ro n z Q (out b)) (h : (∀ b, p b → AW P ro n z Q (out b)) → AW P ro n (.seq x (.seq y (.seq v (.seq u (.seq t (.seq t' z)))))) Q s) : AW P ro n (.seq x (.seq y (.seq v (.seq u (.seq t (.seq t' z)))))) Q s := h hk

/-! ### Calls -/
section
variable {σ : Nat → AVal} {H : AHeap} {gg : Gh} {T : Tab} {ops l : List Oper} {o : Oper} {c : Call} {f : Operand} {g : FuncId} {p cp lx : List AVal} {r : AVal} {hin hout : List (Nat × ABlk)}

theorem stepCall {K : Eff → Prop} (ho : o.op = .call c) (hc : c.callee = .value f) (hf : s.ev f = .fn (.func g) p cp) (D : List Nat) (rn : List (Nat × Nat)) (hcon : HC P g hin lx hout r)
    (hok : callOK (o.dst.getD 0) D rn hin hout r (p ++ c.args.toList.map s.ev ++ cp) = true) (hle : LeL s.H D [] (look rn) (p ++ c.args.toList.map s.ev ++ cp) lx) (hlh : LeH s.H D [] (look rn) hin)
    (hK : K { v := r.ren (back (o.dst.getD 0) rn hin), kill := lostH rn hout hin ++ newH (o.dst.getD 0) hin hout, hp := renH (back (o.dst.getD 0) rn hin) hout ++ (if (r.dry && dryH hout) = true then [] else rest s.H D) }) : stepOp P T s o K := by
  unfold stepOp
  rw [ho]
  simp only [hc]
  unfold stCall
  rw [hf]
  exact ⟨D, rn, hin, lx, hout, r, hcon, hok, hle, hlh, hK⟩

theorem AO.call (hT : TabOK P T) (hd : dstOK n [o] = true) (ho : o.op = .call c) (hc : c.callee = .value f) (hf : (ASt.mk σ H gg).ev f = .fn (.func g) p cp) (hg : ∀ K, stepOp P T (ASt.mk σ H gg) o K → gstep P T ops (ASt.mk σ H gg) o K) (D : List Nat) (rn : List (Nat × Nat)) (hcon : HC P g hin lx hout r)
    (hok : callOK (o.dst.getD 0) D rn hin hout r (p ++ c.args.toList.map (ASt.mk σ H gg).ev ++ cp) = true) (hle : LeL H D [] (look rn) (p ++ c.args.toList.map (ASt.mk σ H gg).ev ++ cp) lx) (hlh : LeH H D [] (look rn) hin)
    (l' : List (Nat × AVal)) (h' : List (Nat × ABlk))
    (hK : fits l' h' gg ((ASt.mk σ H gg).app o.dst { v := r.ren (back (o.dst.getD 0) rn hin), kill := lostH rn hout hin ++ newH (o.dst.getD 0) hin hout, hp := renH (back (o.dst.getD 0) rn hin) hout ++ (if (r.dry && dryH hout) = true then [] else rest H D) }))
    (h2 : AO P ro n ops l Q ⟨fr l', hpGet h', gg⟩) : AO P ro n ops (o :: l) Q ⟨σ, H, gg⟩ :=
  AO.segF hT 1 hd l' h' (hg _ (stepCall ho hc hf D rn hcon hok hle hlh hK)) h2

/-- A call in a region that draws its order. -/
theorem adops.call {X F : List (Nat × List Nat)} {i : Nat} {K : ASt → Prop} (hs : match lookL F i with | some φ => seesB s φ o = true | none => True) (ho : o.op = .call c) (hc : c.callee = .value f) (hf : s.ev f = .fn (.func g) p cp) (hg : ∀ K, stepOp P T s o K → gstep P T ops s o K) (D : List Nat) (rn : List (Nat × Nat)) (hcon : HC P g hin lx hout r)
    (hok : callOK (o.dst.getD 0) D rn hin hout r (p ++ c.args.toList.map s.ev ++ cp) = true) (hle : LeL s.H D [] (look rn) (p ++ c.args.toList.map s.ev ++ cp) lx) (hlh : LeH s.H D [] (look rn) hin)
    (hX : effB X F i { v := r.ren (back (o.dst.getD 0) rn hin), kill := lostH rn hout hin ++ newH (o.dst.getD 0) hin hout, hp := renH (back (o.dst.getD 0) rn hin) hout ++ (if (r.dry && dryH hout) = true then [] else rest s.H D) } = true)
    (hK : adops P T ops X F (i + 1) l (s.app o.dst { v := r.ren (back (o.dst.getD 0) rn hin), kill := lostH rn hout hin ++ newH (o.dst.getD 0) hin hout, hp := renH (back (o.dst.getD 0) rn hin) hout ++ (if (r.dry && dryH hout) = true then [] else rest s.H D) }) K) :
    adops P T ops X F i (o :: l) s K := by
  unfold adops
  exact ⟨hs, hg _ (stepCall ho hc hf D rn hcon hok hle hlh ⟨hX, hK⟩)⟩

theorem adops_nil {X F : List (Nat × List Nat)} {i : Nat} {K : ASt → Prop} (h : K s) : adops P T ops X F i [] s K := h

end
end
end Go.Proofs.YtcckpmeepcoafaaDoor

/-! The abstract machine, 21: ranges over functions, whole. No program is named here. -/
namespace Go.Proofs.YtcckpmeepcoafaaDoor
open Go.RowKit

set_option linter.constructorNameAsVariable false
set_option linter.unusedVariables false

mutual
/-- Back to the names before. -/
theorem unren_rep {η : Nat → Value} {w : World} {A : Nat → Prop} {f : Nat → Nat} : ∀ (x : AVal) (v : Value), RepV η w A (x.ren f) v → RepV (fun b => η (f b)) w A x v
  | .un, v, h => by unfold RepV; trivial
  | .int _ _, v, h => by unfold AVal.ren at h; unfold RepV at *; exact h
  | .bool _, v, h => by unfold AVal.ren at h; unfold RepV at *; exact h
  | .sl t xs, v, h => by unfold AVal.ren at h; unfold RepV at *; exact h
  | .dp t x o, v, h => by unfold AVal.ren at h; unfold RepV at *; exact h
  | .cv _, v, h => by unfold AVal.ren at h; unfold RepV at *; exact h
  | .own b, v, h => by unfold AVal.ren at h; unfold RepV at *; exact h
  | .bp b o, v, h => by unfold AVal.ren at h; unfold RepV at *; exact h
  | .ap b z i o, v, h => by unfold AVal.ren at h; unfold RepV at *; exact h
  | .vw b z i o, v, h => by unfold AVal.ren at h; unfold RepV at *; exact h
  | .one, v, h => by unfold AVal.ren at h; unfold RepV at *; exact h
  | .agg l, v, h => by
    unfold AVal.ren at h
    unfold RepV at *
    obtain ⟨vs, e, hl⟩ := h
    exact ⟨vs, e, unren_repL l _ hl⟩
  | .tup l, v, h => by
    unfold AVal.ren at h
    unfold RepV at *
    obtain ⟨vs, e, hl⟩ := h
    exact ⟨vs, e, unren_repL l _ hl⟩
  | .fn g p c, v, h => by
    unfold AVal.ren at h
    unfold RepV at *
    obtain ⟨ps, cs, e, hp, hc⟩ := h
    exact ⟨ps, cs, e, unren_repL p _ hp, unren_repL c _ hc⟩
theorem unren_repL {η : Nat → Value} {w : World} {A : Nat → Prop} {f : Nat → Nat} : ∀ (l : List AVal) (vs : List Value), RepVs η w A (AVal.renL f l) vs → RepVs (fun b => η (f b)) w A l vs
  | [], vs, h => by unfold AVal.renL at h; unfold RepVs at *; exact h
  | x :: l, vs, h => by
    unfold AVal.renL at h
    unfold RepVs at *
    obtain ⟨u, us, e, hx, hl⟩ := h
    exact ⟨u, us, e, unren_rep x u hx, unren_repL l us hl⟩
end

mutual
theorem ids_ren {f : Nat → Nat} : ∀ (x : AVal) {b : Nat}, b ∈ (x.ren f).ids → ∃ b0 ∈ x.ids, b = f b0
  | .un, b, h => by simp [AVal.ren, AVal.ids] at h
  | .int _ _, b, h => by simp [AVal.ren, AVal.ids] at h
  | .bool _, b, h => by simp [AVal.ren, AVal.ids] at h
  | .sl t xs, b, h => by simp [AVal.ren, AVal.ids] at h
  | .dp t x o, b, h => by simp [AVal.ren, AVal.ids] at h
  | .cv _, b, h => by simp [AVal.ren, AVal.ids] at h
  | .own c, b, h => by simp only [AVal.ren, AVal.ids, List.mem_singleton] at h; exact ⟨c, by simp [AVal.ids], h⟩
  | .bp c o, b, h => by simp only [AVal.ren, AVal.ids, List.mem_singleton] at h; exact ⟨c, by simp [AVal.ids], h⟩
  | .ap c z i o, b, h => by simp only [AVal.ren, AVal.ids, List.mem_singleton] at h; exact ⟨c, by simp [AVal.ids], h⟩
  | .vw c z i o, b, h => by simp only [AVal.ren, AVal.ids, List.mem_singleton] at h; exact ⟨c, by simp [AVal.ids], h⟩
  | .one, b, h => by simp [AVal.ren, AVal.ids] at h
  | .agg l, b, h => by
    simp only [AVal.ren, AVal.ids] at h ⊢
    exact ids_renL l h
  | .tup l, b, h => by
    simp only [AVal.ren, AVal.ids] at h ⊢
    exact ids_renL l h
  | .fn g p c, b, h => by
    simp only [AVal.ren, AVal.ids] at h ⊢
    rcases List.mem_append.1 h with h | h
    · obtain ⟨b0, h1, h2⟩ := ids_renL p h; exact ⟨b0, List.mem_append_left _ h1, h2⟩
    · obtain ⟨b0, h1, h2⟩ := ids_renL c h; exact ⟨b0, List.mem_append_right _ h1, h2⟩
theorem ids_renL {f : Nat → Nat} : ∀ (l : List AVal) {b : Nat}, b ∈ AVal.idsL (AVal.renL f l) → ∃ b0 ∈ AVal.idsL l, b = f b0
  | [], b, h => by simp [AVal.renL, AVal.idsL] at h
  | x :: l, b, h => by
    simp only [AVal.renL, AVal.idsL] at h ⊢
    rcases List.mem_append.1 h with h | h
    · obtain ⟨b0, h1, h2⟩ := ids_ren x h; exact ⟨b0, List.mem_append_left _ h1, h2⟩
    · obtain ⟨b0, h1, h2⟩ := ids_renL l h; exact ⟨b0, List.mem_append_right _ h1, h2⟩
end

theorem unren_blk {η : Nat → Value} {w : World} {A : Nat → Prop} {f : Nat → Nat} {B : ABlk} {h : Value} (hr : RelBlk η w A (B.ren f) h) : RelBlk (fun b => η (f b)) w A B h := by
  cases B with
  | box ty cs =>
    obtain ⟨g, vs, e, hw, hc⟩ := hr
    exact ⟨g, vs, e, hw, unren_repL cs _ hc⟩
  | obx ty cs =>
    have hlen : (AVal.renL f cs).length = cs.length := renL_len f cs
    rcases hr with ⟨hn, hn2⟩ | ⟨g, cap, vs, e1, hw, h1, h2, h3, h4⟩
    · exact .inl ⟨List.length_eq_zero_iff.1 (by rw [← hlen, hn]; rfl), hn2⟩
    · rw [hlen] at e1 h1 h4
      exact .inr ⟨g, cap, vs, e1, hw, h1, h2, h3, unren_repL cs _ h4⟩
  | arr e t xs => exact hr
  | imm t xs => exact hr
  | map ak ae kt vt xs => exact hr

def renF (f : Nat → Nat) : List (Nat × AVal) → List (Nat × AVal)
  | [] => []
  | (i, x) :: r => (i, x.ren f) :: renF f r
def idsF : List (Nat × AVal) → List Nat
  | [] => []
  | (_, x) :: r => x.ids ++ idsF r

theorem fr_renF (f : Nat → Nat) : ∀ (l : List (Nat × AVal)) (i : Nat), fr (renF f l) i = (fr l i).ren f
  | [], i => by simp [renF, fr, AVal.ren]
  | (j, x) :: r, i => by
    unfold renF fr
    split
    · rfl
    · exact fr_renF f r i
theorem idsF_fr : ∀ {l : List (Nat × AVal)} {i b : Nat}, b ∈ (fr l i).ids → b ∈ idsF l
  | [], i, b, h => by simp [fr, AVal.ids] at h
  | (j, x) :: r, i, b, h => by
    unfold fr at h
    unfold idsF
    split at h
    · exact List.mem_append_left _ h
    · exact List.mem_append_right _ (idsF_fr h)

theorem renH_at {f : Nat → Nat} : ∀ {h : List (Nat × ABlk)}, (∀ c ∈ keysH h, ∀ c' ∈ keysH h, f c = f c' → c = c') → ∀ {c : Nat} {B : ABlk}, hpGet h c = some B → hpGet (renH f h) (f c) = some (B.ren f)
  | [], _, c, B, hc => by cases hc
  | (d, E) :: r, hi, c, B, hc => by
    have hck := keysH_get hc
    unfold hpGet at hc
    unfold renH hpGet
    split at hc
    · rename_i e; subst e; injection hc with hc; subst hc; rw [if_pos rfl]
    · rename_i e
      rw [if_neg (fun e2 => e (hi c hck d (by simp [keysH]) e2))]
      exact renH_at (fun x hx y hy => hi x (by simp [keysH, hx]) y (by simp [keysH, hy])) hc

theorem renH_key {f : Nat → Nat} {h : List (Nat × ABlk)} {b : Nat} {B : ABlk} (hb : hpGet (renH f h) b = some B) : ∃ c ∈ keysH h, b = f c := by
  induction h with
  | nil => cases hb
  | cons p r ih =>
    obtain ⟨d, E⟩ := p
    unfold renH hpGet at hb
    split at hb
    · rename_i e; exact ⟨d, by simp [keysH], e⟩
    · obtain ⟨c, hc, e⟩ := ih hb; exact ⟨c, by simp [keysH, hc], e⟩

/-- Names go there and back. -/
def invOK (r r' : List (Nat × Nat)) (ns : List Nat) : Bool := ns.all fun c => look r' (look r c) == c
theorem invOK_mem {r r' : List (Nat × Nat)} {ns : List Nat} (h : invOK r r' ns = true) {c : Nat} (hc : c ∈ ns) : look r' (look r c) = c := by
  have := List.all_eq_true.1 h c hc
  simpa using this

/-- Names behind the loop. -/
def outOK (r r' : List (Nat × Nat)) (ks : List Nat) (ns : List Nat) : Bool := ns.all fun c => look r' (look r c) == c && (if 1000 ≤ c ∧ c < 2000 then look r c == c && look r' c == c && ks.contains c else true)

theorem outOK_mem {r r' : List (Nat × Nat)} {ks ns : List Nat} (h : outOK r r' ks ns = true) {c : Nat} (hc : c ∈ ns) : look r' (look r c) = c ∧ (handed c → look r c = c ∧ look r' c = c ∧ c ∈ ks) := by
  have := List.all_eq_true.1 h c hc
  simp only [Bool.and_eq_true, beq_iff_eq] at this
  refine ⟨this.1, fun hh => ?_⟩
  have h2 := this.2
  rw [if_pos (show 1000 ≤ c ∧ c < 2000 from hh)] at h2
  simp only [Bool.and_eq_true, beq_iff_eq, List.contains_iff_mem] at h2
  exact ⟨h2.1.1, h2.1.2, h2.2⟩

end Go.Proofs.YtcckpmeepcoafaaDoor

/-! The abstract machine, 23: a slice held against nil. No program is named here. -/
namespace Go.Proofs.YtcckpmeepcoafaaDoor
open Go.RowKit

set_option linter.constructorNameAsVariable false
set_option linter.unusedVariables false

section
variable {P : Program} {T : Tab} {n : Nat} {ro : Option Nat} {Q : Exit → ASt → Prop} {σ : Nat → AVal} {H : AHeap} {g : Gh} {o : Oper} {ops rs : List Oper}

/-- Slices held against nil: an empty one may be nil. -/
theorem AO.nilEq (hT : TabOK P T) (hd : dstOK n [o] = true) (hg : o.guard = none) {t e : TypeId} {i : TInfo} {x y : Operand} {z : Nat} {neg : Bool} (ho : o.op = .binOp (if neg then .neq else .eql) t x y z) (ht : T t = some i) (hi : i.desc = .sl e)
    {τ : Ty} {xs : List (El τ)} (hx : (ASt.mk σ H g).ev x = .sl τ xs) (hy : (ASt.mk σ H g).ev y = .cv (.slice none 0 0))
    (h1 : xs = [] → AO P ro n ops rs Q ((ASt.mk σ H g).app o.dst { v := .bool (!neg) })) (h2 : AO P ro n ops rs Q ((ASt.mk σ H g).app o.dst { v := .bool neg })) : AO P ro n ops (o :: rs) Q ⟨σ, H, g⟩ := by
  intro m ds A0 L0 w0 η a w hq0 hr
  unfold wpListIn
  have hwant : Region.wanted o (yielded ops.toArray a.tmps) = true := by simp [Region.wanted, hg]
  rw [if_pos hwant]
  have hdo : ∀ i, o.dst = some i → i < n := fun i hi => by
    unfold dstOK at hd
    simp only [List.all_cons, List.all_nil, Bool.and_true] at hd
    rw [hi] at hd; simpa using hd
  have hxv := hr.ev x
  have hyv := hr.ev y
  rw [hx] at hxv
  rw [hy] at hyv
  unfold RepV at hxv hyv
  obtain ⟨ad, c, hxv, hb⟩ := hxv
  have hu := (hT t i ht).slice hi
  cases neg with
  | false =>
    refine wpIn_value (u := .bool ad.isNone) (w' := w) (by simp [ho]) ?_ ?_
    · have := Lib.run_eql_slice_nil (P := P) w t e ad xs.length c 0 0 hu
      simp [execOp, ho, hxv, hyv, eqGuard, this]
    · cases ad with
      | none =>
        have hnil : xs = [] := by
          cases xs with
          | nil => rfl
          | cons z zs => obtain ⟨b, o', e1, _⟩ := hb.2.2 (by simp); cases e1
        exact h1 hnil m ds A0 L0 w0 η _ w hq0 (hr.pure hdo (by unfold RepV; rfl))
      | some ad => exact h2 m ds A0 L0 w0 η _ w hq0 (hr.pure hdo (by unfold RepV; rfl))
  | true =>
    refine wpIn_value (u := .bool (!ad.isNone)) (w' := w) (by simp [ho]) ?_ ?_
    · have := run_neq_slice_nil_any (P := P) w t e ad xs.length c 0 0 hu
      simp [execOp, ho, hxv, hyv, eqGuard, this]
    · cases ad with
      | none =>
        have hnil : xs = [] := by
          cases xs with
          | nil => rfl
          | cons z zs => obtain ⟨b, o', e1, _⟩ := hb.2.2 (by simp); cases e1
        exact h1 hnil m ds A0 L0 w0 η _ w hq0 (hr.pure hdo (by unfold RepV; rfl))
      | some ad => exact h2 m ds A0 L0 w0 η _ w hq0 (hr.pure hdo (by unfold RepV; rfl))

end
end Go.Proofs.YtcckpmeepcoafaaDoor

/-! The abstract machine, 24: maps of dry data. No program is named here. -/
namespace Go.Proofs.YtcckpmeepcoafaaDoor
open Go.RowKit Go.Maps

set_option linter.constructorNameAsVariable false
set_option linter.unusedVariables false
set_option linter.unusedSimpArgs false

/-! ### Lists of keys with values -/
section
variable {α β : Type} [DecidableEq α]

def mget (d : β) : List (α × β) → α → β
  | [], _ => d
  | (k, v) :: r, x => if k = x then v else mget d r x
def mhas : List (α × β) → α → Bool
  | [], _ => false
  | (k, _) :: r, x => if k = x then true else mhas r x
def mput : List (α × β) → α → β → List (α × β)
  | [], x, v => [(x, v)]
  | (k, w) :: r, x, v => if k = x then (x, v) :: r else (k, w) :: mput r x v

theorem mhas_mem : ∀ {l : List (α × β)} {x : α}, mhas l x = true ↔ x ∈ l.map (·.1)
  | [], x => by simp [mhas]
  | (k, v) :: r, x => by
    unfold mhas
    by_cases h : k = x
    · simp [h]
    · simp [h, mhas_mem (l := r), Ne.symm h]

theorem mget_at {d : β} : ∀ {l : List (α × β)} {j : Nat} {p : α × β}, (l.map (·.1)).Nodup → l[j]? = some p → mget d l p.1 = p.2 ∧ mhas l p.1 = true
  | [], j, p, _, h => by simp at h
  | (k, v) :: r, 0, p, hn, h => by simp at h; subst h; simp [mget, mhas]
  | (k, v) :: r, j + 1, p, hn, h => by
    simp only [List.map_cons, List.nodup_cons] at hn
    have hj : r[j]? = some p := by simpa using h
    have hne : k ≠ p.1 := fun e => hn.1 (by rw [e]; exact List.mem_map.2 ⟨p, List.mem_of_getElem? hj, rfl⟩)
    have := mget_at (d := d) hn.2 hj
    simp [mget, mhas, hne, this]

theorem mget_not {d : β} : ∀ {l : List (α × β)} {x : α}, x ∉ l.map (·.1) → mget d l x = d ∧ mhas l x = false
  | [], x, _ => ⟨rfl, rfl⟩
  | (k, v) :: r, x, h => by
    simp only [List.map_cons, List.mem_cons, not_or] at h
    have := mget_not (d := d) (l := r) h.2
    simp [mget, mhas, Ne.symm h.1, this]

theorem mput_not : ∀ {l : List (α × β)} {x : α} {v : β}, x ∉ l.map (·.1) → mput l x v = l ++ [(x, v)]
  | [], x, v, _ => rfl
  | (k, w) :: r, x, v, h => by
    simp only [List.map_cons, List.mem_cons, not_or] at h
    unfold mput
    rw [if_neg (Ne.symm h.1), mput_not h.2]; rfl

theorem mput_at : ∀ {l : List (α × β)} {j : Nat} {p : α × β} {v : β}, (l.map (·.1)).Nodup → l[j]? = some p → mput l p.1 v = l.set j (p.1, v)
  | [], j, p, v, _, h => by simp at h
  | (k, w) :: r, 0, p, v, hn, h => by simp at h; subst h; simp [mput]
  | (k, w) :: r, j + 1, p, v, hn, h => by
    simp only [List.map_cons, List.nodup_cons] at hn
    have hj : r[j]? = some p := by simpa using h
    have hne : k ≠ p.1 := fun e => hn.1 (by rw [e]; exact List.mem_map.2 ⟨p, List.mem_of_getElem? hj, rfl⟩)
    unfold mput
    rw [if_neg hne, mput_at hn.2 hj]; rfl

theorem mput_keys {l : List (α × β)} {x : α} {v : β} : (mput l x v).map (·.1) = if x ∈ l.map (·.1) then l.map (·.1) else l.map (·.1) ++ [x] := by
  induction l with
  | nil => simp [mput]
  | cons p r ih =>
    obtain ⟨k, w⟩ := p
    unfold mput
    by_cases h : k = x
    · simp [h]
    · rw [if_neg h]
      simp only [List.map_cons, ih, List.mem_cons, Ne.symm h, false_or]
      split <;> rfl
end

/-- What is asked of a type of maps. -/
structure MapTy (P : Program) (t k e : TypeId) (ak ae : Bool) (kt vt : Ty) : Prop where
  ht : P.underlying t = some (.map k e)
  K : Keyed P k
  key : ∀ x : El kt, okD kt x → ∃ l, keyOf P k (pv ak (kt.vals x)) = some l
  zero : ∀ w, (zeroValue e).run P w = .ok (pv ae (vt.vals vt.dflt)) w
  kdry : kt.dry = true
  vdry : vt.dry = true
  ksz : ak = true ∨ kt.size = 1
  vsz : ae = true ∨ vt.size = 1

theorem inK_wf {k : IntKind} {n : Int} (h : InK k n) : (Lit.int k n).wf = true := by
  unfold InK at h
  simp [Lit.wf, h.1, h.2]

/-- Maps of pairs of integers. -/
theorem mapty_pair {P : Program} {t k e el : TypeId} {q : IntKind} {ae : Bool} {vt : Ty} (ht : P.underlying t = some (.map k e)) (A : WideMaps.ArrKey P k el 2) (he : P.underlying el = some (.int q)) (hsz : ∃ m, P.types.size = m + 1) (zero : ∀ w, (zeroValue e).run P w = .ok (pv ae (vt.vals vt.dflt)) w)
    (vdry : vt.dry = true) (vsz : ae = true ∨ vt.size = 1) : MapTy P t k e true ae (.pair (.int q) (.int q)) vt :=
  ⟨ht, Keyed.of_law A.law, fun x hx => ⟨_, WideMaps.keyOf_pair A he hsz (inK_wf hx.1) (inK_wf hx.2)⟩, zero, rfl, vdry, .inl rfl, vsz⟩

/-- Maps of integers. -/
theorem mapty_int {P : Program} {t k e : TypeId} {q : IntKind} {ae : Bool} {vt : Ty} (ht : P.underlying t = some (.map k e)) (hk : P.underlying k = some (.int q)) (zero : ∀ w, (zeroValue e).run P w = .ok (pv ae (vt.vals vt.dflt)) w)
    (vdry : vt.dry = true) (vsz : ae = true ∨ vt.size = 1) : MapTy P t k e false ae (.int q) vt :=
  ⟨ht, int_keyed hk, fun x hx => ⟨.int q x, by
    have := inK_wf hx
    simp [keyOf, mapKey, hk, pv, Ty.vals, this]⟩, zero, rfl, vdry, .inr rfl, vsz⟩

theorem vals_len : ∀ (t : Ty) (x : El t), t.dry = true → (t.vals x).length = t.size
  | .int _, _, _ => rfl
  | .bool, _, _ => rfl
  | .unit, _, _ => rfl
  | .pair a b, x, h => by
    simp only [Ty.dry, Bool.and_eq_true] at h
    simp [Ty.vals, Ty.size, vals_len a _ h.1, vals_len b _ h.2]
  | .sl _, _, h => by simp [Ty.dry] at h

theorem vals_inj : ∀ (t : Ty) (x y : El t), t.dry = true → t.vals x = t.vals y → x = y
  | .int _, x, y, _, h => by simp only [Ty.vals, List.cons.injEq, Value.int.injEq, true_and, and_true] at h; exact h
  | .bool, x, y, _, h => by simp only [Ty.vals, List.cons.injEq, Value.bool.injEq, and_true] at h; exact h
  | .unit, _, _, _, _ => rfl
  | .pair a b, x, y, hd, h => by
    simp only [Ty.dry, Bool.and_eq_true] at hd
    simp only [Ty.vals] at h
    have := List.append_inj h (by rw [vals_len a _ hd.1, vals_len a _ hd.1])
    exact Prod.ext (vals_inj a _ _ hd.1 this.1) (vals_inj b _ _ hd.2 this.2)
  | .sl _, _, _, h, _ => by simp [Ty.dry] at h

theorem pv_inj {ag : Bool} {t : Ty} (hd : t.dry = true) (hs : ag = true ∨ t.size = 1) {x y : El t} (h : pv ag (t.vals x) = pv ag (t.vals y)) : x = y := by
  refine vals_inj t x y hd ?_
  unfold pv at h
  cases ag with
  | true => simpa using h
  | false =>
    simp only [Bool.false_eq_true, if_false] at h
    have h1 := hs.resolve_left (by simp)
    have l1 := vals_len t x hd
    have l2 := vals_len t y hd
    rw [h1] at l1 l2
    match ha : t.vals x, hb : t.vals y with
    | [a], [b] => rw [ha, hb] at h; simp at h; rw [h]
    | [], _ => rw [ha] at l1; simp at l1
    | _ :: _ :: _, _ => rw [ha] at l1; simp at l1
    | _, [] => rw [hb] at l2; simp at l2
    | _, _ :: _ :: _ => rw [hb] at l2; simp at l2

theorem vals_rep {η : Nat → Value} {w : World} {A : Nat → Prop} : ∀ (t : Ty) (x : El t), t.dry = true → RepVs η w A (cellsOf t x) (t.vals x)
  | .int _, _, _ => RepVs.cons (by unfold RepV; rfl) RepVs.nil
  | .bool, _, _ => RepVs.cons (by unfold RepV; rfl) RepVs.nil
  | .unit, _, _ => RepVs.nil
  | .pair a b, x, h => by
    simp only [Ty.dry, Bool.and_eq_true] at h
    exact (vals_rep a x.1 h.1).append (vals_rep b x.2 h.2)
  | .sl _, _, h => by simp [Ty.dry] at h

/-- Data as one value. -/
def packA (ag : Bool) (l : List AVal) : AVal := if ag then .agg l else l.headD .un

theorem packA_rep {η : Nat → Value} {w : World} {A : Nat → Prop} {ag : Bool} {t : Ty} (hd : t.dry = true) (hs : ag = true ∨ t.size = 1) (x : El t) : RepV η w A (packA ag (cellsOf t x)) (pv ag (t.vals x)) := by
  have h := vals_rep (η := η) (w := w) (A := A) t x hd
  unfold packA pv
  cases ag with
  | true => simp only [if_true]; unfold RepV; exact ⟨_, rfl, h⟩
  | false =>
    simp only [Bool.false_eq_true, if_false]
    have h1 := hs.resolve_left (by simp)
    have l1 := vals_len t x hd
    rw [h1] at l1
    match ha : t.vals x, hb : cellsOf t x with
    | [a], [b] => rw [ha, hb] at h; unfold RepVs at h; obtain ⟨u, us, e, h2, _⟩ := h; simp at e; rw [e.1]; exact h2
    | [], _ => rw [ha] at l1; simp at l1
    | _ :: _ :: _, _ => rw [ha] at l1; simp at l1
    | [a], [] => rw [ha, hb] at h; unfold RepVs at h; cases h
    | [a], _ :: _ :: _ => rw [ha, hb] at h; have := h.length; simp at this

section
variable {P : Program} {T : Tab} {n : Nat} {ds : List Deferred} {A0 L0 : Nat → Prop} {w0 : Old} {η : Nat → Value} {s : ASt} {a : Act} {w : World}

theorem rel_map (h : Rel n ds A0 L0 w0 η s a w) {d : Option Nat} (hd : ∀ i, d = some i → i < n) {b : Nat} {ak ae : Bool} {kt vt : Ty} {xs ys : List (El kt × El vt)} (hb : s.H b = some (.map ak ae kt vt xs)) {g : Nat} (hg : η b = .map (some g)) {es : Array MapEntry} {c : Nat}
    {es0 : Array MapEntry} {c0 : Nat} (he : w.heap[g]? = some (.map es0 c0)) (hm : es.toList.map (fun e => (e.key, e.val)) = ys.map (fun p => (pv ak (kt.vals p.1), pv ae (vt.vals p.2)))) (hok : ∀ p ∈ ys, okD kt p.1) (hnd : (ys.map (·.1)).Nodup) :
    Rel n ds A0 L0 w0 η (s.app d { v := .un, hp := [(b, .map ak ae kt vt ys)] }) (a.put d undef) { w with heap := w.heap.setIfInBounds g (.map es c) } := by
  have hlt : g < w.heap.size := (Array.getElem?_eq_some_iff.1 he).1
  refine h.eff (nid := 0) hd (fun _ _ => rfl) ⟨rfl, rfl, rfl⟩ (by simp) (fun k hk => ?_) ?_ ?_ ?_ (hhn := fun b' _ hs => by
    simp only [hpGet] at hs
    split at hs
    · rename_i e; subst e; rw [hb]; rfl
    · cases hs)
  · by_cases hkg : k = g
    · subst hkg
      exact .inr ⟨b, _, hb, rfl, by rw [hg]; rfl, .inl (by simp [hpGet])⟩
    · exact .inl (by simp [Array.getElem?_setIfInBounds_ne (Ne.symm hkg)])
  · intro b' B' g' hb' hm' hg'
    simp only [hpGet] at hb'
    split at hb'
    · rename_i e
      subst e
      exact .inl ⟨_, _, hb, rfl, hg', .inl rfl⟩
    · cases hb'
  · intro k b' B' hb'
    simp only [hpGet] at hb'
    split at hb'
    · rename_i e
      subst e
      injection hb' with hb'
      subst hb'
      exact ⟨g, es, c, hg, by simp [hlt], hm, hok, hnd⟩
    · cases hb'
  · intro k; unfold RepV; trivial

variable {ro : Option Nat} {Q : Exit → ASt → Prop} {σ : Nat → AVal} {H : AHeap} {g : Gh} {o : Oper} {ops rs : List Oper} {t k e : TypeId} {ak ae : Bool} {kt vt : Ty}

theorem op_guard (hg : o.guard = none) (tm : Array Value) : Region.wanted o (yielded ops.toArray tm) = true := by simp [Region.wanted, hg]
theorem dst_lt (hd : dstOK n [o] = true) : ∀ i, o.dst = some i → i < n := fun i hi => by
  unfold dstOK at hd
  simp only [List.all_cons, List.all_nil, Bool.and_true] at hd
  rw [hi] at hd; simpa using hd

/-- A new map. -/
theorem AO.makeMap (hd : dstOK n [o] = true) (hfew : o.dst.getD 0 < 1000) (hg : o.guard = none) (ho : o.op = .makeMap t none)
    (h2 : AO P ro n ops rs Q ((ASt.mk σ H g).app o.dst { v := .own (o.dst.getD 0), kill := [o.dst.getD 0], hp := [(o.dst.getD 0, .map ak ae kt vt [])] })) : AO P ro n ops (o :: rs) Q ⟨σ, H, g⟩ := by
  intro m ds A0 L0 w0 η a w hq0 hr
  unfold wpListIn
  rw [if_pos (op_guard hg _)]
  refine wpIn_value (u := .map (some w.heap.size)) (w' := w.alloc (.map #[] 0)) (by simp [ho]) (by simp [execOp, ho, Instr.makeMap, run_newObj_alloc]) ?_
  obtain ⟨nid, hnid⟩ : ∃ nid, nid = o.dst.getD 0 := ⟨_, rfl⟩
  rw [← hnid] at h2 hfew
  refine h2 m ds A0 L0 w0 (setη η nid (.map (some w.heap.size))) _ _ hq0 ?_
  have hη : ∀ b, [nid].contains b = false → setη η nid (.map (some w.heap.size)) b = η b := fun b hb => setη_other _ _ (by simpa using hb)
  refine hr.eff (nid := nid) (dst_lt hd) hη ⟨rfl, rfl, rfl⟩ (by simp) (fun g hg => .inl (heap_alloc_old _ _ _ hg)) ?_ ?_ ?_ hfew (fun b hb _ => by simpa using hb) (fun b hb hs => by simp only [hpGet, hb, if_false] at hs; cases hs)
  · intro b B g hb hm hg
    simp only [hpGet] at hb
    split at hb
    · rename_i e
      subst e
      rw [setη_same] at hg
      injection hg with hg
      exact .inr ⟨Nat.le_of_eq hg, rfl⟩
    · cases hb
  · intro k b B hb
    simp only [hpGet] at hb
    split at hb
    · rename_i e
      subst e
      injection hb with hb
      subst hb
      rw [setη_same]
      exact ⟨_, #[], 0, rfl, (MapKept.heap_alloc w _).1, rfl, by simp, by simp⟩
    · cases hb
  · intro k
    unfold RepV
    exact (setη_same _ _ _).symm

/-- The entry of a key. -/
theorem map_find (M : MapTy P t k e ak ae kt vt) {xs : List (El kt × El vt)} {es : Array MapEntry} (hm : es.toList.map (fun e => (e.key, e.val)) = xs.map (fun p => (pv ak (kt.vals p.1), pv ae (vt.vals p.2)))) (hok : ∀ p ∈ xs, okD kt p.1) {x : El kt} (hx : okD kt x) (w : World) :
    ((Instr.findKey k (pv ak (kt.vals x)) es.toList).run P w = .ok none w ∧ x ∉ xs.map (·.1)) ∨
      ∃ j p, (Instr.findKey k (pv ak (kt.vals x)) es.toList).run P w = .ok (some (j, pv ae (vt.vals p.2))) w ∧ xs[j]? = some p ∧ p.1 = x := by
  have hat : ∀ j : Nat, (es.toList[j]?).map (fun e => (e.key, e.val)) = (xs[j]?).map (fun p => (pv ak (kt.vals p.1), pv ae (vt.vals p.2))) := fun j => by
    have := congrArg (fun l => l[j]?) hm
    simpa using this
  obtain ⟨l, hl⟩ := M.key x hx
  rcases M.K.find w hl es.toList (fun y hy => by
    have : (y.key, y.val) ∈ xs.map (fun p => (pv ak (kt.vals p.1), pv ae (vt.vals p.2))) := by rw [← hm]; exact List.mem_map.2 ⟨y, hy, rfl⟩
    obtain ⟨p, hp, e1⟩ := List.mem_map.1 this
    injection e1 with e2 e3
    rw [← e2]; exact M.key p.1 (hok p hp)) with ⟨h1, h2⟩ | ⟨j, e0, h1, h2, h3⟩
  · refine .inl ⟨h1, fun hmem => ?_⟩
    obtain ⟨p, hp, e1⟩ := List.mem_map.1 hmem
    have : (pv ak (kt.vals p.1), pv ae (vt.vals p.2)) ∈ es.toList.map (fun e => (e.key, e.val)) := by rw [hm]; exact List.mem_map.2 ⟨p, hp, rfl⟩
    obtain ⟨y, hy, e2⟩ := List.mem_map.1 this
    injection e2 with e3 e4
    exact h2 y hy (by rw [e3, e1])
  · have := hat j
    rw [h2] at this
    cases hxj : xs[j]? with
    | none => rw [hxj] at this; simp at this
    | some p =>
      rw [hxj] at this
      simp only [Option.map_some, Option.some.injEq, Prod.mk.injEq] at this
      refine .inr ⟨j, p, by rw [h1, this.2], hxj, ?_⟩
      exact pv_inj M.kdry M.ksz (by rw [← this.1, h3])

/-- What is held in one value. -/
def unpackA (ag : Bool) (x : AVal) (l : List AVal) : Prop := match x with
  | .agg l' => ag = true ∧ l = l'
  | y => ag = false ∧ l = [y]

theorem toEl_vals {η : Nat → Value} {w : World} {A : Nat → Prop} {H : AHeap} : ∀ (t : Ty) (l r : List AVal) (x : El t) (vs : List Value), t.dry = true → toEl H t l = some (x, r) → RepVs η w A l vs → ∃ v2, vs = t.vals x ++ v2 ∧ RepVs η w A r v2
  | .int k, l, r, x, vs, _, h, hr => by
    unfold toEl toInt at h
    split at h
    · split at h
      · rename_i e
        subst e
        injection h with h
        injection h with h1 h2
        subst h1 h2
        unfold RepVs at hr
        obtain ⟨u, us, e, h1, h2⟩ := hr
        unfold RepV at h1
        exact ⟨us, by rw [e, h1]; rfl, h2⟩
      · cases h
    · cases h
  | .bool, l, r, x, vs, _, h, hr => by
    unfold toEl toBool at h
    split at h
    · injection h with h
      injection h with h1 h2
      subst h1 h2
      unfold RepVs at hr
      obtain ⟨u, us, e, h1, h2⟩ := hr
      unfold RepV at h1
      exact ⟨us, by rw [e, h1]; rfl, h2⟩
    · cases h
  | .unit, l, r, x, vs, _, h, hr => by
    unfold toEl at h
    injection h with h
    injection h with h1 h2
    subst h2
    exact ⟨vs, rfl, hr⟩
  | .pair a b, l, r, x, vs, hd, h, hr => by
    simp only [Ty.dry, Bool.and_eq_true] at hd
    unfold toEl at h
    split at h
    · rename_i x1 r1 e1
      split at h
      · rename_i x2 r2 e2
        injection h with h
        injection h with h1 h2
        subst h1 h2
        obtain ⟨v2, e3, hr2⟩ := toEl_vals a l r1 x1 vs hd.1 e1 hr
        obtain ⟨v3, e4, hr3⟩ := toEl_vals b r1 r2 x2 v2 hd.2 e2 hr2
        exact ⟨v3, by rw [e3, e4]; simp [Ty.vals], hr3⟩
      · cases h
    · cases h
  | .sl _, _, _, _, _, h, _, _ => by simp [Ty.dry] at h

theorem unpack_pv {η : Nat → Value} {w : World} {A : Nat → Prop} {H : AHeap} {ag : Bool} {t : Ty} (hd : t.dry = true) (hs : ag = true ∨ t.size = 1) {x : AVal} {l : List AVal} (hu : unpackA ag x l) {y : El t} (he : toEl H t l = some (y, [])) {v : Value} (hr : RepV η w A x v) : v = pv ag (t.vals y) := by
  unfold unpackA at hu
  split at hu
  · rename_i l'
    obtain ⟨rfl, rfl⟩ := hu
    unfold RepV at hr
    obtain ⟨vs, rfl, hl⟩ := hr
    obtain ⟨v2, e1, h2⟩ := toEl_vals t _ _ y _ hd he hl
    unfold RepVs at h2
    subst h2
    rw [List.append_nil] at e1
    unfold pv
    rw [if_pos rfl, ← e1]
  · obtain ⟨rfl, rfl⟩ := hu
    obtain ⟨v2, e1, h2⟩ := toEl_vals t _ _ y _ hd he (RepVs.cons hr RepVs.nil)
    unfold RepVs at h2
    subst h2
    rw [List.append_nil] at e1
    unfold pv
    rw [if_neg (by simp), ← e1]; rfl

theorem AO.lookup (M : MapTy P t k e ak ae kt vt) [DecidableEq (El kt)] (hd : dstOK n [o] = true) (hg : o.guard = none) {x y : Operand} {ok : Bool} (ho : o.op = .lookup t x y ok) {b : Nat} (hx : (ASt.mk σ H g).ev x = .own b) {xs : List (El kt × El vt)} (hb : H b = some (.map ak ae kt vt xs))
    {l : List AVal} (hu : unpackA ak ((ASt.mk σ H g).ev y) l) {z : El kt} (hz : toEl H kt l = some (z, [])) (hok : okD kt z)
    (h2 : AO P ro n ops rs Q ((ASt.mk σ H g).app o.dst { v := if ok then .tup [packA ae (cellsOf vt (mget vt.dflt xs z)), .bool (mhas xs z)] else packA ae (cellsOf vt (mget vt.dflt xs z)) })) : AO P ro n ops (o :: rs) Q ⟨σ, H, g⟩ := by
  intro m ds A0 L0 w0 η a w hq0 hr
  unfold wpListIn
  rw [if_pos (op_guard hg _)]
  have hxv := hr.ev x
  rw [hx] at hxv
  unfold RepV at hxv
  obtain ⟨q, es, c, e1, e2, e3, e4, e5⟩ := hr.hp.blk b _ (show (ASt.mk σ H g).H b = _ from hb)
  rw [e1] at hxv
  have hyv := unpack_pv M.kdry M.ksz hu hz (hr.ev y)
  obtain ⟨lk, hlk⟩ := M.key z hok
  have hrun : (Instr.lookup t (.map (some q)) (pv ak (kt.vals z)) ok).run P w = .ok (if ok then .tuple #[pv ae (vt.vals (mget vt.dflt xs z)), .bool (mhas xs z)] else pv ae (vt.vals (mget vt.dflt xs z))) w := by
    rcases map_find M e3 e4 hok w with ⟨f1, f2⟩ | ⟨j, p, f1, f2, f3⟩
    · have := mget_not (d := vt.dflt) f2
      rw [this.1, this.2]
      cases ok <;> simp [Instr.lookup, run_underlying M.ht, MapKept.run_getObj_map e2, M.K.check w _ hlk, f1, M.zero w, Result.andThen]
    · have := mget_at (d := vt.dflt) e5 f2
      rw [f3] at this
      rw [this.1, this.2]
      cases ok <;> simp [Instr.lookup, run_underlying M.ht, MapKept.run_getObj_map e2, M.K.check w _ hlk, f1, Result.andThen]
  refine wpIn_value (u := if ok then .tuple #[pv ae (vt.vals (mget vt.dflt xs z)), .bool (mhas xs z)] else pv ae (vt.vals (mget vt.dflt xs z))) (w' := w) (by simp [ho]) (by simp [execOp, ho, hxv, hyv, hrun]) ?_
  refine h2 m ds A0 L0 w0 η _ w hq0 (hr.pure (dst_lt hd) ?_)
  cases ok with
  | false => exact packA_rep M.vdry M.vsz _
  | true =>
    simp only [if_true]
    unfold RepV
    exact ⟨_, rfl, RepVs.cons (packA_rep M.vdry M.vsz _) (RepVs.cons (by unfold RepV; rfl) RepVs.nil)⟩

theorem map_set {xs : List (El kt × El vt)} {es : Array MapEntry} (hm : es.toList.map (fun e => (e.key, e.val)) = xs.map (fun p => (pv ak (kt.vals p.1), pv ae (vt.vals p.2)))) {j : Nat} {p : El kt × El vt} (hj : xs[j]? = some p) (v : El vt) :
    (es.modify j fun e => { e with key := pv ak (kt.vals p.1), val := pv ae (vt.vals v) }).toList.map (fun e => (e.key, e.val)) = (xs.set j (p.1, v)).map (fun p => (pv ak (kt.vals p.1), pv ae (vt.vals p.2))) := by
  apply List.ext_getElem?
  intro i
  have hat : (es.toList[i]?).map (fun e => (e.key, e.val)) = (xs[i]?).map (fun p => (pv ak (kt.vals p.1), pv ae (vt.vals p.2))) := by
    have := congrArg (fun l => l[i]?) hm
    simpa using this
  rw [List.getElem?_map, List.getElem?_map, Array.toList_modify, List.getElem?_modify]
  by_cases h : j = i
  · subst h
    have hlt := (List.getElem?_eq_some_iff.1 hj).1
    rw [List.getElem?_set_self hlt]
    cases hc : es.toList[j]? with
    | none => rw [hc, hj] at hat; simp at hat
    | some e0 => simp
  · rw [List.getElem?_set_ne h]
    simp only [h, if_false]
    simpa using hat

theorem AO.mapPut (M : MapTy P t k e ak ae kt vt) [DecidableEq (El kt)] (hd : dstOK n [o] = true) (hg : o.guard = none) {x y v : Operand} (ho : o.op = .mapUpdate t x y v ∨ o.op = .insert t x y v) {b : Nat} (hx : (ASt.mk σ H g).ev x = .own b) {xs : List (El kt × El vt)} (hb : H b = some (.map ak ae kt vt xs))
    {l lv : List AVal} (hu : unpackA ak ((ASt.mk σ H g).ev y) l) {z : El kt} (hz : toEl H kt l = some (z, [])) (hok : okD kt z) (huv : unpackA ae ((ASt.mk σ H g).ev v) lv) {zv : El vt} (hzv : toEl H vt lv = some (zv, []))
    (h2 : AO P ro n ops rs Q ((ASt.mk σ H g).app o.dst { v := .un, hp := [(b, .map ak ae kt vt (mput xs z zv))] })) : AO P ro n ops (o :: rs) Q ⟨σ, H, g⟩ := by
  intro m ds A0 L0 w0 η a w hq0 hr
  unfold wpListIn
  rw [if_pos (op_guard hg _)]
  have hxv := hr.ev x
  rw [hx] at hxv
  unfold RepV at hxv
  obtain ⟨q, es, c, e1, e2, e3, e4, e5⟩ := hr.hp.blk b _ (show (ASt.mk σ H g).H b = _ from hb)
  rw [e1] at hxv
  have hyv := unpack_pv M.kdry M.ksz hu hz (hr.ev y)
  have hvv := unpack_pv M.vdry M.vsz huv hzv (hr.ev v)
  obtain ⟨lk, hlk⟩ := M.key z hok
  have hokp : ∀ p ∈ mput xs z zv, okD kt p.1 := fun p hp => by
    have : p.1 ∈ (mput xs z zv).map (·.1) := List.mem_map.2 ⟨p, hp, rfl⟩
    rw [mput_keys] at this
    have hx' : p.1 ∈ xs.map (·.1) ∨ p.1 = z := by
      split at this
      · exact .inl this
      · simpa using this
    rcases hx' with h1 | h1
    · obtain ⟨p', hp', e⟩ := List.mem_map.1 h1
      rw [← e]; exact e4 p' hp'
    · rw [h1]; exact hok
  have hnd : ((mput xs z zv).map (·.1)).Nodup := by
    rw [mput_keys]
    split
    · exact e5
    · rename_i hn
      exact List.nodup_append.2 ⟨e5, by simp, fun a ha b hb => by simp at hb; subst hb; exact fun e => hn (by rw [← e]; exact ha)⟩
  have key : ∃ es' c', (Instr.mapUpdate t (.map (some q)) (pv ak (kt.vals z)) (pv ae (vt.vals zv))).run P w = .ok () { w with heap := w.heap.setIfInBounds q (.map es' c') } ∧
      es'.toList.map (fun e => (e.key, e.val)) = (mput xs z zv).map (fun p => (pv ak (kt.vals p.1), pv ae (vt.vals p.2))) := by
    rcases map_find M e3 e4 hok w with ⟨f1, f2⟩ | ⟨j, p, f1, f2, f3⟩
    · refine ⟨es.push ⟨pv ak (kt.vals z), pv ae (vt.vals zv), c⟩, c + 1, ?_, ?_⟩
      · simp [Instr.mapUpdate, run_underlying M.ht, MapKept.run_getObj_map e2, M.K.check w false hlk, f1, MapKept.run_setObj_map _ e2, Result.andThen]
      · rw [mput_not f2]; simp [e3]
    · have hj := congrArg (fun l => l[j]?) e3
      simp only [List.getElem?_map, f2, Option.map_some] at hj
      cases hc : es.toList[j]? with
      | none => rw [hc] at hj; simp at hj
      | some e0 =>
        rw [hc] at hj
        simp only [Option.map_some, Option.some.injEq, Prod.mk.injEq] at hj
        have hc' : es[j]? = some e0 := by simpa using hc
        refine ⟨es.modify j fun e => { e with key := pv ak (kt.vals z), val := pv ae (vt.vals zv) }, c, ?_, ?_⟩
        · simp [Instr.mapUpdate, run_underlying M.ht, MapKept.run_getObj_map e2, M.K.check w false hlk, f1, hc', hj.1, f3, M.K.stays w hlk, MapKept.run_setObj_map _ e2, Result.andThen]
        · rw [← f3, mput_at e5 f2]
          exact map_set e3 f2 zv
  obtain ⟨es', c', hrun, hm'⟩ := key
  have hrel := rel_map hr (dst_lt hd) (show (ASt.mk σ H g).H b = _ from hb) e1 (es := es') (c := c') e2 hm' hokp hnd
  rcases ho with ho | ho
  · exact wpIn_skipped (by simp [ho]) (by simp [execOp, ho, hxv, hyv, hvv, hrun]) (h2 m ds A0 L0 w0 η _ _ hq0 hrel)
  · exact wpIn_skipped (by simp [ho]) (by simp [execOp, ho, hxv, hyv, hvv, hrun]) (h2 m ds A0 L0 w0 η _ _ hq0 hrel)

end

attribute [go_sem] renF okD unpackA packA List.zip_cons_cons List.zip_nil_left List.zip_nil_right idsF
end Go.Proofs.YtcckpmeepcoafaaDoor
