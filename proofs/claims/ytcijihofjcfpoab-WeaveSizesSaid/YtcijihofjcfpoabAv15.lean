/-
  The abstract machine, 15: regions that draw their order. No program is named here.
-/
import Derived.Test.YtcijihofjcfpoabAv14
namespace Go.Proofs.Ytcijihofjcfpoab
open Go.RowKit

set_option linter.constructorNameAsVariable false

mutual
/-- All of it is known. -/
def noUn : AVal → Bool
  | .un => false
  | .int _ _ => true
  | .bool _ => true
  | .sl _ _ => true
  | .own _ => true
  | .bp _ _ => true
  | .ap _ _ _ _ => true
  | .dp _ _ _ => true
  | .cv _ => true
  | .agg l => noUnL l
  | .tup l => noUnL l
  | .fn _ p c => noUnL p && noUnL c
def noUnL : List AVal → Bool
  | [] => true
  | x :: l => noUn x && noUnL l
end

def subl (a b : List Nat) : Bool := a.all b.contains
def ovl (a b : List Nat) : Bool := a.any b.contains

theorem subl_mem {a b : List Nat} (h : subl a b = true) {x : Nat} (hx : x ∈ a) : x ∈ b := by
  have := List.all_eq_true.1 h x hx
  simpa using this
theorem ovl_mem {a b : List Nat} (h : ovl a b = false) {x : Nat} (hx : x ∈ a) (hx' : x ∈ b) : False := by
  have : ovl a b = true := List.any_eq_true.2 ⟨x, hx, by simpa using hx'⟩
  rw [h] at this; cases this

def keysH : List (Nat × ABlk) → List Nat
  | [] => []
  | (c, _) :: r => c :: keysH r
theorem keysH_get : ∀ {h : List (Nat × ABlk)} {b : Nat} {B : ABlk}, hpGet h b = some B → b ∈ keysH h
  | [], b, B, h => by cases h
  | (c, C) :: r, b, B, h => by
    unfold hpGet at h
    unfold keysH
    split at h
    · rename_i e; subst e; exact List.mem_cons_self
    · exact List.mem_cons_of_mem _ (keysH_get h)

theorem clean_noids {x : AVal} (h : x.ids = []) (K : List Nat) : x.clean K = x := by
  unfold AVal.clean
  rw [if_neg]
  intro hc
  obtain ⟨b, _, hb⟩ := List.any_eq_true.1 hc
  have := mem_ids x b hb
  rw [h] at this
  simp at this

theorem clean_disj {x : AVal} {K : List Nat} (h : ∀ b ∈ x.ids, b ∉ K) : x.clean K = x := by
  unfold AVal.clean
  rw [if_neg]
  intro hc
  obtain ⟨b, hb, hx⟩ := List.any_eq_true.1 hc
  exact h b (mem_ids x b hx) hb

theorem clean_known {x : AVal} {K : List Nat} (h : noUn (x.clean K) = true) : x.clean K = x := by
  unfold AVal.clean at *
  split at h
  · cases h
  · rename_i hc; rw [if_neg hc]

theorem clean_knownL {K : List Nat} : ∀ {l : List AVal}, noUnL (l.map (AVal.clean K)) = true → l.map (AVal.clean K) = l
  | [], _ => rfl
  | x :: l, h => by
    simp only [List.map_cons, noUnL, Bool.and_eq_true] at h
    rw [List.map_cons, clean_known h.1, clean_knownL h.2]

theorem clean_disjL {K : List Nat} : ∀ {l : List AVal}, (∀ b ∈ AVal.idsL l, b ∉ K) → l.map (AVal.clean K) = l
  | [], _ => rfl
  | x :: l, h => by
    rw [List.map_cons, clean_disj (fun b hb => h b (by unfold AVal.idsL; exact List.mem_append_left _ hb)), clean_disjL (fun b hb => h b (by unfold AVal.idsL; exact List.mem_append_right _ hb))]

theorem clean_comm (x : AVal) (K K' : List Nat) : (x.clean K).clean K' = (x.clean K').clean K := by
  unfold AVal.clean
  by_cases h1 : (K.any fun b => x.has b) = true <;> by_cases h2 : (K'.any fun b => x.has b) = true <;> simp [h1, h2, AVal.has]

theorem bclean_comm (B : ABlk) (K K' : List Nat) : (B.clean K).clean K' = (B.clean K').clean K := by
  cases B with
  | box ty cs => simp only [ABlk.clean, List.map_map]; congr 1; apply List.map_congr_left; intro x _; exact clean_comm x K K'
  | arr => rfl
  | imm => rfl
  | map => rfl

/-- What is known of a block, and of nothing outside. -/
def goodBlk (φ : List Nat) : ABlk → Bool
  | .box _ cs => noUnL cs && subl (AVal.idsL cs) φ
  | .arr _ _ _ => true
  | .imm _ _ => true
  | .map _ _ _ _ _ => true

theorem goodBlk_clean {φ K : List Nat} {B : ABlk} (h : goodBlk φ (B.clean K) = true) : B.clean K = B := by
  cases B with
  | box ty cs =>
    simp only [ABlk.clean, goodBlk, Bool.and_eq_true] at *
    rw [clean_knownL h.1]
  | arr => rfl
  | imm => rfl
  | map => rfl
theorem goodBlk_disj {φ K : List Nat} {B : ABlk} (h : goodBlk φ B = true) (hd : ∀ b ∈ φ, b ∉ K) : B.clean K = B := by
  cases B with
  | box ty cs =>
    simp only [goodBlk, Bool.and_eq_true] at h
    simp only [ABlk.clean]
    rw [clean_disjL fun b hb => hd b (subl_mem h.2 hb)]
  | arr => rfl
  | imm => rfl
  | map => rfl

def lookL (l : List (Nat × List Nat)) (i : Nat) : Option (List Nat) :=
  match l with
  | [] => none
  | (j, x) :: r => if i = j then some x else lookL r i

/-- An operation that looks at no block: it hands on what it is given. -/
def blindB (o : Oper) : Bool := match o.op with
  | .move _ => true
  | _ => false

/-- The place in an array's variable: it looks at no block. -/
def bpB (s : ASt) (o : Oper) : Bool := match o.op with
  | .indexAddr _ x _ => (match s.ev x with
    | .bp _ _ => true
    | _ => false)
  | _ => false

/-- An operation said to look at no block: its blocks have the number 999999 among them. -/
def bl (φ : List Nat) (o : Oper) : Bool := blindB o || φ.contains 999999

/-- What operation i takes away: said in F, at i + 100000; else it may be all that it touches. -/
def killsOf (F : List (Nat × List Nat)) (i : Nat) (τ : List Nat) : List Nat := match lookL F (i + 100000) with
  | some κ => κ
  | none => τ

/-- Two operations that are not ordered: each may come first. X: what operations touch; F: what those see that are not ordered with all of these. -/
def compat (X F : List (Nat × List Nat)) (bi bj : Bool) (i j : Nat) : Bool :=
  match lookL X i, lookL X j with
  | none, none => true
  | some τ, none => match lookL F j with
    | some φ => !ovl τ φ || ((bj || φ.contains 999999) && !ovl (killsOf F i τ) φ)
    | none => false
  | none, some τ' => match lookL F i with
    | some φ => !ovl τ' φ || ((bi || φ.contains 999999) && !ovl (killsOf F j τ') φ)
    | none => false
  | some τ, some τ' => match lookL F i, lookL F j with
    | some φ, some φ' => !ovl τ φ' && !ovl τ' φ && !ovl τ τ'
    | _, _ => false

section
variable (P : Program) (T : Tab)

def seesB (s : ASt) (φ : List Nat) (o : Oper) : Bool :=
  noUnL (o.op.operands.toList.map s.ev) && subl (AVal.idsL (o.op.operands.toList.map s.ev)) φ && (bl φ o || (AVal.idsL (o.op.operands.toList.map s.ev)).all fun b => match s.H b with | some B => goodBlk φ B | none => true) && (!φ.contains 999999 || bpB s o) &&
    (!isFnCall o.op || (AVal.idsL (o.op.operands.toList.map s.ev)).isEmpty)

def effB (X F : List (Nat × List Nat)) (i : Nat) (e : Eff) : Bool :=
  (match lookL X i with
  | some τ => subl e.kill τ && subl (keysH e.hp) τ
  | none => e.kill.isEmpty && e.hp.isEmpty) &&
  (match lookL F i with
  | some φ => subl e.v.ids φ && subl (idsH e.hp) φ
  | none => true) &&
  (match lookL F (i + 100000) with
  | some κ => subl e.kill κ
  | none => true)

/-- Operations in the text's order, of a region that draws its own. -/
def adops (ops : List Oper) (X F : List (Nat × List Nat)) : Nat → List Oper → ASt → (ASt → Prop) → Prop
  | _, [], s, K => K s
  | i, o :: r, s, K => (match lookL F i with | some φ => seesB s φ o = true | none => True) ∧ gstep P T ops s o fun e => effB X F i e = true ∧ adops ops X F (i + 1) r (s.app o.dst e) K

structure StepF (ops : List Oper) (X F : List (Nat × List Nat)) (i : Nat) (o : Oper) (s : ASt) (e : Eff) : Prop where
  sol : ∀ φ, lookL F i = some φ → seesB s φ o = true
  eff : effB X F i e = true
  step : gstep P T ops s o fun y => y = e

/-- Whatever order is picked from here on. -/
def anyF (ops : List Oper) (X F : List (Nat × List Nat)) (E : Nat → Eff) (Q : ASt → Prop) : Nat → Array Bool → ASt → Prop
  | 0, listed, s => Region.ready .any ops.toArray listed = [] ∧ Q s
  | fuel + 1, listed, s => (Region.ready .any ops.toArray listed = [] → Q s) ∧
    ∀ i ∈ Region.ready .any ops.toArray listed, ∃ o, ops[i]? = some o ∧ StepF P T ops X F i o s (E i) ∧ anyF ops X F E Q fuel (listed.setIfInBounds i true) (s.app o.dst (E i))

/-- The text's order, its effects named. -/
def trF (ops : List Oper) (X F : List (Nat × List Nat)) (E : Nat → Eff) (Q : ASt → Prop) : Nat → List Oper → ASt → Prop
  | _, [], s => Q s
  | i, o :: r, s => StepF P T ops X F i o s (E i) ∧ trF ops X F E Q (i + 1) r (s.app o.dst (E i))

end

section
variable {P : Program} {T : Tab} {ops : List Oper} {X F : List (Nat × List Nat)} {E : Nat → Eff} {Q : ASt → Prop}

theorem trF_congr {E' : Nat → Eff} : ∀ (l : List Oper) (i : Nat) (s : ASt), (∀ j, i ≤ j → E' j = E j) → trF P T ops X F E Q i l s → trF P T ops X F E' Q i l s
  | [], _, _, _, h => h
  | o :: r, i, s, he, h => by
    unfold trF at *
    rw [he i (Nat.le_refl _)]
    exact ⟨h.1, trF_congr r (i + 1) _ (fun j hj => he j (by omega)) h.2⟩

theorem trF_of : ∀ (l : List Oper) (i : Nat) (s : ASt), adops P T ops X F i l s Q → ∃ E, trF P T ops X F E Q i l s
  | [], _, _, h => ⟨fun _ => { v := .un }, h⟩
  | o :: r, i, s, h => by
    unfold adops at h
    obtain ⟨hsol, h⟩ := h
    obtain ⟨e, h1, h2, h4⟩ := gstep_det h
    obtain ⟨E, hE⟩ := trF_of r (i + 1) _ h4
    refine ⟨fun j => if j = i then e else E j, ?_⟩
    unfold trF
    simp only [if_true]
    refine ⟨⟨fun φ hφ => ?_, h2, h1⟩, trF_congr r (i + 1) _ (fun j hj => by rw [if_neg (by omega)]) hE⟩
    rw [hφ] at hsol
    exact hsol

theorem app_σ (s : ASt) (d : Option Nat) (e : Eff) (t : Nat) : (s.app d e).σ t = if d = some t then e.v else (s.σ t).clean e.kill := rfl
theorem app_H (s : ASt) (d : Option Nat) (e : Eff) (b : Nat) : (s.app d e).H b = match hpGet e.hp b with | some B => some B | none => if e.kill.contains b then none else (s.H b).map (ABlk.clean e.kill) := rfl

theorem app_quiet_H {s : ASt} {d : Option Nat} {e : Eff} (h : e.kill = [] ∧ e.hp = []) : (s.app d e).H = s.H := by
  funext b
  rw [app_H, h.1, h.2]
  simp only [hpGet, List.contains_nil, Bool.false_eq_true, if_false]
  rw [show ABlk.clean [] = id from funext bclean_nil]
  simp

theorem app_quiet_σ {s : ASt} {d : Option Nat} {e : Eff} (h : e.kill = [] ∧ e.hp = []) {t : Nat} (hd : d ≠ some t) : (s.app d e).σ t = s.σ t := by
  rw [app_σ, if_neg hd, h.1, clean_nil]

theorem looks_tmp {o : Oper} {t : Nat} (h : Operand.tmp t ∈ o.op.operands) : t ∈ o.looksAt ops.toArray :=
  List.mem_append_left _ (List.mem_filterMap.2 ⟨.tmp t, by simpa using h, rfl⟩)

theorem looks_guard {o : Oper} {j t : Nat} {want : Bool} (hg : o.guard = some (j, want)) (hj : (ops[j]?).bind (·.dst) = some t) : t ∈ o.looksAt ops.toArray := by
  refine List.mem_append_right _ ?_
  simp only [hg]
  have : (ops.toArray[j]?).bind (·.dst) = some t := by simpa using hj
  rw [this]; simp

theorem ev_of {s s' : ASt} {o : Oper} (h : ∀ t, t ∈ o.looksAt ops.toArray → s'.σ t = s.σ t) : ∀ x ∈ o.op.operands, s'.ev x = s.ev x := by
  intro x hx
  cases x with
  | tmp t => exact h t (looks_tmp hx)
  | const v => rfl
  | global g => rfl
  | func f => rfl

theorem bpB_congr {o : Oper} {s s' : ASt} (hev : ∀ x ∈ o.op.operands, s'.ev x = s.ev x) : bpB s' o = bpB s o := by
  unfold bpB
  cases hop : o.op <;> try rfl
  case indexAddr t x y =>
    rw [hop] at hev
    simp only
    rw [hev x (by simp [Op.operands])]

theorem StepF.congr {i : Nat} {o : Oper} {s s' : ASt} {e : Eff} (hσ : ∀ t, t ∈ o.looksAt ops.toArray → s'.σ t = s.σ t) (hH : s'.H = s.H) (h : StepF P T ops X F i o s e) : StepF P T ops X F i o s' e := by
  have hev := ev_of hσ
  have hmap : o.op.operands.toList.map s'.ev = o.op.operands.toList.map s.ev := List.map_congr_left fun x hx => hev x (by simpa using hx)
  exact ⟨fun φ hf => by have := h.sol φ hf; unfold seesB at *; rw [hmap, hH, bpB_congr hev]; exact this, h.eff, gstep_congr hev (fun j want t hg hj => hσ t (looks_guard hg hj)) (fun b _ => by rw [hH]) (fun _ => .inl hH) h.step⟩

theorem eff_touch {i : Nat} {e : Eff} {τ : List Nat} (h : effB X F i e = true) (hx : lookL X i = some τ) : (∀ b ∈ e.kill, b ∈ τ) ∧ ∀ b B, hpGet e.hp b = some B → b ∈ τ := by
  unfold effB at h
  rw [hx] at h
  simp only [Bool.and_eq_true] at h
  exact ⟨fun b hb => subl_mem h.1.1.1 hb, fun b B hb => subl_mem h.1.1.2 (keysH_get hb)⟩

theorem eff_kill {i : Nat} {e : Eff} {τ : List Nat} (h : effB X F i e = true) (hx : lookL X i = some τ) : ∀ b ∈ e.kill, b ∈ killsOf F i τ := by
  intro b hb
  unfold killsOf
  cases hk : lookL F (i + 100000) with
  | none => exact (eff_touch h hx).1 b hb
  | some κ =>
    unfold effB at h
    rw [hk] at h
    simp only [Bool.and_eq_true] at h
    exact subl_mem h.2 hb

theorem eff_ids {i : Nat} {e : Eff} {φ : List Nat} (h : effB X F i e = true) (hf : lookL F i = some φ) : (∀ b ∈ e.v.ids, b ∈ φ) ∧ ∀ b ∈ idsH e.hp, b ∈ φ := by
  unfold effB at h
  rw [hf] at h
  simp only [Bool.and_eq_true] at h
  exact ⟨fun b hb => subl_mem h.1.2.1 hb, fun b hb => subl_mem h.1.2.2 hb⟩

theorem eff_quiet {i : Nat} {e : Eff} (h : effB X F i e = true) (hx : lookL X i = none) : e.kill = [] ∧ e.hp = [] := by
  unfold effB at h
  rw [hx] at h
  simp only [Bool.and_eq_true, List.isEmpty_iff] at h
  exact h.1.1

structure Sees (s : ASt) (φ : List Nat) (o : Oper) : Prop where
  known : ∀ x ∈ o.op.operands, noUn (s.ev x) = true
  ids : ∀ x ∈ o.op.operands, ∀ b ∈ (s.ev x).ids, b ∈ φ
  all : ∀ b ∈ AVal.idsL (o.op.operands.toList.map s.ev), b ∈ φ
  blk : bl φ o = false → ∀ b ∈ AVal.idsL (o.op.operands.toList.map s.ev), ∀ B, s.H b = some B → goodBlk φ B = true
  call : isFnCall o.op = true → AVal.idsL (o.op.operands.toList.map s.ev) = []
  bp : φ.contains 999999 = true → bpB s o = true

theorem sees_of {s : ASt} {φ : List Nat} {o : Oper} (h : seesB s φ o = true) : Sees s φ o := by
  unfold seesB at h
  simp only [Bool.and_eq_true, Bool.or_eq_true, Bool.not_eq_true', List.isEmpty_iff] at h
  obtain ⟨⟨⟨⟨h1, h2⟩, h3⟩, h5⟩, h4⟩ := h
  have hm : ∀ (l : List Operand), noUnL (l.map s.ev) = true → ∀ x ∈ l, noUn (s.ev x) = true := by
    intro l
    induction l with
    | nil => intro _ x hx; simp at hx
    | cons y l ih =>
      intro h x hx
      simp only [List.map_cons, noUnL, Bool.and_eq_true] at h
      rcases List.mem_cons.1 hx with rfl | hx
      · exact h.1
      · exact ih h.2 x hx
  have hi : ∀ (l : List Operand), ∀ x ∈ l, ∀ b ∈ (s.ev x).ids, b ∈ AVal.idsL (l.map s.ev) := by
    intro l
    induction l with
    | nil => intro x hx; simp at hx
    | cons y l ih =>
      intro x hx b hb
      simp only [List.map_cons, AVal.idsL, List.mem_append]
      rcases List.mem_cons.1 hx with rfl | hx
      · exact .inl hb
      · exact .inr (ih x hx b hb)
  refine ⟨fun x hx => hm _ h1 x (by simpa using hx), fun x hx b hb => subl_mem h2 (hi _ x (by simpa using hx) b hb), fun b hb => subl_mem h2 hb, fun hbl b hb B hB => ?_, fun hc => ?_, fun hc => h5.resolve_left (by rw [hc]; simp)⟩
  · rcases h3 with h3 | h3
    · rw [hbl] at h3; cases h3
    have := List.all_eq_true.1 h3 b hb
    rw [hB] at this
    exact this
  · rcases h4 with h4 | h4
    · rw [hc] at h4; cases h4
    · exact h4

theorem blind_step {o : Oper} {s s' : ASt} (hb : blindB o = true ∨ bpB s o = true) {K : Eff → Prop} (hev : ∀ x ∈ o.op.operands, s'.ev x = s.ev x) (h : stepOp P T s o K) : stepOp P T s' o K := by
  rcases hb with hb | hb
  case inr =>
    unfold bpB at hb
    unfold stepOp at h ⊢
    cases hop : o.op <;> simp only [hop, Bool.false_eq_true] at hb
    case indexAddr t x y =>
      rw [hop] at h hev
      simp only at h ⊢
      rw [hev x (by simp [Op.operands]), hev y (by simp [Op.operands])]
      cases hx : s.ev x <;> rw [hx] at hb <;> simp only [Bool.false_eq_true] at hb
      rw [hx] at h
      unfold stIndexAddr at h ⊢
      exact h
  unfold blindB at hb
  unfold stepOp at h ⊢
  cases hop : o.op <;> simp only [hop, Bool.false_eq_true] at hb
  case move x =>
    rw [hop] at h hev
    simp only at h ⊢
    rw [hev x (by simp [Op.operands])]
    exact h

theorem StepF.blindBefore {i : Nat} {o : Oper} {s : ASt} {e e' : Eff} {d : Option Nat} {φ : List Nat} (hbl : bl φ o = true) (hd : ∀ t, d = some t → t ∉ o.looksAt ops.toArray) (hf : lookL F i = some φ)
    (h : StepF P T ops X F i o (s.app d e') e) : StepF P T ops X F i o s e := by
  have hsee := sees_of (h.sol φ hf)
  have hev : ∀ x ∈ o.op.operands, s.ev x = (s.app d e').ev x := by
    intro x hx
    cases x with
    | tmp t =>
      have hdt : d ≠ some t := fun he => hd t he (looks_tmp hx)
      have hb := hsee.known _ hx
      show s.σ t = (s.app d e').σ t
      have : (s.app d e').ev (.tmp t) = (s.σ t).clean e'.kill := by show (s.app d e').σ t = _; rw [app_σ, if_neg hdt]
      rw [this] at hb
      rw [app_σ, if_neg hdt, clean_known hb]
    | const v => rfl
    | global g => rfl
    | func f => rfl
  have hbl' : blindB o = true ∨ bpB (s.app d e') o = true := by
    unfold bl at hbl
    rcases Bool.or_eq_true_iff.1 hbl with h1 | h1
    · exact .inl h1
    · exact .inr (hsee.bp h1)
  have hmap : o.op.operands.toList.map s.ev = o.op.operands.toList.map (s.app d e').ev := List.map_congr_left fun x hx => hev x (by simpa using hx)
  refine ⟨fun φ' hφ' => ?_, h.eff, ?_⟩
  · have h9 := h.sol φ' hφ'
    have eφ : φ' = φ := by rw [hf] at hφ'; injection hφ' with hφ'; exact hφ'.symm
    subst eφ
    unfold seesB at *
    rw [hmap, bpB_congr hev]
    rw [hbl] at h9 ⊢
    exact h9
  · have hs := h.step
    unfold gstep at hs ⊢
    cases hg : o.guard with
    | none => simp only [hg] at hs ⊢; exact blind_step hbl' hev hs
    | some q =>
      obtain ⟨j, want⟩ := q
      simp only [hg] at hs ⊢
      cases hj : (ops[j]?).bind (·.dst) with
      | none => simp [hj] at hs
      | some t =>
        simp only [hj] at hs ⊢
        have hdt : d ≠ some t := fun he => hd t he (looks_guard hg hj)
        have h9 : (s.app d e').σ t = .un ∨ s.σ t = (s.app d e').σ t := by
          rw [app_σ, if_neg hdt]
          unfold AVal.clean
          split
          · exact .inl rfl
          · exact .inr rfl
        rcases h9 with h9 | h9
        · rw [h9] at hs; exact hs.elim
        · rw [h9]
          cases hσ : (s.app d e').σ t <;> simp only [hσ] at hs ⊢
          case bool p => exact ⟨fun hp => blind_step hbl' hev (hs.1 hp), hs.2⟩
          case cv u => exact hs

theorem StepF.blindBehind {i : Nat} {o : Oper} {s : ASt} {e e' : Eff} {d : Option Nat} {φ κ : List Nat} (hbl : bl φ o = true) (hd : ∀ t, d = some t → t ∉ o.looksAt ops.toArray) (hf : lookL F i = some φ) (ho : ovl κ φ = false) (hk : ∀ b ∈ e'.kill, b ∈ κ)
    (h : StepF P T ops X F i o s e) : StepF P T ops X F i o (s.app d e') e := by
  have hsee := sees_of (h.sol φ hf)
  have hno : ∀ b ∈ φ, b ∉ e'.kill := fun b hb hb' => ovl_mem ho (hk b hb') hb
  have hev : ∀ x ∈ o.op.operands, (s.app d e').ev x = s.ev x := by
    intro x hx
    cases x with
    | tmp t =>
      have hdt : d ≠ some t := fun he => hd t he (looks_tmp hx)
      show (s.app d e').σ t = s.σ t
      rw [app_σ, if_neg hdt]
      exact clean_disj (x := s.σ t) fun b hb => hno b (hsee.ids (.tmp t) hx b hb)
    | const v => rfl
    | global g => rfl
    | func f => rfl
  have hbl' : blindB o = true ∨ bpB s o = true := by
    unfold bl at hbl
    rcases Bool.or_eq_true_iff.1 hbl with h1 | h1
    · exact .inl h1
    · exact .inr (hsee.bp h1)
  have hmap : o.op.operands.toList.map (s.app d e').ev = o.op.operands.toList.map s.ev := List.map_congr_left fun x hx => hev x (by simpa using hx)
  refine ⟨fun φ' hφ' => ?_, h.eff, ?_⟩
  · have h9 := h.sol φ' hφ'
    have eφ : φ' = φ := by rw [hf] at hφ'; injection hφ' with hφ'; exact hφ'.symm
    subst eφ
    unfold seesB at *
    rw [hmap, bpB_congr hev]
    rw [hbl] at h9 ⊢
    exact h9
  · have hs := h.step
    unfold gstep at hs ⊢
    cases hg : o.guard with
    | none => simp only [hg] at hs ⊢; exact blind_step hbl' hev hs
    | some q =>
      obtain ⟨j, want⟩ := q
      simp only [hg] at hs ⊢
      cases hj : (ops[j]?).bind (·.dst) with
      | none => simp [hj] at hs
      | some t =>
        simp only [hj] at hs ⊢
        have hdt : d ≠ some t := fun he => hd t he (looks_guard hg hj)
        cases hσ : s.σ t <;> simp only [hσ] at hs
        case bool p =>
          rw [app_σ, if_neg hdt, hσ, clean_noids rfl]
          exact ⟨fun hp => blind_step hbl' hev (hs.1 hp), hs.2⟩
        case cv u =>
          rw [app_σ, if_neg hdt, hσ, clean_noids rfl]
          exact hs

/-- An operation does not see an effect elsewhere. -/
theorem StepF.before {i : Nat} {o : Oper} {s : ASt} {e e' : Eff} {d : Option Nat} {φ τ : List Nat} (hd : ∀ t, d = some t → t ∉ o.looksAt ops.toArray) (hf : lookL F i = some φ) (ho : ovl τ φ = false) (hk : ∀ b ∈ e'.kill, b ∈ τ) (hp : ∀ b B, hpGet e'.hp b = some B → b ∈ τ)
    (h : StepF P T ops X F i o (s.app d e') e) : StepF P T ops X F i o s e := by
  cases hbl : bl φ o with
  | true => exact StepF.blindBefore hbl hd hf h
  | false =>
  have hsee := sees_of (h.sol φ hf)
  have hev : ∀ x ∈ o.op.operands, s.ev x = (s.app d e').ev x := by
    intro x hx
    cases x with
    | tmp t =>
      have hdt : d ≠ some t := fun he => hd t he (looks_tmp hx)
      have hb := hsee.known _ hx
      show s.σ t = (s.app d e').σ t
      have : (s.app d e').ev (.tmp t) = (s.σ t).clean e'.kill := by show (s.app d e').σ t = _; rw [app_σ, if_neg hdt]
      rw [this] at hb
      rw [app_σ, if_neg hdt, clean_known hb]
    | const v => rfl
    | global g => rfl
    | func f => rfl
  have hmap : o.op.operands.toList.map s.ev = o.op.operands.toList.map (s.app d e').ev := List.map_congr_left fun x hx => hev x (by simpa using hx)
  have hH : ∀ b ∈ AVal.idsL (o.op.operands.toList.map (s.app d e').ev), s.H b = (s.app d e').H b := by
    intro b hb
    have hbφ := hsee.all b hb
    have h1 : hpGet e'.hp b = none := by
      cases hg : hpGet e'.hp b with
      | none => rfl
      | some B => exact (ovl_mem ho (hp b B hg) hbφ).elim
    have h2 : e'.kill.contains b = false := by
      cases hc : e'.kill.contains b with
      | false => rfl
      | true => exact (ovl_mem ho (hk b (by simpa using hc)) hbφ).elim
    rw [app_H, h1, h2]
    simp only [Bool.false_eq_true, if_false]
    cases hB : s.H b with
    | none => rfl
    | some B =>
      have hg : (s.app d e').H b = some (B.clean e'.kill) := by rw [app_H, h1, h2, hB]; rfl
      have := hsee.blk hbl b hb _ hg
      rw [Option.map_some, goodBlk_clean this]
  refine ⟨fun φ' hφ' => ?_, h.eff, ?_⟩
  · have h9 := h.sol φ' hφ'
    unfold seesB at *
    rw [hmap, bpB_congr hev]
    have : ((AVal.idsL (o.op.operands.toList.map (s.app d e').ev)).all fun b => match s.H b with | some B => goodBlk φ' B | none => true) = ((AVal.idsL (o.op.operands.toList.map (s.app d e').ev)).all fun b => match (s.app d e').H b with | some B => goodBlk φ' B | none => true) := by
      rw [Bool.eq_iff_iff, List.all_eq_true, List.all_eq_true]
      exact ⟨fun h b hb => by rw [← hH b hb]; exact h b hb, fun h b hb => by rw [hH b hb]; exact h b hb⟩
    rw [this]; exact h9
  · have hs := h.step
    have hg0 : ∀ j want t, o.guard = some (j, want) → (ops[j]?).bind (·.dst) = some t → (s.app d e').σ t = .un ∨ s.σ t = (s.app d e').σ t := by
      intro j want t hg hj
      have hdt : d ≠ some t := fun he => hd t he (looks_guard hg hj)
      rw [app_σ, if_neg hdt]
      unfold AVal.clean
      split
      · exact .inl rfl
      · exact .inr rfl
    unfold gstep at hs ⊢
    cases hg : o.guard with
    | none => simp only [hg] at hs ⊢; exact stepOp_congr hev hH (fun hc => .inr (hsee.call hc)) hs
    | some q =>
      obtain ⟨j, want⟩ := q
      simp only [hg] at hs ⊢
      cases hj : (ops[j]?).bind (·.dst) with
      | none => simp [hj] at hs
      | some t =>
        simp only [hj] at hs ⊢
        rcases hg0 j want t hg hj with h9 | h9
        · rw [h9] at hs; exact hs.elim
        · rw [h9]
          cases hσ : (s.app d e').σ t <;> simp only [hσ] at hs ⊢
          case bool p => exact ⟨fun hp => stepOp_congr hev hH (fun hc => .inr (hsee.call hc)) (hs.1 hp), hs.2⟩
          case cv u => exact hs

theorem StepF.behind {i : Nat} {o : Oper} {s : ASt} {e e' : Eff} {d : Option Nat} {φ τ : List Nat} (hd : ∀ t, d = some t → t ∉ o.looksAt ops.toArray) (hf : lookL F i = some φ) (ho : ovl τ φ = false) (hk : ∀ b ∈ e'.kill, b ∈ τ) (hp : ∀ b B, hpGet e'.hp b = some B → b ∈ τ)
    (h : StepF P T ops X F i o s e) : StepF P T ops X F i o (s.app d e') e := by
  cases hbl : bl φ o with
  | true => exact StepF.blindBehind hbl hd hf ho hk h
  | false =>
  have hsee := sees_of (h.sol φ hf)
  have hno : ∀ b ∈ φ, b ∉ e'.kill := fun b hb hb' => ovl_mem ho (hk b hb') hb
  have hev : ∀ x ∈ o.op.operands, (s.app d e').ev x = s.ev x := by
    intro x hx
    cases x with
    | tmp t =>
      have hdt : d ≠ some t := fun he => hd t he (looks_tmp hx)
      show (s.app d e').σ t = s.σ t
      rw [app_σ, if_neg hdt]
      exact clean_disj (x := s.σ t) fun b hb => hno b (hsee.ids (.tmp t) hx b hb)
    | const v => rfl
    | global g => rfl
    | func f => rfl
  have hmap : o.op.operands.toList.map (s.app d e').ev = o.op.operands.toList.map s.ev := List.map_congr_left fun x hx => hev x (by simpa using hx)
  have hH : ∀ b ∈ AVal.idsL (o.op.operands.toList.map s.ev), (s.app d e').H b = s.H b := by
    intro b hb
    have hbφ := hsee.all b hb
    have h1 : hpGet e'.hp b = none := by
      cases hg : hpGet e'.hp b with
      | none => rfl
      | some B => exact (ovl_mem ho (hp b B hg) hbφ).elim
    have h2 : e'.kill.contains b = false := by
      cases hc : e'.kill.contains b with
      | false => rfl
      | true => exact (hno b hbφ (by simpa using hc)).elim
    rw [app_H, h1, h2]
    simp only [Bool.false_eq_true, if_false]
    cases hB : s.H b with
    | none => rfl
    | some B => rw [Option.map_some, goodBlk_disj (hsee.blk hbl b hb B hB) hno]
  refine ⟨fun φ' hφ' => ?_, h.eff, ?_⟩
  · have h9 := h.sol φ' hφ'
    unfold seesB at *
    rw [hmap, bpB_congr hev]
    have : ((AVal.idsL (o.op.operands.toList.map s.ev)).all fun b => match (s.app d e').H b with | some B => goodBlk φ' B | none => true) = ((AVal.idsL (o.op.operands.toList.map s.ev)).all fun b => match s.H b with | some B => goodBlk φ' B | none => true) := by
      rw [Bool.eq_iff_iff, List.all_eq_true, List.all_eq_true]
      exact ⟨fun h b hb => by rw [← hH b hb]; exact h b hb, fun h b hb => by rw [hH b hb]; exact h b hb⟩
    rw [this]; exact h9
  · have hs := h.step
    unfold gstep at hs ⊢
    cases hg : o.guard with
    | none => simp only [hg] at hs ⊢; exact stepOp_congr hev hH (fun hc => .inr (hsee.call hc)) hs
    | some q =>
      obtain ⟨j, want⟩ := q
      simp only [hg] at hs ⊢
      cases hj : (ops[j]?).bind (·.dst) with
      | none => simp [hj] at hs
      | some t =>
        simp only [hj] at hs ⊢
        have hdt : d ≠ some t := fun he => hd t he (looks_guard hg hj)
        cases hσ : s.σ t <;> simp only [hσ] at hs
        case bool p =>
          rw [app_σ, if_neg hdt, hσ, clean_noids rfl]
          exact ⟨fun hp => stepOp_congr hev hH (fun hc => .inr (hsee.call hc)) (hs.1 hp), hs.2⟩
        case cv u =>
          rw [app_σ, if_neg hdt, hσ, clean_noids rfl]
          exact hs

theorem touch_none {e : Eff} {τ : List Nat} (hk : ∀ b ∈ e.kill, b ∈ τ) (hp : ∀ b B, hpGet e.hp b = some B → b ∈ τ) {b : Nat} (hb : b ∉ τ) : hpGet e.hp b = none ∧ e.kill.contains b = false := by
  refine ⟨?_, ?_⟩
  · cases hg : hpGet e.hp b with
    | none => rfl
    | some B => exact absurd (hp b B hg) hb
  · cases hc : e.kill.contains b with
    | false => rfl
    | true => exact absurd (hk b (by simpa using hc)) hb

theorem hp_clean {e : Eff} {K : List Nat} (h : ∀ b ∈ idsH e.hp, b ∉ K) {b : Nat} {B : ABlk} (hg : hpGet e.hp b = some B) : B.clean K = B := by
  cases B with
  | box ty cs =>
    simp only [ABlk.clean]
    rw [clean_disjL fun b' hb' => h b' (idsH_get (hpGet_mem hg) b' hb')]
  | arr => rfl
  | imm => rfl
  | map => rfl

/-- Two operations with effects elsewhere: which comes first makes no difference. -/
theorem app_comm2 {s : ASt} {d d' : Option Nat} {e e' : Eff} {τ τ' : List Nat} (hdd : ∀ t, d = some t → d' ≠ some t) (hk : ∀ b ∈ e.kill, b ∈ τ) (hp : ∀ b B, hpGet e.hp b = some B → b ∈ τ) (hk' : ∀ b ∈ e'.kill, b ∈ τ') (hp' : ∀ b B, hpGet e'.hp b = some B → b ∈ τ')
    (hττ : ovl τ τ' = false) (hv : ∀ b ∈ e.v.ids, b ∉ e'.kill) (hv' : ∀ b ∈ e'.v.ids, b ∉ e.kill) (hi : ∀ b ∈ idsH e.hp, b ∉ e'.kill) (hi' : ∀ b ∈ idsH e'.hp, b ∉ e.kill) : (s.app d e).app d' e' = (s.app d' e').app d e := by
  have h1 : ((s.app d e).app d' e').σ = ((s.app d' e').app d e).σ := by
    funext t
    rw [app_σ, app_σ, app_σ, app_σ]
    by_cases h1 : d = some t
    · rw [if_neg (hdd t h1), if_pos h1, if_pos h1, clean_disj hv]
    · by_cases h2 : d' = some t
      · rw [if_pos h2, if_neg h1, if_pos h2, clean_disj hv']
      · rw [if_neg h2, if_neg h1, if_neg h1, if_neg h2, clean_comm]
  have h2 : ((s.app d e).app d' e').H = ((s.app d' e').app d e).H := by
    funext b
    rw [app_H (s.app d e), app_H (s.app d' e'), app_H s d e, app_H s d' e']
    by_cases hb : b ∈ τ
    · have hb' : b ∉ τ' := fun h => ovl_mem hττ hb h
      obtain ⟨x1, x2⟩ := touch_none hk' hp' hb'
      simp only [x1, x2, Bool.false_eq_true, if_false]
      cases hg : hpGet e.hp b with
      | some B => simp only [Option.map_some, hp_clean hi hg]
      | none =>
        simp only
        split
        · rfl
        · cases s.H b with
          | none => rfl
          | some B => simp only [Option.map_some, bclean_comm]
    · obtain ⟨x1, x2⟩ := touch_none hk hp hb
      simp only [x1, x2, Bool.false_eq_true, if_false]
      cases hg : hpGet e'.hp b with
      | some B => simp only [Option.map_some, hp_clean hi' hg]
      | none =>
        simp only
        split
        · rfl
        · cases s.H b with
          | none => rfl
          | some B => simp only [Option.map_some, bclean_comm]
  calc (s.app d e).app d' e' = ⟨((s.app d e).app d' e').σ, ((s.app d e).app d' e').H, s.g⟩ := rfl
    _ = ⟨((s.app d' e').app d e).σ, ((s.app d' e').app d e).H, s.g⟩ := by rw [h1, h2]
    _ = (s.app d' e').app d e := rfl

/-- A quiet operation and another one: which comes first makes no difference. -/
theorem app_comm {s : ASt} {d d' : Option Nat} {e e' : Eff} (hdd : ∀ t, d = some t → d' ≠ some t) (hq : e.kill = [] ∧ e.hp = []) (hv : e.v.clean e'.kill = e.v) : (s.app d e).app d' e' = (s.app d' e').app d e := by
  have h1 : ((s.app d e).app d' e').σ = ((s.app d' e').app d e).σ := by
    funext t
    rw [app_σ, app_σ, app_σ, app_σ, hq.1, clean_nil]
    by_cases h1 : d = some t
    · rw [if_neg (hdd t h1), if_pos h1, if_pos h1, hv]
    · by_cases h2 : d' = some t
      · rw [if_pos h2, if_neg h1, clean_nil]; rw [if_pos h2]
      · rw [if_neg h2, if_neg h1, if_neg h1, if_neg h2, clean_nil]
  have h2 : ((s.app d e).app d' e').H = ((s.app d' e').app d e).H := by
    have e1 : (s.app d e).H = s.H := app_quiet_H hq
    rw [app_quiet_H (s := s.app d' e') hq]
    funext b
    rw [app_H (s.app d e), e1, app_H s]
  calc (s.app d e).app d' e' = ⟨((s.app d e).app d' e').σ, ((s.app d e).app d' e').H, s.g⟩ := rfl
    _ = ⟨((s.app d' e').app d e).σ, ((s.app d' e').app d e).H, s.g⟩ := by rw [h1, h2]
    _ = (s.app d' e').app d e := rfl

/-- Operation j waits for operation i. -/
def waitsB (ops : Array Oper) : Nat → Nat → Nat → Bool
  | 0, _, _ => false
  | fuel + 1, j, i => match ops[j]? with
    | some oj => (oj.after.any fun e => Region.binds .any e && e.on == i) || (oj.after.any fun e => Region.binds .any e && waitsB ops fuel e.on i)
    | none => false

/-- What is listed waits for nothing that is not. -/
def Closed (ops : Array Oper) (listed : Array Bool) : Prop :=
  ∀ j oj, ops[j]? = some oj → listed.getD j true = true → ∀ e ∈ oj.after, Region.binds .any e = true → listed.getD e.on false = true

theorem getD_tf {l : Array Bool} {i : Nat} (h : l.getD i false = true) : l.getD i true = true := by
  rw [Array.getD_eq_getD_getElem?] at *
  cases hc : l[i]? with
  | none => rw [hc] at h; cases h
  | some b => rw [hc] at h; exact h

theorem waits_listed {ops : Array Oper} {listed : Array Bool} (hc : Closed ops listed) : ∀ (fuel j i : Nat) (oj : Oper), ops[j]? = some oj → (∀ e ∈ oj.after, Region.binds .any e = true → listed.getD e.on false = true) → waitsB ops fuel j i = true → listed.getD i false = true
  | 0, j, i, oj, hj, hall, hw => by cases hw
  | fuel + 1, j, i, oj, hj, hall, hw => by
    unfold waitsB at hw
    rw [hj] at hw
    simp only at hw
    rw [Bool.or_eq_true, Array.any_eq_true, Array.any_eq_true] at hw
    rcases hw with ⟨k, hk, h2⟩ | ⟨k, hk, h2⟩
    · simp only [Bool.and_eq_true, beq_iff_eq] at h2
      have hl := hall oj.after[k] (by simp) h2.1
      rw [← h2.2]; exact hl
    · simp only [Bool.and_eq_true] at h2
      have hl := hall oj.after[k] (by simp) h2.1
      cases hq : ops[(oj.after[k]).on]? with
      | none => cases fuel <;> simp [waitsB, hq] at h2
      | some oq => exact waits_listed hc fuel _ i oq hq (hc _ oq hq (getD_tf hl)) h2.2

theorem closed_set {ops : Array Oper} {listed : Array Bool} (hc : Closed ops listed) {i : Nat} {oi : Oper} (hi : ops[i]? = some oi) (hall : ∀ e ∈ oi.after, Region.binds .any e = true → listed.getD e.on false = true) : Closed ops (listed.setIfInBounds i true) := by
  have hup : ∀ k, listed.getD k false = true → (listed.setIfInBounds i true).getD k false = true := by
    intro k hk
    rw [Array.getD_eq_getD_getElem?] at *
    rw [Array.getElem?_setIfInBounds]
    split
    · rename_i e
      subst e
      split
      · rfl
      · rename_i hlt
        rw [Array.getElem?_eq_none (by omega)] at hk
        cases hk
    · exact hk
  intro j oj hj hl e he hb
  by_cases hji : j = i
  · subst hji
    rw [hi] at hj
    injection hj with hj
    subst hj
    exact hup _ (hall e he hb)
  · rw [getD_set_ne true (fun h => hji h.symm)] at hl
    exact hup _ (hc j oj hj hl e he hb)

/-- An operation that may come up now may be taken first. -/
theorem anyF_first {i : Nat} {oi : Oper} (hi : ops[i]? = some oi) (wf : Nat) : ∀ (fuel : Nat) (listed : Array Bool) (s : ASt), Closed ops.toArray listed → i ∈ Region.ready .any ops.toArray listed → StepF P T ops X F i oi s (E i) →
    (∀ j oj, ops[j]? = some oj → j ≠ i → listed.getD j true = false → waitsB ops.toArray wf j i = false → oi.apart ops.toArray oj = true ∧ compat X F (blindB oi) (blindB oj) i j = true) →
    anyF P T ops X F E Q fuel (listed.setIfInBounds i true) (s.app oi.dst (E i)) → anyF P T ops X F E Q (fuel + 1) listed s := by
  intro fuel
  induction fuel with
  | zero =>
    intro listed s hcl hr hst hfree H
    refine ⟨fun h => (by rw [h] at hr; cases hr), fun j hj => ?_⟩
    by_cases hji : j = i
    · subst hji; exact ⟨oi, hi, hst, H⟩
    · have := ready_mono hj hji
      rw [H.1] at this
      cases this
  | succ fuel ih =>
    intro listed s hcl hr hst hfree H
    refine ⟨fun h => (by rw [h] at hr; cases hr), fun j hj => ?_⟩
    by_cases hji : j = i
    · subst hji; exact ⟨oi, hi, hst, H⟩
    · obtain ⟨oj, hoj, hstj, Hj⟩ := H.2 j (ready_mono hj hji)
      obtain ⟨hjun, oj', hoj', hall⟩ := mem_ready.1 hj
      have hoj'' : ops[j]? = some oj' := by simpa using hoj'
      rw [hoj] at hoj''
      injection hoj'' with hoj''
      subst hoj''
      have hnot : waitsB ops.toArray wf j i = false := by
        cases hw : waitsB ops.toArray wf j i with
        | false => rfl
        | true =>
          have h1 := waits_listed hcl wf j i oj (by simpa using hoj) hall hw
          have h0 := (mem_ready.1 hr).1
          have := getD_tf h1
          rw [h0] at this; cases this
      obtain ⟨hap, hco⟩ := hfree j oj hoj hji hjun hnot
      obtain ⟨a1, a2, a3⟩ := Oper.apart_spec hap
      have a2' : ∀ t, oj.dst = some t → oi.dst ≠ some t := fun t ht h => a2 t h ht
      -- the other one first
      have key : StepF P T ops X F j oj s (E j) ∧ StepF P T ops X F i oi (s.app oj.dst (E j)) (E i) ∧ (s.app oi.dst (E i)).app oj.dst (E j) = (s.app oj.dst (E j)).app oi.dst (E i) := by
        unfold compat at hco
        cases hxi : lookL X i with
        | none =>
          have qi := eff_quiet hst.eff hxi
          cases hxj : lookL X j with
          | none =>
            have qj := eff_quiet hstj.eff hxj
            refine ⟨hstj.congr (fun t ht => (app_quiet_σ qi fun h => a1 t h ht).symm) (app_quiet_H qi).symm, hst.congr (fun t ht => app_quiet_σ qj fun h => a3 t h ht) (app_quiet_H qj), ?_⟩
            exact app_comm a2 qi (by rw [qj.1, clean_nil])
          | some τ' =>
            rw [hxi, hxj] at hco
            simp only at hco
            cases hfi : lookL F i with
            | none => simp [hfi] at hco
            | some φ =>
              simp only [hfi, Bool.or_eq_true, Bool.and_eq_true, Bool.not_eq_true'] at hco
              obtain ⟨t1, t2⟩ := eff_touch hstj.eff hxj
              obtain ⟨i1, _⟩ := eff_ids hst.eff hfi
              rcases hco with hco | ⟨hbl0, hco⟩
              · refine ⟨hstj.congr (fun t ht => (app_quiet_σ qi fun h => a1 t h ht).symm) (app_quiet_H qi).symm, hst.behind a3 hfi hco t1 t2, ?_⟩
                exact app_comm a2 qi (clean_disj fun b hb hb' => ovl_mem hco (t1 b hb') (i1 b hb))
              · have k1 := eff_kill hstj.eff hxj
                refine ⟨hstj.congr (fun t ht => (app_quiet_σ qi fun h => a1 t h ht).symm) (app_quiet_H qi).symm, hst.blindBehind (by unfold bl; rw [Bool.or_eq_true]; exact hbl0) a3 hfi hco k1, ?_⟩
                exact app_comm a2 qi (clean_disj fun b hb hb' => ovl_mem hco (k1 b hb') (i1 b hb))
        | some τ =>
          obtain ⟨s1, s2⟩ := eff_touch hst.eff hxi
          cases hxj : lookL X j with
          | none =>
            have qj := eff_quiet hstj.eff hxj
            rw [hxi, hxj] at hco
            simp only at hco
            cases hfj : lookL F j with
            | none => simp [hfj] at hco
            | some φ =>
              simp only [hfj, Bool.or_eq_true, Bool.and_eq_true, Bool.not_eq_true'] at hco
              obtain ⟨i1, _⟩ := eff_ids hstj.eff hfj
              rcases hco with hco | ⟨hbl0, hco⟩
              · refine ⟨hstj.before a1 hfj hco s1 s2, hst.congr (fun t ht => app_quiet_σ qj fun h => a3 t h ht) (app_quiet_H qj), ?_⟩
                exact (app_comm a2' qj (clean_disj fun b hb hb' => ovl_mem hco (s1 b hb') (i1 b hb))).symm
              · have k1 := eff_kill hst.eff hxi
                refine ⟨hstj.blindBefore (by unfold bl; rw [Bool.or_eq_true]; exact hbl0) a1 hfj, hst.congr (fun t ht => app_quiet_σ qj fun h => a3 t h ht) (app_quiet_H qj), ?_⟩
                exact (app_comm a2' qj (clean_disj fun b hb hb' => ovl_mem hco (k1 b hb') (i1 b hb))).symm
          | some τ' =>
            rw [hxi, hxj] at hco
            simp only at hco
            cases hfi : lookL F i with
            | none => simp [hfi] at hco
            | some φ =>
              cases hfj : lookL F j with
              | none => simp [hfi, hfj] at hco
              | some φ' =>
                simp only [hfi, hfj, Bool.and_eq_true, Bool.not_eq_true'] at hco
                obtain ⟨⟨c1, c2⟩, c3⟩ := hco
                obtain ⟨t1, t2⟩ := eff_touch hstj.eff hxj
                obtain ⟨i1, i2⟩ := eff_ids hst.eff hfi
                obtain ⟨j1, j2⟩ := eff_ids hstj.eff hfj
                refine ⟨hstj.before a1 hfj c1 s1 s2, hst.behind a3 hfi c2 t1 t2, ?_⟩
                exact app_comm2 a2 s1 s2 t1 t2 c3 (fun b hb hb' => ovl_mem c2 (t1 b hb') (i1 b hb)) (fun b hb hb' => ovl_mem c1 (s1 b hb') (j1 b hb)) (fun b hb hb' => ovl_mem c2 (t1 b hb') (i2 b hb)) (fun b hb hb' => ovl_mem c1 (s1 b hb') (j2 b hb))
      obtain ⟨k1, k2, k3⟩ := key
      refine ⟨oj, hoj, k1, ih _ _ (closed_set hcl (by simpa using hoj) hall) (ready_mono hr (Ne.symm hji)) k2 (fun q oq hq hqi hun hno => ?_) ?_⟩
      · refine hfree q oq hq hqi ?_ hno
        by_cases hjq : j = q
        · subst hjq; exact hjun
        · rw [getD_set_ne true hjq] at hun; exact hun
      · rw [Array.setIfInBounds_comm _ _ hji, ← k3]
        exact Hj

def freeE (ops : Array Oper) (X F : List (Nat × List Nat)) (listed : Array Bool) (i : Nat) : Bool :=
  match ops[i]? with
  | none => false
  | some oi => (List.range ops.size).all fun j => j == i || listed.getD j true || match ops[j]? with
      | some oj => waitsB ops ops.size j i || (oi.apart ops oj && compat X F (blindB oi) (blindB oj) i j)
      | none => true

def lexFromE (ops : Array Oper) (X F : List (Nat × List Nat)) : Nat → Nat → Array Bool → Bool
  | 0, _, listed => (Region.ready .any ops listed).isEmpty
  | fuel + 1, k, listed => (Region.ready .any ops listed).contains k && freeE ops X F listed k && lexFromE ops X F fuel (k + 1) (listed.setIfInBounds k true)

def lexE (ops : List Oper) (X F : List (Nat × List Nat)) : Bool := lexFromE ops.toArray X F ops.length 0 (Array.replicate ops.length false)

theorem freeE_spec {i : Nat} {oi : Oper} {listed : Array Bool} (hi : ops[i]? = some oi) (h : freeE ops.toArray X F listed i = true) (j : Nat) (oj : Oper) (hj : ops[j]? = some oj) (hne : j ≠ i) (hun : listed.getD j true = false)
    (hno : waitsB ops.toArray ops.toArray.size j i = false) : oi.apart ops.toArray oj = true ∧ compat X F (blindB oi) (blindB oj) i j = true := by
  unfold freeE at h
  have hi' : ops.toArray[i]? = some oi := by simpa using hi
  have hj' : ops.toArray[j]? = some oj := by simpa using hj
  simp only [hi'] at h
  have hlt : j < ops.toArray.size := (Array.getElem?_eq_some_iff.1 hj').1
  have := List.all_eq_true.1 h j (List.mem_range.2 hlt)
  simp only [hj', hun, Bool.or_false, Bool.or_eq_true, beq_iff_eq, hne, false_or, Bool.and_eq_true, hno, Bool.false_eq_true] at this
  exact this

theorem anyF_lex : ∀ (l : List Oper) (k : Nat) (listed : Array Bool) (s : ASt), Closed ops.toArray listed → (∀ j, l[j]? = ops[k + j]?) → lexFromE ops.toArray X F l.length k listed = true → trF P T ops X F E Q k l s → anyF P T ops X F E Q l.length listed s
  | [], k, listed, s, _, _, hB, h => ⟨by simpa [lexFromE] using hB, h⟩
  | o :: l, k, listed, s, hcl, hl, hB, h => by
    have h0 : ops[k]? = some o := by simpa using (hl 0).symm
    simp only [List.length_cons, lexFromE, Bool.and_eq_true] at hB
    obtain ⟨⟨hr, hf⟩, hB'⟩ := hB
    unfold trF at h
    have hrk : k ∈ Region.ready .any ops.toArray listed := by simpa using hr
    obtain ⟨_, o', ho', hall⟩ := mem_ready.1 hrk
    have hcl' := closed_set hcl ho' hall
    exact anyF_first h0 _ l.length listed s hcl hrk h.1 (freeE_spec h0 hf) (anyF_lex l (k + 1) _ _ hcl' (fun j => by have := hl (j + 1); simpa [Nat.add_assoc, Nat.add_comm 1 j] using this) hB' h.2)

variable {n : Nat} {ds : List Deferred} {A0 L0 : Nat → Prop} {w0 : Old}

theorem Rel.drew {η : Nat → Value} {s : ASt} {a : Act} {w : World} (h : Rel n ds A0 L0 w0 η s a w) : Rel n ds A0 L0 w0 η s a { w with drawn := w.drawn + 1 } := by
  have hA : ∀ (A : Nat → Prop), Keeps A A w { w with drawn := w.drawn + 1 } := fun A => ⟨Nat.le_refl _, fun _ _ _ => rfl, fun _ _ h => h⟩
  refine ⟨h.size, h.few, h.hd, fun i => RepV.step (hA _) _ _ (fun _ _ => rfl) (h.tmp i), ⟨fun b B hb => ?_, h.hp.inj, h.hp.av⟩, ⟨h.fr.os, h.fr.tape, h.fr.output, h.fr.size, h.fr.heap⟩, h.old, knows_step h.gh h.hp rfl ⟨rfl, rfl, rfl, Nat.le_refl _, fun _ _ _ => rfl⟩ fun g hg => .inl hg⟩
  have := RelBlk.step (K := []) (hA (Av A0 η s.H)) (fun _ _ => rfl) (fun g _ _ => rfl) (h.hp.blk b B hb)
  rwa [bclean_nil] at this

theorem anyF_sound (hT : TabOK P T) {ro : Option Nat} {m : Nat} {Q' : Exit → Act → World → Prop} (hd : dstOK n ops = true) (hQ : ∀ s η a w, Q s → Rel n ds A0 L0 w0 η s a w → Q' .normal a w) :
    ∀ (fuel : Nat) (listed : Array Bool) (s : ASt) (η : Nat → Value) (a : Act) (w : World), Rel n ds A0 L0 w0 η s a w → anyF P T ops X F E Q fuel listed s → wpAnyIn (fen ro) m P .any ops.toArray Q' fuel listed a w
  | 0, listed, s, η, a, w, hr, h => ⟨h.1, hQ s η a w h.2 hr⟩
  | fuel + 1, listed, s, η, a, w, hr, h => by
    refine ⟨fun h0 => hQ s η a w (h.1 h0) hr, fun i hi => ?_⟩
    obtain ⟨o, ho, hst, hrest⟩ := h.2 i hi
    have hoi : ops.toArray[i]? = some o := by simpa using ho
    have hdo : ∀ t, o.dst = some t → t < n := fun t ht => by
      have := List.all_eq_true.1 hd o (List.mem_of_getElem? ho)
      rw [ht] at this; simpa using this
    unfold wpOpIn
    simp only [hoi]
    exact gstep_sound hT hdo hr hst.step fun e η' a' w' he hr' => by
      subst he
      exact anyF_sound hT hd hQ fuel _ _ η' a' w' hr' hrest

/-- A region that draws its order. -/
theorem AW.draw (hT : TabOK P T) (hm : P.follows .mixedOrders = true) {ro : Option Nat} {id : Nat} {Q : Exit → ASt → Prop} {s : ASt} (X F : List (Nat × List Nat)) (hd : dstOK n ops = true) (hB : lexE ops X F = true) (h : adops P T ops X F 0 ops s (Q .normal)) : AW P ro n (.region id ops.toArray true) Q s := by
  intro m ds A0 L0 w0 η a w hq0 hr
  refine wpIn_region_any hm ?_
  obtain ⟨E, hE⟩ := trF_of ops 0 s h
  have hcl : Closed ops.toArray (Array.replicate ops.length false) := fun j oj hj hl => by
    have hlt : j < ops.length := by simpa using (Array.getElem?_eq_some_iff.1 hj).1
    rw [Array.getD_eq_getD_getElem?] at hl
    simp [hlt] at hl
  have := anyF_lex ops 0 (Array.replicate ops.length false) s hcl (fun j => by rw [Nat.zero_add]) hB hE
  have h2 := anyF_sound (ro := ro) (m := m) (Q' := RelQ n ds L0 w0 Q) hT hd (fun s η a w hQ hR => ⟨A0, η, s, hQ, hR⟩) _ _ s η a _ hr.drew this
  simpa using h2

end
end Go.Proofs.Ytcijihofjcfpoab
