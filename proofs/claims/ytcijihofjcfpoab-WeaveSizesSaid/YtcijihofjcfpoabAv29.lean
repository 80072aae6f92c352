/-
  The abstract machine, 29: a region that draws its order and ends in operations that wait for all before them. No program is named here.
-/
import Derived.Test.YtcijihofjcfpoabAv28
namespace Go.Proofs.Ytcijihofjcfpoab
open Go.RowKit

set_option linter.constructorNameAsVariable false
set_option linter.unusedVariables false
set_option linter.unusedSimpArgs false
set_option linter.unnecessarySimpa false

/-- The first k operations wait for earlier ones only, the others for all before them. -/
def tailOK (ops : List Oper) (k : Nat) : Bool :=
  ((List.range k).all fun j => match ops[j]? with
    | some o => o.after.toList.all fun e => !Region.binds .any e || decide (e.on < j)
    | none => false) &&
  ((List.range ops.length).all fun j => decide (j < k) || (List.range j).all fun i => waitsB ops.toArray ops.length j i) &&
  ((List.range ops.length).all fun j => decide (j < k) || match ops[j]? with
    | some o => o.after.toList.all fun e => !Region.binds .any e || decide (e.on < j)
    | none => false)

theorem slOps00 (x : Operand) : (#[x] ++ (none : Option Operand).toArray ++ (none : Option Operand).toArray ++ (none : Option Operand).toArray).toList = [x] := rfl
theorem slOps01 (x y : Operand) : (#[x] ++ (none : Option Operand).toArray ++ (some y).toArray ++ (none : Option Operand).toArray).toList = [x, y] := rfl
theorem slOps10 (x y : Operand) : (#[x] ++ (some y).toArray ++ (none : Option Operand).toArray ++ (none : Option Operand).toArray).toList = [x, y] := rfl
theorem slOps11 (x y z : Operand) : (#[x] ++ (some y).toArray ++ (some z).toArray ++ (none : Option Operand).toArray).toList = [x, y, z] := rfl
attribute [go_sem high] slOps00 slOps01 slOps10 slOps11

/-- What is listed of all, and of the first ones. -/
structure Ext (k n : Nat) (l l' : Array Bool) : Prop where
  sl : l.size = n
  sl' : l'.size = k
  lo : ∀ i, i < k → l[i]? = l'[i]?
  hi : ∀ i, k ≤ i → i < n → l[i]? = some false

section
variable {P : Program} {T : Tab} {X F : List (Nat × List Nat)} {E : Nat → Eff} {n : Nat} {ds : List Deferred} {A0 L0 : Nat → Prop} {w0 : Old}

theorem gstep_pre {pre tail : List Oper} {s : ASt} {o : Oper} {K : Eff → Prop} (h : gstep P T pre s o K) : gstep P T (pre ++ tail) s o K := by
  unfold gstep at h ⊢
  cases hg : o.guard with
  | none => simp only [hg] at h ⊢; exact h
  | some q =>
    obtain ⟨j, want⟩ := q
    simp only [hg] at h ⊢
    by_cases hj : j < pre.length
    · rw [List.getElem?_append_left hj]; exact h
    · rw [List.getElem?_eq_none (by omega)] at h
      simp at h

theorem tail_sound {ops : List Oper} {ro : Option Nat} {m : Nat} {Q' : Exit → Act → World → Prop} (hch : ∀ j, j < ops.length → ∀ i, i < j → (ops.length - 1 < j ∨ True)) :
    ∀ (t : List Oper) (k x : Nat) (l : Array Bool) (a : Act) (w : World), k + t.length = ops.length → (∀ j, t[j]? = ops[k + j]?) → l.size = ops.length → (∀ i, i < k → l[i]? = some true) → (∀ i, k ≤ i → i < ops.length → l[i]? = some false) →
      (∀ j, k ≤ j → j < ops.length → ∀ i, i < j → waitsB ops.toArray ops.length j i = true) → (∀ j o, k ≤ j → ops[j]? = some o → ∀ e ∈ o.after, Region.binds .any e = true → e.on < j) → Closed ops.toArray l →
      wpListIn (fen ro) m P ops.toArray Q' t a w → wpAnyIn (fen ro) m P .any ops.toArray Q' (x + t.length) l a w
  | [], k, x, l, a, w, hk, _, hs, ht, hf, _, _, _, h => by
    have hr : Region.ready .any ops.toArray l = [] := by
      rw [List.eq_nil_iff_forall_not_mem]
      intro j hj
      obtain ⟨h0, o, ho, _⟩ := mem_ready.1 hj
      have hlt : j < ops.length := by simpa using (Array.getElem?_eq_some_iff.1 ho).1
      have := ht j (by simp at hk; omega)
      rw [Array.getD_eq_getD_getElem?, this] at h0
      simp at h0
    cases x with
    | zero => exact ⟨hr, h⟩
    | succ x => exact ⟨fun _ => h, fun i hi => by rw [hr] at hi; cases hi⟩
  | o :: t, k, x, l, a, w, hk, ht0, hs, ht, hf, hwt, haf, hcl, h => by
    have hk' : k < ops.length := by simp at hk; omega
    have ho : ops[k]? = some o := by have := ht0 0; simpa using this.symm
    have hoa : ops.toArray[k]? = some o := by simpa using ho
    have hall : ∀ e ∈ o.after, Region.binds .any e = true → l.getD e.on false = true := fun e he hb => by
      have := ht e.on (haf k o (Nat.le_refl _) ho e he hb)
      rw [Array.getD_eq_getD_getElem?, this]; rfl
    have hrk : k ∈ Region.ready .any ops.toArray l := mem_ready.2 ⟨by rw [Array.getD_eq_getD_getElem?, hf k (Nat.le_refl _) hk']; rfl, o, hoa, hall⟩
    show wpAnyIn (fen ro) m P .any ops.toArray Q' (x + t.length + 1) l a w
    refine ⟨(fun h0 => by rw [h0] at hrk; cases hrk), fun i hi => ?_⟩
    obtain ⟨h0, oi, hoi, halli⟩ := mem_ready.1 hi
    have hil : i < ops.length := by simpa using (Array.getElem?_eq_some_iff.1 hoi).1
    have hik : i = k := by
      rcases Nat.lt_trichotomy i k with h1 | h1 | h1
      · rw [Array.getD_eq_getD_getElem?, ht i h1] at h0; simp at h0
      · exact h1
      · have := waits_listed hcl ops.length i k oi hoi halli (hwt i (by omega) hil k h1)
        rw [Array.getD_eq_getD_getElem?, hf k (Nat.le_refl _) hk'] at this
        simp at this
    subst hik
    unfold wpOpIn
    rw [hoa]
    simp only
    unfold wpListIn at h
    have next : ∀ a w, wpListIn (fen ro) m P ops.toArray Q' t a w → wpAnyIn (fen ro) m P .any ops.toArray Q' (x + t.length) (l.setIfInBounds i true) a w := fun a w hw => by
      refine tail_sound hch t (i + 1) x _ a w (by simp at hk; omega) (fun j => by have := ht0 (j + 1); simpa [Nat.add_assoc, Nat.add_comm 1 j] using this) (by simpa using hs) (fun j hj => ?_) (fun j hj hj' => ?_) (fun j hj hj' => hwt j (by omega) hj') (fun j o hj => haf j o (by omega)) (closed_set hcl hoa hall) hw
      · by_cases e : j = i
        · subst e; rw [Array.getElem?_setIfInBounds_self_of_lt (by omega)]
        · rw [Array.getElem?_setIfInBounds_ne (Ne.symm e)]; exact ht j (by omega)
      · rw [Array.getElem?_setIfInBounds_ne (by omega)]; exact hf j (by omega) hj'
    split
    · rename_i hw
      rw [if_pos hw] at h
      exact Oper.wpIn_mono next h
    · rename_i hw
      rw [if_neg hw] at h
      exact ⟨h.1, next _ _ h.2⟩

theorem pre_sound (hT : TabOK P T) {pre tail : List Oper} {ro : Option Nat} {m : Nat} {Q' : Exit → Act → World → Prop} {K : ASt → Prop} (hd : dstOK n pre = true)
    (hB : ∀ j o, (pre ++ tail)[j]? = some o → ∀ e ∈ o.after, Region.binds .any e = true → e.on < j)
    (hwt : ∀ j, pre.length ≤ j → j < (pre ++ tail).length → ∀ i, i < j → waitsB (pre ++ tail).toArray (pre ++ tail).length j i = true)
    (hQ : ∀ s η a w, K s → Rel n ds A0 L0 w0 η s a w → wpListIn (fen ro) m P (pre ++ tail).toArray Q' tail a w) :
    ∀ (fuel : Nat) (l l' : Array Bool) (s : ASt) (η : Nat → Value) (a : Act) (w : World), Ext pre.length (pre ++ tail).length l l' → Closed (pre ++ tail).toArray l → Rel n ds A0 L0 w0 η s a w → anyF P T pre X F E K fuel l' s → wpAnyIn (fen ro) m P .any (pre ++ tail).toArray Q' (fuel + tail.length) l a w := by
  intro fuel
  induction fuel with
  | zero =>
    intro l l' s η a w hE hcl hr h
    -- all are listed
    have hall : ∀ i, i < pre.length → l[i]? = some true := by
      intro i
      induction i using Nat.strongRecOn with
      | ind i ih =>
        intro hi
        have hlt : i < l'.size := by rw [hE.sl']; exact hi
        have hi2 : l'[i]? = some l'[i] := by simp [hlt]
        cases hb : l'[i] with
        | true => rw [hE.lo i hi, hi2, hb]
        | false =>
          exfalso
          have ho : pre[i]? = some pre[i] := by simp [hi]
          have : i ∈ Region.ready .any pre.toArray l' := mem_ready.2 ⟨by rw [Array.getD_eq_getD_getElem?, hi2, hb]; rfl, pre[i], by simpa using ho, fun e he hbe => by
            have h1 := hB i pre[i] (by rw [List.getElem?_append_left hi, ho]) e he hbe
            have h2 := ih e.on h1 (by omega)
            rw [hE.lo e.on (by omega)] at h2
            rw [Array.getD_eq_getD_getElem?, h2]; rfl⟩
          rw [h.1] at this; cases this
    exact tail_sound (fun _ _ _ _ => .inr trivial) tail pre.length 0 l a w (by simp) (fun j => by rw [List.getElem?_append_right (by omega)]; congr 1; omega) hE.sl hall hE.hi hwt (fun j o _ ho => hB j o ho) hcl (hQ s η a w h.2 hr)
  | succ fuel ih =>
    intro l l' s η a w hE hcl hr h
    by_cases hc : Region.ready .any pre.toArray l' = []
    · have hall : ∀ i, i < pre.length → l[i]? = some true := by
        intro i
        induction i using Nat.strongRecOn with
        | ind i ih =>
          intro hi
          have hlt : i < l'.size := by rw [hE.sl']; exact hi
          have hi2 : l'[i]? = some l'[i] := by simp [hlt]
          cases hb : l'[i] with
          | true => rw [hE.lo i hi, hi2, hb]
          | false =>
            exfalso
            have ho : pre[i]? = some pre[i] := by simp [hi]
            have : i ∈ Region.ready .any pre.toArray l' := mem_ready.2 ⟨by rw [Array.getD_eq_getD_getElem?, hi2, hb]; rfl, pre[i], by simpa using ho, fun e he hbe => by
              have h1 := hB i pre[i] (by rw [List.getElem?_append_left hi, ho]) e he hbe
              have h2 := ih e.on h1 (by omega)
              rw [hE.lo e.on (by omega)] at h2
              rw [Array.getD_eq_getD_getElem?, h2]; rfl⟩
            rw [hc] at this; cases this
      exact tail_sound (fun _ _ _ _ => .inr trivial) tail pre.length (fuel + 1) l a w (by simp) (fun j => by rw [List.getElem?_append_right (by omega)]; congr 1; omega) hE.sl hall hE.hi hwt (fun j o _ ho => hB j o ho) hcl (hQ s η a w (h.1 hc) hr)
    · -- what may be next is one of the first ones
      have hsub : ∀ i, i ∈ Region.ready .any pre.toArray l' → i ∈ Region.ready .any (pre ++ tail).toArray l := by
        intro i hi
        obtain ⟨h0, o, ho, hal⟩ := mem_ready.1 hi
        have hlt : i < pre.length := by simpa using (Array.getElem?_eq_some_iff.1 ho).1
        have ho' : pre[i]? = some o := by simpa using ho
        refine mem_ready.2 ⟨?_, o, by simpa [List.getElem?_append_left hlt] using ho', fun e he hbe => ?_⟩
        · rw [Array.getD_eq_getD_getElem?, hE.lo i hlt]; rw [Array.getD_eq_getD_getElem?] at h0; exact h0
        · have h1 := hB i o (by rw [List.getElem?_append_left hlt, ho']) e he hbe
          have := hal e he hbe
          rw [Array.getD_eq_getD_getElem?] at this ⊢
          rw [hE.lo e.on (by omega)]; exact this
      obtain ⟨i0, hi0⟩ := List.exists_mem_of_ne_nil _ hc
      rw [show fuel + 1 + tail.length = fuel + tail.length + 1 by omega]
      refine ⟨(fun h0 => by have := hsub i0 hi0; rw [h0] at this; cases this), fun i hi => ?_⟩
      obtain ⟨h0, o, ho, hal⟩ := mem_ready.1 hi
      have hil : i < (pre ++ tail).length := by simpa using (Array.getElem?_eq_some_iff.1 ho).1
      have hik : i < pre.length := by
        by_cases hik : i < pre.length
        · exact hik
        · exfalso
          obtain ⟨g0, o1, g1, g2⟩ := mem_ready.1 hi0
          have g3 : i0 < pre.length := by simpa using (Array.getElem?_eq_some_iff.1 g1).1
          have := waits_listed hcl (pre ++ tail).length i i0 o ho hal (hwt i (by omega) hil i0 (by omega))
          rw [Array.getD_eq_getD_getElem?, hE.lo i0 g3] at this
          rw [Array.getD_eq_getD_getElem?] at g0
          cases hx : l'[i0]? with
          | none => rw [hx] at g0; simp at g0
          | some b => rw [hx] at g0 this; simp at g0 this; rw [g0] at this; cases this
      have hop : pre[i]? = some o := by
        have : (pre ++ tail)[i]? = some o := by simpa using ho
        rwa [List.getElem?_append_left hik] at this
      have hir : i ∈ Region.ready .any pre.toArray l' := mem_ready.2 ⟨by rw [Array.getD_eq_getD_getElem?, ← hE.lo i hik]; rw [Array.getD_eq_getD_getElem?] at h0; exact h0, o, by simpa using hop, fun e he hbe => by
        have h1 := hB i o (by rw [List.getElem?_append_left hik, hop]) e he hbe
        have := hal e he hbe
        rw [Array.getD_eq_getD_getElem?] at this ⊢
        rw [← hE.lo e.on (by omega)]; exact this⟩
      obtain ⟨o', ho', hst, hrest⟩ := h.2 i hir
      have e : o' = o := by rw [hop] at ho'; injection ho' with e; exact e.symm
      subst e
      unfold wpOpIn
      rw [ho]
      simp only
      have hdo : ∀ t, o'.dst = some t → t < n := fun t ht => by
        have := List.all_eq_true.1 hd o' (List.mem_of_getElem? hop)
        rw [ht] at this; simpa using this
      exact gstep_sound hT hdo hr (gstep_pre hst.step) fun e η' a' w' he hr' => by
        subst he
        refine ih _ _ _ η' a' w' ⟨by simpa using hE.sl, by simpa using hE.sl', fun j hj => ?_, fun j hj hj' => ?_⟩ (closed_set hcl ho hal) hr' hrest
        · by_cases e : j = i
          · subst e; rw [Array.getElem?_setIfInBounds_self_of_lt (by rw [hE.sl]; omega), Array.getElem?_setIfInBounds_self_of_lt (by rw [hE.sl']; omega)]
          · rw [Array.getElem?_setIfInBounds_ne (Ne.symm e), Array.getElem?_setIfInBounds_ne (Ne.symm e)]; exact hE.lo j hj
        · rw [Array.getElem?_setIfInBounds_ne (by omega)]; exact hE.hi j hj hj'

/-- A region that draws its order, and ends in operations that wait for all before them. -/
theorem AW.drawTail (hT : TabOK P T) (hm : P.follows .mixedOrders = true) {ro : Option Nat} {id : Nat} {Q : Exit → ASt → Prop} {s : ASt} (k : Nat) {ops : List Oper} (X F : List (Nat × List Nat)) (hd : dstOK n (ops.take k) = true) (hB : lexE (ops.take k) X F = true) (hO : tailOK ops k = true) (hk : k ≤ ops.length)
    (h : adops P T (ops.take k) X F 0 (ops.take k) s (fun s' => AO P ro n ops (ops.drop k) Q s')) : AW P ro n (.region id ops.toArray true) Q s := by
  intro m ds A0 L0 w0 η a w hq0 hr
  refine wpIn_region_any hm ?_
  obtain ⟨E, hE⟩ := trF_of (ops.take k) 0 s h
  obtain ⟨pre, hpre⟩ : ∃ pre, pre = ops.take k := ⟨_, rfl⟩
  obtain ⟨tail, htail⟩ : ∃ tail, tail = ops.drop k := ⟨_, rfl⟩
  have happ : ops = pre ++ tail := by rw [hpre, htail, List.take_append_drop]
  have hplen : pre.length = k := by rw [hpre]; simp; omega
  rw [← hpre] at hd hB hE
  rw [← htail] at hE
  have hcl' : Closed pre.toArray (Array.replicate pre.length false) := fun j oj hj hl => by
    have hlt : j < pre.length := by simpa using (Array.getElem?_eq_some_iff.1 hj).1
    rw [Array.getD_eq_getD_getElem?] at hl
    simp [hlt] at hl
  have hany := anyF_lex pre 0 (Array.replicate pre.length false) s hcl' (fun j => by rw [Nat.zero_add]) hB hE
  unfold tailOK at hO
  simp only [Bool.and_eq_true] at hO
  obtain ⟨⟨o1, o2⟩, o3⟩ := hO
  have hBB : ∀ j o, ops[j]? = some o → ∀ e ∈ o.after, Region.binds .any e = true → e.on < j := by
    intro j o ho e he hb
    have hlt := (List.getElem?_eq_some_iff.1 ho).1
    by_cases hj : j < k
    · have := List.all_eq_true.1 o1 j (List.mem_range.2 hj)
      simp only [ho] at this
      have := List.all_eq_true.1 this e (by simpa using he)
      simpa [hb] using this
    · have := List.all_eq_true.1 o3 j (List.mem_range.2 hlt)
      simp only [ho, hj, decide_false, Bool.false_or] at this
      have := List.all_eq_true.1 this e (by simpa using he)
      simpa [hb] using this
  have hww : ∀ j, k ≤ j → j < ops.length → ∀ i, i < j → waitsB ops.toArray ops.length j i = true := by
    intro j hj hlt i hi
    have := List.all_eq_true.1 o2 j (List.mem_range.2 hlt)
    simp only [show ¬ j < k by omega, decide_false, Bool.false_or] at this
    exact List.all_eq_true.1 this i (List.mem_range.2 hi)
  subst happ
  have hsz : (pre ++ tail).toArray.size = pre.length + tail.length := by simp
  have hclf : Closed (pre ++ tail).toArray (Array.replicate (pre ++ tail).length false) := fun j oj hj hl => by
    have hlt : j < (pre ++ tail).length := by simpa using (Array.getElem?_eq_some_iff.1 hj).1
    rw [Array.getD_eq_getD_getElem?] at hl
    rw [Array.getElem?_replicate, if_pos hlt] at hl
    simp at hl
  have := pre_sound (ro := ro) (m := m) (Q' := RelQ n ds L0 w0 Q) hT hd hBB (fun j hj => hww j (by omega)) (fun s η a w hQ hR => hQ m ds A0 L0 w0 η a w hq0 hR) pre.length (Array.replicate (pre ++ tail).length false) (Array.replicate pre.length false) s η a _
    ⟨by simp, by simp, fun i hi => by rw [Array.getElem?_replicate, Array.getElem?_replicate, if_pos hi, if_pos (by simp; omega)], fun i _ hi => by rw [Array.getElem?_replicate, if_pos hi]⟩ hclf hr.drew hany
  rw [hsz]
  simpa using this

end
end Go.Proofs.Ytcijihofjcfpoab
