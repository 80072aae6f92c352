/-
  A region that draws its order, whose operations but the last two only read: the last two lay a block and fill it. One walk of the reading operations, in every world of a class that the last two keep, serves every order. No program is named here.
-/
import Derived.Test.YtiiifamggopdoaaBase
import Derived.Sort.QuietThIn
import Derived.Sort.BigQuietIn
import Derived.OwnWalkIn
namespace Go.Proofs.Ytiiifamggopdoaa
open Go.RowKit

section
variable {F : Fence} {n : Nat} {P : Program} {ops : Array Oper} {Q : Exit → Act → World → Prop} {md : Region.Mode} {C : World → Prop}

/-- 'wpAnyIn', in worlds of the class C. -/
def anyC (F : Fence) (n : Nat) (P : Program) (md : Region.Mode) (ops : Array Oper) (C : World → Prop) (Q : Exit → Act → World → Prop) : Nat → Array Bool → Act → World → Prop
  | 0, listed, a, w => C w ∧ Region.ready md ops listed = [] ∧ Q .normal a w
  | fuel + 1, listed, a, w => C w ∧ (Region.ready md ops listed = [] → Q .normal a w) ∧
    ∀ i ∈ Region.ready md ops listed, wpOpIn F n P ops Q i (anyC F n P md ops C Q fuel (listed.setIfInBounds i true)) a w

theorem anyC_sound : ∀ (fuel : Nat) (listed : Array Bool) (a : Act) (w : World), anyC F n P md ops C Q fuel listed a w → wpAnyIn F n P md ops Q fuel listed a w
  | 0, _, _, _, h => h.2
  | fuel + 1, _, _, _, h => ⟨h.2.1, fun i hi => wpOpIn_mono (fun a w => anyC_sound fuel _ a w) (h.2.2 i hi)⟩

theorem anyC_in {fuel : Nat} {listed : Array Bool} {a : Act} {w : World} (h : anyC F n P md ops C Q fuel listed a w) : C w := by
  cases fuel <;> exact h.1

/-- The operations that only read. -/
def readOp : Op → Bool
  | .move _ | .assign _ | .pick .. | .build .. | .load .. | .binOp .. | .unOp .. | .fieldAddr .. | .indexAddr .. => true
  | _ => false

theorem andThen_value {α : Type} {r : Result α} {f : α → Value} {x : Next} {w' : World} (h : (r.andThen fun a w => .ok (.value (f a)) w) = .ok x w') : ∃ u, x = .value u := by
  cases r with
  | ok a w => simp only [Result.andThen] at h; injection h with h1 h2; exact ⟨f a, h1.symm⟩
  | halt z w => simp only [Result.andThen] at h; cases h

theorem exec_read {o : Oper} (h : readOp o.op = true) (ρ : Operand → Value) {w : World} {x : Next} {w' : World} (hr : (execOp ρ o).run P w = .ok x w') : ∃ u, x = .value u := by
  cases ho : o.op <;> simp only [ho, readOp] at h <;> first | (exact absurd h (by decide)) | skip
  all_goals
    unfold execOp at hr
    simp only [ho, Sem.run_pure] at hr
    first
      | (injection hr with h1 h2; exact ⟨_, h1.symm⟩)
      | (rw [Sem.run_bind] at hr; simp only [Sem.run_pure] at hr; exact andThen_value hr)

theorem readOp_plain {o : Oper} (h : readOp o.op = true) : ∀ c, o.op ≠ .defer c := fun c e => by rw [e] at h; cases h

theorem opIn_of_read {i : Nat} {o : Oper} {v : Value} {a : Act} (hi : ops[i]? = some o) (hread : readOp o.op = true) (hy : YieldsQuiet F n P ops C o v a) {K : Act → World → Prop} {w : World} (hw : C w)
    (h : K (a.put o.dst v) w) : wpOpIn F n P ops Q i K a w := by
  unfold wpOpIn
  simp only [hi]
  have hab := hy.1 w hw
  rcases hy.2 with ⟨hw1, hv⟩ | ⟨hw1, rfl⟩
  · simp only [hw1, if_true, Oper.wpIn, Oper.semAt_plain F _ _ (readOp_plain hread)]
    refine ⟨hab, ?_⟩
    have hq := hv w hw
    unfold Oper.quietAtIn at hq
    cases hr : (execOp a.eval o).run P w with
    | ok x w' =>
      obtain ⟨u, rfl⟩ := exec_read hread a.eval hr
      rw [hr] at hq
      obtain ⟨rfl, rfl⟩ := hq
      exact h
    | halt z w' => rw [hr] at hq; cases hq
  · simp only [hw1, Bool.false_eq_true, if_false]
    exact ⟨hab, h⟩

theorem opIn_put {j : Nat} {oi oj : Oper} {v : Value} (hnd : ∀ c, oj.op ≠ .defer c) (hj : ops[j]? = some oj) (hap : oi.apart ops oj = true)
    (hsi : ∀ cs b, oi.op ≠ .select cs b) (hsj : ∀ cs b, oj.op ≠ .select cs b)
    (hQ : ∀ c a w, Q (.panic c) (a.put oi.dst v) w → Q (.panic c) a w) {K : Act → World → Prop} {a : Act} {w : World}
    (hy : YieldsQuiet F n P ops C oi v a) (h : wpOpIn F n P ops Q j K (a.put oi.dst v) w) :
    wpOpIn F n P ops Q j (fun a' w' => YieldsQuiet F n P ops C oi v a' ∧ K (a'.put oi.dst v) w') a w := by
  obtain ⟨h1, h2, h3⟩ := Oper.apart_spec hap
  have keep : ∀ (a : Act), YieldsQuiet F n P ops C oi v a → ∀ u, YieldsQuiet F n P ops C oi v (a.put oj.dst u) := fun a hy u =>
    hy.of_same (execOp_put oi hsi a oj.dst u h3) (wanted_put oi a oj.dst u h3) (fun w => about_put oi w a oj.dst u h3)
  have keepD : ∀ d, YieldsQuiet F n P ops C oi v { a with defers := d :: a.defers } := fun d => hy.of_same rfl rfl (fun _ => rfl)
  unfold wpOpIn at *
  simp only [hj] at *
  rw [wanted_put oj a oi.dst v h1, about_put oj w a oi.dst v h1] at h
  split
  · rename_i hw
    simp only [hw, if_true] at h
    unfold Oper.wpIn at *
    rw [about_put oj w a oi.dst v h1] at h
    refine ⟨h.1, ?_⟩
    have h := h.2
    rw [Oper.semAt_plain F _ _ hnd, execOp_put oj hsj a oi.dst v h1] at h
    rw [Oper.semAt_plain F _ _ hnd]
    generalize (execOp a.eval oj).run P w = r at *
    cases r with
    | ok x w' =>
      cases x <;> simp only [Oper.uponIn] at h ⊢
      case value u => exact ⟨keep a hy u, by rw [← Act.put_comm a v u h2]; exact h⟩
      case skip => exact ⟨keep a hy _, by rw [← Act.put_comm a v undef h2]; exact h⟩
      case defer d =>
        refine ⟨keep _ (keepD d) _, ?_⟩
        rw [← Act.put_comm _ v undef h2, ← Act.put_defers]
        exact h
      case enter f args =>
        refine ⟨h.1, CallsIn.mono h.2 fun e w'' he => ?_⟩
        cases e with
        | returned u => exact ⟨keep a hy u, by rw [← Act.put_comm a v u h2]; exact he⟩
        | panicked c => exact hQ _ _ _ he
        | outgrown => exact he
      case row row args => exact ⟨h.1, RowsIn.mono h.2 fun u w'' he => ⟨keep a hy u, by rw [← Act.put_comm a v u h2]; exact he⟩⟩
      case round l f tmps assign body =>
        refine ⟨h.1, RoundIn.mono h.2 fun e w'' he => ?_⟩
        cases e with
        | returned u => exact ⟨keep a hy u, by rw [← Act.put_comm a v u h2]; exact he⟩
        | panicked c => exact hQ _ _ _ he
        | outgrown => exact he
    | halt x w' =>
      cases x <;> simp only [Oper.uponIn] at h ⊢
      case panic u => exact hQ _ _ _ h
  · rename_i hw
    simp only [hw] at h
    exact ⟨h.1, keep a hy _, by rw [← Act.put_comm a v undef h2]; exact h.2⟩

theorem anyC_first {i : Nat} {oi : Oper} {v : Value} (hnd : ∀ (j : Nat) (o : Oper) c, ops[j]? = some o → o.op ≠ .defer c) (hi : ops[i]? = some oi) (hsel : ∀ (j : Nat) (o : Oper) cs b, ops[j]? = some o → o.op ≠ .select cs b)
    (hQ : ∀ c a w, Q (.panic c) (a.put oi.dst v) w → Q (.panic c) a w) :
    ∀ (fuel : Nat) (listed : Array Bool) (a : Act) (w : World),
      (∀ j oj, ops[j]? = some oj → j ≠ i → listed.getD j true = false → (∀ e ∈ oj.after, Region.binds md e = true → e.on ≠ i) → oi.apart ops oj = true) →
      i ∈ Region.ready md ops listed → YieldsQuiet F n P ops C oi v a → readOp oi.op = true →
      anyC F n P md ops C Q fuel (listed.setIfInBounds i true) (a.put oi.dst v) w → anyC F n P md ops C Q (fuel + 1) listed a w := by
  intro fuel
  induction fuel with
  | zero =>
    intro listed a w _ hr hy hop H
    refine ⟨H.1, fun h => (by rw [h] at hr; cases hr), fun j hj => ?_⟩
    by_cases hji : j = i
    · subst hji; exact opIn_of_read hi hop hy (anyC_in H) H
    · have := ready_mono hj hji
      rw [H.2.1] at this
      cases this
  | succ fuel ih =>
    intro listed a w hfree hr hy hop H
    refine ⟨H.1, fun h => (by rw [h] at hr; cases hr), fun j hj => ?_⟩
    by_cases hji : j = i
    · subst hji; exact opIn_of_read hi hop hy (anyC_in H) H
    · have h1 := H.2.2 j (ready_mono hj hji)
      obtain ⟨hjun, oj, hoj, hall⟩ := mem_ready.1 hj
      have hnot : ∀ e ∈ oj.after, Region.binds md e = true → e.on ≠ i := fun e he hb heq => by
        have h1 := hall e he hb
        have h0 := (mem_ready.1 hr).1
        rw [heq] at h1
        rcases Nat.lt_or_ge i listed.size with h' | h'
        · simp [h'] at h0 h1; rw [h0] at h1; cases h1
        · simp [Array.getElem?_eq_none h'] at h1
      have h2 := opIn_put (fun c => hnd j oj c hoj) hoj (hfree j oj hoj hji hjun hnot) (fun cs b => hsel i oi cs b hi) (fun cs b => hsel j oj cs b hoj) hQ hy h1
      have hfree' : ∀ k ok, ops[k]? = some ok → k ≠ i → (listed.setIfInBounds j true).getD k true = false →
          (∀ e ∈ ok.after, Region.binds md e = true → e.on ≠ i) → oi.apart ops ok = true := fun k ok hk hki hun hno => by
        refine hfree k ok hk hki ?_ hno
        by_cases hjk : j = k
        · subst hjk; exact hjun
        · rw [getD_set_ne true hjk] at hun; exact hun
      refine wpOpIn_mono (fun a' w' h3 => ih (listed.setIfInBounds j true) a' w' hfree' (ready_mono hr (Ne.symm hji)) h3.1 hop ?_) h2
      rw [Array.setIfInBounds_comm _ _ hji]
      exact h3.2

/-- The first m operations, from k on, may come up one after the other, in the text's order; each is apart from what does not wait for it; each only reads. -/
def lexPre (md : Region.Mode) (ops : Array Oper) : Nat → Nat → Array Bool → Bool
  | 0, _, _ => true
  | m + 1, k, listed => (Region.ready md ops listed).contains k && Region.free md ops listed k && ((ops[k]?).map (fun o => readOp o.op)).getD false && lexPre md ops m (k + 1) (listed.setIfInBounds k true)

/-- What has come up behind them. -/
def lexList : Nat → Nat → Array Bool → Array Bool
  | 0, _, listed => listed
  | m + 1, k, listed => lexList m (k + 1) (listed.setIfInBounds k true)

theorem anyC_lex (hnd : ∀ (j : Nat) (o : Oper) c, ops[j]? = some o → o.op ≠ .defer c) (hs : Region.noSelect ops = true) (hQ : ∀ c a w, Q (.panic c) a w → False) {w : World} (fuel : Nat) : ∀ (l : List Oper) (k : Nat) (listed : Array Bool) (a : Act), (∀ j, j < l.length → l[j]? = ops[k + j]?) →
    lexPre md ops l.length k listed = true → wpQuietIn F n P ops C (fun a' => anyC F n P md ops C Q fuel (lexList l.length k listed) a' w) l a → anyC F n P md ops C Q (fuel + l.length) listed a w
  | [], k, listed, a, _, _, h => h
  | o :: l, k, listed, a, hl, hB, h => by
    have h0 : ops[k]? = some o := by simpa using (hl 0 (by simp)).symm
    simp only [List.length_cons, lexPre, h0, Bool.and_eq_true, Option.map_some, Option.getD_some] at hB
    obtain ⟨⟨⟨hr, hf⟩, hc⟩, hB'⟩ := hB
    have hst : qOpIn F n P ops C k (wpQuietIn F n P ops C (fun a' => anyC F n P md ops C Q fuel (lexList (o :: l).length k listed) a' w) l) a := by unfold qOpIn; simp only [h0]; exact h
    obtain ⟨v, hy, hK⟩ := yieldsQuiet_of_qOpIn h0 hst
    rw [List.length_cons, ← Nat.add_assoc]
    exact anyC_first hnd h0 (Region.noSelect_spec hs) (fun c a w hq => (hQ _ _ _ hq).elim) (fuel + l.length) listed a w (Region.free_spec h0 hf) (by simpa using hr) hy hc
      (anyC_lex hnd hs hQ fuel l (k + 1) _ _ (fun j hj => by have := hl (j + 1) (by simp; omega); simpa [Nat.add_assoc, Nat.add_comm 1 j] using this) hB' hK)

/-- Q, and no panic. -/
def Calm (Q : Exit → Act → World → Prop) : Exit → Act → World → Prop
  | .panic _, _, _ => False
  | e, a, w => Q e a w

/-- None defers a call. -/
def noDefer (ops : Array Oper) : Bool := ops.toList.all fun o => match o.op with | .defer _ => false | _ => true

theorem noDefer_spec (h : noDefer ops = true) : ∀ (j : Nat) (o : Oper) c, ops[j]? = some o → o.op ≠ .defer c := fun j o c hj e => by
  have := List.all_eq_true.1 h o (by have := List.mem_of_getElem? (l := ops.toList) (i := j) (by simpa using hj); exact this)
  rw [e] at this
  cases this

/-- The order of the last two is the text's. -/
def tailB (ops : Array Oper) (m : Nat) : Bool :=
  (Region.ready .any ops (lexList m 0 (Array.replicate ops.size false)) == [m]) && (Region.ready .any ops (lexList (m + 1) 0 (Array.replicate ops.size false)) == [m + 1]) && (Region.ready .any ops (lexList (m + 2) 0 (Array.replicate ops.size false)) == []) && Region.noSelect ops && noDefer ops && lexPre .any ops m 0 (Array.replicate ops.size false) && (ops.size == m + 2)

theorem lexList_succ : ∀ (m k : Nat) (listed : Array Bool), lexList (m + 1) k listed = (lexList m k listed).setIfInBounds (k + m) true
  | 0, k, listed => rfl
  | m + 1, k, listed => by
    show lexList (m + 1) (k + 1) (listed.setIfInBounds k true) = (lexList m (k + 1) (listed.setIfInBounds k true)).setIfInBounds (k + (m + 1)) true
    rw [lexList_succ m (k + 1), show k + 1 + m = k + (m + 1) from by omega]

theorem opIn_run {i : Nat} {o : Oper} {a : Act} {w w' : World} {v : Value} {K : Act → World → Prop} (hnd : ∀ c, o.op ≠ .defer c) (hi : ops[i]? = some o) (hg : o.guard = none) (hab : ∀ w, o.about P w a.eval = none)
    (hrun : (execOp a.eval o).run P w = .ok (.value v) w' ∨ (v = undef ∧ (execOp a.eval o).run P w = .ok .skip w')) (h : K (a.put o.dst v) w') : wpOpIn F n P ops Q i K a w := by
  unfold wpOpIn
  simp only [hi, Region.wanted, hg, if_true, Oper.wpIn, Oper.semAt_plain F _ _ hnd]
  refine ⟨(fun f hf => by rw [hab w] at hf; cases hf), ?_⟩
  rcases hrun with hrun | ⟨rfl, hrun⟩
  · rw [hrun]; exact h
  · rw [hrun]; exact h

/-- A REGION WHOSE OPERATIONS BUT THE LAST TWO ONLY READ. -/
theorem wpIn_region_fill {id : Nat} {a : Act} {w : World} (hm : P.follows .mixedOrders = true) {l : List Oper} (m : Nat) (hB : tailB l.toArray m = true)
    {o1 o2 : Oper} (h1 : l[m]? = some o1) (h2 : l[m + 1]? = some o2) (hg1 : o1.guard = none) (hg2 : o2.guard = none) (ha1 : ∀ a w, o1.about P w (Act.eval a) = none) (ha2 : ∀ a w, o2.about P w (Act.eval a) = none)
    (C : World → Prop) (hC : C w.drew)
    (h : wpQuietIn F n P l.toArray C (fun a' => ∃ (v1 : Value) (w1 w2 : World), (execOp a'.eval o1).run P w.drew = .ok (.value v1) w1 ∧ C w1 ∧ (execOp (a'.put o1.dst v1).eval o2).run P w1 = .ok .skip w2 ∧ C w2 ∧ Q .normal ((a'.put o1.dst v1).put o2.dst undef) w2) (l.take m) a) :
    (Code.region id l.toArray true).wpIn F n P Q a w := by
  refine wpIn_mono (Q := Calm Q) ?_ (fun e a w h => by cases e <;> first | exact h | exact (h : False).elim)
  simp only [tailB, Bool.and_eq_true, beq_iff_eq] at hB
  obtain ⟨⟨⟨⟨⟨⟨r1, r2⟩, r3⟩, hs⟩, hnd'⟩, hl⟩, hsz⟩ := hB
  have hnd := noDefer_spec hnd'
  have hlen : l.length = m + 2 := by simpa using hsz
  have hlt : (l.take m).length = m := by rw [List.length_take]; omega
  refine wpIn_region_any hm (anyC_sound (C := C) _ _ _ _ ?_)
  have key := anyC_lex (F := F) (n := n) (P := P) (C := C) (Q := Calm Q) (md := .any) (ops := l.toArray) hnd hs (fun _ _ _ h => h) (w := w.drew) 2 (l.take m) 0 (Array.replicate l.toArray.size false) a
    (fun j hj => by
      rw [hlt] at hj
      rw [List.getElem?_take, if_pos hj]
      simp)
    (by rw [hlt]; exact hl) ?_
  · rw [hlt] at key
    have e : l.toArray.size = 2 + m := by rw [hsz]; omega
    rw [e]
    have e2 : Array.replicate l.toArray.size false = Array.replicate (2 + m) false := by rw [e]
    rw [e2] at key
    exact key
  · rw [hlt]
    have mono : ∀ (K K' : Act → Prop), (∀ a, K a → K' a) → ∀ (l' : List Oper) (a : Act), wpQuietIn F n P l.toArray C K l' a → wpQuietIn F n P l.toArray C K' l' a := by
      intro K K' hKK l'
      induction l' with
      | nil => exact fun a h => hKK a h
      | cons o r ih =>
        intro a h
        refine ⟨h.1, ?_⟩
        have h := h.2
        split
        · rename_i hw; rw [if_pos hw] at h; exact Oper.quietIn_mono ih h
        · rename_i hw; rw [if_neg hw] at h; exact ih _ h
    refine mono _ _ ?_ _ _ h
    rintro a' ⟨v1, w1, w2, e1, c1, e2, c2, hq⟩
    refine ⟨hC, fun h0 => (by rw [r1] at h0; cases h0), fun i hi => ?_⟩
    rw [r1] at hi
    obtain rfl : i = m := by simpa using hi
    refine opIn_run (fun c => hnd i o1 c (by simpa using h1)) (by simpa using h1) hg1 (ha1 a') (.inl e1) ⟨c1, fun h0 => ?_, fun j hj => ?_⟩
    · have := lexList_succ i 0 (Array.replicate l.toArray.size false)
      rw [Nat.zero_add] at this
      rw [← this, r2] at h0; cases h0
    · have := lexList_succ i 0 (Array.replicate l.toArray.size false)
      rw [Nat.zero_add] at this
      rw [← this, r2] at hj
      obtain rfl : j = i + 1 := by simpa using hj
      refine opIn_run (fun c => hnd (i + 1) o2 c (by simpa using h2)) (by simpa using h2) hg2 (ha2 _) (.inr ⟨rfl, e2⟩) ⟨c2, ?_, hq⟩
      have t2 := lexList_succ (i + 1) 0 (Array.replicate l.toArray.size false)
      rw [Nat.zero_add] at t2
      rw [← this, ← t2]; exact r3
/-- All only read, and may come up in the text's order. -/
def readsB (ops : Array Oper) : Bool :=
  (Region.ready .any ops (lexList ops.size 0 (Array.replicate ops.size false)) == []) && Region.noSelect ops && noDefer ops && lexPre .any ops ops.size 0 (Array.replicate ops.size false)

/-- A REGION WHOSE OPERATIONS ONLY READ, in a round or not. -/
theorem wpIn_region_reads {id : Nat} {a : Act} {w : World} (hm : P.follows .mixedOrders = true) {l : List Oper} (hB : readsB l.toArray = true)
    (h : wpQuietIn F n P l.toArray (fun w' => w' = w.drew) (fun a' => Q .normal a' w.drew) l a) : (Code.region id l.toArray true).wpIn F n P Q a w := by
  refine wpIn_mono (Q := Calm Q) ?_ (fun e a w h => by cases e <;> first | exact h | exact (h : False).elim)
  simp only [readsB, Bool.and_eq_true, beq_iff_eq] at hB
  obtain ⟨⟨⟨r1, hs⟩, hnd'⟩, hl⟩ := hB
  have hnd := noDefer_spec hnd'
  refine wpIn_region_any hm (anyC_sound (C := fun w' => w' = w.drew) _ _ _ _ ?_)
  have key := anyC_lex (F := F) (n := n) (P := P) (C := fun w' => w' = w.drew) (Q := Calm Q) (md := .any) (ops := l.toArray) hnd hs (fun _ _ _ h => h) (w := w.drew) 0 l 0 (Array.replicate l.toArray.size false) a
    (fun j _ => by simp) (by simpa using hl) ?_
  · rw [Nat.zero_add] at key
    exact key
  · have mono : ∀ (K K' : Act → Prop), (∀ a, K a → K' a) → ∀ (l' : List Oper) (a : Act), wpQuietIn F n P l.toArray (fun w' => w' = w.drew) K l' a → wpQuietIn F n P l.toArray (fun w' => w' = w.drew) K' l' a := by
      intro K K' hKK l'
      induction l' with
      | nil => exact fun a h => hKK a h
      | cons o r ih =>
        intro a h
        refine ⟨h.1, ?_⟩
        have h := h.2
        split
        · rename_i hw; rw [if_pos hw] at h; exact Oper.quietIn_mono ih h
        · rename_i hw; rw [if_neg hw] at h; exact ih _ h
    refine mono _ _ ?_ _ _ h
    intro a' hq
    exact ⟨rfl, by simpa using r1, hq⟩
end

/-- A world, the same with a new block, the same with the block's two cells filled. -/
def phs (w : World) (o : Obj) (u v : Value) : Nat → World
  | 0 => w.drew
  | 1 => w.drew.alloc o
  | _ => ((w.drew.alloc o).setCell ⟨w.heap.size, 0, none⟩ u).setCell ⟨w.heap.size, 1, none⟩ v

theorem phs_block (w : World) (o : Obj) (u v : Value) {k : Nat} (hk : k < w.heap.size) : ∀ s, (phs w o u v s).heap[k]? = w.heap[k]?
  | 0 => rfl
  | 1 => Below.heap_alloc w.drew o k hk
  | s + 2 => by
    show (((w.drew.alloc o).setCell ⟨w.heap.size, 0, none⟩ u).setCell ⟨w.heap.size, 1, none⟩ v).heap[k]? = _
    rw [Below.heap_setCell _ _ _ _ (by simp; omega), Below.heap_setCell _ _ _ _ (by simp; omega)]
    exact Below.heap_alloc w.drew o k hk

theorem phs_cell {w : World} {o : Obj} {u v : Value} {a : Addr} {x : Value} (h : w.cell? a = some x) (s : Nat) : (phs w o u v s).cell? a = some x :=
  (World.cell?_of_block (phs_block w o u v (cell_lt h) s)).trans h

theorem size_setCell (w : World) (a : Addr) (u : Value) : (w.setCell a u).heap.size = w.heap.size := by simp [World.setCell]

theorem phs_size (w : World) (o : Obj) (u v : Value) : (phs w o u v 2).heap.size = w.heap.size + 1 := by
  show (((w.drew.alloc o).setCell ⟨w.heap.size, 0, none⟩ u).setCell ⟨w.heap.size, 1, none⟩ v).heap.size = _
  rw [size_setCell, size_setCell, World.size_alloc]
  rfl

theorem phs_below (w : World) (o : Obj) (u v : Value) : Below w.heap.size w (phs w o u v 2) :=
  ⟨rfl, rfl, rfl, by rw [phs_size]; omega, fun k hk => phs_block w o u v hk 2⟩

theorem phs_blk (w : World) (a b u v : Value) (t : TypeId) : Blk (phs w (.cells #[a, b] t) u v 2) w.heap.size #[u, v] t := by
  have h0 : (w.drew.alloc (.cells #[a, b] t)).heap[w.heap.size]? = some (.cells #[a, b] t (0, 0)) := heap_alloc_new w.drew _
  have hlt := (Array.getElem?_eq_some_iff.1 h0).1
  show (((w.drew.alloc (.cells #[a, b] t)).setCell ⟨w.heap.size, 0, none⟩ u).setCell ⟨w.heap.size, 1, none⟩ v).heap[w.heap.size]? = _
  simp only [World.setCell, Array.getElem?_modify, if_true, h0]
  rfl
end Go.Proofs.Ytiiifamggopdoaa
