/-
  The abstract machine: writing into rows of rows of the call's own. No program is named here.
-/
import Derived.Test.YtcckpmeepcoafaaDoorAvf
namespace Go.Proofs.YtcckpmeepcoafaaDoor
open Go.RowKit

set_option linter.constructorNameAsVariable false
set_option linter.unusedSimpArgs false
set_option linter.unusedVariables false

section
variable {b : Nat} {e : TypeId} {t : Ty} {xss : List (List (El t))} {h : List (Nat × ABlk)}

theorem two_set (hs : smallH h = true) {i : Nat} (hi : i < xss.length) (ys : List (El t)) (c : Nat) : hpGet (two h (rowsL b e t (xss.set i ys))) c = if c = inm b i then some (.arr e t ys) else hpGet (two h (rowsL b e t xss)) c := by
  unfold two
  by_cases hc : c < 1000000
  · have := inm_big b i
    rw [if_neg (by omega), hpGet_two_small hc, hpGet_two_small hc]
  · rw [hpGet_two_big hs (by omega), hpGet_two_big hs (by omega)]
    by_cases e1 : c = inm b i
    · rw [if_pos e1, e1, hpGet_rows_at (by rw [List.length_set]; exact hi)]
      simp [List.getD, hi]
    · rw [if_neg e1]
      cases hr : hpGet (rowsL b e t xss) c with
      | some B =>
        obtain ⟨j, hj, e2, e3⟩ := hpGet_rows hr
        have hne : i ≠ j := fun e4 => e1 (by rw [e2, e4])
        rw [e2, hpGet_rows_at (by rw [List.length_set]; exact hj), e3]
        simp [List.getD, List.getElem?_set_ne hne]
      | none =>
        refine hpGet_rows_none fun j hj e2 => ?_
        rw [List.length_set] at hj
        rw [e2, hpGet_rows_at hj] at hr; cases hr

end

theorem smallH_clean {K : List Nat} : ∀ {h : List (Nat × ABlk)}, smallH h = true → smallH (cleanH K h) = true
  | [], _ => rfl
  | (c, B) :: r, hs => by
    rw [smallH_cons, Bool.and_eq_true] at hs
    have e1 : cleanH K ((c, B) :: r) = if K.contains c then cleanH K r else (c, B.clean K) :: cleanH K r := rfl
    rw [e1]
    split
    · exact smallH_clean hs.2
    · rw [smallH_cons, hs.1, smallH_clean hs.2]; rfl

section
variable {P : Program} {T : Tab} {n : Nat} {ro : Option Nat} {Q : Exit → ASt → Prop} {σ : Nat → AVal} {H : AHeap} {g : Gh} {o : Oper} {ops rs : List Oper} {t e : TypeId} {i ie : TInfo}

/-- Values that only look: the length of a row, a place in it, what is there. -/
theorem AO.ownLen (hT : TabOK P T) (hd : dstOK n [o] = true) (hg : o.guard = none) {c : Call} (ho : o.op = .call c) (hc : c.callee = .builtin .len) {x : Operand} (ha : c.args = #[x]) (hty : c.argTypes = #[t]) (ht : T t = some i) (hi : i.desc = .sl e)
    {b : Nat} (hx : (ASt.mk σ H g).ev x = .own b) {e' : TypeId} {τ : Ty} {xs : List (El τ)} (hb : H b = some (.arr e' τ xs)) (h2 : AO P ro n ops rs Q ((ASt.mk σ H g).app o.dst { v := .int .i64 xs.length })) : AO P ro n ops (o :: rs) Q ⟨σ, H, g⟩ := by
  intro m ds A0 L0 w0 η a w hq0 hr
  unfold wpListIn
  rw [if_pos (op_guard hg _)]
  have hxv := hr.ev x
  rw [hx] at hxv
  unfold RepV at hxv
  have hh : ∃ ad cc, η b = .slice ad xs.length cc := by
    rcases hr.hp.blk b _ (show (ASt.mk σ H g).H b = _ from hb) with ⟨e1, e2⟩ | ⟨gg, cap, vs, e1, _⟩
    · exact ⟨none, 0, by rw [e1, e2]; rfl⟩
    · exact ⟨_, _, e1⟩
  obtain ⟨ad, cc, e1⟩ := hh
  have hu := (hT t i ht).slice hi
  refine wpIn_value (u := .int .i64 xs.length) (w' := w) (by simp [ho]) ?_ (h2 m ds A0 L0 w0 η _ w hq0 (hr.pure (dst_lt hd) (by unfold RepV; rfl)))
  simp [execOp, ho, resolve, hc, ha, hty, invoke, builtin, Builtin.len_, run_underlying hu, hxv, e1]; rfl

theorem AO.ownAddr (hT : TabOK P T) (hd : dstOK n [o] = true) (hg : o.guard = none) {x ix : Operand} (ho : o.op = .indexAddr t x ix) (ht : T t = some i) (hi : i.desc = .sl e) (he : T e = some ie)
    {b : Nat} (hx : (ASt.mk σ H g).ev x = .own b) {e' : TypeId} {τ : Ty} {xs : List (El τ)} (hsz : τ.size = ie.size) (hb : H b = some (.arr e' τ xs)) {k : IntKind} {q : Int} (hix : (ASt.mk σ H g).ev ix = .int k q) (h0 : 0 ≤ q) (h1 : q < (xs.length : Int))
    (h2 : AO P ro n ops rs Q ((ASt.mk σ H g).app o.dst { v := .ap b τ.size q.toNat 0 })) : AO P ro n ops (o :: rs) Q ⟨σ, H, g⟩ := by
  intro m ds A0 L0 w0 η a w hq0 hr
  unfold wpListIn
  rw [if_pos (op_guard hg _)]
  have hxv := hr.ev x
  have hiv := hr.ev ix
  rw [hx] at hxv
  rw [hix] at hiv
  unfold RepV at hxv hiv
  rcases hr.hp.blk b _ (show (ASt.mk σ H g).H b = _ from hb) with ⟨e1, _⟩ | ⟨gg, cap, vs, e1, _⟩
  · rw [e1] at h1; simp at h1; omega
  have hrun := run_indexAt_sl hT ht hi he gg 0 xs.length cap k q h0 h1 w
  rw [Nat.zero_add] at hrun
  refine wpIn_value (u := .pointer (some ⟨gg, q.toNat * ie.size, none⟩)) (w' := w) (by simp [ho]) ?_ (h2 m ds A0 L0 w0 η _ w hq0 (hr.pure (dst_lt hd) ?_))
  · simp only [execOp, ho, hxv, hiv, e1]; simp [hrun]
  · unfold RepV; exact ⟨gg, xs.length, cap, e1, by rw [hsz]; simp⟩

theorem AO.ownGet (hT : TabOK P T) (hd : dstOK n [o] = true) (hg : o.guard = none) {x : Operand} (ho : o.op = .load t x) (ht : T t = some i) (hsz : i.size = 1) (hag : i.desc.agg = false)
    {b j : Nat} (hx : (ASt.mk σ H g).ev x = .ap b 1 j 0) {e' : TypeId} {k : IntKind} {xs : List Int} (hb : H b = some (.arr e' (.int k) xs)) (hj : j < xs.length)
    (h2 : AO P ro n ops rs Q ((ASt.mk σ H g).app o.dst { v := .int k (xs.getD j 0) })) : AO P ro n ops (o :: rs) Q ⟨σ, H, g⟩ := by
  intro m ds A0 L0 w0 η a w hq0 hr
  unfold wpListIn
  rw [if_pos (op_guard hg _)]
  have hxv := hr.ev x
  rw [hx] at hxv
  unfold RepV at hxv
  obtain ⟨gg, n', c', hη, hxv⟩ := hxv
  obtain ⟨cur, _, _, _, _, hat⟩ := blk_row hr.hp (s := ASt.mk σ H g) hb hη
  have hxj : xs[j]? = some (xs.getD j 0) := by simp [List.getD, hj]
  have hcell := hat j _ hxj
  unfold RepAt at hcell
  have hcell : w.cell? ⟨gg, j, none⟩ = some (.int k (xs.getD j 0)) := by
    have e1 : j * (Ty.int k).size = j := by show j * 1 = j; omega
    rw [e1] at hcell; exact hcell
  have hrun := run_loadAt_rep (P := P) (hT t i ht) (w := w) (g := gg) (o := j) (vs := [Value.int k (xs.getD j 0)]) (by rw [hsz]; rfl) (.inr hsz) (fun p u hp => by
    cases p with
    | zero => simp at hp; subst hp; simpa using hcell
    | succ p => simp at hp)
  have hp : packV i.desc [Value.int k (xs.getD j 0)] = Value.int k (xs.getD j 0) := by unfold packV; rw [hag]; rfl
  rw [hp] at hrun
  have hxv' : a.eval x = .pointer (some ⟨gg, j, none⟩) := by rw [hxv]; simp
  refine wpIn_value (u := Value.int k (xs.getD j 0)) (w' := w) (by simp [ho]) ?_ (h2 m ds A0 L0 w0 η _ w hq0 (hr.pure (dst_lt hd) (by unfold RepV; rfl)))
  simp only [execOp, ho, hxv']; simp [hrun]

end

section
variable {P : Program} {T : Tab} {n : Nat} {ro : Option Nat} {Q : Exit → ASt → Prop} {g : Gh} {o : Oper} {ops rs : List Oper} {l : List (Nat × AVal)} {h : List (Nat × ABlk)}

/-- A number written into a row of a row. -/
theorem AO.rowsSet (hT : TabOK P T) (hdst : o.dst = none) (hg : o.guard = none) {t : TypeId} {it : TInfo} {x v : Operand} (ho : o.op = .store t x v) (ht : T t = some it) (hsz : it.size = 1) (hs : smallH h = true)
    {b i j : Nat} {ei : TypeId} {k : IntKind} {xss : List (List Int)} {y : Int} (hx : (ASt.mk (fr l) (hpGet (two h (rowsL b ei (.int k) xss))) g).ev x = .ap (inm b i) 1 j 0) (hi : i < xss.length) (hj : j < (xss.getD i []).length) (hv : (ASt.mk (fr l) (hpGet (two h (rowsL b ei (.int k) xss))) g).ev v = .int k y)
    (h2 : AO P ro n ops rs Q ⟨fr l, hpGet (two h (rowsL b ei (.int k) (xss.set i ((xss.getD i []).set j y)))), g⟩) : AO P ro n ops (o :: rs) Q ⟨fr l, hpGet (two h (rowsL b ei (.int k) xss)), g⟩ := by
  intro m ds A0 L0 w0 η a w hq0 hr
  unfold wpListIn
  rw [if_pos (op_guard hg _)]
  have hxv := hr.ev x
  have hvv := hr.ev v
  rw [hx] at hxv
  rw [hv] at hvv
  have hb : (ASt.mk (fr l) (hpGet (two h (rowsL b ei (.int k) xss))) g).H (inm b i) = some (.arr ei (.int k) (xss.getD i [])) := hpGet_two_at hs hi
  obtain ⟨w', hrun, hrel⟩ := stStore_ap hT hr (d := none) (fun _ h => by cases h) ht hxv hvv (i := it) (by rw [hsz]; rfl) (by simp [cellsV, AVal.cell]) hb rfl (by rw [hsz]; exact Nat.le_refl _) hj rfl (x' := y) (by simp [cellsV, cellsOf, splice, toEl, toInt])
  refine wpIn_skipped (w' := w') (by simp [ho]) ?_ (h2 m ds A0 L0 w0 η _ w' hq0 ?_)
  · simp only [execOp, ho]; simp [hrun]
  · rw [hdst]
    refine hrel.same (fun q => ?_) (fun c => ?_) rfl
    · show fr l q = (if none = some q then AVal.un else (fr l q).clean [])
      rw [if_neg (by simp), clean_nil]
    · rw [app_H]
      show hpGet (two h (rowsL b ei (.int k) (xss.set i ((xss.getD i []).set j y)))) c = match hpGet ((inm b i, ABlk.arr ei (.int k) ((xss.getD i []).set j y)) :: rest _ []) c with | some B => some B | none => if ([] : List Nat).contains c then none else (hpGet (two h (rowsL b ei (.int k) xss)) c).map (ABlk.clean [])
      rw [two_set hs hi, hp_cons]
      by_cases e1 : c = inm b i
      · rw [if_pos e1, if_pos e1]
      · rw [if_neg e1, if_neg e1]
        show _ = (hpGet (two h (rowsL b ei (.int k) xss)) c).map (ABlk.clean [])
        cases hpGet (two h (rowsL b ei (.int k) xss)) c with
        | none => rfl
        | some B => simp [bclean_nil]

/-- A row put into a row of rows. -/
theorem AO.rowsStore (hT : TabOK P T) (hdst : o.dst = none) (hg : o.guard = none) {t : TypeId} {it : TInfo} {x v : Operand} (ho : o.op = .store t x v) (ht : T t = some it) (hsz : it.size = 1) (hs : smallH h = true) (hs2 : smallI (idsF l) = true) (hs3 : smallI (idsH h) = true)
    {b i d : Nat} {eo ei : TypeId} {τ : Ty} {xss : List (List (El τ))} {ys : List (El τ)} (hbs : b < 1000000)
    (hx : (ASt.mk (fr l) (hpGet (two ((b, .obx eo (rowsC b xss.length)) :: h) (rowsL b ei τ xss))) g).ev x = .ap b 1 i 0) (hi : i < xss.length)
    (hv : (ASt.mk (fr l) (hpGet (two ((b, .obx eo (rowsC b xss.length)) :: h) (rowsL b ei τ xss))) g).ev v = .own d) (hdb : d ≠ b) (hds : d < 1000000) (hdr : hpGet h d = some (.arr ei τ ys))
    (h2 : AO P ro n ops rs Q ⟨fr (cleanF [d] l), hpGet (two ((b, .obx eo (rowsC b xss.length)) :: cleanH [d] h) (rowsL b ei τ (xss.set i ys))), g⟩) : AO P ro n ops (o :: rs) Q ⟨fr l, hpGet (two ((b, .obx eo (rowsC b xss.length)) :: h) (rowsL b ei τ xss)), g⟩ := by
  intro m ds A0 L0 w0 η a w hq0 hr
  unfold wpListIn
  rw [if_pos (op_guard hg _)]
  have hxv := hr.ev x
  have hvv := hr.ev v
  rw [hx] at hxv
  rw [hv] at hvv
  unfold RepV at hxv hvv
  have hib := inm_big b i
  have hs' : smallH ((b, ABlk.obx eo (rowsC b xss.length)) :: h) = true := by rw [smallH_cons, hs]; simpa using hbs
  have hHb : hpGet (two ((b, .obx eo (rowsC b xss.length)) :: h) (rowsL b ei τ xss)) b = some (.obx eo (rowsC b xss.length)) := by
    rw [hpGet_two_lit hbs, hp_cons, if_pos rfl]
  have hHd : hpGet (two ((b, .obx eo (rowsC b xss.length)) :: h) (rowsL b ei τ xss)) d = some (.arr ei τ ys) := by
    rw [hpGet_two_lit hds, hp_cons, if_neg hdb]; exact hdr
  obtain ⟨gg, n', c', hη, hxv⟩ := hxv
  rcases hr.hp.blk b _ hHb with ⟨e1, _⟩ | ⟨gg', cap, vs, e1, e2, e3, e4, e5, e6⟩
  · have : (rowsC b xss.length).length = 0 := by rw [e1]; rfl
    rw [rowsC_len] at this; omega
  rw [hη] at e1
  injection e1 with e1 e7 e8
  injection e1 with e1
  injection e1 with e1
  subst e1 e8
  rw [rowsC_len] at e3 e6 e7
  have hdblk := hr.hp.blk d _ hHd
  have hone : (η d).cells = #[η d] ∧ (η d).oneCell' = true := by
    rcases hdblk with ⟨_, e9⟩ | ⟨_, _, _, e9, _⟩ <;> rw [e9] <;> exact ⟨rfl, rfl⟩
  have hxv' : a.eval x = .pointer (some ⟨gg, i, none⟩) := by rw [hxv]; simp
  have hrun := run_storeAt_rep (P := P) (hT t it ht) (w := w) (g := gg) (o := i) (v := η d) e2 (by rw [hone.1, hsz]; rfl) (by rw [hsz, e5]; omega) (fun u hu => by rw [hone.1] at hu; simp at hu; subst hu; exact hone.2)
  rw [hone.1] at hrun
  generalize hcur : (vs.toList.take i ++ #[η d].toList ++ vs.toList.drop (i + #[η d].toList.length)).toArray = cur at hrun
  have hrow : (w.setRow gg cur).heap[gg]? = some (.cells cur eo (0, 0)) := setRow_heap w gg _ _ _ _ e2
  have hcl : cur.toList = vs.toList.set i (η d) := by
    rw [← hcur]
    have hil : i < vs.toList.length := by simp; omega
    rw [List.set_eq_take_append_cons_drop, if_pos hil]
    simp
  have hcs : cur.size = c' := by
    have := congrArg List.length hcl
    rw [List.length_set] at this
    simpa [e5] using this
  refine wpIn_skipped (w' := w.setRow gg cur) (by simp [ho]) (by simp only [execOp, ho, hxv', hvv]; simp [hrun]) ?_
  have hηo : ∀ c, c ≠ inm b i → setη η (inm b i) (η d) c = η c := fun c hc => setη_other η _ hc
  have hηi : setη η (inm b i) (η d) (inm b i) = η d := setη_same η _ _
  have hne : b ≠ inm b i := by omega
  have hned : d ≠ inm b i := by omega
  have hgd : ∀ g', hblk (η d) = some g' → g' ≠ gg := fun g' h1 h3 => by
    subst h3
    exact hdb (hr.hp.inj d b _ _ _ hHd hHb rfl rfl h1 (by rw [hη]; rfl))
  have hrel : Rel n ds A0 L0 w0 (setη η (inm b i) (η d)) ((ASt.mk (fr l) (hpGet (two ((b, .obx eo (rowsC b xss.length)) :: h) (rowsL b ei τ xss))) g).app none { v := .un, kill := [d] ++ [inm b i], hp := [(b, .obx eo (rowsC b xss.length)), (inm b i, .arr ei τ ys)] }) (a.put none undef) (w.setRow gg cur) := by
    refine hr.effN (fun c => c = inm b i) (fun _ h => by cases h) (fun c hc => ?_) ⟨rfl, rfl, rfl⟩ (by simp [World.setRow]) (fun k hk => ?_) ?_ ?_ ?_ ?_ ?_ ?_ ?_
    · refine hηo c fun e9 => ?_
      subst e9
      simp at hc
    · by_cases hkg : k = gg
      · subst hkg
        exact .inr ⟨b, _, hHb, rfl, by rw [hη]; rfl, .inl (by simp [hpGet])⟩
      · exact .inl (setRow_same w gg k _ hkg)
    · intro c B g' hc hm hgc
      simp only [hpGet] at hc
      split at hc
      · rename_i e9; subst e9
        rw [hηo _ hne] at hgc
        exact .inl ⟨_, _, hHb, rfl, hgc, .inl rfl⟩
      · split at hc
        · rename_i e9; subst e9
          rw [hηi] at hgc
          exact .inl ⟨d, _, hHd, rfl, hgc, .inr ⟨rfl, by simp⟩⟩
        · cases hc
    · intro c c2 B B' g' h1 h3 _ _ _ _ _ _
      exact h1.trans h3.symm
    · intro c hc hc2
      simp only [List.contains_eq_mem, decide_eq_true_eq, List.mem_append, List.mem_singleton] at hc
      rcases hc with rfl | hc
      · simp [hpGet, hdb, hned] at hc2
      · exact hc
    · rintro c rfl hc
      unfold handed at hc; omega
    · intro c hc hc2 _
      simp only [hpGet] at hc2
      split at hc2
      · rename_i e9; subst e9
        show (hpGet (two ((c, .obx eo (rowsC c xss.length)) :: h) (rowsL c ei τ xss)) c).isSome = true
        rw [hHb]; rfl
      · split at hc2
        · rename_i e9; subst e9
          unfold handed at hc; omega
        · cases hc2
    · intro k c B hc
      simp only [hpGet] at hc
      split at hc
      · rename_i e9; subst e9
        injection hc with hc
        subst hc
        rw [hηo _ hne]
        refine .inr ⟨gg, c', cur, by rw [rowsC_len, hη, e7], hrow, by rw [rowsC_len]; exact e3, e4, hcs, ?_⟩
        rw [rowsC_len, hcl]
        have hrc : ∀ q, rowsC c q = (List.range' 0 q).map fun j => AVal.own (inm c j) := fun q => by unfold rowsC; rw [List.range_eq_range']
        have key : ∀ (A A' : Nat → Prop) (k : Nat) (us us' : List Value) (q : Nat), us.length = us'.length → RepVs η w A ((List.range' q k).map fun j => AVal.own (inm c j)) us → (∀ p u, us'[p]? = some u → (q + p = i → u = η d) ∧ (q + p ≠ i → us[p]? = some u)) → RepVs (setη η (inm c i) (η d)) (w.setRow gg cur) A' ((List.range' q k).map fun j => AVal.own (inm c j)) us' := by
          intro A A' k
          induction k with
          | zero =>
            intro us us' q hl hr hu
            have hz : us.length = 0 := by have := hr.length; simpa using this.symm
            have : us' = [] := List.length_eq_zero_iff.1 (by omega)
            subst this
            exact RepVs.nil
          | succ k ih =>
            intro us us' q hl hr hu
            rw [List.range'_succ, List.map_cons] at hr ⊢
            cases us with
            | nil => have := hr.length; simp at this
            | cons u0 us =>
              cases us' with
              | nil => simp at hl
              | cons u1 us' =>
                unfold RepVs at hr
                obtain ⟨v0, vs0, e10, r1, r2⟩ := hr
                injection e10 with e10 e11
                subst e10 e11
                refine RepVs.cons ?_ (ih us us' (q + 1) (by simpa using hl) r2 fun p u hp => ?_)
                · unfold RepV at r1 ⊢
                  obtain ⟨h7, h8⟩ := hu 0 u1 rfl
                  by_cases hq : q = i
                  · subst hq
                    rw [setη_same]
                    exact h7 rfl
                  · rw [setη_other η _ (fun e12 => hq (inm_inj e12)), ← r1]
                    have := h8 hq
                    simpa using this.symm
                · obtain ⟨h7, h8⟩ := hu (p + 1) u (by simpa using hp)
                  exact ⟨fun e12 => h7 (by omega), fun e12 => by have := h8 (by omega); simpa using this⟩
        have e6' : RepVs η w (Av A0 η (ASt.mk (fr l) (hpGet (two ((c, .obx eo (rowsC c xss.length)) :: h) (rowsL c ei τ xss))) g).H) ((List.range' 0 xss.length).map fun j => AVal.own (inm c j)) (vs.toList.take xss.length) := by
          have h9 := e6
          generalize Av A0 η (ASt.mk (fr l) (hpGet (two ((c, .obx eo (rowsC c xss.length)) :: h) (rowsL c ei τ xss))) g).H = AA at h9 ⊢
          rw [hrc] at h9
          exact h9
        generalize Av A0 (setη η (inm c i) (η d)) _ = AA
        rw [hrc]
        refine key _ AA xss.length (vs.toList.take xss.length) ((vs.toList.set i (η d)).take xss.length) 0 (by simp) e6' (fun p u hp => ?_)
        have hpl : p < xss.length := by
          have := (List.getElem?_eq_some_iff.1 hp).1
          simp at this; omega
        rw [List.getElem?_take_of_lt hpl] at hp
        refine ⟨fun e12 => ?_, fun e12 => ?_⟩
        · rw [Nat.zero_add] at e12
          subst e12
          rw [List.getElem?_set_self (by simp; omega)] at hp
          injection hp with hp; exact hp.symm
        · rw [Nat.zero_add] at e12
          rw [List.getElem?_set_ne (fun e13 => e12 e13.symm)] at hp
          rw [List.getElem?_take_of_lt hpl]; exact hp
      · split at hc
        · rename_i e9; subst e9
          injection hc with hc
          subst hc
          rw [hηi]
          rcases hdblk with hn | ⟨gd, cap, cu, f1, f2, f3, f4, f5, f6⟩
          · exact .inl hn
          · have hgd' := hgd gd (by rw [f1]; rfl)
            have hh : (w.setRow gg cur).heap[gd]? = w.heap[gd]? := setRow_same w gg gd _ hgd'
            exact .inr ⟨gd, cap, cu, f1, hh.trans f2, f3, f4, f5, fun q z hq => RepAt.step k τ z gd _ hh (f6 q z hq)⟩
        · cases hc
    · intro k; unfold RepV; trivial
  refine h2 m ds A0 L0 w0 (setη η (inm b i) (η d)) _ _ hq0 ?_
  rw [hdst]
  refine hrel.same (fun q => ?_) (fun c => ?_) rfl
  · show fr (cleanF [d] l) q = (if none = some q then AVal.un else (fr l q).clean ([d] ++ [inm b i]))
    rw [if_neg (by simp), fr_cleanF, clean_extra (fr_ids (smallI_not hs2 fun c hc => by simp at hc; omega) q)]
  · rw [app_H]
    show hpGet (two ((b, .obx eo (rowsC b xss.length)) :: cleanH [d] h) (rowsL b ei τ (xss.set i ys))) c = match hpGet [(b, ABlk.obx eo (rowsC b xss.length)), (inm b i, ABlk.arr ei τ ys)] c with | some B => some B | none => if ([d] ++ [inm b i]).contains c then none else (hpGet (two ((b, .obx eo (rowsC b xss.length)) :: h) (rowsL b ei τ xss)) c).map (ABlk.clean ([d] ++ [inm b i]))
    have hs'' : smallH ((b, ABlk.obx eo (rowsC b xss.length)) :: cleanH [d] h) = true := by
      rw [smallH_cons, smallH_clean hs]; simpa using hbs
    rw [two_set hs'' hi, hp_cons, hp_cons]
    by_cases ec : c = b
    · subst ec
      rw [if_neg hne, if_pos rfl, hpGet_two_lit hbs, hp_cons, if_pos rfl]
    · rw [if_neg ec]
      by_cases ei' : c = inm b i
      · rw [if_pos ei', if_pos ei']
      · rw [if_neg ei', if_neg ei']
        show _ = if ([d] ++ [inm b i]).contains c then none else (hpGet (two ((b, .obx eo (rowsC b xss.length)) :: h) (rowsL b ei τ xss)) c).map (ABlk.clean ([d] ++ [inm b i]))
        by_cases hc : c < 1000000
        · rw [hpGet_two_lit hc, hpGet_two_lit hc, hp_cons, hp_cons, if_neg ec, if_neg ec, hp_cleanH]
          by_cases ed : c = d
          · subst ed; simp
          · have k1 : ([d] : List Nat).contains c = false := by simpa using ed
            have k2 : ([d] ++ [inm b i]).contains c = false := by simp [ed, ei']
            rw [k1, k2]
            simp only [Bool.false_eq_true, if_false]
            cases hh : hpGet h c with
            | none => rfl
            | some B =>
              simp only [Option.map_some]
              rw [bclean_extra (smallI_not hs3 fun c hc => by simp at hc; omega) hh]
        · have k2 : ([d] ++ [inm b i]).contains c = false := by
            have : c ≠ d := by omega
            simp [this, ei']
          rw [k2]
          simp only [Bool.false_eq_true, if_false]
          unfold two
          rw [hpGet_two_big hs'' (by omega), hpGet_two_big hs' (by omega)]
          cases hh : hpGet (rowsL b ei τ xss) c with
          | none => rfl
          | some B =>
            obtain ⟨j, _, _, e3⟩ := hpGet_rows hh
            subst e3; rfl

end
end Go.Proofs.YtcckpmeepcoafaaDoor
