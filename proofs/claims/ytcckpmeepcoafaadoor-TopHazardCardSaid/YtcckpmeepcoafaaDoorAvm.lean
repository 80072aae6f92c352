/-
  The abstract machine: rows of rows that begin as nil, and to which rows are appended. No program is named here.
-/
import Derived.Test.YtcckpmeepcoafaaDoorAvl
namespace Go.Proofs.YtcckpmeepcoafaaDoor
open Go.RowKit

set_option linter.constructorNameAsVariable false
set_option linter.unusedSimpArgs false
set_option linter.unusedVariables false

section
variable {b : Nat} {e : TypeId} {t : Ty} {xss : List (List (El t))} {h : List (Nat × ABlk)}

theorem two_snoc (hs : smallH h = true) (ys : List (El t)) (c : Nat) : hpGet (two h (rowsL b e t (xss ++ [ys]))) c = if c = inm b xss.length then some (.arr e t ys) else hpGet (two h (rowsL b e t xss)) c := by
  unfold two
  by_cases hc : c < 1000000
  · have := inm_big b xss.length
    rw [if_neg (by omega), hpGet_two_small hc, hpGet_two_small hc]
  · rw [hpGet_two_big hs (by omega), hpGet_two_big hs (by omega)]
    by_cases e1 : c = inm b xss.length
    · rw [if_pos e1, e1, hpGet_rows_at (by rw [List.length_append, List.length_singleton]; omega)]
      simp [List.getD]
    · rw [if_neg e1]
      cases hr : hpGet (rowsL b e t xss) c with
      | some B =>
        obtain ⟨j, hj, e2, e3⟩ := hpGet_rows hr
        rw [e2, hpGet_rows_at (by rw [List.length_append]; omega), e3]
        simp [List.getD, List.getElem?_append_left hj]
      | none =>
        refine hpGet_rows_none fun j hj e2 => ?_
        rw [List.length_append, List.length_singleton] at hj
        by_cases hjl : j < xss.length
        · rw [e2, hpGet_rows_at hjl] at hr; cases hr
        · exact e1 (by rw [e2, show j = xss.length by omega])

end

/-- The cells of a row of rows. -/
theorem ownsF_rep {η : Nat → Value} {w : World} {A : Nat → Prop} (f : Nat → Nat) : ∀ (L : List Nat) (us : List Value), RepVs η w A (L.map fun i => AVal.own (f i)) us ↔ us = L.map fun i => η (f i)
  | [], us => by
    rw [List.map_nil, List.map_nil]
    unfold RepVs
    exact Iff.rfl
  | i :: L, us => by
    rw [List.map_cons, List.map_cons]
    unfold RepVs
    constructor
    · rintro ⟨u, us', rfl, h1, h2⟩
      unfold RepV at h1
      rw [(ownsF_rep f L us').1 h2, h1]
    · rintro rfl
      exact ⟨_, _, rfl, by unfold RepV; rfl, (ownsF_rep f L _).2 rfl⟩

theorem rowsC_rep {η : Nat → Value} {w : World} {A : Nat → Prop} {b n : Nat} {us : List Value} : RepVs η w A (rowsC b n) us ↔ us = (List.range n).map fun i => η (inm b i) := ownsF_rep (inm b) (List.range n) us

section
variable {P : Program} {T : Tab} {n : Nat} {ro : Option Nat} {Q : Exit → ASt → Prop} {g : Gh} {o : Oper} {ops rs : List Oper} {l : List (Nat × AVal)} {h : List (Nat × ABlk)}

/-- Rows of rows begin as nil. -/
theorem AO.rowsNil {d : Nat} (eo ei : TypeId) (τ : Ty) {x : Operand} (hdst : o.dst = some d) (hd : dstOK n [o] = true) (hfew : d < 1000) (hg : o.guard = none) (ho : o.op = .assign x)
    (hx : (ASt.mk (fr l) (hpGet h) g).ev x = .cv (.slice none 0 0)) (hs1 : smallH h = true) (hs2 : smallI (idsF l) = true) (hs3 : smallI (idsH h) = true)
    (h2 : AO P ro n ops rs Q ⟨fr ((d, .own d) :: cleanF [d] l), hpGet (two ((d, .obx eo (rowsC d ([] : List (List (El τ))).length)) :: cleanH [d] h) (rowsL d ei τ ([] : List (List (El τ))))), g⟩) :
    AO P ro n ops (o :: rs) Q ⟨fr l, hpGet h, g⟩ := by
  intro m ds A0 L0 w0 η a w hq0 hr
  have hxv := hr.ev x
  rw [hx] at hxv
  unfold RepV at hxv
  unfold wpListIn
  rw [if_pos (op_guard hg _)]
  refine wpIn_value (u := .slice none 0 0) (w' := w) (by simp [ho]) (by simp [execOp, ho, hxv]) ?_
  refine h2 m ds A0 L0 w0 (setη η d (.slice none 0 0)) _ _ hq0 ?_
  have hrel : Rel n ds A0 L0 w0 (setη η d (.slice none 0 0)) ((ASt.mk (fr l) (hpGet h) g).app (some d) { v := .own d, kill := [d], hp := [(d, .obx eo [])] }) (a.put (some d) (.slice none 0 0)) w := by
    refine hr.effN (fun b => b = d) (fun i hi => dst_lt hd i (by rw [hdst]; exact hi)) (fun b hb => setη_other _ _ (fun e => by subst e; simp at hb)) ⟨rfl, rfl, rfl⟩ (Nat.le_refl _) (fun g hg => .inl rfl) ?_ ?_ ?_ ?_ ?_ ?_ ?_
    · intro b B g' hb hm hgb
      simp only [hpGet] at hb
      split at hb
      · rename_i e9; subst e9
        rw [setη_same] at hgb; cases hgb
      · cases hb
    · intro b b' B B' g' h1 h3 _ _ _ _ _ _
      exact h1.trans h3.symm
    · intro b hb _
      simpa using hb
    · rintro b rfl hc
      unfold handed at hc; omega
    · intro b hb hs _
      exfalso
      simp only [hpGet] at hs
      split at hs
      · rename_i e9; subst e9
        unfold handed at hb; omega
      · cases hs
    · intro k b B hb
      simp only [hpGet] at hb
      split at hb
      · rename_i e9; subst e9
        injection hb with hb
        subst hb
        exact .inl ⟨rfl, setη_same _ _ _⟩
      · cases hb
    · intro k
      unfold RepV
      exact (setη_same _ _ _).symm
  rw [hdst]
  refine hrel.same (fun i => ?_) (fun c => ?_) rfl
  · show (if i = d then AVal.own d else fr (cleanF [d] l) i) = (if some d = some i then AVal.own d else (fr l i).clean [d])
    by_cases e : i = d
    · subst e; simp
    · rw [if_neg e, if_neg (by simpa using Ne.symm e), fr_cleanF]
  · rw [app_H]
    show hpGet (two ((d, .obx eo (rowsC d 0)) :: cleanH [d] h) (rowsL d ei τ [])) c = match hpGet [(d, ABlk.obx eo [])] c with | some B => some B | none => if [d].contains c then none else (hpGet h c).map (ABlk.clean [d])
    have er : rowsL d ei τ ([] : List (List (El τ))) = [] := rfl
    have ec : rowsC d 0 = [] := rfl
    unfold two
    rw [er, ec, List.append_nil, hp_cons, hp_cons]
    by_cases e : c = d
    · rw [if_pos e, if_pos e]
    · rw [if_neg e, if_neg e, hp_cleanH]; rfl

/-- A nil row is appended: it is laid in a row of one, and copied behind the others. -/
theorem AO.rowsApp (hT : TabOK P T) {o2 : Oper} {d1 d2 : Nat} {t eo ei : TypeId} {i ie : TInfo} {τ : Ty} {c : Call} {x : Operand} {b : Nat} {xss : List (List (El τ))} (hdst : o.dst = some d1) (hd : dstOK n [o] = true) (hg : o.guard = none) (ho : o.op = .buildSlice t 1 #[(0, .const (.slice none 0 0))])
    (hdst2 : o2.dst = some d2) (hd2 : dstOK n [o2] = true) (hg2 : o2.guard = none) (ho2 : o2.op = .call c) (hc : c.callee = .builtin .append) (ha : c.args = #[x, .tmp d1]) (hty : c.argTypes = #[t, t])
    (ht : T t = some i) (hi : i.desc = .sl eo) (he : T eo = some ie) (s2 : ie.size = 1) (hs : smallH h = true) (hs2 : smallI (idsF l) = true) (hs3 : smallI (idsH h) = true) (hbs : b < 1000)
    (hx : (ASt.mk (fr ((d1, .un) :: l)) (hpGet (two ((b, .obx eo (rowsC b xss.length)) :: h) (rowsL b ei τ xss))) g).ev x = .own b)
    (hby : (xss.length + 1) * ie.bytes ≤ 140737488355328) (hmx : xss.length + 1 ≤ maxLen)
    (h2 : AO P ro n ops rs Q ⟨fr ((d2, .own b) :: (d1, .un) :: cleanF [b] l), hpGet (two ((b, .obx eo (rowsC b (xss ++ [[]]).length)) :: cleanH [b] h) (rowsL b ei τ (xss ++ [[]]))), g⟩) :
    AO P ro n ops (o :: o2 :: rs) Q ⟨fr l, hpGet (two ((b, .obx eo (rowsC b xss.length)) :: h) (rowsL b ei τ xss)), g⟩ := by
  intro m ds A0 L0 w0 η a w hq0 hr
  have hlen1 : (xss ++ [([] : List (El τ))]).length = xss.length + 1 := by simp
  rw [hlen1] at h2
  have hte := hT eo ie he
  obtain ⟨info, z, dd, hinf, hsz, hbyt, hz, hzz, _⟩ := hte.ex
  have hzs : z.cells.size = 1 := by
    have := hte.zsize
    rw [← hzz, s2] at this
    simpa using this
  have hisz : info.size = 1 := by rw [hsz, s2]
  have hu := (hT t i ht).slice hi
  -- the row of one
  have hrun1 : (Instr.buildSlice t 1 #[(0, Value.slice none 0 0)]).run P w = .ok (.slice (some ⟨w.heap.size, 0, none⟩) 1 1) (w.alloc (.cells #[Value.slice none 0 0] eo)) := by
    refine run_buildSlice w t eo 1 _ _ info z hu hinf hz (by rw [hisz]; omega) (by rw [hisz]; omega) ?_
    rw [hisz]
    exact Great.fill_whole (by omega) [Value.slice none 0 0] _ (fun v hv => by simp at hv; subst hv; rfl) (by simp)
  unfold wpListIn
  rw [if_pos (op_guard hg _)]
  refine wpIn_value (u := .slice (some ⟨w.heap.size, 0, none⟩) 1 1) (w' := w.alloc (.cells #[Value.slice none 0 0] eo)) (by simp [ho]) (by simp [execOp, ho, show a.eval (Operand.const (Value.slice none 0 0)) = Value.slice none 0 0 from rfl, hrun1]) ?_
  have hrel1 : Rel n ds A0 L0 w0 η ((ASt.mk (fr l) (hpGet (two ((b, .obx eo (rowsC b xss.length)) :: h) (rowsL b ei τ xss))) g).app (some d1) { v := .un }) (a.put (some d1) (.slice (some ⟨w.heap.size, 0, none⟩) 1 1)) (w.alloc (.cells #[Value.slice none 0 0] eo)) := by
    refine hr.effN (fun b => False) (fun i hi => dst_lt hd i (by rw [hdst]; exact hi)) (fun b hb => rfl) ⟨rfl, rfl, rfl⟩ (by simp) (fun g hg => .inl (heap_alloc_old _ _ _ hg)) ?_ ?_ ?_ ?_ ?_ ?_ ?_
    · intro b B g' hb; cases hb
    · intro b b' B B' g' h1; exact h1.elim
    · intro b hb; simp at hb
    · intro b hb; exact hb.elim
    · intro b hb hs; cases hs
    · intro k b B hb; cases hb
    · intro k; unfold RepV; trivial
  rw [hdst]
  generalize hw1 : w.alloc (.cells #[Value.slice none 0 0] eo) = w1 at hrel1 ⊢
  have hcell1 : w1.cell? ⟨w.heap.size, 0, none⟩ = some (.slice none 0 0) := by
    rw [← hw1, World.cell?_alloc_new]; rfl
  have hr1 : Rel n ds A0 L0 w0 η (ASt.mk (fr ((d1, .un) :: l)) (hpGet (two ((b, .obx eo (rowsC b xss.length)) :: h) (rowsL b ei τ xss))) g) (a.put (some d1) (.slice (some ⟨w.heap.size, 0, none⟩) 1 1)) w1 := by
    refine hrel1.same (fun q => ?_) (fun q => ?_) rfl
    · show (if q = d1 then AVal.un else fr l q) = (if some d1 = some q then AVal.un else (fr l q).clean [])
      by_cases e : q = d1
      · subst e; simp
      · rw [if_neg e, if_neg (by simpa using Ne.symm e), clean_nil]
    · rw [app_H]
      show hpGet (two _ _) q = (hpGet (two _ _) q).map (ABlk.clean [])
      cases hpGet (two ((b, .obx eo (rowsC b xss.length)) :: h) (rowsL b ei τ xss)) q with
      | none => rfl
      | some B => rw [Option.map_some, bclean_nil]
  have hav1 : (a.put (some d1) (.slice (some ⟨w.heap.size, 0, none⟩) 1 1)).eval (.tmp d1) = .slice (some ⟨w.heap.size, 0, none⟩) 1 1 := by
    have hlt := dst_lt hd d1 hdst
    show ((a.put (some d1) (.slice (some ⟨w.heap.size, 0, none⟩) 1 1)).tmps.getD d1 undef) = _
    rw [put_getD, if_pos ⟨rfl, by rw [hr.size]; exact hlt⟩]
  generalize a.put (some d1) (.slice (some ⟨w.heap.size, 0, none⟩) 1 1) = a1 at hr1 hav1 ⊢
  generalize w.heap.size = gy at hcell1 hav1
  clear hrel1 hrun1 hw1
  have hxv := hr1.ev x
  rw [hx] at hxv
  unfold RepV at hxv
  have hHb : hpGet (two ((b, .obx eo (rowsC b xss.length)) :: h) (rowsL b ei τ xss)) b = some (.obx eo (rowsC b xss.length)) := by
    rw [hpGet_two_lit (by omega), hp_cons, if_pos rfl]
  have hbig := inm_big b xss.length
  have hne : b ≠ inm b xss.length := by omega
  -- whatever the world is behind, if its row is laid so
  have fin : ∀ (w2 : World) (g2 cap2 : Nat) (cur2 : Array Value), w2.os = w1.os ∧ w2.tape = w1.tape ∧ w2.output = w1.output → w1.heap.size ≤ w2.heap.size → (∀ k, k < w1.heap.size → w2.heap[k]? = w1.heap[k]? ∨ hblk (η b) = some k) → w2.heap[g2]? = some (.cells cur2 eo (0, 0)) →
      xss.length + 1 ≤ cap2 → cap2 ≤ maxLen → cur2.size = cap2 → cur2.toList.take (xss.length + 1) = ((List.range xss.length).map fun q => η (inm b q)) ++ [.slice none 0 0] → (hblk (η b) = some g2 ∨ w1.heap.size ≤ g2) →
      ∃ η', Rel n ds A0 L0 w0 η' (ASt.mk (fr ((d2, .own b) :: (d1, .un) :: cleanF [b] l)) (hpGet (two ((b, .obx eo (rowsC b (xss.length + 1))) :: cleanH [b] h) (rowsL b ei τ (xss ++ [[]])))) g) (a1.put (some d2) (.slice (some ⟨g2, 0, none⟩) (xss.length + 1) cap2)) w2 := by
    intro w2 g2 cap2 cur2 hos hsz2 hold hg2' hc1 hc2 hc3 htk hnew
    refine ⟨setη (setη η (inm b xss.length) (.slice none 0 0)) b (.slice (some ⟨g2, 0, none⟩) (xss.length + 1) cap2), ?_⟩
    generalize hη' : setη (setη η (inm b xss.length) (.slice none 0 0)) b (.slice (some ⟨g2, 0, none⟩) (xss.length + 1) cap2) = η'
    have ηb : η' b = .slice (some ⟨g2, 0, none⟩) (xss.length + 1) cap2 := by rw [← hη', setη_same]
    have ηn : η' (inm b xss.length) = .slice none 0 0 := by rw [← hη', setη_other _ _ (Ne.symm hne), setη_same]
    have ηo : ∀ q, q ≠ b → q ≠ inm b xss.length → η' q = η q := fun q h1 h3 => by rw [← hη', setη_other _ _ h1, setη_other _ _ h3]
    have hrel : Rel n ds A0 L0 w0 η' ((ASt.mk (fr ((d1, .un) :: l)) (hpGet (two ((b, .obx eo (rowsC b xss.length)) :: h) (rowsL b ei τ xss))) g).app (some d2) { v := .own b, kill := [b] ++ [inm b xss.length], hp := [(b, .obx eo (rowsC b (xss.length + 1))), (inm b xss.length, .arr ei τ [])] }) (a1.put (some d2) (.slice (some ⟨g2, 0, none⟩) (xss.length + 1) cap2)) w2 := by
      refine hr1.effN (fun q => q = b ∨ q = inm b xss.length) (fun i hi => dst_lt hd2 i (by rw [hdst2]; exact hi)) (fun q hq => ?_) hos hsz2 (fun k hk => ?_) ?_ ?_ ?_ ?_ ?_ ?_ ?_
      · simp only [List.contains_eq_mem, decide_eq_false_iff_not, List.mem_append, List.mem_singleton, not_or] at hq
        exact ηo q hq.1 hq.2
      · rcases hold k hk with h1 | h1
        · exact .inl h1
        · exact .inr ⟨b, _, hHb, rfl, h1, .inl (by simp [hpGet])⟩
      · intro q B g' hq hm hgq
        simp only [hpGet] at hq
        split at hq
        · rename_i e9; subst e9
          rw [ηb] at hgq
          injection hgq with hgq
          subst hgq
          rcases hnew with h1 | h1
          · exact .inl ⟨q, _, hHb, rfl, h1, .inl rfl⟩
          · exact .inr ⟨h1, .inl rfl⟩
        · split at hq
          · rename_i e9; subst e9
            rw [ηn] at hgq; cases hgq
          · cases hq
      · intro q q' B B' g' h1 h3 _ _ _ _ h5 h6
        have key : ∀ c, (c = b ∨ c = inm b xss.length) → hblk (η' c) = some g' → c = b := fun c hc hgc => by
          rcases hc with hc | rfl
          · exact hc
          · rw [ηn] at hgc; cases hgc
        rw [key q h1 h5, key q' h3 h6]
      · intro q hq _
        simpa using hq
      · rintro q (rfl | rfl) hc
        · unfold handed at hc; omega
        · unfold handed at hc; omega
      · intro q hq hs4 _
        exfalso
        unfold handed at hq
        simp only [hpGet] at hs4
        split at hs4
        · omega
        · split at hs4
          · omega
          · cases hs4
      · intro k q B hq
        simp only [hpGet] at hq
        split at hq
        · rename_i e9; subst e9
          injection hq with hq
          subst hq
          refine .inr ⟨g2, cap2, cur2, by rw [rowsC_len, ηb], hg2', by rw [rowsC_len]; exact hc1, hc2, hc3, ?_⟩
          rw [rowsC_len, htk]
          refine rowsC_rep.2 ?_
          rw [List.range_succ, List.map_append, List.map_singleton, ηn]
          congr 1
          refine List.map_congr_left fun j hj => ?_
          rw [List.mem_range] at hj
          have := inm_big q j
          exact (ηo _ (by omega) fun e => by have := inm_inj e; omega).symm
        · split at hq
          · rename_i e9; subst e9
            injection hq with hq
            subst hq
            exact .inl ⟨rfl, ηn⟩
          · cases hq
      · intro k
        unfold RepV
        exact ηb.symm
    refine hrel.same (fun q => ?_) (fun q => ?_) rfl
    · show (if q = d2 then AVal.own b else if q = d1 then AVal.un else fr (cleanF [b] l) q) = (if some d2 = some q then AVal.own b else (if q = d1 then AVal.un else fr l q).clean ([b] ++ [inm b xss.length]))
      by_cases e : q = d2
      · subst e; simp
      · have e' : ¬ some d2 = some q := fun e9 => e (Option.some.inj e9).symm
        rw [if_neg e, if_neg e']
        by_cases e2 : q = d1
        · rw [if_pos e2, if_pos e2]; rfl
        · rw [if_neg e2, if_neg e2, fr_cleanF, clean_extra (fr_ids (smallI_not hs2 fun c hc => by simp at hc; omega) q)]
    · rw [app_H]
      show hpGet (two ((b, .obx eo (rowsC b (xss.length + 1))) :: cleanH [b] h) (rowsL b ei τ (xss ++ [[]]))) q = match hpGet [(b, ABlk.obx eo (rowsC b (xss.length + 1))), (inm b xss.length, ABlk.arr ei τ [])] q with | some B => some B | none => if ([b] ++ [inm b xss.length]).contains q then none else (hpGet (two ((b, .obx eo (rowsC b xss.length)) :: h) (rowsL b ei τ xss)) q).map (ABlk.clean ([b] ++ [inm b xss.length]))
      have hs'' : smallH ((b, ABlk.obx eo (rowsC b (xss.length + 1))) :: cleanH [b] h) = true := by
        rw [smallH_cons, smallH_clean hs]; simpa using (show b < 1000000 by omega)
      have hs' : smallH ((b, ABlk.obx eo (rowsC b xss.length)) :: h) = true := by
        rw [smallH_cons, hs]; simpa using (show b < 1000000 by omega)
      rw [two_snoc hs'', hp_cons, hp_cons]
      by_cases ec : q = b
      · subst ec
        rw [if_neg hne, if_pos rfl, hpGet_two_lit (by omega), hp_cons, if_pos rfl]
      · rw [if_neg ec]
        by_cases ei' : q = inm b xss.length
        · rw [if_pos ei', if_pos ei']
        · rw [if_neg ei', if_neg ei']
          show _ = if ([b] ++ [inm b xss.length]).contains q then none else (hpGet (two ((b, .obx eo (rowsC b xss.length)) :: h) (rowsL b ei τ xss)) q).map (ABlk.clean ([b] ++ [inm b xss.length]))
          have k2 : ([b] ++ [inm b xss.length]).contains q = false := by simp [ec, ei']
          rw [k2]
          simp only [Bool.false_eq_true, if_false]
          by_cases hc : q < 1000000
          · rw [hpGet_two_lit hc, hpGet_two_lit hc, hp_cons, hp_cons, if_neg ec, if_neg ec, hp_cleanH]
            have k1 : ([b] : List Nat).contains q = false := by simpa using ec
            rw [k1]
            simp only [Bool.false_eq_true, if_false]
            cases hh : hpGet h q with
            | none => rfl
            | some B =>
              simp only [Option.map_some]
              rw [bclean_extra (smallI_not hs3 fun c hc => by simp at hc; omega) hh]
          · unfold two
            rw [hpGet_two_big hs'' (by omega), hpGet_two_big hs' (by omega)]
            cases hh : hpGet (rowsL b ei τ xss) q with
            | none => rfl
            | some B =>
              obtain ⟨j, hj, _, rfl⟩ := hpGet_rows hh
              rfl
  unfold wpListIn
  rw [if_pos (op_guard hg2 _)]
  have hnews : ∀ (j : Nat) (v : Value), [Value.slice none 0 0][j]? = some v → w1.cell? ((⟨gy, 0, none⟩ : Addr).add j) = some v := fun j v hj => by
    cases j with
    | zero =>
      rw [add_off]
      simp only [List.getElem?_cons_zero, Option.some.injEq] at hj
      rw [← hj]; exact hcell1
    | succ j => simp at hj
  rcases hr1.hp.blk b _ hHb with ⟨e1, e2⟩ | ⟨g2, cap, vs, e1, e2, e3, e4, e5, e6⟩
  · -- from nil
    have hk0 : xss.length = 0 := by
      have := congrArg List.length e1
      rwa [rowsC_len] at this
    have hrun := run_append_nil (P := P) w1 t o2.type eo info z hu hinf hz ⟨gy, 0, none⟩ 1 1 [Value.slice none 0 0] (by rw [hisz]; rfl) hnews (by omega) (by omega) (by rw [hbyt]; rw [hk0] at hby; omega)
    obtain ⟨η', hR⟩ := fin (w1.drew.alloc (.cells ([Value.slice none 0 0].toArray ++ Builtin.zeroCells z.cells (grownCap w1 1 0 eo - 1)) eo)) w1.heap.size (grownCap w1 1 0 eo) _ ⟨rfl, rfl, rfl⟩ (by simp) (fun k hk => .inl (by rw [heap_alloc_old _ _ _ (by simpa using hk)]; rfl)) (by
      have := (MapKept.heap_alloc w1.drew (.cells ([Value.slice none 0 0].toArray ++ Builtin.zeroCells z.cells (grownCap w1 1 0 eo - 1)) eo)).1
      exact this) (by rw [hk0]; exact grownCap_ge w1 1 0 eo) (grownCap_le_maxLen w1 1 0 eo (by omega)) (by
        have := grownCap_ge w1 1 0 eo
        simp [zeroCells_size hzs]; omega) (by rw [hk0]; simp) (.inr (Nat.le_refl _))
    rw [hk0] at hR
    refine wpIn_value (u := .slice (some ⟨w1.heap.size, 0, none⟩) 1 (grownCap w1 1 0 eo)) (w' := w1.drew.alloc (.cells ([Value.slice none 0 0].toArray ++ Builtin.zeroCells z.cells (grownCap w1 1 0 eo - 1)) eo)) (by simp [ho2]) ?_ ?_
    · have hev : a1.eval x = .slice none 0 0 := by rw [hxv, e2]
      simp [execOp, ho2, resolve, hc, ha, hty, invoke, builtin, hev, hav1, hrun]
    · rw [hdst2]
      refine h2 m ds A0 L0 w0 η' _ _ hq0 ?_
      rw [hk0]; exact hR
  · rw [rowsC_len] at e1 e3 e6
    have hus := rowsC_rep.1 e6
    have htl : (vs.toList.take xss.length).length = xss.length := by rw [hus]; simp
    have hev : a1.eval x = .slice (some ⟨g2, 0, none⟩) xss.length cap := by rw [hxv, e1]
    have hblk : hblk (η b) = some g2 := by rw [e1]; rfl
    have hgl : g2 < w1.heap.size := (Array.getElem?_eq_some_iff.1 e2).1
    by_cases hroom : xss.length + 1 ≤ cap
    · have hrun := run_append_room (P := P) w1 t o2.type eo info hu hinf g2 xss.length cap vs e2 ⟨gy, 0, none⟩ 1 1 [Value.slice none 0 0] (by rw [hisz]; rfl) hnews (fun u hu => by simp at hu; subst hu; rfl) hroom (by rw [hisz, e5]; simp; omega)
      rw [hisz, Nat.mul_one] at hrun
      generalize hcur : (vs.toList.take xss.length ++ [Value.slice none 0 0] ++ vs.toList.drop (xss.length + [Value.slice none 0 0].length)).toArray = cur at hrun
      have hrow := setRow_heap w1 g2 vs cur _ _ e2
      have hcl : cur.toList = vs.toList.take xss.length ++ [Value.slice none 0 0] ++ vs.toList.drop (xss.length + 1) := by rw [← hcur]; rfl
      have hcs : cur.size = cap := by
        have h9 := congrArg List.length hcl
        simp only [List.length_append, htl, List.length_singleton, List.length_drop, Array.length_toList, e5] at h9
        omega
      obtain ⟨η', hR⟩ := fin (w1.setRow g2 cur) g2 cap cur ⟨rfl, rfl, rfl⟩ (by simp [World.setRow]) (fun k hk => by
        by_cases hkg : k = g2
        · subst hkg; exact .inr hblk
        · exact .inl (setRow_same w1 g2 k _ hkg)) hrow hroom e4 hcs (by
          rw [hcl, List.take_append_of_le_length (by rw [List.length_append, htl, List.length_singleton]; omega), List.take_of_length_le (by rw [List.length_append, htl, List.length_singleton]; omega), hus]) (.inl hblk)
      refine wpIn_value (u := .slice (some ⟨g2, 0, none⟩) (xss.length + 1) cap) (w' := w1.setRow g2 cur) (by simp [ho2]) ?_ ?_
      · simp [execOp, ho2, resolve, hc, ha, hty, invoke, builtin, hev, hav1, hrun]
      · rw [hdst2]
        exact h2 m ds A0 L0 w0 η' _ _ hq0 hR
    · have holds : ∀ (j : Nat) (v : Value), (vs.toList.take xss.length)[j]? = some v → w1.cell? ((⟨g2, 0, none⟩ : Addr).add j) = some v := fun j v hj => by
        rw [add_off, Nat.zero_add, cell_of_row w1 g2 j vs _ _ e2]
        have hjl := (List.getElem?_eq_some_iff.1 hj).1
        rw [htl] at hjl
        rw [List.getElem?_take_of_lt hjl] at hj
        simpa using hj
      have hrun := run_append_grow (P := P) w1 t o2.type eo info z hu hinf hz ⟨g2, 0, none⟩ xss.length cap (vs.toList.take xss.length) (by rw [htl, hisz, Nat.mul_one]) holds ⟨gy, 0, none⟩ 1 1 [Value.slice none 0 0] (by rw [hisz]; rfl) hnews (by omega) (by simp [maxLen] at hmx; omega) (growslice_fits (by omega) (by rw [hbyt]; exact hby))
      generalize hcap : grownCap w1 (xss.length + 1) cap eo = cap2 at hrun
      generalize hcur : (vs.toList.take xss.length).toArray ++ [Value.slice none 0 0].toArray ++ Builtin.zeroCells z.cells (cap2 - (xss.length + 1)) = cur at hrun
      have hge : xss.length + 1 ≤ cap2 := by rw [← hcap]; exact grownCap_ge ..
      have hle : cap2 ≤ maxLen := by rw [← hcap]; exact grownCap_le_maxLen _ _ _ _ hmx
      have hcs : cur.size = cap2 := by
        rw [← hcur]
        simp only [Array.size_append, List.size_toArray, htl, zeroCells_size hzs, List.length_singleton]
        omega
      obtain ⟨η', hR⟩ := fin (w1.drew.alloc (.cells cur eo)) w1.heap.size cap2 cur ⟨rfl, rfl, rfl⟩ (by simp) (fun k hk => .inl (by rw [heap_alloc_old _ _ _ (by simpa using hk)]; rfl)) (by
        have := (MapKept.heap_alloc w1.drew (.cells cur eo)).1
        exact this) hge hle hcs (by
          rw [← hcur]
          simp only [Array.toList_append, List.toList_toArray]
          rw [List.take_append_of_le_length (by rw [List.length_append, htl, List.length_singleton]; omega), List.take_of_length_le (by rw [List.length_append, htl, List.length_singleton]; omega), hus]) (.inr (Nat.le_refl _))
      refine wpIn_value (u := .slice (some ⟨w1.heap.size, 0, none⟩) (xss.length + 1) cap2) (w' := w1.drew.alloc (.cells cur eo)) (by simp [ho2]) ?_ ?_
      · simp [execOp, ho2, resolve, hc, ha, hty, invoke, builtin, hev, hav1, hrun]
      · rw [hdst2]
        exact h2 m ds A0 L0 w0 η' _ _ hq0 hR

/-- A row of one's own is laid at a place of rows of rows, whatever was there. -/
theorem AO.rowsFill (hT : TabOK P T) (hdst : o.dst = none) (hg : o.guard = none) {t : TypeId} {it : TInfo} {x v : Operand} (ho : o.op = .store t x v) (ht : T t = some it) (hsz : it.size = 1) {s : ASt}
    {b i d k : Nat} {eo ei : TypeId} {τ : Ty} {cs : List AVal} {ys : List (El τ)} (hbs : b < 1000000) (hds : d < 1000000) (hdb : d ≠ b) (hx : s.ev x = .ap b 1 i 0) (hv : s.ev v = .own d) (hb : s.H b = some (.obx eo cs)) (hk : cs.length = k) (hi : i < k)
    (hcs : ∀ j, j < k → j ≠ i → cs[j]? = some (.own (inm b j))) (hdr : s.H d = some (.arr ei τ ys))
    (h2 : AO P ro n ops rs Q (s.app none { v := .un, kill := [d] ++ [inm b i], hp := [(b, .obx eo (rowsC b k)), (inm b i, .arr ei τ ys)] })) : AO P ro n ops (o :: rs) Q s := by
  intro m ds A0 L0 w0 η a w hq0 hr
  unfold wpListIn
  rw [if_pos (op_guard hg _)]
  have hxv := hr.ev x
  have hvv := hr.ev v
  rw [hx] at hxv
  rw [hv] at hvv
  unfold RepV at hxv hvv
  have hib := inm_big b i
  obtain ⟨gg, n', c', hη, hxv⟩ := hxv
  rcases hr.hp.blk b _ hb with ⟨e1, _⟩ | ⟨gg', cap, vs, e1, e2, e3, e4, e5, e6⟩
  · rw [e1] at hk; simp at hk; omega
  rw [hη] at e1
  injection e1 with e1 e7 e8
  injection e1 with e1
  injection e1 with e1
  subst e1 e8
  rw [hk] at e3 e6 e7
  have hdblk := hr.hp.blk d _ hdr
  have hone : (η d).cells = #[η d] ∧ (η d).oneCell' = true := by
    rcases hdblk with ⟨_, e9⟩ | ⟨_, _, _, e9, _⟩ <;> rw [e9] <;> exact ⟨rfl, rfl⟩
  have hxv' : a.eval x = .pointer (some ⟨gg, i, none⟩) := by rw [hxv]; simp
  have hrun := run_storeAt_rep (P := P) (hT t it ht) (w := w) (g := gg) (o := i) (v := η d) e2 (by rw [hone.1, hsz]; rfl) (by rw [hsz, e5]; omega) (fun u hu => by rw [hone.1] at hu; simp at hu; subst hu; exact hone.2)
  rw [hone.1] at hrun
  generalize hcur : (vs.toList.take i ++ #[η d].toList ++ vs.toList.drop (i + #[η d].toList.length)).toArray = cur at hrun
  have hrow : (w.setRow gg cur).heap[gg]? = some (.cells cur eo (0, 0)) := setRow_heap w gg _ _ _ _ e2
  have hcl : cur.toList = vs.toList.set i (η d) := by
    rw [← hcur]
    have hil : i < vs.toList.length := by simp; omega
    rw [List.set_eq_take_append_cons_drop, if_pos hil]
    simp
  have hcsz : cur.size = c' := by
    have := congrArg List.length hcl
    rw [List.length_set] at this
    simpa [e5] using this
  refine wpIn_skipped (w' := w.setRow gg cur) (by simp [ho]) (by simp only [execOp, ho, hxv', hvv]; simp [hrun]) ?_
  have hηo : ∀ c, c ≠ inm b i → setη η (inm b i) (η d) c = η c := fun c hc => setη_other η _ hc
  have hηi : setη η (inm b i) (η d) (inm b i) = η d := setη_same η _ _
  have hne : b ≠ inm b i := by omega
  have hned : d ≠ inm b i := by omega
  have hgd : ∀ g', hblk (η d) = some g' → g' ≠ gg := fun g' h1 h3 => by
    subst h3
    exact hdb (hr.hp.inj d b _ _ _ hdr hb rfl rfl h1 (by rw [hη]; rfl))
  refine h2 m ds A0 L0 w0 (setη η (inm b i) (η d)) _ _ hq0 ?_
  rw [hdst]
  refine hr.effN (fun c => c = inm b i) (fun _ h => by cases h) (fun c hc => ?_) ⟨rfl, rfl, rfl⟩ (by simp [World.setRow]) (fun k hk => ?_) ?_ ?_ ?_ ?_ ?_ ?_ ?_
  · refine hηo c fun e9 => ?_
    subst e9
    simp at hc
  · by_cases hkg : k = gg
    · subst hkg
      exact .inr ⟨b, _, hb, rfl, by rw [hη]; rfl, .inl (by simp [hpGet])⟩
    · exact .inl (setRow_same w gg k _ hkg)
  · intro c B g' hc hm hgc
    simp only [hpGet] at hc
    split at hc
    · rename_i e9; subst e9
      rw [hηo _ hne] at hgc
      exact .inl ⟨_, _, hb, rfl, hgc, .inl rfl⟩
    · split at hc
      · rename_i e9; subst e9
        rw [hηi] at hgc
        exact .inl ⟨d, _, hdr, rfl, hgc, .inr ⟨rfl, by simp⟩⟩
      · cases hc
  · intro c c2 B B' g' h1 h3 _ _ _ _ _ _
    exact h1.trans h3.symm
  · intro c hc hc2
    simp only [List.contains_eq_mem, decide_eq_true_eq, List.mem_append, List.mem_singleton] at hc
    rcases hc with rfl | hc
    · simp [hpGet, hdb, hned] at hc2
    · exact hc
  · rintro c rfl hc
    unfold handed at hc; omega
  · intro c hc hc2 _
    simp only [hpGet] at hc2
    split at hc2
    · rename_i e9; subst e9
      rw [hb]; rfl
    · split at hc2
      · rename_i e9; subst e9
        unfold handed at hc; omega
      · cases hc2
  · intro kk c B hc
    simp only [hpGet] at hc
    split at hc
    · rename_i e9; subst e9
      injection hc with hc
      subst hc
      rw [hηo _ hne]
      refine .inr ⟨gg, c', cur, by rw [rowsC_len, hη, e7], hrow, by rw [rowsC_len]; exact e3, e4, hcsz, ?_⟩
      rw [rowsC_len, hcl]
      refine rowsC_rep.2 (List.ext_getElem? fun q => ?_)
      by_cases hq : q < k
      · rw [List.getElem?_take_of_lt hq, List.getElem?_map, List.getElem?_range hq, Option.map_some]
        by_cases hqi : q = i
        · subst hqi
          rw [List.getElem?_set_self (by simp; omega), hηi]
        · rw [List.getElem?_set_ne (fun e => hqi e.symm), hηo _ (fun e => hqi (inm_inj e))]
          obtain ⟨u, hu, hru⟩ := RepVs.get e6 (hcs q hq hqi)
          unfold RepV at hru
          rw [List.getElem?_take_of_lt hq] at hu
          rw [hu, hru]
      · rw [List.getElem?_eq_none (by simp; omega), List.getElem?_eq_none (by simp; omega)]
    · split at hc
      · rename_i e9; subst e9
        injection hc with hc
        subst hc
        rw [hηi]
        rcases hdblk with hn | ⟨gd, cap, cu, f1, f2, f3, f4, f5, f6⟩
        · exact .inl hn
        · have hgd' := hgd gd (by rw [f1]; rfl)
          have hh : (w.setRow gg cur).heap[gd]? = w.heap[gd]? := setRow_same w gg gd _ hgd'
          exact .inr ⟨gd, cap, cu, f1, hh.trans f2, f3, f4, f5, fun q z hq => RepAt.step kk τ z gd _ hh (f6 q z hq)⟩
      · cases hc
  · intro k; unfold RepV; trivial

theorem clean_clean (x : AVal) (K L : List Nat) : (x.clean K).clean L = x.clean (K ++ L) := by
  by_cases h : (K.any fun b => x.has b) = true
  · have e1 : x.clean K = .un := by unfold AVal.clean; rw [if_pos h]
    have e2 : x.clean (K ++ L) = .un := by unfold AVal.clean; rw [if_pos (by rw [List.any_append, h]; rfl)]
    rw [e1, e2, clean_un]
  · have e1 : x.clean K = x := by unfold AVal.clean; rw [if_neg h]
    rw [e1]
    rw [Bool.not_eq_true] at h
    unfold AVal.clean
    rw [List.any_append, h, Bool.false_or]

theorem clean_like {x : AVal} {K L : List Nat} (h : ∀ b, x.has b = true → (b ∈ K ↔ b ∈ L)) : x.clean K = x.clean L := by
  unfold AVal.clean
  have : (K.any fun b => x.has b) = L.any fun b => x.has b := by
    rw [Bool.eq_iff_iff, List.any_eq_true, List.any_eq_true]
    constructor
    · rintro ⟨b, h1, h2⟩; exact ⟨b, (h b h2).1 h1, h2⟩
    · rintro ⟨b, h1, h2⟩; exact ⟨b, (h b h2).2 h1, h2⟩
  rw [this]

theorem bclean_clean (B : ABlk) (K L : List Nat) : (B.clean K).clean L = B.clean (K ++ L) := by
  cases B <;> simp [ABlk.clean, clean_clean]

theorem cleanL_like {K L : List Nat} : ∀ {l : List AVal}, (∀ b ∈ AVal.idsL l, b ∈ K ↔ b ∈ L) → l.map (AVal.clean K) = l.map (AVal.clean L)
  | [], _ => rfl
  | x :: r, h => by
    have h' : ∀ b, (b ∈ x.ids ∨ b ∈ AVal.idsL r) → (b ∈ K ↔ b ∈ L) := fun b hb => h b (by
      show b ∈ x.ids ++ AVal.idsL r
      exact List.mem_append.2 hb)
    rw [List.map_cons, List.map_cons, clean_like fun b hb => h' b (.inl (mem_ids x b hb)), cleanL_like fun b hb => h' b (.inr hb)]

theorem bclean_like {h : List (Nat × ABlk)} {K L : List Nat} (hi : ∀ b ∈ idsH h, b ∈ K ↔ b ∈ L) {c : Nat} {B : ABlk} (hg : hpGet h c = some B) : B.clean K = B.clean L := by
  cases B with
  | box ty cs =>
    simp only [ABlk.clean]
    rw [cleanL_like fun b hb => hi b (idsH_get (.inl (hpGet_mem hg)) b hb)]
  | obx ty cs =>
    simp only [ABlk.clean]
    rw [cleanL_like fun b hb => hi b (idsH_get (.inr (hpGet_mem hg)) b hb)]
  | arr => rfl
  | imm => rfl
  | map => rfl

/-- A list written out, but for one register. -/
theorem fr_filter (l : List (Nat × AVal)) (d0 q : Nat) : q ≠ d0 → fr (l.filter fun p => p.1 != d0) q = fr l q := by
  intro h
  induction l with
  | nil => rfl
  | cons p r ih =>
    obtain ⟨k, v⟩ := p
    by_cases hk : k = d0
    · subst hk
      rw [List.filter_cons_of_neg (by simp), ih]
      show fr r q = if q = k then v else fr r q
      rw [if_neg h]
    · rw [List.filter_cons_of_pos (by simpa using hk)]
      show (if q = k then v else fr (r.filter _) q) = if q = k then v else fr r q
      rw [ih]

/-- To a row of rows of rows an element is appended, and the row is laid back: append, place, store. -/
theorem AO.rowsPush (hT : TabOK P T) {o2 o3 : Oper} {d0 d1 d2 dz dix : Nat} {t t2 ts eo ei : TypeId} {i i2 its ie ie2 : TInfo} {τ : Ty} {c : Call} {y : Operand} {b j : Nat} {kk : IntKind} {xss : List (List (El τ))} {zs : List (El τ)}
    (hdst : o.dst = some d1) (hd : dstOK n [o] = true) (hfew : d1 < 1000) (hg : o.guard = none) (ho : o.op = .call c) (hc : c.callee = .builtin .append) (ha : c.args = #[.tmp d0, y]) (hty : c.argTypes = #[t, t]) (ht : T t = some i) (hi : i.desc = .sl ei) (he : T ei = some ie) (hdt : ie.dt = some τ)
    (hdst2 : o2.dst = some d2) (hd2 : dstOK n [o2] = true) (hg2 : o2.guard = none) (ho2 : o2.op = .indexAddr t2 (.tmp dz) (.tmp dix)) (ht2 : T t2 = some i2) (hi2 : i2.desc = .sl eo) (he2 : T eo = some ie2) (hs2' : ie2.size = 1)
    (hdst3 : o3.dst = none) (hg3 : o3.guard = none) (ho3 : o3.op = .store ts (.tmp d2) (.tmp d1)) (hts : T ts = some its) (hsts : its.size = 1)
    (hs : smallH h = true) (hs2 : smallI (idsF (l.filter fun p => p.1 != d0)) = true) (hs3 : smallI (idsH h) = true) (hbs : b < 1000) (hbd : b ≠ d1) (hne : d0 ≠ d1 ∧ d0 ≠ d2 ∧ d1 ≠ d2 ∧ dz ≠ d1 ∧ dix ≠ d1)
    (hx : fr l d0 = .own (inm b j)) (hz : fr l dz = .own b) {q0 : Int} (hix : fr l dix = .int kk q0) (hjq : q0 = (j : Int)) (hj : j < xss.length)
    (hyn : ∀ v, (ASt.mk (fr l) (hpGet (two ((b, .obx eo (rowsC b xss.length)) :: h) (rowsL b ei τ xss))) g).ev y ≠ .cv v)
    (hyi : ((ASt.mk (fr l) (hpGet (two ((b, .obx eo (rowsC b xss.length)) :: h) (rowsL b ei τ xss))) g).ev y).ids.contains (inm b j) = false) (hyd : ((ASt.mk (fr l) (hpGet (two ((b, .obx eo (rowsC b xss.length)) :: h) (rowsL b ei τ xss))) g).ev y).ids.contains d1 = false)
    (hy : listOf (ASt.mk (fr l) (hpGet (two ((b, .obx eo (rowsC b xss.length)) :: h) (rowsL b ei τ xss))) g) ((ASt.mk (fr l) (hpGet (two ((b, .obx eo (rowsC b xss.length)) :: h) (rowsL b ei τ xss))) g).ev y) = some ⟨τ, zs⟩)
    (hby : ((xss.getD j []).length + zs.length) * ie.bytes ≤ 140737488355328) (hmx : (xss.getD j []).length + zs.length ≤ maxLen)
    (h2 : AO P ro n ops rs Q ⟨fr ((d2, .ap b 1 j 0) :: (d1, .un) :: (d0, .un) :: cleanF [d1] (l.filter fun p => p.1 != d0)), hpGet (two ((b, .obx eo (rowsC b (xss.set j (xss.getD j [] ++ zs)).length)) :: cleanH [d1] h) (rowsL b ei τ (xss.set j (xss.getD j [] ++ zs)))), g⟩) :
    AO P ro n ops (o :: o2 :: o3 :: rs) Q ⟨fr l, hpGet (two ((b, .obx eo (rowsC b xss.length)) :: h) (rowsL b ei τ xss)), g⟩ := by
  subst hjq
  obtain ⟨n1, n2, n3, n4, n5⟩ := hne
  rw [List.length_set] at h2
  generalize hS : (ASt.mk (fr l) (hpGet (two ((b, .obx eo (rowsC b xss.length)) :: h) (rowsL b ei τ xss))) g) = S at hyn hyi hyd hy ⊢
  have hSσ : S.σ = fr l := by rw [← hS]
  have hSH : S.H = hpGet (two ((b, .obx eo (rowsC b xss.length)) :: h) (rowsL b ei τ xss)) := by rw [← hS]
  have hbig : ∀ q, 1000000 ≤ inm b q := inm_big b
  have hHb : S.H b = some (.obx eo (rowsC b xss.length)) := by
    rw [hSH, hpGet_two_lit (by omega), hp_cons, if_pos rfl]
  have hs1 : smallH ((b, ABlk.obx eo (rowsC b xss.length)) :: h) = true := by
    rw [smallH_cons, hs]; simpa using (show b < 1000000 by omega)
  have hHj : S.H (inm b j) = some (.arr ei τ (xss.getD j [])) := by
    rw [hSH]; exact hpGet_two_at hs1 hj
  generalize hE : ({ v := .own d1, kill := [inm b j, d1], hp := [(d1, .arr ei τ (xss.getD j [] ++ zs))] } : Eff) = E
  have hEk : E.kill = [inm b j, d1] := by rw [← hE]
  have hEh : E.hp = [(d1, .arr ei τ (xss.getD j [] ++ zs))] := by rw [← hE]
  have hEv : E.v = .own d1 := by rw [← hE]
  have hs1σ : ∀ q, (S.app (some d1) E).σ q = if q = d1 then .own d1 else (fr l q).clean [inm b j, d1] := fun q => by
    show (if some d1 = some q then E.v else (S.σ q).clean E.kill) = _
    rw [hEv, hEk, hSσ]
    by_cases e : q = d1
    · subst e; simp
    · rw [if_neg (fun e9 => e (Option.some.inj e9).symm), if_neg e]
  have hs1H : ∀ q, (S.app (some d1) E).H q = if q = d1 then some (.arr ei τ (xss.getD j [] ++ zs)) else if q = inm b j then none else (S.H q).map (ABlk.clean [inm b j, d1]) := fun q => by
    rw [app_H, hEh, hEk]
    simp only [hpGet]
    by_cases e : q = d1
    · rw [if_pos e, if_pos e]
    · rw [if_neg e, if_neg e]
      by_cases e2 : q = inm b j
      · rw [if_pos e2]; simp [e2]
      · rw [if_neg e2]; simp [e, e2]
  refine AO.seg hT 1 (by simpa using hd) (S.app (some d1) E) ?_ ?_
  · show gstep P T ops S o fun e => Wk n (S.app o.dst e) (S.app (some d1) E)
    unfold gstep
    rw [hg]
    show stepOp P T S o _
    unfold stepOp
    rw [ho]
    show (match c.callee with | .builtin b => stBuiltin T S (o.dst.getD 0) b c.argTypes.toList (c.args.toList.map S.ev) _ | .value f => _ | .invoke _ _ => False)
    rw [hc]
    show stBuiltin T S (o.dst.getD 0) .append c.argTypes.toList (c.args.toList.map S.ev) _
    rw [ha, hty, hdst]
    show t = t ∧ stAppend T S d1 t (S.σ d0) (S.ev y) _
    refine ⟨rfl, ?_⟩
    rw [hSσ, hx]
    unfold stAppend
    rw [ht]
    simp only
    rw [hi]
    simp only
    rw [he]
    simp only
    rw [hdt]
    simp only
    rw [hHj]
    simp only
    refine ⟨trivial, hyi, hyd, ?_⟩
    generalize S.ev y = yv at hyn hyi hyd hy ⊢
    cases yv
    case cv v => exact absurd rfl (hyn v)
    all_goals
      simp only [hy]
      first | rw [dif_pos rfl, dif_pos rfl] | rw [dif_pos trivial, dif_pos trivial]
      refine ⟨hby, hmx, ?_⟩
      simp only [castL_rfl]
      rw [hE]
      exact Wk.refl _ _
  show AO P ro n ops (o2 :: o3 :: rs) Q (S.app (some d1) E)
  generalize hS1 : S.app (some d1) E = S1 at hs1σ hs1H ⊢
  have hbK : b ∉ ([inm b j, d1] : List Nat) := by
    have := hbig j
    simp only [List.mem_cons, List.not_mem_nil, or_false, not_or]
    exact ⟨by omega, hbd⟩
  have hS1b : S1.H b = some (.obx eo ((rowsC b xss.length).map (AVal.clean [inm b j, d1]))) := by
    rw [hs1H, if_neg hbd, if_neg (by have := hbig j; omega), hHb]; rfl
  have hS1d : S1.H d1 = some (.arr ei τ (xss.getD j [] ++ zs)) := by rw [hs1H, if_pos rfl]
  refine AO.rowsAddr (σ := S1.σ) (H := S1.H) (g := S1.g) hT hd2 hg2 ho2 ht2 hi2 he2 hs2' (b := b) (e' := eo) (cs := (rowsC b xss.length).map (AVal.clean [inm b j, d1])) (k := kk) (q := (j : Int)) ?_ hS1b ?_ (by omega) (by rw [List.length_map, rowsC_len]; omega) ?_
  · show S1.σ dz = _
    rw [hs1σ, if_neg n4, hz, clean_own, if_neg (by simpa using hbK)]
  · show S1.σ dix = _
    rw [hs1σ, if_neg n5, hix]
    exact clean_noids rfl _
  show AO P ro n ops (o3 :: rs) Q (S1.app o2.dst { v := .ap b 1 (j : Int).toNat 0 })
  rw [hdst2, Int.toNat_natCast]
  generalize hS2 : S1.app (some d2) { v := .ap b 1 j 0 } = S2
  have hs2σ : ∀ q, S2.σ q = if q = d2 then .ap b 1 j 0 else S1.σ q := fun q => by
    rw [← hS2]
    show (if some d2 = some q then AVal.ap b 1 j 0 else (S1.σ q).clean []) = _
    by_cases e : q = d2
    · subst e; simp
    · rw [if_neg (fun e9 => e (Option.some.inj e9).symm), if_neg e, clean_nil]
  have hs2H : ∀ q, S2.H q = S1.H q := fun q => by
    rw [← hS2, app_quiet_H ⟨rfl, rfl⟩]
  refine AO.rowsFill hT hdst3 hg3 ho3 hts hsts (s := S2) (b := b) (i := j) (d := d1) (k := xss.length) (by omega) (by omega) (Ne.symm hbd) ?_ ?_ ((hs2H b).trans hS1b) (by rw [List.length_map, rowsC_len]) hj ?_ ((hs2H d1).trans hS1d) ?_
  · show S2.σ d2 = _
    rw [hs2σ, if_pos rfl]
  · show S2.σ d1 = _
    rw [hs2σ, if_neg n3, hs1σ, if_pos rfl]
  · intro q hq hqj
    rw [List.getElem?_map, rowsC_get hq, Option.map_some, clean_own, if_neg]
    have hb1 := hbig q
    simp only [List.contains_eq_mem, decide_eq_true_eq, List.mem_cons, List.not_mem_nil, or_false, not_or]
    exact ⟨fun e => hqj (inm_inj e), by omega⟩
  refine AO.weaken (fun ds A0 L0 w0 η a w hr => ⟨η, hr.same (fun q => ?_) (fun q => ?_) ?_⟩) h2
  · show (if q = d2 then AVal.ap b 1 j 0 else if q = d1 then AVal.un else if q = d0 then AVal.un else fr (cleanF [d1] (l.filter fun p => p.1 != d0)) q) = (S2.σ q).clean ([d1] ++ [inm b j])
    rw [hs2σ]
    by_cases q2 : q = d2
    · rw [if_pos q2, if_pos q2, clean_ap, if_neg]
      have := hbig j
      simp only [List.contains_eq_mem, decide_eq_true_eq, List.mem_append, List.mem_singleton, not_or]
      exact ⟨hbd, by omega⟩
    · rw [if_neg q2, if_neg q2, hs1σ]
      by_cases q1 : q = d1
      · rw [if_pos q1, if_pos q1, clean_own, if_pos (by simp)]
      · rw [if_neg q1, if_neg q1, clean_clean]
        by_cases q0 : q = d0
        · rw [if_pos q0, q0, hx, clean_own, if_pos (by simp)]
        · rw [if_neg q0, fr_cleanF, fr_filter l d0 q q0]
          refine clean_like fun c hc => ?_
          have hsm := List.all_eq_true.1 hs2 c (idsF_fr (i := q) (by rw [fr_filter l d0 q q0]; exact mem_ids _ _ hc))
          rw [decide_eq_true_eq] at hsm
          have := hbig j
          simp only [List.mem_append, List.mem_cons, List.not_mem_nil, or_false]
          constructor
          · intro e; exact .inl (.inr e)
          · rintro ((e | e) | (e | e))
            · omega
            · exact e
            · exact e
            · omega
  · show hpGet (two ((b, .obx eo (rowsC b xss.length)) :: cleanH [d1] h) (rowsL b ei τ (xss.set j (xss.getD j [] ++ zs)))) q = (S2.app none { v := .un, kill := [d1] ++ [inm b j], hp := [(b, .obx eo (rowsC b xss.length)), (inm b j, .arr ei τ (xss.getD j [] ++ zs))] }).H q
    have hs'' : smallH ((b, ABlk.obx eo (rowsC b xss.length)) :: cleanH [d1] h) = true := by
      rw [smallH_cons, smallH_clean hs]; simpa using (show b < 1000000 by omega)
    have hbj := hbig j
    rw [app_H, two_set hs'' hj]
    show _ = match hpGet [(b, ABlk.obx eo (rowsC b xss.length)), (inm b j, ABlk.arr ei τ (xss.getD j [] ++ zs))] q with | some B => some B | none => if ([d1] ++ [inm b j]).contains q then none else (S2.H q).map (ABlk.clean ([d1] ++ [inm b j]))
    rw [hp_cons, hp_cons]
    by_cases ec : q = b
    · rw [if_pos ec, if_neg (by omega), ec, hpGet_two_lit (by omega), hp_cons, if_pos rfl]
    · rw [if_neg ec]
      by_cases ej : q = inm b j
      · rw [if_pos ej, if_pos ej]
      · rw [if_neg ej, if_neg ej]
        show _ = if ([d1] ++ [inm b j]).contains q then none else (S2.H q).map (ABlk.clean ([d1] ++ [inm b j]))
        rw [hs2H, hs1H, if_neg ej]
        by_cases e1 : q = d1
        · rw [if_pos (by simp [e1]), e1, hpGet_two_lit (by omega), hp_cons, if_neg (Ne.symm hbd), hp_cleanH, if_pos (by simp)]
        · rw [if_neg (by simp [e1, ej]), if_neg e1, hSH, Option.map_map]
          by_cases hc : q < 1000000
          · rw [hpGet_two_lit hc, hpGet_two_lit hc, hp_cons, hp_cons, if_neg ec, if_neg ec, hp_cleanH, if_neg (by simpa using e1)]
            cases hh : hpGet h q with
            | none => rfl
            | some B =>
              simp only [Option.map_some, Function.comp]
              rw [bclean_clean]
              congr 1
              refine bclean_like (h := h) (fun c hcc => ?_) hh
              have hsm := List.all_eq_true.1 hs3 c hcc
              rw [decide_eq_true_eq] at hsm
              simp only [List.mem_append, List.mem_cons, List.not_mem_nil, or_false]
              constructor
              · intro e; exact .inl (.inr e)
              · rintro ((e | e) | (e | e))
                · omega
                · exact e
                · exact e
                · omega
          · unfold two
            rw [hpGet_two_big hs'' (by omega), hpGet_two_big hs1 (by omega)]
            cases hh : hpGet (rowsL b ei τ xss) q with
            | none => rfl
            | some B =>
              obtain ⟨r, hr', _, rfl⟩ := hpGet_rows hh
              rfl
  · show g = S2.g
    rw [← hS2, ← hS1, ← hS]
    rfl

/-- A call that is handed a row of rows of rows, and gives it back, other than it was (slices.Sort). -/
theorem AO.rowsCall (hT : TabOK P T) {d : Nat} {c : Call} {f x : Operand} {gf : FuncId} {b j : Nat} {ei : TypeId} {k : IntKind} {xss : List (List (El (.int k)))} {ys : List (El (.int k))} (hdst : o.dst = some d) (hd : dstOK n [o] = true) (hg : o.guard = none) (ho : o.op = .call c) (hc : c.callee = .value f) (ha : c.args = #[x])
    (hf : (ASt.mk (fr l) (hpGet (two h (rowsL b ei (.int k) xss))) g).ev f = .fn (.func gf) [] []) (hx : (ASt.mk (fr l) (hpGet (two h (rowsL b ei (.int k) xss))) g).ev x = .own (inm b j)) (hj : j < xss.length) (hs : smallH h = true)
    (hcon : HC P gf [(1000, .arr ei (.int k) (xss.getD j []))] [.own 1000] [(1000, .arr ei (.int k) ys)] (.tup []))
    (h2 : AO P ro n ops rs Q ⟨fr ((d, .tup []) :: l), hpGet (two h (rowsL b ei (.int k) (xss.set j ys))), g⟩) :
    AO P ro n ops (o :: rs) Q ⟨fr l, hpGet (two h (rowsL b ei (.int k) xss)), g⟩ := by
  have hHj : hpGet (two h (rowsL b ei (.int k) xss)) (inm b j) = some (.arr ei (.int k) (xss.getD j [])) := hpGet_two_at hs hj
  refine AO.seg hT 1 (by simpa using hd) _ ?_ h2
  show gstep P T ops _ o fun e => Wk n ((ASt.mk (fr l) (hpGet (two h (rowsL b ei (.int k) xss))) g).app o.dst e) _
  unfold gstep
  rw [hg]
  refine stepCall ho hc hf [] [(1000, inm b j)] hcon ?_ ?_ ?_ ?_
  · rw [ha]
    show callOK _ [] _ _ _ _ [(ASt.mk (fr l) (hpGet (two h (rowsL b ei (.int k) xss))) g).ev x] = true
    rw [hx]
    rfl
  · rw [ha]
    show LeL _ [] [] _ [(ASt.mk (fr l) (hpGet (two h (rowsL b ei (.int k) xss))) g).ev x] _
    rw [hx]
    exact ⟨⟨rfl, rfl⟩, trivial⟩
  · refine ⟨?_, trivial⟩
    rw [if_neg (by simp)]
    show (match hpGet (two h (rowsL b ei (.int k) xss)) (inm b j) with | some B0 => LeB _ [] [] _ B0 _ | none => False)
    rw [hHj]
    exact ⟨rfl, by rw [dif_pos rfl, castL_rfl]⟩
  · intro ds A0 L0 w0 η a w hr
    refine ⟨η, hr.same (fun q => ?_) (fun q => ?_) rfl⟩
    · rw [hdst]
      show (if q = d then AVal.tup [] else fr l q) = (if some d = some q then AVal.tup [] else (fr l q).clean [])
      by_cases e : q = d
      · subst e; simp
      · rw [if_neg e, if_neg (fun e9 => e (Option.some.inj e9).symm), clean_nil]
    · show hpGet (two h (rowsL b ei (.int k) (xss.set j ys))) q = match hpGet [(inm b j, ABlk.arr ei (.int k) ys)] q with | some B => some B | none => if ([] : List Nat).contains q then none else (hpGet (two h (rowsL b ei (.int k) xss)) q).map (ABlk.clean [])
      rw [two_set hs hj, hp_cons]
      by_cases e1 : q = inm b j
      · rw [if_pos e1, if_pos e1]
      · rw [if_neg e1, if_neg e1]
        show _ = (hpGet (two h (rowsL b ei (.int k) xss)) q).map (ABlk.clean [])
        cases hpGet (two h (rowsL b ei (.int k) xss)) q with
        | none => rfl
        | some B => simp [bclean_nil]

end

end Go.Proofs.YtcckpmeepcoafaaDoor
