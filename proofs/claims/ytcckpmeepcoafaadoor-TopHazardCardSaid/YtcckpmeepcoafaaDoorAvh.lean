/-
  The abstract machine: rows of rows come to rest. No program is named here.
-/
import Derived.Test.YtcckpmeepcoafaaDoorAvg
namespace Go.Proofs.YtcckpmeepcoafaaDoor
open Go.RowKit

set_option linter.constructorNameAsVariable false
set_option linter.unusedSimpArgs false
set_option linter.unusedVariables false

theorem put_self {a : Act} {i : Nat} (hi : i < a.tmps.size) : a.put (some i) (a.tmps.getD i undef) = a := by
  have : a.tmps.setIfInBounds i (a.tmps.getD i undef) = a.tmps := by
    apply Array.ext
    · simp
    · intro j h1 h2
      by_cases e : i = j
      · subst e; simp [Array.getD, h2]
      · rw [Array.getElem_setIfInBounds_ne (by simpa using h1) e]
  show { a with tmps := a.tmps.setIfInBounds i (a.tmps.getD i undef) } = a
  rw [this]

section
variable {n : Nat} {g : Gh} {l : List (Nat × AVal)} {h : List (Nat × ABlk)}

/-- Rows of rows that nobody writes any more are data. -/
theorem Wk.rowsRest {b i0 : Nat} {eo ei : TypeId} {τ : Ty} {xss : List (List (El τ))} (hs : smallH h = true) (hs2 : smallI (idsF l) = true) (hs3 : smallI (idsH h) = true) (hbs : b < 1000000) (hi0 : i0 < n) (hv : fr l i0 = .own b) :
    Wk n ⟨fr l, hpGet (two ((b, .obx eo (rowsC b xss.length)) :: h) (rowsL b ei τ xss)), g⟩ ⟨fr ((i0, .sl (.sl τ) xss) :: cleanF [b] l), hpGet (cleanH [b] h), g⟩ := by
  intro ds A0 L0 w0 η a w hr
  refine ⟨η, ?_⟩
  have hs' : smallH ((b, ABlk.obx eo (rowsC b xss.length)) :: h) = true := by rw [smallH_cons, hs]; simpa using hbs
  have hHb : hpGet (two ((b, .obx eo (rowsC b xss.length)) :: h) (rowsL b ei τ xss)) b = some (.obx eo (rowsC b xss.length)) := by
    rw [hpGet_two_lit hbs, hp_cons, if_pos rfl]
  have hHi : ∀ j, j < xss.length → hpGet (two ((b, .obx eo (rowsC b xss.length)) :: h) (rowsL b ei τ xss)) (inm b j) = some (.arr ei τ (xss.getD j [])) := fun j hj => hpGet_two_at hs' hj
  have hval := hr.tmp i0
  have hval' : a.tmps.getD i0 undef = η b := by
    have e1 : (ASt.mk (fr l) (hpGet (two ((b, .obx eo (rowsC b xss.length)) :: h) (rowsL b ei τ xss))) g).σ i0 = .own b := hv
    rw [e1] at hval
    unfold RepV at hval
    exact hval
  have hkill : ∀ c, ([b] ++ inms b xss.length).contains c = true ↔ (c = b ∨ ∃ j, j < xss.length ∧ c = inm b j) := fun c => by
    simp only [List.contains_eq_mem, decide_eq_true_eq, List.mem_append, List.mem_singleton, inms_mem]
  have hdead : ∀ c B g', (c = b ∨ ∃ j, j < xss.length ∧ c = inm b j) → hpGet (two ((b, .obx eo (rowsC b xss.length)) :: h) (rowsL b ei τ xss)) c = some B → B.mut = true → hblk (η c) = some g' →
      ¬ Av A0 η ((ASt.mk (fr l) (hpGet (two ((b, .obx eo (rowsC b xss.length)) :: h) (rowsL b ei τ xss))) g).app (some i0) { v := .sl (.sl τ) xss, kill := [b] ++ inms b xss.length, hp := [] }).H g' := by
    intro c B g' hc hB hm hg
    rintro (hA | ⟨b', B', k1, k2, k3⟩)
    · exact (hr.hp.av g' hA).2 ⟨c, B, hB, hm, hg⟩
    · rw [app_H] at k1
      simp only [hpGet] at k1
      cases hk : ([b] ++ inms b xss.length).contains b' with
      | true => rw [hk] at k1; simp at k1
      | false =>
        rw [hk] at k1
        simp only [Bool.false_eq_true, if_false] at k1
        obtain ⟨B0, h1, h2⟩ := Option.map_eq_some_iff.1 k1
        have e1 := hr.hp.inj b' c B0 B g' h1 hB (by rw [← h2, ABlk.mut_clean] at k2; exact k2) hm k3 hg
        subst e1
        rw [(hkill b').2 hc] at hk; cases hk
  have hrel : Rel n ds A0 L0 w0 η ((ASt.mk (fr l) (hpGet (two ((b, .obx eo (rowsC b xss.length)) :: h) (rowsL b ei τ xss))) g).app (some i0) { v := .sl (.sl τ) xss, kill := [b] ++ inms b xss.length, hp := [] }) (a.put (some i0) (a.tmps.getD i0 undef)) w := by
    refine hr.effN (fun _ => False) (fun i hi => by injection hi with hi; omega) (fun _ _ => rfl) ⟨rfl, rfl, rfl⟩ (Nat.le_refl _) (fun g hg => .inl rfl) ?_ ?_ ?_ ?_ ?_ ?_ ?_
    · intro c B g' hc; simp [hpGet] at hc
    · intro c c2 B B' g' h1; exact h1.elim
    · intro c hc hc2; simp [hpGet] at hc2
    · intro c hc; exact hc.elim
    · intro c hc hc2; simp [hpGet] at hc2
    · intro k c B hc; simp [hpGet] at hc
    · intro k
      rw [hval']
      generalize hAA : Av A0 η ((ASt.mk (fr l) (hpGet (two ((b, .obx eo (rowsC b xss.length)) :: h) (rowsL b ei τ xss))) g).app (some i0) { v := .sl (.sl τ) xss, kill := [b] ++ inms b xss.length, hp := [] }).H = AA at k hdead ⊢
      unfold RepV
      rcases hr.hp.blk b _ hHb with ⟨e1, e2⟩ | ⟨gg, cap, vs, e1, e2, e3, e4, e5, e6⟩
      · have hz : xss.length = 0 := by rw [← rowsC_len b xss.length, e1]; rfl
        exact ⟨none, 0, by rw [e2, hz], by omega, by simp [maxLen], fun hp => by omega⟩
      · rw [rowsC_len] at e1 e3
        refine ⟨some ⟨gg, 0, none⟩, cap, e1, e3, e4, fun _ => ⟨gg, 0, rfl, (Array.getElem?_eq_some_iff.1 e2).1, hdead b _ gg (.inl rfl) hHb rfl (by rw [e1]; rfl), fun j x hj => ?_⟩⟩
        have hjl : j < xss.length := (List.getElem?_eq_some_iff.1 hj).1
        obtain ⟨v, hv1, hv2⟩ := RepVs.get e6 (rowsC_get (b := b) hjl)
        rw [rowsC_len, List.getElem?_take_of_lt hjl] at hv1
        unfold RepV at hv2
        have hx : xss.getD j [] = x := by simp [List.getD, hj]
        have hrow := hHi j hjl
        rw [hx] at hrow
        obtain ⟨ad, c, r1, r2⟩ := rested hr.hp (w' := w) (A' := AA) (b := inm b j) (.inl hrow) k (fun g' _ hg' => ⟨rfl, hdead _ _ g' (.inr ⟨j, hjl, rfl⟩) hrow rfl hg'⟩)
        unfold RepAt
        refine ⟨ad, c, ?_, r2⟩
        have e7 : vs[j]? = some v := by simpa using hv1
        have e8 : (0 + j * (Ty.sl τ).size) = j := by show 0 + j * 1 = j; omega
        rw [e8]
        simp [World.cell?, e2, e7, hv2, r1]
  rw [put_self (by rw [hr.size]; exact hi0)] at hrel
  refine hrel.same (fun q => ?_) (fun c => ?_) rfl
  · show (if q = i0 then AVal.sl (.sl τ) xss else fr (cleanF [b] l) q) = (if some i0 = some q then AVal.sl (.sl τ) xss else (fr l q).clean ([b] ++ inms b xss.length))
    by_cases e : q = i0
    · subst e; simp
    · rw [if_neg e, if_neg (by simpa using Ne.symm e), fr_cleanF, clean_extra (fr_ids (smallI_not hs2 (inms_big _ _)) q)]
  · rw [app_H]
    show hpGet (cleanH [b] h) c = if ([b] ++ inms b xss.length).contains c then none else (hpGet (two ((b, .obx eo (rowsC b xss.length)) :: h) (rowsL b ei τ xss)) c).map (ABlk.clean ([b] ++ inms b xss.length))
    rw [hp_cleanH]
    cases hk : ([b] ++ inms b xss.length).contains c with
    | true =>
      simp only [if_true]
      rcases (hkill c).1 hk with e | ⟨j, _, e⟩
      · subst e; simp
      · subst e
        split
        · rfl
        · rw [hpGet_small hs (inm_big b j)]; rfl
    | false =>
      have hc := mt (hkill c).2 (by rw [hk]; simp)
      have hcb : c ≠ b := fun e => hc (.inl e)
      have k1 : ([b] : List Nat).contains c = false := by simpa using hcb
      rw [k1]
      simp only [Bool.false_eq_true, if_false]
      by_cases hcs : c < 1000000
      · rw [hpGet_two_lit hcs, hp_cons, if_neg hcb]
        cases hh : hpGet h c with
        | none => rfl
        | some B => simp only [Option.map_some]; rw [bclean_extra (smallI_not hs3 (inms_big _ _)) hh]
      · unfold two
        rw [hpGet_two_big hs' (by omega), hpGet_small hs (by omega), hpGet_rows_none fun j hj e => hc (.inr ⟨j, hj, e⟩)]
        rfl

end
end Go.Proofs.YtcckpmeepcoafaaDoor
