/-
  The abstract machine, 11: calls; one operation. No program is named here.
-/
import Derived.Test.YtcijihofjcfpoabAvw
namespace Go.Proofs.Ytcijihofjcfpoab
open Go.RowKit

set_option linter.constructorNameAsVariable false

theorem hpGet_app : ∀ (h k : List (Nat × ABlk)) (b : Nat), hpGet (h ++ k) b = match hpGet h b with | some B => some B | none => hpGet k b
  | [], k, b => rfl
  | (c, B) :: r, k, b => by
    show (if b = c then some B else hpGet (r ++ k) b) = match (if b = c then some B else hpGet r b) with | some B => some B | none => hpGet k b
    split
    · rfl
    · exact hpGet_app r k b

theorem handedH_get : ∀ {h : List (Nat × ABlk)}, handedH h = true → ∀ {c B}, hpGet h c = some B → handed c
  | [], _, c, B, hg => by cases hg
  | (c0, B0) :: r, h, c, B, hg => by
    simp only [handedH, Bool.and_eq_true, decide_eq_true_eq] at h
    unfold hpGet at hg
    split at hg
    · rename_i e; subst e; exact h.1
    · exact handedH_get h.2 hg

theorem mutH_get : ∀ {h : List (Nat × ABlk)}, mutH h = true → ∀ {c B}, hpGet h c = some B → B.mut = true
  | [], _, c, B, hg => by cases hg
  | (c0, B0) :: r, h, c, B, hg => by
    simp only [mutH, Bool.and_eq_true] at h
    unfold hpGet at hg
    split at hg
    · injection hg with hg; subst hg; exact h.1
    · exact mutH_get h.2 hg

theorem goodH_get {hin : List (Nat × ABlk)} : ∀ {h : List (Nat × ABlk)}, goodH hin h = true → ∀ {c B}, hpGet h c = some B → hasKey hin c = true ∨ (2000 ≤ c ∧ c < 3000)
  | [], _, c, B, hg => by cases hg
  | (c0, B0) :: r, h, c, B, hg => by
    simp only [goodH, Bool.and_eq_true, Bool.or_eq_true, decide_eq_true_eq] at h
    unfold hpGet at hg
    split at hg
    · rename_i e; subst e; exact h.1.2
    · exact goodH_get h.2 hg

theorem goodH_mem {hin : List (Nat × ABlk)} : ∀ {h : List (Nat × ABlk)}, goodH hin h = true → ∀ {c B}, (c, B) ∈ h → hpGet h c = some B
  | [], _, c, B, hm => by simp at hm
  | (c0, B0) :: r, h, c, B, hm => by
    simp only [goodH, Bool.and_eq_true, Bool.not_eq_true'] at h
    unfold hpGet
    rcases List.mem_cons.1 hm with e | hm
    · injection e with e1 e2; subst e1 e2; rw [if_pos rfl]
    · have := goodH_mem h.2 hm
      rw [if_neg ?_]
      · exact this
      · rintro rfl
        have h2 := hasKey_get.2 ⟨B, this⟩
        rw [h.1.1] at h2; cases h2

theorem renH_get (f : Nat → Nat) : ∀ {h : List (Nat × ABlk)} {b : Nat} {B : ABlk}, hpGet (renH f h) b = some B → ∃ c B0, (c, B0) ∈ h ∧ b = f c ∧ B = B0.ren f
  | [], b, B, hg => by cases hg
  | (c0, B0) :: r, b, B, hg => by
    unfold renH hpGet at hg
    split at hg
    · rename_i e; injection hg with hg; exact ⟨c0, B0, List.mem_cons_self, e, hg.symm⟩
    · obtain ⟨c, B1, h1, h2, h3⟩ := renH_get f hg
      exact ⟨c, B1, List.mem_cons_of_mem _ h1, h2, h3⟩

theorem renH_has (f : Nat → Nat) : ∀ {h : List (Nat × ABlk)} {c : Nat}, hasKey h c = true → (hpGet (renH f h) (f c)).isSome = true
  | [], c, hk => by cases hk
  | (c0, B0) :: r, c, hk => by
    unfold hasKey at hk
    unfold renH hpGet
    split
    · rfl
    · rename_i hne
      refine renH_has f ?_
      rcases Bool.or_eq_true _ _ ▸ hk with e | e
      · have := beq_iff_eq.1 e; subst this; exact absurd rfl hne
      · exact e

theorem lostH_mem (rn : List (Nat × Nat)) (hout : List (Nat × ABlk)) : ∀ {h : List (Nat × ABlk)} {b : Nat}, (lostH rn hout h).contains b = true ↔ ∃ c, hasKey h c = true ∧ hasKey hout c = false ∧ look rn c = b
  | [], b => by simp [lostH, hasKey]
  | (c0, B0) :: r, b => by
    have ih := lostH_mem rn hout (h := r) (b := b)
    unfold lostH
    cases hk : hasKey hout c0 with
    | true =>
      rw [if_pos rfl, ih]
      constructor
      · rintro ⟨c, h1, h2, h3⟩; exact ⟨c, by simp [hasKey, h1], h2, h3⟩
      · rintro ⟨c, h1, h2, h3⟩
        refine ⟨c, ?_, h2, h3⟩
        unfold hasKey at h1
        rcases Bool.or_eq_true _ _ ▸ h1 with e | e
        · have := beq_iff_eq.1 e; subst this; rw [hk] at h2; cases h2
        · exact e
    | false =>
      rw [if_neg (by simp), List.contains_cons, Bool.or_eq_true, ih]
      constructor
      · rintro (e | ⟨c, h1, h2, h3⟩)
        · exact ⟨c0, by simp [hasKey], hk, (beq_iff_eq.1 e).symm⟩
        · exact ⟨c, by simp [hasKey, h1], h2, h3⟩
      · rintro ⟨c, h1, h2, h3⟩
        unfold hasKey at h1
        rcases Bool.or_eq_true _ _ ▸ h1 with e | e
        · have := beq_iff_eq.1 e; subst this; exact .inl (beq_iff_eq.2 h3.symm)
        · exact .inr ⟨c, e, h2, h3⟩

theorem newH_mem (d : Nat) (hin : List (Nat × ABlk)) : ∀ {h : List (Nat × ABlk)} {b : Nat}, (newH d hin h).contains b = true ↔ ∃ c, hasKey h c = true ∧ hasKey hin c = false ∧ fresh d c = b
  | [], b => by simp [newH, hasKey]
  | (c0, B0) :: r, b => by
    have ih := newH_mem d hin (h := r) (b := b)
    unfold newH
    cases hk : hasKey hin c0 with
    | true =>
      rw [if_pos rfl, ih]
      constructor
      · rintro ⟨c, h1, h2, h3⟩; exact ⟨c, by simp [hasKey, h1], h2, h3⟩
      · rintro ⟨c, h1, h2, h3⟩
        refine ⟨c, ?_, h2, h3⟩
        unfold hasKey at h1
        rcases Bool.or_eq_true _ _ ▸ h1 with e | e
        · have := beq_iff_eq.1 e; subst this; rw [hk] at h2; cases h2
        · exact e
    | false =>
      rw [if_neg (by simp), List.contains_cons, Bool.or_eq_true, ih]
      constructor
      · rintro (e | ⟨c, h1, h2, h3⟩)
        · exact ⟨c0, by simp [hasKey], hk, (beq_iff_eq.1 e).symm⟩
        · exact ⟨c, by simp [hasKey, h1], h2, h3⟩
      · rintro ⟨c, h1, h2, h3⟩
        unfold hasKey at h1
        rcases Bool.or_eq_true _ _ ▸ h1 with e | e
        · have := beq_iff_eq.1 e; subst this; exact .inl (beq_iff_eq.2 h3.symm)
        · exact .inr ⟨c, e, h2, h3⟩

theorem rnOK_inj {rn : List (Nat × Nat)} : ∀ {h : List (Nat × ABlk)}, callOK.rnOK rn h = true → ∀ {c c' B B'}, hpGet h c = some B → hpGet h c' = some B' → look rn c = look rn c' → c = c'
  | [], _, c, c', B, B', hg, _, _ => by cases hg
  | (c0, B0) :: r, h, c, c', B, B', hg, hg', he => by
    simp only [callOK.rnOK, Bool.and_eq_true] at h
    have key : ∀ c1 B1, hpGet r c1 = some B1 → look rn c1 ≠ look rn c0 := fun c1 B1 h1 => by
      have := List.all_eq_true.1 h.1.2 _ (hpGet_mem h1)
      simpa using this
    unfold hpGet at hg hg'
    split at hg
    · rename_i e
      subst e
      split at hg'
      · rename_i e'; exact e'.symm
      · exact absurd he.symm (key c' B' hg')
    · split at hg'
      · rename_i e'
        subst e'
        exact absurd he (key c B hg)
      · exact rnOK_inj h.2 hg hg' he

theorem idsH_get : ∀ {h : List (Nat × ABlk)} {c : Nat} {ty : TypeId} {cs : List AVal}, (c, ABlk.box ty cs) ∈ h → ∀ b ∈ AVal.idsL cs, b ∈ idsH h
  | [], c, ty, cs, hm, b, hb => by simp at hm
  | (c0, B0) :: r, c, ty, cs, hm, b, hb => by
    rcases List.mem_cons.1 hm with e | hm
    · injection e with e1 e2
      subst e2
      unfold idsH
      exact List.mem_append_left _ hb
    · have := idsH_get hm b hb
      cases B0 <;> unfold idsH
      · exact List.mem_append_right _ this
      · exact this
      · exact this
      · exact this

theorem dryH_get : ∀ {h : List (Nat × ABlk)}, dryH h = true → ∀ {c B}, (c, B) ∈ h → B.dry = true
  | [], _, c, B, hm => by simp at hm
  | (c0, B0) :: r, h, c, B, hm => by
    simp only [dryH, Bool.and_eq_true] at h
    rcases List.mem_cons.1 hm with e | hm
    · injection e with e1 e2; subst e2; exact h.1
    · exact dryH_get h.2 hm

section
variable {P : Program} {T : Tab} {n : Nat} {ds : List Deferred} {A0 L0 : Nat → Prop} {w0 : Old} {η : Nat → Value} {s : ASt} {a : Act} {w : World}

theorem Rel.av_lt (h : Rel n ds A0 L0 w0 η s a w) {g : Nat} (hg : Av A0 η s.H g) : g < w.heap.size := by
  rcases hg with hg | hg
  · exact (h.hp.av g hg).1
  · exact Live.lt h.hp hg

/-- The handles behind a call. -/
def callη (η η2 : Nat → Value) (d : Nat) (hin hout : List (Nat × ABlk)) (b : Nat) : Value := if (newH d hin hout).contains b = true then η2 (b - (10000 + 1000 * d) + 2000) else η b

/-- A call under its contract. -/
theorem call_rel (h : Rel n ds A0 L0 w0 η s a w) {d : Option Nat} (hd : ∀ i, d = some i → i < n) {g : FuncId} {dn : Nat} {D : List Nat} {rn : List (Nat × Nat)} {hin hout : List (Nat × ABlk)} {xs l : List AVal} {r : AVal} {vs : Array Value}
    (hl : RepVs η w (Av A0 η s.H) xs vs.toList) (hp : HC P g hin l hout r) (hok : callOK dn D rn hin hout r xs = true) (hle : LeL s.H D [] (look rn) xs l) (hlh : LeH s.H D [] (look rn) hin) {K : Eff → Prop}
    (hK : K { v := r.ren (back dn rn hin), kill := lostH rn hout hin ++ newH dn hin hout, hp := renH (back dn rn hin) hout ++ (if (r.dry && dryH hout) = true then [] else rest s.H D) }) :
    Calls P g vs w fun e w' => ∃ v, e = .returned v ∧ ∃ ef η', K ef ∧ Rel n ds A0 L0 w0 η' (s.app d ef) (a.put d v) w' := by
  unfold callOK at hok
  simp only [Bool.and_eq_true] at hok
  obtain ⟨⟨⟨⟨⟨⟨⟨⟨k1, k2⟩, k3⟩, k4⟩, _⟩, k6⟩, k7⟩, k8⟩, k9⟩ := hok
  have hNi : NamesIn (look rn) D [] hin := by
    refine ⟨fun c B hg _ _ => ?_, fun c c' B B' hg hg' _ _ he => rnOK_inj k8 hg hg' he⟩
    have := List.all_eq_true.1 k7 _ (hpGet_mem hg)
    simpa using this
  obtain ⟨A1, hA1⟩ : ∃ A1 : Nat → Prop, A1 = fun q => Av A0 η s.H q ∧ (¬ ∃ b e t xs, s.H b = some (.arr e t xs) ∧ D.contains b = true ∧ hblk (η b) = some q) ∧ ¬ Live (newη η [] (look rn)) (hpGet hin) q := ⟨_, rfl⟩
  have hA1' : ∀ q, A1 q ↔ Av A0 η s.H q ∧ (¬ ∃ b e t xs, s.H b = some (.arr e t xs) ∧ D.contains b = true ∧ hblk (η b) = some q) ∧ ¬ Live (newη η [] (look rn)) (hpGet hin) q := fun q => by rw [hA1]
  obtain ⟨r1, r2, r3⟩ := le_rel (A1 := A1) h.hp hNi hlh (fun q hq => h.av_lt ((hA1' q).1 hq).1) (fun q hq => ((hA1' q).1 hq).1) (fun q b e t ys hq hb hD hg => ((hA1' q).1 hq).2.1 ⟨b, e, t, ys, hb, hD, hg⟩) (fun q hq => ((hA1' q).1 hq).2.2)
  have hη1 : ∀ c, newη η [] (look rn) c = η (look rn c) := fun c => by unfold newη; simp
  refine (hp.2 _ A1 w vs r1 (r3 xs l _ hle hl)).mono ?_
  rintro e w' ⟨v, η2, rfl, hG⟩
  refine ⟨v, rfl, _, callη η η2 dn hin hout, hK, ?_⟩
  -- names and handles behind
  have hfresh : ∀ c, 2000 ≤ c → c < 3000 → fresh dn c - (10000 + 1000 * dn) + 2000 = c := fun c h1 h2 => by unfold fresh; omega
  have hnewη : ∀ c, hasKey hout c = true → hasKey hin c = false → callη η η2 dn hin hout (fresh dn c) = η2 c := by
    intro c h1 h2
    have hc : (newH dn hin hout).contains (fresh dn c) = true := (newH_mem _ _).2 ⟨c, h1, h2, rfl⟩
    obtain ⟨B, hB⟩ := hasKey_get.1 h1
    rcases goodH_get k4 hB with h3 | ⟨h3, h4⟩
    · rw [h2] at h3; cases h3
    · unfold callη
      rw [if_pos hc, hfresh c h3 h4]
  have holdη : ∀ c, hasKey hin c = true → callη η η2 dn hin hout (look rn c) = η (look rn c) := by
    intro c h1
    obtain ⟨B, hB⟩ := hasKey_get.1 h1
    have := List.all_eq_true.1 k9 _ (hpGet_mem hB)
    simp only [Bool.not_eq_true'] at this
    unfold callη
    rw [this]; simp
  have hbackη : ∀ c, hasKey hout c = true → callη η η2 dn hin hout (back dn rn hin c) = η2 c := by
    intro c h1
    unfold back
    cases h2 : hasKey hin c with
    | true =>
      rw [if_pos rfl, holdη c h2, ← hη1]
      obtain ⟨B, hB⟩ := hasKey_get.1 h2
      exact (hG.hd c (handedH_get k1 hB) h1).symm
    | false => rw [if_neg (by simp)]; exact hnewη c h1 h2
  have hgetr : ∀ b B, hpGet (renH (back dn rn hin) hout) b = some B → ∃ c B0, hpGet hout c = some B0 ∧ b = back dn rn hin c ∧ B = B0.ren (back dn rn hin) := by
    intro b B hb
    obtain ⟨c, B0, h1, h2, h3⟩ := renH_get _ hb
    exact ⟨c, B0, goodH_mem k4 h1, h2, h3⟩
  have hrest : ∀ b B, hpGet (if (r.dry && dryH hout) = true then [] else rest s.H D) b = some B → ∃ e t xs, s.H b = some (.arr e t xs) ∧ B = .imm t xs ∧ b ∈ D ∧ (r.dry && dryH hout) = false := by
    intro b B hb
    split at hb
    · cases hb
    · rename_i hc
      obtain ⟨e, t, ys, h1, h2, h3⟩ := hpGet_rest _ _ _ _ hb
      exact ⟨e, t, ys, h1, h2, h3, by simpa using hc⟩
  have hget : ∀ b B, hpGet (renH (back dn rn hin) hout ++ (if (r.dry && dryH hout) = true then [] else rest s.H D)) b = some B →
      (∃ c B0, hpGet hout c = some B0 ∧ b = back dn rn hin c ∧ B = B0.ren (back dn rn hin)) ∨ (∃ e t xs, s.H b = some (.arr e t xs) ∧ B = .imm t xs ∧ b ∈ D ∧ (r.dry && dryH hout) = false ∧ hpGet (renH (back dn rn hin) hout) b = none) := by
    intro b B hb
    rw [hpGet_app] at hb
    cases hg : hpGet (renH (back dn rn hin) hout) b with
    | some B' => rw [hg] at hb; injection hb with hb; subst hb; exact .inl (hgetr b _ hg)
    | none => rw [hg] at hb; obtain ⟨e, t, ys, z1, z2, z3, z4⟩ := hrest b B hb; exact .inr ⟨e, t, ys, z1, z2, z3, z4, rfl⟩
  have hsome : ∀ c, hasKey hout c = true → (hpGet (renH (back dn rn hin) hout ++ (if (r.dry && dryH hout) = true then [] else rest s.H D)) (back dn rn hin c)).isSome = true := by
    intro c hc
    have := renH_has (back dn rn hin) hc
    rw [hpGet_app]
    obtain ⟨B, hB⟩ := Option.isSome_iff_exists.1 this
    rw [hB]; rfl
  have hliveIn : ∀ q, Live (newη η [] (look rn)) (hpGet hin) q → ∃ c B0, hasKey hin c = true ∧ s.H (look rn c) = some B0 ∧ B0.mut = true ∧ hblk (η (look rn c)) = some q := by
    intro q hq
    obtain ⟨c, B, B0, j1, _, j2, j3, _, j4⟩ := le_live hlh hq
    exact ⟨c, B0, hasKey_get.2 ⟨B, j1⟩, j2, j3, j4⟩
  have hnotD : ∀ c, hasKey hin c = true → D.contains (look rn c) = false := by
    intro c hc
    obtain ⟨B, hB⟩ := hasKey_get.1 hc
    have := List.all_eq_true.1 k7 _ (hpGet_mem hB)
    simpa using this
  have hηk : ∀ b, (lostH rn hout hin ++ newH dn hin hout).contains b = false → callη η η2 dn hin hout b = η b := by
    intro b hb
    rw [List.contains_append, Bool.or_eq_false_iff] at hb
    unfold callη
    rw [hb.2]; simp
  have hNN : ∀ b B q, hpGet (renH (back dn rn hin) hout ++ (if (r.dry && dryH hout) = true then [] else rest s.H D)) b = some B → B.mut = true → hblk (callη η η2 dn hin hout b) = some q →
      (∃ b0 B0, s.H b0 = some B0 ∧ B0.mut = true ∧ hblk (η b0) = some q ∧ (b0 = b ∨ ((newH dn hin hout).contains b = true ∧ (lostH rn hout hin ++ newH dn hin hout).contains b0 = true))) ∨ (w.heap.size ≤ q ∧ (newH dn hin hout).contains b = true) := by
    intro b B q hb hm hg
    rcases hget b B hb with ⟨c, B0, j1, rfl, j3⟩ | ⟨_, _, _, _, j2, _⟩
    · have hkc : hasKey hout c = true := hasKey_get.2 ⟨B0, j1⟩
      rw [hbackη c hkc] at hg
      have hm0 : B0.mut = true := by rw [j3, ren_mut] at hm; exact hm
      by_cases hq : q < w.heap.size
      · obtain ⟨c1, B1, i1, i2, i3, i4⟩ := hliveIn q (hG.old q ⟨c, B0, j1, hm0, hg⟩ hq)
        refine .inl ⟨_, B1, i2, i3, i4, ?_⟩
        cases hc1 : hasKey hout c1 with
        | true =>
          obtain ⟨B2, hB2⟩ := hasKey_get.1 hc1
          obtain ⟨B3, hB3⟩ := hasKey_get.1 i1
          have e2 : η2 c1 = η (look rn c1) := by rw [← hη1]; exact hG.hd c1 (handedH_get k1 hB3) hc1
          have := hG.hp.inj c c1 _ _ q j1 hB2 hm0 (mutH_get k3 hB2) hg (by rw [e2]; exact i4)
          subst this
          refine .inl ?_
          unfold back; rw [i1]; simp
        | false =>
          cases hci : hasKey hin c with
          | true =>
            obtain ⟨B3, hB3⟩ := hasKey_get.1 hci
            obtain ⟨B4, hB4⟩ := hasKey_get.1 i1
            have e2 : η2 c = η (look rn c) := by rw [← hη1]; exact hG.hd c (handedH_get k1 hB3) hkc
            have := r1.inj c c1 _ _ q hB3 hB4 (mutH_get k2 hB3) (mutH_get k2 hB4) (by rw [hη1, ← e2]; exact hg) (by rw [hη1]; exact i4)
            subst this
            rw [hkc] at hc1; cases hc1
          | false =>
            refine .inr ⟨?_, ?_⟩
            · have : back dn rn hin c = fresh dn c := by unfold back; rw [hci]; simp
              rw [this]
              exact (newH_mem _ _).2 ⟨c, hkc, hci, rfl⟩
            · rw [List.contains_append, Bool.or_eq_true]
              exact .inl ((lostH_mem _ _).2 ⟨c1, i1, hc1, rfl⟩)
      · refine .inr ⟨by omega, ?_⟩
        cases hci : hasKey hin c with
        | true =>
          obtain ⟨B3, hB3⟩ := hasKey_get.1 hci
          have e2 : η2 c = newη η [] (look rn) c := hG.hd c (handedH_get k1 hB3) hkc
          have := Live.lt r1 ⟨c, B3, hB3, mutH_get k2 hB3, by rw [← e2]; exact hg⟩
          exact absurd this hq
        | false =>
          have : back dn rn hin c = fresh dn c := by unfold back; rw [hci]; simp
          rw [this]
          exact (newH_mem _ _).2 ⟨c, hkc, hci, rfl⟩
    · subst j2; cases hm
  have hkillnew : ∀ b, (newH dn hin hout).contains b = true → ¬ handed b := by
    intro b hb
    obtain ⟨c, j1, j2, rfl⟩ := (newH_mem _ _).1 hb
    unfold handed fresh; omega
  -- what is live behind the call
  have hsetlive : ∀ q, Av A0 (callη η η2 dn hin hout) (s.app d { v := r.ren (back dn rn hin), kill := lostH rn hout hin ++ newH dn hin hout, hp := renH (back dn rn hin) hout ++ (if (r.dry && dryH hout) = true then [] else rest s.H D) }).H q →
      (r.dry && dryH hout) = false → Av A1 η2 (hpGet hout) q := by
    rintro q (hq | ⟨b, B, j1, j2, j3⟩) hdry
    · refine .inl ((hA1' q).2 ⟨.inl hq, ?_, ?_⟩)
      · rintro ⟨b, e, t, ys, i1, _, i3⟩
        exact (h.hp.av q hq).2 ⟨b, _, i1, rfl, i3⟩
      · intro hq2
        obtain ⟨c, B0, _, i2, i3, i4⟩ := hliveIn q hq2
        exact (h.hp.av q hq).2 ⟨_, B0, i2, i3, i4⟩
    · simp only [ASt.app] at j1
      cases hg : hpGet (renH (back dn rn hin) hout ++ (if (r.dry && dryH hout) = true then [] else rest s.H D)) b with
      | some B' =>
        rw [hg] at j1
        injection j1 with j1
        subst j1
        rcases hget b _ hg with ⟨c, B0, i1, rfl, i3⟩ | ⟨_, _, _, _, i2, _⟩
        · rw [hbackη c (hasKey_get.2 ⟨B0, i1⟩)] at j3
          exact .inr ⟨c, B0, i1, by rw [i3, ren_mut] at j2; exact j2, j3⟩
        · subst i2; cases j2
      | none =>
        rw [hg] at j1
        simp only at j1
        split at j1
        · cases j1
        · rename_i hk
          have hk' : (lostH rn hout hin ++ newH dn hin hout).contains b = false := by simpa using hk
          obtain ⟨B0, i1, i2⟩ := Option.map_eq_some_iff.1 j1
          have hm0 : B0.mut = true := by rw [← i2, ABlk.mut_clean] at j2; exact j2
          rw [hηk b hk'] at j3
          refine .inl ((hA1' q).2 ⟨.inr ⟨b, B0, i1, hm0, j3⟩, ?_, ?_⟩)
          · rintro ⟨b', e, t, ys, x1, x2, x3⟩
            have := h.hp.inj b b' _ _ q i1 x1 hm0 rfl j3 x3
            subst this
            rw [hpGet_app] at hg
            cases hg2 : hpGet (renH (back dn rn hin) hout) b with
            | some _ => rw [hg2] at hg; cases hg
            | none =>
              rw [hg2, hdry] at hg
              simp only [Bool.false_eq_true, if_false] at hg
              rw [rest_get s.H D b (by simpa using x2) x1] at hg
              cases hg
          · intro hq2
            obtain ⟨c, B1, x1, x2, x3, x4⟩ := hliveIn q hq2
            have := h.hp.inj b _ _ _ q i1 x2 hm0 x3 j3 x4
            subst this
            rw [List.contains_append, Bool.or_eq_false_iff] at hk'
            cases hc1 : hasKey hout c with
            | true =>
              have := hsome c hc1
              unfold back at this
              rw [x1] at this
              simp only [if_true] at this
              unfold back at hg
              rw [hg] at this
              cases this
            | false =>
              have := (lostH_mem rn hout).2 ⟨c, x1, hc1, rfl⟩
              rw [this] at hk'; cases hk'.1
  have hidr : ∀ b ∈ r.ids, callη η η2 dn hin hout (back dn rn hin b) = η2 b := fun b hb => hbackη b (List.all_eq_true.1 k6 b (List.mem_append_left _ hb))
  have hidh : ∀ c ty cs, (c, ABlk.box ty cs) ∈ hout → ∀ b ∈ AVal.idsL cs, callη η η2 dn hin hout (back dn rn hin b) = η2 b := fun c ty cs hm b hb => hbackη b (List.all_eq_true.1 k6 b (List.mem_append_right _ (idsH_get hm b hb)))
  refine h.effN (fun b => (newH dn hin hout).contains b = true) hd hηk ⟨hG.fr.os, hG.fr.tape, hG.fr.output⟩ hG.fr.size ?_ hNN ?_ ?_ hkillnew ?_ ?_ ?_
  · intro q hq
    by_cases hl : Live (newη η [] (look rn)) (hpGet hin) q
    · obtain ⟨c, B0, j1, j2, j3, j4⟩ := hliveIn q hl
      refine .inr ⟨_, B0, j2, j3, j4, ?_⟩
      cases hc1 : hasKey hout c with
      | true =>
        refine .inl ?_
        have := hsome c hc1
        have hb : back dn rn hin c = look rn c := by unfold back; rw [j1]; simp
        rwa [hb] at this
      | false =>
        refine .inr ?_
        rw [List.contains_append, Bool.or_eq_true]
        exact .inl ((lostH_mem _ _).2 ⟨c, j1, hc1, rfl⟩)
    · exact .inl (hG.fr.heap q hq hl)
  · intro b b' B B' q hb hb' hg hg' hm hm' hq hq'
    obtain ⟨c, j1, j2, rfl⟩ := (newH_mem _ _).1 hb
    obtain ⟨c', j1', j2', rfl⟩ := (newH_mem _ _).1 hb'
    rw [hnewη c j1 j2] at hq
    rw [hnewη c' j1' j2'] at hq'
    obtain ⟨B1, hB1⟩ := hasKey_get.1 j1
    obtain ⟨B1', hB1'⟩ := hasKey_get.1 j1'
    rw [hG.hp.inj c c' _ _ q hB1 hB1' (mutH_get k3 hB1) (mutH_get k3 hB1') hq hq']
  · intro b hb hs
    rw [List.contains_append, Bool.or_eq_true] at hb
    rcases hb with hb | hb
    · exfalso
      obtain ⟨c, j1, j2, rfl⟩ := (lostH_mem _ _).1 hb
      obtain ⟨B, hB⟩ := Option.isSome_iff_exists.1 hs
      rcases hget _ B hB with ⟨c2, B0, i1, i2, _⟩ | ⟨_, _, _, _, _, i3, _⟩
      · have hk2 : hasKey hout c2 = true := hasKey_get.2 ⟨B0, i1⟩
        unfold back at i2
        cases hc2 : hasKey hin c2 with
        | true =>
          rw [hc2, if_pos rfl] at i2
          obtain ⟨X, hX⟩ := hasKey_get.1 j1
          obtain ⟨Y, hY⟩ := hasKey_get.1 hc2
          have := rnOK_inj k8 hX hY i2
          subst this
          rw [hk2] at j2; cases j2
        | false =>
          rw [hc2, if_neg (by simp)] at i2
          obtain ⟨X, hX⟩ := hasKey_get.1 j1
          have := List.all_eq_true.1 k9 _ (hpGet_mem hX)
          have h2 := (newH_mem dn hin).2 ⟨c2, hk2, hc2, rfl⟩
          simp only [Bool.not_eq_true'] at this
          rw [i2, h2] at this
          cases this
      · have := hnotD c j1
        simp only [List.contains_eq_mem, decide_eq_false_iff_not] at this
        exact this i3
    · exact hb
  · intro b hb hs hk
    obtain ⟨B, hB⟩ := Option.isSome_iff_exists.1 hs
    rcases hget _ B hB with ⟨c2, B0, i1, i2, _⟩ | ⟨_, _, _, i1, _⟩
    · have hk2 : hasKey hout c2 = true := hasKey_get.2 ⟨B0, i1⟩
      unfold back at i2
      cases hc2 : hasKey hin c2 with
      | true =>
        rw [hc2, if_pos rfl] at i2
        obtain ⟨Y, hY⟩ := hasKey_get.1 hc2
        rcases LeH.get hlh hY with ⟨hc, _⟩ | ⟨_, B1, hB1, _⟩
        · simp at hc
        · rw [i2, hB1]; rfl
      | false =>
        rw [hc2, if_neg (by simp)] at i2
        exact absurd hb (hkillnew b ((newH_mem dn hin).2 ⟨c2, hk2, hc2, i2.symm⟩))
    · rw [i1]; rfl
  · intro k b B hb
    rcases hget b B hb with ⟨c, B0, i1, rfl, rfl⟩ | ⟨e9, t9, ys, i1, rfl, i3, i4, i5⟩
    · rw [hbackη c (hasKey_get.2 ⟨B0, i1⟩)]
      have hr := hG.hp.blk c B0 i1
      have hids := hidh c
      by_cases hdry : (r.dry && dryH hout) = true
      · have hd0 : B0.dry = true := dryH_get (by simp only [Bool.and_eq_true] at hdry; exact hdry.2) (hpGet_mem i1)
        exact step_blk (fun _ hg => hg) (fun ty cs e => hids ty cs (by rw [← e]; exact hpGet_mem i1)) (dry_blk hd0 hr)
      · exact step_blk (fun q hq => hsetlive q hq (by simpa using hdry)) (fun ty cs e => hids ty cs (by rw [← e]; exact hpGet_mem i1)) hr
    · have hbD : D.contains b = true := by simpa using i3
      have hk : (lostH rn hout hin ++ newH dn hin hout).contains b = false := by
        cases hk : (lostH rn hout hin ++ newH dn hin hout).contains b with
        | false => rfl
        | true =>
          rw [List.contains_append, Bool.or_eq_true] at hk
          rcases hk with hk | hk
          · obtain ⟨c, j1, _, rfl⟩ := (lostH_mem _ _).1 hk
            rw [hnotD c j1] at hbD; cases hbD
          · obtain ⟨c, j1, j2, rfl⟩ := (newH_mem _ _).1 hk
            have h3 := renH_has (back dn rn hin) j1
            have h4 : back dn rn hin c = fresh dn c := by unfold back; rw [j2]; simp
            rw [h4, i5] at h3
            cases h3
      rw [hηk b hk]
      refine rested h.hp (.inl i1) k fun q hb2 hq => ?_
      have hnl : ¬ Live (newη η [] (look rn)) (hpGet hin) q := fun hl => by
        obtain ⟨c, B0, x1, x2, x3, x4⟩ := hliveIn q hl
        have := h.hp.inj b _ _ _ q i1 x2 rfl x3 hq x4
        subst this
        rw [hnotD c x1] at hbD; cases hbD
      have hlt : q < w.heap.size := Live.lt h.hp ⟨b, _, i1, rfl, hq⟩
      refine ⟨hG.fr.heap q hlt hnl, fun hA => ?_⟩
      rcases hsetlive q hA i4 with hA | hA
      · exact ((hA1' q).1 hA).2.1 ⟨b, _, _, _, i1, hbD, hq⟩
      · exact hnl (hG.old q hA hlt)
  · intro k
    by_cases hdry : (r.dry && dryH hout) = true
    · have hd0 : r.dry = true := by simp only [Bool.and_eq_true] at hdry; exact hdry.1
      exact ren_rep r v hidr (dry_rep r v hd0 hG.rv)
    · have k' : Keeps (Av A1 η2 (hpGet hout)) (Av A0 (callη η η2 dn hin hout) (s.app d { v := r.ren (back dn rn hin), kill := lostH rn hout hin ++ newH dn hin hout, hp := renH (back dn rn hin) hout ++ (if (r.dry && dryH hout) = true then [] else rest s.H D) }).H) w' w' :=
        ⟨Nat.le_refl _, fun _ _ _ => rfl, fun q _ hq => hsetlive q hq (by simpa using hdry)⟩
      exact ren_rep r v hidr (RepV.step k' _ _ (fun _ _ => rfl) hG.rv)

theorem evs (h : Rel n ds A0 L0 w0 η s a w) : ∀ (l : List Operand), RepVs η w (Av A0 η s.H) (l.map s.ev) (l.map a.eval)
  | [] => RepVs.nil
  | x :: l => RepVs.cons (h.ev x) (evs h l)

theorem evparts (h : Rel n ds A0 L0 w0 η s a w) : ∀ (l : List (Nat × Operand)), RepVs η w (Av A0 η s.H) (l.map fun p => s.ev p.2) (l.map fun p => a.eval p.2)
  | [] => RepVs.nil
  | x :: l => RepVs.cons (h.ev x.2) (evparts h l)

theorem run_callFunc {f : FuncId} (hf : FnOK P f) (args : Array Value) : (callFunc f args).run P w = .ok (.enter f args) w := by
  obtain ⟨fn, h1, h2, h3⟩ := hf
  obtain ⟨c, hb⟩ := Option.isSome_iff_exists.1 h2
  have h5 : ¬ fn.name = "runtime.NumGoroutine" := by simpa using h3
  simp [callFunc, h1, hb, h5]

variable {ro : Option Nat} {mm : Nat} {o : Oper} {next : Act → World → Prop} {Q : Exit → Act → World → Prop}

theorem op_of_does (hdf : ∀ c, o.op ≠ .defer c) {S : Sem Value} (hop : execOp a.eval o = (do pure (.value (← S)))) {K : Eff → Prop} (hd : Does P S n ds A0 L0 w0 s a w o.dst K)
    (hn : ∀ e η' a' w', K e → Rel n ds A0 L0 w0 η' (s.app o.dst e) a' w' → next a' w') : o.wpIn (fen ro) mm P a w next Q := by
  obtain ⟨e, u, w', η', hK, hr, hrel⟩ := hd
  exact wpIn_value hdf (by rw [hop]; simp [hr]) (hn e η' _ _ hK hrel)

theorem stepOp_sound (hT : TabOK P T) (h : Rel n ds A0 L0 w0 η s a w) (hd : ∀ i, o.dst = some i → i < n) {K : Eff → Prop} (hs : stepOp P T s o K)
    (hn : ∀ e η' a' w', K e → Rel n ds A0 L0 w0 η' (s.app o.dst e) a' w' → next a' w') : o.wpIn (fen ro) mm P a w next Q := by
  have vl : ∀ {S : Sem Value}, (∀ c, o.op ≠ .defer c) → execOp a.eval o = (do pure (.value (← S))) → Does P S n ds A0 L0 w0 s a w o.dst K → o.wpIn (fen ro) mm P a w next Q := fun hdf hop hdo => op_of_does hdf hop hdo hn
  have hnid : o.dst.getD 0 < 1000 := by
    cases hdd : o.dst with
    | none => simp
    | some i => have := hd i hdd; have := h.few; simp only [Option.getD_some]; exact Nat.lt_of_lt_of_le ‹i < n› ‹n ≤ 1000›
  unfold stepOp at hs
  split at hs
  case h_1 x ho =>
    exact wpIn_value (u := a.eval x) (w' := w) (by simp [ho]) (by simp [execOp, ho]) (hn _ η _ _ hs (h.pure hd (h.ev x)))
  case h_2 x ho =>
    exact wpIn_value (u := a.eval x) (w' := w) (by simp [ho]) (by simp [execOp, ho]) (hn _ η _ _ hs (h.pure hd (h.ev x)))
  case h_3 c x y ho =>
    have hc := h.ev c
    cases hcv : s.ev c <;> simp only [hcv] at hs
    case bool p =>
      rw [hcv] at hc
      unfold RepV at hc
      cases p
      · exact wpIn_value (u := a.eval y) (w' := w) (by simp [ho]) (by simp [execOp, ho, hc, asBool]) (hn _ η _ _ (hs.2 rfl) (h.pure hd (h.ev y)))
      · exact wpIn_value (u := a.eval x) (w' := w) (by simp [ho]) (by simp [execOp, ho, hc, asBool]) (hn _ η _ _ (hs.1 rfl) (h.pure hd (h.ev x)))
  case h_4 t ho =>
    cases ht : T t with
    | none => simp [ht] at hs
    | some i =>
      simp only [ht] at hs
      exact vl (by simp [ho]) (by simp [execOp, ho]) (stAlloc_does hT h hd hnid ht hs)
  case h_5 t x ho =>
    cases ht : T t with
    | none => simp [ht] at hs
    | some i =>
      simp only [ht] at hs
      obtain ⟨_, h2, h3, hK⟩ := hs
      exact vl (by simp [ho]) (by simp [execOp, ho]) (stBox_does h hd hnid (h.ev x) h2 h3 hK)
  case h_6 t parts ho =>
    refine vl (S := Instr.build t (parts.map fun p => (p.1, a.eval p.2))) (by simp [ho]) (by simp [execOp, ho]) (stBuild_does hT h hd ?_ ?_ hs)
    · simp
    · simpa [Function.comp_def] using evparts h parts.toList
  case h_7 t len parts ho =>
    refine vl (S := Instr.buildSlice t len (parts.map fun p => (p.1, a.eval p.2))) (by simp [ho]) (by simp [execOp, ho]) (stBuildSlice_does hT h hd hnid ?_ ?_ hs)
    · simp
    · simpa [Function.comp_def] using evparts h parts.toList
  case h_8 t x ho =>
    exact vl (by simp [ho]) (by simp [execOp, ho]) (stLoad_does hT h hd (h.ev x) hs)
  case h_9 t x v ho =>
    unfold stStore at hs
    cases ht : T t with
    | none => simp [ht] at hs
    | some i =>
      simp only [ht] at hs
      obtain ⟨hl, hc, hs⟩ := hs
      cases hx : s.ev x <;> simp only [hx] at hs
      case bp b off =>
        cases hb : s.H b with
        | none => simp [hb] at hs
        | some B =>
          cases B <;> simp only [hb] at hs
          case box ty cs =>
            obtain ⟨w', hr, hrel⟩ := stStore_bp hT h hd ht (by rw [← hx]; exact h.ev x) (h.ev v) hl hc hb hs.1
            exact wpIn_skipped (by simp [ho]) (by simp [execOp, ho, hr]) (hn _ η _ _ hs.2 hrel)
      case ap b sz j off =>
        cases hb : s.H b with
        | none => simp [hb] at hs
        | some B =>
          cases B <;> simp only [hb] at hs
          case arr e τ xs =>
            obtain ⟨h1, h2, h3, h4, hs⟩ := hs
            split at hs
            · rename_i x' hel
              obtain ⟨w', hr, hrel⟩ := stStore_ap hT h hd ht (by rw [← hx]; exact h.ev x) (h.ev v) hl hc hb h1 h2 h3 h4 hel
              exact wpIn_skipped (by simp [ho]) (by simp [execOp, ho, hr]) (hn _ η _ _ hs hrel)
            · exact hs.elim
  case h_10 x ho =>
    have hx := h.ev x
    unfold stNil at hs
    split at hs <;> rename_i hxv
    · rw [hxv] at hx
      have hx' := hx
      unfold RepV at hx
      obtain ⟨g, _, e⟩ := hx
      exact wpIn_value (u := a.eval x) (w' := w) (by simp [ho]) (by simp [execOp, ho, e]) (hn _ η _ _ hs (h.pure hd hx'))
    · rw [hxv] at hx
      have hx' := hx
      unfold RepV at hx
      obtain ⟨g, _, _, _, e⟩ := hx
      exact wpIn_value (u := a.eval x) (w' := w) (by simp [ho]) (by simp [execOp, ho, e]) (hn _ η _ _ hs (h.pure hd hx'))
    · rw [hxv] at hx
      have hx' := hx
      unfold RepV at hx
      obtain ⟨g, _, e, _⟩ := hx
      exact wpIn_value (u := a.eval x) (w' := w) (by simp [ho]) (by simp [execOp, ho, e]) (hn _ η _ _ hs (h.pure hd hx'))
    · rw [hxv] at hx
      have hx' := hx
      unfold RepV at hx
      obtain ⟨_, _, e, _⟩ := hx
      exact wpIn_value (u := a.eval x) (w' := w) (by simp [ho]) (by simp [execOp, ho, e]) (hn _ η _ _ hs (h.pure hd hx'))
    · exact hs.elim
  case h_11 op t x y yt ho =>
    split at hs <;> rename_i hxv
    · exact vl (S := do eqGuard .eql t x y (a.eval x) (a.eval y); binOp .eql t (a.eval x) (a.eval y)) (by simp [ho]) (by simp [execOp, ho]) (stEq_does hT h hd rfl (by rw [← hxv]; exact h.ev x) (h.ev y) hs)
    · exact vl (S := do eqGuard .neq t x y (a.eval x) (a.eval y); binOp .neq t (a.eval x) (a.eval y)) (by simp [ho]) (by simp [execOp, ho]) (stEq_does hT h hd rfl (by rw [← hxv]; exact h.ev x) (h.ev y) hs)
    · refine vl (S := do eqGuard _ t x y (a.eval x) (a.eval y); binOp _ t (a.eval x) (a.eval y)) (by simp [ho]) (by simp [execOp, ho]) (stBin_does h hd (h.ev x) (h.ev y) hs)
  case h_12 op t x ho =>
    exact vl (by simp [ho]) (by simp [execOp, ho]) (stUn_does h hd (h.ev x) hs)
  case h_13 src dst x ho =>
    obtain ⟨j, hj⟩ := Option.isSome_iff_exists.1 hs.1
    obtain ⟨_, _, dd, _, _, _, _, _, hu, _⟩ := (hT src j hj).ex
    exact vl (by simp [ho]) (by simp [execOp, ho]) (stConv_does hT h hd ⟨dd, hu⟩ (h.ev x) hs.2)
  case h_14 f fst cap ho =>
    refine wpIn_value (u := .func f (fst.map a.eval) (cap.map a.eval)) (w' := w) (by simp [ho]) (by simp [execOp, ho, Instr.makeFunc]) (hn _ η _ _ hs (h.pure hd ?_))
    unfold RepV
    exact ⟨_, _, rfl, by simpa using evs h fst.toList, by simpa using evs h cap.toList⟩
  case h_15 t l c ho =>
    exact vl (by simp [ho]) (by simp [execOp, ho]) (stMake_does hT h hd hnid (h.ev l) (h.ev c) hs)
  case h_16 t x lo hi ho =>
    refine vl (S := Instr.sliceAt t (a.eval x) (lo.map a.eval) (hi.map a.eval) none) (by simp [ho]) (by simp [execOp, ho]) (stSlice_does hT h hd (h.ev x) ?_ ?_ hs)
    · cases lo with
      | none => exact .inl ⟨rfl, rfl⟩
      | some y => exact .inr ⟨_, _, rfl, rfl, h.ev y⟩
    · cases hi with
      | none => exact .inl ⟨rfl, rfl⟩
      | some y => exact .inr ⟨_, _, rfl, rfl, h.ev y⟩
  case h_17 t x f ho =>
    exact vl (by simp [ho]) (by simp [execOp, ho]) (stFieldAddr_does hT h hd (h.ev x) hs)
  case h_18 t x f ho =>
    exact vl (by simp [ho]) (by simp [execOp, ho]) (stField_does hT h hd (h.ev x) hs)
  case h_19 t x ix ho =>
    exact vl (by simp [ho]) (by simp [execOp, ho]) (stIndexAddr_does hT h hd (h.ev x) (h.ev ix) hs)
  case h_20 x i ho =>
    exact vl (by simp [ho]) (by simp [execOp, ho]) (stExtract_does h hd (h.ev x) hs)
  case h_21 c ho =>
    obtain ⟨callee, args, argTypes⟩ := c
    cases callee with
    | invoke r mth => exact hs.elim
    | builtin b =>
      simp only at hs
      unfold stBuiltin at hs
      have hargs := evs h args.toList
      split at hs
      · rename_i t x hty hx
        obtain ⟨hti, hs⟩ := hs
        cases ht : T t with
        | none => simp [ht] at hti
        | some i =>
          simp only [ht] at hti
          cases hdd : i.desc <;> simp only [hdd] at hti
          case sl e =>
            rw [hx] at hargs
            unfold RepVs at hargs
            obtain ⟨u, us, e1, hu, hus⟩ := hargs
            unfold RepVs at hus
            subst hus
            have ea : args.map a.eval = #[u] := Array.ext' (by simpa using e1)
            have et : argTypes = #[t] := Array.ext' (by simpa using hty)
            refine vl (S := Builtin.len_ #[t] o.type #[u]) (by simp [ho]) ?_ (stLen_does hT h hd ht hdd hu hs)
            simp [execOp, ho, resolve, invoke, builtin, ea, et]
      · rename_i t t' x y hty hx
        obtain ⟨e0, hs⟩ := hs
        subst e0
        rw [hx] at hargs
        unfold RepVs at hargs
        obtain ⟨u, us, e1, hu, hus⟩ := hargs
        unfold RepVs at hus
        obtain ⟨u2, us2, e2, hu2, hus2⟩ := hus
        unfold RepVs at hus2
        subst hus2 e2
        have ea : args.map a.eval = #[u, u2] := Array.ext' (by simpa using e1)
        have et : argTypes = #[t', t'] := Array.ext' (by simpa using hty)
        refine vl (S := Builtin.append_ #[t', t'] o.type #[u, u2]) (by simp [ho]) ?_ (stAppend_does hT h hd hnid hu hu2 hs)
        simp [execOp, ho, resolve, invoke, builtin, ea, et]
      · rename_i k p k' q hx
        obtain ⟨e0, hK⟩ := hs
        subst e0
        rw [hx] at hargs
        unfold RepVs at hargs
        obtain ⟨u, us, e1, hu, hus⟩ := hargs
        unfold RepVs at hus
        obtain ⟨u2, us2, e2, hu2, hus2⟩ := hus
        unfold RepVs at hus2
        unfold RepV at hu hu2
        subst hus2 e2 hu hu2
        have ea : args.map a.eval = #[.int k p, .int k q] := Array.ext' (by simpa using e1)
        refine vl (S := Builtin.max_ argTypes o.type #[.int k p, .int k q]) (by simp [ho]) ?_ (does_pure h hd (u := .int k (max p q)) ?_ (by unfold RepV; rfl) hK)
        · simp [execOp, ho, resolve, invoke, builtin, ea]
        · simp only [Builtin.max_, List.foldlM_cons, List.foldlM_nil, Builtin.max2, Sem.run_bind, Sem.run_pure, Result.andThen_ok]
          congr 2
          rw [Int.max_def]
          split <;> split <;> omega
      · rename_i k p k' q hx
        obtain ⟨e0, hK⟩ := hs
        subst e0
        rw [hx] at hargs
        unfold RepVs at hargs
        obtain ⟨u, us, e1, hu, hus⟩ := hargs
        unfold RepVs at hus
        obtain ⟨u2, us2, e2, hu2, hus2⟩ := hus
        unfold RepVs at hus2
        unfold RepV at hu hu2
        subst hus2 e2 hu hu2
        have ea : args.map a.eval = #[.int k p, .int k q] := Array.ext' (by simpa using e1)
        refine vl (S := Builtin.min_ argTypes o.type #[.int k p, .int k q]) (by simp [ho]) ?_ (does_pure h hd (u := .int k (min p q)) ?_ (by unfold RepV; rfl) hK)
        · simp [execOp, ho, resolve, invoke, builtin, ea]
        · simp only [Builtin.min_, List.foldlM_cons, List.foldlM_nil, Builtin.min2, Sem.run_bind, Sem.run_pure, Result.andThen_ok]
          congr 2
          rw [Int.min_def]
          split <;> split <;> omega
      · exact hs.elim
    | value f =>
      simp only at hs
      unfold stCall at hs
      have hf := h.ev f
      split at hs
      · rename_i g p c hfv
        obtain ⟨D, rn, hin, l, hout, r, hpc, hok, hle, hlh, hK⟩ := hs
        rw [hfv] at hf
        unfold RepV at hf
        obtain ⟨ps, cs, e1, hp, hc⟩ := hf
        have hall : RepVs η w (Av A0 η s.H) (p ++ args.toList.map s.ev ++ c) (ps ++ args.map a.eval ++ cs).toList := by
          simp only [Array.toList_append, Array.toList_map]
          exact (hp.append (evs h args.toList)).append hc
        refine wpIn_call (f := g) (vs := ps ++ args.map a.eval ++ cs) (w' := w) (by simp [ho]) ?_ ?_
        · simp [execOp, ho, resolve, e1, Deferred.ofValue, invoke, run_callFunc hpc.1]
        · refine (call_rel h hd hall hpc hok hle hlh hK).mono ?_
          rintro e w' ⟨v, rfl, ef, η', hKe, hrel⟩
          exact ⟨v, rfl, hn ef η' _ _ hKe hrel⟩
      · exact hs.elim
  case h_22 => exact hs.elim

end
end Go.Proofs.Ytcijihofjcfpoab
