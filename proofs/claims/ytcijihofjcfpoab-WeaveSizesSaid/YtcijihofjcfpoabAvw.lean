/-
  The abstract machine, 10w: values and memory under other names, and as less is said of them. No program is named here.
-/
import Derived.Test.YtcijihofjcfpoabAv10
namespace Go.Proofs.Ytcijihofjcfpoab
open Go.RowKit

set_option linter.constructorNameAsVariable false

theorem rep_nil_sl {η : Nat → Value} {w : World} {A : Nat → Prop} (t : Ty) : RepV η w A (.sl t []) (.slice none 0 0) := by
  unfold RepV
  exact ⟨none, 0, rfl, by simp, by simp [maxLen], fun hp => by simp at hp⟩

theorem sl_cast {η : Nat → Value} {w : World} {A : Nat → Prop} {t t' : Ty} {xs : List (El t)} {ys : List (El t')} {v : Value} (h : if h : t = t' then castL h xs = ys else False) (hr : RepV η w A (.sl t xs) v) : RepV η w A (.sl t' ys) v := by
  split at h
  · rename_i e
    subst e
    rw [castL_rfl] at h
    subst h
    exact hr
  · exact h.elim

mutual
theorem LeV.rep {η η' : Nat → Value} {H : AHeap} {D N : List Nat} {ρ : Nat → Nat} {A A' : Nat → Prop} {w w' : World} (k : Keeps A A' w w') (hN : ∀ c, N.contains c = true → η' c = .slice none 0 0) (hρ : ∀ c, N.contains c = false → η' c = η (ρ c))
    (hown : ∀ b t xs, ((∃ e, H b = some (.arr e t xs)) ∧ D.contains b = true) ∨ H b = some (.imm t xs) → ∃ a' c', η b = .slice a' xs.length c' ∧ SlBody w'.heap.size A' t.size (fun y p z => RepAt w' A' t y p z) xs a' c') :
    ∀ (x y : AVal) (v : Value), LeV H D N ρ x y → RepV η w A x v → RepV η' w' A' y v
  | .un, y, v, h, _ => by
    unfold LeV at h
    split at h
    · unfold RepV; trivial
    · exact h.elim
  | .int k0 n0, y, v, h, hr => by
    unfold LeV at h
    split at h
    · unfold RepV; trivial
    · obtain ⟨rfl, rfl⟩ := h; unfold RepV at *; exact hr
    · exact h.elim
  | .bool b0, y, v, h, hr => by
    unfold LeV at h
    split at h
    · unfold RepV; trivial
    · subst h; unfold RepV at *; exact hr
    · exact h.elim
  | .sl t xs, y, v, h, hr => by
    unfold LeV at h
    split at h
    · unfold RepV; trivial
    · exact sl_cast h (RepV.step (η' := η') k _ _ (fun b hb => by simp [AVal.has] at hb) hr)
    · exact h.elim
  | .dp t xs o, y, v, h, hr => by
    unfold LeV at h
    split at h
    · unfold RepV; trivial
    · rename_i t' x' o'
      obtain ⟨h1, rfl⟩ := h
      split at h1
      · rename_i e
        subst e
        rw [castE_rfl] at h1
        subst h1
        exact RepV.step (η' := η') k _ _ (fun b hb => by simp [AVal.has] at hb) hr
      · exact h1.elim
    · exact h.elim
  | .bp b o, y, v, h, hr => by
    unfold LeV at h
    split at h
    · unfold RepV; trivial
    · obtain ⟨rfl, h2, rfl⟩ := h
      unfold RepV at *
      rw [hρ _ h2]; exact hr
    · exact h.elim
  | .ap b z i o, y, v, h, hr => by
    unfold LeV at h
    split at h
    · unfold RepV; trivial
    · obtain ⟨rfl, h2, rfl, rfl, rfl⟩ := h
      unfold RepV at *
      rw [hρ _ h2]; exact hr
    · exact h.elim
  | .cv u, y, v, h, hr => by
    unfold LeV at h
    unfold RepV at hr
    subst hr
    split at h
    · unfold RepV; trivial
    · subst h; unfold RepV; rfl
    · obtain ⟨h1, rfl⟩ := h
      rw [isNilV_eq h1]
      exact rep_nil_sl _
    · obtain ⟨h1, h2⟩ := h
      rw [isNilV_eq h1]
      unfold RepV
      exact (hN _ h2).symm
    · exact h.elim
  | .own b, y, v, h, hr => by
    unfold LeV at h
    unfold RepV at hr
    split at h
    · unfold RepV; trivial
    · obtain ⟨rfl, h2⟩ := h
      unfold RepV
      rw [hρ _ h2]; exact hr
    · split at h
      · rename_i e t xs hb
        obtain ⟨hd, h⟩ := h
        obtain ⟨a', c', e1, hs⟩ := hown b t xs (.inl ⟨⟨e, hb⟩, hd⟩)
        refine sl_cast h ?_
        unfold RepV
        exact ⟨a', c', by rw [hr, e1], hs⟩
      · rename_i t xs hb
        obtain ⟨a', c', e1, hs⟩ := hown b t xs (.inr hb)
        refine sl_cast h ?_
        unfold RepV
        exact ⟨a', c', by rw [hr, e1], hs⟩
      · exact h.elim
    · exact h.elim
  | .agg l, y, v, h, hr => by
    unfold LeV at h
    split at h
    · unfold RepV; trivial
    · unfold RepV at *
      obtain ⟨vs, rfl, hv⟩ := hr
      exact ⟨vs, rfl, LeL.rep k hN hρ hown l _ vs.toList h hv⟩
    · exact h.elim
  | .tup l, y, v, h, hr => by
    unfold LeV at h
    split at h
    · unfold RepV; trivial
    · unfold RepV at *
      obtain ⟨vs, rfl, hv⟩ := hr
      exact ⟨vs, rfl, LeL.rep k hN hρ hown l _ vs.toList h hv⟩
    · exact h.elim
  | .fn f p c, y, v, h, hr => by
    unfold LeV at h
    split at h
    · unfold RepV; trivial
    · obtain ⟨rfl, hp, hc⟩ := h
      unfold RepV at *
      obtain ⟨ps, cs, rfl, hvp, hvc⟩ := hr
      exact ⟨ps, cs, rfl, LeL.rep k hN hρ hown p _ ps.toList hp hvp, LeL.rep k hN hρ hown c _ cs.toList hc hvc⟩
    · exact h.elim
theorem LeL.rep {η η' : Nat → Value} {H : AHeap} {D N : List Nat} {ρ : Nat → Nat} {A A' : Nat → Prop} {w w' : World} (k : Keeps A A' w w') (hN : ∀ c, N.contains c = true → η' c = .slice none 0 0) (hρ : ∀ c, N.contains c = false → η' c = η (ρ c))
    (hown : ∀ b t xs, ((∃ e, H b = some (.arr e t xs)) ∧ D.contains b = true) ∨ H b = some (.imm t xs) → ∃ a' c', η b = .slice a' xs.length c' ∧ SlBody w'.heap.size A' t.size (fun y p z => RepAt w' A' t y p z) xs a' c') :
    ∀ (l m : List AVal) (vs : List Value), LeL H D N ρ l m → RepVs η w A l vs → RepVs η' w' A' m vs
  | [], m, vs, h, hr => by
    unfold LeL at h
    split at h
    · unfold RepVs at *; exact hr
    · exact h.elim
  | x :: l, m, vs, h, hr => by
    unfold LeL at h
    split at h
    · exact h.elim
    · unfold RepVs at *
      obtain ⟨u, us, rfl, hu, hus⟩ := hr
      exact ⟨u, us, rfl, LeV.rep k hN hρ hown x _ u h.1 hu, LeL.rep k hN hρ hown l _ us h.2 hus⟩
end

theorem hasKey_get : ∀ {h : List (Nat × ABlk)} {b : Nat}, hasKey h b = true ↔ ∃ B, hpGet h b = some B
  | [], b => by simp [hasKey, hpGet]
  | (c, B) :: r, b => by
    unfold hasKey hpGet
    by_cases e : b = c
    · subst e; simp
    · rw [if_neg e, ← hasKey_get]
      simp [Ne.symm e]

theorem hasKey_false {h : List (Nat × ABlk)} {b : Nat} : hasKey h b = false ↔ hpGet h b = none := by
  constructor
  · intro hk
    cases hg : hpGet h b with
    | none => rfl
    | some B =>
      have := hasKey_get.2 ⟨B, hg⟩
      rw [hk] at this; cases this
  · intro hg
    cases hk : hasKey h b with
    | false => rfl
    | true =>
      obtain ⟨B, hB⟩ := hasKey_get.1 hk
      rw [hg] at hB; cases hB

theorem hpGet_mem : ∀ {h : List (Nat × ABlk)} {b : Nat} {B : ABlk}, hpGet h b = some B → (b, B) ∈ h
  | [], b, B, h => by cases h
  | (c, C) :: r, b, B, h => by
    unfold hpGet at h
    split at h
    · rename_i e; subst e; injection h with h; subst h; exact List.mem_cons_self
    · exact List.mem_cons_of_mem _ (hpGet_mem h)

/-- Which names are in order, spelt out. -/
structure NamesIn (ρ : Nat → Nat) (D N : List Nat) (h' : List (Nat × ABlk)) : Prop where
  rest : ∀ c B, hpGet h' c = some B → N.contains c = false → B.mut = true → D.contains (ρ c) = false
  inj : ∀ c c' B B', hpGet h' c = some B → hpGet h' c' = some B' → N.contains c = false → N.contains c' = false → ρ c = ρ c' → c = c'

structure NamesHd (ρ : Nat → Nat) (N : List Nat) (h' : List (Nat × ABlk)) : Prop where
  nil : ∀ c B, hpGet h' c = some B → N.contains c = true → ¬ handed c
  hand : ∀ c B, hpGet h' c = some B → N.contains c = false → handed c → ρ c = c

theorem namesHd_of {ρ : Nat → Nat} {D N : List Nat} : ∀ {h' : List (Nat × ABlk)}, namesOK ρ D N h' = true → NamesHd ρ N h'
  | [], _ => { nil := fun _ _ h => (by cases h), hand := fun _ _ h => (by cases h) }
  | (c0, B0) :: r, h => by
    unfold namesOK at h
    simp only [Bool.and_eq_true] at h
    obtain ⟨⟨hk, hc⟩, hr⟩ := h
    have ih := namesHd_of hr
    refine ⟨fun c B hg hn => ?_, fun c B hg hn hh => ?_⟩
    · unfold hpGet at hg
      split at hg
      · rename_i e
        subst e
        rw [if_pos hn] at hc
        simp only [Bool.or_eq_true, decide_eq_true_eq] at hc
        unfold handed; omega
      · exact ih.nil c B hg hn
    · unfold hpGet at hg
      split at hg
      · rename_i e
        subst e
        simp only [hn, Bool.false_eq_true, if_false, Bool.and_eq_true] at hc
        have := hc.1.2
        simp only [Bool.or_eq_true, decide_eq_true_eq, beq_iff_eq] at this
        unfold handed at hh
        omega
      · exact ih.hand c B hg hn hh

theorem namesIn_of {ρ : Nat → Nat} {D N : List Nat} : ∀ {h' : List (Nat × ABlk)}, namesOK ρ D N h' = true → NamesIn ρ D N h'
  | [], _ => { rest := fun _ _ h => (by cases h), inj := fun _ _ _ _ h => (by cases h) }
  | (c0, B0) :: r, h => by
    unfold namesOK at h
    simp only [Bool.and_eq_true] at h
    obtain ⟨⟨hk, hc⟩, hr⟩ := h
    have ih := namesIn_of hr
    refine ⟨fun c B hg hn hm => ?_, fun c c' B B' hg hg' hn hn' he => ?_⟩
    · unfold hpGet at hg
      split at hg
      · rename_i e
        subst e
        injection hg with hg
        subst hg
        simp only [hn, Bool.false_eq_true, if_false, Bool.and_eq_true] at hc
        have := hc.1.1
        rw [hm, Bool.and_true] at this
        simpa using this
      · exact ih.rest c B hg hn hm
    · have key : ∀ c1 B1, N.contains c0 = false → N.contains c1 = false → hpGet r c1 = some B1 → ρ c1 ≠ ρ c0 := by
        intro c1 B1 hn0 hn1 hg1
        simp only [hn0, Bool.false_eq_true, if_false, Bool.and_eq_true] at hc
        have h3 := List.all_eq_true.1 hc.2 _ (hpGet_mem hg1)
        have hn2 : ¬ c1 ∈ N := by simpa using hn1
        simpa [hn2] using h3
      unfold hpGet at hg hg'
      split at hg
      · rename_i e
        subst e
        split at hg'
        · rename_i e'; exact e'.symm
        · exact absurd he.symm (key c' B' hn hn' hg')
      · split at hg'
        · rename_i e'
          subst e'
          exact absurd he (key c B hn' hn hg)
        · exact ih.inj c c' B B' hg hg' hn hn' he

theorem LeH.get {H : AHeap} {D N : List Nat} {ρ : Nat → Nat} : ∀ {h' : List (Nat × ABlk)}, LeH H D N ρ h' → ∀ {c : Nat} {B : ABlk}, hpGet h' c = some B → (N.contains c = true ∧ ∃ e t, B = .arr e t []) ∨ (N.contains c = false ∧ ∃ B0, H (ρ c) = some B0 ∧ LeB H D N ρ B0 B)
  | [], _, c, B, hg => by cases hg
  | (c0, B0) :: r, h, c, B, hg => by
    unfold LeH at h
    unfold hpGet at hg
    split at hg
    · rename_i e
      subst e
      injection hg with hg
      subst hg
      have h1 := h.1
      split at h1
      · rename_i hn
        refine .inl ⟨hn, ?_⟩
        split at h1
        · rename_i e t xs; subst h1; exact ⟨e, t, rfl⟩
        · exact h1.elim
      · rename_i hn
        refine .inr ⟨by simpa using hn, ?_⟩
        split at h1
        · rename_i B1 hB1; exact ⟨B1, hB1, h1⟩
        · exact h1.elim
    · exact LeH.get h.2 hg

theorem LeB.mut {H : AHeap} {D N : List Nat} {ρ : Nat → Nat} {B0 B : ABlk} (h : LeB H D N ρ B0 B) : B.mut = B0.mut := by
  cases B0 <;> unfold LeB at h <;> cases B <;> first | rfl | exact False.elim h

theorem castB {t t' : Ty} {xs : List (El t)} {ys : List (El t')} (h : if h : t = t' then castL h xs = ys else False) : t = t' ∧ HEq xs ys := by
  split at h
  · rename_i e
    subst e
    rw [castL_rfl] at h
    subst h
    exact ⟨rfl, HEq.rfl⟩
  · exact h.elim

theorem LeB.rep {η η' : Nat → Value} {H : AHeap} {D N : List Nat} {ρ : Nat → Nat} {A A' : Nat → Prop} {w w' : World} (k : Keeps A A' w w') (hN : ∀ c, N.contains c = true → η' c = .slice none 0 0) (hρ : ∀ c, N.contains c = false → η' c = η (ρ c))
    (hown : ∀ b t xs, ((∃ e, H b = some (.arr e t xs)) ∧ D.contains b = true) ∨ H b = some (.imm t xs) → ∃ a' c', η b = .slice a' xs.length c' ∧ SlBody w'.heap.size A' t.size (fun y p z => RepAt w' A' t y p z) xs a' c')
    {B0 B : ABlk} {h : Value} (hb : LeB H D N ρ B0 B) (hg : ∀ g, B0.mut = true → hblk h = some g → w'.heap[g]? = w.heap[g]?) (hr : RelBlk η w A B0 h) : RelBlk η' w' A' B h := by
  cases B0 with
  | box ty cs =>
    cases B <;> simp only [LeB] at hb
    case box ty' cs' =>
      obtain ⟨rfl, hl⟩ := hb
      obtain ⟨g, vs, e, hw, hc⟩ := hr
      exact ⟨g, vs, e, (hg g rfl (by rw [e]; rfl)).trans hw, LeL.rep k hN hρ hown cs _ _ hl hc⟩
  | arr e t xs =>
    cases B <;> simp only [LeB] at hb
    case arr e' t' ys =>
      obtain ⟨rfl, hl⟩ := hb
      obtain ⟨rfl, hx⟩ := castB hl
      have hx := eq_of_heq hx
      subst hx
      have := RelBlk.step (K := []) (η' := η') (η := η') k (fun _ _ => rfl) (B := .arr e t xs) hg (by exact hr)
      rwa [bclean_nil] at this
  | imm t xs =>
    cases B <;> simp only [LeB] at hb
    case imm t' ys =>
      obtain ⟨rfl, hx⟩ := castB hb
      have hx := eq_of_heq hx
      subst hx
      have := RelBlk.step (K := []) (η' := η') (η := η') k (fun _ _ => rfl) (B := .imm t xs) hg (by exact hr)
      rwa [bclean_nil] at this
  | map ak ae kt vt xs =>
    cases B <;> simp only [LeB] at hb
    case map ak' ae' kt' vt' ys =>
      obtain ⟨rfl, rfl, hx⟩ := hb
      split at hx
      · rename_i e
        obtain ⟨rfl, rfl⟩ := e
        rw [castM_rfl] at hx
        subst hx
        obtain ⟨g, es, c, e, hw, hm⟩ := hr
        exact ⟨g, es, c, e, (hg g rfl (by rw [e]; rfl)).trans hw, hm⟩
      · exact hx.elim

/-- The handles under new names. -/
def newη (η : Nat → Value) (N : List Nat) (ρ : Nat → Nat) (c : Nat) : Value := if N.contains c = true then .slice none 0 0 else η (ρ c)

section
variable {A0 A1 : Nat → Prop} {η : Nat → Value} {H : AHeap} {w : World} {D N : List Nat} {ρ : Nat → Nat} {h' : List (Nat × ABlk)}

theorem le_live (hl : LeH H D N ρ h') {g : Nat} (hg : Live (newη η N ρ) (hpGet h') g) : ∃ c B B0, hpGet h' c = some B ∧ N.contains c = false ∧ H (ρ c) = some B0 ∧ B0.mut = true ∧ B.mut = true ∧ hblk (η (ρ c)) = some g := by
  obtain ⟨c, B, h1, h2, h3⟩ := hg
  rcases LeH.get hl h1 with ⟨hc, _⟩ | ⟨hc, B0, hB0, hle⟩
  · unfold newη at h3; rw [if_pos hc] at h3; cases h3
  · unfold newη at h3
    rw [hc, if_neg (by simp)] at h3
    exact ⟨c, B, B0, h1, hc, hB0, by rw [← LeB.mut hle]; exact h2, h2, h3⟩

theorem le_rel (h : RelH A0 η H w) (hn : NamesIn ρ D N h') (hl : LeH H D N ρ h') (h1 : ∀ g, A1 g → g < w.heap.size) (h2 : ∀ g, A1 g → Av A0 η H g) (h3 : ∀ g b e t xs, A1 g → H b = some (.arr e t xs) → D.contains b = true → hblk (η b) ≠ some g)
    (h4 : ∀ g, A1 g → ¬ Live (newη η N ρ) (hpGet h') g) :
    RelH A1 (newη η N ρ) (hpGet h') w ∧ (∀ x y v, LeV H D N ρ x y → RepV η w (Av A0 η H) x v → RepV (newη η N ρ) w (Av A1 (newη η N ρ) (hpGet h')) y v) ∧
      (∀ l m vs, LeL H D N ρ l m → RepVs η w (Av A0 η H) l vs → RepVs (newη η N ρ) w (Av A1 (newη η N ρ) (hpGet h')) m vs) := by
  have hsub : ∀ g, Av A1 (newη η N ρ) (hpGet h') g → Av A0 η H g := by
    rintro g (hg | hg)
    · exact h2 g hg
    · obtain ⟨c, B, B0, k1, k2, k3, k4, k5, k6⟩ := le_live hl hg
      exact .inr ⟨_, B0, k3, k4, k6⟩
  have k : Keeps (Av A0 η H) (Av A1 (newη η N ρ) (hpGet h')) w w := ⟨Nat.le_refl _, fun _ _ _ => rfl, fun g _ hg => hsub g hg⟩
  have hN : ∀ c, N.contains c = true → newη η N ρ c = .slice none 0 0 := fun c hc => if_pos hc
  have hρ : ∀ c, N.contains c = false → newη η N ρ c = η (ρ c) := fun c hc => by unfold newη; rw [hc]; simp
  have hown : ∀ b t xs, ((∃ e, H b = some (.arr e t xs)) ∧ D.contains b = true) ∨ H b = some (.imm t xs) → ∃ a' c', η b = .slice a' xs.length c' ∧ SlBody w.heap.size (Av A1 (newη η N ρ) (hpGet h')) t.size (fun y p z => RepAt w (Av A1 (newη η N ρ) (hpGet h')) t y p z) xs a' c' := by
    intro b t xs hb
    rcases hb with ⟨⟨e, hb⟩, hD⟩ | hb
    · refine rested h (e := e) (.inl hb) k fun g hba hg => ⟨rfl, ?_⟩
      rintro (hA | hA)
      · exact h3 g b e t xs hA hb hD hg
      · obtain ⟨c, B, B0, k1, k2, k3, k4, k5, k6⟩ := le_live hl hA
        have := h.inj b (ρ c) _ _ g hb k3 rfl k4 hg k6
        subst this
        have := hn.rest c B k1 k2 k5
        rw [hD] at this; cases this
    · refine rested h (e := 0) (.inr hb) k fun g hba hg => ?_
      rw [hb] at hba; cases hba
  refine ⟨⟨fun c B hc => ?_, fun c c' B B' g hc hc' hm hm' hg hg' => ?_, fun g hg => ⟨h1 g hg, h4 g hg⟩⟩, fun x y v hxy hr => LeV.rep k hN hρ hown x y v hxy hr, fun l m vs hlm hr => LeL.rep k hN hρ hown l m vs hlm hr⟩
  · rcases LeH.get hl hc with ⟨hcN, e, t, rfl⟩ | ⟨hcN, B0, hB0, hle⟩
    · exact .inl ⟨rfl, hN c hcN⟩
    · rw [hρ c hcN]
      exact LeB.rep k hN hρ hown hle (fun g _ _ => rfl) (h.blk _ _ hB0)
  · rcases LeH.get hl hc with ⟨hcN, _⟩ | ⟨hcN, B0, hB0, hle⟩
    · rw [hN c hcN] at hg; cases hg
    · rcases LeH.get hl hc' with ⟨hcN', _⟩ | ⟨hcN', B0', hB0', hle'⟩
      · rw [hN c' hcN'] at hg'; cases hg'
      · rw [hρ c hcN] at hg
        rw [hρ c' hcN'] at hg'
        have := h.inj (ρ c) (ρ c') B0 B0' g hB0 hB0' (by rw [← LeB.mut hle]; exact hm) (by rw [← LeB.mut hle']; exact hm') hg hg'
        exact hn.inj c c' B B' hc hc' hcN hcN' this
end

mutual
theorem ren_rep {η η' : Nat → Value} {w : World} {A : Nat → Prop} {f : Nat → Nat} : ∀ (x : AVal) (v : Value), (∀ b ∈ x.ids, η' (f b) = η b) → RepV η w A x v → RepV η' w A (x.ren f) v
  | .un, v, _, _ => by unfold AVal.ren RepV; trivial
  | .int _ _, v, _, h => by unfold AVal.ren; unfold RepV at *; exact h
  | .bool _, v, _, h => by unfold AVal.ren; unfold RepV at *; exact h
  | .sl t xs, v, _, h => by unfold AVal.ren; unfold RepV at *; exact h
  | .dp t x o, v, _, h => by unfold AVal.ren; unfold RepV at *; exact h
  | .cv _, v, _, h => by unfold AVal.ren; unfold RepV at *; exact h
  | .own b, v, he, h => by unfold AVal.ren; unfold RepV at *; rw [he b (by simp [AVal.ids])]; exact h
  | .bp b o, v, he, h => by unfold AVal.ren; unfold RepV at *; rw [he b (by simp [AVal.ids])]; exact h
  | .ap b z i o, v, he, h => by unfold AVal.ren; unfold RepV at *; rw [he b (by simp [AVal.ids])]; exact h
  | .agg l, v, he, h => by
    unfold AVal.ren
    unfold RepV at *
    obtain ⟨vs, e, hl⟩ := h
    exact ⟨vs, e, ren_repL l _ (fun b hb => he b (by simpa [AVal.ids] using hb)) hl⟩
  | .tup l, v, he, h => by
    unfold AVal.ren
    unfold RepV at *
    obtain ⟨vs, e, hl⟩ := h
    exact ⟨vs, e, ren_repL l _ (fun b hb => he b (by simpa [AVal.ids] using hb)) hl⟩
  | .fn g p c, v, he, h => by
    unfold AVal.ren
    unfold RepV at *
    obtain ⟨ps, cs, e, hp, hc⟩ := h
    exact ⟨ps, cs, e, ren_repL p _ (fun b hb => he b (by simp [AVal.ids, hb])) hp, ren_repL c _ (fun b hb => he b (by simp [AVal.ids, hb])) hc⟩
theorem ren_repL {η η' : Nat → Value} {w : World} {A : Nat → Prop} {f : Nat → Nat} : ∀ (l : List AVal) (vs : List Value), (∀ b ∈ AVal.idsL l, η' (f b) = η b) → RepVs η w A l vs → RepVs η' w A (AVal.renL f l) vs
  | [], vs, _, h => by unfold AVal.renL; unfold RepVs at *; exact h
  | x :: l, vs, he, h => by
    unfold AVal.renL
    unfold RepVs at *
    obtain ⟨u, us, e, hx, hl⟩ := h
    exact ⟨u, us, e, ren_rep x u (fun b hb => he b (by simp [AVal.idsL, hb])) hx, ren_repL l us (fun b hb => he b (by simp [AVal.idsL, hb])) hl⟩
end

theorem ren_mut (f : Nat → Nat) (B : ABlk) : (B.ren f).mut = B.mut := by cases B <;> rfl

theorem dryAt {w : World} {A A' : Nat → Prop} : ∀ (t : Ty) (x : El t) (b o : Nat), t.dry = true → RepAt w A t x b o → RepAt w A' t x b o
  | .int _, x, b, o, _, h => by unfold RepAt at *; exact h
  | .bool, x, b, o, _, h => by unfold RepAt at *; exact h
  | .unit, x, b, o, _, h => by unfold RepAt; trivial
  | .pair s t, x, b, o, hd, h => by
    simp only [Ty.dry, Bool.and_eq_true] at hd
    unfold RepAt at *
    exact ⟨dryAt s x.1 b o hd.1 h.1, dryAt t x.2 b _ hd.2 h.2⟩
  | .sl t, xs, b, o, hd, h => by simp [Ty.dry] at hd

mutual
theorem dry_rep {η : Nat → Value} {w : World} {A A' : Nat → Prop} : ∀ (x : AVal) (v : Value), x.dry = true → RepV η w A x v → RepV η w A' x v
  | .un, v, _, _ => by unfold RepV; trivial
  | .int _ _, v, _, h => by unfold RepV at *; exact h
  | .bool _, v, _, h => by unfold RepV at *; exact h
  | .cv _, v, _, h => by unfold RepV at *; exact h
  | .own _, v, _, h => by unfold RepV at *; exact h
  | .bp _ _, v, _, h => by unfold RepV at *; exact h
  | .ap _ _ _ _, v, _, h => by unfold RepV at *; exact h
  | .sl _ _, v, hd, _ => by simp [AVal.dry] at hd
  | .dp _ _ _, v, hd, _ => by simp [AVal.dry] at hd
  | .agg l, v, hd, h => by
    unfold RepV at *
    obtain ⟨vs, e, hl⟩ := h
    exact ⟨vs, e, dry_repL l _ (by simpa [AVal.dry] using hd) hl⟩
  | .tup l, v, hd, h => by
    unfold RepV at *
    obtain ⟨vs, e, hl⟩ := h
    exact ⟨vs, e, dry_repL l _ (by simpa [AVal.dry] using hd) hl⟩
  | .fn g p c, v, hd, h => by
    simp only [AVal.dry, Bool.and_eq_true] at hd
    unfold RepV at *
    obtain ⟨ps, cs, e, hp, hc⟩ := h
    exact ⟨ps, cs, e, dry_repL p _ hd.1 hp, dry_repL c _ hd.2 hc⟩
theorem dry_repL {η : Nat → Value} {w : World} {A A' : Nat → Prop} : ∀ (l : List AVal) (vs : List Value), AVal.dryL l = true → RepVs η w A l vs → RepVs η w A' l vs
  | [], vs, _, h => by unfold RepVs at *; exact h
  | x :: l, vs, hd, h => by
    simp only [AVal.dryL, Bool.and_eq_true] at hd
    unfold RepVs at *
    obtain ⟨u, us, e, hx, hl⟩ := h
    exact ⟨u, us, e, dry_rep x u hd.1 hx, dry_repL l us hd.2 hl⟩
end

theorem dry_blk {η : Nat → Value} {w : World} {A A' : Nat → Prop} {B : ABlk} {h : Value} (hd : B.dry = true) (hr : RelBlk η w A B h) : RelBlk η w A' B h := by
  cases B with
  | box ty cs =>
    obtain ⟨g, vs, e, hw, hc⟩ := hr
    exact ⟨g, vs, e, hw, dry_repL cs _ hd hc⟩
  | arr e t xs =>
    rcases hr with hn | ⟨g, cap, cur, e1, hw, h1, h2, h3, h4⟩
    · exact .inl hn
    · exact .inr ⟨g, cap, cur, e1, hw, h1, h2, h3, fun i x hi => dryAt t x g _ hd (h4 i x hi)⟩
  | imm t xs => cases hd
  | map ak ae kt vt xs => exact hr

theorem step_blk {η η' : Nat → Value} {w : World} {A A' : Nat → Prop} (hA : ∀ g, A' g → A g) {f : Nat → Nat} {B : ABlk} {h : Value} (he : ∀ ty cs, B = .box ty cs → ∀ b ∈ AVal.idsL cs, η' (f b) = η b) (hr : RelBlk η w A B h) : RelBlk η' w A' (B.ren f) h := by
  have k : Keeps A A' w w := ⟨Nat.le_refl _, fun _ _ _ => rfl, fun g _ hg => hA g hg⟩
  cases B with
  | box ty cs =>
    obtain ⟨g, vs, e, hw, hc⟩ := hr
    exact ⟨g, vs, e, hw, ren_repL cs _ (he ty cs rfl) (RepVs.step k _ _ (fun _ _ => rfl) hc)⟩
  | arr e t xs =>
    have := RelBlk.step (K := []) (η' := η') (η := η') k (fun _ _ => rfl) (B := .arr e t xs) (fun g _ _ => rfl) (by exact hr)
    rwa [bclean_nil] at this
  | imm t xs =>
    have := RelBlk.step (K := []) (η' := η') (η := η') k (fun _ _ => rfl) (B := .imm t xs) (fun g _ _ => rfl) (by exact hr)
    rwa [bclean_nil] at this
  | map ak ae kt vt xs => exact hr

end Go.Proofs.Ytcijihofjcfpoab
