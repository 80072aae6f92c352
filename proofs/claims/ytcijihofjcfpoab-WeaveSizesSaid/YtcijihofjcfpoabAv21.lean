/-
  The abstract machine, 21: ranges over functions, whole. No program is named here.
-/
import Derived.Test.YtcijihofjcfpoabAv20
namespace Go.Proofs.Ytcijihofjcfpoab
open Go.RowKit

set_option linter.constructorNameAsVariable false
set_option linter.unusedVariables false

mutual
/-- Back to the names before. -/
theorem unren_rep {η : Nat → Value} {w : World} {A : Nat → Prop} {f : Nat → Nat} : ∀ (x : AVal) (v : Value), RepV η w A (x.ren f) v → RepV (fun b => η (f b)) w A x v
  | .un, v, h => by unfold RepV; trivial
  | .int _ _, v, h => by unfold AVal.ren at h; unfold RepV at *; exact h
  | .bool _, v, h => by unfold AVal.ren at h; unfold RepV at *; exact h
  | .sl t xs, v, h => by unfold AVal.ren at h; unfold RepV at *; exact h
  | .dp t x o, v, h => by unfold AVal.ren at h; unfold RepV at *; exact h
  | .cv _, v, h => by unfold AVal.ren at h; unfold RepV at *; exact h
  | .own b, v, h => by unfold AVal.ren at h; unfold RepV at *; exact h
  | .bp b o, v, h => by unfold AVal.ren at h; unfold RepV at *; exact h
  | .ap b z i o, v, h => by unfold AVal.ren at h; unfold RepV at *; exact h
  | .agg l, v, h => by
    unfold AVal.ren at h
    unfold RepV at *
    obtain ⟨vs, e, hl⟩ := h
    exact ⟨vs, e, unren_repL l _ hl⟩
  | .tup l, v, h => by
    unfold AVal.ren at h
    unfold RepV at *
    obtain ⟨vs, e, hl⟩ := h
    exact ⟨vs, e, unren_repL l _ hl⟩
  | .fn g p c, v, h => by
    unfold AVal.ren at h
    unfold RepV at *
    obtain ⟨ps, cs, e, hp, hc⟩ := h
    exact ⟨ps, cs, e, unren_repL p _ hp, unren_repL c _ hc⟩
theorem unren_repL {η : Nat → Value} {w : World} {A : Nat → Prop} {f : Nat → Nat} : ∀ (l : List AVal) (vs : List Value), RepVs η w A (AVal.renL f l) vs → RepVs (fun b => η (f b)) w A l vs
  | [], vs, h => by unfold AVal.renL at h; unfold RepVs at *; exact h
  | x :: l, vs, h => by
    unfold AVal.renL at h
    unfold RepVs at *
    obtain ⟨u, us, e, hx, hl⟩ := h
    exact ⟨u, us, e, unren_rep x u hx, unren_repL l us hl⟩
end

mutual
theorem ids_ren {f : Nat → Nat} : ∀ (x : AVal) {b : Nat}, b ∈ (x.ren f).ids → ∃ b0 ∈ x.ids, b = f b0
  | .un, b, h => by simp [AVal.ren, AVal.ids] at h
  | .int _ _, b, h => by simp [AVal.ren, AVal.ids] at h
  | .bool _, b, h => by simp [AVal.ren, AVal.ids] at h
  | .sl t xs, b, h => by simp [AVal.ren, AVal.ids] at h
  | .dp t x o, b, h => by simp [AVal.ren, AVal.ids] at h
  | .cv _, b, h => by simp [AVal.ren, AVal.ids] at h
  | .own c, b, h => by simp only [AVal.ren, AVal.ids, List.mem_singleton] at h; exact ⟨c, by simp [AVal.ids], h⟩
  | .bp c o, b, h => by simp only [AVal.ren, AVal.ids, List.mem_singleton] at h; exact ⟨c, by simp [AVal.ids], h⟩
  | .ap c z i o, b, h => by simp only [AVal.ren, AVal.ids, List.mem_singleton] at h; exact ⟨c, by simp [AVal.ids], h⟩
  | .agg l, b, h => by
    simp only [AVal.ren, AVal.ids] at h ⊢
    exact ids_renL l h
  | .tup l, b, h => by
    simp only [AVal.ren, AVal.ids] at h ⊢
    exact ids_renL l h
  | .fn g p c, b, h => by
    simp only [AVal.ren, AVal.ids] at h ⊢
    rcases List.mem_append.1 h with h | h
    · obtain ⟨b0, h1, h2⟩ := ids_renL p h; exact ⟨b0, List.mem_append_left _ h1, h2⟩
    · obtain ⟨b0, h1, h2⟩ := ids_renL c h; exact ⟨b0, List.mem_append_right _ h1, h2⟩
theorem ids_renL {f : Nat → Nat} : ∀ (l : List AVal) {b : Nat}, b ∈ AVal.idsL (AVal.renL f l) → ∃ b0 ∈ AVal.idsL l, b = f b0
  | [], b, h => by simp [AVal.renL, AVal.idsL] at h
  | x :: l, b, h => by
    simp only [AVal.renL, AVal.idsL] at h ⊢
    rcases List.mem_append.1 h with h | h
    · obtain ⟨b0, h1, h2⟩ := ids_ren x h; exact ⟨b0, List.mem_append_left _ h1, h2⟩
    · obtain ⟨b0, h1, h2⟩ := ids_renL l h; exact ⟨b0, List.mem_append_right _ h1, h2⟩
end

theorem unren_blk {η : Nat → Value} {w : World} {A : Nat → Prop} {f : Nat → Nat} {B : ABlk} {h : Value} (hr : RelBlk η w A (B.ren f) h) : RelBlk (fun b => η (f b)) w A B h := by
  cases B with
  | box ty cs =>
    obtain ⟨g, vs, e, hw, hc⟩ := hr
    exact ⟨g, vs, e, hw, unren_repL cs _ hc⟩
  | arr e t xs => exact hr
  | imm t xs => exact hr
  | map ak ae kt vt xs => exact hr

def renF (f : Nat → Nat) : List (Nat × AVal) → List (Nat × AVal)
  | [] => []
  | (i, x) :: r => (i, x.ren f) :: renF f r
def idsF : List (Nat × AVal) → List Nat
  | [] => []
  | (_, x) :: r => x.ids ++ idsF r

theorem fr_renF (f : Nat → Nat) : ∀ (l : List (Nat × AVal)) (i : Nat), fr (renF f l) i = (fr l i).ren f
  | [], i => by simp [renF, fr, AVal.ren]
  | (j, x) :: r, i => by
    unfold renF fr
    split
    · rfl
    · exact fr_renF f r i
theorem idsF_fr : ∀ {l : List (Nat × AVal)} {i b : Nat}, b ∈ (fr l i).ids → b ∈ idsF l
  | [], i, b, h => by simp [fr, AVal.ids] at h
  | (j, x) :: r, i, b, h => by
    unfold fr at h
    unfold idsF
    split at h
    · exact List.mem_append_left _ h
    · exact List.mem_append_right _ (idsF_fr h)

theorem renH_at {f : Nat → Nat} : ∀ {h : List (Nat × ABlk)}, (∀ c ∈ keysH h, ∀ c' ∈ keysH h, f c = f c' → c = c') → ∀ {c : Nat} {B : ABlk}, hpGet h c = some B → hpGet (renH f h) (f c) = some (B.ren f)
  | [], _, c, B, hc => by cases hc
  | (d, E) :: r, hi, c, B, hc => by
    have hck := keysH_get hc
    unfold hpGet at hc
    unfold renH hpGet
    split at hc
    · rename_i e; subst e; injection hc with hc; subst hc; rw [if_pos rfl]
    · rename_i e
      rw [if_neg (fun e2 => e (hi c hck d (by simp [keysH]) e2))]
      exact renH_at (fun x hx y hy => hi x (by simp [keysH, hx]) y (by simp [keysH, hy])) hc

theorem renH_key {f : Nat → Nat} {h : List (Nat × ABlk)} {b : Nat} {B : ABlk} (hb : hpGet (renH f h) b = some B) : ∃ c ∈ keysH h, b = f c := by
  induction h with
  | nil => cases hb
  | cons p r ih =>
    obtain ⟨d, E⟩ := p
    unfold renH hpGet at hb
    split at hb
    · rename_i e; exact ⟨d, by simp [keysH], e⟩
    · obtain ⟨c, hc, e⟩ := ih hb; exact ⟨c, by simp [keysH, hc], e⟩

/-- Names go there and back. -/
def invOK (r r' : List (Nat × Nat)) (ns : List Nat) : Bool := ns.all fun c => look r' (look r c) == c
theorem invOK_mem {r r' : List (Nat × Nat)} {ns : List Nat} (h : invOK r r' ns = true) {c : Nat} (hc : c ∈ ns) : look r' (look r c) = c := by
  have := List.all_eq_true.1 h c hc
  simpa using this

/-- Names behind the loop. -/
def outOK (r r' : List (Nat × Nat)) (ks : List Nat) (ns : List Nat) : Bool := ns.all fun c => look r' (look r c) == c && (if 1000 ≤ c ∧ c < 2000 then look r c == c && look r' c == c && ks.contains c else true)

theorem outOK_mem {r r' : List (Nat × Nat)} {ks ns : List Nat} (h : outOK r r' ks ns = true) {c : Nat} (hc : c ∈ ns) : look r' (look r c) = c ∧ (handed c → look r c = c ∧ look r' c = c ∧ c ∈ ks) := by
  have := List.all_eq_true.1 h c hc
  simp only [Bool.and_eq_true, beq_iff_eq] at this
  refine ⟨this.1, fun hh => ?_⟩
  have h2 := this.2
  rw [if_pos (show 1000 ≤ c ∧ c < 2000 from hh)] at h2
  simp only [Bool.and_eq_true, beq_iff_eq, List.contains_iff_mem] at h2
  exact ⟨h2.1.1, h2.1.2, h2.2⟩

section
variable {n : Nat} {ds : List Deferred} {L0 : Nat → Prop} {w0 : Old} {tmps : Array Value} {l0 : List (Nat × AVal)} {ηe : Nat → Value} {Ms : List Nat} {l : Nat} {g : Gh} {lp : Loop} {C I : Nat → Prop} {W : World} {ηr : Nat → Value} {A1 : Nat → Prop}

/-- Part of the memory under new names. -/
theorem relH_part {A A' : Nat → Prop} {η : Nat → Value} {H : AHeap} {w w' : World} (h : RelH A η H w) {hh : List (Nat × ABlk)} (hs : ∀ b B, hpGet hh b = some B → H b = some B) (hb : Below w.heap.size w w') {r r' : List (Nat × Nat)} (hr : invOK r r' (keysH hh ++ idsH hh) = true)
    (hmem : ∀ b B, hpGet hh b = some B → (b, B) ∈ hh)
    (hA : ∀ q, q < w.heap.size → A' q → Av A η H q) (hA2 : ∀ q, A' q → q < w'.heap.size ∧ ∀ b B, hpGet hh b = some B → B.mut = true → hblk (η b) ≠ some q) :
    RelH A' (fun b => η (look r' b)) (hpGet (renH (look r) hh)) w' ∧ (∀ q, Live (fun b => η (look r' b)) (hpGet (renH (look r) hh)) q → ∃ b B, hpGet hh b = some B ∧ B.mut = true ∧ hblk (η b) = some q) ∧
      Keeps (Av A η H) (Av A' (fun b => η (look r' b)) (hpGet (renH (look r) hh))) w w' := by
  have hget : ∀ b B, hpGet (renH (look r) hh) b = some B → ∃ c B0, hpGet hh c = some B0 ∧ b = look r c ∧ B = B0.ren (look r) := by
    intro b B hbb
    obtain ⟨c, hc, e⟩ := renH_key hbb
    have hinj : ∀ c ∈ keysH hh, ∀ c' ∈ keysH hh, look r c = look r c' → c = c' := fun c hc c' hc' e => by
      rw [← invOK_mem hr (List.mem_append_left _ hc), ← invOK_mem hr (List.mem_append_left _ hc'), e]
    have hex : ∃ B0, hpGet hh c = some B0 := by
      have : ∀ {l : List (Nat × ABlk)}, c ∈ keysH l → ∃ B0, hpGet l c = some B0 := by
        intro l
        induction l with
        | nil => intro h; simp [keysH] at h
        | cons p l ih =>
          obtain ⟨d, E⟩ := p
          intro h
          unfold hpGet
          by_cases e : c = d
          · exact ⟨E, if_pos e⟩
          · rw [if_neg e]
            refine ih ?_
            unfold keysH at h
            exact (List.mem_cons.1 h).resolve_left e
      exact this hc
    obtain ⟨B0, hB0⟩ := hex
    have := renH_at hinj hB0
    rw [← e, hbb] at this
    injection this with this
    exact ⟨c, B0, hB0, e, this⟩
  have hlive : ∀ q, Live (fun b => η (look r' b)) (hpGet (renH (look r) hh)) q → ∃ b B, hpGet hh b = some B ∧ B.mut = true ∧ hblk (η b) = some q := by
    rintro q ⟨b, B, h1, h2, h3⟩
    obtain ⟨c, B0, e1, rfl, rfl⟩ := hget b B h1
    rw [ren_mut] at h2
    simp only [invOK_mem hr (List.mem_append_left _ (keysH_get e1))] at h3
    exact ⟨c, B0, e1, h2, h3⟩
  have k : Keeps (Av A η H) (Av A' (fun b => η (look r' b)) (hpGet (renH (look r) hh))) w w' := by
    refine ⟨hb.size, fun q hq _ => hb.block q hq, fun q hq hc => ?_⟩
    rcases hc with hc | hc
    · exact hA q hq hc
    · obtain ⟨b, B, h1, h2, h3⟩ := hlive q hc
      exact .inr ⟨b, B, hs b B h1, h2, h3⟩
  refine ⟨⟨fun b B hbb => ?_, fun b b' B B' q hb1 hb2 hm hm' hq hq' => ?_, fun q hq => ⟨(hA2 q hq).1, fun hl => ?_⟩⟩, hlive, k⟩
  · obtain ⟨c, B0, e1, rfl, rfl⟩ := hget b B hbb
    simp only [invOK_mem hr (List.mem_append_left _ (keysH_get e1))]
    have h1 := RelBlk.step (K := []) (η' := η) (η := η) k (fun _ _ => rfl) (B := B0) (fun q hm hq => hb.block q (Live.lt h ⟨c, B0, hs c B0 e1, hm, hq⟩)) (h.blk c B0 (hs c B0 e1))
    rw [bclean_nil] at h1
    refine step_blk (A := Av A' (fun b => η (look r' b)) (hpGet (renH (look r) hh))) (fun _ h => h) (fun ty cs e b hb => ?_) h1
    subst e
    simp only [invOK_mem hr (List.mem_append_right _ (idsH_get (hmem _ _ e1) b hb))]
  · obtain ⟨c, B0, e1, rfl, rfl⟩ := hget b B hb1
    obtain ⟨c', B0', e1', rfl, rfl⟩ := hget b' B' hb2
    rw [ren_mut] at hm hm'
    simp only [invOK_mem hr (List.mem_append_left _ (keysH_get e1))] at hq
    simp only [invOK_mem hr (List.mem_append_left _ (keysH_get e1'))] at hq'
    rw [h.inj c c' B0 B0' q (hs _ _ e1) (hs _ _ e1') hm hm' hq hq']
  · obtain ⟨b, B, h1, h2, h3⟩ := hlive q hl
    exact (hA2 q hq).2 b B h1 h2 h3

/-- Behind the loop. -/
theorem LoopSt.out {hh : List (Nat × ABlk)} {r r' : List (Nat × Nat)} {ks : List Nat} (hn : tmps.size = n) (hfew : n ≤ 1000) (H : LoopSt L0 w0 tmps (renF (look r) l0) ηe Ms l (renH (look r) hh) g lp C I W ηr A1) (hnd : Ms.Nodup)
    (hout : outOK r r' ks (keysH hh) = true) (hks : ∀ c ∈ ks, handed c → look r' c = c → ηe c = w0.ηh c) :
    Rel n ds (fun q => A1 q ∨ w0.U q ∨ q ∈ Ms) L0 w0 (fun b => ηr (look r b)) ⟨fr l0, hpGet hh, g⟩ { tmps := tmps, defers := Ms.map mark ++ ds } W := by
  have hinj : ∀ c ∈ keysH hh, ∀ c' ∈ keysH hh, look r c = look r c' → c = c' := fun c hc c' hc' e => by
    rw [← (outOK_mem hout hc).1, ← (outOK_mem hout hc').1, e]
  have hat : ∀ {c B}, hpGet hh c = some B → hpGet (renH (look r) hh) (look r c) = some (B.ren (look r)) := fun hc => renH_at hinj hc
  have hlive : ∀ q, Live (fun b => ηr (look r b)) (hpGet hh) q → Live ηr (hpGet (renH (look r) hh)) q := fun q ⟨b, B, h1, h2, h3⟩ => ⟨_, _, hat h1, by rw [ren_mut]; exact h2, h3⟩
  have hsub : ∀ q, (A1 q ∨ w0.U q ∨ q ∈ Ms) → AR w0 Ms l A1 I q := fun q hq => by
    rcases hq with h1 | h1 | h1
    · exact .inl h1
    · exact .inr (.inl h1)
    · exact .inr (.inr (.inl h1))
  have hav : ∀ q, Av (fun q => A1 q ∨ w0.U q ∨ q ∈ Ms) (fun b => ηr (look r b)) (hpGet hh) q → Av (AR w0 Ms l A1 I) ηr (hpGet (renH (look r) hh)) q := fun q hq => hq.imp (hsub q) (hlive q)
  have k : Keeps (Av (AR w0 Ms l A1 I) ηr (hpGet (renH (look r) hh))) (Av (fun q => A1 q ∨ w0.U q ∨ q ∈ Ms) (fun b => ηr (look r b)) (hpGet hh)) W W := ⟨Nat.le_refl _, fun _ _ _ => rfl, fun q _ hq => hav q hq⟩
  refine ⟨hn, hfew, fun b hb hs => ?_, fun i => ?_, ⟨fun b B hb => ?_, fun b b' B B' q hb hb' hm hm' hq hq' => ?_, fun q hq => ⟨(H.hp.av q (hsub q hq)).1, fun hl => (H.hp.av q (hsub q hq)).2 (hlive q hl)⟩⟩, H.frm, fun q hq hlt => H.old q (hlive q hq) hlt, ⟨A1, Ms, rfl, hnd, fun M hM => ⟨(H.mks M hM).1, fun hc => (H.dis M hc).2.1 hM, (H.mks M hM).2⟩, fun q hq => (H.dis q hq).1, H.rds, fun _ => Iff.rfl, ?_, H.yl⟩⟩
  · obtain ⟨B, hB⟩ := Option.isSome_iff_exists.1 hs
    have hB2 := hat hB
    obtain ⟨h1, h2⟩ := outOK_mem hout (keysH_get hB)
    obtain ⟨h3, h4, h5⟩ := h2 hb
    have h6 := H.hd b hb (by rw [h3] at hB2; rw [hB2]; rfl)
    show ηr (look r b) = _
    rw [h3, h6]
    exact hks b h5 hb h4
  · have := H.tmp i
    rw [fr_renF] at this
    have h2 := unren_rep _ _ this
    exact RepV.step k _ _ (fun _ _ => rfl) h2
  · have h1 := unren_blk (H.hp.blk _ _ (hat hb))
    have h2 := RelBlk.step (K := []) (η' := fun b => ηr (look r b)) (η := fun b => ηr (look r b)) k (fun _ _ => rfl) (fun _ _ _ => rfl) h1
    rwa [bclean_nil] at h2
  · exact hinj b (keysH_get hb) b' (keysH_get hb') (H.hp.inj _ _ _ _ q (hat hb) (hat hb') (by rw [ren_mut]; exact hm) (by rw [ren_mut]; exact hm') hq hq')
  · refine g.cl _ _ _ _ _ H.know (Turns.refl _ _) fun q hq => .inl ?_
    rcases hq with h1 | h1 | h1
    · exact .inl (hlive q h1)
    · exact .inr (.inl h1)
    · exact .inr (.inr (.inl h1))

end
end Go.Proofs.Ytcijihofjcfpoab
