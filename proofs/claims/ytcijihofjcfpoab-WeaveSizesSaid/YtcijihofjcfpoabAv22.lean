/-
  The abstract machine, 22: ranges over functions: the rule. No program is named here.
-/
import Derived.Test.YtcijihofjcfpoabAv21
namespace Go.Proofs.Ytcijihofjcfpoab
open Go.RowKit

set_option linter.constructorNameAsVariable false
set_option linter.unusedVariables false
set_option linter.unusedSimpArgs false

def exCode : Exit → Code
  | .ret => .ret
  | .exit id => .exit id
  | _ => .skip
def isOut : Exit → Bool
  | .ret => true
  | .exit _ => true
  | _ => false

/-- Each is at the place where it is looked for. -/
def nodupK : List (Nat × ABlk) → Bool
  | [] => true
  | (c, _) :: r => !hasKey r c && nodupK r
theorem nodupK_mem : ∀ {h : List (Nat × ABlk)} {c : Nat} {B : ABlk}, hpGet h c = some B → (c, B) ∈ h := fun h => hpGet_mem h

theorem Below.alloc2 (w : World) (o : Obj) : Below w.heap.size w (w.alloc o) := (Below.refl _ _).alloc (Nat.le_refl _) _

section
variable {S R Y : Type} {P : Program} {n : Nat} {ro : Option Nat} {Q : Exit → ASt → Prop}

theorem AW.rangeF {gop : Operand} {ps : Array Tmp} {assign bd : Code} {gf : FuncId} {capv : List AVal} {l0 lc : List (Nat × AVal)} {hI : List (Nat × ABlk)} {h0 : S → List (Nat × ABlk)} {gg : S → Gh} {hx0 : R → List (Nat × ABlk)} {gx : R → Gh} {ex : R → Exit} {enc : Y → List AVal} {bodyP : Y → S → Option (Step S R)} (st0 : S) {r : Sum S R}
    (rI rI' rR rR' : List (Nat × Nat)) (hfn : n ≤ 1000)
    (hgop : (ASt.mk (fr lc) (hpGet (hI ++ h0 st0)) (gg st0)).ev gop = .fn (.func gf) [] capv)
    (hIC : IC P gf (renH (look rI) hI) (AVal.renL (look rI) capv) enc bodyP st0 r)
    (hl0 : fitsF (ASt.mk (fr lc) (hpGet (hI ++ h0 st0)) (gg st0)) l0)
    (hdis : ((keysH hI).all fun c => !hasKey (h0 st0) c) = true)
    (hrI : invOK rI rI' (keysH hI ++ idsH hI ++ AVal.idsL capv) = true) (hrR : invOK rR rR' (keysH (h0 st0) ++ idsH (h0 st0) ++ idsF l0) = true)
    (hk : ∀ st, keysH (h0 st) = keysH (h0 st0)) (hout : outOK rR rR' (keysH (h0 st0)) (keysH (h0 st0)) = true) (houtx : ∀ x, outOK rR rR' (keysH (h0 st0)) (keysH (hx0 x)) = true)
    (hid : ((idsF l0).all fun b => decide (1000 ≤ look rR b) && decide (look rR b < 2000) && hasKey (h0 st0) b) = true) (hidx : ∀ x, ((idsF l0).all fun b => hasKey (hx0 x) b) = true)
    (hex : ∀ x, isOut (ex x) = true)
    (henc : ∀ y, (enc y).length = ps.size) (hno : ∀ y, AVal.idsL (enc y) = []) (hpl : (ps.toList.all fun p => decide (p < n)) = true)
    (hyl : ∀ st st', (gg st).yl = (gg st').yl) (hylx : ∀ st x, (gx x).yl = (gg st).yl)
    (hround : ∀ l y st x, bodyP y st = some x → AW P (some l) n assign (fun e s1 => e = .normal ∧ AW P (some l) n bd (rpost (fun st => renH (look rR) (h0 st)) gg (fun x => renH (look rR) (hx0 x)) gx (fun x => exCode (ex x)) x) s1) ⟨fr (setF (ps.toList.zip (enc y)) (renF (look rR) l0)), hpGet (renH (look rR) (h0 st)), gg st⟩)
    (hQ : match (generalizing := false) r with
      | .inl st => Q .normal ⟨fr l0, hpGet (h0 st), gg st⟩
      | .inr x => Q (ex x) ⟨fr l0, hpGet (hx0 x), gx x⟩) : AW P ro n (.rangeFunc gop ps assign bd) Q ⟨fr lc, hpGet (hI ++ h0 st0), gg st0⟩ := by
  intro m ds A0 L0 w0 η a w hq0 hr
  obtain ⟨A1, Ms, k1, k2, k3, k7, k8, k4, k5, k6⟩ := hr.gh
  have hev := hr.ev gop
  rw [hgop] at hev
  unfold RepV at hev
  obtain ⟨pv, cv, hgv, hpv, hcv⟩ := hev
  unfold RepVs at hpv
  have hpv' : pv = #[] := Array.toList_eq_nil_iff.1 hpv
  subst hpv'
  -- the two parts of the memory
  have hH : ∀ b, (ASt.mk (fr lc) (hpGet (hI ++ h0 st0)) (gg st0)).H b = match hpGet hI b with | some B => some B | none => hpGet (h0 st0) b := fun b => hp_append _ _ _
  have hHI : ∀ b B, hpGet hI b = some B → (ASt.mk (fr lc) (hpGet (hI ++ h0 st0)) (gg st0)).H b = some B := fun b B hb => by rw [hH, hb]
  have hHR : ∀ b B, hpGet (h0 st0) b = some B → (ASt.mk (fr lc) (hpGet (hI ++ h0 st0)) (gg st0)).H b = some B := fun b B hb => by
    rw [hH]
    cases hc : hpGet hI b with
    | none => exact hb
    | some B' =>
      have := List.all_eq_true.1 hdis b (keysH_get hc)
      rw [hasKey_get.2 ⟨B, hb⟩] at this
      cases this
  have hnd : ∀ b B b' B' q, hpGet hI b = some B → hpGet (h0 st0) b' = some B' → B.mut = true → B'.mut = true → hblk (η b) = some q → hblk (η b') = some q → False := fun b B b' B' q hb hb' hm hm' hq hq' => by
    have := hr.hp.inj b b' B B' q (hHI b B hb) (hHR b' B' hb') hm hm' hq hq'
    subst this
    have h2 := List.all_eq_true.1 hdis b (keysH_get hb)
    rw [hasKey_get.2 ⟨B', hb'⟩] at h2
    cases h2
  have hA1 : ∀ q, A1 q → A0 q := fun q hq => (k4 q).2 (.inl hq)
  have hAU : ∀ q, w0.U q → A0 q := fun q hq => (k4 q).2 (.inr (.inl hq))
  have hAM : ∀ q ∈ Ms, A0 q := fun q hq => (k4 q).2 (.inr (.inr hq))
  have hiM : ∀ {b B q}, (ASt.mk (fr lc) (hpGet (hI ++ h0 st0)) (gg st0)).H b = some B → B.mut = true → hblk (η b) = some q → q < w.heap.size ∧ ¬ A0 q := fun {b B q} h1 h2 h3 => ⟨Live.lt hr.hp ⟨b, B, h1, h2, h3⟩, fun hc => (hr.hp.av q hc).2 ⟨b, B, h1, h2, h3⟩⟩
  have hrI1 : invOK rI rI' (keysH hI ++ idsH hI) = true := List.all_eq_true.2 fun c hc => List.all_eq_true.1 hrI c (List.mem_append_left _ hc)
  have hrR1 : invOK rR rR' (keysH (h0 st0) ++ idsH (h0 st0)) = true := List.all_eq_true.2 fun c hc => List.all_eq_true.1 hrR c (List.mem_append_left _ hc)
  -- whatever blocks the statement lays
  have core : ∀ (l : Nat) (Ms' : List Nat) (W1 : World) (fnid : FuncId) (dfb : Nat), Below w.heap.size w W1 → w.heap.size ≤ l → W1.heap[l]? = some (.loop (mkLoop fnid a.tmps ps assign bd dfb .ready none)) → l ∉ Ms' → Ms'.Nodup →
      (∀ M ∈ Ms', M ∈ Ms ∨ (w.heap.size ≤ M ∧ W1.heap[M]? = some (.deferred (some [])))) → (∀ M ∈ Ms, M ∈ Ms') → 
      CallsIn (fen ro) (m - 1) P gf (#[.func (.yield l) #[] #[]] ++ cv) W1 (rangePost (fen ro) m P l (RelQ n ds L0 w0 Q) { tmps := a.tmps, defers := Ms'.map mark ++ ds }) := by
    intro l Ms' W1 fnid dfb hB hl hrec hlM hMn hM' hMs
    have hltl : l < W1.heap.size := (Array.getElem?_eq_some_iff.1 hrec).1
    have hM1 : ∀ M ∈ Ms', w0.heap.size ≤ M ∧ W1.heap[M]? = some (.deferred (some [])) := fun M hM => by
      rcases hM' M hM with h1 | h1
      · exact ⟨(k3 M h1).1, (hB.block M (Array.getElem?_eq_some_iff.1 (k3 M h1).2.2).1).trans (k3 M h1).2.2⟩
      · exact ⟨Nat.le_trans hr.fr.size h1.1, h1.2⟩
    obtain ⟨LI, hLI⟩ : ∃ LI : Nat → Prop, LI = Live (fun b => η (look rI' b)) (hpGet (renH (look rI) hI)) := ⟨_, rfl⟩
    have hLI1 : ∀ q, LI q → ∃ b B, hpGet hI b = some B ∧ B.mut = true ∧ hblk (η b) = some q := by
      rw [hLI]
      rintro q ⟨b, B, h1, h2, h3⟩
      obtain ⟨c, B0, j1, j2, j3⟩ := renH_get _ h1
      obtain ⟨c', hc', e⟩ := renH_key h1
      have hinj : ∀ c ∈ keysH hI, ∀ c' ∈ keysH hI, look rI c = look rI c' → c = c' := fun c hc c' hc' e => by
        rw [← invOK_mem hrI1 (List.mem_append_left _ hc), ← invOK_mem hrI1 (List.mem_append_left _ hc'), e]
      have hex2 : ∀ {l : List (Nat × ABlk)}, c' ∈ keysH l → ∃ B0, hpGet l c' = some B0 := by
        intro l
        induction l with
        | nil => intro h; simp [keysH] at h
        | cons p l ih =>
          obtain ⟨d, E⟩ := p
          intro h
          unfold hpGet
          by_cases e : c' = d
          · exact ⟨E, if_pos e⟩
          · rw [if_neg e]
            refine ih ?_
            unfold keysH at h
            exact (List.mem_cons.1 h).resolve_left e
      obtain ⟨B1, hB1⟩ := hex2 hc'
      have h4 := renH_at hinj hB1
      rw [← e, h1] at h4
      injection h4 with h4
      subst h4
      rw [ren_mut] at h2
      subst e
      simp only [invOK_mem hrI1 (List.mem_append_left _ hc')] at h3
      exact ⟨c', B1, hB1, h2, h3⟩
    have hLIw : ∀ q, LI q → q < w.heap.size ∧ ¬ A0 q := fun q hq => by
      obtain ⟨b, B, h1, h2, h3⟩ := hLI1 q hq
      exact hiM (hHI b B h1) h2 h3
    have hLIlive : ∀ q, LI q → Live η (ASt.mk (fr lc) (hpGet (hI ++ h0 st0)) (gg st0)).H q := fun q hq => by
      obtain ⟨b, B, h1, h2, h3⟩ := hLI1 q hq
      exact ⟨b, B, hHI b B h1, h2, h3⟩
    -- the function's part
    obtain ⟨p1, p2, p3⟩ := relH_part (A' := AR w0 Ms' l A1 LI) (w' := W1) hr.hp (hh := h0 st0) hHR hB hrR1 (fun b B h => hpGet_mem h) (by
      rintro q hq (h1 | h1 | h1 | h1 | h1)
      · exact .inl (hA1 q h1)
      · exact .inl (hAU q h1)
      · rcases hM' q h1 with h2 | h2
        · exact .inl (hAM q h2)
        · omega
      · exact .inr (hLIlive q h1)
      · omega) (by
      intro q hq
      constructor
      · have := hB.size
        rcases hq with h1 | h1 | h1 | h1 | h1
        · have := (hr.hp.av q (hA1 q h1)).1; omega
        · have := (hr.hp.av q (hAU q h1)).1; omega
        · exact (Array.getElem?_eq_some_iff.1 (hM1 q h1).2).1
        · have := (hLIw q h1).1; omega
        · omega
      · intro b B hb hm hq2
        obtain ⟨j1, j2⟩ := hiM (hHR b B hb) hm hq2
        rcases hq with h1 | h1 | h1 | h1 | h1
        · exact j2 (hA1 q h1)
        · exact j2 (hAU q h1)
        · rcases hM' q h1 with h2 | h2
          · exact j2 (hAM q h2)
          · omega
        · obtain ⟨b', B', i1, i2, i3⟩ := hLI1 q h1
          exact hnd b' B' b B q i1 hb i2 hm i3 hq2
        · omega)
    -- the iterator's part
    obtain ⟨q1, q2, q3⟩ := relH_part (A' := fun q => Live (fun b => η (look rR' b)) (hpGet (renH (look rR) (h0 st0))) q ∨ A1 q ∨ w0.U q ∨ q ∈ Ms' ∨ q = l) (w' := W1) hr.hp (hh := hI) hHI hB hrI1 (fun b B h => hpGet_mem h) (by
      rintro q hq (h1 | h1 | h1 | h1 | h1)
      · obtain ⟨b, B, i1, i2, i3⟩ := p2 q h1
        exact .inr ⟨b, B, hHR b B i1, i2, i3⟩
      · exact .inl (hA1 q h1)
      · exact .inl (hAU q h1)
      · rcases hM' q h1 with h2 | h2
        · exact .inl (hAM q h2)
        · omega
      · omega) (by
      intro q hq
      constructor
      · have := hB.size
        rcases hq with h1 | h1 | h1 | h1 | h1
        · obtain ⟨b, B, i1, i2, i3⟩ := p2 q h1
          have := (hiM (hHR b B i1) i2 i3).1; omega
        · have := (hr.hp.av q (hA1 q h1)).1; omega
        · have := (hr.hp.av q (hAU q h1)).1; omega
        · exact (Array.getElem?_eq_some_iff.1 (hM1 q h1).2).1
        · omega
      · intro b B hb hm hq2
        obtain ⟨j1, j2⟩ := hiM (hHI b B hb) hm hq2
        rcases hq with h1 | h1 | h1 | h1 | h1
        · obtain ⟨b', B', i1, i2, i3⟩ := p2 q h1
          exact hnd b B b' B' q hb i1 hm i2 hq2 i3
        · exact j2 (hA1 q h1)
        · exact j2 (hAU q h1)
        · rcases hM' q h1 with h2 | h2
          · exact j2 (hAM q h2)
          · omega
        · omega)
    have hfl := fitsF_get hl0
    have H0 : LoopSt L0 w0 a.tmps (renF (look rR) l0) (fun b => η (look rR' b)) Ms' l (renH (look rR) (h0 st0)) (gg st0) (mkLoop fnid a.tmps ps assign bd dfb .ready none)
        (fun q => Live (fun b => η (look rR' b)) (hpGet (renH (look rR) (h0 st0))) q ∨ A1 q ∨ w0.U q ∨ q ∈ Ms' ∨ q = l) LI W1 (fun b => η (look rR' b)) A1 := by
      have hfs := hB.size
      refine ⟨fun q => Iff.rfl, p1, fun i => ?_, fun _ _ _ => rfl, ⟨hB.os.trans hr.fr.os, hB.tape.trans hr.fr.tape, hB.output.trans hr.fr.output, Nat.le_trans hr.fr.size hB.size, fun q hq hn => (hB.block q (Nat.lt_of_lt_of_le hq hr.fr.size)).trans (hr.fr.heap q hq hn)⟩,
        fun q hq hlt => ?_, fun q hq hlt => hr.old q (hLIlive q hq) hlt, hM1, fun q hq => ⟨k7 q hq, fun hc => ?_, fun hc => (hLIw q hc).2 (hA1 q hq), fun hc => ?_⟩, ⟨fun hc => ?_, fun M hM hc => ?_, fun q hq hc => (hLIw q hc).2 (hAU q hq)⟩, hlM, fun hc => ?_, hrec, Nat.le_trans hr.fr.size hl, ?_, ?_, k6⟩
      · rw [fr_renF]
        have ht := hr.tmp i
        rcases hfl i with h1 | h1
        · rw [h1]; unfold AVal.ren RepV; trivial
        · have h2 := RepV.step (η' := η) p3 _ _ (fun _ _ => rfl) ht
          rw [← h1] at h2
          exact ren_rep _ _ (fun b hb => by
            show η (look rR' (look rR b)) = η b
            rw [invOK_mem hrR (List.mem_append_right _ (idsF_fr hb))]) h2
      · obtain ⟨b, B, i1, i2, i3⟩ := p2 q hq
        exact hr.old q ⟨b, B, hHR b B i1, i2, i3⟩ hlt
      · rcases hM' q hc with h1 | h1
        · exact (k3 q h1).2.1 hq
        · have := (hr.hp.av q (hA1 q hq)).1; omega
      · have := (hr.hp.av q (hA1 q hq)).1; omega
      · have := (hLIw l hc).1; omega
      · rcases hM' M hM with h1 | h1
        · exact (hLIw M hc).2 (hAM M h1)
        · have := (hLIw M hc).1; omega
      · have := (hr.hp.av l (hAU l hc)).1; omega
      · intro q rr hq
        obtain ⟨j1, j2⟩ := k8 q rr hq
        exact ⟨j1, (hB.block q (Array.getElem?_eq_some_iff.1 j2).1).trans j2⟩
      · refine (gg st0).cl _ _ _ _ _ k5 ⟨hB.os, hB.tape, hB.output, hB.size, fun q hq _ => hB.block q hq⟩ fun q hq => ?_
        rcases hq with h1 | h1 | h1 | h1 | h1
        · obtain ⟨b, B, i1, i2, i3⟩ := p2 q h1
          exact .inl (.inl ⟨b, B, hHR b B i1, i2, i3⟩)
        · exact .inl (.inr (.inl h1))
        · rcases hM' q h1 with h2 | h2
          · exact .inl (.inr (.inr h2))
          · exact .inr ⟨h2.1, (Array.getElem?_eq_some_iff.1 h2.2).1⟩
        · exact .inl (.inl (hLIlive q h1))
        · subst h1; exact .inr ⟨hl, hltl⟩
    have hkr : ∀ {hh : List (Nat × ABlk)} {b : Nat}, hasKey hh b = true → (hpGet (renH (look rR) hh) (look rR b)).isSome = true := fun hk => renH_has _ hk
    have hkk : ∀ {h1 h2 : List (Nat × ABlk)} {b : Nat}, keysH h1 = keysH h2 → hasKey h1 b = hasKey h2 b := by
      intro h1
      induction h1 with
      | nil => intro h2 b e; cases h2 with
        | nil => rfl
        | cons p r => obtain ⟨d, E⟩ := p; simp [keysH] at e
      | cons p r ih => intro h2 b e; cases h2 with
        | nil => obtain ⟨d, E⟩ := p; simp [keysH] at e
        | cons p2 r2 =>
          obtain ⟨d, E⟩ := p
          obtain ⟨d2, E2⟩ := p2
          simp only [keysH, List.cons.injEq] at e
          simp only [hasKey, e.1, ih e.2]
    have hY := yield_of_rounds (P := P) (n := n) (L0 := L0) (w0 := w0) (tmps := a.tmps) (l0 := renF (look rR) l0) (ηe := fun b => η (look rR' b)) (Ms := Ms') (l := l) (enc := enc) (bodyP := bodyP) (h := fun st => renH (look rR) (h0 st)) (gg := gg) (hx := fun x => renH (look rR) (hx0 x)) (gx := gx) (code := fun x => exCode (ex x)) (ps := ps) (assign := assign) (bd := bd) (fnid := fnid) (dfb := dfb) hr.size hfn henc
      (fun y b => by
        cases hc : AVal.hasL (enc y) b with
        | false => rfl
        | true =>
          have := mem_idsL _ _ hc
          rw [hno y] at this; simp at this) (fun p hp => by simpa using List.all_eq_true.1 hpl p hp) hyl hylx
      (fun i b hb => by
        rw [fr_renF] at hb
        have hmem := mem_ids _ _ hb
        obtain ⟨b0, hb0, e⟩ : ∃ b0 ∈ (fr l0 i).ids, b = look rR b0 := ids_ren _ hmem
        subst e
        have hb1 := List.all_eq_true.1 hid b0 (idsF_fr hb0)
        simp only [Bool.and_eq_true, decide_eq_true_eq] at hb1
        refine ⟨⟨hb1.1.1, hb1.1.2⟩, fun st => hkr (by rw [hkk (hk st)]; exact hb1.2), fun x => hkr ?_⟩
        exact List.all_eq_true.1 (hidx x) b0 (idsF_fr hb0)) (hround l)
    have hcv2 : RepVs (fun b => η (look rI' b)) W1 (Av (fun q => Live (fun b => η (look rR' b)) (hpGet (renH (look rR) (h0 st0))) q ∨ A1 q ∨ w0.U q ∨ q ∈ Ms' ∨ q = l) (fun b => η (look rI' b)) (hpGet (renH (look rI) hI))) (AVal.renL (look rI) capv) cv.toList :=
      ren_repL _ _ (fun b hb => by
        show η (look rI' (look rI b)) = η b
        rw [invOK_mem hrI (List.mem_append_right _ hb)]) (RepVs.step (η' := η) q3 _ _ (fun _ _ => rfl) hcv)
    have hcall := hIC.2 _ _ (fun _ => rfl) (fun _ => rfl) l hY _ _ W1 cv q1 hcv2 (by
      rw [← hLI]
      exact ⟨_, _, H0⟩)
    refine callsIn_fen (m := 0) ((callsIn_wide.2 hcall).mono ?_)
    rintro e w' ⟨⟨v, rfl⟩, C1, I1, _, hJ⟩
    have hks : ∀ c ∈ keysH (h0 st0), handed c → look rR' c = c → η (look rR' c) = w0.ηh c := fun c hc hh e => by
      rw [e]
      refine hr.hd c hh ?_
      have : ∃ B, hpGet (h0 st0) c = some B := hasKey_get.1 (by
        have : ∀ {l : List (Nat × ABlk)}, c ∈ keysH l → hasKey l c = true := by
          intro l
          induction l with
          | nil => intro h; simp [keysH] at h
          | cons p l ih =>
            obtain ⟨d, E⟩ := p
            intro h
            unfold keysH at h
            unfold hasKey
            rcases List.mem_cons.1 h with h | h
            · subst h; simp
            · rw [ih h]; simp
        exact this hc)
      obtain ⟨B, hB2⟩ := this
      rw [hHR c B hB2]; rfl
    cases r with
    | inl st =>
      obtain ⟨ηr, A2, H⟩ := hJ
      have hend := run_endLoop (P := P) H.rcd (by simp [mkLoop])
      refine ⟨_, _, hend, ?_⟩
      exact ⟨_, _, _, hQ, (H.putl _).out (ds := ds) (ks := keysH (h0 st0)) hr.size hfn hMn (by rw [hk st]; exact hout) hks⟩
    | inr x =>
      obtain ⟨ηr, A2, H⟩ := hJ
      have hend := run_endLoop (P := P) H.rcd (by simp [mkLoop])
      refine ⟨_, _, hend, ?_⟩
      have hrel := (H.putl { mkLoop fnid a.tmps ps assign bd dfb .done (some (exCode (ex x))) with state := .exhausted }).out (ds := ds) (ks := keysH (h0 st0)) hr.size hfn hMn (houtx x) hks
      have hx := hex x
      have hQ' : Q (ex x) ⟨fr l0, hpGet (hx0 x), gx x⟩ := hQ
      show (exCode (ex x)).wpIn (fen ro) m P _ _ _
      cases hxx : ex x with
      | ret => rw [hxx] at hQ'; exact wpIn_ret ⟨_, _, _, hQ', hrel⟩
      | exit id => rw [hxx] at hQ'; exact wpIn_exit ⟨_, _, _, hQ', hrel⟩
      | normal => rw [hxx] at hx; cases hx
      | goto _ => rw [hxx] at hx; cases hx
      | panic _ => rw [hxx] at hx; cases hx
      | outgrown => rw [hxx] at hx; cases hx
  -- the two kinds of frames
  have hres : ∀ (l : Nat) (W : World), (resolve a.eval (rangeCall gop l) 0).run P W = .ok { target := .fn (.func gf) cv, args := #[.func (.yield l) #[] #[]] } W := fun l W => by
    simp only [resolve, rangeCall, hgv]
    simp [Deferred.ofValue, hgv, Act.eval]
  refine wpIn_rangeFunc ?_
  intro fnid _
  cases ro with
  | none =>
    obtain ⟨W1, hW1⟩ : ∃ W1, (w.alloc (.deferred (some []))).alloc (.loop (mkLoop fnid a.tmps ps assign bd w.heap.size .ready none)) = W1 := ⟨_, rfl⟩
    refine ⟨w.heap.size + 1, [mark w.heap.size], W1, _, W1, gf, #[.func (.yield (w.heap.size + 1)) #[] #[]] ++ cv, W1, ?_, hres _ _, fun f' _ => fen_fn none f', ?_, fun h => by simp [fen, Fence.wide] at h, ?_⟩
    · rw [← hW1]; exact run_enterLoop_outer _ _ _ _ _
    · simp only [invoke]; exact run_callFunc hIC.1 _
    · have := core (w.heap.size + 1) (w.heap.size :: Ms) W1 fnid w.heap.size (by rw [← hW1]; exact ((Below.refl _ w).alloc (Nat.le_refl _) _).alloc (by simp) _) (by omega)
        (by rw [← hW1]; have := World.alloc_heap_new (w.alloc (.deferred (some []))) (.loop (mkLoop fnid a.tmps ps assign bd w.heap.size .ready none)); rwa [World.size_alloc] at this)
        (fun hc => by
          rcases List.mem_cons.1 hc with h1 | h1
          · omega
          · have := (Array.getElem?_eq_some_iff.1 (k3 _ h1).2.2).1; omega)
        (List.nodup_cons.2 ⟨fun hc => by have := (Array.getElem?_eq_some_iff.1 (k3 _ hc).2.2).1; omega, k2⟩)
        (fun M hM => by
          rcases List.mem_cons.1 hM with h1 | h1
          · subst h1
            refine .inr ⟨Nat.le_refl _, ?_⟩
            rw [← hW1]
            exact (Below.heap_alloc _ _ _ (by simp)).trans (World.alloc_heap_new w _)
          · exact .inl h1) (fun M hM => List.mem_cons_of_mem _ hM)
      rw [List.map_cons, List.cons_append, ← k1] at this
      exact this
  | some l1 =>
    obtain ⟨⟨q, rr⟩, hrd, e⟩ : ∃ p, w0.rd = some p ∧ p.1 = l1 := by
      cases hrd : w0.rd with
      | none => rw [hrd] at hq0; cases hq0
      | some p => rw [hrd] at hq0; exact ⟨p, rfl, by simpa using hq0⟩
    simp only at e
    subst e
    obtain ⟨j1, j2⟩ := k8 q rr hrd
    obtain ⟨W1, hW1⟩ : ∃ W1, w.alloc (.loop (mkLoop fnid a.tmps ps assign bd rr.defers .ready none)) = W1 := ⟨_, rfl⟩
    refine ⟨w.heap.size, [], W1, _, W1, gf, #[.func (.yield w.heap.size) #[] #[]] ++ cv, W1, ?_, hres _ _, fun f' _ => fen_fn _ f', ?_, fun h => by simp [fen, Fence.wide] at h, ?_⟩
    · rw [← hW1]; exact run_enterLoop_inner j2 _ _ _ _ _
    · simp only [invoke]; exact run_callFunc hIC.1 _
    · have := core w.heap.size Ms W1 fnid rr.defers (by rw [← hW1]; exact (Below.refl _ w).alloc (Nat.le_refl _) _) (Nat.le_refl _)
        (by rw [← hW1]; exact World.alloc_heap_new w _) (fun hc => by have := (Array.getElem?_eq_some_iff.1 (k3 _ hc).2.2).1; omega) k2 (fun M hM => .inl hM) (fun M hM => hM)
      rw [← k1] at this
      exact this

end
end Go.Proofs.Ytcijihofjcfpoab
