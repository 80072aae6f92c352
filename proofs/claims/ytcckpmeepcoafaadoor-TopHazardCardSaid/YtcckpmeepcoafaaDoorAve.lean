/-
  The abstract machine: rows of rows of the call's own, that are written in place. No program is named here.
-/
import Derived.Test.YtcckpmeepcoafaaDoorAvd
namespace Go.Proofs.YtcckpmeepcoafaaDoor
open Go.RowKit

set_option linter.constructorNameAsVariable false
set_option linter.unusedSimpArgs false
set_option linter.unusedVariables false

/-! ### Names of the rows of a row -/

/-- The name of row i of row b: chosen, so that nobody computes with it. -/
theorem inm_ex : ∃ f : Nat → Nat → Nat, ∀ b i, f b i = (i + 1) * 1000000 + b := ⟨fun b i => (i + 1) * 1000000 + b, fun _ _ => rfl⟩
noncomputable def inm : Nat → Nat → Nat := Classical.choose inm_ex
theorem inm_eq (b i : Nat) : inm b i = (i + 1) * 1000000 + b := Classical.choose_spec inm_ex b i
noncomputable def rowsC (b n : Nat) : List AVal := (List.range n).map fun i => .own (inm b i)
noncomputable def rowsL (b : Nat) (e : TypeId) (t : Ty) (xss : List (List (El t))) : List (Nat × ABlk) := (List.range xss.length).map fun i => (inm b i, .arr e t (xss.getD i []))

/-- All names are names of no row of a row. -/
def smallH (h : List (Nat × ABlk)) : Bool := h.all (fun p => decide (p.1 < 1000000))
def smallI (l : List Nat) : Bool := l.all (fun b => decide (b < 1000000))

theorem inm_inj {b i j : Nat} (h : inm b i = inm b j) : i = j := by rw [inm_eq, inm_eq] at h; omega
theorem inm_big (b i : Nat) : 1000000 ≤ inm b i := by rw [inm_eq]; omega

theorem rowsC_len (b n : Nat) : (rowsC b n).length = n := by simp [rowsC]
theorem rowsC_get {b n i : Nat} (h : i < n) : (rowsC b n)[i]? = some (.own (inm b i)) := by simp [rowsC, h]

theorem hpGet_map {b : Nat} (f : Nat → ABlk) : ∀ (l : List Nat) (c : Nat), hpGet (l.map fun i => (inm b i, f i)) c = (l.find? fun i => decide (c = inm b i)).map f
  | [], c => rfl
  | i :: r, c => by
    rw [List.map_cons]
    unfold hpGet
    by_cases h : c = inm b i
    · rw [if_pos h, List.find?_cons_of_pos (by simpa using h)]; rfl
    · rw [if_neg h, List.find?_cons_of_neg (by simpa using h)]; exact hpGet_map f r c

theorem find_range {n i : Nat} {p : Nat → Bool} (hi : i < n) (hp : p i = true) (hu : ∀ j, p j = true → j = i) : (List.range n).find? p = some i := by
  rw [List.find?_range_eq_some]
  refine ⟨hp, by simpa using hi, fun j hj => ?_⟩
  cases hc : p j with
  | false => rfl
  | true => have := hu j hc; omega

theorem hpGet_rows_at {b : Nat} {e : TypeId} {t : Ty} {xss : List (List (El t))} {i : Nat} (hi : i < xss.length) : hpGet (rowsL b e t xss) (inm b i) = some (.arr e t (xss.getD i [])) := by
  unfold rowsL
  rw [hpGet_map (fun i => ABlk.arr e t (xss.getD i []))]
  rw [find_range hi (by simp) (fun j hj => (inm_inj (by simpa using hj)).symm)]; rfl

theorem hpGet_rows {b : Nat} {e : TypeId} {t : Ty} {xss : List (List (El t))} {c : Nat} {B : ABlk} (h : hpGet (rowsL b e t xss) c = some B) : ∃ i, i < xss.length ∧ c = inm b i ∧ B = .arr e t (xss.getD i []) := by
  unfold rowsL at h
  rw [hpGet_map (fun i => ABlk.arr e t (xss.getD i []))] at h
  cases hf : (List.range xss.length).find? (fun i => decide (c = inm b i)) with
  | none => rw [hf] at h; cases h
  | some i =>
    rw [hf] at h
    injection h with h
    have h1 := List.find?_some hf
    have h2 := List.mem_of_find?_eq_some hf
    exact ⟨i, by simpa using h2, by simpa using h1, h.symm⟩

theorem hpGet_rows_none {b : Nat} {e : TypeId} {t : Ty} {xss : List (List (El t))} {c : Nat} (h : ∀ i, i < xss.length → c ≠ inm b i) : hpGet (rowsL b e t xss) c = none := by
  cases hc : hpGet (rowsL b e t xss) c with
  | none => rfl
  | some B => obtain ⟨i, hi, e1, _⟩ := hpGet_rows hc; exact absurd e1 (h i hi)

theorem hpGet_small {h : List (Nat × ABlk)} (hs : smallH h = true) {c : Nat} (hc : 1000000 ≤ c) : hpGet h c = none := by
  induction h with
  | nil => rfl
  | cons p r ih =>
    obtain ⟨b, B⟩ := p
    unfold smallH at hs
    simp only [List.all_cons, Bool.and_eq_true, decide_eq_true_eq] at hs
    unfold hpGet
    rw [if_neg (by omega)]
    exact ih hs.2

theorem hpGet_rows_small {b : Nat} {e : TypeId} {t : Ty} {xss : List (List (El t))} {c : Nat} (hc : c < 1000000) : hpGet (rowsL b e t xss) c = none :=
  hpGet_rows_none fun i _ hi => by have := inm_big b i; omega

theorem hpGet_two_small {h : List (Nat × ABlk)} {b : Nat} {e : TypeId} {t : Ty} {xss : List (List (El t))} {c : Nat} (hc : c < 1000000) : hpGet (h ++ rowsL b e t xss) c = hpGet h c := by
  rw [hp_append, hpGet_rows_small hc]
  cases hpGet h c <;> rfl

theorem hpGet_two_at {h : List (Nat × ABlk)} (hs : smallH h = true) {b : Nat} {e : TypeId} {t : Ty} {xss : List (List (El t))} {i : Nat} (hi : i < xss.length) : hpGet (h ++ rowsL b e t xss) (inm b i) = some (.arr e t (xss.getD i [])) := by
  rw [hp_append, hpGet_small hs (inm_big b i), hpGet_rows_at hi]

theorem hpGet_two_big {h : List (Nat × ABlk)} (hs : smallH h = true) {b : Nat} {e : TypeId} {t : Ty} {xss : List (List (El t))} {c : Nat} (hc : 1000000 ≤ c) : hpGet (h ++ rowsL b e t xss) c = hpGet (rowsL b e t xss) c := by
  rw [hp_append, hpGet_small hs hc]

/-- Names that a value does not speak of take nothing from it. -/
theorem clean_extra {x : AVal} {K L : List Nat} (h : ∀ b ∈ x.ids, b ∉ L) : x.clean (K ++ L) = x.clean K := by
  unfold AVal.clean
  have : (K ++ L).any (fun b => x.has b) = K.any fun b => x.has b := by
    rw [List.any_append]
    have : L.any (fun b => x.has b) = false := by
      rw [List.any_eq_false]
      intro b hb hx
      exact h b (mem_ids x b hx) hb
    rw [this, Bool.or_false]
  rw [this]

theorem cleanL_extra {K L : List Nat} : ∀ {l : List AVal}, (∀ b ∈ AVal.idsL l, b ∉ L) → l.map (AVal.clean (K ++ L)) = l.map (AVal.clean K)
  | [], _ => rfl
  | x :: r, h => by
    have h' : ∀ b, (b ∈ x.ids ∨ b ∈ AVal.idsL r) → b ∉ L := fun b hb => h b (by
      show b ∈ x.ids ++ AVal.idsL r
      exact List.mem_append.2 hb)
    rw [List.map_cons, List.map_cons, clean_extra fun b hb => h' b (.inl hb), cleanL_extra fun b hb => h' b (.inr hb)]

theorem fr_ids {l : List (Nat × AVal)} {L : List Nat} (h : ∀ b ∈ idsF l, b ∉ L) (i : Nat) : ∀ b ∈ (fr l i).ids, b ∉ L := fun b hb => h b (idsF_fr hb)

theorem bclean_extra {h : List (Nat × ABlk)} {K L : List Nat} (hi : ∀ b ∈ idsH h, b ∉ L) {c : Nat} {B : ABlk} (hg : hpGet h c = some B) : B.clean (K ++ L) = B.clean K := by
  cases B with
  | box ty cs =>
    simp only [ABlk.clean]
    rw [cleanL_extra fun b hb => hi b (idsH_get (.inl (hpGet_mem hg)) b hb)]
  | obx ty cs =>
    simp only [ABlk.clean]
    rw [cleanL_extra fun b hb => hi b (idsH_get (.inr (hpGet_mem hg)) b hb)]
  | arr => rfl
  | imm => rfl
  | map => rfl

theorem smallI_not {l L : List Nat} (hs : smallI l = true) (hL : ∀ b ∈ L, 1000000 ≤ b) : ∀ b ∈ l, b ∉ L := fun b hb hc => by
  have h1 := List.all_eq_true.1 hs b hb
  have h2 := hL b hc
  simp only [decide_eq_true_eq] at h1
  omega

noncomputable def inms (b n : Nat) : List Nat := (List.range n).map (inm b)
theorem inms_big (b n : Nat) : ∀ c ∈ inms b n, 1000000 ≤ c := fun c hc => by
  obtain ⟨i, _, rfl⟩ := List.mem_map.1 hc
  exact inm_big b i
theorem inms_mem {b n c : Nat} : c ∈ inms b n ↔ ∃ i, i < n ∧ c = inm b i := by
  unfold inms
  rw [List.mem_map]
  constructor
  · rintro ⟨i, hi, rfl⟩; exact ⟨i, by simpa using hi, rfl⟩
  · rintro ⟨i, hi, rfl⟩; exact ⟨i, by simpa using hi, rfl⟩

section
variable {P : Program} {T : Tab} {n : Nat} {ds : List Deferred} {A0 L0 : Nat → Prop} {w0 : Old} {η : Nat → Value} {s : ASt} {a : Act} {w : World}

/-- Some names less are said: the same blocks otherwise. -/
theorem Rel.same (h : Rel n ds A0 L0 w0 η s a w) {s' : ASt} (h1 : ∀ i, s'.σ i = s.σ i) (h2 : ∀ b, s'.H b = s.H b) (h3 : s'.g = s.g) : Rel n ds A0 L0 w0 η s' a w := by
  have e1 : s'.σ = s.σ := funext h1
  have e2 : s'.H = s.H := funext h2
  cases s; cases s'
  simp only at e1 e2 h3
  subst e1 e2 h3
  exact h

variable {ro : Option Nat} {Q : Exit → ASt → Prop} {g : Gh} {o : Oper} {ops rs : List Oper} {l : List (Nat × AVal)} {h : List (Nat × ABlk)}

/-- A new row of rows, all nil. -/
theorem AO.rowsMake (hT : TabOK P T) {d : Nat} {to eo ei : TypeId} {io ie ii : TInfo} {τ : Ty} {len cap : Operand} {N : Int} (hdst : o.dst = some d) (hd : dstOK n [o] = true) (hfew : d < 1000) (hg : o.guard = none) (ho : o.op = .makeSlice to len cap)
    (t1 : T to = some io) (d1 : io.desc = .sl eo) (t2 : T eo = some ie) (z2 : ie.zero = [.slice none 0 0]) (s2 : ie.size = 1) (hl : (ASt.mk (fr l) (hpGet h) g).ev len = .int .i64 N) (hc : (ASt.mk (fr l) (hpGet h) g).ev cap = .int .i64 N)
    (h0 : 0 ≤ N) (hby : ie.bytes * N ≤ 281474976710656) (hmx : N ≤ 9223372036854775807) (hs1 : smallH h = true) (hs2 : smallI (idsF l) = true) (hs3 : smallI (idsH h) = true)
    (h2 : AO P ro n ops rs Q ⟨fr ((d, .own d) :: cleanF [d] l), hpGet (((d, .obx eo (rowsC d (List.replicate N.toNat ([] : List (El τ))).length)) :: cleanH [d] h) ++ rowsL d ei τ (List.replicate N.toNat ([] : List (El τ)))), g⟩) :
    AO P ro n ops (o :: rs) Q ⟨fr l, hpGet h, g⟩ := by
  intro m ds A0 L0 w0 η a w hq0 hr
  have hte := hT eo ie t2
  obtain ⟨info, z, dd, hi, hsz, hbyt, hz, hzz, _⟩ := hte.ex
  have hev := hr.ev len
  have hcv := hr.ev cap
  rw [hl] at hev
  rw [hc] at hcv
  unfold RepV at hev hcv
  have hrun := run_make (P := P) w to eo info z ((hT to io t1).slice d1) hi hz .i64 .i64 N N h0 (Int.le_refl _) (by rw [hbyt]; exact hby) hmx
  rw [hsz, s2, Nat.mul_one] at hrun
  have hzs : z.cells.size = 1 := by
    have := hte.zsize
    rw [← hzz, s2] at this
    simpa using this
  unfold wpListIn
  rw [if_pos (op_guard hg _)]
  generalize hcur : madeCells z.cells N.toNat = cur at hrun
  have hcs : cur.size = N.toNat := by rw [← hcur]; exact size_madeCells _ _
  refine wpIn_value (u := .slice (some ⟨w.heap.size, 0, none⟩) N.toNat N.toNat) (w' := w.alloc (.cells cur eo)) (by simp [ho]) (by simp [execOp, ho, hev, hcv, hrun]) ?_
  have hcell : ∀ i, i < N.toNat → cur[i]? = some (Value.slice none 0 0) := fun i hi => by
    have hz0 : z.cells[0]? = some (Value.slice none 0 0) := by
      have := congrArg (fun l => l[0]?) hzz
      rw [z2] at this
      simpa using this
    have hmod : i % z.cells.size = 0 := by rw [hzs]; omega
    rw [← hcur]
    simp only [madeCells, Array.getElem?_map, Array.getElem?_range, hi, if_true, Option.map_some, hmod]
    rw [getElem!_def, hz0]
  have hrep : (List.replicate N.toNat ([] : List (El τ))).length = N.toNat := List.length_replicate
  rw [hrep] at h2
  obtain ⟨η', hη'⟩ : ∃ η' : Nat → Value, η' = fun b => if b = d then .slice (some ⟨w.heap.size, 0, none⟩) N.toNat N.toNat else if b ∈ inms d N.toNat then .slice none 0 0 else η b := ⟨_, rfl⟩
  have ed : η' d = .slice (some ⟨w.heap.size, 0, none⟩) N.toNat N.toNat := by rw [hη']; simp
  have ei' : ∀ i, i < N.toNat → η' (inm d i) = .slice none 0 0 := fun i hi => by
    have hne : inm d i ≠ d := by have := inm_big d i; omega
    rw [hη']; simp only [hne, if_false, inms_mem.2 ⟨i, hi, rfl⟩, if_true]
  have eo' : ∀ b, b ≠ d → b ∉ inms d N.toNat → η' b = η b := fun b h1 h2 => by rw [hη']; simp only [h1, h2, if_false]
  have hrL : ∀ c B, hpGet (rowsL d ei τ (List.replicate N.toNat ([] : List (El τ)))) c = some B → ∃ i, i < N.toNat ∧ c = inm d i ∧ B = .arr ei τ [] := fun c B hB => by
    obtain ⟨i, h1, h2, h3⟩ := hpGet_rows hB
    rw [hrep] at h1
    exact ⟨i, h1, h2, by rw [h3, List.getD_eq_getElem?_getD, List.getElem?_replicate, if_pos h1]; rfl⟩
  refine h2 m ds A0 L0 w0 η' _ _ hq0 ?_
  have hrel : Rel n ds A0 L0 w0 η' ((ASt.mk (fr l) (hpGet h) g).app (some d) { v := .own d, kill := [d] ++ inms d N.toNat, hp := (d, .obx eo (rowsC d N.toNat)) :: rowsL d ei τ (List.replicate N.toNat ([] : List (El τ))) }) (a.put (some d) (.slice (some ⟨w.heap.size, 0, none⟩) N.toNat N.toNat)) (w.alloc (.cells cur eo)) := by
    refine hr.effN (fun b => b = d ∨ b ∈ inms d N.toNat) (fun i hi => dst_lt hd i (by rw [hdst]; exact hi)) (fun b hb => ?_) ⟨rfl, rfl, rfl⟩ (by simp) (fun g hg => .inl (heap_alloc_old _ _ _ hg)) ?_ ?_ ?_ ?_ ?_ ?_ ?_
    · simp only [List.contains_eq_mem, decide_eq_false_iff_not, List.mem_append, List.mem_singleton, not_or] at hb
      exact eo' b hb.1 hb.2
    · intro b B g' hb hm hgb
      simp only [hpGet] at hb
      split at hb
      · rename_i e; subst e
        rw [ed] at hgb
        injection hgb with hgb
        exact .inr ⟨Nat.le_of_eq hgb, .inl rfl⟩
      · obtain ⟨i, h1, h2, _⟩ := hrL _ _ hb
        subst h2
        rw [ei' i h1] at hgb; cases hgb
    · intro b b' B B' g' hb hb' _ _ _ _ hg1 hg2
      have key : ∀ c, (c = d ∨ c ∈ inms d N.toNat) → hblk (η' c) = some g' → c = d := fun c hc hgc => by
        rcases hc with hc | hc
        · exact hc
        · obtain ⟨i, hi, rfl⟩ := inms_mem.1 hc
          rw [ei' i hi] at hgc; cases hgc
      rw [key b hb hg1, key b' hb' hg2]
    · intro b hb _
      simp only [List.contains_eq_mem, decide_eq_true_eq, List.mem_append, List.mem_singleton] at hb
      exact hb
    · rintro b (rfl | hb) hc
      · unfold handed at hc; omega
      · have := inms_big _ _ b hb
        unfold handed at hc; omega
    · intro b hb hs _
      exfalso
      unfold handed at hb
      simp only [hpGet] at hs
      split at hs
      · omega
      · obtain ⟨B, hB⟩ := Option.isSome_iff_exists.1 hs
        obtain ⟨i, _, h2, _⟩ := hrL _ _ hB
        have := inm_big d i
        omega
    · intro k b B hb
      simp only [hpGet] at hb
      split at hb
      · rename_i e; subst e
        injection hb with hb
        subst hb
        rw [ed]
        refine .inr ⟨w.heap.size, N.toNat, cur, by rw [rowsC_len], (MapKept.heap_alloc w _).1, by rw [rowsC_len]; exact Nat.le_refl _, by simp [maxLen]; omega, hcs, ?_⟩
        rw [rowsC_len]
        have : (cur.toList.take N.toNat) = List.replicate N.toNat (Value.slice none 0 0) := by
          apply List.ext_getElem?
          intro i
          by_cases hi : i < N.toNat
          · rw [List.getElem?_take_of_lt hi, List.getElem?_replicate, if_pos hi]
            have := hcell i hi
            simpa using this
          · rw [List.getElem?_eq_none (by simp; omega), List.getElem?_eq_none (by simp; omega)]
        rw [this]
        have key : ∀ (A : Nat → Prop) (l : List Nat) (m : Nat), l.length = m → (∀ i ∈ l, i < N.toNat) → RepVs η' (w.alloc (.cells cur eo)) A (l.map fun i => AVal.own (inm b i)) (List.replicate m (Value.slice none 0 0)) := by
          intro A l
          induction l with
          | nil => intro m hm _; subst hm; exact RepVs.nil
          | cons i r ih =>
            intro m hm hl
            subst hm
            refine RepVs.cons ?_ (ih _ rfl fun j hj => hl j (List.mem_cons_of_mem _ hj))
            unfold RepV
            exact (ei' i (hl i (List.mem_cons_self ..))).symm
        exact key _ (List.range N.toNat) N.toNat (by simp) (fun i hi => by simpa using hi)
      · obtain ⟨i, h1, h2, h3⟩ := hrL _ _ hb
        subst h2 h3
        exact .inl ⟨rfl, ei' i h1⟩
    · intro k
      unfold RepV
      exact ed.symm
  rw [hdst]
  refine hrel.same (fun i => ?_) (fun c => ?_) rfl
  · show (if i = d then AVal.own d else fr (cleanF [d] l) i) = (if some d = some i then AVal.own d else (fr l i).clean ([d] ++ inms d N.toNat))
    by_cases e : i = d
    · subst e; simp
    · rw [if_neg e, if_neg (by simpa using Ne.symm e), fr_cleanF, clean_extra (fr_ids (smallI_not hs2 (inms_big _ _)) i)]
  · rw [app_H]
    show hpGet (((d, .obx eo (rowsC d N.toNat)) :: cleanH [d] h) ++ rowsL d ei τ (List.replicate N.toNat ([] : List (El τ)))) c = match hpGet ((d, ABlk.obx eo (rowsC d N.toNat)) :: rowsL d ei τ (List.replicate N.toNat ([] : List (El τ)))) c with | some B => some B | none => if ([d] ++ inms d N.toNat).contains c then none else (hpGet h c).map (ABlk.clean ([d] ++ inms d N.toNat))
    rw [List.cons_append, hp_cons, hp_cons]
    by_cases e : c = d
    · rw [if_pos e, if_pos e]
    · rw [if_neg e, if_neg e, hp_append, hp_cleanH]
      cases hrw : hpGet (rowsL d ei τ (List.replicate N.toNat ([] : List (El τ)))) c with
      | some B =>
        obtain ⟨i, h1, h2, h3⟩ := hrL _ _ hrw
        subst h2
        rw [hpGet_small hs1 (inm_big d i)]
        have e3 : ([d] : List Nat).contains (inm d i) = false := by simpa using e
        rw [e3]; rfl
      | none =>
        have hci : c ∉ inms d N.toNat := fun hc => by
          obtain ⟨i, hi, rfl⟩ := inms_mem.1 hc
          rw [hpGet_rows_at (by rw [hrep]; exact hi)] at hrw; cases hrw
        have e1 : ([d] : List Nat).contains c = false := by simpa using e
        have e2 : ([d] ++ inms d N.toNat).contains c = false := by simp [e, hci]
        simp only [e1, e2, Bool.false_eq_true, if_false]
        cases hh : hpGet h c with
        | none => rfl
        | some B => simp only [Option.map_some]; rw [bclean_extra (smallI_not hs3 (inms_big _ _)) hh]

end
end Go.Proofs.YtcckpmeepcoafaaDoor

/-! ### Rows behind a memory that is written out -/
namespace Go.Proofs.YtcckpmeepcoafaaDoor
open Go.RowKit

set_option linter.constructorNameAsVariable false
set_option linter.unusedSimpArgs false
set_option linter.unusedVariables false

/-- A memory that is written out, and rows of a row behind it. -/
def two (h r : List (Nat × ABlk)) : List (Nat × ABlk) := h ++ r

section
variable {b : Nat} {e : TypeId} {t : Ty} {xss : List (List (El t))} {h : List (Nat × ABlk)}

theorem hpGet_two_lit {c : Nat} (hc : c < 1000000) : hpGet (two h (rowsL b e t xss)) c = hpGet h c := hpGet_two_small hc
theorem append_two (x r : List (Nat × ABlk)) : x ++ two h r = two (x ++ h) r := (List.append_assoc x h r).symm
theorem cleanH_app (K : List Nat) : ∀ (x y : List (Nat × ABlk)), cleanH K (x ++ y) = cleanH K x ++ cleanH K y
  | [], _ => rfl
  | (c, B) :: r, y => by
    have ih := cleanH_app K r y
    have e1 : ∀ z, cleanH K ((c, B) :: z) = if K.contains c then cleanH K z else (c, B.clean K) :: cleanH K z := fun z => rfl
    rw [List.cons_append, e1, e1, ih]
    split <;> rfl
theorem cleanH_rowsL {K : List Nat} (hK : smallI K = true) : cleanH K (rowsL b e t xss) = rowsL b e t xss := by
  have key : ∀ (l : List Nat) (f : Nat → List (El t)), cleanH K (l.map fun i => (inm b i, ABlk.arr e t (f i))) = l.map fun i => (inm b i, ABlk.arr e t (f i)) := by
    intro l f
    induction l with
    | nil => rfl
    | cons i r ih =>
      rw [List.map_cons]
      unfold cleanH
      have : K.contains (inm b i) = false := by
        cases hc : K.contains (inm b i) with
        | false => rfl
        | true =>
          have := List.all_eq_true.1 hK (inm b i) (by simpa using hc)
          have h2 := inm_big b i
          simp only [decide_eq_true_eq] at this
          omega
      rw [this, ih]; rfl
  exact key _ _
theorem cleanH_two {K : List Nat} (hK : smallI K = true) : cleanH K (two h (rowsL b e t xss)) = two (cleanH K h) (rowsL b e t xss) := by
  unfold two
  rw [cleanH_app, cleanH_rowsL hK]
theorem smallI_nil : smallI [] = true := rfl
theorem smallI_cons (x : Nat) (r : List Nat) : smallI (x :: r) = (decide (x < 1000000) && smallI r) := rfl
theorem smallH_nil : smallH [] = true := rfl
theorem smallH_cons (c : Nat) (B : ABlk) (r : List (Nat × ABlk)) : smallH ((c, B) :: r) = (decide (c < 1000000) && smallH r) := rfl

theorem fitsH_app (s : ASt) : ∀ (x y : List (Nat × ABlk)), fitsH s (x ++ y) = (fitsH s x ∧ fitsH s y)
  | [], y => by simp [fitsH]
  | (c, B) :: r, y => by
    rw [List.cons_append]
    simp only [fitsH]
    rw [fitsH_app s r y, and_assoc]
theorem fitsH_two (s : ASt) (r : List (Nat × ABlk)) : fitsH s (two h r) = (fitsH s h ∧ fitsH s r) := fitsH_app s h r

theorem fitsH_of {s : ASt} : ∀ {l : List (Nat × ABlk)}, (∀ p ∈ l, s.H p.1 = some p.2) → fitsH s l
  | [], _ => trivial
  | p :: r, h => ⟨h p (List.mem_cons_self ..), fitsH_of fun q hq => h q (List.mem_cons_of_mem _ hq)⟩

theorem fitsH_self {σ : Nat → AVal} {g : Gh} (hs : smallH h = true) : fitsH ⟨σ, hpGet (two h (rowsL b e t xss)), g⟩ (rowsL b e t xss) := by
  refine fitsH_of fun p hp => ?_
  unfold rowsL at hp
  obtain ⟨i, hi, rfl⟩ := List.mem_map.1 hp
  exact hpGet_two_at hs (by simpa using hi)
theorem fitsH_selfT {σ : Nat → AVal} {g : Gh} (hs : smallH h = true) : fitsH ⟨σ, hpGet (two h (rowsL b e t xss)), g⟩ (rowsL b e t xss) = True := eq_true (fitsH_self hs)

theorem LeH_app {H : AHeap} {D N : List Nat} {ρ : Nat → Nat} : ∀ (x y : List (Nat × ABlk)), LeH H D N ρ (x ++ y) = (LeH H D N ρ x ∧ LeH H D N ρ y)
  | [], y => by simp [LeH]
  | (c, B) :: r, y => by
    rw [List.cons_append]
    simp only [LeH]
    rw [LeH_app r y, and_assoc]
theorem LeH_two {H : AHeap} {D N : List Nat} {ρ : Nat → Nat} (r : List (Nat × ABlk)) : LeH H D N ρ (two h r) = (LeH H D N ρ h ∧ LeH H D N ρ r) := LeH_app h r

def smallR (rn : List (Nat × Nat)) : Bool := rn.all fun p => decide (p.1 < 1000000) && decide (p.2 < 1000000)
theorem smallR_nil : smallR [] = true := rfl
theorem smallR_cons (x y : Nat) (r : List (Nat × Nat)) : smallR ((x, y) :: r) = ((decide (x < 1000000) && decide (y < 1000000)) && smallR r) := rfl
theorem look_big : ∀ {rn : List (Nat × Nat)}, smallR rn = true → ∀ {c : Nat}, 1000000 ≤ c → look rn c = c
  | [], _, c, _ => rfl
  | (x, y) :: r, h, c, hc => by
    rw [smallR_cons] at h
    simp only [Bool.and_eq_true, decide_eq_true_eq] at h
    unfold look
    rw [if_neg (by omega)]
    exact look_big h.2 hc
theorem look_small : ∀ {rn : List (Nat × Nat)}, smallR rn = true → ∀ {c : Nat}, c < 1000000 → look rn c < 1000000
  | [], _, c, hc => hc
  | (x, y) :: r, h, c, hc => by
    rw [smallR_cons] at h
    simp only [Bool.and_eq_true, decide_eq_true_eq] at h
    unfold look
    split
    · omega
    · exact look_small h.2 hc

theorem not_in_small {N : List Nat} (hN : smallI N = true) {c : Nat} (hc : 1000000 ≤ c) : N.contains c = false := by
  cases h : N.contains c with
  | false => rfl
  | true =>
    have := List.all_eq_true.1 hN c (by simpa using h)
    simp only [decide_eq_true_eq] at this
    omega

theorem LeH_of {H : AHeap} {D N : List Nat} {ρ : Nat → Nat} : ∀ {l : List (Nat × ABlk)}, (∀ p ∈ l, N.contains p.1 = false ∧ ∃ B0, H (ρ p.1) = some B0 ∧ LeB H D N ρ B0 p.2) → LeH H D N ρ l
  | [], _ => by unfold LeH; trivial
  | (c, B) :: r, h => by
    obtain ⟨h1, B0, h2, h3⟩ := h (c, B) (List.mem_cons_self ..)
    unfold LeH
    refine ⟨?_, LeH_of fun q hq => h q (List.mem_cons_of_mem _ hq)⟩
    rw [if_neg (by rw [h1]; simp), h2]
    exact h3

theorem LeH_self {D N : List Nat} {rn : List (Nat × Nat)} (hs : smallH h = true) (hN : smallI N = true) (hr : smallR rn = true) : LeH (hpGet (two h (rowsL b e t xss))) D N (look rn) (rowsL b e t xss) := by
  refine LeH_of fun p hp => ?_
  unfold rowsL at hp
  obtain ⟨i, hi, rfl⟩ := List.mem_map.1 hp
  refine ⟨not_in_small hN (inm_big b i), .arr e t (xss.getD i []), ?_, ?_⟩
  · rw [look_big hr (inm_big b i)]
    exact hpGet_two_at hs (by simpa using hi)
  · unfold LeB
    exact ⟨rfl, by simp [castL]⟩
theorem LeH_selfT {D N : List Nat} {rn : List (Nat × Nat)} (hs : smallH h = true) (hN : smallI N = true) (hr : smallR rn = true) : LeH (hpGet (two h (rowsL b e t xss))) D N (look rn) (rowsL b e t xss) = True := eq_true (LeH_self hs hN hr)

/-- Cells of rows of a row stay what they are under other names. -/
theorem LeL_rows {H : AHeap} {D N : List Nat} {rn : List (Nat × Nat)} (hN : smallI N = true) (hr : smallR rn = true) (k : Nat) : LeL H D N (look rn) (rowsC b k) (rowsC b k) := by
  have key : ∀ (l : List Nat), LeL H D N (look rn) (l.map fun i => AVal.own (inm b i)) (l.map fun i => AVal.own (inm b i)) := by
    intro l
    induction l with
    | nil => unfold LeL; trivial
    | cons i r ih =>
      rw [List.map_cons]
      unfold LeL
      refine ⟨?_, ih⟩
      unfold LeV
      exact ⟨(look_big hr (inm_big b i)).symm, not_in_small hN (inm_big b i)⟩
  exact key _
theorem LeL_rowsT {H : AHeap} {D N : List Nat} {rn : List (Nat × Nat)} (hN : smallI N = true) (hr : smallR rn = true) (k : Nat) : LeL H D N (look rn) (rowsC b k) (rowsC b k) = True := eq_true (LeL_rows hN hr k)

theorem rowsC_clean {K : List Nat} (hK : smallI K = true) (k : Nat) : (rowsC b k).map (AVal.clean K) = rowsC b k := by
  unfold rowsC
  rw [List.map_map]
  refine List.map_congr_left fun i _ => ?_
  show AVal.clean K (.own (inm b i)) = _
  rw [clean_own, if_neg]
  have := not_in_small hK (inm_big b i)
  rw [this]; simp

theorem hasKey_app : ∀ (x y : List (Nat × ABlk)) (c : Nat), hasKey (x ++ y) c = (hasKey x c || hasKey y c)
  | [], y, c => rfl
  | (d, B) :: r, y, c => by
    have e1 : ∀ z, hasKey ((d, B) :: z) c = (d == c || hasKey z c) := fun z => rfl
    rw [List.cons_append, e1, e1, hasKey_app r y c, Bool.or_assoc]
theorem hasKey_rows {c : Nat} (hk : hasKey (rowsL b e t xss) c = true) : ∃ i, i < xss.length ∧ c = inm b i := by
  have key : ∀ (l : List Nat) (f : Nat → List (El t)), hasKey (l.map fun i => (inm b i, ABlk.arr e t (f i))) c = true → ∃ i ∈ l, c = inm b i := by
    intro l f
    induction l with
    | nil => intro h; cases h
    | cons i r ih =>
      intro h
      rw [List.map_cons] at h
      unfold hasKey at h
      rw [Bool.or_eq_true] at h
      rcases h with h | h
      · exact ⟨i, List.mem_cons_self .., (by simpa using h : inm b i = c).symm⟩
      · obtain ⟨j, hj, e⟩ := ih h
        exact ⟨j, List.mem_cons_of_mem _ hj, e⟩
  obtain ⟨i, hi, e⟩ := key _ _ hk
  exact ⟨i, by simpa using hi, e⟩

theorem namesOK_rows {D N : List Nat} {rn : List (Nat × Nat)} (hD : smallI D = true) (hN : smallI N = true) (hr : smallR rn = true) : namesOK (look rn) D N (rowsL b e t xss) = true := by
  have key : ∀ (l : List Nat) (f : Nat → List (El t)), l.Nodup → namesOK (look rn) D N (l.map fun i => (inm b i, ABlk.arr e t (f i))) = true := by
    intro l f
    induction l with
    | nil =>
      intro _
      refine List.all_eq_true.2 fun x hx => ?_
      have := List.all_eq_true.1 hD x hx
      simp only [decide_eq_true_eq] at this ⊢
      omega
    | cons i r ih =>
      intro hn
      obtain ⟨n1, n2⟩ := List.nodup_cons.1 hn
      rw [List.map_cons]
      unfold namesOK
      have hb := inm_big b i
      have k1 : hasKey (r.map fun i => (inm b i, ABlk.arr e t (f i))) (inm b i) = false := by
        have : ∀ (r : List Nat), i ∉ r → hasKey (r.map fun i => (inm b i, ABlk.arr e t (f i))) (inm b i) = false := by
          intro r
          induction r with
          | nil => intro _; rfl
          | cons j r ih =>
            intro hn
            rw [List.map_cons]
            unfold hasKey
            have : (inm b j == inm b i) = false := by
              rw [beq_eq_false_iff_ne]
              intro hc
              exact hn (by rw [inm_inj hc]; exact List.mem_cons_self ..)
            rw [this, ih fun hc => hn (List.mem_cons_of_mem _ hc)]; rfl
        exact this r n1
      rw [k1, not_in_small hN hb, look_big hr hb, not_in_small hD hb, ih n2]
      have k2 : (r.map fun i => (inm b i, ABlk.arr e t (f i))).all (fun q => N.contains q.1 || look rn q.1 != inm b i) = true := by
        rw [List.all_map]
        refine List.all_eq_true.2 fun j hj => ?_
        show (N.contains (inm b j) || look rn (inm b j) != inm b i) = true
        rw [look_big hr (inm_big b j)]
        have : (inm b j != inm b i) = true := by
          rw [bne_iff_ne]
          intro hc
          exact n1 (by rw [← inm_inj hc]; exact hj)
        rw [this, Bool.or_true]
      rw [k2]
      simp
  exact key _ _ List.nodup_range

theorem namesOK_two {D N : List Nat} {rn : List (Nat × Nat)} (hD : smallI D = true) (hN : smallI N = true) (hr : smallR rn = true) (hs : smallH h = true) (h0 : namesOK (look rn) D N h = true) : namesOK (look rn) D N (two h (rowsL b e t xss)) = true := by
  unfold two
  induction h with
  | nil => exact namesOK_rows hD hN hr
  | cons p r ih =>
    obtain ⟨c, B⟩ := p
    rw [smallH_cons] at hs
    simp only [Bool.and_eq_true, decide_eq_true_eq] at hs
    rw [List.cons_append]
    unfold namesOK at h0 ⊢
    simp only [Bool.and_eq_true] at h0
    obtain ⟨⟨k1, k2⟩, k3⟩ := h0
    rw [hasKey_app, ih hs.2 k3]
    have k4 : hasKey (rowsL b e t xss) c = false := by
      cases hk : hasKey (rowsL b e t xss) c with
      | false => rfl
      | true => obtain ⟨i, _, e1⟩ := hasKey_rows hk; have := inm_big b i; omega
    rw [k4, Bool.or_false, k1]
    have k5 : (if N.contains c = true then decide (c < 1000) || decide (2000 ≤ c) else !(D.contains (look rn c) && B.mut) && (decide (c < 1000) || decide (2000 ≤ c) || look rn c == c) && ((r ++ rowsL b e t xss).all fun q => N.contains q.1 || look rn q.1 != look rn c)) = true := by
      split
      · rename_i hc
        rw [if_pos hc] at k2; exact k2
      · rename_i hc
        rw [if_neg hc] at k2
        simp only [Bool.and_eq_true] at k2 ⊢
        refine ⟨k2.1, ?_⟩
        rw [List.all_append, k2.2, Bool.true_and]
        refine List.all_eq_true.2 fun q hq => ?_
        unfold rowsL at hq
        obtain ⟨i, _, rfl⟩ := List.mem_map.1 hq
        rw [look_big hr (inm_big b i)]
        have : (inm b i != look rn c) = true := by
          rw [bne_iff_ne]
          have h1 := inm_big b i
          have h2 := look_small hr hs.1
          omega
        rw [this, Bool.or_true]
    rw [k5]; rfl

end
end Go.Proofs.YtcckpmeepcoafaaDoor
