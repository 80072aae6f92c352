/-
  The abstract machine, 6: new variables, stores. No program is named here.
-/
import Derived.Test.YtcijihofjcfpoabAv5
namespace Go.Proofs.Ytcijihofjcfpoab
open Go.RowKit

set_option linter.constructorNameAsVariable false

theorem hpGet_rest (H : AHeap) : ∀ (ids : List Nat) (b : Nat) (B : ABlk), hpGet (rest H ids) b = some B → ∃ e t xs, H b = some (.arr e t xs) ∧ B = .imm t xs ∧ b ∈ ids
  | [], b, B, h => by simp [rest, hpGet] at h
  | c :: r, b, B, h => by
    unfold rest at h
    cases hc : H c with
    | none =>
      simp only [hc] at h
      obtain ⟨e, t, xs, h1, h2, h3⟩ := hpGet_rest H r b B h
      exact ⟨e, t, xs, h1, h2, List.mem_cons_of_mem _ h3⟩
    | some C =>
      cases C with
      | arr e t xs =>
        simp only [hc, hpGet] at h
        split at h
        · rename_i hbc
          injection h with h
          subst hbc
          exact ⟨e, t, xs, hc, h.symm, by simp⟩
        · obtain ⟨e, t, xs, h1, h2, h3⟩ := hpGet_rest H r b B h
          exact ⟨e, t, xs, h1, h2, List.mem_cons_of_mem _ h3⟩
      | box => 
        simp only [hc] at h
        obtain ⟨e, t, xs, h1, h2, h3⟩ := hpGet_rest H r b B h
        exact ⟨e, t, xs, h1, h2, List.mem_cons_of_mem _ h3⟩
      | imm =>
        simp only [hc] at h
        obtain ⟨e, t, xs, h1, h2, h3⟩ := hpGet_rest H r b B h
        exact ⟨e, t, xs, h1, h2, List.mem_cons_of_mem _ h3⟩
      | map =>
        simp only [hc] at h
        obtain ⟨e, t, xs, h1, h2, h3⟩ := hpGet_rest H r b B h
        exact ⟨e, t, xs, h1, h2, List.mem_cons_of_mem _ h3⟩

theorem rest_get (H : AHeap) : ∀ (ids : List Nat) (b : Nat) {e : TypeId} {t : Ty} {xs : List (El t)}, b ∈ ids → H b = some (.arr e t xs) → hpGet (rest H ids) b = some (.imm t xs)
  | c :: r, b, e, t, xs, hm, hb => by
    unfold rest
    by_cases hbc : b = c
    · subst hbc
      simp [hb, hpGet]
    · have hr : b ∈ r := (List.mem_cons.1 hm).resolve_left hbc
      have ih := rest_get H r b hr hb
      cases hc : H c with
      | none => simpa only [hc] using ih
      | some C => cases C <;> simp only [hpGet, hbc, if_false] <;> exact ih

mutual
theorem mem_ids : ∀ (x : AVal) (b : Nat), x.has b = true → b ∈ x.ids
  | .own c, b, h => by simp [AVal.has] at h; simp [AVal.ids, h]
  | .bp c _, b, h => by simp [AVal.has] at h; simp [AVal.ids, h]
  | .ap c _ _ _, b, h => by simp [AVal.has] at h; simp [AVal.ids, h]
  | .agg l, b, h => by simp only [AVal.has] at h; simp only [AVal.ids]; exact mem_idsL l b h
  | .tup l, b, h => by simp only [AVal.has] at h; simp only [AVal.ids]; exact mem_idsL l b h
  | .fn _ p c, b, h => by
    simp only [AVal.has, Bool.or_eq_true] at h
    simp only [AVal.ids, List.mem_append]
    exact h.imp (mem_idsL p b) (mem_idsL c b)
  | .un, b, h => by simp [AVal.has] at h
  | .int _ _, b, h => by simp [AVal.has] at h
  | .bool _, b, h => by simp [AVal.has] at h
  | .sl _ _, b, h => by simp [AVal.has] at h
  | .dp _ _ _, b, h => by simp [AVal.has] at h
  | .cv _, b, h => by simp [AVal.has] at h
theorem mem_idsL : ∀ (l : List AVal) (b : Nat), AVal.hasL l b = true → b ∈ AVal.idsL l
  | [], b, h => by simp [AVal.hasL] at h
  | x :: l, b, h => by
    simp only [AVal.hasL, Bool.or_eq_true] at h
    simp only [AVal.idsL, List.mem_append]
    exact h.imp (mem_ids x b) (mem_idsL l b)
end

theorem idsL_cellsV (x : AVal) : AVal.idsL (cellsV x) = x.ids := by
  cases x <;> simp [cellsV, AVal.idsL, AVal.ids]

theorem ids_append : ∀ (l m : List AVal), AVal.idsL (l ++ m) = AVal.idsL l ++ AVal.idsL m
  | [], m => rfl
  | x :: l, m => by simp [AVal.idsL, ids_append l m]

theorem cellsOf_ids : ∀ (t : Ty) (x : El t), AVal.idsL (cellsOf t x) = []
  | .int _, _ => rfl
  | .bool, _ => rfl
  | .unit, _ => rfl
  | .pair a b, x => by simp [cellsOf, ids_append, cellsOf_ids a, cellsOf_ids b]
  | .sl _, _ => rfl

theorem no_ids {l : List AVal} (h : AVal.idsL l = []) (b : Nat) : AVal.hasL l b = false := by
  cases hb : AVal.hasL l b with
  | false => rfl
  | true => have := mem_idsL l b hb; rw [h] at this; simp at this

theorem RepVs.data {η η' : Nat → Value} {A A' : Nat → Prop} {w w' : World} (k : Keeps A A' w w') {t : Ty} {x : El t} {vs : List Value} (h : RepVs η w A (cellsOf t x) vs) : RepVs η' w' A' (cellsOf t x) vs :=
  RepVs.step k _ _ (fun b hb => by rw [no_ids (cellsOf_ids t x) b] at hb; cases hb) h

theorem Keeps.refl (A : Nat → Prop) (w : World) : Keeps A A w w := ⟨Nat.le_refl _, fun _ _ _ => rfl, fun _ _ h => h⟩

/-- A row that has come to rest, or does so now, is data. -/
theorem rested {A0 : Nat → Prop} {η : Nat → Value} {H : AHeap} {w w' : World} {A' : Nat → Prop} (h : RelH A0 η H w) {b : Nat} {e : TypeId} {t : Ty} {xs : List (El t)} (hb : H b = some (.arr e t xs) ∨ H b = some (.imm t xs))
    (k : Keeps (Av A0 η H) A' w w') (hrow : ∀ g, H b = some (.arr e t xs) → hblk (η b) = some g → w'.heap[g]? = w.heap[g]? ∧ ¬ A' g) :
    ∃ a c, η b = .slice a xs.length c ∧ SlBody w'.heap.size A' t.size (fun x b o => RepAt w' A' t x b o) xs a c := by
  rcases hb with hb | hb
  · rcases h.blk b _ hb with ⟨e1, e2⟩ | ⟨g, cap, cur, e1, e2, e3, e4, e5, e6⟩
    · subst e1
      exact ⟨none, 0, e2, by simp, by simp [maxLen], fun hp => by simp at hp⟩
    · obtain ⟨r1, r2⟩ := hrow g hb (by rw [e1]; rfl)
      refine ⟨_, cap, e1, e3, e4, fun _ => ⟨g, 0, rfl, Nat.lt_of_lt_of_le (Array.getElem?_eq_some_iff.1 e2).1 k.size, r2, fun i x hi => ?_⟩⟩
      have := RepAt.step k t x g _ r1 (e6 i x hi)
      simpa using this
  · obtain ⟨a, c, e1, hs⟩ := h.blk b _ hb
    exact ⟨a, c, e1, hs.step k.size k.av fun x b' o' hb' hn hx => RepAt.step k t x b' o' (k.heap b' hb' hn) hx⟩

/-- Data out of cells. -/
theorem toEl_rep {η η' : Nat → Value} {H : AHeap} {A A' : Nat → Prop} {w w' : World} (k : Keeps A A' w w') : ∀ (t : Ty) (l : List AVal) (x : El t) (r : List AVal) (vs : List Value), toEl H t l = some (x, r) → RepVs η w A l vs →
    (∀ b t xs e, b ∈ AVal.idsL l → (H b = some (.arr e t xs) ∨ H b = some (.imm t xs)) → ∃ a c, η b = .slice a xs.length c ∧ SlBody w'.heap.size A' t.size (fun x b o => RepAt w' A' t x b o) xs a c) →
    ∃ v1 v2, vs = v1 ++ v2 ∧ RepVs η' w' A' (cellsOf t x) v1 ∧ RepVs η w A r v2 ∧ (∀ b, b ∈ AVal.idsL r → b ∈ AVal.idsL l)
  | .int kd, l, x, r, vs, h, hr, hown => by
    unfold toEl toInt at h
    split at h <;> simp at h
    rename_i k' m l'
    obtain ⟨rfl, rfl, rfl⟩ := h
    unfold RepVs at hr
    obtain ⟨u, us, rfl, hu, hl⟩ := hr
    unfold RepV at hu
    subst hu
    exact ⟨[_], us, rfl, RepVs.cons (by unfold RepV; rfl) RepVs.nil, hl, fun b hb => by simp [AVal.idsL, hb]⟩
  | .bool, l, x, r, vs, h, hr, hown => by
    unfold toEl toBool at h
    split at h <;> simp at h
    obtain ⟨rfl, rfl⟩ := h
    unfold RepVs at hr
    obtain ⟨u, us, rfl, hu, hl⟩ := hr
    unfold RepV at hu
    subst hu
    exact ⟨[_], us, rfl, RepVs.cons (by unfold RepV; rfl) RepVs.nil, hl, fun b hb => by simp [AVal.idsL, hb]⟩
  | .unit, l, x, r, vs, h, hr, hown => by
    unfold toEl at h
    simp at h
    subst h
    exact ⟨[], vs, rfl, RepVs.nil, hr, fun b hb => hb⟩
  | .pair s t, l, x, r, vs, h, hr, hown => by
    unfold toEl at h
    cases h1 : toEl H s l with
    | none => simp [h1] at h
    | some p =>
      obtain ⟨x1, r1⟩ := p
      simp only [h1] at h
      cases h2 : toEl H t r1 with
      | none => simp [h2] at h
      | some q =>
        obtain ⟨x2, r2⟩ := q
        simp only [h2, Option.some.injEq, Prod.mk.injEq] at h
        obtain ⟨rfl, rfl⟩ := h
        obtain ⟨v1, v2, rfl, k1, k2, k3⟩ := toEl_rep k s l x1 r1 vs h1 hr hown
        obtain ⟨v3, v4, rfl, k4, k5, k6⟩ := toEl_rep k t r1 x2 r2 v2 h2 k2 (fun b t xs e hb => hown b t xs e (k3 b hb))
        exact ⟨v1 ++ v3, v4, by simp, by unfold cellsOf; exact k1.append k4, k5, fun b hb => k3 b (k6 b hb)⟩
  | .sl t, l, x, r, vs, h, hr, hown => by
    unfold toEl toSl at h
    split at h
    · rename_i t' xs l'
      split at h
      · rename_i ht
        subst ht
        injection h with h
        injection h with e1 e2
        subst e1 e2
        unfold RepVs at hr
        obtain ⟨u, us, rfl, hu, hl⟩ := hr
        exact ⟨[u], us, rfl, RepVs.cons (RepV.step k _ _ (fun b hb => by simp [AVal.has] at hb) hu) RepVs.nil, hl, fun b hb => by simp [AVal.idsL, hb]⟩
      · cases h
    · rename_i b l'
      unfold RepVs at hr
      obtain ⟨u, us, rfl, hu, hl⟩ := hr
      unfold RepV at hu
      split at h
      · rename_i e t' xs hb
        split at h
        · rename_i ht
          subst ht
          injection h with h
          injection h with e1 e2
          subst e1 e2
          obtain ⟨a, c, e3, hs⟩ := hown b _ xs e (by simp [AVal.idsL, AVal.ids]) (.inl hb)
          refine ⟨[u], us, rfl, RepVs.cons ?_ RepVs.nil, hl, fun b hb => by simp [AVal.idsL, hb]⟩
          unfold RepV
          exact ⟨a, c, by rw [hu, e3], hs⟩
        · cases h
      · rename_i t' xs hb
        split at h
        · rename_i ht
          subst ht
          injection h with h
          injection h with e1 e2
          subst e1 e2
          obtain ⟨a, c, e3, hs⟩ := hown b _ xs 0 (by simp [AVal.idsL, AVal.ids]) (.inr hb)
          refine ⟨[u], us, rfl, RepVs.cons ?_ RepVs.nil, hl, fun b hb => by simp [AVal.idsL, hb]⟩
          unfold RepV
          exact ⟨a, c, by rw [hu, e3], hs⟩
        · cases h
      · cases h
    · rename_i u0 l'
      split at h
      case isFalse => cases h
      rename_i hnil
      have hnil := isNilV_eq hnil
      subst hnil
      injection h with h
      injection h with e1 e2
      subst e1 e2
      unfold RepVs at hr
      obtain ⟨u, us, rfl, hu, hl⟩ := hr
      unfold RepV at hu
      subst hu
      refine ⟨[_], us, rfl, RepVs.cons ?_ RepVs.nil, hl, fun b hb => by simp [AVal.idsL, hb]⟩
      unfold RepV
      exact ⟨none, 0, rfl, by simp, by simp [maxLen], fun hp => by simp at hp⟩
    · cases h

section
variable {P : Program} {T : Tab} {n : Nat} {ds : List Deferred} {A0 L0 : Nat → Prop} {w0 : Old} {η : Nat → Value} {s : ASt} {a : Act} {w : World}

/-- One handle is another one. -/
def setη (η : Nat → Value) (b : Nat) (v : Value) (c : Nat) : Value := if c = b then v else η c

theorem setη_same (η : Nat → Value) (b : Nat) (v : Value) : setη η b v b = v := by simp [setη]
theorem setη_other (η : Nat → Value) {b c : Nat} (v : Value) (h : c ≠ b) : setη η b v c = η c := by simp [setη, h]

theorem notLive_of {e : Eff} {d : Option Nat} {η' : Nat → Value} {nid : Nat} (h : RelH A0 η s.H w) (hL : ∀ b B g, (s.app d e).H b = some B → B.mut = true → hblk (η' b) = some g → (∃ b0 B0, s.H b0 = some B0 ∧ B0.mut = true ∧ hblk (η b0) = some g ∧ (b0 = b ∨ (b = nid ∧ e.kill.contains b0 = true))) ∨ (w.heap.size ≤ g ∧ b = nid))
    {b : Nat} {ee : TypeId} {t : Ty} {xs : List (El t)} (hb : s.H b = some (.arr ee t xs)) (hr : (s.app d e).H b = some (.imm t xs)) (hnk : e.kill.contains b = false) {g : Nat} (hg : hblk (η b) = some g) : ¬ Av A0 η' (s.app d e).H g := by
  have hlive : Live η s.H g := ⟨b, _, hb, rfl, hg⟩
  rintro (hA | ⟨b', B', k1, k2, k3⟩)
  · exact (h.av g hA).2 hlive
  · rcases hL b' B' g k1 k2 k3 with ⟨b0, B0, j1, j2, j3, j4⟩ | ⟨j, _⟩
    · have := h.inj b b0 _ _ g hb j1 rfl j2 hg j3
      subst this
      rcases j4 with j4 | ⟨_, j4⟩
      · subst j4
        rw [hr] at k1
        injection k1 with k1
        subst k1
        cases k2
      · rw [hnk] at j4; cases j4
    · have := Live.lt h hlive; omega

theorem app_live {e : Eff} {d : Option Nat} {η' : Nat → Value} {nid : Nat} (hη : ∀ b, e.kill.contains b = false → η' b = η b)
    (hN : ∀ b B g, hpGet e.hp b = some B → B.mut = true → hblk (η' b) = some g → (∃ b0 B0, s.H b0 = some B0 ∧ B0.mut = true ∧ hblk (η b0) = some g ∧ (b0 = b ∨ (b = nid ∧ e.kill.contains b0 = true))) ∨ (w.heap.size ≤ g ∧ b = nid)) :
    ∀ b B g, (s.app d e).H b = some B → B.mut = true → hblk (η' b) = some g → (∃ b0 B0, s.H b0 = some B0 ∧ B0.mut = true ∧ hblk (η b0) = some g ∧ (b0 = b ∨ (b = nid ∧ e.kill.contains b0 = true))) ∨ (w.heap.size ≤ g ∧ b = nid) := by
  intro b B g hb hm hg
  simp only [ASt.app] at hb
  cases hgt : hpGet e.hp b with
  | some B' => rw [hgt] at hb; injection hb with hb; subst hb; exact hN b _ g hgt hm hg
  | none =>
    rw [hgt] at hb
    simp only at hb
    split at hb
    · cases hb
    · rename_i hk
      obtain ⟨B0, h1, h2⟩ := Option.map_eq_some_iff.1 hb
      have hk' : e.kill.contains b = false := by simpa using hk
      refine .inl ⟨b, B0, h1, by rw [← h2, ABlk.mut_clean] at hm; exact hm, ?_, .inl rfl⟩
      rw [← hη b hk']; exact hg

/-- A new variable's block. -/
theorem Rel.newBox (h : Rel n ds A0 L0 w0 η s a w) {d : Option Nat} (hd : ∀ i, d = some i → i < n) {nid : Nat} {ty : TypeId} {cs : List AVal} {vs : Array Value} (hnid : nid < 1000) (hc : RepVs η w (Av A0 η s.H) cs vs.toList) (hno : AVal.hasL cs nid = false) :
    Rel n ds A0 L0 w0 (setη η nid (.pointer (some ⟨w.heap.size, 0, none⟩))) (s.app d { v := .bp nid 0, kill := [nid], hp := [(nid, .box ty cs)] }) (a.put d (.pointer (some ⟨w.heap.size, 0, none⟩))) (w.alloc (.cells vs ty)) := by
  have hη : ∀ b, [nid].contains b = false → setη η nid (.pointer (some ⟨w.heap.size, 0, none⟩)) b = η b := fun b hb => setη_other _ _ (by simpa using hb)
  refine h.eff (nid := nid) hd hη ⟨rfl, rfl, rfl⟩ (by simp) (fun g hg => .inl (heap_alloc_old _ _ _ hg)) ?_ ?_ ?_ hnid (fun b hb _ => by simpa using hb) (fun b hb hs => by simp only [hpGet, hb, if_false] at hs; cases hs)
  · intro b B g hb hm hg
    simp only [hpGet] at hb
    split at hb
    · rename_i e
      subst e
      rw [setη_same] at hg
      injection hg with hg
      exact .inr ⟨Nat.le_of_eq hg, rfl⟩
    · cases hb
  · intro k b B hb
    simp only [hpGet] at hb
    split at hb
    · rename_i e
      subst e
      injection hb with hb
      subst hb
      rw [setη_same]
      refine ⟨_, vs, rfl, heap_alloc_new _ _, RepVs.step k _ _ (fun c hc' => setη_other _ _ fun e => ?_) hc⟩
      subst e
      rw [hno] at hc'
      cases hc'
    · cases hb
  · intro k
    unfold RepV
    exact ⟨w.heap.size, setη_same _ _ _, rfl⟩

theorem zero_rep (η : Nat → Value) (A : Nat → Prop) : ∀ (l : List Value), RepVs η w A (l.map ofConst) l
  | [] => RepVs.nil
  | v :: l => RepVs.cons (ofConst_rep _ _ _ v) (zero_rep η A l)

theorem zero_ids : ∀ (l : List Value), AVal.idsL (l.map ofConst) = []
  | [] => rfl
  | v :: l => by
    have : (ofConst v).ids = [] := by cases v <;> rfl
    simp [AVal.idsL, this, zero_ids l]

theorem stAlloc_does (hT : TabOK P T) (h : Rel n ds A0 L0 w0 η s a w) {d : Option Nat} (hd : ∀ i, d = some i → i < n) {nid : Nat} (hnid : nid < 1000) {t : TypeId} {i : TInfo} (ht : T t = some i) {K : Eff → Prop}
    (hK : K { v := .bp nid 0, kill := [nid], hp := [(nid, .box t (i.zero.map ofConst))] }) : Does P (Instr.alloc t true (.tuple #[])) n ds A0 L0 w0 s a w d K := by
  obtain ⟨info, z, dd, hi, _, _, hz, hzz, _⟩ := (hT t i ht).ex
  refine ⟨_, _, _, _, hK, ?_, h.newBox hd (vs := z.cells) hnid ?_ (no_ids (zero_ids _) nid)⟩
  · simp [Instr.alloc, zeroValue, typeInfo, hi, hz, newVar, newRow]
  · rw [hzz]; exact zero_rep _ _ _

theorem stBox_does (h : Rel n ds A0 L0 w0 η s a w) {d : Option Nat} (hd : ∀ i, d = some i → i < n) {nid : Nat} (hnid : nid < 1000) {t : TypeId} {x : AVal} {xv : Value} (hx : RepV η w (Av A0 η s.H) x xv) {K : Eff → Prop}
    (hc : (cellsV x).all (AVal.cell s.H) = true) (hid : x.ids.contains nid = false)
    (hK : K { v := .bp nid 0, kill := [nid], hp := [(nid, .box t (cellsV x))] }) : Does P (Instr.box t xv) n ds A0 L0 w0 s a w d K := by
  have hr := cellsV_rep (fun b B hb => h.hp.blk b B hb) hc hx
  refine ⟨_, _, _, _, hK, ?_, h.newBox hd (vs := xv.cells) hnid hr ?_⟩
  · simp [Instr.box, newVar, newRow]
  · cases hb : AVal.hasL (cellsV x) nid with
    | false => rfl
    | true =>
      have := mem_idsL _ _ hb
      rw [idsL_cellsV] at this
      simp only [List.contains_eq_mem, decide_eq_false_iff_not] at hid
      exact absurd this hid

theorem setRow_same (w : World) (g k : Nat) (cs : Array Value) (h : k ≠ g) : (w.setRow g cs).heap[k]? = w.heap[k]? := setRow_other w g k cs h

theorem splice_len (l us : List AVal) (off : Nat) (h : off + us.length ≤ l.length) : (splice l off us).length = l.length := by
  simp [splice]; omega

theorem splice_rep {η : Nat → Value} {A : Nat → Prop} {l us : List AVal} {vs uv : List Value} (off : Nat) (h : RepVs η w A l vs) (hu : RepVs η w A us uv) : RepVs η w A (splice l off us) (vs.take off ++ uv ++ vs.drop (off + uv.length)) := by
  unfold splice
  rw [hu.length]
  exact ((h.take off).append hu).append (h.drop _)

theorem stStore_bp (hT : TabOK P T) (h : Rel n ds A0 L0 w0 η s a w) {d : Option Nat} (hd : ∀ i, d = some i → i < n) {t : TypeId} {i : TInfo} (ht : T t = some i) {b off : Nat} {xv : Value} (hx : RepV η w (Av A0 η s.H) (.bp b off) xv)
    {v : AVal} {vv : Value} (hv : RepV η w (Av A0 η s.H) v vv) (hl : (cellsV v).length = i.size) (hc : (cellsV v).all (AVal.cell s.H) = true) {ty : TypeId} {cs : List AVal} (hb : s.H b = some (.box ty cs)) (hfit : off + i.size ≤ cs.length) :
    ∃ w', (Instr.storeAt t xv vv).run P w = .ok () w' ∧ Rel n ds A0 L0 w0 η (s.app d { v := .un, hp := [(b, .box ty (splice cs off (cellsV v)))] }) (a.put d undef) w' := by
  unfold RepV at hx
  obtain ⟨g, hη, rfl⟩ := hx
  obtain ⟨g', vs, e1, e2, e3⟩ := h.hp.blk b _ hb
  rw [hη] at e1
  injection e1 with e1
  injection e1 with e1
  injection e1 with e1
  subst e1
  have hH : ∀ b B, s.H b = some B → RelBlk η w (Av A0 η s.H) B (η b) := fun b B hb => h.hp.blk b B hb
  have hr := cellsV_rep hH hc hv
  have hlen : vv.cells.size = i.size := by have := hr.length; rw [hl] at this; simpa using this.symm
  have hcl := e3.length
  have hone := cells_oneCell hH hc hr
  refine ⟨_, run_storeAt_rep (hT t i ht) e2 hlen (by simp at hcl; omega) hone, ?_⟩
  refine h.eff (nid := 0) hd (fun _ _ => rfl) ⟨rfl, rfl, rfl⟩ (by simp [World.setRow]) (fun k hk => ?_) ?_ ?_ ?_ (hhn := fun b' _ hs => by
    simp only [hpGet] at hs
    split at hs
    · rename_i e; subst e; rw [hb]; rfl
    · cases hs)
  · by_cases hkg : k = g
    · subst hkg
      exact .inr ⟨b, _, hb, rfl, by rw [hη]; rfl, .inl (by simp [hpGet])⟩
    · exact .inl (setRow_same w g k _ hkg)
  · intro b' B' g' hb' hm hg'
    simp only [hpGet] at hb'
    split at hb'
    · rename_i e
      subst e
      exact .inl ⟨_, _, hb, rfl, hg', .inl rfl⟩
    · cases hb'
  · intro k b' B' hb'
    simp only [hpGet] at hb'
    split at hb'
    · rename_i e
      subst e
      injection hb' with hb'
      subst hb'
      refine ⟨g, _, hη, setRow_heap w g _ _ _ _ e2, ?_⟩
      have hs := splice_rep off e3 hr
      exact RepVs.step k _ _ (fun _ _ => rfl) hs
    · cases hb'
  · intro k; unfold RepV; trivial

end
end Go.Proofs.Ytcijihofjcfpoab
