/-
  The abstract machine, 14: an operation looks only at the blocks that its operands speak of. No program is named here.
-/
import Derived.Test.YtcijihofjcfpoabAv13
namespace Go.Proofs.Ytcijihofjcfpoab
open Go.RowKit

set_option linter.constructorNameAsVariable false

section
variable {H H' : AHeap}

theorem cell_congr (x : AVal) (h : ∀ b ∈ x.ids, H' b = H b) : x.cell H' = x.cell H := by
  cases x <;> simp only [AVal.cell]
  case own b => rw [h b (by simp [AVal.ids])]

theorem cells_congr : ∀ (l : List AVal), (∀ b ∈ AVal.idsL l, H' b = H b) → l.all (AVal.cell H') = l.all (AVal.cell H)
  | [], _ => rfl
  | x :: l, h => by
    rw [List.all_cons, List.all_cons, cell_congr x fun b hb => h b (by simp [AVal.idsL, hb]), cells_congr l fun b hb => h b (by simp [AVal.idsL, hb])]

theorem toSl_suffix {t : Ty} {l r : List AVal} {x : List (El t)} (h : toSl H t l = some (x, r)) : ∃ p, l = p ++ r := by
  unfold toSl at h
  split at h
  · rename_i t' xs l'
    split at h
    · injection h with h; injection h with _ h; subst h; exact ⟨[_], rfl⟩
    · cases h
  · rename_i b l'
    split at h
    · split at h
      · injection h with h; injection h with _ h; subst h; exact ⟨[_], rfl⟩
      · cases h
    · split at h
      · injection h with h; injection h with _ h; subst h; exact ⟨[_], rfl⟩
      · cases h
    · cases h
  · split at h
    · injection h with h; injection h with _ h; subst h; exact ⟨[_], rfl⟩
    · cases h
  · cases h

theorem toEl_suffix : ∀ (t : Ty) (l r : List AVal) (x : El t), toEl H t l = some (x, r) → ∃ p, l = p ++ r
  | .int k, l, r, x, h => by
    unfold toEl toInt at h
    split at h
    · split at h
      · injection h with h; injection h with _ h; subst h; exact ⟨[_], rfl⟩
      · cases h
    · cases h
  | .bool, l, r, x, h => by
    unfold toEl toBool at h
    split at h
    · injection h with h; injection h with _ h; subst h; exact ⟨[_], rfl⟩
    · cases h
  | .unit, l, r, x, h => by
    unfold toEl at h
    injection h with h; injection h with _ h; subst h; exact ⟨[], rfl⟩
  | .pair a b, l, r, x, h => by
    unfold toEl at h
    split at h
    · rename_i x1 r1 h1
      split at h
      · rename_i x2 r2 h2
        injection h with h; injection h with _ h; subst h
        obtain ⟨p1, e1⟩ := toEl_suffix a l r1 x1 h1
        obtain ⟨p2, e2⟩ := toEl_suffix b r1 r2 x2 h2
        exact ⟨p1 ++ p2, by rw [e1, e2, List.append_assoc]⟩
      · cases h
    · cases h
  | .sl t, l, r, x, h => toSl_suffix (by unfold toEl at h; exact h)

theorem toSl_congr (t : Ty) (l : List AVal) (h : ∀ b ∈ AVal.idsL l, H' b = H b) : toSl H' t l = toSl H t l := by
  unfold toSl
  cases l with
  | nil => rfl
  | cons x l =>
    cases x <;> try rfl
    case own b => simp only; rw [h b (by simp [AVal.idsL, AVal.ids])]

theorem toEl_congr : ∀ (t : Ty) (l : List AVal), (∀ b ∈ AVal.idsL l, H' b = H b) → toEl H' t l = toEl H t l
  | .int k, l, h => rfl
  | .bool, l, h => rfl
  | .unit, l, h => rfl
  | .pair a b, l, h => by
    unfold toEl
    rw [toEl_congr a l h]
    split
    · rename_i x1 r1 h1
      obtain ⟨p, e⟩ := toEl_suffix a l r1 x1 h1
      rw [toEl_congr b r1 fun c hc => h c (by rw [e, ids_append]; simp [hc])]
    · rfl
  | .sl t, l, h => by unfold toEl; exact toSl_congr t l h

theorem toEls_congr (t : Ty) : ∀ (l : List AVal), (∀ b ∈ AVal.idsL l, H' b = H b) → toEls H' t l = toEls H t l
  | [], _ => rfl
  | v :: r, h => by
    unfold toEls
    rw [toEl_congr t (cellsV v) fun b hb => h b (by rw [idsL_cellsV] at hb; simp [AVal.idsL, hb]), toEls_congr t r fun b hb => h b (by simp [AVal.idsL, hb])]

theorem rest_congr : ∀ (ids : List Nat), (∀ b ∈ ids, H' b = H b) → rest H' ids = rest H ids
  | [], _ => rfl
  | b :: r, h => by
    unfold rest
    rw [h b (by simp), rest_congr r fun c hc => h c (by simp [hc])]

mutual
theorem LeV_congr0 {D N : List Nat} {ρ : Nat → Nat} : ∀ (x y : AVal), x.ids = [] → LeV H D N ρ x y → LeV H' D N ρ x y
  | .own b, y, h, _ => by simp [AVal.ids] at h
  | .agg l, y, h, hl => by
    unfold LeV at *
    split at hl <;> first | trivial | exact LeL_congr0 l _ (by simpa [AVal.ids] using h) hl
  | .tup l, y, h, hl => by
    unfold LeV at *
    split at hl <;> first | trivial | exact LeL_congr0 l _ (by simpa [AVal.ids] using h) hl
  | .fn f p c, y, h, hl => by
    unfold LeV at *
    simp only [AVal.ids, List.append_eq_nil_iff] at h
    split at hl <;> first | trivial | exact ⟨hl.1, LeL_congr0 p _ h.1 hl.2.1, LeL_congr0 c _ h.2 hl.2.2⟩
  | .bp b o, y, h, _ => by simp [AVal.ids] at h
  | .ap b _ _ _, y, h, _ => by simp [AVal.ids] at h
  | .un, y, _, hl => by unfold LeV at *; exact hl
  | .int _ _, y, _, hl => by unfold LeV at *; exact hl
  | .bool _, y, _, hl => by unfold LeV at *; exact hl
  | .sl _ _, y, _, hl => by unfold LeV at *; exact hl
  | .dp _ _ _, y, _, hl => by unfold LeV at *; exact hl
  | .cv _, y, _, hl => by unfold LeV at *; exact hl
theorem LeL_congr0 {D N : List Nat} {ρ : Nat → Nat} : ∀ (l m : List AVal), AVal.idsL l = [] → LeL H D N ρ l m → LeL H' D N ρ l m
  | [], m, _, hl => by unfold LeL at *; exact hl
  | x :: l, m, h, hl => by
    unfold LeL at *
    simp only [AVal.idsL, List.append_eq_nil_iff] at h
    split at hl
    · exact hl.elim
    · exact ⟨LeV_congr0 x _ h.1 hl.1, LeL_congr0 l _ h.2 hl.2⟩
end

end

theorem ids_part {l : List AVal} {b : Nat} (k m : Nat) (h : b ∈ AVal.idsL (l.take k) ∨ b ∈ AVal.idsL (l.drop m)) : b ∈ AVal.idsL l := by
  rcases h with h | h
  · rw [← List.take_append_drop k l, ids_append]; simp [h]
  · rw [← List.take_append_drop m l, ids_append]; simp [h]

section
variable {P : Program} {T : Tab} {s s' : ASt} {K : Eff → Prop}

theorem listOf_congr (x : AVal) (h : ∀ b ∈ x.ids, s'.H b = s.H b) : listOf s' x = listOf s x := by
  cases x <;> simp only [listOf]
  case own b => rw [h b (by simp [AVal.ids])]

theorem stLoad_congr {t : TypeId} {x : AVal} (h : ∀ b ∈ x.ids, s'.H b = s.H b) : stLoad T s' t x K = stLoad T s t x K := by
  unfold stLoad
  cases x <;> simp only
  case bp b _ => rw [h b (by simp [AVal.ids])]
  case ap b _ _ _ => rw [h b (by simp [AVal.ids])]

theorem stStore_congr {t : TypeId} {x v : AVal} (h : ∀ b ∈ x.ids, s'.H b = s.H b) (hv : ∀ b ∈ v.ids, s'.H b = s.H b) : stStore T s' t x v K = stStore T s t x v K := by
  unfold stStore
  rw [cells_congr (H' := s'.H) (H := s.H) (cellsV v) (fun b hb => hv b (by rwa [idsL_cellsV] at hb)), rest_congr v.ids hv]
  have htoEl : ∀ (τ : Ty) (y : El τ) (off : Nat), toEl s'.H τ (splice (cellsOf τ y) off (cellsV v)) = toEl s.H τ (splice (cellsOf τ y) off (cellsV v)) := fun τ y off => toEl_congr τ _ fun b hb => hv b (by
    unfold splice at hb
    rw [ids_append, ids_append, List.mem_append, List.mem_append] at hb
    rcases hb with (hb | hb) | hb
    · have := ids_part off 0 (.inl hb); rw [cellsOf_ids] at this; simp at this
    · rwa [idsL_cellsV] at hb
    · have := ids_part 0 _ (.inr hb); rw [cellsOf_ids] at this; simp at this)
  cases x <;> simp only [htoEl]
  case bp b _ => rw [h b (by simp [AVal.ids])]
  case ap b _ _ _ => rw [h b (by simp [AVal.ids])]

theorem stIndexAddr_congr {t : TypeId} {x y : AVal} (h : ∀ b ∈ x.ids, s'.H b = s.H b) : stIndexAddr T s' t x y K = stIndexAddr T s t x y K := by
  unfold stIndexAddr
  cases x <;> simp only
  case own b => rw [h b (by simp [AVal.ids])]

theorem stSlice_congr {t : TypeId} {x : AVal} {lo hi : Option AVal} (h : ∀ b ∈ x.ids, s'.H b = s.H b) : stSlice T s' t x lo hi K = stSlice T s t x lo hi K := by
  unfold stSlice
  rw [listOf_congr x h, rest_congr x.ids h]

theorem ids_of_parts {ps : List (Nat × AVal)} {p : Nat × AVal} (hp : p ∈ ps) {b : Nat} (hb : b ∈ p.2.ids) : b ∈ AVal.idsL (ps.map (·.2)) := by
  induction ps with
  | nil => simp at hp
  | cons q ps ih =>
    rw [List.map_cons]
    unfold AVal.idsL
    rcases List.mem_cons.1 hp with rfl | hp
    · simp [hb]
    · simp [ih hp]

theorem parts_congr {ps : List (Nat × AVal)} (h : ∀ b ∈ AVal.idsL (ps.map (·.2)), s'.H b = s.H b) : (ps.all fun p => (cellsV p.2).all (AVal.cell s'.H)) = ps.all fun p => (cellsV p.2).all (AVal.cell s.H) := by
  induction ps with
  | nil => rfl
  | cons q ps ih =>
    rw [List.all_cons, List.all_cons, cells_congr (cellsV q.2) fun b hb => h b (ids_of_parts (p := q) (by simp) (by rwa [idsL_cellsV] at hb)), ih fun b hb => h b (by rw [List.map_cons]; unfold AVal.idsL; simp [hb])]

theorem stBuild_congr {t : TypeId} {ps : List (Nat × AVal)} (h : ∀ b ∈ AVal.idsL (ps.map (·.2)), s'.H b = s.H b) : stBuild T s' t ps K = stBuild T s t ps K := by
  unfold stBuild
  rw [parts_congr h]

theorem stBuildSlice_congr {nid : Nat} {t : TypeId} {len : Nat} {ps : List (Nat × AVal)} (h : ∀ b ∈ AVal.idsL (ps.map (·.2)), s'.H b = s.H b) : stBuildSlice T s' nid t len ps K = stBuildSlice T s nid t len ps K := by
  unfold stBuildSlice
  rw [parts_congr h, rest_congr _ h]
  have : ∀ τ : Ty, toEls s'.H τ (ps.map (·.2)) = toEls s.H τ (ps.map (·.2)) := fun τ => toEls_congr τ _ h
  simp only [this]

theorem stAppend_congr {nid : Nat} {t : TypeId} {x y : AVal} (hx : ∀ b ∈ x.ids, s'.H b = s.H b) (hy : ∀ b ∈ y.ids, s'.H b = s.H b) : stAppend T s' nid t x y K = stAppend T s nid t x y K := by
  unfold stAppend
  rw [listOf_congr y hy]
  cases x <;> simp only
  case own b => rw [hx b (by simp [AVal.ids])]

theorem stLen_congr {x : AVal} (h : ∀ b ∈ x.ids, s'.H b = s.H b) : stLen s' x K = stLen s x K := by
  unfold stLen
  rw [listOf_congr x h]

theorem stCall_congr {d : Nat} {f : AVal} {args : List AVal} (hH : s'.H = s.H ∨ (f.ids = [] ∧ AVal.idsL args = [])) (h : stCall P s d f args K) : stCall P s' d f args K := by
  unfold stCall at *
  split at h
  · rename_i g p c
    obtain ⟨D, rn, hin, l, hout, r, h1, h2, h3, h4, h5⟩ := h
    refine ⟨D, rn, hin, l, hout, r, h1, h2, ?_⟩
    rcases hH with hH | ⟨hf, ha⟩
    · rw [hH]; exact ⟨h3, h4, h5⟩
    · have hids : AVal.idsL (p ++ args ++ c) = [] := by
        simp only [AVal.ids, List.append_eq_nil_iff] at hf
        rw [ids_append, ids_append, hf.1, ha, hf.2]; rfl
      unfold callOK at h2
      simp only [Bool.and_eq_true] at h2
      obtain ⟨⟨⟨⟨⟨_, k5⟩, _⟩, _⟩, _⟩, _⟩ := h2
      rw [hids] at k5
      simp at k5
      obtain ⟨rfl, rfl⟩ := k5
      exact ⟨LeL_congr0 _ _ hids h3, trivial, h5⟩
  · exact h.elim

theorem stBuiltin_congr {nid : Nat} {b : Builtin} {tys : List TypeId} {args : List AVal} (ha : ∀ b ∈ AVal.idsL args, s'.H b = s.H b) : stBuiltin T s' nid b tys args K = stBuiltin T s nid b tys args K := by
  unfold stBuiltin
  split
  · rw [stLen_congr fun b hb => ha b (by simp [AVal.idsL, hb])]
  · rw [stAppend_congr (fun b hb => ha b (by simp [AVal.idsL, hb])) (fun b hb => ha b (by simp [AVal.idsL, hb]))]
  · rfl
  · rfl
  · rfl

theorem map_congr_ev {l : List Operand} (h : ∀ x ∈ l, s'.ev x = s.ev x) : l.map s'.ev = l.map s.ev := List.map_congr_left h

/-- A call of a function of the text's own, or of a value. -/
def isFnCall : Op → Bool
  | .call c => match c.callee with
    | .value _ => true
    | _ => false
  | _ => false

theorem stepOp_congr {o : Oper} (hev : ∀ x ∈ o.op.operands, s'.ev x = s.ev x) (hH : ∀ b ∈ AVal.idsL (o.op.operands.toList.map s.ev), s'.H b = s.H b) (hC : isFnCall o.op = true → s'.H = s.H ∨ AVal.idsL (o.op.operands.toList.map s.ev) = []) (h : stepOp P T s o K) : stepOp P T s' o K := by
  have hid : ∀ {x : Operand}, x ∈ o.op.operands → ∀ b ∈ (s.ev x).ids, s'.H b = s.H b := by
    intro x hx b hb
    refine hH b ?_
    have hx' : x ∈ o.op.operands.toList := by simpa using hx
    generalize o.op.operands.toList = l at hx'
    induction l with
    | nil => simp at hx'
    | cons y l ih =>
      rw [List.map_cons]
      unfold AVal.idsL
      rcases List.mem_cons.1 hx' with rfl | hx'
      · simp [hb]
      · simp [ih hx']
  have hidL : ∀ {l : List Operand}, (∀ x ∈ l, x ∈ o.op.operands) → ∀ b ∈ AVal.idsL (l.map s.ev), s'.H b = s.H b := by
    intro l
    induction l with
    | nil => intro _ b hb; simp [AVal.idsL] at hb
    | cons y l ih =>
      intro hl b hb
      rw [List.map_cons] at hb
      unfold AVal.idsL at hb
      rcases List.mem_append.1 hb with hb | hb
      · exact hid (hl y (by simp)) b hb
      · exact ih (fun x hx => hl x (by simp [hx])) b hb
  unfold stepOp at *
  split at h
  case h_1 x ho => rw [hev x (by simp [ho, Op.operands])]; exact h
  case h_2 x ho => rw [hev x (by simp [ho, Op.operands])]; exact h
  case h_3 c x y ho =>
    rw [hev c (by simp [ho, Op.operands]), hev x (by simp [ho, Op.operands]), hev y (by simp [ho, Op.operands])]; exact h
  case h_4 => exact h
  case h_5 t x ho =>
    have hx : x ∈ o.op.operands := by simp [ho, Op.operands]
    rw [hev x hx, cells_congr (H' := s'.H) (H := s.H) _ (fun b hb => hid hx b (by rwa [idsL_cellsV] at hb))]; exact h
  case h_6 t parts ho =>
    have e : (parts.toList.map fun p => (p.1, s'.ev p.2)) = parts.toList.map fun p => (p.1, s.ev p.2) := List.map_congr_left fun p hp => by rw [hev p.2 (by simp [ho, Op.operands]; exact ⟨p.1, by simpa using hp⟩)]
    rw [e, stBuild_congr fun b hb => ?_]
    · exact h
    · rw [List.map_map] at hb
      refine hidL (l := parts.toList.map (·.2)) (fun x hx => ?_) b (by simpa [Function.comp_def] using hb)
      obtain ⟨p, hp, rfl⟩ := List.mem_map.1 hx
      simp [ho, Op.operands]; exact ⟨p.1, by simpa using hp⟩
  case h_7 t len parts ho =>
    have e : (parts.toList.map fun p => (p.1, s'.ev p.2)) = parts.toList.map fun p => (p.1, s.ev p.2) := List.map_congr_left fun p hp => by rw [hev p.2 (by simp [ho, Op.operands]; exact ⟨p.1, by simpa using hp⟩)]
    rw [e, stBuildSlice_congr fun b hb => ?_]
    · exact h
    · rw [List.map_map] at hb
      refine hidL (l := parts.toList.map (·.2)) (fun x hx => ?_) b (by simpa [Function.comp_def] using hb)
      obtain ⟨p, hp, rfl⟩ := List.mem_map.1 hx
      simp [ho, Op.operands]; exact ⟨p.1, by simpa using hp⟩
  case h_8 t x ho =>
    have hx : x ∈ o.op.operands := by simp [ho, Op.operands]
    rw [hev x hx, stLoad_congr (hid hx)]; exact h
  case h_9 t x v ho =>
    have hx : x ∈ o.op.operands := by simp [ho, Op.operands]
    have hv : v ∈ o.op.operands := by simp [ho, Op.operands]
    rw [hev x hx, hev v hv, stStore_congr (hid hx) (hid hv)]; exact h
  case h_10 x ho => rw [hev x (by simp [ho, Op.operands])]; exact h
  case h_11 op t x y yt ho =>
    rw [hev x (by simp [ho, Op.operands]), hev y (by simp [ho, Op.operands])]; exact h
  case h_12 op t x ho => rw [hev x (by simp [ho, Op.operands])]; exact h
  case h_13 src dst x ho => rw [hev x (by simp [ho, Op.operands])]; exact h
  case h_14 f fst cap ho =>
    rw [map_congr_ev fun x hx => hev x (by simp [ho, Op.operands]; exact .inl (by simpa using hx)), map_congr_ev fun x hx => hev x (by simp [ho, Op.operands]; exact .inr (by simpa using hx))]; exact h
  case h_15 t l c ho =>
    rw [hev l (by simp [ho, Op.operands]), hev c (by simp [ho, Op.operands])]; exact h
  case h_16 t x lo hi ho =>
    have hx : x ∈ o.op.operands := by simp [ho, Op.operands]
    have e1 : lo.map s'.ev = lo.map s.ev := by cases lo <;> simp [hev _, ho, Op.operands]
    have e2 : hi.map s'.ev = hi.map s.ev := by cases hi <;> simp [hev _, ho, Op.operands]
    rw [hev x hx, e1, e2, stSlice_congr (hid hx)]; exact h
  case h_17 t x f ho => rw [hev x (by simp [ho, Op.operands])]; exact h
  case h_18 t x f ho => rw [hev x (by simp [ho, Op.operands])]; exact h
  case h_19 t x ix ho =>
    have hx : x ∈ o.op.operands := by simp [ho, Op.operands]
    rw [hev x hx, hev ix (by simp [ho, Op.operands]), stIndexAddr_congr (hid hx)]; exact h
  case h_20 x i ho => rw [hev x (by simp [ho, Op.operands])]; exact h
  case h_21 c ho =>
    have hargs : ∀ x ∈ c.args.toList, x ∈ o.op.operands := fun x hx => by simp [ho, Op.operands, Call.operands]; exact .inr (by simpa using hx)
    rw [map_congr_ev fun x hx => hev x (hargs x hx)]
    split at h
    · rename_i b hc
      rw [stBuiltin_congr (hidL hargs)]; exact h
    · rename_i f hc
      have hf : f ∈ o.op.operands := by simp [ho, Op.operands, Call.operands, hc]
      rw [hev f hf]
      refine stCall_congr ?_ h
      rcases hC (by simp [ho, isFnCall, hc]) with hH0 | hH0
      · exact .inl hH0
      · refine .inr ?_
        have hz : ∀ (l : List Operand), AVal.idsL (l.map s.ev) = [] → ∀ x ∈ l, (s.ev x).ids = [] := by
          intro l
          induction l with
          | nil => intro _ x hx; simp at hx
          | cons y l ih =>
            intro h0 x hx
            simp only [List.map_cons, AVal.idsL, List.append_eq_nil_iff] at h0
            rcases List.mem_cons.1 hx with rfl | hx
            · exact h0.1
            · exact ih h0.2 x hx
        have hy : ∀ (l : List Operand), (∀ x ∈ l, (s.ev x).ids = []) → AVal.idsL (l.map s.ev) = [] := by
          intro l
          induction l with
          | nil => intro _; rfl
          | cons y l ih =>
            intro h0
            simp only [List.map_cons, AVal.idsL, h0 y (by simp), ih (fun x hx => h0 x (by simp [hx])), List.append_nil]
        exact ⟨hz _ hH0 f (by simpa using hf), hy _ fun x hx => hz _ hH0 x (by simpa using hargs x hx)⟩
    · exact h.elim
  case h_22 => exact h.elim

theorem gstep_congr {ops : List Oper} {o : Oper} (hev : ∀ x ∈ o.op.operands, s'.ev x = s.ev x) (hg0 : ∀ j want t, o.guard = some (j, want) → (ops[j]?).bind (·.dst) = some t → s'.σ t = s.σ t)
    (hH : ∀ b ∈ AVal.idsL (o.op.operands.toList.map s.ev), s'.H b = s.H b) (hC : isFnCall o.op = true → s'.H = s.H ∨ AVal.idsL (o.op.operands.toList.map s.ev) = []) (h : gstep P T ops s o K) : gstep P T ops s' o K := by
  unfold gstep at *
  cases hg : o.guard with
  | none => simp only [hg] at h ⊢; exact stepOp_congr hev hH hC h
  | some q =>
    obtain ⟨j, want⟩ := q
    simp only [hg] at h ⊢
    cases hj : (ops[j]?).bind (·.dst) with
    | none => simp [hj] at h
    | some t =>
      simp only [hj] at h ⊢
      rw [hg0 j want t hg hj]
      cases hσ : s.σ t <;> simp only [hσ] at h ⊢
      case bool p => exact ⟨fun hp => stepOp_congr hev hH hC (h.1 hp), h.2⟩
      case cv u => exact h

end
end Go.Proofs.Ytcijihofjcfpoab
