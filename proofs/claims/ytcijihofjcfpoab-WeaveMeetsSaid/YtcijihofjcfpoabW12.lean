/-
  Layer 3, pure: WeaveMeets.
-/
import Derived.Test.YtcijihofjcfpoabW9
import Derived.Test.YtcijihofjcfpoabW11
namespace Go.Proofs.Ytcijihofjcfpoab
open Go.RowKit

set_option linter.unusedVariables false
set_option linter.unusedSimpArgs false
set_option maxRecDepth 10000

variable {l : Ltr}

theorem dep_self (l : Ltr) (a : Int) : dep l a a = true := by simp [dep]
theorem dep_ne {a b : Int} (h : dep l a b = false) : a ≠ b := fun e => by subst e; rw [dep_self] at h; cases h

/-! ### What both have in front -/

theorem nxF_swap (x y : List Int) (a : Nat) : nxF l y x a = (nxF l x y a).map fun q => (q.1, q.2.2, q.2.1) := by
  unfold nxF
  cases wo l x (a : Int) <;> cases wo l y (a : Int) <;> rfl

theorem nx_swap (x y : List Int) : nx l y x = (nx l x y).map fun q => (q.1, q.2.2, q.2.1) := by
  unfold nx
  induction List.range 6 with
  | nil => rfl
  | cons a L ih =>
    rw [List.findSome?_cons, List.findSome?_cons, nxF_swap]
    cases nxF l x y a with
    | none => exact ih
    | some q => rfl

theorem SP_swap : ∀ (n : Nat) (x y : List Int), x.length = n → SP l y x = ((SP l x y).1, (SP l x y).2.2, (SP l x y).2.1) := by
  intro n
  induction n using Nat.strongRecOn with
  | ind n ih =>
    intro x y hn
    rw [SP_eq l y x, SP_eq l x y, nx_swap]
    cases h : nx l x y with
    | none => rfl
    | some q =>
      obtain ⟨a, u, o⟩ := q
      have := (wo_some l x a u (nx_some h).1).1
      simp only [Option.map_some]
      rw [ih u.length (by omega) u o rfl]

theorem SP_rs : ∀ (n : Nat) (x y : List Int), x.length = n → rs l (SP l x y).1 x = some (SP l x y).2.1 ∧ rs l (SP l x y).1 y = some (SP l x y).2.2 ∧ nx l (SP l x y).2.1 (SP l x y).2.2 = none := by
  intro n
  induction n using Nat.strongRecOn with
  | ind n ih =>
    intro x y hn
    rw [SP_eq l x y]
    cases h : nx l x y with
    | none => exact ⟨rfl, rfl, h⟩
    | some q =>
      obtain ⟨a, u, o⟩ := q
      have hh := nx_some h
      have := (wo_some l x a u hh.1).1
      obtain ⟨h1, h2, h3⟩ := ih u.length (by omega) u o rfl
      simp only
      rw [rs_cons, rs_cons, hh.1, hh.2]
      exact ⟨h1, h2, h3⟩

theorem nx_apart (hl : okL l = true) {x y : List Int} (hx : isWd l x = true) (h : nx l x y = none) (b : Int) : wo l x b = none ∨ wo l y b = none := by
  cases h1 : wo l x b with
  | none => exact .inl rfl
  | some u =>
    have hb := isWd_six hl hx b (wo_some l x b u h1).2.2
    have hn := List.findSome?_eq_none_iff.1 h b.toNat (List.mem_range.2 (by omega))
    unfold nxF at hn
    have e : ((b.toNat : Nat) : Int) = b := by omega
    rw [e, h1, Option.bind_some] at hn
    exact .inr (by simpa using hn)

/-- A letter in front, and a word in front. -/
theorem rs_wo : ∀ {o x : List Int} {a : Int} {p u : List Int}, rs l o x = some p → wo l x a = some u →
    (∃ o', wo l o a = some o' ∧ rs l o' u = some p) ∨ (wo l o a = none ∧ (∀ b ∈ o, dep l a b = false) ∧ ∃ p', rs l o u = some p' ∧ wo l p a = some p')
  | [], x, a, p, u, h, hw => by
    rw [rs_nil] at h; injection h with h; subst h
    exact .inr ⟨rfl, by simp, u, rfl, hw⟩
  | b :: o, x, a, p, u, h, hw => by
    rw [rs_cons, Option.bind_eq_some_iff] at h
    obtain ⟨x1, h1, h2⟩ := h
    by_cases e : b = a
    · subst e
      rw [h1] at hw; injection hw with hw; subst hw
      exact .inl ⟨o, wo_head l b o, h2⟩
    · obtain ⟨hd, z, k1, k2⟩ := wo_both e h1 hw
      have hd' : dep l a b = false := by rw [dep_symm]; exact hd
      rcases rs_wo h2 k1 with ⟨o', g1, g2⟩ | ⟨g1, g2, p', g3, g4⟩
      · exact .inl ⟨b :: o', by rw [wo_skip e hd', g1]; rfl, by rw [rs_cons, k2]; exact g2⟩
      · refine .inr ⟨by rw [wo_skip e hd', g1]; rfl, fun c hc => ?_, p', by rw [rs_cons, k2]; exact g3, g4⟩
        rcases List.mem_cons.1 hc with rfl | hc
        · exact hd'
        · exact g2 c hc

theorem rs_skip {a : Int} : ∀ {o w r : List Int}, (∀ b ∈ o, dep l a b = false) → rs l o w = some r → rs l o (a :: w) = some (a :: r)
  | [], w, r, _, h => by rw [rs_nil] at h ⊢; injection h with h; subst h; rfl
  | b :: o, w, r, hd, h => by
    rw [rs_cons, Option.bind_eq_some_iff] at h
    obtain ⟨w1, h1, h2⟩ := h
    have hb := hd b (by simp)
    rw [rs_cons, wo_skip (dep_ne hb) (by rw [dep_symm]; exact hb), h1]
    exact rs_skip (fun c hc => hd c (by simp [hc])) h2

/-- What begins both, begins what both have in front. -/
theorem SP_greatest (hl : okL l = true) : ∀ (n : Nat) (x y o p q : List Int), x.length = n → isWd l x = true → rs l o x = some p → rs l o y = some q → ∃ r, rs l o (SP l x y).1 = some r := by
  intro n
  induction n using Nat.strongRecOn with
  | ind n ih =>
    intro x y o p q hn hx hp hq
    rw [SP_eq l x y]
    cases h : nx l x y with
    | none =>
      cases o with
      | nil => exact ⟨_, rfl⟩
      | cons b o =>
        rw [rs_cons, Option.bind_eq_some_iff] at hp hq
        obtain ⟨x1, h1, _⟩ := hp
        obtain ⟨y1, h2, _⟩ := hq
        rcases nx_apart hl hx h b with g | g
        · rw [h1] at g; cases g
        · rw [h2] at g; cases g
    | some t =>
      obtain ⟨a, u, v⟩ := t
      have hh := nx_some h
      have hlen := (wo_some l x a u hh.1).1
      have hu := isWd_wo hx hh.1
      simp only
      rcases rs_wo hp hh.1 with ⟨o', g1, g2⟩ | ⟨g1, gd, p', g2, _⟩
      · rcases rs_wo hq hh.2 with ⟨o2, k1, k2⟩ | ⟨k1, _⟩
        · rw [g1] at k1; injection k1 with k1; subst k1
          obtain ⟨r, hr⟩ := ih u.length (by omega) u v o' p q rfl hu g2 k2
          have e1 : eqv l (a :: o') o := eqv_cons.2 ⟨o', g1, eqv_refl l o'⟩
          have e2 : rs l (a :: o') (a :: (SP l u v).1) = some r := by rw [rs_cons, wo_head]; exact hr
          obtain ⟨r', hr', _⟩ := rs_eqv e2 e1 (eqv_refl l _)
          exact ⟨r', hr'⟩
        · rw [g1] at k1; cases k1
      · rcases rs_wo hq hh.2 with ⟨o2, k1, _⟩ | ⟨_, _, q', k2, _⟩
        · rw [g1] at k1; cases k1
        · obtain ⟨r, hr⟩ := ih u.length (by omega) u v o p' q' rfl hu g2 k2
          exact ⟨_, rs_skip gd hr⟩

/-- Two words that begin the same one and share no letter in front: they do not depend on each other, and both together begin it. -/
theorem both_begin : ∀ {x y o p q : List Int}, (∀ b, wo l x b = none ∨ wo l y b = none) → rs l x o = some p → rs l y o = some q → (∀ a ∈ x, ∀ b ∈ y, dep l a b = false) ∧ ∃ r, rs l (x ++ y) o = some r
  | [], y, o, p, q, _, _, hq => ⟨by simp, q, hq⟩
  | a :: x, y, o, p, q, ha, hp, hq => by
    rw [rs_cons, Option.bind_eq_some_iff] at hp
    obtain ⟨o2, h1, h2⟩ := hp
    rcases rs_wo hq h1 with ⟨y', g1, _⟩ | ⟨_, gd, q', g2, _⟩
    · rcases ha a with k | k
      · rw [wo_head] at k; cases k
      · rw [g1] at k; cases k
    · have hap : ∀ b, wo l x b = none ∨ wo l y b = none := fun b => by
        cases k1 : wo l x b with
        | none => exact .inl rfl
        | some x' =>
          cases k2 : wo l y b with
          | none => exact .inr rfl
          | some y' =>
            have hb := gd b (wo_some l y b y' k2).2.2
            rcases ha b with k | k
            · rw [wo_skip (dep_ne hb) (by rw [dep_symm]; exact hb), k1] at k; cases k
            · rw [k2] at k; cases k
      obtain ⟨i1, r, i2⟩ := both_begin hap h2 g2
      refine ⟨fun c hc b hb => ?_, r, by rw [List.cons_append, rs_cons, h1]; exact i2⟩
      rcases List.mem_cons.1 hc with rfl | hc
      · exact gd b hb
      · exact i1 c hc b hb

theorem wo_mid {a : Int} : ∀ {y x : List Int}, (∀ b ∈ y, dep l a b = false) → wo l (y ++ a :: x) a = some (y ++ x)
  | [], x, _ => wo_head l a x
  | b :: y, x, h => by
    have hb := h b (by simp)
    rw [List.cons_append, wo_skip (Ne.symm (dep_ne hb)) hb, wo_mid (fun c hc => h c (by simp [hc]))]; rfl

theorem apart_comm : ∀ {x y : List Int}, (∀ a ∈ x, ∀ b ∈ y, dep l a b = false) → eqv l (x ++ y) (y ++ x)
  | [], y, _ => by rw [List.nil_append, List.append_nil]; exact eqv_refl l y
  | a :: x, y, h => by
    rw [List.cons_append]
    exact eqv_cons.2 ⟨y ++ x, wo_mid (h a (by simp)), apart_comm fun c hc => h c (by simp [hc])⟩

theorem any_apart {x y : List Int} : x.any (fun a => y.any (dep l a)) = false ↔ ∀ a ∈ x, ∀ b ∈ y, dep l a b = false := by
  simp [List.any_eq_false]

theorem any_swap (x y : List Int) : y.any (fun a => x.any (dep l a)) = x.any (fun a => y.any (dep l a)) := by
  rw [Bool.eq_iff_iff]
  simp only [List.any_eq_true]
  constructor
  · rintro ⟨a, ha, b, hb, h⟩; exact ⟨b, hb, a, ha, by rw [dep_symm]; exact h⟩
  · rintro ⟨a, ha, b, hb, h⟩; exact ⟨b, hb, a, ha, by rw [dep_symm]; exact h⟩

theorem rs_prefix (l : Ltr) (u v : List Int) : rs l u (u ++ v) = some v := by
  have := rs_front l u [] v
  rw [List.append_nil] at this
  exact this

/-! ### The law -/

theorem Common_ok {w v : List Int} (hf : few l.2) (hl : okL l = true) (hw : isWd l w = true) (hv : isWd l v = true) : weave_Common l w v = some (FF l (SP l w v).1, 0) := by
  rw [Common_eq l w v hf (len60 hw) (len60 hv)]
  unfold commonA; rw [if_pos (errW_of2 hl hw hv)]

def bothB (l : Ltr) (w v : List Int) : List Int × Int :=
  if (SP l w v).2.1.any (fun a => (SP l w v).2.2.any (dep l a)) = true then ([], 5)
  else if (SP l w v).1.length + (SP l w v).2.1.length + (SP l w v).2.2.length ≤ 10 then (FF l ((SP l w v).1 ++ (SP l w v).2.1 ++ (SP l w v).2.2), 0) else ([], 4)

theorem Both_ok {w v : List Int} (hf : few l.2) (hl : okL l = true) (hw : isWd l w = true) (hv : isWd l v = true) : weave_Both l w v = some (bothB l w v) := by
  rw [Both3_eq l w v hf (len60 hw) (len60 hv)]
  unfold bothA bothB; rw [if_pos (errW_of2 hl hw hv)]

theorem bothB_len (hl : okL l = true) {w v : List Int} (hw : isWd l w = true) (hv : isWd l v = true) : (bothB l w v).1.length ≤ 60 := by
  have := bothA_len l w v
  unfold bothA at this
  rw [if_pos (errW_of2 hl hw hv)] at this
  exact this

theorem bothB_swap (w v : List Int) : bothB l v w = bothB l w v := by
  unfold bothB
  rw [SP_swap _ w v rfl]
  simp only
  rw [any_swap]
  cases h : (SP l w v).2.1.any (fun a => (SP l w v).2.2.any (dep l a)) with
  | true => rfl
  | false =>
    simp only [Bool.false_eq_true, if_false]
    have e : FF l ((SP l w v).1 ++ (SP l w v).2.2 ++ (SP l w v).2.1) = FF l ((SP l w v).1 ++ (SP l w v).2.1 ++ (SP l w v).2.2) := by
      rw [List.append_assoc, List.append_assoc]
      exact FF_eq (eqv_front (eqv_symm (apart_comm (any_apart.1 h))))
    rw [e, show (SP l w v).1.length + (SP l w v).2.2.length + (SP l w v).2.1.length = (SP l w v).1.length + (SP l w v).2.1.length + (SP l w v).2.2.length by omega]

theorem begins_ok {u w : List Int} (hf : few l.2) (hl : okL l = true) (hu : isWd l u = true) (hw : isWd l w = true) : lineallaw03_begins l u w = some (rs l u w).isSome := by
  unfold lineallaw03_begins
  rw [Begins_ok hf hl hu hw, Option.bind_some]; rfl

theorem Meets_k2_ok {w v o : List Int} {b : Bool} (hf : few l.2) (hl : okL l = true) (hw : isWd l w = true) (hv : isWd l v = true) (ho : isWd l o = true) (hb : b = true → (rs l w o).isSome = true ∧ (rs l v o).isSome = true) :
    lineallaw03_WeaveMeets_k2 l w v o (FF l (SP l w v).1, 0) (bothB l w v) (bothB l v w) b = some true := by
  obtain ⟨k1, k2, k3⟩ := SP_words hw hv
  obtain ⟨r1, r2, hn⟩ := SP_rs _ w v rfl
  have lw := isWd_len hw
  have lv := isWd_len hv
  have lo := isWd_len ho
  have n1 := (rs_some l _ _ _ r1).1
  have n2 := (rs_some l _ _ _ r2).1
  have lc := FF_len hl k1
  have e1 := eqv_of_rs r1
  have e2 := eqv_of_rs r2
  have hlub : b = true → (∀ x ∈ (SP l w v).2.1, ∀ y ∈ (SP l w v).2.2, dep l x y = false) ∧ ∃ r, rs l ((SP l w v).1 ++ (SP l w v).2.1 ++ (SP l w v).2.2) o = some r := by
    intro hbt
    obtain ⟨h1, h2⟩ := hb hbt
    obtain ⟨p, hp⟩ := Option.isSome_iff_exists.1 h1
    obtain ⟨q, hq⟩ := Option.isSome_iff_exists.1 h2
    obtain ⟨p', hp', _⟩ := rs_eqv hp (eqv_symm e1) (eqv_refl l o)
    obtain ⟨q', hq', _⟩ := rs_eqv hq (eqv_symm e2) (eqv_refl l o)
    rw [rs_append, Option.bind_eq_some_iff] at hp' hq'
    obtain ⟨o1, g1, g2⟩ := hp'
    obtain ⟨o2, g3, g4⟩ := hq'
    rw [g1] at g3; injection g3 with g3; subst g3
    obtain ⟨i1, r, i2⟩ := both_begin (nx_apart hl k2 hn) g2 g4
    exact ⟨i1, r, by rw [List.append_assoc, rs_append, g1]; exact i2⟩
  have hblen := bothB_len hl hw hv
  unfold lineallaw03_WeaveMeets_k2
  rw [bothB_swap w v]
  simp only [decide_true, Bool.not_true, Bool.false_eq_true, if_false]
  rw [same_self _ (by omega), Option.bind_some]
  simp only [Bool.not_true, Bool.false_eq_true, if_false]
  unfold bothB
  cases h : (SP l w v).2.1.any (fun a => (SP l w v).2.2.any (dep l a)) with
  | true =>
    have hb0 : b = false := by
      cases b with
      | false => rfl
      | true => rw [any_apart.2 (hlub rfl).1] at h; cases h
    subst hb0
    simp only [if_true, Awake3_eq]; rfl
  | false =>
    simp only [Bool.false_eq_true, if_false]
    have ha := any_apart.1 h
    by_cases h10 : (SP l w v).1.length + (SP l w v).2.1.length + (SP l w v).2.2.length ≤ 10
    · have kJ : isWd l ((SP l w v).1 ++ (SP l w v).2.1 ++ (SP l w v).2.2) = true := isWd_append (isWd_append k1 k2 (by omega)) k3 (by simp; omega)
      have kF := FF_isWd hl kJ
      have lJ := FF_len hl kJ
      rw [List.length_append, List.length_append] at lJ
      have eF := FF_eqv hl kJ
      have bw : (rs l w (FF l ((SP l w v).1 ++ (SP l w v).2.1 ++ (SP l w v).2.2))).isSome = true := by
        obtain ⟨r, hr, _⟩ := rs_eqv (rs_prefix l ((SP l w v).1 ++ (SP l w v).2.1) (SP l w v).2.2) e1 (eqv_symm eF)
        rw [hr]; rfl
      have bv : (rs l v (FF l ((SP l w v).1 ++ (SP l w v).2.1 ++ (SP l w v).2.2))).isSome = true := by
        have e3 : eqv l ((SP l w v).1 ++ (SP l w v).2.2 ++ (SP l w v).2.1) ((SP l w v).1 ++ (SP l w v).2.1 ++ (SP l w v).2.2) := by
          rw [List.append_assoc, List.append_assoc]
          exact eqv_front (eqv_symm (apart_comm ha))
        obtain ⟨r, hr, _⟩ := rs_eqv (rs_prefix l ((SP l w v).1 ++ (SP l w v).2.2) (SP l w v).2.1) e2 (eqv_trans e3 (eqv_symm eF))
        rw [hr]; rfl
      simp only [if_pos h10, decide_true, Bool.not_true, Bool.false_eq_true, if_false]
      rw [ck_pos (by rw [inK_i64]; omega), ck_pos (by rw [inK_i64]; omega), if_pos (by simp only [decide_eq_true_eq]; omega), begins_ok hf hl hw kF, Option.bind_some, bw, if_pos rfl, begins_ok hf hl hv kF, Option.bind_some, bv, if_pos rfl]
      cases b with
      | false => simp only [Bool.not_false, if_true, Awake3_eq]; rfl
      | true =>
        obtain ⟨_, r, hr⟩ := hlub rfl
        obtain ⟨r', hr', _⟩ := rs_eqv hr (eqv_symm eF) (eqv_refl l o)
        simp only [Bool.not_true, Bool.false_eq_true, if_false]
        rw [begins_ok hf hl kF ho, Option.bind_some, hr', Awake3_eq]; rfl
    · have hb0 : b = false := by
        cases b with
        | false => rfl
        | true =>
          obtain ⟨_, r, hr⟩ := hlub rfl
          have := (rs_some l _ _ _ hr).1
          simp at this; omega
      subst hb0
      simp only [if_neg h10]
      rw [if_pos (by decide), if_neg (by decide), if_pos (by decide), ck_pos (by rw [inK_i64]; omega), ck_pos (by rw [inK_i64]; omega), if_pos (by simp; omega), Awake3_eq]; rfl

theorem Meets_k1_ok {w v o : List Int} (hf : few l.2) (hl : okL l = true) (hw : isWd l w = true) (hv : isWd l v = true) (ho : isWd l o = true) : lineallaw03_WeaveMeets_k1 l w v o (FF l (SP l w v).1, 0) = some true := by
  unfold lineallaw03_WeaveMeets_k1
  rw [Both_ok hf hl hw hv, Option.bind_some, Both_ok hf hl hv hw, Option.bind_some, begins_ok hf hl hw ho, Option.bind_some]
  cases h1 : (rs l w o).isSome with
  | false =>
    simp only [Bool.false_eq_true, if_false]
    exact Meets_k2_ok hf hl hw hv ho (fun h => by cases h)
  | true =>
    simp only [if_true]
    rw [begins_ok hf hl hv ho, Option.bind_some]
    exact Meets_k2_ok hf hl hw hv ho (fun h => ⟨h1, h⟩)

theorem WeaveMeets_eq (l : Ltr) (hf : few l.2) (w v o : List Int) : lineallaw03_WeaveMeets l w v o = some true := by
  unfold lineallaw03_WeaveMeets
  rcases valid_cases (l := l) [w, v, o] hf (by unfold few; simp) with h | ⟨h, hl, hws⟩
  · rw [h, Option.bind_some, Awake3_eq]; rfl
  rw [h, Option.bind_some]
  have hw := hws w (by simp)
  have hv := hws v (by simp)
  have ho := hws o (by simp)
  obtain ⟨k1, k2, k3⟩ := SP_words hw hv
  obtain ⟨r1, r2, hn⟩ := SP_rs _ w v rfl
  have kF := FF_isWd hl k1
  have eF := FF_eqv hl k1
  have b1 : (rs l (FF l (SP l w v).1) w).isSome = true := by
    obtain ⟨r, hr, _⟩ := rs_eqv r1 (eqv_symm eF) (eqv_refl l w); rw [hr]; rfl
  have b2 : (rs l (FF l (SP l w v).1) v).isSome = true := by
    obtain ⟨r, hr, _⟩ := rs_eqv r2 (eqv_symm eF) (eqv_refl l v); rw [hr]; rfl
  have kk := Meets_k1_ok hf hl hw hv ho
  simp only [Bool.not_true, Bool.false_eq_true, if_false]
  rw [Common_ok hf hl hw hv, Option.bind_some, Common_ok hf hl hv hw, Option.bind_some]
  have es : (SP l v w).1 = (SP l w v).1 := by rw [SP_swap _ w v rfl]
  rw [es]
  simp only [decide_true, Bool.not_true, Bool.false_eq_true, if_false]
  rw [same_FF hl k1 rfl, Option.bind_some]
  simp only [Bool.not_true, Bool.false_eq_true, if_false]
  rw [begins_ok hf hl kF hw, Option.bind_some, b1, begins_ok hf hl kF hv, Option.bind_some, b2, begins_ok hf hl ho hw, Option.bind_some]
  simp only [Bool.not_true, Bool.false_eq_true, if_false]
  cases h1 : (rs l o w).isSome with
  | false => simp only [Bool.false_eq_true, if_false]; exact kk
  | true =>
    simp only [if_true]
    rw [begins_ok hf hl ho hv, Option.bind_some]
    cases h2 : (rs l o v).isSome with
    | false => simp only [Bool.false_eq_true, if_false]; exact kk
    | true =>
      simp only [if_true]
      obtain ⟨p, hp⟩ := Option.isSome_iff_exists.1 h1
      obtain ⟨q, hq⟩ := Option.isSome_iff_exists.1 h2
      obtain ⟨r, hr⟩ := SP_greatest hl _ w v o p q rfl hw hp hq
      obtain ⟨r', hr', _⟩ := rs_eqv hr (eqv_refl l o) (eqv_symm eF)
      rw [begins_ok hf hl ho kF, Option.bind_some, hr']
      simp only [Option.isSome_some, Bool.not_true, Bool.false_eq_true, if_false]
      exact kk

end Go.Proofs.Ytcijihofjcfpoab
