/-
 Layer 5, pure: the walk over sets: what is seen of a system.
-/
import Derived.Test.YtifleoceebaooaaS10
namespace Go.Proofs.Ytifleoceebaooaa
open Go.RowKit

set_option linter.unusedVariables false
set_option linter.unusedSectionVars false
set_option linter.unusedSimpArgs false

/-! ### The place in a list -/

def idx : List Nat → Nat → Nat
 | [], _ => 0
 | y :: l, v => if v = y then 0 else idx l v + 1

theorem idx_get : ∀ {l : List Nat} {v : Nat}, v ∈ l → l[idx l v]? = some v
 | y :: l, v, h => by
  unfold idx
  by_cases e : v = y
  ·rw [if_pos e, e]; rfl
  ·rw [if_neg e, List.getElem?_cons_succ]
   rcases List.mem_cons.1 h with h | h
   ·exact absurd h e
   ·exact idx_get h

theorem idx_first : ∀ {l : List Nat} {v k : Nat}, l[k]? = some v → (∀ j, j < k → l[j]? ≠ some v) → idx l v = k
 | [], v, k, h, _ => by simp at h
 | y :: l, v, 0, h, _ => by
  have : y = v := by simpa using h
  unfold idx; rw [if_pos this.symm]
 | y :: l, v, k + 1, h, hf => by
  have hne : ¬ v = y := fun e => hf 0 (by omega) (by rw [e]; rfl)
  unfold idx
  rw [if_neg hne, idx_first (l := l) (k := k) (by rw [List.getElem?_cons_succ] at h; exact h) fun j hj => by
   have := hf (j + 1) (by omega)
   rw [List.getElem?_cons_succ] at this
   exact this]

theorem index2_eq (l : List Nat) (v : Nat) (hl : l.length ≤ 100) : slices_Index_2 (l.map fun (i : Nat) => (i : Int)) (v : Int) = some (if v ∈ l then ((idx l v : Nat) : Int) else -1) := by
 obtain ⟨r, e1, h⟩ := scan1 (R := Sum Int Unit) l (fun k => ∀ j, j < k → l[j]? ≠ some v) (fun r => match r with | .inl i => v ∈ l ∧ i = ((idx l v : Nat) : Int) | .inr _ => v ∉ l) (body := slices_Index_2_b1 (l.map fun (i : Nat) => (i : Int)) (v : Int)) (fun j hj => by omega)
  (fun k y hy hI => by
   have hlt := (List.getElem?_eq_some_iff.1 hy).1
   have ki : InK .i64 ((k : Int) + 1) := by rw [inK_i64]; omega
   have e0 : (l.map fun (i : Nat) => (i : Int)).getD k 0 = (y : Int) := getD_of (by rw [List.getElem?_map, hy]; rfl)
   by_cases h : v = y
   ·refine .inr ⟨.inl (k : Int), ?_, by rw [h]; exact List.mem_of_getElem? hy, by rw [idx_first (by rw [h]; exact hy) hI]⟩
    unfold slices_Index_2_b1
    simp only [Int.toNat_natCast, e0, List.length_map]
    rw [if_pos (by rw [decide_eq_true_eq]; omega), ck_pos (by omega), ck_pos (by omega), if_pos (by rw [decide_eq_true_eq]; omega)]
   ·refine .inl ⟨?_, fun j hj => ?_⟩
    ·unfold slices_Index_2_b1
     simp only [Int.toNat_natCast, e0, List.length_map]
     rw [if_pos (by rw [decide_eq_true_eq]; omega), ck_pos (by omega), ck_pos (by omega), if_neg (by rw [decide_eq_true_eq]; omega), ck_pos ki]
    ·rcases Nat.lt_succ_iff_lt_or_eq.1 hj with hj | hj
     ·exact hI j hj
     ·subst hj
      rw [hy]
      exact fun e => h (Option.some.inj e).symm)
  (fun hI => by
   refine ⟨.inr (), ?_, fun hm => ?_⟩
   ·unfold slices_Index_2_b1
    rw [if_neg (by rw [decide_eq_true_eq, List.length_map]; omega)]
   ·obtain ⟨j, hj⟩ := List.getElem?_of_mem hm
    exact hI j (List.getElem?_eq_some_iff.1 hj).1 hj)
 unfold slices_Index_2
 rw [e1, Option.bind_some]
 cases r with
 | inl i => simp only at h; simp [h.1, h.2]
 | inr u => simp only at h; unfold slices_Index_2_k1; simp [h]

theorem contains2_eq (l : List Nat) (v : Nat) (hl : l.length ≤ 100) : slices_Contains_2 (l.map fun (i : Nat) => (i : Int)) (v : Int) = some (decide (v ∈ l)) := by
 unfold slices_Contains_2
 rw [index2_eq l v hl, Option.bind_some]
 by_cases h : v ∈ l
 ·rw [if_pos h, decide_eq_true h, decide_eq_true (by omega)]
 ·rw [if_neg h, decide_eq_false h]; rfl

/-! ### The walk -/

abbrev Wst := List Nat × List Stp

def adv (f : Nat → Int → Nat) (i : Nat) (l : Int) (x : Wst) : Option Wst :=
 if f (x.1.getD i 0) l = 0 then some x
 else if 6 < (if f (x.1.getD i 0) l ∈ x.1 then x.1 else x.1 ++ [f (x.1.getD i 0) l]).length then none
 else some ((if f (x.1.getD i 0) l ∈ x.1 then x.1 else x.1 ++ [f (x.1.getD i 0) l]), x.2 ++ [((i : Int), l, ((idx (if f (x.1.getD i 0) l ∈ x.1 then x.1 else x.1 ++ [f (x.1.getD i 0) l]) (f (x.1.getD i 0) l) : Nat) : Int))])

def rowW (f : Nat → Int → Nat) (i : Nat) (x : Wst) : Option Wst := (adv f i 1 x).bind fun x => (adv f i 2 x).bind (adv f i 3)

def walk (f : Nat → Int → Nat) : Nat → Nat → Wst → Option Wst
 | 0, _, x => some x
 | n + 1, i, x => if i < x.1.length then (rowW f i x).bind (walk f n (i + 1)) else some x

structure WI (f : Nat → Int → Nat) (B b i : Nat) (l : Int) (x : Wst) : Prop where
 few : x.1.length ≤ 6
 nd : x.1.Nodup
 beg : x.1[0]? = some b
 lt : ∀ m ∈ x.1, m < B ∧ m ≠ 0
 all : ∀ (j m : Nat), x.1[j]? = some m → ∀ q : Int, 0 < q → q ≤ 3 → (j < i ∨ j = i ∧ q < l) → f m q = 0 ∨ ∃ t : Nat, x.1[t]? = some (f m q) ∧ ((j : Int), q, (t : Int)) ∈ x.2
 st : ∀ z ∈ x.2, ∃ (j : Nat) (q : Int) (t m : Nat), z = ((j : Int), q, (t : Int)) ∧ 0 < q ∧ q ≤ 3 ∧ (j < i ∨ j = i ∧ q < l) ∧ x.1[j]? = some m ∧ f m q ≠ 0 ∧ x.1[t]? = some (f m q)
 dif : x.2.Pairwise fun y z => ¬ (y.1 = z.1 ∧ y.2.1 = z.2.1)
 len : (x.2.length : Int) ≤ 3 * i + (l - 1)

theorem app_get {l : List Nat} {v j m : Nat} (h : l[j]? = some m) : (if v ∈ l then l else l ++ [v])[j]? = some m := by
 have := (List.getElem?_eq_some_iff.1 h).1
 split
 ·exact h
 ·rw [List.getElem?_append_left this]; exact h

theorem app_mem {l : List Nat} {v m : Nat} : m ∈ (if v ∈ l then l else l ++ [v]) ↔ m ∈ l ∨ m = v := by
 split
 ·rename_i h
  constructor
  ·exact .inl
  ·rintro (h1 | rfl)
   ·exact h1
   ·exact h
 ·rw [List.mem_append, List.mem_singleton]

theorem adv_inv {f : Nat → Int → Nat} {B b i : Nat} {l : Int} {x y : Wst} (hB : ∀ m < B, ∀ q, f m q < B) (h : WI f B b i l x) (hl : 0 < l ∧ l ≤ 3) (hi : i < x.1.length) (e : adv f i l x = some y) : WI f B b i (l + 1) y ∧ i < y.1.length := by
 obtain ⟨m, hm⟩ : ∃ m, x.1[i]? = some m := ⟨_, List.getElem?_eq_getElem hi⟩
 have hg : x.1.getD i 0 = m := getD_of hm
 unfold adv at e
 rw [hg] at e
 by_cases h0 : f m l = 0
 ·rw [if_pos h0] at e
  have := Option.some.inj e
  subst this
  refine ⟨⟨h.few, h.nd, h.beg, h.lt, fun j p hj q q1 q3 hq => ?_, fun z hz => ?_, h.dif, by have := h.len; omega⟩, hi⟩
  ·by_cases hold : j < i ∨ j = i ∧ q < l
   ·exact h.all j p hj q q1 q3 hold
   ·have hji : j = i := by omega
    have hql : q = l := by omega
    subst hji hql
    have : p = m := Option.some.inj (hj.symm.trans hm)
    subst this
    exact .inl h0
  ·obtain ⟨j, q, t, p, e, q1, q3, hq, r⟩ := h.st z hz
   exact ⟨j, q, t, p, e, q1, q3, by omega, r⟩
 rw [if_neg h0] at e
 by_cases h6 : 6 < (if f m l ∈ x.1 then x.1 else x.1 ++ [f m l]).length
 ·rw [if_pos h6] at e; cases e
 rw [if_neg h6] at e
 have := Option.some.inj e
 subst this
 have hmB := (h.lt m (List.mem_of_getElem? hm)).1
 have hin : f m l ∈ (if f m l ∈ x.1 then x.1 else x.1 ++ [f m l]) := app_mem.2 (.inr rfl)
 have hidx := idx_get hin
 have back : ∀ (j p : Nat), j ≤ i → (if f m l ∈ x.1 then x.1 else x.1 ++ [f m l])[j]? = some p → x.1[j]? = some p := fun j p hj hp => by
  obtain ⟨p', hp'⟩ : ∃ p', x.1[j]? = some p' := ⟨_, List.getElem?_eq_getElem (by omega)⟩
  rw [app_get hp'] at hp
  rw [hp']; exact hp
 refine ⟨⟨by simp only; omega, ?_, app_get h.beg, fun p hp => ?_, fun j p hj q q1 q3 hq => ?_, fun z hz => ?_, ?_, ?_⟩, (List.getElem?_eq_some_iff.1 (app_get (v := f m l) hm)).1⟩
 ·simp only
  split
  ·exact h.nd
  ·rename_i hn
   rw [List.nodup_append]
   refine ⟨h.nd, by simp, fun u hu v hv e => ?_⟩
   rw [List.mem_singleton] at hv
   subst hv e; exact hn hu
 ·rcases app_mem.1 hp with hp | rfl
  ·exact h.lt p hp
  ·exact ⟨hB m hmB l, h0⟩
 ·have hj' := back j p (by omega) hj
  by_cases hold : j < i ∨ j = i ∧ q < l
  ·rcases h.all j p hj' q q1 q3 hold with g | ⟨t, g1, g2⟩
   ·exact .inl g
   ·exact .inr ⟨t, app_get g1, List.mem_append_left _ g2⟩
  ·have hji : j = i := by omega
   have hql : q = l := by omega
   subst hji hql
   have : p = m := Option.some.inj (hj'.symm.trans hm)
   subst this
   exact .inr ⟨_, hidx, List.mem_append_right _ (by simp)⟩
 ·rcases List.mem_append.1 hz with hz | hz
  ·obtain ⟨j, q, t, p, e, q1, q3, hq, g1, g2, g3⟩ := h.st z hz
   exact ⟨j, q, t, p, e, q1, q3, by omega, app_get g1, g2, app_get g3⟩
  ·rw [List.mem_singleton] at hz
   exact ⟨i, l, _, m, hz, hl.1, hl.2, by omega, app_get hm, h0, hidx⟩
 ·simp only
  rw [List.pairwise_append]
  refine ⟨h.dif, by simp, fun y hy z hz => ?_⟩
  rw [List.mem_singleton] at hz
  obtain ⟨j, q, t, p, e, q1, q3, hq, _⟩ := h.st y hy
  subst hz e
  simp only
  rintro ⟨e1, e2⟩
  omega
 ·have := h.len
  simp only [List.length_append, List.length_singleton]
  omega

theorem row_inv {f : Nat → Int → Nat} {B b i : Nat} {x y : Wst} (hB : ∀ m < B, ∀ q, f m q < B) (h : WI f B b i 1 x) (hi : i < x.1.length) (e : rowW f i x = some y) : WI f B b (i + 1) 1 y ∧ i < y.1.length := by
 unfold rowW at e
 obtain ⟨x1, e1, e⟩ := Option.bind_eq_some_iff.1 e
 obtain ⟨x2, e2, e3⟩ := Option.bind_eq_some_iff.1 e
 obtain ⟨h1, i1⟩ := adv_inv hB h (by omega) hi e1
 obtain ⟨h2, i2⟩ := adv_inv hB h1 (by omega) i1 e2
 obtain ⟨h3, i3⟩ := adv_inv hB h2 (by omega) i2 e3
 refine ⟨⟨h3.few, h3.nd, h3.beg, h3.lt, fun j p hj q q1 q3 hq => h3.all j p hj q q1 q3 (by omega), fun z hz => ?_, h3.dif, by have := h3.len; omega⟩, i3⟩
 obtain ⟨j, q, t, p, e, q1, q3, hq, r⟩ := h3.st z hz
 exact ⟨j, q, t, p, e, q1, q3, by omega, r⟩

theorem walk_inv {f : Nat → Int → Nat} {B b : Nat} (hB : ∀ m < B, ∀ q, f m q < B) : ∀ (n i : Nat) {x y : Wst}, 7 ≤ n + i → i ≤ x.1.length → WI f B b i 1 x → walk f n i x = some y → WI f B b y.1.length 1 y
 | 0, i, x, y, hn, hi, h, e => by have := h.few; omega
 | n + 1, i, x, y, hn, hi, h, e => by
  unfold walk at e
  by_cases hlt : i < x.1.length
  ·rw [if_pos hlt] at e
   obtain ⟨z, e1, e2⟩ := Option.bind_eq_some_iff.1 e
   obtain ⟨h1, i1⟩ := row_inv hB h hlt e1
   exact walk_inv hB n (i + 1) (by omega) (by omega) h1 e2
  ·rw [if_neg hlt] at e
   have := Option.some.inj e
   subst this
   have : i = x.1.length := by omega
   rw [← this]; exact h

/-- Two walks side by side. -/
def mapW (φ : Nat → Nat) (x : Wst) : Wst := (x.1.map φ, x.2)

/-! ### The program's -/

theorem whileO_nxt {S R : Type} {body : S → Option (Step S R)} {s0 s1 : S} {r : R} (h0 : body s0 = some (.next s1)) (h : whileO body s1 = some r) : whileO body s0 = some r := by
 obtain ⟨n, hn⟩ := whileO_to h
 exact whileO_of (n := n + 1) (by simp [whileN, h0, hn])

theorem whileO_done {S R : Type} {body : S → Option (Step S R)} {s0 : S} {r : R} (h0 : body s0 = some (.done r)) : whileO body s0 = some r := whileO_of (n := 1) (by simp [whileN, h0])

def castW (x : Wst) : List Int × List Stp := (x.1.map fun (i : Nat) => (i : Int), x.2)

section
variable {s : Sys} {T : El T69} (hv : OkS s) (hT : Frm s T)
include hv hT

theorem adv_eq {i : Nat} {l : Int} (hl : 0 < l ∧ l ≤ 3) {x : Wst} (st1 : List Int × List Stp × Int) (h1 : st1.2.2 = (i : Int)) (hi : i < x.1.length) (h6 : x.1.length ≤ 6) (hs : x.2.length ≤ 100) (hx : ∀ u ∈ x.1, u < 2 ^ s.1.toNat) :
  refine_frame_seen_b2 (s, T) st1 ((castW x).1, (castW x).2, l) = some (match adv (coM s) i l x with | none => .done (.inl ()) | some y => .next ((castW y).1, (castW y).2, l + 1)) := by
 obtain ⟨m, hm⟩ : ∃ m, x.1[i]? = some m := ⟨_, List.getElem?_eq_getElem hi⟩
 have hg : x.1.getD i 0 = m := getD_of hm
 have hg' : ((x.1.map fun (i : Nat) => (i : Int))).getD i 0 = (m : Int) := getD_of (by rw [List.getElem?_map, hm]; rfl)
 have hmB := hx m (List.mem_of_getElem? hm)
 have ki : InK .i64 (l + 1) := by rw [inK_i64]; omega
 unfold refine_frame_seen_b2 castW adv
 simp only [h1, Int.toNat_natCast, hg', hg, List.length_map]
 rw [if_pos (by rw [decide_eq_true_eq]; exact hl.2), ck_pos (by omega), ck_pos (by omega), after_eq hv hT hmB (by omega) hl.2, Option.bind_some]
 by_cases h0 : coM s m l = 0
 ·rw [if_pos (by rw [decide_eq_true_eq]; omega), if_pos h0, ck_pos ki]
 rw [if_neg (by rw [decide_eq_true_eq]; omega), if_neg h0, contains2_eq _ _ (by omega), Option.bind_some]
 have k3 : ∀ D : List Nat, D.length ≤ 7 → coM s m l ∈ D → refine_frame_seen_k3 st1 ((x.1.map fun (i : Nat) => (i : Int)), x.2, l) ((coM s m l : Nat) : Int) (D.map fun (i : Nat) => (i : Int)) = some (if 6 < D.length then .done (.inl ()) else .next ((D.map fun (i : Nat) => (i : Int)), x.2 ++ [((i : Int), l, ((idx D (coM s m l) : Nat) : Int))], l + 1)) := fun D hD hmem => by
  unfold refine_frame_seen_k3
  simp only [List.length_map, h1]
  by_cases h7 : 6 < D.length
  ·rw [if_pos (by rw [decide_eq_true_eq]; omega), if_pos h7]
  ·rw [if_neg (by rw [decide_eq_true_eq]; omega), if_neg h7, index2_eq _ _ (by omega), Option.bind_some, if_pos hmem, ck_pos (by omega), ck_pos ki]
 by_cases hmem : coM s m l ∈ x.1
 ·rw [decide_eq_true hmem, if_neg (by simp), if_pos hmem, k3 x.1 (by omega) hmem]
  split <;> rfl
 ·rw [decide_eq_false hmem, if_pos (by simp), if_neg hmem, ck_pos (by omega)]
  have := k3 (x.1 ++ [coM s m l]) (by rw [List.length_append, List.length_singleton]; omega) (List.mem_append_right _ (by simp))
  rw [List.map_append] at this
  have this' : refine_frame_seen_k3 st1 ((x.1.map fun (i : Nat) => (i : Int)), x.2, l) ((coM s m l : Nat) : Int) ((x.1.map fun (i : Nat) => (i : Int)) ++ [((coM s m l : Nat) : Int)]) = _ := this
  rw [this']
  split
  ·rfl
  ·simp only [List.map_append]

theorem row_eq {b i : Nat} {x : Wst} (h : WI (coM s) (2 ^ s.1.toNat) b i 1 x) (hi : i < x.1.length) :
  whileO (refine_frame_seen_b2 (s, T) ((castW x).1, (castW x).2, (i : Int))) ((castW x).1, (castW x).2, 1) = some (match rowW (coM s) i x with | none => .inl () | some y => .inr (castW y)) := by
 have hB : ∀ m < 2 ^ s.1.toNat, ∀ q, coM s m q < 2 ^ s.1.toNat := fun m hm q => coM_lt hv hm q
 have six : ∀ {i : Nat} {l : Int} {x : Wst}, l ≤ 4 → WI (coM s) (2 ^ s.1.toNat) b i l x → i < x.1.length → x.2.length ≤ 100 := fun {i l x} hl h hi => by
  have := h.len; have := h.few; omega
 unfold rowW
 have a1 := adv_eq hv hT (i := i) (l := 1) (by omega) ((castW x).1, (castW x).2, (i : Int)) rfl hi h.few (six (by omega) h hi) (fun u hu => (h.lt u hu).1)
 cases g1 : adv (coM s) i 1 x with
 | none => rw [g1] at a1; exact whileO_done a1
 | some x1 =>
  rw [g1] at a1
  refine whileO_nxt a1 ?_
  obtain ⟨h1, i1⟩ := adv_inv hB h (by omega) hi g1
  have a2 := adv_eq hv hT (i := i) (l := 2) (by omega) ((castW x).1, (castW x).2, (i : Int)) rfl i1 h1.few (six (by omega) h1 i1) (fun u hu => (h1.lt u hu).1)
  simp only [Option.bind_some]
  cases g2 : adv (coM s) i 2 x1 with
  | none => rw [g2] at a2; exact whileO_done a2
  | some x2 =>
   rw [g2] at a2
   refine whileO_nxt a2 ?_
   obtain ⟨h2, i2⟩ := adv_inv hB h1 (by omega) i1 g2
   have a3 := adv_eq hv hT (i := i) (l := 3) (by omega) ((castW x).1, (castW x).2, (i : Int)) rfl i2 h2.few (six (by omega) h2 i2) (fun u hu => (h2.lt u hu).1)
   simp only [Option.bind_some]
   cases g3 : adv (coM s) i 3 x2 with
   | none => rw [g3] at a3; exact whileO_done a3
   | some x3 =>
    rw [g3] at a3
    refine whileO_nxt a3 (whileO_done ?_)
    unfold refine_frame_seen_b2
    rw [if_neg (by simp)]

omit hv hT in
theorem b1_step (D D' : List Int) (S S' : List Stp) (i : Int) (h1 : i < (D.length : Int)) (h0 : 0 ≤ i) (h : whileO (refine_frame_seen_b2 (s, T) (D, S, i)) (D, S, 1) = some (.inr (D', S'))) (ki : InK .i64 (i + 1)) : refine_frame_seen_b1 (s, T) (D, S, i) = some (.next (D', S', i + 1)) := by
 unfold refine_frame_seen_b1
 simp only
 rw [if_pos (by rw [decide_eq_true_eq]; exact h1), h, Option.bind_some]
 unfold refine_frame_seen_k2
 simp only
 rw [ck_pos ki]

theorem walk_eq {b : Nat} (n : Nat) : ∀ (i : Nat) (x : Wst), 7 ≤ n + i → i ≤ x.1.length → WI (coM s) (2 ^ s.1.toNat) b i 1 x →
  whileO (refine_frame_seen_b1 (s, T)) ((castW x).1, (castW x).2, (i : Int)) = some (match walk (coM s) n i x with | none => .inl () | some y => .inr (castW y)) := by
 have hB : ∀ m < 2 ^ s.1.toNat, ∀ q, coM s m q < 2 ^ s.1.toNat := fun m hm q => coM_lt hv hm q
 induction n with
 | zero => intro i x hn hi h; have := h.few; omega
 | succ n ih =>
  intro i x hn hi h
  have hlen : (castW x).1.length = x.1.length := List.length_map _
  have h6 := h.few
  by_cases hlt : i < x.1.length
  ·have hw : walk (coM s) (n + 1) i x = (rowW (coM s) i x).bind (walk (coM s) n (i + 1)) := by
    rw [walk, if_pos hlt]
   rw [hw]
   have hr := row_eq hv hT h hlt
   cases g : rowW (coM s) i x with
   | none =>
    rw [g] at hr
    rw [Option.bind_none]
    refine whileO_done ?_
    unfold refine_frame_seen_b1
    simp only [hlen]
    rw [if_pos (by rw [decide_eq_true_eq]; omega), hr]
    simp only [Option.bind_some]
   | some y =>
    rw [g] at hr
    obtain ⟨h1, i1⟩ := row_inv hB h hlt g
    have ih' := ih (i + 1) y (by omega) (by omega) h1
    rw [Option.bind_some]
    have ei : ((i + 1 : Nat) : Int) = (i : Int) + 1 := by omega
    rw [ei] at ih'
    exact whileO_nxt (b1_step _ _ _ _ _ (by rw [hlen]; omega) (by omega) hr (by rw [inK_i64]; omega)) ih'
  ·have hw : walk (coM s) (n + 1) i x = some x := by
    rw [walk, if_neg hlt]
   rw [hw]
   refine whileO_done ?_
   unfold refine_frame_seen_b1
   simp only [hlen]
   rw [if_neg (by rw [decide_eq_true_eq]; omega)]

omit hv hT in
theorem wi_begin {s : Sys} (hv : OkS s) : WI (coM s) (2 ^ s.1.toNat) (begM s) 0 1 ([begM s], []) := by
 refine ⟨by simp, by simp, rfl, fun m hm => ?_, fun j m hj q q1 q3 hq => by omega, fun z hz => by simp at hz, by simp, by simp⟩
 rw [List.mem_singleton] at hm
 subst hm
 exact ⟨begM_lt hv, beg_ne hv⟩

def seenW (s : Sys) : Option Wst := walk (coM s) 7 0 ([begM s], [])

theorem seen_eq : refine_frame_seen (s, T) = some (match seenW s with | none => (0, [], false) | some y => ((y.1.length : Int), y.2, true)) := by
 have h := walk_eq hv hT 7 0 ([begM s], []) (by omega) (by simp) (wi_begin hv)
 have hb : intAt T69 T 0 = ((begM s : Nat) : Int) := beg_eq hv hT
 unfold refine_frame_seen refine_frame_begin
 rw [Option.bind_some]
 simp only [hb]
 have h' : whileO (refine_frame_seen_b1 (s, T)) ([((begM s : Nat) : Int)], [], 0) = _ := h
 rw [h']
 unfold seenW
 cases walk (coM s) 7 0 ([begM s], []) with
 | none => rfl
 | some y =>
  simp only [Option.bind_some]
  unfold refine_frame_seen_k1 castW
  simp only [List.length_map]

end
end Go.Proofs.Ytifleoceebaooaa
