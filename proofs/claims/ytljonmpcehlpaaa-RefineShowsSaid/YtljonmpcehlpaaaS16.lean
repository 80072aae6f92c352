/-
  Layer 5, pure: what is plain and what is seen, by the reference; the law of what is shown holds.
-/
import Derived.Test.YtljonmpcehlpaaaS13
import Derived.Test.YtljonmpcehlpaaaS15
namespace Go.Proofs.Ytljonmpcehlpaaa
open Go.RowKit

set_option linter.unusedVariables false
set_option linter.unusedSectionVars false
set_option linter.unusedSimpArgs false

/-! ### Plain -/

theorem Plain_is {s : Sys} (h : validB s = true) : refine_Plain s = some (allB s.2.length (plainK s.2), 0) := by
  have hlen := (okS_valid h).len
  have hl := loopB (body := refine_isPlain_b1 s.2) s.2.length (plainK s.2) (fun k hk => by
    have ki : InK .i64 ((k : Int) + 1) := by rw [inK_i64]; omega
    unfold refine_isPlain_b1 plainK refine_isHidden
    simp only [Int.toNat_natCast]
    rw [if_pos (by rw [decide_eq_true_eq]; omega), ck_pos (by omega), ck_pos (by omega), ck_pos (by omega), ck_pos (by omega), likes_eq _ _ (by rw [List.length_take]; omega), Option.bind_some]
    cases (s.2.take k).any (likeB (s.2.getD k (0, 0, 0)))
    · rw [if_neg (by simp), Option.bind_some]
      by_cases h0 : (s.2.getD k (0, 0, 0)).2.1 = 0
      · rw [if_pos (by rw [decide_eq_true_eq]; exact h0), if_neg (by rw [decide_eq_true h0]; simp)]
      · rw [if_neg (by rw [decide_eq_true_eq]; exact h0), ck_pos ki, if_pos (by rw [decide_eq_false h0]; rfl)]
    · rfl) (by
    unfold refine_isPlain_b1
    rw [if_neg (by rw [decide_eq_true_eq]; omega)])
  unfold refine_Plain refine_isPlain
  rw [Valid_eq s (okZ_valid h), Option.bind_some, h, if_neg (by simp), hl, Option.bind_some]
  cases allB s.2.length (plainK s.2) <;> rfl

theorem refPlain_is {s : Sys} (h : validB s = true) : linealref05_Plain s = some (allB s.2.length (plainK s.2), 0) := by
  have hlen := (okS_valid h).len
  have hin : ∀ k, k < s.2.length → whileO (linealref05_Plain_b2 s (k : Int)) 0 = some (if (s.2.take k).any (likeB (s.2.getD k (0, 0, 0))) = true then .inl () else .inr ()) := fun k hk => by
    have htl : (s.2.take k).length = k := by rw [List.length_take]; omega
    have hl := loopB (body := linealref05_Plain_b2 s (k : Int)) k (fun j => !likeB (s.2.getD k (0, 0, 0)) ((s.2.take k).getD j (0, 0, 0))) (fun j hj => by
      have kj : InK .i64 ((j : Int) + 1) := by rw [inK_i64]; omega
      obtain ⟨z, hz⟩ : ∃ z, s.2.getD k (0, 0, 0) = z := ⟨_, rfl⟩
      obtain ⟨y, hy⟩ : ∃ y, (s.2.take k).getD j (0, 0, 0) = y := ⟨_, rfl⟩
      unfold linealref05_Plain_b2 likeB
      simp only [Int.toNat_natCast, htl, hz, hy]
      rw [if_pos (by rw [decide_eq_true_eq]; omega), ck_pos (by omega), ck_pos (by omega)]
      by_cases h1 : z.1 = y.1
      · rw [if_pos (by rw [decide_eq_true_eq]; exact h1)]
        by_cases h2 : z.2.1 = y.2.1
        · rw [if_pos (by rw [decide_eq_true_eq]; exact h2), if_neg (by simp [h1, h2])]
        · have h2' : ¬ y.2.1 = z.2.1 := fun e => h2 e.symm
          rw [if_neg (by rw [decide_eq_true_eq]; exact h2), ck_pos kj, if_pos (by simp [h2'])]
      · have h1' : ¬ y.1 = z.1 := fun e => h1 e.symm
        rw [if_neg (by rw [decide_eq_true_eq]; exact h1), ck_pos kj, if_pos (by simp [h1'])]) (by
      unfold linealref05_Plain_b2
      simp only [Int.toNat_natCast, htl]
      rw [if_neg (by rw [decide_eq_true_eq]; omega)])
    rw [hl]
    have he : (allB k fun j => !likeB (s.2.getD k (0, 0, 0)) ((s.2.take k).getD j (0, 0, 0))) = !(s.2.take k).any (likeB (s.2.getD k (0, 0, 0))) := by
      rw [Bool.eq_iff_iff, allB_iff, Bool.not_eq_true', List.any_eq_false]
      constructor
      · intro g y hy
        obtain ⟨j, hj⟩ := List.getElem?_of_mem hy
        have hjl := (List.getElem?_eq_some_iff.1 hj).1
        have := g j (by omega)
        rw [getD_of hj, Bool.not_eq_true'] at this
        rw [this]; simp
      · intro g j hj
        have hm : (s.2.take k)[j]? = some ((s.2.take k).getD j (0, 0, 0)) := by rw [List.getD_eq_getElem?_getD, List.getElem?_eq_getElem (by omega)]; rfl
        have := g _ (List.mem_of_getElem? hm)
        simpa using this
    rw [he]
    cases (s.2.take k).any (likeB (s.2.getD k (0, 0, 0))) <;> rfl
  have hl := loopB (body := linealref05_Plain_b1 s) s.2.length (plainK s.2) (fun k hk => by
    have ki : InK .i64 ((k : Int) + 1) := by rw [inK_i64]; omega
    have hk' := hin k hk
    unfold linealref05_Plain_b1 plainK
    simp only [Int.toNat_natCast]
    rw [if_pos (by rw [decide_eq_true_eq]; omega), ck_pos (by omega), ck_pos (by omega)]
    by_cases h0 : (s.2.getD k (0, 0, 0)).2.1 = 0
    · rw [if_pos (by rw [decide_eq_true_eq]; exact h0), if_neg (by rw [decide_eq_true h0]; simp)]
    · rw [if_neg (by rw [decide_eq_true_eq]; exact h0), ck_pos (by omega), ck_pos (by omega), hk', Option.bind_some]
      cases (s.2.take k).any (likeB (s.2.getD k (0, 0, 0)))
      · rw [if_neg (by simp), if_pos (by rw [decide_eq_false h0]; rfl)]
        unfold linealref05_Plain_k2
        simp only
        rw [ck_pos ki]
      · rfl) (by
    unfold linealref05_Plain_b1
    rw [if_neg (by rw [decide_eq_true_eq]; omega)])
  unfold linealref05_Plain
  rw [refValid_eq s (okZ_valid h), Option.bind_some, h, if_neg (by simp), hl, Option.bind_some]
  cases allB s.2.length (plainK s.2) <;> rfl

/-! ### Seen -/

def advU (f : Nat → Int → Nat) (i : Nat) (l : Int) (x : Wst) : Wst :=
  if f (x.1.getD i 0) l = 0 then x
  else ((if f (x.1.getD i 0) l ∈ x.1 then x.1 else x.1 ++ [f (x.1.getD i 0) l]), x.2 ++ [((i : Int), l, ((idx (if f (x.1.getD i 0) l ∈ x.1 then x.1 else x.1 ++ [f (x.1.getD i 0) l]) (f (x.1.getD i 0) l) : Nat) : Int))])
def rowU (f : Nat → Int → Nat) (i : Nat) (x : Wst) : Wst := advU f i 3 (advU f i 2 (advU f i 1 x))
def walkU (f : Nat → Int → Nat) : Nat → Nat → Wst → Wst
  | 0, _, x => x
  | n + 1, i, x => if i < x.1.length then walkU f n (i + 1) (rowU f i x) else x

theorem advU_len (f : Nat → Int → Nat) (i : Nat) (l : Int) (x : Wst) : x.1.length ≤ (advU f i l x).1.length := by
  unfold advU
  split
  · exact Nat.le_refl _
  · simp only
    split
    · exact Nat.le_refl _
    · rw [List.length_append]; omega
theorem rowU_len (f : Nat → Int → Nat) (i : Nat) (x : Wst) : x.1.length ≤ (rowU f i x).1.length := Nat.le_trans (advU_len f i 1 x) (Nat.le_trans (advU_len f i 2 _) (advU_len f i 3 _))
theorem walkU_len (f : Nat → Int → Nat) : ∀ (n i : Nat) (x : Wst), x.1.length ≤ (walkU f n i x).1.length
  | 0, i, x => Nat.le_refl _
  | n + 1, i, x => by
    unfold walkU
    split
    · exact Nat.le_trans (rowU_len f i x) (walkU_len f n (i + 1) _)
    · exact Nat.le_refl _

theorem adv_U {f : Nat → Int → Nat} {i : Nat} {l : Int} {x : Wst} : (∃ y, adv f i l x = some y ∧ advU f i l x = y) ∨ (adv f i l x = none ∧ 6 < (advU f i l x).1.length) := by
  unfold adv advU
  by_cases h0 : f (x.1.getD i 0) l = 0
  · rw [if_pos h0, if_pos h0]; exact .inl ⟨_, rfl, rfl⟩
  · rw [if_neg h0, if_neg h0]
    by_cases h6 : 6 < (if f (x.1.getD i 0) l ∈ x.1 then x.1 else x.1 ++ [f (x.1.getD i 0) l]).length
    · rw [if_pos h6]; exact .inr ⟨rfl, h6⟩
    · rw [if_neg h6]; exact .inl ⟨_, rfl, rfl⟩

theorem row_U {f : Nat → Int → Nat} {i : Nat} {x : Wst} : (∃ y, rowW f i x = some y ∧ rowU f i x = y) ∨ (rowW f i x = none ∧ 6 < (rowU f i x).1.length) := by
  unfold rowW rowU
  rcases adv_U (f := f) (i := i) (l := 1) (x := x) with ⟨y1, e1, u1⟩ | ⟨e1, u1⟩
  · rw [e1, Option.bind_some, u1]
    rcases adv_U (f := f) (i := i) (l := 2) (x := y1) with ⟨y2, e2, u2⟩ | ⟨e2, u2⟩
    · rw [e2, Option.bind_some, u2]
      exact adv_U
    · rw [e2]
      exact .inr ⟨rfl, Nat.lt_of_lt_of_le u2 (advU_len f i 3 _)⟩
  · rw [e1]
    exact .inr ⟨rfl, Nat.lt_of_lt_of_le u1 (Nat.le_trans (advU_len f i 2 _) (advU_len f i 3 _))⟩

theorem walk_U {f : Nat → Int → Nat} : ∀ (n i : Nat) (x : Wst), (∃ y, walk f n i x = some y ∧ walkU f n i x = y) ∨ (walk f n i x = none ∧ 6 < (walkU f n i x).1.length)
  | 0, i, x => .inl ⟨_, rfl, rfl⟩
  | n + 1, i, x => by
    unfold walk walkU
    by_cases hi : i < x.1.length
    · rw [if_pos hi, if_pos hi]
      rcases row_U (f := f) (i := i) (x := x) with ⟨y, e, u⟩ | ⟨e, u⟩
      · rw [e, Option.bind_some, u]
        exact walk_U n (i + 1) y
      · rw [e]
        exact .inr ⟨rfl, Nat.lt_of_lt_of_le u (walkU_len f n (i + 1) _)⟩
    · rw [if_neg hi, if_neg hi]; exact .inl ⟨_, rfl, rfl⟩

structure WU (B i : Nat) (l : Int) (x : Wst) : Prop where
  nd : x.1.Nodup
  lt : ∀ m ∈ x.1, m < B
  len : (x.2.length : Int) ≤ 3 * i + (l - 1)

theorem advU_inv {f : Nat → Int → Nat} {B i : Nat} {l : Int} {x : Wst} (hB : ∀ m < B, ∀ q, f m q < B) (h : WU B i l x) (hi : i < x.1.length) : WU B i (l + 1) (advU f i l x) ∧ i < (advU f i l x).1.length := by
  refine ⟨?_, Nat.lt_of_lt_of_le hi (advU_len f i l x)⟩
  obtain ⟨m, hm⟩ : ∃ m, x.1[i]? = some m := ⟨_, List.getElem?_eq_getElem hi⟩
  have hg : x.1.getD i 0 = m := getD_of hm
  have hmB := h.lt m (List.mem_of_getElem? hm)
  have hl := h.len
  unfold advU
  rw [hg]
  split
  · exact ⟨h.nd, h.lt, by omega⟩
  · refine ⟨?_, fun p hp => ?_, by simp only [List.length_append, List.length_singleton]; omega⟩
    · simp only
      split
      · exact h.nd
      · rename_i hn
        rw [List.nodup_append]
        refine ⟨h.nd, by simp, fun u hu v hv e => ?_⟩
        rw [List.mem_singleton] at hv
        subst hv e; exact hn hu
    · rcases app_mem.1 hp with hp | rfl
      · exact h.lt p hp
      · exact hB m hmB l

theorem idx_out : ∀ {l : List Nat} {v : Nat}, v ∉ l → idx l v = l.length
  | [], v, _ => rfl
  | y :: l, v, h => by
    have h1 : ¬ v = y := fun e => h (by rw [e]; simp)
    show (if v = y then 0 else idx l v + 1) = l.length + 1
    rw [if_neg h1, idx_out fun g => h (List.mem_cons_of_mem _ g)]

theorem idx_app {l : List Nat} {v : Nat} (h : v ∉ l) : idx (l ++ [v]) v = l.length :=
  idx_first (by rw [List.getElem?_append, if_neg (by omega), Nat.sub_self]; rfl) fun j hj e => h (by
    rw [List.getElem?_append_left hj] at e
    exact List.mem_of_getElem? e)

section
variable {s : Sys} (hv : OkS s)
include hv

omit hv in
theorem find_eq (D : List Nat) (S : List Stp) (l : Int) (v : Nat) (hD : D.length ≤ 100) : whileO (linealref05_Seen_b3 ((D.map fun (i : Nat) => (i : Int)), S, l) (v : Int)) 0 = some ((idx D v : Nat) : Int) := by
  obtain ⟨r, e1, h⟩ := scan1 (R := Int) D (fun k => ∀ j, j < k → D[j]? ≠ some v) (fun r => r = ((idx D v : Nat) : Int)) (body := linealref05_Seen_b3 ((D.map fun (i : Nat) => (i : Int)), S, l) (v : Int)) (fun j hj => by omega)
    (fun k y hy hI => by
      have hlt := (List.getElem?_eq_some_iff.1 hy).1
      have ki : InK .i64 ((k : Int) + 1) := by rw [inK_i64]; omega
      have e0 : (D.map fun (i : Nat) => (i : Int)).getD k 0 = (y : Int) := getD_of (by rw [List.getElem?_map, hy]; rfl)
      by_cases h : y = v
      · refine .inr ⟨(k : Int), ?_, by rw [idx_first (by rw [← h]; exact hy) hI]⟩
        unfold linealref05_Seen_b3
        simp only [Int.toNat_natCast, e0, List.length_map]
        rw [if_pos (by rw [decide_eq_true_eq]; omega), ck_pos (by omega), ck_pos (by omega), if_neg (by simp [h])]
      · refine .inl ⟨?_, fun j hj => ?_⟩
        · unfold linealref05_Seen_b3
          simp only [Int.toNat_natCast, e0, List.length_map]
          rw [if_pos (by rw [decide_eq_true_eq]; omega), ck_pos (by omega), ck_pos (by omega), if_pos (by simp; omega), ck_pos ki]
        · rcases Nat.lt_succ_iff_lt_or_eq.1 hj with hj | hj
          · exact hI j hj
          · subst hj
            rw [hy]
            exact fun e => h (Option.some.inj e))
    (fun hI => by
      refine ⟨(D.length : Int), ?_, ?_⟩
      · unfold linealref05_Seen_b3
        simp only [List.length_map]
        rw [if_neg (by rw [decide_eq_true_eq]; omega)]
      · rw [idx_out]
        intro hm
        obtain ⟨j, hj⟩ := List.getElem?_of_mem hm
        exact hI j (List.getElem?_eq_some_iff.1 hj).1 hj)
  rw [e1, h]

theorem refadv_eq {i : Nat} {l : Int} (hl : 0 < l ∧ l ≤ 3) {x : Wst} (st1 : List Int × List Stp × Int) (h1 : st1.2.2 = (i : Int)) (hi : i < x.1.length) (h6 : x.1.length ≤ 64) (hs : x.2.length ≤ 1000) (hx : ∀ u ∈ x.1, u < 2 ^ s.1.toNat) :
    linealref05_Seen_b2 s st1 ((castW x).1, (castW x).2, l) = some (.next ((castW (advU (coM s) i l x)).1, (castW (advU (coM s) i l x)).2, l + 1)) := by
  obtain ⟨m, hm⟩ : ∃ m, x.1[i]? = some m := ⟨_, List.getElem?_eq_getElem hi⟩
  have hg : x.1.getD i 0 = m := getD_of hm
  have hg' : ((x.1.map fun (i : Nat) => (i : Int))).getD i 0 = (m : Int) := getD_of (by rw [List.getElem?_map, hm]; rfl)
  have hmB := hx m (List.mem_of_getElem? hm)
  have ki : InK .i64 (l + 1) := by rw [inK_i64]; omega
  unfold linealref05_Seen_b2 castW advU
  simp only [h1, Int.toNat_natCast, hg', hg, List.length_map]
  rw [if_pos (by rw [decide_eq_true_eq]; exact hl.2), ck_pos (by omega), ck_pos (by omega), refcomes_eq hv hmB, Option.bind_some]
  by_cases h0 : coM s m l = 0
  · rw [if_pos (by rw [decide_eq_true_eq]; omega), if_pos h0]
    unfold linealref05_Seen_k3
    simp only
    rw [ck_pos ki]
  rw [if_neg (by rw [decide_eq_true_eq]; omega), if_neg h0, find_eq _ _ _ _ (by omega), Option.bind_some]
  unfold linealref05_Seen_k4
  simp only [List.length_map]
  by_cases hmem : coM s m l ∈ x.1
  · have hlt := (List.getElem?_eq_some_iff.1 (idx_get hmem)).1
    rw [if_neg (by rw [decide_eq_true_eq]; omega), if_pos hmem]
    unfold linealref05_Seen_k5 linealref05_Seen_k3
    simp only [h1]
    rw [ck_pos (by omega), ck_pos ki]
  · rw [if_pos (by rw [decide_eq_true_eq, idx_out hmem]), if_neg hmem, ck_pos (by omega)]
    unfold linealref05_Seen_k5 linealref05_Seen_k3
    simp only [h1]
    rw [ck_pos (by omega), ck_pos ki, idx_app hmem, idx_out hmem, List.map_append]
    rfl

theorem wu_len {i : Nat} {l : Int} {x : Wst} (h : WU (2 ^ s.1.toNat) i l x) : x.1.length ≤ 64 := nodup_lt 64 _ h.nd fun m hm => lt64 hv (h.lt m hm)

theorem refrow_eq {i : Nat} {x : Wst} (h : WU (2 ^ s.1.toNat) i 1 x) (hi : i < x.1.length) :
    whileO (linealref05_Seen_b2 s ((castW x).1, (castW x).2, (i : Int))) ((castW x).1, (castW x).2, 1) = some (castW (rowU (coM s) i x)) ∧ WU (2 ^ s.1.toNat) (i + 1) 1 (rowU (coM s) i x) := by
  have hB : ∀ m < 2 ^ s.1.toNat, ∀ q, coM s m q < 2 ^ s.1.toNat := fun m hm q => coM_lt hv hm q
  have six : ∀ {i : Nat} {l : Int} {x : Wst}, l ≤ 4 → WU (2 ^ s.1.toNat) i l x → i < x.1.length → x.2.length ≤ 1000 := fun {i l x} hl h hi => by
    have := h.len; have := wu_len hv h; omega
  obtain ⟨h1', i1⟩ := advU_inv hB h hi
  have h1 : WU (2 ^ s.1.toNat) i 2 (advU (coM s) i 1 x) := h1'
  obtain ⟨h2', i2⟩ := advU_inv hB h1 i1
  have h2 : WU (2 ^ s.1.toNat) i 3 (advU (coM s) i 2 (advU (coM s) i 1 x)) := h2'
  obtain ⟨h3', i3⟩ := advU_inv hB h2 i2
  have h3 : WU (2 ^ s.1.toNat) i 4 (advU (coM s) i 3 (advU (coM s) i 2 (advU (coM s) i 1 x))) := h3'
  have a1 := refadv_eq hv (i := i) (l := 1) (by omega) ((castW x).1, (castW x).2, (i : Int)) rfl hi (wu_len hv h) (six (by omega) h hi) h.lt
  have a2 := refadv_eq hv (i := i) (l := 2) (by omega) ((castW x).1, (castW x).2, (i : Int)) rfl i1 (wu_len hv h1) (six (by omega) h1 i1) h1.lt
  have a3 := refadv_eq hv (i := i) (l := 3) (by omega) ((castW x).1, (castW x).2, (i : Int)) rfl i2 (wu_len hv h2) (six (by omega) h2 i2) h2.lt
  refine ⟨whileO_next a1 (whileO_next a2 (whileO_next a3 (whileO_done ?_))), h3.nd, h3.lt, by have := h3.len; unfold rowU; omega⟩
  unfold linealref05_Seen_b2
  rw [if_neg (by simp)]
  rfl

omit hv in
theorem refb1_step (D D' : List Int) (S S' : List Stp) (i : Int) (h1 : i < (D.length : Int)) (h : whileO (linealref05_Seen_b2 s (D, S, i)) (D, S, 1) = some (D', S')) (ki : InK .i64 (i + 1)) : linealref05_Seen_b1 s (D, S, i) = some (.next (D', S', i + 1)) := by
  unfold linealref05_Seen_b1
  simp only
  rw [if_pos (by rw [decide_eq_true_eq]; exact h1), h, Option.bind_some]
  unfold linealref05_Seen_k2
  simp only
  rw [ck_pos ki]

omit hv in
theorem refb1_stop (D : List Int) (S : List Stp) (i : Int) (h1 : ¬ i < (D.length : Int)) : linealref05_Seen_b1 s (D, S, i) = some (.done (D, S)) := by
  unfold linealref05_Seen_b1
  simp only
  rw [if_neg (by rw [decide_eq_true_eq]; exact h1)]

theorem refwalk_eq (n : Nat) : ∀ (i : Nat) (x : Wst), 65 ≤ n + i → i ≤ x.1.length → WU (2 ^ s.1.toNat) i 1 x →
    whileO (linealref05_Seen_b1 s) ((castW x).1, (castW x).2, (i : Int)) = some (castW (walkU (coM s) n i x)) := by
  induction n with
  | zero => intro i x hn hi h; have := wu_len hv h; omega
  | succ n ih =>
    intro i x hn hi h
    have hlen : (castW x).1.length = x.1.length := List.length_map _
    by_cases hlt : i < x.1.length
    · obtain ⟨hr, h1⟩ := refrow_eq hv h hlt
      have ih' := ih (i + 1) (rowU (coM s) i x) (by omega) (by have := rowU_len (coM s) i x; omega) h1
      have ei : ((i + 1 : Nat) : Int) = (i : Int) + 1 := by omega
      rw [ei] at ih'
      have h64 := wu_len hv h
      rw [walkU, if_pos hlt]
      exact whileO_next (refb1_step _ _ _ _ _ (by rw [hlen]; omega) hr (by rw [inK_i64]; omega)) ih'
    · rw [walkU, if_neg hlt]
      exact whileO_done (refb1_stop _ _ _ (by rw [hlen]; omega))

end

def seenR (s : Sys) : Int × List Stp × Int := if 6 < (walkU (coM s) 70 0 ([begM s], [])).1.length then (0, [], 4) else (((walkU (coM s) 70 0 ([begM s], [])).1.length : Int), (walkU (coM s) 70 0 ([begM s], [])).2, 0)

theorem refSeen_is {s : Sys} (h : validB s = true) : linealref05_Seen s = some (seenR s) := by
  have hv := okS_valid h
  have hw := refwalk_eq hv 70 0 ([begM s], []) (by omega) (by simp) ⟨by simp, fun m hm => by rw [List.mem_singleton] at hm; rw [hm]; exact begM_lt hv, by simp⟩
  have hq : linealref05_quiet s 1 = some ((begM s : Nat) : Int) := refquiet_eq hv (m := 1) (one_lt hv)
  have hw' : whileO (linealref05_Seen_b1 s) ([((begM s : Nat) : Int)], [], 0) = _ := hw
  unfold linealref05_Seen seenR
  rw [refValid_eq s (okZ_valid h), Option.bind_some, h, if_neg (by simp), hq, Option.bind_some, hw', Option.bind_some]
  generalize walkU (coM s) 70 0 ([begM s], []) = y
  unfold linealref05_Seen_k1 castW
  simp only [List.length_map]
  by_cases h6 : 6 < y.1.length
  · rw [if_pos (by rw [decide_eq_true_eq]; omega), if_pos h6]
  · rw [if_neg (by rw [decide_eq_true_eq]; omega), if_neg h6]

theorem Seen_is {s : Sys} (h : validB s = true) : refine_Seen s = some (seenR s) := by
  have hv := okS_valid h
  obtain ⟨T, e1, h1⟩ := frameOf_eq s (okZ_valid h)
  rw [if_pos h] at e1
  have hT := h1 h
  have hw := walk_eq hv hT 70 0 ([begM s], []) (by omega) (by simp) (wi_begin hv)
  have hb : intAt T69 T 0 = ((begM s : Nat) : Int) := beg_eq hv hT
  have hw' : whileO (refine_frame_seen_b1 (s, T)) ([((begM s : Nat) : Int)], [], 0) = _ := hw
  have hsn : refine_frame_seen ((s.1, s.2), T) = some (match walk (coM s) 70 0 ([begM s], []) with | none => (0, [], false) | some y => ((y.1.length : Int), y.2, true)) := by
    show refine_frame_seen (s, T) = _
    unfold refine_frame_seen refine_frame_begin
    rw [Option.bind_some]
    simp only [hb]
    rw [hw']
    cases walk (coM s) 70 0 ([begM s], []) with
    | none => rfl
    | some y =>
      simp only [Option.bind_some]
      unfold refine_frame_seen_k1 castW
      simp only [List.length_map]
  unfold refine_Seen seenR
  rw [e1, Option.bind_some]
  simp only [decide_true, Bool.not_true, Bool.false_eq_true, if_false]
  rw [hsn, Option.bind_some]
  rcases walk_U (f := coM s) 70 0 ([begM s], []) with ⟨y, g1, g2⟩ | ⟨g1, g2⟩
  · have few := (walk_inv (fun m hm q => coM_lt hv hm q) 70 0 (x := ([begM s], [])) (y := y) (by omega) (by simp) (wi_begin hv) g1).few
    have h7 : ¬ 6 < y.1.length := by omega
    rw [g1, g2]
    simp [h7]
  · rw [g1]
    simp [g2]

theorem same_seen {s : Sys} (h : validB s = true) : linealref05_Same ((seenR s).1, (seenR s).2.1) ((seenR s).1, (seenR s).2.1) = some true := by
  have e1 := Seen_is h
  rw [Seen_eq h] at e1
  have e := Option.some.inj e1
  cases hw : seenW s with
  | none =>
    rw [hw] at e
    rw [← e]
    unfold linealref05_Same
    rw [if_neg (by simp), if_neg (by simp), whileO_done (r := .inr ()) (by unfold linealref05_Same_b1; rw [if_neg (by simp)])]
    rfl
  | some y =>
    obtain ⟨E, S⟩ := y
    rw [hw] at e
    rw [← e]
    exact Same_eq (seen_valid h hw)

theorem same_none : linealref05_Same ((0 : Int), ([] : List Stp)) (0, []) = some true := by
  unfold linealref05_Same
  rw [if_neg (by simp), if_neg (by simp), whileO_done (r := .inr ()) (by unfold linealref05_Same_b1; rw [if_neg (by simp)])]
  rfl

theorem bothS {c a : Sys} (kc : okZ c) (ka : okZ a) : ∃ x, refine_Shows c a = some x ∧ linealref05_Shows c a = some x ∧ x.1.length ≤ 384 := by
  cases hc : validB c with
  | false =>
    refine ⟨([], 50), ?_, ?_, by simp⟩
    · obtain ⟨T, e, _⟩ := frameOf_eq c kc
      rw [hc] at e
      unfold refine_Shows refine_twoOf
      rw [e]
      rfl
    · unfold linealref05_Shows
      rw [refValid_eq c kc, hc]
      rfl
  | true =>
    cases ha : validB a with
    | false =>
      refine ⟨([], 50), ?_, ?_, by simp⟩
      · obtain ⟨T, e, _⟩ := frameOf_eq c kc
        obtain ⟨T', e', _⟩ := frameOf_eq a ka
        rw [hc] at e
        rw [ha] at e'
        unfold refine_Shows refine_twoOf
        rw [e, Option.bind_some]
        simp only [if_true, decide_true, Bool.not_true, Bool.false_eq_true, if_false]
        rw [e']
        rfl
      · unfold linealref05_Shows
        rw [refValid_eq c kc, hc, Option.bind_some, if_neg (by simp), refValid_eq a ka, ha]
        rfl
    | true => exact shows_same hc ha

/-- The law holds. -/
theorem RefineShows_eq (c : Sys) (hc : okEl (.pair (.int .i64) (.sl (.pair (.int .i64) (.pair (.int .i64) (.int .i64))))) c) (a : Sys) (ha : okEl (.pair (.int .i64) (.sl (.pair (.int .i64) (.pair (.int .i64) (.int .i64))))) a) : lineallaw05_RefineShows c a = some true := by
  have kc := okZ_of hc
  have ka := okZ_of ha
  unfold lineallaw05_RefineShows lineallaw05_Long
  rw [Option.bind_some, lineallaw05_Awake_run]
  by_cases h1 : 100 < (c.2.length : Int)
  · rw [if_pos (by simpa using h1)]; rfl
  rw [if_neg (by simpa using h1), Option.bind_some]
  by_cases h2 : 100 < (a.2.length : Int)
  · rw [if_pos (by simpa using h2)]; rfl
  rw [if_neg (by simpa using h2)]
  obtain ⟨x, e1, e2, hx⟩ := bothS kc ka
  have hsi : linealref05_SameInts x.1 x.1 = some true := by
    rw [refInts_eq _ _ (by rw [maxLen_num]; omega)]; simp
  have hp : ∃ p, refine_Plain c = some p ∧ linealref05_Plain c = some p := by
    cases vc : validB c with
    | true => exact ⟨_, Plain_is vc, refPlain_is vc⟩
    | false =>
      refine ⟨(false, 50), ?_, ?_⟩
      · unfold refine_Plain
        rw [Valid_eq c kc, vc]; rfl
      · unfold linealref05_Plain
        rw [refValid_eq c kc, vc]; rfl
  obtain ⟨p, p1, p2⟩ := hp
  have hq : ∃ q, refine_Seen c = some q ∧ linealref05_Seen c = some q ∧ linealref05_Same (q.1, q.2.1) (q.1, q.2.1) = some true := by
    cases vc : validB c with
    | true => exact ⟨_, Seen_is vc, refSeen_is vc, same_seen vc⟩
    | false =>
      refine ⟨(0, [], 50), ?_, ?_, same_none⟩
      · obtain ⟨T, e, _⟩ := frameOf_eq c kc
        rw [vc] at e
        unfold refine_Seen
        rw [e]; rfl
      · unfold linealref05_Seen
        rw [refValid_eq c kc, vc]; rfl
  obtain ⟨q, q1, q2, q3⟩ := hq
  rw [e1, Option.bind_some, e2, Option.bind_some, p1, Option.bind_some, p2, Option.bind_some, hsi, Option.bind_some, if_neg (by simp), if_neg (by simp), if_neg (by simp), if_neg (by simp), q1, Option.bind_some, q2, Option.bind_some, q3, Option.bind_some]
  simp

end Go.Proofs.Ytljonmpcehlpaaa
