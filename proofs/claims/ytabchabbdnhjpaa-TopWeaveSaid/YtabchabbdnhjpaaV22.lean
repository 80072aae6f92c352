/-
  Layer 3, pure: the layers that the program finds, and those of the reference.
-/
import Derived.Test.YtabchabbdnhjpaaV21
namespace Go.Proofs.Ytabchabbdnhjpaa
open Go.RowKit

set_option linter.unusedVariables false
set_option linter.unusedSimpArgs false
set_option maxRecDepth 10000

/-- The layer into which a letter goes. -/
def atR (l : Ltr) (a : Int) : List (List Int) → Nat
  | [] => 0
  | L :: R => if (L :: R).flatten.any (dep l a) = true then atR l a R + 1 else 0

theorem atR_spec (l : Ltr) (a : Int) : ∀ ls : List (List Int), atR l a ls ≤ ls.length ∧ (0 < atR l a ls → (ls.getD (atR l a ls - 1) []).any (dep l a) = true) ∧ ∀ j, atR l a ls ≤ j → j < ls.length → (ls.getD j []).any (dep l a) = false
  | [] => ⟨Nat.le_refl _, fun h => absurd h (by simp [atR]), fun j _ h => absurd h (by simp)⟩
  | L :: R => by
    obtain ⟨h1, h2, h3⟩ := atR_spec l a R
    unfold atR
    split
    · rename_i hd
      refine ⟨by simpa using h1, fun _ => ?_, fun j hj hl => ?_⟩
      · rw [Nat.add_sub_cancel]
        rcases Nat.eq_zero_or_pos (atR l a R) with e | e
        · rw [e]
          rw [List.flatten_cons, List.any_append, Bool.or_eq_true] at hd
          rcases hd with hd | hd
          · exact hd
          · exfalso
            obtain ⟨x, hx, hdx⟩ := List.any_eq_true.1 hd
            obtain ⟨M, hM, hxM⟩ := List.mem_flatten.1 hx
            obtain ⟨j, hj, rfl⟩ := List.mem_iff_getElem.1 hM
            have := h3 j (by omega) hj
            rw [List.any_eq_false, getD_of (List.getElem?_eq_getElem hj)] at this
            exact this x hxM hdx
        · have := h2 e
          obtain ⟨k, hk⟩ : ∃ k, atR l a R = k + 1 := ⟨atR l a R - 1, by omega⟩
          rw [hk] at this ⊢
          simpa using this
      · obtain ⟨k, rfl⟩ : ∃ k, j = k + 1 := ⟨j - 1, by omega⟩
        have := h3 k (by omega) (by simpa using hl)
        simpa using this
    · rename_i hd
      have hd' : (L :: R).flatten.any (dep l a) = false := by simpa using hd
      refine ⟨Nat.zero_le _, fun h => absurd h (Nat.lt_irrefl 0), fun j _ hl => ?_⟩
      rw [List.any_eq_false] at hd' ⊢
      intro x hx
      refine hd' x (List.mem_flatten.2 ⟨_, ?_, hx⟩)
      rw [getD_of (List.getElem?_eq_getElem hl)]
      exact List.getElem_mem hl

theorem push_eq (l : Ltr) (a : Int) : ∀ ls : List (List Int), (if atR l a ls = ls.length then (ls ++ [[]]).set (atR l a ls) ((ls ++ [[]]).getD (atR l a ls) [] ++ [a]) else ls.set (atR l a ls) (ls.getD (atR l a ls) [] ++ [a])) = pushL l ls a
  | [] => by simp [atR, pushL]
  | L :: R => by
    have ih := push_eq l a R
    unfold atR pushL
    split
    · rw [← ih]
      simp only [List.length_cons, Nat.add_right_cancel_iff]
      split <;> simp
    · simp

theorem ne_len : ∀ {ls : List (List Int)}, (∀ L ∈ ls, L ≠ []) → ls.length ≤ ls.flatten.length
  | [], _ => Nat.le_refl _
  | L :: R, h => by
    have h1 : 0 < L.length := List.length_pos_iff.2 (h L (by simp))
    have h2 := ne_len (ls := R) fun K hK => h K (by simp [hK])
    simp only [List.length_cons, List.flatten_cons, List.length_append]
    omega
theorem flat_lenL : ∀ {ls : List (List Int)} {L : List Int}, L ∈ ls → L.length ≤ ls.flatten.length
  | M :: R, L, h => by
    rw [List.flatten_cons, List.length_append]
    rcases List.mem_cons.1 h with e | h
    · subst e; omega
    · have := flat_lenL h; omega

theorem at_loop {l : Ltr} {t : El T53} (ht : Ties l t) (w : List Int) (ls : List (List Int)) (i : Int) {a : Int} (hw : w.getD i.toNat 0 = a) (ha : 0 ≤ a ∧ a < 6) (hls : ∀ L ∈ ls, ∀ x ∈ L, 0 ≤ x ∧ x < 6) (hn : ls.length ≤ 1000) (hL : ∀ L ∈ ls, L.length ≤ 1000) :
    whileO (weave_ties_layers_b2 t w (ls, i)) (ls.length : Int) = some ((atR l a ls : Nat) : Int) := by
  obtain ⟨h1, h2, h3⟩ := atR_spec l a ls
  have any_at : ∀ k, k < ls.length → weave_ties_onAny t a (ls.getD k []) = some ((ls.getD k []).any (dep l a)) := fun k hk => by
    have hm : ls.getD k [] ∈ ls := by rw [getD_of (List.getElem?_eq_getElem hk)]; exact List.getElem_mem hk
    exact onAny_eq ht ha (hls _ hm) (few_of (hL _ hm))
  have key := whileO_seq (body := weave_ties_layers_b2 t w (ls, i)) (fun k => ((ls.length - k : Nat) : Int)) (ls.length - atR l a ls) (r := ((atR l a ls : Nat) : Int)) ?_ ?_
  · simpa using key
  · intro k hk
    unfold weave_ties_layers_b2
    have e1 : ((ls.length - k : Nat) : Int) - 1 = ((ls.length - (k + 1) : Nat) : Int) := by omega
    simp only [e1, hw, Int.toNat_natCast]
    rw [if_pos (by rw [decide_eq_true_eq]; omega), ck_pos (by rw [inK_i64]; omega), ck_pos (by omega), ck_pos (by omega), any_at _ (by omega), Option.bind_some, h3 _ (by omega) (by omega), if_pos (by rfl), ck_pos (by rw [inK_i64]; omega)]
  · have e0 : ls.length - (ls.length - atR l a ls) = atR l a ls := by omega
    simp only [e0]
    unfold weave_ties_layers_b2
    rcases Nat.eq_zero_or_pos (atR l a ls) with e | e
    · rw [e, if_neg (by simp)]
    · have e1 : ((atR l a ls : Nat) : Int) - 1 = ((atR l a ls - 1 : Nat) : Int) := by omega
      simp only [e1, hw, Int.toNat_natCast]
      rw [if_pos (by rw [decide_eq_true_eq]; omega), ck_pos (by rw [inK_i64]; omega), ck_pos (by omega), ck_pos (by omega), any_at _ (by omega), Option.bind_some, h2 e, if_neg (by simp)]

def layI (k : Nat) (s : List (List Int)) : Prop := (∀ L ∈ s, ∀ x ∈ L, 0 ≤ x ∧ x < 6) ∧ (∀ L ∈ s, L ≠ []) ∧ s.flatten.length = k

theorem layI_push {l : Ltr} {k : Nat} {s : List (List Int)} {a : Int} (ha : 0 ≤ a ∧ a < 6) (h : layI k s) : layI (k + 1) (pushL l s a) := by
  have hp := pushL_perm l s a
  refine ⟨fun L hL x hx => ?_, pushL_ne l s a h.2.1, by rw [hp.length_eq, List.length_append, h.2.2]; rfl⟩
  have : x ∈ s.flatten ++ [a] := hp.subset (List.mem_flatten.2 ⟨L, hL, hx⟩)
  rcases List.mem_append.1 this with h1 | h1
  · obtain ⟨M, hM, hxM⟩ := List.mem_flatten.1 h1
    exact h.1 M hM x hxM
  · rw [List.mem_singleton] at h1; subst h1; exact ha

theorem lay_step {l : Ltr} {t : El T53} (ht : Ties l t) (w : List Int) (hl : w.length ≤ 1000) {k : Nat} {a : Int} {s : List (List Int)} (hk : w[k]? = some a) (ha : 0 ≤ a ∧ a < 6) (h : layI k s) :
    weave_ties_layers_b1 t w (s, (k : Int)) = some (.next (pushL l s a, (k : Int) + 1)) := by
  have hkl : k < w.length := (List.getElem?_eq_some_iff.1 hk).1
  have hg : w.getD k 0 = a := getD_of hk
  have h1 := ne_len h.2.1
  have h2 : ∀ L ∈ s, L.length ≤ 1000 := fun L hL => by have := flat_lenL hL; have := h.2.2; omega
  have h3 := h.2.2
  unfold weave_ties_layers_b1
  rw [if_pos (by rw [decide_eq_true_eq]; simpa using hkl)]
  simp only
  rw [ck_pos (by omega), ck_pos (by omega), at_loop (l := l) ht w s (k : Int) (a := a) (by simpa using hg) ha h.1 (by omega) h2, Option.bind_some]
  have hsp := (atR_spec l a s).1
  have hpe := push_eq l a s
  have hb : ∀ b : List (List Int), atR l a s < b.length → (∀ L ∈ b, L.length ≤ 1000) → weave_ties_layers_k4 w (s, (k : Int)) ((atR l a s : Nat) : Int) b = some (.next (b.set (atR l a s) (b.getD (atR l a s) [] ++ [a]), (k : Int) + 1)) := fun b hlt hbl => by
    unfold weave_ties_layers_k4 weave_ties_layers_k2
    have hm : (b.getD (atR l a s) []).length ≤ 1000 := by
      rw [getD_of (List.getElem?_eq_getElem hlt)]; exact hbl _ (List.getElem_mem hlt)
    simp only [Int.toNat_natCast, hg]
    rw [ck_pos (by omega), ck_pos (by omega), ck_pos (by omega), ck_pos (by omega), ck_pos (by rw [inK_i64]; omega)]
  unfold weave_ties_layers_k3
  by_cases e : atR l a s = s.length
  · rw [if_pos (by simp [e])]
    simp only
    rw [ck_pos (by omega), hb _ (by simp [e]) (by
      intro L hL
      rcases List.mem_append.1 hL with g | g
      · exact h2 L g
      · rw [List.mem_singleton] at g; subst g; simp)]
    rw [if_pos e] at hpe
    rw [hpe]
  · rw [if_neg (by simp; omega)]
    simp only
    rw [hb _ (by omega) h2]
    rw [if_neg e] at hpe
    rw [hpe]

theorem sort_loop (ls : List (List Int)) (hn : ls.length ≤ 1000) (h : ∀ L ∈ ls, L.length ≤ 8) : whileO (weave_ties_layers_b3 ls) (ls, 0) = some (ls.map srt) := by
  have key := whileO_iter (body := weave_ties_layers_b3 ls) (fun s (i : Int) => (s, i)) ls.length (fun k s => s.set k (srt (ls.getD k []))) id
    (fun k s => s.length = ls.length ∧ (∀ i, i < k → s[i]? = (ls[i]?).map srt) ∧ ∀ i, k ≤ i → s[i]? = ls[i]?) (s0 := ls) ⟨rfl, fun i hi => absurd hi (Nat.not_lt_zero i), fun _ _ => rfl⟩
    (fun k s hk hp => by
      obtain ⟨p1, p2, p3⟩ := hp
      have hg : s.getD k [] = ls.getD k [] := by
        have := p3 k (Nat.le_refl k)
        simp [List.getD, this]
      have hm : ls.getD k [] ∈ ls := by rw [getD_of (List.getElem?_eq_getElem hk)]; exact List.getElem_mem hk
      refine ⟨?_, by simpa using p1, fun i hi => ?_, fun i hi => ?_⟩
      · unfold weave_ties_layers_b3
        simp only [Int.toNat_natCast]
        rw [if_pos (by rw [decide_eq_true_eq]; omega), ck_pos (by omega), ck_pos (by omega), hg, Sort_eq _ (h _ hm), Option.bind_some, ck_pos (by rw [inK_i64]; omega)]
      · rw [List.getElem?_set]
        by_cases e : k = i
        · subst e
          rw [if_pos rfl, if_pos (by omega), List.getElem?_eq_getElem hk]
          simp [List.getD, List.getElem?_eq_getElem hk]
        · rw [if_neg e]; exact p2 i (by omega)
      · rw [List.getElem?_set, if_neg (by omega)]; exact p3 i (by omega))
    (fun s hp => by
      unfold weave_ties_layers_b3
      rw [if_neg (by simp)]
      rfl)
  obtain ⟨k1, k2, k3, k4⟩ := key
  have k1' : whileO (weave_ties_layers_b3 ls) (ls, 0) = some _ := k1
  rw [k1']
  congr 1
  refine List.ext_getElem? fun i => ?_
  rw [id, List.getElem?_map]
  by_cases hi : i < ls.length
  · exact k3 i hi
  · rw [k4 i (by omega), List.getElem?_eq_none (by omega)]; rfl

theorem indep_len {l : Ltr} {x : List Int} (hx : indep l x) (h : ∀ a ∈ x, 0 ≤ a ∧ a < 6) : x.length ≤ 6 := by
  have : x.length ≤ ((List.range 6).map fun n : Nat => (n : Int)).length := nodup_le (indep_nodup hx) fun a ha => by
    have := h a ha
    exact List.mem_map.2 ⟨a.toNat, List.mem_range.2 (by omega), by omega⟩
  simpa using this

theorem lay_indep {l : Ltr} : ∀ (n : Nat) (w : List Int), w.length = n → ∀ L ∈ lay l w, indep l L := by
  intro n
  induction n using Nat.strongRecOn with
  | ind n ih =>
    intro w hn L hL
    by_cases h0 : w = []
    · subst h0; simp [lay] at hL
    · rw [lay_eq l w h0] at hL
      rcases List.mem_cons.1 hL with e | hL
      · subst e; exact fsl_indep l w
      · exact ih (rsl l w).length (by have := rsl_lt (l := l) h0; omega) _ rfl L hL

theorem layers_eq {l : Ltr} {t : El T53} (ht : Ties l t) {w : List Int} (hl : w.length ≤ 1000) (hw : ∀ x ∈ w, 0 ≤ x ∧ x < 6) : weave_ties_layers t w = some (layS l w) := by
  have key := whileO_list (body := weave_ties_layers_b1 t w) (fun s (i : Int) => (s, i)) w (pushL l) id layI (s0 := []) ⟨by simp, by simp, rfl⟩
    (fun k a s hk hp => ⟨lay_step ht w hl hk (hw a (List.mem_of_getElem? hk)) hp, layI_push (hw a (List.mem_of_getElem? hk)) hp⟩)
    (fun s hp => by unfold weave_ties_layers_b1; rw [if_neg (by simp)]; rfl)
  obtain ⟨k1, k2⟩ := key
  have k1' : whileO (weave_ties_layers_b1 t w) (([] : List (List Int)), 0) = some (lay l w) := k1
  have k2' : layI w.length (lay l w) := k2
  unfold weave_ties_layers
  rw [k1', Option.bind_some]
  unfold weave_ties_layers_k1
  have hn : (lay l w).length ≤ 1000 := by have := ne_len k2'.2.1; have := k2'.2.2; omega
  rw [sort_loop _ hn (fun L hL => by have := indep_len (lay_indep _ w rfl L hL) (k2'.1 L hL); omega), Option.bind_some]
  rfl

def layA (l : Ltr) (w : List Int) : List (List Int) × Int := if errW l [w] = 0 then (layS l w, 0) else ([], errW l [w])

theorem Layers_eq (l : Ltr) (w : List Int) (hl : few l.2) (hw : w.length ≤ 60) : weave_Layers l w = some (layA l w) := by
  obtain ⟨t, h1, h2⟩ := checked1 l w hl hw
  unfold weave_Layers layA
  rw [h1, Option.bind_some]
  by_cases e : errW l [w] = 0
  · obtain ⟨g1, g2⟩ := errW_ok e
    have gw := g2 w (by simp)
    rw [if_neg (by simp [e]), if_pos e, layers_eq (h2 e) (by omega) (isWd_six g1 gw), Option.bind_some]
  · rw [if_pos (by simp [e]), if_neg e]

end Go.Proofs.Ytabchabbdnhjpaa
