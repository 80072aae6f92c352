/-
  Layer 5, pure: two systems together, both sides; the law of the other systems.
-/
import Derived.Test.YtifleoceebaooaaS24
import Derived.Test.YtifleoceebaooaaS8
namespace Go.Proofs.Ytifleoceebaooaa

set_option linter.unusedVariables false
set_option linter.unusedSimpArgs false
set_option linter.unusedSectionVars false
set_option maxRecDepth 100000
set_option maxHeartbeats 1000000

theorem refhas_eq {s : Sys} (hs : OkS s) (f l g : Int) : linealref05_has s f l g = some (decide ((f, l, g) ∈ s.2)) := by
  have hlen := hs.len
  obtain ⟨r, e, hr⟩ := scan1 (R := Sum Unit Unit) s.2 (fun k => (f, l, g) ∉ s.2.take k) (fun r => (r = .inl () ∧ (f, l, g) ∈ s.2) ∨ (r = .inr () ∧ (f, l, g) ∉ s.2)) (body := linealref05_has_b1 s f l g) (by simp)
    (fun k z hk hI => by
      have hlt := (List.getElem?_eq_some_iff.1 hk).1
      have kj : InK .i64 ((k : Int) + 1) := by rw [inK_i64]; omega
      unfold linealref05_has_b1
      simp only [Int.toNat_natCast, getD_of hk]
      rw [if_pos (by rw [decide_eq_true_eq]; omega), ck_pos (by omega), ck_pos (by omega)]
      by_cases hz : z = (f, l, g)
      · subst hz
        refine .inr ⟨.inl (), ?_, .inl ⟨rfl, List.mem_of_getElem? hk⟩⟩
        rw [if_pos (by simp), if_pos (by simp), if_pos (by simp)]
      · refine .inl ⟨?_, ?_⟩
        · by_cases h1 : z.1 = f
          · rw [if_pos (by rw [decide_eq_true_eq]; exact h1)]
            by_cases h2 : z.2.1 = l
            · rw [if_pos (by rw [decide_eq_true_eq]; exact h2), if_neg (by rw [decide_eq_true_eq]; exact fun h3 => hz (stp_ext h1 h2 h3)), ck_pos kj]
            · rw [if_neg (by rw [decide_eq_true_eq]; exact h2), ck_pos kj]
          · rw [if_neg (by rw [decide_eq_true_eq]; exact h1), ck_pos kj]
        · rw [take_one hk, List.mem_append, List.mem_singleton]
          rintro (h | h)
          · exact hI h
          · exact hz h.symm)
    (fun hI => by
      rw [List.take_length] at hI
      refine ⟨.inr (), ?_, .inr ⟨rfl, hI⟩⟩
      unfold linealref05_has_b1
      rw [if_neg (by simp)])
  unfold linealref05_has
  rw [e]
  rcases hr with ⟨rfl, h⟩ | ⟨rfl, h⟩
  · rw [decide_eq_true h]; rfl
  · rw [decide_eq_false h]; rfl

instance (s t : Sys) (f l g : Int) : Decidable (Pd s t f l g) := by unfold Pd; exact inferInstance

def thrF (s t : Sys) (f l g : Nat) : List Stp := if Pd s t f l g then [((f : Int), (l : Int), (g : Int))] else []
def twoF (s t : Sys) (N f l : Nat) : List Stp := (List.range N).flatMap (thrF s t f l)
def refF (s t : Sys) (N f : Nat) : List Stp := (List.range 4).flatMap (twoF s t N f)
def refV (s t : Sys) (N : Nat) : List Stp := (List.range N).flatMap (refF s t N)

theorem thrF_len (s t : Sys) (f l g : Nat) : (thrF s t f l g).length ≤ 1 := by unfold thrF; split <;> simp
theorem twoF_len (s t : Sys) (N f l : Nat) : (twoF s t N f l).length ≤ N := by
  have := flatm_len (f := thrF s t f l) (c := 1) (List.range N) fun x _ => thrF_len ..
  rw [List.length_range] at this
  unfold twoF; omega
theorem refF_len (s t : Sys) (N f : Nat) : (refF s t N f).length ≤ N * 4 := by
  have := flatm_len (f := twoF s t N f) (c := N) (List.range 4) fun x _ => twoF_len ..
  rwa [List.length_range] at this

theorem refV_mem {s t : Sys} {N : Nat} {z : Stp} : z ∈ refV s t N ↔ ∃ f l g : Nat, f < N ∧ l < 4 ∧ g < N ∧ Pd s t f l g ∧ z = ((f : Int), (l : Int), (g : Int)) := by
  unfold refV refF twoF thrF
  simp only [List.mem_flatMap, List.mem_range]
  constructor
  · rintro ⟨f, hf, l, hl, g, hg, h⟩
    split at h
    · rename_i hp
      exact ⟨f, l, g, hf, hl, hg, hp, List.mem_singleton.1 h⟩
    · simp at h
  · rintro ⟨f, l, g, hf, hl, hg, hp, rfl⟩
    refine ⟨f, hf, l, hl, g, hg, ?_⟩
    rw [if_pos hp, List.mem_singleton]

theorem range_lt (n : Nat) : (List.range n).Pairwise (· < ·) := List.pairwise_lt_range

theorem refV_asc (s t : Sys) (N : Nat) : (refV s t N).Pairwise ltP := by
  unfold refV
  rw [List.pairwise_flatMap]
  refine ⟨fun f _ => ?_, (range_lt N).imp fun {f f'} hff x hx y hy => ?_⟩
  · unfold refF
    rw [List.pairwise_flatMap]
    refine ⟨fun l _ => ?_, (range_lt 4).imp fun {l l'} hll x hx y hy => ?_⟩
    · unfold twoF
      rw [List.pairwise_flatMap]
      refine ⟨fun g _ => ?_, (range_lt N).imp fun {g g'} hgg x hx y hy => ?_⟩
      · unfold thrF
        split
        · exact List.pairwise_singleton ..
        · exact List.Pairwise.nil
      · unfold thrF at hx hy
        split at hx
        · split at hy
          · rw [List.mem_singleton] at hx hy
            subst hx hy
            exact .inr ⟨rfl, .inr ⟨rfl, by simp only; omega⟩⟩
          · simp at hy
        · simp at hx
    · unfold twoF thrF at hx hy
      rw [List.mem_flatMap] at hx hy
      obtain ⟨g, _, hx⟩ := hx
      obtain ⟨g', _, hy⟩ := hy
      split at hx
      · split at hy
        · rw [List.mem_singleton] at hx hy
          subst hx hy
          exact .inr ⟨rfl, .inl (by simp only; omega)⟩
        · simp at hy
      · simp at hx
  · unfold refF twoF thrF at hx hy
    rw [List.mem_flatMap] at hx hy
    obtain ⟨l, _, hx⟩ := hx
    obtain ⟨l', _, hy⟩ := hy
    rw [List.mem_flatMap] at hx hy
    obtain ⟨g, _, hx⟩ := hx
    obtain ⟨g', _, hy⟩ := hy
    split at hx
    · split at hy
      · rw [List.mem_singleton] at hx hy
        subst hx hy
        exact .inl (by simp only; omega)
      · simp at hy
    · simp at hx

section
variable {s t : Sys} (hs : OkS s) (ht : OkS t)
include hs ht

theorem lists_same (N : Nat) (hN : (N : Int) = s.1 * t.1) : once (allU s t) = refV s t N := by
  obtain ⟨h1, h2⟩ := once_asc (allU s t)
  refine asc_one _ _ h1 (refV_asc s t N) fun z => ?_
  obtain ⟨f, l, g⟩ := z
  rw [h2, allU_is hs ht, refV_mem]
  constructor
  · rintro ⟨hf, hl, hg, h⟩
    refine ⟨f.toNat, l.toNat, g.toNat, by omega, by omega, by omega, ?_, ?_⟩
    · rw [Int.toNat_of_nonneg hf.1, Int.toNat_of_nonneg hl.1, Int.toNat_of_nonneg hg.1]; exact h
    · rw [Int.toNat_of_nonneg hf.1, Int.toNat_of_nonneg hl.1, Int.toNat_of_nonneg hg.1]
  · rintro ⟨f', l', g', h3, h4, h5, h6, e⟩
    simp only [Prod.mk.injEq] at e
    obtain ⟨rfl, rfl, rfl⟩ := e
    exact ⟨⟨by omega, by omega⟩, ⟨by omega, by omega⟩, ⟨by omega, by omega⟩, h6⟩

theorem both_b3 (N : Nat) (hN : (N : Int) = s.1 * t.1) (h6 : N ≤ 6) (st1 st2 : List Stp × Int) {f l : Nat} (hf : f < N) (hl : l < 4) (e1 : st1.2 = (f : Int)) (e2 : st2.2 = (l : Int)) (hlen : st2.1.length ≤ 10000) :
    whileO (linealref05_Both_b3 s t st1 st2) (st2.1, 0) = some (st2.1 ++ twoF s t N f l) := by
  have tl := ht.lo
  have t6 := ht.hi
  have hfn := num_pair (m := s.1) (f := (f : Int)) tl t6 (by omega)
  have hs6 := hs.hi
  refine app_loop (List.range N) (thrF s t f l) 1 (fun x _ => thrF_len ..) st2.1 (fun k x acc hk hacc => ?_) (fun acc => ?_)
  · obtain ⟨rfl, hlt⟩ := range_get hk
    rw [List.length_range] at hacc
    have kj : InK .i64 ((x : Int) + 1) := by rw [inK_i64]; omega
    have hxn := num_pair (m := s.1) (f := (x : Int)) tl t6 (by omega)
    have kf : InK .i64 ((f : Int) / t.1) := by rw [inK_i64]; omega
    have kx : InK .i64 ((x : Int) / t.1) := by rw [inK_i64]; omega
    have hnext : thrF s t f l x = if Pd s t f l x then [((f : Int), (l : Int), (x : Int))] else [] := rfl
    unfold linealref05_Both_b3
    simp only [e1, e2]
    rw [if_pos (by rw [decide_eq_true_eq]; omega), ck_pos (by omega), ck_pos (by omega), ck_pos kf, ck_pos (by omega), ck_pos (by omega), ck_pos kx, refhas_eq hs, Option.bind_some, ck_pos (by omega), ck_pos (by omega), ck_pos (by omega), ck_pos (by omega), refhas_eq ht, Option.bind_some]
    have add : ∀ P : Prop, P → Pd s t f l x → ck ((acc.length + 1) * 24 ≤ 140737488355328) (ck (InK .i64 ((x : Int) + 1)) (some (Step.next (R := List Stp) (acc ++ [((f : Int), (l : Int), (x : Int))], (x : Int) + 1)))) = some (.next (acc ++ thrF s t f l x, (x : Int) + 1)) := fun _ _ hp => by
      rw [ck_pos (by omega), ck_pos kj, hnext, if_pos hp]
    have non : ¬ Pd s t f l x → ck (InK .i64 ((x : Int) + 1)) (some (Step.next (R := List Stp) (acc, (x : Int) + 1))) = some (.next (acc ++ thrF s t f l x, (x : Int) + 1)) := fun hp => by
      rw [ck_pos kj, hnext, if_neg hp, List.append_nil]
    have k4 : ∀ (b1 b2 v4 : Bool), (b1 = true ↔ ((f : Int) / t.1, (l : Int), (x : Int) / t.1) ∈ s.2) → (v4 = true ↔ ((f : Int) % t.1, (l : Int), (x : Int) % t.1) ∈ t.2) → (b2 = (b1 && v4)) → linealref05_Both_k4 t st1 st2 (acc, (x : Int)) v4 (b1, b2) = some (.next (acc ++ thrF s t f l x, (x : Int) + 1)) := fun b1 b2 v4 h1 h2 h3 => by
      unfold linealref05_Both_k4
      simp only [e1, e2]
      by_cases hl0 : (l : Int) = 0
      · rw [if_pos (by rw [decide_eq_true_eq]; exact hl0)]
        have hp : Pd s t f l x ↔ (b1 = true ∧ (f : Int) % t.1 = (x : Int) % t.1) ∨ (v4 = true ∧ (f : Int) / t.1 = (x : Int) / t.1) := by
          unfold Pd
          rw [if_pos hl0, h1, h2, hl0]
        cases b1 with
        | true =>
          rw [if_pos rfl, ck_pos (by omega), ck_pos (by omega), ck_pos (by omega), ck_pos (by omega)]
          by_cases hm : (f : Int) % t.1 = (x : Int) % t.1
          · rw [if_pos (by rw [decide_eq_true_eq]; exact hm)]
            exact add True trivial (hp.2 (.inl ⟨rfl, hm⟩))
          · rw [if_neg (by rw [decide_eq_true_eq]; exact hm)]
            cases v4 with
            | true =>
              rw [if_pos rfl, ck_pos (by omega), ck_pos (by omega), ck_pos kf, ck_pos (by omega), ck_pos (by omega), ck_pos kx]
              by_cases hd : (f : Int) / t.1 = (x : Int) / t.1
              · rw [if_pos (by rw [decide_eq_true_eq]; exact hd)]
                exact add True trivial (hp.2 (.inr ⟨rfl, hd⟩))
              · rw [if_neg (by rw [decide_eq_true_eq]; exact hd)]
                exact non fun h => by rcases hp.1 h with h | h; exact hm h.2; exact hd h.2
            | false =>
              rw [if_neg (by simp)]
              exact non fun h => by rcases hp.1 h with h | h; exact hm h.2; cases h.1
        | false =>
          rw [if_neg (by simp)]
          cases v4 with
          | true =>
            rw [if_pos rfl, ck_pos (by omega), ck_pos (by omega), ck_pos kf, ck_pos (by omega), ck_pos (by omega), ck_pos kx]
            by_cases hd : (f : Int) / t.1 = (x : Int) / t.1
            · rw [if_pos (by rw [decide_eq_true_eq]; exact hd)]
              exact add True trivial (hp.2 (.inr ⟨rfl, hd⟩))
            · rw [if_neg (by rw [decide_eq_true_eq]; exact hd)]
              exact non fun h => by rcases hp.1 h with h | h; cases h.1; exact hd h.2
          | false =>
            rw [if_neg (by simp)]
            exact non fun h => by rcases hp.1 h with h | h; cases h.1; cases h.1
      · rw [if_neg (by rw [decide_eq_true_eq]; exact hl0)]
        have hp : Pd s t f l x ↔ b2 = true := by
          unfold Pd
          rw [if_neg hl0, h3, Bool.and_eq_true, h1, h2]
        by_cases hb : b2 = true
        · rw [if_pos hb]
          exact add True trivial (hp.2 hb)
        · rw [if_neg hb]
          exact non fun h => hb (hp.1 h)
    by_cases h1 : ((f : Int) / t.1, (l : Int), (x : Int) / t.1) ∈ s.2
    · rw [decide_eq_true h1, if_pos rfl]
      exact k4 true _ _ ⟨fun _ => h1, fun _ => rfl⟩ decide_eq_true_iff (by simp)
    · rw [decide_eq_false h1, if_neg (by simp)]
      exact k4 false _ _ ⟨fun h => (by cases h), fun h => absurd h h1⟩ decide_eq_true_iff (by simp)
  · unfold linealref05_Both_b3
    simp only [List.length_range]
    rw [if_neg (by rw [decide_eq_true_eq]; omega)]

theorem both_b2 (N : Nat) (hN : (N : Int) = s.1 * t.1) (h6 : N ≤ 6) (st1 : List Stp × Int) {f : Nat} (hf : f < N) (e1 : st1.2 = (f : Int)) (hlen : st1.1.length ≤ 5000) :
    whileO (linealref05_Both_b2 s t st1) (st1.1, 0) = some (st1.1 ++ refF s t N f) := by
  refine app_loop (List.range 4) (twoF s t N f) N (fun x _ => twoF_len ..) st1.1 (fun k x acc hk hacc => ?_) (fun acc => ?_)
  · obtain ⟨rfl, hlt⟩ := range_get hk
    rw [List.length_range] at hacc
    have kj : InK .i64 ((x : Int) + 1) := by rw [inK_i64]; omega
    unfold linealref05_Both_b2
    simp only
    rw [if_pos (by rw [decide_eq_true_eq]; omega)]
    have e3 := both_b3 hs ht N hN h6 st1 (acc, (x : Int)) hf hlt e1 rfl (by simp only; omega)
    simp only at e3
    rw [e3, Option.bind_some]
    unfold linealref05_Both_k3
    simp only
    rw [ck_pos kj]
  · unfold linealref05_Both_b2
    simp only [List.length_range]
    rw [if_neg (by rw [decide_eq_true_eq]; omega)]

theorem both_b1 (N : Nat) (hN : (N : Int) = s.1 * t.1) (h6 : N ≤ 6) : whileO (linealref05_Both_b1 s t) ([], 0) = some (refV s t N) := by
  have := app_loop (List.range N) (refF s t N) (N * 4) (fun x _ => refF_len ..) [] (body := linealref05_Both_b1 s t) (fun k x acc hk hacc => by
    obtain ⟨rfl, hlt⟩ := range_get hk
    rw [List.length_range, List.length_nil] at hacc
    have hm : N * 4 * N ≤ 144 := by
      have : N * 4 * N ≤ 6 * 4 * 6 := Nat.mul_le_mul (Nat.mul_le_mul_right 4 h6) h6
      omega
    have kj : InK .i64 ((x : Int) + 1) := by rw [inK_i64]; omega
    unfold linealref05_Both_b1
    simp only
    rw [if_pos (by rw [decide_eq_true_eq]; omega)]
    have e3 := both_b2 hs ht N hN h6 (acc, (x : Int)) hlt rfl (by simp only; omega)
    simp only at e3
    rw [e3, Option.bind_some]
    unfold linealref05_Both_k2
    simp only
    rw [ck_pos kj]) (fun acc => by
    unfold linealref05_Both_b1
    simp only [List.length_range]
    rw [if_neg (by rw [decide_eq_true_eq]; omega)])
  rw [this, List.nil_append]
  rfl

end

/-- Two systems together. -/
def bothOf (s t : Sys) : Int × List Stp × Int := if (validB s && validB t) = true then (if 6 < s.1 * t.1 then (0, [], 4) else if 24 < (once (allU s t)).length then (0, [], 4) else (s.1 * t.1, once (allU s t), 0)) else (0, [], 50)

theorem Both_both {s t : Sys} (ks : okZ s) (kt : okZ t) : refine_Both s t = some (bothOf s t) ∧ linealref05_Both s t = some (bothOf s t) := by
  unfold bothOf
  cases vs : validB s with
  | false =>
    constructor
    · unfold refine_Both; rw [Valid_eq s ks, Option.bind_some, vs]; rfl
    · unfold linealref05_Both; rw [refValid_eq s ks, Option.bind_some, vs]; rfl
  | true =>
    cases vt : validB t with
    | false =>
      constructor
      · unfold refine_Both; rw [Valid_eq s ks, Option.bind_some, vs, if_neg (by simp), Valid_eq t kt, Option.bind_some, vt]; rfl
      · unfold linealref05_Both; rw [refValid_eq s ks, Option.bind_some, vs, if_neg (by simp), refValid_eq t kt, Option.bind_some, vt]; rfl
    | true =>
      have hs := okS_valid vs
      have ht := okS_valid vt
      have hm := mul_small ht.lo ht.hi (a := s.1) ⟨by have := hs.lo; omega, by have := hs.hi; omega⟩
      have km : InK .i64 (s.1 * t.1) := by rw [inK_i64]; omega
      rw [show (true && true) = true from rfl, if_pos rfl]
      constructor
      · unfold refine_Both
        rw [Valid_eq s ks, Option.bind_some, vs, if_neg (by simp), Valid_eq t kt, Option.bind_some, vt, if_neg (by simp), ck_pos km, together_eq hs ht, Option.bind_some]
        by_cases h6 : 6 < s.1 * t.1
        · rw [if_pos (by rw [decide_eq_true_eq]; exact h6), if_pos h6]
        · rw [if_neg (by rw [decide_eq_true_eq]; exact h6), if_neg h6]
          by_cases h24 : 24 < (once (allU s t)).length
          · rw [if_pos (by rw [decide_eq_true_eq]; omega), if_pos h24]
          · rw [if_neg (by rw [decide_eq_true_eq]; omega), if_neg h24]
      · unfold linealref05_Both
        rw [refValid_eq s ks, Option.bind_some, vs, if_neg (by simp), refValid_eq t kt, Option.bind_some, vt, if_neg (by simp), ck_pos km]
        by_cases h6 : 6 < s.1 * t.1
        · rw [if_pos (by rw [decide_eq_true_eq]; exact h6), if_pos h6]
        · rw [if_neg (by rw [decide_eq_true_eq]; exact h6), if_neg h6]
          have hN : (((s.1 * t.1).toNat : Nat) : Int) = s.1 * t.1 := Int.toNat_of_nonneg hm.1
          rw [both_b1 hs ht (s.1 * t.1).toNat hN (by omega), Option.bind_some, lists_same hs ht _ hN]
          unfold linealref05_Both_k1
          by_cases h24 : 24 < (refV s t (s.1 * t.1).toNat).length
          · rw [if_pos (by rw [decide_eq_true_eq]; omega), if_pos h24]
          · rw [if_neg (by rw [decide_eq_true_eq]; omega), if_neg h24]

theorem both_valid {s t : Sys} (hs : OkS s) (ht : OkS t) (h6 : ¬ 6 < s.1 * t.1) (h24 : ¬ 24 < (once (allU s t)).length) : validB (s.1 * t.1, once (allU s t)) = true := by
  obtain ⟨h1, h2⟩ := once_asc (allU s t)
  have hpos : 1 ≤ s.1 * t.1 := by
    have := Int.mul_le_mul_of_nonneg_right (c := t.1) hs.lo (by have := ht.lo; omega)
    have := ht.lo
    omega
  refine validB_of hpos (by simp only; omega) (by simp only; omega) (fun z hz => ?_) (List.Pairwise.imp (R := ltP) (S := fun x y => x ≠ y) (fun {x y} hxy e => ltP_irr (e ▸ hxy)) h1)
  obtain ⟨f, l, g⟩ := z
  obtain ⟨a1, a2, a3, _⟩ := (allU_is hs ht f l g).1 ((h2 _).1 hz)
  exact ⟨a1, a2, a3⟩

/-! ### The other side's hidden labels, and steps left out -/

def hiddenOf (s : Sys) (k : Int) : Int × List Stp × Int := if validB s = true then (if 0 < k ∧ k ≤ 3 then (s.1, hideL k s.2, 0) else (0, [], 2)) else (0, [], 50)

def withoutOf (s : Sys) (i : Int) : Int × List Stp × Int := if validB s = true then (if 0 ≤ i ∧ i < s.2.length then (s.1, s.2.eraseIdx i.toNat, 0) else (0, [], 2)) else (0, [], 50)

end Go.Proofs.Ytifleoceebaooaa
