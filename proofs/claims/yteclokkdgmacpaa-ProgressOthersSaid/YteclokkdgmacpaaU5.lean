/-
  Layer 7, pure: ways; ends; ProgressPaths answers true.
-/
import Derived.Test.YteclokkdgmacpaaU4
import Derived.Test.YteclokkdgmacpaaUtw
namespace Go.Proofs.Yteclokkdgmacpaa
open Go.RowKit

set_option linter.unusedVariables false
set_option linter.unusedSimpArgs false
set_option linter.unusedSectionVars false
set_option maxRecDepth 10000

/-- The first path that is found to a place. -/
def wayL (are : Mv → Bool) (g : Gr) (from0 to0 : Int) : Option (List Int) := ((found are g from0).find? fun y => decide (y.1 = to0)).map (·.2)

/-- What a search for a way answers. -/
def wayA (o : Option (List Int)) : List Int × Bool := match o with | some w => (w, true) | none => ([], false)

def wayR (g : Gr) (place : Int) : List Int × Int := if okG g = true then (if isB place g.1 = true then (match wayL any g 0 place with | some w => (w, 0) | none => ([], 5)) else ([], 2)) else ([], 70)

/-! ### The reference's search, layer by layer -/

structure RW (g : Gr) (s : PW) (there : List Bool) (ways : List (List Int)) : Prop where
  l1 : there.length = g.1.toNat
  l2 : ways.length = g.1.toNat
  t : ∀ q : Nat, q < g.1.toNat → there.getD q false = decide ((q : Int) ∈ s.1)
  w : ∀ (j : Nat) (p : Int) (u : List Int), s.1[j]? = some p → s.2[j]? = some u → ways.getD p.toNat [] = u

section
variable {g : Gr} (hg : GOK g)
include hg

/-- One move. -/
theorem RW.stepW {i : Nat} {p : Int} {w : List Int} {k : Nat} {s : PW} {there : List Bool} {ways : List (List Int)} (hJ : BJ any g 0 i p w k s) (hk : k < g.2.length) (h : RW g s there ways) (base : Nat) (hbase : base ≤ s.1.length) (st1 : List Bool × List (List Int) × List Int) (st2 : List Bool × List (List Int) × List Int × Int) (hp : st1.2.2.getD st2.2.2.2.toNat 0 = p) :
    ∃ there' ways', linealref07_Way_b3 g st1 st2 (there, ways, s.1.drop base, (k : Int)) = some (.next (there', ways', (bStep any g p w s k).1.drop base, (k : Int) + 1)) ∧ RW g (bStep any g p w s k) there' ways' := by
  have hm := hg.mv _ (getD_in (d := (0, 0, 0, false)) hk)
  have hml := hg.len
  have hhi := hg.hi
  have hl := hJ.len_le hg
  have kin : InK .i64 ((k : Int) + 1) := by rw [inK_i64]; omega
  have hpi := hJ.inN p (List.mem_of_getElem? hJ.at1)
  have hw := hJ.way i p w hJ.at1 hJ.at2
  have hil := (List.getElem?_eq_some_iff.1 hJ.at1).1
  have l1 := h.l1
  have l2 := h.l2
  unfold linealref07_Way_b3 bStep
  simp only [Int.toNat_natCast]
  rw [if_pos (by rw [decide_eq_true_eq]; omega), ck_pos (by omega), ck_pos (by omega)]
  by_cases e : (g.2.getD k (0, 0, 0, false)).1 = p
  · rw [if_pos (by rw [decide_eq_true_eq, hp]; exact e), ck_pos (by omega), ck_pos (by omega)]
    have ht := h.t (g.2.getD k (0, 0, 0, false)).2.2.1.toNat (by omega)
    rw [Int.toNat_of_nonneg hm.2.1.1] at ht
    by_cases hin : (g.2.getD k (0, 0, 0, false)).2.2.1 ∈ s.1
    · rw [decide_eq_true hin] at ht
      rw [ht, if_neg (by simp), ck_pos kin, if_neg (fun hc => hc.2.2 hin)]
      exact ⟨_, _, rfl, h⟩
    · rw [decide_eq_false hin] at ht
      have hwl : (ways.getD p.toNat []).length ≤ 1000 := by rw [h.w i p w hJ.at1 hJ.at2]; omega
      rw [ht, if_pos (by simp), ck_pos (by omega), ck_pos (by omega), ck_pos (by rw [hp]; omega), ck_pos (by rw [hp]; omega), ck_pos (by rw [hp]; omega), ck_pos (by rw [hp]; omega), ck_pos (by omega), ck_pos (by omega), ck_pos (by rw [List.length_drop]; omega), ck_pos kin, if_pos ⟨e, rfl, hin⟩, hp]
      refine ⟨_, _, by rw [List.drop_append_of_le_length hbase], ⟨by simpa using l1, by simpa using l2, fun q hq => ?_, fun j q u h1 h2 => ?_⟩⟩
      · rw [getD_setL (by omega)]
        by_cases eq : q = (g.2.getD k (0, 0, 0, false)).2.2.1.toNat
        · rw [if_pos eq, decide_eq_true]
          have : (q : Int) = (g.2.getD k (0, 0, 0, false)).2.2.1 := by omega
          rw [this]; simp
        · rw [if_neg eq, h.t q hq]
          refine decide_eq_decide.2 ?_
          rw [List.mem_append, List.mem_singleton]
          constructor
          · exact .inl
          · rintro (h1 | h1)
            · exact h1
            · omega
      · rw [getD_setL (by omega)]
        rcases app_at h1 with h1 | ⟨h1, rfl⟩
        · have hu : s.2[j]? = some u := by
            rcases app_at h2 with h2 | ⟨h2, _⟩
            · exact h2
            · have := (List.getElem?_eq_some_iff.1 h1).1
              have := hJ.len; omega
          have hq := hJ.inN q (List.mem_of_getElem? h1)
          rw [if_neg, h.w j q u h1 hu]
          intro eq
          apply hin
          have : (g.2.getD k (0, 0, 0, false)).2.2.1 = q := by omega
          rw [this]; exact List.mem_of_getElem? h1
        · rw [if_pos rfl]
          rcases app_at h2 with h2 | ⟨h2, rfl⟩
          · have := (List.getElem?_eq_some_iff.1 h2).1
            have := hJ.len; omega
          · rw [h.w i p w hJ.at1 hJ.at2]
  · rw [if_neg (by rw [decide_eq_true_eq, hp]; exact e), ck_pos kin, if_neg (fun hc => e hc.1)]
    exact ⟨_, _, rfl, h⟩

theorem bStep_len (are : Mv → Bool) (p : Int) (w : List Int) (s : PW) (k : Nat) : s.1.length ≤ (bStep are g p w s k).1.length := by
  unfold bStep
  split
  · simp
  · exact Nat.le_refl _

/-- One place. -/
theorem RW.rowW {i : Nat} {s : PW} {there : List Bool} {ways : List (List Int)} (hB : BI any g 0 i s) (hi : i < s.1.length) (h : RW g s there ways) (base : Nat) (hbase : base ≤ s.1.length) (st1 : List Bool × List (List Int) × List Int) (st2 : List Bool × List (List Int) × List Int × Int) (hp : st1.2.2.getD st2.2.2.2.toNat 0 = s.1.getD i 0) :
    ∃ there' ways', whileO (linealref07_Way_b3 g st1 st2) (there, ways, s.1.drop base, 0) = some (there', ways', (bRow any g s i).1.drop base) ∧ RW g (bRow any g s i) there' ways' := by
  have hi2 : i < s.2.length := by rw [hB.len]; exact hi
  have a1 : s.1[i]? = some (s.1.getD i 0) := by rw [getD_of (List.getElem?_eq_getElem hi)]; exact List.getElem?_eq_getElem hi
  have a2 : s.2[i]? = some (s.2.getD i []) := by rw [getD_of (List.getElem?_eq_getElem hi2)]; exact List.getElem?_eq_getElem hi2
  have hJ : BJ any g 0 i (s.1.getD i 0) (s.2.getD i []) 0 s := ⟨hB, a1, a2, fun j hj => absurd hj (Nat.not_lt_zero j)⟩
  have : ∀ (d k : Nat) (u : PW) (there : List Bool) (ways : List (List Int)), g.2.length - k = d → k ≤ g.2.length → BJ any g 0 i (s.1.getD i 0) (s.2.getD i []) k u → base ≤ u.1.length → RW g u there ways →
      ∃ there' ways', whileO (linealref07_Way_b3 g st1 st2) (there, ways, u.1.drop base, (k : Int)) = some (there', ways', (((List.range' k d).foldl (bStep any g (s.1.getD i 0) (s.2.getD i [])) u)).1.drop base) ∧ RW g ((List.range' k d).foldl (bStep any g (s.1.getD i 0) (s.2.getD i [])) u) there' ways' := by
    intro d
    induction d with
    | zero =>
      intro k u there ways h1 h2 hu hb hR
      have : k = g.2.length := by omega
      subst this
      refine ⟨there, ways, whileO_end ?_, hR⟩
      unfold linealref07_Way_b3
      simp only
      rw [if_neg (by simp)]
      rfl
    | succ d ih =>
      intro k u there ways h1 h2 hu hb hR
      obtain ⟨t1, w1, e1, r1⟩ := RW.stepW hg hu (by omega) hR base hb st1 st2 hp
      obtain ⟨t2, w2, e2, r2⟩ := ih (k + 1) _ t1 w1 (by omega) (by omega) (hu.step hg (by omega)) (Nat.le_trans hb (bStep_len hg _ _ _ _ _)) r1
      refine ⟨t2, w2, whileO_on e1 ?_, ?_⟩
      · have e : ((k : Int) + 1) = ((k + 1 : Nat) : Int) := by omega
        rw [e, e2, List.range'_succ, List.foldl_cons]
      · rw [List.range'_succ, List.foldl_cons]; exact r2
  obtain ⟨t, w, e, r⟩ := this g.2.length 0 s there ways (by omega) (by omega) hJ hbase h
  rw [← List.range_eq_range'] at e r
  exact ⟨t, w, e, r⟩

theorem row_len {i : Nat} {s : PW} (hB : BI any g 0 i s) (hi : i < s.1.length) : s.1.length ≤ (bRow any g s i).1.length := by
  obtain ⟨_, r2, _⟩ := hB.row hg hi
  have := r2 (s.1.length - 1) _ (List.getElem?_eq_getElem (by omega))
  have := (List.getElem?_eq_some_iff.1 this).1
  omega

/-- One layer: the places from i on, n of them, which are those of `now`. -/
theorem RW.layerW (now : List Int) (st1 : List Bool × List (List Int) × List Int) (hnow : st1.2.2 = now) (i0 base : Nat) (hlen : base = i0 + now.length) : ∀ (d a : Nat) (s : PW) (n : Nat) (there : List Bool) (ways : List (List Int)), now.length - a = d → a ≤ now.length → BI any g 0 (i0 + a) s → base ≤ s.1.length → (∀ b, b < now.length → s.1.getD (i0 + b) 0 = now.getD b 0) → g.1.toNat < i0 + a + n → bfs any g n (i0 + a) s = srch any g 0 → RW g s there ways →
    ∃ (s' : PW) (n' : Nat) (there' : List Bool) (ways' : List (List Int)), whileO (linealref07_Way_b2 g st1) (there, ways, s.1.drop base, (a : Int)) = some (there', ways', s'.1.drop base) ∧ BI any g 0 base s' ∧ base ≤ s'.1.length ∧ g.1.toNat < base + n' ∧ bfs any g n' base s' = srch any g 0 ∧ RW g s' there' ways' := by
  intro d
  induction d with
  | zero =>
    intro a s n there ways h1 h2 hB hb hs hn hf hR
    have : a = now.length := by omega
    subst this
    refine ⟨s, n, there, ways, whileO_end ?_, by rw [hlen]; exact hB, hb, by omega, by rw [hlen]; exact hf, hR⟩
    unfold linealref07_Way_b2
    simp only
    rw [hnow, if_neg (by simp)]
  | succ d ih =>
    intro a s n there ways h1 h2 hB hb hs hn hf hR
    have hia : i0 + a < s.1.length := by omega
    have hle := hB.len_le hg
    obtain ⟨r1, r2, r3⟩ := hB.row hg hia
    obtain ⟨t1, w1, e1, q1⟩ := RW.rowW hg hB hia hR base hb st1 (there, ways, s.1.drop base, (a : Int)) (by simp only [Int.toNat_natCast]; rw [hnow, hs a (by omega)])
    have hbl := row_len hg hB hia
    cases n with
    | zero => omega
    | succ n =>
      have hf' : bfs any g n (i0 + (a + 1)) (bRow any g s (i0 + a)) = srch any g 0 := by
        rw [← hf]
        conv => rhs; unfold bfs
        rw [if_pos hia]; rfl
      obtain ⟨s', n', t2, w2, e2, b2, b3, b4, b5, b6⟩ := ih (a + 1) (bRow any g s (i0 + a)) n t1 w1 (by omega) (by omega) (by rw [show i0 + (a + 1) = i0 + a + 1 from rfl]; exact r1) (by omega) (fun b hb2 => by
        rw [← hs b hb2]
        have hlt : i0 + b < s.1.length := by omega
        rw [getD_of (r2 _ _ (List.getElem?_eq_getElem hlt)), getD_of (List.getElem?_eq_getElem hlt)]) (by omega) hf' q1
      refine ⟨s', n', t2, w2, whileO_on (s' := (t1, w1, (bRow any g s (i0 + a)).1.drop base, (a : Int) + 1)) ?_ ?_, b2, b3, b4, b5, b6⟩
      · have hhi := hg.hi
        unfold linealref07_Way_b2
        simp only
        rw [hnow, if_pos (by rw [decide_eq_true_eq]; omega), ck_pos (by omega), ck_pos (by omega), e1, Option.bind_some]
        unfold linealref07_Way_k3
        simp only
        rw [ck_pos (by rw [inK_i64]; omega)]
      · have e : ((a : Int) + 1) = ((a + 1 : Nat) : Int) := by omega
        rw [e]; exact e2

theorem RW.all : ∀ (d i : Nat) (s : PW) (n : Nat) (there : List Bool) (ways : List (List Int)), g.1.toNat + 1 - i = d → BI any g 0 i s → i ≤ s.1.length → g.1.toNat < i + n → bfs any g n i s = srch any g 0 → RW g s there ways →
    ∃ there' ways', whileO (linealref07_Way_b1 g) (there, ways, s.1.drop i) = some (there', ways') ∧ RW g (srch any g 0) there' ways' := by
  intro d
  induction d using Nat.strongRecOn with
  | ind d ih =>
    intro i s n there ways hd hB hi hn hf hR
    have hle := hB.len_le hg
    by_cases h0 : i < s.1.length
    · have hnl : (s.1.drop i).length = s.1.length - i := List.length_drop
      obtain ⟨s', n', t', w', e, b2, b3, b4, b5, b6⟩ := RW.layerW hg (s.1.drop i) (there, ways, s.1.drop i) rfl i s.1.length (by omega) (s.1.drop i).length 0 s n there ways (by omega) (by omega) hB (Nat.le_refl _) (fun b hb => by
        simp [List.getD, List.getElem?_drop]) hn hf hR
      rw [List.drop_length] at e
      obtain ⟨t2, w2, e2, r2⟩ := ih (g.1.toNat + 1 - s.1.length) (by omega) s.1.length s' n' t' w' rfl b2 b3 b4 b5 b6
      refine ⟨t2, w2, whileO_on (s' := (t', w', s'.1.drop s.1.length)) ?_ e2, r2⟩
      unfold linealref07_Way_b1
      simp only
      have e' : whileO (linealref07_Way_b2 g (there, ways, s.1.drop i)) (there, ways, [], 0) = _ := e
      rw [if_pos (by rw [decide_eq_true_eq]; omega), e', Option.bind_some]
      rfl
    · have hs : bfs any g n i s = s := by
        cases n with
        | zero => rfl
        | succ n => unfold bfs; rw [if_neg h0]
      rw [hs] at hf
      subst hf
      refine ⟨there, ways, whileO_end ?_, hR⟩
      unfold linealref07_Way_b1
      simp only
      rw [List.drop_eq_nil_of_le (by omega), if_neg (by simp)]
end

end Go.Proofs.Yteclokkdgmacpaa
