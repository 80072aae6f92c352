/-
  Layer 5, pure: the greatest proof is one; proofs one behind the other.
-/
import Derived.Test.YtifleoceebaooaaS19
import Derived.Test.YtifleoceebaooaaS9
namespace Go.Proofs.Ytifleoceebaooaa

set_option linter.unusedVariables false
set_option linter.unusedSimpArgs false
set_option linter.unusedSectionVars false
set_option maxRecDepth 100000
set_option maxHeartbeats 1000000

def lexN (p q : Nat × Nat) : Prop := p.1 < q.1 ∨ p.1 = q.1 ∧ p.2 < q.2

theorem relK_asc (R : Nat → Nat) (k : Nat) : (relK R k).Pairwise lexN := by
  unfold relK
  rw [List.pairwise_flatMap]
  refine ⟨fun i _ => ?_, ?_⟩
  · rw [List.pairwise_map]
    unfold bitsL
    refine List.Pairwise.filter _ ?_
    exact List.pairwise_lt_range.imp fun h => .inr ⟨rfl, h⟩
  · refine List.pairwise_lt_range.imp fun {x y} h p hp q hq => ?_
    obtain ⟨_, _, rfl⟩ := List.mem_map.1 hp
    obtain ⟨_, _, rfl⟩ := List.mem_map.1 hq
    exact .inl h

theorem isRel_of {L : List (Nat × Nat)} {n m : Nat} (hs : L.Pairwise lexN) (hL : ∀ p ∈ L, p.1 < n ∧ p.2 < m) : isRelB n m (L.map pin) = true := by
  unfold isRelB
  rw [allB_iff]
  intro k hk
  rw [List.length_map] at hk
  have hz : L[k]? = some L[k] := List.getElem?_eq_getElem hk
  have hgk : (L.map pin).getD k (0, 0) = (((L[k]).1 : Int), ((L[k]).2 : Int)) := getD_of (by rw [List.getElem?_map, hz]; rfl)
  have hp := hL _ (List.mem_of_getElem? hz)
  rw [hgk, Bool.and_eq_true]
  refine ⟨by simp only [pairB, decide_eq_true_eq]; omega, ?_⟩
  by_cases h0 : k = 0
  · subst h0; rfl
  · obtain ⟨j, rfl⟩ : ∃ j, k = j + 1 := ⟨k - 1, by omega⟩
    have hj : j < L.length := by omega
    have hzj : L[j]? = some L[j] := List.getElem?_eq_getElem hj
    have hgj : (L.map pin).getD j (0, 0) = (((L[j]).1 : Int), ((L[j]).2 : Int)) := getD_of (by rw [List.getElem?_map, hzj]; rfl)
    rw [Nat.add_sub_cancel, hgj]
    have := List.pairwise_iff_getElem.1 hs j (j + 1) hj hk (by omega)
    simp only [lexB, Bool.or_eq_true, decide_eq_true_eq]
    rcases this with h | ⟨h1, h2⟩
    · exact .inr (.inl (by omega))
    · exact .inr (.inr ⟨by omega, by omega⟩)

theorem relM_relK {R : Nat → Nat} (h64 : ∀ x, R x < 64) (ho : ∀ x, 6 ≤ x → R x = 0) : relM (relK R 6) = R := by
  funext x
  refine Nat.eq_of_testBit_eq fun y => ?_
  rw [Bool.eq_iff_iff, relM_bit, relK_mem]
  constructor
  · rintro ⟨_, _, h⟩; exact h
  · intro h
    refine ⟨?_, bit_lt (n := 6) (h64 x) h, h⟩
    rcases Nat.lt_or_ge x 6 with h6 | h6
    · exact h6
    · rw [ho x h6] at h; simp at h

/-- A relation that is one between two systems. -/
theorem isRel_sim {c a : Sys} (hc : OkS c) (ha : OkS a) {R : Nat → Nat} (h : ∀ x y, (R x).testBit y = true → x < c.1.toNat ∧ y < a.1.toNat) : isRelB c.1 a.1 ((relK R 6).map pin) = true ∧ ∀ p ∈ relK R 6, p.1 < c.1.toNat ∧ p.2 < a.1.toNat := by
  have h1 : ∀ p ∈ relK R 6, p.1 < c.1.toNat ∧ p.2 < a.1.toNat := fun p hp => h _ _ (relK_mem.1 hp).2.2
  have := isRel_of (relK_asc R 6) h1
  rw [Int.toNat_of_nonneg (by have := hc.lo; omega), Int.toNat_of_nonneg (by have := ha.lo; omega)] at this
  exact ⟨this, h1⟩

theorem few_map {α β : Type} {l : List α} {f : α → β} (h : few l) : few (l.map f) := by unfold few at h ⊢; rwa [List.length_map]

/-- A relation that is a proof is said to be one. -/
theorem IsProof_rel {c a : Sys} (kc : okZ c) (ka : okZ a) (hc : validB c = true) (ha : validB a = true) {R : Nat → Nat} (h64 : ∀ x, R x < 64) (ho : ∀ x, 6 ≤ x → R x = 0) (hS : Sim c a R) :
    refine_IsProof c a ((relK R 6).map pin) = some (true, 0) ∧ linealref05_IsProof c a ((relK R 6).map pin) = some (true, 0) := by
  obtain ⟨h1, h2⟩ := isRel_sim (okS_valid hc) (okS_valid ha) (R := R) (fun x y hb => ⟨(hS x y hb).1, (hS x y hb).2.1⟩)
  obtain ⟨b, e1, e2, hb⟩ := IsProof_both kc ka hc ha h2 (relK_few R) h1
  rw [relM_relK h64 ho] at hb
  rw [hb.2 hS] at e1 e2
  exact ⟨e1, e2⟩

/-! ### Which pairs a list has -/

theorem hasB_eq (r s : List (Int × Int)) (fr : few r) (fs : few s) (kr : ∀ p ∈ r, InK .i64 p.1 ∧ InK .i64 p.2) (ks : ∀ p ∈ s, InK .i64 p.1 ∧ InK .i64 p.2) : lineallaw05_has r s = some (s.all fun p => decide (p ∈ r)) := by
  unfold lineallaw05_has
  have hin : ∀ k, k < s.length → whileO (lineallaw05_has_b2 r s (k : Int)) (false, 0) = some (decide (s.getD k (0, 0) ∈ r)) := by
    intro k hk
    have hz : s[k]? = some (s.getD k (0, 0)) := by rw [List.getD_eq_getElem?_getD, List.getElem?_eq_getElem hk]; rfl
    obtain ⟨x, hx⟩ : ∃ x, s.getD k (0, 0) = x := ⟨_, rfl⟩
    rw [hx] at hz
    simp only [hx]
    have kz := ks _ (List.mem_of_getElem? hz)
    obtain ⟨q, e, hq⟩ := scan2 (R := Bool) r (fun j (b : Bool) => b = decide (x ∈ r.take j)) (fun b => b = decide (x ∈ r)) (body := lineallaw05_has_b2 r s (k : Int)) (s0 := false) (by simp)
      (fun j p b hj hI => by
        have hlt := (List.getElem?_eq_some_iff.1 hj).1
        obtain ⟨_, ki⟩ := few_in fr hj
        have kp := kr _ (List.mem_of_getElem? hj)
        refine .inl ⟨decide (x ∈ r.take (j + 1)), ?_, rfl⟩
        unfold lineallaw05_has_b2
        simp only [Int.toNat_natCast, getD_of hj, hx]
        rw [if_pos (by rw [decide_eq_true_eq]; omega), ck_pos (by omega), ck_pos (by omega)]
        subst hI
        by_cases hm : x ∈ r.take j
        · rw [if_pos (by rw [decide_eq_true_eq]; exact hm), ck_pos ki, take_one hj, decide_eq_true (List.mem_append_left _ hm)]
        · rw [if_neg (by rw [decide_eq_true_eq]; exact hm), ck_pos kz.1, ck_pos kz.2, ck_pos kp.1, ck_pos kp.2, ck_pos ki, take_one hj]
          congr 4
          rw [List.mem_append, List.mem_singleton]
          simp [hm])
      (fun b hI => by
        rw [List.take_length] at hI
        refine ⟨b, ?_, hI⟩
        unfold lineallaw05_has_b2
        rw [if_neg (by simp)])
    rw [e, hq]
  have hL := loopB (body := lineallaw05_has_b1 r s) s.length (fun k => decide (s.getD k (0, 0) ∈ r)) (fun k hk => by
    have hz : s[k]? = some (s.getD k (0, 0)) := by rw [List.getD_eq_getElem?_getD, List.getElem?_eq_getElem hk]; rfl
    obtain ⟨_, ki⟩ := few_in fs hz
    unfold lineallaw05_has_b1
    rw [if_pos (by rw [decide_eq_true_eq]; omega), ck_pos (by omega), ck_pos (by omega), hin k hk, Option.bind_some]
    unfold lineallaw05_has_k3 lineallaw05_has_k2
    rw [ck_pos ki]
    cases decide (s.getD k (0, 0) ∈ r) <;> rfl) (by
    unfold lineallaw05_has_b1
    rw [if_neg (by simp)])
  rw [hL, Option.bind_some]
  have : (allB s.length fun k => decide (s.getD k (0, 0) ∈ r)) = s.all fun p => decide (p ∈ r) := by
    rw [Bool.eq_iff_iff, allB_iff, List.all_eq_true]
    constructor
    · intro h p hp
      obtain ⟨k, hk⟩ := List.getElem?_of_mem hp
      have := h k (List.getElem?_eq_some_iff.1 hk).1
      rwa [getD_of hk] at this
    · intro h k hk
      have hz : s[k]? = some (s.getD k (0, 0)) := by rw [List.getD_eq_getElem?_getD, List.getElem?_eq_getElem hk]; rfl
      exact h _ (List.mem_of_getElem? hz)
  rw [this]
  cases s.all fun p => decide (p ∈ r) <;> rfl

theorem pin_inK {L : List (Nat × Nat)} (h : ∀ p ∈ L, p.1 < 6 ∧ p.2 < 6) : ∀ p ∈ L.map pin, InK .i64 p.1 ∧ InK .i64 p.2 := fun p hp => by
  obtain ⟨q, hq, rfl⟩ := List.mem_map.1 hp
  have := h q hq
  unfold pin
  simp only
  rw [inK_i64, inK_i64]; omega

theorem pin_inj {p q : Nat × Nat} (h : pin p = pin q) : p = q := by
  unfold pin at h
  have h1 := congrArg Prod.fst h
  have h2 := congrArg Prod.snd h
  simp only at h1 h2
  exact Prod.ext (by omega) (by omega)

theorem mem_pin {L : List (Nat × Nat)} {p : Nat × Nat} : pin p ∈ L.map pin ↔ p ∈ L := by
  rw [List.mem_map]
  constructor
  · rintro ⟨q, hq, e⟩; rw [← pin_inj e]; exact hq
  · intro h; exact ⟨p, h, rfl⟩

theorem has_pin {L M : List (Nat × Nat)} (fL : few L) (fM : few M) (hL : ∀ p ∈ L, p.1 < 6 ∧ p.2 < 6) (hM : ∀ p ∈ M, p.1 < 6 ∧ p.2 < 6) : lineallaw05_has (L.map pin) (M.map pin) = some (M.all fun p => decide (p ∈ L)) := by
  rw [hasB_eq _ _ (few_map fL) (few_map fM) (pin_inK hL) (pin_inK hM)]
  congr 1
  rw [Bool.eq_iff_iff, List.all_eq_true, List.all_eq_true]
  constructor
  · intro h p hp
    have := h (pin p) (List.mem_map_of_mem hp)
    rw [decide_eq_true_eq] at this ⊢
    exact mem_pin.1 this
  · intro h p hp
    obtain ⟨q, hq, rfl⟩ := List.mem_map.1 hp
    have := h q hq
    rw [decide_eq_true_eq] at this ⊢
    exact mem_pin.2 this

theorem has_zero {L : List (Nat × Nat)} (fL : few L) (hL : ∀ p ∈ L, p.1 < 6 ∧ p.2 < 6) : lineallaw05_has (L.map pin) [(0, 0)] = some (decide (((0, 0) : Nat × Nat) ∈ L)) := by
  have := has_pin (M := [(0, 0)]) fL (few_of (n := 1) (by decide)) hL (fun p hp => by rw [List.mem_singleton] at hp; subst hp; decide)
  rw [show ([(0, 0)] : List (Int × Int)) = [((0, 0) : Nat × Nat)].map pin from rfl, this]
  simp

/-! ### The needed pairs are a proof -/

theorem nP_sim {c a : Sys} (hc : OkS c) (ha : OkS a) (hP : ∀ i, sub (nP c a i) (gP c a i)) (hC : Clo c a (gP c a) (nP c a)) : Sim c a (nP c a) := fun x y hb => by
  obtain ⟨h1, h2, h3⟩ := gP_sim ha x y (hP x y hb)
  refine ⟨h1, h2, folB_iff.2 fun z hz hzx => ?_⟩
  obtain ⟨w0, w1, w2, w3⟩ := nxt_in hc ha (gP_sim ha) gP_lt (hP x y hb) hz hzx
  obtain ⟨_, _, g3, _⟩ := lst_tab _ w1 w0
  rw [Nat.testBit_and, Bool.and_eq_true] at g3
  exact ⟨nxt a (gP c a) y z, g3.1, hC x y hb z hz hzx⟩

theorem nP_lt {c a : Sys} (x : Nat) : nP c a x < 64 := setM_lt _

theorem gP_out6 {c a : Sys} (hc : OkS c) (x : Nat) (h : 6 ≤ x) : gP c a x = 0 := gP_out (by have := n6 hc; omega)

theorem ref_self {a : Sys} (ha : OkS a) : refD a a := less_ref ha rfl fun _ h => h

/-- The law. -/
theorem RefineBest_eq (c : Sys) (hc : okEl (.pair (.int .i64) (.sl (.pair (.int .i64) (.pair (.int .i64) (.int .i64))))) c) (a : Sys) (ha : okEl (.pair (.int .i64) (.sl (.pair (.int .i64) (.pair (.int .i64) (.int .i64))))) a) (r0 : List (Int × Int)) (hr : okEl (.sl (.pair (.int .i64) (.int .i64))) r0) : lineallaw05_RefineBest c a r0 = some true := by
  have kc := okZ_of hc
  have ka := okZ_of ha
  unfold lineallaw05_RefineBest
  rw [valid2_eq kc ka, Option.bind_some, lineallaw05_Awake_run]
  cases hv : (validB c && validB a) with
  | false => rfl
  | true =>
  rw [if_neg (by simp)]
  by_cases h3 : 100 < (r0.length : Int)
  · rw [if_pos (by simpa using h3)] <;> rfl
  rw [if_neg (by simpa using h3)]
  have fr : few r0 := few_of (n := 100) (by omega)
  rw [Bool.and_eq_true] at hv
  obtain ⟨vc, va⟩ := hv
  have oc := okS_valid vc
  have oa := okS_valid va
  have hcl := oc.lo
  have hal := oa.lo
  have e1 := (IsProof_rel kc ka vc va gP_lt (gP_out6 oc) (gP_sim oa)).1
  have hself : (gP a a 0).testBit 0 = true := (refD_gP oa).1 (ref_self oa)
  have hz : lineallaw05_has ((relK (gP c a) 6).map pin) [(0, 0)] = some ((gP c a 0).testBit 0) := by
    rw [has_zero (relK_few _) relK_six]
    congr 1
    rw [Bool.eq_iff_iff, decide_eq_true_eq, relK_mem]
    constructor
    · rintro ⟨_, _, h⟩; exact h
    · intro h; exact ⟨by omega, by omega, h⟩
  -- the given relation
  have hgiven : ∃ b k, refine_IsProof c a r0 = some (b, k) ∧ (b = true → k = 0 ∧ lineallaw05_has ((relK (gP c a) 6).map pin) r0 = some true ∧ ∃ b0, lineallaw05_has r0 [(0, 0)] = some b0 ∧ (b0 = true → refD c a)) := by
    cases ir : isRelB c.1 a.1 r0 with
    | false => exact ⟨false, 2, (IsProof_noRel kc ka vc va fr ir).1, fun h => by cases h⟩
    | true =>
      have ir' := ir
      rw [show c.1 = (c.1.toNat : Int) from (Int.toNat_of_nonneg (by omega)).symm, show a.1 = (a.1.toNat : Int) from (Int.toNat_of_nonneg (by omega)).symm] at ir'
      obtain ⟨L, rfl, hL⟩ := isRel_pin ir'
      have fL : few L := by unfold few at fr ⊢; rwa [List.length_map] at fr
      have c6 := n6 oc
      have a6 := n6 oa
      have hL6 : ∀ p ∈ L, p.1 < 6 ∧ p.2 < 6 := fun p hp => by have := hL p hp; omega
      obtain ⟨b, h4, _, hb⟩ := IsProof_both kc ka vc va hL fL ir
      refine ⟨b, 0, h4, fun hbt => ⟨rfl, ?_, ?_⟩⟩
      · have hS := hb.1 hbt
        rw [has_pin (relK_few _) fL relK_six hL6]
        congr 1
        rw [List.all_eq_true]
        intro p hp
        rw [decide_eq_true_eq, relK_mem]
        exact ⟨(hL6 p hp).1, (hL6 p hp).2, gP_top oa hS p.1 p.2 (relM_bit.2 hp)⟩
      · refine ⟨_, has_zero fL hL6, fun h => ?_⟩
        rw [decide_eq_true_eq] at h
        exact ⟨_, hb.1 hbt, relM_bit.2 h⟩
  obtain ⟨b, k, g1, g2⟩ := hgiven
  have hk2 : ∀ (v6 : Bool × Int) (v7 : List (Int × Int) × Int), v6 = ((gP c a 0).testBit 0, 0) → refine_Proof c a = some v7 → lineallaw05_RefineBest_k2 c a ((relK (gP c a) 6).map pin, 0) v6 v7 = some true := by
    rintro _ v7 rfl h7
    unfold lineallaw05_RefineBest_k2
    rw [lineallaw05_Awake_run]
    by_cases hd : refD c a
    · have hb := (refD_gP oa).1 hd
      obtain ⟨Tc, Ta, _, _, hTa⟩ := twoOf_yes kc ka vc va
      obtain ⟨_, _, _, n1, n2, n3⟩ := proof_yes (Tc := Tc) oc oa hTa hd
      have hout : ∀ x, 6 ≤ x → nP c a x = 0 := fun x hx => by
        refine sub_anti (sub_trans (n1 x) ?_) (zero_sub _)
        rw [gP_out6 oc x hx]; exact sub_refl _
      rw [Proof_yes kc ka vc va hd] at h7
      have := Option.some.inj h7
      subst this
      have hn0 : decide (((0, 0) : Nat × Nat) ∈ relK (nP c a) 6) = true := by
        rw [decide_eq_true_eq, relK_mem]; exact ⟨by omega, by omega, n3⟩
      have hnn : ((relK (nP c a) 6).all fun p => decide (p ∈ relK (gP c a) 6)) = true := by
        rw [List.all_eq_true]
        intro p hp
        obtain ⟨q1, q2, q3⟩ := relK_mem.1 hp
        rw [decide_eq_true_eq, relK_mem]
        exact ⟨q1, q2, n1 _ _ q3⟩
      simp only [hb, Bool.not_true, Bool.false_eq_true, if_false]
      rw [(IsProof_rel kc ka vc va nP_lt hout (nP_sim oc oa n1 n2)).1, has_pin (relK_few _) (relK_few _) relK_six relK_six, hnn, has_zero (relK_few _) relK_six, hn0]
      simp
    · have hb : (gP c a 0).testBit 0 = false := by
        cases h : (gP c a 0).testBit 0 with
        | false => rfl
        | true => exact (hd ((refD_gP oa).2 h)).elim
      rw [Proof_none kc ka vc va hd] at h7
      have := Option.some.inj h7
      subst this
      simp [hb]
  have hk1 : ∀ (v6 : Bool × Int) (v7 : List (Int × Int) × Int), v6 = ((gP c a 0).testBit 0, 0) → refine_Proof c a = some v7 → lineallaw05_RefineBest_k1 c a r0 ((relK (gP c a) 6).map pin, 0) v6 v7 = some true := by
    rintro v6 v7 h6 h7
    have hh := hk2 v6 v7 h6 h7
    unfold lineallaw05_RefineBest_k1
    rw [g1, Option.bind_some]
    cases hbb : b with
    | false => rw [if_neg (by simp)]; exact hh
    | true =>
      obtain ⟨rfl, g3, b0, g4, g5⟩ := g2 hbb
      rw [if_pos rfl, if_neg (by simp)]
      simp only
      rw [g3, Option.bind_some, if_neg (by simp), g4, hh]
      simp only [Option.bind_some]
      cases h0 : v6.1 with
      | true => simp
      | false =>
        have : b0 = false := by
          cases hb0 : b0 with
          | false => rfl
          | true =>
            rw [h6] at h0
            simp only at h0
            rw [(refD_gP oa).1 (g5 hb0)] at h0; cases h0
        simp [this]
  rw [Best_yes kc ka vc va, Refines_is kc ka vc va, Refines_is ka ka va va]
  simp only [Option.bind_some]
  rw [e1]
  simp only [Option.bind_some]
  rw [hz, hself]
  by_cases hd : refD c a
  · have h7 := Proof_yes kc ka vc va hd
    have hh := hk1 _ _ rfl h7
    have hb := (refD_gP oa).1 hd
    rw [h7]
    rw [hb] at hh
    simp only [Option.bind_some, hb]
    rw [hh]
    simp
  · have h7 := Proof_none kc ka vc va hd
    have hh := hk1 _ _ rfl h7
    have hb : (gP c a 0).testBit 0 = false := by
      cases h : (gP c a 0).testBit 0 with
      | false => rfl
      | true => exact (hd ((refD_gP oa).2 h)).elim
    rw [h7]
    rw [hb] at hh
    simp only [Option.bind_some, hb]
    rw [hh]
    simp

/-! ### Proofs one behind the other -/

end Go.Proofs.Ytifleoceebaooaa
