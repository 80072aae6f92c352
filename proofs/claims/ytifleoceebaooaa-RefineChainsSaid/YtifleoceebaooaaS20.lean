/-
  Layer 5, pure: the greatest proof is one; proofs one behind the other.
-/
import Derived.Test.YtifleoceebaooaaS19
import Derived.Test.YtifleoceebaooaaS9
namespace Go.Proofs.Ytifleoceebaooaa

set_option linter.unusedVariables false
set_option linter.unusedSimpArgs false
set_option linter.unusedSectionVars false
set_option maxRecDepth 100000
set_option maxHeartbeats 1000000

def lexN (p q : Nat × Nat) : Prop := p.1 < q.1 ∨ p.1 = q.1 ∧ p.2 < q.2

theorem relK_asc (R : Nat → Nat) (k : Nat) : (relK R k).Pairwise lexN := by
  unfold relK
  rw [List.pairwise_flatMap]
  refine ⟨fun i _ => ?_, ?_⟩
  · rw [List.pairwise_map]
    unfold bitsL
    refine List.Pairwise.filter _ ?_
    exact List.pairwise_lt_range.imp fun h => .inr ⟨rfl, h⟩
  · refine List.pairwise_lt_range.imp fun {x y} h p hp q hq => ?_
    obtain ⟨_, _, rfl⟩ := List.mem_map.1 hp
    obtain ⟨_, _, rfl⟩ := List.mem_map.1 hq
    exact .inl h

theorem isRel_of {L : List (Nat × Nat)} {n m : Nat} (hs : L.Pairwise lexN) (hL : ∀ p ∈ L, p.1 < n ∧ p.2 < m) : isRelB n m (L.map pin) = true := by
  unfold isRelB
  rw [allB_iff]
  intro k hk
  rw [List.length_map] at hk
  have hz : L[k]? = some L[k] := List.getElem?_eq_getElem hk
  have hgk : (L.map pin).getD k (0, 0) = (((L[k]).1 : Int), ((L[k]).2 : Int)) := getD_of (by rw [List.getElem?_map, hz]; rfl)
  have hp := hL _ (List.mem_of_getElem? hz)
  rw [hgk, Bool.and_eq_true]
  refine ⟨by simp only [pairB, decide_eq_true_eq]; omega, ?_⟩
  by_cases h0 : k = 0
  · subst h0; rfl
  · obtain ⟨j, rfl⟩ : ∃ j, k = j + 1 := ⟨k - 1, by omega⟩
    have hj : j < L.length := by omega
    have hzj : L[j]? = some L[j] := List.getElem?_eq_getElem hj
    have hgj : (L.map pin).getD j (0, 0) = (((L[j]).1 : Int), ((L[j]).2 : Int)) := getD_of (by rw [List.getElem?_map, hzj]; rfl)
    rw [Nat.add_sub_cancel, hgj]
    have := List.pairwise_iff_getElem.1 hs j (j + 1) hj hk (by omega)
    simp only [lexB, Bool.or_eq_true, decide_eq_true_eq]
    rcases this with h | ⟨h1, h2⟩
    · exact .inr (.inl (by omega))
    · exact .inr (.inr ⟨by omega, by omega⟩)

theorem relM_relK {R : Nat → Nat} (h64 : ∀ x, R x < 64) (ho : ∀ x, 6 ≤ x → R x = 0) : relM (relK R 6) = R := by
  funext x
  refine Nat.eq_of_testBit_eq fun y => ?_
  rw [Bool.eq_iff_iff, relM_bit, relK_mem]
  constructor
  · rintro ⟨_, _, h⟩; exact h
  · intro h
    refine ⟨?_, bit_lt (n := 6) (h64 x) h, h⟩
    rcases Nat.lt_or_ge x 6 with h6 | h6
    · exact h6
    · rw [ho x h6] at h; simp at h

/-- A relation that is one between two systems. -/
theorem isRel_sim {c a : Sys} (hc : OkS c) (ha : OkS a) {R : Nat → Nat} (h : ∀ x y, (R x).testBit y = true → x < c.1.toNat ∧ y < a.1.toNat) : isRelB c.1 a.1 ((relK R 6).map pin) = true ∧ ∀ p ∈ relK R 6, p.1 < c.1.toNat ∧ p.2 < a.1.toNat := by
  have h1 : ∀ p ∈ relK R 6, p.1 < c.1.toNat ∧ p.2 < a.1.toNat := fun p hp => h _ _ (relK_mem.1 hp).2.2
  have := isRel_of (relK_asc R 6) h1
  rw [Int.toNat_of_nonneg (by have := hc.lo; omega), Int.toNat_of_nonneg (by have := ha.lo; omega)] at this
  exact ⟨this, h1⟩

/-- A relation that is a proof is said to be one. -/
theorem IsProof_rel {c a : Sys} (kc : okZ c) (ka : okZ a) (hc : validB c = true) (ha : validB a = true) {R : Nat → Nat} (h64 : ∀ x, R x < 64) (ho : ∀ x, 6 ≤ x → R x = 0) (hS : Sim c a R) :
    refine_IsProof c a ((relK R 6).map pin) = some (true, 0) ∧ linealref05_IsProof c a ((relK R 6).map pin) = some (true, 0) := by
  obtain ⟨h1, h2⟩ := isRel_sim (okS_valid hc) (okS_valid ha) (R := R) (fun x y hb => ⟨(hS x y hb).1, (hS x y hb).2.1⟩)
  obtain ⟨b, e1, e2, hb⟩ := IsProof_both kc ka hc ha h2 (relK_few R) h1
  rw [relM_relK h64 ho] at hb
  rw [hb.2 hS] at e1 e2
  exact ⟨e1, e2⟩

/-! ### Which pairs a list has -/

/-! ### The needed pairs are a proof -/

/-! ### Proofs one behind the other -/

theorem quM_idem {s : Sys} (hv : OkS s) {m : Nat} (h : m < 2 ^ s.1.toNat) : quM s (quM s m) = quM s m :=
  sub_anti (quM_least hv (sub_refl _) (quM_cl hv h)) (quM_sub hv _)
theorem coM_qu {s : Sys} (hv : OkS s) {m : Nat} (h : m < 2 ^ s.1.toNat) (l : Int) : coM s (quM s m) l = coM s m l := by
  unfold coM
  rw [quM_idem hv h]

theorem comp_sim {a b c : Sys} (hb : OkS b) (hc : OkS c) {P Q R : Nat → Nat} (hP : Sim a b P) (hQ : Sim b c Q) (hR : ∀ i z, (R i).testBit z = true ↔ ∃ y, (P i).testBit y = true ∧ (Q y).testBit z = true) : Sim a c R := fun i z h => by
  obtain ⟨y, h1, h2⟩ := (hR i z).1 h
  obtain ⟨p1, p2, p3⟩ := hP i y h1
  obtain ⟨q1, q2, q3⟩ := hQ y z h2
  have b6 := n6 hb
  have hz : 2 ^ z < 2 ^ c.1.toNat := Nat.pow_lt_pow_right (by omega) q2
  have hS := quM_lt hc hz
  refine ⟨p1, q2, folB_iff.2 fun st hst hsi => ?_⟩
  obtain ⟨j, j1, j2⟩ := folB_iff.1 p3 st hst hsi
  have hin : sub (2 ^ y) (img Q (quM c (2 ^ z))) := one_sub.2 (img_bit.2 ⟨by omega, z, h2, quM_sub hc _ z (by simp)⟩)
  have := sim_co hb hc hQ hS (quM_cl hc hz) hin st.2.1 j j1
  obtain ⟨_, k, k1, k2⟩ := img_bit.1 this
  rw [coM_qu hc hz] at k2
  exact ⟨k, k2, (hR _ _).2 ⟨j, j2, k1⟩⟩

theorem ref_trans {a b c : Sys} (hb : OkS b) (hc : OkS c) (h : refD a b) (k : refD b c) : refD a c := by
  obtain ⟨P, hP, p0⟩ := h
  obtain ⟨Q, hQ, q0⟩ := k
  have c6 := n6 hc
  have b6 := n6 hb
  refine ⟨fun i => setM fun z => (List.range 6).any fun y => (P i).testBit y && (Q y).testBit z, comp_sim hb hc hP hQ fun i z => ?_, ?_⟩
  · rw [setM_bit, List.any_eq_true]
    constructor
    · rintro ⟨_, y, _, h⟩
      rw [Bool.and_eq_true] at h
      exact ⟨y, h⟩
    · rintro ⟨y, h1, h2⟩
      have := (hP i y h1).2.1
      have := (hQ y z h2).2.1
      exact ⟨by omega, y, List.mem_range.2 (by omega), by rw [h1, h2]; rfl⟩
  · rw [setM_bit, List.any_eq_true]
    exact ⟨by omega, 0, List.mem_range.2 (by omega), by rw [p0, q0]; rfl⟩

theorem valid3_eq {a b c : Sys} (ka : okZ a) (kb : okZ b) (kc : okZ c) : lineallaw05_valid [a, b, c] = some (validB a && (validB b && validB c)) := by
  have hlong : ∀ s : Sys, lineallaw05_Long s = some () := fun s => rfl
  have step : ∀ (l : List Sys) (k : Nat) (s : Sys), l[k]? = some s → okZ s → l.length ≤ 3 → lineallaw05_valid_b1 l (k : Int) = some (if validB s = true then .next ((k : Int) + 1) else .done (.inl ())) := by
    intro l k s hk ks hl
    have hlt := (List.getElem?_eq_some_iff.1 hk).1
    have ki : InK .i64 ((k : Int) + 1) := by rw [inK_i64]; omega
    unfold lineallaw05_valid_b1
    simp only [Int.toNat_natCast, getD_of hk]
    rw [if_pos (by rw [decide_eq_true_eq]; omega), ck_pos (by omega), ck_pos (by omega), hlong, Option.bind_some, refValid_eq s ks, Option.bind_some, ck_pos ki]
    by_cases h : 100 < (s.2.length : Int)
    · have hf : validB s = false := by
        cases hvs : validB s with
        | false => rfl
        | true => have := (okS_valid hvs).len; omega
      rw [if_pos (by simpa using h), hf]; rfl
    · rw [if_neg (by simpa using h)]
      cases validB s <;> rfl
  have s0 := step [a, b, c] 0 a rfl ka (by simp)
  have s1 := step [a, b, c] 1 b rfl kb (by simp)
  have s2 := step [a, b, c] 2 c rfl kc (by simp)
  have s3 : lineallaw05_valid_b1 [a, b, c] 3 = some (.done (.inr ())) := by
    unfold lineallaw05_valid_b1
    rw [if_neg (by simp)]
  have e0 : lineallaw05_valid_b1 [a, b, c] 0 = some (if validB a = true then .next 1 else .done (.inl ())) := s0
  have e1 : lineallaw05_valid_b1 [a, b, c] 1 = some (if validB b = true then .next 2 else .done (.inl ())) := s1
  have e2 : lineallaw05_valid_b1 [a, b, c] 2 = some (if validB c = true then .next 3 else .done (.inl ())) := s2
  unfold lineallaw05_valid
  cases va : validB a with
  | false =>
    rw [va, if_neg (by simp)] at e0
    rw [whileO_fin e0]; rfl
  | true =>
    rw [va, if_pos rfl] at e0
    cases vb : validB b with
    | false =>
      rw [vb, if_neg (by simp)] at e1
      rw [whileO_next e0 (whileO_fin e1)]; rfl
    | true =>
      rw [vb, if_pos rfl] at e1
      cases vc : validB c with
      | false =>
        rw [vc, if_neg (by simp)] at e2
        rw [whileO_next e0 (whileO_next e1 (whileO_fin e2))]; rfl
      | true =>
        rw [vc, if_pos rfl] at e2
        rw [whileO_next e0 (whileO_next e1 (whileO_next e2 (whileO_fin s3)))]; rfl

/-- The greatest proofs, one behind the other. -/
theorem chain_eq {a b c : Sys} (ha : OkS a) (hb : OkS b) (hc : OkS c) {P Q : Nat → Nat} (hP : Sim a b P) (hQ : Sim b c Q) (p64 : ∀ x, P x < 64) (q64 : ∀ x, Q x < 64) :
    ∃ R, refine_Composed ((relK P 6).map pin) ((relK Q 6).map pin) = some ((relK R 6).map pin, 0) ∧ (∀ i, R i < 64) ∧ (∀ i, 6 ≤ i → R i = 0) ∧ Sim a c R := by
  have a6 := n6 ha
  have b6 := n6 hb
  have c6 := n6 hc
  obtain ⟨R, e, _, h1, h2, h3⟩ := Composed_eq (relK_six (R := P)) (relK_few P) (relK_six (R := Q)) (relK_few Q) (isRel_of (relK_asc P 6) relK_six) (isRel_of (relK_asc Q 6) relK_six)
  refine ⟨R, e, h1, h2, comp_sim hb hc hP hQ fun i z => ?_⟩
  rw [h3]
  constructor
  · rintro ⟨y, g1, g2⟩
    exact ⟨y, (relK_mem.1 g1).2.2, (relK_mem.1 g2).2.2⟩
  · rintro ⟨y, g1, g2⟩
    have := hP i y g1
    have := hQ y z g2
    exact ⟨y, relK_mem.2 ⟨by omega, by omega, g1⟩, relK_mem.2 ⟨by omega, by omega, g2⟩⟩

/-- The law. -/
theorem RefineChains_eq (a : Sys) (ha : okEl (.pair (.int .i64) (.sl (.pair (.int .i64) (.pair (.int .i64) (.int .i64))))) a) (b : Sys) (hb : okEl (.pair (.int .i64) (.sl (.pair (.int .i64) (.pair (.int .i64) (.int .i64))))) b) (c : Sys) (hc : okEl (.pair (.int .i64) (.sl (.pair (.int .i64) (.pair (.int .i64) (.int .i64))))) c) : lineallaw05_RefineChains a b c = some true := by
  have ka := okZ_of ha
  have kb := okZ_of hb
  have kc := okZ_of hc
  unfold lineallaw05_RefineChains
  rw [valid3_eq ka kb kc, Option.bind_some, lineallaw05_Awake_run]
  cases hv : (validB a && (validB b && validB c)) with
  | false => rfl
  | true =>
  rw [if_neg (by simp)]
  rw [Bool.and_eq_true, Bool.and_eq_true] at hv
  obtain ⟨va, vb, vc⟩ := hv
  have oa := okS_valid va
  have ob := okS_valid vb
  have oc := okS_valid vc
  obtain ⟨R, e, h1, h2, hS⟩ := chain_eq oa ob oc (gP_sim ob) (gP_sim oc) gP_lt gP_lt
  have e2 := (IsProof_rel ka kc va vc h1 h2 hS).1
  rw [Best_yes ka kb va vb, Best_yes kb kc vb vc]
  simp only [Option.bind_some]
  rw [e]
  simp only [Option.bind_some]
  rw [e2, Refines_is ka kb va vb, Refines_is kb kc vb vc, Refines_is ka kc va vc]
  simp only [Option.bind_some]
  cases h3 : (gP a b 0).testBit 0 with
  | false => simp
  | true =>
    cases h4 : (gP b c 0).testBit 0 with
    | false => simp
    | true =>
      have := (refD_gP oc).1 (ref_trans ob oc ((refD_gP ob).2 h3) ((refD_gP oc).2 h4))
      simp [this]

end Go.Proofs.Ytifleoceebaooaa
