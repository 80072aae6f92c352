/-
 Layer 5, pure: the greatest proof is one; proofs one behind the other.
-/
import Derived.Test.YtifleoceebaooaaS19
import Derived.Test.YtifleoceebaooaaS9
namespace Go.Proofs.Ytifleoceebaooaa

set_option linter.unusedVariables false
set_option linter.unusedSimpArgs false
set_option linter.unusedSectionVars false
set_option maxRecDepth 100000
set_option maxHeartbeats 1000000

def lexN (p q : Nat × Nat) : Prop := p.1 < q.1 ∨ p.1 = q.1 ∧ p.2 < q.2

theorem relK_asc (R : Nat → Nat) (k : Nat) : (relK R k).Pairwise lexN := by
 unfold relK
 rw [List.pairwise_flatMap]
 refine ⟨fun i _ => ?_, ?_⟩
 ·rw [List.pairwise_map]
  unfold bitsL
  refine List.Pairwise.filter _ ?_
  exact List.pairwise_lt_range.imp fun h => .inr ⟨rfl, h⟩
 ·refine List.pairwise_lt_range.imp fun {x y} h p hp q hq => ?_
  obtain ⟨_, _, rfl⟩ := List.mem_map.1 hp
  obtain ⟨_, _, rfl⟩ := List.mem_map.1 hq
  exact .inl h

theorem isRel_of {L : List (Nat × Nat)} {n m : Nat} (hs : L.Pairwise lexN) (hL : ∀ p ∈ L, p.1 < n ∧ p.2 < m) : isRelB n m (L.map pin) = true := by
 unfold isRelB
 rw [allB_iff]
 intro k hk
 rw [List.length_map] at hk
 have hz : L[k]? = some L[k] := List.getElem?_eq_getElem hk
 have hgk : (L.map pin).getD k (0, 0) = (((L[k]).1 : Int), ((L[k]).2 : Int)) := getD_of (by rw [List.getElem?_map, hz]; rfl)
 have hp := hL _ (List.mem_of_getElem? hz)
 rw [hgk, Bool.and_eq_true]
 refine ⟨by simp only [pairB, decide_eq_true_eq]; omega, ?_⟩
 by_cases h0 : k = 0
 ·subst h0; rfl
 ·obtain ⟨j, rfl⟩ : ∃ j, k = j + 1 := ⟨k - 1, by omega⟩
  have hj : j < L.length := by omega
  have hzj : L[j]? = some L[j] := List.getElem?_eq_getElem hj
  have hgj : (L.map pin).getD j (0, 0) = (((L[j]).1 : Int), ((L[j]).2 : Int)) := getD_of (by rw [List.getElem?_map, hzj]; rfl)
  rw [Nat.add_sub_cancel, hgj]
  have := List.pairwise_iff_getElem.1 hs j (j + 1) hj hk (by omega)
  simp only [lexB, Bool.or_eq_true, decide_eq_true_eq]
  rcases this with h | ⟨h1, h2⟩
  ·exact .inr (.inl (by omega))
  ·exact .inr (.inr ⟨by omega, by omega⟩)

theorem relM_relK {R : Nat → Nat} (h64 : ∀ x, R x < 64) (ho : ∀ x, 6 ≤ x → R x = 0) : relM (relK R 6) = R := by
 funext x
 refine Nat.eq_of_testBit_eq fun y => ?_
 rw [Bool.eq_iff_iff, relM_bit, relK_mem]
 constructor
 ·rintro ⟨_, _, h⟩; exact h
 ·intro h
  refine ⟨?_, bit_lt (n := 6) (h64 x) h, h⟩
  rcases Nat.lt_or_ge x 6 with h6 | h6
  ·exact h6
  ·rw [ho x h6] at h; simp at h

/-- A relation that is one between two systems. -/
theorem isRel_sim {c a : Sys} (hc : OkS c) (ha : OkS a) {R : Nat → Nat} (h : ∀ x y, (R x).testBit y = true → x < c.1.toNat ∧ y < a.1.toNat) : isRelB c.1 a.1 ((relK R 6).map pin) = true ∧ ∀ p ∈ relK R 6, p.1 < c.1.toNat ∧ p.2 < a.1.toNat := by
 have h1 : ∀ p ∈ relK R 6, p.1 < c.1.toNat ∧ p.2 < a.1.toNat := fun p hp => h _ _ (relK_mem.1 hp).2.2
 have := isRel_of (relK_asc R 6) h1
 rw [Int.toNat_of_nonneg (by have := hc.lo; omega), Int.toNat_of_nonneg (by have := ha.lo; omega)] at this
 exact ⟨this, h1⟩

/-- A relation that is a proof is said to be one. -/
theorem IsProof_rel {c a : Sys} (kc : okZ c) (ka : okZ a) (hc : validB c = true) (ha : validB a = true) {R : Nat → Nat} (h64 : ∀ x, R x < 64) (ho : ∀ x, 6 ≤ x → R x = 0) (hS : Sim c a R) :
  refine_IsProof c a ((relK R 6).map pin) = some (true, 0) ∧ linealref05_IsProof c a ((relK R 6).map pin) = some (true, 0) := by
 obtain ⟨h1, h2⟩ := isRel_sim (okS_valid hc) (okS_valid ha) (R := R) (fun x y hb => ⟨(hS x y hb).1, (hS x y hb).2.1⟩)
 obtain ⟨b, e1, e2, hb⟩ := IsProof_both kc ka hc ha h2 (relK_few R) h1
 rw [relM_relK h64 ho] at hb
 rw [hb.2 hS] at e1 e2
 exact ⟨e1, e2⟩

/-! ### Which pairs a list has -/

/-! ### The needed pairs are a proof -/

theorem nP_sim {c a : Sys} (hc : OkS c) (ha : OkS a) (hP : ∀ i, sub (nP c a i) (gP c a i)) (hC : Clo c a (gP c a) (nP c a)) : Sim c a (nP c a) := fun x y hb => by
 obtain ⟨h1, h2, h3⟩ := gP_sim ha x y (hP x y hb)
 refine ⟨h1, h2, folB_iff.2 fun z hz hzx => ?_⟩
 obtain ⟨w0, w1, w2, w3⟩ := nxt_in hc ha (gP_sim ha) gP_lt (hP x y hb) hz hzx
 obtain ⟨_, _, g3, _⟩ := lst_tab _ w1 w0
 rw [Nat.testBit_and, Bool.and_eq_true] at g3
 exact ⟨nxt a (gP c a) y z, g3.1, hC x y hb z hz hzx⟩

theorem nP_lt {c a : Sys} (x : Nat) : nP c a x < 64 := setM_lt _

/-! ### Proofs one behind the other -/

theorem quM_idem {s : Sys} (hv : OkS s) {m : Nat} (h : m < 2 ^ s.1.toNat) : quM s (quM s m) = quM s m :=
 sub_anti (quM_least hv (sub_refl _) (quM_cl hv h)) (quM_sub hv _)
theorem coM_qu {s : Sys} (hv : OkS s) {m : Nat} (h : m < 2 ^ s.1.toNat) (l : Int) : coM s (quM s m) l = coM s m l := by
 unfold coM
 rw [quM_idem hv h]

theorem comp_sim {a b c : Sys} (hb : OkS b) (hc : OkS c) {P Q R : Nat → Nat} (hP : Sim a b P) (hQ : Sim b c Q) (hR : ∀ i z, (R i).testBit z = true ↔ ∃ y, (P i).testBit y = true ∧ (Q y).testBit z = true) : Sim a c R := fun i z h => by
 obtain ⟨y, h1, h2⟩ := (hR i z).1 h
 obtain ⟨p1, p2, p3⟩ := hP i y h1
 obtain ⟨q1, q2, q3⟩ := hQ y z h2
 have b6 := n6 hb
 have hz : 2 ^ z < 2 ^ c.1.toNat := Nat.pow_lt_pow_right (by omega) q2
 have hS := quM_lt hc hz
 refine ⟨p1, q2, folB_iff.2 fun st hst hsi => ?_⟩
 obtain ⟨j, j1, j2⟩ := folB_iff.1 p3 st hst hsi
 have hin : sub (2 ^ y) (img Q (quM c (2 ^ z))) := one_sub.2 (img_bit.2 ⟨by omega, z, h2, quM_sub hc _ z (by simp)⟩)
 have := sim_co hb hc hQ hS (quM_cl hc hz) hin st.2.1 j j1
 obtain ⟨_, k, k1, k2⟩ := img_bit.1 this
 rw [coM_qu hc hz] at k2
 exact ⟨k, k2, (hR _ _).2 ⟨j, j2, k1⟩⟩

theorem ref_trans {a b c : Sys} (hb : OkS b) (hc : OkS c) (h : refD a b) (k : refD b c) : refD a c := by
 obtain ⟨P, hP, p0⟩ := h
 obtain ⟨Q, hQ, q0⟩ := k
 have c6 := n6 hc
 have b6 := n6 hb
 refine ⟨fun i => setM fun z => (List.range 6).any fun y => (P i).testBit y && (Q y).testBit z, comp_sim hb hc hP hQ fun i z => ?_, ?_⟩
 ·rw [setM_bit, List.any_eq_true]
  constructor
  ·rintro ⟨_, y, _, h⟩
   rw [Bool.and_eq_true] at h
   exact ⟨y, h⟩
  ·rintro ⟨y, h1, h2⟩
   have := (hP i y h1).2.1
   have := (hQ y z h2).2.1
   exact ⟨by omega, y, List.mem_range.2 (by omega), by rw [h1, h2]; rfl⟩
 ·rw [setM_bit, List.any_eq_true]
  exact ⟨by omega, 0, List.mem_range.2 (by omega), by rw [p0, q0]; rfl⟩

/-- The greatest proofs, one behind the other. -/
theorem chain_eq {a b c : Sys} (ha : OkS a) (hb : OkS b) (hc : OkS c) {P Q : Nat → Nat} (hP : Sim a b P) (hQ : Sim b c Q) (p64 : ∀ x, P x < 64) (q64 : ∀ x, Q x < 64) :
  ∃ R, refine_Composed ((relK P 6).map pin) ((relK Q 6).map pin) = some ((relK R 6).map pin, 0) ∧ (∀ i, R i < 64) ∧ (∀ i, 6 ≤ i → R i = 0) ∧ Sim a c R := by
 have a6 := n6 ha
 have b6 := n6 hb
 have c6 := n6 hc
 obtain ⟨R, e, _, h1, h2, h3⟩ := Composed_eq (relK_six (R := P)) (relK_few P) (relK_six (R := Q)) (relK_few Q) (isRel_of (relK_asc P 6) relK_six) (isRel_of (relK_asc Q 6) relK_six)
 refine ⟨R, e, h1, h2, comp_sim hb hc hP hQ fun i z => ?_⟩
 rw [h3]
 constructor
 ·rintro ⟨y, g1, g2⟩
  exact ⟨y, (relK_mem.1 g1).2.2, (relK_mem.1 g2).2.2⟩
 ·rintro ⟨y, g1, g2⟩
  have := hP i y g1
  have := hQ y z g2
  exact ⟨y, relK_mem.2 ⟨by omega, by omega, g1⟩, relK_mem.2 ⟨by omega, by omega, g2⟩⟩

end Go.Proofs.Ytifleoceebaooaa
