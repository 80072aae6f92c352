/-
 Layer 5, pure: the program's frame of a system: where each state comes by each label.
-/
import Derived.Test.YtifleoceebaooaaRfp
import Derived.Test.YtifleoceebaooaaS2
namespace Go.Proofs.Ytifleoceebaooaa
open Go.RowKit

set_option linter.unusedVariables false
set_option linter.unusedSectionVars false
set_option linter.unusedSimpArgs false

theorem intAt_setInt {k : IntKind} : ∀ {t : Ty} (x : El t) {j q : Nat} (v : Int), allInt k t = true → j < t.size → q < t.size → intAt t (setInt t x j v) q = if q = j then v else intAt t x q
 | .int p, x, j, q, v, _, hj, hq => by
  simp only [Ty.size] at hj hq
  have e : q = j := by omega
  simp [intAt, setInt, e]
 | .bool, x, j, q, v, h, _, _ => by simp [allInt] at h
 | .unit, x, j, q, v, _, hj, _ => by simp [Ty.size] at hj
 | .sl t, x, j, q, v, h, _, _ => by simp [allInt] at h
 | .pair a b, x, j, q, v, h, hj, hq => by
  simp only [allInt, Bool.and_eq_true] at h
  simp only [Ty.size] at hj hq
  by_cases h1 : j < a.size
  ·by_cases h2 : q < a.size
   ·have := intAt_setInt (k := k) x.1 v h.1 h1 h2
    simp only [intAt, setInt, h1, h2, if_true, this]
   ·have hne : ¬ q = j := by omega
    simp only [intAt, setInt, h1, h2, if_true, if_false, hne]
  ·by_cases h2 : q < a.size
   ·have hne : ¬ q = j := by omega
    simp only [intAt, setInt, h1, h2, if_true, if_false, hne]
   ·have := intAt_setInt (k := k) x.2 (j := j - a.size) (q := q - a.size) v h.2 (by omega) (by omega)
    simp only [intAt, setInt, h1, h2, if_false, this]
    by_cases h3 : q = j
    ·rw [if_pos (by omega), if_pos h3]
    ·rw [if_neg (by omega), if_neg h3]

theorem at_set (T : El T69) {j q : Nat} (v : Int) (hj : j < 24) (hq : q < 24) : intAt T69 (setInt T69 T j v) q = if q = j then v else intAt T69 T q :=
 intAt_setInt (k := .u8) T v rfl hj hq

theorem has_eq (a s : Int) (h : 0 ≤ s) : refine_set_has a s = some () := by unfold refine_set_has; rw [ck_pos h]

theorem bit_u8 {a : Nat} (ha : a < 64) {i : Int} (h0 : 0 ≤ i) (h6 : i < 6) : decide (iand .u8 (ishr .u8 (a : Int) i) 1 = 1) = a.testBit i.toNat := by
 obtain ⟨i, rfl⟩ := Int.eq_ofNat_of_zero_le h0
 rw [Int.toNat_natCast]
 exact bits_u8 a ha i (by omega)

theorem isSeen_eq (l : Int) : refine_isSeen l = some (decide (0 < l ∧ l ≤ 3)) := by
 unfold refine_isSeen
 by_cases h : 0 < l
 ·rw [if_pos (by simpa using h)]; simp [h]
 ·rw [if_neg (by simpa using h)]; simp [h]

/-- What the walk by hidden steps makes of what it has found. -/
structure Led (s : Sys) (a i r : Nat) : Prop where
 lt : r < 2 ^ s.1.toNat
 su : sub a r
 me : r.testBit i = true
 cl : ∀ x, r.testBit x = true → a.testBit x = false → ∀ z ∈ s.2, z.1.toNat = x → z.2.1 = 0 → r.testBit z.2.2.toNat = true
 le : ∀ q, cl0 s q → sub a q → q.testBit i = true → sub r q

section
variable {s : Sys} (hv : OkS s)
include hv

theorem led_go (T : El T69) : ∀ (n a i : Nat), 7 ≤ cnt a + n → a < 2 ^ s.1.toNat → i < s.1.toNat → ∃ r : Nat, refine_frame_led_1 n (i : Int) (a : Int) (s, T) = some (r : Int) ∧ Led s a i r := by
 intro n
 induction n with
 | zero => intro a i h1; have := cnt_le a; omega
 | succ n ih =>
  intro a i h1 ha hi
  have h6 := n6 hv
  have h64 := lt64 hv ha
  show ∃ r : Nat, refine_frame_led_1F (refine_frame_led_1 n) (i : Int) (a : Int) (s, T) = some (r : Int) ∧ Led s a i r
  unfold refine_frame_led_1F
  rw [has_eq _ _ (by omega), Option.bind_some, bit_u8 h64 (by omega) (by omega), Int.toNat_natCast]
  by_cases hb : a.testBit i = true
  ·rw [if_pos hb]
   exact ⟨a, rfl, ha, sub_refl a, hb, fun x h2 h3 => (by rw [h2] at h3; cases h3), fun q _ h _ => h⟩
  ·have hbf : a.testBit i = false := by simpa using hb
   rw [if_neg hb, ck_pos (by omega), shl_u8 i (by omega), or_u8 a h64 (2 ^ i) (lt64 hv (Nat.pow_lt_pow_right (by omega) hi))]
   have h2i : 2 ^ i < 2 ^ s.1.toNat := Nat.pow_lt_pow_right (by omega) hi
   have ha' : a ||| 2 ^ i < 2 ^ s.1.toNat := or_lt ha h2i
   have hci : (a ||| 2 ^ i).testBit i = true := by rw [Nat.testBit_or, Nat.testBit_two_pow]; simp
   have hcnt : cnt a < cnt (a ||| 2 ^ i) := cnt_lt (sub_or_l _ _) (lt64 hv ha') fun e => by rw [← e] at hci; exact hb hci
   generalize hA : a ||| 2 ^ i = A at *
   have hsA : sub a A := by rw [← hA]; exact sub_or_l _ _
   have hAor : ∀ x, A.testBit x = true → a.testBit x = false → x = i := fun x h2 h3 => by
    rw [← hA, Nat.testBit_or, h3, Bool.false_or, Nat.testBit_two_pow, decide_eq_true_eq] at h2
    exact h2.symm
   obtain ⟨r, e1, R, hR, g1, g2, g3, g4, g5⟩ := scan2 (R := Int) s.2 (fun k (cur : Int) => ∃ c : Nat, cur = (c : Int) ∧ c < 2 ^ s.1.toNat ∧ sub A c ∧ (∀ x, c.testBit x = true → A.testBit x = false → ∀ z ∈ s.2, z.1.toNat = x → z.2.1 = 0 → c.testBit z.2.2.toNat = true) ∧
     (∀ q, cl0 s q → sub a q → q.testBit i = true → sub c q) ∧ ∀ j z, j < k → s.2[j]? = some z → z.1.toNat = i → z.2.1 = 0 → c.testBit z.2.2.toNat = true)
    (fun r => ∃ R : Nat, r = (R : Int) ∧ R < 2 ^ s.1.toNat ∧ sub A R ∧ (∀ x, R.testBit x = true → A.testBit x = false → ∀ z ∈ s.2, z.1.toNat = x → z.2.1 = 0 → R.testBit z.2.2.toNat = true) ∧
     (∀ q, cl0 s q → sub a q → q.testBit i = true → sub R q) ∧ ∀ z ∈ s.2, z.1.toNat = i → z.2.1 = 0 → R.testBit z.2.2.toNat = true)
    (body := refine_frame_led_1_b1 (refine_frame_led_1 n) (i : Int) (s, T)) (s0 := (A : Int))
    ⟨A, rfl, ha', sub_refl A, fun x h2 h3 => by (rw [h2] at h3; cases h3), fun q _ h3 h4 => by rw [← hA]; exact or_sub h3 (one_sub.2 h4), fun j z hj => by omega⟩
    (fun k z cur hk hI => by
     obtain ⟨c, rfl, c1, c2, c3, c4, c5⟩ := hI
     have hlt := (List.getElem?_eq_some_iff.1 hk).1
     have hmem := List.mem_of_getElem? hk
     have hz := hv.st z hmem
     have hlen := hv.len
     have ki : InK .i64 ((k : Int) + 1) := by rw [inK_i64]; omega
     refine .inl ?_
     unfold refine_frame_led_1_b1
     simp only [Int.toNat_natCast, getD_of hk, ck_pos ki]
     rw [if_pos (by rw [decide_eq_true_eq]; omega), ck_pos (by omega), ck_pos (by omega)]
     by_cases h2 : z.1 = (i : Int)
     ·rw [if_pos (by simpa using h2)]
      unfold refine_isHidden
      rw [Option.bind_some]
      by_cases h3 : z.2.1 = 0
      ·rw [if_pos (by simpa using h3)]
       have hcc := cnt_mono c2
       obtain ⟨R, r1, r2⟩ := ih c z.2.2.toNat (by omega) c1 (by omega)
       rw [Int.toNat_of_nonneg hz.2.2.1] at r1
       rw [r1, Option.bind_some]
       refine ⟨(R : Int), rfl, R, rfl, r2.lt, sub_trans c2 r2.su, fun x g1 g2 y gy g3 g4 => ?_, fun q g1 g2 g3 => r2.le q g1 (c4 q g1 g2 g3) ?_, fun j y g1 g2 g3 g4 => ?_⟩
       ·cases hcx : c.testBit x with
        | true => exact r2.su _ (c3 x hcx g2 y gy g3 g4)
        | false => exact r2.cl x g1 hcx y gy g3 g4
       ·exact g1 _ (stM_bit.2 ⟨z, hmem, h3, by rw [h2, Int.toNat_natCast]; exact g3, rfl⟩)
       ·rcases Nat.lt_succ_iff_lt_or_eq.1 g1 with g1 | g1
        ·exact r2.su _ (c5 j y g1 g2 g3 g4)
        ·subst g1
         rw [hk] at g2
         have := Option.some.inj g2
         subst this
         exact r2.me
      ·rw [if_neg (by simpa using h3)]
       refine ⟨(c : Int), rfl, c, rfl, c1, c2, c3, c4, fun j y g1 g2 g3 g4 => ?_⟩
       rcases Nat.lt_succ_iff_lt_or_eq.1 g1 with g1 | g1
       ·exact c5 j y g1 g2 g3 g4
       ·subst g1
        rw [hk] at g2
        have := Option.some.inj g2
        subst this
        exact absurd g4 h3
     ·rw [if_neg (by simpa using h2)]
      refine ⟨(c : Int), rfl, c, rfl, c1, c2, c3, c4, fun j y g1 g2 g3 g4 => ?_⟩
      rcases Nat.lt_succ_iff_lt_or_eq.1 g1 with g1 | g1
      ·exact c5 j y g1 g2 g3 g4
      ·subst g1
       rw [hk] at g2
       have := Option.some.inj g2
       subst this
       exact absurd (by omega) h2)
    (fun cur hI => by
     obtain ⟨c, rfl, c1, c2, c3, c4, c5⟩ := hI
     refine ⟨(c : Int), ?_, c, rfl, c1, c2, c3, c4, fun z hz g3 g4 => ?_⟩
     ·unfold refine_frame_led_1_b1
      rw [if_neg (by rw [decide_eq_true_eq]; simp only; omega)]
     ·obtain ⟨j, hj⟩ := List.getElem?_of_mem hz
      exact c5 j z (List.getElem?_eq_some_iff.1 hj).1 hj g3 g4)
   subst hR
   rw [e1, Option.bind_some]
   refine ⟨R, rfl, g1, sub_trans hsA g2, g2 _ hci, fun x h2 h3 z hz h4 h5 => ?_, g4⟩
   cases hAx : A.testBit x with
   | true =>
    have := hAor x hAx h3
    subst this
    exact g5 z hz h4 h5
   | false => exact g3 x h2 hAx z hz h4 h5

theorem led_eq (T : El T69) {i : Nat} (hi : i < s.1.toNat) : refine_frame_led (s, T) (i : Int) = some ((quM s (2 ^ i) : Nat) : Int) := by
 obtain ⟨r, e1, h⟩ := led_go hv T fuel 0 i (by unfold fuel; omega) (Nat.two_pow_pos _) hi
 have h2i : 2 ^ i < 2 ^ s.1.toNat := Nat.pow_lt_pow_right (by omega) hi
 have e : r = quM s (2 ^ i) := by
  refine sub_anti (h.le _ (quM_cl hv h2i) (zero_sub _) (one_sub.1 (quM_sub hv _))) (quM_least hv (one_sub.2 h.me) fun j hj => ?_)
  obtain ⟨z, h1, h2, h3, h4⟩ := stM_bit.1 hj
  rw [← h4]
  exact h.cl _ h3 (by simp) z h1 rfl h2
 unfold refine_frame_led
 have e1' : refine_frame_led_1 fuel (i : Int) 0 (s, T) = some (r : Int) := e1
 rw [e1', Option.bind_some, e]

end

/-- What the second table holds behind q steps. -/
def enM (s : Sys) (i : Nat) (l : Int) (q : Nat) : Nat := (s.2.take q).foldl (fun a z => if hitS (quM s (2 ^ i)) l z = true then a ||| quM s (2 ^ z.2.2.toNat) else a) 0

section
variable {s : Sys} (hv : OkS s)
include hv

theorem enM_all (i : Nat) (l : Int) : enM s i l s.2.length = quM s (stM s (quM s (2 ^ i)) l) := by
 unfold enM stM
 rw [List.take_length, quM_fold hv (quM s (2 ^ i)) l s.2 0 (Nat.two_pow_pos _) fun z hz => hz, quM_zero hv]

theorem enM_succ {i q : Nat} {l : Int} {z : Stp} (hq : s.2[q]? = some z) : enM s i l (q + 1) = if hitS (quM s (2 ^ i)) l z = true then enM s i l q ||| quM s (2 ^ z.2.2.toNat) else enM s i l q := by
 unfold enM
 rw [take_one hq, List.foldl_append]
 rfl

theorem enM_lt (i : Nat) (l : Int) : ∀ q, enM s i l q < 2 ^ s.1.toNat := by
 have : ∀ (L : List Stp) (a : Nat), a < 2 ^ s.1.toNat → (∀ z ∈ L, z ∈ s.2) → L.foldl (fun a z => if hitS (quM s (2 ^ i)) l z = true then a ||| quM s (2 ^ z.2.2.toNat) else a) a < 2 ^ s.1.toNat := by
  intro L
  induction L with
  | nil => intro a ha _; exact ha
  | cons z L ih =>
   intro a ha hL
   have hz := (hv.st z (hL z (by simp))).2.2
   have h2 : 2 ^ z.2.2.toNat < 2 ^ s.1.toNat := Nat.pow_lt_pow_right (by omega) (by omega)
   rw [List.foldl_cons]
   refine ih _ ?_ fun y hy => hL y (List.mem_cons_of_mem _ hy)
   split
   ·exact or_lt ha (quM_lt hv h2)
   ·exact ha
 exact fun q => this _ _ (Nat.two_pow_pos _) fun z hz => List.mem_of_mem_take hz

/-- The tables, so far: the row of state i behind q i steps. -/
def FT (s : Sys) (q : Nat → Nat) (T : El T69) : Prop := ∀ i l, i < s.1.toNat → l < 4 → intAt T69 T (i * 4 + l) = ((if l = 0 then quM s (2 ^ i) else enM s i (l : Int) (q i) : Nat) : Int)

theorem frame_b3 {q : Nat} {z : Stp} (hq : s.2[q]? = some z) (T0 : El T69) {k : Nat} {T : El T69} (hk : k < s.1.toNat) (h : FT s (fun i => if i < k then q + 1 else q) T) :
  ∃ T', refine_frameOf_b3 s (T0, (q : Int)) (T, (k : Int)) = some (.next (T', (k : Int) + 1)) ∧ FT s (fun i => if i < k + 1 then q + 1 else q) T' := by
 have h6 := n6 hv
 have hmem := List.mem_of_getElem? hq
 have hz := hv.st z hmem
 have ki : InK .i64 ((k : Int) + 1) := by rw [inK_i64]; omega
 have h2k : 2 ^ k < 2 ^ s.1.toNat := Nat.pow_lt_pow_right (by omega) hk
 have hk0 := h k 0 hk (by omega)
 rw [if_pos rfl] at hk0
 have hqk := lt64 hv (quM_lt hv h2k)
 have same : ∀ T : El T69, FT s (fun i => if i < k then q + 1 else q) T → (∀ l : Nat, 0 < l → l < 4 → hitS (quM s (2 ^ k)) (l : Int) z = false) → FT s (fun i => if i < k + 1 then q + 1 else q) T := fun T h hno i l hi hl => by
  rw [h i l hi hl]
  by_cases e : i = k
  ·subst e
   by_cases h0 : l = 0
   ·rw [if_pos h0, if_pos h0]
   ·rw [if_neg h0, if_neg h0]
    simp only [Nat.lt_irrefl, if_false, Nat.lt_succ_self, if_true]
    rw [enM_succ hv hq, if_neg (by rw [hno l (by omega) hl]; simp)]
  ·have : (i < k + 1) ↔ (i < k) := by omega
   simp only [this]
 unfold refine_frameOf_b3
 simp only [Int.toNat_natCast, getD_of hq, isSeen_eq, Option.bind_some, ck_pos ki]
 rw [if_pos (by rw [decide_eq_true_eq]; omega)]
 by_cases hs : 0 < z.2.1 ∧ z.2.1 ≤ 3
 ·rw [if_pos (by simpa using hs), ck_pos (by omega), ck_pos (by omega), hk0, has_eq _ _ hz.1.1, Option.bind_some, bit_u8 hqk hz.1.1 (by omega)]
  by_cases hb : (quM s (2 ^ k)).testBit z.1.toNat = true
  ·rw [if_pos hb, ck_pos (by omega), ck_pos (by omega), ck_pos (by omega), ck_pos (by omega), ck_pos (by omega), ck_pos (by omega), ck_pos (by omega), ck_pos (by omega), ck_pos (by omega), ck_pos (by omega)]
   refine ⟨_, rfl, fun i l hi hl => ?_⟩
   have hto : z.2.2.toNat < s.1.toNat := by omega
   have h2t : 2 ^ z.2.2.toNat < 2 ^ s.1.toNat := Nat.pow_lt_pow_right (by omega) hto
   have r1 := h k z.2.1.toNat hk (by omega)
   have r2 := h z.2.2.toNat 0 hto (by omega)
   rw [if_neg (by omega)] at r1
   rw [if_pos rfl] at r2
   simp only [Nat.lt_irrefl, if_false] at r1
   have e1 : k * 4 + z.2.1.toNat * 1 = k * 4 + z.2.1.toNat := by omega
   rw [e1, r1, r2, or_u8 _ (lt64 hv (enM_lt hv k _ q)) _ (lt64 hv (quM_lt hv h2t)), at_set T _ (by omega) (by omega)]
   by_cases e : i * 4 + l = k * 4 + z.2.1.toNat
   ·have ei : i = k := by omega
    have el : l = z.2.1.toNat := by omega
    subst ei el
    rw [if_pos rfl, if_neg (by omega)]
    simp only [Nat.lt_succ_self, if_true]
    rw [enM_succ hv hq, if_pos]
    unfold hitS
    rw [Bool.and_eq_true, decide_eq_true_eq]
    exact ⟨by omega, hb⟩
   ·rw [if_neg e, h i l hi hl]
    by_cases ei : i = k
    ·subst ei
     by_cases h0 : l = 0
     ·rw [if_pos h0, if_pos h0]
     ·rw [if_neg h0, if_neg h0]
      simp only [Nat.lt_irrefl, if_false, Nat.lt_succ_self, if_true]
      rw [enM_succ hv hq, if_neg]
      unfold hitS
      rw [Bool.and_eq_true, decide_eq_true_eq]
      exact fun hc => by omega
    ·have : (i < k + 1) ↔ (i < k) := by omega
     simp only [this]
  ·rw [if_neg hb]
   refine ⟨T, rfl, same T h fun l _ _ => ?_⟩
   unfold hitS
   rw [Bool.and_eq_false_iff]
   exact .inr (by simpa using hb)
 ·rw [if_neg (by simpa using hs)]
  refine ⟨T, rfl, same T h fun l h1 h2 => ?_⟩
  unfold hitS
  rw [Bool.and_eq_false_iff, decide_eq_false_iff_not]
  exact .inl fun e => hs (by omega)

/-- A loop that makes a table. -/
theorem loopT {body : El T69 × Int → Option (Step (El T69 × Int) (El T69))} (n : Nat) (P : Nat → El T69 → Prop) (h : ∀ (k : Nat) (T : El T69), k < n → P k T → ∃ T', body (T, (k : Int)) = some (.next (T', (k : Int) + 1)) ∧ P (k + 1) T')
  (hd : ∀ T, P n T → body (T, (n : Int)) = some (.done T)) {T : El T69} (h0 : P 0 T) : ∃ T', whileO body (T, 0) = some T' ∧ P n T' := by
 obtain ⟨r, e1, e2⟩ := scan2 (R := El T69) (List.range n) P (fun r => P n r) (body := body) (s0 := T) h0 (fun k x S hk hI => by
  have hlt := (List.getElem?_eq_some_iff.1 hk).1
  rw [List.length_range] at hlt
  exact .inl (h k S hlt hI)) (fun S hI => by
  rw [List.length_range] at hI ⊢
  exact ⟨S, hd S hI, hI⟩)
 exact ⟨r, e1, e2⟩

/-- The whole of it: each state comes by each label to where it should. -/
def Frm (s : Sys) (T : El T69) : Prop := ∀ i l, i < s.1.toNat → l < 4 → intAt T69 T (i * 4 + l) = ((coM s (2 ^ i) (l : Int) : Nat) : Int)

theorem frame_tab : ∃ T, (whileO (refine_frameOf_b1 s) ((Ty.dflt T69), 0)).bind (fun r1 => refine_frameOf_k1 s r1) = some (s.1, s.2, T, 0) ∧ Frm s T := by
 have h6 := n6 hv
 have hlo := hv.lo
 have hlen := hv.len
 obtain ⟨T1, e1, h1⟩ := loopT hv (body := refine_frameOf_b1 s) s.1.toNat (fun k T => ∀ i l, i < s.1.toNat → l < 4 → intAt T69 T (i * 4 + l) = if l = 0 ∧ i < k then ((quM s (2 ^ i) : Nat) : Int) else 0) (fun k T hk hI => by
  have ki : InK .i64 ((k : Int) + 1) := by rw [inK_i64]; omega
  refine ⟨setInt T69 T ((k * 4) + 0) ((quM s (2 ^ k) : Nat) : Int), ?_, fun i l hi hl => ?_⟩
  ·unfold refine_frameOf_b1
   simp only [Int.toNat_natCast, ck_pos ki]
   rw [if_pos (by rw [decide_eq_true_eq]; omega), led_eq hv T hk, Option.bind_some, ck_pos (by omega), ck_pos (by omega)]
  ·rw [at_set T _ (by omega) (by omega), hI i l hi hl]
   by_cases e : i * 4 + l = k * 4 + 0
   ·have ei : i = k := by omega
    subst ei
    rw [if_pos e, if_pos ⟨by omega, by omega⟩]
   ·rw [if_neg e]
    by_cases h0 : l = 0 ∧ i < k
    ·rw [if_pos h0, if_pos ⟨h0.1, by omega⟩]
    ·rw [if_neg h0, if_neg (fun hc => h0 ⟨hc.1, by omega⟩)]) (fun T _ => by
  unfold refine_frameOf_b1
  simp only
  rw [if_neg (by rw [decide_eq_true_eq]; omega)]) (T := Ty.dflt T69) (fun i l hi hl => by
  rw [if_neg (by omega)]
  have : ∀ q, q < 24 → intAt T69 (Ty.dflt T69) q = 0 := by decide +kernel
  exact this _ (by omega))
 obtain ⟨T2, e2, h2⟩ := loopT hv (body := refine_frameOf_b2 s) s.2.length (fun q T => FT s (fun _ => q) T) (fun q T hq hI => by
  obtain ⟨z, hz⟩ : ∃ z, s.2[q]? = some z := ⟨_, List.getElem?_eq_getElem hq⟩
  obtain ⟨T', f1, f2⟩ := loopT hv (body := refine_frameOf_b3 s (T, (q : Int))) s.1.toNat (fun k T => FT s (fun i => if i < k then q + 1 else q) T) (fun k S hk hS => frame_b3 hv hz T hk hS) (fun S _ => by
   unfold refine_frameOf_b3
   simp only
   rw [if_neg (by rw [decide_eq_true_eq]; omega)]) (T := T) (fun i l hi hl => by
   rw [hI i l hi hl]; simp)
  have ki : InK .i64 ((q : Int) + 1) := by rw [inK_i64]; omega
  refine ⟨T', ?_, fun i l hi hl => by rw [f2 i l hi hl]; simp [hi]⟩
  unfold refine_frameOf_b2
  simp only
  rw [if_pos (by rw [decide_eq_true_eq]; omega), ck_pos (by omega), ck_pos (by omega), f1, Option.bind_some]
  unfold refine_frameOf_k3
  rw [ck_pos ki]) (fun T _ => by
  unfold refine_frameOf_b2
  simp only
  rw [if_neg (by rw [decide_eq_true_eq]; omega)]) (T := T1) (fun i l hi hl => by
  rw [h1 i l hi hl]
  by_cases h0 : l = 0
  ·rw [if_pos ⟨h0, hi⟩, if_pos h0]
  ·rw [if_neg (fun hc => h0 hc.1), if_neg h0]; rfl)
 refine ⟨T2, ?_, fun i l hi hl => ?_⟩
 ·rw [e1, Option.bind_some]
  unfold refine_frameOf_k1
  rw [e2, Option.bind_some]
  rfl
 ·rw [h2 i l hi hl]
  unfold coM
  by_cases h0 : l = 0
  ·rw [if_pos h0, if_pos (by omega)]
  ·rw [if_neg h0, if_neg (by omega), enM_all hv]

end
end Go.Proofs.Ytifleoceebaooaa
