/-
  Layer 5, pure: where one comes, what is reached, and what has no step.
-/
import Derived.Test.YtifleoceebaooaaS17
import Derived.Test.YtifleoceebaooaaS5
namespace Go.Proofs.Ytifleoceebaooaa

set_option linter.unusedVariables false
set_option linter.unusedSimpArgs false
set_option linter.unusedSectionVars false
set_option maxRecDepth 100000
set_option maxHeartbeats 1000000

/-! ### Any steps -/

/-- A set with all states to which one step leads. -/
def clA (s : Sys) (q : Nat) : Prop := ∀ z ∈ s.2, q.testBit z.1.toNat = true → q.testBit z.2.2.toNat = true

/-- What the walk by any steps makes of what it has found. -/
structure Led2 (s : Sys) (a i r : Nat) : Prop where
  lt : r < 2 ^ s.1.toNat
  su : sub a r
  me : r.testBit i = true
  cl : ∀ x, r.testBit x = true → a.testBit x = false → ∀ z ∈ s.2, z.1.toNat = x → r.testBit z.2.2.toNat = true
  le : ∀ q, clA s q → sub a q → q.testBit i = true → sub r q

theorem isLabel_eq (l : Int) : refine_isLabel l = some (decide (0 ≤ l ∧ l ≤ 3)) := by
  unfold refine_isLabel refine_isHidden
  rw [Option.bind_some]
  by_cases h : l = 0
  · subst h; rfl
  · rw [if_neg (by simpa using h), isSeen_eq, Option.bind_some]
    congr 1
    rw [Bool.eq_iff_iff, decide_eq_true_eq, decide_eq_true_eq]
    omega

theorem isLabel_yes {l : Int} (h0 : 0 ≤ l) (h3 : l ≤ 3) : refine_isLabel l = some true := by
  rw [isLabel_eq, decide_eq_true ⟨h0, h3⟩]

section
variable {s : Sys} (hv : OkS s)
include hv

theorem led2_go (T : El T69) : ∀ (n a i : Nat), 7 ≤ cnt a + n → a < 2 ^ s.1.toNat → i < s.1.toNat → ∃ r : Nat, refine_frame_led_1_2 n (i : Int) (a : Int) (s, T) = some (r : Int) ∧ Led2 s a i r := by
  intro n
  induction n with
  | zero => intro a i h1; have := cnt_le a; omega
  | succ n ih =>
    intro a i h1 ha hi
    have h6 := n6 hv
    have h64 := lt64 hv ha
    show ∃ r : Nat, refine_frame_led_1_2F (refine_frame_led_1_2 n) (i : Int) (a : Int) (s, T) = some (r : Int) ∧ Led2 s a i r
    unfold refine_frame_led_1_2F
    rw [has_eq _ _ (by omega), Option.bind_some, bit_u8 h64 (by omega) (by omega), Int.toNat_natCast]
    by_cases hb : a.testBit i = true
    · rw [if_pos hb]
      exact ⟨a, rfl, ha, sub_refl a, hb, fun x h2 h3 => (by rw [h2] at h3; cases h3), fun q _ h _ => h⟩
    · have hbf : a.testBit i = false := by simpa using hb
      rw [if_neg hb, ck_pos (by omega), shl_u8 i (by omega), or_u8 a h64 (2 ^ i) (lt64 hv (Nat.pow_lt_pow_right (by omega) hi))]
      have h2i : 2 ^ i < 2 ^ s.1.toNat := Nat.pow_lt_pow_right (by omega) hi
      have ha' : a ||| 2 ^ i < 2 ^ s.1.toNat := or_lt ha h2i
      have hci : (a ||| 2 ^ i).testBit i = true := by rw [Nat.testBit_or, Nat.testBit_two_pow]; simp
      have hcnt : cnt a < cnt (a ||| 2 ^ i) := cnt_lt (sub_or_l _ _) (lt64 hv ha') fun e => by rw [← e] at hci; exact hb hci
      generalize hA : a ||| 2 ^ i = A at *
      have hsA : sub a A := by rw [← hA]; exact sub_or_l _ _
      have hAor : ∀ x, A.testBit x = true → a.testBit x = false → x = i := fun x h2 h3 => by
        rw [← hA, Nat.testBit_or, h3, Bool.false_or, Nat.testBit_two_pow, decide_eq_true_eq] at h2
        exact h2.symm
      obtain ⟨r, e1, R, hR, g1, g2, g3, g4, g5⟩ := scan2 (R := Int) s.2 (fun k (cur : Int) => ∃ c : Nat, cur = (c : Int) ∧ c < 2 ^ s.1.toNat ∧ sub A c ∧ (∀ x, c.testBit x = true → A.testBit x = false → ∀ z ∈ s.2, z.1.toNat = x → c.testBit z.2.2.toNat = true) ∧
          (∀ q, clA s q → sub a q → q.testBit i = true → sub c q) ∧ ∀ j z, j < k → s.2[j]? = some z → z.1.toNat = i → c.testBit z.2.2.toNat = true)
        (fun r => ∃ R : Nat, r = (R : Int) ∧ R < 2 ^ s.1.toNat ∧ sub A R ∧ (∀ x, R.testBit x = true → A.testBit x = false → ∀ z ∈ s.2, z.1.toNat = x → R.testBit z.2.2.toNat = true) ∧
          (∀ q, clA s q → sub a q → q.testBit i = true → sub R q) ∧ ∀ z ∈ s.2, z.1.toNat = i → R.testBit z.2.2.toNat = true)
        (body := refine_frame_led_1_2_b1 (refine_frame_led_1_2 n) (i : Int) (s, T)) (s0 := (A : Int))
        ⟨A, rfl, ha', sub_refl A, fun x h2 h3 => by (rw [h2] at h3; cases h3), fun q _ h3 h4 => by rw [← hA]; exact or_sub h3 (one_sub.2 h4), fun j z hj => by omega⟩
        (fun k z cur hk hI => by
          obtain ⟨c, rfl, c1, c2, c3, c4, c5⟩ := hI
          have hlt := (List.getElem?_eq_some_iff.1 hk).1
          have hmem := List.mem_of_getElem? hk
          have hz := hv.st z hmem
          have hlen := hv.len
          have ki : InK .i64 ((k : Int) + 1) := by rw [inK_i64]; omega
          refine .inl ?_
          unfold refine_frame_led_1_2_b1
          simp only [Int.toNat_natCast, getD_of hk, ck_pos ki]
          rw [if_pos (by rw [decide_eq_true_eq]; omega), ck_pos (by omega), ck_pos (by omega)]
          by_cases h2 : z.1 = (i : Int)
          · rw [if_pos (by simpa using h2)]
            rw [isLabel_yes hz.2.1.1 hz.2.1.2, Option.bind_some]
            · rw [if_pos rfl]
              have hcc := cnt_mono c2
              obtain ⟨R, r1, r2⟩ := ih c z.2.2.toNat (by omega) c1 (by omega)
              rw [Int.toNat_of_nonneg hz.2.2.1] at r1
              rw [r1, Option.bind_some]
              refine ⟨(R : Int), rfl, R, rfl, r2.lt, sub_trans c2 r2.su, fun x g1 g2 y gy g3 => ?_, fun q g1 g2 g3 => r2.le q g1 (c4 q g1 g2 g3) ?_, fun j y g1 g2 g3 => ?_⟩
              · cases hcx : c.testBit x with
                | true => exact r2.su _ (c3 x hcx g2 y gy g3)
                | false => exact r2.cl x g1 hcx y gy g3
              · exact g1 z hmem (by rw [h2, Int.toNat_natCast]; exact g3)
              · rcases Nat.lt_succ_iff_lt_or_eq.1 g1 with g1 | g1
                · exact r2.su _ (c5 j y g1 g2 g3)
                · subst g1
                  rw [hk] at g2
                  have := Option.some.inj g2
                  subst this
                  exact r2.me
          · rw [if_neg (by simpa using h2)]
            refine ⟨(c : Int), rfl, c, rfl, c1, c2, c3, c4, fun j y g1 g2 g3 => ?_⟩
            rcases Nat.lt_succ_iff_lt_or_eq.1 g1 with g1 | g1
            · exact c5 j y g1 g2 g3
            · subst g1
              rw [hk] at g2
              have := Option.some.inj g2
              subst this
              exact absurd (by omega) h2)
        (fun cur hI => by
          obtain ⟨c, rfl, c1, c2, c3, c4, c5⟩ := hI
          refine ⟨(c : Int), ?_, c, rfl, c1, c2, c3, c4, fun z hz g3 => ?_⟩
          · unfold refine_frame_led_1_2_b1
            rw [if_neg (by rw [decide_eq_true_eq]; simp only; omega)]
          · obtain ⟨j, hj⟩ := List.getElem?_of_mem hz
            exact c5 j z (List.getElem?_eq_some_iff.1 hj).1 hj g3)
      subst hR
      rw [e1, Option.bind_some]
      refine ⟨R, rfl, g1, sub_trans hsA g2, g2 _ hci, fun x h2 h3 z hz h4 => ?_, g4⟩
      cases hAx : A.testBit x with
      | true =>
        have := hAor x hAx h3
        subst this
        exact g5 z hz h4
      | false => exact g3 x h2 hAx z hz h4


/-- The states that are reached. -/
def rcS (s : Sys) (m l : Nat) : Nat := m ||| stM s m ((l : Nat) : Int)
def rcF (s : Sys) (a : Nat) : Nat := (List.range 4).foldl (rcS s) a
def rcM (s : Sys) : Nat := itr (rcF s) s.1.toNat 1

theorem rcF_go (l : List Nat) : ∀ a, a < 2 ^ s.1.toNat → sub a (l.foldl (rcS s) a) ∧ l.foldl (rcS s) a < 2 ^ s.1.toNat := by
  induction l with
  | nil => intro a h; exact ⟨sub_refl _, h⟩
  | cons x l ih =>
    intro a h
    have := ih (rcS s a x) (or_lt h (stM_lt hv a _))
    rw [List.foldl_cons]
    exact ⟨sub_trans (sub_or_l _ _) this.1, this.2⟩

theorem rcF_cl {q : Nat} (h : q < 2 ^ s.1.toNat) (hf : rcF s q = q) : clA s q := by
  have key : ∀ (l : List Nat) (a : Nat), a < 2 ^ s.1.toNat → l.foldl (rcS s) a = a → ∀ x ∈ l, sub (stM s a (x : Int)) a := by
    intro l
    induction l with
    | nil => intro a _ _ x hx; simp at hx
    | cons y l ih =>
      intro a ha e x hx
      rw [List.foldl_cons] at e
      have g := rcF_go hv l (rcS s a y) (or_lt ha (stM_lt hv a _))
      have e2 : rcS s a y = a := sub_anti (by have := g.1; rwa [e] at this) (sub_or_l _ _)
      rcases List.mem_cons.1 hx with rfl | hx
      · have := sub_or_r a (stM s a (x : Int))
        have e3 : a ||| stM s a (x : Int) = a := e2
        rwa [e3] at this
      · rw [e2] at e
        exact ih a ha e x hx
  intro z hz hb
  have hst := hv.st z hz
  have := key (List.range 4) q h hf z.2.1.toNat (List.mem_range.2 (by omega))
  rw [Int.toNat_of_nonneg hst.2.1.1] at this
  exact this _ (stM_bit.2 ⟨z, hz, rfl, hb, rfl⟩)

theorem rcF_le {q : Nat} (hc : clA s q) : ∀ a, sub a q → sub (rcF s a) q := by
  have key : ∀ (l : List Nat) (a : Nat), sub a q → sub (l.foldl (rcS s) a) q := by
    intro l
    induction l with
    | nil => intro a h; exact h
    | cons x l ih =>
      intro a h
      rw [List.foldl_cons]
      refine ih _ (or_sub h fun j hj => ?_)
      obtain ⟨z, h1, _, h3, h4⟩ := stM_bit.1 hj
      rw [← h4]
      exact hc z h1 (h _ h3)
  exact key _

theorem rc_go (k : Nat) : itr (rcF s) k 1 < 2 ^ s.1.toNat ∧ ∀ q, clA s q → q.testBit 0 = true → sub (itr (rcF s) k 1) q := by
  induction k with
  | zero => exact ⟨one_lt hv, fun q _ h => one_sub.2 h⟩
  | succ k ih => exact ⟨(rcF_go hv _ _ ih.1).2, fun q h1 h2 => rcF_le hv h1 _ (ih.2 q h1 h2)⟩

theorem rcM_cl : clA s (rcM s) := rcF_cl hv (rc_go hv _).1 (itr_rest (fun a ha => rcF_go hv _ a ha) (n6 hv) (one_lt hv))

theorem rcM_has : (rcM s).testBit 0 = true := by
  have : ∀ k, (itr (rcF s) k 1).testBit 0 = true := by
    intro k
    induction k with
    | zero => show (1 : Nat).testBit 0 = true; decide
    | succ k ih => exact (rcF_go hv _ _ (rc_go hv k).1).1 0 ih
  exact this _

theorem reached_eq (T : El T69) : refine_frame_reached (s, T) = some ((rcM s : Nat) : Int) := by
  have hlo := hv.lo
  obtain ⟨r, e1, h⟩ := led2_go hv T fuel 0 0 (by unfold fuel; omega) (Nat.two_pow_pos _) (by omega)
  have e : r = rcM s := by
    refine sub_anti (h.le _ (rcM_cl hv) (zero_sub _) (rcM_has hv)) ((rc_go hv _).2 r (fun z hz hb => h.cl _ hb (by simp) z hz rfl) h.me)
  have e1' : refine_frame_led_1_2 fuel 0 0 (s, T) = some (r : Int) := e1
  unfold refine_frame_reached refine_frame_led_2
  rw [e1', e]
  rfl

theorem refreached_eq : linealref05_reached s = some ((rcM s : Nat) : Int) := by
  have h6 := n6 hv
  have hlo := hv.lo
  obtain ⟨r, e1, h⟩ := scan2 (R := Int) (List.range s.1.toNat) (fun k (cur : Int) => cur = ((itr (rcF s) k 1 : Nat) : Int)) (fun r => r = ((rcM s : Nat) : Int)) (body := linealref05_reached_b1 s) (s0 := 1) rfl
    (fun k z cur hk hI => by
      subst hI
      have hlt := (List.getElem?_eq_some_iff.1 hk).1
      rw [List.length_range] at hlt
      have ki : InK .i64 ((k : Int) + 1) := by rw [inK_i64]; omega
      have ha := (rc_go hv k).1
      obtain ⟨q, e2, hq⟩ := scan2 (R := Int) (List.range 4) (fun j (cur : Int) => cur = (((List.range j).foldl (rcS s) (itr (rcF s) k 1) : Nat) : Int)) (fun r => r = ((itr (rcF s) (k + 1) 1 : Nat) : Int)) (body := linealref05_reached_b2 s) (s0 := ((itr (rcF s) k 1 : Nat) : Int)) rfl
        (fun j x cur hj hI => by
          subst hI
          have hjlt := (List.getElem?_eq_some_iff.1 hj).1
          rw [List.length_range] at hjlt
          have kj : InK .i64 ((j : Int) + 1) := by rw [inK_i64]; omega
          have hb := lt64 hv (rcF_go hv (List.range j) _ ha).2
          refine .inl ⟨(((List.range (j + 1)).foldl (rcS s) (itr (rcF s) k 1) : Nat) : Int), ?_, rfl⟩
          unfold linealref05_reached_b2
          simp only
          rw [if_pos (by rw [decide_eq_true_eq]; omega), refstep_eq hv hb, Option.bind_some, ck_pos kj, or_i64 _ hb _ (lt64 hv (stM_lt hv _ _)), List.range_succ, List.foldl_append]
          rfl)
        (fun cur hI => by
          refine ⟨cur, ?_, hI⟩
          unfold linealref05_reached_b2
          rw [if_neg (by simp)])
      subst hq
      refine .inl ⟨_, ?_, rfl⟩
      unfold linealref05_reached_b1
      simp only
      rw [if_pos (by rw [decide_eq_true_eq]; omega), e2, Option.bind_some]
      unfold linealref05_reached_k2
      rw [ck_pos ki])
    (fun cur hI => by
      rw [List.length_range] at hI ⊢
      refine ⟨cur, ?_, hI⟩
      unfold linealref05_reached_b1
      simp only
      rw [if_neg (by rw [decide_eq_true_eq]; omega)])
  unfold linealref05_reached
  rw [e1, Option.bind_some, h]
  rfl

theorem rcM_lt : rcM s < 64 := lt64 hv (rc_go hv _).1

end

/-! ### What a library function deletes -/

/-- The first element of a kind. -/
theorem find_loop {α : Type} (s : List α) (p : α → Bool) {body : Int → Option (Step Int (Sum Int Unit))} (h : ∀ (k : Nat) (x : α), s[k]? = some x → body (k : Int) = some (if p x = true then .done (.inl (k : Int)) else .next ((k : Int) + 1))) (hd : body (s.length : Int) = some (.done (.inr ()))) :
    (whileO body 0 = some (.inr ()) ∧ ∀ x ∈ s, p x = false) ∨ ∃ (k : Nat) (x : α), whileO body 0 = some (.inl (k : Int)) ∧ s[k]? = some x ∧ p x = true ∧ ∀ y ∈ s.take k, p y = false := by
  obtain ⟨r, e, hr⟩ := scan1 (R := Sum Int Unit) s (fun k => ∀ y ∈ s.take k, p y = false) (fun r => (r = .inr () ∧ ∀ x ∈ s, p x = false) ∨ ∃ (k : Nat) (x : α), r = .inl (k : Int) ∧ s[k]? = some x ∧ p x = true ∧ ∀ y ∈ s.take k, p y = false) (body := body) (by simp)
    (fun k x hk hI => by
      have hb := h k x hk
      cases hp : p x with
      | true => rw [hp, if_pos rfl] at hb; exact .inr ⟨_, hb, .inr ⟨k, x, rfl, hk, hp, hI⟩⟩
      | false =>
        rw [hp, if_neg (by simp)] at hb
        refine .inl ⟨hb, fun y hy => ?_⟩
        rw [take_one hk, List.mem_append, List.mem_singleton] at hy
        rcases hy with hy | rfl
        · exact hI y hy
        · exact hp)
    (fun hI => ⟨_, hd, .inl ⟨rfl, by rwa [List.take_length] at hI⟩⟩)
  rcases hr with ⟨rfl, h1⟩ | ⟨k, x, rfl, h1⟩
  · exact .inl ⟨e, h1⟩
  · exact .inr ⟨k, x, e, h1⟩

/-- What stays is moved to the front. -/
theorem delete_loop {α : Type} (s : List α) (p : α → Bool) (i0 : Nat) {x0 : α} (hx0 : s[i0]? = some x0) (hp0 : p x0 = true) (hi0 : ∀ y ∈ s.take i0, p y = false) {body : List α × Int × Int → Option (Step (List α × Int × Int) (List α × Int))}
    (hb : ∀ (l : List α) (i j : Nat) (x : α), l.length = s.length → i < j → l[j]? = some x → body (l, (i : Int), (j : Int)) = some (.next (if p x = true then (l, (i : Int), (j : Int) + 1) else (l.set i x, (i : Int) + 1, (j : Int) + 1))))
    (hd : ∀ (l : List α) (i : Nat), l.length = s.length → body (l, (i : Int), (s.length : Int)) = some (.done (l, (i : Int)))) :
    ∃ (l : List α) (i : Nat), whileO body (s, (i0 : Int), (i0 : Int) + 1) = some (l, (i : Int)) ∧ l.length = s.length ∧ i < s.length ∧ l.take i = s.filter fun x => !p x := by
  have hlt := (List.getElem?_eq_some_iff.1 hx0).1
  have hf0 : ∀ (l : List α), (∀ y ∈ l, p y = false) → l.filter (fun x => !p x) = l := fun l h => List.filter_eq_self.2 fun y hy => by rw [h y hy]; rfl
  obtain ⟨r, e, l, i, rfl, h1, h2, h3⟩ := whileO_inv (S := List α × Int × Int) (R := List α × Int) (body := body) (fun st => ∃ (l : List α) (i j : Nat), st = (l, (i : Int), (j : Int)) ∧ l.length = s.length ∧ i < j ∧ j ≤ s.length ∧ l.take i = (s.take j).filter (fun x => !p x) ∧ l.drop j = s.drop j) (fun st => s.length - st.2.2.toNat)
    (fun r => ∃ (l : List α) (i : Nat), r = (l, (i : Int)) ∧ l.length = s.length ∧ i < s.length ∧ l.take i = s.filter fun x => !p x)
    (by
      rintro st ⟨l, i, j, rfl, hl, hij, hj, ht, hdr⟩
      by_cases hjl : j < s.length
      · have hjx : l[j]? = some (s[j]) := by
          have : (l.drop j)[0]? = (s.drop j)[0]? := by rw [hdr]
          rw [List.getElem?_drop, List.getElem?_drop, Nat.add_zero] at this
          rw [this]; exact List.getElem?_eq_getElem hjl
        have hsj : s[j]? = some (s[j]) := List.getElem?_eq_getElem hjl
        have hd1 : l.drop (j + 1) = s.drop (j + 1) := by
          have := congrArg (List.drop 1) hdr
          rwa [List.drop_drop, List.drop_drop] at this
        refine .inl ⟨_, hb l i j _ hl hij hjx, ?_, ?_⟩
        · cases hp : p (s[j]) with
          | true =>
            rw [if_pos rfl]
            refine ⟨l, i, j + 1, by simp, hl, by omega, by omega, ?_, hd1⟩
            rw [ht, take_one hsj, List.filter_append]
            simp [hp]
          | false =>
            rw [if_neg (by simp)]
            refine ⟨l.set i (s[j]), i + 1, j + 1, by simp, by rw [List.length_set, hl], by omega, by omega, ?_, ?_⟩
            · have hset : (l.set i (s[j]))[i]? = some (s[j]) := by rw [List.getElem?_set, if_pos rfl, if_pos (by omega)]
              rw [take_one hset, List.take_set_of_le (Nat.le_refl i), ht, take_one hsj, List.filter_append]
              simp [hp]
            · rw [List.drop_set_of_lt (by omega), hd1]
        · cases hp : p (s[j]) with
          | true => rw [if_pos rfl]; simp only; omega
          | false => rw [if_neg (by simp)]; simp only; omega
      · have : j = s.length := by omega
        subst this
        exact .inr ⟨_, hd l i hl, l, i, rfl, hl, by omega, by rw [ht, List.take_length]⟩)
    (s, (i0 : Int), (i0 : Int) + 1) ⟨s, i0, i0 + 1, by simp, rfl, by omega, by omega, by rw [take_one hx0, List.filter_append, hf0 _ hi0]; simp [hp0], rfl⟩
  exact ⟨l, i, e, h1, h2, h3⟩

/-! ### States that have no step -/

/-- A state has a step. -/
def goB (s : Sys) (x : Int) : Bool := s.2.any fun z => decide (z.1 = x)


theorem isStuck_eq {s : Sys} (hl : s.2.length ≤ 24) (T : El T69) (x : Int) : refine_frame_isStuck (s, T) x = some (!goB s x) := by
  unfold refine_frame_isStuck slices_ContainsFunc_3 slices_IndexFunc_4
  have hf := find_loop s.2 (fun z => decide (z.1 = x)) (body := slices_IndexFunc_4_b1 s.2 x) (fun k z hk => by
    have hlt := (List.getElem?_eq_some_iff.1 hk).1
    have ki : InK .i64 ((k : Int) + 1) := by rw [inK_i64]; omega
    unfold slices_IndexFunc_4_b1 refine_frame_isStuck_1
    simp only [Int.toNat_natCast, getD_of hk, ck_pos ki, Option.bind_some]
    rw [if_pos (by rw [decide_eq_true_eq]; omega), ck_pos (by omega), ck_pos (by omega)]
    by_cases h : z.1 = x
    · rw [if_pos (by simpa using h), if_pos (by simpa using h)]
    · rw [if_neg (by simpa using h), if_neg (by simpa using h)]) (by
    unfold slices_IndexFunc_4_b1
    rw [if_neg (by simp)])
  rcases hf with ⟨e, h⟩ | ⟨k, z, e, h1, h2, _⟩
  · have : goB s x = false := by
      unfold goB
      rw [List.any_eq_false]
      intro z hz
      rw [h z hz]; simp
    rw [e, this]
    rfl
  · have : goB s x = true := by
      unfold goB
      rw [List.any_eq_true]
      exact ⟨z, List.mem_of_getElem? h1, h2⟩
    rw [e, this]
    simp

theorem dfind_step {s : Sys} (hl : s.2.length ≤ 24) (T : El T69) (l : List Int) (hll : l.length ≤ 6) (k : Nat) (x : Int) (hk : l[k]? = some x) : slices_IndexFunc_3_b1 l (s, T) (k : Int) = some (if goB s x = true then .done (.inl (k : Int)) else .next ((k : Int) + 1)) := by
  have hlt := (List.getElem?_eq_some_iff.1 hk).1
  have ki : InK .i64 ((k : Int) + 1) := by rw [inK_i64]; omega
  unfold slices_IndexFunc_3_b1 refine_Stuck_1
  simp only [Int.toNat_natCast, getD_of hk, ck_pos ki, isStuck_eq hl, Option.bind_some, Bool.not_not]
  rw [if_pos (by rw [decide_eq_true_eq]; omega), ck_pos (by omega), ck_pos (by omega)]
  by_cases h : goB s x = true
  · rw [if_pos h, if_pos h]
  · rw [if_neg h, if_neg h]

theorem dloop_step {s : Sys} (hl : s.2.length ≤ 24) (T : El T69) (l' : List Int) (hll : l'.length ≤ 6) (i j : Nat) (x : Int) (hij : i < j) (hj : l'[j]? = some x) :
    slices_DeleteFunc_b1 (s, T) (l', (i : Int), (j : Int)) = some (.next (if goB s x = true then (l', (i : Int), (j : Int) + 1) else (l'.set i x, (i : Int) + 1, (j : Int) + 1))) := by
  have hjl := (List.getElem?_eq_some_iff.1 hj).1
  have ki : InK .i64 ((i : Int) + 1) := by rw [inK_i64]; omega
  have kj : InK .i64 ((j : Int) + 1) := by rw [inK_i64]; omega
  unfold slices_DeleteFunc_b1 refine_Stuck_1_2
  simp only [Int.toNat_natCast, getD_of hj, ck_pos ki, ck_pos kj, isStuck_eq hl, Option.bind_some, Bool.not_not]
  rw [if_pos (by rw [decide_eq_true_eq]; omega), ck_pos (by omega), ck_pos (by omega)]
  by_cases hp : goB s x = true
  · rw [hp, if_neg (by simp), if_pos rfl]
  · rw [Bool.not_eq_true] at hp
    rw [hp, if_pos (by simp), ck_pos (by omega), ck_pos (by omega), if_neg (by simp)]

theorem dfind_end (s : Sys) (T : El T69) (l : List Int) : slices_IndexFunc_3_b1 l (s, T) (l.length : Int) = some (.done (.inr ())) := by
  unfold slices_IndexFunc_3_b1
  rw [if_neg (by simp)]

theorem dloop_end (s : Sys) (T : El T69) (l' : List Int) (i n : Nat) (hn : l'.length = n) : slices_DeleteFunc_b1 (s, T) (l', (i : Int), (n : Int)) = some (.done (l', (i : Int))) := by
  unfold slices_DeleteFunc_b1
  rw [if_neg (by rw [decide_eq_true_eq]; simp only; omega)]

theorem dtail_eq (l' : List Int) (i : Nat) (hi : i < l'.length) (hl : l'.length ≤ 6) (q : List Int) (h : l'.take i = q) : slices_DeleteFunc_k1 (l', (i : Int)) = some q := by
  unfold slices_DeleteFunc_k1
  simp only [Int.toNat_natCast]
  have hz : ((l'.length : Int) - (i : Int)).toNat = l'.length - i := by omega
  rw [hz, ck_pos (by omega), ck_pos (by omega), ck_pos (by omega), ck_pos (by omega), ck_pos (by omega), ck_pos (by simp; omega), List.append_assoc, List.take_append_of_le_length (by rw [List.length_take]; omega), List.take_take, Nat.min_self, h]

theorem dfind_none {s : Sys} (T : El T69) (l : List Int) (e : whileO (slices_IndexFunc_3_b1 l (s, T)) 0 = some (.inr ())) : slices_IndexFunc_3 l (s, T) = some (-1) := by
  unfold slices_IndexFunc_3
  rw [e, Option.bind_some]
  rfl

theorem dfind_some {s : Sys} (T : El T69) (l : List Int) (k : Int) (e : whileO (slices_IndexFunc_3_b1 l (s, T)) 0 = some (.inl k)) : slices_IndexFunc_3 l (s, T) = some k := by
  unfold slices_IndexFunc_3
  rw [e, Option.bind_some]

theorem delete_none {s : Sys} (T : El T69) (l : List Int) (e : slices_IndexFunc_3 l (s, T) = some (-1)) : slices_DeleteFunc l (s, T) = some l := by
  unfold slices_DeleteFunc
  rw [e, Option.bind_some, if_pos (decide_eq_true rfl)]

theorem delete_some {s : Sys} (T : El T69) (l : List Int) (k : Nat) (hk : k < 6) (e : slices_IndexFunc_3 l (s, T) = some (k : Int)) (l' : List Int) (i : Nat)
    (e2 : whileO (slices_DeleteFunc_b1 (s, T)) (l, (k : Int), (k : Int) + 1) = some (l', (i : Int))) : slices_DeleteFunc l (s, T) = slices_DeleteFunc_k1 (l', (i : Int)) := by
  have kk : InK .i64 ((k : Int) + 1) := by rw [inK_i64]; omega
  have kn : ¬ (k : Int) = -1 := by omega
  unfold slices_DeleteFunc
  rw [e, Option.bind_some, if_neg (by rw [decide_eq_true_eq]; exact kn), ck_pos kk, e2, Option.bind_some]

theorem delete_eq {s : Sys} (hl : s.2.length ≤ 24) (T : El T69) (l : List Int) (hll : l.length ≤ 6) : slices_DeleteFunc l (s, T) = some (l.filter fun x => !goB s x) := by
  rcases find_loop l (fun x => goB s x) (dfind_step hl T l hll) (dfind_end s T l) with ⟨e, h⟩ | ⟨k, x, e, h1, h2, h3⟩
  · rw [delete_none T l (dfind_none T l e)]
    exact congrArg some (List.filter_eq_self.2 fun y hy => by rw [h y hy]; rfl).symm
  · have hlt := (List.getElem?_eq_some_iff.1 h1).1
    obtain ⟨l', i, e2, g1, g2, g3⟩ := delete_loop l (fun x => goB s x) k h1 h2 h3 (body := slices_DeleteFunc_b1 (s, T))
      (fun l' i j x hl' hij hj => dloop_step hl T l' (by omega) i j x hij hj)
      (fun l' i hl' => dloop_end s T l' i l.length hl')
    rw [delete_some T l k (by omega) (dfind_some T l k e) l' i e2]
    exact dtail_eq l' i (by omega) (by omega) _ g3

/-! ### The law -/

theorem sameI (l : List Int) (h : l.length ≤ 6) : linealref05_SameInts l l = some true := by
  rw [refInts_eq l l (by unfold maxLen; omega), decide_eq_true rfl]

def stuckL (s : Sys) : List Int := ((bitsL (rcM s)).map fun (i : Nat) => (i : Int)).filter fun x => !goB s x

theorem bits_few (m : Nat) : ((bitsL m).map fun (i : Nat) => (i : Int)).length ≤ 6 := by rw [List.length_map]; exact bitsL_len m

section
variable {s : Sys} (ks : okZ s) (h : validB s = true)
include ks h

theorem Reached_yes : refine_Reached s = some ((bitsL (rcM s)).map fun (i : Nat) => (i : Int), 0) ∧ linealref05_Reached s = some ((bitsL (rcM s)).map fun (i : Nat) => (i : Int), 0) := by
  obtain ⟨T, e, hT⟩ := frameOf_eq s ks
  rw [if_pos h] at e
  have hv := okS_valid h
  have e2 : refine_frame_reached ((s.1, s.2), T) = some ((rcM s : Nat) : Int) := reached_eq hv T
  constructor
  · unfold refine_Reached
    rw [e, Option.bind_some]
    simp only [decide_true, Bool.not_true, Bool.false_eq_true, if_false]
    rw [e2, Option.bind_some, states_eq hv (rcM_lt hv), Option.bind_some]
  · unfold linealref05_Reached
    rw [refValid_eq s ks, Option.bind_some, h, if_neg (by simp), refreached_eq hv, Option.bind_some, reflist_eq (rcM_lt hv), Option.bind_some]

theorem Stuck_yes : refine_Stuck s = some (stuckL s, 0) ∧ linealref05_Stuck s = some (stuckL s, 0) := by
  obtain ⟨T, e, hT⟩ := frameOf_eq s ks
  rw [if_pos h] at e
  have hv := okS_valid h
  have hlen := hv.len
  have e2 : refine_frame_reached ((s.1, s.2), T) = some ((rcM s : Nat) : Int) := reached_eq hv T
  have e3 : slices_DeleteFunc ((bitsL (rcM s)).map fun (i : Nat) => (i : Int)) ((s.1, s.2), T) = some (stuckL s) := delete_eq (s := s) hlen T _ (bits_few _)
  constructor
  · unfold refine_Stuck
    rw [e, Option.bind_some]
    simp only [decide_true, Bool.not_true, Bool.false_eq_true, if_false]
    rw [e2, Option.bind_some, states_eq hv (rcM_lt hv), Option.bind_some, e3, Option.bind_some]
  · obtain ⟨v, hvv⟩ : ∃ v, ((bitsL (rcM s)).map fun (i : Nat) => (i : Int)) = v := ⟨_, rfl⟩
    have hvl : v.length ≤ 6 := by rw [← hvv]; exact bits_few _
    have hin : ∀ (k : Nat) (x : Int) (o : List Int), v[k]? = some x → whileO (linealref05_Stuck_b2 s v (o, (k : Int))) (false, 0) = some (goB s x) := by
      intro k x o hk
      obtain ⟨q, e4, hq⟩ := scan2 (R := Bool) s.2 (fun j (b : Bool) => b = ((s.2.take j).any fun z => decide (z.1 = x))) (fun b => b = goB s x) (body := linealref05_Stuck_b2 s v (o, (k : Int))) (s0 := false) (by simp)
        (fun j z b hj hI => by
          have hlt := (List.getElem?_eq_some_iff.1 hj).1
          have ki : InK .i64 ((j : Int) + 1) := by rw [inK_i64]; omega
          refine .inl ⟨((s.2.take (j + 1)).any fun z => decide (z.1 = x)), ?_, rfl⟩
          have hstep : ((s.2.take (j + 1)).any fun z => decide (z.1 = x)) = (((s.2.take j).any fun z => decide (z.1 = x)) || decide (z.1 = x)) := by
            rw [take_one hj, List.any_append]
            simp
          unfold linealref05_Stuck_b2
          simp only [Int.toNat_natCast, getD_of hj, getD_of hk, ck_pos ki]
          rw [if_pos (by rw [decide_eq_true_eq]; omega), ck_pos (by omega), ck_pos (by omega), hstep, ← hI]
          cases b
          · rw [if_neg (by simp), Bool.false_or]
          · rw [if_pos rfl, Bool.true_or])
        (fun b hI => by
          rw [List.take_length] at hI
          refine ⟨b, ?_, hI⟩
          unfold linealref05_Stuck_b2
          rw [if_neg (by simp)])
      rw [e4, hq]
    obtain ⟨r, e5, hr⟩ := scan2 (R := List Int) v (fun k o => o = (v.take k).filter fun x => !goB s x) (fun o => o = v.filter fun x => !goB s x) (body := linealref05_Stuck_b1 s v) (s0 := []) (by simp)
      (fun k x o hk hI => by
        have hlt := (List.getElem?_eq_some_iff.1 hk).1
        have ki : InK .i64 ((k : Int) + 1) := by rw [inK_i64]; omega
        have hol : o.length ≤ 6 := by
          rw [hI]
          refine Nat.le_trans (List.length_filter_le _ _) ?_
          rw [List.length_take]; omega
        refine .inl ⟨(v.take (k + 1)).filter fun x => !goB s x, ?_, rfl⟩
        unfold linealref05_Stuck_b1
        simp only
        rw [if_pos (by rw [decide_eq_true_eq]; omega), ck_pos (by omega), ck_pos (by omega), hin k x o hk, Option.bind_some]
        unfold linealref05_Stuck_k3 linealref05_Stuck_k2
        simp only [Int.toNat_natCast, getD_of hk, ck_pos ki]
        rw [take_one hk, List.filter_append, ← hI]
        cases hp : goB s x with
        | true => rw [if_neg (by simp)]; simp [hp]
        | false => rw [if_pos (by simp), ck_pos (by omega)]; simp [hp])
      (fun o hI => by
        rw [List.take_length] at hI
        refine ⟨o, ?_, hI⟩
        unfold linealref05_Stuck_b1
        rw [if_neg (by simp)])
    unfold linealref05_Stuck
    rw [refValid_eq s ks, Option.bind_some, h, if_neg (by simp), refreached_eq hv, Option.bind_some, reflist_eq (rcM_lt hv), Option.bind_some, hvv, e5, Option.bind_some, hr]
    unfold linealref05_Stuck_k1 stuckL
    rw [hvv]

theorem Comes_yes (state label : Int) : ∃ l k, refine_Comes s state label = some (l, k) ∧ linealref05_Comes s state label = some (l, k) ∧ l.length ≤ 6 := by
  obtain ⟨T, e, hT⟩ := frameOf_eq s ks
  rw [if_pos h] at e
  have hv := okS_valid h
  have h6 := n6 hv
  unfold refine_Comes linealref05_Comes
  rw [e, refValid_eq s ks, Option.bind_some, Option.bind_some, h]
  simp only [decide_true, Bool.not_true, Bool.false_eq_true, if_false]
  rw [isState_eq, refIsState_eq, Option.bind_some, Option.bind_some]
  by_cases h1 : 0 ≤ state ∧ state < s.1
  · rw [decide_eq_true h1]
    simp only [Bool.not_true, Bool.false_eq_true, if_false]
    rw [isLabel_eq, Option.bind_some]
    by_cases h2 : 0 ≤ label ∧ label ≤ 3
    · have hm : 2 ^ state.toNat < 2 ^ s.1.toNat := Nat.pow_lt_pow_right (by omega) (by omega)
      have hs : ishl .i64 1 state = ((2 ^ state.toNat : Nat) : Int) := by
        conv => lhs; rw [show state = (state.toNat : Int) from (Int.toNat_of_nonneg h1.1).symm]
        exact shl_i64 _ (by omega)
      have hat : intAt T69 T (state.toNat * 4 + label.toNat) = ((coM s (2 ^ state.toNat) label : Nat) : Int) := by
        have := hT h state.toNat label.toNat (by omega) (by omega)
        rwa [Int.toNat_of_nonneg h2.1] at this
      have hlt := lt64 hv (coM_lt hv hm label)
      refine ⟨_, 0, ?_, ?_, bits_few (coM s (2 ^ state.toNat) label)⟩
      · rw [decide_eq_true h2, if_neg (by simp), ck_pos (by omega), ck_pos (by omega), ck_pos (by omega), ck_pos (by omega), Nat.mul_one, hat, states_eq hv hlt, Option.bind_some]
      · rw [if_neg (by rw [decide_eq_true_eq]; omega), if_neg (by rw [decide_eq_true_eq]; omega), ck_pos (by omega), hs, refcomes_eq hv hm, Option.bind_some, reflist_eq hlt, Option.bind_some]
    · refine ⟨[], 2, ?_, ?_, by simp⟩
      · rw [decide_eq_false h2]; rfl
      · by_cases h3 : label < 0
        · rw [if_pos (by simpa using h3)]
        · rw [if_neg (by simpa using h3), if_pos (by rw [decide_eq_true_eq]; omega)]
  · refine ⟨[], 2, ?_, ?_, by simp⟩ <;> (rw [decide_eq_false h1]; rfl)

end

theorem no_frame {s : Sys} (ks : okZ s) (h : validB s = false) : ∃ T, refine_frameOf s = some (0, [], T, 50) := by
  obtain ⟨T, e, _⟩ := frameOf_eq s ks
  rw [h] at e
  exact ⟨T, e⟩

/-- The law. -/
theorem RefineComes_eq (s : Sys) (hs : okEl (.pair (.int .i64) (.sl (.pair (.int .i64) (.pair (.int .i64) (.int .i64))))) s) (state label : Int) : lineallaw05_RefineComes s state label = some true := by
  have ks := okZ_of hs
  have hlong : ∀ s : Sys, lineallaw05_Long s = some () := fun s => rfl
  unfold lineallaw05_RefineComes
  rw [lineallaw05_Awake_run, hlong, Option.bind_some]
  by_cases h1 : 100 < (s.2.length : Int)
  · rw [if_pos (by simpa using h1)] <;> rfl
  rw [if_neg (by simpa using h1)]
  cases hv : validB s with
  | false =>
    obtain ⟨T, e⟩ := no_frame ks hv
    have e1 : refine_Comes s state label = some ([], 50) := by
      unfold refine_Comes
      rw [e]; rfl
    have e2 : linealref05_Comes s state label = some ([], 50) := by
      unfold linealref05_Comes
      rw [refValid_eq s ks, hv]; rfl
    have e3 : refine_Reached s = some ([], 50) := by
      unfold refine_Reached
      rw [e]; rfl
    have e4 : linealref05_Reached s = some ([], 50) := by
      unfold linealref05_Reached
      rw [refValid_eq s ks, hv]; rfl
    have e5 : refine_Stuck s = some ([], 50) := by
      unfold refine_Stuck
      rw [e]; rfl
    have e6 : linealref05_Stuck s = some ([], 50) := by
      unfold linealref05_Stuck
      rw [refValid_eq s ks, hv]; rfl
    rw [e1, e2, e3, e4, e5, e6, Valid_eq s ks, refValid_eq s ks]
    simp only [Option.bind_some]
    rw [sameI [] (by simp)]
    simp
  | true =>
    obtain ⟨l, k, e1, e2, hl⟩ := Comes_yes ks hv state label
    obtain ⟨e3, e4⟩ := Reached_yes ks hv
    obtain ⟨e5, e6⟩ := Stuck_yes ks hv
    have hst : (stuckL s).length ≤ 6 := Nat.le_trans (List.length_filter_le _ _) (bits_few _)
    rw [e1, e2, e3, e4, e5, e6, Valid_eq s ks, refValid_eq s ks]
    simp only [Option.bind_some]
    rw [sameI l hl, sameI _ (bits_few _), sameI _ hst]
    simp

end Go.Proofs.Ytifleoceebaooaa
