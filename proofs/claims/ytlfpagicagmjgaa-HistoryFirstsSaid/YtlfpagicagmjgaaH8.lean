/-
  Layer 2, pure: the search of the program (places, steps, how many orders go on from a place).
-/
import Derived.Test.YtlfpagicagmjgaaH5a
namespace Go.Proofs.Ytlfpagicagmjgaa
open Go.RowKit

set_option linter.unusedVariables false
set_option linter.unusedSimpArgs false
set_option maxRecDepth 10000

theorem inK_u64 (n : Int) : InK .u64 n ↔ 0 ≤ n ∧ n ≤ 18446744073709551615 := by
  unfold InK; simp [IntKind.min, IntKind.max, IntKind.signed, IntKind.bits]

/-! ### Bits -/

def bitB (b : Int) (i : Nat) : Bool := b.toNat.testBit i
def putB (b : Int) (i : Nat) : Int := ((b.toNat ||| 2 ^ i : Nat) : Int)

theorem bits_all : ∀ b < 256, ∀ i < 8, decide (iand .u64 ((b : Nat) : Int) (ishl .u64 1 ((i : Nat) : Int)) = 0) = !b.testBit i ∧ ior .u64 ((b : Nat) : Int) (ishl .u64 1 ((i : Nat) : Int)) = ((b ||| 2 ^ i : Nat) : Int) := by decide +kernel

theorem iand_eq {b : Int} (hb : 0 ≤ b ∧ b < 256) {i : Nat} (hi : i < 8) : decide (iand .u64 b (ishl .u64 1 (i : Int)) = 0) = !bitB b i := by
  have := (bits_all b.toNat (by omega) i hi).1
  rw [Int.toNat_of_nonneg hb.1] at this
  exact this
theorem ior_eq {b : Int} (hb : 0 ≤ b ∧ b < 256) {i : Nat} (hi : i < 8) : ior .u64 b (ishl .u64 1 (i : Int)) = putB b i := by
  have := (bits_all b.toNat (by omega) i hi).2
  rw [Int.toNat_of_nonneg hb.1] at this
  exact this
theorem putB_in {b : Int} (hb : 0 ≤ b ∧ b < 256) {i : Nat} (hi : i < 8) : 0 ≤ putB b i ∧ putB b i < 256 := by
  unfold putB
  have : b.toNat ||| 2 ^ i < 2 ^ 8 := Nat.or_lt_two_pow (by omega) (Nat.pow_lt_pow_right (by omega) hi)
  omega
theorem bit_put (b : Int) (i j : Nat) : bitB (putB b i) j = (bitB b j || decide (i = j)) := by
  unfold bitB putB
  rw [Int.toNat_natCast, Nat.testBit_or, Nat.testBit_two_pow]

/-! ### Places -/

abbrev Pl := (Int × Int) × Int

def hAt (h : List HC6) (i : Nat) : HC6 := h.getD i (0, 0, 0, 0, 0, 0)
def fullB (h : List HC6) (b : Int) : Bool := allB h.length fun j => decide ((hAt h j).2.2.2.2.2 = 0) || bitB b j
def readyB (h : List HC6) (b : Int) (i : Nat) : Bool := !bitB b i && allB h.length fun j => !bef (hAt h j) (hAt h i) || bitB b j
def sayOf (specs : List Tup) (s : Int × Int) (c : HC6) : Int := sayS (spAt specs c.2.1) (stOf s c.2.1) c.2.2.1
def goOf (specs : List Tup) (s : Int × Int) (c : HC6) : Int × Int := stTo s c.2.1 (nexS (spAt specs c.2.1) (stOf s c.2.1) c.2.2.1)
def alwB (specs : List Tup) (s : Int × Int) (c : HC6) : Bool := decide (c.2.2.2.2.2 = 0) || decide (sayOf specs s c = c.2.2.2.1)
/-- Where call i leads from a place, if it may be next. -/
def nxt (specs : List Tup) (h : List HC6) (p : Pl) (i : Nat) : Option Pl := if (readyB h p.2 i && alwB specs p.1 (hAt h i)) = true then some (goOf specs p.1 (hAt h i), putB p.2 i) else none

/-- A place with states that are states, and with bits for calls. -/
def okPl (specs : List Tup) (p : Pl) : Prop := okP2 specs p.1 ∧ (0 ≤ p.2 ∧ p.2 < 256) ∧ 0 ≤ p.1.1 ∧ p.1.1 ≤ 8 ∧ 0 ≤ p.1.2 ∧ p.1.2 ≤ 8

theorem place_has (p : Pl) (i : Nat) : history_place_has p (i : Int) = some () := by
  unfold history_place_has
  rw [ck_pos (by omega)]

section
variable {specs : List Tup} {h : List HC6}

theorem full_eq (hl : h.length ≤ 8) {p : Pl} (hp : okPl specs p) : history_search_full specs h p = some (fullB h p.2) := by
  unfold history_search_full fullB
  rw [loopB (body := history_search_full_b1 h p) h.length (fun j => decide ((hAt h j).2.2.2.2.2 = 0) || bitB p.2 j) (fun k hk => ?_) (by unfold history_search_full_b1; rw [if_neg (by simp)]), Option.bind_some]
  · cases allB h.length (fun j => decide ((hAt h j).2.2.2.2.2 = 0) || bitB p.2 j) <;> rfl
  · unfold history_search_full_b1
    rw [if_pos (by simpa using hk), ck_pos (by omega), ck_pos (by omega), Int.toNat_natCast]
    by_cases h0 : (h.getD k (0, 0, 0, 0, 0, 0)).2.2.2.2.2 = 0
    · rw [if_neg (by rw [decide_eq_true h0]; simp), ck_pos (inK_small (by omega))]
      unfold hAt; rw [decide_eq_true h0]; rfl
    · rw [if_pos (by rw [decide_eq_false h0]; rfl), place_has, Option.bind_some, iand_eq hp.2.1 (by omega)]
      unfold hAt; rw [decide_eq_false h0]
      cases hb : bitB p.2 k with
      | false => rfl
      | true => rw [if_neg (by simp), ck_pos (inK_small (by omega))]; rfl

theorem inTime_eq8 (a b : HC6) : history_inTime a b = some (bef b a) := by
  unfold history_inTime
  rw [before_eq]; rfl

theorem ready_eq (hl : h.length ≤ 8) {p : Pl} (hp : okPl specs p) {i : Nat} (hi : i < h.length) : history_search_ready specs h p (i : Int) = some (readyB h p.2 i) := by
  unfold history_search_ready readyB
  rw [place_has, Option.bind_some, iand_eq hp.2.1 (by omega)]
  cases hb : bitB p.2 i with
  | true => rfl
  | false =>
    rw [if_neg (by simp)]
    rw [loopB (body := history_search_ready_b1 h p (i : Int)) h.length (fun j => !bef (hAt h j) (hAt h i) || bitB p.2 j) (fun k hk => ?_) (by unfold history_search_ready_b1; rw [if_neg (by simp)]), Option.bind_some]
    · cases allB h.length (fun j => !bef (hAt h j) (hAt h i) || bitB p.2 j) <;> rfl
    · unfold history_search_ready_b1
      rw [if_pos (by simpa using hk), ck_pos (by omega), ck_pos (by omega), ck_pos (by omega), ck_pos (by omega), Int.toNat_natCast, Int.toNat_natCast, inTime_eq8, Option.bind_some]
      unfold hAt
      cases hbf : bef (h.getD k (0, 0, 0, 0, 0, 0)) (h.getD i (0, 0, 0, 0, 0, 0)) with
      | false => rw [if_neg (by simp), ck_pos (inK_small (by omega))]; rfl
      | true =>
        rw [if_pos rfl, place_has, Option.bind_some, iand_eq hp.2.1 (by omega)]
        cases hb : bitB p.2 k with
        | false => rfl
        | true => rw [if_neg (by simp), ck_pos (inK_small (by omega))]; rfl

theorem answer8_eq (hs : okSs specs = true) {c : HC6} (hc : canC specs c = true) {p : Pl} (hp : okP2 specs p.1) :
    history_states_answer specs c p = some (sayOf specs p.1 c, goOf specs p.1 c) := by
  obtain ⟨_, ho, hop⟩ := canC_parts hc
  have hl2 := okSs_len hs
  obtain ⟨_, _, _, _, t1, t2⟩ := ok_parts (okSs_at hs ho)
  have hq := hp c.2.1 ho.1 ho.2
  obtain ⟨n1, n2, n3⟩ := tab_at t1 hq hop
  obtain ⟨a1, a2, a3⟩ := tab_at t2 hq hop
  unfold history_states_answer
  rw [ck_pos ho.1, ck_pos ho.2, ck_pos ho.1, ck_pos (by omega)]
  by_cases h0 : c.2.1 = 0
  · rw [if_pos (by rw [decide_eq_true h0])]
    have e0 : spAt specs c.2.1 = specs.getD 0 (0, 0, [], []) := by unfold spAt; rw [h0]; rfl
    have e1 : stOf p.1 c.2.1 = p.1.1 := by unfold stOf; rw [if_pos h0]
    unfold sayOf goOf
    rw [e0] at n1 a1 hop
    rw [e0, e1] at n2 a2 hq ⊢
    unfold history_states_answer_k1
    simp only
    rw [ck_pos hq.1, ck_pos (by omega), ck_pos hop.1, ck_pos (by omega), ck_pos (by omega), ck_pos (by omega), if_pos (by rfl)]
    unfold history_states_answer_k2
    simp only
    rw [ck_pos hq.1, ck_pos (by omega), ck_pos hop.1, ck_pos (by omega)]
    unfold stTo; rw [if_pos h0]; rfl
  · rw [if_neg (by rw [decide_eq_false h0]; simp)]
    have h1 : c.2.1 = 1 := by omega
    have e0 : spAt specs c.2.1 = specs.getD 1 (0, 0, [], []) := by unfold spAt; rw [h1]; rfl
    have e1 : stOf p.1 c.2.1 = p.1.2 := by unfold stOf; rw [if_neg h0]
    unfold sayOf goOf
    rw [e0] at n1 a1 hop
    rw [e0, e1] at n2 a2 hq ⊢
    unfold history_states_answer_k1
    simp only
    rw [ck_pos hq.1, ck_pos (by omega), ck_pos hop.1, ck_pos (by omega), ck_pos (by omega), ck_pos (by omega), if_neg (by simp)]
    unfold history_states_answer_k2
    simp only
    rw [ck_pos hq.1, ck_pos (by omega), ck_pos hop.1, ck_pos (by omega)]
    unfold stTo; rw [if_neg h0]; rfl

theorem allow_eq (hs : okSs specs = true) {c : HC6} (hc : canC specs c = true) {p : Pl} (hp : okP2 specs p.1) :
    history_states_allow specs c p = some (alwB specs p.1 c, goOf specs p.1 c) := by
  unfold history_states_allow alwB
  rw [answer8_eq hs hc hp, Option.bind_some]
  by_cases h0 : c.2.2.2.2.2 = 0
  · rw [if_pos (by rw [decide_eq_true h0]), decide_eq_true h0]; rfl
  · rw [if_neg (by rw [decide_eq_false h0]; simp), decide_eq_false h0]; rfl

theorem scanI {S R : Type} (n : Nat) (I : Nat → S → Prop) (G : R → Prop) {body : Int × S → Option (Step (Int × S) R)} {s0 : S} (h0 : I 0 s0)
    (h : ∀ (k : Nat) (s : S), k < n → I k s → (∃ s', body ((k : Int), s) = some (.next ((k : Int) + 1, s')) ∧ I (k + 1) s') ∨ ∃ r, body ((k : Int), s) = some (.done r) ∧ G r)
    (hd : ∀ s, I n s → ∃ r, body ((n : Int), s) = some (.done r) ∧ G r) : ∃ r, whileO body (0, s0) = some r ∧ G r := by
  refine whileO_inv (S := Int × S) (fun s : Int × S => ∃ k : Nat, s.1 = (k : Int) ∧ k ≤ n ∧ I k s.2) (fun s : Int × S => n - s.1.toNat) G ?_ (0, s0) ⟨0, rfl, Nat.zero_le _, h0⟩
  rintro ⟨q, s⟩ ⟨k, hq, hk, hI⟩
  simp only at hq hI
  subst hq
  by_cases hlt : k < n
  · rcases h k s hlt hI with ⟨s', h1, h2⟩ | h1
    · exact .inl ⟨_, h1, ⟨k + 1, by simp, by omega, h2⟩, by simp; omega⟩
    · exact .inr h1
  · have : k = n := by omega
    subst this
    exact .inr (hd s hI)

/-- What a loop over the steps from a place does. -/
theorem steps_scan (hs : okSs specs = true) (hl : h.length ≤ 8) (hc : ∀ i, i < h.length → canC specs (hAt h i) = true) {p : Pl} (hp : okPl specs p) {S R : Type} (yl : Int × Pl → S → Option (Step S R)) (I : Nat → S → Prop) (G : R → Prop) {s0 : S} (h0 : I 0 s0)
    (hn : ∀ k, k < h.length → ∀ s, nxt specs h p k = none → I k s → I (k + 1) s)
    (hy : ∀ k, k < h.length → ∀ s q, nxt specs h p k = some q → I k s → (∃ s', yl ((k : Int), q) s = some (.next s') ∧ I (k + 1) s') ∨ ∃ r, yl ((k : Int), q) s = some (.done r) ∧ G r) :
    ∃ x, history_search_steps_1 S R specs h p yl s0 = some x ∧ match x with
      | .inl s => I h.length s
      | .inr r => G r := by
  obtain ⟨r, er, hr⟩ := scanI (R := Sum R S) h.length I (fun x : Sum R S => match x with
      | .inl r => G r
      | .inr s => I h.length s) (body := history_search_steps_1_b1 S R specs h p yl) (s0 := s0) h0 (fun k s hk hI => by
    unfold history_search_steps_1_b1
    simp only
    rw [if_pos (by simpa using hk), ck_pos (by omega), ck_pos (by omega), ready_eq hl hp hk, Option.bind_some, Int.toNat_natCast]
    cases hr : readyB h p.2 k with
    | false =>
      rw [if_pos (by rfl), ck_pos (inK_small (by omega))]
      exact .inl ⟨_, rfl, hn k hk s (by unfold nxt; rw [hr]; rfl) hI⟩
    | true =>
      have ha := allow_eq hs (hc k hk) hp.1
      rw [if_neg (by simp), show h.getD k (0, 0, 0, 0, 0, 0) = hAt h k from rfl, ha, Option.bind_some]
      cases hw : alwB specs p.1 (hAt h k) with
      | false =>
        simp only
        rw [if_pos (by rfl), ck_pos (inK_small (by omega))]
        exact .inl ⟨_, rfl, hn k hk s (by unfold nxt; rw [hr, hw]; rfl) hI⟩
      | true =>
        simp only
        rw [if_neg (by simp), ck_pos (by omega), ior_eq hp.2.1 (by omega)]
        rcases hy k hk s (goOf specs p.1 (hAt h k), putB p.2 k) (by unfold nxt; rw [hr, hw]; rfl) hI with ⟨s', e, hI'⟩ | ⟨r, e, hG⟩
        · rw [e, Option.bind_some]
          simp only
          rw [ck_pos (inK_small (by omega))]
          exact .inl ⟨_, rfl, hI'⟩
        · rw [e, Option.bind_some]
          exact .inr ⟨_, rfl, hG⟩) (fun s hI => by
    unfold history_search_steps_1_b1
    rw [if_neg (by simp)]
    exact ⟨_, rfl, hI⟩)
  unfold history_search_steps_1
  rw [er, Option.bind_some]
  cases r with
  | inl r => exact ⟨_, rfl, hr⟩
  | inr s => exact ⟨_, rfl, hr⟩

/-! ### How many orders -/

def sumTo (f : Nat → Nat) : Nat → Nat
  | 0 => 0
  | k + 1 => sumTo f k + f k

theorem sumTo_le (f : Nat → Nat) {k n : Nat} (h : k ≤ n) : sumTo f k ≤ sumTo f n := by
  induction n with
  | zero => have : k = 0 := by omega
            subst this; exact Nat.le_refl _
  | succ n ih =>
    by_cases e : k = n + 1
    · subst e; exact Nat.le_refl _
    · have := ih (by omega); show sumTo f k ≤ sumTo f n + f n; omega

def contrib (V : Pl → Nat) (o : Option Pl) : Nat := match o with
  | none => 0
  | some q => V q

def Mem (V : Pl → Nat) (M : List (Pl × Int)) : Prop := ∀ p, mhas M p = true → mget 0 M p = (V p : Int)

theorem mhas_put : ∀ (M : List (Pl × Int)) (p q : Pl) (v : Int), mhas (mput M p v) q = (decide (p = q) || mhas M q)
  | [], p, q, v => by simp [mput, mhas]
  | (k, w) :: r, p, q, v => by
    unfold mput
    by_cases h1 : k = p
    · subst h1
      rw [if_pos rfl]
      unfold mhas
      by_cases h2 : k = q <;> simp [h2]
    · rw [if_neg h1]
      unfold mhas
      by_cases h2 : k = q
      · simp [h2]
      · simp [h2, mhas_put r p q v]

theorem mget_put : ∀ (M : List (Pl × Int)) (p q : Pl) (v : Int), mget 0 (mput M p v) q = if p = q then v else mget 0 M q
  | [], p, q, v => by simp [mput, mget]
  | (k, w) :: r, p, q, v => by
    unfold mput
    by_cases h1 : k = p
    · subst h1
      rw [if_pos rfl]
      unfold mget
      by_cases h2 : k = q <;> simp [h2]
    · rw [if_neg h1]
      unfold mget
      by_cases h2 : k = q
      · subst h2
        rw [if_pos rfl, if_pos rfl, if_neg (fun e => h1 e.symm)]
      · simp [h2, mget_put r p q v]

theorem Mem.put {V : Pl → Nat} {M : List (Pl × Int)} (hM : Mem V M) (p : Pl) : Mem V (mput M p (V p : Int)) := fun q hq => by
  rw [mhas_put] at hq
  rw [mget_put]
  by_cases e : p = q
  · subst e; rw [if_pos rfl]
  · rw [if_neg e]
    refine hM q ?_
    simpa [e] using hq

/-- The count from a place, with what is known, is what V says, if V is what is said of the next places. -/
theorem count_eq (hs : okSs specs = true) (hl : h.length ≤ 8) (hc : ∀ i, i < h.length → canC specs (hAt h i) = true) (ok : Pl → Prop) (V μ : Pl → Nat) (hok : ∀ p, ok p → okPl specs p)
    (hstep : ∀ p, ok p → ∀ i q, i < h.length → nxt specs h p i = some q → ok q ∧ μ q < μ p)
    (hV : ∀ p, ok p → V p = (if fullB h p.2 = true then 1 else 0) + sumTo (fun i => contrib V (nxt specs h p i)) h.length) (hb : ∀ p, ok p → V p ≤ 1000000000) :
    ∀ (m : Nat) (p : Pl), ok p → μ p ≤ m → ∀ n, m < n → ∀ M, Mem V M → ∃ M', history_search_count n specs h p M = some ((V p : Int), M') ∧ Mem V M' := by
  intro m
  induction m using Nat.strongRecOn with
  | _ m ih =>
    intro p hp hm n hn M hM
    obtain ⟨n, rfl⟩ : ∃ n', n = n' + 1 := ⟨n - 1, by omega⟩
    have hpl := hok p hp
    show ∃ M', history_search_countF (history_search_count n) specs h p M = some ((V p : Int), M') ∧ Mem V M'
    have w := hpl.2
    have hi1 : InK .i64 p.1.1 := by rw [inK_i64]; omega
    have hi2 : InK .i64 p.1.2 := by rw [inK_i64]; omega
    have hi3 : InK .u64 p.2 := by rw [inK_u64]; omega
    unfold history_search_countF
    rw [ck_pos hi1, ck_pos hi2, ck_pos hi3]
    cases hh : mhas M p with
    | true =>
      rw [if_pos rfl]
      exact ⟨M, by rw [hM p hh], hM⟩
    | false =>
      rw [if_neg (by simp), full_eq hl hpl, Option.bind_some]
      have main : ∀ b0 : Nat, b0 = (if fullB h p.2 = true then 1 else 0) → ∃ M', history_search_count_k1 (history_search_count n) specs h p M (b0 : Int) = some ((V p : Int), M') ∧ Mem V M' := by
        intro b0 hb0
        have hVp := hV p hp
        have hbp := hb p hp
        obtain ⟨x, ex, hx⟩ := steps_scan (S := List (Pl × Int) × Int) (R := Empty) hs hl hc hpl (history_search_count_y1 (history_search_count n) specs h) (fun k s => Mem V s.1 ∧ s.2 = ((b0 + sumTo (fun i => contrib V (nxt specs h p i)) k : Nat) : Int)) (fun _ => True) (s0 := (M, (b0 : Int))) ⟨hM, by simp [sumTo]⟩
          (fun k hk s hnx ⟨h1, h2⟩ => ⟨h1, by rw [h2]; show _ = ((b0 + (sumTo _ k + contrib V (nxt specs h p k)) : Nat) : Int); rw [hnx]; rfl⟩)
          (fun k hk s q hnx ⟨h1, h2⟩ => by
            obtain ⟨o1, o2⟩ := hstep p hp k q hk hnx
            obtain ⟨M', e, hM'⟩ := ih (μ q) (by omega) q o1 (Nat.le_refl _) n (by omega) s.1 h1
            refine .inl ?_
            unfold history_search_count_y1
            simp only
            rw [e, Option.bind_some]
            simp only
            have hle := sumTo_le (fun i => contrib V (nxt specs h p i)) (k := k + 1) (n := h.length) (by omega)
            have e1 : sumTo (fun i => contrib V (nxt specs h p i)) (k + 1) = sumTo (fun i => contrib V (nxt specs h p i)) k + V q := by
              show sumTo _ k + contrib V (nxt specs h p k) = _
              rw [hnx]; rfl
            have e2 : s.2 + (V q : Int) = ((b0 + sumTo (fun i => contrib V (nxt specs h p i)) (k + 1) : Nat) : Int) := by
              rw [h2, e1]; omega
            rw [e2]
            rw [ck_pos (by rw [inK_i64]; omega)]
            exact ⟨_, rfl, hM', rfl⟩)
        unfold history_search_count_k1
        rw [show history_search_steps specs h p = some () from rfl, Option.bind_some, ex, Option.bind_some]
        cases x with
        | inr r => exact r.elim
        | inl s =>
          obtain ⟨h1, h2⟩ := hx
          have e3 : s.2 = (V p : Int) := by rw [h2, hVp, hb0]
          simp only
          unfold history_search_count_k2
          rw [ck_pos hi1, ck_pos hi2, ck_pos hi3, e3]
          exact ⟨_, rfl, h1.put p⟩
      cases hf : fullB h p.2 with
      | true => rw [if_pos rfl]; exact main 1 (by rw [hf]; rfl)
      | false => rw [if_neg (by simp)]; exact main 0 (by rw [hf]; rfl)

theorem nxt_ok (hs : okSs specs = true) {p q : Pl} (hp : okPl specs p) {i : Nat} (hi : i < 8) (hc : canC specs (hAt h i) = true) (e : nxt specs h p i = some q) : okPl specs q := by
  unfold nxt at e
  split at e
  · injection e with e
    subst e
    obtain ⟨_, ho, hop⟩ := canC_parts hc
    have hl2 := okSs_len hs
    have hsp := ok_parts (okSs_at hs ho)
    obtain ⟨_, _, n3⟩ := tab_at hsp.2.2.2.2.1 (hp.1 _ ho.1 ho.2) hop
    unfold inR at n3
    have n4 := of_decide_eq_true n3
    have n5 : 0 ≤ nexS (spAt specs (hAt h i).2.1) (stOf p.1 (hAt h i).2.1) (hAt h i).2.2.1 ∧ nexS (spAt specs (hAt h i).2.1) (stOf p.1 (hAt h i).2.1) (hAt h i).2.2.1 ≤ 8 := ⟨n4.1, by have := n4.2; unfold nexS; omega⟩
    refine ⟨okP2_to hs hc hp.1, putB_in hp.2.1 hi, ?_⟩
    unfold goOf stTo
    have := hp.2.2
    split <;> simp only <;> omega
  · cases e

end

end Go.Proofs.Ytlfpagicagmjgaa
