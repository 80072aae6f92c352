/-
  Layer 2, pure: the reference's search is that fold.
-/
import Derived.Test.YtlfpagicagmjgaaH19
import Derived.Test.YtlfpagicagmjgaaH7
namespace Go.Proofs.Ytlfpagicagmjgaa
open Go.RowKit

set_option linter.unusedVariables false
set_option linter.unusedSimpArgs false
set_option maxRecDepth 10000

/-- Rounds that are told beforehand; some may be the last one. -/
theorem upToE {S R : Type} (n : Nat) (body : S → Option (Step S R)) (st : Nat → S) (r : R) (h : ∀ k, k < n → body (st k) = some (.next (st (k + 1))) ∨ body (st k) = some (.done r)) (hd : body (st n) = some (.done r)) : whileO body (st 0) = some r := by
  have key : ∀ j k, k + j = n → ∃ m, whileN body m (st k) = some r := by
    intro j
    induction j with
    | zero => intro k hk; refine ⟨1, ?_⟩; have : k = n := by omega
              subst this; simp [whileN, hd]
    | succ j ih =>
      intro k hk
      rcases h k (by omega) with e | e
      · obtain ⟨m, hm⟩ := ih (k + 1) (by omega)
        exact ⟨m + 1, by simp [whileN, e, hm]⟩
      · exact ⟨1, by simp [whileN, e]⟩
  obtain ⟨m, hm⟩ := key n 0 (by omega)
  exact whileO_of hm

def qT (thr : Bool) : HC6 → HC6 → Bool := if thr = true then thrB else bef

theorem has_eq (l : List Int) (n : Int) (hl : l.length ≤ 1000) : linealref02_has l n = some (l.contains n) := by
  have e : l.contains n = !allB l.length fun k => !decide (l.getD k 0 = n) := by
    rw [Bool.eq_iff_iff, Bool.not_eq_true', ← Bool.not_eq_true, allB_iff]
    constructor
    · intro hc hall
      have hm : n ∈ l := by simpa using hc
      obtain ⟨k, hk, e⟩ := List.getElem_of_mem hm
      have := hall k hk
      rw [List.getD_eq_getElem?_getD, List.getElem?_eq_getElem hk] at this
      simp [e] at this
    · intro hn
      have : ∃ k, k < l.length ∧ ¬ (!decide (l.getD k 0 = n)) = true := Classical.byContradiction fun hne => hn fun k hk => Classical.byContradiction fun hc => hne ⟨k, hk, hc⟩
      obtain ⟨k, hk, e⟩ := this
      have e2 : l.getD k 0 = n := by simpa using e
      rw [List.getD_eq_getElem?_getD, List.getElem?_eq_getElem hk] at e2
      have e3 : l[k] = n := e2
      have : n ∈ l := e3 ▸ List.getElem_mem hk
      simpa using this
  unfold linealref02_has
  rw [loopB (body := linealref02_has_b1 l n) l.length (fun k => !decide (l.getD k 0 = n)) (fun k hk => ?_) (by unfold linealref02_has_b1; rw [if_neg (by simp)]), Option.bind_some, e]
  · cases allB l.length (fun k => !decide (l.getD k 0 = n)) <;> rfl
  · unfold linealref02_has_b1
    rw [if_pos (by simpa using hk), ck_pos (by omega), ck_pos (by omega), Int.toNat_natCast]
    by_cases e : l.getD k 0 = n
    · rw [if_pos (decide_eq_true e), decide_eq_true e]; rfl
    · rw [if_neg (by simpa using e), decide_eq_false e, ck_pos (inK_small (by omega))]; rfl

section
variable {specs : List Tup} {h : List HC6}

theorem add_in {q : HC6 → HC6 → Bool} {l : List Int} (G : GoodL q specs h l) {i : Nat} (hi : i < h.length) : ∀ x ∈ l ++ [(i : Int)], 0 ≤ x ∧ x < (h.length : Int) := fun x hx => by
  rcases List.mem_append.1 hx with hx | hx
  · exact G.inr x hx
  · rw [List.mem_singleton] at hx; omega

theorem in_get {l : List Int} (hin : ∀ x ∈ l, 0 ≤ x ∧ x < (h.length : Int)) : ∀ k, k < l.length → 0 ≤ l.getD k 0 ∧ l.getD k 0 < (h.length : Int) := fun k hk => by
  have e : l.getD k 0 = l[k] := by rw [List.getD_eq_getElem?_getD, List.getElem?_eq_getElem hk]; rfl
  rw [e]; exact hin _ (List.getElem_mem hk)

theorem from_k3 (hs : okSs specs = true) (hl8 : h.length ≤ 8) (hc : ∀ i, i < h.length → canC specs (hAt h i) = true) {thr one : Bool} {l : List Int} (G : GoodL (qT thr) specs h l) {i : Nat} (hi : i < h.length)
    (slf : List Int → Bool → List Tup → List HC6 → Bool → Int → List Int → Option (Bool × Int × List Int)) (s t : Nat × List Int)
    (hy : addB (qT thr) specs h l (i : Int) = true → slf (l ++ [(i : Int)]) one specs h thr (s.1 : Int) s.2 = some (thr, (t.1 : Int), t.2)) (hn : addB (qT thr) specs h l (i : Int) = false → t = s) :
    linealref02_search_from_2_k3 slf l specs h (thr, (s.1 : Int), s.2, one, (i : Int)) one = some (.next (thr, (t.1 : Int), t.2, one, ((i + 1 : Nat) : Int))) := by
  have hll := len_le G
  have hin := add_in G hi
  have hlen : (l ++ [(i : Int)]).length ≤ 1000 := by rw [List.length_append, List.length_singleton]; omega
  have hk : InK .i64 ((i : Int) + 1) := inK_small (by omega)
  have ei : ((i + 1 : Nat) : Int) = (i : Int) + 1 := by omega
  unfold linealref02_search_from_2_k3
  simp only
  rw [ck_pos (by omega), ck_pos (by omega), has_eq l _ (by omega), Option.bind_some, ei]
  unfold addB at hy hn
  cases h1 : l.contains (i : Int) with
  | true =>
    rw [h1] at hn
    rw [if_neg (by simp), ck_pos hk, hn (by rfl)]
  | false =>
    rw [h1] at hy hn
    simp only [Bool.not_false, Bool.true_and] at hy hn
    rw [if_pos (by rfl), rallows_eq hs hc hlen hin, Option.bind_some]
    cases h2 : alwL specs h (0, 0) (l ++ [(i : Int)]) with
    | false =>
      rw [h2] at hn
      rw [if_neg (by simp), ck_pos hk, hn (by rfl)]
    | true =>
      rw [h2] at hy hn
      simp only [Bool.true_and] at hy hn
      rw [if_pos rfl]
      cases thr with
      | true =>
        have hq : qT true = thrB := rfl
        rw [hq] at hy hn
        rw [if_pos rfl, keepsThreads_in h _ hlen (in_get hin), Option.bind_some]
        cases h3 : keepB thrB h (l ++ [(i : Int)]) with
        | false => rw [if_neg (by simp), ck_pos hk, hn h3]
        | true => rw [if_pos rfl, hy h3, Option.bind_some]; simp only; rw [ck_pos hk]
      | false =>
        have hq : qT false = bef := rfl
        rw [hq] at hy hn
        rw [if_neg (by simp), keepsTime_in h _ hlen (in_get hin), Option.bind_some]
        cases h3 : keepB bef h (l ++ [(i : Int)]) with
        | false => rw [if_neg (by simp), ck_pos hk, hn h3]
        | true => rw [if_pos rfl, hy h3, Option.bind_some]; simp only; rw [ck_pos hk]

theorem from_eq (hs : okSs specs = true) (hl8 : h.length ≤ 8) (hc : ∀ i, i < h.length → canC specs (hAt h i) = true) (thr one : Bool) :
    ∀ (d : Nat) (l : List Int), GoodL (qT thr) specs h l → h.length < d + l.length → ∀ (n : Nat), d ≤ n → ∀ (found : Nat) (first : List Int), found + 9 ^ d ≤ 1000000000000 →
      linealref02_search_from_2 n l one specs h thr (found : Int) first = some (thr, ((rsF (qT thr) specs h one d l (found, first)).1 : Int), (rsF (qT thr) specs h one d l (found, first)).2) := by
  intro d
  induction d with
  | zero => intro l G hd; have := len_le G; omega
  | succ d ih =>
    intro l G hd n hn found first hb
    obtain ⟨n, rfl⟩ : ∃ n', n = n' + 1 := ⟨n - 1, by omega⟩
    have hll := len_le G
    have e9 : 9 ^ (d + 1) = 9 * 9 ^ d := by rw [Nat.pow_succ, Nat.mul_comm]
    have e1 : 1 ≤ 9 ^ d := Nat.one_le_pow _ _ (by decide)
    show linealref02_search_from_2F (linealref02_search_from_2 n) l one specs h thr (found : Int) first = _
    rw [rsF_succ]
    generalize hF : (fun (i : Nat) (s : Nat × List Int) => if (one && decide (0 < s.1)) = true then s else if addB (qT thr) specs h l (i : Int) = true then rsF (qT thr) specs h one d (l ++ [(i : Int)]) s else s) = F
    have hFs : ∀ i (s' : Nat × List Int), one = true → 0 < s'.1 → F i s' = s' := fun i s' ho hp => by
      rw [← hF]
      dsimp only
      rw [ho, decide_eq_true hp, if_pos (by rfl)]
    have hFb : ∀ i (s' : Nat × List Int), (F i s').1 ≤ s'.1 + 9 ^ d := fun i s' => by
      rw [← hF]
      dsimp only
      split
      · omega
      · split
        · exact rs_bound hl8 d _ _
        · omega
    have k1 : ∀ s : Nat × List Int, s.1 ≤ found + 1 → linealref02_search_from_2_k1 (linealref02_search_from_2 n) l one specs h thr ((s.1 : Int), s.2) = some (thr, ((rsTo F h.length s).1 : Int), (rsTo F h.length s).2) := by
      intro s hsf
      have hbd : ∀ k, k ≤ h.length → (rsTo F k s).1 ≤ s.1 + k * 9 ^ d := by
        intro k
        induction k with
        | zero => intro _; rw [Nat.zero_mul]; exact Nat.le_refl _
        | succ k ihk =>
          intro hk
          have := ihk (by omega)
          show (F k (rsTo F k s)).1 ≤ _
          have h2 := hFb k (rsTo F k s)
          rw [Nat.add_mul]
          omega
      have hstop : ∀ k, k ≤ h.length → one = true → 0 < (rsTo F k s).1 → rsTo F h.length s = rsTo F k s := by
        intro k hk ho hp
        have : ∀ j, k + j ≤ h.length → rsTo F (k + j) s = rsTo F k s := by
          intro j
          induction j with
          | zero => intro _; rfl
          | succ j ihj =>
            intro hj
            show F (k + j) (rsTo F (k + j) s) = _
            rw [ihj (by omega)]
            exact hFs _ _ ho hp
        have := this (h.length - k) (by omega)
        rwa [show k + (h.length - k) = h.length by omega] at this
      unfold linealref02_search_from_2_k1
      have hloop := upToE h.length (linealref02_search_from_2_b1 (linealref02_search_from_2 n) l specs h) (fun k => (thr, ((rsTo F k s).1 : Int), (rsTo F k s).2, one, ((k : Nat) : Int))) ((rsTo F h.length s).2, thr, ((rsTo F h.length s).1 : Int)) (fun k hk => by
        have hk3 : (one = true → (rsTo F k s).1 = 0) → linealref02_search_from_2_k3 (linealref02_search_from_2 n) l specs h (thr, ((rsTo F k s).1 : Int), (rsTo F k s).2, one, ((k : Nat) : Int)) one = some (.next (thr, ((rsTo F (k + 1) s).1 : Int), (rsTo F (k + 1) s).2, one, ((k + 1 : Nat) : Int))) := fun h0 => by
          have hg : ∀ s' : Nat × List Int, (one = true → s'.1 = 0) → F k s' = if addB (qT thr) specs h l (k : Int) = true then rsF (qT thr) specs h one d (l ++ [(k : Int)]) s' else s' := fun s' h0' => by
            rw [← hF]
            dsimp only
            rw [if_neg]
            cases one with
            | false => simp
            | true => rw [h0' rfl]; simp
          refine from_k3 hs hl8 hc G hk (linealref02_search_from_2 n) (rsTo F k s) (rsTo F (k + 1) s) (fun ha => ?_) (fun ha => ?_)
          · have hb2 := hbd k (by omega)
            have hb3 : k * 9 ^ d ≤ 7 * 9 ^ d := Nat.mul_le_mul_right _ (by omega)
            rw [ih _ (good_add hs hl8 hc G hk ha) (by rw [List.length_append, List.length_singleton]; omega) n (by omega) _ _ (by omega)]
            show _ = some (thr, ((F k (rsTo F k s)).1 : Int), (F k (rsTo F k s)).2)
            rw [hg _ h0, if_pos ha]
          · show F k (rsTo F k s) = _
            rw [hg _ h0, ha, if_neg (by simp)]
        unfold linealref02_search_from_2_b1
        simp only
        rw [if_pos (by simpa using hk)]
        cases one with
        | false => rw [if_neg (by simp)]; exact .inl (hk3 (fun hc => by cases hc))
        | true =>
          rw [if_pos rfl]
          by_cases hp : 0 < (rsTo F k s).1
          · rw [if_neg (by simp; omega), hstop k (by omega) rfl hp]; exact .inr rfl
          · rw [if_pos (by simp; omega)]; exact .inl (hk3 fun _ => by omega)) (by
        unfold linealref02_search_from_2_b1
        simp only
        rw [if_neg (by simp)])
      rw [show ((thr, (s.1 : Int), s.2, one, (0 : Int)) : Bool × Int × List Int × Bool × Int) = (fun k => (thr, ((rsTo F k s).1 : Int), (rsTo F k s).2, one, ((k : Nat) : Int))) 0 from rfl, hloop]
      rfl
    unfold linealref02_search_from_2F
    rw [isList_eq h (by omega) l (by omega), Option.bind_some]
    unfold rs0
    cases ho : ordB h l with
    | false => rw [if_neg (by simp), if_neg (by simp)]; exact k1 (found, first) (Nat.le_succ _)
    | true =>
      have hk : InK .i64 ((found : Int) + 1) := by rw [inK_i64]; omega
      have ef : ((found : Int) + 1) = ((found + 1 : Nat) : Int) := by omega
      rw [if_pos rfl, if_pos rfl]
      unfold linealref02_search_from_2_k2
      by_cases h0 : found = 0
      · subst h0
        rw [if_pos (by rfl), ck_pos (by omega), ck_pos hk, ef]
        exact k1 (0 + 1, l) (by simp)
      · rw [if_neg (by simp; omega), ck_pos hk, ef]
        have := k1 (found + 1, first) (by simp)
        rw [this]
        show some (thr, ((rsTo F h.length (found + 1, first)).1 : Int), _) = _
        simp only [if_neg h0]

theorem good_nil (hs : okSs specs = true) (q : HC6 → HC6 → Bool) : GoodL q specs h [] := ⟨fun x hx => by simp at hx, List.nodup_nil, rfl, rfl, okPl_zero hs⟩
theorem live_nil (q : HC6 → HC6 → Bool) : LiveL q h [] := fun x hx => by simp at hx

theorem from0_eq (hs : okSs specs = true) (hl8 : h.length ≤ 8) (hc : ∀ i, i < h.length → canC specs (hAt h i) = true) (thr one : Bool) :
    linealref02_search_from [] one specs h thr 0 = some (thr, ((rsF (qT thr) specs h one 9 [] (0, [])).1 : Int), (rsF (qT thr) specs h one 9 [] (0, [])).2) := by
  have := from_eq hs hl8 hc thr one 9 [] (good_nil hs _) (by rw [List.length_nil]; omega) (fuel + 1) (by decide) 0 [] (by decide)
  exact this

end
end Go.Proofs.Ytlfpagicagmjgaa
