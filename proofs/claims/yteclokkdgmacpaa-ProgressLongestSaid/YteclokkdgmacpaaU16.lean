/-
  Layer 7, pure: along a path ranks fall: ProgressLongest answers true.
-/
import Derived.Test.YteclokkdgmacpaaU15
namespace Go.Proofs.Yteclokkdgmacpaa
open Go.RowKit

set_option linter.unusedVariables false
set_option linter.unusedSimpArgs false
set_option linter.unusedSectionVars false
set_option maxRecDepth 10000

theorem fold_loop {α S T R : Type} (xs : List α) (st : S → Int → T) (f : S → α → S) (out : S → R) (P : Nat → S → Prop) {body : T → Option (Step T R)} (h : ∀ (k : Nat) (x : α) (s : S), xs[k]? = some x → P k s → body (st s (k : Int)) = some (.next (st (f s x) ((k : Int) + 1))) ∧ P (k + 1) (f s x)) (hd : ∀ s, body (st s (xs.length : Int)) = some (.done (out s))) :
    ∀ (d k : Nat) (s : S), xs.length - k = d → k ≤ xs.length → P k s → whileO body (st s (k : Int)) = some (out ((xs.drop k).foldl f s)) := by
  intro d
  induction d with
  | zero =>
    intro k s h1 h2 hP
    have : k = xs.length := by omega
    subst this
    rw [List.drop_length]
    exact whileO_end (hd s)
  | succ d ih =>
    intro k s h1 h2 hP
    have hlt : k < xs.length := by omega
    rw [List.drop_eq_getElem_cons hlt, List.foldl_cons]
    obtain ⟨b1, b2⟩ := h k _ s (List.getElem?_eq_getElem hlt) hP
    refine whileO_on b1 ?_
    have e : ((k : Int) + 1) = ((k + 1 : Nat) : Int) := by omega
    rw [e]
    exact ih (k + 1) _ (by omega) (by omega) b2

theorem max_ge : ∀ (xs : List Int) (m : Int), m ≤ xs.foldl max m ∧ ∀ x ∈ xs, x ≤ xs.foldl max m
  | [], m => ⟨Int.le_refl _, by simp⟩
  | a :: xs, m => by
    obtain ⟨h1, h2⟩ := max_ge xs (max m a)
    rw [List.foldl_cons]
    refine ⟨by omega, fun x hx => ?_⟩
    rcases List.mem_cons.1 hx with e | hx
    · rw [e]; omega
    · exact h2 x hx
theorem max_le : ∀ (xs : List Int) (m B : Int), m ≤ B → (∀ x ∈ xs, x ≤ B) → xs.foldl max m ≤ B
  | [], m, B, h, _ => h
  | a :: xs, m, B, h, hx => by
    rw [List.foldl_cons]
    have := hx a (by simp)
    exact max_le xs (max m a) B (by omega) fun x h => hx x (by simp [h])

theorem max_map (f : Int → Int) : ∀ (xs : List Int) (m : Int), xs.foldl (fun m p => max m (f p)) m = (xs.map f).foldl max m
  | [], m => rfl
  | a :: xs, m => by rw [List.foldl_cons, List.map_cons, List.foldl_cons, max_map f xs]

section
variable {g : Gr} (hg : GOK g)
include hg

theorem max_reach {C : Clm} {L : List Int} (hL : Least C g L) : (reachL g).foldl (fun m p => max m (rAt L p)) 0 = maxL L := by
  have hl := hL.len
  rw [max_map]
  unfold maxL
  refine Int.le_antisymm (max_le _ _ _ (max_ge L 0).1 fun x hx => ?_) (max_le _ _ _ (max_ge _ 0).1 fun x hx => ?_)
  · obtain ⟨p, hp, rfl⟩ := List.mem_map.1 hx
    have := reachL_in hg hp
    exact (max_ge L 0).2 _ (rAt_mem this.1 (by omega))
  · obtain ⟨i, hi, rfl⟩ := List.mem_iff_getElem.1 hx
    have e : rAt L (i : Int) = L[i] := by
      unfold rAt
      rw [Int.toNat_natCast, getD_of (List.getElem?_eq_getElem hi)]
    by_cases hr : R0 g (i : Int)
    · refine (max_ge _ 0).2 _ ?_
      rw [← e]
      exact List.mem_map.2 ⟨(i : Int), reachL_mem.2 hr, rfl⟩
    · have := hL.zer (i : Int) (by omega) (by omega) hr
      rw [← e, this]
      exact (max_ge _ 0).1

theorem top_eq {c t : Int} (h : ask g c t = 0) : lineallaw07_top (rksR g c t).1 (reachL g) (grR g c t).1 (grR g c t).2 = some true := by
  have hrl := reachL_len hg
  have hhi := hg.hi
  unfold lineallaw07_top
  rcases either h with ⟨k1, ⟨L, hL, k2⟩, k3⟩ | ⟨k1, k2, _⟩
  · have hl := hL.len
    have eg : grR g c t = (maxL L, 0) := by unfold grR; rw [k2]; rfl
    rw [k2, eg, if_neg (by simp)]
    have key := fold_loop (reachL g) (fun (s : Int) (k : Int) => (s, k)) (fun m p => max m (rAt L p)) (Sum.inr : Int → Sum Unit Int) (fun _ _ => True) (body := lineallaw07_top_b1 L (reachL g)) (fun k p s hk _ => by
      have hlt := (List.getElem?_eq_some_iff.1 hk).1
      have hp := reachL_in hg (List.mem_of_getElem? hk)
      refine ⟨?_, trivial⟩
      unfold lineallaw07_top_b1
      simp only [Int.toNat_natCast, getD_of hk]
      rw [if_pos (by rw [decide_eq_true_eq]; omega), ck_pos (by omega), ck_pos (by omega), if_neg (by rw [decide_eq_true_eq]; omega), if_neg (by rw [decide_eq_true_eq]; omega), ck_pos (by omega), ck_pos (by omega), ck_pos (by rw [inK_i64]; omega)]
      rfl) (fun s => by
      unfold lineallaw07_top_b1
      simp only
      rw [if_neg (by simp)]) (reachL g).length 0 0 (by simp) (by simp) trivial
    have e0 : ((0 : Nat) : Int) = 0 := rfl
    rw [e0, List.drop_zero, max_reach hg hL] at key
    rw [key]
    show lineallaw07_top_k1 (maxL L) (maxL L) = _
    unfold lineallaw07_top_k1
    rw [decide_eq_true rfl]
  · have eg : grR g c t = (0, 5) := by unfold grR; rw [k2]; rfl
    rw [k2, eg, if_pos (by simp), if_pos (by simp)]
    rfl

theorem grR_two {c t : Int} (h : ask g c t = 0) : (grR g c t).2 = (rksR g c t).2 ∧ ((rksR g c t).2 = 0 ∨ (rksR g c t).2 = 5) := by
  unfold grR
  rcases either h with ⟨k1, ⟨L, hL, k2⟩, k3⟩ | ⟨k1, k2, _⟩
  · rw [k2]; exact ⟨rfl, .inl rfl⟩
  · rw [k2]; exact ⟨rfl, .inr rfl⟩

/-- Along a path ranks fall. -/
theorem lead_rank {C : Clm} {r : List Int} (hp : Prv C g r) : ∀ (l : List Int) (p q : Int), R0 g p → leadL g p l = some q → (∀ i ∈ l, C.goes (mvAt g i) = true) → rAt r q + (l.map fun i => wt C (mvAt g i)).sum ≤ rAt r p
  | [], p, q, _, h, _ => by injection h with h; subst h; simp
  | i :: l, p, q, hr, h, ha => by
    rw [leadL_cons] at h
    split at h
    · rename_i hc
      have hm := mvAt_in hc.1
      have e : (mvAt g i).1 = p := hc.2
      have hr' : R0 g (mvAt g i).1 := by rw [e]; exact hr
      have h1 := hp _ hm hr'
      have hgo := ha i (by simp)
      rw [lst_goes hgo, e] at h1
      have h2 := lead_rank hp l _ q (R0_step hg hm hr') h fun j hj => ha j (by simp [hj])
      rw [List.map_cons, List.sum_cons]
      omega
    · cases h
end

/-- What the law counts along a path. -/
def lgS (g : Gr) (t : Int) (s : Bool × Bool × Int) (i : Int) : Bool × Bool × Int := (s.1 && k0 (mvAt g i), s.2.1 && notOwn t (mvAt g i), s.2.2 + if (mvAt g i).2.1 = t then 1 else 0)
def cntT (g : Gr) (t : Int) (l : List Int) : Int := (l.map fun i => if (mvAt g i).2.1 = t then (1 : Int) else 0).sum
theorem lgS_fold (g : Gr) (t : Int) : ∀ (l : List Int) (s : Bool × Bool × Int), l.foldl (lgS g t) s = (s.1 && l.all (fun i => k0 (mvAt g i)), s.2.1 && l.all (fun i => notOwn t (mvAt g i)), s.2.2 + cntT g t l)
  | [], s => by unfold cntT; simp
  | i :: l, s => by
    rw [List.foldl_cons, lgS_fold g t l]
    unfold lgS cntT
    rw [List.all_cons, List.all_cons, List.map_cons, List.sum_cons, Bool.and_assoc, Bool.and_assoc, Int.add_assoc]

theorem wt_all0 {g : Gr} {l : List Int} (h : ∀ i ∈ l, k0 (mvAt g i) = true) : (l.map fun i => wt (clm 0 0) (mvAt g i)).sum = l.length := by
  induction l with
  | nil => rfl
  | cons i l ih =>
    rw [List.map_cons, List.sum_cons, ih fun j hj => h j (by simp [hj])]
    have : wt (clm 0 0) (mvAt g i) = 1 := if_pos (h i (by simp))
    rw [this, List.length_cons]; omega
theorem wt_all1 {g : Gr} {t : Int} {l : List Int} (h : ∀ i ∈ l, notOwn t (mvAt g i) = true) : (l.map fun i => wt (clm 1 t) (mvAt g i)).sum = cntT g t l := by
  unfold cntT
  induction l with
  | nil => rfl
  | cons i l ih =>
    rw [List.map_cons, List.sum_cons, List.map_cons, List.sum_cons, ih fun j hj => h j (by simp [hj])]
    have hi := h i (by simp)
    have : wt (clm 1 t) (mvAt g i) = if (mvAt g i).2.1 = t then 1 else 0 := by
      show (if own t (mvAt g i) = true then (1 : Int) else 0) = _
      unfold own
      unfold notOwn at hi
      by_cases e : (mvAt g i).2.1 = t
      · rw [decide_eq_true e] at hi ⊢
        rw [if_pos e, Bool.true_and, if_pos (by simpa using hi)]
      · rw [decide_eq_false e, if_neg e, if_neg (by simp)]
    rw [this]

theorem Longest_k2 (path : List Int) (v7 v9 : Int × Int) (a b : Bool) (n : Int) (h1 : a = true → v7.2 = 0 → (path.length : Int) ≤ v7.1) (h2 : b = true → v9.2 = 0 → n ≤ v9.1) : lineallaw07_ProgressLongest_k2 path v7 v9 (a, b, n) = some true := by
  unfold lineallaw07_ProgressLongest_k2
  simp only [Awake8, Option.bind_some]
  cases a with
  | false =>
    rw [if_pos (by simp)]
    cases b with
    | false => rw [if_pos (by simp)]
    | true =>
      rw [if_neg (by simp)]
      by_cases e : v9.2 = 0
      · rw [if_neg (by simp [e]), if_pos (decide_eq_true (h2 rfl e))]
      · rw [if_pos (by simp [e])]
  | true =>
    rw [if_neg (by simp)]
    by_cases e7 : v7.2 = 0
    · rw [if_neg (by simp [e7]), if_pos (decide_eq_true (h1 rfl e7))]
      cases b with
      | false => rw [if_pos (by simp)]
      | true =>
        rw [if_neg (by simp)]
        by_cases e : v9.2 = 0
        · rw [if_neg (by simp [e]), if_pos (decide_eq_true (h2 rfl e))]
        · rw [if_pos (by simp [e])]
    · rw [if_pos (by simp [e7])]
      cases b with
      | false => rw [if_pos (by simp)]
      | true =>
        rw [if_neg (by simp)]
        by_cases e : v9.2 = 0
        · rw [if_neg (by simp [e]), if_pos (decide_eq_true (h2 rfl e))]
        · rw [if_pos (by simp [e])]

theorem rIsPath_eq7 (g : Gr) (hz : okZ g) (ho : okG g = true) (l : List Int) : linealref07_IsPath g l = some (isPath g l, 0) := by
  unfold linealref07_IsPath
  rw [rValid_eq g hz, Option.bind_some, if_neg (by simp [ho]), risPath_eq]; rfl

theorem Longest_k1 {g : Gr} (hg : GOK g) (t : Int) (ht : 0 ≤ t ∧ t ≤ 255) (path : List Int) (e : Int) (e2 : Int) : lineallaw07_ProgressLongest_k1 g t path (grR g 0 0) (grR g 1 (t % 3)) (reachL g, e) (isPath g path, e2) = some true := by
  have a0 : ask g 0 0 = 0 := ask_of hg (by decide) (by decide) (fun _ => rfl)
  have a1 : ask g 1 (t % 3) = 0 := ask_of hg (by decide) (by omega) (fun h => absurd h (by decide))
  have hrl := reachL_len hg
  unfold lineallaw07_ProgressLongest_k1
  simp only
  by_cases p1 : isPath g path = true
  · rw [if_neg (by simp [p1])]
    by_cases p2 : path = []
    · rw [if_pos (by simp [p2]), Awake8]; rfl
    · have hpp : 0 < path.length := List.length_pos_iff.2 p2
      have q1 := p1
      unfold isPath at q1
      rw [Bool.and_eq_true, decide_eq_true_iff] at q1
      have hlead := (pth_iff g p2 _ _).2 ⟨q1.2, rfl, rfl⟩
      have hall := lead_bound g _ _ _ hlead
      have b0 := isB_iff.1 (hall _ (getD_in (d := (0 : Int)) hpp))
      have e0 : (g.2.getD (path.getD 0 0).toNat (0, 0, 0, false)).1 = (mvAt g (path.getD 0 0)).1 := rfl
      rw [if_neg (by rw [decide_eq_true_eq]; omega), ck_pos (by omega), ck_pos b0.1, ck_pos b0.2, in_eq _ _ (few_of hrl), Option.bind_some]
      by_cases p3 : (mvAt g (path.getD 0 0)).1 ∈ reachL g
      · have hr := reachL_mem.1 p3
        rw [e0, decide_eq_true p3, if_neg (by simp)]
        have key := fold_loop path (fun (s : Bool × Bool × Int) (k : Int) => (s.1, s.2.1, s.2.2, k)) (lgS g (t % 3)) id (fun k s => 0 ≤ s.2.2 ∧ s.2.2 ≤ k) (body := lineallaw07_ProgressLongest_b1 g t path) (fun k i s hk hs => by
          have hlt := (List.getElem?_eq_some_iff.1 hk).1
          have hi := isB_iff.1 (hall i (List.mem_of_getElem? hk))
          have kin : InK .i64 ((k : Int) + 1) := by rw [inK_i64]; omega
          have nin : InK .i64 (s.2.2 + 1) := by rw [inK_i64]; omega
          refine ⟨?_, ?_⟩
          · unfold lineallaw07_ProgressLongest_b1 lgS k0 notOwn
            simp only [Int.toNat_natCast, getD_of hk]
            rw [if_pos (by rw [decide_eq_true_eq]; omega), ck_pos (by omega), ck_pos (by omega), ck_pos hi.1, ck_pos hi.2]
            simp only [ck_pos kin, ck_pos nin]
            obtain ⟨a, b, n⟩ := s
            simp only
            by_cases ho : (g.2.getD i.toNat (0, 0, 0, false)).2.1 = t % 3
            · simp only [decide_eq_true ho, if_pos ho]
              cases a <;> cases b <;> simp
            · simp only [decide_eq_false ho, if_neg ho]
              cases a <;> cases b <;> simp
          · unfold lgS
            simp only
            split <;> omega) (fun s => by
          unfold lineallaw07_ProgressLongest_b1
          simp only
          rw [if_neg (by simp)]
          rfl) path.length 0 (true, true, 0) (by simp) (by simp) ⟨Int.le_refl _, by simp⟩
        rw [List.drop_zero, lgS_fold] at key
        have key' : whileO (lineallaw07_ProgressLongest_b1 g t path) (true, true, 0, 0) = _ := key
        rw [key', Option.bind_some]
        refine Longest_k2 path _ _ _ _ _ (fun h h7 => ?_) (fun h h9 => ?_)
        · have hk0 : ∀ i ∈ path, k0 (mvAt g i) = true := List.all_eq_true.1 (by simpa using h)
          rcases either a0 with ⟨k1, ⟨L, hL, k2⟩, k3⟩ | ⟨k1, k2, _⟩
          · have h3 := lead_rank hg hL.prv path _ _ hr hlead hk0
            rw [wt_all0 hk0] at h3
            have hin := reachL_in hg p3
            have hl := hL.len
            have h4 := (max_ge L 0).2 _ (rAt_mem (r := L) hin.1 (by omega))
            have hlast := hL.rng _ (mv_to hg (mvAt_in (hall _ (getD_in (d := (0 : Int)) (show path.length - 1 < path.length by omega))))).1 (mv_to hg (mvAt_in (hall _ (getD_in (d := (0 : Int)) (show path.length - 1 < path.length by omega))))).2
            unfold grR
            rw [k2, if_pos rfl]
            unfold maxL
            simp only
            omega
          · unfold grR at h7
            rw [k2, if_neg (by simp)] at h7
            simp at h7
        · have hk1 : ∀ i ∈ path, notOwn (t % 3) (mvAt g i) = true := List.all_eq_true.1 (by simpa using h)
          rcases either a1 with ⟨k1, ⟨L, hL, k2⟩, k3⟩ | ⟨k1, k2, _⟩
          · have h3 := lead_rank hg hL.prv path _ _ hr hlead hk1
            rw [wt_all1 hk1] at h3
            have hin := reachL_in hg p3
            have hl := hL.len
            have h4 := (max_ge L 0).2 _ (rAt_mem (r := L) hin.1 (by omega))
            have hlast := hL.rng _ (mv_to hg (mvAt_in (hall _ (getD_in (d := (0 : Int)) (show path.length - 1 < path.length by omega))))).1 (mv_to hg (mvAt_in (hall _ (getD_in (d := (0 : Int)) (show path.length - 1 < path.length by omega))))).2
            unfold grR
            rw [k2, if_pos rfl]
            unfold maxL
            simp only
            omega
          · unfold grR at h9
            rw [k2, if_neg (by simp)] at h9
            simp at h9
      · rw [e0, decide_eq_false p3, if_pos (by simp), Awake8]; rfl
  · rw [if_pos (by simp [p1]), Awake8]; rfl

theorem ProgressLongest_eq (g : Gr) (hk : okEl (.pair (.int .i64) (.sl (.pair (.int .i64) (.pair (.int .i64) (.pair (.int .i64) .bool))))) g) (t : Int) (ht : okEl (.int .u8) t) (path : List Int) : lineallaw07_ProgressLongest g t path = some true := by
  have hz := okZ_of hk
  have ht : 0 ≤ t ∧ t ≤ 255 := by have : InK .u8 t := ht; rw [inK_u8] at this; exact this
  unfold lineallaw07_ProgressLongest
  have e1 : lineallaw07_Long g = some () := rfl
  have e2 : ∀ l, lineallaw07_many l = some () := fun l => rfl
  rw [e1, Option.bind_some]
  by_cases h1 : 100 < (g.2.length : Int)
  · rw [if_pos (by simpa using h1), Awake8]; rfl
  rw [if_neg (by simpa using h1), rValid_eq g hz, Option.bind_some]
  by_cases ho : okG g = true
  · have hg := okG_iff.1 ho
    rw [if_neg (by simp [ho]), e2, Option.bind_some]
    by_cases h2 : 1100 < (path.length : Int)
    · rw [if_pos (by simpa using h2), Awake8]; rfl
    have a0 : ask g 0 0 = 0 := ask_of hg (by decide) (by decide) (fun _ => rfl)
    have a1 : ask g 1 (t % 3) = 0 := ask_of hg (by decide) (by omega) (fun h => absurd h (by decide))
    have t0 := top_eq hg a0
    have t1 := top_eq hg a1
    have k1 := Longest_k1 hg t ht path 0 0
    obtain ⟨g0, g1⟩ := grR_two hg a0
    obtain ⟨g2, g3⟩ := grR_two hg a1
    rw [if_neg (by simpa using h2), ck_pos (by rw [inK_i64]; omega), ck_pos (by omega), Longest_eq g hz, Option.bind_some, Ranks_eq g hz, Option.bind_some, Bound_eq g hz, Option.bind_some, Ranks_eq g hz, Option.bind_some, Reached_eq g hz, if_pos ho, Option.bind_some, rIsPath_eq7 g hz ho, Option.bind_some, if_neg (by simp [g0]), if_neg (by simp [g2])]
    simp only [t0, t1, k1, Option.bind_some]
    generalize (grR g 0 0).2 = x at *
    generalize (grR g 1 (t % 3)).2 = y at *
    subst g0
    subst g2
    rcases g1 with e | e <;> rcases g3 with e' | e' <;> rw [e, e'] <;> simp
  · rw [if_pos (by simp [ho]), Awake8]; rfl

end Go.Proofs.Yteclokkdgmacpaa
