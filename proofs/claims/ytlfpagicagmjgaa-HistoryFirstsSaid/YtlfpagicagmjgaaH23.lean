/-
  Layer 2, pure: the law HistoryFirsts: the first order comes before any other one; what is linearisable is orderly; calls that are alone have one order at most.
-/
import Derived.Test.YtlfpagicagmjgaaH22
import Derived.Test.YtlfpagicagmjgaaH2w
namespace Go.Proofs.Ytlfpagicagmjgaa
open Go.RowKit

set_option linter.unusedVariables false
set_option linter.unusedSimpArgs false
set_option maxRecDepth 10000

section
variable {specs : List Tup} {h : List HC6}

/-! ### Calls that are alone -/

theorem two_in {α : Type} {P : α → Bool} {h : List α} {i j : Nat} {d : α} (hij : i < j) (hj : j < h.length) (p1 : P (h.getD i d) = true) (p2 : P (h.getD j d) = true) : 2 ≤ (h.filter P).length := by
  have e : h = h.take j ++ h.drop j := (List.take_append_drop j h).symm
  rw [e, List.filter_append, List.length_append]
  have g : ∀ k, (hk : k < h.length) → h.getD k d = h[k] := fun k hk => by rw [List.getD_eq_getElem?_getD, List.getElem?_eq_getElem hk]; rfl
  rw [g i (by omega)] at p1
  rw [g j hj] at p2
  have m1 : h[i] ∈ (h.take j).filter P := List.mem_filter.2 ⟨List.mem_take_iff_getElem.2 ⟨i, by omega, rfl⟩, p1⟩
  have m2 : h[j] ∈ (h.drop j).filter P := List.mem_filter.2 ⟨List.mem_drop_iff_getElem.2 ⟨0, by omega, by simp⟩, p2⟩
  have l1 := List.length_pos_of_mem m1
  have l2 := List.length_pos_of_mem m2
  omega

theorem alone_apart (hw : widthA h ≤ 1) (hT : ∀ j, j < h.length → (hAt h j).2.2.2.2.2 ≠ 0) (h1 : okH h = true) {i j : Nat} (hi : i < h.length) (hj : j < h.length) (hne : i ≠ j) : bef (hAt h i) (hAt h j) = true ∨ bef (hAt h j) (hAt h i) = true := by
  have key : ∀ a b, a < h.length → b < h.length → a ≠ b → (hAt h a).2.2.2.2.1 ≤ (hAt h b).2.2.2.2.1 → bef (hAt h a) (hAt h b) = true := by
    intro a b ha hb hab hfr
    refine Classical.byContradiction fun hn => ?_
    have t1 := hT a ha
    have n1 : ¬ (hAt h a).2.2.2.2.2 < (hAt h b).2.2.2.2.1 := fun hlt => hn (by unfold bef; rw [decide_eq_false t1, decide_eq_true hlt]; rfl)
    have cb := okC_from (okH_getD h1 hb)
    have d1 : (hAt h b).2.2.2.2.2 = 0 ∨ (hAt h b).2.2.2.2.1 < (hAt h b).2.2.2.2.2 := cb.2.2.2.2.2.2.2.2.2.2.2.2.imp id fun z => z
    have t2 := hT b hb
    have w1 : wayB (hAt h b).2.2.2.2.1 (hAt h a) = true := by
      unfold wayB
      rw [decide_eq_true hfr, decide_eq_true (by omega : (hAt h b).2.2.2.2.1 ≤ (hAt h a).2.2.2.2.2), Bool.or_true]; rfl
    have w2 : wayB (hAt h b).2.2.2.2.1 (hAt h b) = true := by
      unfold wayB
      rw [decide_eq_true (Int.le_refl _), decide_eq_true (by omega : (hAt h b).2.2.2.2.1 ≤ (hAt h b).2.2.2.2.2), Bool.or_true]; rfl
    have l2 : 2 ≤ (h.filter (wayB (hAt h b).2.2.2.2.1)).length := by
      rcases Nat.lt_or_gt_of_ne hab with hlt | hlt
      · exact two_in (d := (0, 0, 0, 0, 0, 0)) hlt hb w1 w2
      · exact two_in (d := (0, 0, 0, 0, 0, 0)) hlt ha w2 w1
    have hm : hAt h b ∈ h := by
      have e : hAt h b = h[b] := by unfold hAt; rw [List.getD_eq_getElem?_getD, List.getElem?_eq_getElem hb]; rfl
      rw [e]; exact List.getElem_mem hb
    have : uw h (hAt h b).2.2.2.2.1 ≤ widthA h := le_maxL (List.mem_map.2 ⟨hAt h b, hm, rfl⟩)
    unfold uw at this
    omega
  rcases Int.le_total (hAt h i).2.2.2.2.1 (hAt h j).2.2.2.2.1 with hle | hle
  · exact .inl (key i j hi hj hne hle)
  · exact .inr (key j i hj hi (Ne.symm hne) hle)

theorem sumTo_few {f : Nat → Nat} : ∀ {n : Nat}, (∀ i, i < n → f i ≤ 1) → (∀ i j, i < n → j < n → i ≠ j → f i = 0 ∨ f j = 0) → sumTo f n ≤ 1
  | 0, _, _ => by simp [sumTo]
  | n + 1, h1, h2 => by
    show sumTo f n + f n ≤ 1
    have a1 := sumTo_few (n := n) (fun i hi => h1 i (by omega)) (fun i j hi hj => h2 i j (by omega) (by omega))
    have a2 := h1 n (by omega)
    by_cases h0 : f n = 0
    · omega
    · have : sumTo f n = 0 := by
        have z : sumTo f n = sumTo (fun _ => 0) n := sumTo_same fun i hi => (h2 i n (by omega) (by omega) (by omega)).resolve_right h0
        rw [z]
        clear z a1 a2 h0 h1 h2
        induction n with
        | zero => rfl
        | succ n ih => show sumTo (fun _ => 0) n + 0 = 0; rw [ih]
      omega

theorem alone_one (hT : ∀ j, j < h.length → (hAt h j).2.2.2.2.2 ≠ 0) (hx : ∀ i j, i < h.length → j < h.length → i ≠ j → bef (hAt h i) (hAt h j) = true ∨ bef (hAt h j) (hAt h i) = true) : ∀ (d : Nat) (p : Pl), CF specs h d p ≤ 1 := by
  have hready : ∀ {p q : Pl} {i : Nat}, nxt specs h p i = some q → bitB p.2 i = false ∧ ∀ j, j < h.length → bef (hAt h j) (hAt h i) = true → bitB p.2 j = true := fun {p q i} e => by
    unfold nxt at e
    split at e
    · rename_i hra
      simp only [Bool.and_eq_true] at hra
      have hr := hra.1
      unfold readyB at hr
      simp only [Bool.and_eq_true, Bool.not_eq_true'] at hr
      refine ⟨hr.1, fun j hj hb => ?_⟩
      have := allB_iff.1 hr.2 j hj
      rw [hb] at this
      simpa using this
    · cases e
  intro d
  induction d with
  | zero => intro p; show 0 ≤ 1; omega
  | succ d ih =>
    intro p
    rw [CF_succ]
    cases hf : fullB h p.2 with
    | true =>
      have hz : sumTo (fun i => contrib (CF specs h d) (nxt specs h p i)) h.length = sumTo (fun _ => 0) h.length := sumTo_same fun i hi => by
        cases e : nxt specs h p i with
        | none => rfl
        | some q =>
          have h1 := (hready e).1
          unfold fullB at hf
          have h2 := allB_iff.1 hf i hi
          rw [h1, Bool.or_false] at h2
          exact absurd (of_decide_eq_true h2) (hT i hi)
      have hz0 : ∀ n, sumTo (fun _ => 0) n = 0 := fun n => by
        induction n with
        | zero => rfl
        | succ n ih => show sumTo (fun _ => 0) n + 0 = 0; rw [ih]
      rw [hz, hz0, if_pos rfl]; omega
    | false =>
      rw [if_neg (by simp), Nat.zero_add]
      refine sumTo_few (fun i hi => ?_) (fun i j hi hj hne => ?_)
      · cases nxt specs h p i with
        | none => exact Nat.zero_le _
        | some q => exact ih q
      · cases ei : nxt specs h p i with
        | none => exact .inl rfl
        | some qi =>
          cases ej : nxt specs h p j with
          | none => exact .inr rfl
          | some qj =>
            obtain ⟨i1, i2⟩ := hready ei
            obtain ⟨j1, j2⟩ := hready ej
            rcases hx i j hi hj hne with hb | hb
            · rw [j2 i hi hb] at i1; cases i1
            · rw [i2 j hj hb] at j1; cases j1

/-! ### Linearisable: orderly -/

theorem CF_thr (h1 : okH h = true) : ∀ (d : Nat) (p : Pl), CF specs h d p ≤ CFQ thrB specs h d p := by
  intro d
  induction d with
  | zero => intro p; exact Nat.le_refl _
  | succ d ih =>
    intro p
    show _ + sumTo _ _ ≤ _ + sumTo _ _
    refine Nat.add_le_add_left (sumTo_mono fun i hi => ?_) _
    show contrib (CF specs h d) (nxt specs h p i) ≤ contrib (CFQ thrB specs h d) (nxtQ thrB specs h p i)
    cases e : nxt specs h p i with
    | none => exact Nat.zero_le _
    | some q =>
      have : nxtQ thrB specs h p i = some q := by
        unfold nxt at e
        split at e
        · rename_i hra
          injection e with e
          subst e
          simp only [Bool.and_eq_true] at hra
          have hr := hra.1
          unfold readyB at hr
          simp only [Bool.and_eq_true] at hr
          have hq : readyQ thrB h p.2 i = true := by
            unfold readyQ
            rw [hr.1, Bool.true_and]
            refine allB_iff.2 fun j hj => ?_
            have := allB_iff.1 hr.2 j hj
            cases ht : thrB (hAt h j) (hAt h i) with
            | false => rfl
            | true => rw [thr_bef h1 hi hj ht] at this; simpa using this
          unfold nxtQ
          rw [hq, hra.2]; rfl
        · cases e
      rw [this]
      exact ih q

/-! ### Orders, and the first one -/

theorem mark_nodup : ∀ (l : List Int) (s s' : List Bool), markA s l = some s' → (∀ x ∈ l, s.getD x.toNat false = false) ∧ l.Nodup
  | [], s, s', _ => ⟨fun x hx => (by simp at hx), List.nodup_nil⟩
  | x :: r, s, s', hm => by
    unfold markA at hm
    split at hm
    · rename_i hx
      simp only [Bool.and_eq_true, decide_eq_true_eq] at hx
      split at hm
      · cases hm
      · rename_i hs
        have hr := markA_in _ _ _ hm
        rw [List.length_set] at hr
        obtain ⟨i1, i2⟩ := mark_nodup r _ _ hm
        have hset : ∀ y ∈ r, y ≠ x ∧ s.getD y.toNat false = false := fun y hy => by
          have h0 := i1 y hy
          have hyr := hr y hy
          by_cases e : x.toNat = y.toNat
          · rw [← e, List.getD_eq_getElem?_getD, List.getElem?_set_self (by omega)] at h0
            simp at h0
          · rw [List.getD_eq_getElem?_getD, List.getElem?_set_ne e, ← List.getD_eq_getElem?_getD] at h0
            exact ⟨fun e2 => e (by rw [e2]), h0⟩
        refine ⟨fun y hy => ?_, List.nodup_cons.2 ⟨fun hc => (hset x hc).1 rfl, i2⟩⟩
        rcases List.mem_cons.1 hy with rfl | hy
        · simpa using hs
        · exact (hset y hy).2
    · cases hm

theorem alwL_pre : ∀ (a b : List Int) (s : Int × Int), alwL specs h s (a ++ b) = true → alwL specs h s a = true
  | [], _, _, _ => rfl
  | x :: a, b, s, hw => by
    have hw' : (alwB specs s (hAt h x.toNat) && alwL specs h (goOf specs s (hAt h x.toNat)) (a ++ b)) = true := hw
    rw [Bool.and_eq_true] at hw'
    show (alwB specs s (hAt h x.toNat) && alwL specs h (goOf specs s (hAt h x.toNat)) a) = true
    rw [hw'.1, alwL_pre a b _ hw'.2]; rfl

theorem atL_pre {a b : List Int} {k : Nat} (hk : k < a.length) : atL h (a ++ b) k = atL h a k := by
  have e : (a ++ b).getD k 0 = a.getD k 0 := by rw [List.getD_eq_getElem?_getD, List.getElem?_append_left hk, ← List.getD_eq_getElem?_getD]
  unfold atL
  rw [e]

theorem keepB_pre {q : HC6 → HC6 → Bool} {a b : List Int} (hk : keepB q h (a ++ b) = true) : keepB q h a = true := by
  unfold keepB at *
  refine allB_iff.2 fun i hi => allB_iff.2 fun k hk' => ?_
  have := allB_iff.1 (allB_iff.1 hk i (by rw [List.length_append]; omega)) k hk'
  rwa [atL_pre hi, atL_pre (by omega)] at this

/-- Each beginning of an order is a live list. -/
theorem ord_good (hs : okSs specs = true) (h1 : okH h = true) (h2 : fitsB specs h = true) {l : List Int} (ho : isOrd specs h l = true) : ∀ k, k ≤ l.length → GoodL bef specs h (l.take k) ∧ LiveL bef h (l.take k) := by
  have h8 := okH_len h1
  have hc : ∀ i, i < h.length → canC specs (hAt h i) = true := fun i hi => can_of h1 h2 hi
  unfold isOrd at ho
  simp only [Bool.and_eq_true] at ho
  obtain ⟨o1, o2, o3⟩ := ho
  have hin := ordB_mem o1
  have hnd : l.Nodup := by
    have o1' := o1
    unfold ordB at o1'
    cases hm : markA (List.replicate h.length (false : Bool)) l with
    | none => rw [hm] at o1'; cases o1'
    | some s' => exact (mark_nodup _ _ _ hm).2
  have hsplit : ∀ k, (hk : k < l.length) → l.take (k + 1) = l.take k ++ [l[k]] := fun k hk => by rw [List.take_add_one, List.getElem?_eq_getElem hk]; rfl
  have good : ∀ k, k ≤ l.length → GoodL bef specs h (l.take k) := by
    intro k
    induction k with
    | zero => intro _; rw [List.take_zero]; exact good_nil hs bef
    | succ k ih =>
      intro hk
      have G := ih (by omega)
      have hx := hin l[k] (List.getElem_mem _)
      have ex : l[k] = ((l[k].toNat : Nat) : Int) := by omega
      have ha : addB bef specs h (l.take k) ((l[k].toNat : Nat) : Int) = true := by
        rw [← ex]
        unfold addB
        have e3 : l = (l.take k ++ [l[k]]) ++ l.drop (k + 1) := by rw [← hsplit k (by omega), List.take_append_drop]
        rw [e3] at o2 o3
        rw [alwL_pre _ _ _ o3, keepB_pre o2]
        have : ¬ l[k] ∈ l.take k := fun hc => by
          obtain ⟨j, hj, e⟩ := List.mem_take_iff_getElem.1 hc
          have := (List.getElem_inj hnd).1 e
          omega
        simpa using this
      rw [hsplit k (by omega), ex]
      exact good_add hs h8 hc G (by omega) ha
  have Gl := good l.length (Nat.le_refl _)
  rw [List.take_length] at Gl
  have live : LiveL bef h l := fun x hx j hj hb => Classical.byContradiction fun hn => by
    have := dead_order (fun i j _ _ hb => bef_to _ _ hb) Gl ⟨x, hx, j, hj, hb, hn⟩
    rw [o1] at this; cases this
  intro k hk
  refine ⟨good k hk, fun x hx j hj hb => ?_⟩
  have hjl := live x (List.mem_of_mem_take hx) j hj hb
  obtain ⟨m, hm, em⟩ := List.getElem_of_mem hjl
  obtain ⟨i, hi, ei⟩ := List.mem_take_iff_getElem.1 hx
  by_cases hmk : m < k
  · exact List.mem_take_iff_getElem.2 ⟨m, by omega, em⟩
  · have o2' := o2
    unfold keepB at o2'
    have := allB_iff.1 (allB_iff.1 o2' m hm) i (by omega)
    rw [atL_get hm, atL_get (by omega), em, ei, Int.toNat_natCast, hb] at this
    cases this

theorem ord_step (hs : okSs specs = true) (h1 : okH h = true) (h2 : fitsB specs h = true) {l : List Int} (ho : isOrd specs h l = true) {k : Nat} (hk : k < l.length) :
    l[k] = ((l[k].toNat : Nat) : Int) ∧ l[k].toNat < h.length ∧ nxt specs h (plF specs h (l.take k)) l[k].toNat = some (plF specs h (l.take (k + 1))) := by
  have ho' := ho
  unfold isOrd at ho'
  simp only [Bool.and_eq_true] at ho'
  have hx := ordB_mem ho'.1 l[k] (List.getElem_mem _)
  have ex : l[k] = ((l[k].toNat : Nat) : Int) := by omega
  obtain ⟨G, L⟩ := ord_good hs h1 h2 ho k (by omega)
  obtain ⟨G', L'⟩ := ord_good hs h1 h2 ho (k + 1) (by omega)
  have e1 : l.take (k + 1) = l.take k ++ [((l[k].toNat : Nat) : Int)] := by rw [List.take_add_one, List.getElem?_eq_getElem hk, ← ex]; rfl
  rw [e1] at G' L' ⊢
  refine ⟨ex, by omega, ?_⟩
  have hadd : addB bef specs h (l.take k) ((l[k].toNat : Nat) : Int) = true := by
    unfold addB
    have : ¬ ((l[k].toNat : Nat) : Int) ∈ l.take k := fun hc => by
      have := G'.nd
      rw [List.nodup_append] at this
      exact this.2.2 _ hc _ (by simp) rfl
    rw [G'.alw, G'.keep]
    simpa using this
  rcases live_step (fun i hi => bef_self (okH_getD h1 hi)) G L (show l[k].toNat < h.length by omega) with ⟨_, n2⟩ | ⟨_, n2, _⟩
  · obtain ⟨x, hx, j, hj, hb, hn⟩ := n2 hadd
    exact absurd (L' x hx j hj hb) hn
  · exact n2

theorem ord_full (hs : okSs specs = true) (h1 : okH h = true) (h2 : fitsB specs h = true) {l : List Int} (ho : isOrd specs h l = true) : fullB h (plF specs h l).2 = true := by
  have G := (ord_good hs h1 h2 ho l.length (Nat.le_refl _)).1
  rw [List.take_length] at G
  rw [← live_full G]
  unfold isOrd at ho
  simp only [Bool.and_eq_true] at ho
  exact ho.1

theorem ord_pos (hs : okSs specs = true) (h1 : okH h = true) (h2 : fitsB specs h = true) {l : List Int} (ho : isOrd specs h l = true) : ∀ d k, k + d = l.length → 0 < CF specs h 9 (plF specs h (l.take k)) := by
  have h8 := okH_len h1
  have hc : ∀ i, i < h.length → canC specs (hAt h i) = true := fun i hi => can_of h1 h2 hi
  intro d
  induction d with
  | zero =>
    intro k hk
    have : k = l.length := by omega
    subst this
    have G := (ord_good hs h1 h2 ho l.length (Nat.le_refl _)).1
    rw [CF_nine hs h8 hc _ G.okp]
    rw [List.take_length, ord_full hs h1 h2 ho, if_pos rfl]
    omega
  | succ d ih =>
    intro k hk
    have hk' : k < l.length := by omega
    obtain ⟨_, s2, s3⟩ := ord_step hs h1 h2 ho hk'
    have hp := ih (k + 1) (by omega)
    have G := (ord_good hs h1 h2 ho k (by omega)).1
    rw [CF_nine hs h8 hc _ G.okp]
    have a1 := sumTo_le (fun i => contrib (CF specs h 9) (nxt specs h (plF specs h (l.take k)) i)) (k := l[k].toNat + 1) (n := h.length) (by omega)
    have a2 : sumTo (fun i => contrib (CF specs h 9) (nxt specs h (plF specs h (l.take k)) i)) (l[k].toNat + 1) = sumTo (fun i => contrib (CF specs h 9) (nxt specs h (plF specs h (l.take k)) i)) l[k].toNat + contrib (CF specs h 9) (nxt specs h (plF specs h (l.take k)) l[k].toNat) := rfl
    rw [s3] at a2
    have a3 : contrib (CF specs h 9) (some (plF specs h (l.take (k + 1)))) = CF specs h 9 (plF specs h (l.take (k + 1))) := rfl
    omega

/-- One list comes before another one. -/
def comesA : List Int → List Int → Bool
  | _, [] => false
  | [], _ :: _ => true
  | a :: r, b :: s => if a = b then comesA r s else decide (a < b)

theorem not_before (hs : okSs specs = true) (h1 : okH h = true) (h2 : fitsB specs h = true) {l : List Int} (ho : isOrd specs h l = true) {p : Pl} {r : List Nat} (hp : Path specs h (CF specs h 9) p r) :
    ∀ k, k ≤ l.length → plF specs h (l.take k) = p → comesA (l.drop k) (r.map fun (k : Nat) => (k : Int)) = false := by
  induction hp with
  | nil p e => intro k _ _; unfold comesA; rfl
  | cons p q i t e hi hn hv hl hp ih =>
    intro k hk hpl
    by_cases hkl : k = l.length
    · subst hkl
      rw [List.take_length] at hpl
      have := ord_full hs h1 h2 ho
      rw [hpl, e] at this; cases this
    · have hk' : k < l.length := by omega
      obtain ⟨s1, s2, s3⟩ := ord_step hs h1 h2 ho hk'
      rw [hpl] at s3
      have hpos := ord_pos hs h1 h2 ho (l.length - (k + 1)) (k + 1) (by omega)
      have hge : ¬ l[k].toNat < i := fun hlt => by
        have := hl _ hlt _ s3
        omega
      rw [List.drop_eq_getElem_cons hk', List.map_cons]
      unfold comesA
      by_cases hx : l[k] = (i : Int)
      · rw [if_pos hx]
        refine ih (k + 1) (by omega) ?_
        have : l[k].toNat = i := by omega
        rw [this, hn] at s3
        injection s3 with s3
        exact s3.symm
      · rw [if_neg hx]
        exact decide_eq_false (by omega)

theorem comes_eq (a b : List Int) (ha : a.length ≤ 1000) : lineallaw02_comes a b = some (comesA a b) := by
  unfold lineallaw02_comes
  obtain ⟨r, e1, e2⟩ := whileO_inv (body := lineallaw02_comes_b1 a b) (fun s => ∃ k : Nat, s = (k : Int) ∧ k ≤ a.length ∧ k ≤ b.length ∧ comesA (a.drop k) (b.drop k) = comesA a b) (fun s => a.length - s.toNat)
    (fun r => (match r with | .inl r1 => some r1 | .inr _ => lineallaw02_comes_k1 a b) = some (comesA a b)) (fun s ⟨k, es, k1, k2, k3⟩ => by
      subst es
      unfold lineallaw02_comes_b1
      by_cases hka : k < a.length
      · rw [if_pos (by simpa using hka)]
        by_cases hkb : k < b.length
        · rw [if_pos (by simpa using hkb), ck_pos (by omega), ck_pos (by omega), ck_pos (by omega), ck_pos (by omega), Int.toNat_natCast]
          have ga : a.getD k 0 = a[k] := by rw [List.getD_eq_getElem?_getD, List.getElem?_eq_getElem hka]; rfl
          have gb : b.getD k 0 = b[k] := by rw [List.getD_eq_getElem?_getD, List.getElem?_eq_getElem hkb]; rfl
          rw [ga, gb]
          rw [List.drop_eq_getElem_cons hka, List.drop_eq_getElem_cons hkb] at k3
          unfold comesA at k3
          by_cases he : a[k] = b[k]
          · rw [if_pos he] at k3
            rw [if_neg (by simpa using he), ck_pos (inK_small (by omega))]
            refine .inl ⟨_, rfl, ⟨k + 1, by omega, by omega, by omega, ?_⟩, by omega⟩
            rw [k3]
            conv => rhs; unfold comesA
          · rw [if_neg he] at k3
            rw [if_pos (by rw [decide_eq_false he]; rfl), ck_pos (by omega), ck_pos (by omega), ck_pos (by omega), ck_pos (by omega)]
            refine .inr ⟨_, rfl, ?_⟩
            show some (decide (a[k] < b[k])) = _
            rw [k3]
            conv => rhs; unfold comesA
        · rw [if_neg (by simpa using hkb)]
          refine .inr ⟨_, rfl, ?_⟩
          show some (decide ((a.length : Int) < (b.length : Int))) = _
          rw [List.drop_eq_nil_of_le (by omega : b.length ≤ k)] at k3
          rw [decide_eq_false (by omega), ← k3]
          unfold comesA; rfl
      · rw [if_neg (by simpa using hka)]
        refine .inr ⟨_, rfl, ?_⟩
        show some (decide ((a.length : Int) < (b.length : Int))) = _
        rw [List.drop_eq_nil_of_le (by omega : a.length ≤ k)] at k3
        rw [← k3]
        by_cases hkb : k < b.length
        · rw [decide_eq_true (by omega), List.drop_eq_getElem_cons hkb]
          unfold comesA; rfl
        · rw [decide_eq_false (by omega), List.drop_eq_nil_of_le (by omega : b.length ≤ k)]
          unfold comesA; rfl) 0 ⟨0, rfl, Nat.zero_le _, Nat.zero_le _, rfl⟩
  rw [e1]
  exact e2

theorem keep_thr (h1 : okH h = true) {l : List Int} (hin : ∀ x ∈ l, 0 ≤ x ∧ x < (h.length : Int)) (hk : keepB bef h l = true) : keepB thrB h l = true := by
  unfold keepB at *
  refine allB_iff.2 fun i hi => allB_iff.2 fun k hk' => ?_
  have := allB_iff.1 (allB_iff.1 hk i hi) k hk'
  have x1 := hin l[i] (List.getElem_mem _)
  have x2 := hin (l[k]'(by omega)) (List.getElem_mem _)
  rw [atL_get hi, atL_get (by omega)] at this ⊢
  cases ht : thrB (hAt h l[i].toNat) (hAt h (l[k]'(by omega)).toNat) with
  | false => rfl
  | true =>
    rw [thr_bef h1 (i := (l[k]'(by omega)).toNat) (j := l[i].toNat) (by omega) (by omega) ht] at this
    cases this

theorem open_eq (h : List HC6) (hl : h.length ≤ 1000) : ∃ r, whileO (lineallaw02_HistoryFirsts_b1 h) (false, 0) = some r ∧ (r = false → ∀ j, j < h.length → (hAt h j).2.2.2.2.2 ≠ 0) :=
  whileO_inv (body := lineallaw02_HistoryFirsts_b1 h) (fun s => ∃ k : Nat, s.2 = (k : Int) ∧ k ≤ h.length ∧ (s.1 = false → ∀ j, j < k → (hAt h j).2.2.2.2.2 ≠ 0)) (fun s => h.length - s.2.toNat)
    (fun r => r = false → ∀ j, j < h.length → (hAt h j).2.2.2.2.2 ≠ 0) (fun s ⟨k, es, k1, k2⟩ => by
      obtain ⟨b, n⟩ := s
      simp only at es k2 ⊢
      subst es
      unfold lineallaw02_HistoryFirsts_b1
      simp only
      by_cases hk : k < h.length
      · rw [if_pos (by simpa using hk)]
        cases b with
        | true =>
          rw [if_pos rfl, ck_pos (inK_small (by omega))]
          exact .inl ⟨_, rfl, ⟨k + 1, by simp, by omega, fun hc => by cases hc⟩, by simp; omega⟩
        | false =>
          rw [if_neg (by simp), ck_pos (by omega), ck_pos (by omega), ck_pos (inK_small (by omega))]
          refine .inl ⟨_, rfl, ⟨k + 1, by simp, by omega, fun hc j hj => ?_⟩, by simp; omega⟩
          by_cases hjk : j < k
          · exact k2 rfl j hjk
          · have : j = k := by omega
            subst this
            have := of_decide_eq_false hc
            rw [Int.toNat_natCast] at this
            exact this
      · rw [if_neg (by simpa using hk)]
        refine .inr ⟨_, rfl, fun hc j hj => k2 hc j (by omega)⟩) (false, 0) ⟨0, rfl, Nat.zero_le _, fun _ j hj => by omega⟩

end

theorem HistoryFirsts_eq (specs : List Tup) (hf : fewS specs) (h : List HC6) (l : List Int) : lineallaw02_HistoryFirsts specs h l = some true := by
  unfold lineallaw02_HistoryFirsts
  rw [Large_eq specs hf, Option.bind_some]
  cases hlg : (allB specs.length (fun k => fit (specs.getD k (0, 0, [], []))) && decide (specs.length ≤ 5)) with
  | false => rw [if_pos (by simp), Sane_eq]; rfl
  | true =>
    simp only [Bool.and_eq_true, decide_eq_true_eq] at hlg
    have hs : ∀ s ∈ specs, okS s := fun s hs => by
      obtain ⟨k, hk, e⟩ := List.getElem_of_mem hs
      have := allB_iff.1 hlg.1 k hk
      have e2 : specs.getD k (0, 0, [], []) = s := by rw [List.getD_eq_getElem?_getD, List.getElem?_eq_getElem hk, e]; rfl
      rw [e2] at this
      exact okS_of s this
    have hsl : specs.length ≤ 1000 := by omega
    rw [if_neg (by simp), Long_eq2, Option.bind_some]
    by_cases hl : 40 < h.length
    · rw [if_pos (by simp; omega), Sane_eq]; rfl
    rw [if_neg (by simp; omega)]
    by_cases hl1 : 60 < l.length
    · rw [if_pos (by simp; omega), Sane_eq]; rfl
    rw [if_neg (by simp; omega)]
    have eF : lineallaw02_isFor specs h = some (okSs specs && (okH h && fitsB specs h)) := by
      unfold lineallaw02_isFor
      rw [rFor_eq specs hs hsl h, Option.bind_some]
      cases okSs specs <;> rfl
    rw [eF, Option.bind_some]
    cases hall : (okSs specs && (okH h && fitsB specs h)) with
    | false => rw [if_pos (by rfl), Sane_eq]; rfl
    | true =>
      simp only [Bool.and_eq_true] at hall
      obtain ⟨hk, h1, h2⟩ := hall
      obtain ⟨op, o1, o2⟩ := open_eq h (by omega)
      have hIs : ∀ l : List Int, l.length ≤ 1000 → history_IsOrder specs h l = some (isOrd specs h l, 0) := fun l hl => IsOrder_eq hs hsl hk h1 h2 hl
      rw [if_neg (by simp), Linear_eq hs hsl hk h1 h2, Option.bind_some, Orderly_eq hs hsl hk h1 h2, Option.bind_some, Orders_eq hs hsl hk h1 h2, Option.bind_some]
      have hone : widthA h ≤ 1 → op = false → cntA specs h ≤ 1 := fun hw hop => alone_one (o2 hop) (fun i j hi hj hne => alone_apart hw (o2 hop) h1 hi hj hne) 9 _
      rcases Order_eq hs hsl hk h1 h2 with ⟨c1, e1⟩ | ⟨c1, r, p1, e1⟩
      · rw [e1, Option.bind_some, Alone_eq h (by omega), h1, if_pos rfl, Option.bind_some]
        have hno : isOrd specs h l = false := by
          cases ho : isOrd specs h l with
          | false => rfl
          | true =>
            have := ord_pos hk h1 h2 ho l.length 0 (by omega)
            rw [List.take_zero] at this
            have : 0 < cntA specs h := this
            omega
        have hk3 : lineallaw02_HistoryFirsts_k3 specs h l ([], 5) false = some true := by
          unfold lineallaw02_HistoryFirsts_k3
          rw [hIs l (by omega), Option.bind_some, hno, if_neg (by simp), if_neg (by simp)]
          unfold lineallaw02_HistoryFirsts_k4
          rw [if_pos (by rfl), Sane_eq]; rfl
        rw [c1]
        simp only
        rw [if_neg (by simp), if_neg (by simp), if_neg (by simp), if_neg (by simp), if_pos (by rfl), if_neg (by simp), if_neg (by simp), if_neg (by simp), if_neg (by simp)]
        unfold lineallaw02_HistoryFirsts_k1
        rw [o1, Option.bind_some]
        unfold lineallaw02_HistoryFirsts_k2
        simp only
        split
        · split
          · rw [if_neg (by simp)]; exact hk3
          · exact hk3
        · exact hk3
      · rw [e1, Option.bind_some, Alone_eq h (by omega), h1, if_pos rfl, Option.bind_some]
        have hthr : 0 < CFQ thrB specs h 9 ((0, 0), 0) := Nat.lt_of_lt_of_le c1 (CF_thr h1 9 _)
        obtain ⟨q1, q2, q3⟩ := path_order p1
        generalize hR : (r.map fun (k : Nat) => (k : Int)) = R at q1 q2 q3
        have hRin := ordB_mem q1
        have hRl : R.length ≤ 1000 := by
          have q1' := q1
          unfold ordB at q1'
          cases hmk : markA (List.replicate h.length (false : Bool)) R with
          | none => rw [hmk] at q1'; cases q1'
          | some s' =>
            obtain ⟨m1, m2⟩ := markA_len _ _ _ hmk
            have := cntT_le s'
            rw [List.length_replicate] at m2
            omega
        have hRo : isOrd specs h R = true := by unfold isOrd; rw [q1, q2, q3]; rfl
        have hKe : history_Keeps h R = some (true, true, 0) := by
          rw [Keeps_eq h (by omega) R hRl]
          unfold keepsA
          rw [h1, q1, if_pos rfl, if_pos rfl, q2, keep_thr h1 hRin q2]
        have hAl : history_Allows specs h R = some (true, 0) := by
          unfold history_Allows
          have e0 : errA specs h = 0 := by unfold errA; rw [hk, h1, h2]; rfl
          rw [checkFor_all hs hsl, e0, Option.bind_some, if_pos (by rfl), isOrder_eq h (by omega) R hRl, q1, Option.bind_some, if_neg (by simp)]
          unfold history_Allows_k1
          rw [if_pos (by rfl)]
          unfold history_told_25 history_Allows_1
          rw [allows_eq hk (fun i hi => can_of h1 h2 hi) hRl hRin, q3]; rfl
        have hk4 : ∀ b4 : Bool, (b4 = true → comesA l R = false) → lineallaw02_HistoryFirsts_k4 specs h l (R, 0) true b4 = some true := fun b4 hb => by
          unfold lineallaw02_HistoryFirsts_k4
          rw [if_neg (by simp)]
          simp only
          rw [hIs R hRl, Option.bind_some, hKe, Option.bind_some, hAl, Option.bind_some, hRo, if_pos (by rfl), if_pos (by rfl), if_pos (by rfl), if_pos rfl, if_pos rfl, if_pos rfl, if_pos rfl]
          cases b4 with
          | false => rw [if_pos (by rfl), Sane_eq]; rfl
          | true => rw [if_neg (by simp), comes_eq l R (by omega), hb rfl, Option.bind_some, if_pos (by rfl), Sane_eq]; rfl
        have hk3 : lineallaw02_HistoryFirsts_k3 specs h l (R, 0) true = some true := by
          unfold lineallaw02_HistoryFirsts_k3
          rw [hIs l (by omega), Option.bind_some, if_neg (by simp)]
          cases ho : isOrd specs h l with
          | false => rw [if_neg (by simp)]; exact hk4 false (fun hc => by cases hc)
          | true =>
            rw [if_pos rfl, if_neg (by simp)]
            refine hk4 true fun _ => ?_
            have := not_before hk h1 h2 ho p1 0 (Nat.zero_le _) (by rw [List.take_zero]; rfl)
            rw [List.drop_zero, hR] at this
            exact this
        simp only
        rw [decide_eq_true c1, decide_eq_true (by omega : (0 : Int) < (cntA specs h : Int)), decide_eq_true hthr]
        rw [if_neg (by simp), if_neg (by simp), if_neg (by simp), if_neg (by simp), if_neg (by simp), if_neg (by simp), if_neg (by simp), if_pos rfl, if_neg (by simp)]
        unfold lineallaw02_HistoryFirsts_k1
        rw [o1, Option.bind_some]
        unfold lineallaw02_HistoryFirsts_k2
        simp only
        split
        · rename_i hw
          split
          · rename_i hop
            have := hone (of_decide_eq_true hw) (by simpa using hop)
            rw [if_neg (by simp; omega)]; exact hk3
          · exact hk3
        · exact hk3

end Go.Proofs.Ytlfpagicagmjgaa
