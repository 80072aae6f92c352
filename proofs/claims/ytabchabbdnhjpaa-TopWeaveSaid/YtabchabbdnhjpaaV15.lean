/-
  Layer 3, pure: WeavePaths.
-/
import Derived.Test.YtabchabbdnhjpaaV14
namespace Go.Proofs.Ytabchabbdnhjpaa
open Go.RowKit

set_option linter.unusedVariables false
set_option linter.unusedSimpArgs false
set_option maxRecDepth 10000

variable {l : Ltr}

instance (l : Ltr) (w v : List Int) : Decidable (eqv l w v) := inferInstanceAs (Decidable (rs l w v = some []))

theorem any_notB {α : Type} (p : α → Bool) : ∀ u : List α, u.any p = !(u.all fun x => !p x)
  | [] => rfl
  | x :: r => by rw [List.any_cons, List.all_cons, any_notB p r]; cases p x <;> simp

theorem inner_path {t : El T53} (ht : Ties l t) (st1 : List Int × List Int × Int) (pre : List Int) (a : Int) (hpre : st1.2.2 = (pre.length : Int)) : ∀ (n : Nat) (x s pl : List Int), x.length = n → (∀ b ∈ pre ++ (x ++ a :: s), 0 ≤ b ∧ b < 6) → (pre ++ (x ++ a :: s)).length ≤ 1000 → pl.length + n ≤ 2000 →
    whileN (weave_ties_path_b2 t st1) (n + 1) (pre ++ (x ++ a :: s), pl, (pre.length : Int) + (n : Int) - 1) = some (if x.all (fun b => !dep l b a) = true then .inr (pre ++ a :: (x ++ s), pl ++ bub pre.length n) else .inl ())
  | 0, x, s, pl, hx, hw, hl, hp => by
    have : x = [] := List.eq_nil_of_length_eq_zero hx
    subst this
    unfold whileN
    have : weave_ties_path_b2 t st1 (pre ++ ([] ++ a :: s), pl, (pre.length : Int) + ((0 : Nat) : Int) - 1) = some (.done (.inr (pre ++ ([] ++ a :: s), pl))) := by
      unfold weave_ties_path_b2
      rw [if_neg (by simp; omega)]
    rw [this]
    simp [bub]
  | n + 1, x, s, pl, hx, hw, hl, hp => by
    obtain ⟨y, b, rfl⟩ : ∃ y b, x = y ++ [b] := ⟨x.dropLast, x.getLast (by intro e; subst e; simp at hx), (List.dropLast_concat_getLast _).symm⟩
    have hy : y.length = n := by simp at hx; omega
    have e1 : pre ++ ((y ++ [b]) ++ a :: s) = (pre ++ y) ++ b :: a :: s := by simp
    have eat : (pre.length : Int) + ((n + 1 : Nat) : Int) - 1 = (((pre ++ y).length : Nat) : Int) := by simp; omega
    have hlen : (pre ++ y).length ≤ 1000 := by simp at hl ⊢; omega
    rw [e1] at hw hl ⊢
    rw [eat]
    unfold whileN
    have hb : weave_ties_path_b2 t st1 ((pre ++ y) ++ b :: a :: s, pl, (((pre ++ y).length : Nat) : Int)) = some (if dep l b a = true then .done (.inl ()) else .next ((pre ++ y) ++ a :: b :: s, pl ++ [(((pre ++ y).length : Nat) : Int)], (((pre ++ y).length : Nat) : Int) - 1)) := by
      unfold weave_ties_path_b2
      simp only
      rw [if_pos (by simp [hpre]; omega), exchange_eq ht _ hw hl, Option.bind_some, canX_mid, swp_mid]
      cases hd : dep l b a with
      | true => simp
      | false =>
        simp only [Bool.not_false, if_true, Bool.not_true, Bool.false_eq_true, if_false]
        rw [ck_pos (by omega), ck_pos (by rw [inK_i64]; omega)]
    rw [hb]
    rw [List.all_append]
    cases hd : dep l b a with
    | true => simp [hd]
    | false =>
      simp only [Bool.false_eq_true, if_false]
      have ih := inner_path ht st1 pre a hpre n y (b :: s) (pl ++ [(((pre ++ y).length : Nat) : Int)]) hy (fun c hc => hw c (by simp at hc ⊢; grind)) (by simp at hl ⊢; omega) (by simp; omega)
      have e2 : (pre ++ y) ++ a :: b :: s = pre ++ (y ++ a :: b :: s) := by simp
      have e3 : (((pre ++ y).length : Nat) : Int) - 1 = (pre.length : Int) + (n : Int) - 1 := by simp; omega
      rw [e2, e3, ih]
      simp [hd, bub, hy]

theorem path_eq {t : El T53} (ht : Ties l t) (hl : okL l = true) {w v : List Int} (hw : isWd l w = true) (hv : isWd l v = true) :
    ∃ pl ok, weave_ties_path t w v = some (pl, ok) ∧ ok = decide (eqv l v w) ∧ (ok = true → runP l pl w = some v ∧ pl.length ≤ 45) ∧ (ok = false → pl = []) := by
  have hwl := isWd_len hw
  have hvl := isWd_len hv
  unfold weave_ties_path
  by_cases hlen : w.length = v.length
  · rw [if_neg (by simp [hlen]), Clone_eq3 w (by omega), Option.bind_some]
    have hs := whileO_inv (S := List Int × List Int × Int) (R := Sum Unit (List Int)) (body := weave_ties_path_b1 t v)
      (fun st => ∃ (k : Nat) (r : List Int), st.2.2 = (k : Int) ∧ k ≤ v.length ∧ st.1 = v.take k ++ r ∧ r.length = v.length - k ∧ rs l v w = rs l (v.drop k) r ∧ runP l st.2.1 w = some st.1 ∧ st.2.1.length + tri (v.length - k) ≤ tri v.length)
      (fun st => v.length - st.2.2.toNat) (fun r => match r with | .inl _ => rs l v w ≠ some [] | .inr pl => rs l v w = some [] ∧ runP l pl w = some v ∧ pl.length ≤ 45) ?_ (w, [], 0)
      ⟨0, w, rfl, Nat.zero_le _, by simp, by simp [hlen], by simp, rfl, by simp⟩
    · obtain ⟨r, er, hr⟩ := hs
      rw [er, Option.bind_some]
      cases r with
      | inl u =>
        simp only at hr
        have hne : ¬ eqv l v w := hr
        exact ⟨[], false, rfl, by simp [hne], fun h => (by cases h), fun _ => rfl⟩
      | inr pl =>
        simp only at hr
        have he : eqv l v w := hr.1
        exact ⟨pl, true, rfl, by simp [he], fun _ => hr.2, fun h => (by cases h)⟩
    · rintro ⟨w', pl, z⟩ ⟨k, r, rfl, hk, rfl, hrl, hrs, hrun, hpl⟩
      simp only at hrun hpl ⊢
      have hkw : isWd l (v.take k ++ r) = true := eqv_isWd (eqv_symm (runP_eqv hrun)) hw
      have h6 := isWd_six hl hkw
      have hwl' := isWd_len hkw
      have hpl45 : pl.length ≤ 45 := by have := tri_ten hvl; omega
      have htl : (v.take k).length = k := by simp; omega
      unfold weave_ties_path_b1
      simp only
      by_cases hlt : k < v.length
      · have hva : v[k]? = some v[k] := List.getElem?_eq_getElem hlt
        obtain ⟨a, ha⟩ : ∃ a, a = v[k] := ⟨_, rfl⟩
        rw [← ha] at hva
        have hdv : v.drop k = a :: v.drop (k + 1) := by rw [List.drop_eq_getElem_cons hlt, ha]
        have hdr : ((v.take k ++ r).drop (k : Int).toNat).take (((v.take k ++ r).length : Int) - (k : Int)).toNat = r := by
          rw [Int.toNat_natCast]
          have e1 : (v.take k ++ r).drop k = r := by
            conv => lhs; arg 1; rw [← htl]
            simp
          rw [e1]
          exact List.take_of_length_le (by simp; omega)
        rw [if_pos (by simpa using hlt), ck_pos (by simp), ck_pos (by simpa using hlt), ck_pos (by simp), ck_pos (by simp; omega), hdr, Int.toNat_natCast, getD_of hva]
        obtain ⟨i, ei, hi⟩ := Index_eq3 r a (few_of (n := 1000) (by omega))
        rw [ei, Option.bind_some]
        have hrs' : rs l v w = (wo l r a).bind (rs l (v.drop (k + 1))) := by rw [hrs, hdv, rs_cons]
        rcases hi with ⟨rfl, hn⟩ | ⟨j, rfl, hj, hn⟩
        · rw [if_pos (by simp)]
          refine .inr ⟨_, rfl, ?_⟩
          simp only
          rw [hrs', wo_not l r a hn]; simp
        · have hjl := (List.getElem?_eq_some_iff.1 hj).1
          have hja : r[j] = a := (List.getElem?_eq_some_iff.1 hj).2
          have hr2 : r = r.take j ++ a :: r.drop (j + 1) := by
            conv => lhs; rw [← List.take_append_drop j r, List.drop_eq_getElem_cons hjl, hja]
          have htj : (r.take j).length = j := by simp; omega
          rw [if_neg (by simp), ck_pos (by rw [inK_i64]; omega), ck_pos (by rw [inK_i64]; omega)]
          have hin := whileO_of (inner_path ht (v.take k ++ r, pl, (k : Int)) (v.take k) a (by simp; omega) j (r.take j) (r.drop (j + 1)) pl htj (fun b hb => h6 b (by rw [hr2]; exact hb)) (by rw [← hr2]; omega) (by omega))
          rw [← hr2, htl] at hin
          rw [hin, Option.bind_some]
          have hwo := wo_at l r a j hj hn
          have hany : (r.take j).any (dep l a) = !((r.take j).all fun b => !dep l b a) := by
            rw [any_notB]
            congr 2
            exact funext fun b => by rw [dep_symm]
          cases hall : (r.take j).all (fun b => !dep l b a) with
          | false =>
            rw [hall] at hany
            rw [if_pos (by simpa using hany)] at hwo
            rw [hwo] at hrs'
            refine .inr ⟨_, rfl, ?_⟩
            simp only
            rw [hrs']; simp
          | true =>
            rw [hall] at hany
            rw [if_neg (by simp [hany])] at hwo
            rw [hwo, Option.bind_some] at hrs'
            simp only [if_true]
            unfold weave_ties_path_k2
            simp only
            rw [ck_pos (by rw [inK_i64]; omega)]
            have hbub := bub_run (l := l) (v.take k) a (r.drop (j + 1)) (r.take j) (fun b hb => by
              have := List.all_eq_true.1 hall b hb
              simpa using this)
            rw [htj, htl, ← hr2] at hbub
            have htk : v.take (k + 1) = v.take k ++ [a] := take_one hva
            obtain ⟨q, hq⟩ : ∃ q, v.length - k = q + 1 := ⟨v.length - k - 1, by omega⟩
            refine .inl ⟨_, rfl, ⟨k + 1, r.take j ++ r.drop (j + 1), by simp, by omega, by rw [htk]; simp, by simp; omega, hrs', ?_, ?_⟩, by simp; omega⟩
            · simp only
              rw [runP_append, hrun, Option.bind_some, hbub]
            · simp only [List.length_append, bub_len]
              rw [hq] at hpl
              have : v.length - (k + 1) = q := by omega
              rw [this]
              have ht2 : tri (q + 1) = tri q + q := rfl
              omega
      · have : k = v.length := by omega
        subst this
        have hr0 : r = [] := List.eq_nil_of_length_eq_zero (by omega)
        subst hr0
        rw [if_neg (by simp)]
        refine .inr ⟨_, rfl, ?_⟩
        simp only
        rw [List.drop_length, rs_nil] at hrs
        refine ⟨hrs, ?_, hpl45⟩
        rw [hrun]; simp
  · rw [if_pos (by simp; omega)]
    have hne : ¬ eqv l v w := fun h => hlen (eqv_len h).symm
    exact ⟨[], false, rfl, by simp [hne], fun h => (by cases h), fun _ => rfl⟩

/-! ### Whether a path leads -/

def pathA (l : Ltr) (w v path : List Int) : Bool × Int := if errW l [w, v] = 0 then (if 1000 < path.length then (false, 0) else (decide (runP l path w = some v), 0)) else (false, errW l [w, v])

theorem runP_take {path : List Int} {k : Nat} {z : Int} (hk : path[k]? = some z) {w s : List Int} (hs : runP l (path.take k) w = some s) : runP l (path.take (k + 1)) w = if canX l s z = true then some (swp s z) else none := by
  rw [take_one hk, runP_append, hs, Option.bind_some]; rfl

theorem runP_none {path : List Int} {k : Nat} {w : List Int} (h : runP l (path.take k) w = none) : runP l path w = none := by
  conv => lhs; arg 2; rw [← List.take_append_drop k path]
  rw [runP_append, h]; rfl

theorem runP_len {ps w v : List Int} (h : runP l ps w = some v) : v.length = w.length := (eqv_len (runP_eqv h)).symm

theorem IsPath_loop {t : El T53} (ht : Ties l t) (hl : okL l = true) {w : List Int} (hw : isWd l w = true) (path : List Int) (hp : path.length ≤ 1000) (e : Int) :
    whileO (weave_IsPath_b1 path (t, e)) (w, 0) = some (match runP l path w with | some v => .inr v | none => .inl ()) := by
  have hs := scan2 (R := Sum Unit (List Int)) path (fun k (s : List Int) => runP l (path.take k) w = some s) (fun r => r = match runP l path w with | some v => .inr v | none => .inl ()) (body := weave_IsPath_b1 path (t, e)) (s0 := w) rfl ?_ ?_
  · obtain ⟨r, er, hr⟩ := hs
    rw [er, hr]
  · intro k z s hk hI
    obtain ⟨hlt, hin⟩ := few_in (few_of hp) hk
    have hs := eqv_isWd (eqv_symm (runP_eqv hI)) hw
    unfold weave_IsPath_b1
    simp only
    rw [if_pos (by simpa using hlt), ck_pos (by simp), ck_pos (by simpa using hlt), Int.toNat_natCast, getD_of hk, exchange_eq ht z (isWd_six hl hs) (by have := isWd_len hs; omega), Option.bind_some]
    have h1 := runP_take hk hI
    cases hc : canX l s z with
    | true =>
      rw [hc] at h1
      simp only [if_true, Bool.not_true, Bool.false_eq_true, if_false] at h1 ⊢
      rw [ck_pos hin]
      exact .inl ⟨_, rfl, h1⟩
    | false =>
      rw [hc] at h1
      simp only [Bool.false_eq_true, if_false, Bool.not_false, if_true] at h1 ⊢
      exact .inr ⟨_, rfl, by rw [runP_none h1]⟩
  · intro s hI
    rw [List.take_length] at hI
    unfold weave_IsPath_b1
    rw [if_neg (by simp)]
    exact ⟨_, rfl, by rw [hI]⟩

theorem IsPath_eq (l : Ltr) (w v path : List Int) (hl : few l.2) (hw : w.length ≤ 60) (hv : v.length ≤ 60) : weave_IsPath l w v path = some (pathA l w v path) := by
  unfold weave_IsPath pathA
  obtain ⟨t, e, ht⟩ := checked2 l w v hl hw hv
  rw [e, Option.bind_some]
  by_cases h0 : errW l [w, v] = 0
  · obtain ⟨hok, kw, kv⟩ := errW_two h0
    rw [if_neg (by simp [h0]), if_pos h0]
    by_cases hp : 1000 < path.length
    · rw [if_pos (by simp; omega), if_pos hp]
    · rw [if_neg (by simp; omega), if_neg hp, Clone_eq3 w (by omega), Option.bind_some, IsPath_loop (ht h0) hok kw path (by omega), Option.bind_some]
      cases hr : runP l path w with
      | none => simp
      | some u =>
        simp only
        unfold weave_IsPath_k1
        have := runP_len hr
        rw [sEqual_eq u v (few_of (n := 1000) (by omega)) (few_of (n := 1000) (by omega)), Option.bind_some]
        simp
  · rw [if_pos (by simp [h0]), if_neg h0]

/-! ### Equal, Path -/

def equalA (l : Ltr) (w v : List Int) : Bool × Int := if errW l [w, v] = 0 then (decide (eqv l v w), 0) else (false, errW l [w, v])

theorem Path_eq (l : Ltr) (w v : List Int) (hl : few l.2) (hw : w.length ≤ 60) (hv : v.length ≤ 60) : ∃ pl, weave_Path l w v = some (pl, if errW l [w, v] = 0 then (if eqv l v w then 0 else 5) else errW l [w, v]) ∧
    (errW l [w, v] = 0 → eqv l v w → runP l pl w = some v ∧ pl.length ≤ 45) ∧ (¬ (errW l [w, v] = 0 ∧ eqv l v w) → pl = []) := by
  unfold weave_Path
  obtain ⟨t, e, ht⟩ := checked2 l w v hl hw hv
  rw [e, Option.bind_some]
  by_cases h0 : errW l [w, v] = 0
  · obtain ⟨hok, kw, kv⟩ := errW_two h0
    obtain ⟨pl, ok, e1, e2, e3, e4⟩ := path_eq (ht h0) hok kw kv
    rw [if_neg (by simp [h0]), e1, Option.bind_some, if_pos h0]
    by_cases he : eqv l v w
    · have : ok = true := by rw [e2]; simpa using he
      subst this
      refine ⟨pl, by simp [he], fun _ _ => e3 rfl, fun h => absurd ⟨h0, he⟩ h⟩
    · have : ok = false := by rw [e2]; simpa using he
      subst this
      refine ⟨[], by simp [he], fun _ h => absurd h he, fun _ => rfl⟩
  · rw [if_pos (by simp [h0]), if_neg h0]
    exact ⟨[], rfl, fun h => absurd h h0, fun _ => rfl⟩

end Go.Proofs.Ytabchabbdnhjpaa
