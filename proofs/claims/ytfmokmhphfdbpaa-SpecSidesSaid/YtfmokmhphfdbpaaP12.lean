/-
  Layer 1, pure: the law SpecSides.
-/
import Derived.Test.YtfmokmhphfdbpaaP11
namespace Go.Proofs.Ytfmokmhphfdbpaa
open Go.RowKit

set_option linter.unusedVariables false
set_option linter.unusedSimpArgs false
set_option linter.unusedSectionVars false
set_option maxRecDepth 10000

def allOf (s t : Tup) : Int × Int × List (List Int) × List (List Int) × Int := ((bothT s t).1, (bothT s t).2.1, (bothT s t).2.2.1, (bothT s t).2.2.2, 0)

theorem ok_okS {s : Tup} (hv : (toSp s).ok = true) : okS s := by
  have hm := Sp.okE hv
  have h1 := tab_iff.1 hm.2.2.2.2.1
  have h2 := tab_iff.1 hm.2.2.2.2.2
  have m1 : (toSp s).st ≤ 8 := hm.2.1
  have m2 : (toSp s).op ≤ 4 := hm.2.2.2.1
  have l1 : (s.2.2.1.length : Int) = (toSp s).st := h1.1
  have l2 : (s.2.2.2.length : Int) = (toSp s).st := h2.1
  refine okS_small ⟨by omega, fun r hr => ?_, by omega, fun r hr => ?_⟩
  · have : (r.length : Int) = (toSp s).op := (h1.2 r hr).1
    omega
  · have : (r.length : Int) = (toSp s).op := (h2.2 r hr).1
    omega

section
variable {s t : Tup} (hv : (toSp s).ok = true) (hw : (toSp t).ok = true) (h8 : s.1 * t.1 ≤ 8) (h4 : s.2.1 + t.2.1 ≤ 4)
include hv hw h8 h4

theorem sides_b1 : whileO (lineallaw01_SpecSides_b1 s t (allOf s t)) 0 = some (.inr ()) := by
  have hm := Sp.okE hv
  have hm' := Sp.okE hw
  have m0 : 1 ≤ s.1 := hm.1
  have m0' : 1 ≤ t.1 := hm'.1
  have m4 : 1 ≤ s.2.1 := hm.2.2.1
  have m4' : 1 ≤ t.2.1 := hm'.2.2.1
  have hmul := both_mul hv hw
  have hok := bothT_ok hv hw h8 h4
  have hsb := ok_okS hok
  have e1 : (allOf s t).1 = s.1 * t.1 := rfl
  refine whileO_seq (body := lineallaw01_SpecSides_b1 s t (allOf s t)) (fun q => ((q : Nat) : Int)) (s.1.toNat * t.1.toNat) (fun q hq => ?_) ?_
  · obtain ⟨d1, d2⟩ := both_dm hv hw hq
    have hq' : (q : Int) < s.1 * t.1 := by rw [← hmul]; exact Int.ofNat_lt.2 hq
    have hq8 : q < 1000 := by omega
    have hqr : inR (bothT s t).1 (q : Int) = true := decide_eq_true (show 0 ≤ (q : Int) ∧ (q : Int) < s.1 * t.1 from ⟨Int.natCast_nonneg _, hq'⟩)
    have eq : (q / t.1.toNat) * t.1.toNat + q % t.1.toNat = q := by rw [Nat.mul_comm]; exact Nat.div_add_mod q t.1.toNat
    have l2 : whileO (lineallaw01_SpecSides_b2 s t (allOf s t) (q : Int)) 0 = some (.inr ()) := by
      refine whileO_seq (body := lineallaw01_SpecSides_b2 s t (allOf s t) (q : Int)) (fun a => ((a : Nat) : Int)) s.2.1.toNat (fun a ha => ?_) ?_
      · have ha' : (a : Int) < s.2.1 := by omega
        have haR : inR (bothT s t).2.1 (a : Int) = true := decide_eq_true (show 0 ≤ (a : Int) ∧ (a : Int) < s.2.1 + t.2.1 by omega)
        have l3 : whileO (lineallaw01_SpecSides_b3 s t (allOf s t) (q : Int) (a : Int)) 0 = some (.inr ()) := by
          refine whileO_seq (body := lineallaw01_SpecSides_b3 s t (allOf s t) (q : Int) (a : Int)) (fun b => ((b : Nat) : Int)) t.2.1.toNat (fun b hb => ?_) ?_
          · have hb' : (b : Int) < t.2.1 := by omega
            have hbR : inR (bothT s t).2.1 (s.2.1 + (b : Int)) = true := decide_eq_true (show 0 ≤ s.2.1 + (b : Int) ∧ s.2.1 + (b : Int) < s.2.1 + t.2.1 by omega)
            unfold lineallaw01_SpecSides_b3
            rw [if_pos (by simpa using hb'), ck_pos (by rw [inK_i64]; omega)]
            rw [show (((allOf s t).1, (allOf s t).2.1, (allOf s t).2.2.1, (allOf s t).2.2.2.1) : Tup) = bothT s t from rfl, Commute_in hok hsb hqr haR hbR, Option.bind_some, if_neg (by simp)]
            have := both_com hv hw h8 h4 d1 d2 (a := (a : Int)) (b := (b : Int)) ⟨by omega, ha'⟩ ⟨by omega, hb'⟩
            rw [eq] at this
            rw [this, if_neg (by simp), ck_pos (by rw [inK_i64]; omega)]; rfl
          · unfold lineallaw01_SpecSides_b3
            rw [if_neg (by simp; omega)]
        unfold lineallaw01_SpecSides_b2
        rw [if_pos (by simpa using ha'), l3, Option.bind_some]
        simp only
        unfold lineallaw01_SpecSides_k3
        rw [ck_pos (by rw [inK_i64]; omega)]; rfl
      · unfold lineallaw01_SpecSides_b2
        rw [if_neg (by simp; omega)]
    unfold lineallaw01_SpecSides_b1
    rw [e1, if_pos (decide_eq_true hq'), l2, Option.bind_some]
    simp only
    unfold lineallaw01_SpecSides_k2
    rw [ck_pos (by rw [inK_i64]; omega)]; rfl
  · unfold lineallaw01_SpecSides_b1
    rw [e1, if_neg (by rw [decide_eq_true_eq, hmul]; omega)]

end

/-- The loop that tells the word apart. -/
def spStep (So : Int) (A : List Int × List Int × List Int × List Int) (x : Int × Int) : List Int × List Int × List Int × List Int :=
  if x.1 < So then (A.1 ++ [x.1], A.2.1, A.2.2.1 ++ [x.2], A.2.2.2) else (A.1, A.2.1 ++ [x.1 - So], A.2.2.1, A.2.2.2 ++ [x.2])

theorem spStep_fold (So : Int) : ∀ (l : List (Int × Int)) (A : List Int × List Int × List Int × List Int), l.foldl (spStep So) A = (A.1 ++ (spR So l).1, A.2.1 ++ (spR So l).2.1, A.2.2.1 ++ (spR So l).2.2.1, A.2.2.2 ++ (spR So l).2.2.2)
  | [], A => by simp [spR]
  | x :: r, A => by
    have e : spR So (x :: r) = if x.1 < So then (x.1 :: (spR So r).1, (spR So r).2.1, x.2 :: (spR So r).2.2.1, (spR So r).2.2.2) else ((spR So r).1, (x.1 - So) :: (spR So r).2.1, (spR So r).2.2.1, x.2 :: (spR So r).2.2.2) := rfl
    rw [List.foldl_cons, spStep_fold So r, e]
    unfold spStep
    by_cases h : x.1 < So
    · simp [h]
    · simp [h]

theorem spStep_len (So : Int) : ∀ (l : List (Int × Int)) (A : List Int × List Int × List Int × List Int) (n : Nat), A.1.length ≤ n → A.2.1.length ≤ n → A.2.2.1.length ≤ n → A.2.2.2.length ≤ n →
    (l.foldl (spStep So) A).1.length ≤ n + l.length ∧ (l.foldl (spStep So) A).2.1.length ≤ n + l.length ∧ (l.foldl (spStep So) A).2.2.1.length ≤ n + l.length ∧ (l.foldl (spStep So) A).2.2.2.length ≤ n + l.length
  | [], A, n, h1, h2, h3, h4 => ⟨h1, h2, h3, h4⟩
  | x :: r, A, n, h1, h2, h3, h4 => by
    rw [List.foldl_cons]
    have key : (spStep So A x).1.length ≤ n + 1 ∧ (spStep So A x).2.1.length ≤ n + 1 ∧ (spStep So A x).2.2.1.length ≤ n + 1 ∧ (spStep So A x).2.2.2.length ≤ n + 1 := by
      unfold spStep
      split
      · simp only [List.length_append, List.length_singleton]; omega
      · simp only [List.length_append, List.length_singleton]; omega
    have := spStep_len So r (spStep So A x) (n + 1) key.1 key.2.1 key.2.2.1 key.2.2.2
    rw [List.length_cons]
    omega

theorem sides_b4 (s : Tup) (hS : 1 ≤ s.2.1 ∧ s.2.1 ≤ 4) (w : List Int) (hw : ∀ o ∈ w, 0 ≤ o ∧ o < 8) (hl : w.length ≤ 20) (v : List Int × Int × Int) (hvl : v.1.length = w.length) :
    whileO (lineallaw01_SpecSides_b4 s w v) ([], [], [], [], 0) = some (spR s.2.1 (w.zip v.1)) := by
  have := whileO_seq (body := lineallaw01_SpecSides_b4 s w v) (fun j => ((((w.zip v.1).take j).foldl (spStep s.2.1) ([], [], [], [])).1, (((w.zip v.1).take j).foldl (spStep s.2.1) ([], [], [], [])).2.1, (((w.zip v.1).take j).foldl (spStep s.2.1) ([], [], [], [])).2.2.1, (((w.zip v.1).take j).foldl (spStep s.2.1) ([], [], [], [])).2.2.2, ((j : Nat) : Int))) w.length (r := spR s.2.1 (w.zip v.1)) (fun j hj => ?_) ?_
  · exact this
  · have hz : (w.zip v.1)[j]? = some (w[j], v.1[j]'(by omega)) := by
      rw [List.getElem?_eq_getElem (by rw [List.length_zip]; omega), List.getElem_zip]
    have ht : (w.zip v.1).take (j + 1) = (w.zip v.1).take j ++ [(w[j], v.1[j]'(by omega))] := by rw [List.take_add_one, hz]; rfl
    have g1 : w.getD j 0 = w[j] := by rw [List.getD_eq_getElem?_getD, List.getElem?_eq_getElem hj]; rfl
    have g2 : v.1.getD j 0 = v.1[j]'(by omega) := by rw [List.getD_eq_getElem?_getD, List.getElem?_eq_getElem (by omega)]; rfl
    have hwj := hw w[j] (List.getElem_mem hj)
    have hlen := spStep_len s.2.1 ((w.zip v.1).take j) ([], [], [], []) 0 (Nat.le_refl _) (Nat.le_refl _) (Nat.le_refl _) (Nat.le_refl _)
    have htl : ((w.zip v.1).take j).length ≤ 20 := by rw [List.length_take, List.length_zip]; omega
    rw [ht, List.foldl_append, List.foldl_cons, List.foldl_nil]
    generalize ((w.zip v.1).take j).foldl (spStep s.2.1) ([], [], [], []) = A at *
    unfold lineallaw01_SpecSides_b4 spStep
    simp only
    rw [if_pos (by simpa using hj), ck_pos (by omega), ck_pos (by omega), Int.toNat_natCast, g1, g2]
    by_cases hlt : w[j] < s.2.1
    · rw [if_pos (by simpa using hlt), if_pos hlt, ck_pos (by omega), ck_pos (by omega), ck_pos (by omega), ck_pos (by omega), ck_pos (by rw [inK_i64]; omega)]; rfl
    · rw [if_neg (by simpa using hlt), if_neg hlt, ck_pos (by rw [inK_i64]; omega), ck_pos (by omega), ck_pos (by omega), ck_pos (by omega), ck_pos (by omega), ck_pos (by rw [inK_i64]; omega)]; rfl
  · unfold lineallaw01_SpecSides_b4
    simp only
    rw [if_neg (by simp), List.take_of_length_le (by rw [List.length_zip]; omega), spStep_fold]
    simp

theorem SpecSides_eq (s : Tup) (hs : okS s) (t : Tup) (ht : okS t) (w : List Int) (hl : w.length ≤ maxLen) : lineallaw01_SpecSides s t w = some true := by
  unfold lineallaw01_SpecSides
  rw [Long_eq s hs, Option.bind_some]
  cases wideB s.2.2.1 || wideB s.2.2.2 with
  | true => rw [if_pos rfl, Awake_eq]; rfl
  | false =>
  rw [if_neg (by simp), Long_eq t ht, Option.bind_some]
  cases wideB t.2.2.1 || wideB t.2.2.2 with
  | true => rw [if_pos rfl, Awake_eq]; rfl
  | false =>
  rw [if_neg (by simp), refValid_eq s hs, Option.bind_some]
  cases hv : (toSp s).ok with
  | false => rw [if_pos (by rfl), Awake_eq]; rfl
  | true =>
  rw [if_neg (by simp), refValid_eq t ht, Option.bind_some]
  cases hw : (toSp t).ok with
  | false => rw [if_pos (by rfl), Awake_eq]; rfl
  | true =>
  rw [if_neg (by simp), Both_eq hv hw hs ht, Option.bind_some]
  by_cases h8 : 8 < s.1 * t.1
  · rw [if_pos h8, if_pos (by rfl), if_pos (by rfl), Awake_eq]; rfl
  by_cases h4 : 4 < s.2.1 + t.2.1
  · rw [if_neg h8, if_pos h4, if_pos (by rfl), if_pos (by rfl), Awake_eq]; rfl
  rw [if_neg h8, if_neg h4]
  have h8' : s.1 * t.1 ≤ 8 := by omega
  have h4' : s.2.1 + t.2.1 ≤ 4 := by omega
  have hm := Sp.okE hv
  have hm' := Sp.okE hw
  have m0 : 1 ≤ s.1 := hm.1
  have m0' : 1 ≤ t.1 := hm'.1
  have m4 : 1 ≤ s.2.1 := hm.2.2.1
  have m4' : 1 ≤ t.2.1 := hm'.2.2.1
  have m3 : s.2.1 ≤ 4 := hm.2.2.2.1
  have m1 : s.1 ≤ 8 := hm.2.1
  have m2 : t.1 ≤ 8 := hm'.2.1
  have hmul := mul_small (a := s.1) (b := t.1) (by omega) m1 (by omega) m2
  have hok := bothT_ok hv hw h8' h4'
  have hsb := ok_okS hok
  rw [show ((bothT s t).1, (bothT s t).2.1, (bothT s t).2.2.1, (bothT s t).2.2.2, (0 : Int)) = allOf s t from rfl]
  rw [show (((allOf s t).1, (allOf s t).2.1, (allOf s t).2.2.1, (allOf s t).2.2.2.1) : Tup) = bothT s t from rfl]
  rw [show (allOf s t).2.2.2.2 = 0 from rfl, if_neg (by simp), refValid_eq _ hsb, hok, Option.bind_some, if_neg (by simp), ck_pos (by rw [inK_i64]; omega)]
  rw [show (allOf s t).1 = s.1 * t.1 from rfl, if_neg (by simp), ck_pos (by rw [inK_i64]; omega), show (allOf s t).2.1 = s.2.1 + t.2.1 from rfl, if_neg (by simp), sides_b1 hv hw h8' h4', Option.bind_some]
  simp only
  unfold lineallaw01_SpecSides_k1
  rw [show (((allOf s t).1, (allOf s t).2.1, (allOf s t).2.2.1, (allOf s t).2.2.2.1) : Tup) = bothT s t from rfl, IsWord_eq _ w hl, Option.bind_some]
  cases hwb : wordB (bothT s t) w with
  | false => rw [if_pos (by rfl), Awake_eq]; rfl
  | true =>
  obtain ⟨w1, w2⟩ := wordB_all hwb
  have w2' : ∀ o ∈ w, 0 ≤ o ∧ o < s.2.1 + t.2.1 := fun o ho => of_decide_eq_true (w2 o ho)
  have h0 : inR (bothT s t).1 0 = true := decide_eq_true (show 0 ≤ (0 : Int) ∧ 0 < s.1 * t.1 by
    have := pair_lt (S := s.1) (T := t.1) (i := 0) (k := 0) (by omega) (by omega)
    omega)
  rw [if_neg (by simp), Run_eq _ hsb 0 w hl, Option.bind_some]
  have eR : runOf (bothT s t) 0 w = ((runF (bothT s t) 0 w).1, (runF (bothT s t) 0 w).2, 0) := by
    unfold runOf
    rw [hok, if_pos rfl, h0, if_pos rfl, hwb, if_pos rfl]
  have ean : (runF (bothT s t) 0 w).1 = ans (toSp (bothT s t)) 0 w := runF_ans _ _ _
  have elen : (ans (toSp (bothT s t)) 0 w).length = w.length := by
    have : ∀ (w : List Int) (q : Int), (ans (toSp (bothT s t)) q w).length = w.length := by
      intro w
      induction w with
      | nil => intro q; rfl
      | cons o w ih => intro q; show (_ :: ans _ _ w).length = _; rw [List.length_cons, List.length_cons, ih]
    exact this w 0
  rw [eR]
  simp only
  rw [ean, if_neg (by simp), if_neg (by rw [elen]; simp)]
  rw [sides_b4 s ⟨m4, m3⟩ w (fun o ho => by have := w2' o ho; omega) w1 _ elen, Option.bind_some]
  have hr := both_run hv hw h8' h4' w 0 0 (by omega) (by omega) w2'
  simp only at hr
  rw [show (((0 * t.1.toNat + 0 : Nat)) : Int) = 0 by simp] at hr
  generalize spR s.2.1 (w.zip (ans (toSp (bothT s t)) 0 w)) = F at *
  obtain ⟨r1, r2, r3, r4, r5, r6⟩ := hr
  have hmx : ∀ l : List Int, l.length ≤ 20 → l.length ≤ maxLen := fun l hl => by rw [maxLen_num]; omega
  have W1 : wordB s F.1 = true := wordB_of (by omega) r1
  have W2 : wordB t F.2.1 = true := wordB_of (by omega) r2
  have z1 : inR s.1 0 = true := decide_eq_true (by omega)
  have z2 : inR t.1 0 = true := decide_eq_true (by omega)
  unfold lineallaw01_SpecSides_k4
  rw [Run_eq s hs 0 F.1 (hmx _ (by omega)), Option.bind_some, Run_eq t ht 0 F.2.1 (hmx _ (by omega)), Option.bind_some]
  have eR1 : runOf s 0 F.1 = ((runF s 0 F.1).1, (runF s 0 F.1).2, 0) := by
    unfold runOf
    rw [hv, if_pos rfl, z1, if_pos rfl, W1, if_pos rfl]
  have eR2 : runOf t 0 F.2.1 = ((runF t 0 F.2.1).1, (runF t 0 F.2.1).2, 0) := by
    unfold runOf
    rw [hw, if_pos rfl, z2, if_pos rfl, W2, if_pos rfl]
  have a1 : (runF s 0 F.1).1 = F.2.2.1 := by rw [runF_ans]; exact r5
  have a2 : (runF t 0 F.2.1).1 = F.2.2.2 := by rw [runF_ans]; exact r6
  have lenA : ∀ (S : Sp) (w : List Int) (q : Int), (ans S q w).length = w.length := by
    intro S w
    induction w with
    | nil => intro q; rfl
    | cons o w ih => intro q; show (_ :: ans _ _ w).length = _; rw [List.length_cons, List.length_cons, ih]
  rw [eR1, eR2]
  simp only
  rw [if_pos (by simp), if_pos (by simp), a1, a2]
  rw [SameInts_eq _ _ (hmx _ (by rw [← r5, lenA]; omega)), Option.bind_some, if_pos (by simp), SameInts_eq _ _ (hmx _ (by rw [← r6, lenA]; omega)), Option.bind_some, if_pos (by simp), Awake_eq]; rfl

end Go.Proofs.Ytfmokmhphfdbpaa
