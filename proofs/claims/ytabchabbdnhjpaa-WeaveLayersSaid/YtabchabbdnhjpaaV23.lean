/-
  Layer 3, pure: WeaveLayers answers true.
-/
import Derived.Test.YtabchabbdnhjpaaV22
namespace Go.Proofs.Ytabchabbdnhjpaa
open Go.RowKit

set_option linter.unusedVariables false
set_option linter.unusedSimpArgs false
set_option maxRecDepth 10000

/-- Letters of a layer depend on letters of the layer in front of it. -/
theorem lay_next {l : Ltr} : ∀ (n : Nat) (w : List Int), w.length = n → ∀ i L M, (lay l w)[i]? = some L → (lay l w)[i + 1]? = some M → ∀ b ∈ M, ∃ c ∈ L, dep l b c = true := by
  intro n
  induction n using Nat.strongRecOn with
  | ind n ih =>
    intro w hn i L M hL hM b hb
    by_cases h0 : w = []
    · subst h0; simp [lay] at hL
    · rw [lay_eq l w h0] at hL hM
      rw [List.getElem?_cons_succ] at hM
      cases i with
      | zero =>
        rw [List.getElem?_cons_zero] at hL
        injection hL with hL; subst hL
        have h1 : rsl l w ≠ [] := fun e => by rw [e] at hM; simp [lay] at hM
        rw [lay_eq l _ h1, List.getElem?_cons_zero] at hM
        injection hM with hM; subst hM
        exact second_dep hb
      | succ i =>
        rw [List.getElem?_cons_succ] at hL
        exact ih (rsl l w).length (by have := rsl_lt (l := l) h0; omega) _ rfl i L M hL hM b hb

theorem layS_next {l : Ltr} {w : List Int} {i : Nat} {L M : List Int} (hL : (layS l w)[i]? = some L) (hM : (layS l w)[i + 1]? = some M) {b : Int} (hb : b ∈ M) : ∃ c ∈ L, dep l b c = true := by
  unfold layS at hL hM
  rw [List.getElem?_map, Option.map_eq_some_iff] at hL hM
  obtain ⟨L', h1, rfl⟩ := hL
  obtain ⟨M', h2, rfl⟩ := hM
  obtain ⟨c, hc, hd⟩ := lay_next _ w rfl i L' M' h1 h2 b ((srt_perm M').subset hb)
  exact ⟨c, (srt_perm L').symm.subset hc, hd⟩

theorem layS_in {l : Ltr} {w L : List Int} (hL : L ∈ layS l w) : L ≠ [] ∧ indep l L ∧ L.Pairwise (· < ·) ∧ (∀ x ∈ L, x ∈ w) ∧ L.length ≤ w.length := by
  unfold layS at hL
  obtain ⟨M, hM, rfl⟩ := List.mem_map.1 hL
  have hi : indep l (srt M) := indep_perm (srt_perm M).symm (lay_indep _ w rfl M hM)
  refine ⟨fun e => lay_ne l w M hM ?_, hi, ?_, fun x hx => ?_, ?_⟩
  · have := (srt_perm M).length_eq
    rw [e] at this
    exact List.eq_nil_of_length_eq_zero this.symm
  · have h1 := srt_asc M
    have h2 := indep_nodup hi
    have := h1.and h2
    exact this.imp fun ⟨a, b⟩ => by omega
  · exact (lay_perm l w).subset (List.mem_flatten.2 ⟨M, hM, (srt_perm M).subset hx⟩)
  · rw [(srt_perm M).length_eq, ← (lay_perm l w).length_eq]; exact flat_lenL hM

theorem foldl_or {α : Type} (p : α → Bool) : ∀ (M : List α) (s : Bool), M.foldl (fun s c => s || p c) s = (s || M.any p)
  | [], s => by simp
  | c :: M, s => by rw [List.foldl_cons, foldl_or p M, List.any_cons, Bool.or_assoc]

theorem depends_eq {l : Ltr} (hf : few l.2) (hl : okL l = true) {a b : Int} (ha : isLet l a = true) (hb : isLet l b = true) : lineallaw03_depends l a b = some (dep l a b) := by
  unfold lineallaw03_depends
  rw [Depend_eq l a b hf, Option.bind_some, if_pos hl]
  simp [ha, hb]

theorem isWd_isLet0 {l : Ltr} {w : List Int} (hw : isWd l w = true) {a : Int} (ha : a ∈ w) : isLet l a = true := by
  unfold isWd at hw
  rw [Bool.and_eq_true, List.all_eq_true] at hw
  exact hw.2 a ha

section
variable {l : Ltr} (hf : few l.2) (hl : okL l = true) {w : List Int} (hw : isWd l w = true)
include hf hl hw

theorem Layers_b3 {i : Nat} {M : List Int} (hM : (layS l w)[i]? = some M) {L : List Int} (hL : (layS l w)[i + 1]? = some L) {k : Nat} {a : Int} (ha : L[k]? = some a) (s : List Int) (e : Int) :
    whileO (lineallaw03_WeaveLayers_b3 l (layS l w, e) (s, ((i + 1 : Nat) : Int)) (k : Int)) (false, 0) = some (M.any (dep l a)) := by
  have gM : (layS l w).getD i [] = M := getD_of hM
  have gL : (layS l w).getD (i + 1) [] = L := getD_of hL
  have ga : L.getD k 0 = a := getD_of ha
  obtain ⟨_, _, _, m4, m5⟩ := layS_in (List.mem_of_getElem? hM)
  obtain ⟨_, _, _, l4, l5⟩ := layS_in (List.mem_of_getElem? hL)
  have hwl := isWd_len hw
  have e1 : (((i + 1 : Nat) : Int) - 1).toNat = i := by omega
  have key := whileO_list (body := lineallaw03_WeaveLayers_b3 l (layS l w, e) (s, ((i + 1 : Nat) : Int)) (k : Int)) (fun (s : Bool) (i : Int) => (s, i)) M (fun s c => s || dep l a c) id (fun _ _ => True) (s0 := false) trivial
    (fun j c b hj _ => by
      refine ⟨?_, trivial⟩
      have hjl : j < M.length := (List.getElem?_eq_some_iff.1 hj).1
      have gj : M.getD j 0 = c := getD_of hj
      unfold lineallaw03_WeaveLayers_b3
      simp only [e1, Int.toNat_natCast, gM, gL, ga, gj]
      rw [if_pos (by rw [decide_eq_true_eq]; omega), ck_pos (by omega), ck_pos (by omega)]
      cases b with
      | true => rw [if_pos rfl, ck_pos (by rw [inK_i64]; omega)]; rfl
      | false => rw [if_neg (by simp), depends_eq hf hl (isWd_isLet0 hw (l4 a (List.mem_of_getElem? ha))) (isWd_isLet0 hw (m4 c (List.mem_of_getElem? hj))), Option.bind_some, ck_pos (by rw [inK_i64]; omega), Bool.false_or])
    (fun b _ => by
      unfold lineallaw03_WeaveLayers_b3
      simp only [e1, gM]
      rw [if_neg (by simp)]
      rfl)
  have k1 : whileO (lineallaw03_WeaveLayers_b3 l (layS l w, e) (s, ((i + 1 : Nat) : Int)) (k : Int)) (false, 0) = some _ := key.1
  rw [k1, foldl_or, Bool.false_or]; rfl

theorem Layers_k5 {i : Nat} {L : List Int} (hL : (layS l w)[i]? = some L) {k : Nat} {a : Int} (ha : L[k]? = some a) (s : List Int) (e : Int) :
    lineallaw03_WeaveLayers_k5 l (layS l w, e) (s, (i : Int)) (k : Int) true = some (.next ((k : Int) + 1)) := by
  have gL : (layS l w).getD i [] = L := getD_of hL
  have ga : L.getD k 0 = a := getD_of ha
  obtain ⟨_, l2, l3, l4, l5⟩ := layS_in (List.mem_of_getElem? hL)
  have hwl := isWd_len hw
  have hkl : k < L.length := (List.getElem?_eq_some_iff.1 ha).1
  have hk6 : lineallaw03_WeaveLayers_k6 l (layS l w, e) (s, (i : Int)) (k : Int) = some (.next ((k : Int) + 1)) := by
    unfold lineallaw03_WeaveLayers_k6
    have key := whileO_all (body := lineallaw03_WeaveLayers_b4 l (layS l w, e) (s, (i : Int)) (k : Int)) (L.take k) (fun b => !dep l a b) (fun j b hj => by
      have hjl : j < (L.take k).length := (List.getElem?_eq_some_iff.1 hj).1
      have gj : (L.take k).getD j 0 = b := getD_of hj
      have hb : b ∈ L := List.mem_of_mem_take (List.mem_of_getElem? hj)
      unfold lineallaw03_WeaveLayers_b4
      simp only [Int.toNat_natCast, gL, ga, gj]
      rw [if_pos (by rw [decide_eq_true_eq]; omega), ck_pos (by omega), ck_pos (by omega), depends_eq hf hl (isWd_isLet0 hw (l4 a (List.mem_of_getElem? ha))) (isWd_isLet0 hw (l4 b hb)), Option.bind_some]
      cases dep l a b with
      | true => rw [if_pos rfl]; simp
      | false =>
        have : (L.take k).length ≤ L.length := by rw [List.length_take]; omega
        rw [if_neg (by simp), ck_pos (by rw [inK_i64]; omega)]; simp) (by
      unfold lineallaw03_WeaveLayers_b4
      simp only [Int.toNat_natCast, gL]
      rw [if_neg (by simp)])
    have hall : (L.take k).all (fun b => !dep l a b) = true := by
      rw [List.all_eq_true]
      intro b hb
      obtain ⟨j, hj, rfl⟩ := List.mem_iff_getElem.1 hb
      rw [List.getElem_take]
      rw [List.length_take] at hj
      have := List.pairwise_iff_getElem.1 l2 j k (by omega) hkl (by omega)
      rw [dep_symm]
      have ea : L[k] = a := by rw [List.getElem?_eq_getElem hkl] at ha; injection ha
      rw [ea] at this
      rw [this]; rfl
    rw [key, hall, if_pos rfl, Option.bind_some]
    unfold lineallaw03_WeaveLayers_k4
    simp only
    rw [ck_pos (by rw [inK_i64]; omega)]
  unfold lineallaw03_WeaveLayers_k5
  rw [if_neg (by simp)]
  simp only [Int.toNat_natCast, gL, ga]
  by_cases h0 : 0 < k
  · have e1 : ((k : Int) - 1).toNat = k - 1 := by omega
    have hlt : L.getD (k - 1) 0 < a := by
      have := List.pairwise_iff_getElem.1 l3 (k - 1) k (by omega) hkl (by omega)
      rw [getD_of (List.getElem?_eq_getElem (show k - 1 < L.length by omega))]
      have ea : L[k] = a := by rw [List.getElem?_eq_getElem hkl] at ha; injection ha
      rw [ea] at this
      exact this
    rw [if_pos (by rw [decide_eq_true_eq]; omega), ck_pos (by rw [inK_i64]; omega), ck_pos (by omega), ck_pos (by omega), e1, if_neg (by rw [decide_eq_true_eq]; omega), ck_pos (by omega), ck_pos (by omega), hk6]
  · rw [if_neg (by rw [decide_eq_true_eq]; omega), ck_pos (by omega), ck_pos (by omega), hk6]

theorem Layers_b2 {i : Nat} {L : List Int} (hL : (layS l w)[i]? = some L) (s : List Int) (e : Int) : whileO (lineallaw03_WeaveLayers_b2 l (layS l w, e) (s, (i : Int))) 0 = some (.inr ()) := by
  have gL : (layS l w).getD i [] = L := getD_of hL
  have hil : i < (layS l w).length := (List.getElem?_eq_some_iff.1 hL).1
  have hwl := isWd_len hw
  have hnl : (layS l w).length ≤ w.length := by
    unfold layS
    rw [List.length_map, ← (lay_perm l w).length_eq]
    exact ne_len (lay_ne l w)
  have key := whileO_all (body := lineallaw03_WeaveLayers_b2 l (layS l w, e) (s, (i : Int))) L (fun _ => true) (fun k a hk => by
    have hkl : k < L.length := (List.getElem?_eq_some_iff.1 hk).1
    unfold lineallaw03_WeaveLayers_b2
    simp only [Int.toNat_natCast, gL]
    rw [if_pos (by rw [decide_eq_true_eq]; omega), ck_pos (by omega), ck_pos (by omega)]
    cases i with
    | zero =>
      rw [if_neg (by simp)]
      have : decide (((0 : Nat) : Int) = 0) = true := by simp
      rw [this, Layers_k5 hf hl hw hL hk s e]
      rfl
    | succ i =>
      have hM : (layS l w)[i]? = some ((layS l w)[i]'(by omega)) := List.getElem?_eq_getElem (by omega)
      have hd : decide (((i + 1 : Nat) : Int) = 0) = false := by rw [decide_eq_false_iff_not]; omega
      rw [if_pos (by rw [decide_eq_true_eq]; omega), ck_pos (by rw [inK_i64]; omega), ck_pos (by omega), ck_pos (by omega), hd, Layers_b3 hf hl hw hM hL hk s e, Option.bind_some]
      obtain ⟨c, hc, hdc⟩ := layS_next hM hL (List.mem_of_getElem? hk)
      have : ((layS l w)[i]'(by omega)).any (dep l a) = true := List.any_eq_true.2 ⟨c, hc, hdc⟩
      rw [this, Layers_k5 hf hl hw hL hk s e]
      rfl) (by
    unfold lineallaw03_WeaveLayers_b2
    simp only [Int.toNat_natCast, gL]
    rw [if_neg (by simp)])
  rw [key]
  simp

theorem Layers_b1 (e : Int) : whileO (lineallaw03_WeaveLayers_b1 l (layS l w, e)) ([], 0) = some (.inr (layS l w).flatten) := by
  have hwl := isWd_len hw
  have hfl : (layS l w).flatten.length ≤ 10 := by rw [eqv_len (layS_back (l := l) _ w rfl)]; exact hwl
  have key := whileO_list (body := lineallaw03_WeaveLayers_b1 l (layS l w, e)) (fun (s : List Int) (i : Int) => (s, i)) (layS l w) (fun s L => s ++ L) Sum.inr (fun k s => s = ((layS l w).take k).flatten) (s0 := []) (by simp)
    (fun k L s hk hs => by
      have hkl : k < (layS l w).length := (List.getElem?_eq_some_iff.1 hk).1
      have gL : (layS l w).getD k [] = L := getD_of hk
      obtain ⟨l1, _, _, l4, l5⟩ := layS_in (List.mem_of_getElem? hk)
      have hn : s ++ L = ((layS l w).take (k + 1)).flatten := by rw [take_one hk, List.flatten_append, hs]; simp
      refine ⟨?_, hn⟩
      have hlen : (s ++ L).length ≤ 10 := by
        rw [hn]
        have : ((layS l w).take (k + 1)).flatten.length ≤ (layS l w).flatten.length := by
          conv => rhs; rw [← List.take_append_drop (k + 1) (layS l w)]
          rw [List.flatten_append, List.length_append]; omega
        omega
      have hnl : (layS l w).length ≤ 10 := by
        have : (layS l w).length ≤ (layS l w).flatten.length := ne_len fun L hL => (layS_in hL).1
        omega
      rw [List.length_append] at hlen
      have hpos : 0 < L.length := List.length_pos_iff.2 l1
      unfold lineallaw03_WeaveLayers_b1
      simp only [Int.toNat_natCast, gL]
      rw [if_pos (by rw [decide_eq_true_eq]; omega), ck_pos (by omega), ck_pos (by omega), if_neg (by rw [decide_eq_true_eq]; omega), rIsWord_eq l L (few_of (n := 60) (by omega)), Option.bind_some,
        isWd_sub hw (by omega) l4, if_neg (by simp), Layers_b2 hf hl hw hk s e, Option.bind_some]
      unfold lineallaw03_WeaveLayers_k3 lineallaw03_WeaveLayers_k2
      simp only [Int.toNat_natCast, gL]
      rw [ck_pos (by omega), ck_pos (by rw [inK_i64]; omega)])
    (fun s hs => by
      unfold lineallaw03_WeaveLayers_b1
      rw [if_neg (by simp)])
  obtain ⟨k1, k2⟩ := key
  have k1' : whileO (lineallaw03_WeaveLayers_b1 l (layS l w, e)) ([], 0) = some _ := k1
  rw [k1', k2, List.take_length]
end

theorem WeaveLayers_eq (l : Ltr) (hf : few l.2) (w : List Int) : lineallaw03_WeaveLayers l w = some true := by
  unfold lineallaw03_WeaveLayers
  rcases valid_cases (l := l) [w] hf (few_of (n := 1) (by simp)) with h | ⟨h, hl, hws⟩
  · rw [h, Option.bind_some, if_pos (by simp), Awake3_eq]; rfl
  · have hw := hws w (by simp)
    have hwl := isWd_len hw
    have hL := Layers_eq l w hf (by omega)
    unfold layA at hL
    rw [if_pos (errW_of1 hl hw)] at hL
    have hE : eqv l (layS l w).flatten w := layS_back _ w rfl
    rw [h, Option.bind_some, if_neg (by simp), hL, Option.bind_some, if_neg (by simp), Layers_b1 hf hl hw, Option.bind_some]
    simp only
    unfold lineallaw03_WeaveLayers_k1
    rw [Equal_ok hf hl hw (eqv_isWd hE hw), Option.bind_some, FF_eq hE, Awake3_eq]
    simp

end Go.Proofs.Ytabchabbdnhjpaa
