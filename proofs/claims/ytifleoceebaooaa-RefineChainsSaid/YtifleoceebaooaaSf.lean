/-
  slices.SortFunc at steps, under the order of steps: a contract of the machine's form, out of the shelf's.
-/
import Derived.Shelf.SlSortCmp.NoneTotal
import Derived.Shelf.Lay
import Derived.Ground.SlsfProg
import Derived.Test.YtifleoceebaooaaSf1
import Derived.Test.YtifleoceebaooaaGk
namespace Go.Proofs.Ytifleoceebaooaa
open Go.RowKit Go.Sort Go.Shelf Go.Lib

set_option linter.unusedSimpArgs false
set_option linter.unusedVariables false

shelf_lay_g SlLaysF0.n6 Slsf 6 at Try 123 as Try.sortSteps

abbrev SmS := { z : Int × Int × Int // smS z }
instance : Inhabited SmS := ⟨⟨(0, 0, 0), by unfold smS smI; simp⟩⟩
def encM (z : SmS) : List Value := encS z.1
def cfM (x y : SmS) : Int := cmpS x.1 y.1
def ltS (x y : Int × Int × Int) : Bool := decide (cmpS x y < 0)

theorem ltS_iff {x y : Int × Int × Int} : ltS x y = true ↔ x.1 < y.1 ∨ x.1 = y.1 ∧ (x.2.1 < y.2.1 ∨ x.2.1 = y.2.1 ∧ x.2.2 < y.2.2) := by
  unfold ltS cmpS orI
  rw [decide_eq_true_eq]
  by_cases h1 : x.1 = y.1
  · by_cases h2 : x.2.1 = y.2.1
    · simp [h1, h2]; omega
    · rw [if_neg (by omega), if_pos (by omega)]; omega
  · rw [if_pos (by omega)]; omega

theorem ltS_no {x y : Int × Int × Int} : ltS x y = false ↔ ¬ (x.1 < y.1 ∨ x.1 = y.1 ∧ (x.2.1 < y.2.1 ∨ x.2.1 = y.2.1 ∧ x.2.2 < y.2.2)) := by
  rw [← ltS_iff, Bool.not_eq_true]

theorem swoM : SWO (ltOf cfM) where
  irrefl x := by
    show ltS x.1 x.1 = false
    rw [ltS_no]; omega
  trans x y z h1 h2 := by
    have h1' : ltS x.1 y.1 = true := h1
    have h2' : ltS y.1 z.1 = true := h2
    show ltS x.1 z.1 = true
    rw [ltS_iff] at *; omega
  ntrans x y z h1 h2 := by
    have h1' : ltS x.1 y.1 = false := h1
    have h2' : ltS y.1 z.1 = false := h2
    show ltS x.1 z.1 = false
    rw [ltS_no] at *; omega

theorem totM (x y : SmS) (h1 : ltOf cfM x y = false) (h2 : ltOf cfM y x = false) : x = y := by
  have h1' : ltS x.1 y.1 = false := h1
  have h2' : ltS y.1 x.1 = false := h2
  rw [ltS_no] at h1' h2'
  exact Subtype.ext (Prod.ext (by omega) (Prod.ext (by omega) (by omega)))

theorem cmpLaysM (blk off size : Nat) (w : World) : CmpLays Try.prog 124 #[] encM 3 cfM blk off size w :=
  fun _ _ _ _ x y => cmp_at x.2 y.2 _

/-- Sorted steps. -/
def sortS (l : List (Int × Int × Int)) : List (Int × Int × Int) := l.mergeSort fun x y => !ltS y x

instance (z : Int × Int × Int) : Decidable (smS z) := by unfold smS smI; exact inferInstance

/-- slices.SortFunc at steps. -/
noncomputable def slices_SortFunc (x0 : List (Int × Int × Int)) : Option (List (Int × Int × Int)) := ck (x0.length ≤ 1000000) <| ck (∀ z ∈ x0, smS z) <| some (sortS x0)

theorem mapM_sort (x0 : List (Int × Int × Int)) (h : ∀ z ∈ x0, smS z) : ((x0.attachWith smS h).mergeSort fun x y => !(ltOf cfM) y x).map Subtype.val = sortS x0 := by
  rw [List.map_mergeSort (s := fun x y => !ltS y x) (f := Subtype.val) (l := x0.attachWith smS h) (r := fun x y : SmS => !(ltOf cfM) y x) (fun a _ b _ => rfl)]
  unfold sortS
  congr 1
  rw [List.attachWith_map_subtype_val]

theorem sortS_len (x0 : List (Int × Int × Int)) : (sortS x0).length = x0.length := List.length_mergeSort _

theorem attach_get (x0 : List (Int × Int × Int)) (h : ∀ z ∈ x0, smS z) {l : List SmS} (hl : l.map Subtype.val = x0) {j : Nat} (hj : j < x0.length) : ∃ z : SmS, l.toArray[j]! = z ∧ x0[j]? = some z.1 := by
  have hlen : l.length = x0.length := by rw [← hl, List.length_map]
  have hj' : j < l.length := by omega
  refine ⟨l[j], by simp [hj'], ?_⟩
  rw [← hl, List.getElem?_map, List.getElem?_eq_getElem hj']
  rfl

/-- The cells of a row of steps. -/
theorem holds_steps {w : World} {A : Nat → Prop} {g : Nat} {xs : List (Int × Int × Int)} {l : List SmS} (hl : l.map Subtype.val = xs) {cur : Array Value} {e : TypeId} (hg : w.heap[g]? = some (.cells cur e (0, 0)))
    (hx : ∀ i x, xs[i]? = some x → RepAt w A (.pair (.int .i64) (.pair (.int .i64) (.int .i64))) x g (i * 3)) : HoldsK encM 3 w g 0 l.toArray := by
  intro j hj
  rw [size_flatK, List.size_toArray] at hj
  have hlen : l.length = xs.length := by rw [← hl, List.length_map]
  have hfr : w.frozen? ⟨g, 0 + j, none⟩ = false := by
    unfold World.frozen?
    simp [hg]
  refine ⟨?_, hfr⟩
  have hq : j / 3 < xs.length := by omega
  obtain ⟨z, e1, e2⟩ := attach_get xs (fun z hz => by rw [← hl] at hz; obtain ⟨y, _, rfl⟩ := List.mem_map.1 hz; exact y.2) hl hq
  rw [get_flatK _ _ _ _ (by rw [List.size_toArray]; exact hj), e1]
  obtain ⟨h1, h2, h3⟩ := hx _ _ e2
  have hm : j % 3 = 0 ∨ j % 3 = 1 ∨ j % 3 = 2 := by omega
  rcases hm with hm | hm | hm
  · rw [show 0 + j = j / 3 * 3 by omega, hm]; exact h1
  · rw [show 0 + j = j / 3 * 3 + 1 by omega, hm]; exact h2
  · rw [show 0 + j = j / 3 * 3 + 2 by omega, hm]; exact h3

theorem steps_hold {w : World} {A : Nat → Prop} {g : Nat} {xs : List (Int × Int × Int)} {l : List SmS} (hl : l.map Subtype.val = xs) (h : HoldsK encM 3 w g 0 l.toArray) :
    ∀ i x, xs[i]? = some x → RepAt w A (.pair (.int .i64) (.pair (.int .i64) (.int .i64))) x g (i * 3) := by
  intro i x hi
  have hil := (List.getElem?_eq_some_iff.1 hi).1
  have hlen : l.length = xs.length := by rw [← hl, List.length_map]
  obtain ⟨z, e1, e2⟩ := attach_get xs (fun z hz => by rw [← hl] at hz; obtain ⟨y, _, rfl⟩ := List.mem_map.1 hz; exact y.2) hl hil
  rw [e2] at hi
  obtain rfl := Option.some.inj hi
  have cell : ∀ k, k < 3 → w.cell? ⟨g, i * 3 + k, none⟩ = some ((encM z)[k]!) := fun k hk => by
    have hj : i * 3 + k < l.toArray.size * 3 := by rw [List.size_toArray]; omega
    have := (h (i * 3 + k) (by rw [size_flatK]; exact hj)).1
    rw [get_flatK _ _ _ _ hj, show (i * 3 + k) / 3 = i by omega, show (i * 3 + k) % 3 = k by omega, e1, Nat.zero_add] at this
    exact this
  exact ⟨cell 0 (by omega), cell 1 (by omega), cell 2 (by omega)⟩

theorem aggS : ∀ w, (isAgg 66).run Try.prog w = .ok true w := fun w => by kernel_rfl
theorem szS : ∀ w, (Go.sizeOf 66).run Try.prog w = .ok 3 w := fun w => by kernel_rfl

theorem hc_slices_SortFunc (x0 : List (Int × Int × Int)) {r : (List (Int × Int × Int))} (h : slices_SortFunc x0 = some r) : HC Try.prog 123 [(1000, .arr 66 (.pair (.int .i64) (.pair (.int .i64) (.int .i64))) x0)] [.own 1000, .fn (.func 124) [] []] [(1000, .arr 66 (.pair (.int .i64) (.pair (.int .i64) (.int .i64))) r)] (.tup []) := by
  unfold slices_SortFunc at h
  obtain ⟨hmany, h⟩ := ck_some.1 h
  obtain ⟨hs, h⟩ := ck_some.1 h
  obtain rfl := Option.some.inj h
  refine ⟨⟨_, Try.func123, by kernel_rfl, by kernel_rfl⟩, fun η A0 w vs hp hv => ?_⟩
  obtain ⟨u, us, e1, e2, e3⟩ := hv
  obtain ⟨u2, us2, e4, e5, e6⟩ := e3
  unfold RepV at e2 e5
  unfold RepVs at e6
  obtain ⟨ps, cs, rfl, hps, hcs⟩ := e5
  unfold RepVs at hps hcs
  obtain rfl : ps = #[] := Array.toList_inj.1 hps
  obtain rfl : cs = #[] := Array.toList_inj.1 hcs
  subst e2 e4 e6
  obtain rfl : vs = #[η 1000, .func (.func 124) #[] #[]] := Array.toList_inj.1 e1
  have hin : ∀ xs b B, hpGet [(1000, ABlk.arr 66 (.pair (.int .i64) (.pair (.int .i64) (.int .i64))) xs)] b = some B → b = 1000 ∧ B = .arr 66 (.pair (.int .i64) (.pair (.int .i64) (.int .i64))) xs := fun xs b B hb => by
    unfold hpGet at hb
    split at hb
    · rename_i h; exact ⟨h, (Option.some.inj hb).symm⟩
    · cases hb
  have hb := hp.blk 1000 _ rfl
  have eg : ∀ args w, (callFunc 124 args).run Try.prog w = .ok (.enter 124 args) w := enters_of Try.func124 (by kernel_rfl) rfl
  -- the worlds before and after: the same handles
  have fin : ∀ w', RelBlk η w' (Av A0 η (hpGet [(1000, ABlk.arr 66 (.pair (.int .i64) (.pair (.int .i64) (.int .i64))) (sortS x0))])) (.arr 66 (.pair (.int .i64) (.pair (.int .i64) (.int .i64))) (sortS x0)) (η 1000) → Fr (Live η (hpGet [(1000, ABlk.arr 66 (.pair (.int .i64) (.pair (.int .i64) (.int .i64))) x0)])) w w' →
      Gave η A0 w [(1000, .arr 66 (.pair (.int .i64) (.pair (.int .i64) (.int .i64))) x0)] [(1000, .arr 66 (.pair (.int .i64) (.pair (.int .i64) (.int .i64))) (sortS x0))] (.tup []) (.tuple #[]) η w' := fun w' hB hF => by
    have hlive : ∀ g, Live η (hpGet [(1000, ABlk.arr 66 (.pair (.int .i64) (.pair (.int .i64) (.int .i64))) (sortS x0))]) g → Live η (hpGet [(1000, ABlk.arr 66 (.pair (.int .i64) (.pair (.int .i64) (.int .i64))) x0)]) g := fun g ⟨b, B, h1, h2, h3⟩ => by
      obtain ⟨rfl, rfl⟩ := hin _ _ _ h1
      exact ⟨1000, _, rfl, rfl, h3⟩
    refine ⟨fun _ _ _ => rfl, ⟨fun b B hb => ?_, fun b b' B B' g h1 h2 _ _ _ _ => ?_, fun g hg => ?_⟩, ?_, hF, fun g h _ => hlive g h⟩
    · obtain ⟨rfl, rfl⟩ := hin _ _ _ hb
      exact hB
    · rw [(hin _ _ _ h1).1, (hin _ _ _ h2).1]
    · exact ⟨Nat.lt_of_lt_of_le (hp.av g hg).1 hF.size, fun hl => (hp.av g hg).2 (hlive g hl)⟩
    · unfold RepV
      exact ⟨#[], rfl, by unfold RepVs; rfl⟩
  rcases hb with ⟨hnil, hn⟩ | ⟨g, cap, cur, hg1, hg2, hg3, hg4, hg5, hg6⟩
  · rw [hn]
    refine (AnyF.slices_SortFunc_none Try.sortSteps none 0 _ w).mono fun e w' ⟨he, hw⟩ => ?_
    subst he; subst hw
    refine ⟨_, η, rfl, fin _ (.inl ⟨?_, hn⟩) ⟨rfl, rfl, rfl, Nat.le_refl _, fun _ _ _ => rfl⟩⟩
    rw [hnil]; unfold sortS; simp
  · have hL : (x0.attachWith smS hs).map Subtype.val = x0 := List.attachWith_map_subtype_val ..
    have hM := mapM_sort x0 hs
    have hlen : (x0.attachWith smS hs).toArray.size = x0.length := by simp
    have hgl := (Array.getElem?_eq_some_iff.1 hg2).1
    have hH := holds_steps hL hg2 hg6
    have hcon := AnyQ.slices_SortFunc_total Try.sortSteps 3 aggS szS encM (fun _ => rfl) (fun x v hv => by simp [encM, encS] at hv; rcases hv with rfl | rfl | rfl <;> rfl) cfM swoM 124 #[] g 0 cap (x0.attachWith smS hs).toArray w eg (cmpLaysM g 0 _ w) hH hgl (by rw [hlen]; omega) totM
    rw [hlen, ← hg1] at hcon
    refine hcon.mono fun e w' ⟨he, n, os, hw⟩ => ?_
    generalize hl' : (x0.attachWith smS hs).toArray.toList.mergeSort (fun x y => !(ltOf cfM) y x) = l' at hw
    have hM' : l'.map Subtype.val = sortS x0 := by rw [← hl']; exact hM
    have hlen' : l'.length = x0.length := by rw [← List.length_map (f := Subtype.val), hM', sortS_len]
    have hH' : HoldsK encM 3 w' g 0 l'.toArray := by
      rw [hw]
      exact holdsK_sortWorldK_c encM 3 w g 0 _ _ n os hH hgl (by rw [hlen, List.size_toArray, hlen'])
    have hk : ∀ k, k < w.heap.size → w'.heap[k]? = (w.heap.modify g (onCells (putCells id 0 (flatK encM 3 l'.toArray))))[k]? := fun k hk => by
      rw [hw]
      show ((w.heap.modify g (onCells (putCells id 0 (flatK encM 3 l'.toArray)))) ++ os)[k]? = _
      rw [Array.getElem?_append_left (by rw [Array.size_modify]; exact hk)]
    refine ⟨_, η, he, fin _ (.inr ⟨g, cap, putCells id 0 (flatK encM 3 l'.toArray) cur, ?_, ?_, ?_, hg4, ?_, steps_hold hM' hH'⟩) ?_⟩
    · rw [hg1, sortS_len]
    · rw [hk g hgl, Array.getElem?_modify, if_pos rfl, hg2]; rfl
    · rw [sortS_len]; exact hg3
    · rw [← hg5]; unfold putCells; simp
    · refine ⟨by rw [hw]; rfl, by rw [hw]; rfl, by rw [hw]; rfl, ?_, fun k hk1 hk2 => ?_⟩
      · rw [hw]
        show w.heap.size ≤ ((w.heap.modify g _) ++ os).size
        rw [Array.size_append, Array.size_modify]; omega
      · have hne : ¬ g = k := fun h => hk2 ⟨1000, _, rfl, rfl, by rw [hg1, h]; rfl⟩
        rw [hk k hk1, Array.getElem?_modify, if_neg hne]

end Go.Proofs.Ytifleoceebaooaa
