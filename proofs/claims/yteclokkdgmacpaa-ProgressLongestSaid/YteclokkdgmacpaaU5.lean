/-
  Layer 7, pure: ways; ends; ProgressPaths answers true.
-/
import Derived.Test.YteclokkdgmacpaaU4
import Derived.Test.YteclokkdgmacpaaUtw
namespace Go.Proofs.Yteclokkdgmacpaa
open Go.RowKit

set_option linter.unusedVariables false
set_option linter.unusedSimpArgs false
set_option linter.unusedSectionVars false
set_option maxRecDepth 10000

/-- The first path that is found to a place. -/
def wayL (are : Mv → Bool) (g : Gr) (from0 to0 : Int) : Option (List Int) := ((found are g from0).find? fun y => decide (y.1 = to0)).map (·.2)

/-- What a search for a way answers. -/
def wayA (o : Option (List Int)) : List Int × Bool := match o with | some w => (w, true) | none => ([], false)

/-- What is found leads there, by moves of the kind; nothing is found where nothing leads. -/
theorem wayL_some {are : Mv → Bool} {g : Gr} (hg : GOK g) {p q : Int} (hp : 0 ≤ p ∧ p < g.1) {w : List Int} (h : wayL are g p q = some w) : leadL g p w = some q ∧ (∀ k ∈ w, are (g.2.getD k.toNat (0, 0, 0, false)) = true) ∧ w.length < g.1.toNat ∧ rch are g p q := by
  obtain ⟨j, hB, _⟩ := srch_ok (are := are) hg hp
  unfold wayL at h
  rw [Option.map_eq_some_iff] at h
  obtain ⟨y, h1, rfl⟩ := h
  have h2 := List.find?_some h1
  have h3 := List.mem_of_find?_eq_some h1
  obtain ⟨a, ha, hae⟩ := List.mem_iff_getElem.1 h3
  have hz : (found are g p)[a]? = some y := by rw [← hae]; exact List.getElem?_eq_getElem ha
  have hz' : ((srch are g p).1.zip (srch are g p).2)[a]? = some y := hz
  rw [List.getElem?_zip_eq_some] at hz'
  have hy : y.1 = q := of_decide_eq_true h2
  have hw := hB.way a _ _ hz'.1 hz'.2
  have hl := hB.len_le hg
  have hal := (List.getElem?_eq_some_iff.1 hz'.1).1
  rw [hy] at hw
  exact ⟨hw.1, hw.2.1, by omega, by rw [← hy]; exact List.mem_of_getElem? hz'.1⟩
theorem wayL_none {are : Mv → Bool} {g : Gr} (hg : GOK g) {p q : Int} (hp : 0 ≤ p ∧ p < g.1) : wayL are g p q = none ↔ ¬ rch are g p q := by
  obtain ⟨j, hB, _⟩ := srch_ok (are := are) hg hp
  unfold wayL
  rw [Option.map_eq_none_iff, List.find?_eq_none]
  constructor
  · intro h hr
    obtain ⟨a, ha, hae⟩ := List.mem_iff_getElem.1 hr
    have ha2 : a < (srch are g p).2.length := by rw [hB.len]; exact ha
    have hz : (found are g p)[a]? = some (q, (srch are g p).2[a]) := by
      show ((srch are g p).1.zip (srch are g p).2)[a]? = _
      rw [List.getElem?_zip_eq_some]
      exact ⟨by rw [← hae]; exact List.getElem?_eq_getElem ha, List.getElem?_eq_getElem ha2⟩
    have := h _ (List.mem_of_getElem? hz)
    simp at this
  · intro h y hy hd
    apply h
    have hq : y.1 = q := of_decide_eq_true hd
    rw [← hq]
    exact (List.of_mem_zip (a := y.1) (b := y.2) hy).1

def wayR (g : Gr) (place : Int) : List Int × Int := if okG g = true then (if isB place g.1 = true then (match wayL any g 0 place with | some w => (w, 0) | none => ([], 5)) else ([], 2)) else ([], 70)

/-! ### The reference's search, layer by layer -/

structure RW (g : Gr) (s : PW) (there : List Bool) (ways : List (List Int)) : Prop where
  l1 : there.length = g.1.toNat
  l2 : ways.length = g.1.toNat
  t : ∀ q : Nat, q < g.1.toNat → there.getD q false = decide ((q : Int) ∈ s.1)
  w : ∀ (j : Nat) (p : Int) (u : List Int), s.1[j]? = some p → s.2[j]? = some u → ways.getD p.toNat [] = u

section
variable {g : Gr} (hg : GOK g)
include hg

end

end Go.Proofs.Yteclokkdgmacpaa
