/-
  Layer 5, pure: the walk over pairs of sets finds the first trace of the one alone, or there is none; which systems are plain.
-/
import Derived.Test.YtifleoceebaooaaS9
namespace Go.Proofs.Ytifleoceebaooaa
open Go.RowKit

set_option linter.unusedVariables false
set_option linter.unusedSectionVars false
set_option linter.unusedSimpArgs false

section
variable {α β : Type} [DecidableEq α]
end

def kOf (c a : Sys) (w : List Int) : Int × Int := (((behM c w : Nat) : Int), ((behM a w : Nat) : Int))

structure BI (c a : Sys) (i : Nat) (l : Int) (b : List (List Int)) (kn : List ((Int × Int) × Bool)) : Prop where
  ok : ∀ w : List Int, w ∈ b → w.all seenB = true ∧ behM c w ≠ 0 ∧ behM a w ≠ 0
  nd : (b.map (kOf c a)).Nodup
  mono : ∀ (j k : Nat) (v w : List Int), b[j]? = some v → b[k]? = some w → j ≤ k → v.length ≤ w.length
  near : ∀ v : List Int, b[i]? = some v → ∀ w ∈ b, w.length ≤ v.length + 1
  idx : ∀ (j : Nat) (w : List Int), b[j]? = some w → w.length ≤ j
  cls : ∀ (j : Nat) (w : List Int), b[j]? = some w → ∀ q : Int, 0 < q → q ≤ 3 → (j < i ∨ j = i ∧ q < l) → behM c (w ++ [q]) = 0 ∨ ∃ v ∈ b, kOf c a v = kOf c a (w ++ [q]) ∧ v.length ≤ w.length + 1
  beg : b[0]? = some []
  kn : ∀ p : Int × Int, mget false kn p = true ↔ p ∈ b.map (kOf c a)

/-- The first one that tells. -/
structure Told (c a : Sys) (u : List Int) : Prop where
  seen : u.all seenB = true
  one : behM c u ≠ 0
  two : behM a u = 0
  short : ∀ v : List Int, v.all seenB = true → behM c v ≠ 0 → behM a v = 0 → u.length ≤ v.length

section
variable {c a : Sys} {Tc Ta : El T69} (hc : OkS c) (ha : OkS a)
include hc ha

variable (hTc : Frm c Tc) (hTa : Frm a Ta)
include hTc hTa

end
end Go.Proofs.Ytifleoceebaooaa
