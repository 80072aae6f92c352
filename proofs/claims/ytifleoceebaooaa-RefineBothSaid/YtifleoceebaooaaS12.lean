/-
  Layer 5, pure: the walk over sets: what is seen of a system.
-/
import Derived.Test.YtifleoceebaooaaS10
namespace Go.Proofs.Ytifleoceebaooaa
open Go.RowKit

set_option linter.unusedVariables false
set_option linter.unusedSectionVars false
set_option linter.unusedSimpArgs false

/-! ### The place in a list -/

def idx : List Nat → Nat → Nat
  | [], _ => 0
  | y :: l, v => if v = y then 0 else idx l v + 1

/-! ### The walk -/

abbrev Wst := List Nat × List Stp

def adv (f : Nat → Int → Nat) (i : Nat) (l : Int) (x : Wst) : Option Wst :=
  if f (x.1.getD i 0) l = 0 then some x
  else if 6 < (if f (x.1.getD i 0) l ∈ x.1 then x.1 else x.1 ++ [f (x.1.getD i 0) l]).length then none
  else some ((if f (x.1.getD i 0) l ∈ x.1 then x.1 else x.1 ++ [f (x.1.getD i 0) l]), x.2 ++ [((i : Int), l, ((idx (if f (x.1.getD i 0) l ∈ x.1 then x.1 else x.1 ++ [f (x.1.getD i 0) l]) (f (x.1.getD i 0) l) : Nat) : Int))])

def rowW (f : Nat → Int → Nat) (i : Nat) (x : Wst) : Option Wst := (adv f i 1 x).bind fun x => (adv f i 2 x).bind (adv f i 3)

def walk (f : Nat → Int → Nat) : Nat → Nat → Wst → Option Wst
  | 0, _, x => some x
  | n + 1, i, x => if i < x.1.length then (rowW f i x).bind (walk f n (i + 1)) else some x

structure WI (f : Nat → Int → Nat) (B b i : Nat) (l : Int) (x : Wst) : Prop where
  few : x.1.length ≤ 6
  nd : x.1.Nodup
  beg : x.1[0]? = some b
  lt : ∀ m ∈ x.1, m < B ∧ m ≠ 0
  all : ∀ (j m : Nat), x.1[j]? = some m → ∀ q : Int, 0 < q → q ≤ 3 → (j < i ∨ j = i ∧ q < l) → f m q = 0 ∨ ∃ t : Nat, x.1[t]? = some (f m q) ∧ ((j : Int), q, (t : Int)) ∈ x.2
  st : ∀ z ∈ x.2, ∃ (j : Nat) (q : Int) (t m : Nat), z = ((j : Int), q, (t : Int)) ∧ 0 < q ∧ q ≤ 3 ∧ (j < i ∨ j = i ∧ q < l) ∧ x.1[j]? = some m ∧ f m q ≠ 0 ∧ x.1[t]? = some (f m q)
  dif : x.2.Pairwise fun y z => ¬ (y.1 = z.1 ∧ y.2.1 = z.2.1)
  len : (x.2.length : Int) ≤ 3 * i + (l - 1)

/-- Two walks side by side. -/
def mapW (φ : Nat → Nat) (x : Wst) : Wst := (x.1.map φ, x.2)

/-! ### The program's -/

def castW (x : Wst) : List Int × List Stp := (x.1.map fun (i : Nat) => (i : Int), x.2)

section
variable {s : Sys} {T : El T69} (hv : OkS s) (hT : Frm s T)
include hv hT

def seenW (s : Sys) : Option Wst := walk (coM s) 7 0 ([begM s], [])

end
end Go.Proofs.Ytifleoceebaooaa
