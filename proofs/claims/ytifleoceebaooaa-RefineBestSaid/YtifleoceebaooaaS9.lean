/-
  Layer 5, pure: traces and relations: what refines keeps traces; of a plain one this is all; the first trace that tells is short.
-/
import Derived.Test.YtifleoceebaooaaS5
import Derived.Test.YtifleoceebaooaaS6
namespace Go.Proofs.Ytifleoceebaooaa
open Go.RowKit

set_option linter.unusedVariables false
set_option linter.unusedSectionVars false
set_option linter.unusedSimpArgs false

def folM (s : Sys) (m : Nat) (w : List Int) : Nat := w.foldl (fun m l => coM s m l) m
section
variable {s : Sys} (hv : OkS s)
include hv

end

/-! ### A short one -/

section
variable {c a : Sys} (hc : OkS c) (ha : OkS a)
include hc ha

/-! ### What refines keeps traces -/

def img (Q : Nat → Nat) (S : Nat) : Nat := setM fun x => !decide (Q x &&& S = 0)

/-! ### A plain one -/

def plainP (s : Sys) : Prop := (∀ z ∈ s.2, z.2.1 ≠ 0) ∧ ∀ y ∈ s.2, ∀ z ∈ s.2, y.1 = z.1 → y.2.1 = z.2.1 → y = z

def oneM (m : Nat) : Prop := ∀ y z, m.testBit y = true → m.testBit z = true → y = z

end
end Go.Proofs.Ytifleoceebaooaa
