/-
  Layer 1, pure: words that run; the specification begun in another state and run.
-/
import Derived.Test.YtcgflignbhmoaaaP3
namespace Go.Proofs.Ytcgflignbhmoaaa
open Go.RowKit

set_option linter.unusedVariables false
set_option linter.unusedSimpArgs false

def runStep (s : Tup) (p : List Int × Int) (o : Int) : List Int × Int := (p.1 ++ [at2 s.2.2.2 p.2 o.toNat], at2 s.2.2.1 p.2 o.toNat)
/-- The answers of a word from a state, and the state behind it. -/
def runF (s : Tup) (q : Int) (w : List Int) : List Int × Int := w.foldl (runStep s) ([], q)

def wordB (s : Tup) (w : List Int) : Bool := decide (w.length ≤ 20) && w.all (inR s.2.1)

/-- The answer of Run. -/
def runOf (s : Tup) (a : Int) (w : List Int) : List Int × Int × Int :=
  if (toSp s).ok = true then (if inR s.1 a = true then (if wordB s w = true then ((runF s a w).1, (runF s a w).2, 0) else ([], 0, 2)) else ([], 0, 2)) else ([], 0, 10)

/-- The answer of Tells. -/
def tellsOf (s : Tup) (a b : Int) (w : List Int) : Bool × Int :=
  if (toSp s).ok = true then (if inR s.1 a = true ∧ inR s.1 b = true then (if wordB s w = true then (!decide ((runF s a w).1 = (runF s b w).1), 0) else (false, 2)) else (false, 2)) else (false, 10)

/-! ### Begun, and run -/

/-- The specification, begun. -/
def begT (s : Tup) (a : Int) : Tup := (s.1, s.2.1, begNx s a, begSy s a)

theorem tab_iff {st op : Int} {p : Int → Bool} {rs : List (List Int)} : tab st op p rs = true ↔ (rs.length : Int) = st ∧ ∀ r ∈ rs, (r.length : Int) = op ∧ ∀ x ∈ r, p x = true := by
  unfold tab
  simp [List.all_eq_true]

end Go.Proofs.Ytcgflignbhmoaaa
