/-
  Layer 3, pure: what two words share; WeaveShares.
-/
import Derived.Test.YtabchabbdnhjpaaV7
namespace Go.Proofs.Ytabchabbdnhjpaa
open Go.RowKit

set_option linter.unusedVariables false
set_option linter.unusedSimpArgs false
set_option maxRecDepth 10000

/-- The first letter with which both words can begin, and what is left of both. -/
def nxF (l : Ltr) (x y : List Int) (a : Nat) : Option (Int × List Int × List Int) := (wo l x (a : Int)).bind fun u => (wo l y (a : Int)).map fun o => ((a : Int), u, o)
def nx (l : Ltr) (x y : List Int) : Option (Int × List Int × List Int) := (List.range 6).findSome? (nxF l x y)

/-- The word that both have in front, and what is left of both. -/
def sp (l : Ltr) : Nat → List Int → List Int → List Int × List Int × List Int
  | 0, x, y => ([], x, y)
  | n + 1, x, y => match nx l x y with
    | some (a, u, o) => (a :: (sp l n u o).1, (sp l n u o).2)
    | none => ([], x, y)
def SP (l : Ltr) (x y : List Int) : List Int × List Int × List Int := sp l (x.length + 1) x y

/-- Common. -/
def commonA (l : Ltr) (w v : List Int) : List Int × Int := if errW l [w, v] = 0 then (FF l (SP l w v).1, 0) else ([], errW l [w, v])

/-- Both. -/
def bothA (l : Ltr) (w v : List Int) : List Int × Int :=
  if errW l [w, v] = 0 then
    (if (SP l w v).2.1.any (fun a => (SP l w v).2.2.any (dep l a)) = true then ([], 5)
     else if (SP l w v).1.length + (SP l w v).2.1.length + (SP l w v).2.2.length ≤ 10 then (FF l ((SP l w v).1 ++ (SP l w v).2.1 ++ (SP l w v).2.2), 0) else ([], 4))
  else ([], errW l [w, v])

end Go.Proofs.Ytabchabbdnhjpaa
