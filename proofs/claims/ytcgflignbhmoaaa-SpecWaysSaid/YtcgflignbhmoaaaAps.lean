/-
  The first of the shortest words that two specifications answer otherwise, as a walk over pairs finds it. No program is named here.
-/
import Derived.Test.YtcgflignbhmoaaaBfs
namespace Go.Proofs.Ytcgflignbhmoaaa

/-- The first call that two states answer otherwise. -/
def fstDiff (M N : Sp) (p : Int × Int) : Option Nat := (List.range M.op.toNat).find? fun o => at2 M.sy p.1 o != at2 N.sy p.2 o

def apartL (M N : Sp) : List Elt → Option (List Int)
  | [] => none
  | e :: r => match fstDiff M N e.1 with
    | some o => some (e.2 ++ [(o : Int)])
    | none => apartL M N r

def apartP (M N : Sp) (f : Int × Int) : Option (List Int) := apartL M N (bfs M N f)

end Go.Proofs.Ytcgflignbhmoaaa
