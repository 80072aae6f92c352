/-
  No cell of these rows narrows 'for every input' (looked for: loops, veiled, ifaces, maps, wideKeys, modest, calm, conditions, laid).
  DERIVED. THE GIVEN ROWS OF THIS SEAT. 10 by the template 'for every input the law returns true; each argument reads behind the call as it read before'; 0 by the template 'total and deterministic' (their statements: YtdicomoggfhbfaaTotals.lean).
  GIVEN WITH THE SEED: the statements are not yours to turn. If you find one false, say at which input.
  Laid BY PROGRAM, IN A SANDBOX (cutbox-rows.mjs): the forced cells as the released guide's own fill.sh prints them over the translation cd1fdb41303956e1… (all of the seat's roots in one cut). By AI agents, Wed Nov 11 2026. No macro, syntax, notation, axiom, sorry.
-/
import Derived.Test.YtdicomoggfhbfaaChecked
import GoSem.Claim
import GoSem.ClaimJoined
import GoSem.ClaimMapViews
import Derived.JoinedTies
import Derived.KernelRfl
namespace Go.Proofs.Ytdicomoggfhbfaa
/- THE CELL 'sum', in the pinned program and in every row, IS THE sha256 OF THE DUMP (.gsa) THAT YtdicomoggfhbfaaProg.lean LOADS. Nothing in Lean hashes anything: it is a label: what it is worth is what the hold of that sum in a sandbox is worth. -/
noncomputable def Try.pinned : Pinned := { name := "ytdicomoggfhbfaa", sum := "cd1fdb41303956e1c3451da99af218da9f842630123db2b85237dd7c7a6d1e65", checked := Try.checked }
namespace Rows
def none {H : Type} : Left H := { results := [], args := [] }

/-- 'lineallaw09.DelayConflicts': WHATEVER THE INPUT: true; the input reads as it did. -/
def delayConflictsSpec : ChangeSpec := { name := "delayConflicts", fn := fun _ => fun
  | [d1, d2, d3, d4, d5] => { results := [.lit (.bool true)], args := [d1, d2, d3, d4, d5] }
  | _ => none }
def delayConflictsRow : OpenClaim := { program := "ytdicomoggfhbfaa", sum := "cd1fdb41303956e1c3451da99af218da9f842630123db2b85237dd7c7a6d1e65", func := "lineal/lineallaw09.DelayConflicts", spec := "delayConflicts", unfollowed := true, recurses := true, plainKeys := false, apart := false }
def DelayConflictsSaid : Prop := delayConflictsRow.holds Try.pinned (OpenSpec.ofChange delayConflictsSpec)

/-- ITS FALSE NEIGHBOUR: 'it returns false'. Refute it at one input. -/
def delayConflictsWrong : ChangeSpec := { name := "delayConflicts", fn := fun _ => fun
  | [d1, d2, d3, d4, d5] => { results := [.lit (.bool false)], args := [d1, d2, d3, d4, d5] }
  | _ => none }
def DelayConflictsWrongFalsely : Prop := delayConflictsRow.holds Try.pinned (OpenSpec.ofChange delayConflictsWrong)

/-- 'lineallaw09.DelayCircles': WHATEVER THE INPUT: true; the input reads as it did. -/
def delayCirclesSpec : ChangeSpec := { name := "delayCircles", fn := fun _ => fun
  | [d1, d2, d3] => { results := [.lit (.bool true)], args := [d1, d2, d3] }
  | _ => none }
def delayCirclesRow : OpenClaim := { program := "ytdicomoggfhbfaa", sum := "cd1fdb41303956e1c3451da99af218da9f842630123db2b85237dd7c7a6d1e65", func := "lineal/lineallaw09.DelayCircles", spec := "delayCircles", unfollowed := true, recurses := true, plainKeys := false, apart := false }
def DelayCirclesSaid : Prop := delayCirclesRow.holds Try.pinned (OpenSpec.ofChange delayCirclesSpec)

/-- ITS FALSE NEIGHBOUR: 'it returns false'. Refute it at one input. -/
def delayCirclesWrong : ChangeSpec := { name := "delayCircles", fn := fun _ => fun
  | [d1, d2, d3] => { results := [.lit (.bool false)], args := [d1, d2, d3] }
  | _ => none }
def DelayCirclesWrongFalsely : Prop := delayCirclesRow.holds Try.pinned (OpenSpec.ofChange delayCirclesWrong)

/-- 'lineallaw09.DelayFences': WHATEVER THE INPUT: true; the input reads as it did. -/
def delayFencesSpec : ChangeSpec := { name := "delayFences", fn := fun _ => fun
  | [d1, d2, d3] => { results := [.lit (.bool true)], args := [d1, d2, d3] }
  | _ => none }
def delayFencesRow : OpenClaim := { program := "ytdicomoggfhbfaa", sum := "cd1fdb41303956e1c3451da99af218da9f842630123db2b85237dd7c7a6d1e65", func := "lineal/lineallaw09.DelayFences", spec := "delayFences", unfollowed := true, recurses := true, plainKeys := false, apart := false }
def DelayFencesSaid : Prop := delayFencesRow.holds Try.pinned (OpenSpec.ofChange delayFencesSpec)

/-- ITS FALSE NEIGHBOUR: 'it returns false'. Refute it at one input. -/
def delayFencesWrong : ChangeSpec := { name := "delayFences", fn := fun _ => fun
  | [d1, d2, d3] => { results := [.lit (.bool false)], args := [d1, d2, d3] }
  | _ => none }
def DelayFencesWrongFalsely : Prop := delayFencesRow.holds Try.pinned (OpenSpec.ofChange delayFencesWrong)

/-- 'lineallaw09.DelayPrices': WHATEVER THE INPUT: true; the input reads as it did. -/
def delayPricesSpec : ChangeSpec := { name := "delayPrices", fn := fun _ => fun
  | [d1, d2, d3, d4] => { results := [.lit (.bool true)], args := [d1, d2, d3, d4] }
  | _ => none }
def delayPricesRow : OpenClaim := { program := "ytdicomoggfhbfaa", sum := "cd1fdb41303956e1c3451da99af218da9f842630123db2b85237dd7c7a6d1e65", func := "lineal/lineallaw09.DelayPrices", spec := "delayPrices", unfollowed := true, recurses := true, plainKeys := false, apart := false }
def DelayPricesSaid : Prop := delayPricesRow.holds Try.pinned (OpenSpec.ofChange delayPricesSpec)

/-- ITS FALSE NEIGHBOUR: 'it returns false'. Refute it at one input. -/
def delayPricesWrong : ChangeSpec := { name := "delayPrices", fn := fun _ => fun
  | [d1, d2, d3, d4] => { results := [.lit (.bool false)], args := [d1, d2, d3, d4] }
  | _ => none }
def DelayPricesWrongFalsely : Prop := delayPricesRow.holds Try.pinned (OpenSpec.ofChange delayPricesWrong)

/-- 'lineallaw09.DelayPrograms': WHATEVER THE INPUT: true; the input reads as it did. -/
def delayProgramsSpec : ChangeSpec := { name := "delayPrograms", fn := fun _ => fun
  | [d1, d2, d3] => { results := [.lit (.bool true)], args := [d1, d2, d3] }
  | _ => none }
def delayProgramsRow : OpenClaim := { program := "ytdicomoggfhbfaa", sum := "cd1fdb41303956e1c3451da99af218da9f842630123db2b85237dd7c7a6d1e65", func := "lineal/lineallaw09.DelayPrograms", spec := "delayPrograms", unfollowed := true, recurses := true, plainKeys := false, apart := false }
def DelayProgramsSaid : Prop := delayProgramsRow.holds Try.pinned (OpenSpec.ofChange delayProgramsSpec)

/-- ITS FALSE NEIGHBOUR: 'it returns false'. Refute it at one input. -/
def delayProgramsWrong : ChangeSpec := { name := "delayPrograms", fn := fun _ => fun
  | [d1, d2, d3] => { results := [.lit (.bool false)], args := [d1, d2, d3] }
  | _ => none }
def DelayProgramsWrongFalsely : Prop := delayProgramsRow.holds Try.pinned (OpenSpec.ofChange delayProgramsWrong)

/-- 'lineallaw09.DelayNeeded': WHATEVER THE INPUT: true; the input reads as it did. -/
def delayNeededSpec : ChangeSpec := { name := "delayNeeded", fn := fun _ => fun
  | [d1, d2] => { results := [.lit (.bool true)], args := [d1, d2] }
  | _ => none }
def delayNeededRow : OpenClaim := { program := "ytdicomoggfhbfaa", sum := "cd1fdb41303956e1c3451da99af218da9f842630123db2b85237dd7c7a6d1e65", func := "lineal/lineallaw09.DelayNeeded", spec := "delayNeeded", unfollowed := true, recurses := true, plainKeys := false, apart := false }
def DelayNeededSaid : Prop := delayNeededRow.holds Try.pinned (OpenSpec.ofChange delayNeededSpec)

/-- ITS FALSE NEIGHBOUR: 'it returns false'. Refute it at one input. -/
def delayNeededWrong : ChangeSpec := { name := "delayNeeded", fn := fun _ => fun
  | [d1, d2] => { results := [.lit (.bool false)], args := [d1, d2] }
  | _ => none }
def DelayNeededWrongFalsely : Prop := delayNeededRow.holds Try.pinned (OpenSpec.ofChange delayNeededWrong)

/-- 'lineallaw09.DelayLess': WHATEVER THE INPUT: true; the input reads as it did. -/
def delayLessSpec : ChangeSpec := { name := "delayLess", fn := fun _ => fun
  | [d1, d2, d3] => { results := [.lit (.bool true)], args := [d1, d2, d3] }
  | _ => none }
def delayLessRow : OpenClaim := { program := "ytdicomoggfhbfaa", sum := "cd1fdb41303956e1c3451da99af218da9f842630123db2b85237dd7c7a6d1e65", func := "lineal/lineallaw09.DelayLess", spec := "delayLess", unfollowed := true, recurses := true, plainKeys := false, apart := false }
def DelayLessSaid : Prop := delayLessRow.holds Try.pinned (OpenSpec.ofChange delayLessSpec)

/-- ITS FALSE NEIGHBOUR: 'it returns false'. Refute it at one input. -/
def delayLessWrong : ChangeSpec := { name := "delayLess", fn := fun _ => fun
  | [d1, d2, d3] => { results := [.lit (.bool false)], args := [d1, d2, d3] }
  | _ => none }
def DelayLessWrongFalsely : Prop := delayLessRow.holds Try.pinned (OpenSpec.ofChange delayLessWrong)

/-- 'lineallaw09.DelayTurns': WHATEVER THE INPUT: true; the input reads as it did. -/
def delayTurnsSpec : ChangeSpec := { name := "delayTurns", fn := fun _ => fun
  | [d] => { results := [.lit (.bool true)], args := [d] }
  | _ => none }
def delayTurnsRow : OpenClaim := { program := "ytdicomoggfhbfaa", sum := "cd1fdb41303956e1c3451da99af218da9f842630123db2b85237dd7c7a6d1e65", func := "lineal/lineallaw09.DelayTurns", spec := "delayTurns", unfollowed := true, recurses := true, plainKeys := false, apart := false }
def DelayTurnsSaid : Prop := delayTurnsRow.holds Try.pinned (OpenSpec.ofChange delayTurnsSpec)

/-- ITS FALSE NEIGHBOUR: 'it returns false'. Refute it at one input. -/
def delayTurnsWrong : ChangeSpec := { name := "delayTurns", fn := fun _ => fun
  | [d] => { results := [.lit (.bool false)], args := [d] }
  | _ => none }
def DelayTurnsWrongFalsely : Prop := delayTurnsRow.holds Try.pinned (OpenSpec.ofChange delayTurnsWrong)

/-- 'lineallaw09.DelayCheapest': WHATEVER THE INPUT: true; the input reads as it did. -/
def delayCheapestSpec : ChangeSpec := { name := "delayCheapest", fn := fun _ => fun
  | [d1, d2, d3, d4, d5] => { results := [.lit (.bool true)], args := [d1, d2, d3, d4, d5] }
  | _ => none }
def delayCheapestRow : OpenClaim := { program := "ytdicomoggfhbfaa", sum := "cd1fdb41303956e1c3451da99af218da9f842630123db2b85237dd7c7a6d1e65", func := "lineal/lineallaw09.DelayCheapest", spec := "delayCheapest", unfollowed := true, recurses := true, plainKeys := false, apart := false }
def DelayCheapestSaid : Prop := delayCheapestRow.holds Try.pinned (OpenSpec.ofChange delayCheapestSpec)

/-- ITS FALSE NEIGHBOUR: 'it returns false'. Refute it at one input. -/
def delayCheapestWrong : ChangeSpec := { name := "delayCheapest", fn := fun _ => fun
  | [d1, d2, d3, d4, d5] => { results := [.lit (.bool false)], args := [d1, d2, d3, d4, d5] }
  | _ => none }
def DelayCheapestWrongFalsely : Prop := delayCheapestRow.holds Try.pinned (OpenSpec.ofChange delayCheapestWrong)

/-- 'lineallaw09.DelayRenamed': WHATEVER THE INPUT: true; the input reads as it did. -/
def delayRenamedSpec : ChangeSpec := { name := "delayRenamed", fn := fun _ => fun
  | [d1, d2, d3] => { results := [.lit (.bool true)], args := [d1, d2, d3] }
  | _ => none }
def delayRenamedRow : OpenClaim := { program := "ytdicomoggfhbfaa", sum := "cd1fdb41303956e1c3451da99af218da9f842630123db2b85237dd7c7a6d1e65", func := "lineal/lineallaw09.DelayRenamed", spec := "delayRenamed", unfollowed := true, recurses := true, plainKeys := false, apart := false }
def DelayRenamedSaid : Prop := delayRenamedRow.holds Try.pinned (OpenSpec.ofChange delayRenamedSpec)

/-- ITS FALSE NEIGHBOUR: 'it returns false'. Refute it at one input. -/
def delayRenamedWrong : ChangeSpec := { name := "delayRenamed", fn := fun _ => fun
  | [d1, d2, d3] => { results := [.lit (.bool false)], args := [d1, d2, d3] }
  | _ => none }
def DelayRenamedWrongFalsely : Prop := delayRenamedRow.holds Try.pinned (OpenSpec.ofChange delayRenamedWrong)

/- THE SECOND FORM. 'bulk': how many values and letters a reading holds, each counted each time it is reached (what is shared counts as often as it is met; a slice's spare places count too). A statement '..UptoSaid' is the law's where the arguments, and the package variables that the reading takes, are together of bulk at most 1048576: NARROWER than '..Said'. Prove '..Said' where nothing that the law and all that it calls make is longer than what came in: it says more and counts as full. Else prove '..UptoSaid'. A law counts once. -/
mutual
def uptoBulk {H : Type} : DataW H → Nat
  | .lit (.string bytes) => bytes.length + 1
  | .lit _ => 1
  | .nil => 1
  | .ptr d => uptoBulk d + 1
  | .slice elems spare => uptoBulkAll elems + uptoBulkAll spare + 1
  | .agg parts => uptoBulkAll parts + 1
  | .iface _ d => uptoBulk d + 1
  | .map entries => uptoBulkEntries entries + 1
  | .held _ => 1
def uptoBulkAll {H : Type} : List (DataW H) → Nat
  | [] => 0
  | d :: r => uptoBulk d + uptoBulkAll r
def uptoBulkEntries {H : Type} : List (Lit × DataW H) → Nat
  | [] => 0
  | x :: r => uptoBulkEntry x + uptoBulkEntries r
def uptoBulkEntry {H : Type} : Lit × DataW H → Nat
  | (.string bytes, d) => bytes.length + uptoBulk d + 1
  | (_, d) => uptoBulk d + 1
 end
def uptoSmall : (H : Type) → List (DataW H) → Bool := fun _ ds => decide (uptoBulkAll ds ≤ 1048576)
def OpenSpec.upto (s : _root_.Go.ChangeSpec) : _root_.Go.OpenSpec := { _root_.Go.OpenSpec.ofChange s with cond := some uptoSmall }

/-- 'lineallaw09.DelayConflicts', WHERE WHAT IT READS IS OF BULK AT MOST 1048576: true; the input reads as it did. -/
def delayConflictsUptoRow : OpenClaim := { program := "ytdicomoggfhbfaa", sum := "cd1fdb41303956e1c3451da99af218da9f842630123db2b85237dd7c7a6d1e65", func := "lineal/lineallaw09.DelayConflicts", spec := "delayConflicts", unfollowed := true, recurses := true, plainKeys := false, apart := false, narrowed := true }
def DelayConflictsUptoSaid : Prop := delayConflictsUptoRow.holds Try.pinned (OpenSpec.upto delayConflictsSpec)

/-- 'lineallaw09.DelayCircles', WHERE WHAT IT READS IS OF BULK AT MOST 1048576: true; the input reads as it did. -/
def delayCirclesUptoRow : OpenClaim := { program := "ytdicomoggfhbfaa", sum := "cd1fdb41303956e1c3451da99af218da9f842630123db2b85237dd7c7a6d1e65", func := "lineal/lineallaw09.DelayCircles", spec := "delayCircles", unfollowed := true, recurses := true, plainKeys := false, apart := false, narrowed := true }
def DelayCirclesUptoSaid : Prop := delayCirclesUptoRow.holds Try.pinned (OpenSpec.upto delayCirclesSpec)

/-- 'lineallaw09.DelayFences', WHERE WHAT IT READS IS OF BULK AT MOST 1048576: true; the input reads as it did. -/
def delayFencesUptoRow : OpenClaim := { program := "ytdicomoggfhbfaa", sum := "cd1fdb41303956e1c3451da99af218da9f842630123db2b85237dd7c7a6d1e65", func := "lineal/lineallaw09.DelayFences", spec := "delayFences", unfollowed := true, recurses := true, plainKeys := false, apart := false, narrowed := true }
def DelayFencesUptoSaid : Prop := delayFencesUptoRow.holds Try.pinned (OpenSpec.upto delayFencesSpec)

/-- 'lineallaw09.DelayPrices', WHERE WHAT IT READS IS OF BULK AT MOST 1048576: true; the input reads as it did. -/
def delayPricesUptoRow : OpenClaim := { program := "ytdicomoggfhbfaa", sum := "cd1fdb41303956e1c3451da99af218da9f842630123db2b85237dd7c7a6d1e65", func := "lineal/lineallaw09.DelayPrices", spec := "delayPrices", unfollowed := true, recurses := true, plainKeys := false, apart := false, narrowed := true }
def DelayPricesUptoSaid : Prop := delayPricesUptoRow.holds Try.pinned (OpenSpec.upto delayPricesSpec)

/-- 'lineallaw09.DelayPrograms', WHERE WHAT IT READS IS OF BULK AT MOST 1048576: true; the input reads as it did. -/
def delayProgramsUptoRow : OpenClaim := { program := "ytdicomoggfhbfaa", sum := "cd1fdb41303956e1c3451da99af218da9f842630123db2b85237dd7c7a6d1e65", func := "lineal/lineallaw09.DelayPrograms", spec := "delayPrograms", unfollowed := true, recurses := true, plainKeys := false, apart := false, narrowed := true }
def DelayProgramsUptoSaid : Prop := delayProgramsUptoRow.holds Try.pinned (OpenSpec.upto delayProgramsSpec)

/-- 'lineallaw09.DelayNeeded', WHERE WHAT IT READS IS OF BULK AT MOST 1048576: true; the input reads as it did. -/
def delayNeededUptoRow : OpenClaim := { program := "ytdicomoggfhbfaa", sum := "cd1fdb41303956e1c3451da99af218da9f842630123db2b85237dd7c7a6d1e65", func := "lineal/lineallaw09.DelayNeeded", spec := "delayNeeded", unfollowed := true, recurses := true, plainKeys := false, apart := false, narrowed := true }
def DelayNeededUptoSaid : Prop := delayNeededUptoRow.holds Try.pinned (OpenSpec.upto delayNeededSpec)

/-- 'lineallaw09.DelayLess', WHERE WHAT IT READS IS OF BULK AT MOST 1048576: true; the input reads as it did. -/
def delayLessUptoRow : OpenClaim := { program := "ytdicomoggfhbfaa", sum := "cd1fdb41303956e1c3451da99af218da9f842630123db2b85237dd7c7a6d1e65", func := "lineal/lineallaw09.DelayLess", spec := "delayLess", unfollowed := true, recurses := true, plainKeys := false, apart := false, narrowed := true }
def DelayLessUptoSaid : Prop := delayLessUptoRow.holds Try.pinned (OpenSpec.upto delayLessSpec)

/-- 'lineallaw09.DelayTurns', WHERE WHAT IT READS IS OF BULK AT MOST 1048576: true; the input reads as it did. -/
def delayTurnsUptoRow : OpenClaim := { program := "ytdicomoggfhbfaa", sum := "cd1fdb41303956e1c3451da99af218da9f842630123db2b85237dd7c7a6d1e65", func := "lineal/lineallaw09.DelayTurns", spec := "delayTurns", unfollowed := true, recurses := true, plainKeys := false, apart := false, narrowed := true }
def DelayTurnsUptoSaid : Prop := delayTurnsUptoRow.holds Try.pinned (OpenSpec.upto delayTurnsSpec)

/-- 'lineallaw09.DelayCheapest', WHERE WHAT IT READS IS OF BULK AT MOST 1048576: true; the input reads as it did. -/
def delayCheapestUptoRow : OpenClaim := { program := "ytdicomoggfhbfaa", sum := "cd1fdb41303956e1c3451da99af218da9f842630123db2b85237dd7c7a6d1e65", func := "lineal/lineallaw09.DelayCheapest", spec := "delayCheapest", unfollowed := true, recurses := true, plainKeys := false, apart := false, narrowed := true }
def DelayCheapestUptoSaid : Prop := delayCheapestUptoRow.holds Try.pinned (OpenSpec.upto delayCheapestSpec)

/-- 'lineallaw09.DelayRenamed', WHERE WHAT IT READS IS OF BULK AT MOST 1048576: true; the input reads as it did. -/
def delayRenamedUptoRow : OpenClaim := { program := "ytdicomoggfhbfaa", sum := "cd1fdb41303956e1c3451da99af218da9f842630123db2b85237dd7c7a6d1e65", func := "lineal/lineallaw09.DelayRenamed", spec := "delayRenamed", unfollowed := true, recurses := true, plainKeys := false, apart := false, narrowed := true }
def DelayRenamedUptoSaid : Prop := delayRenamedUptoRow.holds Try.pinned (OpenSpec.upto delayRenamedSpec)

end Rows
end Go.Proofs.Ytdicomoggfhbfaa
