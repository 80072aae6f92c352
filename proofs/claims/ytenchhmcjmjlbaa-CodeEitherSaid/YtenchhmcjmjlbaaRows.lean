/-
  No cell of these rows narrows 'for every input' (looked for: loops, veiled, ifaces, maps, wideKeys, modest, calm, conditions, laid).
  DERIVED. THE GIVEN ROWS OF THIS SEAT. 7 by the template 'for every input the law returns true; each argument reads behind the call as it read before'; 0 by the template 'total and deterministic' (their statements: YtenchhmcjmjlbaaTotals.lean).
  GIVEN WITH THE SEED: the statements are not yours to turn. If you find one false, say at which input.
  Laid BY PROGRAM, IN A SANDBOX (cutbox-rows.mjs): the forced cells as the released guide's own fill.sh prints them over the translation 7c646e18b53cc90d… (all of the seat's roots in one cut). By AI agents, Wed Nov 11 2026. No macro, syntax, notation, axiom, sorry.
-/
import Derived.Test.YtenchhmcjmjlbaaChecked
import GoSem.Claim
import GoSem.ClaimJoined
import GoSem.ClaimMapViews
import Derived.JoinedTies
import Derived.KernelRfl
namespace Go.Proofs.Ytenchhmcjmjlbaa
/- THE CELL 'sum', in the pinned program and in every row, IS THE sha256 OF THE DUMP (.gsa) THAT YtenchhmcjmjlbaaProg.lean LOADS. Nothing in Lean hashes anything: it is a label: what it is worth is what the hold of that sum in a sandbox is worth. -/
noncomputable def Try.pinned : Pinned := { name := "ytenchhmcjmjlbaa", sum := "7c646e18b53cc90dc362a36abbea93b4670beadfe7d0340d81bd0513a8491f89", checked := Try.checked }
namespace Rows
def none {H : Type} : Left H := { results := [], args := [] }

/-- 'lineallaw08.CodeRuns': WHATEVER THE INPUT: true; the input reads as it did. -/
def codeRunsSpec : ChangeSpec := { name := "codeRuns", fn := fun _ => fun
  | [d1, d2] => { results := [.lit (.bool true)], args := [d1, d2] }
  | _ => none }
def codeRunsRow : OpenClaim := { program := "ytenchhmcjmjlbaa", sum := "7c646e18b53cc90dc362a36abbea93b4670beadfe7d0340d81bd0513a8491f89", func := "lineal/lineallaw08.CodeRuns", spec := "codeRuns", unfollowed := true, recurses := true, plainKeys := false, apart := false }
def CodeRunsSaid : Prop := codeRunsRow.holds Try.pinned (OpenSpec.ofChange codeRunsSpec)

/-- ITS FALSE NEIGHBOUR: 'it returns false'. Refute it at one input. -/
def codeRunsWrong : ChangeSpec := { name := "codeRuns", fn := fun _ => fun
  | [d1, d2] => { results := [.lit (.bool false)], args := [d1, d2] }
  | _ => none }
def CodeRunsWrongFalsely : Prop := codeRunsRow.holds Try.pinned (OpenSpec.ofChange codeRunsWrong)

/-- 'lineallaw08.CodeSchedules': WHATEVER THE INPUT: true; the input reads as it did. -/
def codeSchedulesSpec : ChangeSpec := { name := "codeSchedules", fn := fun _ => fun
  | [d1, d2] => { results := [.lit (.bool true)], args := [d1, d2] }
  | _ => none }
def codeSchedulesRow : OpenClaim := { program := "ytenchhmcjmjlbaa", sum := "7c646e18b53cc90dc362a36abbea93b4670beadfe7d0340d81bd0513a8491f89", func := "lineal/lineallaw08.CodeSchedules", spec := "codeSchedules", unfollowed := true, recurses := true, plainKeys := false, apart := false }
def CodeSchedulesSaid : Prop := codeSchedulesRow.holds Try.pinned (OpenSpec.ofChange codeSchedulesSpec)

/-- ITS FALSE NEIGHBOUR: 'it returns false'. Refute it at one input. -/
def codeSchedulesWrong : ChangeSpec := { name := "codeSchedules", fn := fun _ => fun
  | [d1, d2] => { results := [.lit (.bool false)], args := [d1, d2] }
  | _ => none }
def CodeSchedulesWrongFalsely : Prop := codeSchedulesRow.holds Try.pinned (OpenSpec.ofChange codeSchedulesWrong)

/-- 'lineallaw08.CodeMarks': WHATEVER THE INPUT: true; the input reads as it did. -/
def codeMarksSpec : ChangeSpec := { name := "codeMarks", fn := fun _ => fun
  | [d1, d2] => { results := [.lit (.bool true)], args := [d1, d2] }
  | _ => none }
def codeMarksRow : OpenClaim := { program := "ytenchhmcjmjlbaa", sum := "7c646e18b53cc90dc362a36abbea93b4670beadfe7d0340d81bd0513a8491f89", func := "lineal/lineallaw08.CodeMarks", spec := "codeMarks", unfollowed := true, recurses := true, plainKeys := false, apart := false }
def CodeMarksSaid : Prop := codeMarksRow.holds Try.pinned (OpenSpec.ofChange codeMarksSpec)

/-- ITS FALSE NEIGHBOUR: 'it returns false'. Refute it at one input. -/
def codeMarksWrong : ChangeSpec := { name := "codeMarks", fn := fun _ => fun
  | [d1, d2] => { results := [.lit (.bool false)], args := [d1, d2] }
  | _ => none }
def CodeMarksWrongFalsely : Prop := codeMarksRow.holds Try.pinned (OpenSpec.ofChange codeMarksWrong)

/-- 'lineallaw08.CodeFollows': WHATEVER THE INPUT: true; the input reads as it did. -/
def codeFollowsSpec : ChangeSpec := { name := "codeFollows", fn := fun _ => fun
  | [d1, d2, d3] => { results := [.lit (.bool true)], args := [d1, d2, d3] }
  | _ => none }
def codeFollowsRow : OpenClaim := { program := "ytenchhmcjmjlbaa", sum := "7c646e18b53cc90dc362a36abbea93b4670beadfe7d0340d81bd0513a8491f89", func := "lineal/lineallaw08.CodeFollows", spec := "codeFollows", unfollowed := true, recurses := true, plainKeys := false, apart := false }
def CodeFollowsSaid : Prop := codeFollowsRow.holds Try.pinned (OpenSpec.ofChange codeFollowsSpec)

/-- ITS FALSE NEIGHBOUR: 'it returns false'. Refute it at one input. -/
def codeFollowsWrong : ChangeSpec := { name := "codeFollows", fn := fun _ => fun
  | [d1, d2, d3] => { results := [.lit (.bool false)], args := [d1, d2, d3] }
  | _ => none }
def CodeFollowsWrongFalsely : Prop := codeFollowsRow.holds Try.pinned (OpenSpec.ofChange codeFollowsWrong)

/-- 'lineallaw08.CodeEither': WHATEVER THE INPUT: true; the input reads as it did. -/
def codeEitherSpec : ChangeSpec := { name := "codeEither", fn := fun _ => fun
  | [d1, d2, d3] => { results := [.lit (.bool true)], args := [d1, d2, d3] }
  | _ => none }
def codeEitherRow : OpenClaim := { program := "ytenchhmcjmjlbaa", sum := "7c646e18b53cc90dc362a36abbea93b4670beadfe7d0340d81bd0513a8491f89", func := "lineal/lineallaw08.CodeEither", spec := "codeEither", unfollowed := true, recurses := true, plainKeys := false, apart := false }
def CodeEitherSaid : Prop := codeEitherRow.holds Try.pinned (OpenSpec.ofChange codeEitherSpec)

/-- ITS FALSE NEIGHBOUR: 'it returns false'. Refute it at one input. -/
def codeEitherWrong : ChangeSpec := { name := "codeEither", fn := fun _ => fun
  | [d1, d2, d3] => { results := [.lit (.bool false)], args := [d1, d2, d3] }
  | _ => none }
def CodeEitherWrongFalsely : Prop := codeEitherRow.holds Try.pinned (OpenSpec.ofChange codeEitherWrong)

/-- 'lineallaw08.CodeBegins': WHATEVER THE INPUT: true; the input reads as it did. -/
def codeBeginsSpec : ChangeSpec := { name := "codeBegins", fn := fun _ => fun
  | [d1, d2, d3] => { results := [.lit (.bool true)], args := [d1, d2, d3] }
  | _ => none }
def codeBeginsRow : OpenClaim := { program := "ytenchhmcjmjlbaa", sum := "7c646e18b53cc90dc362a36abbea93b4670beadfe7d0340d81bd0513a8491f89", func := "lineal/lineallaw08.CodeBegins", spec := "codeBegins", unfollowed := true, recurses := true, plainKeys := false, apart := false }
def CodeBeginsSaid : Prop := codeBeginsRow.holds Try.pinned (OpenSpec.ofChange codeBeginsSpec)

/-- ITS FALSE NEIGHBOUR: 'it returns false'. Refute it at one input. -/
def codeBeginsWrong : ChangeSpec := { name := "codeBegins", fn := fun _ => fun
  | [d1, d2, d3] => { results := [.lit (.bool false)], args := [d1, d2, d3] }
  | _ => none }
def CodeBeginsWrongFalsely : Prop := codeBeginsRow.holds Try.pinned (OpenSpec.ofChange codeBeginsWrong)

/-- 'lineallaw08.CodeTurns': WHATEVER THE INPUT: true; the input reads as it did. -/
def codeTurnsSpec : ChangeSpec := { name := "codeTurns", fn := fun _ => fun
  | [d1, d2, d3] => { results := [.lit (.bool true)], args := [d1, d2, d3] }
  | _ => none }
def codeTurnsRow : OpenClaim := { program := "ytenchhmcjmjlbaa", sum := "7c646e18b53cc90dc362a36abbea93b4670beadfe7d0340d81bd0513a8491f89", func := "lineal/lineallaw08.CodeTurns", spec := "codeTurns", unfollowed := true, recurses := true, plainKeys := false, apart := false }
def CodeTurnsSaid : Prop := codeTurnsRow.holds Try.pinned (OpenSpec.ofChange codeTurnsSpec)

/-- ITS FALSE NEIGHBOUR: 'it returns false'. Refute it at one input. -/
def codeTurnsWrong : ChangeSpec := { name := "codeTurns", fn := fun _ => fun
  | [d1, d2, d3] => { results := [.lit (.bool false)], args := [d1, d2, d3] }
  | _ => none }
def CodeTurnsWrongFalsely : Prop := codeTurnsRow.holds Try.pinned (OpenSpec.ofChange codeTurnsWrong)

/- THE SECOND FORM. 'bulk': how many values and letters a reading holds, each counted each time it is reached (what is shared counts as often as it is met; a slice's spare places count too). A statement '..UptoSaid' is the law's where the arguments, and the package variables that the reading takes, are together of bulk at most 1048576: NARROWER than '..Said'. Prove '..Said' where nothing that the law and all that it calls make is longer than what came in: it says more and counts as full. Else prove '..UptoSaid'. A law counts once. -/
mutual
def uptoBulk {H : Type} : DataW H → Nat
  | .lit (.string bytes) => bytes.length + 1
  | .lit _ => 1
  | .nil => 1
  | .ptr d => uptoBulk d + 1
  | .slice elems spare => uptoBulkAll elems + uptoBulkAll spare + 1
  | .agg parts => uptoBulkAll parts + 1
  | .iface _ d => uptoBulk d + 1
  | .map entries => uptoBulkEntries entries + 1
  | .held _ => 1
def uptoBulkAll {H : Type} : List (DataW H) → Nat
  | [] => 0
  | d :: r => uptoBulk d + uptoBulkAll r
def uptoBulkEntries {H : Type} : List (Lit × DataW H) → Nat
  | [] => 0
  | x :: r => uptoBulkEntry x + uptoBulkEntries r
def uptoBulkEntry {H : Type} : Lit × DataW H → Nat
  | (.string bytes, d) => bytes.length + uptoBulk d + 1
  | (_, d) => uptoBulk d + 1
 end
def uptoSmall : (H : Type) → List (DataW H) → Bool := fun _ ds => decide (uptoBulkAll ds ≤ 1048576)
def OpenSpec.upto (s : _root_.Go.ChangeSpec) : _root_.Go.OpenSpec := { _root_.Go.OpenSpec.ofChange s with cond := some uptoSmall }

/-- 'lineallaw08.CodeRuns', WHERE WHAT IT READS IS OF BULK AT MOST 1048576: true; the input reads as it did. -/
def codeRunsUptoRow : OpenClaim := { program := "ytenchhmcjmjlbaa", sum := "7c646e18b53cc90dc362a36abbea93b4670beadfe7d0340d81bd0513a8491f89", func := "lineal/lineallaw08.CodeRuns", spec := "codeRuns", unfollowed := true, recurses := true, plainKeys := false, apart := false, narrowed := true }
def CodeRunsUptoSaid : Prop := codeRunsUptoRow.holds Try.pinned (OpenSpec.upto codeRunsSpec)

/-- 'lineallaw08.CodeSchedules', WHERE WHAT IT READS IS OF BULK AT MOST 1048576: true; the input reads as it did. -/
def codeSchedulesUptoRow : OpenClaim := { program := "ytenchhmcjmjlbaa", sum := "7c646e18b53cc90dc362a36abbea93b4670beadfe7d0340d81bd0513a8491f89", func := "lineal/lineallaw08.CodeSchedules", spec := "codeSchedules", unfollowed := true, recurses := true, plainKeys := false, apart := false, narrowed := true }
def CodeSchedulesUptoSaid : Prop := codeSchedulesUptoRow.holds Try.pinned (OpenSpec.upto codeSchedulesSpec)

/-- 'lineallaw08.CodeMarks', WHERE WHAT IT READS IS OF BULK AT MOST 1048576: true; the input reads as it did. -/
def codeMarksUptoRow : OpenClaim := { program := "ytenchhmcjmjlbaa", sum := "7c646e18b53cc90dc362a36abbea93b4670beadfe7d0340d81bd0513a8491f89", func := "lineal/lineallaw08.CodeMarks", spec := "codeMarks", unfollowed := true, recurses := true, plainKeys := false, apart := false, narrowed := true }
def CodeMarksUptoSaid : Prop := codeMarksUptoRow.holds Try.pinned (OpenSpec.upto codeMarksSpec)

/-- 'lineallaw08.CodeFollows', WHERE WHAT IT READS IS OF BULK AT MOST 1048576: true; the input reads as it did. -/
def codeFollowsUptoRow : OpenClaim := { program := "ytenchhmcjmjlbaa", sum := "7c646e18b53cc90dc362a36abbea93b4670beadfe7d0340d81bd0513a8491f89", func := "lineal/lineallaw08.CodeFollows", spec := "codeFollows", unfollowed := true, recurses := true, plainKeys := false, apart := false, narrowed := true }
def CodeFollowsUptoSaid : Prop := codeFollowsUptoRow.holds Try.pinned (OpenSpec.upto codeFollowsSpec)

/-- 'lineallaw08.CodeEither', WHERE WHAT IT READS IS OF BULK AT MOST 1048576: true; the input reads as it did. -/
def codeEitherUptoRow : OpenClaim := { program := "ytenchhmcjmjlbaa", sum := "7c646e18b53cc90dc362a36abbea93b4670beadfe7d0340d81bd0513a8491f89", func := "lineal/lineallaw08.CodeEither", spec := "codeEither", unfollowed := true, recurses := true, plainKeys := false, apart := false, narrowed := true }
def CodeEitherUptoSaid : Prop := codeEitherUptoRow.holds Try.pinned (OpenSpec.upto codeEitherSpec)

/-- 'lineallaw08.CodeBegins', WHERE WHAT IT READS IS OF BULK AT MOST 1048576: true; the input reads as it did. -/
def codeBeginsUptoRow : OpenClaim := { program := "ytenchhmcjmjlbaa", sum := "7c646e18b53cc90dc362a36abbea93b4670beadfe7d0340d81bd0513a8491f89", func := "lineal/lineallaw08.CodeBegins", spec := "codeBegins", unfollowed := true, recurses := true, plainKeys := false, apart := false, narrowed := true }
def CodeBeginsUptoSaid : Prop := codeBeginsUptoRow.holds Try.pinned (OpenSpec.upto codeBeginsSpec)

/-- 'lineallaw08.CodeTurns', WHERE WHAT IT READS IS OF BULK AT MOST 1048576: true; the input reads as it did. -/
def codeTurnsUptoRow : OpenClaim := { program := "ytenchhmcjmjlbaa", sum := "7c646e18b53cc90dc362a36abbea93b4670beadfe7d0340d81bd0513a8491f89", func := "lineal/lineallaw08.CodeTurns", spec := "codeTurns", unfollowed := true, recurses := true, plainKeys := false, apart := false, narrowed := true }
def CodeTurnsUptoSaid : Prop := codeTurnsUptoRow.holds Try.pinned (OpenSpec.upto codeTurnsSpec)

end Rows
end Go.Proofs.Ytenchhmcjmjlbaa
