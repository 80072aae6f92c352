/-
  No cell of these rows narrows 'for every input' (looked for: loops, veiled, ifaces, maps, wideKeys, modest, calm, conditions, laid).
  DERIVED. THE GIVEN ROWS OF THIS SEAT. 12 by the template 'for every input the law returns true; each argument reads behind the call as it read before'; 0 by the template 'total and deterministic' (their statements: YteclokkdgmacpaaTotals.lean).
  GIVEN WITH THE SEED: the statements are not yours to turn. If you find one false, say at which input.
  Laid BY PROGRAM, IN A SANDBOX (cutbox-rows.mjs): the forced cells as the released guide's own fill.sh prints them over the translation 43201206e8e94da6… (all of the seat's roots in one cut). By AI agents, Wed Nov 11 2026. No macro, syntax, notation, axiom, sorry.
-/
import Derived.Test.YteclokkdgmacpaaChecked
import GoSem.Claim
import GoSem.ClaimJoined
import GoSem.ClaimMapViews
import Derived.JoinedTies
import Derived.KernelRfl
namespace Go.Proofs.Yteclokkdgmacpaa
/- THE CELL 'sum', in the pinned program and in every row, IS THE sha256 OF THE DUMP (.gsa) THAT YteclokkdgmacpaaProg.lean LOADS. Nothing in Lean hashes anything: it is a label: what it is worth is what the hold of that sum in a sandbox is worth. -/
noncomputable def Try.pinned : Pinned := { name := "yteclokkdgmacpaa", sum := "43201206e8e94da69f4d6ada7428cd76271251ba401fb940f7c6259e526c2246", checked := Try.checked }
namespace Rows
def none {H : Type} : Left H := { results := [], args := [] }

/-- 'lineallaw07.ProgressPaths': WHATEVER THE INPUT: true; the input reads as it did. -/
def progressPathsSpec : ChangeSpec := { name := "progressPaths", fn := fun _ => fun
  | [d1, d2, d3] => { results := [.lit (.bool true)], args := [d1, d2, d3] }
  | _ => none }
def progressPathsRow : OpenClaim := { program := "yteclokkdgmacpaa", sum := "43201206e8e94da69f4d6ada7428cd76271251ba401fb940f7c6259e526c2246", func := "lineal/lineallaw07.ProgressPaths", spec := "progressPaths", unfollowed := true, recurses := true, apart := false }
def ProgressPathsSaid : Prop := progressPathsRow.holds Try.pinned (OpenSpec.ofChange progressPathsSpec)

/-- ITS FALSE NEIGHBOUR: 'it returns false'. Refute it at one input. -/
def progressPathsWrong : ChangeSpec := { name := "progressPaths", fn := fun _ => fun
  | [d1, d2, d3] => { results := [.lit (.bool false)], args := [d1, d2, d3] }
  | _ => none }
def ProgressPathsWrongFalsely : Prop := progressPathsRow.holds Try.pinned (OpenSpec.ofChange progressPathsWrong)

/-- 'lineallaw07.ProgressRanks': WHATEVER THE INPUT: true; the input reads as it did. -/
def progressRanksSpec : ChangeSpec := { name := "progressRanks", fn := fun _ => fun
  | [d1, d2, d3, d4] => { results := [.lit (.bool true)], args := [d1, d2, d3, d4] }
  | _ => none }
def progressRanksRow : OpenClaim := { program := "yteclokkdgmacpaa", sum := "43201206e8e94da69f4d6ada7428cd76271251ba401fb940f7c6259e526c2246", func := "lineal/lineallaw07.ProgressRanks", spec := "progressRanks", unfollowed := true, recurses := true, apart := false }
def ProgressRanksSaid : Prop := progressRanksRow.holds Try.pinned (OpenSpec.ofChange progressRanksSpec)

/-- ITS FALSE NEIGHBOUR: 'it returns false'. Refute it at one input. -/
def progressRanksWrong : ChangeSpec := { name := "progressRanks", fn := fun _ => fun
  | [d1, d2, d3, d4] => { results := [.lit (.bool false)], args := [d1, d2, d3, d4] }
  | _ => none }
def ProgressRanksWrongFalsely : Prop := progressRanksRow.holds Try.pinned (OpenSpec.ofChange progressRanksWrong)

/-- 'lineallaw07.ProgressLassos': WHATEVER THE INPUT: true; the input reads as it did. -/
def progressLassosSpec : ChangeSpec := { name := "progressLassos", fn := fun _ => fun
  | [d1, d2, d3, d4, d5] => { results := [.lit (.bool true)], args := [d1, d2, d3, d4, d5] }
  | _ => none }
def progressLassosRow : OpenClaim := { program := "yteclokkdgmacpaa", sum := "43201206e8e94da69f4d6ada7428cd76271251ba401fb940f7c6259e526c2246", func := "lineal/lineallaw07.ProgressLassos", spec := "progressLassos", unfollowed := true, recurses := true, apart := false }
def ProgressLassosSaid : Prop := progressLassosRow.holds Try.pinned (OpenSpec.ofChange progressLassosSpec)

/-- ITS FALSE NEIGHBOUR: 'it returns false'. Refute it at one input. -/
def progressLassosWrong : ChangeSpec := { name := "progressLassos", fn := fun _ => fun
  | [d1, d2, d3, d4, d5] => { results := [.lit (.bool false)], args := [d1, d2, d3, d4, d5] }
  | _ => none }
def ProgressLassosWrongFalsely : Prop := progressLassosRow.holds Try.pinned (OpenSpec.ofChange progressLassosWrong)

/-- 'lineallaw07.ProgressNumbers': WHATEVER THE INPUT: true; the input reads as it did. -/
def progressNumbersSpec : ChangeSpec := { name := "progressNumbers", fn := fun _ => fun
  | [d1, d2] => { results := [.lit (.bool true)], args := [d1, d2] }
  | _ => none }
def progressNumbersRow : OpenClaim := { program := "yteclokkdgmacpaa", sum := "43201206e8e94da69f4d6ada7428cd76271251ba401fb940f7c6259e526c2246", func := "lineal/lineallaw07.ProgressNumbers", spec := "progressNumbers", unfollowed := true, recurses := true, apart := false }
def ProgressNumbersSaid : Prop := progressNumbersRow.holds Try.pinned (OpenSpec.ofChange progressNumbersSpec)

/-- ITS FALSE NEIGHBOUR: 'it returns false'. Refute it at one input. -/
def progressNumbersWrong : ChangeSpec := { name := "progressNumbers", fn := fun _ => fun
  | [d1, d2] => { results := [.lit (.bool false)], args := [d1, d2] }
  | _ => none }
def ProgressNumbersWrongFalsely : Prop := progressNumbersRow.holds Try.pinned (OpenSpec.ofChange progressNumbersWrong)

/-- 'lineallaw07.ProgressOthers': WHATEVER THE INPUT: true; the input reads as it did. -/
def progressOthersSpec : ChangeSpec := { name := "progressOthers", fn := fun _ => fun
  | [d1, d2, d3, d4] => { results := [.lit (.bool true)], args := [d1, d2, d3, d4] }
  | _ => none }
def progressOthersRow : OpenClaim := { program := "yteclokkdgmacpaa", sum := "43201206e8e94da69f4d6ada7428cd76271251ba401fb940f7c6259e526c2246", func := "lineal/lineallaw07.ProgressOthers", spec := "progressOthers", unfollowed := true, recurses := true, apart := false }
def ProgressOthersSaid : Prop := progressOthersRow.holds Try.pinned (OpenSpec.ofChange progressOthersSpec)

/-- ITS FALSE NEIGHBOUR: 'it returns false'. Refute it at one input. -/
def progressOthersWrong : ChangeSpec := { name := "progressOthers", fn := fun _ => fun
  | [d1, d2, d3, d4] => { results := [.lit (.bool false)], args := [d1, d2, d3, d4] }
  | _ => none }
def ProgressOthersWrongFalsely : Prop := progressOthersRow.holds Try.pinned (OpenSpec.ofChange progressOthersWrong)

/-- 'lineallaw07.ProgressEither': WHATEVER THE INPUT: true; the input reads as it did. -/
def progressEitherSpec : ChangeSpec := { name := "progressEither", fn := fun _ => fun
  | [d1, d2, d3, d4, d5, d6] => { results := [.lit (.bool true)], args := [d1, d2, d3, d4, d5, d6] }
  | _ => none }
def progressEitherRow : OpenClaim := { program := "yteclokkdgmacpaa", sum := "43201206e8e94da69f4d6ada7428cd76271251ba401fb940f7c6259e526c2246", func := "lineal/lineallaw07.ProgressEither", spec := "progressEither", unfollowed := true, recurses := true, apart := false }
def ProgressEitherSaid : Prop := progressEitherRow.holds Try.pinned (OpenSpec.ofChange progressEitherSpec)

/-- ITS FALSE NEIGHBOUR: 'it returns false'. Refute it at one input. -/
def progressEitherWrong : ChangeSpec := { name := "progressEither", fn := fun _ => fun
  | [d1, d2, d3, d4, d5, d6] => { results := [.lit (.bool false)], args := [d1, d2, d3, d4, d5, d6] }
  | _ => none }
def ProgressEitherWrongFalsely : Prop := progressEitherRow.holds Try.pinned (OpenSpec.ofChange progressEitherWrong)

/-- 'lineallaw07.ProgressClasses': WHATEVER THE INPUT: true; the input reads as it did. -/
def progressClassesSpec : ChangeSpec := { name := "progressClasses", fn := fun _ => fun
  | [d] => { results := [.lit (.bool true)], args := [d] }
  | _ => none }
def progressClassesRow : OpenClaim := { program := "yteclokkdgmacpaa", sum := "43201206e8e94da69f4d6ada7428cd76271251ba401fb940f7c6259e526c2246", func := "lineal/lineallaw07.ProgressClasses", spec := "progressClasses", unfollowed := true, recurses := true, apart := false }
def ProgressClassesSaid : Prop := progressClassesRow.holds Try.pinned (OpenSpec.ofChange progressClassesSpec)

/-- ITS FALSE NEIGHBOUR: 'it returns false'. Refute it at one input. -/
def progressClassesWrong : ChangeSpec := { name := "progressClasses", fn := fun _ => fun
  | [d] => { results := [.lit (.bool false)], args := [d] }
  | _ => none }
def ProgressClassesWrongFalsely : Prop := progressClassesRow.holds Try.pinned (OpenSpec.ofChange progressClassesWrong)

/-- 'lineallaw07.ProgressLongest': WHATEVER THE INPUT: true; the input reads as it did. -/
def progressLongestSpec : ChangeSpec := { name := "progressLongest", fn := fun _ => fun
  | [d1, d2, d3] => { results := [.lit (.bool true)], args := [d1, d2, d3] }
  | _ => none }
def progressLongestRow : OpenClaim := { program := "yteclokkdgmacpaa", sum := "43201206e8e94da69f4d6ada7428cd76271251ba401fb940f7c6259e526c2246", func := "lineal/lineallaw07.ProgressLongest", spec := "progressLongest", unfollowed := true, recurses := true, apart := false }
def ProgressLongestSaid : Prop := progressLongestRow.holds Try.pinned (OpenSpec.ofChange progressLongestSpec)

/-- ITS FALSE NEIGHBOUR: 'it returns false'. Refute it at one input. -/
def progressLongestWrong : ChangeSpec := { name := "progressLongest", fn := fun _ => fun
  | [d1, d2, d3] => { results := [.lit (.bool false)], args := [d1, d2, d3] }
  | _ => none }
def ProgressLongestWrongFalsely : Prop := progressLongestRow.holds Try.pinned (OpenSpec.ofChange progressLongestWrong)

/-- 'lineallaw07.ProgressLess': WHATEVER THE INPUT: true; the input reads as it did. -/
def progressLessSpec : ChangeSpec := { name := "progressLess", fn := fun _ => fun
  | [d1, d2, d3, d4] => { results := [.lit (.bool true)], args := [d1, d2, d3, d4] }
  | _ => none }
def progressLessRow : OpenClaim := { program := "yteclokkdgmacpaa", sum := "43201206e8e94da69f4d6ada7428cd76271251ba401fb940f7c6259e526c2246", func := "lineal/lineallaw07.ProgressLess", spec := "progressLess", unfollowed := true, recurses := true, apart := false }
def ProgressLessSaid : Prop := progressLessRow.holds Try.pinned (OpenSpec.ofChange progressLessSpec)

/-- ITS FALSE NEIGHBOUR: 'it returns false'. Refute it at one input. -/
def progressLessWrong : ChangeSpec := { name := "progressLess", fn := fun _ => fun
  | [d1, d2, d3, d4] => { results := [.lit (.bool false)], args := [d1, d2, d3, d4] }
  | _ => none }
def ProgressLessWrongFalsely : Prop := progressLessRow.holds Try.pinned (OpenSpec.ofChange progressLessWrong)

/-- 'lineallaw07.ProgressNames': WHATEVER THE INPUT: true; the input reads as it did. -/
def progressNamesSpec : ChangeSpec := { name := "progressNames", fn := fun _ => fun
  | [d1, d2, d3, d4, d5] => { results := [.lit (.bool true)], args := [d1, d2, d3, d4, d5] }
  | _ => none }
def progressNamesRow : OpenClaim := { program := "yteclokkdgmacpaa", sum := "43201206e8e94da69f4d6ada7428cd76271251ba401fb940f7c6259e526c2246", func := "lineal/lineallaw07.ProgressNames", spec := "progressNames", unfollowed := true, recurses := true, apart := false }
def ProgressNamesSaid : Prop := progressNamesRow.holds Try.pinned (OpenSpec.ofChange progressNamesSpec)

/-- ITS FALSE NEIGHBOUR: 'it returns false'. Refute it at one input. -/
def progressNamesWrong : ChangeSpec := { name := "progressNames", fn := fun _ => fun
  | [d1, d2, d3, d4, d5] => { results := [.lit (.bool false)], args := [d1, d2, d3, d4, d5] }
  | _ => none }
def ProgressNamesWrongFalsely : Prop := progressNamesRow.holds Try.pinned (OpenSpec.ofChange progressNamesWrong)

/-- 'lineallaw07.ProgressWays': WHATEVER THE INPUT: true; the input reads as it did. -/
def progressWaysSpec : ChangeSpec := { name := "progressWays", fn := fun _ => fun
  | [d1, d2, d3] => { results := [.lit (.bool true)], args := [d1, d2, d3] }
  | _ => none }
def progressWaysRow : OpenClaim := { program := "yteclokkdgmacpaa", sum := "43201206e8e94da69f4d6ada7428cd76271251ba401fb940f7c6259e526c2246", func := "lineal/lineallaw07.ProgressWays", spec := "progressWays", unfollowed := true, recurses := true, apart := false }
def ProgressWaysSaid : Prop := progressWaysRow.holds Try.pinned (OpenSpec.ofChange progressWaysSpec)

/-- ITS FALSE NEIGHBOUR: 'it returns false'. Refute it at one input. -/
def progressWaysWrong : ChangeSpec := { name := "progressWays", fn := fun _ => fun
  | [d1, d2, d3] => { results := [.lit (.bool false)], args := [d1, d2, d3] }
  | _ => none }
def ProgressWaysWrongFalsely : Prop := progressWaysRow.holds Try.pinned (OpenSpec.ofChange progressWaysWrong)

/-- 'linealtop.TopProgress': WHATEVER THE INPUT: true; the input reads as it did. -/
def topProgressSpec : ChangeSpec := { name := "topProgress", fn := fun _ => fun
  | [d1, d2, d3, d4] => { results := [.lit (.bool true)], args := [d1, d2, d3, d4] }
  | _ => none }
def topProgressRow : OpenClaim := { program := "yteclokkdgmacpaa", sum := "43201206e8e94da69f4d6ada7428cd76271251ba401fb940f7c6259e526c2246", func := "lineal/linealtop.TopProgress", spec := "topProgress", unfollowed := true, recurses := true, apart := false }
def TopProgressSaid : Prop := topProgressRow.holds Try.pinned (OpenSpec.ofChange topProgressSpec)

/-- ITS FALSE NEIGHBOUR: 'it returns false'. Refute it at one input. -/
def topProgressWrong : ChangeSpec := { name := "topProgress", fn := fun _ => fun
  | [d1, d2, d3, d4] => { results := [.lit (.bool false)], args := [d1, d2, d3, d4] }
  | _ => none }
def TopProgressWrongFalsely : Prop := topProgressRow.holds Try.pinned (OpenSpec.ofChange topProgressWrong)

/- THE SECOND FORM. 'bulk': how many values and letters a reading holds, each counted each time it is reached (what is shared counts as often as it is met; a slice's spare places count too). A statement '..UptoSaid' is the law's where the arguments, and the package variables that the reading takes, are together of bulk at most 1048576: NARROWER than '..Said'. Prove '..Said' where nothing that the law and all that it calls make is longer than what came in: it says more and counts as full. Else prove '..UptoSaid'. A law counts once. -/
mutual
def uptoBulk {H : Type} : DataW H → Nat
  | .lit (.string bytes) => bytes.length + 1
  | .lit _ => 1
  | .nil => 1
  | .ptr d => uptoBulk d + 1
  | .slice elems spare => uptoBulkAll elems + uptoBulkAll spare + 1
  | .agg parts => uptoBulkAll parts + 1
  | .iface _ d => uptoBulk d + 1
  | .map entries => uptoBulkEntries entries + 1
  | .held _ => 1
def uptoBulkAll {H : Type} : List (DataW H) → Nat
  | [] => 0
  | d :: r => uptoBulk d + uptoBulkAll r
def uptoBulkEntries {H : Type} : List (Lit × DataW H) → Nat
  | [] => 0
  | x :: r => uptoBulkEntry x + uptoBulkEntries r
def uptoBulkEntry {H : Type} : Lit × DataW H → Nat
  | (.string bytes, d) => bytes.length + uptoBulk d + 1
  | (_, d) => uptoBulk d + 1
 end
def uptoSmall : (H : Type) → List (DataW H) → Bool := fun _ ds => decide (uptoBulkAll ds ≤ 1048576)
def OpenSpec.upto (s : _root_.Go.ChangeSpec) : _root_.Go.OpenSpec := { _root_.Go.OpenSpec.ofChange s with cond := some uptoSmall }

/-- 'lineallaw07.ProgressPaths', WHERE WHAT IT READS IS OF BULK AT MOST 1048576: true; the input reads as it did. -/
def progressPathsUptoRow : OpenClaim := { program := "yteclokkdgmacpaa", sum := "43201206e8e94da69f4d6ada7428cd76271251ba401fb940f7c6259e526c2246", func := "lineal/lineallaw07.ProgressPaths", spec := "progressPaths", unfollowed := true, recurses := true, apart := false, narrowed := true }
def ProgressPathsUptoSaid : Prop := progressPathsUptoRow.holds Try.pinned (OpenSpec.upto progressPathsSpec)

/-- 'lineallaw07.ProgressRanks', WHERE WHAT IT READS IS OF BULK AT MOST 1048576: true; the input reads as it did. -/
def progressRanksUptoRow : OpenClaim := { program := "yteclokkdgmacpaa", sum := "43201206e8e94da69f4d6ada7428cd76271251ba401fb940f7c6259e526c2246", func := "lineal/lineallaw07.ProgressRanks", spec := "progressRanks", unfollowed := true, recurses := true, apart := false, narrowed := true }
def ProgressRanksUptoSaid : Prop := progressRanksUptoRow.holds Try.pinned (OpenSpec.upto progressRanksSpec)

/-- 'lineallaw07.ProgressLassos', WHERE WHAT IT READS IS OF BULK AT MOST 1048576: true; the input reads as it did. -/
def progressLassosUptoRow : OpenClaim := { program := "yteclokkdgmacpaa", sum := "43201206e8e94da69f4d6ada7428cd76271251ba401fb940f7c6259e526c2246", func := "lineal/lineallaw07.ProgressLassos", spec := "progressLassos", unfollowed := true, recurses := true, apart := false, narrowed := true }
def ProgressLassosUptoSaid : Prop := progressLassosUptoRow.holds Try.pinned (OpenSpec.upto progressLassosSpec)

/-- 'lineallaw07.ProgressNumbers', WHERE WHAT IT READS IS OF BULK AT MOST 1048576: true; the input reads as it did. -/
def progressNumbersUptoRow : OpenClaim := { program := "yteclokkdgmacpaa", sum := "43201206e8e94da69f4d6ada7428cd76271251ba401fb940f7c6259e526c2246", func := "lineal/lineallaw07.ProgressNumbers", spec := "progressNumbers", unfollowed := true, recurses := true, apart := false, narrowed := true }
def ProgressNumbersUptoSaid : Prop := progressNumbersUptoRow.holds Try.pinned (OpenSpec.upto progressNumbersSpec)

/-- 'lineallaw07.ProgressOthers', WHERE WHAT IT READS IS OF BULK AT MOST 1048576: true; the input reads as it did. -/
def progressOthersUptoRow : OpenClaim := { program := "yteclokkdgmacpaa", sum := "43201206e8e94da69f4d6ada7428cd76271251ba401fb940f7c6259e526c2246", func := "lineal/lineallaw07.ProgressOthers", spec := "progressOthers", unfollowed := true, recurses := true, apart := false, narrowed := true }
def ProgressOthersUptoSaid : Prop := progressOthersUptoRow.holds Try.pinned (OpenSpec.upto progressOthersSpec)

/-- 'lineallaw07.ProgressEither', WHERE WHAT IT READS IS OF BULK AT MOST 1048576: true; the input reads as it did. -/
def progressEitherUptoRow : OpenClaim := { program := "yteclokkdgmacpaa", sum := "43201206e8e94da69f4d6ada7428cd76271251ba401fb940f7c6259e526c2246", func := "lineal/lineallaw07.ProgressEither", spec := "progressEither", unfollowed := true, recurses := true, apart := false, narrowed := true }
def ProgressEitherUptoSaid : Prop := progressEitherUptoRow.holds Try.pinned (OpenSpec.upto progressEitherSpec)

/-- 'lineallaw07.ProgressClasses', WHERE WHAT IT READS IS OF BULK AT MOST 1048576: true; the input reads as it did. -/
def progressClassesUptoRow : OpenClaim := { program := "yteclokkdgmacpaa", sum := "43201206e8e94da69f4d6ada7428cd76271251ba401fb940f7c6259e526c2246", func := "lineal/lineallaw07.ProgressClasses", spec := "progressClasses", unfollowed := true, recurses := true, apart := false, narrowed := true }
def ProgressClassesUptoSaid : Prop := progressClassesUptoRow.holds Try.pinned (OpenSpec.upto progressClassesSpec)

/-- 'lineallaw07.ProgressLongest', WHERE WHAT IT READS IS OF BULK AT MOST 1048576: true; the input reads as it did. -/
def progressLongestUptoRow : OpenClaim := { program := "yteclokkdgmacpaa", sum := "43201206e8e94da69f4d6ada7428cd76271251ba401fb940f7c6259e526c2246", func := "lineal/lineallaw07.ProgressLongest", spec := "progressLongest", unfollowed := true, recurses := true, apart := false, narrowed := true }
def ProgressLongestUptoSaid : Prop := progressLongestUptoRow.holds Try.pinned (OpenSpec.upto progressLongestSpec)

/-- 'lineallaw07.ProgressLess', WHERE WHAT IT READS IS OF BULK AT MOST 1048576: true; the input reads as it did. -/
def progressLessUptoRow : OpenClaim := { program := "yteclokkdgmacpaa", sum := "43201206e8e94da69f4d6ada7428cd76271251ba401fb940f7c6259e526c2246", func := "lineal/lineallaw07.ProgressLess", spec := "progressLess", unfollowed := true, recurses := true, apart := false, narrowed := true }
def ProgressLessUptoSaid : Prop := progressLessUptoRow.holds Try.pinned (OpenSpec.upto progressLessSpec)

/-- 'lineallaw07.ProgressNames', WHERE WHAT IT READS IS OF BULK AT MOST 1048576: true; the input reads as it did. -/
def progressNamesUptoRow : OpenClaim := { program := "yteclokkdgmacpaa", sum := "43201206e8e94da69f4d6ada7428cd76271251ba401fb940f7c6259e526c2246", func := "lineal/lineallaw07.ProgressNames", spec := "progressNames", unfollowed := true, recurses := true, apart := false, narrowed := true }
def ProgressNamesUptoSaid : Prop := progressNamesUptoRow.holds Try.pinned (OpenSpec.upto progressNamesSpec)

/-- 'lineallaw07.ProgressWays', WHERE WHAT IT READS IS OF BULK AT MOST 1048576: true; the input reads as it did. -/
def progressWaysUptoRow : OpenClaim := { program := "yteclokkdgmacpaa", sum := "43201206e8e94da69f4d6ada7428cd76271251ba401fb940f7c6259e526c2246", func := "lineal/lineallaw07.ProgressWays", spec := "progressWays", unfollowed := true, recurses := true, apart := false, narrowed := true }
def ProgressWaysUptoSaid : Prop := progressWaysUptoRow.holds Try.pinned (OpenSpec.upto progressWaysSpec)

/-- 'linealtop.TopProgress', WHERE WHAT IT READS IS OF BULK AT MOST 1048576: true; the input reads as it did. -/
def topProgressUptoRow : OpenClaim := { program := "yteclokkdgmacpaa", sum := "43201206e8e94da69f4d6ada7428cd76271251ba401fb940f7c6259e526c2246", func := "lineal/linealtop.TopProgress", spec := "topProgress", unfollowed := true, recurses := true, apart := false, narrowed := true }
def TopProgressUptoSaid : Prop := topProgressUptoRow.holds Try.pinned (OpenSpec.upto topProgressSpec)

end Rows
end Go.Proofs.Yteclokkdgmacpaa
