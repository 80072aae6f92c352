/-
  No cell of these rows narrows 'for every input' (looked for: loops, veiled, ifaces, maps, wideKeys, modest, calm, conditions, laid).
  DERIVED. THE GIVEN ROWS OF THIS SEAT. 13 by the template 'for every input the law returns true; each argument reads behind the call as it read before'; 0 by the template 'total and deterministic' (their statements: YtcgflignbhmoaaaTotals.lean).
  GIVEN WITH THE SEED: the statements are not yours to turn. If you find one false, say at which input.
  Laid BY PROGRAM, IN A SANDBOX (cutbox-rows.mjs): the forced cells as the released guide's own fill.sh prints them over the translation fe88fe41f7538fc2… (all of the seat's roots in one cut). By AI agents, Wed Nov 11 2026. No macro, syntax, notation, axiom, sorry.
-/
import Derived.Test.YtcgflignbhmoaaaChecked
import GoSem.Claim
import GoSem.ClaimJoined
import GoSem.ClaimMapViews
import Derived.JoinedTies
import Derived.KernelRfl
namespace Go.Proofs.Ytcgflignbhmoaaa
/- THE CELL 'sum', in the pinned program and in every row, IS THE sha256 OF THE DUMP (.gsa) THAT YtcgflignbhmoaaaProg.lean LOADS. Nothing in Lean hashes anything: it is a label: what it is worth is what the hold of that sum in a sandbox is worth. -/
noncomputable def Try.pinned : Pinned := { name := "ytcgflignbhmoaaa", sum := "fe88fe41f7538fc2ab578469a60b9cc3a7e70d420440dd4b7808cf08651e25ca", checked := Try.checked }
namespace Rows
def none {H : Type} : Left H := { results := [], args := [] }

/-- 'lineallaw01.SpecRuns': WHATEVER THE INPUT: true; the input reads as it did. -/
def specRunsSpec : ChangeSpec := { name := "specRuns", fn := fun _ => fun
  | [d1, d2, d3, d4] => { results := [.lit (.bool true)], args := [d1, d2, d3, d4] }
  | _ => none }
def specRunsRow : OpenClaim := { program := "ytcgflignbhmoaaa", sum := "fe88fe41f7538fc2ab578469a60b9cc3a7e70d420440dd4b7808cf08651e25ca", func := "lineal/lineallaw01.SpecRuns", spec := "specRuns", unfollowed := true, recurses := true, plainKeys := false, apart := false }
def SpecRunsSaid : Prop := specRunsRow.holds Try.pinned (OpenSpec.ofChange specRunsSpec)

/-- ITS FALSE NEIGHBOUR: 'it returns false'. Refute it at one input. -/
def specRunsWrong : ChangeSpec := { name := "specRuns", fn := fun _ => fun
  | [d1, d2, d3, d4] => { results := [.lit (.bool false)], args := [d1, d2, d3, d4] }
  | _ => none }
def SpecRunsWrongFalsely : Prop := specRunsRow.holds Try.pinned (OpenSpec.ofChange specRunsWrong)

/-- 'lineallaw01.SpecWords': WHATEVER THE INPUT: true; the input reads as it did. -/
def specWordsSpec : ChangeSpec := { name := "specWords", fn := fun _ => fun
  | [d1, d2, d3] => { results := [.lit (.bool true)], args := [d1, d2, d3] }
  | _ => none }
def specWordsRow : OpenClaim := { program := "ytcgflignbhmoaaa", sum := "fe88fe41f7538fc2ab578469a60b9cc3a7e70d420440dd4b7808cf08651e25ca", func := "lineal/lineallaw01.SpecWords", spec := "specWords", unfollowed := true, recurses := true, plainKeys := false, apart := false }
def SpecWordsSaid : Prop := specWordsRow.holds Try.pinned (OpenSpec.ofChange specWordsSpec)

/-- ITS FALSE NEIGHBOUR: 'it returns false'. Refute it at one input. -/
def specWordsWrong : ChangeSpec := { name := "specWords", fn := fun _ => fun
  | [d1, d2, d3] => { results := [.lit (.bool false)], args := [d1, d2, d3] }
  | _ => none }
def SpecWordsWrongFalsely : Prop := specWordsRow.holds Try.pinned (OpenSpec.ofChange specWordsWrong)

/-- 'lineallaw01.SpecWays': WHATEVER THE INPUT: true; the input reads as it did. -/
def specWaysSpec : ChangeSpec := { name := "specWays", fn := fun _ => fun
  | [d1, d2] => { results := [.lit (.bool true)], args := [d1, d2] }
  | _ => none }
def specWaysRow : OpenClaim := { program := "ytcgflignbhmoaaa", sum := "fe88fe41f7538fc2ab578469a60b9cc3a7e70d420440dd4b7808cf08651e25ca", func := "lineal/lineallaw01.SpecWays", spec := "specWays", unfollowed := true, recurses := true, plainKeys := false, apart := false }
def SpecWaysSaid : Prop := specWaysRow.holds Try.pinned (OpenSpec.ofChange specWaysSpec)

/-- ITS FALSE NEIGHBOUR: 'it returns false'. Refute it at one input. -/
def specWaysWrong : ChangeSpec := { name := "specWays", fn := fun _ => fun
  | [d1, d2] => { results := [.lit (.bool false)], args := [d1, d2] }
  | _ => none }
def SpecWaysWrongFalsely : Prop := specWaysRow.holds Try.pinned (OpenSpec.ofChange specWaysWrong)

/-- 'lineallaw01.SpecPairs': WHATEVER THE INPUT: true; the input reads as it did. -/
def specPairsSpec : ChangeSpec := { name := "specPairs", fn := fun _ => fun
  | [d1, d2] => { results := [.lit (.bool true)], args := [d1, d2] }
  | _ => none }
def specPairsRow : OpenClaim := { program := "ytcgflignbhmoaaa", sum := "fe88fe41f7538fc2ab578469a60b9cc3a7e70d420440dd4b7808cf08651e25ca", func := "lineal/lineallaw01.SpecPairs", spec := "specPairs", unfollowed := true, recurses := true, plainKeys := false, apart := false }
def SpecPairsSaid : Prop := specPairsRow.holds Try.pinned (OpenSpec.ofChange specPairsSpec)

/-- ITS FALSE NEIGHBOUR: 'it returns false'. Refute it at one input. -/
def specPairsWrong : ChangeSpec := { name := "specPairs", fn := fun _ => fun
  | [d1, d2] => { results := [.lit (.bool false)], args := [d1, d2] }
  | _ => none }
def SpecPairsWrongFalsely : Prop := specPairsRow.holds Try.pinned (OpenSpec.ofChange specPairsWrong)

/-- 'lineallaw01.SpecCalls': WHATEVER THE INPUT: true; the input reads as it did. -/
def specCallsSpec : ChangeSpec := { name := "specCalls", fn := fun _ => fun
  | [d1, d2, d3, d4] => { results := [.lit (.bool true)], args := [d1, d2, d3, d4] }
  | _ => none }
def specCallsRow : OpenClaim := { program := "ytcgflignbhmoaaa", sum := "fe88fe41f7538fc2ab578469a60b9cc3a7e70d420440dd4b7808cf08651e25ca", func := "lineal/lineallaw01.SpecCalls", spec := "specCalls", unfollowed := true, recurses := true, plainKeys := false, apart := false }
def SpecCallsSaid : Prop := specCallsRow.holds Try.pinned (OpenSpec.ofChange specCallsSpec)

/-- ITS FALSE NEIGHBOUR: 'it returns false'. Refute it at one input. -/
def specCallsWrong : ChangeSpec := { name := "specCalls", fn := fun _ => fun
  | [d1, d2, d3, d4] => { results := [.lit (.bool false)], args := [d1, d2, d3, d4] }
  | _ => none }
def SpecCallsWrongFalsely : Prop := specCallsRow.holds Try.pinned (OpenSpec.ofChange specCallsWrong)

/-- 'lineallaw01.SpecBegun': WHATEVER THE INPUT: true; the input reads as it did. -/
def specBegunSpec : ChangeSpec := { name := "specBegun", fn := fun _ => fun
  | [d1, d2] => { results := [.lit (.bool true)], args := [d1, d2] }
  | _ => none }
def specBegunRow : OpenClaim := { program := "ytcgflignbhmoaaa", sum := "fe88fe41f7538fc2ab578469a60b9cc3a7e70d420440dd4b7808cf08651e25ca", func := "lineal/lineallaw01.SpecBegun", spec := "specBegun", unfollowed := true, recurses := true, plainKeys := false, apart := false }
def SpecBegunSaid : Prop := specBegunRow.holds Try.pinned (OpenSpec.ofChange specBegunSpec)

/-- ITS FALSE NEIGHBOUR: 'it returns false'. Refute it at one input. -/
def specBegunWrong : ChangeSpec := { name := "specBegun", fn := fun _ => fun
  | [d1, d2] => { results := [.lit (.bool false)], args := [d1, d2] }
  | _ => none }
def SpecBegunWrongFalsely : Prop := specBegunRow.holds Try.pinned (OpenSpec.ofChange specBegunWrong)

/-- 'lineallaw01.SpecTold': WHATEVER THE INPUT: true; the input reads as it did. -/
def specToldSpec : ChangeSpec := { name := "specTold", fn := fun _ => fun
  | [d1, d2, d3, d4, d5] => { results := [.lit (.bool true)], args := [d1, d2, d3, d4, d5] }
  | _ => none }
def specToldRow : OpenClaim := { program := "ytcgflignbhmoaaa", sum := "fe88fe41f7538fc2ab578469a60b9cc3a7e70d420440dd4b7808cf08651e25ca", func := "lineal/lineallaw01.SpecTold", spec := "specTold", unfollowed := true, recurses := true, plainKeys := false, apart := false }
def SpecToldSaid : Prop := specToldRow.holds Try.pinned (OpenSpec.ofChange specToldSpec)

/-- ITS FALSE NEIGHBOUR: 'it returns false'. Refute it at one input. -/
def specToldWrong : ChangeSpec := { name := "specTold", fn := fun _ => fun
  | [d1, d2, d3, d4, d5] => { results := [.lit (.bool false)], args := [d1, d2, d3, d4, d5] }
  | _ => none }
def SpecToldWrongFalsely : Prop := specToldRow.holds Try.pinned (OpenSpec.ofChange specToldWrong)

/-- 'lineallaw01.SpecLeast': WHATEVER THE INPUT: true; the input reads as it did. -/
def specLeastSpec : ChangeSpec := { name := "specLeast", fn := fun _ => fun
  | [d1, d2] => { results := [.lit (.bool true)], args := [d1, d2] }
  | _ => none }
def specLeastRow : OpenClaim := { program := "ytcgflignbhmoaaa", sum := "fe88fe41f7538fc2ab578469a60b9cc3a7e70d420440dd4b7808cf08651e25ca", func := "lineal/lineallaw01.SpecLeast", spec := "specLeast", unfollowed := true, recurses := true, plainKeys := false, apart := false }
def SpecLeastSaid : Prop := specLeastRow.holds Try.pinned (OpenSpec.ofChange specLeastSpec)

/-- ITS FALSE NEIGHBOUR: 'it returns false'. Refute it at one input. -/
def specLeastWrong : ChangeSpec := { name := "specLeast", fn := fun _ => fun
  | [d1, d2] => { results := [.lit (.bool false)], args := [d1, d2] }
  | _ => none }
def SpecLeastWrongFalsely : Prop := specLeastRow.holds Try.pinned (OpenSpec.ofChange specLeastWrong)

/-- 'lineallaw01.SpecLed': WHATEVER THE INPUT: true; the input reads as it did. -/
def specLedSpec : ChangeSpec := { name := "specLed", fn := fun _ => fun
  | [d1, d2, d3] => { results := [.lit (.bool true)], args := [d1, d2, d3] }
  | _ => none }
def specLedRow : OpenClaim := { program := "ytcgflignbhmoaaa", sum := "fe88fe41f7538fc2ab578469a60b9cc3a7e70d420440dd4b7808cf08651e25ca", func := "lineal/lineallaw01.SpecLed", spec := "specLed", unfollowed := true, recurses := true, plainKeys := false, apart := false }
def SpecLedSaid : Prop := specLedRow.holds Try.pinned (OpenSpec.ofChange specLedSpec)

/-- ITS FALSE NEIGHBOUR: 'it returns false'. Refute it at one input. -/
def specLedWrong : ChangeSpec := { name := "specLed", fn := fun _ => fun
  | [d1, d2, d3] => { results := [.lit (.bool false)], args := [d1, d2, d3] }
  | _ => none }
def SpecLedWrongFalsely : Prop := specLedRow.holds Try.pinned (OpenSpec.ofChange specLedWrong)

/-- 'lineallaw01.SpecCommutes': WHATEVER THE INPUT: true; the input reads as it did. -/
def specCommutesSpec : ChangeSpec := { name := "specCommutes", fn := fun _ => fun
  | [d1, d2, d3, d4] => { results := [.lit (.bool true)], args := [d1, d2, d3, d4] }
  | _ => none }
def specCommutesRow : OpenClaim := { program := "ytcgflignbhmoaaa", sum := "fe88fe41f7538fc2ab578469a60b9cc3a7e70d420440dd4b7808cf08651e25ca", func := "lineal/lineallaw01.SpecCommutes", spec := "specCommutes", unfollowed := true, recurses := true, plainKeys := false, apart := false }
def SpecCommutesSaid : Prop := specCommutesRow.holds Try.pinned (OpenSpec.ofChange specCommutesSpec)

/-- ITS FALSE NEIGHBOUR: 'it returns false'. Refute it at one input. -/
def specCommutesWrong : ChangeSpec := { name := "specCommutes", fn := fun _ => fun
  | [d1, d2, d3, d4] => { results := [.lit (.bool false)], args := [d1, d2, d3, d4] }
  | _ => none }
def SpecCommutesWrongFalsely : Prop := specCommutesRow.holds Try.pinned (OpenSpec.ofChange specCommutesWrong)

/-- 'lineallaw01.SpecSides': WHATEVER THE INPUT: true; the input reads as it did. -/
def specSidesSpec : ChangeSpec := { name := "specSides", fn := fun _ => fun
  | [d1, d2, d3] => { results := [.lit (.bool true)], args := [d1, d2, d3] }
  | _ => none }
def specSidesRow : OpenClaim := { program := "ytcgflignbhmoaaa", sum := "fe88fe41f7538fc2ab578469a60b9cc3a7e70d420440dd4b7808cf08651e25ca", func := "lineal/lineallaw01.SpecSides", spec := "specSides", unfollowed := true, recurses := true, plainKeys := false, apart := false }
def SpecSidesSaid : Prop := specSidesRow.holds Try.pinned (OpenSpec.ofChange specSidesSpec)

/-- ITS FALSE NEIGHBOUR: 'it returns false'. Refute it at one input. -/
def specSidesWrong : ChangeSpec := { name := "specSides", fn := fun _ => fun
  | [d1, d2, d3] => { results := [.lit (.bool false)], args := [d1, d2, d3] }
  | _ => none }
def SpecSidesWrongFalsely : Prop := specSidesRow.holds Try.pinned (OpenSpec.ofChange specSidesWrong)

/-- 'lineallaw01.SpecTurns': WHATEVER THE INPUT: true; the input reads as it did. -/
def specTurnsSpec : ChangeSpec := { name := "specTurns", fn := fun _ => fun
  | [d1, d2, d3] => { results := [.lit (.bool true)], args := [d1, d2, d3] }
  | _ => none }
def specTurnsRow : OpenClaim := { program := "ytcgflignbhmoaaa", sum := "fe88fe41f7538fc2ab578469a60b9cc3a7e70d420440dd4b7808cf08651e25ca", func := "lineal/lineallaw01.SpecTurns", spec := "specTurns", unfollowed := true, recurses := true, plainKeys := false, apart := false }
def SpecTurnsSaid : Prop := specTurnsRow.holds Try.pinned (OpenSpec.ofChange specTurnsSpec)

/-- ITS FALSE NEIGHBOUR: 'it returns false'. Refute it at one input. -/
def specTurnsWrong : ChangeSpec := { name := "specTurns", fn := fun _ => fun
  | [d1, d2, d3] => { results := [.lit (.bool false)], args := [d1, d2, d3] }
  | _ => none }
def SpecTurnsWrongFalsely : Prop := specTurnsRow.holds Try.pinned (OpenSpec.ofChange specTurnsWrong)

/-- 'linealtop.TopSpec': WHATEVER THE INPUT: true; the input reads as it did. -/
def topSpecSpec : ChangeSpec := { name := "topSpec", fn := fun _ => fun
  | [d1, d2, d3] => { results := [.lit (.bool true)], args := [d1, d2, d3] }
  | _ => none }
def topSpecRow : OpenClaim := { program := "ytcgflignbhmoaaa", sum := "fe88fe41f7538fc2ab578469a60b9cc3a7e70d420440dd4b7808cf08651e25ca", func := "lineal/linealtop.TopSpec", spec := "topSpec", unfollowed := true, recurses := true, plainKeys := false, apart := false }
def TopSpecSaid : Prop := topSpecRow.holds Try.pinned (OpenSpec.ofChange topSpecSpec)

/-- ITS FALSE NEIGHBOUR: 'it returns false'. Refute it at one input. -/
def topSpecWrong : ChangeSpec := { name := "topSpec", fn := fun _ => fun
  | [d1, d2, d3] => { results := [.lit (.bool false)], args := [d1, d2, d3] }
  | _ => none }
def TopSpecWrongFalsely : Prop := topSpecRow.holds Try.pinned (OpenSpec.ofChange topSpecWrong)

/- THE SECOND FORM. 'bulk': how many values and letters a reading holds, each counted each time it is reached (what is shared counts as often as it is met; a slice's spare places count too). A statement '..UptoSaid' is the law's where the arguments, and the package variables that the reading takes, are together of bulk at most 1048576: NARROWER than '..Said'. Prove '..Said' where nothing that the law and all that it calls make is longer than what came in: it says more and counts as full. Else prove '..UptoSaid'. A law counts once. -/
mutual
def uptoBulk {H : Type} : DataW H → Nat
  | .lit (.string bytes) => bytes.length + 1
  | .lit _ => 1
  | .nil => 1
  | .ptr d => uptoBulk d + 1
  | .slice elems spare => uptoBulkAll elems + uptoBulkAll spare + 1
  | .agg parts => uptoBulkAll parts + 1
  | .iface _ d => uptoBulk d + 1
  | .map entries => uptoBulkEntries entries + 1
  | .held _ => 1
def uptoBulkAll {H : Type} : List (DataW H) → Nat
  | [] => 0
  | d :: r => uptoBulk d + uptoBulkAll r
def uptoBulkEntries {H : Type} : List (Lit × DataW H) → Nat
  | [] => 0
  | x :: r => uptoBulkEntry x + uptoBulkEntries r
def uptoBulkEntry {H : Type} : Lit × DataW H → Nat
  | (.string bytes, d) => bytes.length + uptoBulk d + 1
  | (_, d) => uptoBulk d + 1
 end
def uptoSmall : (H : Type) → List (DataW H) → Bool := fun _ ds => decide (uptoBulkAll ds ≤ 1048576)
def OpenSpec.upto (s : _root_.Go.ChangeSpec) : _root_.Go.OpenSpec := { _root_.Go.OpenSpec.ofChange s with cond := some uptoSmall }

/-- 'lineallaw01.SpecRuns', WHERE WHAT IT READS IS OF BULK AT MOST 1048576: true; the input reads as it did. -/
def specRunsUptoRow : OpenClaim := { program := "ytcgflignbhmoaaa", sum := "fe88fe41f7538fc2ab578469a60b9cc3a7e70d420440dd4b7808cf08651e25ca", func := "lineal/lineallaw01.SpecRuns", spec := "specRuns", unfollowed := true, recurses := true, plainKeys := false, apart := false, narrowed := true }
def SpecRunsUptoSaid : Prop := specRunsUptoRow.holds Try.pinned (OpenSpec.upto specRunsSpec)

/-- 'lineallaw01.SpecWords', WHERE WHAT IT READS IS OF BULK AT MOST 1048576: true; the input reads as it did. -/
def specWordsUptoRow : OpenClaim := { program := "ytcgflignbhmoaaa", sum := "fe88fe41f7538fc2ab578469a60b9cc3a7e70d420440dd4b7808cf08651e25ca", func := "lineal/lineallaw01.SpecWords", spec := "specWords", unfollowed := true, recurses := true, plainKeys := false, apart := false, narrowed := true }
def SpecWordsUptoSaid : Prop := specWordsUptoRow.holds Try.pinned (OpenSpec.upto specWordsSpec)

/-- 'lineallaw01.SpecWays', WHERE WHAT IT READS IS OF BULK AT MOST 1048576: true; the input reads as it did. -/
def specWaysUptoRow : OpenClaim := { program := "ytcgflignbhmoaaa", sum := "fe88fe41f7538fc2ab578469a60b9cc3a7e70d420440dd4b7808cf08651e25ca", func := "lineal/lineallaw01.SpecWays", spec := "specWays", unfollowed := true, recurses := true, plainKeys := false, apart := false, narrowed := true }
def SpecWaysUptoSaid : Prop := specWaysUptoRow.holds Try.pinned (OpenSpec.upto specWaysSpec)

/-- 'lineallaw01.SpecPairs', WHERE WHAT IT READS IS OF BULK AT MOST 1048576: true; the input reads as it did. -/
def specPairsUptoRow : OpenClaim := { program := "ytcgflignbhmoaaa", sum := "fe88fe41f7538fc2ab578469a60b9cc3a7e70d420440dd4b7808cf08651e25ca", func := "lineal/lineallaw01.SpecPairs", spec := "specPairs", unfollowed := true, recurses := true, plainKeys := false, apart := false, narrowed := true }
def SpecPairsUptoSaid : Prop := specPairsUptoRow.holds Try.pinned (OpenSpec.upto specPairsSpec)

/-- 'lineallaw01.SpecCalls', WHERE WHAT IT READS IS OF BULK AT MOST 1048576: true; the input reads as it did. -/
def specCallsUptoRow : OpenClaim := { program := "ytcgflignbhmoaaa", sum := "fe88fe41f7538fc2ab578469a60b9cc3a7e70d420440dd4b7808cf08651e25ca", func := "lineal/lineallaw01.SpecCalls", spec := "specCalls", unfollowed := true, recurses := true, plainKeys := false, apart := false, narrowed := true }
def SpecCallsUptoSaid : Prop := specCallsUptoRow.holds Try.pinned (OpenSpec.upto specCallsSpec)

/-- 'lineallaw01.SpecBegun', WHERE WHAT IT READS IS OF BULK AT MOST 1048576: true; the input reads as it did. -/
def specBegunUptoRow : OpenClaim := { program := "ytcgflignbhmoaaa", sum := "fe88fe41f7538fc2ab578469a60b9cc3a7e70d420440dd4b7808cf08651e25ca", func := "lineal/lineallaw01.SpecBegun", spec := "specBegun", unfollowed := true, recurses := true, plainKeys := false, apart := false, narrowed := true }
def SpecBegunUptoSaid : Prop := specBegunUptoRow.holds Try.pinned (OpenSpec.upto specBegunSpec)

/-- 'lineallaw01.SpecTold', WHERE WHAT IT READS IS OF BULK AT MOST 1048576: true; the input reads as it did. -/
def specToldUptoRow : OpenClaim := { program := "ytcgflignbhmoaaa", sum := "fe88fe41f7538fc2ab578469a60b9cc3a7e70d420440dd4b7808cf08651e25ca", func := "lineal/lineallaw01.SpecTold", spec := "specTold", unfollowed := true, recurses := true, plainKeys := false, apart := false, narrowed := true }
def SpecToldUptoSaid : Prop := specToldUptoRow.holds Try.pinned (OpenSpec.upto specToldSpec)

/-- 'lineallaw01.SpecLeast', WHERE WHAT IT READS IS OF BULK AT MOST 1048576: true; the input reads as it did. -/
def specLeastUptoRow : OpenClaim := { program := "ytcgflignbhmoaaa", sum := "fe88fe41f7538fc2ab578469a60b9cc3a7e70d420440dd4b7808cf08651e25ca", func := "lineal/lineallaw01.SpecLeast", spec := "specLeast", unfollowed := true, recurses := true, plainKeys := false, apart := false, narrowed := true }
def SpecLeastUptoSaid : Prop := specLeastUptoRow.holds Try.pinned (OpenSpec.upto specLeastSpec)

/-- 'lineallaw01.SpecLed', WHERE WHAT IT READS IS OF BULK AT MOST 1048576: true; the input reads as it did. -/
def specLedUptoRow : OpenClaim := { program := "ytcgflignbhmoaaa", sum := "fe88fe41f7538fc2ab578469a60b9cc3a7e70d420440dd4b7808cf08651e25ca", func := "lineal/lineallaw01.SpecLed", spec := "specLed", unfollowed := true, recurses := true, plainKeys := false, apart := false, narrowed := true }
def SpecLedUptoSaid : Prop := specLedUptoRow.holds Try.pinned (OpenSpec.upto specLedSpec)

/-- 'lineallaw01.SpecCommutes', WHERE WHAT IT READS IS OF BULK AT MOST 1048576: true; the input reads as it did. -/
def specCommutesUptoRow : OpenClaim := { program := "ytcgflignbhmoaaa", sum := "fe88fe41f7538fc2ab578469a60b9cc3a7e70d420440dd4b7808cf08651e25ca", func := "lineal/lineallaw01.SpecCommutes", spec := "specCommutes", unfollowed := true, recurses := true, plainKeys := false, apart := false, narrowed := true }
def SpecCommutesUptoSaid : Prop := specCommutesUptoRow.holds Try.pinned (OpenSpec.upto specCommutesSpec)

/-- 'lineallaw01.SpecSides', WHERE WHAT IT READS IS OF BULK AT MOST 1048576: true; the input reads as it did. -/
def specSidesUptoRow : OpenClaim := { program := "ytcgflignbhmoaaa", sum := "fe88fe41f7538fc2ab578469a60b9cc3a7e70d420440dd4b7808cf08651e25ca", func := "lineal/lineallaw01.SpecSides", spec := "specSides", unfollowed := true, recurses := true, plainKeys := false, apart := false, narrowed := true }
def SpecSidesUptoSaid : Prop := specSidesUptoRow.holds Try.pinned (OpenSpec.upto specSidesSpec)

/-- 'lineallaw01.SpecTurns', WHERE WHAT IT READS IS OF BULK AT MOST 1048576: true; the input reads as it did. -/
def specTurnsUptoRow : OpenClaim := { program := "ytcgflignbhmoaaa", sum := "fe88fe41f7538fc2ab578469a60b9cc3a7e70d420440dd4b7808cf08651e25ca", func := "lineal/lineallaw01.SpecTurns", spec := "specTurns", unfollowed := true, recurses := true, plainKeys := false, apart := false, narrowed := true }
def SpecTurnsUptoSaid : Prop := specTurnsUptoRow.holds Try.pinned (OpenSpec.upto specTurnsSpec)

/-- 'linealtop.TopSpec', WHERE WHAT IT READS IS OF BULK AT MOST 1048576: true; the input reads as it did. -/
def topSpecUptoRow : OpenClaim := { program := "ytcgflignbhmoaaa", sum := "fe88fe41f7538fc2ab578469a60b9cc3a7e70d420440dd4b7808cf08651e25ca", func := "lineal/linealtop.TopSpec", spec := "topSpec", unfollowed := true, recurses := true, plainKeys := false, apart := false, narrowed := true }
def TopSpecUptoSaid : Prop := topSpecUptoRow.holds Try.pinned (OpenSpec.upto topSpecSpec)

end Rows
end Go.Proofs.Ytcgflignbhmoaaa
