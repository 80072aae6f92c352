/-
  No cell of these rows narrows 'for every input' (looked for: loops, veiled, ifaces, maps, wideKeys, modest, calm, conditions, laid).
  DERIVED. THE GIVEN ROWS OF THIS SEAT. 13 by the template 'for every input the law returns true; each argument reads behind the call as it read before'; 0 by the template 'total and deterministic' (their statements: YtifleoceebaooaaTotals.lean).
  GIVEN WITH THE SEED: the statements are not yours to turn. If you find one false, say at which input.
  Laid BY PROGRAM, IN A SANDBOX (cutbox-rows.mjs): the forced cells as the released guide's own fill.sh prints them over the translation a196c53c5df84da7… (all of the seat's roots in one cut). By AI agents, Wed Nov 11 2026. No macro, syntax, notation, axiom, sorry.
-/
import Derived.Test.YtifleoceebaooaaChecked
import GoSem.Claim
import GoSem.ClaimJoined
import GoSem.ClaimMapViews
import Derived.JoinedTies
import Derived.KernelRfl
namespace Go.Proofs.Ytifleoceebaooaa
/- THE CELL 'sum', in the pinned program and in every row, IS THE sha256 OF THE DUMP (.gsa) THAT YtifleoceebaooaaProg.lean LOADS. Nothing in Lean hashes anything: it is a label: what it is worth is what the hold of that sum in a sandbox is worth. -/
noncomputable def Try.pinned : Pinned := { name := "ytifleoceebaooaa", sum := "a196c53c5df84da75a839ec077864cc6415df3c36f57bfd0c883717ee609a055", checked := Try.checked }
namespace Rows
def none {H : Type} : Left H := { results := [], args := [] }

/-- 'lineallaw05.RefineComes': WHATEVER THE INPUT: true; the input reads as it did. -/
def refineComesSpec : ChangeSpec := { name := "refineComes", fn := fun _ => fun
  | [d1, d2, d3] => { results := [.lit (.bool true)], args := [d1, d2, d3] }
  | _ => none }
def refineComesRow : OpenClaim := { program := "ytifleoceebaooaa", sum := "a196c53c5df84da75a839ec077864cc6415df3c36f57bfd0c883717ee609a055", func := "lineal/lineallaw05.RefineComes", spec := "refineComes", unfollowed := true, recurses := true, plainKeys := false, apart := false }
def RefineComesSaid : Prop := refineComesRow.holds Try.pinned (OpenSpec.ofChange refineComesSpec)

/-- ITS FALSE NEIGHBOUR: 'it returns false'. Refute it at one input. -/
def refineComesWrong : ChangeSpec := { name := "refineComes", fn := fun _ => fun
  | [d1, d2, d3] => { results := [.lit (.bool false)], args := [d1, d2, d3] }
  | _ => none }
def RefineComesWrongFalsely : Prop := refineComesRow.holds Try.pinned (OpenSpec.ofChange refineComesWrong)

/-- 'lineallaw05.RefineTraces': WHATEVER THE INPUT: true; the input reads as it did. -/
def refineTracesSpec : ChangeSpec := { name := "refineTraces", fn := fun _ => fun
  | [d1, d2, d3] => { results := [.lit (.bool true)], args := [d1, d2, d3] }
  | _ => none }
def refineTracesRow : OpenClaim := { program := "ytifleoceebaooaa", sum := "a196c53c5df84da75a839ec077864cc6415df3c36f57bfd0c883717ee609a055", func := "lineal/lineallaw05.RefineTraces", spec := "refineTraces", unfollowed := true, recurses := true, plainKeys := false, apart := false }
def RefineTracesSaid : Prop := refineTracesRow.holds Try.pinned (OpenSpec.ofChange refineTracesSpec)

/-- ITS FALSE NEIGHBOUR: 'it returns false'. Refute it at one input. -/
def refineTracesWrong : ChangeSpec := { name := "refineTraces", fn := fun _ => fun
  | [d1, d2, d3] => { results := [.lit (.bool false)], args := [d1, d2, d3] }
  | _ => none }
def RefineTracesWrongFalsely : Prop := refineTracesRow.holds Try.pinned (OpenSpec.ofChange refineTracesWrong)

/-- 'lineallaw05.RefineProofs': WHATEVER THE INPUT: true; the input reads as it did. -/
def refineProofsSpec : ChangeSpec := { name := "refineProofs", fn := fun _ => fun
  | [d1, d2, d3] => { results := [.lit (.bool true)], args := [d1, d2, d3] }
  | _ => none }
def refineProofsRow : OpenClaim := { program := "ytifleoceebaooaa", sum := "a196c53c5df84da75a839ec077864cc6415df3c36f57bfd0c883717ee609a055", func := "lineal/lineallaw05.RefineProofs", spec := "refineProofs", unfollowed := true, recurses := true, plainKeys := false, apart := false }
def RefineProofsSaid : Prop := refineProofsRow.holds Try.pinned (OpenSpec.ofChange refineProofsSpec)

/-- ITS FALSE NEIGHBOUR: 'it returns false'. Refute it at one input. -/
def refineProofsWrong : ChangeSpec := { name := "refineProofs", fn := fun _ => fun
  | [d1, d2, d3] => { results := [.lit (.bool false)], args := [d1, d2, d3] }
  | _ => none }
def RefineProofsWrongFalsely : Prop := refineProofsRow.holds Try.pinned (OpenSpec.ofChange refineProofsWrong)

/-- 'lineallaw05.RefineShows': WHATEVER THE INPUT: true; the input reads as it did. -/
def refineShowsSpec : ChangeSpec := { name := "refineShows", fn := fun _ => fun
  | [d1, d2] => { results := [.lit (.bool true)], args := [d1, d2] }
  | _ => none }
def refineShowsRow : OpenClaim := { program := "ytifleoceebaooaa", sum := "a196c53c5df84da75a839ec077864cc6415df3c36f57bfd0c883717ee609a055", func := "lineal/lineallaw05.RefineShows", spec := "refineShows", unfollowed := true, recurses := true, plainKeys := false, apart := false }
def RefineShowsSaid : Prop := refineShowsRow.holds Try.pinned (OpenSpec.ofChange refineShowsSpec)

/-- ITS FALSE NEIGHBOUR: 'it returns false'. Refute it at one input. -/
def refineShowsWrong : ChangeSpec := { name := "refineShows", fn := fun _ => fun
  | [d1, d2] => { results := [.lit (.bool false)], args := [d1, d2] }
  | _ => none }
def RefineShowsWrongFalsely : Prop := refineShowsRow.holds Try.pinned (OpenSpec.ofChange refineShowsWrong)

/-- 'lineallaw05.RefineOthers': WHATEVER THE INPUT: true; the input reads as it did. -/
def refineOthersSpec : ChangeSpec := { name := "refineOthers", fn := fun _ => fun
  | [d1, d2, d3, d4] => { results := [.lit (.bool true)], args := [d1, d2, d3, d4] }
  | _ => none }
def refineOthersRow : OpenClaim := { program := "ytifleoceebaooaa", sum := "a196c53c5df84da75a839ec077864cc6415df3c36f57bfd0c883717ee609a055", func := "lineal/lineallaw05.RefineOthers", spec := "refineOthers", unfollowed := true, recurses := true, plainKeys := false, apart := false }
def RefineOthersSaid : Prop := refineOthersRow.holds Try.pinned (OpenSpec.ofChange refineOthersSpec)

/-- ITS FALSE NEIGHBOUR: 'it returns false'. Refute it at one input. -/
def refineOthersWrong : ChangeSpec := { name := "refineOthers", fn := fun _ => fun
  | [d1, d2, d3, d4] => { results := [.lit (.bool false)], args := [d1, d2, d3, d4] }
  | _ => none }
def RefineOthersWrongFalsely : Prop := refineOthersRow.holds Try.pinned (OpenSpec.ofChange refineOthersWrong)

/-- 'lineallaw05.RefineComposed': WHATEVER THE INPUT: true; the input reads as it did. -/
def refineComposedSpec : ChangeSpec := { name := "refineComposed", fn := fun _ => fun
  | [d1, d2] => { results := [.lit (.bool true)], args := [d1, d2] }
  | _ => none }
def refineComposedRow : OpenClaim := { program := "ytifleoceebaooaa", sum := "a196c53c5df84da75a839ec077864cc6415df3c36f57bfd0c883717ee609a055", func := "lineal/lineallaw05.RefineComposed", spec := "refineComposed", unfollowed := true, recurses := true, plainKeys := false, apart := false }
def RefineComposedSaid : Prop := refineComposedRow.holds Try.pinned (OpenSpec.ofChange refineComposedSpec)

/-- ITS FALSE NEIGHBOUR: 'it returns false'. Refute it at one input. -/
def refineComposedWrong : ChangeSpec := { name := "refineComposed", fn := fun _ => fun
  | [d1, d2] => { results := [.lit (.bool false)], args := [d1, d2] }
  | _ => none }
def RefineComposedWrongFalsely : Prop := refineComposedRow.holds Try.pinned (OpenSpec.ofChange refineComposedWrong)

/-- 'lineallaw05.RefineBest': WHATEVER THE INPUT: true; the input reads as it did. -/
def refineBestSpec : ChangeSpec := { name := "refineBest", fn := fun _ => fun
  | [d1, d2, d3] => { results := [.lit (.bool true)], args := [d1, d2, d3] }
  | _ => none }
def refineBestRow : OpenClaim := { program := "ytifleoceebaooaa", sum := "a196c53c5df84da75a839ec077864cc6415df3c36f57bfd0c883717ee609a055", func := "lineal/lineallaw05.RefineBest", spec := "refineBest", unfollowed := true, recurses := true, plainKeys := false, apart := false }
def RefineBestSaid : Prop := refineBestRow.holds Try.pinned (OpenSpec.ofChange refineBestSpec)

/-- ITS FALSE NEIGHBOUR: 'it returns false'. Refute it at one input. -/
def refineBestWrong : ChangeSpec := { name := "refineBest", fn := fun _ => fun
  | [d1, d2, d3] => { results := [.lit (.bool false)], args := [d1, d2, d3] }
  | _ => none }
def RefineBestWrongFalsely : Prop := refineBestRow.holds Try.pinned (OpenSpec.ofChange refineBestWrong)

/-- 'lineallaw05.RefineChains': WHATEVER THE INPUT: true; the input reads as it did. -/
def refineChainsSpec : ChangeSpec := { name := "refineChains", fn := fun _ => fun
  | [d1, d2, d3] => { results := [.lit (.bool true)], args := [d1, d2, d3] }
  | _ => none }
def refineChainsRow : OpenClaim := { program := "ytifleoceebaooaa", sum := "a196c53c5df84da75a839ec077864cc6415df3c36f57bfd0c883717ee609a055", func := "lineal/lineallaw05.RefineChains", spec := "refineChains", unfollowed := true, recurses := true, plainKeys := false, apart := false }
def RefineChainsSaid : Prop := refineChainsRow.holds Try.pinned (OpenSpec.ofChange refineChainsSpec)

/-- ITS FALSE NEIGHBOUR: 'it returns false'. Refute it at one input. -/
def refineChainsWrong : ChangeSpec := { name := "refineChains", fn := fun _ => fun
  | [d1, d2, d3] => { results := [.lit (.bool false)], args := [d1, d2, d3] }
  | _ => none }
def RefineChainsWrongFalsely : Prop := refineChainsRow.holds Try.pinned (OpenSpec.ofChange refineChainsWrong)

/-- 'lineallaw05.RefineSeen': WHATEVER THE INPUT: true; the input reads as it did. -/
def refineSeenSpec : ChangeSpec := { name := "refineSeen", fn := fun _ => fun
  | [d1, d2] => { results := [.lit (.bool true)], args := [d1, d2] }
  | _ => none }
def refineSeenRow : OpenClaim := { program := "ytifleoceebaooaa", sum := "a196c53c5df84da75a839ec077864cc6415df3c36f57bfd0c883717ee609a055", func := "lineal/lineallaw05.RefineSeen", spec := "refineSeen", unfollowed := true, recurses := true, plainKeys := false, apart := false }
def RefineSeenSaid : Prop := refineSeenRow.holds Try.pinned (OpenSpec.ofChange refineSeenSpec)

/-- ITS FALSE NEIGHBOUR: 'it returns false'. Refute it at one input. -/
def refineSeenWrong : ChangeSpec := { name := "refineSeen", fn := fun _ => fun
  | [d1, d2] => { results := [.lit (.bool false)], args := [d1, d2] }
  | _ => none }
def RefineSeenWrongFalsely : Prop := refineSeenRow.holds Try.pinned (OpenSpec.ofChange refineSeenWrong)

/-- 'lineallaw05.RefineTells': WHATEVER THE INPUT: true; the input reads as it did. -/
def refineTellsSpec : ChangeSpec := { name := "refineTells", fn := fun _ => fun
  | [d1, d2, d3] => { results := [.lit (.bool true)], args := [d1, d2, d3] }
  | _ => none }
def refineTellsRow : OpenClaim := { program := "ytifleoceebaooaa", sum := "a196c53c5df84da75a839ec077864cc6415df3c36f57bfd0c883717ee609a055", func := "lineal/lineallaw05.RefineTells", spec := "refineTells", unfollowed := true, recurses := true, plainKeys := false, apart := false }
def RefineTellsSaid : Prop := refineTellsRow.holds Try.pinned (OpenSpec.ofChange refineTellsSpec)

/-- ITS FALSE NEIGHBOUR: 'it returns false'. Refute it at one input. -/
def refineTellsWrong : ChangeSpec := { name := "refineTells", fn := fun _ => fun
  | [d1, d2, d3] => { results := [.lit (.bool false)], args := [d1, d2, d3] }
  | _ => none }
def RefineTellsWrongFalsely : Prop := refineTellsRow.holds Try.pinned (OpenSpec.ofChange refineTellsWrong)

/-- 'lineallaw05.RefineHides': WHATEVER THE INPUT: true; the input reads as it did. -/
def refineHidesSpec : ChangeSpec := { name := "refineHides", fn := fun _ => fun
  | [d1, d2, d3, d4] => { results := [.lit (.bool true)], args := [d1, d2, d3, d4] }
  | _ => none }
def refineHidesRow : OpenClaim := { program := "ytifleoceebaooaa", sum := "a196c53c5df84da75a839ec077864cc6415df3c36f57bfd0c883717ee609a055", func := "lineal/lineallaw05.RefineHides", spec := "refineHides", unfollowed := true, recurses := true, plainKeys := false, apart := false }
def RefineHidesSaid : Prop := refineHidesRow.holds Try.pinned (OpenSpec.ofChange refineHidesSpec)

/-- ITS FALSE NEIGHBOUR: 'it returns false'. Refute it at one input. -/
def refineHidesWrong : ChangeSpec := { name := "refineHides", fn := fun _ => fun
  | [d1, d2, d3, d4] => { results := [.lit (.bool false)], args := [d1, d2, d3, d4] }
  | _ => none }
def RefineHidesWrongFalsely : Prop := refineHidesRow.holds Try.pinned (OpenSpec.ofChange refineHidesWrong)

/-- 'lineallaw05.RefineBoth': WHATEVER THE INPUT: true; the input reads as it did. -/
def refineBothSpec : ChangeSpec := { name := "refineBoth", fn := fun _ => fun
  | [d1, d2, d3] => { results := [.lit (.bool true)], args := [d1, d2, d3] }
  | _ => none }
def refineBothRow : OpenClaim := { program := "ytifleoceebaooaa", sum := "a196c53c5df84da75a839ec077864cc6415df3c36f57bfd0c883717ee609a055", func := "lineal/lineallaw05.RefineBoth", spec := "refineBoth", unfollowed := true, recurses := true, plainKeys := false, apart := false }
def RefineBothSaid : Prop := refineBothRow.holds Try.pinned (OpenSpec.ofChange refineBothSpec)

/-- ITS FALSE NEIGHBOUR: 'it returns false'. Refute it at one input. -/
def refineBothWrong : ChangeSpec := { name := "refineBoth", fn := fun _ => fun
  | [d1, d2, d3] => { results := [.lit (.bool false)], args := [d1, d2, d3] }
  | _ => none }
def RefineBothWrongFalsely : Prop := refineBothRow.holds Try.pinned (OpenSpec.ofChange refineBothWrong)

/-- 'linealtop.TopRefine': WHATEVER THE INPUT: true; the input reads as it did. -/
def topRefineSpec : ChangeSpec := { name := "topRefine", fn := fun _ => fun
  | [d1, d2, d3, d4, d5] => { results := [.lit (.bool true)], args := [d1, d2, d3, d4, d5] }
  | _ => none }
def topRefineRow : OpenClaim := { program := "ytifleoceebaooaa", sum := "a196c53c5df84da75a839ec077864cc6415df3c36f57bfd0c883717ee609a055", func := "lineal/linealtop.TopRefine", spec := "topRefine", unfollowed := true, recurses := true, plainKeys := false, apart := false }
def TopRefineSaid : Prop := topRefineRow.holds Try.pinned (OpenSpec.ofChange topRefineSpec)

/-- ITS FALSE NEIGHBOUR: 'it returns false'. Refute it at one input. -/
def topRefineWrong : ChangeSpec := { name := "topRefine", fn := fun _ => fun
  | [d1, d2, d3, d4, d5] => { results := [.lit (.bool false)], args := [d1, d2, d3, d4, d5] }
  | _ => none }
def TopRefineWrongFalsely : Prop := topRefineRow.holds Try.pinned (OpenSpec.ofChange topRefineWrong)

/- THE SECOND FORM. 'bulk': how many values and letters a reading holds, each counted each time it is reached (what is shared counts as often as it is met; a slice's spare places count too). A statement '..UptoSaid' is the law's where the arguments, and the package variables that the reading takes, are together of bulk at most 1048576: NARROWER than '..Said'. Prove '..Said' where nothing that the law and all that it calls make is longer than what came in: it says more and counts as full. Else prove '..UptoSaid'. A law counts once. -/
mutual
def uptoBulk {H : Type} : DataW H → Nat
  | .lit (.string bytes) => bytes.length + 1
  | .lit _ => 1
  | .nil => 1
  | .ptr d => uptoBulk d + 1
  | .slice elems spare => uptoBulkAll elems + uptoBulkAll spare + 1
  | .agg parts => uptoBulkAll parts + 1
  | .iface _ d => uptoBulk d + 1
  | .map entries => uptoBulkEntries entries + 1
  | .held _ => 1
def uptoBulkAll {H : Type} : List (DataW H) → Nat
  | [] => 0
  | d :: r => uptoBulk d + uptoBulkAll r
def uptoBulkEntries {H : Type} : List (Lit × DataW H) → Nat
  | [] => 0
  | x :: r => uptoBulkEntry x + uptoBulkEntries r
def uptoBulkEntry {H : Type} : Lit × DataW H → Nat
  | (.string bytes, d) => bytes.length + uptoBulk d + 1
  | (_, d) => uptoBulk d + 1
 end
def uptoSmall : (H : Type) → List (DataW H) → Bool := fun _ ds => decide (uptoBulkAll ds ≤ 1048576)
def OpenSpec.upto (s : _root_.Go.ChangeSpec) : _root_.Go.OpenSpec := { _root_.Go.OpenSpec.ofChange s with cond := some uptoSmall }

/-- 'lineallaw05.RefineComes', WHERE WHAT IT READS IS OF BULK AT MOST 1048576: true; the input reads as it did. -/
def refineComesUptoRow : OpenClaim := { program := "ytifleoceebaooaa", sum := "a196c53c5df84da75a839ec077864cc6415df3c36f57bfd0c883717ee609a055", func := "lineal/lineallaw05.RefineComes", spec := "refineComes", unfollowed := true, recurses := true, plainKeys := false, apart := false, narrowed := true }
def RefineComesUptoSaid : Prop := refineComesUptoRow.holds Try.pinned (OpenSpec.upto refineComesSpec)

/-- 'lineallaw05.RefineTraces', WHERE WHAT IT READS IS OF BULK AT MOST 1048576: true; the input reads as it did. -/
def refineTracesUptoRow : OpenClaim := { program := "ytifleoceebaooaa", sum := "a196c53c5df84da75a839ec077864cc6415df3c36f57bfd0c883717ee609a055", func := "lineal/lineallaw05.RefineTraces", spec := "refineTraces", unfollowed := true, recurses := true, plainKeys := false, apart := false, narrowed := true }
def RefineTracesUptoSaid : Prop := refineTracesUptoRow.holds Try.pinned (OpenSpec.upto refineTracesSpec)

/-- 'lineallaw05.RefineProofs', WHERE WHAT IT READS IS OF BULK AT MOST 1048576: true; the input reads as it did. -/
def refineProofsUptoRow : OpenClaim := { program := "ytifleoceebaooaa", sum := "a196c53c5df84da75a839ec077864cc6415df3c36f57bfd0c883717ee609a055", func := "lineal/lineallaw05.RefineProofs", spec := "refineProofs", unfollowed := true, recurses := true, plainKeys := false, apart := false, narrowed := true }
def RefineProofsUptoSaid : Prop := refineProofsUptoRow.holds Try.pinned (OpenSpec.upto refineProofsSpec)

/-- 'lineallaw05.RefineShows', WHERE WHAT IT READS IS OF BULK AT MOST 1048576: true; the input reads as it did. -/
def refineShowsUptoRow : OpenClaim := { program := "ytifleoceebaooaa", sum := "a196c53c5df84da75a839ec077864cc6415df3c36f57bfd0c883717ee609a055", func := "lineal/lineallaw05.RefineShows", spec := "refineShows", unfollowed := true, recurses := true, plainKeys := false, apart := false, narrowed := true }
def RefineShowsUptoSaid : Prop := refineShowsUptoRow.holds Try.pinned (OpenSpec.upto refineShowsSpec)

/-- 'lineallaw05.RefineOthers', WHERE WHAT IT READS IS OF BULK AT MOST 1048576: true; the input reads as it did. -/
def refineOthersUptoRow : OpenClaim := { program := "ytifleoceebaooaa", sum := "a196c53c5df84da75a839ec077864cc6415df3c36f57bfd0c883717ee609a055", func := "lineal/lineallaw05.RefineOthers", spec := "refineOthers", unfollowed := true, recurses := true, plainKeys := false, apart := false, narrowed := true }
def RefineOthersUptoSaid : Prop := refineOthersUptoRow.holds Try.pinned (OpenSpec.upto refineOthersSpec)

/-- 'lineallaw05.RefineComposed', WHERE WHAT IT READS IS OF BULK AT MOST 1048576: true; the input reads as it did. -/
def refineComposedUptoRow : OpenClaim := { program := "ytifleoceebaooaa", sum := "a196c53c5df84da75a839ec077864cc6415df3c36f57bfd0c883717ee609a055", func := "lineal/lineallaw05.RefineComposed", spec := "refineComposed", unfollowed := true, recurses := true, plainKeys := false, apart := false, narrowed := true }
def RefineComposedUptoSaid : Prop := refineComposedUptoRow.holds Try.pinned (OpenSpec.upto refineComposedSpec)

/-- 'lineallaw05.RefineBest', WHERE WHAT IT READS IS OF BULK AT MOST 1048576: true; the input reads as it did. -/
def refineBestUptoRow : OpenClaim := { program := "ytifleoceebaooaa", sum := "a196c53c5df84da75a839ec077864cc6415df3c36f57bfd0c883717ee609a055", func := "lineal/lineallaw05.RefineBest", spec := "refineBest", unfollowed := true, recurses := true, plainKeys := false, apart := false, narrowed := true }
def RefineBestUptoSaid : Prop := refineBestUptoRow.holds Try.pinned (OpenSpec.upto refineBestSpec)

/-- 'lineallaw05.RefineChains', WHERE WHAT IT READS IS OF BULK AT MOST 1048576: true; the input reads as it did. -/
def refineChainsUptoRow : OpenClaim := { program := "ytifleoceebaooaa", sum := "a196c53c5df84da75a839ec077864cc6415df3c36f57bfd0c883717ee609a055", func := "lineal/lineallaw05.RefineChains", spec := "refineChains", unfollowed := true, recurses := true, plainKeys := false, apart := false, narrowed := true }
def RefineChainsUptoSaid : Prop := refineChainsUptoRow.holds Try.pinned (OpenSpec.upto refineChainsSpec)

/-- 'lineallaw05.RefineSeen', WHERE WHAT IT READS IS OF BULK AT MOST 1048576: true; the input reads as it did. -/
def refineSeenUptoRow : OpenClaim := { program := "ytifleoceebaooaa", sum := "a196c53c5df84da75a839ec077864cc6415df3c36f57bfd0c883717ee609a055", func := "lineal/lineallaw05.RefineSeen", spec := "refineSeen", unfollowed := true, recurses := true, plainKeys := false, apart := false, narrowed := true }
def RefineSeenUptoSaid : Prop := refineSeenUptoRow.holds Try.pinned (OpenSpec.upto refineSeenSpec)

/-- 'lineallaw05.RefineTells', WHERE WHAT IT READS IS OF BULK AT MOST 1048576: true; the input reads as it did. -/
def refineTellsUptoRow : OpenClaim := { program := "ytifleoceebaooaa", sum := "a196c53c5df84da75a839ec077864cc6415df3c36f57bfd0c883717ee609a055", func := "lineal/lineallaw05.RefineTells", spec := "refineTells", unfollowed := true, recurses := true, plainKeys := false, apart := false, narrowed := true }
def RefineTellsUptoSaid : Prop := refineTellsUptoRow.holds Try.pinned (OpenSpec.upto refineTellsSpec)

/-- 'lineallaw05.RefineHides', WHERE WHAT IT READS IS OF BULK AT MOST 1048576: true; the input reads as it did. -/
def refineHidesUptoRow : OpenClaim := { program := "ytifleoceebaooaa", sum := "a196c53c5df84da75a839ec077864cc6415df3c36f57bfd0c883717ee609a055", func := "lineal/lineallaw05.RefineHides", spec := "refineHides", unfollowed := true, recurses := true, plainKeys := false, apart := false, narrowed := true }
def RefineHidesUptoSaid : Prop := refineHidesUptoRow.holds Try.pinned (OpenSpec.upto refineHidesSpec)

/-- 'lineallaw05.RefineBoth', WHERE WHAT IT READS IS OF BULK AT MOST 1048576: true; the input reads as it did. -/
def refineBothUptoRow : OpenClaim := { program := "ytifleoceebaooaa", sum := "a196c53c5df84da75a839ec077864cc6415df3c36f57bfd0c883717ee609a055", func := "lineal/lineallaw05.RefineBoth", spec := "refineBoth", unfollowed := true, recurses := true, plainKeys := false, apart := false, narrowed := true }
def RefineBothUptoSaid : Prop := refineBothUptoRow.holds Try.pinned (OpenSpec.upto refineBothSpec)

/-- 'linealtop.TopRefine', WHERE WHAT IT READS IS OF BULK AT MOST 1048576: true; the input reads as it did. -/
def topRefineUptoRow : OpenClaim := { program := "ytifleoceebaooaa", sum := "a196c53c5df84da75a839ec077864cc6415df3c36f57bfd0c883717ee609a055", func := "lineal/linealtop.TopRefine", spec := "topRefine", unfollowed := true, recurses := true, plainKeys := false, apart := false, narrowed := true }
def TopRefineUptoSaid : Prop := topRefineUptoRow.holds Try.pinned (OpenSpec.upto topRefineSpec)

end Rows
end Go.Proofs.Ytifleoceebaooaa
