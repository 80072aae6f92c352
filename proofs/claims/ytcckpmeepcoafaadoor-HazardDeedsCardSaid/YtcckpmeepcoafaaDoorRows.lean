/-
  NARROWER THAN 'FOR EVERY INPUT', by the rows' own cells (each row's printed sentence says how): HazardDeeds: laid · HazardAsks: laid · HazardPlays: laid · HazardSafes: laid · HazardLists: laid · HazardEnds: laid · HazardCopies: laid · HazardNils: laid · TopHazard: laid.
  DERIVED. THE GIVEN ROWS OF THIS SEAT. 9 by the template 'for every input the law returns true; each argument reads behind the call as it read before'; 0 by the template 'total and deterministic' (their statements: YtcckpmeepcoafaaDoorTotals.lean).
  GIVEN WITH THE SEED: the statements are not yours to turn. If you find one false, say at which input.
  Laid BY PROGRAM, IN A SANDBOX (cutbox-rows.mjs): the forced cells as the released guide's own fill.sh prints them over the translation 8a9f800daa034130… (all of the seat's roots in one cut). By AI agents, Wed Nov 11 2026. No macro, syntax, notation, axiom, sorry.
-/
import Derived.Test.YtcckpmeepcoafaaDoorChecked
import GoSem.Claim
import GoSem.ClaimJoined
import GoSem.ClaimMapViews
import Derived.JoinedTies
import Derived.KernelRfl
namespace Go.Proofs.YtcckpmeepcoafaaDoor
/- THE CELL 'sum', in the pinned program and in every row, IS THE sha256 OF THE DUMP (.gsa) THAT YtcckpmeepcoafaaDoorProg.lean LOADS. Nothing in Lean hashes anything: it is a label: what it is worth is what the hold of that sum in a sandbox is worth. -/
noncomputable def Tryd.pinned : Pinned := { name := "ytcckpmeepcoafaadoor", sum := "8a9f800daa0341303cb7b79b3b486d71a96ef2113496a53798958c39f54d59d8", checked := Tryd.checked }
namespace Rows
def none {H : Type} : Left H := { results := [], args := [] }

/- WHAT THE LISTED PACKAGE-LEVEL VARIABLES READ AS WHEN THE CALL BEGINS. Each datum BY PROGRAM (the guide's laid-datum.mjs) off the statement by which the dump's own 'gosem.cut.vars' lays the variable. In a bare row this is a premise. The card (YtcckpmeepcoafaaDoorCards.lean) ties it to the program's text. -/
def laid_lineal_hazard_fields {H : Type} : DataW H := .agg [.lit (.int .i64 0), .lit (.int .i64 1), .lit (.int .i64 3), .lit (.int .i64 2), .lit (.int .i64 2), .lit (.int .i64 1), .lit (.int .i64 2)]

/-- 'lineallaw06.HazardDeeds': WHATEVER THE INPUT: true; the input reads as it did. -/
def hazardDeedsSpec : ChangeSpec := { name := "hazardDeeds", fn := fun _ => fun
  | [d1, d2, d3] => { results := [.lit (.bool true)], args := [d1, d2, d3] }
  | _ => none }
def hazardDeedsRow : OpenClaim := { program := "ytcckpmeepcoafaadoor", sum := "8a9f800daa0341303cb7b79b3b486d71a96ef2113496a53798958c39f54d59d8", func := "lineal/lineallaw06.HazardDeeds", spec := "hazardDeeds", unfollowed := true, recurses := true, named := ["lineal/hazard.fields"], apart := false, laid := [("lineal/hazard.fields", laid_lineal_hazard_fields)] }
def HazardDeedsSaid : Prop := hazardDeedsRow.holds Tryd.pinned (OpenSpec.ofChange hazardDeedsSpec)

/-- ITS FALSE NEIGHBOUR: 'it returns false'. Refute it at one input. -/
def hazardDeedsWrong : ChangeSpec := { name := "hazardDeeds", fn := fun _ => fun
  | [d1, d2, d3] => { results := [.lit (.bool false)], args := [d1, d2, d3] }
  | _ => none }
def HazardDeedsWrongFalsely : Prop := hazardDeedsRow.holds Tryd.pinned (OpenSpec.ofChange hazardDeedsWrong)

/-- 'lineallaw06.HazardAsks': WHATEVER THE INPUT: true; the input reads as it did. -/
def hazardAsksSpec : ChangeSpec := { name := "hazardAsks", fn := fun _ => fun
  | [d1, d2, d3] => { results := [.lit (.bool true)], args := [d1, d2, d3] }
  | _ => none }
def hazardAsksRow : OpenClaim := { program := "ytcckpmeepcoafaadoor", sum := "8a9f800daa0341303cb7b79b3b486d71a96ef2113496a53798958c39f54d59d8", func := "lineal/lineallaw06.HazardAsks", spec := "hazardAsks", unfollowed := true, recurses := true, named := ["lineal/hazard.fields"], apart := false, laid := [("lineal/hazard.fields", laid_lineal_hazard_fields)] }
def HazardAsksSaid : Prop := hazardAsksRow.holds Tryd.pinned (OpenSpec.ofChange hazardAsksSpec)

/-- ITS FALSE NEIGHBOUR: 'it returns false'. Refute it at one input. -/
def hazardAsksWrong : ChangeSpec := { name := "hazardAsks", fn := fun _ => fun
  | [d1, d2, d3] => { results := [.lit (.bool false)], args := [d1, d2, d3] }
  | _ => none }
def HazardAsksWrongFalsely : Prop := hazardAsksRow.holds Tryd.pinned (OpenSpec.ofChange hazardAsksWrong)

/-- 'lineallaw06.HazardPlays': WHATEVER THE INPUT: true; the input reads as it did. -/
def hazardPlaysSpec : ChangeSpec := { name := "hazardPlays", fn := fun _ => fun
  | [d1, d2, d3] => { results := [.lit (.bool true)], args := [d1, d2, d3] }
  | _ => none }
def hazardPlaysRow : OpenClaim := { program := "ytcckpmeepcoafaadoor", sum := "8a9f800daa0341303cb7b79b3b486d71a96ef2113496a53798958c39f54d59d8", func := "lineal/lineallaw06.HazardPlays", spec := "hazardPlays", unfollowed := true, recurses := true, named := ["lineal/hazard.fields"], apart := false, laid := [("lineal/hazard.fields", laid_lineal_hazard_fields)] }
def HazardPlaysSaid : Prop := hazardPlaysRow.holds Tryd.pinned (OpenSpec.ofChange hazardPlaysSpec)

/-- ITS FALSE NEIGHBOUR: 'it returns false'. Refute it at one input. -/
def hazardPlaysWrong : ChangeSpec := { name := "hazardPlays", fn := fun _ => fun
  | [d1, d2, d3] => { results := [.lit (.bool false)], args := [d1, d2, d3] }
  | _ => none }
def HazardPlaysWrongFalsely : Prop := hazardPlaysRow.holds Tryd.pinned (OpenSpec.ofChange hazardPlaysWrong)

/-- 'lineallaw06.HazardSafes': WHATEVER THE INPUT: true; the input reads as it did. -/
def hazardSafesSpec : ChangeSpec := { name := "hazardSafes", fn := fun _ => fun
  | [d1, d2] => { results := [.lit (.bool true)], args := [d1, d2] }
  | _ => none }
def hazardSafesRow : OpenClaim := { program := "ytcckpmeepcoafaadoor", sum := "8a9f800daa0341303cb7b79b3b486d71a96ef2113496a53798958c39f54d59d8", func := "lineal/lineallaw06.HazardSafes", spec := "hazardSafes", unfollowed := true, recurses := true, named := ["lineal/hazard.fields"], apart := false, laid := [("lineal/hazard.fields", laid_lineal_hazard_fields)] }
def HazardSafesSaid : Prop := hazardSafesRow.holds Tryd.pinned (OpenSpec.ofChange hazardSafesSpec)

/-- ITS FALSE NEIGHBOUR: 'it returns false'. Refute it at one input. -/
def hazardSafesWrong : ChangeSpec := { name := "hazardSafes", fn := fun _ => fun
  | [d1, d2] => { results := [.lit (.bool false)], args := [d1, d2] }
  | _ => none }
def HazardSafesWrongFalsely : Prop := hazardSafesRow.holds Tryd.pinned (OpenSpec.ofChange hazardSafesWrong)

/-- 'lineallaw06.HazardLists': WHATEVER THE INPUT: true; the input reads as it did. -/
def hazardListsSpec : ChangeSpec := { name := "hazardLists", fn := fun _ => fun
  | [d1, d2] => { results := [.lit (.bool true)], args := [d1, d2] }
  | _ => none }
def hazardListsRow : OpenClaim := { program := "ytcckpmeepcoafaadoor", sum := "8a9f800daa0341303cb7b79b3b486d71a96ef2113496a53798958c39f54d59d8", func := "lineal/lineallaw06.HazardLists", spec := "hazardLists", unfollowed := true, recurses := true, named := ["lineal/hazard.fields"], apart := false, laid := [("lineal/hazard.fields", laid_lineal_hazard_fields)] }
def HazardListsSaid : Prop := hazardListsRow.holds Tryd.pinned (OpenSpec.ofChange hazardListsSpec)

/-- ITS FALSE NEIGHBOUR: 'it returns false'. Refute it at one input. -/
def hazardListsWrong : ChangeSpec := { name := "hazardLists", fn := fun _ => fun
  | [d1, d2] => { results := [.lit (.bool false)], args := [d1, d2] }
  | _ => none }
def HazardListsWrongFalsely : Prop := hazardListsRow.holds Tryd.pinned (OpenSpec.ofChange hazardListsWrong)

/-- 'lineallaw06.HazardEnds': WHATEVER THE INPUT: true; the input reads as it did. -/
def hazardEndsSpec : ChangeSpec := { name := "hazardEnds", fn := fun _ => fun
  | [d1, d2] => { results := [.lit (.bool true)], args := [d1, d2] }
  | _ => none }
def hazardEndsRow : OpenClaim := { program := "ytcckpmeepcoafaadoor", sum := "8a9f800daa0341303cb7b79b3b486d71a96ef2113496a53798958c39f54d59d8", func := "lineal/lineallaw06.HazardEnds", spec := "hazardEnds", unfollowed := true, recurses := true, named := ["lineal/hazard.fields"], apart := false, laid := [("lineal/hazard.fields", laid_lineal_hazard_fields)] }
def HazardEndsSaid : Prop := hazardEndsRow.holds Tryd.pinned (OpenSpec.ofChange hazardEndsSpec)

/-- ITS FALSE NEIGHBOUR: 'it returns false'. Refute it at one input. -/
def hazardEndsWrong : ChangeSpec := { name := "hazardEnds", fn := fun _ => fun
  | [d1, d2] => { results := [.lit (.bool false)], args := [d1, d2] }
  | _ => none }
def HazardEndsWrongFalsely : Prop := hazardEndsRow.holds Tryd.pinned (OpenSpec.ofChange hazardEndsWrong)

/-- 'lineallaw06.HazardCopies': WHATEVER THE INPUT: true; the input reads as it did. -/
def hazardCopiesSpec : ChangeSpec := { name := "hazardCopies", fn := fun _ => fun
  | [d1, d2, d3] => { results := [.lit (.bool true)], args := [d1, d2, d3] }
  | _ => none }
def hazardCopiesRow : OpenClaim := { program := "ytcckpmeepcoafaadoor", sum := "8a9f800daa0341303cb7b79b3b486d71a96ef2113496a53798958c39f54d59d8", func := "lineal/lineallaw06.HazardCopies", spec := "hazardCopies", unfollowed := true, recurses := true, named := ["lineal/hazard.fields"], apart := false, laid := [("lineal/hazard.fields", laid_lineal_hazard_fields)] }
def HazardCopiesSaid : Prop := hazardCopiesRow.holds Tryd.pinned (OpenSpec.ofChange hazardCopiesSpec)

/-- ITS FALSE NEIGHBOUR: 'it returns false'. Refute it at one input. -/
def hazardCopiesWrong : ChangeSpec := { name := "hazardCopies", fn := fun _ => fun
  | [d1, d2, d3] => { results := [.lit (.bool false)], args := [d1, d2, d3] }
  | _ => none }
def HazardCopiesWrongFalsely : Prop := hazardCopiesRow.holds Tryd.pinned (OpenSpec.ofChange hazardCopiesWrong)

/-- 'lineallaw06.HazardNils': WHATEVER THE INPUT: true; the input reads as it did. -/
def hazardNilsSpec : ChangeSpec := { name := "hazardNils", fn := fun _ => fun
  | [d] => { results := [.lit (.bool true)], args := [d] }
  | _ => none }
def hazardNilsRow : OpenClaim := { program := "ytcckpmeepcoafaadoor", sum := "8a9f800daa0341303cb7b79b3b486d71a96ef2113496a53798958c39f54d59d8", func := "lineal/lineallaw06.HazardNils", spec := "hazardNils", unfollowed := true, recurses := true, named := ["lineal/hazard.fields"], apart := false, laid := [("lineal/hazard.fields", laid_lineal_hazard_fields)] }
def HazardNilsSaid : Prop := hazardNilsRow.holds Tryd.pinned (OpenSpec.ofChange hazardNilsSpec)

/-- ITS FALSE NEIGHBOUR: 'it returns false'. Refute it at one input. -/
def hazardNilsWrong : ChangeSpec := { name := "hazardNils", fn := fun _ => fun
  | [d] => { results := [.lit (.bool false)], args := [d] }
  | _ => none }
def HazardNilsWrongFalsely : Prop := hazardNilsRow.holds Tryd.pinned (OpenSpec.ofChange hazardNilsWrong)

/-- 'linealtop.TopHazard': WHATEVER THE INPUT: true; the input reads as it did. -/
def topHazardSpec : ChangeSpec := { name := "topHazard", fn := fun _ => fun
  | [d1, d2] => { results := [.lit (.bool true)], args := [d1, d2] }
  | _ => none }
def topHazardRow : OpenClaim := { program := "ytcckpmeepcoafaadoor", sum := "8a9f800daa0341303cb7b79b3b486d71a96ef2113496a53798958c39f54d59d8", func := "lineal/linealtop.TopHazard", spec := "topHazard", unfollowed := true, recurses := true, named := ["lineal/hazard.fields"], apart := false, laid := [("lineal/hazard.fields", laid_lineal_hazard_fields)] }
def TopHazardSaid : Prop := topHazardRow.holds Tryd.pinned (OpenSpec.ofChange topHazardSpec)

/-- ITS FALSE NEIGHBOUR: 'it returns false'. Refute it at one input. -/
def topHazardWrong : ChangeSpec := { name := "topHazard", fn := fun _ => fun
  | [d1, d2] => { results := [.lit (.bool false)], args := [d1, d2] }
  | _ => none }
def TopHazardWrongFalsely : Prop := topHazardRow.holds Tryd.pinned (OpenSpec.ofChange topHazardWrong)

/- THE SECOND FORM. 'bulk': how many values and letters a reading holds, each counted each time it is reached (what is shared counts as often as it is met; a slice's spare places count too). A statement '..UptoSaid' is the law's where the arguments, and the package variables that the reading takes, are together of bulk at most 1048576: NARROWER than '..Said'. Prove '..Said' where nothing that the law and all that it calls make is longer than what came in: it says more and counts as full. Else prove '..UptoSaid'. A law counts once. -/
mutual
def uptoBulk {H : Type} : DataW H → Nat
  | .lit (.string bytes) => bytes.length + 1
  | .lit _ => 1
  | .nil => 1
  | .ptr d => uptoBulk d + 1
  | .slice elems spare => uptoBulkAll elems + uptoBulkAll spare + 1
  | .agg parts => uptoBulkAll parts + 1
  | .iface _ d => uptoBulk d + 1
  | .map entries => uptoBulkEntries entries + 1
  | .held _ => 1
def uptoBulkAll {H : Type} : List (DataW H) → Nat
  | [] => 0
  | d :: r => uptoBulk d + uptoBulkAll r
def uptoBulkEntries {H : Type} : List (Lit × DataW H) → Nat
  | [] => 0
  | x :: r => uptoBulkEntry x + uptoBulkEntries r
def uptoBulkEntry {H : Type} : Lit × DataW H → Nat
  | (.string bytes, d) => bytes.length + uptoBulk d + 1
  | (_, d) => uptoBulk d + 1
 end
def uptoSmall : (H : Type) → List (DataW H) → Bool := fun _ ds => decide (uptoBulkAll ds ≤ 1048576)
def OpenSpec.upto (s : _root_.Go.ChangeSpec) : _root_.Go.OpenSpec := { _root_.Go.OpenSpec.ofChange s with cond := some uptoSmall }

/-- 'lineallaw06.HazardDeeds', WHERE WHAT IT READS IS OF BULK AT MOST 1048576: true; the input reads as it did. -/
def hazardDeedsUptoRow : OpenClaim := { program := "ytcckpmeepcoafaadoor", sum := "8a9f800daa0341303cb7b79b3b486d71a96ef2113496a53798958c39f54d59d8", func := "lineal/lineallaw06.HazardDeeds", spec := "hazardDeeds", unfollowed := true, recurses := true, named := ["lineal/hazard.fields"], apart := false, laid := [("lineal/hazard.fields", laid_lineal_hazard_fields)], narrowed := true }
def HazardDeedsUptoSaid : Prop := hazardDeedsUptoRow.holds Tryd.pinned (OpenSpec.upto hazardDeedsSpec)

/-- 'lineallaw06.HazardAsks', WHERE WHAT IT READS IS OF BULK AT MOST 1048576: true; the input reads as it did. -/
def hazardAsksUptoRow : OpenClaim := { program := "ytcckpmeepcoafaadoor", sum := "8a9f800daa0341303cb7b79b3b486d71a96ef2113496a53798958c39f54d59d8", func := "lineal/lineallaw06.HazardAsks", spec := "hazardAsks", unfollowed := true, recurses := true, named := ["lineal/hazard.fields"], apart := false, laid := [("lineal/hazard.fields", laid_lineal_hazard_fields)], narrowed := true }
def HazardAsksUptoSaid : Prop := hazardAsksUptoRow.holds Tryd.pinned (OpenSpec.upto hazardAsksSpec)

/-- 'lineallaw06.HazardPlays', WHERE WHAT IT READS IS OF BULK AT MOST 1048576: true; the input reads as it did. -/
def hazardPlaysUptoRow : OpenClaim := { program := "ytcckpmeepcoafaadoor", sum := "8a9f800daa0341303cb7b79b3b486d71a96ef2113496a53798958c39f54d59d8", func := "lineal/lineallaw06.HazardPlays", spec := "hazardPlays", unfollowed := true, recurses := true, named := ["lineal/hazard.fields"], apart := false, laid := [("lineal/hazard.fields", laid_lineal_hazard_fields)], narrowed := true }
def HazardPlaysUptoSaid : Prop := hazardPlaysUptoRow.holds Tryd.pinned (OpenSpec.upto hazardPlaysSpec)

/-- 'lineallaw06.HazardSafes', WHERE WHAT IT READS IS OF BULK AT MOST 1048576: true; the input reads as it did. -/
def hazardSafesUptoRow : OpenClaim := { program := "ytcckpmeepcoafaadoor", sum := "8a9f800daa0341303cb7b79b3b486d71a96ef2113496a53798958c39f54d59d8", func := "lineal/lineallaw06.HazardSafes", spec := "hazardSafes", unfollowed := true, recurses := true, named := ["lineal/hazard.fields"], apart := false, laid := [("lineal/hazard.fields", laid_lineal_hazard_fields)], narrowed := true }
def HazardSafesUptoSaid : Prop := hazardSafesUptoRow.holds Tryd.pinned (OpenSpec.upto hazardSafesSpec)

/-- 'lineallaw06.HazardLists', WHERE WHAT IT READS IS OF BULK AT MOST 1048576: true; the input reads as it did. -/
def hazardListsUptoRow : OpenClaim := { program := "ytcckpmeepcoafaadoor", sum := "8a9f800daa0341303cb7b79b3b486d71a96ef2113496a53798958c39f54d59d8", func := "lineal/lineallaw06.HazardLists", spec := "hazardLists", unfollowed := true, recurses := true, named := ["lineal/hazard.fields"], apart := false, laid := [("lineal/hazard.fields", laid_lineal_hazard_fields)], narrowed := true }
def HazardListsUptoSaid : Prop := hazardListsUptoRow.holds Tryd.pinned (OpenSpec.upto hazardListsSpec)

/-- 'lineallaw06.HazardEnds', WHERE WHAT IT READS IS OF BULK AT MOST 1048576: true; the input reads as it did. -/
def hazardEndsUptoRow : OpenClaim := { program := "ytcckpmeepcoafaadoor", sum := "8a9f800daa0341303cb7b79b3b486d71a96ef2113496a53798958c39f54d59d8", func := "lineal/lineallaw06.HazardEnds", spec := "hazardEnds", unfollowed := true, recurses := true, named := ["lineal/hazard.fields"], apart := false, laid := [("lineal/hazard.fields", laid_lineal_hazard_fields)], narrowed := true }
def HazardEndsUptoSaid : Prop := hazardEndsUptoRow.holds Tryd.pinned (OpenSpec.upto hazardEndsSpec)

/-- 'lineallaw06.HazardCopies', WHERE WHAT IT READS IS OF BULK AT MOST 1048576: true; the input reads as it did. -/
def hazardCopiesUptoRow : OpenClaim := { program := "ytcckpmeepcoafaadoor", sum := "8a9f800daa0341303cb7b79b3b486d71a96ef2113496a53798958c39f54d59d8", func := "lineal/lineallaw06.HazardCopies", spec := "hazardCopies", unfollowed := true, recurses := true, named := ["lineal/hazard.fields"], apart := false, laid := [("lineal/hazard.fields", laid_lineal_hazard_fields)], narrowed := true }
def HazardCopiesUptoSaid : Prop := hazardCopiesUptoRow.holds Tryd.pinned (OpenSpec.upto hazardCopiesSpec)

/-- 'lineallaw06.HazardNils', WHERE WHAT IT READS IS OF BULK AT MOST 1048576: true; the input reads as it did. -/
def hazardNilsUptoRow : OpenClaim := { program := "ytcckpmeepcoafaadoor", sum := "8a9f800daa0341303cb7b79b3b486d71a96ef2113496a53798958c39f54d59d8", func := "lineal/lineallaw06.HazardNils", spec := "hazardNils", unfollowed := true, recurses := true, named := ["lineal/hazard.fields"], apart := false, laid := [("lineal/hazard.fields", laid_lineal_hazard_fields)], narrowed := true }
def HazardNilsUptoSaid : Prop := hazardNilsUptoRow.holds Tryd.pinned (OpenSpec.upto hazardNilsSpec)

/-- 'linealtop.TopHazard', WHERE WHAT IT READS IS OF BULK AT MOST 1048576: true; the input reads as it did. -/
def topHazardUptoRow : OpenClaim := { program := "ytcckpmeepcoafaadoor", sum := "8a9f800daa0341303cb7b79b3b486d71a96ef2113496a53798958c39f54d59d8", func := "lineal/linealtop.TopHazard", spec := "topHazard", unfollowed := true, recurses := true, named := ["lineal/hazard.fields"], apart := false, laid := [("lineal/hazard.fields", laid_lineal_hazard_fields)], narrowed := true }
def TopHazardUptoSaid : Prop := topHazardUptoRow.holds Tryd.pinned (OpenSpec.upto topHazardSpec)

end Rows
end Go.Proofs.YtcckpmeepcoafaaDoor
