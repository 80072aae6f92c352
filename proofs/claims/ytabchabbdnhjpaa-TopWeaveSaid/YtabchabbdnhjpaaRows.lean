/-
  No cell of these rows narrows 'for every input' (looked for: loops, veiled, ifaces, maps, wideKeys, modest, calm, conditions, laid).
  DERIVED. THE GIVEN ROWS OF THIS SEAT. 4 by the template 'for every input the law returns true; each argument reads behind the call as it read before'; 0 by the template 'total and deterministic' (their statements: YtabchabbdnhjpaaTotals.lean).
  GIVEN WITH THE SEED: the statements are not yours to turn. If you find one false, say at which input.
  Laid BY PROGRAM, IN A SANDBOX (cutbox-rows.mjs): the forced cells as the released guide's own fill.sh prints them over the translation b78a9f2c3c0dd616… (all of the seat's roots in one cut). By AI agents, Wed Nov 11 2026. No macro, syntax, notation, axiom, sorry.
-/
import Derived.Test.YtabchabbdnhjpaaChecked
import GoSem.Claim
import GoSem.ClaimJoined
import GoSem.ClaimMapViews
import Derived.JoinedTies
import Derived.KernelRfl
namespace Go.Proofs.Ytabchabbdnhjpaa
/- THE CELL 'sum', in the pinned program and in every row, IS THE sha256 OF THE DUMP (.gsa) THAT YtabchabbdnhjpaaProg.lean LOADS. Nothing in Lean hashes anything: it is a label: what it is worth is what the hold of that sum in a sandbox is worth. -/
noncomputable def Try.pinned : Pinned := { name := "ytabchabbdnhjpaa", sum := "b78a9f2c3c0dd61694f1a875e9cad8d0bc4e46ba508fb74e6ac0a9a34a029457", checked := Try.checked }
namespace Rows
def none {H : Type} : Left H := { results := [], args := [] }

/-- 'lineallaw03.WeaveForms': WHATEVER THE INPUT: true; the input reads as it did. -/
def weaveFormsSpec : ChangeSpec := { name := "weaveForms", fn := fun _ => fun
  | [d1, d2] => { results := [.lit (.bool true)], args := [d1, d2] }
  | _ => none }
def weaveFormsRow : OpenClaim := { program := "ytabchabbdnhjpaa", sum := "b78a9f2c3c0dd61694f1a875e9cad8d0bc4e46ba508fb74e6ac0a9a34a029457", func := "lineal/lineallaw03.WeaveForms", spec := "weaveForms", unfollowed := true, recurses := true, plainKeys := false, apart := false }
def WeaveFormsSaid : Prop := weaveFormsRow.holds Try.pinned (OpenSpec.ofChange weaveFormsSpec)

/-- ITS FALSE NEIGHBOUR: 'it returns false'. Refute it at one input. -/
def weaveFormsWrong : ChangeSpec := { name := "weaveForms", fn := fun _ => fun
  | [d1, d2] => { results := [.lit (.bool false)], args := [d1, d2] }
  | _ => none }
def WeaveFormsWrongFalsely : Prop := weaveFormsRow.holds Try.pinned (OpenSpec.ofChange weaveFormsWrong)

/-- 'lineallaw03.WeaveTells': WHATEVER THE INPUT: true; the input reads as it did. -/
def weaveTellsSpec : ChangeSpec := { name := "weaveTells", fn := fun _ => fun
  | [d1, d2, d3] => { results := [.lit (.bool true)], args := [d1, d2, d3] }
  | _ => none }
def weaveTellsRow : OpenClaim := { program := "ytabchabbdnhjpaa", sum := "b78a9f2c3c0dd61694f1a875e9cad8d0bc4e46ba508fb74e6ac0a9a34a029457", func := "lineal/lineallaw03.WeaveTells", spec := "weaveTells", unfollowed := true, recurses := true, plainKeys := false, apart := false }
def WeaveTellsSaid : Prop := weaveTellsRow.holds Try.pinned (OpenSpec.ofChange weaveTellsSpec)

/-- ITS FALSE NEIGHBOUR: 'it returns false'. Refute it at one input. -/
def weaveTellsWrong : ChangeSpec := { name := "weaveTells", fn := fun _ => fun
  | [d1, d2, d3] => { results := [.lit (.bool false)], args := [d1, d2, d3] }
  | _ => none }
def WeaveTellsWrongFalsely : Prop := weaveTellsRow.holds Try.pinned (OpenSpec.ofChange weaveTellsWrong)

/-- 'lineallaw03.WeaveLayers': WHATEVER THE INPUT: true; the input reads as it did. -/
def weaveLayersSpec : ChangeSpec := { name := "weaveLayers", fn := fun _ => fun
  | [d1, d2] => { results := [.lit (.bool true)], args := [d1, d2] }
  | _ => none }
def weaveLayersRow : OpenClaim := { program := "ytabchabbdnhjpaa", sum := "b78a9f2c3c0dd61694f1a875e9cad8d0bc4e46ba508fb74e6ac0a9a34a029457", func := "lineal/lineallaw03.WeaveLayers", spec := "weaveLayers", unfollowed := true, recurses := true, plainKeys := false, apart := false }
def WeaveLayersSaid : Prop := weaveLayersRow.holds Try.pinned (OpenSpec.ofChange weaveLayersSpec)

/-- ITS FALSE NEIGHBOUR: 'it returns false'. Refute it at one input. -/
def weaveLayersWrong : ChangeSpec := { name := "weaveLayers", fn := fun _ => fun
  | [d1, d2] => { results := [.lit (.bool false)], args := [d1, d2] }
  | _ => none }
def WeaveLayersWrongFalsely : Prop := weaveLayersRow.holds Try.pinned (OpenSpec.ofChange weaveLayersWrong)

/-- 'linealtop.TopWeave': WHATEVER THE INPUT: true; the input reads as it did. -/
def topWeaveSpec : ChangeSpec := { name := "topWeave", fn := fun _ => fun
  | [d1, d2, d3, d4] => { results := [.lit (.bool true)], args := [d1, d2, d3, d4] }
  | _ => none }
def topWeaveRow : OpenClaim := { program := "ytabchabbdnhjpaa", sum := "b78a9f2c3c0dd61694f1a875e9cad8d0bc4e46ba508fb74e6ac0a9a34a029457", func := "lineal/linealtop.TopWeave", spec := "topWeave", unfollowed := true, recurses := true, plainKeys := false, apart := false }
def TopWeaveSaid : Prop := topWeaveRow.holds Try.pinned (OpenSpec.ofChange topWeaveSpec)

/-- ITS FALSE NEIGHBOUR: 'it returns false'. Refute it at one input. -/
def topWeaveWrong : ChangeSpec := { name := "topWeave", fn := fun _ => fun
  | [d1, d2, d3, d4] => { results := [.lit (.bool false)], args := [d1, d2, d3, d4] }
  | _ => none }
def TopWeaveWrongFalsely : Prop := topWeaveRow.holds Try.pinned (OpenSpec.ofChange topWeaveWrong)

/- THE SECOND FORM. 'bulk': how many values and letters a reading holds, each counted each time it is reached (what is shared counts as often as it is met; a slice's spare places count too). A statement '..UptoSaid' is the law's where the arguments, and the package variables that the reading takes, are together of bulk at most 1048576: NARROWER than '..Said'. Prove '..Said' where nothing that the law and all that it calls make is longer than what came in: it says more and counts as full. Else prove '..UptoSaid'. A law counts once. -/
mutual
def uptoBulk {H : Type} : DataW H → Nat
  | .lit (.string bytes) => bytes.length + 1
  | .lit _ => 1
  | .nil => 1
  | .ptr d => uptoBulk d + 1
  | .slice elems spare => uptoBulkAll elems + uptoBulkAll spare + 1
  | .agg parts => uptoBulkAll parts + 1
  | .iface _ d => uptoBulk d + 1
  | .map entries => uptoBulkEntries entries + 1
  | .held _ => 1
def uptoBulkAll {H : Type} : List (DataW H) → Nat
  | [] => 0
  | d :: r => uptoBulk d + uptoBulkAll r
def uptoBulkEntries {H : Type} : List (Lit × DataW H) → Nat
  | [] => 0
  | x :: r => uptoBulkEntry x + uptoBulkEntries r
def uptoBulkEntry {H : Type} : Lit × DataW H → Nat
  | (.string bytes, d) => bytes.length + uptoBulk d + 1
  | (_, d) => uptoBulk d + 1
 end
def uptoSmall : (H : Type) → List (DataW H) → Bool := fun _ ds => decide (uptoBulkAll ds ≤ 1048576)
def OpenSpec.upto (s : _root_.Go.ChangeSpec) : _root_.Go.OpenSpec := { _root_.Go.OpenSpec.ofChange s with cond := some uptoSmall }

/-- 'lineallaw03.WeaveForms', WHERE WHAT IT READS IS OF BULK AT MOST 1048576: true; the input reads as it did. -/
def weaveFormsUptoRow : OpenClaim := { program := "ytabchabbdnhjpaa", sum := "b78a9f2c3c0dd61694f1a875e9cad8d0bc4e46ba508fb74e6ac0a9a34a029457", func := "lineal/lineallaw03.WeaveForms", spec := "weaveForms", unfollowed := true, recurses := true, plainKeys := false, apart := false, narrowed := true }
def WeaveFormsUptoSaid : Prop := weaveFormsUptoRow.holds Try.pinned (OpenSpec.upto weaveFormsSpec)

/-- 'lineallaw03.WeaveTells', WHERE WHAT IT READS IS OF BULK AT MOST 1048576: true; the input reads as it did. -/
def weaveTellsUptoRow : OpenClaim := { program := "ytabchabbdnhjpaa", sum := "b78a9f2c3c0dd61694f1a875e9cad8d0bc4e46ba508fb74e6ac0a9a34a029457", func := "lineal/lineallaw03.WeaveTells", spec := "weaveTells", unfollowed := true, recurses := true, plainKeys := false, apart := false, narrowed := true }
def WeaveTellsUptoSaid : Prop := weaveTellsUptoRow.holds Try.pinned (OpenSpec.upto weaveTellsSpec)

/-- 'lineallaw03.WeaveLayers', WHERE WHAT IT READS IS OF BULK AT MOST 1048576: true; the input reads as it did. -/
def weaveLayersUptoRow : OpenClaim := { program := "ytabchabbdnhjpaa", sum := "b78a9f2c3c0dd61694f1a875e9cad8d0bc4e46ba508fb74e6ac0a9a34a029457", func := "lineal/lineallaw03.WeaveLayers", spec := "weaveLayers", unfollowed := true, recurses := true, plainKeys := false, apart := false, narrowed := true }
def WeaveLayersUptoSaid : Prop := weaveLayersUptoRow.holds Try.pinned (OpenSpec.upto weaveLayersSpec)

/-- 'linealtop.TopWeave', WHERE WHAT IT READS IS OF BULK AT MOST 1048576: true; the input reads as it did. -/
def topWeaveUptoRow : OpenClaim := { program := "ytabchabbdnhjpaa", sum := "b78a9f2c3c0dd61694f1a875e9cad8d0bc4e46ba508fb74e6ac0a9a34a029457", func := "lineal/linealtop.TopWeave", spec := "topWeave", unfollowed := true, recurses := true, plainKeys := false, apart := false, narrowed := true }
def TopWeaveUptoSaid : Prop := topWeaveUptoRow.holds Try.pinned (OpenSpec.upto topWeaveSpec)

end Rows
end Go.Proofs.Ytabchabbdnhjpaa
