/-
  No cell of these rows narrows 'for every input' (looked for: loops, veiled, ifaces, maps, wideKeys, modest, calm, conditions, laid).
  DERIVED. THE GIVEN ROWS OF THIS SEAT. 4 by the template 'for every input the law returns true; each argument reads behind the call as it read before'; 0 by the template 'total and deterministic' (their statements: YtanaeefeggokkaaGreatTotals.lean).
  GIVEN WITH THE SEED: the statements are not yours to turn. If you find one false, say at which input.
  Laid BY PROGRAM, IN A SANDBOX (cutbox-rows.mjs): the forced cells as the released guide's own fill.sh prints them over the translation 995d4e2daa85d056… (all of the seat's roots in one cut). By AI agents, Wed Nov 11 2026. No macro, syntax, notation, axiom, sorry.
-/
import Derived.Test.YtanaeefeggokkaaGreatChecked
import GoSem.Claim
import GoSem.ClaimJoined
import GoSem.ClaimMapViews
import Derived.JoinedTies
import Derived.KernelRfl
namespace Go.Proofs.YtanaeefeggokkaaGreat
/- THE CELL 'sum', in the pinned program and in every row, IS THE sha256 OF THE DUMP (.gsa) THAT YtanaeefeggokkaaGreatProg.lean LOADS. Nothing in Lean hashes anything: it is a label: what it is worth is what the hold of that sum in a sandbox is worth. -/
noncomputable def Tryz.pinned : Pinned := { name := "ytanaeefeggokkaagreat", sum := "995d4e2daa85d056f83b0208d37962fd25a41236f917a25f57fad6b2720e32ee", checked := Tryz.checked }
namespace Rows
def none {H : Type} : Left H := { results := [], args := [] }

/-- 'lineallaw08.CodeSounds': WHATEVER THE INPUT: true; the input reads as it did. -/
def codeSoundsSpec : ChangeSpec := { name := "codeSounds", fn := fun _ => fun
  | [d1, d2] => { results := [.lit (.bool true)], args := [d1, d2] }
  | _ => none }
def codeSoundsRow : OpenClaim := { program := "ytanaeefeggokkaagreat", sum := "995d4e2daa85d056f83b0208d37962fd25a41236f917a25f57fad6b2720e32ee", func := "lineal/lineallaw08.CodeSounds", spec := "codeSounds", unfollowed := true, recurses := true, plainKeys := false, apart := false }
def CodeSoundsSaid : Prop := codeSoundsRow.holds Tryz.pinned (OpenSpec.ofChange codeSoundsSpec)

/-- ITS FALSE NEIGHBOUR: 'it returns false'. Refute it at one input. -/
def codeSoundsWrong : ChangeSpec := { name := "codeSounds", fn := fun _ => fun
  | [d1, d2] => { results := [.lit (.bool false)], args := [d1, d2] }
  | _ => none }
def CodeSoundsWrongFalsely : Prop := codeSoundsRow.holds Tryz.pinned (OpenSpec.ofChange codeSoundsWrong)

/-- 'lineallaw08.CodeBreaks': WHATEVER THE INPUT: true; the input reads as it did. -/
def codeBreaksSpec : ChangeSpec := { name := "codeBreaks", fn := fun _ => fun
  | [d1, d2, d3] => { results := [.lit (.bool true)], args := [d1, d2, d3] }
  | _ => none }
def codeBreaksRow : OpenClaim := { program := "ytanaeefeggokkaagreat", sum := "995d4e2daa85d056f83b0208d37962fd25a41236f917a25f57fad6b2720e32ee", func := "lineal/lineallaw08.CodeBreaks", spec := "codeBreaks", unfollowed := true, recurses := true, plainKeys := false, apart := false }
def CodeBreaksSaid : Prop := codeBreaksRow.holds Tryz.pinned (OpenSpec.ofChange codeBreaksSpec)

/-- ITS FALSE NEIGHBOUR: 'it returns false'. Refute it at one input. -/
def codeBreaksWrong : ChangeSpec := { name := "codeBreaks", fn := fun _ => fun
  | [d1, d2, d3] => { results := [.lit (.bool false)], args := [d1, d2, d3] }
  | _ => none }
def CodeBreaksWrongFalsely : Prop := codeBreaksRow.holds Tryz.pinned (OpenSpec.ofChange codeBreaksWrong)

/-- 'lineallaw08.CodeProves': WHATEVER THE INPUT: true; the input reads as it did. -/
def codeProvesSpec : ChangeSpec := { name := "codeProves", fn := fun _ => fun
  | [d1, d2, d3] => { results := [.lit (.bool true)], args := [d1, d2, d3] }
  | _ => none }
def codeProvesRow : OpenClaim := { program := "ytanaeefeggokkaagreat", sum := "995d4e2daa85d056f83b0208d37962fd25a41236f917a25f57fad6b2720e32ee", func := "lineal/lineallaw08.CodeProves", spec := "codeProves", unfollowed := true, recurses := true, plainKeys := false, apart := false }
def CodeProvesSaid : Prop := codeProvesRow.holds Tryz.pinned (OpenSpec.ofChange codeProvesSpec)

/-- ITS FALSE NEIGHBOUR: 'it returns false'. Refute it at one input. -/
def codeProvesWrong : ChangeSpec := { name := "codeProves", fn := fun _ => fun
  | [d1, d2, d3] => { results := [.lit (.bool false)], args := [d1, d2, d3] }
  | _ => none }
def CodeProvesWrongFalsely : Prop := codeProvesRow.holds Tryz.pinned (OpenSpec.ofChange codeProvesWrong)

/-- 'linealtop.TopCode': WHATEVER THE INPUT: true; the input reads as it did. -/
def topCodeSpec : ChangeSpec := { name := "topCode", fn := fun _ => fun
  | [d1, d2, d3] => { results := [.lit (.bool true)], args := [d1, d2, d3] }
  | _ => none }
def topCodeRow : OpenClaim := { program := "ytanaeefeggokkaagreat", sum := "995d4e2daa85d056f83b0208d37962fd25a41236f917a25f57fad6b2720e32ee", func := "lineal/linealtop.TopCode", spec := "topCode", unfollowed := true, recurses := true, plainKeys := false, apart := false }
def TopCodeSaid : Prop := topCodeRow.holds Tryz.pinned (OpenSpec.ofChange topCodeSpec)

/-- ITS FALSE NEIGHBOUR: 'it returns false'. Refute it at one input. -/
def topCodeWrong : ChangeSpec := { name := "topCode", fn := fun _ => fun
  | [d1, d2, d3] => { results := [.lit (.bool false)], args := [d1, d2, d3] }
  | _ => none }
def TopCodeWrongFalsely : Prop := topCodeRow.holds Tryz.pinned (OpenSpec.ofChange topCodeWrong)

/- THE SECOND FORM. 'bulk': how many values and letters a reading holds, each counted each time it is reached (what is shared counts as often as it is met; a slice's spare places count too). A statement '..UptoSaid' is the law's where the arguments, and the package variables that the reading takes, are together of bulk at most 1048576: NARROWER than '..Said'. Prove '..Said' where nothing that the law and all that it calls make is longer than what came in: it says more and counts as full. Else prove '..UptoSaid'. A law counts once. -/
mutual
def uptoBulk {H : Type} : DataW H → Nat
  | .lit (.string bytes) => bytes.length + 1
  | .lit _ => 1
  | .nil => 1
  | .ptr d => uptoBulk d + 1
  | .slice elems spare => uptoBulkAll elems + uptoBulkAll spare + 1
  | .agg parts => uptoBulkAll parts + 1
  | .iface _ d => uptoBulk d + 1
  | .map entries => uptoBulkEntries entries + 1
  | .held _ => 1
def uptoBulkAll {H : Type} : List (DataW H) → Nat
  | [] => 0
  | d :: r => uptoBulk d + uptoBulkAll r
def uptoBulkEntries {H : Type} : List (Lit × DataW H) → Nat
  | [] => 0
  | x :: r => uptoBulkEntry x + uptoBulkEntries r
def uptoBulkEntry {H : Type} : Lit × DataW H → Nat
  | (.string bytes, d) => bytes.length + uptoBulk d + 1
  | (_, d) => uptoBulk d + 1
 end
def uptoSmall : (H : Type) → List (DataW H) → Bool := fun _ ds => decide (uptoBulkAll ds ≤ 1048576)
def OpenSpec.upto (s : _root_.Go.ChangeSpec) : _root_.Go.OpenSpec := { _root_.Go.OpenSpec.ofChange s with cond := some uptoSmall }

/-- 'lineallaw08.CodeSounds', WHERE WHAT IT READS IS OF BULK AT MOST 1048576: true; the input reads as it did. -/
def codeSoundsUptoRow : OpenClaim := { program := "ytanaeefeggokkaagreat", sum := "995d4e2daa85d056f83b0208d37962fd25a41236f917a25f57fad6b2720e32ee", func := "lineal/lineallaw08.CodeSounds", spec := "codeSounds", unfollowed := true, recurses := true, plainKeys := false, apart := false, narrowed := true }
def CodeSoundsUptoSaid : Prop := codeSoundsUptoRow.holds Tryz.pinned (OpenSpec.upto codeSoundsSpec)

/-- 'lineallaw08.CodeBreaks', WHERE WHAT IT READS IS OF BULK AT MOST 1048576: true; the input reads as it did. -/
def codeBreaksUptoRow : OpenClaim := { program := "ytanaeefeggokkaagreat", sum := "995d4e2daa85d056f83b0208d37962fd25a41236f917a25f57fad6b2720e32ee", func := "lineal/lineallaw08.CodeBreaks", spec := "codeBreaks", unfollowed := true, recurses := true, plainKeys := false, apart := false, narrowed := true }
def CodeBreaksUptoSaid : Prop := codeBreaksUptoRow.holds Tryz.pinned (OpenSpec.upto codeBreaksSpec)

/-- 'lineallaw08.CodeProves', WHERE WHAT IT READS IS OF BULK AT MOST 1048576: true; the input reads as it did. -/
def codeProvesUptoRow : OpenClaim := { program := "ytanaeefeggokkaagreat", sum := "995d4e2daa85d056f83b0208d37962fd25a41236f917a25f57fad6b2720e32ee", func := "lineal/lineallaw08.CodeProves", spec := "codeProves", unfollowed := true, recurses := true, plainKeys := false, apart := false, narrowed := true }
def CodeProvesUptoSaid : Prop := codeProvesUptoRow.holds Tryz.pinned (OpenSpec.upto codeProvesSpec)

/-- 'linealtop.TopCode', WHERE WHAT IT READS IS OF BULK AT MOST 1048576: true; the input reads as it did. -/
def topCodeUptoRow : OpenClaim := { program := "ytanaeefeggokkaagreat", sum := "995d4e2daa85d056f83b0208d37962fd25a41236f917a25f57fad6b2720e32ee", func := "lineal/linealtop.TopCode", spec := "topCode", unfollowed := true, recurses := true, plainKeys := false, apart := false, narrowed := true }
def TopCodeUptoSaid : Prop := topCodeUptoRow.holds Tryz.pinned (OpenSpec.upto topCodeSpec)

end Rows
end Go.Proofs.YtanaeefeggokkaaGreat
