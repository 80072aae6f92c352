/-
  DERIVED. GIVEN WITH THE SEED: THE CARDS: each row of YtcckpmeepcoafaaDoorRows.lean that lists a variable, with what it lists TIED to the program's text (the seventh form; the later family's looks); each row that meets fmt, with fmt's text TOLD by the authors' own Lean function (tested against real Go, not proved from fmt's source: count such statements apart). THE CARD IS WHAT COUNTS. Prove the row's statement (the work); the ties are given (YtcckpmeepcoafaaDoorTie.lean); close each card by the builder's one call (the guide's Derived/Test/ToyasCard.lean, 'card_holds'). Laid BY PROGRAM, IN A SANDBOX (cutbox-door.mjs). By AI agents, Wed Nov 11 2026. No macro, syntax, notation, axiom, sorry.
-/
import Derived.Test.YtcckpmeepcoafaaDoorRows
import GoSem.ClaimSeven
namespace Go.Proofs.YtcckpmeepcoafaaDoor
namespace Rows

/-- THE TIED CARD OF 'lineallaw06.HazardDeeds'. -/
def hazardDeedsCard : Claim7 := { stood := { row := hazardDeedsRow, standIns := [], harness := (true, "765cf0a05cdeb711940df1bcff62a6eacb06a36c822aa3a986150de986b79334"), looks := false }, kinds := [], alts := [], laidByText := true, laidKinds := [.data], laidTests := true, laidLooks := .later }
def HazardDeedsCardSaid : Prop := Claim7.holds Tryd.pinned (.plain (OpenSpec.ofChange hazardDeedsSpec)) hazardDeedsCard

/-- THE TIED CARD OF 'lineallaw06.HazardAsks'. -/
def hazardAsksCard : Claim7 := { stood := { row := hazardAsksRow, standIns := [], harness := (true, "765cf0a05cdeb711940df1bcff62a6eacb06a36c822aa3a986150de986b79334"), looks := false }, kinds := [], alts := [], laidByText := true, laidKinds := [.data], laidTests := true, laidLooks := .later }
def HazardAsksCardSaid : Prop := Claim7.holds Tryd.pinned (.plain (OpenSpec.ofChange hazardAsksSpec)) hazardAsksCard

/-- THE TIED CARD OF 'lineallaw06.HazardPlays'. -/
def hazardPlaysCard : Claim7 := { stood := { row := hazardPlaysRow, standIns := [], harness := (true, "765cf0a05cdeb711940df1bcff62a6eacb06a36c822aa3a986150de986b79334"), looks := false }, kinds := [], alts := [], laidByText := true, laidKinds := [.data], laidTests := true, laidLooks := .later }
def HazardPlaysCardSaid : Prop := Claim7.holds Tryd.pinned (.plain (OpenSpec.ofChange hazardPlaysSpec)) hazardPlaysCard

/-- THE TIED CARD OF 'lineallaw06.HazardSafes'. -/
def hazardSafesCard : Claim7 := { stood := { row := hazardSafesRow, standIns := [], harness := (true, "765cf0a05cdeb711940df1bcff62a6eacb06a36c822aa3a986150de986b79334"), looks := false }, kinds := [], alts := [], laidByText := true, laidKinds := [.data], laidTests := true, laidLooks := .later }
def HazardSafesCardSaid : Prop := Claim7.holds Tryd.pinned (.plain (OpenSpec.ofChange hazardSafesSpec)) hazardSafesCard

/-- THE TIED CARD OF 'lineallaw06.HazardLists'. -/
def hazardListsCard : Claim7 := { stood := { row := hazardListsRow, standIns := [], harness := (true, "765cf0a05cdeb711940df1bcff62a6eacb06a36c822aa3a986150de986b79334"), looks := false }, kinds := [], alts := [], laidByText := true, laidKinds := [.data], laidTests := true, laidLooks := .later }
def HazardListsCardSaid : Prop := Claim7.holds Tryd.pinned (.plain (OpenSpec.ofChange hazardListsSpec)) hazardListsCard

/-- THE TIED CARD OF 'lineallaw06.HazardEnds'. -/
def hazardEndsCard : Claim7 := { stood := { row := hazardEndsRow, standIns := [], harness := (true, "765cf0a05cdeb711940df1bcff62a6eacb06a36c822aa3a986150de986b79334"), looks := false }, kinds := [], alts := [], laidByText := true, laidKinds := [.data], laidTests := true, laidLooks := .later }
def HazardEndsCardSaid : Prop := Claim7.holds Tryd.pinned (.plain (OpenSpec.ofChange hazardEndsSpec)) hazardEndsCard

/-- THE TIED CARD OF 'lineallaw06.HazardCopies'. -/
def hazardCopiesCard : Claim7 := { stood := { row := hazardCopiesRow, standIns := [], harness := (true, "765cf0a05cdeb711940df1bcff62a6eacb06a36c822aa3a986150de986b79334"), looks := false }, kinds := [], alts := [], laidByText := true, laidKinds := [.data], laidTests := true, laidLooks := .later }
def HazardCopiesCardSaid : Prop := Claim7.holds Tryd.pinned (.plain (OpenSpec.ofChange hazardCopiesSpec)) hazardCopiesCard

/-- THE TIED CARD OF 'lineallaw06.HazardNils'. -/
def hazardNilsCard : Claim7 := { stood := { row := hazardNilsRow, standIns := [], harness := (true, "765cf0a05cdeb711940df1bcff62a6eacb06a36c822aa3a986150de986b79334"), looks := false }, kinds := [], alts := [], laidByText := true, laidKinds := [.data], laidTests := true, laidLooks := .later }
def HazardNilsCardSaid : Prop := Claim7.holds Tryd.pinned (.plain (OpenSpec.ofChange hazardNilsSpec)) hazardNilsCard

/-- THE TIED CARD OF 'linealtop.TopHazard'. -/
def topHazardCard : Claim7 := { stood := { row := topHazardRow, standIns := [], harness := (true, "765cf0a05cdeb711940df1bcff62a6eacb06a36c822aa3a986150de986b79334"), looks := false }, kinds := [], alts := [], laidByText := true, laidKinds := [.data], laidTests := true, laidLooks := .later }
def TopHazardCardSaid : Prop := Claim7.holds Tryd.pinned (.plain (OpenSpec.ofChange topHazardSpec)) topHazardCard

/-- THE SECOND FORM's CARD OF 'lineallaw06.HazardDeeds'. -/
def hazardDeedsUptoCard : Claim7 := { stood := { row := hazardDeedsUptoRow, standIns := [], harness := (true, "765cf0a05cdeb711940df1bcff62a6eacb06a36c822aa3a986150de986b79334"), looks := false }, kinds := [], alts := [], laidByText := true, laidKinds := [.data], laidTests := true, laidLooks := .later }
def HazardDeedsUptoCardSaid : Prop := Claim7.holds Tryd.pinned (.plain (OpenSpec.upto hazardDeedsSpec)) hazardDeedsUptoCard

/-- THE SECOND FORM's CARD OF 'lineallaw06.HazardAsks'. -/
def hazardAsksUptoCard : Claim7 := { stood := { row := hazardAsksUptoRow, standIns := [], harness := (true, "765cf0a05cdeb711940df1bcff62a6eacb06a36c822aa3a986150de986b79334"), looks := false }, kinds := [], alts := [], laidByText := true, laidKinds := [.data], laidTests := true, laidLooks := .later }
def HazardAsksUptoCardSaid : Prop := Claim7.holds Tryd.pinned (.plain (OpenSpec.upto hazardAsksSpec)) hazardAsksUptoCard

/-- THE SECOND FORM's CARD OF 'lineallaw06.HazardPlays'. -/
def hazardPlaysUptoCard : Claim7 := { stood := { row := hazardPlaysUptoRow, standIns := [], harness := (true, "765cf0a05cdeb711940df1bcff62a6eacb06a36c822aa3a986150de986b79334"), looks := false }, kinds := [], alts := [], laidByText := true, laidKinds := [.data], laidTests := true, laidLooks := .later }
def HazardPlaysUptoCardSaid : Prop := Claim7.holds Tryd.pinned (.plain (OpenSpec.upto hazardPlaysSpec)) hazardPlaysUptoCard

/-- THE SECOND FORM's CARD OF 'lineallaw06.HazardSafes'. -/
def hazardSafesUptoCard : Claim7 := { stood := { row := hazardSafesUptoRow, standIns := [], harness := (true, "765cf0a05cdeb711940df1bcff62a6eacb06a36c822aa3a986150de986b79334"), looks := false }, kinds := [], alts := [], laidByText := true, laidKinds := [.data], laidTests := true, laidLooks := .later }
def HazardSafesUptoCardSaid : Prop := Claim7.holds Tryd.pinned (.plain (OpenSpec.upto hazardSafesSpec)) hazardSafesUptoCard

/-- THE SECOND FORM's CARD OF 'lineallaw06.HazardLists'. -/
def hazardListsUptoCard : Claim7 := { stood := { row := hazardListsUptoRow, standIns := [], harness := (true, "765cf0a05cdeb711940df1bcff62a6eacb06a36c822aa3a986150de986b79334"), looks := false }, kinds := [], alts := [], laidByText := true, laidKinds := [.data], laidTests := true, laidLooks := .later }
def HazardListsUptoCardSaid : Prop := Claim7.holds Tryd.pinned (.plain (OpenSpec.upto hazardListsSpec)) hazardListsUptoCard

/-- THE SECOND FORM's CARD OF 'lineallaw06.HazardEnds'. -/
def hazardEndsUptoCard : Claim7 := { stood := { row := hazardEndsUptoRow, standIns := [], harness := (true, "765cf0a05cdeb711940df1bcff62a6eacb06a36c822aa3a986150de986b79334"), looks := false }, kinds := [], alts := [], laidByText := true, laidKinds := [.data], laidTests := true, laidLooks := .later }
def HazardEndsUptoCardSaid : Prop := Claim7.holds Tryd.pinned (.plain (OpenSpec.upto hazardEndsSpec)) hazardEndsUptoCard

/-- THE SECOND FORM's CARD OF 'lineallaw06.HazardCopies'. -/
def hazardCopiesUptoCard : Claim7 := { stood := { row := hazardCopiesUptoRow, standIns := [], harness := (true, "765cf0a05cdeb711940df1bcff62a6eacb06a36c822aa3a986150de986b79334"), looks := false }, kinds := [], alts := [], laidByText := true, laidKinds := [.data], laidTests := true, laidLooks := .later }
def HazardCopiesUptoCardSaid : Prop := Claim7.holds Tryd.pinned (.plain (OpenSpec.upto hazardCopiesSpec)) hazardCopiesUptoCard

/-- THE SECOND FORM's CARD OF 'lineallaw06.HazardNils'. -/
def hazardNilsUptoCard : Claim7 := { stood := { row := hazardNilsUptoRow, standIns := [], harness := (true, "765cf0a05cdeb711940df1bcff62a6eacb06a36c822aa3a986150de986b79334"), looks := false }, kinds := [], alts := [], laidByText := true, laidKinds := [.data], laidTests := true, laidLooks := .later }
def HazardNilsUptoCardSaid : Prop := Claim7.holds Tryd.pinned (.plain (OpenSpec.upto hazardNilsSpec)) hazardNilsUptoCard

/-- THE SECOND FORM's CARD OF 'linealtop.TopHazard'. -/
def topHazardUptoCard : Claim7 := { stood := { row := topHazardUptoRow, standIns := [], harness := (true, "765cf0a05cdeb711940df1bcff62a6eacb06a36c822aa3a986150de986b79334"), looks := false }, kinds := [], alts := [], laidByText := true, laidKinds := [.data], laidTests := true, laidLooks := .later }
def TopHazardUptoCardSaid : Prop := Claim7.holds Tryd.pinned (.plain (OpenSpec.upto topHazardSpec)) topHazardUptoCard
end Rows
end Go.Proofs.YtcckpmeepcoafaaDoor
