/-
  DERIVED. GIVEN WITH THE SEED: THE CARDS: each row of YteibbdilhpdknaaGreatDoorRows.lean that lists a variable, with what it lists TIED to the program's text (the seventh form; the later family's looks); each row that meets fmt, with fmt's text TOLD by the authors' own Lean function (tested against real Go, not proved from fmt's source: count such statements apart). THE CARD IS WHAT COUNTS. Prove the row's statement (the work); the ties are given (YteibbdilhpdknaaGreatDoorTie.lean); close each card by the builder's one call (the guide's Derived/Test/ToyasCard.lean, 'card_holds'). Laid BY PROGRAM, IN A SANDBOX (cutbox-door.mjs). By AI agents, Wed Nov 11 2026. No macro, syntax, notation, axiom, sorry.
-/
import Derived.Test.YteibbdilhpdknaaGreatDoorRows
import GoSem.ClaimSeven
namespace Go.Proofs.YteibbdilhpdknaaGreatDoor
namespace Rows

/-- THE TIED CARD OF 'sqlprooflaw.Replies'. -/
def repliesCard : Claim7 := { stood := { row := repliesRow, standIns := [], harness := (true, "ca14c5be8ff156040a8a45bc8ef9f4110480b02fa5ca13dc6928eb0e2d806ad4"), looks := false }, kinds := [], alts := [], laidByText := true, laidKinds := [.data, .data, .data], laidTests := true, laidLooks := .later }
def RepliesCardSaid : Prop := Claim7.holds Tryz.pinned (.plain (OpenSpec.ofChange repliesSpec)) repliesCard

/-- THE TIED CARD OF 'sqlprooflaw.Checks'. -/
def checksCard : Claim7 := { stood := { row := checksRow, standIns := [], harness := (true, "ca14c5be8ff156040a8a45bc8ef9f4110480b02fa5ca13dc6928eb0e2d806ad4"), looks := false }, kinds := [], alts := [], laidByText := true, laidKinds := [.data, .data, .data], laidTests := true, laidLooks := .later }
def ChecksCardSaid : Prop := Claim7.holds Tryz.pinned (.plain (OpenSpec.ofChange checksSpec)) checksCard

/-- THE TIED CARD OF 'sqlprooflaw.Clashes'. -/
def clashesCard : Claim7 := { stood := { row := clashesRow, standIns := [], harness := (true, "ca14c5be8ff156040a8a45bc8ef9f4110480b02fa5ca13dc6928eb0e2d806ad4"), looks := false }, kinds := [], alts := [], laidByText := true, laidKinds := [.data, .data, .data], laidTests := true, laidLooks := .later }
def ClashesCardSaid : Prop := Claim7.holds Tryz.pinned (.plain (OpenSpec.ofChange clashesSpec)) clashesCard

/-- THE TIED CARD OF 'sqlproofkeep.Known'. -/
def knownCard : Claim7 := { stood := { row := knownRow, standIns := [], harness := (true, "ca14c5be8ff156040a8a45bc8ef9f4110480b02fa5ca13dc6928eb0e2d806ad4"), looks := false }, kinds := [], alts := [], laidByText := true, laidKinds := [.data, .data, .data], laidTests := true, laidLooks := .later }
def KnownCardSaid : Prop := Claim7.holds Tryz.pinned (.plain (OpenSpec.ofChange knownSpec)) knownCard

/-- THE TIED CARD OF 'sqlproofkeep.Parted'. -/
def partedCard : Claim7 := { stood := { row := partedRow, standIns := [], harness := (true, "ca14c5be8ff156040a8a45bc8ef9f4110480b02fa5ca13dc6928eb0e2d806ad4"), looks := false }, kinds := [], alts := [], laidByText := true, laidKinds := [.data, .data, .data], laidTests := true, laidLooks := .later }
def PartedCardSaid : Prop := Claim7.holds Tryz.pinned (.plain (OpenSpec.ofChange partedSpec)) partedCard

/-- THE TIED CARD OF 'sqlproofkeep.Alike'. -/
def alikeCard : Claim7 := { stood := { row := alikeRow, standIns := [], harness := (true, "ca14c5be8ff156040a8a45bc8ef9f4110480b02fa5ca13dc6928eb0e2d806ad4"), looks := false }, kinds := [], alts := [], laidByText := true, laidKinds := [.data, .data, .data], laidTests := true, laidLooks := .later }
def AlikeCardSaid : Prop := Claim7.holds Tryz.pinned (.plain (OpenSpec.ofChange alikeSpec)) alikeCard

/-- THE TIED CARD OF 'sqlproofkeep.Risen'. -/
def risenCard : Claim7 := { stood := { row := risenRow, standIns := [], harness := (true, "ca14c5be8ff156040a8a45bc8ef9f4110480b02fa5ca13dc6928eb0e2d806ad4"), looks := false }, kinds := [], alts := [], laidByText := true, laidKinds := [.data, .data, .data], laidTests := true, laidLooks := .later }
def RisenCardSaid : Prop := Claim7.holds Tryz.pinned (.plain (OpenSpec.ofChange risenSpec)) risenCard

/-- THE TIED CARD OF 'sqlproofkeep.Laid'. -/
def laidCard : Claim7 := { stood := { row := laidRow, standIns := [], harness := (true, "ca14c5be8ff156040a8a45bc8ef9f4110480b02fa5ca13dc6928eb0e2d806ad4"), looks := false }, kinds := [], alts := [], laidByText := true, laidKinds := [.data, .data, .data], laidTests := true, laidLooks := .later }
def LaidCardSaid : Prop := Claim7.holds Tryz.pinned (.plain (OpenSpec.ofChange laidSpec)) laidCard

/-- THE SECOND FORM's CARD OF 'sqlprooflaw.Replies'. -/
def repliesUptoCard : Claim7 := { stood := { row := repliesUptoRow, standIns := [], harness := (true, "ca14c5be8ff156040a8a45bc8ef9f4110480b02fa5ca13dc6928eb0e2d806ad4"), looks := false }, kinds := [], alts := [], laidByText := true, laidKinds := [.data, .data, .data], laidTests := true, laidLooks := .later }
def RepliesUptoCardSaid : Prop := Claim7.holds Tryz.pinned (.plain (OpenSpec.upto repliesSpec)) repliesUptoCard

/-- THE SECOND FORM's CARD OF 'sqlprooflaw.Checks'. -/
def checksUptoCard : Claim7 := { stood := { row := checksUptoRow, standIns := [], harness := (true, "ca14c5be8ff156040a8a45bc8ef9f4110480b02fa5ca13dc6928eb0e2d806ad4"), looks := false }, kinds := [], alts := [], laidByText := true, laidKinds := [.data, .data, .data], laidTests := true, laidLooks := .later }
def ChecksUptoCardSaid : Prop := Claim7.holds Tryz.pinned (.plain (OpenSpec.upto checksSpec)) checksUptoCard

/-- THE SECOND FORM's CARD OF 'sqlprooflaw.Clashes'. -/
def clashesUptoCard : Claim7 := { stood := { row := clashesUptoRow, standIns := [], harness := (true, "ca14c5be8ff156040a8a45bc8ef9f4110480b02fa5ca13dc6928eb0e2d806ad4"), looks := false }, kinds := [], alts := [], laidByText := true, laidKinds := [.data, .data, .data], laidTests := true, laidLooks := .later }
def ClashesUptoCardSaid : Prop := Claim7.holds Tryz.pinned (.plain (OpenSpec.upto clashesSpec)) clashesUptoCard

/-- THE SECOND FORM's CARD OF 'sqlproofkeep.Known'. -/
def knownUptoCard : Claim7 := { stood := { row := knownUptoRow, standIns := [], harness := (true, "ca14c5be8ff156040a8a45bc8ef9f4110480b02fa5ca13dc6928eb0e2d806ad4"), looks := false }, kinds := [], alts := [], laidByText := true, laidKinds := [.data, .data, .data], laidTests := true, laidLooks := .later }
def KnownUptoCardSaid : Prop := Claim7.holds Tryz.pinned (.plain (OpenSpec.upto knownSpec)) knownUptoCard

/-- THE SECOND FORM's CARD OF 'sqlproofkeep.Parted'. -/
def partedUptoCard : Claim7 := { stood := { row := partedUptoRow, standIns := [], harness := (true, "ca14c5be8ff156040a8a45bc8ef9f4110480b02fa5ca13dc6928eb0e2d806ad4"), looks := false }, kinds := [], alts := [], laidByText := true, laidKinds := [.data, .data, .data], laidTests := true, laidLooks := .later }
def PartedUptoCardSaid : Prop := Claim7.holds Tryz.pinned (.plain (OpenSpec.upto partedSpec)) partedUptoCard

/-- THE SECOND FORM's CARD OF 'sqlproofkeep.Alike'. -/
def alikeUptoCard : Claim7 := { stood := { row := alikeUptoRow, standIns := [], harness := (true, "ca14c5be8ff156040a8a45bc8ef9f4110480b02fa5ca13dc6928eb0e2d806ad4"), looks := false }, kinds := [], alts := [], laidByText := true, laidKinds := [.data, .data, .data], laidTests := true, laidLooks := .later }
def AlikeUptoCardSaid : Prop := Claim7.holds Tryz.pinned (.plain (OpenSpec.upto alikeSpec)) alikeUptoCard

/-- THE SECOND FORM's CARD OF 'sqlproofkeep.Risen'. -/
def risenUptoCard : Claim7 := { stood := { row := risenUptoRow, standIns := [], harness := (true, "ca14c5be8ff156040a8a45bc8ef9f4110480b02fa5ca13dc6928eb0e2d806ad4"), looks := false }, kinds := [], alts := [], laidByText := true, laidKinds := [.data, .data, .data], laidTests := true, laidLooks := .later }
def RisenUptoCardSaid : Prop := Claim7.holds Tryz.pinned (.plain (OpenSpec.upto risenSpec)) risenUptoCard

/-- THE SECOND FORM's CARD OF 'sqlproofkeep.Laid'. -/
def laidUptoCard : Claim7 := { stood := { row := laidUptoRow, standIns := [], harness := (true, "ca14c5be8ff156040a8a45bc8ef9f4110480b02fa5ca13dc6928eb0e2d806ad4"), looks := false }, kinds := [], alts := [], laidByText := true, laidKinds := [.data, .data, .data], laidTests := true, laidLooks := .later }
def LaidUptoCardSaid : Prop := Claim7.holds Tryz.pinned (.plain (OpenSpec.upto laidSpec)) laidUptoCard
end Rows
end Go.Proofs.YteibbdilhpdknaaGreatDoor
