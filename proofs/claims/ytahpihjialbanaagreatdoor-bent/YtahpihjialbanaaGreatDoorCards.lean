/-
  DERIVED. GIVEN WITH THE SEED: THE CARDS: each row of YtahpihjialbanaaGreatDoorRows.lean that lists a variable, with what it lists TIED to the program's text (the seventh form; the later family's looks); each row that meets fmt, with fmt's text TOLD by the authors' own Lean function (tested against real Go, not proved from fmt's source: count such statements apart). THE CARD IS WHAT COUNTS. Prove the row's statement (the work); the ties are given (YtahpihjialbanaaGreatDoorTie.lean); close each card by the builder's one call (the guide's Derived/Test/ToyasCard.lean, 'card_holds'). Laid BY PROGRAM, IN A SANDBOX (cutbox-door.mjs). By AI agents, Wed Nov 11 2026. No macro, syntax, notation, axiom, sorry.
-/
import Derived.Test.YtahpihjialbanaaGreatDoorRows
import GoSem.ClaimSeven
namespace Go.Proofs.YtahpihjialbanaaGreatDoor
namespace Rows

/-- THE TIED CARD OF 'sqlproofkeep.Known'. -/
def knownCard : Claim7 := { stood := { row := knownRow, standIns := [], harness := (true, "ec40f028bf27107b1e2e7a6e246abdf04549d0a3ff8365d6173cd0d8cd25c100"), looks := false }, kinds := [], alts := [], laidByText := true, laidKinds := [.data, .data, .data, .data], laidTests := true, laidLooks := .later }
def KnownCardSaid : Prop := Claim7.holds Tryz.pinned (.plain (OpenSpec.ofChange knownSpec)) knownCard

/-- THE TIED CARD OF 'sqlproofkeep.Parted'. -/
def partedCard : Claim7 := { stood := { row := partedRow, standIns := [], harness := (true, "ec40f028bf27107b1e2e7a6e246abdf04549d0a3ff8365d6173cd0d8cd25c100"), looks := false }, kinds := [], alts := [], laidByText := true, laidKinds := [.data, .data, .data, .data], laidTests := true, laidLooks := .later }
def PartedCardSaid : Prop := Claim7.holds Tryz.pinned (.plain (OpenSpec.ofChange partedSpec)) partedCard

/-- THE TIED CARD OF 'sqlproofkeep.Alike'. -/
def alikeCard : Claim7 := { stood := { row := alikeRow, standIns := [], harness := (true, "ec40f028bf27107b1e2e7a6e246abdf04549d0a3ff8365d6173cd0d8cd25c100"), looks := false }, kinds := [], alts := [], laidByText := true, laidKinds := [.data, .data, .data, .data], laidTests := true, laidLooks := .later }
def AlikeCardSaid : Prop := Claim7.holds Tryz.pinned (.plain (OpenSpec.ofChange alikeSpec)) alikeCard

/-- THE TIED CARD OF 'sqlproofkeep.Risen'. -/
def risenCard : Claim7 := { stood := { row := risenRow, standIns := [], harness := (true, "ec40f028bf27107b1e2e7a6e246abdf04549d0a3ff8365d6173cd0d8cd25c100"), looks := false }, kinds := [], alts := [], laidByText := true, laidKinds := [.data, .data, .data, .data], laidTests := true, laidLooks := .later }
def RisenCardSaid : Prop := Claim7.holds Tryz.pinned (.plain (OpenSpec.ofChange risenSpec)) risenCard

/-- THE TIED CARD OF 'sqlproofkeep.Laid'. -/
def laidCard : Claim7 := { stood := { row := laidRow, standIns := [], harness := (true, "ec40f028bf27107b1e2e7a6e246abdf04549d0a3ff8365d6173cd0d8cd25c100"), looks := false }, kinds := [], alts := [], laidByText := true, laidKinds := [.data, .data, .data, .data], laidTests := true, laidLooks := .later }
def LaidCardSaid : Prop := Claim7.holds Tryz.pinned (.plain (OpenSpec.ofChange laidSpec)) laidCard

/-- THE TIED CARD OF 'sqlproofkeep.Steady'. -/
def steadyCard : Claim7 := { stood := { row := steadyRow, standIns := [], harness := (true, "ec40f028bf27107b1e2e7a6e246abdf04549d0a3ff8365d6173cd0d8cd25c100"), looks := false }, kinds := [], alts := [], laidByText := true, laidKinds := [.data, .data, .data, .data], laidTests := true, laidLooks := .later }
def SteadyCardSaid : Prop := Claim7.holds Tryz.pinned (.plain (OpenSpec.ofChange steadySpec)) steadyCard

/-- THE TIED CARD OF 'sqlproofkeep.Filled'. -/
def filledCard : Claim7 := { stood := { row := filledRow, standIns := [], harness := (true, "ec40f028bf27107b1e2e7a6e246abdf04549d0a3ff8365d6173cd0d8cd25c100"), looks := false }, kinds := [], alts := [], laidByText := true, laidKinds := [.data, .data, .data, .data], laidTests := true, laidLooks := .later }
def FilledCardSaid : Prop := Claim7.holds Tryz.pinned (.plain (OpenSpec.ofChange filledSpec)) filledCard

/-- THE TIED CARD OF 'sqlproofkeep.Whole'. -/
def wholeCard : Claim7 := { stood := { row := wholeRow, standIns := [], harness := (true, "ec40f028bf27107b1e2e7a6e246abdf04549d0a3ff8365d6173cd0d8cd25c100"), looks := false }, kinds := [], alts := [], laidByText := true, laidKinds := [.data, .data, .data, .data], laidTests := true, laidLooks := .later }
def WholeCardSaid : Prop := Claim7.holds Tryz.pinned (.plain (OpenSpec.ofChange wholeSpec)) wholeCard

/-- THE TIED CARD OF 'sqlproofkeep.Sound'. -/
def soundCard : Claim7 := { stood := { row := soundRow, standIns := [], harness := (true, "ec40f028bf27107b1e2e7a6e246abdf04549d0a3ff8365d6173cd0d8cd25c100"), looks := false }, kinds := [], alts := [], laidByText := true, laidKinds := [.data, .data, .data, .data], laidTests := true, laidLooks := .later }
def SoundCardSaid : Prop := Claim7.holds Tryz.pinned (.plain (OpenSpec.ofChange soundSpec)) soundCard

/-- THE TIED CARD OF 'sqlproofkeep.Bent'. -/
def bentCard : Claim7 := { stood := { row := bentRow, standIns := [], harness := (true, "ec40f028bf27107b1e2e7a6e246abdf04549d0a3ff8365d6173cd0d8cd25c100"), looks := false }, kinds := [], alts := [], laidByText := true, laidKinds := [.data, .data, .data, .data], laidTests := true, laidLooks := .later }
def BentCardSaid : Prop := Claim7.holds Tryz.pinned (.plain (OpenSpec.ofChange bentSpec)) bentCard

/-- THE SECOND FORM's CARD OF 'sqlproofkeep.Known'. -/
def knownUptoCard : Claim7 := { stood := { row := knownUptoRow, standIns := [], harness := (true, "ec40f028bf27107b1e2e7a6e246abdf04549d0a3ff8365d6173cd0d8cd25c100"), looks := false }, kinds := [], alts := [], laidByText := true, laidKinds := [.data, .data, .data, .data], laidTests := true, laidLooks := .later }
def KnownUptoCardSaid : Prop := Claim7.holds Tryz.pinned (.plain (OpenSpec.upto knownSpec)) knownUptoCard

/-- THE SECOND FORM's CARD OF 'sqlproofkeep.Parted'. -/
def partedUptoCard : Claim7 := { stood := { row := partedUptoRow, standIns := [], harness := (true, "ec40f028bf27107b1e2e7a6e246abdf04549d0a3ff8365d6173cd0d8cd25c100"), looks := false }, kinds := [], alts := [], laidByText := true, laidKinds := [.data, .data, .data, .data], laidTests := true, laidLooks := .later }
def PartedUptoCardSaid : Prop := Claim7.holds Tryz.pinned (.plain (OpenSpec.upto partedSpec)) partedUptoCard

/-- THE SECOND FORM's CARD OF 'sqlproofkeep.Alike'. -/
def alikeUptoCard : Claim7 := { stood := { row := alikeUptoRow, standIns := [], harness := (true, "ec40f028bf27107b1e2e7a6e246abdf04549d0a3ff8365d6173cd0d8cd25c100"), looks := false }, kinds := [], alts := [], laidByText := true, laidKinds := [.data, .data, .data, .data], laidTests := true, laidLooks := .later }
def AlikeUptoCardSaid : Prop := Claim7.holds Tryz.pinned (.plain (OpenSpec.upto alikeSpec)) alikeUptoCard

/-- THE SECOND FORM's CARD OF 'sqlproofkeep.Risen'. -/
def risenUptoCard : Claim7 := { stood := { row := risenUptoRow, standIns := [], harness := (true, "ec40f028bf27107b1e2e7a6e246abdf04549d0a3ff8365d6173cd0d8cd25c100"), looks := false }, kinds := [], alts := [], laidByText := true, laidKinds := [.data, .data, .data, .data], laidTests := true, laidLooks := .later }
def RisenUptoCardSaid : Prop := Claim7.holds Tryz.pinned (.plain (OpenSpec.upto risenSpec)) risenUptoCard

/-- THE SECOND FORM's CARD OF 'sqlproofkeep.Laid'. -/
def laidUptoCard : Claim7 := { stood := { row := laidUptoRow, standIns := [], harness := (true, "ec40f028bf27107b1e2e7a6e246abdf04549d0a3ff8365d6173cd0d8cd25c100"), looks := false }, kinds := [], alts := [], laidByText := true, laidKinds := [.data, .data, .data, .data], laidTests := true, laidLooks := .later }
def LaidUptoCardSaid : Prop := Claim7.holds Tryz.pinned (.plain (OpenSpec.upto laidSpec)) laidUptoCard

/-- THE SECOND FORM's CARD OF 'sqlproofkeep.Steady'. -/
def steadyUptoCard : Claim7 := { stood := { row := steadyUptoRow, standIns := [], harness := (true, "ec40f028bf27107b1e2e7a6e246abdf04549d0a3ff8365d6173cd0d8cd25c100"), looks := false }, kinds := [], alts := [], laidByText := true, laidKinds := [.data, .data, .data, .data], laidTests := true, laidLooks := .later }
def SteadyUptoCardSaid : Prop := Claim7.holds Tryz.pinned (.plain (OpenSpec.upto steadySpec)) steadyUptoCard

/-- THE SECOND FORM's CARD OF 'sqlproofkeep.Filled'. -/
def filledUptoCard : Claim7 := { stood := { row := filledUptoRow, standIns := [], harness := (true, "ec40f028bf27107b1e2e7a6e246abdf04549d0a3ff8365d6173cd0d8cd25c100"), looks := false }, kinds := [], alts := [], laidByText := true, laidKinds := [.data, .data, .data, .data], laidTests := true, laidLooks := .later }
def FilledUptoCardSaid : Prop := Claim7.holds Tryz.pinned (.plain (OpenSpec.upto filledSpec)) filledUptoCard

/-- THE SECOND FORM's CARD OF 'sqlproofkeep.Whole'. -/
def wholeUptoCard : Claim7 := { stood := { row := wholeUptoRow, standIns := [], harness := (true, "ec40f028bf27107b1e2e7a6e246abdf04549d0a3ff8365d6173cd0d8cd25c100"), looks := false }, kinds := [], alts := [], laidByText := true, laidKinds := [.data, .data, .data, .data], laidTests := true, laidLooks := .later }
def WholeUptoCardSaid : Prop := Claim7.holds Tryz.pinned (.plain (OpenSpec.upto wholeSpec)) wholeUptoCard

/-- THE SECOND FORM's CARD OF 'sqlproofkeep.Sound'. -/
def soundUptoCard : Claim7 := { stood := { row := soundUptoRow, standIns := [], harness := (true, "ec40f028bf27107b1e2e7a6e246abdf04549d0a3ff8365d6173cd0d8cd25c100"), looks := false }, kinds := [], alts := [], laidByText := true, laidKinds := [.data, .data, .data, .data], laidTests := true, laidLooks := .later }
def SoundUptoCardSaid : Prop := Claim7.holds Tryz.pinned (.plain (OpenSpec.upto soundSpec)) soundUptoCard

/-- THE SECOND FORM's CARD OF 'sqlproofkeep.Bent'. -/
def bentUptoCard : Claim7 := { stood := { row := bentUptoRow, standIns := [], harness := (true, "ec40f028bf27107b1e2e7a6e246abdf04549d0a3ff8365d6173cd0d8cd25c100"), looks := false }, kinds := [], alts := [], laidByText := true, laidKinds := [.data, .data, .data, .data], laidTests := true, laidLooks := .later }
def BentUptoCardSaid : Prop := Claim7.holds Tryz.pinned (.plain (OpenSpec.upto bentSpec)) bentUptoCard
end Rows
end Go.Proofs.YtahpihjialbanaaGreatDoor
