/-
  DERIVED. GIVEN WITH THE SEED: THE CARDS: each row of YtamkfbelpfpjcaaGreatDoorRows.lean that lists a variable, with what it lists TIED to the program's text (the seventh form; the later family's looks); each row that meets fmt, with fmt's text TOLD by the authors' own Lean function (tested against real Go, not proved from fmt's source: count such statements apart). THE CARD IS WHAT COUNTS. Prove the row's statement (the work); the ties are given (YtamkfbelpfpjcaaGreatDoorTie.lean); close each card by the builder's one call (the guide's Derived/Test/ToyasCard.lean, 'card_holds'). Laid BY PROGRAM, IN A SANDBOX (cutbox-door.mjs). By AI agents, Wed Nov 11 2026. No macro, syntax, notation, axiom, sorry.
-/
import Derived.Test.YtamkfbelpfpjcaaGreatDoorRows
import GoSem.ClaimSeven
namespace Go.Proofs.YtamkfbelpfpjcaaGreatDoor
namespace Rows

/-- THE TIED CARD OF 'sqlproofkeep.Steady'. -/
def steadyCard : Claim7 := { stood := { row := steadyRow, standIns := [], harness := (true, "2250d5aba36f6209a0f1adc7888f9341130a59390c54563529825b807c622310"), looks := false }, kinds := [], alts := [], laidByText := true, laidKinds := [.data, .data, .data, .data], laidTests := true, laidLooks := .later }
def SteadyCardSaid : Prop := Claim7.holds Tryz.pinned (.plain (OpenSpec.ofChange steadySpec)) steadyCard

/-- THE TIED CARD OF 'sqlproofkeep.Filled'. -/
def filledCard : Claim7 := { stood := { row := filledRow, standIns := [], harness := (true, "2250d5aba36f6209a0f1adc7888f9341130a59390c54563529825b807c622310"), looks := false }, kinds := [], alts := [], laidByText := true, laidKinds := [.data, .data, .data, .data], laidTests := true, laidLooks := .later }
def FilledCardSaid : Prop := Claim7.holds Tryz.pinned (.plain (OpenSpec.ofChange filledSpec)) filledCard

/-- THE SECOND FORM's CARD OF 'sqlproofkeep.Steady'. -/
def steadyUptoCard : Claim7 := { stood := { row := steadyUptoRow, standIns := [], harness := (true, "2250d5aba36f6209a0f1adc7888f9341130a59390c54563529825b807c622310"), looks := false }, kinds := [], alts := [], laidByText := true, laidKinds := [.data, .data, .data, .data], laidTests := true, laidLooks := .later }
def SteadyUptoCardSaid : Prop := Claim7.holds Tryz.pinned (.plain (OpenSpec.upto steadySpec)) steadyUptoCard

/-- THE SECOND FORM's CARD OF 'sqlproofkeep.Filled'. -/
def filledUptoCard : Claim7 := { stood := { row := filledUptoRow, standIns := [], harness := (true, "2250d5aba36f6209a0f1adc7888f9341130a59390c54563529825b807c622310"), looks := false }, kinds := [], alts := [], laidByText := true, laidKinds := [.data, .data, .data, .data], laidTests := true, laidLooks := .later }
def FilledUptoCardSaid : Prop := Claim7.holds Tryz.pinned (.plain (OpenSpec.upto filledSpec)) filledUptoCard
end Rows
end Go.Proofs.YtamkfbelpfpjcaaGreatDoor
