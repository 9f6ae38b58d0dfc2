import Derived.Test.YtahpihjialbanaaGreatDoorQbl
set_option linter.unusedVariables false
set_option linter.unusedSimpArgs false
namespace Go.Proofs.YtahpihjialbanaaGreatDoor
section
open Go.RowKit
theorem Frm.of_below {sb:Nat}{w w':World}(h:Below w.heap.size w w')(hs:sb≤w.heap.size):Frm sb w w':=⟨h.mono hs,fun g _ _ _ hg _ _=>h.block g (jQg hg)⟩
end
end Go.Proofs.YtahpihjialbanaaGreatDoor
