import Derived.Test.YtahpihjialbanaaGreatDoorQbq
set_option linter.unusedVariables false
set_option linter.unusedSimpArgs false
namespace Go.Proofs.YtahpihjialbanaaGreatDoor
namespace Sq
def bT:ByteArray:=⟨#[116]⟩
end Sq
end Go.Proofs.YtahpihjialbanaaGreatDoor
