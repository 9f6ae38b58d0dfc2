import Derived.Test.YtahpihjialbanaaGreatDoorQbs
set_option linter.unusedVariables false
set_option linter.unusedSimpArgs false
namespace Go.Proofs.YtahpihjialbanaaGreatDoor
namespace Sq
theorem jQbF (v:Val):compare v v=0:=by
 unfold compare
 simp
end Sq
end Go.Proofs.YtahpihjialbanaaGreatDoor
