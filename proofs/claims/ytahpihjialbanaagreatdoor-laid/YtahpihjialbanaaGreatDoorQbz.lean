import Derived.Test.YtahpihjialbanaaGreatDoorQbq
import Derived.Test.YtahpihjialbanaaGreatDoorQbt
set_option linter.unusedVariables false
set_option linter.unusedSimpArgs false
namespace Go.Proofs.YtahpihjialbanaaGreatDoor
namespace Sq
theorem jQdi (t:Tab):meeting t []=t.rows:=by
 unfold meeting
 exact List.filter_eq_self.2 (fun _ _=>rfl)
end Sq
end Go.Proofs.YtahpihjialbanaaGreatDoor
