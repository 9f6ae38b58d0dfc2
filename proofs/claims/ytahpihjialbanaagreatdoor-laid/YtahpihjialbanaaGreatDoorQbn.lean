import Derived.Test.YtahpihjialbanaaGreatDoorQba
set_option linter.unusedVariables false
set_option linter.unusedSimpArgs false
namespace Go.Proofs.YtahpihjialbanaaGreatDoor
namespace Sq
theorem jQfC:∀(db:List Tab) (t:Tab),t∈db→t.rows.length≤rowsSum db:=by
 intro db
 induction db with
 | nil=>intro t h;simp at h
 | cons x r ih =>
  intro t h
  have e:rowsSum (x :: r)=x.rows.length+rowsSum r:=by simp[rowsSum]
  rcases List.mem_cons.1 h with rfl | h
  ·omega
  ·have:=ih t h;omega
end Sq
end Go.Proofs.YtahpihjialbanaaGreatDoor
