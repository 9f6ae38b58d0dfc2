import Derived.SevenTiedAt
import Derived.Test.YtahpihjialbanaaGreatDoorCards
import Derived.Test.YtahpihjialbanaaGreatDoorTie
import Derived.Test.YtahpihjialbanaaGreatDoorQch
set_option linter.unusedVariables false
set_option linter.unusedSimpArgs false
set_option maxRecDepth 100000
namespace Go.Proofs.YtahpihjialbanaaGreatDoor
section
open Go
theorem laid_said:Rows.LaidSaid :=
 OpenClaim.holds_of_wide 7 Tryz.f7 rfl rfl rfl rfl rfl rfl rfl ⟨rfl,rfl,rfl,rfl,rfl⟩ rfl rfl rfl rfl rfl (by kernel_rfl) Tryz.func7 (by kernel_rfl)
  (of_decide_eq_true (by kernel_rfl)) (by unfold Func.isWrapper;rw[if_neg (of_decide_eq_false (by kernel_rfl))];exact⟨rfl,rfl⟩)
  (fun os started H enc _=>jQkN jQqS os started H enc)
theorem laid_holds:Rows.LaidCardSaid :=
 Claim7.holds_tied_plain_at .later [] [.data,.data,.data,.data] true (true,"ec40f028bf27107b1e2e7a6e246abdf04549d0a3ff8365d6173cd0d8cd25c100") false
  laid_said (fun _ h=>by cases h) (by kernel_rfl) (fun _ h=>by cases h) laid_row_tie rfl ⟨rfl,rfl⟩ (by kernel_rfl) rfl
  (fun f fn hf hfn=>by
   obtain rfl:f=7:=Option.some.inj ((show Tryz.prog.funcNamed "sqlproof/sqlproofkeep.Laid"=some 7 by kernel_rfl).symm.trans hf) |>.symm
   obtain rfl:fn=Tryz.f7:=(Option.some.inj (Tryz.func7.symm.trans hfn)).symm
   exact⟨by kernel_rfl,fun j t ht=>by
    rw[Tryz.params7] at ht
    match j,ht with
    | 0,ht =>
     have h3:t=35:=by simpa using ht.symm
     subst h3
     exact(show Tryz.prog.wantsStandIn 35=false by kernel_rfl)
    | 1,ht =>
     have h3:t=3:=by simpa using ht.symm
     subst h3
     exact(show Tryz.prog.wantsStandIn 3=false by kernel_rfl)
    | 2,ht =>
     have h3:t=3:=by simpa using ht.symm
     subst h3
     exact(show Tryz.prog.wantsStandIn 3=false by kernel_rfl)
    | j+3,ht=>simp at ht⟩)
  (by kernel_rfl)
#print axioms laid_holds
end
end Go.Proofs.YtahpihjialbanaaGreatDoor
