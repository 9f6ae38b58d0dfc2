import Derived.SevenTiedAt
import Derived.Test.YtahpihjialbanaaGreatDoorCards
import Derived.Test.YtahpihjialbanaaGreatDoorTie
import Derived.Test.YtahpihjialbanaaGreatDoorQby
set_option linter.unusedVariables false
set_option linter.unusedSimpArgs false
namespace Go.Proofs.YtahpihjialbanaaGreatDoor
section
open Go
theorem jQlN:Rows.WholeSaid :=
 OpenClaim.holds_of_wide 10 Tryz.f10 rfl rfl rfl rfl rfl rfl rfl ⟨rfl,rfl,rfl,rfl,rfl⟩ rfl rfl rfl rfl rfl (by kernel_rfl) Tryz.func10 (by kernel_rfl)
  (of_decide_eq_true (by kernel_rfl)) (by unfold Func.isWrapper;rw[if_neg (of_decide_eq_false (by kernel_rfl))];exact⟨rfl,rfl⟩)
  (fun os started H enc _=>jQip jQiq os started H enc)
theorem whole_holds:Rows.WholeCardSaid :=
 Claim7.holds_tied_plain_at .later [] [.data,.data,.data,.data] true (true,"ec40f028bf27107b1e2e7a6e246abdf04549d0a3ff8365d6173cd0d8cd25c100") false
  jQlN (fun _ h=>by cases h) (by kernel_rfl) (fun _ h=>by cases h) whole_row_tie rfl ⟨rfl,rfl⟩ (by kernel_rfl) rfl
  (fun f fn hf hfn=>by
   obtain rfl:f=10:=Option.some.inj ((show Tryz.prog.funcNamed "sqlproof/sqlproofkeep.Whole"=some 10 by kernel_rfl).symm.trans hf) |>.symm
   obtain rfl:fn=Tryz.f10:=(Option.some.inj (Tryz.func10.symm.trans hfn)).symm
   exact⟨by kernel_rfl,fun j t ht=>by
    rw[Tryz.params10] at ht
    match j,ht with
    | 0,ht =>
     have h3:t=3:=by simpa using ht.symm
     subst h3;exact(show Tryz.prog.wantsStandIn 3=false by kernel_rfl)
    | 1,ht =>
     have h3:t=35:=by simpa using ht.symm
     subst h3;exact(show Tryz.prog.wantsStandIn 35=false by kernel_rfl)
    | 2,ht =>
     have h3:t=9:=by simpa using ht.symm
     subst h3;exact(show Tryz.prog.wantsStandIn 9=false by kernel_rfl)
    | j+3,ht=>simp at ht⟩)
  (by kernel_rfl)
#print axioms whole_holds
end
end Go.Proofs.YtahpihjialbanaaGreatDoor
