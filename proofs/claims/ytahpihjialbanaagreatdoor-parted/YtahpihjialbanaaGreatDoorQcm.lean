import Derived.SevenTiedAt
import Derived.Test.YtahpihjialbanaaGreatDoorCards
import Derived.Test.YtahpihjialbanaaGreatDoorTie
import Derived.Test.YtahpihjialbanaaGreatDoorQcl
set_option linter.unusedVariables false
set_option linter.unusedSimpArgs false
set_option maxRecDepth 100000
namespace Go.Proofs.YtahpihjialbanaaGreatDoor
section
open Go
theorem jQkE:Rows.PartedSaid :=
 OpenClaim.holds_of_wide 4 Tryz.f4 rfl rfl rfl rfl rfl rfl rfl ⟨rfl,rfl,rfl,rfl,rfl⟩ rfl rfl rfl rfl rfl (by kernel_rfl) Tryz.func4 (by kernel_rfl)
  (of_decide_eq_true (by kernel_rfl)) (by unfold Func.isWrapper;rw[if_neg (of_decide_eq_false (by kernel_rfl))];exact⟨rfl,rfl⟩)
  (fun os started H enc _=>jQhp jQmp os started H enc)
theorem parted_holds:Rows.PartedCardSaid :=
 Claim7.holds_tied_plain_at .later [] [.data,.data,.data,.data] true (true,"ec40f028bf27107b1e2e7a6e246abdf04549d0a3ff8365d6173cd0d8cd25c100") false
  jQkE (fun _ h=>by cases h) (by kernel_rfl) (fun _ h=>by cases h) parted_row_tie rfl ⟨rfl,rfl⟩ (by kernel_rfl) rfl
  (fun f fn hf hfn=>by
   obtain rfl:f=4:=Option.some.inj ((show Tryz.prog.funcNamed "sqlproof/sqlproofkeep.Parted"=some 4 by kernel_rfl).symm.trans hf) |>.symm
   obtain rfl:fn=Tryz.f4:=(Option.some.inj (Tryz.func4.symm.trans hfn)).symm
   exact⟨by kernel_rfl,fun j t ht=>by
    rw[Tryz.params4] at ht
    match j,ht with
    | 0,ht =>
     have h3:t=35:=by simpa using ht.symm
     subst h3
     exact(show Tryz.prog.wantsStandIn 35=false by kernel_rfl)
    | 1,ht =>
     have h3:t=9:=by simpa using ht.symm
     subst h3
     exact(show Tryz.prog.wantsStandIn 9=false by kernel_rfl)
    | j+2,ht=>simp at ht⟩)
  (by kernel_rfl)
#print axioms parted_holds
end
end Go.Proofs.YtahpihjialbanaaGreatDoor
