import Derived.SevenTiedAt
import Derived.Test.YtahpihjialbanaaGreatDoorCards
import Derived.Test.YtahpihjialbanaaGreatDoorTie
import Derived.Test.YtahpihjialbanaaGreatDoorQbf
set_option linter.all false
namespace Go.Proofs.YtahpihjialbanaaGreatDoor
section
open Go
theorem qBm:(Rows.soundRow.inPlace==Tryz.prog.inPlace 11)=true:=by kernel_rfl
theorem qBl:(Rows.soundRow.unfollowed==Tryz.prog.unfollowed 11)=true:=by kernel_rfl
theorem qBk:(Rows.soundRow.recurses==Tryz.prog.recurses 11)=true:=by kernel_rfl
theorem qBj:(Rows.soundRow.named==Tryz.prog.varsNamed 11)=true:=by kernel_rfl
theorem jWN:joinedFacts Tryz.prog 11 Tryz.f11 Rows.soundSpec Rows.soundRow=true:=by
 unfold joinedFacts;rw[qBm,qBl,qBk,qBj]
 kernel_rfl
theorem jY0:Rows.SoundSaid :=
 OpenClaim.holds_of_wide 11 Tryz.f11 rfl rfl rfl rfl rfl rfl rfl ⟨rfl,rfl,rfl,rfl,rfl⟩ rfl rfl rfl rfl rfl (by kernel_rfl) Tryz.func11 jWN
  (of_decide_eq_true (by kernel_rfl)) (by unfold Func.isWrapper;rw[cy (of_decide_eq_false (by kernel_rfl))];exact⟨rfl,rfl⟩)
  (fun os started H enc _=>jWM jWO os started H enc)
theorem sound_holds:Rows.SoundCardSaid :=
 Claim7.holds_tied_plain_at .later [] [.data,.data,.data,.data] true (true,"ec40f028bf27107b1e2e7a6e246abdf04549d0a3ff8365d6173cd0d8cd25c100") false
  jY0 (fun _ h=>by cases h) (by kernel_rfl) (fun _ h=>by cases h) sound_row_tie rfl ⟨rfl,rfl⟩ (by kernel_rfl) rfl
  (fun f fn hf ha=>by
   obtain rfl:f=11:=Option.some.inj ((show Tryz.prog.funcNamed "sqlproof/sqlproofkeep.Sound"=some 11 by kernel_rfl).symm.trans hf) |>.symm
   obtain rfl:fn=Tryz.f11:=(Option.some.inj (Tryz.func11.symm.trans ha)).symm
   exact⟨by kernel_rfl,fun j t ht=>by
    rw[Tryz.params11] at ht
    match j,ht with
    | 0,ht =>
     have h3:t=3:=by simpa using ht.symm
     subst h3;exact(show Tryz.prog.wantsStandIn 3=false by kernel_rfl)
    | 1,ht =>
     have h3:t=35:=by simpa using ht.symm
     subst h3;exact(show Tryz.prog.wantsStandIn 35=false by kernel_rfl)
    | 2,ht =>
     have h3:t=9:=by simpa using ht.symm
     subst h3;exact(show Tryz.prog.wantsStandIn 9=false by kernel_rfl)
    | 3,ht =>
     have h3:t=9:=by simpa using ht.symm
     subst h3;exact(show Tryz.prog.wantsStandIn 9=false by kernel_rfl)
    | 4,ht =>
     have h3:t=9:=by simpa using ht.symm
     subst h3;exact(show Tryz.prog.wantsStandIn 9=false by kernel_rfl)
    | j+5,ht=>simp at ht⟩)
  (by kernel_rfl)
#print axioms sound_holds
end
end Go.Proofs.YtahpihjialbanaaGreatDoor
