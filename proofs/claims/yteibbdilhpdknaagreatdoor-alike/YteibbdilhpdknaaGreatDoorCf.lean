import Derived.Test.YteibbdilhpdknaaGreatDoorTie
import Derived.Test.YteibbdilhpdknaaGreatDoorCards
import Derived.SevenTiedAt
import Derived.Test.YteibbdilhpdknaaGreatDoorCe
import Derived.Test.YteibbdilhpdknaaGreatDoorCa
set_option linter.unusedVariables false
set_option linter.unusedSimpArgs false

namespace Go.Proofs.YteibbdilhpdknaaGreatDoor
open Go

theorem alike_said : Rows.AlikeSaid :=
  OpenClaim.holds_of_wide 8 Tryz.f8 rfl rfl rfl rfl rfl rfl rfl ⟨rfl, rfl, rfl, rfl, rfl⟩ rfl rfl rfl rfl rfl (by kernel_rfl) Tryz.func8 (by kernel_rfl)
    (of_decide_eq_true (by kernel_rfl)) (by unfold Func.isWrapper; rw [if_neg (of_decide_eq_false (by kernel_rfl))]; exact ⟨rfl, rfl⟩)
    (fun os started H enc _ => alike_lifted alike_any os started H enc)

theorem alike_holds : Rows.AlikeCardSaid :=
  Claim7.holds_tied_plain_at .later [] [.data, .data, .data] true (true, "ca14c5be8ff156040a8a45bc8ef9f4110480b02fa5ca13dc6928eb0e2d806ad4") false
    alike_said (fun _ h => by cases h) (by kernel_rfl) (fun _ h => by cases h) alike_row_tie rfl ⟨rfl, rfl⟩ (by kernel_rfl) rfl
    (fun f fn hf hfn => by
      obtain rfl : f = 8 := Option.some.inj ((show Tryz.prog.funcNamed "sqlproof/sqlproofkeep.Alike" = some 8 by kernel_rfl).symm.trans hf) |>.symm
      obtain rfl : fn = Tryz.f8 := (Option.some.inj (Tryz.func8.symm.trans hfn)).symm
      exact ⟨by kernel_rfl, fun j t ht => by
        rw [Tryz.params8] at ht
        match j, ht with
        | 0, ht =>
          have h3 : t = 39 := by simpa using ht.symm
          subst h3
          exact (show Tryz.prog.wantsStandIn 39 = false by kernel_rfl)
        | 1, ht =>
          have h3 : t = 9 := by simpa using ht.symm
          subst h3
          exact (show Tryz.prog.wantsStandIn 9 = false by kernel_rfl)
        | j + 2, ht => simp at ht⟩)
    (by kernel_rfl)

#print axioms alike_holds

end Go.Proofs.YteibbdilhpdknaaGreatDoor
