import Derived.Test.YteibbdilhpdknaaGreatDoorTie
import Derived.Test.YteibbdilhpdknaaGreatDoorCards
import Derived.SevenTiedAt
import Derived.Test.YteibbdilhpdknaaGreatDoorCk
import Derived.Test.YteibbdilhpdknaaGreatDoorCa
set_option linter.unusedVariables false
set_option linter.unusedSimpArgs false

namespace Go.Proofs.YteibbdilhpdknaaGreatDoor
open Go

theorem laid_said : Rows.LaidSaid :=
  OpenClaim.holds_of_wide 10 Tryz.f10 rfl rfl rfl rfl rfl rfl rfl ⟨rfl, rfl, rfl, rfl, rfl⟩ rfl rfl rfl rfl rfl (by kernel_rfl) Tryz.func10 (by kernel_rfl)
    (of_decide_eq_true (by kernel_rfl)) (by unfold Func.isWrapper; rw [if_neg (of_decide_eq_false (by kernel_rfl))]; exact ⟨rfl, rfl⟩)
    (fun os started H enc _ => laid_lifted laid_any os started H enc)

theorem laid_holds : Rows.LaidCardSaid :=
  Claim7.holds_tied_plain_at .later [] [.data, .data, .data] true (true, "ca14c5be8ff156040a8a45bc8ef9f4110480b02fa5ca13dc6928eb0e2d806ad4") false
    laid_said (fun _ h => by cases h) (by kernel_rfl) (fun _ h => by cases h) laid_row_tie rfl ⟨rfl, rfl⟩ (by kernel_rfl) rfl
    (fun f fn hf hfn => by
      obtain rfl : f = 10 := Option.some.inj ((show Tryz.prog.funcNamed "sqlproof/sqlproofkeep.Laid" = some 10 by kernel_rfl).symm.trans hf) |>.symm
      obtain rfl : fn = Tryz.f10 := (Option.some.inj (Tryz.func10.symm.trans hfn)).symm
      exact ⟨by kernel_rfl, fun j t ht => by
        rw [Tryz.params10] at ht
        match j, ht with
        | 0, ht =>
          have h3 : t = 39 := by simpa using ht.symm
          subst h3
          exact (show Tryz.prog.wantsStandIn 39 = false by kernel_rfl)
        | 1, ht =>
          have h3 : t = 3 := by simpa using ht.symm
          subst h3
          exact (show Tryz.prog.wantsStandIn 3 = false by kernel_rfl)
        | 2, ht =>
          have h3 : t = 3 := by simpa using ht.symm
          subst h3
          exact (show Tryz.prog.wantsStandIn 3 = false by kernel_rfl)
        | j + 3, ht => simp at ht⟩)
    (by kernel_rfl)

#print axioms laid_holds

end Go.Proofs.YteibbdilhpdknaaGreatDoor
