import Derived.Test.YteibbdilhpdknaaGreatDoorTie
import Derived.Test.YteibbdilhpdknaaGreatDoorCards
import Derived.SevenTiedAt
import Derived.Test.YteibbdilhpdknaaGreatDoorCg
import Derived.Test.YteibbdilhpdknaaGreatDoorCa
set_option linter.unusedVariables false
set_option linter.unusedSimpArgs false

namespace Go.Proofs.YteibbdilhpdknaaGreatDoor
open Go

theorem parted_said : Rows.PartedSaid :=
  OpenClaim.holds_of_wide 7 Tryz.f7 rfl rfl rfl rfl rfl rfl rfl ⟨rfl, rfl, rfl, rfl, rfl⟩ rfl rfl rfl rfl rfl (by kernel_rfl) Tryz.func7 (by kernel_rfl)
    (of_decide_eq_true (by kernel_rfl)) (by unfold Func.isWrapper; rw [if_neg (of_decide_eq_false (by kernel_rfl))]; exact ⟨rfl, rfl⟩)
    (fun os started H enc _ => parted_lifted parted_any os started H enc)

theorem parted_holds : Rows.PartedCardSaid :=
  Claim7.holds_tied_plain_at .later [] [.data, .data, .data] true (true, "ca14c5be8ff156040a8a45bc8ef9f4110480b02fa5ca13dc6928eb0e2d806ad4") false
    parted_said (fun _ h => by cases h) (by kernel_rfl) (fun _ h => by cases h) parted_row_tie rfl ⟨rfl, rfl⟩ (by kernel_rfl) rfl
    (fun f fn hf hfn => by
      obtain rfl : f = 7 := Option.some.inj ((show Tryz.prog.funcNamed "sqlproof/sqlproofkeep.Parted" = some 7 by kernel_rfl).symm.trans hf) |>.symm
      obtain rfl : fn = Tryz.f7 := (Option.some.inj (Tryz.func7.symm.trans hfn)).symm
      exact ⟨by kernel_rfl, fun j t ht => by
        rw [Tryz.params7] at ht
        match j, ht with
        | 0, ht =>
          have h3 : t = 39 := by simpa using ht.symm
          subst h3
          exact (show Tryz.prog.wantsStandIn 39 = false by kernel_rfl)
        | 1, ht =>
          have h3 : t = 9 := by simpa using ht.symm
          subst h3
          exact (show Tryz.prog.wantsStandIn 9 = false by kernel_rfl)
        | j + 2, ht => simp at ht⟩)
    (by kernel_rfl)

#print axioms parted_holds

end Go.Proofs.YteibbdilhpdknaaGreatDoor
