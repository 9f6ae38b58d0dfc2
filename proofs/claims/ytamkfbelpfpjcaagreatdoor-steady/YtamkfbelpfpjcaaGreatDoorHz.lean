import Derived.Test.YtamkfbelpfpjcaaGreatDoorTie
import Derived.Test.YtamkfbelpfpjcaaGreatDoorCards
import Derived.SevenTiedAt
import Derived.Test.YtamkfbelpfpjcaaGreatDoorHx
import Derived.Test.YtamkfbelpfpjcaaGreatDoorHy
set_option linter.unusedVariables false
set_option linter.unusedSimpArgs false

namespace Go.Proofs.YtamkfbelpfpjcaaGreatDoor
open Go

theorem steady_said : Rows.SteadySaid :=
  OpenClaim.holds_of_wide 3 Tryz.f3 rfl rfl rfl rfl rfl rfl rfl ⟨rfl, rfl, rfl, rfl, rfl⟩ rfl rfl rfl rfl rfl (by kernel_rfl) Tryz.func3 (by kernel_rfl)
    (of_decide_eq_true (by kernel_rfl)) (by unfold Func.isWrapper; rw [if_neg (of_decide_eq_false (by kernel_rfl))]; exact ⟨rfl, rfl⟩)
    (fun os started H enc _ => steady_lifted steady_any os started H enc)

theorem steady_holds : Rows.SteadyCardSaid :=
  Claim7.holds_tied_plain_at .later [] [.data, .data, .data, .data] true (true, "2250d5aba36f6209a0f1adc7888f9341130a59390c54563529825b807c622310") false
    steady_said (fun _ h => by cases h) (by kernel_rfl) (fun _ h => by cases h) steady_row_tie rfl ⟨rfl, rfl⟩ (by kernel_rfl) rfl
    (fun f fn hf hfn => by
      obtain rfl : f = 3 := Option.some.inj ((show Tryz.prog.funcNamed "sqlproof/sqlproofkeep.Steady" = some 3 by kernel_rfl).symm.trans hf) |>.symm
      obtain rfl : fn = Tryz.f3 := (Option.some.inj (Tryz.func3.symm.trans hfn)).symm
      exact ⟨by kernel_rfl, fun j t ht => by
        rw [Tryz.params3] at ht
        match j, ht with
        | 0, ht =>
          have h3 : t = 3 := by simpa using ht.symm
          subst h3
          exact (show Tryz.prog.wantsStandIn 3 = false by kernel_rfl)
        | 1, ht =>
          have h3 : t = 22 := by simpa using ht.symm
          subst h3
          exact (show Tryz.prog.wantsStandIn 22 = false by kernel_rfl)
        | 2, ht =>
          have h3 : t = 9 := by simpa using ht.symm
          subst h3
          exact (show Tryz.prog.wantsStandIn 9 = false by kernel_rfl)
        | j + 3, ht => simp at ht⟩)
    (by kernel_rfl)

#print axioms steady_holds

end Go.Proofs.YtamkfbelpfpjcaaGreatDoor
