import Derived.Test.YtamkfbelpfpjcaaGreatDoorTie
import Derived.Test.YtamkfbelpfpjcaaGreatDoorCards
import Derived.SevenTiedAt
import Derived.Test.YtamkfbelpfpjcaaGreatDoorKb
import Derived.Test.YtamkfbelpfpjcaaGreatDoorHy
set_option linter.unusedVariables false
set_option linter.unusedSimpArgs false

namespace Go.Proofs.YtamkfbelpfpjcaaGreatDoor
open Go

theorem filled_said : Rows.FilledSaid :=
  OpenClaim.holds_of_wide 4 Tryz.f4 rfl rfl rfl rfl rfl rfl rfl ⟨rfl, rfl, rfl, rfl, rfl⟩ rfl rfl rfl rfl rfl (by kernel_rfl) Tryz.func4 (by kernel_rfl)
    (of_decide_eq_true (by kernel_rfl)) (by unfold Func.isWrapper; rw [if_neg (of_decide_eq_false (by kernel_rfl))]; exact ⟨rfl, rfl⟩)
    (fun os started H enc _ => filled_lifted filled_any os started H enc)

theorem filled_holds : Rows.FilledCardSaid :=
  Claim7.holds_tied_plain_at .later [] [.data, .data, .data, .data] true (true, "2250d5aba36f6209a0f1adc7888f9341130a59390c54563529825b807c622310") false
    filled_said (fun _ h => by cases h) (by kernel_rfl) (fun _ h => by cases h) filled_row_tie rfl ⟨rfl, rfl⟩ (by kernel_rfl) rfl
    (fun f fn hf hfn => by
      obtain rfl : f = 4 := Option.some.inj ((show Tryz.prog.funcNamed "sqlproof/sqlproofkeep.Filled" = some 4 by kernel_rfl).symm.trans hf) |>.symm
      obtain rfl : fn = Tryz.f4 := (Option.some.inj (Tryz.func4.symm.trans hfn)).symm
      exact ⟨by kernel_rfl, fun j t ht => by
        rw [Tryz.params4] at ht
        have h3 : t = 3 := by
          rcases j with _ | j
          · simpa using ht.symm
          · simp at ht
        subst h3
        exact (show Tryz.prog.wantsStandIn 3 = false by kernel_rfl)⟩)
    (by kernel_rfl)

#print axioms filled_holds
end Go.Proofs.YtamkfbelpfpjcaaGreatDoor
