import Derived.Test.YtamkfbelpfpjcaaGreatDoorHa
import Derived.Test.YtamkfbelpfpjcaaGreatDoorGs
import Derived.Test.YtamkfbelpfpjcaaGreatDoorGw
set_option linter.unusedVariables false
set_option linter.unusedSimpArgs false

namespace Go.Proofs.YtamkfbelpfpjcaaGreatDoor
open Go.RowKit

set_option maxRecDepth 100000 in
set_option maxHeartbeats 1000000 in
theorem entries_any (n : Nat) (t : List (Sq.Kid n)) (ev cv : Value) (tb : Int) (w : World) (h : NodeAt w n t ev cv) (ho : Sq.okT n t) (hl : (Sq.ents n t).length ≤ 1000) (ht0 : 0 ≤ tb) (ht1 : tb ≤ 100000) :
    Calls Tryz.prog 42 #[.agg (nodeCells n (t, ev, cv)).toArray, .int .i64 tb] w (Found w (Sq.entsOf ⟨n, t⟩ tb)) := by
  rw [nodeCells_arr]
  obtain ⟨⟨e1, e2, e3, hev⟩, c1, c2, c3, hcv⟩ := h.slices
  subst hev hcv
  have hW : ∀ o, Below w.heap.size w (w.alloc o) := fun o => (Below.refl _ _).alloc (Nat.le_refl _) _
  have HK : Hid (∀ w' lo hi, Below w.heap.size w w' → Calls Tryz.prog 78 #[.agg #[.bool (n != 0), .slice e1 e2 e3, .slice c1 c2 c3, .int .i64 (Sq.least n t), .int .i64 ((Sq.ents n t).length : Nat)], .int .i64 lo, .int .i64 hi] w' (Found w' (Sq.btwT n t lo hi))) := fun w' lo hi hb => Between_any n t _ _ lo hi w' (h.below hb) ho hl
  have HE : Hid (Sq.entsOf ⟨n, t⟩ tb = Sq.btwT n t (Sq.placeOf tb (-2147483648)) (Sq.placeOf tb 2147483647)) := rfl
  have HW := hd hW
  clear h ho hl hW
  generalize Sq.least n t = q3 at *
  generalize (Sq.ents n t).length = q4 at *
  generalize (n != 0) = bn at *
  go_enter Tryz.func42, Tryz.ntmps42
  go_wp2
  go_region_with (first
    | (go_at_call 59; refine (Place_any _ _ _ (by omega) (by omega) (by omega) (by omega)).mono ?_; rintro e w5 ⟨rfl, hw5⟩; rw [hw5]; clear hw5 w5)
    | (go_at_call 78; refine (HK.out _ _ _ (HW.out _).drew).mono ?_; rintro e w5 ⟨v5, rfl, ho5, hn5, hb5⟩; obtain ⟨ao, acap, rfl⟩ := ownsRow_slice ho5; have HO5 := hd ho5; have HN5 := hd hn5; have HB5 := hd hb5; clear ho5 hn5 hb5))
  all_goals (try go_wp2)
  all_goals
    go_ret
    refine ⟨_, rfl, ?_, ?_, (HW.out _).drew.trans (HB5.out.mono (by simp))⟩
    · rw [HE.out]; exact HO5.out.base (by simp)
    · rw [HE.out]; exact HN5.out

end Go.Proofs.YtamkfbelpfpjcaaGreatDoor
