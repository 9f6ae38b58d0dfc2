import Derived.Test.YtamkfbelpfpjcaaGreatDoorHl
import Derived.Test.YtamkfbelpfpjcaaGreatDoorHh
set_option linter.unusedVariables false
set_option linter.unusedSimpArgs false

namespace Go.Proofs.YtamkfbelpfpjcaaGreatDoor
open Go.RowKit

/-- The server lies in block sb: its width, its tree. -/
def SrvAt (sb : Nat) (w : World) (wide : Nat) (x : Sq.Tree) : Prop :=
  ∃ ev cv, w.heap[sb]? = some (.cells (#[.int .i64 wide] ++ (nodeCells x.d (x.t, ev, cv)).toArray) 48) ∧ NodeAt w x.d x.t ev cv

set_option maxRecDepth 100000 in
set_option maxHeartbeats 400000 in
theorem New_any (wide : Nat) (w : World) (h1 : 1 ≤ wide) (h2 : wide ≤ 32) :
    Calls Tryz.prog 9 #[.int .i64 wide] w fun e w' => e = .returned (.tuple #[.pointer (some ⟨w.heap.size, 0, none⟩), .int .i64 0]) ∧ SrvAt w.heap.size w' wide Sq.tree0 ∧ Below w.heap.size w w' := by
  have i1 : decide ((wide : Int) < 1) = false := by simp; omega
  have i2 : decide ((32 : Int) < (wide : Int)) = false := by simp; omega
  go_enter Tryz.func9, Tryz.ntmps9
  go_wp2
  go_ret2
  refine ⟨rfl, ⟨.slice none 0 0, .slice none 0 0, ?_, ?_⟩, ?_⟩
  · exact alloc_here _ _
  · exact ⟨rfl, World.ownsRow_nil _ _ _ _⟩
  · exact (Below.refl _ _).alloc (Nat.le_refl _) _

end Go.Proofs.YtamkfbelpfpjcaaGreatDoor

namespace Go.Proofs.YtamkfbelpfpjcaaGreatDoor
open Go.RowKit

theorem srv_cells {sb : Nat} {w : World} {a0 a1 a2 a3 a4 a5 : Value} (h : w.heap[sb]? = some (.cells #[a0, a1, a2, a3, a4, a5] 48)) :
    w.cell? ⟨sb, 0, none⟩ = some a0 ∧ w.cell? ⟨sb, 1, none⟩ = some a1 ∧ w.cell? ⟨sb, 2, none⟩ = some a2 ∧ w.cell? ⟨sb, 3, none⟩ = some a3 ∧ w.cell? ⟨sb, 4, none⟩ = some a4 ∧ w.cell? ⟨sb, 5, none⟩ = some a5 :=
  ⟨by rw [cell_blk h]; rfl, by rw [cell_blk h]; rfl, by rw [cell_blk h]; rfl, by rw [cell_blk h]; rfl, by rw [cell_blk h]; rfl, by rw [cell_blk h]; rfl⟩

set_option maxRecDepth 100000 in
set_option maxHeartbeats 1000000 in
theorem SrvRoot_any (sb wide : Nat) (x : Sq.Tree) (w : World) (hw : wide ≤ 32) (h : SrvAt sb w wide x) (ho : Sq.okT x.d x.t) (hl : (Sq.ents x.d x.t).length ≤ 100) (hs : ∀ e ∈ Sq.ents x.d x.t, e.row.size ≤ 1000) (hR : Rnd w) :
    Calls Tryz.prog 11 #[.pointer (some ⟨sb, 0, none⟩)] w fun e w' => e = .returned (.string (Sq.digT wide x.d x.t)) ∧ Below w.heap.size w w' := by
  obtain ⟨ev, cv, hblk, hn⟩ := h
  obtain ⟨⟨e1, e2, e3, hev⟩, k1, k2, k3, hcv⟩ := hn.slices
  subst hev hcv
  have hb2 : w.heap[sb]? = some (.cells #[.int .i64 wide, .bool (x.d != 0), .slice e1 e2 e3, .slice k1 k2 k3, .int .i64 (Sq.least x.d x.t), .int .i64 ((Sq.ents x.d x.t).length : Nat)] 48) := hblk
  obtain ⟨c0, c1, c2, c3, c4, c5⟩ := srv_cells hb2
  have hz := lt_blk hb2
  have hk : ∀ w', Below w.heap.size w w' → Calls Tryz.prog 17 #[.agg #[.bool (x.d != 0), .slice e1 e2 e3, .slice k1 k2 k3, .int .i64 (Sq.least x.d x.t), .int .i64 ((Sq.ents x.d x.t).length : Nat)], .int .i64 wide] w' fun e w'' => e = .returned (.string (Sq.digT wide x.d x.t)) ∧ Below w'.heap.size w' w'' := fun w' hb => StoreRoot_any wide hw x.d x.t _ _ w' (hn.below hb) ho hl hs (hR.below hb)
  have HK := hd hk
  clear hk hn hblk hb2 ho hl hs hR
  generalize Sq.least x.d x.t = q3 at *
  generalize (Sq.ents x.d x.t).length = q4 at *
  generalize Sq.digT wide x.d x.t = dg at *
  generalize (x.d != 0) = bn at *
  go_enter Tryz.func11, Tryz.ntmps11
  go_wp2
  go_region_with (go_at_call 17; refine (HK.out _ (Below.drew (Below.refl _ _))).mono ?_; rintro e w5 ⟨rfl, hb5⟩; have HB5 : Hid (Below w.heap.size w w5) := (Below.drew (Below.refl _ _)).trans hb5; clear hb5)
  all_goals (try go_wp2)
  all_goals
    go_ret
    exact ⟨rfl, HB5.out⟩

end Go.Proofs.YtamkfbelpfpjcaaGreatDoor
