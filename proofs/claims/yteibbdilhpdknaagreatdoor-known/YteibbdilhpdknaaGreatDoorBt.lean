import Derived.Test.YteibbdilhpdknaaGreatDoorBr
import Derived.Test.YteibbdilhpdknaaGreatDoorBe
set_option linter.unusedVariables false
set_option linter.unusedSimpArgs false

namespace Go.Proofs.YteibbdilhpdknaaGreatDoor
open Go.RowKit

def strCells (l : List (ByteArray × ByteArray)) : List Value := l.flatMap fun p => [.string p.1, .string p.2]
theorem own_new (w : World) (e : TypeId) (size n : Nat) (cs : Array Value) (h : cs.size = n * size) (hn : n ≤ 1000) : (w.alloc (.cells cs e)).ownsRow w.heap.size e size (.slice (some ⟨w.heap.size, 0, none⟩) n n) n cs.toList := by
  refine ⟨by simpa using h, Or.inr ⟨w.heap.size, n, cs, rfl, Nat.le_refl _, heap_alloc_new w _, Nat.le_refl _, by unfold maxLen; omega, h, ?_⟩⟩
  exact List.take_of_length_le (by simp [h])
theorem strCells_one (l : List (ByteArray × ByteArray)) : ∀ u ∈ strCells l, u.oneCell' = true := by
  intro u hu
  obtain ⟨p, _, hp⟩ := List.mem_flatMap.1 hu
  simp at hp
  rcases hp with rfl | rfl <;> rfl
def Sq.lot (k : Nat) : List (ByteArray × ByteArray) := if k = 0 then Sq.lot0 else if k = 1 then Sq.lot1 else if k = 2 then Sq.lot2 else if k = 3 then Sq.lot3 else Sq.lot4
theorem Sq.lot_told (k : Nat) (hk : k < 5) : Sq.replies [] ((Sq.lot k).map Prod.fst) = (Sq.lot k).map fun p => p.2.data.toList := by
  rcases (show k = 0 ∨ k = 1 ∨ k = 2 ∨ k = 3 ∨ k = 4 by omega) with rfl | rfl | rfl | rfl | rfl
  · exact Sq.lot0_told
  · exact Sq.lot1_told
  · exact Sq.lot2_told
  · exact Sq.lot3_told
  · exact Sq.lot4_told
theorem Tryz.infopair : (Tryz.prog.info? 37).map (fun i => (i.zero, i.size, i.bytes)) = some (some (.agg #[.string ⟨#[]⟩, .string ⟨#[]⟩]), 2, 32) := by kernel_rfl
/-- Pairs of texts in memory. -/
def PairsAt (B : Nat) (w : World) (v : Value) (l : List (ByteArray × ByteArray)) : Prop := w.ownsRow B 37 2 v l.length (strCells l)

set_option maxRecDepth 100000 in
set_option maxHeartbeats 4000000 in
theorem lots0_any (w : World) : Calls Tryz.prog 14 #[.int .i64 0] w fun e w' => ∃ v, e = .returned v ∧ PairsAt w.heap.size w' v Sq.lot0 ∧ Below w.heap.size w w' := by
  obtain ⟨i0, hi, hz0, hz1, hz2⟩ := info_parts Tryz.infopair
  have HOWN : ∀ o, Hid (((w.alloc (.cells (strCells (Sq.lot0.take 4)).toArray 37)).alloc o).ownsRow w.heap.size 37 2 (.slice (some ⟨w.heap.size, 0, none⟩) 4 4) 4 (strCells (Sq.lot0.take 4))) := fun o => (own_new w 37 2 4 (strCells (Sq.lot0.take 4)).toArray rfl (by omega)).alloc o
  have HW : Hid (Below w.heap.size w (w.alloc (.cells (strCells (Sq.lot0.take 4)).toArray 37))) := (Below.refl _ _).alloc (Nat.le_refl _) _
  have hsz : (w.alloc (.cells (strCells (Sq.lot0.take 4)).toArray 37)).heap.size = w.heap.size + 1 := by simp
  have HSZ := hd hsz
  clear hsz
  go_enter Tryz.func14, Tryz.ntmps14
  go_wp2_with (at_builtin; refine wpList_append_lies _ rfl (.tmp 12) (.tmp 21) 31 rfl w.heap.size 37 i0 _ 2 32 Tryz.underlying31 hi hz0 hz1 hz2 rfl (by decide) _ 4 _ rfl (HOWN _).out ⟨w.heap.size + 1, 0, none⟩ 8 8 (strCells (Sq.lot0.drop 4)) rfl rfl (new_cells _ _ _ _ rfl HSZ.out.symm) (strCells_one _) (by decide) (by decide) (by decide) (by simp; omega) _ rfl ?_; intro gg cap3 w3 hown3 hgrow3 hat3 hlt3; have HO3 := hd hown3; have HG3 := hd hgrow3; clear hown3 hgrow3 hat3)
  go_ret
  refine ⟨_, rfl, HO3.out, ?_⟩
  exact (Below.alloc HW.out (by simp) _).trans (Tch.of_grown HG3.out (fun k hk => ((HOWN (.cells #[] 0)).out.lt k hk).1) (by simp; omega))

set_option maxRecDepth 100000 in
set_option maxHeartbeats 4000000 in
theorem lots1_any (w : World) : Calls Tryz.prog 14 #[.int .i64 1] w fun e w' => ∃ v, e = .returned v ∧ PairsAt w.heap.size w' v Sq.lot1 ∧ Below w.heap.size w w' := by
  obtain ⟨i0, hi, hz0, hz1, hz2⟩ := info_parts Tryz.infopair
  have HOWN : ∀ o, Hid (((w.alloc (.cells (strCells (Sq.lot1.take 4)).toArray 37)).alloc o).ownsRow w.heap.size 37 2 (.slice (some ⟨w.heap.size, 0, none⟩) 4 4) 4 (strCells (Sq.lot1.take 4))) := fun o => (own_new w 37 2 4 (strCells (Sq.lot1.take 4)).toArray rfl (by omega)).alloc o
  have HW : Hid (Below w.heap.size w (w.alloc (.cells (strCells (Sq.lot1.take 4)).toArray 37))) := (Below.refl _ _).alloc (Nat.le_refl _) _
  have hsz : (w.alloc (.cells (strCells (Sq.lot1.take 4)).toArray 37)).heap.size = w.heap.size + 1 := by simp
  have HSZ := hd hsz
  clear hsz
  go_enter Tryz.func14, Tryz.ntmps14
  go_wp2_with (at_builtin; refine wpList_append_lies _ rfl (.tmp 25) (.tmp 36) 31 rfl w.heap.size 37 i0 _ 2 32 Tryz.underlying31 hi hz0 hz1 hz2 rfl (by decide) _ 4 _ rfl (HOWN _).out ⟨w.heap.size + 1, 0, none⟩ 10 10 (strCells (Sq.lot1.drop 4)) rfl rfl (new_cells _ _ _ _ rfl HSZ.out.symm) (strCells_one _) (by decide) (by decide) (by decide) (by simp; omega) _ rfl ?_; intro gg cap3 w3 hown3 hgrow3 hat3 hlt3; have HO3 := hd hown3; have HG3 := hd hgrow3; clear hown3 hgrow3 hat3)
  go_ret
  refine ⟨_, rfl, HO3.out, ?_⟩
  exact (Below.alloc HW.out (by simp) _).trans (Tch.of_grown HG3.out (fun k hk => ((HOWN (.cells #[] 0)).out.lt k hk).1) (by simp; omega))

set_option maxRecDepth 100000 in
set_option maxHeartbeats 4000000 in
theorem lots2_any (w : World) : Calls Tryz.prog 14 #[.int .i64 2] w fun e w' => ∃ v, e = .returned v ∧ PairsAt w.heap.size w' v Sq.lot2 ∧ Below w.heap.size w w' := by
  obtain ⟨i0, hi, hz0, hz1, hz2⟩ := info_parts Tryz.infopair
  have HOWN : ∀ o, Hid (((w.alloc (.cells (strCells (Sq.lot2.take 4)).toArray 37)).alloc o).ownsRow w.heap.size 37 2 (.slice (some ⟨w.heap.size, 0, none⟩) 4 4) 4 (strCells (Sq.lot2.take 4))) := fun o => (own_new w 37 2 4 (strCells (Sq.lot2.take 4)).toArray rfl (by omega)).alloc o
  have HW : Hid (Below w.heap.size w (w.alloc (.cells (strCells (Sq.lot2.take 4)).toArray 37))) := (Below.refl _ _).alloc (Nat.le_refl _) _
  have hsz : (w.alloc (.cells (strCells (Sq.lot2.take 4)).toArray 37)).heap.size = w.heap.size + 1 := by simp
  have HSZ := hd hsz
  clear hsz
  go_enter Tryz.func14, Tryz.ntmps14
  go_wp2_with (at_builtin; refine wpList_append_lies _ rfl (.tmp 40) (.tmp 59) 31 rfl w.heap.size 37 i0 _ 2 32 Tryz.underlying31 hi hz0 hz1 hz2 rfl (by decide) _ 4 _ rfl (HOWN _).out ⟨w.heap.size + 1, 0, none⟩ 18 18 (strCells (Sq.lot2.drop 4)) rfl rfl (new_cells _ _ _ _ rfl HSZ.out.symm) (strCells_one _) (by decide) (by decide) (by decide) (by simp; omega) _ rfl ?_; intro gg cap3 w3 hown3 hgrow3 hat3 hlt3; have HO3 := hd hown3; have HG3 := hd hgrow3; clear hown3 hgrow3 hat3)
  go_ret
  refine ⟨_, rfl, HO3.out, ?_⟩
  exact (Below.alloc HW.out (by simp) _).trans (Tch.of_grown HG3.out (fun k hk => ((HOWN (.cells #[] 0)).out.lt k hk).1) (by simp; omega))

set_option maxRecDepth 100000 in
set_option maxHeartbeats 4000000 in
theorem lots3_any (w : World) : Calls Tryz.prog 14 #[.int .i64 3] w fun e w' => ∃ v, e = .returned v ∧ PairsAt w.heap.size w' v Sq.lot3 ∧ Below w.heap.size w w' := by
  go_enter Tryz.func14, Tryz.ntmps14
  go_wp2
  go_ret
  refine ⟨_, rfl, ?_, ((Below.refl _ _).alloc (Nat.le_refl _) _).alloc (by simp) _⟩
  have h := own_new (w.alloc (.cells (strCells (Sq.lot0.take 4)).toArray 37)) 37 2 15 (strCells Sq.lot3).toArray rfl (by omega)
  rw [show (w.alloc (.cells (strCells (Sq.lot0.take 4)).toArray 37)).heap.size = w.heap.size + 1 from by simp] at h
  exact ownsRow_base h (by omega)

set_option maxRecDepth 100000 in
set_option maxHeartbeats 4000000 in
theorem lots4_any (w : World) : Calls Tryz.prog 14 #[.int .i64 4] w fun e w' => ∃ v, e = .returned v ∧ PairsAt w.heap.size w' v Sq.lot4 ∧ Below w.heap.size w w' := by
  go_enter Tryz.func14, Tryz.ntmps14
  go_wp2
  go_ret
  refine ⟨_, rfl, ?_, ((Below.refl _ _).alloc (Nat.le_refl _) _).alloc (by simp) _⟩
  have h := own_new (w.alloc (.cells (strCells (Sq.lot0.take 4)).toArray 37)) 37 2 2 (strCells Sq.lot4).toArray rfl (by omega)
  rw [show (w.alloc (.cells (strCells (Sq.lot0.take 4)).toArray 37)).heap.size = w.heap.size + 1 from by simp] at h
  exact ownsRow_base h (by omega)

end Go.Proofs.YteibbdilhpdknaaGreatDoor
