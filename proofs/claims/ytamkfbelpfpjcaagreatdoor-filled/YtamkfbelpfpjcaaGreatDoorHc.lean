import Derived.Test.YtamkfbelpfpjcaaGreatDoorHa
import Derived.Test.YtamkfbelpfpjcaaGreatDoorGs
import Derived.Test.YtamkfbelpfpjcaaGreatDoorGw
import Derived.Test.YtamkfbelpfpjcaaGreatDoorGh
set_option linter.unusedVariables false
set_option linter.unusedSimpArgs false

namespace Go.Proofs.YtamkfbelpfpjcaaGreatDoor
open Go.RowKit

set_option maxRecDepth 100000 in
set_option maxHeartbeats 1000000 in
theorem StoreHas_any (n : Nat) (t : List (Sq.Kid n)) (ev cv : Value) (tb k : Int) (w : World) (h : NodeAt w n t ev cv) (ho : Sq.okT n t) (hl : (Sq.ents n t).length ≤ 1000) (ht0 : 0 ≤ tb) (ht1 : tb ≤ 100000) (hk0 : -100000000000 ≤ k) (hk1 : k ≤ 100000000000) :
    Calls Tryz.prog 51 #[.agg (nodeCells n (t, ev, cv)).toArray, .int .i64 tb, .int .i64 k] w fun e w' => e = .returned (.bool (Sq.hasT n t (Sq.placeOf tb k))) ∧ Below w.heap.size w w' := by
  rw [nodeCells_arr]
  obtain ⟨⟨e1, e2, e3, hev⟩, c1, c2, c3, hcv⟩ := h.slices
  subst hev hcv
  have hW : ∀ o, Below w.heap.size w (w.alloc o) := fun o => (Below.refl _ _).alloc (Nat.le_refl _) _
  have HK : Hid (∀ w' p, Below w.heap.size w w' → Calls Tryz.prog 89 #[.agg #[.bool (n != 0), .slice e1 e2 e3, .slice c1 c2 c3, .int .i64 (Sq.least n t), .int .i64 ((Sq.ents n t).length : Nat)], .int .i64 p] w' fun e w'' => e = .returned (.bool (Sq.hasT n t p)) ∧ Below w'.heap.size w' w'') := fun w' p hb => Has_any n t _ _ p w' (h.below hb) ho hl
  have HW := hd hW
  clear h ho hl hW
  generalize Sq.least n t = q3 at *
  generalize (Sq.ents n t).length = q4 at *
  generalize (n != 0) = bn at *
  go_enter Tryz.func51, Tryz.ntmps51
  go_wp2
  go_region_with (first
    | (go_at_call 59; refine (Place_any _ _ _ (by omega) (by omega) (by omega) (by omega)).mono ?_; rintro e w5 ⟨rfl, hw5⟩; rw [hw5]; clear hw5 w5)
    | (go_at_call 89; refine (HK.out _ _ (HW.out _).drew).mono ?_; rintro e w5 ⟨rfl, hb5⟩; have HB5 := hd hb5; clear hb5))
  all_goals (try go_wp2)
  all_goals
    go_ret
    exact ⟨rfl, (HW.out _).drew.trans (HB5.out.mono (by simp))⟩

set_option maxRecDepth 100000 in
set_option maxHeartbeats 400000 in
theorem Size_any (n : Nat) (t : List (Sq.Kid n)) (ev cv : Value) (w : World) (h : NodeAt w n t ev cv) :
    Calls Tryz.prog 25 #[.agg (nodeCells n (t, ev, cv)).toArray] w fun e w' => e = .returned (.int .i64 ((Sq.ents n t).length : Nat)) ∧ Below w.heap.size w w' := by
  rw [nodeCells_arr]
  obtain ⟨⟨e1, e2, e3, hev⟩, c1, c2, c3, hcv⟩ := h.slices
  subst hev hcv
  have hW : ∀ o, Below w.heap.size w (w.alloc o) := fun o => (Below.refl _ _).alloc (Nat.le_refl _) _
  have HW := hd hW
  clear h hW
  generalize Sq.least n t = q3 at *
  generalize (Sq.ents n t).length = q4 at *
  generalize (n != 0) = bn at *
  go_enter Tryz.func25, Tryz.ntmps25
  go_wp2
  go_ret
  exact ⟨rfl, HW.out _⟩

end Go.Proofs.YtamkfbelpfpjcaaGreatDoor

namespace Go.Proofs.YtamkfbelpfpjcaaGreatDoor
open Go.RowKit

/-- A node as a value answers, with its memory. -/
def NodeOut (w : World) (x : Sq.Tree) (e : Ending) (w' : World) : Prop := ∃ ev cv, e = .returned (.agg (nodeCells x.d (x.t, ev, cv)).toArray) ∧ NodeAt w' x.d x.t ev cv ∧ Below w.heap.size w w'

theorem NodeAt.skipS : ∀ {n : Nat} {w w' : World} {t : List (Sq.Kid n)} {ev cv : Value} {b : Nat} {c : Array Value}, NodeAt w n t ev cv → w.heap[b]? = some (.cells c 46) → (∀ g, g ≠ b → w'.heap[g]? = w.heap[g]?) → NodeAt w' n t ev cv
  | 0, _, _, _, _, _, _, _, h, hb, ho => ⟨h.1, ownsRow_same h.2 fun g hg => ho g fun e => ownsRow_notin h.2 hb (by decide) (by rw [hg, e])⟩
  | _ + 1, _, _, _, _, _, _, _, h, hb, ho => by
    obtain ⟨h1, l, h2, h3, h4⟩ := h
    exact ⟨h1, l, h2, ownsRow_same h3 fun g hg => ho g fun e => ownsRow_notin h3 hb (by decide) (by rw [hg, e]), fun x hx => (h4 x hx).skipS hb ho⟩
theorem store_cells {w : World} {b : Nat} (h : w.heap[b]? = some (.cells node0 46)) :
    w.cell? ⟨b, 0, none⟩ = some (.bool false) ∧ w.cell? ⟨b, 1, none⟩ = some (.slice none 0 0) ∧ w.cell? ⟨b, 2, none⟩ = some (.slice none 0 0) ∧ w.cell? ⟨b, 3, none⟩ = some (.int .i64 0) ∧ w.cell? ⟨b, 4, none⟩ = some (.int .i64 0) :=
  ⟨by rw [cell_blk h]; rfl, by rw [cell_blk h]; rfl, by rw [cell_blk h]; rfl, by rw [cell_blk h]; rfl, by rw [cell_blk h]; rfl⟩
theorem store_frozen {w : World} {b : Nat} {c : Array Value} (h : w.heap[b]? = some (.cells c 46)) :
    w.frozen? ⟨b, 0, none⟩ = false ∧ w.frozen? ⟨b, 1, none⟩ = false ∧ w.frozen? ⟨b, 2, none⟩ = false ∧ w.frozen? ⟨b, 3, none⟩ = false ∧ w.frozen? ⟨b, 4, none⟩ = false :=
  ⟨frozen_blk h _, frozen_blk h _, frozen_blk h _, frozen_blk h _, frozen_blk h _⟩

theorem store5 {w : World} {b : Nat} {a0 a1 a2 a3 a4 : Value} (h : w.heap[b]? = some (.cells #[a0, a1, a2, a3, a4] 46)) :
    w.cell? ⟨b, 0, none⟩ = some a0 ∧ w.cell? ⟨b, 1, none⟩ = some a1 ∧ w.cell? ⟨b, 2, none⟩ = some a2 ∧ w.cell? ⟨b, 3, none⟩ = some a3 ∧ w.cell? ⟨b, 4, none⟩ = some a4 :=
  ⟨by rw [cell_blk h]; rfl, by rw [cell_blk h]; rfl, by rw [cell_blk h]; rfl, by rw [cell_blk h]; rfl, by rw [cell_blk h]; rfl⟩
theorem two_stores {w W : World} {a b : Obj} (h : W = (w.alloc a).alloc b) : Below w.heap.size w W ∧ W.heap[w.heap.size]? = some a ∧ W.heap[w.heap.size + 1]? = some b := by
  subst h
  refine ⟨((Below.refl _ _).alloc (Nat.le_refl _) _).alloc (by simp) _, ?_, ?_⟩
  · exact ((Below.refl (w.alloc a).heap.size (w.alloc a)).alloc (Nat.le_refl _) b).block w.heap.size (by simp) |>.trans (alloc_here _ _)
  · rw [← heap_alloc1 w a]; exact alloc_here _ _

set_option maxRecDepth 100000 in
set_option maxHeartbeats 1000000 in
theorem Cut_any (x : Sq.Tree) (ev cv : Value) (tb k : Int) (w : World) (h : NodeAt w x.d x.t ev cv) (ho : x.ok) (hl : (Sq.ents x.d x.t).length ≤ 500) (ht0 : 0 ≤ tb) (ht1 : tb ≤ 100000) (hk0 : -100000000000 ≤ k) (hk1 : k ≤ 100000000000) :
    Calls Tryz.prog 36 #[.agg (nodeCells x.d (x.t, ev, cv)).toArray, .int .i64 tb, .int .i64 k] w (NodeOut w (x.del (Sq.placeOf tb k))) := by
  rw [nodeCells_arr]
  obtain ⟨⟨e1, e2, e3, hev⟩, c1, c2, c3, hcv⟩ := h.slices
  subst hev hcv
  have hW : ∀ o, Below w.heap.size w (w.alloc o) := fun o => (Below.refl _ _).alloc (Nat.le_refl _) _
  have HK : Hid (∀ w' p, Below w.heap.size w w' → Calls Tryz.prog 63 #[.agg #[.bool (x.d != 0), .slice e1 e2 e3, .slice c1 c2 c3, .int .i64 (Sq.least x.d x.t), .int .i64 ((Sq.ents x.d x.t).length : Nat)], .int .i64 p] w' (NodeOut w' (x.del p))) := fun w' p hb => Delete_any x.d x.t _ _ p w' (h.below hb) ho hl
  have HW := hd hW
  clear h ho hl hW
  generalize Sq.least x.d x.t = q3 at *
  generalize (Sq.ents x.d x.t).length = q4 at *
  generalize (x.d != 0) = bn at *
  go_enter Tryz.func36, Tryz.ntmps36
  go_wp2
  obtain ⟨W, hW⟩ : ∃ W : World, W = (w.alloc (.cells #[.bool bn, .slice e1 e2 e3, .slice c1 c2 c3, .int .i64 q3, .int .i64 q4] 46)).alloc (.cells #[.bool false, .slice none 0 0, .slice none 0 0, .int .i64 0, .int .i64 0] 46) := ⟨_, rfl⟩
  rw [← hW]
  obtain ⟨hbW, hbox, hblk⟩ := two_stores hW
  obtain ⟨k0, k1, k2, k3, k4⟩ := store5 hbox
  have hzW := lt_blk hblk
  have hzB := lt_blk hbox
  have HBW := hd hbW
  have HBLK := hd hblk
  clear hbW hblk hbox hW
  go_region_with (first
    | (go_at_call 59; refine (Place_any _ _ _ (by omega) (by omega) (by omega) (by omega)).mono ?_; rintro e w5 ⟨rfl, hw5⟩; rw [hw5]; clear hw5 w5)
    | (go_at_call 63; refine (HK.out _ _ HBW.out.drew).mono ?_; rintro e w5 ⟨ev5, cv5, rfl, hn5, hb5⟩; rw [nodeCells_arr]; obtain ⟨⟨g1, g2, g3, hev⟩, j1, j2, j3, hcv⟩ := hn5.slices; subst hev hcv; have hb6 : Below W.heap.size W w5 := (Below.drew (Below.refl _ _)).trans hb5; have hblk := (hb6.block (w.heap.size + 1) hzW).trans HBLK.out; obtain ⟨b0, b1, b2, b3, b4⟩ := store_cells hblk; obtain ⟨f0, f1, f2, f3, f4⟩ := store_frozen hblk; have hz5 := lt_blk hblk; have HB5 := hd (HBW.out.trans (hb6.mono (by omega))); have HN5 := hd hn5; have HBL := hd hblk; clear hb5 hb6 hn5 hblk))
  all_goals (try go_wp2)
  all_goals
    refine bodyPost_ret (v := .agg (nodeCells (x.del (Sq.placeOf tb k)).d ((x.del (Sq.placeOf tb k)).t, .slice g1 g2 g3, .slice j1 j2 j3)).toArray) (by simp [results, Tryz.results36, go_sem, nodeCells, *]) rfl ⟨_, _, rfl, ?_, ?_⟩
    · exact NodeAt.skipS (b := w.heap.size + 1) HN5.out HBL.out fun g hg => set5_other _ _ _ _ _ _ _ hg
    · exact set5_below HB5.out (by omega) _ _ _ _ _

end Go.Proofs.YtamkfbelpfpjcaaGreatDoor
