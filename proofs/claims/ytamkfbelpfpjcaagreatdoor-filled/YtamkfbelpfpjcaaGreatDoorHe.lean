import Derived.Test.YtamkfbelpfpjcaaGreatDoorHc
set_option linter.unusedVariables false
set_option linter.unusedSimpArgs false

namespace Go.Proofs.YtamkfbelpfpjcaaGreatDoor
open Go.RowKit

theorem three_stores {w W : World} {a b c : Obj} (h : W = ((w.alloc a).alloc b).alloc c) : Below w.heap.size w W ∧ W.heap[w.heap.size]? = some a ∧ W.heap[w.heap.size + 1]? = some b ∧ W.heap[w.heap.size + 1 + 1]? = some c := by
  subst h
  obtain ⟨h1, h2, h3⟩ := two_stores (W := (w.alloc a).alloc b) rfl
  have hs : ((w.alloc a).alloc b).heap.size = w.heap.size + 1 + 1 := by simp
  have hb := (Below.refl ((w.alloc a).alloc b).heap.size ((w.alloc a).alloc b)).alloc (Nat.le_refl _) c
  refine ⟨h1.trans (hb.mono (by omega)), (hb.block _ (by omega)).trans h2, (hb.block _ (by omega)).trans h3, ?_⟩
  rw [← hs]; exact alloc_here _ _
theorem Sq.keyOf_bd {row : List Sq.Val} (h : ∀ v ∈ row, v.text.size ≤ 1000 ∧ -100000000000 ≤ v.number ∧ v.number ≤ 100000000000) : -100000000000 ≤ Sq.keyOf row ∧ Sq.keyOf row ≤ 100000000000 := by
  cases row with
  | nil => exact ⟨by decide, by decide⟩
  | cons v r => exact (h v (by simp)).2

set_option maxRecDepth 100000 in
set_option maxHeartbeats 1000000 in
theorem StorePut_any (x : Sq.Tree) (ev cv : Value) (tb : Int) (row : List Sq.Val) (rv : Value) (w : World) (h : NodeAt w x.d x.t ev cv) (ho : x.ok) (hl : (Sq.ents x.d x.t).length ≤ 500) (ht0 : 0 ≤ tb) (ht1 : tb ≤ 100000) (hr : RowAt w rv row) (hrl : row.length ≤ 1000) (hrs : ∀ v ∈ row, v.text.size ≤ 1000 ∧ -100000000000 ≤ v.number ∧ v.number ≤ 100000000000) :
    Calls Tryz.prog 35 #[.agg (nodeCells x.d (x.t, ev, cv)).toArray, .int .i64 tb, .agg #[rv]] w (NodeOut w (x.put ⟨Sq.placeOf tb (Sq.keyOf row), Sq.ofCells row⟩)) := by
  rw [nodeCells_arr]
  obtain ⟨⟨e1, e2, e3, hev⟩, c1, c2, c3, hcv⟩ := h.slices
  subst hev hcv
  obtain ⟨ro, rcap, rfl⟩ := ownsRow_slice hr.1
  have HR := hd hr
  have HRS := hd hrs
  have hkb := Sq.keyOf_bd hrs
  have HK : Hid (∀ w' p r, Below w.heap.size w w' → Calls Tryz.prog 60 #[.agg #[.bool (x.d != 0), .slice e1 e2 e3, .slice c1 c2 c3, .int .i64 (Sq.least x.d x.t), .int .i64 ((Sq.ents x.d x.t).length : Nat)], .int .i64 p, .string r] w' (NodeOut w' (x.put ⟨p, r⟩))) := fun w' p r hb => Put_any x.d x.t _ _ p r w' (h.below hb) ho hl
  clear h ho hl hr hrs
  obtain ⟨key, hkey⟩ : ∃ k, k = Sq.keyOf row := ⟨_, rfl⟩
  rw [← hkey] at hkb ⊢
  have HKEY := hd hkey
  obtain ⟨hkb0, hkb1⟩ := hkb
  clear hkey
  generalize Sq.least x.d x.t = q3 at *
  generalize (Sq.ents x.d x.t).length = q4 at *
  generalize (x.d != 0) = bn at *
  go_enter Tryz.func35, Tryz.ntmps35
  obtain ⟨W, hW⟩ : ∃ W : World, W = ((w.alloc (.cells #[.bool bn, .slice e1 e2 e3, .slice c1 c2 c3, .int .i64 q3, .int .i64 q4] 46)).alloc (.cells #[.slice ro row.length rcap] 87)).alloc (.cells #[.bool false, .slice none 0 0, .slice none 0 0, .int .i64 0, .int .i64 0] 46) := ⟨_, rfl⟩
  obtain ⟨hbW, hbox, hbx2, hblk⟩ := three_stores hW
  have hzW := lt_blk hblk
  have HBW := hd hbW
  have HBOX := hd hbox
  have HBX2 := hd hbx2
  have HBLK := hd hblk
  clear hbW hblk hbox hbx2
  go_wp2_with fail
  rw [← hW]
  clear hW
  refine (Key_any row _ _ (HR.out.below HBW.out)).mono ?_
  rintro e w1 ⟨rfl, hb1⟩
  rw [← HKEY.out]
  have hbox1 := (hb1.block w.heap.size (by omega)).trans HBOX.out
  have hbx1 := (hb1.block (w.heap.size + 1) (by omega)).trans HBX2.out
  have hblk1 := (hb1.block (w.heap.size + 1 + 1) (by omega)).trans HBLK.out
  have HB1 := hd (HBW.out.trans (hb1.mono (by omega)))
  have hz1 := lt_blk hblk1
  have c0 : w1.cell? ⟨w.heap.size + 1, 0, none⟩ = some (.slice ro row.length rcap) := by rw [cell_blk hbx1]; rfl
  obtain ⟨k0, k1, k2, k3, k4⟩ := store5 hbox1
  have HBOX1 := hd hbox1
  have HBLK1 := hd hblk1
  clear hb1 hbox1 hbx1 hblk1 HBOX HBX2 HBLK
  go_wp2_with fail
  refine (Place_any _ _ _ (by omega) (by omega) (by omega) (by omega)).mono ?_
  rintro e w5 ⟨rfl, hw5⟩
  rw [hw5]
  clear hw5 w5
  go_wp2
  go_region_with (first
    | (go_at_call 62; refine (OfCells_any row _ _ ((HR.out.below HB1.out).below (Below.drew (Below.refl _ _))).1 hrl HRS.out).mono ?_; rintro e w2 ⟨rfl, hb2⟩; have hb2' : Below w1.heap.size w1 w2 := (Below.drew (Below.refl _ _)).trans hb2; obtain ⟨m0, m1, m2, m3, m4⟩ := store5 ((hb2'.block w.heap.size (by omega)).trans HBOX1.out); have hz2 := hb2'.size; have hz2' : w.heap.size < w2.heap.size := (by omega); have HB2 := hd hb2'; clear hb2 hb2')
    | (go_at_call 60; refine (HK.out _ _ _ (HB1.out.trans (HB2.out.mono (by omega)))).mono ?_; rintro e w5 ⟨ev5, cv5, rfl, hn5, hb5⟩; rw [nodeCells_arr]; obtain ⟨⟨g1, g2, g3, hev⟩, j1, j2, j3, hcv⟩ := hn5.slices; subst hev hcv; have hblk := (hb5.block (w.heap.size + 1 + 1) (by omega)).trans ((HB2.out.block (w.heap.size + 1 + 1) (by omega)).trans HBLK1.out); obtain ⟨b0, b1, b2, b3, b4⟩ := store_cells hblk; obtain ⟨f0, f1, f2, f3, f4⟩ := store_frozen hblk; have hz5 := lt_blk hblk; have HB5 := hd (HB1.out.trans ((HB2.out.mono (by omega)).trans (hb5.mono (by omega)))); have HN5 := hd hn5; have HBL := hd hblk; clear hb5 hn5 hblk))
  all_goals (try go_wp2)
  all_goals
    refine bodyPost_ret (v := .agg (nodeCells (x.put ⟨Sq.placeOf tb key, Sq.ofCells row⟩).d ((x.put ⟨Sq.placeOf tb key, Sq.ofCells row⟩).t, .slice g1 g2 g3, .slice j1 j2 j3)).toArray) (by simp [results, Tryz.results35, go_sem, nodeCells, *]) rfl ⟨_, _, rfl, ?_, ?_⟩
    · exact NodeAt.skipS (b := w.heap.size + 1 + 1) HN5.out HBL.out fun g hg => set5_other _ _ _ _ _ _ _ hg
    · exact set5_below HB5.out (by omega) _ _ _ _ _

end Go.Proofs.YtamkfbelpfpjcaaGreatDoor
