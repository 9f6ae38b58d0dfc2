import Derived.Test.YtamkfbelpfpjcaaGreatDoorHd
import Derived.Test.YtamkfbelpfpjcaaGreatDoorHc
set_option linter.unusedVariables false
set_option linter.unusedSimpArgs false

namespace Go.Proofs.YtamkfbelpfpjcaaGreatDoor
open Go.RowKit

namespace Sq
def lastN (m : Int) (l : List TabN) : Int := l.foldl (fun m t => if m < t.number then t.number else m) m
def Tree.make (x : Tree) (name : ByteArray) (cols : List Col) : Tree := x.put ⟨placeOf 0 (lastN 0 (tabsOf x) + 1), ofTable name cols⟩
theorem keyAt_bd (p : Int) : -2147483648 ≤ keyAt p ∧ keyAt p ≤ 2147483647 := by unfold keyAt; omega
theorem tabOf_bd {e : Ent} {t : TabN} (h : tabOf e = some t) : -2147483648 ≤ t.number ∧ t.number ≤ 2147483647 := by
  unfold tabOf at h
  cases h2 : toTable e.row with
  | none => rw [h2] at h; cases h
  | some y => rw [h2] at h; cases h; exact keyAt_bd e.place
theorem tabsOf_bd (x : Tree) : ∀ t ∈ tabsOf x, -2147483648 ≤ t.number ∧ t.number ≤ 2147483647 := by
  intro t ht
  obtain ⟨e, _, h⟩ := List.mem_filterMap.1 ht
  exact tabOf_bd h
theorem lastN_drop (l : List TabN) (k : Nat) (h : k < l.length) (m : Int) : lastN m (l.drop k) = lastN (if m < l[k].number then l[k].number else m) (l.drop (k + 1)) := by
  unfold lastN
  rw [List.drop_eq_getElem_cons h, List.foldl_cons]
end Sq

set_option maxRecDepth 100000 in
set_option maxHeartbeats 2000000 in
theorem Make_any (x : Sq.Tree) (ev cv : Value) (name : ByteArray) (cols : List Sq.Col) (tv : Value) (w : World) (h : NodeAt w x.d x.t ev cv) (ho : x.ok) (hl : (Sq.ents x.d x.t).length ≤ 500) (hes : (Sq.entsOf x 0).length ≤ 500) (hrow : ∀ e ∈ Sq.entsOf x 0, e.row.size ≤ 1000 ∧ 0 ≤ e.place)
    (htc : ColsAt w tv cols) (htl : cols.length ≤ 1000) (hnm : name.size ≤ 1000) (hcn : ∀ c ∈ cols, c.name.size ≤ 1000) :
    Calls Tryz.prog 34 #[.agg (nodeCells x.d (x.t, ev, cv)).toArray, .string name, tv] w (NodeOut w (x.make name cols)) := by
  rw [nodeCells_arr]
  obtain ⟨⟨e1, e2, e3, hev⟩, c1, c2, c3, hcv⟩ := h.slices
  subst hev hcv
  obtain ⟨to', tcap, rfl⟩ := ownsRow_slice htc.1
  have HT : Hid (∀ w', Below w.heap.size w w' → Calls Tryz.prog 23 #[.agg #[.bool (x.d != 0), .slice e1 e2 e3, .slice c1 c2 c3, .int .i64 (Sq.least x.d x.t), .int .i64 ((Sq.ents x.d x.t).length : Nat)]] w' (TabsPost w' (Sq.tabsOf x))) := fun w' hb => Tables_any x.d x.t _ _ w' (h.below hb) ho.kids hl hes hrow
  have HK : Hid (∀ w' p r, Below w.heap.size w w' → Calls Tryz.prog 60 #[.agg #[.bool (x.d != 0), .slice e1 e2 e3, .slice c1 c2 c3, .int .i64 (Sq.least x.d x.t), .int .i64 ((Sq.ents x.d x.t).length : Nat)], .int .i64 p, .string r] w' (NodeOut w' (x.put ⟨p, r⟩))) := fun w' p r hb => Put_any x.d x.t _ _ p r w' (h.below hb) ho hl
  have HE : Hid (x.make name cols = x.put ⟨Sq.placeOf 0 (Sq.lastN 0 (Sq.tabsOf x) + 1), Sq.ofTable name cols⟩) := rfl
  have hbd := Sq.tabsOf_bd x
  have ht := HT.out
  have he := HE.out
  clear h ho hl HT HE hes hrow
  generalize Sq.tabsOf x = ts at *
  generalize Sq.least x.d x.t = q3 at *
  generalize (Sq.ents x.d x.t).length = q4 at *
  generalize (x.d != 0) = bn at *
  have HT := hd ht
  have HE := hd he
  have HBD := hd hbd
  have HTC := hd htc
  have HCN := hd hcn
  clear ht he hbd htc hcn
  obtain ⟨W, hW⟩ : ∃ W : World, W = (w.alloc (.cells #[.bool bn, .slice e1 e2 e3, .slice c1 c2 c3, .int .i64 q3, .int .i64 q4] 46)).alloc (.cells #[.bool false, .slice none 0 0, .slice none 0 0, .int .i64 0, .int .i64 0] 46) := ⟨_, rfl⟩
  obtain ⟨hbW, hbox, hblk⟩ := two_stores hW
  have hzW := lt_blk hblk
  have HBW := hd hbW
  have HBLK := hd hblk
  have HBOX := hd hbox
  clear hbW hblk hbox
  go_enter Tryz.func34, Tryz.ntmps34
  go_wp2_with fail
  rw [← hW]
  clear hW
  refine (HT.out _ HBW.out).mono ?_
  rintro e w1 ⟨v1, l, rfl, hls, hT, hb1⟩
  obtain ⟨ao, acap, rfl⟩ := ownsRow_slice hT.own
  have hz01 := hb1.size
  have HB1 := hd (HBW.out.trans (hb1.mono (by omega)))
  have HBLK1 := hd ((hb1.block (w.heap.size + 1) hzW).trans HBLK.out)
  have HBOX1 := hd ((hb1.block w.heap.size (by omega)).trans HBOX.out)
  have HT1 : Hid (TabsOwn 0 w1 (.slice ao l.length acap) l) := hT.base (Nat.zero_le _)
  have hz1 := HB1.out.size
  have hzt := lt_blk HBLK1.out
  have hlf := hT.few
  have HLS := hd hls
  clear hT hb1 HBLK HBOX hls
  obtain ⟨k0, k1, k2, k3, k4⟩ := store5 HBOX1.out
  go_wp2
  go_loop [8, 9] (fun m i => ∃ (k : Nat) (mm : Int), m = .int .i64 mm ∧ i = .int .i64 k ∧ k ≤ l.length ∧ 0 ≤ mm ∧ mm ≤ 2147483647 ∧ Hid (Sq.lastN 0 ts = Sq.lastN mm (ts.drop k))) (fun _ i => l.length - (intOf i).toNat)
  case atStart => exact ⟨0, 0, rfl, rfl, Nat.zero_le _, by decide, by decide, rfl⟩
  case round =>
    obtain ⟨k, mm, rfl, rfl, hk, hm0, hm1, HQ⟩ := hrel
    by_cases hkt : k < l.length
    · obtain ⟨g, cap', ca, cc, hv, hg, d0, d1, d2, d3⟩ := HT1.out.at k hkt
      simp only [Value.slice.injEq] at hv
      obtain ⟨rfl, -, rfl⟩ := hv
      have hkts : k < ts.length := by rw [← HLS.out, List.length_map]; exact hkt
      have hq := HQ.out
      rw [Sq.lastN_drop ts k hkts] at hq
      have hnb := HBD.out ts[k] (List.getElem_mem hkts)
      have hee : ts[k] = l[k].1 := by simp only [← HLS.out, List.getElem_map]
      rw [hee] at hq hnb
      clear d1 d2 d3 HQ hee
      generalize l[k].1.number = nn at *
      obtain ⟨hn0, hn1⟩ := hnb
      have i1 : (k : Int) < (l.length : Int) := by omega
      have i2 : ¬ ((l.length : Int) ≤ (k : Int)) := by omega
      have i0 : ¬ ((k : Int) < 0) := by omega
      by_cases hmn : mm < nn
      · rw [if_pos hmn] at hq
        have i3 : decide (mm < nn) = true := by simpa using hmn
        have HQ := hd hq
        clear hq
        go_wp2
        go_round
        case rel => exact ⟨k + 1, nn, rfl, by go_num, by omega, by omega, by omega, HQ⟩
        case measure => simp [intOf]; omega
      · rw [if_neg hmn] at hq
        have i3 : decide (mm < nn) = false := by simpa using hmn
        have HQ := hd hq
        clear hq
        go_wp2
        go_round
        case rel => exact ⟨k + 1, mm, rfl, by go_num, by omega, by omega, by omega, HQ⟩
        case measure => simp [intOf]; omega
    · have HN : Hid (Sq.lastN 0 ts = mm) := by show _ = _; rw [HQ.out, List.drop_eq_nil_of_le (by rw [← HLS.out, List.length_map]; omega)]; rfl
      have HE2 : Hid (x.make name cols = x.put ⟨Sq.placeOf 0 (mm + 1), Sq.ofTable name cols⟩) := by show _ = _; rw [HE.out, HN.out]
      have i1 : ¬ ((k : Int) < (l.length : Int)) := by omega
      clear HQ HE HN
      go_wp2_with fail
      refine (Place_any _ _ _ (by omega) (by omega) (by omega) (by omega)).mono ?_
      rintro e w5 ⟨rfl, hw5⟩
      rw [hw5]
      clear hw5 w5
      go_wp2
      go_region_with (first
        | (go_at_call 61; refine (OfTable_any name cols _ _ ((HTC.out.below HB1.out).below (Below.drew (Below.refl _ _))) htl hnm HCN.out).mono ?_; rintro e w2 ⟨rfl, hb2⟩; have hb2' : Below w1.heap.size w1 w2 := (Below.drew (Below.refl _ _)).trans hb2; obtain ⟨m0, m1, m2, m3, m4⟩ := store5 ((hb2'.block w.heap.size (by omega)).trans HBOX1.out); have hz2 := hb2'.size; have hz2' : w.heap.size < w2.heap.size := (by omega); have HB2 := hd hb2'; clear hb2 hb2')
        | (go_at_call 60; refine (HK.out _ _ _ (HB1.out.trans (HB2.out.mono (by omega)))).mono ?_; rintro e w5 ⟨ev5, cv5, rfl, hn5, hb5⟩; rw [nodeCells_arr]; obtain ⟨⟨g1, g2, g3, hev⟩, j1, j2, j3, hcv⟩ := hn5.slices; subst hev hcv; have hblk := (hb5.block (w.heap.size + 1) (by omega)).trans ((HB2.out.block (w.heap.size + 1) (by omega)).trans HBLK1.out); obtain ⟨b0, b1, b2, b3, b4⟩ := store_cells hblk; obtain ⟨f0, f1, f2, f3, f4⟩ := store_frozen hblk; have hz5 := lt_blk hblk; have HB5 := hd (HB1.out.trans ((HB2.out.mono (by omega)).trans (hb5.mono (by omega)))); have HN5 := hd hn5; have HBL := hd hblk; clear hb5 hn5 hblk))
      all_goals (try go_wp2)
      all_goals
        refine bodyPost_ret (v := .agg (nodeCells (x.put ⟨Sq.placeOf 0 (mm + 1), Sq.ofTable name cols⟩).d ((x.put ⟨Sq.placeOf 0 (mm + 1), Sq.ofTable name cols⟩).t, .slice g1 g2 g3, .slice j1 j2 j3)).toArray) (by simp [results, Tryz.results34, go_sem, nodeCells, *]) rfl ?_
        unfold NodeOut
        rw [HE2.out]
        refine ⟨_, _, rfl, ?_, ?_⟩
        · exact NodeAt.skipS (b := w.heap.size + 1) HN5.out HBL.out fun g hg => set5_other _ _ _ _ _ _ _ hg
        · exact set5_below HB5.out (by omega) _ _ _ _ _

end Go.Proofs.YtamkfbelpfpjcaaGreatDoor
