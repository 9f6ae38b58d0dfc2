import Derived.Test.YtamkfbelpfpjcaaGreatDoorGr
set_option linter.unusedVariables false
set_option linter.unusedSimpArgs false

namespace Go.Proofs.YtamkfbelpfpjcaaGreatDoor
open Go.RowKit

theorem heap_alloc2' (w : World) (o o2 : Obj) : ((w.alloc o).alloc o2).heap.size = w.heap.size + 1 + 1 := by simp

namespace Sq
theorem joinK_ents {n : Nat} {cs : List (List (Kid n))} {a : Nat} (ha : a < cs.length) (h2 : 2 ≤ cs.length) : ents (n + 1) (joinK cs a) = ents (n + 1) cs ∧ (joinK cs a).length ≤ cs.length := by
  obtain ⟨p, l, r, q, hc, hj, _⟩ := joinK_pair ha h2
  rw [hj]
  refine ⟨?_, ?_⟩
  · conv => rhs; rw [hc]
    show List.flatMap (ents n) (p ++ halve (l ++ r) ++ q) = List.flatMap (ents n) (p ++ l :: r :: q)
    rw [List.flatMap_append, List.flatMap_append, halve_ents n, ents_append, List.flatMap_append, List.flatMap_cons, List.flatMap_cons]
    simp
  · have h3 := congrArg List.length hc
    have h4 := (halve_len (l ++ r)).2
    simp only [List.length_append, List.length_cons] at h3 h4 ⊢
    omega
end Sq

set_option maxRecDepth 100000 in
set_option maxHeartbeats 1000000 in
theorem without_leaf (es : List Sq.Ent) (ev : Value) (p : Int) (w : World) (h : EntsAt 0 w ev es) (hl : es.length ≤ 500) :
    Calls Tryz.prog 103 #[.agg (nodeCells 0 (es, ev, .slice none 0 0)).toArray, .int .i64 p] w fun e w' => ∃ ev' cv', e = .returned (.agg (nodeCells 0 (Sq.delT 0 es p, ev', cv')).toArray) ∧ NodeAt w' 0 (Sq.delT 0 es p) ev' cv' ∧ Below w.heap.size w w' := by
  rw [nodeCells_arr]
  obtain ⟨ao, acap, rfl⟩ := ownsRow_slice h
  obtain ⟨q3, hq3⟩ : ∃ x, x = Sq.least 0 es := ⟨_, rfl⟩
  rw [← hq3]
  have h00 : ((0 : Nat) != 0) = false := rfl
  have h01 : (Sq.ents 0 es).length = es.length := rfl
  simp only [h00, h01]
  have hfl := List.length_filter_le (fun x : Sq.Ent => x.place != p) es
  have hW : Below w.heap.size w ((w.alloc (.cells #[.bool false, .slice ao es.length acap, .slice none 0 0, .int .i64 q3, .int .i64 (es.length : Nat)] 44)).alloc (.cells node0 44)) := ((Below.refl _ _).alloc (Nat.le_refl _) _).alloc (by simp) _
  have HW := hd hW
  have H := hd h
  have HFL := hd hfl
  clear h hq3 h00 h01 hW hfl
  go_enter Tryz.func103, Tryz.ntmps103
  go_wp2_with fail
  refine (dropped_any es p _ _ (H.out.below HW.out) (by omega)).mono ?_
  rintro e w1 ⟨v1, rfl, ho1, hb1⟩
  have hblk : w1.heap[w.heap.size + 1]? = some (.cells node0 44) := (hb1.block (w.heap.size + 1) (by simp)).trans (by rw [← heap_alloc1 w (.cells #[.bool false, .slice ao es.length acap, .slice none 0 0, .int .i64 q3, .int .i64 (es.length : Nat)] 44)]; exact alloc_here _ _)
  have hbw : Below w.heap.size w w1 := HW.out.trans (hb1.mono (by simp; omega))
  have hz1 : w.heap.size + 1 < w1.heap.size := lt_blk hblk
  have HO1 := hd ho1
  have HBLK := hd hblk
  have HB1 := hd hbw
  obtain ⟨fs, hfs⟩ : ∃ x, x = es.filter (fun x => x.place != p) := ⟨_, rfl⟩
  have HFS := hd hfs
  have ho1' := HO1.out
  have hfl := HFL.out
  rw [← hfs] at ho1' hfl
  have HO2 := hd ho1'
  clear hb1 ho1 hblk hbw hfs ho1' HO1
  go_wp2_with fail
  refine (leaf_any fs _ _ (Reads.of_own HO2.out) (by omega)).mono ?_
  rintro e w2 ⟨ev2, rfl, he2, hb2⟩
  obtain ⟨xo, xcap, rfl⟩ := ownsRow_slice he2
  have hblk2 := (hb2.block (w.heap.size + 1) hz1).trans HBLK.out
  obtain ⟨b0, b1, b2, b3, b4⟩ := five_cells hblk2
  obtain ⟨f0, f1, f2, f3, f4⟩ := five_frozen hblk2
  have hz2 := lt_blk hblk2
  have HB2 := hd (HB1.out.trans (hb2.mono (by omega)))
  have HEV := hd he2
  clear hblk2 he2 hb2
  rw [nodeCells_arr]
  have h00 : ((0 : Nat) != 0) = false := rfl
  have h01 : (Sq.ents 0 fs).length = fs.length := rfl
  simp only [h00, h01]
  clear h00 h01
  go_wp2
  have HE : Hid (Sq.delT 0 es p = fs) := by show _ = _; rw [HFS.out]; rfl
  rw [HE.out]
  refine bodyPost_ret (v := .agg (nodeCells 0 (fs, .slice xo fs.length xcap, .slice none 0 0)).toArray) (by simp [results, Tryz.results103, go_sem, nodeCells, Sq.ents, *]) rfl ⟨_, _, rfl, ⟨rfl, ?_⟩, ?_⟩
  · exact ownsRow_base (ownsRow_same HEV.out fun k hk => set5_other _ _ _ _ _ _ _ (fun e => by have := (World.ownsRow.lt HEV.out k hk).1; omega)) (Nat.zero_le _)
  · exact set5_below HB2.out (by omega) _ _ _ _ _

/-- The children behind the step down, and what is so of them. -/
structure Sq.Mid (n : Nat) (cs : List (List (Sq.Kid n))) (a : Nat) (c : List (Sq.Kid n)) : Prop where
  len : (Sq.exch cs a 1 [c]).length = cs.length
  ne : ∀ x ∈ Sq.exch cs a 1 [c], x ≠ [] ∧ x.length ≤ 500
  few : (Sq.ents (n + 1) (Sq.exch cs a 1 [c])).length ≤ 500
theorem Sq.mid_of {n : Nat} {cs : List (List (Sq.Kid n))} {a : Nat} {p : Int} (hok : Sq.okT (n + 1) cs) (ha : a < cs.length) (h5 : (Sq.ents (n + 1) cs).length ≤ 500) (hs : Sq.srt (Sq.ents n cs[a])) : Sq.Mid n cs a (Sq.delT n cs[a] p) ∧ (Sq.delT n cs[a] p).length ≤ 500 := by
  have hm := Sq.okT_mem hok (List.getElem_mem ha)
  obtain ⟨d1, d2, d3⟩ := Sq.del_all n cs[a] p hm.2 (Or.inr hm.1) hs
  have he := Sq.exch_ents n cs a ha [Sq.delT n cs[a] p]
  have hf := List.length_filter_le (fun x : Sq.Ent => x.place != p) (Sq.ents n cs[a])
  rw [← d1] at hf
  have hone : ([Sq.delT n cs[a] p].flatMap (Sq.ents n)).length = (Sq.ents n (Sq.delT n cs[a] p)).length := by simp
  rw [hone] at he
  have hc := Sq.ents_mem_len (List.getElem_mem ha)
  have hdl := Sq.okT_len d2
  refine ⟨⟨?_, ?_, ?_⟩, ?_⟩
  · unfold Sq.exch; simp; omega
  · intro x hx
    rcases mem_exch hx with h | h
    · have := Sq.okT_mem hok h
      have h2 := Sq.okT_len this.2
      have h3 := Sq.ents_mem_len h
      exact ⟨Sq.ne_of_two this.1, by omega⟩
    · rw [List.mem_singleton.1 h]
      refine ⟨fun h => ?_, by omega⟩
      rw [h] at d3
      have := hm.1
      simp at d3
      omega
  · exact Nat.le_trans (Nat.le_of_add_le_add_right (Nat.le_trans (Nat.le_of_eq he) (Nat.add_le_add_left hf _))) h5
  · omega

theorem mem_srt {n : Nat} {cs : List (List (Sq.Kid n))} (hs : Sq.srt (Sq.ents (n + 1) cs)) {c : List (Sq.Kid n)} (hc : c ∈ cs) : Sq.srt (Sq.ents n c) := by
  obtain ⟨l1, l2, rfl⟩ := List.append_of_mem hc
  rw [Sq.kid_mid] at hs
  exact Sq.srt_mid hs

set_option maxRecDepth 100000 in
set_option maxHeartbeats 4000000 in
theorem without_any : ∀ (n : Nat) (t : List (Sq.Kid n)) (ev cv : Value) (p : Int) (w : World), NodeAt w n t ev cv → Sq.okT n t → (n = 0 ∨ 2 ≤ t.length) → Sq.srt (Sq.ents n t) → (Sq.ents n t).length ≤ 500 →
    Calls Tryz.prog 103 #[.agg (nodeCells n (t, ev, cv)).toArray, .int .i64 p] w fun e w' => ∃ ev' cv', e = .returned (.agg (nodeCells n (Sq.delT n t p, ev', cv')).toArray) ∧ NodeAt w' n (Sq.delT n t p) ev' cv' ∧ Below w.heap.size w w'
  | 0, es, ev, cv, p, w, h, _, _, _, hl => by
    obtain ⟨rfl, h2⟩ := h.leaf
    exact without_leaf es ev p w h2 hl
  | n + 1, cs, ev, cv, p, w, h, hok, htw, hs, hl => by
    have ih := without_any n
    rw [nodeCells_arr]
    obtain ⟨rfl, l, hcs, hn⟩ := h.inner
    obtain ⟨ao, acap, rfl⟩ := ownsRow_slice hn.own
    have hlc : List.length cs = l.length := by rw [hcs]; simp
    have htwo : 2 ≤ l.length := by rcases htw with h | h; cases h; rw [← hlc]; exact h
    have hll : l.length ≤ 500 := by
      have h1 := Sq.okT_len hok
      omega
    obtain ⟨hd1, hd2, hd3⟩ := Sq.del_all (n + 1) cs p hok htw hs
    obtain ⟨q3, hq3⟩ : ∃ x, x = Sq.least (n + 1) cs := ⟨_, rfl⟩
    obtain ⟨q4, hq4⟩ : ∃ x : Int, x = ((Sq.ents (n + 1) cs).length : Nat) := ⟨_, rfl⟩
    rw [← hq3, ← hq4]
    have hnz := nz n
    simp only [hnz]
    obtain ⟨a, haw⟩ : ∃ y, y = Sq.way n (l.map Prod.fst) p := ⟨_, rfl⟩
    have hab : a < l.length := by
      rw [haw]
      rcases Sq.wayFrom_spec n p ((l.map Prod.fst).drop 1) 1 0 with ⟨h1, _⟩ | ⟨r1, c, r2, h1, h2, _⟩
      · show Sq.wayFrom n p ((l.map Prod.fst).drop 1) 1 0 < _; rw [h1]; omega
      · show Sq.wayFrom n p ((l.map Prod.fst).drop 1) 1 0 < _
        rw [h2]
        have := congrArg List.length h1
        simp at this
        omega
    have HE : Hid (Sq.delT (n + 1) cs p = Sq.mended (l.map Prod.fst) a (Sq.delT n l[a].1 p)) := by
      show Sq.delO cs (Sq.way n cs p) (fun c => Sq.delT n c p) (show List (List (Sq.Kid n)) from cs)[Sq.way n cs p]? = _
      rw [hcs, ← haw, List.getElem?_map, List.getElem?_eq_getElem hab]
      rfl
    have hmem : l[a].1 ∈ (show List (List (Sq.Kid n)) from cs) := by rw [hcs]; exact List.mem_map.2 ⟨l[a], List.getElem_mem hab, rfl⟩
    have hok2 := Sq.okT_mem hok hmem
    have hl2 := Nat.le_trans (Sq.ents_mem_len hmem) hl
    have hs2 := mem_srt hs hmem
    have hmid : Sq.Mid n (l.map Prod.fst) a (Sq.delT n l[a].1 p) ∧ (Sq.delT n l[a].1 p).length ≤ 500 := by
      have hok' : Sq.okT (n + 1) (l.map Prod.fst) := by rw [hcs] at hok; exact hok
      have hl' : (Sq.ents (n + 1) (l.map Prod.fst)).length ≤ 500 := by rw [hcs] at hl; exact hl
      have := Sq.mid_of (p := p) hok' (a := a) (by simpa using hab) hl' (by rw [List.getElem_map]; exact hs2)
      rw [List.getElem_map] at this
      exact this
    have hW : Below w.heap.size w ((w.alloc (.cells #[.bool true, .slice none 0 0, .slice ao l.length acap, .int .i64 q3, .int .i64 q4] 44)).alloc (.cells node0 44)) := ((Below.refl _ _).alloc (Nat.le_refl _) _).alloc (by simp) _
    have HW := hd hW
    have H := hd hn
    have HOK := hd hok2
    have HL := hd hl2
    have HS := hd hs2
    have HMID := hd hmid
    have HD2 := hd hd2
    have HD3 : Hid (1 ≤ List.length (Sq.delT (n + 1) cs p)) := by have : 2 ≤ List.length cs := (by omega); show 1 ≤ _; omega
    have IH := hd ih
    have HAW := hd haw
    clear h hn hcs hok hl ih hq3 hq4 hnz hW haw hmem hok2 hl2 hs2 hs hmid hd1 hd2 hd3 htw hlc
    go_enter Tryz.func103, Tryz.ntmps103
    go_wp2_with fail
    refine (way_any n l p _ _ q3 q4 _ ⟨_, _, _, rfl⟩ (H.out.below HW.out) (by omega)).mono ?_
    rintro e w1 ⟨rfl, hb1⟩
    rw [← HAW.out]
    have hbw := HW.out.trans (hb1.mono (by simp; omega))
    have c2 := hb1.cell (p := ⟨w.heap.size, 2, none⟩) (by simp; omega)
    simp [go_sem] at c2
    have hblk : w1.heap[w.heap.size + 1]? = some (.cells node0 44) := (hb1.block (w.heap.size + 1) (by simp)).trans (by rw [← heap_alloc1 w (.cells #[.bool true, .slice none 0 0, .slice ao l.length acap, .int .i64 q3, .int .i64 q4] 44)]; exact alloc_here _ _)
    have hz1 : w.heap.size + 1 < w1.heap.size := lt_blk hblk
    have hz0 : w.heap.size < w1.heap.size := by omega
    have HBLK := hd hblk
    have HB1 := hd hbw
    clear hb1 hbw hblk
    obtain ⟨g, cap', ea, el, ec, ca, cl, cc, hv, hg, d0, d1, d2, d3, d4, d5, d6⟩ := (H.out.below HB1.out).at a hab
    simp only [Value.slice.injEq] at hv
    obtain ⟨rfl, -, rfl⟩ := hv
    obtain ⟨t, ht⟩ : ∃ x, x = l[a].1 := ⟨_, rfl⟩
    have he := HE.out
    have hok2 := HOK.out
    have hl2 := HL.out
    have hs2 := HS.out
    have hmid := HMID.out
    rw [← ht] at he hok2 hl2 hs2 hmid d3 d4 d6
    obtain ⟨c, hc⟩ : ∃ x, x = Sq.delT n t p := ⟨_, rfl⟩
    rw [← hc] at he hmid
    have HE2 := hd he
    have HOK2 := hd hok2
    have HL2 := hd hl2
    have HS2 := hd hs2
    have HMID2 := hd hmid
    have HC := hd hc
    have HN := hd d6
    have i1 : ¬ ((l.length : Int) ≤ (a : Int)) := by omega
    clear he hok2 hl2 hs2 hmid ht hc HE HOK HL HS HMID d5 d6
    go_wp2_with fail
    refine (IH.out t _ _ p _ HN.out HOK2.out.2 (Or.inr HOK2.out.1) HS2.out HL2.out).mono ?_
    rintro e w2 ⟨ev2, cv2, rfl, hn2, hb2⟩
    rw [← HC.out] at hn2
    obtain ⟨⟨x1, x2, x3, hev2⟩, y1, y2, y3, hcv2⟩ := hn2.slices
    subst hev2 hcv2
    rw [nodeCells_arr, ← HC.out]
    have c2' := ((bcell hb2).1 w.heap.size 2 hz0).trans c2
    have hblk2 := (hb2.block (w.heap.size + 1) hz1).trans HBLK.out
    have hz2 := hb2.size
    have hz3 : w.heap.size < w2.heap.size := by omega
    have HB2 := hd (HB1.out.trans (hb2.mono (by omega)))
    have HBLK2 := hd hblk2
    have HN2 := hd hn2
    clear hn2 hb2 hblk2 c2 d0 d1 d2 d3 d4
    have hW3 : Below w2.heap.size w2 ((w2.alloc (.cells #[.bool (n != 0), .slice x1 x2 x3, .slice y1 y2 y3, .int .i64 (Sq.least n c), .int .i64 ((Sq.ents n c).length : Nat)] 44)).alloc (.cells (nodeCells n (c, .slice x1 x2 x3, .slice y1 y2 y3)).toArray 44)) := ((Below.refl _ _).alloc (Nat.le_refl _) _).alloc (by simp) _
    have HW3 := hd hW3
    have HONE : Hid (NodesAt 0 ((w2.alloc (.cells #[.bool (n != 0), .slice x1 x2 x3, .slice y1 y2 y3, .int .i64 (Sq.least n c), .int .i64 ((Sq.ents n c).length : Nat)] 44)).alloc (.cells (nodeCells n (c, .slice x1 x2 x3, .slice y1 y2 y3)).toArray 44)) (.slice (some ⟨w2.heap.size + 1, 0, none⟩) 1 1) n [(c, .slice x1 x2 x3, .slice y1 y2 y3)]) := by
      refine ⟨?_, fun x hx => ?_⟩
      · have := own_new (w2.alloc (.cells #[.bool (n != 0), .slice x1 x2 x3, .slice y1 y2 y3, .int .i64 (Sq.least n c), .int .i64 ((Sq.ents n c).length : Nat)] 44)) 44 (nodeCells n (c, .slice x1 x2 x3, .slice y1 y2 y3)).toArray (([(c, Value.slice x1 x2 x3, Value.slice y1 y2 y3)] : List (List (Sq.Kid n) × Value × Value)).flatMap (nodeCells n)) 1 5 0 rfl rfl (by decide) (Nat.zero_le _)
        rw [heap_alloc1] at this
        exact this
      · rw [List.mem_singleton.1 hx]
        exact HN2.out.below hW3
    clear hW3
    go_wp2_with fail
    refine (exchanged_any n l [(c, .slice x1 x2 x3, .slice y1 y2 y3)] _ _ a 1 _ ((H.out.below HB2.out).below HW3.out) HONE.out (Nat.zero_lt_succ _) (by omega) (by show 1 ≤ 1000; omega) (by omega) (by omega)).mono ?_
    rintro e w3 ⟨v3, rfl, hn3, hb3⟩
    obtain ⟨v3o, v3c, rfl⟩ := ownsRow_slice hn3.own
    rw [heap_alloc2'] at hb3
    have hkb : w3.heap[w2.heap.size]? = some (.cells #[.bool (n != 0), .slice x1 x2 x3, .slice y1 y2 y3, .int .i64 (Sq.least n c), .int .i64 ((Sq.ents n c).length : Nat)] 44) := (hb3.block w2.heap.size (by omega)).trans ((Below.heap_alloc _ _ _ (by simp)).trans (alloc_here w2 _))
    have k0 : w3.cell? ⟨w2.heap.size, 0, none⟩ = some (.bool (n != 0)) := by rw [cell_blk hkb]; rfl
    have k1 : w3.cell? ⟨w2.heap.size, 1, none⟩ = some (.slice x1 x2 x3) := by rw [cell_blk hkb]; rfl
    have k2 : w3.cell? ⟨w2.heap.size, 2, none⟩ = some (.slice y1 y2 y3) := by rw [cell_blk hkb]; rfl
    have k3 : w3.cell? ⟨w2.heap.size, 3, none⟩ = some (.int .i64 (Sq.least n c)) := by rw [cell_blk hkb]; rfl
    have k4 : w3.cell? ⟨w2.heap.size, 4, none⟩ = some (.int .i64 ((Sq.ents n c).length : Nat)) := by rw [cell_blk hkb]; rfl
    have hz4 : w2.heap.size < w3.heap.size := lt_blk hkb
    have hB23 : Below w2.heap.size w2 w3 := HW3.out.trans (hb3.mono (by omega))
    have hblk3 := (hB23.block (w.heap.size + 1) (by omega)).trans HBLK2.out
    have HB3 := hd (HB2.out.trans (hB23.mono (by omega)))
    have HBLK3 := hd hblk3
    have HN3 := hd hn3
    have HN2' := hd (HN2.out.below hB23)
    have hxm : (Sq.exch l a 1 [(c, .slice x1 x2 x3, .slice y1 y2 y3)]).map Prod.fst = Sq.exch (l.map Prod.fst) a 1 [c] := by rw [Sq.exch_map]; rfl
    have hxl : (Sq.exch l a 1 [(c, .slice x1 x2 x3, .slice y1 y2 y3)]).length = l.length := by
      have h1 := HMID2.out.1.len
      rw [← hxm, List.length_map, List.length_map] at h1
      exact h1
    have hxn : ∀ y ∈ Sq.exch l a 1 [(c, .slice x1 x2 x3, .slice y1 y2 y3)], y.1 ≠ [] ∧ y.1.length ≤ 500 := fun y hy => HMID2.out.1.ne y.1 (by rw [← hxm]; exact List.mem_map.2 ⟨y, hy, rfl⟩)
    have hxe : (Sq.ents (n + 1) ((Sq.exch l a 1 [(c, .slice x1 x2 x3, .slice y1 y2 y3)]).map Prod.fst)).length ≤ 500 := by rw [hxm]; exact HMID2.out.1.few
    have hcl5 := HMID2.out.2
    obtain ⟨lx, hlx⟩ : ∃ x, x = Sq.exch l a 1 [(c, .slice x1 x2 x3, .slice y1 y2 y3)] := ⟨_, rfl⟩
    have hn3' := HN3.out
    rw [← hlx] at hn3' hxm hxl hxn hxe ⊢
    have HN4 := hd hn3'
    have HXM := hd hxm
    have HXN := hd hxn
    have HXE := hd hxe
    have hlx5 : lx.length ≤ 500 := by omega
    have hlx2 : 2 ≤ lx.length := by omega
    have hlxa : a < lx.length := by omega
    have HSZ : Hid (((w2.alloc (.cells #[.bool (n != 0), .slice x1 x2 x3, .slice y1 y2 y3, .int .i64 (Sq.least n c), .int .i64 ((Sq.ents n c).length : Nat)] 44)).alloc (.cells (nodeCells n (c, .slice x1 x2 x3, .slice y1 y2 y3)).toArray 44)).heap.size = w2.heap.size + 1 + 1) := heap_alloc2' _ _ _
    clear hn3 hb3 hkb hblk3 hB23 hn3' hxm hxn hxe HN3 hlx hxl c2'
    go_wp2_with fail
    refine (size_any n c _ _ _ HN2'.out (by omega)).mono ?_
    rintro e w4 ⟨rfl, hb4⟩
    have hz5 := hb4.size
    have HB4 := hd (HB3.out.trans (hb4.mono (by omega)))
    have HBLK4 := hd ((hb4.block (w.heap.size + 1) (by omega)).trans HBLK3.out)
    have HN5 := hd (HN4.out.below hb4)
    clear hb4 k0 k1 k2 k3 k4
    by_cases hc2 : c.length < 2
    · have HE3 : Hid (Sq.delT (n + 1) cs p = Sq.joinK (lx.map Prod.fst) a) := by show _ = _; rw [HE2.out, HXM.out]; unfold Sq.mended; rw [if_pos hc2]
      have hjk := Sq.joinK_ents (n := n) (cs := lx.map Prod.fst) (a := a) (by simpa using hlxa) (by simpa using hlx2)
      have HJK := hd hjk
      have j1 : ((c.length : Nat) : Int) < 2 := by omega
      clear hjk
      go_wp2_with fail
      refine (joined_any n lx _ a _ (HN5.out.base (Nat.zero_le _)) hlx5 hlx2 hlxa HXN.out (Nat.le_trans HXE.out (by omega))).mono ?_
      rintro e w5 ⟨v5, k, rfl, hm5, hn5, hb5⟩
      obtain ⟨v5o, v5c, rfl⟩ := ownsRow_slice hn5.own
      have hkl : k.length ≤ 500 := by
        have h1 := congrArg List.length hm5
        have h2 := HJK.out.2
        rw [List.length_map] at h1 h2
        omega
      have hke : (Sq.ents (n + 1) (k.map Prod.fst)).length ≤ 500 := by rw [hm5, HJK.out.1]; exact HXE.out
      have HM5 := hd (HE3.out.trans hm5.symm)
      have HB5 := hd (HB4.out.trans (hb5.mono (by omega)))
      have HBLK5 := hd ((hb5.block (w.heap.size + 1) (by omega)).trans HBLK4.out)
      have HN6 := hd hn5
      have HKE := hd hke
      clear hm5 hn5 hb5 hke
      go_wp2_with fail
      refine (inner_any n k _ _ HN6.out.rd (by omega) (Nat.le_trans HKE.out (by omega))).mono ?_
      rintro e w6 ⟨cv6, rfl, hn6, hb6⟩
      obtain ⟨ko, kcap, rfl⟩ := ownsRow_slice hn6.own
      have hblk6 := (hb6.block (w.heap.size + 1) (lt_blk HBLK5.out)).trans HBLK5.out
      obtain ⟨b0, b1, b2, b3, b4⟩ := five_cells hblk6
      obtain ⟨f0, f1, f2, f3, f4⟩ := five_frozen hblk6
      have hz6 := lt_blk hblk6
      have HBLK6 := hd hblk6
      have HB6 := hd (HB5.out.trans (hb6.mono HB5.out.size))
      have HN7 := hd hn6
      clear hblk6 hn6 hb6
      rw [nodeCells_arr]
      have hnz := nz n
      simp only [hnz]
      clear hnz
      go_wp2
      have hdd2 := HD2.out
      have hdd3 := HD3.out
      rw [HM5.out] at hdd2 hdd3 ⊢
      refine bodyPost_ret (v := .agg (nodeCells (n + 1) (k.map Prod.fst, .slice none 0 0, .slice ko k.length kcap)).toArray) (by simp [results, Tryz.results103, go_sem, nodeCells, *]) rfl ⟨_, _, rfl, ?_, ?_⟩
      · exact NodeAt.skip (b := w.heap.size + 1) (NodeAt.mk rfl (HN7.out.base (Nat.zero_le _))) hdd2 (Or.inr (fun h => by rw [h] at hdd3; simp at hdd3)) HBLK6.out fun g hg => set5_other _ _ _ _ _ _ _ hg
      · exact set5_below HB6.out (by omega) _ _ _ _ _
    · have HE3 : Hid (Sq.delT (n + 1) cs p = lx.map Prod.fst) := by show _ = _; rw [HE2.out, HXM.out]; unfold Sq.mended; rw [if_neg hc2]
      have j1 : ¬ (((c.length : Nat) : Int) < 2) := by omega
      go_wp2_with fail
      refine (inner_any n lx _ _ HN5.out.rd (by omega) (Nat.le_trans HXE.out (by omega))).mono ?_
      rintro e w6 ⟨cv6, rfl, hn6, hb6⟩
      obtain ⟨ko, kcap, rfl⟩ := ownsRow_slice hn6.own
      have hblk6 := (hb6.block (w.heap.size + 1) (lt_blk HBLK4.out)).trans HBLK4.out
      obtain ⟨b0, b1, b2, b3, b4⟩ := five_cells hblk6
      obtain ⟨f0, f1, f2, f3, f4⟩ := five_frozen hblk6
      have hz6 := lt_blk hblk6
      have HBLK6 := hd hblk6
      have HB6 := hd (HB4.out.trans (hb6.mono HB4.out.size))
      have HN7 := hd hn6
      clear hblk6 hn6 hb6
      rw [nodeCells_arr]
      have hnz := nz n
      simp only [hnz]
      clear hnz
      go_wp2
      have hdd2 := HD2.out
      have hdd3 := HD3.out
      rw [HE3.out] at hdd2 hdd3 ⊢
      refine bodyPost_ret (v := .agg (nodeCells (n + 1) (lx.map Prod.fst, .slice none 0 0, .slice ko lx.length kcap)).toArray) (by simp [results, Tryz.results103, go_sem, nodeCells, *]) rfl ⟨_, _, rfl, ?_, ?_⟩
      · exact NodeAt.skip (b := w.heap.size + 1) (NodeAt.mk rfl (HN7.out.base (Nat.zero_le _))) hdd2 (Or.inr (fun h => by rw [h] at hdd3; simp at hdd3)) HBLK6.out fun g hg => set5_other _ _ _ _ _ _ _ hg
      · exact set5_below HB6.out (by omega) _ _ _ _ _

end Go.Proofs.YtamkfbelpfpjcaaGreatDoor

namespace Go.Proofs.YtamkfbelpfpjcaaGreatDoor
open Go.RowKit

set_option maxRecDepth 100000 in
set_option maxHeartbeats 2000000 in
theorem Delete_any (n : Nat) (t : List (Sq.Kid n)) (ev cv : Value) (p : Int) (w : World) (h : NodeAt w n t ev cv) (hT : (⟨n, t⟩ : Sq.Tree).ok) (hl : (Sq.ents n t).length ≤ 500) :
    Calls Tryz.prog 63 #[.agg (nodeCells n (t, ev, cv)).toArray, .int .i64 p] w fun e w' => ∃ ev' cv', e = .returned (.agg (nodeCells (Sq.downT n (Sq.delT n t p)).d ((Sq.downT n (Sq.delT n t p)).t, ev', cv')).toArray) ∧ NodeAt w' (Sq.downT n (Sq.delT n t p)).d (Sq.downT n (Sq.delT n t p)).t ev' cv' ∧ Below w.heap.size w w' := by
  rw [nodeCells_arr]
  obtain ⟨⟨e1, e2, e3, hev⟩, c1, c2, c3, hcv⟩ := h.slices
  subst hev hcv
  have hT2 : (Sq.downT n (Sq.delT n t p)).ok := (Sq.del_tree hT p).1
  obtain ⟨dt, hdt⟩ : ∃ x, x = Sq.delT n t p := ⟨_, rfl⟩
  rw [← hdt] at hT2 ⊢
  have hW : Below w.heap.size w ((w.alloc (.cells #[.bool (n != 0), .slice e1 e2 e3, .slice c1 c2 c3, .int .i64 (Sq.least n t), .int .i64 ((Sq.ents n t).length : Nat)] 44)).alloc (.cells node0 44)) := ((Below.refl _ _).alloc (Nat.le_refl _) _).alloc (by simp) _
  have H := hd h
  have HT := hd hT
  have HL := hd hl
  have HDT := hd hdt
  have HT2 := hd hT2
  have HW := hd hW
  clear h hT hl hdt hT2 hW
  go_enter Tryz.func63, Tryz.ntmps63
  go_wp2_with fail
  refine (without_any n t _ _ p _ (H.out.below HW.out) HT.out.kids HT.out.two HT.out.sorted HL.out).mono ?_
  rintro e w1 ⟨ev1, cv1, rfl, hn1, hb1⟩
  rw [← HDT.out] at hn1
  rw [nodeCells_arr, ← HDT.out]
  have hblk : w1.heap[w.heap.size + 1]? = some (.cells node0 44) := (hb1.block (w.heap.size + 1) (by simp)).trans (by rw [← heap_alloc1 w (.cells #[.bool (n != 0), .slice e1 e2 e3, .slice c1 c2 c3, .int .i64 (Sq.least n t), .int .i64 ((Sq.ents n t).length : Nat)] 44)]; exact alloc_here _ _)
  have hbw : Below w.heap.size w w1 := HW.out.trans (hb1.mono (by simp; omega))
  have hz1 : w.heap.size + 1 < w1.heap.size := lt_blk hblk
  obtain ⟨b0, b1, b2, b3, b4⟩ := five_cells hblk
  obtain ⟨f0, f1, f2, f3, f4⟩ := five_frozen hblk
  have HBLK := hd hblk
  have HB1 := hd hbw
  have HN1 := hd hn1
  clear hb1 hbw hblk hn1 H HT HL HDT HW
  cases n with
  | zero =>
    obtain ⟨rfl, h2⟩ := HN1.out.leaf
    obtain ⟨ao, acap, rfl⟩ := ownsRow_slice h2
    have HE : Hid (Sq.downT 0 dt = ⟨0, dt⟩) := rfl
    have h00 : ((0 : Nat) != 0) = false := rfl
    simp only [h00]
    clear h2 h00
    go_wp2
    rw [HE.out]
    refine bodyPost_ret (v := .agg (nodeCells 0 (dt, .slice ao (List.length (α := Sq.Ent) dt) acap, .slice none 0 0)).toArray) (by simp [results, Tryz.results63, go_sem, nodeCells, *]) rfl ⟨_, _, rfl, ?_, ?_⟩
    · exact NodeAt.below (NodeAt.skip (b := w.heap.size + 1) HN1.out trivial (Or.inl rfl) HBLK.out fun g hg => set5_other _ _ _ _ _ _ _ hg) ((Below.refl _ _).alloc (Nat.le_refl _) _)
    · exact Below.alloc (B := w.heap.size) (set5_below HB1.out (by omega) _ _ _ _ _) (by simp [set5]; omega) _
  | succ n =>
    obtain ⟨rfl, l, hcs, hn⟩ := HN1.out.inner
    obtain ⟨ao, acap, rfl⟩ := ownsRow_slice hn.own
    have HN := hd hn
    have hnz := nz n
    simp only [hnz]
    have hT2 := HT2.out
    clear hn hnz
    match l, hcs, HN with
    | [], hcs, _ =>
      exfalso
      have hde : dt = [] := hcs
      subst hde
      rcases hT2.two with h | h
      · have h' : n + 1 = 0 := h
        omega
      · have h' : 2 ≤ ([] : List (Sq.Kid (n + 1))).length := h
        simp at h'
    | [y], hcs, HN =>
      obtain ⟨g, cap', ea, el, ec, ca, cl, cc, hv, hg, d0, d1, d2, d3, d4, d5, d6⟩ := HN.out.at 0 (by simp)
      simp only [Value.slice.injEq] at hv
      obtain ⟨rfl, -, rfl⟩ := hv
      obtain ⟨yt, yev, ycv⟩ := y
      simp only [List.getElem_cons_zero, Prod.mk.injEq, Nat.zero_mul, Nat.zero_add] at d0 d1 d2 d3 d4 d5 d6
      obtain ⟨rfl, rfl⟩ := d5
      have hde : dt = [yt] := hcs
      subst hde
      have HE : Hid (Sq.downT (n + 1) [yt] = ⟨n, yt⟩) := rfl
      rw [HE.out] at hT2
      have HT3 := hd hT2
      have HN2 := hd d6
      clear d6 hcs hT2
      go_wp2
      rw [HE.out]
      refine bodyPost_ret (v := .agg (nodeCells n (yt, .slice ea el ec, .slice ca cl cc)).toArray) (by simp [results, Tryz.results63, go_sem, nodeCells, *]) rfl ⟨_, _, rfl, ?_, ?_⟩
      · exact NodeAt.below (NodeAt.skip (b := w.heap.size + 1) HN2.out HT3.out.kids HT3.out.ne HBLK.out fun g hg => set5_other _ _ _ _ _ _ _ hg) ((Below.refl _ _).alloc (Nat.le_refl _) _)
      · exact Below.alloc (B := w.heap.size) (set5_below HB1.out (by omega) _ _ _ _ _) (by simp [set5]; omega) _
    | y :: z :: r, hcs, HN =>
      have HE : Hid (Sq.downT (n + 1) dt = ⟨n + 1, dt⟩) := by show _ = _; rw [hcs]; rfl
      have hn1 : (((y :: z :: r).length : Int) == 1) = false := by simp; omega
      obtain ⟨l, hl⟩ : ∃ l, l = y :: z :: r := ⟨_, rfl⟩
      have hn' := HN.out
      rw [← hl] at hn1 hcs hn' ⊢
      have HN2 := hd hn'
      have HCS := hd hcs
      rw [HE.out] at hT2
      have HT3 := hd hT2
      clear hl hn' HN hcs hT2
      go_wp2
      rw [HE.out]
      refine bodyPost_ret (v := .agg (nodeCells (n + 1) (dt, .slice none 0 0, .slice ao l.length acap)).toArray) (by simp [results, Tryz.results63, go_sem, nodeCells, *]) rfl ⟨_, _, rfl, ?_, ?_⟩
      · exact NodeAt.below (NodeAt.skip (b := w.heap.size + 1) (NodeAt.mk HCS.out HN2.out) HT3.out.kids HT3.out.ne HBLK.out fun g hg => set5_other _ _ _ _ _ _ _ hg) ((Below.refl _ _).alloc (Nat.le_refl _) _)
      · exact Below.alloc (B := w.heap.size) (set5_below HB1.out (by omega) _ _ _ _ _) (by simp [set5]; omega) _

end Go.Proofs.YtamkfbelpfpjcaaGreatDoor
