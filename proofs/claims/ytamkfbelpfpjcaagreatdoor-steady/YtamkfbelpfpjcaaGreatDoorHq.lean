import Derived.Test.YtamkfbelpfpjcaaGreatDoorHp
set_option linter.unusedVariables false
set_option linter.unusedSimpArgs false

namespace Go.Proofs.YtamkfbelpfpjcaaGreatDoor
open Go.RowKit

theorem set5_at {w : World} {b : Nat} {a0 a1 a2 a3 a4 : Value} {ty : TypeId} {fr : Nat × Nat} (h : w.heap[b]? = some (.cells #[a0, a1, a2, a3, a4] ty fr)) (x0 x1 x2 x3 x4 : Value) : (set5 w b x0 x1 x2 x3 x4).heap[b]? = some (.cells #[x0, x1, x2, x3, x4] ty fr) := by
  unfold set5
  rw [heap_set_same (heap_set_same (heap_set_same (heap_set_same (heap_set_same h _) _) _) _) _]
  rfl
/-- Apply on its way: the tree that its box holds. -/
structure Actx (w : World) (o : Sq.Out) (ov pv kv : Value) (y : Sq.Tree) (X : World) : Prop where
  below : Below w.heap.size w X
  sto : ∃ ev cv, X.heap[w.heap.size]? = some (.cells (nodeCells y.d (y.t, ev, cv)).toArray 46) ∧ NodeAt X y.d y.t ev cv
  box : X.heap[w.heap.size + 1]? = some (.cells (outCells o ov pv kv) 56)
  res : X.heap[w.heap.size + 1 + 1]? = some (.cells node0 46)
  out : OutAt X o ov pv kv
theorem OutAt.outS {w w' : World} {rb : Nat} {o : Sq.Out} {cv pv kv : Value} {c : Array Value} {fr : Nat × Nat} (h : OutAt w o cv pv kv) (hb : w.heap[rb]? = some (.cells c 46 fr)) (ho : ∀ g, g ≠ rb → w'.heap[g]? = w.heap[g]?) : OutAt w' o cv pv kv :=
  ⟨h.cols.out hb (by decide) ho, h.puts.out hb (by decide) (by decide) ho, ownsRow_out h.cuts hb (by decide) ho, h.nputs, h.ncuts⟩
theorem Actx.step {w : World} {o : Sq.Out} {ov pv kv : Value} {y y' : Sq.Tree} {X Y : World} {ev cv : Value} (h : Actx w o ov pv kv y X) (hb : Below X.heap.size X Y) (hn : NodeAt Y y'.d y'.t ev cv) : Actx w o ov pv kv y' (set5 Y w.heap.size (.bool (y'.d != 0)) ev cv (.int .i64 (Sq.least y'.d y'.t)) (.int .i64 ((Sq.ents y'.d y'.t).length : Nat))) := by
  obtain ⟨ev0, cv0, hs, -⟩ := h.sto
  have hs' := (hb.block _ (lt_blk hs)).trans hs
  have ho := fun (g : Nat) (hg : g ≠ w.heap.size) => set5_other Y w.heap.size (.bool (y'.d != 0)) ev cv (.int .i64 (Sq.least y'.d y'.t)) (.int .i64 ((Sq.ents y'.d y'.t).length : Nat)) hg
  refine ⟨set5_below (h.below.trans (hb.mono h.below.size)) (Nat.le_refl _) _ _ _ _ _, ⟨ev, cv, set5_at (by rw [nodeCells_arr] at hs'; exact hs') _ _ _ _ _, NodeAt.skipS hn hs' ho⟩, ?_, ?_, (h.out.below hb).outS hs' ho⟩
  · exact (ho _ (by omega)).trans ((hb.block _ (lt_blk h.box)).trans h.box)
  · exact (ho _ (by omega)).trans ((hb.block _ (lt_blk h.res)).trans h.res)
theorem int_at {w : World} {v : Value} {l : List Int} (h : w.ownsRow 0 2 1 v l.length (l.map (Value.int .i64))) (k : Nat) (hk : k < l.length) : ∃ g cap, v = .slice (some ⟨g, 0, none⟩) l.length cap ∧ g < w.heap.size ∧ w.cell? ⟨g, k, none⟩ = some (.int .i64 l[k]) := by
  obtain ⟨g, cap, rfl, _, hlt⟩ := h.form (by omega)
  refine ⟨g, cap, rfl, hlt, ?_⟩
  have := h.cells (g := g) rfl k (.int .i64 l[k]) (by simp [hk])
  rwa [show (⟨g, 0, none⟩ : Addr).add k = ⟨g, k, none⟩ from by unfold Addr.add; split <;> simp_all] at this

set_option maxRecDepth 100000 in
set_option maxHeartbeats 8000000 in
theorem Apply_any (x : Sq.Tree) (ev cv : Value) (o : Sq.Out) (ov pv kv : Value) (w : World) (h : NodeAt w x.d x.t ev cv) (ho : OutAt w o ov pv kv) (hf : Sq.fitO x o) :
    Calls Tryz.prog 19 #[.agg (nodeCells x.d (x.t, ev, cv)).toArray, .agg (outCells o ov pv kv)] w (NodeOut w (Sq.applyN x o)) := by
  rw [nodeCells_arr]
  obtain ⟨⟨e1, e2, e3, hev⟩, k1, k2, k3, hcv⟩ := h.slices
  subst hev hcv
  obtain ⟨xo, xcap, rfl⟩ := ownsRow_slice ho.cols.1
  obtain ⟨po, pcap, rfl⟩ := ho.puts.slice
  obtain ⟨ko, kcap, rfl⟩ := ownsRow_slice ho.cuts
  have HRES : Hid (Sq.applyN x o = Sq.cutsN o.table (Sq.putsN o.table (Sq.madeN x o) o.puts) o.cuts) := rfl
  have hm0 : o.makes = false → Sq.madeN x o = x := fun e => by unfold Sq.madeN; rw [e]; rfl
  have hm1 : o.makes = true → Sq.madeN x o = x.make o.name o.cols := fun e => by unfold Sq.madeN; rw [e]; rfl
  have hmk : o.makes = true → ∀ w', Below w.heap.size w w' → Calls Tryz.prog 34 #[.agg #[.bool (x.d != 0), .slice e1 e2 e3, .slice k1 k2 k3, .int .i64 (Sq.least x.d x.t), .int .i64 ((Sq.ents x.d x.t).length : Nat)], .string o.name, .slice xo o.cols.length xcap] w' (NodeOut w' (x.make o.name o.cols)) := fun hm w' hb => by
    have hmf := hf.make hm
    have hfw := hf.few
    exact Make_any x _ _ o.name o.cols _ w' (h.below hb) hf.ok (by omega) (by have := (Sq.entsOf_sub hf.ok 0).length_le; omega) (fun e he => hmf.1 e ((Sq.entsOf_sub hf.ok 0).subset he)) (ho.cols.below hb) hmf.2.1 hmf.2.2.1 hmf.2.2.2
  have hmok : (Sq.madeN x o).ok ∧ (Sq.madeN x o).ents.length ≤ (Sq.ents x.d x.t).length + 1 := by
    cases hm : o.makes
    · rw [hm0 hm]; exact ⟨hf.ok, Nat.le_succ _⟩
    · rw [hm1 hm]
      unfold Sq.Tree.make
      have h1 := Sq.put_tree hf.ok ⟨Sq.placeOf 0 (Sq.lastN 0 (Sq.tabsOf x) + 1), Sq.ofTable o.name o.cols⟩
      rw [h1.2]
      exact ⟨h1.1, (Sq.ins_len hf.ok.sorted _).2⟩
  obtain ⟨hfok, hffew, hft0, hft1, hfp, hfc, -⟩ := hf
  have hfew2 : (Sq.madeN x o).ents.length + o.puts.length ≤ 500 := by omega
  have HF0 : Hid ((Sq.madeN x o).ok) := hmok.1
  have HFP := hd hfp
  have HFC := hd hfc
  have HMK := hd hmk
  have HM0 := hd hm0
  have HM1 := hd hm1
  have hnp := ho.nputs
  have hnc := ho.ncuts
  unfold outCells
  obtain ⟨W, hW⟩ : ∃ W : World, W = ((w.alloc (.cells #[.bool (x.d != 0), .slice e1 e2 e3, .slice k1 k2 k3, .int .i64 (Sq.least x.d x.t), .int .i64 ((Sq.ents x.d x.t).length : Nat)] 46)).alloc (.cells #[.string o.reply, .bool o.makes, .string o.name, .slice xo o.cols.length xcap, .int .i64 o.table, .slice po o.puts.length pcap, .slice ko o.cuts.length kcap] 56)).alloc (.cells #[.bool false, .slice none 0 0, .slice none 0 0, .int .i64 0, .int .i64 0] 46) := ⟨_, rfl⟩
  obtain ⟨hbW, hbox, hbx2, hblk⟩ := three_stores hW
  have HC0 : Hid (Actx w o (.slice xo o.cols.length xcap) (.slice po o.puts.length pcap) (.slice ko o.cuts.length kcap) x W) :=
    ⟨hbW, ⟨_, _, hbox, h.below hbW⟩, hbx2, hblk, ho.below hbW⟩
  clear h ho hmk hm0 hm1 hmok hfp hfc hfok hffew
  obtain ⟨s0, s1, s2, s3, s4⟩ := store5 hbox
  have a1 : W.cell? ⟨w.heap.size + 1, 1, none⟩ = some (.bool o.makes) := by rw [cell_blk hbx2]; rfl
  have a2 : W.cell? ⟨w.heap.size + 1, 2, none⟩ = some (.string o.name) := by rw [cell_blk hbx2]; rfl
  have a3 : W.cell? ⟨w.heap.size + 1, 3, none⟩ = some (.slice xo o.cols.length xcap) := by rw [cell_blk hbx2]; rfl
  have hzW := lt_blk hblk
  have hzX : w.heap.size < W.heap.size := by omega
  have HBOX := hd hbox
  clear hbW hbox hbx2 hblk
  obtain ⟨y0, hy0⟩ : ∃ z, z = Sq.madeN x o := ⟨_, rfl⟩
  have hhF0 := HF0.out
  have hhM0 := HM0.out
  have hhM1 := HM1.out
  have hhR := HRES.out
  rw [← hy0] at hhF0 hhM0 hhM1 hhR hfew2
  clear HF0 HM0 HM1 HRES
  have HF0 := hd hhF0
  have HM0 := hd hhM0
  have HM1 := hd hhM1
  have HRES := hd hhR
  obtain ⟨res, hres⟩ : ∃ z, z = Sq.applyN x o := ⟨_, rfl⟩
  rw [← hres]
  have HRS := hd hres
  clear hhF0 hhM0 hhM1 hhR hy0 hres
  generalize Sq.least x.d x.t = q3 at *
  generalize (Sq.ents x.d x.t).length = q4 at *
  generalize (x.d != 0) = bn at *
  clear s0 s1 s2 s3 s4 a1 a2 a3
  cases hmm : o.makes
  · have HC1 : Hid (Actx w o (.slice xo o.cols.length xcap) (.slice po o.puts.length pcap) (.slice ko o.cuts.length kcap) y0 W) := by show Actx _ _ _ _ _ _ _; rw [HM0.out hmm]; exact HC0.out
    rw [hmm] at hW
    go_enter Tryz.func19, Tryz.ntmps19
    go_wp2
    rw [← hW]
    clear hW
    obtain ⟨w0, hw0⟩ : ∃ z : World, z = W := ⟨_, rfl⟩
    have HA0 : Hid (Actx w o (.slice xo o.cols.length xcap) (.slice po o.puts.length pcap) (.slice ko o.cuts.length kcap) y0 w0) := by show Actx _ _ _ _ _ _ _; rw [hw0]; exact HC1.out
    try rw [← hw0]
    clear hw0
    go_loopw [5] (fun i wr => ∃ k : Nat, k ≤ o.puts.length ∧ i = .int .i64 k ∧ Actx w o (.slice xo o.cols.length xcap) (.slice po o.puts.length pcap) (.slice ko o.cuts.length kcap) (Sq.putsN o.table y0 (o.puts.take k)) wr) (fun i _ => o.puts.length - (intOf i).toNat)
    case atStart => exact ⟨0, Nat.zero_le _, rfl, HA0.out⟩
    case round =>
      obtain ⟨k, hk, rfl, hac⟩ := hrel
      have HA := hd hac
      obtain ⟨ev1, cv1, hs, hn⟩ := hac.sto
      obtain ⟨⟨g1, g2, g3, hev⟩, j1, j2, j3, hcv⟩ := hn.slices
      subst hev hcv
      rw [nodeCells_arr] at hs
      obtain ⟨s0, s1, s2, s3, s4⟩ := store5 hs
      obtain ⟨f0, f1, f2, f3, f4⟩ := store_frozen hs
      have b4 : wr.cell? ⟨w.heap.size + 1, 4, none⟩ = some (.int .i64 o.table) := by rw [cell_blk hac.box]; rfl
      have b5 : wr.cell? ⟨w.heap.size + 1, 5, none⟩ = some (.slice po o.puts.length pcap) := by rw [cell_blk hac.box]; rfl
      have hz1 := lt_blk hac.box
      have hz0 := lt_blk hs
      have hyk := Sq.putsN_ok o.table (o.puts.take k) y0 HF0.out
      have htk : (o.puts.take k).length ≤ k := List.length_take_le _ _
      have HN := hd hn
      by_cases hlt : k < o.puts.length
      · have hps := Sq.putsN_snoc o.table y0 o.puts k hlt
        obtain ⟨q, cap', xa, xc, hv, hq, c0, hrow⟩ := hac.out.puts.at k hlt
        simp only [Value.slice.injEq] at hv
        obtain ⟨rfl, -, rfl⟩ := hv
        have hrp := HFP.out o.puts[k] (List.getElem_mem hlt)
        obtain ⟨row, hrw⟩ : ∃ z, z = o.puts[k] := ⟨_, rfl⟩
        rw [← hrw] at c0 hrow hps hrp
        obtain ⟨y, hy⟩ : ∃ z, z = Sq.putsN o.table y0 (o.puts.take k) := ⟨_, rfl⟩
        obtain ⟨y2, hy2⟩ : ∃ z, z = Sq.putsN o.table y0 (o.puts.take (k + 1)) := ⟨_, rfl⟩
        have hA := HA.out
        have hN := HN.out
        rw [← hy] at hA hN hyk hps s0 s3 s4
        rw [← hy2] at hps
        clear HA HN hs hn hac
        have HA := hd hA
        have hkp : ∀ w', Below wr.heap.size wr w' → Calls Tryz.prog 35 #[.agg #[.bool (y.d != 0), .slice g1 g2 g3, .slice j1 j2 j3, .int .i64 (Sq.least y.d y.t), .int .i64 ((Sq.ents y.d y.t).length : Nat)], .int .i64 o.table, .agg #[.slice xa row.length xc]] w' (NodeOut w' y2) := fun w' hb => by rw [hps]; exact StorePut_any y _ _ o.table row _ w' (hN.below hb) hyk.1 (by have := hyk.2; show (Sq.Tree.ents y).length ≤ _; omega) hft0 hft1 (hrow.below hb) hrp.1 hrp.2
        have HKP := hd hkp
        have HY2 := hd hy2
        clear hA hN hyk hps hrow hrp hrw hy hkp hy2
        generalize Sq.least y.d y.t = q3 at *
        generalize (Sq.ents y.d y.t).length = q4 at *
        generalize (y.d != 0) = bn at *
        go_wp2_with fail
        go_region_with (go_at_call 35; refine (HKP.out _ (Below.drew (Below.refl _ _))).mono ?_; rintro e w2 ⟨ev2, cv2, rfl, hn2, hb2⟩; obtain ⟨⟨l1, l2, l3, hev⟩, m1, m2, m3, hcv⟩ := hn2.slices; subst hev hcv; rw [nodeCells_arr]; have HA2 := hd (HA.out.step ((Below.drew (Below.refl _ _)).trans hb2) hn2); have hbb := (Below.drew (Below.refl wr.heap.size wr)).trans hb2; obtain ⟨ev3, cv3, hs3, -⟩ := HA.out.sto; have hs4 := (hbb.block _ hz0).trans hs3; obtain ⟨t0, t1, t2, t3, t4⟩ := store5 (by rw [nodeCells_arr] at hs4; exact hs4); obtain ⟨r0, r1, r2, r3, r4⟩ := store_frozen hs4; have hz4 := lt_blk hs4; clear hn2 hb2 hbb hs3 hs4)
        all_goals
          go_wp2
          go_roundw
          case rel => exact ⟨k + 1, by omega, by go_num, by rw [← HY2.out]; exact HA2.out⟩
          case measure => simp [intOf]; omega
      · have hke : o.puts.take k = o.puts := List.take_of_length_le (by omega)
        have hA := HA.out
        rw [hke] at hA hyk
        obtain ⟨y1, hy1⟩ : ∃ z, z = Sq.putsN o.table y0 o.puts := ⟨_, rfl⟩
        rw [← hy1] at hA hyk
        have hrr := HRES.out
        rw [← hy1] at hrr
        have HR1 := hd hrr
        have HOK1 : Hid (y1.ok) := hyk.1
        have hl1 : y1.ents.length ≤ 500 := by have := hyk.2; omega
        clear hke hs hn HN HA hyk hac
        have HA1 := hd hA
        have b6 : wr.cell? ⟨w.heap.size + 1, 6, none⟩ = some (.slice ko o.cuts.length kcap) := by rw [cell_blk hA.box]; rfl
        obtain ⟨w1, rfl⟩ : ∃ w1 : World, w1 = wr := ⟨_, rfl⟩
        clear hA hrr hy1
        go_wp2
        clear s0 s1 s2 s3 s4 f0 f1 f2 f3 f4 b4 b5 b6
        go_loopw [6] (fun i wr => ∃ k : Nat, k ≤ o.cuts.length ∧ i = .int .i64 k ∧ Actx w o (.slice xo o.cols.length xcap) (.slice po o.puts.length pcap) (.slice ko o.cuts.length kcap) (Sq.cutsN o.table y1 (o.cuts.take k)) wr) (fun i _ => o.cuts.length - (intOf i).toNat)
        case atStart => exact ⟨0, Nat.zero_le _, rfl, HA1.out⟩
        case round =>
          obtain ⟨j, hj, rfl, hac⟩ := hrel
          have HA := hd hac
          obtain ⟨ev1, cv1, hs, hn⟩ := hac.sto
          obtain ⟨⟨g1, g2, g3, hev⟩, j1, j2, j3, hcv⟩ := hn.slices
          subst hev hcv
          rw [nodeCells_arr] at hs
          obtain ⟨s0, s1, s2, s3, s4⟩ := store5 hs
          obtain ⟨f0, f1, f2, f3, f4⟩ := store_frozen hs
          have b4 : wr.cell? ⟨w.heap.size + 1, 4, none⟩ = some (.int .i64 o.table) := by rw [cell_blk hac.box]; rfl
          have b6 : wr.cell? ⟨w.heap.size + 1, 6, none⟩ = some (.slice ko o.cuts.length kcap) := by rw [cell_blk hac.box]; rfl
          have hz1 := lt_blk hac.box
          have hz0 := lt_blk hs
          have hyk := Sq.cutsN_ok o.table (o.cuts.take j) y1 HOK1.out
          have HN := hd hn
          by_cases hlt : j < o.cuts.length
          · have hps := Sq.cutsN_snoc o.table y1 o.cuts j hlt
            obtain ⟨q, cap', hv, hq, c0⟩ := int_at hac.out.cuts j hlt
            simp only [Value.slice.injEq] at hv
            obtain ⟨rfl, -, rfl⟩ := hv
            have hrp := HFC.out o.cuts[j] (List.getElem_mem hlt)
            obtain ⟨key, hrw⟩ : ∃ z, z = o.cuts[j] := ⟨_, rfl⟩
            rw [← hrw] at c0 hps hrp
            obtain ⟨y, hy⟩ : ∃ z, z = Sq.cutsN o.table y1 (o.cuts.take j) := ⟨_, rfl⟩
            obtain ⟨y2, hy2⟩ : ∃ z, z = Sq.cutsN o.table y1 (o.cuts.take (j + 1)) := ⟨_, rfl⟩
            have hA := HA.out
            have hN := HN.out
            rw [← hy] at hA hN hyk hps s0 s3 s4
            rw [← hy2] at hps
            clear HA HN hs hn hac
            have HA := hd hA
            have hkp : ∀ w', Below wr.heap.size wr w' → Calls Tryz.prog 36 #[.agg #[.bool (y.d != 0), .slice g1 g2 g3, .slice j1 j2 j3, .int .i64 (Sq.least y.d y.t), .int .i64 ((Sq.ents y.d y.t).length : Nat)], .int .i64 o.table, .int .i64 key] w' (NodeOut w' y2) := fun w' hb => by rw [hps]; exact Cut_any y _ _ o.table key w' (hN.below hb) hyk.1 (by have := hyk.2; show (Sq.Tree.ents y).length ≤ _; omega) hft0 hft1 hrp.1 hrp.2
            have HKP := hd hkp
            have HY2 := hd hy2
            clear hA hN hyk hps hrp hrw hy hkp hy2
            generalize Sq.least y.d y.t = q3 at *
            generalize (Sq.ents y.d y.t).length = q4 at *
            generalize (y.d != 0) = bn at *
            go_wp2_with fail
            go_region_with (go_at_call 36; refine (HKP.out _ (Below.drew (Below.refl _ _))).mono ?_; rintro e w2 ⟨ev2, cv2, rfl, hn2, hb2⟩; obtain ⟨⟨l1, l2, l3, hev⟩, m1, m2, m3, hcv⟩ := hn2.slices; subst hev hcv; rw [nodeCells_arr]; have HA2 := hd (HA.out.step ((Below.drew (Below.refl _ _)).trans hb2) hn2); have hbb := (Below.drew (Below.refl wr.heap.size wr)).trans hb2; obtain ⟨ev3, cv3, hs3, -⟩ := HA.out.sto; have hs4 := (hbb.block _ hz0).trans hs3; obtain ⟨t0, t1, t2, t3, t4⟩ := store5 (by rw [nodeCells_arr] at hs4; exact hs4); obtain ⟨r0, r1, r2, r3, r4⟩ := store_frozen hs4; have hz4 := lt_blk hs4; clear hn2 hb2 hbb hs3 hs4)
            all_goals
              go_wp2
              go_roundw
              case rel => exact ⟨j + 1, by omega, by go_num, by rw [← HY2.out]; exact HA2.out⟩
              case measure => simp [intOf]; omega
          · have hke : o.cuts.take j = o.cuts := List.take_of_length_le (by omega)
            have hA := HA.out
            rw [hke] at hA s0 s3 s4 hn
            rw [← HR1.out, ← HRS.out] at hA s0 s3 s4 hn
            have hres := hA.res
            obtain ⟨t0, t1, t2, t3, t4⟩ := store_cells hres
            obtain ⟨r0, r1, r2, r3, r4⟩ := store_frozen hres
            have hz4 := lt_blk hres
            have HAE := hd hA
            have HNE := hd hn
            have HRE := hd hres
            clear hke hs hn HN HA hyk hac hA hres
            go_wp2
            refine bodyPost_ret (v := .agg (nodeCells res.d (res.t, .slice g1 g2 g3, .slice j1 j2 j3)).toArray) (by simp [results, Tryz.results19, go_sem, nodeCells, *]) rfl ⟨_, _, rfl, ?_, ?_⟩
            · exact NodeAt.skipS (b := w.heap.size + 1 + 1) HNE.out HRE.out fun g hg => set5_other _ _ _ _ _ _ _ hg
            · exact set5_below HAE.out.below (by omega) _ _ _ _ _
  · have HKM := hd (HMK.out hmm)
    have hy0e := HM1.out hmm
    rw [hmm] at hW
    have HY0 := hd hy0e
    clear hy0e
    go_enter Tryz.func19, Tryz.ntmps19
    go_wp2_with fail
    rw [← hW]
    clear hW
    refine (HKM.out _ HC0.out.below).mono ?_
    rintro e w2 ⟨ev2, cv2, rfl, hn2, hb2⟩
    rw [← HY0.out] at hn2 ⊢
    obtain ⟨⟨l1, l2, l3, hev⟩, m1, m2, m3, hcv⟩ := hn2.slices
    subst hev hcv
    rw [nodeCells_arr]
    have hs4 := (hb2.block _ hzX).trans HBOX.out
    obtain ⟨t0, t1, t2, t3, t4⟩ := store5 hs4
    obtain ⟨r0, r1, r2, r3, r4⟩ := store_frozen hs4
    have hz4 := lt_blk hs4
    have HC1 := hd (HC0.out.step hb2 hn2)
    clear hn2 hb2 hs4 HY0
    go_wp2
    clear t0 t1 t2 t3 t4 r0 r1 r2 r3 r4
    obtain ⟨w0, hw0⟩ : ∃ z : World, z = set5 w2 w.heap.size (.bool (y0.d != 0)) (.slice l1 l2 l3) (.slice m1 m2 m3) (.int .i64 (Sq.least y0.d y0.t)) (.int .i64 ((Sq.ents y0.d y0.t).length : Nat)) := ⟨_, rfl⟩
    have HA0 : Hid (Actx w o (.slice xo o.cols.length xcap) (.slice po o.puts.length pcap) (.slice ko o.cuts.length kcap) y0 w0) := by show Actx _ _ _ _ _ _ _; rw [hw0]; exact HC1.out
    unfold set5 at hw0
    rw [← hw0]
    clear hw0
    go_loopw [5] (fun i wr => ∃ k : Nat, k ≤ o.puts.length ∧ i = .int .i64 k ∧ Actx w o (.slice xo o.cols.length xcap) (.slice po o.puts.length pcap) (.slice ko o.cuts.length kcap) (Sq.putsN o.table y0 (o.puts.take k)) wr) (fun i _ => o.puts.length - (intOf i).toNat)
    case atStart => exact ⟨0, Nat.zero_le _, rfl, HA0.out⟩
    case round =>
      obtain ⟨k, hk, rfl, hac⟩ := hrel
      have HA := hd hac
      obtain ⟨ev1, cv1, hs, hn⟩ := hac.sto
      obtain ⟨⟨g1, g2, g3, hev⟩, j1, j2, j3, hcv⟩ := hn.slices
      subst hev hcv
      rw [nodeCells_arr] at hs
      obtain ⟨s0, s1, s2, s3, s4⟩ := store5 hs
      obtain ⟨f0, f1, f2, f3, f4⟩ := store_frozen hs
      have b4 : wr.cell? ⟨w.heap.size + 1, 4, none⟩ = some (.int .i64 o.table) := by rw [cell_blk hac.box]; rfl
      have b5 : wr.cell? ⟨w.heap.size + 1, 5, none⟩ = some (.slice po o.puts.length pcap) := by rw [cell_blk hac.box]; rfl
      have hz1 := lt_blk hac.box
      have hz0 := lt_blk hs
      have hyk := Sq.putsN_ok o.table (o.puts.take k) y0 HF0.out
      have htk : (o.puts.take k).length ≤ k := List.length_take_le _ _
      have HN := hd hn
      by_cases hlt : k < o.puts.length
      · have hps := Sq.putsN_snoc o.table y0 o.puts k hlt
        obtain ⟨q, cap', xa, xc, hv, hq, c0, hrow⟩ := hac.out.puts.at k hlt
        simp only [Value.slice.injEq] at hv
        obtain ⟨rfl, -, rfl⟩ := hv
        have hrp := HFP.out o.puts[k] (List.getElem_mem hlt)
        obtain ⟨row, hrw⟩ : ∃ z, z = o.puts[k] := ⟨_, rfl⟩
        rw [← hrw] at c0 hrow hps hrp
        obtain ⟨y, hy⟩ : ∃ z, z = Sq.putsN o.table y0 (o.puts.take k) := ⟨_, rfl⟩
        obtain ⟨y2, hy2⟩ : ∃ z, z = Sq.putsN o.table y0 (o.puts.take (k + 1)) := ⟨_, rfl⟩
        have hA := HA.out
        have hN := HN.out
        rw [← hy] at hA hN hyk hps s0 s3 s4
        rw [← hy2] at hps
        clear HA HN hs hn hac
        have HA := hd hA
        have hkp : ∀ w', Below wr.heap.size wr w' → Calls Tryz.prog 35 #[.agg #[.bool (y.d != 0), .slice g1 g2 g3, .slice j1 j2 j3, .int .i64 (Sq.least y.d y.t), .int .i64 ((Sq.ents y.d y.t).length : Nat)], .int .i64 o.table, .agg #[.slice xa row.length xc]] w' (NodeOut w' y2) := fun w' hb => by rw [hps]; exact StorePut_any y _ _ o.table row _ w' (hN.below hb) hyk.1 (by have := hyk.2; show (Sq.Tree.ents y).length ≤ _; omega) hft0 hft1 (hrow.below hb) hrp.1 hrp.2
        have HKP := hd hkp
        have HY2 := hd hy2
        clear hA hN hyk hps hrow hrp hrw hy hkp hy2
        generalize Sq.least y.d y.t = q3 at *
        generalize (Sq.ents y.d y.t).length = q4 at *
        generalize (y.d != 0) = bn at *
        go_wp2_with fail
        go_region_with (go_at_call 35; refine (HKP.out _ (Below.drew (Below.refl _ _))).mono ?_; rintro e w2 ⟨ev2, cv2, rfl, hn2, hb2⟩; obtain ⟨⟨l1, l2, l3, hev⟩, m1, m2, m3, hcv⟩ := hn2.slices; subst hev hcv; rw [nodeCells_arr]; have HA2 := hd (HA.out.step ((Below.drew (Below.refl _ _)).trans hb2) hn2); have hbb := (Below.drew (Below.refl wr.heap.size wr)).trans hb2; obtain ⟨ev3, cv3, hs3, -⟩ := HA.out.sto; have hs4 := (hbb.block _ hz0).trans hs3; obtain ⟨t0, t1, t2, t3, t4⟩ := store5 (by rw [nodeCells_arr] at hs4; exact hs4); obtain ⟨r0, r1, r2, r3, r4⟩ := store_frozen hs4; have hz4 := lt_blk hs4; clear hn2 hb2 hbb hs3 hs4)
        all_goals
          go_wp2
          go_roundw
          case rel => exact ⟨k + 1, by omega, by go_num, by rw [← HY2.out]; exact HA2.out⟩
          case measure => simp [intOf]; omega
      · have hke : o.puts.take k = o.puts := List.take_of_length_le (by omega)
        have hA := HA.out
        rw [hke] at hA hyk
        obtain ⟨y1, hy1⟩ : ∃ z, z = Sq.putsN o.table y0 o.puts := ⟨_, rfl⟩
        rw [← hy1] at hA hyk
        have hrr := HRES.out
        rw [← hy1] at hrr
        have HR1 := hd hrr
        have HOK1 : Hid (y1.ok) := hyk.1
        have hl1 : y1.ents.length ≤ 500 := by have := hyk.2; omega
        clear hke hs hn HN HA hyk hac
        have HA1 := hd hA
        have b6 : wr.cell? ⟨w.heap.size + 1, 6, none⟩ = some (.slice ko o.cuts.length kcap) := by rw [cell_blk hA.box]; rfl
        obtain ⟨w1, rfl⟩ : ∃ w1 : World, w1 = wr := ⟨_, rfl⟩
        clear hA hrr hy1
        go_wp2
        clear s0 s1 s2 s3 s4 f0 f1 f2 f3 f4 b4 b5 b6
        go_loopw [6] (fun i wr => ∃ k : Nat, k ≤ o.cuts.length ∧ i = .int .i64 k ∧ Actx w o (.slice xo o.cols.length xcap) (.slice po o.puts.length pcap) (.slice ko o.cuts.length kcap) (Sq.cutsN o.table y1 (o.cuts.take k)) wr) (fun i _ => o.cuts.length - (intOf i).toNat)
        case atStart => exact ⟨0, Nat.zero_le _, rfl, HA1.out⟩
        case round =>
          obtain ⟨j, hj, rfl, hac⟩ := hrel
          have HA := hd hac
          obtain ⟨ev1, cv1, hs, hn⟩ := hac.sto
          obtain ⟨⟨g1, g2, g3, hev⟩, j1, j2, j3, hcv⟩ := hn.slices
          subst hev hcv
          rw [nodeCells_arr] at hs
          obtain ⟨s0, s1, s2, s3, s4⟩ := store5 hs
          obtain ⟨f0, f1, f2, f3, f4⟩ := store_frozen hs
          have b4 : wr.cell? ⟨w.heap.size + 1, 4, none⟩ = some (.int .i64 o.table) := by rw [cell_blk hac.box]; rfl
          have b6 : wr.cell? ⟨w.heap.size + 1, 6, none⟩ = some (.slice ko o.cuts.length kcap) := by rw [cell_blk hac.box]; rfl
          have hz1 := lt_blk hac.box
          have hz0 := lt_blk hs
          have hyk := Sq.cutsN_ok o.table (o.cuts.take j) y1 HOK1.out
          have HN := hd hn
          by_cases hlt : j < o.cuts.length
          · have hps := Sq.cutsN_snoc o.table y1 o.cuts j hlt
            obtain ⟨q, cap', hv, hq, c0⟩ := int_at hac.out.cuts j hlt
            simp only [Value.slice.injEq] at hv
            obtain ⟨rfl, -, rfl⟩ := hv
            have hrp := HFC.out o.cuts[j] (List.getElem_mem hlt)
            obtain ⟨key, hrw⟩ : ∃ z, z = o.cuts[j] := ⟨_, rfl⟩
            rw [← hrw] at c0 hps hrp
            obtain ⟨y, hy⟩ : ∃ z, z = Sq.cutsN o.table y1 (o.cuts.take j) := ⟨_, rfl⟩
            obtain ⟨y2, hy2⟩ : ∃ z, z = Sq.cutsN o.table y1 (o.cuts.take (j + 1)) := ⟨_, rfl⟩
            have hA := HA.out
            have hN := HN.out
            rw [← hy] at hA hN hyk hps s0 s3 s4
            rw [← hy2] at hps
            clear HA HN hs hn hac
            have HA := hd hA
            have hkp : ∀ w', Below wr.heap.size wr w' → Calls Tryz.prog 36 #[.agg #[.bool (y.d != 0), .slice g1 g2 g3, .slice j1 j2 j3, .int .i64 (Sq.least y.d y.t), .int .i64 ((Sq.ents y.d y.t).length : Nat)], .int .i64 o.table, .int .i64 key] w' (NodeOut w' y2) := fun w' hb => by rw [hps]; exact Cut_any y _ _ o.table key w' (hN.below hb) hyk.1 (by have := hyk.2; show (Sq.Tree.ents y).length ≤ _; omega) hft0 hft1 hrp.1 hrp.2
            have HKP := hd hkp
            have HY2 := hd hy2
            clear hA hN hyk hps hrp hrw hy hkp hy2
            generalize Sq.least y.d y.t = q3 at *
            generalize (Sq.ents y.d y.t).length = q4 at *
            generalize (y.d != 0) = bn at *
            go_wp2_with fail
            go_region_with (go_at_call 36; refine (HKP.out _ (Below.drew (Below.refl _ _))).mono ?_; rintro e w2 ⟨ev2, cv2, rfl, hn2, hb2⟩; obtain ⟨⟨l1, l2, l3, hev⟩, m1, m2, m3, hcv⟩ := hn2.slices; subst hev hcv; rw [nodeCells_arr]; have HA2 := hd (HA.out.step ((Below.drew (Below.refl _ _)).trans hb2) hn2); have hbb := (Below.drew (Below.refl wr.heap.size wr)).trans hb2; obtain ⟨ev3, cv3, hs3, -⟩ := HA.out.sto; have hs4 := (hbb.block _ hz0).trans hs3; obtain ⟨t0, t1, t2, t3, t4⟩ := store5 (by rw [nodeCells_arr] at hs4; exact hs4); obtain ⟨r0, r1, r2, r3, r4⟩ := store_frozen hs4; have hz4 := lt_blk hs4; clear hn2 hb2 hbb hs3 hs4)
            all_goals
              go_wp2
              go_roundw
              case rel => exact ⟨j + 1, by omega, by go_num, by rw [← HY2.out]; exact HA2.out⟩
              case measure => simp [intOf]; omega
          · have hke : o.cuts.take j = o.cuts := List.take_of_length_le (by omega)
            have hA := HA.out
            rw [hke] at hA s0 s3 s4 hn
            rw [← HR1.out, ← HRS.out] at hA s0 s3 s4 hn
            have hres := hA.res
            obtain ⟨t0, t1, t2, t3, t4⟩ := store_cells hres
            obtain ⟨r0, r1, r2, r3, r4⟩ := store_frozen hres
            have hz4 := lt_blk hres
            have HAE := hd hA
            have HNE := hd hn
            have HRE := hd hres
            clear hke hs hn HN HA hyk hac hA hres
            go_wp2
            refine bodyPost_ret (v := .agg (nodeCells res.d (res.t, .slice g1 g2 g3, .slice j1 j2 j3)).toArray) (by simp [results, Tryz.results19, go_sem, nodeCells, *]) rfl ⟨_, _, rfl, ?_, ?_⟩
            · exact NodeAt.skipS (b := w.heap.size + 1 + 1) HNE.out HRE.out fun g hg => set5_other _ _ _ _ _ _ _ hg
            · exact set5_below HAE.out.below (by omega) _ _ _ _ _

end Go.Proofs.YtamkfbelpfpjcaaGreatDoor
