import Derived.Test.YteibbdilhpdknaaGreatDoorBn
import Derived.Test.YteibbdilhpdknaaGreatDoorBa
set_option linter.unusedVariables false
set_option linter.unusedSimpArgs false

namespace Go.Proofs.YteibbdilhpdknaaGreatDoor
open Go.RowKit

theorem own_set1 {w : World} {B : Nat} {e : TypeId} {size g n cap : Nat} {xs : List Value} (h : w.ownsRow B e size (.slice (some ⟨g, 0, none⟩) n cap) n xs) (j : Nat) (x : Value) :
    (w.setCell ⟨g, j, none⟩ x).ownsRow B e size (.slice (some ⟨g, 0, none⟩) n cap) n (xs.set j x) := by
  obtain ⟨hl, ho⟩ := h
  rcases ho with ⟨h, _⟩ | ⟨g', cap', cur, hv, hbg, hh, hn, hmx, hcs, ht⟩
  · simp at h
  simp only [Value.slice.injEq, Option.some.injEq, Addr.mk.injEq] at hv
  obtain ⟨⟨rfl, -, -⟩, -, rfl⟩ := hv
  refine ⟨by simpa using hl, Or.inr ⟨g, cap, _, rfl, hbg, heap_set_same hh _, hn, hmx, by simpa using hcs, ?_⟩⟩
  simp only [Array.toList_setIfInBounds, List.take_set, ht]
theorem own_blk {w : World} {B : Nat} {e : TypeId} {size g n cap : Nat} {xs : List Value} (h : w.ownsRow B e size (.slice (some ⟨g, 0, none⟩) n cap) n xs) : ∃ cur, w.heap[g]? = some (.cells cur e (0, 0)) := by
  obtain ⟨hl, ho⟩ := h
  rcases ho with ⟨h, _⟩ | ⟨g', cap', cur, hv, hbg, hh, hn, hmx, hcs, ht⟩
  · simp at h
  simp only [Value.slice.injEq, Option.some.injEq, Addr.mk.injEq] at hv
  obtain ⟨⟨rfl, -, -⟩, -, rfl⟩ := hv
  exact ⟨cur, hh⟩
theorem flat_set_tab (t' : Sq.Tab) (nv : Value) : ∀ (l : List (Sq.Tab × Value × Value)) (k : Nat) (h : k < l.length), t'.name = l[k].1.name → (l.set k (t', l[k].2.1, nv)).flatMap tabCells = (l.flatMap tabCells).set (k * 3 + 2) nv := by
  intro l
  induction l with
  | nil => intro k h; simp at h
  | cons x r ih =>
    intro k h hn
    cases k with
    | zero => simp [tabCells] at hn ⊢; exact hn
    | succ k =>
      have := ih k (by simpa using h) (by simpa using hn)
      rw [List.set_cons_succ, List.flatMap_cons, List.flatMap_cons]
      rw [show (k + 1) * 3 + 2 = k * 3 + 2 + 3 from by omega]
      simp [tabCells] at this ⊢
      exact this

theorem DB.setRows {sb : Nat} {w : World} {g cap : Nat} {l : List (Sq.Tab × Value × Value)} (hbd : w.heap[sb]? = some (.cells #[.slice (some ⟨g, 0, none⟩) l.length cap] 61)) (ht : TabsOwn (sb + 1) w (.slice (some ⟨g, 0, none⟩) l.length cap) l)
    (k : Nat) (hk : k < l.length) (nv : Value) (rows : List (List Sq.Val)) (B : Nat) (hr : RowsOwn B w nv rows) (hf : rows.length ≤ 100000) :
    DB sb (w.setCell ⟨g, k * 3 + 2, none⟩ nv) (Sq.setRows (l.map Prod.fst) k rows) ∧ Frm sb w (w.setCell ⟨g, k * 3 + 2, none⟩ nv) := by
  obtain ⟨cur, hcur⟩ := own_blk ht.own
  have hgl := (ht.own.lt g rfl).1
  have hF : Frm sb w (w.setCell ⟨g, k * 3 + 2, none⟩ nv) := Frm.of_table hcur (by omega)
  refine ⟨⟨.slice (some ⟨g, 0, none⟩) l.length cap, l.set k ({ l[k].1 with rows := rows }, l[k].2.1, nv), ?_, ?_, ?_⟩, hF⟩
  · unfold Sq.setRows
    rw [List.getElem?_map, List.getElem?_eq_getElem hk]
    simp only [Option.map_some]
    rw [List.map_set]
  · rw [heap_set_other (by omega)]; exact hbd
  · refine ⟨?_, ?_, by simpa using ht.few⟩
    · rw [flat_set_tab { l[k].1 with rows := rows } nv l k hk rfl, List.length_set]
      exact own_set1 ht.own _ _
    · intro x hx
      rcases List.mem_or_eq_of_mem_set hx with hx | rfl
      · exact (ht.each x hx).frm hF
      · have := ht.each l[k] (List.getElem_mem hk)
        exact TabAt.frm ⟨this.cols, hr.base (Nat.zero_le _), hf⟩ hF

theorem Sq.ne_take (p : List Sq.Val → Bool) (l : List (List Sq.Val)) (k : Nat) (h : k < l.length) : (l.take (k + 1)).filter p = (l.take k).filter p ++ (if p l[k] then [l[k]] else []) := Sq.filter_take p l k h

set_option maxRecDepth 100000 in
set_option maxHeartbeats 1000000 in
theorem Cut_any (sb : Nat) (db : List Sq.Tab) (a : Nat) (key : Int) (w : World) (h : DB sb w db) (ha : a < db.length) :
    Calls Tryz.prog 46 #[.pointer (some ⟨sb, 0, none⟩), .int .i64 a, .int .i64 key] w fun e w' => e = .returned (.tuple #[]) ∧ DB sb w' (Sq.setRows db a (Sq.cutRows key db[a].rows)) ∧ Frm sb w w' := by
  obtain ⟨i0, hi, hz0, hz1, hz2⟩ := info_parts Tryz.infoRow
  have hsb := h.lt
  obtain ⟨v, l, hdl, hbd, ht⟩ := h.at_
  have hll : db.length = l.length := by rw [hdl]; simp
  have hal : a < l.length := by omega
  have hlf := ht.few
  obtain ⟨g, cap, ca, cc, ra, rc, rfl, hg, y0, y1, y2, htt⟩ := ht.at a hal
  have s0 : w.cell? ⟨sb, 0, none⟩ = some (.slice (some ⟨g, 0, none⟩) l.length cap) := by rw [cell_blk hbd]; rfl
  have hgl := (ht.own.lt g rfl).1
  have hda : db[a].rows = l[a].1.rows := by simp [hdl]
  have hdf : ∀ rows, Sq.setRows db a rows = Sq.setRows (l.map Prod.fst) a rows := by rw [hdl]; intro rows; rfl
  obtain ⟨old, hold⟩ : ∃ x, x = l[a].1.rows := ⟨_, rfl⟩
  rw [← hold] at y2 hda
  have hro : RowsOwn 0 w (.slice ra old.length rc) old := by have := htt.rows; rw [← hold] at this; exact this
  have hof : old.length ≤ 100000 := by have := htt.few; rw [← hold] at this; exact this
  have HRO := hd hro
  have HDA := hd hda
  have HDF := hd hdf
  have HBD := hd hbd
  have HT := hd ht
  clear h hdl hbd ht htt y0 y1 hda hdf hold hro
  have hA : ¬ ((l.length : Int) ≤ (a : Int)) := by omega
  have hA0 : ¬ ((a : Int) < 0) := by omega
  go_enter Tryz.func46, Tryz.ntmps46
  go_wp2
  have HAL := hd hal
  clear hal hll hA hA0
  go_loopw [7, 8] (fun v i wr => ∃ k : Nat, k ≤ old.length ∧ i = .int .i64 k ∧ RowsOwn w.heap.size wr v ((old.take k).filter fun r => Sq.keyOf r != key) ∧ Below w.heap.size w wr) (fun _ i _ => old.length - (intOf i).toNat)
  case atStart => exact ⟨0, Nat.zero_le _, rfl, RowsOwn.nil _ _, Below.refl _ _⟩
  case round =>
    obtain ⟨k, hk, rfl, hacc, hb⟩ := hrel
    have hfl := Sq.filter_len (fun r => Sq.keyOf r != key) old k
    have hzw := hb.size
    have HB := hd hb
    have HACC := hd hacc
    clear hb hacc
    by_cases hlt : k < old.length
    · obtain ⟨q, cap', xa, xc, hv, hq, c0, hrow⟩ := (HRO.out.below HB.out).at k hlt
      simp only [Value.slice.injEq] at hv
      obtain ⟨rfl, -, rfl⟩ := hv
      have hft := Sq.ne_take (fun r => Sq.keyOf r != key) old k hlt
      obtain ⟨row, hrw⟩ : ∃ x, x = old[k] := ⟨_, rfl⟩
      rw [← hrw] at hft c0 hrow
      have HFT := hd hft
      have HROW := hd hrow
      clear hft hrow hrw
      go_wp2_with fail
      refine (Key_any row _ _ HROW.out).mono ?_
      rintro e w2 ⟨rfl, hb2⟩
      have c0' := ((bcell hb2).1 q k hq).trans c0
      have HB2 := hd (HB.out.trans (hb2.mono hzw))
      have HACC2 := hd (HACC.out.below hb2)
      have HROW2 := hd (HROW.out.below hb2)
      have hzz := hb2.size
      have hq2 : q < w2.heap.size := by omega
      obtain ⟨kx, hkx⟩ : ∃ y, y = Sq.keyOf row := ⟨_, rfl⟩
      have hft := HFT.out
      simp only [← hkx] at hft
      rw [← hkx]
      have HFT2 := hd hft
      clear hft hkx HFT hb2 c0
      cases he : kx != key
      case false =>
        have HE : Hid ((old.take (k + 1)).filter (fun r => Sq.keyOf r != key) = (old.take k).filter fun r => Sq.keyOf r != key) := by show _ = _; rw [HFT2.out, he]; simp
        go_wp2
        go_roundw
        case rel =>
          have CL := And.intro (show k + 1 ≤ old.length by omega) (And.intro (show Value.int .i64 ((k : Int) + 1) = .int .i64 ((k + 1 : Nat) : Int) by go_num) (And.intro HACC2.out HB2.out))
          rw [← HE.out] at CL
          first
            | exact ⟨k + 1, CL⟩
            | ((repeat apply Exists.intro); exact ⟨⟨k + 1, CL⟩, rfl⟩)
        case measure => simp [intOf]; omega
      case true =>
        have HE : Hid ((old.take (k + 1)).filter (fun r => Sq.keyOf r != key) = ((old.take k).filter fun r => Sq.keyOf r != key) ++ [row]) := by show _ = _; rw [HFT2.out, he]; simp
        obtain ⟨fl, hfle⟩ : ∃ x, x = (old.take k).filter fun r => Sq.keyOf r != key := ⟨_, rfl⟩
        have hro := HACC2.out
        have hee := HE.out
        rw [← hfle] at hro hee hfl
        obtain ⟨rvs, ho, hrs⟩ := hro
        have HEE := hd hee
        have hlr : rvs.length = fl.length := by have := ho.1; omega
        have HLR := hd hlr
        have HOA := hd (ho.alloc (.cells #[.slice xa row.length xc] 102))
        have HRS := hd hrs
        clear ho hrs hee hfle HE hlr
        go_wp2_with (at_builtin; refine wpList_append_lies _ rfl (.tmp 41) (.tmp 46) 63 rfl w.heap.size 102 i0 _ 1 24 Tryz.underlying63 hi hz0 hz1 hz2 rfl (by decide) _ fl.length rvs rfl HOA.out ⟨w2.heap.size, 0, none⟩ 1 1 [.slice xa row.length xc] rfl rfl (by exact new_cells w2 _ _ _ rfl rfl) (by intro u hu; simp at hu; subst hu; rfl) (by decide) (by unfold maxLen; omega) (by omega) (by simp; omega) _ rfl ?_; intro gg cap3 w3 hown3 hgrow3 hat3 hlt3; have HO3 := hd hown3; have HG3 := hd hgrow3; clear hown3 hgrow3 hat3)
        have hW2 : Below w2.heap.size w2 (w2.alloc (.cells #[.slice xa row.length xc] 102)) := (Below.refl _ _).alloc (Nat.le_refl _) _
        have hrel' : RowsOwn w.heap.size w3 (.slice (some ⟨gg, 0, none⟩) (fl.length + 1) cap3) (fl ++ [row]) :=
          RowsOwn.snoc HO3.out HLR.out (fun i r hi => let ⟨x, h4, h5⟩ := HRS.out i r hi; ⟨x, h4, (h5.below hW2).grown HOA.out HG3.out⟩) ((HROW2.out.below hW2).grown HOA.out HG3.out)
        have hbel : Below w.heap.size w w3 := HB2.out.trans ((Below.mono (B' := w.heap.size) hW2 (by omega)).trans (Tch.of_grown HG3.out (fun k hk => (HOA.out.lt k hk).1) (by simp; omega)))
        clear hW2
        go_roundw
        case rel =>
          have CL := And.intro (show k + 1 ≤ old.length by omega) (And.intro (show Value.int .i64 ((k : Int) + 1) = .int .i64 ((k + 1 : Nat) : Int) by go_num) (And.intro hrel' hbel))
          rw [← HEE.out] at CL
          first
            | exact ⟨k + 1, CL⟩
            | ((repeat apply Exists.intro); exact ⟨⟨k + 1, CL⟩, rfl⟩)
        case measure => simp [intOf]; omega
    · have hkl : old.take k = old := List.take_of_length_le (by omega)
      have hacc := HACC.out
      rw [hkl] at hacc
      obtain ⟨xo, xc, rfl⟩ := hacc.slice
      have hbd2 := (HB.out.block sb hsb).trans HBD.out
      have s0' : wr.cell? ⟨sb, 0, none⟩ = some (.slice (some ⟨g, 0, none⟩) l.length cap) := by rw [cell_blk hbd2]; rfl
      have y2' := ((bcell HB.out).1 g (a * 3 + 2) hg).trans y2
      have ht2 := HT.out.below HB.out
      have hfz := own_frozen ht2.own (a * 3 + 2)
      have hgz : g < wr.heap.size := by omega
      have hsz : sb < wr.heap.size := by omega
      have hcl : (old.filter fun r => Sq.keyOf r != key).length ≤ 100000 := Nat.le_trans (List.length_filter_le _ _) hof
      obtain ⟨hD, hF⟩ := DB.setRows hbd2 ht2 a HAL.out (.slice xo (old.filter fun r => Sq.keyOf r != key).length xc) _ _ hacc hcl
      have HD := hd hD
      have HF := hd hF
      have HCL := hd hcl
      obtain ⟨nl, hnl⟩ : ∃ x, x = (old.filter fun r => Sq.keyOf r != key).length := ⟨_, rfl⟩
      rw [← hnl]
      have hD2 := HD.out
      have hF2 := HF.out
      rw [← hnl] at hD2 hF2
      have HD2 := hd hD2
      have HF2 := hd hF2
      clear hkl hacc hbd2 ht2 hcl hD hF hnl hD2 hF2 HD HF HACC y2 s0
      have hal := HAL.out
      go_wp2
      go_end0
      refine ⟨rfl, ?_, (Frm.of_below HB.out (by omega)).trans HF2.out⟩
      rw [HDF.out, HDA.out]
      exact HD2.out

end Go.Proofs.YteibbdilhpdknaaGreatDoor

namespace Go.Proofs.YteibbdilhpdknaaGreatDoor
open Go.RowKit

theorem Sq.put_take (row : List Sq.Val) (old : List (List Sq.Val)) (k : Nat) (h : k < old.length) (hlt : Sq.keyOf old[k] < Sq.keyOf row) (hr : Sq.put row old = old.take k ++ Sq.put row (old.drop k)) : Sq.put row old = old.take (k + 1) ++ Sq.put row (old.drop (k + 1)) := by
  rw [hr, List.drop_eq_getElem_cons h, Sq.put, if_pos hlt, List.take_succ_eq_append_getElem h, List.append_assoc]
  rfl
theorem Sq.put_stop (row : List Sq.Val) (old : List (List Sq.Val)) (k : Nat) (h : k < old.length) (hlt : ¬ Sq.keyOf old[k] < Sq.keyOf row) (hr : Sq.put row old = old.take k ++ Sq.put row (old.drop k)) : Sq.put row old = old.take k ++ [row] ++ Sq.cutRows (Sq.keyOf row) (old.drop k) := by
  rw [hr, List.drop_eq_getElem_cons h, Sq.put, if_neg hlt, List.append_assoc]
  rfl
theorem Sq.put_last (row : List Sq.Val) (old : List (List Sq.Val)) (k : Nat) (h : ¬ k < old.length) (hr : Sq.put row old = old.take k ++ Sq.put row (old.drop k)) : Sq.put row old = old.take k ++ [row] ++ Sq.cutRows (Sq.keyOf row) (old.drop k) := by
  rw [hr, List.drop_eq_nil_of_le (by omega), Sq.put, List.append_assoc]
  rfl
theorem Sq.cut_step (key : Int) (old : List (List Sq.Val)) (k : Nat) (h : k < old.length) : Sq.cutRows key (old.drop k) = (if Sq.keyOf old[k] != key then [old[k]] else []) ++ Sq.cutRows key (old.drop (k + 1)) := by
  unfold Sq.cutRows
  rw [List.drop_eq_getElem_cons h, List.filter_cons]
  split <;> rfl
theorem Sq.take_snoc (old : List (List Sq.Val)) (k : Nat) (h : k < old.length) : old.take (k + 1) = old.take k ++ [old[k]] := List.take_succ_eq_append_getElem h

set_option maxRecDepth 100000 in
set_option maxHeartbeats 4000000 in
theorem Put_any (sb : Nat) (db : List Sq.Tab) (a : Nat) (row : List Sq.Val) (rv : Value) (w : World) (h : DB sb w db) (hr : RowAt w rv row) (ha : a < db.length) (hf : db[a].rows.length ≤ 1000) :
    Calls Tryz.prog 45 #[.pointer (some ⟨sb, 0, none⟩), .int .i64 a, .agg #[rv]] w fun e w' => e = .returned (.tuple #[]) ∧ DB sb w' (Sq.setRows db a (Sq.put row db[a].rows)) ∧ Frm sb w w' := by
  obtain ⟨i0, hi, hz0, hz1, hz2⟩ := info_parts Tryz.infoRow
  obtain ⟨xa, xc, rfl⟩ := ownsRow_slice hr.1
  have hsb := h.lt
  obtain ⟨v, l, hdl, hbd, ht⟩ := h.at_
  have hll : db.length = l.length := by rw [hdl]; simp
  have hal : a < l.length := by omega
  have hlf := ht.few
  obtain ⟨g, cap, ca, cc, ra, rc, rfl, hg, y0, y1, y2, htt⟩ := ht.at a hal
  have s0 : w.cell? ⟨sb, 0, none⟩ = some (.slice (some ⟨g, 0, none⟩) l.length cap) := by rw [cell_blk hbd]; rfl
  have hgl := (ht.own.lt g rfl).1
  have hda : db[a].rows = l[a].1.rows := by simp [hdl]
  have hdf : ∀ rows, Sq.setRows db a rows = Sq.setRows (l.map Prod.fst) a rows := by rw [hdl]; intro rows; rfl
  rw [hda] at hf
  obtain ⟨old, hold⟩ : ∃ x, x = l[a].1.rows := ⟨_, rfl⟩
  rw [← hold] at y2 hda hf
  have hro : RowsOwn 0 w (.slice ra old.length rc) old := by have := htt.rows; rw [← hold] at this; exact this
  have HRO := hd hro
  have HDA := hd hda
  have HDF := hd hdf
  have HBD := hd hbd
  have HT := hd ht
  have HROW0 := hd hr
  have hA : ¬ ((l.length : Int) ≤ (a : Int)) := by omega
  have hA0 : ¬ ((a : Int) < 0) := by omega
  have hW : ∀ o, Below w.heap.size w (w.alloc o) := fun o => (Below.refl _ _).alloc (Nat.le_refl _) _
  have HW := hd hW
  obtain ⟨key, hkey⟩ : ∃ x, x = Sq.keyOf row := ⟨_, rfl⟩
  have HKEY := hd hkey
  clear h hdl hbd ht htt y0 y1 hda hdf hold hro hr hW hkey
  go_enter Tryz.func45, Tryz.ntmps45
  go_wp2_with fail
  refine (Key_any row _ _ (HROW0.out.below (HW.out _))).mono ?_
  rintro e w1 ⟨rfl, hb1⟩
  obtain ⟨k1, k2⟩ := bcell hb1
  have c5 := k1 w.heap.size 0 (by simp)
  simp [go_sem] at c5
  have hbw1 : Below w.heap.size w w1 := (HW.out _).trans (hb1.mono (by simp))
  have hz1' : w.heap.size < w1.heap.size := by have := hb1.size; simp at this; omega
  have s1 := ((bcell hbw1).1 sb 0 hsb).trans s0
  have y2' := ((bcell hbw1).1 g (a * 3 + 2) hg).trans y2
  rw [← HKEY.out]
  have HBW1 := hd hbw1
  have HRO1 := hd (HRO.out.below hbw1)
  have HROW1 := hd (HROW0.out.below hbw1)
  have hg1 : g < w1.heap.size := by omega
  have hsb1 : sb < w1.heap.size := by omega
  clear hb1 k1 k2 hbw1 s0 y2
  go_wp2
  have HAL := hd hal
  have HC5 := hd c5
  have HS1 := hd s1
  have HY2 := hd y2'
  clear hal hll hA hA0 c5 s1 y2'
  go_loopw [8, 9] (fun v i wr => ∃ k : Nat, k ≤ old.length ∧ i = .int .i64 k ∧ RowsOwn w1.heap.size wr v (old.take k) ∧ Below w1.heap.size w1 wr ∧ Hid (Sq.put row old = old.take k ++ Sq.put row (old.drop k))) (fun _ i _ => old.length - (intOf i).toNat)
  case atStart => exact ⟨0, Nat.zero_le _, rfl, RowsOwn.nil _ _, Below.refl _ _, rfl⟩
  case round =>
    obtain ⟨k, hk, rfl, hacc, hb, HP⟩ := hrel
    have hzw := hb.size
    have htk : (old.take k).length = k := by rw [List.length_take]; omega
    obtain ⟨va, vc, rfl⟩ := hacc.slice
    rw [htk] at hacc
    rw [htk]
    have HB := hd hb
    have HACC := hd hacc
    have HTK := hd htk
    clear hb hacc htk
    by_cases hlt : k < old.length
    · obtain ⟨q, cap', ya, yc, hv, hq, c0, hrow⟩ := (HRO1.out.below HB.out).at k hlt
      simp only [Value.slice.injEq] at hv
      obtain ⟨rfl, -, rfl⟩ := hv
      have htn := Sq.take_snoc old k hlt
      have hpt := Sq.put_take row old k hlt
      have hps := Sq.put_stop row old k hlt
      obtain ⟨r, hrw⟩ : ∃ x, x = old[k] := ⟨_, rfl⟩
      rw [← hrw] at c0 hrow htn
      simp only [← hrw, ← HKEY.out] at hpt hps
      have HTN := hd htn
      have HPT := hd hpt
      have HPS := hd hps
      have HROW := hd hrow
      clear hrow hrw htn hpt hps
      go_wp2_with fail
      refine (Key_any r _ _ HROW.out).mono ?_
      rintro e w2 ⟨rfl, hb2⟩
      have c0' := ((bcell hb2).1 q k hq).trans c0
      have HB2 := hd (HB.out.trans (hb2.mono hzw))
      have HACC2 := hd (HACC.out.below hb2)
      have HROW2 := hd (HROW.out.below hb2)
      have hzz := hb2.size
      have hq2 : q < w2.heap.size := by omega
      obtain ⟨kx, hkx⟩ : ∃ y, y = Sq.keyOf r := ⟨_, rfl⟩
      rw [← hkx]
      have HKX := hd hkx
      clear hkx hb2 c0
      by_cases he : kx < key
      · have HPN := hd (HPT.out (by rw [← HKX.out]; exact he) HP.out)
        obtain ⟨rvs, ho, hrs⟩ := HACC2.out
        have hlr : rvs.length = k := by have := ho.1; have := HTK.out; omega
        have hrs' : ∀ i rr, (old.take k)[i]? = some rr → ∃ x, rvs[i]? = some x ∧ RowAt w2 x rr := hrs
        have ho' : w2.ownsRow w1.heap.size 102 1 (.slice va k vc) k rvs := by have h9 := ho; rw [HTK.out] at h9; exact h9
        have HLR := hd hlr
        have HOA := hd (ho'.alloc (.cells #[.slice ya r.length yc] 102))
        have HRS := hd hrs'
        clear ho hrs hlr hrs' ho'
        go_wp2_with (at_builtin; refine wpList_append_lies _ rfl (.tmp 44) (.tmp 49) 63 rfl w1.heap.size 102 i0 _ 1 24 Tryz.underlying63 hi hz0 hz1 hz2 rfl (by decide) _ k rvs rfl HOA.out ⟨w2.heap.size, 0, none⟩ 1 1 [.slice ya r.length yc] rfl rfl (by exact new_cells w2 _ _ _ rfl rfl) (by intro u hu; simp at hu; subst hu; rfl) (by decide) (by unfold maxLen; omega) (by omega) (by simp; omega) _ rfl ?_; intro gg cap3 w3 hown3 hgrow3 hat3 hlt3; have HO3 := hd hown3; have HG3 := hd hgrow3; clear hown3 hgrow3 hat3)
        have hW2 : Below w2.heap.size w2 (w2.alloc (.cells #[.slice ya r.length yc] 102)) := (Below.refl _ _).alloc (Nat.le_refl _) _
        have h8 : w3.ownsRow w1.heap.size 102 1 (.slice (some ⟨gg, 0, none⟩) (k + 1) cap3) ((old.take k).length + 1) (rvs ++ [.slice ya r.length yc]) := by rw [HTK.out]; exact HO3.out
        have hrel' : RowsOwn w1.heap.size w3 (.slice (some ⟨gg, 0, none⟩) (k + 1) cap3) (old.take k ++ [r]) :=
          RowsOwn.snoc h8 (by rw [HTK.out]; exact HLR.out) (fun i r hi => let ⟨x, h4, h5⟩ := HRS.out i r hi; ⟨x, h4, (h5.below hW2).grown HOA.out HG3.out⟩) ((HROW2.out.below hW2).grown HOA.out HG3.out)
        have hbel : Below w1.heap.size w1 w3 := HB2.out.trans ((Below.mono (B' := w1.heap.size) hW2 (by omega)).trans (Tch.of_grown HG3.out (fun k hk => (HOA.out.lt k hk).1) (by simp; omega)))
        clear hW2 h8
        go_roundw
        case rel =>
          have CL := And.intro (show k + 1 ≤ old.length by omega) (And.intro (show Value.int .i64 ((k : Int) + 1) = .int .i64 ((k + 1 : Nat) : Int) by go_num) (And.intro hrel' (And.intro hbel HPN)))
          rw [← HTN.out] at CL
          first
            | exact ⟨k + 1, CL⟩
            | ((repeat apply Exists.intro); exact ⟨⟨k + 1, CL⟩, rfl⟩)
        case measure => simp [intOf]; omega
      · have HPN := hd (HPS.out (by rw [← HKX.out]; omega) HP.out)
        have c5W := ((bcell HB2.out).1 w.heap.size 0 hz1').trans HC5.out
        have hzW := HB2.out.size
        clear HP
        go_wp2_with fail
        refine (Copy_any row _ _ (HROW1.out.below HB2.out)).mono ?_
        rintro e w4 ⟨ng, ncap, rfl, hnew, hb4⟩
        have HB4 := hd (HB2.out.trans (hb4.mono hzW))
        have hz4 := hb4.size
        have HNEW := hd hnew.row
        have hn4 := (World.ownsRow.lt hnew.1 ng rfl).2
        obtain ⟨rvs, ho, hrs⟩ := HACC2.out.below hb4
        have hlr : rvs.length = k := by have := ho.1; have := HTK.out; omega
        have hrs' : ∀ i rr, (old.take k)[i]? = some rr → ∃ x, rvs[i]? = some x ∧ RowAt w4 x rr := hrs
        have ho' : w4.ownsRow w1.heap.size 102 1 (.slice va k vc) k rvs := by have h9 := ho; rw [HTK.out] at h9; exact h9
        have HLR := hd hlr
        have HOA := hd (ho'.alloc (.cells #[.slice (some ⟨ng, 0, none⟩) row.length ncap] 102))
        have HRS := hd hrs'
        clear ho hrs hlr hrs' ho' hnew hb4 c5W
        go_wp2_with (at_builtin; refine wpList_append_lies _ rfl (.tmp 53) (.tmp 56) 63 rfl w1.heap.size 102 i0 _ 1 24 Tryz.underlying63 hi hz0 hz1 hz2 rfl (by decide) _ k rvs rfl HOA.out ⟨w4.heap.size, 0, none⟩ 1 1 [.slice (some ⟨ng, 0, none⟩) row.length ncap] rfl rfl (by exact new_cells w4 _ _ _ rfl rfl) (by intro u hu; simp at hu; subst hu; rfl) (by decide) (by unfold maxLen; omega) (by omega) (by simp; omega) _ rfl ?_; intro gg cap3 w5 hown5 hgrow5 hat5 hlt5; have HO5 := hd hown5; have HG5 := hd hgrow5; clear hown5 hgrow5 hat5)
        have hW4 : Below w4.heap.size w4 (w4.alloc (.cells #[.slice (some ⟨ng, 0, none⟩) row.length ncap] 102)) := (Below.refl _ _).alloc (Nat.le_refl _) _
        have h8 : w5.ownsRow w1.heap.size 102 1 (.slice (some ⟨gg, 0, none⟩) (k + 1) cap3) ((old.take k).length + 1) (rvs ++ [.slice (some ⟨ng, 0, none⟩) row.length ncap]) := by rw [HTK.out]; exact HO5.out
        have hrel5 : RowsOwn w1.heap.size w5 (.slice (some ⟨gg, 0, none⟩) (k + 1) cap3) (old.take k ++ [row]) :=
          RowsOwn.snoc h8 (by rw [HTK.out]; exact HLR.out) (fun i r hi => let ⟨x, h4, h5⟩ := HRS.out i r hi; ⟨x, h4, (h5.below hW4).grown HOA.out HG5.out⟩) ((HNEW.out.below hW4).grown HOA.out HG5.out)
        have hbel5 : Below w1.heap.size w1 w5 := HB4.out.trans ((Below.mono (B' := w1.heap.size) hW4 (by omega)).trans (Tch.of_grown HG5.out (fun k hk => (HOA.out.lt k hk).1) (by simp; omega)))
        have HREL5 := hd hrel5
        have HBEL5 := hd hbel5
        have hl5 : (old.take k ++ [row]).length ≤ k + 1 := by have := HTK.out; simp; omega
        have HL5 := hd hl5
        clear hW4 h8 hrel5 hbel5 hl5
        go_loopw [8, 9] (fun v i wq => ∃ (j : Nat) (acc : List (List Sq.Val)), j ≤ old.length ∧ acc.length ≤ j + 1 ∧ i = .int .i64 j ∧ RowsOwn w1.heap.size wq v acc ∧ Below w1.heap.size w1 wq ∧ Hid (Sq.put row old = acc ++ Sq.cutRows key (old.drop j))) (fun _ i _ => old.length - (intOf i).toNat)
        case atStart => exact ⟨k, _, hk, HL5.out, rfl, HREL5.out, HBEL5.out, HPN⟩
        case round =>
          obtain ⟨j, acc, hj, hal2, rfl, hacc, hbq, HP2⟩ := hrel
          have hzq := hbq.size
          obtain ⟨ua, uc, rfl⟩ := hacc.slice
          have HBQ := hd hbq
          have HACQ := hd hacc
          obtain ⟨na, hna⟩ : ∃ n, n = acc.length := ⟨_, rfl⟩
          rw [← hna] at hal2
          rw [← hna] at hacc
          rw [← hna]
          have HACQ := hd hacc
          have HNA := hd hna
          clear hbq hacc hna
          by_cases hlt2 : j < old.length
          · obtain ⟨q2, cap2, ya2, yc2, hv2, hq2, c2, hrow2⟩ := (HRO1.out.below HBQ.out).at j hlt2
            simp only [Value.slice.injEq] at hv2
            obtain ⟨h21, -, h22⟩ := hv2
            first
              | subst h21
              | (simp only [Option.some.injEq, Addr.mk.injEq, and_true] at h21; subst h21)
            subst h22
            have hcs := Sq.cut_step key old j hlt2
            obtain ⟨r2, hrw2⟩ : ∃ x, x = old[j] := ⟨_, rfl⟩
            rw [← hrw2] at c2 hrow2 hcs
            have HCS := hd hcs
            have HR2 := hd hrow2
            clear hrow2 hrw2 hcs
            go_wp2_with fail
            refine (Key_any r2 _ _ HR2.out).mono ?_
            rintro e w6 ⟨rfl, hb6⟩
            have c6 := ((bcell hb6).1 _ j hq2).trans c2
            have HB6 := hd (HBQ.out.trans (hb6.mono hzq))
            have HACC6 := hd (HACQ.out.below hb6)
            have HROW6 := hd (HR2.out.below hb6)
            have hz6 := hb6.size
            have hq6 := Nat.lt_of_lt_of_le hq2 hz6
            obtain ⟨kx2, hkx2⟩ : ∃ y, y = Sq.keyOf r2 := ⟨_, rfl⟩
            rw [← hkx2]
            have hcs := HCS.out
            rw [← hkx2] at hcs
            have HCS2 := hd hcs
            clear hcs hkx2 HCS hb6 c2
            cases he2 : kx2 != key
            case false =>
              have HE : Hid (Sq.put row old = acc ++ Sq.cutRows key (old.drop (j + 1))) := by show _ = _; rw [HP2.out, HCS2.out, he2]; rfl
              go_wp2
              go_roundw
              case rel =>
                have hacc9 := HACC6.out
                rw [HNA.out] at hacc9 hal2 ⊢
                have CL := And.intro (show j + 1 ≤ old.length by omega) (And.intro (show acc.length ≤ j + 1 + 1 by omega) (And.intro (show Value.int .i64 ((j : Int) + 1) = .int .i64 ((j + 1 : Nat) : Int) by go_num) (And.intro hacc9 (And.intro HB6.out HE))))
                first
                  | exact ⟨j + 1, acc, CL⟩
                  | ((repeat apply Exists.intro); exact ⟨⟨j + 1, acc, CL⟩, rfl⟩)
              case measure => simp [intOf]; omega
            case true =>
              have HE : Hid (Sq.put row old = (acc ++ [r2]) ++ Sq.cutRows key (old.drop (j + 1))) := by show _ = _; rw [HP2.out, HCS2.out, he2, List.append_assoc]; rfl
              obtain ⟨rvs6, ho6, hrs6⟩ := HACC6.out
              have hlr6 : rvs6.length = na := by have := ho6.1; have := HNA.out; omega
              have hrs6' : ∀ i rr, acc[i]? = some rr → ∃ x, rvs6[i]? = some x ∧ RowAt w6 x rr := hrs6
              have ho6' : w6.ownsRow w1.heap.size 102 1 (.slice ua na uc) na rvs6 := by have h9 := ho6; rw [← HNA.out] at h9; exact h9
              have HLR6 := hd hlr6
              have HOA6 := hd (ho6'.alloc (.cells #[.slice ya2 r2.length yc2] 102))
              have HRS6 := hd hrs6'
              clear ho6 hrs6 hlr6 hrs6' ho6'
              go_wp2_with (at_builtin; refine wpList_append_lies _ rfl (.tmp 71) (.tmp 76) 63 rfl w1.heap.size 102 i0 _ 1 24 Tryz.underlying63 hi hz0 hz1 hz2 rfl (by decide) _ na rvs6 rfl HOA6.out ⟨w6.heap.size, 0, none⟩ 1 1 [.slice ya2 r2.length yc2] rfl rfl (by exact new_cells w6 _ _ _ rfl rfl) (by intro u hu; simp at hu; subst hu; rfl) (by decide) (by unfold maxLen; omega) (by omega) (by simp; omega) _ rfl ?_; intro gg7 cap7 w7 hown7 hgrow7 hat7 hlt7; have HO7 := hd hown7; have HG7 := hd hgrow7; clear hown7 hgrow7 hat7)
              have hW6 : Below w6.heap.size w6 (w6.alloc (.cells #[.slice ya2 r2.length yc2] 102)) := (Below.refl _ _).alloc (Nat.le_refl _) _
              have h8 : w7.ownsRow w1.heap.size 102 1 (.slice (some ⟨gg7, 0, none⟩) (na + 1) cap7) (acc.length + 1) (rvs6 ++ [.slice ya2 r2.length yc2]) := by rw [← HNA.out]; exact HO7.out
              have hrel7 : RowsOwn w1.heap.size w7 (.slice (some ⟨gg7, 0, none⟩) (na + 1) cap7) (acc ++ [r2]) :=
                RowsOwn.snoc h8 (by rw [← HNA.out]; exact HLR6.out) (fun i r hi => let ⟨x, h4, h5⟩ := HRS6.out i r hi; ⟨x, h4, (h5.below hW6).grown HOA6.out HG7.out⟩) ((HROW6.out.below hW6).grown HOA6.out HG7.out)
              have hbel7 : Below w1.heap.size w1 w7 := HB6.out.trans ((Below.mono (B' := w1.heap.size) hW6 (by omega)).trans (Tch.of_grown HG7.out (fun k hk => (HOA6.out.lt k hk).1) (by simp; omega)))
              clear hW6 h8
              go_roundw
              case rel =>
                have CL := And.intro (show j + 1 ≤ old.length by omega) (And.intro (show (acc ++ [r2]).length ≤ j + 1 + 1 by have := HNA.out; simp; omega) (And.intro (show Value.int .i64 ((j : Int) + 1) = .int .i64 ((j + 1 : Nat) : Int) by go_num) (And.intro hrel7 (And.intro hbel7 HE))))
                first
                  | exact ⟨j + 1, acc ++ [r2], CL⟩
                  | ((repeat apply Exists.intro); exact ⟨⟨j + 1, acc ++ [r2], CL⟩, rfl⟩)
              case measure => simp [intOf]; omega
          · have hfin : Sq.put row old = acc := by rw [HP2.out, List.drop_eq_nil_of_le (by omega)]; simp [Sq.cutRows]
            have HFIN := hd hfin
            have hbw : Below w.heap.size w wr := HBW1.out.trans (HBQ.out.mono (by omega))
            have hbd2 := (hbw.block sb hsb).trans HBD.out
            have s0' : wr.cell? ⟨sb, 0, none⟩ = some (.slice (some ⟨g, 0, none⟩) l.length cap) := by rw [cell_blk hbd2]; rfl
            have ht2 := HT.out.below hbw
            have hfz := own_frozen ht2.own (a * 3 + 2)
            have hgz : g < wr.heap.size := by omega
            have hsz : sb < wr.heap.size := by omega
            have hcl : acc.length ≤ 100000 := by have := HNA.out; omega
            obtain ⟨y3, hy3⟩ : ∃ y, wr.cell? ⟨g, a * 3 + 2, none⟩ = some y := ⟨_, ((bcell HBQ.out).1 g (a * 3 + 2) hg1).trans HY2.out⟩
            obtain ⟨hD, hF⟩ := DB.setRows hbd2 ht2 a HAL.out (.slice ua na uc) _ _ HACQ.out hcl
            have HD2 := hd hD
            have HF2 := hd hF
            have HBW := hd hbw
            clear hfin hbd2 ht2 hcl hD hF hbw HACQ
            have hal := HAL.out
            go_wp2
            go_end0
            refine ⟨rfl, ?_, (Frm.of_below HBW.out (by omega)).trans HF2.out⟩
            rw [HDF.out, HDA.out, HFIN.out]
            exact HD2.out
    · have hpl := Sq.put_last row old k hlt HP.out
      rw [← HKEY.out] at hpl
      have HPN := hd hpl
      clear hpl
      have c5W := ((bcell HB.out).1 w.heap.size 0 hz1').trans HC5.out
      have hzW := HB.out.size
      clear HP
      go_wp2_with fail
      refine (Copy_any row _ _ (HROW1.out.below HB.out)).mono ?_
      rintro e w4 ⟨ng, ncap, rfl, hnew, hb4⟩
      have HB4 := hd (HB.out.trans (hb4.mono hzW))
      have hz4 := hb4.size
      have HNEW := hd hnew.row
      have hn4 := (World.ownsRow.lt hnew.1 ng rfl).2
      obtain ⟨rvs, ho, hrs⟩ := HACC.out.below hb4
      have hlr : rvs.length = k := by have := ho.1; have := HTK.out; omega
      have hrs' : ∀ i rr, (old.take k)[i]? = some rr → ∃ x, rvs[i]? = some x ∧ RowAt w4 x rr := hrs
      have ho' : w4.ownsRow w1.heap.size 102 1 (.slice va k vc) k rvs := by have h9 := ho; rw [HTK.out] at h9; exact h9
      have HLR := hd hlr
      have HOA := hd (ho'.alloc (.cells #[.slice (some ⟨ng, 0, none⟩) row.length ncap] 102))
      have HRS := hd hrs'
      clear ho hrs hlr hrs' ho' hnew hb4 c5W
      go_wp2_with (at_builtin; refine wpList_append_lies _ rfl (.tmp 53) (.tmp 56) 63 rfl w1.heap.size 102 i0 _ 1 24 Tryz.underlying63 hi hz0 hz1 hz2 rfl (by decide) _ k rvs rfl HOA.out ⟨w4.heap.size, 0, none⟩ 1 1 [.slice (some ⟨ng, 0, none⟩) row.length ncap] rfl rfl (by exact new_cells w4 _ _ _ rfl rfl) (by intro u hu; simp at hu; subst hu; rfl) (by decide) (by unfold maxLen; omega) (by omega) (by simp; omega) _ rfl ?_; intro gg cap3 w5 hown5 hgrow5 hat5 hlt5; have HO5 := hd hown5; have HG5 := hd hgrow5; clear hown5 hgrow5 hat5)
      have hW4 : Below w4.heap.size w4 (w4.alloc (.cells #[.slice (some ⟨ng, 0, none⟩) row.length ncap] 102)) := (Below.refl _ _).alloc (Nat.le_refl _) _
      have h8 : w5.ownsRow w1.heap.size 102 1 (.slice (some ⟨gg, 0, none⟩) (k + 1) cap3) ((old.take k).length + 1) (rvs ++ [.slice (some ⟨ng, 0, none⟩) row.length ncap]) := by rw [HTK.out]; exact HO5.out
      have hrel5 : RowsOwn w1.heap.size w5 (.slice (some ⟨gg, 0, none⟩) (k + 1) cap3) (old.take k ++ [row]) :=
        RowsOwn.snoc h8 (by rw [HTK.out]; exact HLR.out) (fun i r hi => let ⟨x, h4, h5⟩ := HRS.out i r hi; ⟨x, h4, (h5.below hW4).grown HOA.out HG5.out⟩) ((HNEW.out.below hW4).grown HOA.out HG5.out)
      have hbel5 : Below w1.heap.size w1 w5 := HB4.out.trans ((Below.mono (B' := w1.heap.size) hW4 (by omega)).trans (Tch.of_grown HG5.out (fun k hk => (HOA.out.lt k hk).1) (by simp; omega)))
      have HREL5 := hd hrel5
      have HBEL5 := hd hbel5
      have hl5 : (old.take k ++ [row]).length ≤ k + 1 := by have := HTK.out; simp; omega
      have HL5 := hd hl5
      clear hW4 h8 hrel5 hbel5 hl5
      go_loopw [8, 9] (fun v i wq => ∃ (j : Nat) (acc : List (List Sq.Val)), j ≤ old.length ∧ acc.length ≤ j + 1 ∧ i = .int .i64 j ∧ RowsOwn w1.heap.size wq v acc ∧ Below w1.heap.size w1 wq ∧ Hid (Sq.put row old = acc ++ Sq.cutRows key (old.drop j))) (fun _ i _ => old.length - (intOf i).toNat)
      case atStart => exact ⟨k, _, hk, HL5.out, rfl, HREL5.out, HBEL5.out, HPN⟩
      case round =>
        obtain ⟨j, acc, hj, hal2, rfl, hacc, hbq, HP2⟩ := hrel
        have hzq := hbq.size
        obtain ⟨ua, uc, rfl⟩ := hacc.slice
        have HBQ := hd hbq
        have HACQ := hd hacc
        obtain ⟨na, hna⟩ : ∃ n, n = acc.length := ⟨_, rfl⟩
        rw [← hna] at hal2
        rw [← hna] at hacc
        rw [← hna]
        have HACQ := hd hacc
        have HNA := hd hna
        clear hbq hacc hna
        by_cases hlt2 : j < old.length
        · obtain ⟨q2, cap2, ya2, yc2, hv2, hq2, c2, hrow2⟩ := (HRO1.out.below HBQ.out).at j hlt2
          simp only [Value.slice.injEq] at hv2
          obtain ⟨h21, -, h22⟩ := hv2
          first
            | subst h21
            | (simp only [Option.some.injEq, Addr.mk.injEq, and_true] at h21; subst h21)
          subst h22
          have hcs := Sq.cut_step key old j hlt2
          obtain ⟨r2, hrw2⟩ : ∃ x, x = old[j] := ⟨_, rfl⟩
          rw [← hrw2] at c2 hrow2 hcs
          have HCS := hd hcs
          have HR2 := hd hrow2
          clear hrow2 hrw2 hcs
          go_wp2_with fail
          refine (Key_any r2 _ _ HR2.out).mono ?_
          rintro e w6 ⟨rfl, hb6⟩
          have c6 := ((bcell hb6).1 _ j hq2).trans c2
          have HB6 := hd (HBQ.out.trans (hb6.mono hzq))
          have HACC6 := hd (HACQ.out.below hb6)
          have HROW6 := hd (HR2.out.below hb6)
          have hz6 := hb6.size
          have hq6 := Nat.lt_of_lt_of_le hq2 hz6
          obtain ⟨kx2, hkx2⟩ : ∃ y, y = Sq.keyOf r2 := ⟨_, rfl⟩
          rw [← hkx2]
          have hcs := HCS.out
          rw [← hkx2] at hcs
          have HCS2 := hd hcs
          clear hcs hkx2 HCS hb6 c2
          cases he2 : kx2 != key
          case false =>
            have HE : Hid (Sq.put row old = acc ++ Sq.cutRows key (old.drop (j + 1))) := by show _ = _; rw [HP2.out, HCS2.out, he2]; rfl
            go_wp2
            go_roundw
            case rel =>
              have hacc9 := HACC6.out
              rw [HNA.out] at hacc9 hal2 ⊢
              have CL := And.intro (show j + 1 ≤ old.length by omega) (And.intro (show acc.length ≤ j + 1 + 1 by omega) (And.intro (show Value.int .i64 ((j : Int) + 1) = .int .i64 ((j + 1 : Nat) : Int) by go_num) (And.intro hacc9 (And.intro HB6.out HE))))
              first
                | exact ⟨j + 1, acc, CL⟩
                | ((repeat apply Exists.intro); exact ⟨⟨j + 1, acc, CL⟩, rfl⟩)
            case measure => simp [intOf]; omega
          case true =>
            have HE : Hid (Sq.put row old = (acc ++ [r2]) ++ Sq.cutRows key (old.drop (j + 1))) := by show _ = _; rw [HP2.out, HCS2.out, he2, List.append_assoc]; rfl
            obtain ⟨rvs6, ho6, hrs6⟩ := HACC6.out
            have hlr6 : rvs6.length = na := by have := ho6.1; have := HNA.out; omega
            have hrs6' : ∀ i rr, acc[i]? = some rr → ∃ x, rvs6[i]? = some x ∧ RowAt w6 x rr := hrs6
            have ho6' : w6.ownsRow w1.heap.size 102 1 (.slice ua na uc) na rvs6 := by have h9 := ho6; rw [← HNA.out] at h9; exact h9
            have HLR6 := hd hlr6
            have HOA6 := hd (ho6'.alloc (.cells #[.slice ya2 r2.length yc2] 102))
            have HRS6 := hd hrs6'
            clear ho6 hrs6 hlr6 hrs6' ho6'
            go_wp2_with (at_builtin; refine wpList_append_lies _ rfl (.tmp 71) (.tmp 76) 63 rfl w1.heap.size 102 i0 _ 1 24 Tryz.underlying63 hi hz0 hz1 hz2 rfl (by decide) _ na rvs6 rfl HOA6.out ⟨w6.heap.size, 0, none⟩ 1 1 [.slice ya2 r2.length yc2] rfl rfl (by exact new_cells w6 _ _ _ rfl rfl) (by intro u hu; simp at hu; subst hu; rfl) (by decide) (by unfold maxLen; omega) (by omega) (by simp; omega) _ rfl ?_; intro gg7 cap7 w7 hown7 hgrow7 hat7 hlt7; have HO7 := hd hown7; have HG7 := hd hgrow7; clear hown7 hgrow7 hat7)
            have hW6 : Below w6.heap.size w6 (w6.alloc (.cells #[.slice ya2 r2.length yc2] 102)) := (Below.refl _ _).alloc (Nat.le_refl _) _
            have h8 : w7.ownsRow w1.heap.size 102 1 (.slice (some ⟨gg7, 0, none⟩) (na + 1) cap7) (acc.length + 1) (rvs6 ++ [.slice ya2 r2.length yc2]) := by rw [← HNA.out]; exact HO7.out
            have hrel7 : RowsOwn w1.heap.size w7 (.slice (some ⟨gg7, 0, none⟩) (na + 1) cap7) (acc ++ [r2]) :=
              RowsOwn.snoc h8 (by rw [← HNA.out]; exact HLR6.out) (fun i r hi => let ⟨x, h4, h5⟩ := HRS6.out i r hi; ⟨x, h4, (h5.below hW6).grown HOA6.out HG7.out⟩) ((HROW6.out.below hW6).grown HOA6.out HG7.out)
            have hbel7 : Below w1.heap.size w1 w7 := HB6.out.trans ((Below.mono (B' := w1.heap.size) hW6 (by omega)).trans (Tch.of_grown HG7.out (fun k hk => (HOA6.out.lt k hk).1) (by simp; omega)))
            clear hW6 h8
            go_roundw
            case rel =>
              have CL := And.intro (show j + 1 ≤ old.length by omega) (And.intro (show (acc ++ [r2]).length ≤ j + 1 + 1 by have := HNA.out; simp; omega) (And.intro (show Value.int .i64 ((j : Int) + 1) = .int .i64 ((j + 1 : Nat) : Int) by go_num) (And.intro hrel7 (And.intro hbel7 HE))))
              first
                | exact ⟨j + 1, acc ++ [r2], CL⟩
                | ((repeat apply Exists.intro); exact ⟨⟨j + 1, acc ++ [r2], CL⟩, rfl⟩)
            case measure => simp [intOf]; omega
        · have hfin : Sq.put row old = acc := by rw [HP2.out, List.drop_eq_nil_of_le (by omega)]; simp [Sq.cutRows]
          have HFIN := hd hfin
          have hbw : Below w.heap.size w wr := HBW1.out.trans (HBQ.out.mono (by omega))
          have hbd2 := (hbw.block sb hsb).trans HBD.out
          have s0' : wr.cell? ⟨sb, 0, none⟩ = some (.slice (some ⟨g, 0, none⟩) l.length cap) := by rw [cell_blk hbd2]; rfl
          have ht2 := HT.out.below hbw
          have hfz := own_frozen ht2.own (a * 3 + 2)
          have hgz : g < wr.heap.size := by omega
          have hsz : sb < wr.heap.size := by omega
          have hcl : acc.length ≤ 100000 := by have := HNA.out; omega
          obtain ⟨y3, hy3⟩ : ∃ y, wr.cell? ⟨g, a * 3 + 2, none⟩ = some y := ⟨_, ((bcell HBQ.out).1 g (a * 3 + 2) hg1).trans HY2.out⟩
          obtain ⟨hD, hF⟩ := DB.setRows hbd2 ht2 a HAL.out (.slice ua na uc) _ _ HACQ.out hcl
          have HD2 := hd hD
          have HF2 := hd hF
          have HBW := hd hbw
          clear hfin hbd2 ht2 hcl hD hF hbw HACQ
          have hal := HAL.out
          go_wp2
          go_end0
          refine ⟨rfl, ?_, (Frm.of_below HBW.out (by omega)).trans HF2.out⟩
          rw [HDF.out, HDA.out, HFIN.out]
          exact HD2.out

end Go.Proofs.YteibbdilhpdknaaGreatDoor
