import Derived.Deep.CutRange
import Derived.Test.YtamkfbelpfpjcaaGreatDoorHb
import Derived.Test.YtamkfbelpfpjcaaGreatDoorHc
import Derived.Test.YtamkfbelpfpjcaaGreatDoorGh
set_option linter.unusedVariables false
set_option linter.unusedSimpArgs false

namespace Go.Proofs.YtamkfbelpfpjcaaGreatDoor
open Go.RowKit

theorem wpList_append_row {ops : Array Oper} {rest : List Oper} {o : Oper} {a : Act} {Q : Exit → Act → World → Prop} {w : World} (hgd : o.guard = none) (sl x : Operand)
    (ho : o.op = .call { callee := .builtin .append, args := #[sl, x], argTypes := #[53, 53] }) (B : Nat) (v : Value) (rows : List (List Sq.Val)) (hs : a.eval sl = v) (hb : RowsOwn B w v rows)
    (row : List Sq.Val) (rv : Value) (g cc : Nat) (hx : a.eval x = .slice (some ⟨g, 0, none⟩) 1 cc) (hc0 : w.cell? ⟨g, 0, none⟩ = some rv) (hrow : RowAt w rv row) (h1 : rows.length + 1 ≤ 1000000) (hB : B ≤ w.heap.size)
    (h : ∀ v' w', RowsOwn B w' v' (rows ++ [row]) → Below B w w' → wpList Tryz.prog ops Q rest (a.put o.dst v') w') : wpList Tryz.prog ops Q (o :: rest) a w := by
  obtain ⟨i0, hi, hz0, hz1, hz2⟩ := info_parts Tryz.infoRow
  obtain ⟨rvs, hown, heach⟩ := hb
  refine wpList_append_lies _ hgd sl x 53 ho B 87 i0 _ 1 24 Tryz.underlying53 hi hz0 hz1 hz2 rfl (by decide) v rows.length _ hs hown ⟨g, 0, none⟩ 1 cc [rv] hx rfl (by
    intro j u hu
    have ea : (⟨g, 0, none⟩ : Addr).add j = ⟨g, j, none⟩ := by unfold Addr.add; split <;> simp_all
    rw [ea]
    match j, hu with
    | 0, hu => simp at hu; subst hu; exact hc0
    | j + 1, hu => simp at hu) (by intro u hu; simp at hu; subst hu; exact hrow.one) (by decide) (by unfold maxLen; omega) (by omega) hB _ rfl ?_
  intro g' cap w' ho' hg' _ _
  exact h _ w' (RowsOwn.snoc ho' (by simpa using hown.1) (fun i r hi => let ⟨y, h4, h5⟩ := heach i r hi; ⟨y, h4, h5.grown hown hg'⟩) (hrow.grown hown hg')) (Tch.of_grown hg' (fun k hk => (hown.lt k hk).1) hB)

theorem Sq.rows_take (cols : List Sq.Col) (es : List Sq.Ent) (k : Nat) (h : k < es.length) : (es.take (k + 1)).filterMap (Sq.rowOf cols) = (es.take k).filterMap (Sq.rowOf cols) ++ (Sq.rowOf cols es[k]).toList := by
  rw [List.take_succ_eq_append_getElem h, List.filterMap_append]
  cases h2 : Sq.rowOf cols es[k] <;> simp [h2]
theorem Sq.rows_len (cols : List Sq.Col) (es : List Sq.Ent) (k : Nat) : ((es.take k).filterMap (Sq.rowOf cols)).length ≤ k := Nat.le_trans (List.length_filterMap_le _ _) (List.length_take_le _ _)
theorem Sq.toCells_len {cols : List Sq.Col} {key : Int} {row : ByteArray} {l : List Sq.Val} (h : Sq.toCells cols key row = some l) : l.length ≤ cols.length + 1 := by
  unfold Sq.toCells at h
  split at h
  · cases h
    unfold Sq.rowCells
    rw [Sq.cellsR_len]
    simp; omega
  · cases h

/-- What Rows answers. -/
def RowsPost (w : World) (rows : List (List Sq.Val)) (e : Ending) (w' : World) : Prop := ∃ v, e = .returned v ∧ RowsOwn w.heap.size w' v rows ∧ Below w.heap.size w w'

set_option maxRecDepth 100000 in
set_option maxHeartbeats 8000000 in
theorem Rows_any (n : Nat) (t : List (Sq.Kid n)) (ev cv : Value) (tb : Sq.TabN) (tv : Value) (w : World) (h : NodeAt w n t ev cv) (ho : Sq.okT n t) (hl : (Sq.ents n t).length ≤ 500) (htn0 : 0 ≤ tb.number) (htn1 : tb.number ≤ 100000) (htc : ColsAt w tv tb.cols) (htl : tb.cols.length ≤ 1000) (hes : (Sq.entsOf ⟨n, t⟩ tb.number).length ≤ 500) (hrow : ∀ e ∈ Sq.entsOf ⟨n, t⟩ tb.number, e.row.size ≤ 1000 ∧ 0 ≤ e.place) :
    Calls Tryz.prog 30 #[.agg (nodeCells n (t, ev, cv)).toArray, .agg #[.int .i64 tb.number, .string tb.name, tv]] w (RowsPost w (Sq.rowsOf ⟨n, t⟩ tb)) := by
  rw [nodeCells_arr]
  obtain ⟨⟨e1, e2, e3, hev⟩, c1, c2, c3, hcv⟩ := h.slices
  subst hev hcv
  obtain ⟨to', tcap, rfl⟩ := ownsRow_slice htc.1
  have HK : Hid (∀ w', Below w.heap.size w w' → Calls Tryz.prog 42 #[.agg #[.bool (n != 0), .slice e1 e2 e3, .slice c1 c2 c3, .int .i64 (Sq.least n t), .int .i64 ((Sq.ents n t).length : Nat)], .int .i64 tb.number] w' (Found w' (Sq.entsOf ⟨n, t⟩ tb.number))) := fun w' hb => entries_any n t _ _ tb.number w' (h.below hb) ho (by omega) htn0 htn1
  have HE : Hid (Sq.rowsOf ⟨n, t⟩ tb = (Sq.entsOf ⟨n, t⟩ tb.number).filterMap (Sq.rowOf tb.cols)) := rfl
  have hk := HK.out
  have he := HE.out
  clear h ho hl HK HE htn0 htn1
  generalize Sq.entsOf ⟨n, t⟩ tb.number = es at *
  generalize Sq.rowsOf ⟨n, t⟩ tb = ts at *
  generalize Sq.least n t = q3 at *
  generalize (Sq.ents n t).length = q4 at *
  generalize (n != 0) = bn at *
  obtain ⟨tn, tnm, cols⟩ := tb
  simp only at *
  have HK := hd hk
  have HE := hd he
  have HRW := hd hrow
  have HTC := hd htc
  clear hk he hrow htc
  obtain ⟨W, hW⟩ : ∃ W : World, W = (w.alloc (.cells #[.bool bn, .slice e1 e2 e3, .slice c1 c2 c3, .int .i64 q3, .int .i64 q4] 46)).alloc (.cells #[.int .i64 tn, .string tnm, .slice to' cols.length tcap] 74) := ⟨_, rfl⟩
  obtain ⟨hbW, hbox, hblk⟩ := two_stores hW
  have hzW := lt_blk hblk
  have HBW := hd hbW
  have HBLK := hd hblk
  clear hbW hblk hbox
  go_enter Tryz.func30, Tryz.ntmps30
  go_wp2_with fail
  rw [← hW]
  clear hW
  refine (HK.out _ HBW.out).mono ?_
  rintro e w1 ⟨v1, rfl, ho1, _, hb1⟩
  obtain ⟨ao, acap, rfl⟩ := ownsRow_slice ho1
  have hz01 := hb1.size
  have HB1 := hd (HBW.out.trans (hb1.mono (by omega)))
  have hblk1 := (hb1.block (w.heap.size + 1) hzW).trans HBLK.out
  have HBLK1 := hd hblk1
  have HES : Hid (EntsAt 0 w1 (.slice ao es.length acap) es) := ho1.base (Nat.zero_le _)
  have hz1 := HB1.out.size
  have hzt := lt_blk hblk1
  clear ho1 hb1 hblk1 HBLK
  go_wp2
  go_loopw [6, 7] (fun v i wr => ∃ (k : Nat), i = .int .i64 k ∧ k ≤ es.length ∧ RowsOwn w1.heap.size wr v ((es.take k).filterMap (Sq.rowOf cols)) ∧ Below w1.heap.size w1 wr) (fun _ i _ => es.length - (intOf i).toNat)
  case atStart => exact ⟨0, rfl, Nat.zero_le _, RowsOwn.nil _ _, Below.refl _ _⟩
  case round =>
    obtain ⟨k, rfl, hk, hT, hb⟩ := hrel
    obtain ⟨wo, rfl⟩ : ∃ wo : World, wo = wr := ⟨_, rfl⟩
    have hrl := Sq.rows_len cols es k
    by_cases hkt : k < es.length
    · have hq := Sq.rows_take cols es k hkt
      obtain ⟨l, hl⟩ : ∃ l, l = (es.take k).filterMap (Sq.rowOf cols) := ⟨_, rfl⟩
      rw [← hl] at hT hrl hq
      clear hl
      obtain ⟨lo, lcap, rfl⟩ := hT.slice
      obtain ⟨g, cap', hv, hg, hce⟩ := sl_at (f := entCells) (fun _ => rfl) (HES.out.below hb) k hkt
      simp only [Value.slice.injEq] at hv
      obtain ⟨rfl, -, rfl⟩ := hv
      have d0 := hce 0 (.int .i64 es[k].place) (by decide) rfl
      have d1 := hce 1 (.string es[k].row) (by decide) rfl
      have hm := HRW.out es[k] (List.getElem_mem hkt)
      have HT := hd hT
      have HB := hd hb
      have hzr := hb.size
      have hblkr := (hb.block (w.heap.size + 1) hzt).trans HBLK1.out
      have d2 : wo.cell? ⟨w.heap.size + 1, 2, none⟩ = some (.slice to' cols.length tcap) := by rw [cell_blk hblkr]; rfl
      have hztr := lt_blk hblkr
      have hro : Sq.rowOf cols es[k] = Sq.toCells cols (Sq.keyAt es[k].place) es[k].row := rfl
      rw [hro] at hq
      clear hce hb hT hblkr hro
      generalize es[k] = x at *
      obtain ⟨xp, xr⟩ := x
      simp only [Nat.add_zero] at d0 d1 hm hq
      obtain ⟨hm0, hm1⟩ := hm
      have hcl : ∀ y, Sq.toCells cols (Sq.keyAt xp) xr = some y → y.length ≤ cols.length + 1 := fun y hy => Sq.toCells_len hy
      have HKC : Hid (∀ w', Below wo.heap.size wo w' → Calls Tryz.prog 54 #[.slice to' cols.length tcap, .int .i64 (Sq.keyAt xp), .string xr] w' (CellsPost w' (Sq.toCells cols (Sq.keyAt xp) xr))) := fun w' hb' => ToCells_any cols _ _ xr w' (((HTC.out.below HB1.out).below HB.out).below hb') htl hm0
      obtain ⟨tc, htc⟩ : ∃ x, x = Sq.toCells cols (Sq.keyAt xp) xr := ⟨_, rfl⟩
      have hkc := HKC.out
      rw [← htc] at hq hcl hkc
      have HKC2 := hd hkc
      have i1 : (k : Int) < (es.length : Int) := by omega
      have i2 : ¬ ((es.length : Int) ≤ (k : Int)) := by omega
      have i0 : ¬ ((k : Int) < 0) := by omega
      clear htc HKC hkc
      go_wp2
      go_cut [8, 9] from 14 to 42 (fun v8 v9 wx => ∃ yo ycap, v8 = .slice yo (tc.getD []).length ycap ∧ v9 = .bool tc.isSome ∧ ValsNew wo.heap.size wx (.slice yo (tc.getD []).length ycap) (tc.getD []) ∧ Below wo.heap.size wo wx)
      case first =>
        go_region_with (first
          | (go_at_call 44; refine (Key_at_any xp _ hm1).mono ?_; rintro e w5 ⟨rfl, hw5⟩; rw [hw5]; clear hw5 w5)
          | (go_at_call 54; refine (HKC2.out _ (Below.drew (Below.refl _ _))).mono ?_; rintro e w5 ⟨v5, rfl, ho5, hb5⟩; obtain ⟨yo, ycap, rfl⟩ := ownsRow_slice ho5; have hb6 : Below wo.heap.size wo w5 := (Below.drew (Below.refl _ _)).trans hb5; have HO5 : Hid (ValsNew wo.heap.size w5 (.slice yo (tc.getD []).length ycap) (tc.getD [])) := ho5; have HB5 := hd hb6; clear ho5 hb5 hb6))
        all_goals (try go_wp2_with fail)
        all_goals go_meet
        all_goals exact ⟨yo, ycap, rfl, rfl, HO5.out, HB5.out⟩
      case rest =>
        obtain ⟨yo, ycap, rfl, rfl, ho5, hb5⟩ := hcut
        have hz5 := hb5.size
        cases tc with
        | none =>
          have HQ : Hid ((es.take (k + 1)).filterMap (Sq.rowOf cols) = l) := by show _ = _; rw [hq]; simp
          have HB5 := hd hb5
          clear hq hcl ho5 hb5
          simp only [Option.isSome_none]
          go_wp2
          go_roundw
          case rel => exact ⟨k + 1, by go_num, by omega, by rw [HQ.out]; exact HT.out.below HB5.out, HB.out.trans (HB5.out.mono hzr)⟩
          case measure => simp [intOf]; omega
        | some y =>
          have HQ : Hid ((es.take (k + 1)).filterMap (Sq.rowOf cols) = l ++ [y]) := by show _ = _; rw [hq]; simp
          have hyl := hcl y rfl
          simp only [Option.isSome_some, Option.getD_some] at ho5 ⊢
          have HT5 := hd ((HT.out.below hb5).below ((Below.refl wc.heap.size wc).alloc (Nat.le_refl _) (.cells #[.slice yo y.length ycap] 87)))
          have HY5 : Hid (RowAt (wc.alloc (.cells #[.slice yo y.length ycap] 87)) (.slice yo y.length ycap) y) := RowAt.below (w := wc) ⟨ownsRow_base ho5 (Nat.zero_le _), (by omega)⟩ ((Below.refl wc.heap.size wc).alloc (Nat.le_refl _) (.cells #[.slice yo y.length ycap] 87))
          have HB5 := hd (hb5.trans (Below.mono (B' := wo.heap.size) ((Below.refl wc.heap.size wc).alloc (Nat.le_refl _) (.cells #[.slice yo y.length ycap] 87)) hz5))
          clear hq hcl ho5 hb5
          go_wp2_with (at_builtin; refine wpList_append_row rfl (.tmp 38) (.tmp 41) rfl w1.heap.size _ l rfl HT5.out y (.slice yo y.length ycap) wc.heap.size 1 rfl (by simp [go_sem]) HY5.out (by omega) (by simp; omega) ?_; intro v7 w7 hT7 hb7; have HT7 := hd hT7; have HB7 := hd (HB.out.trans ((HB5.out.mono hzr).trans hb7)); clear hT7 hb7)
          go_roundw
          case rel => exact ⟨k + 1, by go_num, by omega, by rw [HQ.out]; exact HT7.out, HB7.out⟩
          case measure => simp [intOf]; omega
    · have i1 : ¬ ((k : Int) < (es.length : Int)) := by omega
      have HN : Hid (ts = (es.take k).filterMap (Sq.rowOf cols)) := by show _ = _; rw [HE.out, List.take_of_length_le (by omega)]
      obtain ⟨l, hl⟩ : ∃ l, l = (es.take k).filterMap (Sq.rowOf cols) := ⟨_, rfl⟩
      have hn := HN.out
      rw [← hl] at hT hn
      obtain ⟨lo, lcap, rfl⟩ := hT.slice
      have HT := hd hT
      have HB := hd hb
      have HN2 := hd hn
      clear hb hT hl hn HN hrl
      go_wp2
      go_ret
      exact ⟨_, rfl, by rw [HN2.out]; exact HT.out.base hz1, HB1.out.trans (HB.out.mono hz1)⟩

end Go.Proofs.YtamkfbelpfpjcaaGreatDoor
