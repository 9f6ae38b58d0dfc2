import Derived.Test.YtamkfbelpfpjcaaGreatDoorHb
import Derived.Test.YtamkfbelpfpjcaaGreatDoorGh
set_option linter.unusedVariables false
set_option linter.unusedSimpArgs false

namespace Go.Proofs.YtamkfbelpfpjcaaGreatDoor
open Go.RowKit

theorem Tryz.infoTab : (Tryz.prog.info? 74).map (fun i => (i.zero, i.size, i.bytes)) = some (some (.agg #[.int .i64 0, .string ⟨#[]⟩, .slice none 0 0]), 3, 48) := by kernel_rfl
theorem wpList_append_tab {ops : Array Oper} {rest : List Oper} {o : Oper} {a : Act} {Q : Exit → Act → World → Prop} {w : World} (hgd : o.guard = none) (sl x : Operand)
    (ho : o.op = .call { callee := .builtin .append, args := #[sl, x], argTypes := #[69, 69] }) (B : Nat) (v : Value) (l : List (Sq.TabN × Value)) (hs : a.eval sl = v) (hb : TabsOwn B w v l)
    (t : Sq.TabN) (cv : Value) (g cc : Nat) (hx : a.eval x = .slice (some ⟨g, 0, none⟩) 1 cc) (hc0 : w.cell? ⟨g, 0, none⟩ = some (.int .i64 t.number)) (hc1 : w.cell? ⟨g, 1, none⟩ = some (.string t.name)) (hc2 : w.cell? ⟨g, 2, none⟩ = some cv) (hcv : ColsAt w cv t.cols) (h1 : l.length + 1 ≤ 1000) (hB : B ≤ w.heap.size)
    (h : ∀ v' w', TabsOwn B w' v' (l ++ [(t, cv)]) → Below B w w' → wpList Tryz.prog ops Q rest (a.put o.dst v') w') : wpList Tryz.prog ops Q (o :: rest) a w := by
  obtain ⟨i0, hi, hz0, hz1, hz2⟩ := info_parts Tryz.infoTab
  have hone : cv.oneCell' = true := by obtain ⟨ao, cap, hh⟩ := ownsRow_slice hcv.1; rw [hh]; rfl
  refine wpList_append_lies _ hgd sl x 69 ho B 74 i0 _ 3 48 Tryz.underlying69 hi hz0 hz1 hz2 rfl (by decide) v l.length _ hs hb.own ⟨g, 0, none⟩ 1 cc (tabCells (t, cv)) hx rfl (by
    intro j u hu
    have ea : (⟨g, 0, none⟩ : Addr).add j = ⟨g, j, none⟩ := by unfold Addr.add; split <;> simp_all
    rw [ea]
    match j, hu with
    | 0, hu => simp [tabCells] at hu; subst hu; exact hc0
    | 1, hu => simp [tabCells] at hu; subst hu; exact hc1
    | 2, hu => simp [tabCells] at hu; subst hu; exact hc2
    | j + 3, hu => simp [tabCells] at hu) (by intro u hu; simp [tabCells] at hu; rcases hu with rfl | rfl | rfl <;> first | rfl | exact hone) (by decide) (by unfold maxLen; omega) (by omega) hB _ rfl ?_
  intro g' cap w' ho' hg' _ _
  refine h _ w' ⟨?_, ?_, ?_⟩ (Tch.of_grown hg' (fun k hk => (World.ownsRow.lt hb.own k hk).1) hB)
  · rw [List.length_append, List.flatMap_append]
    simpa using ho'
  · intro y hy
    rcases List.mem_append.1 hy with hy | hy
    · exact ⟨row_other (hb.each y hy).1 hb.own (by decide) hg', (hb.each y hy).2⟩
    · simp at hy
      subst hy
      exact ⟨row_other hcv.1 hb.own (by decide) hg', hcv.2⟩
  · rw [List.length_append]; exact h1

theorem Sq.tabs_take (es : List Sq.Ent) (k : Nat) (h : k < es.length) : (es.take (k + 1)).filterMap Sq.tabOf = (es.take k).filterMap Sq.tabOf ++ (Sq.tabOf es[k]).toList := by
  rw [List.take_succ_eq_append_getElem h, List.filterMap_append]
  cases h2 : Sq.tabOf es[k] <;> simp [h2]

/-- What Tables answers. -/
def TabsPost (w : World) (ts : List Sq.TabN) (e : Ending) (w' : World) : Prop := ∃ v l, e = .returned v ∧ l.map Prod.fst = ts ∧ TabsOwn w.heap.size w' v l ∧ Below w.heap.size w w'

set_option maxRecDepth 100000 in
set_option maxHeartbeats 1000000 in
theorem Tables_any (n : Nat) (t : List (Sq.Kid n)) (ev cv : Value) (w : World) (h : NodeAt w n t ev cv) (ho : Sq.okT n t) (hl : (Sq.ents n t).length ≤ 500) (hes : (Sq.entsOf ⟨n, t⟩ 0).length ≤ 500) (hrow : ∀ e ∈ Sq.entsOf ⟨n, t⟩ 0, e.row.size ≤ 1000 ∧ 0 ≤ e.place) :
    Calls Tryz.prog 23 #[.agg (nodeCells n (t, ev, cv)).toArray] w (TabsPost w (Sq.tabsOf ⟨n, t⟩)) := by
  rw [nodeCells_arr]
  obtain ⟨⟨e1, e2, e3, hev⟩, c1, c2, c3, hcv⟩ := h.slices
  subst hev hcv
  have hW : ∀ o, Below w.heap.size w (w.alloc o) := fun o => (Below.refl _ _).alloc (Nat.le_refl _) _
  have HK : Hid (∀ w', Below w.heap.size w w' → Calls Tryz.prog 42 #[.agg #[.bool (n != 0), .slice e1 e2 e3, .slice c1 c2 c3, .int .i64 (Sq.least n t), .int .i64 ((Sq.ents n t).length : Nat)], .int .i64 0] w' (Found w' (Sq.entsOf ⟨n, t⟩ 0))) := fun w' hb => entries_any n t _ _ 0 w' (h.below hb) ho (by omega) (by decide) (by decide)
  have HE : Hid (Sq.tabsOf ⟨n, t⟩ = (Sq.entsOf ⟨n, t⟩ 0).filterMap Sq.tabOf) := rfl
  have hk := HK.out
  have he := HE.out
  have HW := hd hW
  clear h ho hl hW HK HE
  generalize Sq.entsOf ⟨n, t⟩ 0 = es at *
  generalize Sq.tabsOf ⟨n, t⟩ = ts at *
  generalize Sq.least n t = q3 at *
  generalize (Sq.ents n t).length = q4 at *
  generalize (n != 0) = bn at *
  have HK := hd hk
  have HE := hd he
  have HRW := hd hrow
  clear hk he hrow
  go_enter Tryz.func23, Tryz.ntmps23
  go_wp2_with fail
  refine (HK.out _ (HW.out _)).mono ?_
  rintro e w1 ⟨v1, rfl, ho1, _, hb1⟩
  obtain ⟨ao, acap, rfl⟩ := ownsRow_slice ho1
  have HB1 := hd ((HW.out _).trans (hb1.mono (by simp)))
  have HES : Hid (EntsAt 0 w1 (.slice ao es.length acap) es) := ho1.base (Nat.zero_le _)
  have hz1 := HB1.out.size
  clear ho1 hb1
  go_wp2
  go_loopw [4, 5] (fun v i wr => ∃ (k : Nat) (l : List (Sq.TabN × Value)), i = .int .i64 k ∧ k ≤ es.length ∧ l.length ≤ k ∧ TabsOwn w1.heap.size wr v l ∧ Below w1.heap.size w1 wr ∧ Hid (l.map Prod.fst = (es.take k).filterMap Sq.tabOf)) (fun _ i _ => es.length - (intOf i).toNat)
  case atStart => exact ⟨0, [], rfl, Nat.zero_le _, Nat.le_refl _, ⟨World.ownsRow_nil _ _ _ _, fun x hx => by simp at hx, by simp⟩, Below.refl _ _, rfl⟩
  case round =>
    obtain ⟨k, l, rfl, hk, hlk, hT, hb, HQ⟩ := hrel
    obtain ⟨lo, lcap, rfl⟩ := ownsRow_slice hT.own
    have HT := hd hT
    have HB := hd hb
    have hzr := hb.size
    clear hT
    by_cases hkt : k < es.length
    · obtain ⟨g, cap', hv, hg, hce⟩ := sl_at (f := entCells) (fun _ => rfl) (HES.out.below hb) k hkt
      simp only [Value.slice.injEq] at hv
      obtain ⟨rfl, -, rfl⟩ := hv
      have d0 := hce 0 (.int .i64 es[k].place) (by decide) rfl
      have d1 := hce 1 (.string es[k].row) (by decide) rfl
      have hm := HRW.out es[k] (List.getElem_mem hkt)
      have hq := Sq.tabs_take es k hkt
      rw [← HQ.out] at hq
      clear hce HQ hb
      generalize es[k] = x at *
      obtain ⟨xp, xr⟩ := x
      simp only [Nat.add_zero] at d0 d1 hm
      obtain ⟨hm0, hm1⟩ := hm
      have HQ := hd hq
      have i1 : (k : Int) < (es.length : Int) := by omega
      have i2 : ¬ ((es.length : Int) ≤ (k : Int)) := by omega
      have i0 : ¬ ((k : Int) < 0) := by omega
      have HTO : Hid (Sq.tabOf ⟨xp, xr⟩ = (Sq.toTable xr).map fun x => ⟨Sq.keyAt xp, x.1, x.2⟩) := rfl
      have htl : ∀ y, Sq.toTable xr = some y → y.2.length ≤ 4 := fun y hy => Sq.toTable_cols hy
      clear hq
      go_wp2_with fail
      refine (ToTable_any xr _ hm0).mono ?_
      rintro e w2 ⟨tv, rfl, hcn, hb2⟩
      have hg2 : g < w2.heap.size := Nat.lt_of_lt_of_le hg hb2.size
      have d0' := ((bcell hb2).1 g (k * 2) hg).trans d0
      have HT2 := hd (HT.out.below hb2)
      have HB2 := hd (HB.out.trans (hb2.mono hzr))
      have hz2 := hb2.size
      obtain ⟨tao, tcap, rfl⟩ := ownsRow_slice hcn
      have hto := HTO.out
      clear hb2 d0 d1 HTO HT HB hg
      generalize Sq.toTable xr = tt at *
      cases tt with
      | none =>
        have HQ2 : Hid (l.map Prod.fst = (es.take (k + 1)).filterMap Sq.tabOf) := by show _ = _; rw [HQ.out, hto]; simp
        clear hto hcn htl
        go_wp2
        go_roundw
        case rel => exact ⟨k + 1, l, by go_num, by omega, by omega, HT2.out, HB2.out, HQ2⟩
        case measure => simp [intOf]; omega
      | some y =>
        obtain ⟨yn, yc⟩ := y
        have hyl := htl _ rfl
        have HQ2 : Hid ((es.take (k + 1)).filterMap Sq.tabOf = l.map Prod.fst ++ [⟨Sq.keyAt xp, yn, yc⟩]) := by show _ = _; rw [HQ.out, hto]; simp
        have HCN : Hid (ColsAt w2 (.slice tao yc.length tcap) yc) := ⟨ownsRow_base hcn (Nat.zero_le _), by simp only at hyl; omega⟩
        clear hto hcn htl HQ
        simp only [Option.isSome_some] at hyl ⊢
        have HT3 := hd (HT2.out.below ((Below.refl w2.heap.size w2).alloc (Nat.le_refl _) (.cells #[.int .i64 (Sq.keyAt xp), .string yn, .slice tao yc.length tcap] 74)))
        have HC3 := hd (HCN.out.below ((Below.refl w2.heap.size w2).alloc (Nat.le_refl _) (.cells #[.int .i64 (Sq.keyAt xp), .string yn, .slice tao yc.length tcap] 74)))
        have HB3 := hd (HB2.out.trans (Below.mono (B' := w1.heap.size) ((Below.refl w2.heap.size w2).alloc (Nat.le_refl _) (.cells #[.int .i64 (Sq.keyAt xp), .string yn, .slice tao yc.length tcap] 74)) (by omega)))
        clear HT2 HCN
        go_wp2_with fail
        refine (Key_at_any xp _ hm1).mono ?_
        rintro e w5 ⟨rfl, hw5⟩
        rw [hw5]
        clear hw5 w5
        go_wp2_with (at_builtin; refine wpList_append_tab rfl (.tmp 35) (.tmp 40) rfl w1.heap.size _ l rfl HT3.out ⟨Sq.keyAt xp, yn, yc⟩ (.slice tao yc.length tcap) w2.heap.size 1 rfl (by simp [go_sem]) (by simp [go_sem]) (by simp [go_sem]) HC3.out (by omega) (by simp; omega) ?_; intro v7 w7 hT7 hb7; have HT7 := hd hT7; have HB7 := hd (HB3.out.trans hb7); clear hT7 hb7)
        go_roundw
        case rel => exact ⟨k + 1, l ++ [(⟨Sq.keyAt xp, yn, yc⟩, .slice tao yc.length tcap)], by go_num, by omega, by rw [List.length_append]; show l.length + 1 ≤ _; omega, HT7.out, HB7.out, by show _ = _; rw [HQ2.out, List.map_append]; rfl⟩
        case measure => simp [intOf]; omega
    · have i1 : ¬ ((k : Int) < (es.length : Int)) := by omega
      have HN : Hid (l.map Prod.fst = ts) := by show _ = _; rw [HQ.out, HE.out, List.take_of_length_le (by omega)]
      clear hb HQ
      go_wp2
      go_ret
      exact ⟨_, l, rfl, HN.out, HT.out.base hz1, HB1.out.trans (HB.out.mono hz1)⟩

end Go.Proofs.YtamkfbelpfpjcaaGreatDoor
