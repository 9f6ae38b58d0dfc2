import Derived.Deep.Cut
import Derived.Deep.CutRange
import Derived.Test.YteibbdilhpdknaaGreatDoorBj
set_option linter.unusedVariables false
set_option linter.unusedSimpArgs false

namespace Go.Proofs.YteibbdilhpdknaaGreatDoor
open Go.RowKit

def Sq.okSet (s : Sq.SetS) : Prop := Sq.okTerm s.first ∧ Sq.okTerm s.second
theorem Sq.assignStep_len (cols : List Sq.Col) (old row : List Sq.Val) (s : Sq.SetS) : (Sq.assignStep cols old row s).length = row.length := by
  unfold Sq.assignStep; split <;> simp

set_option maxRecDepth 100000 in
set_option maxHeartbeats 2000000 in
theorem assigned_any (cols : List Sq.Col) (old : List Sq.Val) (sets : List Sq.SetS) (cv rv sv : Value) (w : World) (h : ColsAt w cv cols) (hr : RowAt w rv old) (hs : SetsAt w sv sets) (hok : Sq.okRow old) (hoks : ∀ s ∈ sets, Sq.okSet s) :
    Calls Tryz.prog 66 #[cv, .agg #[rv], sv] w fun e w' => ∃ v, e = .returned (.tuple #[.agg #[v], .bool (Sq.assigned cols old sets).2]) ∧ RowNew w.heap.size w' v (Sq.assigned cols old sets).1 ∧ Below w.heap.size w w' := by
  obtain ⟨ao, acap, rfl⟩ := ownsRow_slice hr.1
  obtain ⟨bo, bap, rfl⟩ := ownsRow_slice hs.1
  have hl := h.2
  have hl2 := hr.2
  have hl3 := hs.2
  have H := hd h
  have HR := hd hr
  have HS := hd hs
  have HOK := hd hok
  have HOKS := hd hoks
  have hW : ∀ o o2, Below w.heap.size w ((w.alloc o).alloc o2) := fun o o2 => ((Below.refl _ _).alloc (Nat.le_refl _) _).alloc (by simp) _
  have HW := hd hW
  clear h hr hs hok hoks hW
  go_enter Tryz.func66, Tryz.ntmps66
  go_wp2_with fail
  refine (Copy_any old _ _ (HR.out.below (HW.out _ _))).mono ?_
  rintro e w1 ⟨g, gcap, rfl, hnew, hb1⟩
  rw [heap_alloc2] at hnew hb1
  have hg1 : g < w1.heap.size ∧ w.heap.size + 1 + 1 ≤ g := ⟨(World.ownsRow.lt hnew.1 g rfl).2, (World.ownsRow.lt hnew.1 g rfl).1⟩
  obtain ⟨hg1, hg2⟩ := hg1
  have HNEW := hd hnew
  have HB1 := hd hb1
  have hz1 := hb1.size
  rw [heap_alloc2] at hz1
  clear hnew hb1
  go_wp2
  go_loopw [9] (fun i wr => ∃ k : Nat, ∃ row : List Sq.Val, k ≤ sets.length ∧ i = .int .i64 k ∧ row.length = old.length ∧ w1.heap.size < wr.heap.size ∧ wr.cell? ⟨w1.heap.size, 0, none⟩ = some (.slice (some ⟨g, 0, none⟩) old.length gcap) ∧ RowNew (w.heap.size + 1 + 1) wr (.slice (some ⟨g, 0, none⟩) old.length gcap) row ∧ Hid (Sq.assigned cols old sets = Sq.assignFrom cols old (sets.drop k) row) ∧ Below (w.heap.size + 1 + 1) ((w.alloc (.cells #[.slice ao old.length acap] 102)).alloc (.cells #[.slice none 0 0] 102)) wr) (fun i _ => sets.length - (intOf i).toNat)
  case atStart => exact ⟨0, old, Nat.zero_le _, rfl, rfl, by simp, by simp [go_sem], ⟨ownsRow_below HNEW.out.1 ((Below.refl _ _).alloc (Nat.le_refl _) _), hl2⟩, rfl, Below.alloc (B := w.heap.size + 1 + 1) HB1.out (by omega) _⟩
  case round =>
    obtain ⟨k, row, hk, rfl, hrl, hzr, r0, hnew, hr, hb⟩ := hrel
    have hbw : Below w.heap.size w wr := (HW.out _ _).trans (hb.mono (by omega))
    have a0 := hb.cell (p := ⟨w.heap.size, 0, none⟩) (by simp; omega)
    have b0 := hb.cell (p := ⟨w.heap.size + 1, 0, none⟩) (by simp)
    have bf := hb.frozen (p := ⟨w.heap.size + 1, 0, none⟩) (by simp)
    simp [go_sem] at a0 b0 bf
    have HB := hd hb
    have HN := hd hnew
    have HRL := hd hrl
    have hzA : w.heap.size < wr.heap.size := by omega
    have hzB : w.heap.size + 1 < wr.heap.size := by omega
    have hgr : g < wr.heap.size := by omega
    clear hb hnew hrl
    by_cases hlt : k < sets.length
    · obtain ⟨q, qcap, hv, hq, hc⟩ := sl_at (f := Sq.SetS.cells) (fun _ => rfl) (HS.out.below hbw).1 k hlt
      simp only [Value.slice.injEq] at hv
      obtain ⟨rfl, -, rfl⟩ := hv
      have hst := Sq.assignFrom_drop cols old row sets k hlt
      have hsk := HOKS.out sets[k] (List.getElem_mem hlt)
      have HAL := Sq.assignStep_len cols old row sets[k]
      obtain ⟨s, hse⟩ : ∃ x, x = sets[k] := ⟨_, rfl⟩
      rw [← hse] at hst hsk hc HAL
      have HR2 : Hid (Sq.assigned cols old sets = if (Sq.result cols old s).2 then Sq.assignFrom cols old (sets.drop (k + 1)) (Sq.assignStep cols old row s) else ([], false)) := hr.out.trans hst
      have HAS : Hid (Sq.assignStep cols old row s = if Sq.find cols s.column < 0 then row else row.set (Sq.find cols s.column).toNat (Sq.result cols old s).1) := rfl
      have HSK := hd hsk
      have HALN := hd HAL
      clear hst hsk hse hr HAL
      obtain ⟨p, hp⟩ : ∃ x, x = Sq.result cols old s := ⟨_, rfl⟩
      have hr2 := HR2.out
      have has := HAS.out
      rw [← hp] at hr2 has
      have HR3 := hd hr2
      have HAS2 := hd has
      have HP := hd hp
      obtain ⟨⟨vk, vn, vt⟩, ok⟩ := p
      obtain ⟨cn, ⟨lc, ⟨lk, ln, lt⟩⟩, sg, ⟨rc, ⟨rk, rn, rt⟩⟩⟩ := s
      have c0 := hc 0 _ (by decide) rfl
      have c1 := hc 1 _ (by decide) rfl
      have c2 := hc 2 _ (by decide) rfl
      have c3 := hc 3 _ (by decide) rfl
      have c4 := hc 4 _ (by decide) rfl
      have c5 := hc 5 _ (by decide) rfl
      have c6 := hc 6 _ (by decide) rfl
      have c7 := hc 7 _ (by decide) rfl
      have c8 := hc 8 _ (by decide) rfl
      have c9 := hc 9 _ (by decide) rfl
      simp only [Nat.add_zero] at c0
      clear hc hr2 has hp HR2 HAS
      go_wp2
      go_cut [10, 11] from 15 to 54 (fun pv ov wx => ∃ vb, pv = .pointer (some ⟨vb, 0, none⟩) ∧ ov = .bool ok ∧ Below wr.heap.size wr wx ∧ wr.heap.size ≤ vb ∧ vb < wx.heap.size ∧ wx.cell? ⟨vb, 0, none⟩ = some (.int .i64 vk) ∧ wx.cell? ⟨vb, 1, none⟩ = some (.int .i64 vn) ∧ wx.cell? ⟨vb, 2, none⟩ = some (.string vt))
      case first =>
        go_region_with (go_at_call 97; first | (refine (result_any cols old cv _ ⟨cn, ⟨lc, ⟨lk, ln, lt⟩⟩, sg, ⟨rc, ⟨rk, rn, rt⟩⟩⟩ wr.drew (H.out.below hbw.drew) (HR.out.below hbw.drew) HOK.out HSK.out.1 HSK.out.2).mono ?_; rintro e w2 ⟨rfl, hb2⟩; rw [← HP.out]; unfold Sq.Val.cells; have hb2' : Below wr.heap.size wr w2 := (Below.drew (Below.refl _ _)).trans hb2; clear hb2) | (refine (result_any cols old cv _ ⟨cn, ⟨lc, ⟨lk, ln, lt⟩⟩, sg, ⟨rc, ⟨rk, rn, rt⟩⟩⟩ (wr.drew.alloc _) (H.out.below (Below.alloc (B := w.heap.size) hbw.drew (by simp; omega) _)) (HR.out.below (Below.alloc (B := w.heap.size) hbw.drew (by simp; omega) _)) HOK.out HSK.out.1 HSK.out.2).mono ?_; rintro e w2 ⟨rfl, hb2⟩; rw [← HP.out]; unfold Sq.Val.cells; obtain ⟨k1, k2⟩ := bcell hb2; have e0 := k1 wr.heap.size 0 (by simp); have e1 := k1 wr.heap.size 1 (by simp); have e2 := k1 wr.heap.size 2 (by simp); have g0 := k2 wr.heap.size 0 (by simp); have g1 := k2 wr.heap.size 1 (by simp); have g2 := k2 wr.heap.size 2 (by simp); simp [go_sem] at e0 e1 e2 g0 g1 g2; have hz : wr.heap.size < w2.heap.size := (by have := hb2.size; simp at this; omega); have hb2' : Below wr.heap.size wr w2 := (Below.alloc (B := wr.heap.size) (Below.drew (Below.refl _ _)) (Nat.le_refl _) _).trans (hb2.mono (by simp)); clear hb2 k1 k2))
        all_goals (try go_wp2_with fail)
        all_goals go_meet
        all_goals exact ⟨_, rfl, rfl, (by first | exact Below.alloc (B := wr.heap.size) hb2' hb2'.size _ | exact three_set (b := wr.heap.size) hb2' (Nat.le_refl _) _ _ _), (by first | exact Nat.le_refl _ | exact hb2'.size), (by simp [*]), (by simp [go_sem, *]), (by simp [go_sem, *]), (by simp [go_sem, *])⟩
      case rest =>
        obtain ⟨vb, rfl, rfl, hb2', hvb1, hvb2, v0, v1, v2⟩ := hcut
        have hz2 := hb2'.size
        have c0' := ((bcell hb2').1 q (k * 10) hq).trans c0
        have b0' := ((bcell hb2').1 (w.heap.size + 1) 0 hzB).trans b0
        have bf' := ((bcell hb2').2 (w.heap.size + 1) 0 hzB).trans bf
        have r0' := ((bcell hb2').1 w1.heap.size 0 hzr).trans r0
        have HNC : Hid (RowNew (w.heap.size + 1 + 1) wc (.slice (some ⟨g, 0, none⟩) old.length gcap) row) := ⟨ownsRow_below HN.out.1 hb2', HN.out.2⟩
        have HBC := hd (HB.out.trans (hb2'.mono (by omega)))
        have hbwc : Below w.heap.size w wc := hbw.trans (hb2'.mono (by omega))
        have HBWC := hd hbwc
        have hzr' : w1.heap.size < wc.heap.size := by omega
        have hzB' : w.heap.size + 1 < wc.heap.size := by omega
        have hq' : q < wc.heap.size := by omega
        have hgc : g < wc.heap.size := by omega
        clear c0 c1 c2 c3 c4 c5 c6 c7 c8 c9 a0 b0 bf r0 hb2' hbwc hbw HN HB
        cases ok
        case false =>
          have HE : Hid (Sq.assigned cols old sets = ([], false)) := HR3.out
          go_wp2
          refine bodyPost_ret (v := .tuple #[.agg #[.slice none 0 0], .bool false]) (by simp [results, Tryz.results66, go_sem, *]) rfl ⟨_, by rw [HE.out], by rw [HE.out]; exact ⟨World.ownsRow_nil _ _ _ _, by simp⟩, ?_⟩
          exact Below.setCell (B := w.heap.size) HBWC.out (by simp) _
        case true =>
          have HR4 : Hid (Sq.assigned cols old sets = Sq.assignFrom cols old (sets.drop (k + 1)) (Sq.assignStep cols old row ⟨cn, ⟨lc, ⟨lk, ln, lt⟩⟩, sg, ⟨rc, ⟨rk, rn, rt⟩⟩⟩)) := HR3.out
          have HA5 : Hid (Sq.assignStep cols old row ⟨cn, ⟨lc, ⟨lk, ln, lt⟩⟩, sg, ⟨rc, ⟨rk, rn, rt⟩⟩⟩ = if Sq.find cols cn < 0 then row else row.set (Sq.find cols cn).toNat ⟨vk, vn, vt⟩) := HAS2.out
          clear HR3 HAS2
          rcases Sq.find_cases cols cn with hf | ⟨m, hm, hf⟩
          · have HST : Hid (Sq.assignStep cols old row ⟨cn, ⟨lc, ⟨lk, ln, lt⟩⟩, sg, ⟨rc, ⟨rk, rn, rt⟩⟩⟩ = row) := by show _ = _; rw [HA5.out, hf]; rfl
            have HF := hd hf
            clear hf
            go_wp2_with (go_at_call 91; refine (Find_any cols _ cn _ (H.out.below HBWC.out).1 hl).mono ?_; rintro e w' ⟨rfl, hw'⟩; rw [HF.out, hw']; clear hw' w')
            go_roundw
            case rel =>
              have CL : k + 1 ≤ sets.length ∧ Value.int .i64 ((k : Int) + 1) = .int .i64 ((k + 1 : Nat) : Int) ∧ row.length = old.length ∧ w1.heap.size < wc.heap.size ∧ wc.cell? ⟨w1.heap.size, 0, none⟩ = some (.slice (some ⟨g, 0, none⟩) old.length gcap) ∧ RowNew (w.heap.size + 1 + 1) wc (.slice (some ⟨g, 0, none⟩) old.length gcap) row ∧ Hid (Sq.assigned cols old sets = Sq.assignFrom cols old (sets.drop (k + 1)) row) ∧ Below (w.heap.size + 1 + 1) ((w.alloc (.cells #[.slice ao old.length acap] 102)).alloc (.cells #[.slice none 0 0] 102)) wc :=
                ⟨by omega, by go_num, HRL.out, hzr', r0', HNC.out, by have := HR4.out; rw [HST.out] at this; exact this, HBC.out⟩
              first
                | exact ⟨k + 1, row, CL⟩
                | ((repeat apply Exists.intro); exact ⟨⟨k + 1, row, CL⟩, rfl⟩)
            case measure => simp [intOf]; omega
          · have HF := hd hf
            by_cases hmo : m < old.length
            · have hmr : m < row.length := by rw [HRL.out]; exact hmo
              have HST : Hid (Sq.assignStep cols old row ⟨cn, ⟨lc, ⟨lk, ln, lt⟩⟩, sg, ⟨rc, ⟨rk, rn, rt⟩⟩⟩ = row.set m ⟨vk, vn, vt⟩) := by show _ = _; rw [HA5.out, hf, if_neg (by omega), Int.toNat_natCast]
              have hnw := HNC.out.1
              rw [HRL.out] at hnw
              have hfr0 := own_frozen hnw (m * 3)
              have hfr1 := own_frozen hnw (m * 3 + 1)
              have hfr2 := own_frozen hnw (m * 3 + 2)
              have hset := own_set3 hnw ⟨vk, vn, vt⟩ m hmr
              obtain ⟨g', gc', hv, hg', hcc⟩ := sl_at (f := Sq.Val.cells) (fun _ => rfl) HNC.out.1 m hmr
              rw [HRL.out] at hv
              simp only [Value.slice.injEq, Option.some.injEq, Addr.mk.injEq] at hv
              obtain ⟨⟨rfl, -, -⟩, -, rfl⟩ := hv
              have y0 := hcc 0 (.int .i64 row[m].kind) (by decide) rfl
              have y1 := hcc 1 (.int .i64 row[m].number) (by decide) rfl
              have y2 := hcc 2 (.string row[m].text) (by decide) rfl
              simp only [Nat.add_zero] at y0
              have HSET := hd hset
              have r1' := (cell_heap (three_other (w1 := wc) (b := g) (c := w1.heap.size) (by omega) (m * 3) (m * 3 + 1) (m * 3 + 2) (.int .i64 vk) (.int .i64 vn) (.string vt)) 0).trans r0'
              have R1 := hd r1'
              have hsl : (row.set m ⟨vk, vn, vt⟩).length = old.length := by rw [List.length_set]; exact HRL.out
              have HSL := hd hsl
              clear hf hnw hset hcc r1' hsl
              go_wp2_with (go_at_call 91; refine (Find_any cols _ cn _ (H.out.below HBWC.out).1 hl).mono ?_; rintro e w' ⟨rfl, hw'⟩; rw [HF.out, hw']; clear hw' w')
              go_roundw
              case rel =>
                have CL : k + 1 ≤ sets.length ∧ Value.int .i64 ((k : Int) + 1) = .int .i64 ((k + 1 : Nat) : Int) ∧ (row.set m ⟨vk, vn, vt⟩).length = old.length ∧ w1.heap.size < (((wc.setCell ⟨g, m * 3, none⟩ (.int .i64 vk)).setCell ⟨g, m * 3 + 1, none⟩ (.int .i64 vn)).setCell ⟨g, m * 3 + 2, none⟩ (.string vt)).heap.size ∧ (((wc.setCell ⟨g, m * 3, none⟩ (.int .i64 vk)).setCell ⟨g, m * 3 + 1, none⟩ (.int .i64 vn)).setCell ⟨g, m * 3 + 2, none⟩ (.string vt)).cell? ⟨w1.heap.size, 0, none⟩ = some (.slice (some ⟨g, 0, none⟩) old.length gcap) ∧ RowNew (w.heap.size + 1 + 1) (((wc.setCell ⟨g, m * 3, none⟩ (.int .i64 vk)).setCell ⟨g, m * 3 + 1, none⟩ (.int .i64 vn)).setCell ⟨g, m * 3 + 2, none⟩ (.string vt)) (.slice (some ⟨g, 0, none⟩) old.length gcap) (row.set m ⟨vk, vn, vt⟩) ∧ Hid (Sq.assigned cols old sets = Sq.assignFrom cols old (sets.drop (k + 1)) (row.set m ⟨vk, vn, vt⟩)) ∧ Below (w.heap.size + 1 + 1) ((w.alloc (.cells #[.slice ao old.length acap] 102)).alloc (.cells #[.slice none 0 0] 102)) (((wc.setCell ⟨g, m * 3, none⟩ (.int .i64 vk)).setCell ⟨g, m * 3 + 1, none⟩ (.int .i64 vn)).setCell ⟨g, m * 3 + 2, none⟩ (.string vt)) :=
                  ⟨by omega, by go_num, HSL.out, by simp; omega, R1.out, ⟨by rw [HSL.out]; exact HSET.out, by rw [HSL.out]; exact hl2⟩, by have := HR4.out; rw [HST.out] at this; exact this, three_setAt HBC.out hg2 _ _ _ _ _ _⟩
                first
                  | exact ⟨k + 1, row.set m ⟨vk, vn, vt⟩, CL⟩
                  | ((repeat apply Exists.intro); exact ⟨⟨k + 1, row.set m ⟨vk, vn, vt⟩, CL⟩, rfl⟩)
              case measure => simp [intOf]; omega
            · have HST : Hid (Sq.assignStep cols old row ⟨cn, ⟨lc, ⟨lk, ln, lt⟩⟩, sg, ⟨rc, ⟨rk, rn, rt⟩⟩⟩ = row) := by show _ = _; rw [HA5.out, hf, if_neg (by omega), Int.toNat_natCast, List.set_eq_of_length_le (by rw [HRL.out]; omega)]
              clear hf
              go_wp2_with (go_at_call 91; refine (Find_any cols _ cn _ (H.out.below HBWC.out).1 hl).mono ?_; rintro e w' ⟨rfl, hw'⟩; rw [HF.out, hw']; clear hw' w')
              go_roundw
              case rel =>
                have CL : k + 1 ≤ sets.length ∧ Value.int .i64 ((k : Int) + 1) = .int .i64 ((k + 1 : Nat) : Int) ∧ row.length = old.length ∧ w1.heap.size < wc.heap.size ∧ wc.cell? ⟨w1.heap.size, 0, none⟩ = some (.slice (some ⟨g, 0, none⟩) old.length gcap) ∧ RowNew (w.heap.size + 1 + 1) wc (.slice (some ⟨g, 0, none⟩) old.length gcap) row ∧ Hid (Sq.assigned cols old sets = Sq.assignFrom cols old (sets.drop (k + 1)) row) ∧ Below (w.heap.size + 1 + 1) ((w.alloc (.cells #[.slice ao old.length acap] 102)).alloc (.cells #[.slice none 0 0] 102)) wc :=
                  ⟨by omega, by go_num, HRL.out, hzr', r0', HNC.out, by have := HR4.out; rw [HST.out] at this; exact this, HBC.out⟩
                first
                  | exact ⟨k + 1, row, CL⟩
                  | ((repeat apply Exists.intro); exact ⟨⟨k + 1, row, CL⟩, rfl⟩)
              case measure => simp [intOf]; omega
    · have HE : Hid (Sq.assigned cols old sets = (row, true)) := by show _ = _; rw [hr.out, List.drop_eq_nil_of_le (by omega)]; rfl
      clear hr
      go_wp2
      refine bodyPost_ret (v := .tuple #[.agg #[.slice (some ⟨g, 0, none⟩) old.length gcap], .bool true]) (by simp [results, Tryz.results66, go_sem, *]) rfl ⟨_, by rw [HE.out], ?_, ?_⟩
      · rw [HE.out]
        refine ⟨?_, HN.out.2⟩
        exact ownsRow_base (ownsRow_same HN.out.1 fun k hk => heap_set_other (fun e => by have := (World.ownsRow.lt HN.out.1 k hk).1; omega)) (by omega)
      · exact Below.setCell (B := w.heap.size) hbw (by simp) _

end Go.Proofs.YteibbdilhpdknaaGreatDoor

namespace Go.Proofs.YteibbdilhpdknaaGreatDoor
open Go.RowKit

def out0 : Array Value := #[.string ⟨#[]⟩, .bool false, .string ⟨#[]⟩, .slice none 0 0, .int .i64 0, .slice none 0 0, .slice none 0 0]
theorem alloc_at (w : World) (o : Obj) : (w.alloc o).heap[w.heap.size]? = some o := by show (w.heap.push o)[w.heap.size]? = some o; simp
theorem alloc_lt {w : World} {k : Nat} (h : k < w.heap.size) (o : Obj) : (w.alloc o).heap[k]? = w.heap[k]? := by show (w.heap.push o)[k]? = w.heap[k]?; rw [Array.getElem?_push, if_neg (Nat.ne_of_lt h)]

/-- The cells of a new outcome. -/
theorem seven_cells {w : World} {b : Nat} (h : w.heap[b]? = some (.cells out0 66)) :
    w.cell? ⟨b, 0, none⟩ = some (.string ⟨#[]⟩) ∧ w.cell? ⟨b, 1, none⟩ = some (.bool false) ∧ w.cell? ⟨b, 2, none⟩ = some (.string ⟨#[]⟩) ∧ w.cell? ⟨b, 3, none⟩ = some (.slice none 0 0) ∧ w.cell? ⟨b, 4, none⟩ = some (.int .i64 0) ∧ w.cell? ⟨b, 5, none⟩ = some (.slice none 0 0) ∧ w.cell? ⟨b, 6, none⟩ = some (.slice none 0 0) :=
  ⟨by rw [cell_blk h]; rfl, by rw [cell_blk h]; rfl, by rw [cell_blk h]; rfl, by rw [cell_blk h]; rfl, by rw [cell_blk h]; rfl, by rw [cell_blk h]; rfl, by rw [cell_blk h]; rfl⟩
theorem seven_frozen {w : World} {b : Nat} (h : w.heap[b]? = some (.cells out0 66)) :
    w.frozen? ⟨b, 0, none⟩ = false ∧ w.frozen? ⟨b, 1, none⟩ = false ∧ w.frozen? ⟨b, 2, none⟩ = false ∧ w.frozen? ⟨b, 3, none⟩ = false ∧ w.frozen? ⟨b, 4, none⟩ = false ∧ w.frozen? ⟨b, 5, none⟩ = false ∧ w.frozen? ⟨b, 6, none⟩ = false :=
  ⟨frozen_blk h _, frozen_blk h _, frozen_blk h _, frozen_blk h _, frozen_blk h _, frozen_blk h _, frozen_blk h _⟩

/-- The seven stores into a block. -/
def set7 (w : World) (b : Nat) (x0 x1 x2 x3 x4 x5 x6 : Value) : World :=
  ((((((w.setCell ⟨b, 0, none⟩ x0).setCell ⟨b, 1, none⟩ x1).setCell ⟨b, 2, none⟩ x2).setCell ⟨b, 3, none⟩ x3).setCell ⟨b, 4, none⟩ x4).setCell ⟨b, 5, none⟩ x5).setCell ⟨b, 6, none⟩ x6
theorem set7_other (w : World) (b : Nat) (x0 x1 x2 x3 x4 x5 x6 : Value) {g : Nat} (h : g ≠ b) : (set7 w b x0 x1 x2 x3 x4 x5 x6).heap[g]? = w.heap[g]? := by
  unfold set7
  rw [heap_set_other h, heap_set_other h, heap_set_other h, heap_set_other h, heap_set_other h, heap_set_other h, heap_set_other h]
theorem set7_below {B b : Nat} {W w : World} (hb : Below B W w) (h : B ≤ b) (x0 x1 x2 x3 x4 x5 x6 : Value) : Below B W (set7 w b x0 x1 x2 x3 x4 x5 x6) := by
  unfold set7
  exact Below.setCell (B := B) (Below.setCell (B := B) (Below.setCell (B := B) (Below.setCell (B := B) (Below.setCell (B := B) (Below.setCell (B := B) (Below.setCell (B := B) hb h _) h _) h _) h _) h _) h _) h _

theorem ownsRow_out {w w' : World} {rb B : Nat} {e e' : TypeId} {size : Nat} {v : Value} {n : Nat} {xs : List Value} {c : Array Value} {fr : Nat × Nat} (h : w.ownsRow B e size v n xs) (hb : w.heap[rb]? = some (.cells c e' fr)) (hne : e ≠ e') (ho : ∀ g, g ≠ rb → w'.heap[g]? = w.heap[g]?) : w'.ownsRow B e size v n xs :=
  ownsRow_same h fun g hg => ho g fun e => ownsRow_notin h hb hne (e ▸ hg)
theorem RowAt.out {w w' : World} {rb : Nat} {v : Value} {row : List Sq.Val} {e' : TypeId} {c : Array Value} {fr : Nat × Nat} (h : RowAt w v row) (hb : w.heap[rb]? = some (.cells c e' fr)) (hne : 147 ≠ e') (ho : ∀ g, g ≠ rb → w'.heap[g]? = w.heap[g]?) : RowAt w' v row := ⟨ownsRow_out h.1 hb hne ho, h.2⟩
theorem RowsOwn.out {w w' : World} {rb B : Nat} {v : Value} {rows : List (List Sq.Val)} {e' : TypeId} {c : Array Value} {fr : Nat × Nat} (h : RowsOwn B w v rows) (hb : w.heap[rb]? = some (.cells c e' fr)) (h1 : 147 ≠ e') (h2 : 102 ≠ e') (ho : ∀ g, g ≠ rb → w'.heap[g]? = w.heap[g]?) : RowsOwn B w' v rows := by
  obtain ⟨rvs, h3, h4⟩ := h
  exact ⟨rvs, ownsRow_out h3 hb h2 ho, fun i row hi => let ⟨rv, h5, h6⟩ := h4 i row hi; ⟨rv, h5, h6.out hb h1 ho⟩⟩
theorem ColsAt.out {w w' : World} {rb : Nat} {v : Value} {l : List Sq.Col} {e' : TypeId} {c : Array Value} {fr : Nat × Nat} (h : ColsAt w v l) (hb : w.heap[rb]? = some (.cells c e' fr)) (hne : 145 ≠ e') (ho : ∀ g, g ≠ rb → w'.heap[g]? = w.heap[g]?) : ColsAt w' v l := ⟨ownsRow_out h.1 hb hne ho, h.2⟩

/-- What a function that answers an outcome says. -/
def OutPost (w : World) (o : Sq.Out) (e : Ending) (w' : World) : Prop := ∃ cv pv kv, e = .returned (.agg (outCells o cv pv kv)) ∧ OutAt w' o cv pv kv ∧ Below w.heap.size w w'

def Sq.remove (t : Sq.Tab) (at_ : Int) (l : List Sq.StepS) : Sq.Out := ⟨Sq.counted (Sq.meeting t l).length, false, Sq.nobytes, [], at_, [], (Sq.meeting t l).map Sq.keyOf⟩
theorem Tryz.infoI64 : (Tryz.prog.info? 2).map (fun i => (i.zero, i.size, i.bytes)) = some (some (.int .i64 0), 1, 8) := by kernel_rfl
theorem keys_take (rows : List (List Sq.Val)) (k : Nat) (h : k < rows.length) : (rows.take (k + 1)).map Sq.keyOf = (rows.take k).map Sq.keyOf ++ [Sq.keyOf rows[k]] := by
  rw [List.take_succ_eq_append_getElem h, List.map_append]; rfl

set_option maxRecDepth 100000 in
set_option maxHeartbeats 1000000 in
theorem remove_any (t : Sq.Tab) (l : List Sq.StepS) (cv rv sv : Value) (a : Nat) (w : World) (h : TabAt w t cv rv) (hs : StepsAt w sv l) (hT : Tbl w) (hl : l.length ≤ 50000) (hn : t.rows.length ≤ 1000) :
    Calls Tryz.prog 42 #[.agg #[.string t.name, cv, rv], .int .i64 a, sv] w (OutPost w (Sq.remove t a l)) := by
  obtain ⟨i0, hi, hz0, hz1, hz2⟩ := info_parts Tryz.infoI64
  obtain ⟨ao, cap, rfl⟩ := h.rows.slice
  obtain ⟨co, cap2, rfl⟩ := ownsRow_slice h.cols.1
  obtain ⟨bo, bap, rfl⟩ := ownsRow_slice hs.1
  have hml := Sq.meeting_len t l
  have HE : Hid (Sq.remove t a l = ⟨Sq.counted (Sq.meeting t l).length, false, Sq.nobytes, [], a, [], (Sq.meeting t l).map Sq.keyOf⟩) := rfl
  obtain ⟨rows, hrows⟩ : ∃ x, x = Sq.meeting t l := ⟨_, rfl⟩
  have hE := HE.out
  rw [← hrows] at hml hE
  have HE2 := hd hE
  have HROWS := hd hrows
  have H := hd h
  have HS := hd hs
  have HT := hd hT
  have hW : ∀ o o2, Below w.heap.size w ((w.alloc o).alloc o2) := fun o o2 => ((Below.refl _ _).alloc (Nat.le_refl _) _).alloc (by simp) _
  have HW := hd hW
  clear h hs hW hE HE hrows hT
  go_enter Tryz.func42, Tryz.ntmps42
  go_wp2_with fail
  refine (meeting_any t l _ _ _ _ (H.out.below (HW.out _ _)) (HS.out.below (HW.out _ _)) hl).mono ?_
  rintro e w1 ⟨v, rfl, hro, hb1⟩
  rw [← HROWS.out] at hro
  obtain ⟨vo, vc, rfl⟩ := hro.slice
  rw [heap_alloc2] at hro hb1
  have hblk : w1.heap[w.heap.size + 1]? = some (.cells out0 66) := (hb1.block _ (by omega)).trans (by rw [show w.heap.size + 1 = (w.alloc (.cells #[.string t.name, .slice co t.cols.length cap2, .slice ao t.rows.length cap] 92)).heap.size from by simp]; exact alloc_at _ _)
  have hbw : Below w.heap.size w w1 := (HW.out _ _).trans (hb1.mono (by omega))
  have hz := hb1.size
  rw [heap_alloc2] at hz
  have HRO := hd hro
  have HBLK := hd hblk
  clear hro hblk hb1
  go_wp2
  go_loopw [8, 9] (fun v i wr => ∃ k : Nat, k ≤ rows.length ∧ i = .int .i64 k ∧ wr.ownsRow w1.heap.size 2 1 v k (((rows.take k).map Sq.keyOf).map (Value.int .i64)) ∧ Below w1.heap.size w1 wr) (fun _ i _ => rows.length - (intOf i).toNat)
  case atStart => exact ⟨0, Nat.zero_le _, rfl, World.ownsRow_nil _ _ _ _, Below.refl _ _⟩
  case round =>
    obtain ⟨k, hk, rfl, hown, hb⟩ := hrel
    obtain ⟨xo, xc, rfl⟩ := ownsRow_slice hown
    have hzw := hb.size
    have HB := hd hb
    have HO := hd hown
    clear hb hown
    by_cases hlt : k < rows.length
    · obtain ⟨g, cap', ra, rc, hv, hg, c0, hrow⟩ := (HRO.out.below HB.out).at k hlt
      simp only [Value.slice.injEq] at hv
      obtain ⟨rfl, -, rfl⟩ := hv
      have HKT := hd (keys_take rows k hlt)
      obtain ⟨row, hrw⟩ : ∃ x, x = rows[k] := ⟨_, rfl⟩
      have hkt := HKT.out
      rw [← hrw] at hkt c0 hrow
      have HKT2 := hd hkt
      have HROW := hd hrow
      clear hkt hrow HKT hrw
      obtain ⟨kx, hkx⟩ : ∃ y, y = Sq.keyOf row := ⟨_, rfl⟩
      have HKX := hd hkx
      clear hkx
      go_wp2_with (first | (go_at_call 64; refine (Key_any row _ _ HROW.out).mono ?_; rintro e w2 ⟨rfl, hb2⟩; rw [← HKX.out]; have HB2 := hd hb2; have hz2' := hb2.size; have HO2 := hd ((ownsRow_below HO.out hb2).alloc (.cells #[.int .i64 kx] 2)); clear hb2) | (at_builtin; refine wpList_append_lies _ rfl (.tmp 19) (.tmp 25) 64 rfl w1.heap.size 2 i0 _ 1 8 Tryz.underlying64 hi hz0 hz1 hz2 rfl (by decide) _ k _ rfl HO2.out ⟨w2.heap.size, 0, none⟩ 1 1 [.int .i64 kx] rfl rfl (by exact new_cells w2 _ _ _ rfl rfl) (by intro u hu; simp at hu; subst hu; rfl) (by decide) (by unfold maxLen; omega) (by omega) (by simp; omega) _ rfl ?_; intro gg cap3 w3 hown3 hgrow3 hat3 hlt3; have HO3 := hd hown3; have HG3 := hd hgrow3; clear hown3 hgrow3 hat3))
      have hbel : Below w1.heap.size w1 w3 := (Below.alloc (B := w1.heap.size) (HB.out.trans (HB2.out.mono hzw)) (by omega) _).trans (Tch.of_grown HG3.out (fun k hk => (HO2.out.lt k hk).1) (by simp; omega))
      go_roundw
      case rel => exact ⟨k + 1, by omega, by go_num, by rw [HKT2.out, ← HKX.out, List.map_append]; exact HO3.out, hbel⟩
      case measure => simp [intOf]; omega
    · have hkk : k = rows.length := by omega
      have hkl : rows.take k = rows := List.take_of_length_le (by omega)
      have ho := HO.out
      rw [hkl] at ho
      have HO2 := hd ho
      have hblk2 := (HB.out.block (w.heap.size + 1) (by omega)).trans HBLK.out
      have HBLK2 := hd hblk2
      have hbw2 : Below w.heap.size w wr := hbw.trans (HB.out.mono (by omega))
      have HBW2 := hd hbw2
      have HKK := hd hkk
      clear hkl ho HO hblk2 hbw2 hkk
      go_wp2_with fail
      refine (counted_any k _ (by omega) (by omega) (HT.out.below HBW2.out)).mono ?_
      rintro e w3 ⟨rfl, hb3⟩
      have hblk3 := (hb3.block (w.heap.size + 1) (by omega)).trans HBLK2.out
      obtain ⟨d0, d1, d2, d3, d4, d5, d6⟩ := seven_cells hblk3
      obtain ⟨f0, f1, f2, f3, f4, f5, f6⟩ := seven_frozen hblk3
      have hz3 := hb3.size
      have HB3 := hd hb3
      have HBLK3 := hd hblk3
      have hz4 : w.heap.size + 1 < w3.heap.size := by omega
      clear hb3 hblk3
      go_wp2
      refine bodyPost_ret (v := .agg (outCells (Sq.remove t a l) (.slice none 0 0) (.slice none 0 0) (.slice xo k xc))) (by rw [HE2.out, ← HKK.out]; simp [results, Tryz.results42, go_sem, outCells, Sq.nobytes, *]) rfl ⟨_, _, _, rfl, ?_, ?_⟩
      · rw [HE2.out]
        refine ⟨⟨World.ownsRow_nil _ _ _ _, by simp⟩, RowsOwn.nil _ _, ?_, by simp, by simp; omega⟩
        show World.ownsRow _ 0 2 1 _ (rows.map Sq.keyOf).length _
        rw [List.length_map, ← HKK.out]
        exact ownsRow_base (ownsRow_out (ownsRow_below HO2.out HB3.out) HBLK3.out (by decide) (fun g hg => set7_other _ _ _ _ _ _ _ _ _ hg)) (Nat.zero_le _)
      · exact set7_below (HBW2.out.trans (HB3.out.mono (by omega))) (by omega) _ _ _ _ _ _ _

end Go.Proofs.YteibbdilhpdknaaGreatDoor
