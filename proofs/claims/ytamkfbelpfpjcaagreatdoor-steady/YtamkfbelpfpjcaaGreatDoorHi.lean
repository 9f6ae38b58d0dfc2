import Derived.Test.YtamkfbelpfpjcaaGreatDoorGm
import Derived.Test.YtamkfbelpfpjcaaGreatDoorHd
set_option linter.unusedVariables false
set_option linter.unusedSimpArgs false

namespace Go.Proofs.YtamkfbelpfpjcaaGreatDoor
open Go.RowKit

def out0 : Array Value := #[.string ⟨#[]⟩, .bool false, .string ⟨#[]⟩, .slice none 0 0, .int .i64 0, .slice none 0 0, .slice none 0 0]
theorem alloc_at (w : World) (o : Obj) : (w.alloc o).heap[w.heap.size]? = some o := by show (w.heap.push o)[w.heap.size]? = some o; simp
theorem alloc_lt {w : World} {k : Nat} (h : k < w.heap.size) (o : Obj) : (w.alloc o).heap[k]? = w.heap[k]? := by show (w.heap.push o)[k]? = w.heap[k]?; rw [Array.getElem?_push, if_neg (Nat.ne_of_lt h)]

/-- The cells of a new outcome. -/
theorem seven_cells {w : World} {b : Nat} (h : w.heap[b]? = some (.cells out0 56)) :
    w.cell? ⟨b, 0, none⟩ = some (.string ⟨#[]⟩) ∧ w.cell? ⟨b, 1, none⟩ = some (.bool false) ∧ w.cell? ⟨b, 2, none⟩ = some (.string ⟨#[]⟩) ∧ w.cell? ⟨b, 3, none⟩ = some (.slice none 0 0) ∧ w.cell? ⟨b, 4, none⟩ = some (.int .i64 0) ∧ w.cell? ⟨b, 5, none⟩ = some (.slice none 0 0) ∧ w.cell? ⟨b, 6, none⟩ = some (.slice none 0 0) :=
  ⟨by rw [cell_blk h]; rfl, by rw [cell_blk h]; rfl, by rw [cell_blk h]; rfl, by rw [cell_blk h]; rfl, by rw [cell_blk h]; rfl, by rw [cell_blk h]; rfl, by rw [cell_blk h]; rfl⟩
theorem seven_frozen {w : World} {b : Nat} (h : w.heap[b]? = some (.cells out0 56)) :
    w.frozen? ⟨b, 0, none⟩ = false ∧ w.frozen? ⟨b, 1, none⟩ = false ∧ w.frozen? ⟨b, 2, none⟩ = false ∧ w.frozen? ⟨b, 3, none⟩ = false ∧ w.frozen? ⟨b, 4, none⟩ = false ∧ w.frozen? ⟨b, 5, none⟩ = false ∧ w.frozen? ⟨b, 6, none⟩ = false :=
  ⟨frozen_blk h _, frozen_blk h _, frozen_blk h _, frozen_blk h _, frozen_blk h _, frozen_blk h _, frozen_blk h _⟩

/-- The seven stores into a block. -/
def set7 (w : World) (b : Nat) (x0 x1 x2 x3 x4 x5 x6 : Value) : World :=
  ((((((w.setCell ⟨b, 0, none⟩ x0).setCell ⟨b, 1, none⟩ x1).setCell ⟨b, 2, none⟩ x2).setCell ⟨b, 3, none⟩ x3).setCell ⟨b, 4, none⟩ x4).setCell ⟨b, 5, none⟩ x5).setCell ⟨b, 6, none⟩ x6
theorem set7_other (w : World) (b : Nat) (x0 x1 x2 x3 x4 x5 x6 : Value) {g : Nat} (h : g ≠ b) : (set7 w b x0 x1 x2 x3 x4 x5 x6).heap[g]? = w.heap[g]? := by
  unfold set7
  rw [heap_set_other h, heap_set_other h, heap_set_other h, heap_set_other h, heap_set_other h, heap_set_other h, heap_set_other h]
theorem set7_below {B b : Nat} {W w : World} (hb : Below B W w) (h : B ≤ b) (x0 x1 x2 x3 x4 x5 x6 : Value) : Below B W (set7 w b x0 x1 x2 x3 x4 x5 x6) := by
  unfold set7
  exact Below.setCell (B := B) (Below.setCell (B := B) (Below.setCell (B := B) (Below.setCell (B := B) (Below.setCell (B := B) (Below.setCell (B := B) (Below.setCell (B := B) hb h _) h _) h _) h _) h _) h _) h _

theorem ownsRow_out {w w' : World} {rb B : Nat} {e e' : TypeId} {size : Nat} {v : Value} {n : Nat} {xs : List Value} {c : Array Value} {fr : Nat × Nat} (h : w.ownsRow B e size v n xs) (hb : w.heap[rb]? = some (.cells c e' fr)) (hne : e ≠ e') (ho : ∀ g, g ≠ rb → w'.heap[g]? = w.heap[g]?) : w'.ownsRow B e size v n xs :=
  ownsRow_same h fun g hg => ho g fun e => ownsRow_notin h hb hne (e ▸ hg)
theorem RowAt.out {w w' : World} {rb : Nat} {v : Value} {row : List Sq.Val} {e' : TypeId} {c : Array Value} {fr : Nat × Nat} (h : RowAt w v row) (hb : w.heap[rb]? = some (.cells c e' fr)) (hne : 139 ≠ e') (ho : ∀ g, g ≠ rb → w'.heap[g]? = w.heap[g]?) : RowAt w' v row := ⟨ownsRow_out h.1 hb hne ho, h.2⟩
theorem RowsOwn.out {w w' : World} {rb B : Nat} {v : Value} {rows : List (List Sq.Val)} {e' : TypeId} {c : Array Value} {fr : Nat × Nat} (h : RowsOwn B w v rows) (hb : w.heap[rb]? = some (.cells c e' fr)) (h1 : 139 ≠ e') (h2 : 87 ≠ e') (ho : ∀ g, g ≠ rb → w'.heap[g]? = w.heap[g]?) : RowsOwn B w' v rows := by
  obtain ⟨rvs, h3, h4⟩ := h
  exact ⟨rvs, ownsRow_out h3 hb h2 ho, fun i row hi => let ⟨rv, h5, h6⟩ := h4 i row hi; ⟨rv, h5, h6.out hb h1 ho⟩⟩
theorem ColsAt.out {w w' : World} {rb : Nat} {v : Value} {l : List Sq.Col} {e' : TypeId} {c : Array Value} {fr : Nat × Nat} (h : ColsAt w v l) (hb : w.heap[rb]? = some (.cells c e' fr)) (hne : 135 ≠ e') (ho : ∀ g, g ≠ rb → w'.heap[g]? = w.heap[g]?) : ColsAt w' v l := ⟨ownsRow_out h.1 hb hne ho, h.2⟩

/-- What a function that answers an outcome says. -/
def OutPost (w : World) (o : Sq.Out) (e : Ending) (w' : World) : Prop := ∃ cv pv kv, e = .returned (.agg (outCells o cv pv kv)) ∧ OutAt w' o cv pv kv ∧ Below w.heap.size w w'

/-- The outcome of a delete, told the rows that meet its condition. -/
def Sq.removeN (tb : Int) (rows : List (List Sq.Val)) : Sq.Out := ⟨Sq.counted rows.length, false, Sq.nobytes, [], tb, [], rows.map Sq.keyOf⟩
theorem Tryz.infoI64 : (Tryz.prog.info? 2).map (fun i => (i.zero, i.size, i.bytes)) = some (some (.int .i64 0), 1, 8) := by kernel_rfl
theorem keys_take (rows : List (List Sq.Val)) (k : Nat) (h : k < rows.length) : (rows.take (k + 1)).map Sq.keyOf = (rows.take k).map Sq.keyOf ++ [Sq.keyOf rows[k]] := by
  rw [List.take_succ_eq_append_getElem h, List.map_append]; rfl

set_option maxRecDepth 100000 in
set_option maxHeartbeats 1000000 in
theorem remove_any (tb : Int) (rows : List (List Sq.Val)) (rv : Value) (w : World) (h : RowsOwn 0 w rv rows) (hT : Tbl w) (hn : rows.length ≤ 1000) :
    Calls Tryz.prog 32 #[.int .i64 tb, rv] w (OutPost w (Sq.removeN tb rows)) := by
  obtain ⟨i0, hi, hz0, hz1, hz2⟩ := info_parts Tryz.infoI64
  obtain ⟨vo, vc, rfl⟩ := h.slice
  have HE2 : Hid (Sq.removeN tb rows = ⟨Sq.counted rows.length, false, Sq.nobytes, [], tb, [], rows.map Sq.keyOf⟩) := rfl
  have HT := hd hT
  obtain ⟨w1, hw1⟩ : ∃ w1 : World, w1 = w.alloc (.cells out0 56) := ⟨_, rfl⟩
  have hbw : Below w.heap.size w w1 := by rw [hw1]; exact (Below.refl _ _).alloc (Nat.le_refl _) _
  have hblk : w1.heap[w.heap.size]? = some (.cells out0 56) := by rw [hw1]; exact alloc_at _ _
  have hz := lt_blk hblk
  have HRO := hd (h.below hbw)
  have HBLK := hd hblk
  clear h hT hblk
  go_enter Tryz.func32, Tryz.ntmps32
  go_wp2
  rw [show w.alloc (.cells #[.string ⟨#[]⟩, .bool false, .string ⟨#[]⟩, .slice none 0 0, .int .i64 0, .slice none 0 0, .slice none 0 0] 56) = w1 from hw1.symm]
  clear hw1
  go_loopw [5, 6] (fun v i wr => ∃ k : Nat, k ≤ rows.length ∧ i = .int .i64 k ∧ wr.ownsRow w1.heap.size 2 1 v k (((rows.take k).map Sq.keyOf).map (Value.int .i64)) ∧ Below w1.heap.size w1 wr) (fun _ i _ => rows.length - (intOf i).toNat)
  case atStart => exact ⟨0, Nat.zero_le _, rfl, World.ownsRow_nil _ _ _ _, Below.refl _ _⟩
  case round =>
    obtain ⟨k, hk, rfl, hown, hb⟩ := hrel
    obtain ⟨xo, xc, rfl⟩ := ownsRow_slice hown
    have hzw := hb.size
    have HB := hd hb
    have HO := hd hown
    clear hb hown
    by_cases hlt : k < rows.length
    · obtain ⟨g, cap', ra, rc, hv, hg, c0, hrow⟩ := (HRO.out.below HB.out).at k hlt
      simp only [Value.slice.injEq] at hv
      obtain ⟨rfl, -, rfl⟩ := hv
      have HKT := hd (keys_take rows k hlt)
      obtain ⟨row, hrw⟩ : ∃ x, x = rows[k] := ⟨_, rfl⟩
      have hkt := HKT.out
      rw [← hrw] at hkt c0 hrow
      have HKT2 := hd hkt
      have HROW := hd hrow
      clear hkt hrow HKT hrw
      obtain ⟨kx, hkx⟩ : ∃ y, y = Sq.keyOf row := ⟨_, rfl⟩
      have HKX := hd hkx
      clear hkx
      go_wp2_with (first | (go_at_call 52; refine (Key_any row _ _ HROW.out).mono ?_; rintro e w2 ⟨rfl, hb2⟩; rw [← HKX.out]; have HB2 := hd hb2; have hz2' := hb2.size; have HO2 := hd ((ownsRow_below HO.out hb2).alloc (.cells #[.int .i64 kx] 2)); clear hb2) | (at_builtin; refine wpList_append_lies _ rfl (.tmp 13) (.tmp 19) 54 rfl w1.heap.size 2 i0 _ 1 8 Tryz.underlying54 hi hz0 hz1 hz2 rfl (by decide) _ k _ rfl HO2.out ⟨w2.heap.size, 0, none⟩ 1 1 [.int .i64 kx] rfl rfl (by exact new_cells w2 _ _ _ rfl rfl) (by intro u hu; simp at hu; subst hu; rfl) (by decide) (by unfold maxLen; omega) (by omega) (by simp; omega) _ rfl ?_; intro gg cap3 w3 hown3 hgrow3 hat3 hlt3; have HO3 := hd hown3; have HG3 := hd hgrow3; clear hown3 hgrow3 hat3))
      have hbel : Below w1.heap.size w1 w3 := (Below.alloc (B := w1.heap.size) (HB.out.trans (HB2.out.mono hzw)) (by omega) _).trans (Tch.of_grown HG3.out (fun k hk => (HO2.out.lt k hk).1) (by simp; omega))
      go_roundw
      case rel => exact ⟨k + 1, by omega, by go_num, by rw [HKT2.out, ← HKX.out, List.map_append]; exact HO3.out, hbel⟩
      case measure => simp [intOf]; omega
    · have hkk : k = rows.length := by omega
      have hkl : rows.take k = rows := List.take_of_length_le (by omega)
      have ho := HO.out
      rw [hkl] at ho
      have HO2 := hd ho
      have hblk2 := (HB.out.block (w.heap.size) (by omega)).trans HBLK.out
      have HBLK2 := hd hblk2
      have hbw2 : Below w.heap.size w wr := hbw.trans (HB.out.mono (by omega))
      have HBW2 := hd hbw2
      have HKK := hd hkk
      clear hkl ho HO hblk2 hbw2 hkk
      go_wp2_with fail
      refine (counted_any k _ (by omega) (by omega) (HT.out.below HBW2.out)).mono ?_
      rintro e w3 ⟨rfl, hb3⟩
      have hblk3 := (hb3.block (w.heap.size) (by omega)).trans HBLK2.out
      obtain ⟨d0, d1, d2, d3, d4, d5, d6⟩ := seven_cells hblk3
      obtain ⟨f0, f1, f2, f3, f4, f5, f6⟩ := seven_frozen hblk3
      have hz3 := hb3.size
      have HB3 := hd hb3
      have HBLK3 := hd hblk3
      have hz4 : w.heap.size < w3.heap.size := by omega
      clear hb3 hblk3
      go_wp2
      refine bodyPost_ret (v := .agg (outCells (Sq.removeN tb rows) (.slice none 0 0) (.slice none 0 0) (.slice xo k xc))) (by rw [HE2.out, ← HKK.out]; simp [results, Tryz.results32, go_sem, outCells, Sq.nobytes, *]) rfl ⟨_, _, _, rfl, ?_, ?_⟩
      · rw [HE2.out]
        refine ⟨⟨World.ownsRow_nil _ _ _ _, by simp⟩, RowsOwn.nil _ _, ?_, by simp, by simp; omega⟩
        show World.ownsRow _ 0 2 1 _ (rows.map Sq.keyOf).length _
        rw [List.length_map, ← HKK.out]
        exact ownsRow_base (ownsRow_out (ownsRow_below HO2.out HB3.out) HBLK3.out (by decide) (fun g hg => set7_other _ _ _ _ _ _ _ _ _ hg)) (Nat.zero_le _)
      · exact set7_below (HBW2.out.trans (HB3.out.mono (by omega))) (by omega) _ _ _ _ _ _ _

end Go.Proofs.YtamkfbelpfpjcaaGreatDoor

namespace Go.Proofs.YtamkfbelpfpjcaaGreatDoor
open Go.RowKit

def Sq.noTab : Sq.TabN := ⟨0, ⟨#[]⟩, []⟩
/-- What Find answers. -/
def FindPost (w : World) (x : Option Sq.TabN) (e : Ending) (w' : World) : Prop :=
  ∃ cv, e = .returned (.tuple #[.agg #[.int .i64 (x.getD Sq.noTab).number, .string (x.getD Sq.noTab).name, cv], .bool x.isSome]) ∧ ColsAt w' cv (x.getD Sq.noTab).cols ∧ Below w.heap.size w w'
def tab0 : Array Value := #[.int .i64 0, .string ⟨#[]⟩, .slice none 0 0]
theorem tab3 {w : World} {b : Nat} {a0 a1 a2 : Value} (h : w.heap[b]? = some (.cells #[a0, a1, a2] 74)) : w.cell? ⟨b, 0, none⟩ = some a0 ∧ w.cell? ⟨b, 1, none⟩ = some a1 ∧ w.cell? ⟨b, 2, none⟩ = some a2 ∧ w.frozen? ⟨b, 0, none⟩ = false ∧ w.frozen? ⟨b, 1, none⟩ = false ∧ w.frozen? ⟨b, 2, none⟩ = false :=
  ⟨by rw [cell_blk h]; rfl, by rw [cell_blk h]; rfl, by rw [cell_blk h]; rfl, frozen_blk h _, frozen_blk h _, frozen_blk h _⟩

def set3 (w : World) (b : Nat) (x0 x1 x2 : Value) : World := ((w.setCell ⟨b, 0, none⟩ x0).setCell ⟨b, 1, none⟩ x1).setCell ⟨b, 2, none⟩ x2
theorem set3_other (w : World) (b : Nat) (x0 x1 x2 : Value) {g : Nat} (h : g ≠ b) : (set3 w b x0 x1 x2).heap[g]? = w.heap[g]? := by
  unfold set3
  rw [heap_set_other h, heap_set_other h, heap_set_other h]
theorem set3_below {B b : Nat} {W w : World} (hb : Below B W w) (h : B ≤ b) (x0 x1 x2 : Value) : Below B W (set3 w b x0 x1 x2) := by
  unfold set3
  exact Below.setCell (B := B) (Below.setCell (B := B) (Below.setCell (B := B) hb h _) h _) h _

set_option maxRecDepth 100000 in
set_option maxHeartbeats 1000000 in
theorem FindTab_any (l : List (Sq.TabN × Value)) (lv : Value) (nm : ByteArray) (w : World) (h : TabsOwn 0 w lv l) :
    Calls Tryz.prog 26 #[lv, .string nm] w (FindPost w (Sq.findN nm (l.map Prod.fst))) := by
  obtain ⟨ao, acap, rfl⟩ := ownsRow_slice h.own
  have hlf := h.few
  obtain ⟨W, hW⟩ : ∃ W : World, W = w.alloc (.cells #[.int .i64 0, .string ⟨#[]⟩, .slice none 0 0] 74) := ⟨_, rfl⟩
  have hbW : Below w.heap.size w W := by rw [hW]; exact (Below.refl _ _).alloc (Nat.le_refl _) _
  have hblk : W.heap[w.heap.size]? = some (.cells #[.int .i64 0, .string ⟨#[]⟩, .slice none 0 0] 74) := by rw [hW]; exact alloc_here _ _
  obtain ⟨b0, b1, b2, f0, f1, f2⟩ := tab3 hblk
  have hz := lt_blk hblk
  have H := hd (h.below hbW)
  have HBW := hd hbW
  have HBLK := hd hblk
  clear h hbW hblk
  go_enter Tryz.func26, Tryz.ntmps26
  go_wp2
  rw [← hW]
  clear hW
  go_loopw [6] (fun i wr => ∃ k : Nat, k ≤ l.length ∧ i = .int .i64 k ∧ wr = W ∧ Hid (Sq.findN nm (l.map Prod.fst) = Sq.findN nm ((l.map Prod.fst).drop k))) (fun i _ => l.length - (intOf i).toNat)
  case atStart => exact ⟨0, Nat.zero_le _, rfl, rfl, rfl⟩
  case round =>
    obtain ⟨k, hk, rfl, rfl, hr⟩ := hrel
    by_cases hlt : k < l.length
    · obtain ⟨g, cap', ca, cc, hv, hg, c0, c1, c2, hc⟩ := H.out.at k hlt
      simp only [Value.slice.injEq] at hv
      obtain ⟨rfl, -, rfl⟩ := hv
      have hst := Sq.findN_drop (l.map Prod.fst) nm k (by simpa using hlt)
      rw [List.getElem_map] at hst
      have hr2 := hr.out
      rw [hst] at hr2
      clear hr hst
      generalize l[k].1 = x at *
      obtain ⟨xn, xm, xc⟩ := x
      simp only at c0 c1 c2 hc hr2
      have HC := hd hc
      have i1 : (k : Int) < (l.length : Int) := by omega
      have i2 : ¬ ((l.length : Int) ≤ (k : Int)) := by omega
      have i0 : ¬ ((k : Int) < 0) := by omega
      clear hc
      cases he : xm.toList == nm.toList
      case false =>
        have HR : Hid (Sq.findN nm (l.map Prod.fst) = Sq.findN nm ((l.map Prod.fst).drop (k + 1))) := by show _ = _; rw [hr2, he]; rfl
        clear hr2
        go_wp2
        go_roundw
        case rel => exact ⟨k + 1, by omega, by go_num, by first | rfl | trivial, HR⟩
        case measure => simp [intOf]; omega
      case true =>
        have HR : Hid (Sq.findN nm (l.map Prod.fst) = some ⟨xn, xm, xc⟩) := by show _ = _; rw [hr2, he]; rfl
        clear hr2
        go_wp2
        refine bodyPost_ret (v := .tuple #[.agg #[.int .i64 xn, .string xm, .slice ca xc.length cc], .bool true]) (by simp [results, Tryz.results26, go_sem, *]) rfl ?_
        unfold FindPost
        rw [HR.out]
        refine ⟨.slice ca xc.length cc, rfl, HC.out.out HBLK.out (by decide) (fun g hg => set3_other _ _ _ _ _ hg), ?_⟩
        exact set3_below HBW.out (Nat.le_refl _) _ _ _
    · have HE : Hid (Sq.findN nm (l.map Prod.fst) = none) := by show _ = _; rw [hr.out, List.drop_eq_nil_of_le (by simp; omega)]; rfl
      clear hr
      go_wp2
      refine bodyPost_ret (v := .tuple #[.agg #[.int .i64 0, .string ⟨#[]⟩, .slice none 0 0], .bool false]) (by simp [results, Tryz.results26, go_sem, *]) rfl ?_
      unfold FindPost
      rw [HE.out]
      refine ⟨.slice none 0 0, rfl, ⟨World.ownsRow_nil _ _ _ _, Nat.zero_le _⟩, ?_⟩
      exact set3_below HBW.out (Nat.le_refl _) _ _ _

end Go.Proofs.YtamkfbelpfpjcaaGreatDoor
