import Derived.Lib.AppendIntMem
import Derived.Lib.ItoaLen
import Derived.Lib.AppendStr
import Derived.Test.YtamkfbelpfpjcaaGreatDoorGh
import Derived.Test.YtamkfbelpfpjcaaGreatDoorGi
set_option linter.unusedVariables false
set_option linter.unusedSimpArgs false

namespace Go.Proofs.YtamkfbelpfpjcaaGreatDoor
open Go.RowKit

/-- The library's table of powers reads as it was laid. -/
def Tbl (w : World) : Prop := Lib.TabIs Tryz.prog w "internal/strconv.uint64pow10" .u64 Lib.pow10Tab
theorem Tbl.below {w w' : World} (h : Tbl w) (hb : Below w.heap.size w w') : Tbl w' := Lib.tabBelow_of_tabIs h w' hb
theorem Tbl.alloc {w : World} (h : Tbl w) (o : Obj) : Tbl (w.alloc o) := h.below ((Below.refl _ _).alloc (Nat.le_refl _) _)

def Sq.itoa (n : Int) : ByteArray := ⟨(Lib.itoa n).toArray⟩
theorem itoa_any (n : Int) (w : World) (h0 : -1000000000000000000 ≤ n) (h1 : n ≤ 1000000000000000000) (hT : Tbl w) :
    Calls Tryz.prog 41 #[.int .i64 n] w fun e w' => e = .returned (.string (Sq.itoa n)) ∧ Below w.heap.size w w' := by
  refine (Tryz.strconv_Itoa n (by omega) (by omega) w hT).mono ?_
  rintro e w' ⟨rfl, k, os, rfl⟩
  exact ⟨rfl, Lib.below_grow _ _ (Nat.le_refl _) _ _⟩
theorem formatInt_any (n : Int) (w : World) (h0 : -1000000000000000000 ≤ n) (h1 : n ≤ 1000000000000000000) (hT : Tbl w) :
    Calls Tryz.prog 99 #[.int .i64 n, .int .i64 10] w fun e w' => e = .returned (.string (Sq.itoa n)) ∧ Below w.heap.size w w' := by
  refine (Tryz.strconv_FormatInt_10 n (by omega) (by omega) w hT).mono ?_
  rintro e w' ⟨rfl, k, os, rfl⟩
  exact ⟨rfl, Lib.below_grow _ _ (Nat.le_refl _) _ _⟩

theorem itoa_size (n : Int) (h0 : -1000000000000000000 ≤ n) (h1 : n ≤ 1000000000000000000) : (Sq.itoa n).size ≤ 21 := by
  have := Lib.itoa_length_le n (by omega) (by omega)
  show (Lib.itoa n).toArray.size ≤ 21
  simpa using this

def Sq.bSemi : ByteArray := ⟨#[59]⟩
def Sq.bBang : ByteArray := ⟨#[33]⟩
def Sq.bQuote : ByteArray := ⟨#[39]⟩
def Sq.counted (n : Int) : ByteArray := Sq.itoa n ++ Sq.bSemi

set_option maxRecDepth 100000 in
set_option maxHeartbeats 400000 in
theorem counted_any (n : Int) (w : World) (h0 : 0 ≤ n) (h1 : n ≤ 1000000) (hT : Tbl w) :
    Calls Tryz.prog 46 #[.int .i64 n] w fun e w' => e = .returned (.string (Sq.counted n)) ∧ Below w.heap.size w w' := by
  have HT := hd hT
  have hsz := itoa_size n (by omega) (by omega)
  clear hT
  go_enter Tryz.func46, Tryz.ntmps46
  go_wp2_with fail
  refine (itoa_any n _ (by omega) (by omega) HT.out).mono ?_
  rintro e w1 ⟨rfl, hb1⟩
  go_wp2
  go_ret
  exact ⟨rfl, hb1⟩

/-- An outcome: the reply; a table's name and columns; the rows that are put, the keys that are cut. -/
structure Sq.Out where
  reply : ByteArray
  makes : Bool
  name : ByteArray
  cols : List Sq.Col
  table : Int
  puts : List (List Sq.Val)
  cuts : List Int
def Sq.refused (e : Int) : Sq.Out := ⟨Sq.bBang ++ Sq.itoa e, false, Sq.nobytes, [], 0, [], []⟩

/-- An outcome in memory. -/
structure OutAt (w : World) (o : Sq.Out) (cv pv kv : Value) : Prop where
  cols : ColsAt w cv o.cols
  puts : RowsOwn 0 w pv o.puts
  cuts : w.ownsRow 0 2 1 kv o.cuts.length (o.cuts.map (Value.int .i64))
  nputs : o.puts.length ≤ 100000
  ncuts : o.cuts.length ≤ 100000
def outCells (o : Sq.Out) (cv pv kv : Value) : Array Value := #[.string o.reply, .bool o.makes, .string o.name, cv, .int .i64 o.table, pv, kv]
theorem OutAt.below {w w' : World} {o : Sq.Out} {cv pv kv : Value} (h : OutAt w o cv pv kv) (hb : Below w.heap.size w w') : OutAt w' o cv pv kv :=
  ⟨h.cols.below hb, h.puts.below hb, ownsRow_below h.cuts hb, h.nputs, h.ncuts⟩
theorem OutAt.none (w : World) (o : Sq.Out) (h1 : o.cols = []) (h2 : o.puts = []) (h3 : o.cuts = []) : OutAt w o (.slice none 0 0) (.slice none 0 0) (.slice none 0 0) := by
  refine ⟨⟨?_, ?_⟩, ?_, ?_, ?_, ?_⟩
  · rw [h1]; exact World.ownsRow_nil _ _ _ _
  · rw [h1]; simp
  · rw [h2]; exact RowsOwn.nil _ _
  · rw [h3]; exact World.ownsRow_nil _ _ _ _
  · rw [h2]; simp
  · rw [h3]; simp

set_option maxRecDepth 100000 in
set_option maxHeartbeats 400000 in
theorem refused_any (n : Int) (w : World) (h0 : 0 ≤ n) (h1 : n ≤ 1000000) (hT : Tbl w) :
    Calls Tryz.prog 22 #[.int .i64 n] w fun e w' => e = .returned (.agg (outCells (Sq.refused n) (.slice none 0 0) (.slice none 0 0) (.slice none 0 0))) ∧ Below w.heap.size w w' := by
  have HT := hd hT
  have hsz := itoa_size n (by omega) (by omega)
  clear hT
  go_enter Tryz.func22, Tryz.ntmps22
  go_wp2_with fail
  refine (itoa_any n _ (by omega) (by omega) (HT.out.alloc _)).mono ?_
  rintro e w1 ⟨rfl, hb1⟩
  have hbw : Below w.heap.size w w1 := ((Below.refl _ w).alloc (Nat.le_refl _) _).trans (hb1.mono (by simp))
  obtain ⟨k1, k2⟩ := bcell hb1
  have a0 := k1 w.heap.size 0 (by simp)
  have a1 := k1 w.heap.size 1 (by simp)
  have a2 := k1 w.heap.size 2 (by simp)
  have a3 := k1 w.heap.size 3 (by simp)
  have a4 := k1 w.heap.size 4 (by simp)
  have a5 := k1 w.heap.size 5 (by simp)
  have a6 := k1 w.heap.size 6 (by simp)
  have b0 := k2 w.heap.size 0 (by simp)
  have b1 := k2 w.heap.size 1 (by simp)
  have b2 := k2 w.heap.size 2 (by simp)
  have b3 := k2 w.heap.size 3 (by simp)
  have b4 := k2 w.heap.size 4 (by simp)
  have b5 := k2 w.heap.size 5 (by simp)
  have b6 := k2 w.heap.size 6 (by simp)
  simp [go_sem] at a0 a1 a2 a3 a4 a5 a6 b0 b1 b2 b3 b4 b5 b6
  have hz : w.heap.size < w1.heap.size := by have := hb1.size; simp at this; omega
  clear k1 k2 hb1
  go_wp2
  refine bodyPost_ret (v := .agg (outCells (Sq.refused n) (.slice none 0 0) (.slice none 0 0) (.slice none 0 0))) (by simp [results, Tryz.results22, go_sem, outCells, Sq.refused, Sq.nobytes, Sq.bBang, *]) rfl ⟨rfl, ?_⟩
  exact Below.setCell (B := w.heap.size) (Below.setCell (B := w.heap.size) (Below.setCell (B := w.heap.size) (Below.setCell (B := w.heap.size) (Below.setCell (B := w.heap.size) (Below.setCell (B := w.heap.size) (Below.setCell (B := w.heap.size) hbw (Nat.le_refl _) _) (Nat.le_refl _) _) (Nat.le_refl _) _) (Nat.le_refl _) _) (Nat.le_refl _) _) (Nat.le_refl _) _) (Nat.le_refl _) _

def Sq.written (v : Sq.Val) : ByteArray := if v.kind == 1 then Sq.bQuote ++ v.text ++ Sq.bQuote else Sq.itoa v.number

set_option maxRecDepth 100000 in
set_option maxHeartbeats 400000 in
theorem Written_any (v : Sq.Val) (w : World) (h0 : -1000000000000000000 ≤ v.number) (h1 : v.number ≤ 1000000000000000000) (hs : v.text.size ≤ 1000) (hT : Tbl w) :
    Calls Tryz.prog 100 #[.agg v.cells.toArray] w fun e w' => e = .returned (.string (Sq.written v)) ∧ Below w.heap.size w w' := by
  have HT := hd hT
  clear hT
  have HE : Hid (Sq.written v = if v.kind == 1 then Sq.bQuote ++ v.text ++ Sq.bQuote else Sq.itoa v.number) := rfl
  obtain ⟨vk, vn, vt⟩ := v
  unfold Sq.Val.cells
  dsimp only at h0 h1 hs
  cases hk : vk == 1
  case true =>
    have hq : ((⟨#[39]⟩ : ByteArray) ++ vt).size ≤ 1001 := by
      have : ((⟨#[39]⟩ : ByteArray) ++ vt).size = 1 + vt.size := ByteArray.size_append
      omega
    go_enter Tryz.func100, Tryz.ntmps100
    go_wp2
    go_ret
    exact ⟨by rw [HE.out]; simp only [hk]; rfl, (Below.refl _ _).alloc (Nat.le_refl _) _⟩
  case false =>
    go_enter Tryz.func100, Tryz.ntmps100
    go_wp2_with fail
    refine (formatInt_any vn _ h0 h1 (HT.out.alloc _)).mono ?_
    rintro e w1 ⟨rfl, hb1⟩
    go_wp2
    go_ret
    exact ⟨by rw [HE.out]; simp only [hk]; rfl, ((Below.refl _ _).alloc (Nat.le_refl _) _).trans (hb1.mono (by simp))⟩

end Go.Proofs.YtamkfbelpfpjcaaGreatDoor

namespace Go.Proofs.YtamkfbelpfpjcaaGreatDoor
open Go.RowKit

theorem colNames_take (cols : List Sq.Col) (k : Nat) (h : k < cols.length) : (cols.take (k + 1)).map Sq.Col.name = (cols.take k).map Sq.Col.name ++ [cols[k].name] := by
  rw [List.take_succ_eq_append_getElem h, List.map_append]; rfl

set_option maxRecDepth 100000 in
set_option maxHeartbeats 1000000 in
theorem namesOf_any (cols : List Sq.Col) (cv : Value) (w : World) (h : ColsAt w cv cols) :
    Calls Tryz.prog 58 #[cv] w fun e w' => ∃ v, e = .returned v ∧ StrsAt w' v (cols.map Sq.Col.name) ∧ Below w.heap.size w w' := by
  obtain ⟨i0, hi, hz0, hz1, hz2⟩ := info_parts Tryz.infoStr
  obtain ⟨ao, cap, rfl⟩ := ownsRow_slice h.1
  have hl := h.2
  have H := hd h
  clear h
  go_enter Tryz.func58, Tryz.ntmps58
  go_wp2
  go_loopw [3, 4] (fun v i wr => ∃ k : Nat, k ≤ cols.length ∧ i = .int .i64 k ∧ wr.ownsRow w.heap.size 9 1 v k (((cols.take k).map Sq.Col.name).map Value.string) ∧ Below w.heap.size w wr) (fun _ i _ => cols.length - (intOf i).toNat)
  case atStart => exact ⟨0, Nat.zero_le _, rfl, World.ownsRow_nil _ _ _ _, Below.refl _ _⟩
  case round =>
    obtain ⟨k, hk, rfl, hown, hb⟩ := hrel
    have hzw := hb.size
    by_cases hlt : k < cols.length
    · obtain ⟨g, cap', hv, hg, hc⟩ := sl_at (f := Sq.Col.cells) (fun _ => rfl) (H.out.below hb).1 k hlt
      simp only [Value.slice.injEq] at hv
      obtain ⟨rfl, -, rfl⟩ := hv
      have c0 := hc 0 (.string cols[k].name) (by decide) rfl
      simp only [Nat.add_zero] at c0
      have HCT := hd (colNames_take cols k hlt)
      obtain ⟨nm, hnm⟩ : ∃ x, x = cols[k].name := ⟨_, rfl⟩
      rw [← hnm] at c0
      have HNM := hd hnm
      have HO := hd (hown.alloc (.cells #[.string nm] 9))
      clear hc hnm hown
      go_wp2_with (at_builtin; refine wpList_append_lies _ rfl (.tmp 11) (.tmp 17) 22 rfl w.heap.size 9 i0 _ 1 16 Tryz.underlying22 hi hz0 hz1 hz2 rfl (by decide) _ k _ rfl HO.out ⟨wr.heap.size, 0, none⟩ 1 1 [.string nm] rfl rfl (by exact new_cells wr _ _ _ rfl rfl) (by intro u hu; simp at hu; subst hu; rfl) (by decide) (by unfold maxLen; omega) (by omega) (by simp; omega) _ rfl ?_; intro gg cap3 w3 hown3 hgrow3 hat3 hlt3; have HO3 := hd hown3; have HG3 := hd hgrow3; clear hown3 hgrow3 hat3)
      have hbel : Below w.heap.size w w3 := (Below.alloc (B := w.heap.size) hb hzw _).trans (Tch.of_grown HG3.out (fun k hk => (HO.out.lt k hk).1) (by simp; omega))
      go_roundw
      case rel => exact ⟨k + 1, by omega, by go_num, by rw [HCT.out, ← HNM.out, List.map_append]; exact HO3.out, hbel⟩
      case measure => simp [intOf]; omega
    · have hkl : cols.take k = cols := List.take_of_length_le (by omega)
      have hkk : Hid (k = cols.length) := by show _ = _; omega
      rw [hkl] at hown
      have HO := hd hown
      clear hown hkl
      go_wp2
      go_ret
      refine ⟨_, rfl, ⟨?_, by simp; omega⟩, hb⟩
      have := HO.out
      rw [hkk.out] at this
      rw [List.length_map]
      exact ownsRow_base this (Nat.zero_le _)

/-- A value whose number and text are small. -/
def Sq.okVal (v : Sq.Val) : Prop := -100000000000 ≤ v.number ∧ v.number ≤ 100000000000 ∧ v.text.size ≤ 1000
def Sq.okRow (row : List Sq.Val) : Prop := ∀ v ∈ row, Sq.okVal v
theorem Sq.okVal0 : Sq.okVal Sq.val0 := ⟨by decide, by decide, by decide⟩
theorem Sq.cellOf_ok (cols : List Sq.Col) (row : List Sq.Val) (n : ByteArray) (h : Sq.okRow row) : Sq.okVal (Sq.cellOf cols row n) := by
  unfold Sq.cellOf
  split
  · exact Sq.okVal0
  · cases hx : row[(Sq.find cols n).toNat]? with
    | none => exact Sq.okVal0
    | some v => exact h v (List.mem_of_getElem? hx)

/-- The sum over the items of one row; over rows. -/
def Sq.sumItems (cols : List Sq.Col) (row : List Sq.Val) (items : List ByteArray) : Int := (items.map fun n => (Sq.cellOf cols row n).number).sum
def Sq.sumRows (cols : List Sq.Col) (items : List ByteArray) (rows : List (List Sq.Val)) : Int := (rows.map fun r => Sq.sumItems cols r items).sum

end Go.Proofs.YtamkfbelpfpjcaaGreatDoor

namespace Go.Proofs.YtamkfbelpfpjcaaGreatDoor
open Go.RowKit

theorem Sq.sumItems_take (cols : List Sq.Col) (row : List Sq.Val) (items : List ByteArray) (k : Nat) (h : k < items.length) : Sq.sumItems cols row (items.take (k + 1)) = Sq.sumItems cols row (items.take k) + (Sq.cellOf cols row items[k]).number := by
  unfold Sq.sumItems
  rw [List.take_succ_eq_append_getElem h, List.map_append, List.sum_append]; simp
theorem Sq.sumRows_take (cols : List Sq.Col) (items : List ByteArray) (rows : List (List Sq.Val)) (k : Nat) (h : k < rows.length) : Sq.sumRows cols items (rows.take (k + 1)) = Sq.sumRows cols items (rows.take k) + Sq.sumItems cols rows[k] items := by
  unfold Sq.sumRows
  rw [List.take_succ_eq_append_getElem h, List.map_append, List.sum_append]; simp
theorem Sq.sumItems_bd (cols : List Sq.Col) (row : List Sq.Val) (h : Sq.okRow row) (items : List ByteArray) : -(100000000000 * (items.length : Int)) ≤ Sq.sumItems cols row items ∧ Sq.sumItems cols row items ≤ 100000000000 * (items.length : Int) := by
  induction items with
  | nil => exact ⟨by simp [Sq.sumItems], by simp [Sq.sumItems]⟩
  | cons n r ih =>
    have h1 := Sq.cellOf_ok cols row n h
    have e : Sq.sumItems cols row (n :: r) = (Sq.cellOf cols row n).number + Sq.sumItems cols row r := by simp [Sq.sumItems]
    rw [e, List.length_cons]
    obtain ⟨h2, h3, _⟩ := h1
    omega
theorem Sq.sumRows_bd (cols : List Sq.Col) (items : List ByteArray) (hi : items.length ≤ 1000) (rows : List (List Sq.Val)) (h : ∀ r ∈ rows, Sq.okRow r) : -(100000000000000 * (rows.length : Int)) ≤ Sq.sumRows cols items rows ∧ Sq.sumRows cols items rows ≤ 100000000000000 * (rows.length : Int) := by
  induction rows with
  | nil => exact ⟨by simp [Sq.sumRows], by simp [Sq.sumRows]⟩
  | cons n r ih =>
    have h1 := Sq.sumItems_bd cols n (h n (List.mem_cons_self ..)) items
    have h2 := ih fun r hr => h r (List.mem_cons_of_mem _ hr)
    have e : Sq.sumRows cols items (n :: r) = Sq.sumItems cols n items + Sq.sumRows cols items r := by simp [Sq.sumRows]
    rw [e, List.length_cons]
    omega

theorem run_field_num (k n : Int) (t : ByteArray) (w : World) : Sem.run Tryz.prog (Instr.field 139 (.agg #[.int .i64 k, .int .i64 n, .string t]) 1) w = .ok (.int .i64 n) w := by
  simp [Instr.field, go_sem, Tryz.underlying139, asAgg]

set_option maxRecDepth 100000 in
set_option maxHeartbeats 1000000 in
theorem summed_any (cols : List Sq.Col) (rows : List (List Sq.Val)) (items : List ByteArray) (cv rv iv : Value) (w : World) (h : ColsAt w cv cols) (hr : RowsOwn 0 w rv rows) (hs : StrsAt w iv items) (hok : ∀ r ∈ rows, Sq.okRow r) (hT : Tbl w) (hn : rows.length ≤ 1000) (hm : items.length ≤ 1000) :
    Calls Tryz.prog 56 #[cv, rv, iv] w fun e w' => e = .returned (.string (Sq.itoa (Sq.sumRows cols items rows) ++ Sq.bSemi)) ∧ Below w.heap.size w w' := by
  obtain ⟨ao, cap, rfl⟩ := hr.slice
  obtain ⟨bo, bap, rfl⟩ := ownsRow_slice hs.1
  have H := hd h
  have HR := hd hr
  have HS := hd hs
  have HT := hd hT
  have HOK := hd hok
  clear h hr hs hT hok
  go_enter Tryz.func56, Tryz.ntmps56
  go_wp2
  go_loopw [7, 8] (fun t i wr => ∃ k : Nat, ∃ T : Int, k ≤ rows.length ∧ i = .int .i64 k ∧ t = .int .i64 T ∧ Hid (T = Sq.sumRows cols items (rows.take k)) ∧ -(100000000000000 * (k : Int)) ≤ T ∧ T ≤ 100000000000000 * (k : Int) ∧ Below w.heap.size w wr) (fun _ i _ => rows.length - (intOf i).toNat)
  case atStart => exact ⟨0, 0, Nat.zero_le _, rfl, rfl, rfl, by decide, by decide, Below.refl _ _⟩
  case round =>
    obtain ⟨k, T, hk, rfl, rfl, HTT, hT0, hT1, hb⟩ := hrel
    obtain ⟨wo, rfl⟩ : ∃ wo : World, wo = wr := ⟨_, rfl⟩
    have hzw := hb.size
    by_cases hlt : k < rows.length
    · obtain ⟨g, cap', ra, rc, hv, hg, c0, hrow⟩ := (HR.out.below hb).at k hlt
      simp only [Value.slice.injEq] at hv
      obtain ⟨rfl, -, rfl⟩ := hv
      have HST := hd (Sq.sumRows_take cols items rows k hlt)
      have hrok := HOK.out rows[k] (List.getElem_mem hlt)
      obtain ⟨row, hrw⟩ : ∃ x, x = rows[k] := ⟨_, rfl⟩
      have hst := HST.out
      rw [← hrw] at hst c0 hrow hrok
      have HST2 := hd hst
      have HROW := hd hrow
      have HROK := hd hrok
      clear hst hrow HST hrw hrok
      go_wp2
      go_loopw [7, 9] (fun t i wr => ∃ j : Nat, ∃ S : Int, j ≤ items.length ∧ i = .int .i64 j ∧ t = .int .i64 (T + S) ∧ Hid (S = Sq.sumItems cols row (items.take j)) ∧ -(100000000000 * (j : Int)) ≤ S ∧ S ≤ 100000000000 * (j : Int) ∧ Below wo.heap.size wo wr) (fun _ i _ => items.length - (intOf i).toNat)
      case atStart => exact ⟨0, 0, Nat.zero_le _, rfl, by simp, rfl, by decide, by decide, Below.refl _ _⟩
      case round =>
        obtain ⟨j, S, hj, rfl, rfl, HSS, hS0, hS1, hb2⟩ := hrel
        have hbw : Below w.heap.size w wr := hb.trans (hb2.mono hzw)
        have hz2 := hb2.size
        have c0' := ((bcell hb2).1 g k hg).trans c0
        by_cases hjt : j < items.length
        · obtain ⟨q, cap'', hv, hq, d0⟩ := (HS.out.below hbw).at j hjt
          simp only [Value.slice.injEq] at hv
          obtain ⟨rfl, -, rfl⟩ := hv
          have hst := Sq.sumItems_take cols row items j hjt
          obtain ⟨nm, hnm⟩ : ∃ x, x = items[j] := ⟨_, rfl⟩
          rw [← hnm] at hst d0
          have hcok := Sq.cellOf_ok cols row nm HROK.out
          obtain ⟨cx, hcx⟩ : ∃ x, x = Sq.cellOf cols row nm := ⟨_, rfl⟩
          rw [← hcx] at hst hcok
          have HCX := hd hcx
          have HSI := hd hst
          obtain ⟨ck, cn, ct⟩ := cx
          obtain ⟨hc1, hc2, -⟩ := hcok
          dsimp only at hc1 hc2
          clear hst hnm hcx
          go_wp2
          go_region_with (go_at_call 98; refine (cellOf_any cols row cv _ nm _ (H.out.below hbw.drew) ((HROW.out.below hb2).below (Below.drew (Below.refl _ _)))).mono ?_; rintro e w2 ⟨rfl, hb3⟩; rw [← HCX.out]; unfold Sq.Val.cells; have hfl := run_field_num ck cn ct w2)
          all_goals
            have hb3' : Below wr.heap.size wr w2 := (Below.drew (Below.refl _ _)).trans hb3
            have HB3 := hd (hb2.trans (hb3'.mono hz2))
            clear hb3 hb3'
            go_wp2
            go_roundw
            case rel => exact ⟨j + 1, S + cn, by omega, by go_num, by go_num, by show _ = _; rw [HSI.out, ← HSS.out], by omega, by omega, HB3.out⟩
            case measure => simp [intOf]; omega
        · have hjl : items.take j = items := List.take_of_length_le (by omega)
          have HE : Hid (T + S = Sq.sumRows cols items (rows.take (k + 1))) := by show _ = _; rw [HST2.out, ← HTT.out, HSS.out, hjl]
          clear hjl
          go_wp2
          go_roundw
          case rel => exact ⟨k + 1, T + S, by omega, by go_num, rfl, HE, by omega, by omega, hbw⟩
          case measure => simp [intOf]; omega
    · have hkl : rows.take k = rows := List.take_of_length_le (by omega)
      have HE : Hid (T = Sq.sumRows cols items rows) := by show _ = _; rw [HTT.out, hkl]
      have hsz := itoa_size T (by omega) (by omega)
      clear hkl
      go_wp2_with fail
      refine (formatInt_any T _ (by omega) (by omega) (HT.out.below hb)).mono ?_
      rintro e w1 ⟨rfl, hb1⟩
      go_wp2
      go_ret
      exact ⟨by rw [← HE.out]; rfl, hb.trans (hb1.mono hzw)⟩

end Go.Proofs.YtamkfbelpfpjcaaGreatDoor
