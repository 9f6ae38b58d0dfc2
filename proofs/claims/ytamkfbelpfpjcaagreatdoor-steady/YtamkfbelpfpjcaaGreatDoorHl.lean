import Derived.Test.YtamkfbelpfpjcaaGreatDoorHk
import Derived.Test.YtamkfbelpfpjcaaGreatDoorHi
import Derived.Test.YtamkfbelpfpjcaaGreatDoorHf
set_option linter.unusedVariables false
set_option linter.unusedSimpArgs false

namespace Go.Proofs.YtamkfbelpfpjcaaGreatDoor
open Go.RowKit

/-- The outcome of a create, told the tables and how many entries there are. -/
def Sq.createN (ts : List Sq.TabN) (size : Int) (st : Sq.PSt) : Sq.Out :=
  if (Sq.findN st.table ts).isSome then Sq.refused 5
  else if 4 < st.cols.length then Sq.refused 6
  else if Sq.twoOf st.cols then Sq.refused 5
  else if 5 ≤ ts.length then Sq.refused 10
  else if 60 ≤ size then Sq.refused 10
  else ⟨Sq.counted 0, true, st.table, st.cols, 0, [], []⟩

set_option maxRecDepth 100000 in
set_option maxHeartbeats 2000000 in
theorem ecreate_any (l : List (Sq.TabN × Value)) (lv : Value) (size : Int) (st : Sq.PSt) (r : Rw) (w : World) (h : TabsOwn 0 w lv l) (hs : StmAt w st r) (hT : Tbl w) :
    Calls Tryz.prog 24 #[lv, .int .i64 size, .agg (stmCells st r)] w (OutPost w (Sq.createN (l.map Prod.fst) size st)) := by
  obtain ⟨cvx, vvx, svx, ivx, wvx⟩ := r
  obtain ⟨q5, c5, hcv⟩ := ownsRow_slice hs.cols.1
  obtain ⟨q6, c6, hvv⟩ := ownsRow_slice hs.vals
  obtain ⟨q7, c7, hsv⟩ := ownsRow_slice hs.sets.1
  obtain ⟨q9, c9, hiv⟩ := ownsRow_slice hs.items.1
  obtain ⟨q10, c10, hwv⟩ := ownsRow_slice hs.wher
  dsimp only at hcv hvv hsv hiv hwv
  subst hcv hvv hsv hiv hwv
  unfold stmCells
  obtain ⟨lo, lcap, rfl⟩ := ownsRow_slice h.own
  have hlf := h.few
  have HE : Hid (Sq.createN (l.map Prod.fst) size st = if (Sq.findN st.table (l.map Prod.fst)).isSome then Sq.refused 5
    else if 4 < st.cols.length then Sq.refused 6
    else if Sq.twoOf st.cols then Sq.refused 5
    else if 5 ≤ (l.map Prod.fst).length then Sq.refused 10
    else if 60 ≤ size then Sq.refused 10
    else ⟨Sq.counted 0, true, st.table, st.cols, 0, [], []⟩) := rfl
  have hE := HE.out
  rw [List.length_map] at hE
  have hcl := hs.cols.2
  have HK : Hid (∀ w', Below w.heap.size w w' → Calls Tryz.prog 26 #[.slice lo l.length lcap, .string st.table] w' (FindPost w' (Sq.findN st.table (l.map Prod.fst)))) := fun w' hb => FindTab_any l _ _ w' (h.below hb)
  have hk := HK.out
  clear HE HK h
  generalize Sq.findN st.table (l.map Prod.fst) = fo at *
  generalize Sq.createN (l.map Prod.fst) size st = out at *
  have HE2 := hd hE
  have HK := hd hk
  have HS := hd hs
  have HT := hd hT
  clear hE hk hs hT
  obtain ⟨W, hW⟩ : ∃ W : World, W = (w.alloc (.cells #[.int .i64 st.act, .string st.table, .slice q5 st.cols.length c5, .slice q6 st.vals.length c6, .slice q7 st.sets.length c7, .int .i64 st.shw, .slice q9 st.items.length c9, .slice q10 st.wher.length c10] 65)).alloc (.cells #[.string ⟨#[]⟩, .bool false, .string ⟨#[]⟩, .slice none 0 0, .int .i64 0, .slice none 0 0, .slice none 0 0] 56) := ⟨_, rfl⟩
  obtain ⟨hbW, hbox, hbo⟩ := two_stores hW
  have hzW := lt_blk hbo
  have HBW := hd hbW
  have HBO : Hid (W.heap[w.heap.size + 1]? = some (.cells out0 56)) := hbo
  have HBOX := hd hbox
  clear hbW hbo hbox
  go_enter Tryz.func24, Tryz.ntmps24
  go_wp2_with fail
  rw [← hW]
  clear hW
  refine (HK.out _ HBW.out).mono ?_
  rintro e w1 ⟨cvf, rfl, hcf, hb1⟩
  obtain ⟨fao, fcap, rfl⟩ := ownsRow_slice hcf.1
  have hbx := (hb1.block w.heap.size (by omega)).trans HBOX.out
  have b1 : w1.cell? ⟨w.heap.size, 1, none⟩ = some (.string st.table) := by rw [cell_blk hbx]; rfl
  have b2 : w1.cell? ⟨w.heap.size, 2, none⟩ = some (.slice q5 st.cols.length c5) := by rw [cell_blk hbx]; rfl
  have hz1 := lt_blk hbx
  have hz2 := hb1.size
  have HBA : Hid (∀ o, Below w.heap.size w (w1.alloc o)) := fun o => (HBW.out.trans (hb1.mono (by omega))).alloc (by omega) o
  have HBLK : Hid (∀ o, (w1.alloc o).heap[w.heap.size + 1]? = some (.cells out0 56)) := fun o => (alloc_lt (by omega) o).trans ((hb1.block (w.heap.size + 1) (by omega)).trans HBO.out)
  generalize (fo.getD Sq.noTab) = ft at *
  obtain ⟨fn, fm, fc⟩ := ft
  simp only at hcf ⊢
  clear hb1 hbx hcf HK HBO HBOX
  generalize fo.isSome = fb at *
  cases fb
  case true =>
    have HE3 : Hid (out = Sq.refused 5) := by show _ = _; rw [HE2.out]; rfl
    go_wp2_with fail
    refine (refused_any 5 _ (by omega) (by omega) (HT.out.below (HBA.out _))).mono ?_
    rintro e w9 ⟨rfl, hb9⟩
    have hblk9 := (hb9.block (w.heap.size + 1) (by simp; omega)).trans (HBLK.out _)
    obtain ⟨d0, d1, d2, d3, d4, d5, d6⟩ := seven_cells hblk9
    obtain ⟨f0, f1, f2, f3, f4, f5, f6⟩ := seven_frozen hblk9
    have hz10 := lt_blk hblk9
    have HB9 := hd ((HBA.out _).trans (hb9.mono (by simp; omega)))
    clear hb9 hblk9
    unfold outCells
    go_wp2
    refine bodyPost_ret (v := .agg (outCells (Sq.refused 5) (.slice none 0 0) (.slice none 0 0) (.slice none 0 0))) (by simp [results, Tryz.results24, go_sem, outCells, *]) rfl ⟨_, _, _, by rw [HE3.out], by rw [HE3.out]; exact OutAt.none _ _ rfl rfl rfl, ?_⟩
    exact set7_below HB9.out (by omega) _ _ _ _ _ _ _
  case false =>
    by_cases h1 : 4 < st.cols.length
    · have HE3 : Hid (out = Sq.refused 6) := by show _ = _; rw [HE2.out, if_neg (by decide), if_pos h1]
      go_wp2_with fail
      refine (refused_any 6 _ (by omega) (by omega) (HT.out.below (HBA.out _))).mono ?_
      rintro e w9 ⟨rfl, hb9⟩
      have hblk9 := (hb9.block (w.heap.size + 1) (by simp; omega)).trans (HBLK.out _)
      obtain ⟨d0, d1, d2, d3, d4, d5, d6⟩ := seven_cells hblk9
      obtain ⟨f0, f1, f2, f3, f4, f5, f6⟩ := seven_frozen hblk9
      have hz10 := lt_blk hblk9
      have HB9 := hd ((HBA.out _).trans (hb9.mono (by simp; omega)))
      clear hb9 hblk9
      unfold outCells
      go_wp2
      refine bodyPost_ret (v := .agg (outCells (Sq.refused 6) (.slice none 0 0) (.slice none 0 0) (.slice none 0 0))) (by simp [results, Tryz.results24, go_sem, outCells, *]) rfl ⟨_, _, _, by rw [HE3.out], by rw [HE3.out]; exact OutAt.none _ _ rfl rfl rfl, ?_⟩
      exact set7_below HB9.out (by omega) _ _ _ _ _ _ _
    · go_wp2_with fail
      refine (twoOf_any st.cols _ _ (HS.out.cols.below (HBA.out _))).mono ?_
      rintro e w2 ⟨rfl, hw2⟩
      rw [hw2]
      clear hw2 w2
      cases h2 : Sq.twoOf st.cols
      case true =>
        have HE3 : Hid (out = Sq.refused 5) := by show _ = _; rw [HE2.out, if_neg (by decide), if_neg h1, h2]; rfl
        go_wp2_with fail
        refine (refused_any 5 _ (by omega) (by omega) (HT.out.below (HBA.out _))).mono ?_
        rintro e w9 ⟨rfl, hb9⟩
        have hblk9 := (hb9.block (w.heap.size + 1) (by simp; omega)).trans (HBLK.out _)
        obtain ⟨d0, d1, d2, d3, d4, d5, d6⟩ := seven_cells hblk9
        obtain ⟨f0, f1, f2, f3, f4, f5, f6⟩ := seven_frozen hblk9
        have hz10 := lt_blk hblk9
        have HB9 := hd ((HBA.out _).trans (hb9.mono (by simp; omega)))
        clear hb9 hblk9
        unfold outCells
        go_wp2
        refine bodyPost_ret (v := .agg (outCells (Sq.refused 5) (.slice none 0 0) (.slice none 0 0) (.slice none 0 0))) (by simp [results, Tryz.results24, go_sem, outCells, *]) rfl ⟨_, _, _, by rw [HE3.out], by rw [HE3.out]; exact OutAt.none _ _ rfl rfl rfl, ?_⟩
        exact set7_below HB9.out (by omega) _ _ _ _ _ _ _
      case false =>
        by_cases h3 : 5 ≤ l.length
        · have HE3 : Hid (out = Sq.refused 10) := by show _ = _; rw [HE2.out, if_neg (by decide), if_neg h1, h2, if_neg (by decide), if_pos h3]
          go_wp2_with fail
          refine (refused_any 10 _ (by omega) (by omega) (HT.out.below (HBA.out _))).mono ?_
          rintro e w9 ⟨rfl, hb9⟩
          have hblk9 := (hb9.block (w.heap.size + 1) (by simp; omega)).trans (HBLK.out _)
          obtain ⟨d0, d1, d2, d3, d4, d5, d6⟩ := seven_cells hblk9
          obtain ⟨f0, f1, f2, f3, f4, f5, f6⟩ := seven_frozen hblk9
          have hz10 := lt_blk hblk9
          have HB9 := hd ((HBA.out _).trans (hb9.mono (by simp; omega)))
          clear hb9 hblk9
          unfold outCells
          go_wp2
          refine bodyPost_ret (v := .agg (outCells (Sq.refused 10) (.slice none 0 0) (.slice none 0 0) (.slice none 0 0))) (by simp [results, Tryz.results24, go_sem, outCells, *]) rfl ⟨_, _, _, by rw [HE3.out], by rw [HE3.out]; exact OutAt.none _ _ rfl rfl rfl, ?_⟩
          exact set7_below HB9.out (by omega) _ _ _ _ _ _ _
        · by_cases h4 : 60 ≤ size
          · have HE3 : Hid (out = Sq.refused 10) := by show _ = _; rw [HE2.out, if_neg (by decide), if_neg h1, h2, if_neg (by decide), if_neg h3, if_pos h4]
            go_wp2_with fail
            refine (refused_any 10 _ (by omega) (by omega) (HT.out.below (HBA.out _))).mono ?_
            rintro e w9 ⟨rfl, hb9⟩
            have hblk9 := (hb9.block (w.heap.size + 1) (by simp; omega)).trans (HBLK.out _)
            obtain ⟨d0, d1, d2, d3, d4, d5, d6⟩ := seven_cells hblk9
            obtain ⟨f0, f1, f2, f3, f4, f5, f6⟩ := seven_frozen hblk9
            have hz10 := lt_blk hblk9
            have HB9 := hd ((HBA.out _).trans (hb9.mono (by simp; omega)))
            clear hb9 hblk9
            unfold outCells
            go_wp2
            refine bodyPost_ret (v := .agg (outCells (Sq.refused 10) (.slice none 0 0) (.slice none 0 0) (.slice none 0 0))) (by simp [results, Tryz.results24, go_sem, outCells, *]) rfl ⟨_, _, _, by rw [HE3.out], by rw [HE3.out]; exact OutAt.none _ _ rfl rfl rfl, ?_⟩
            exact set7_below HB9.out (by omega) _ _ _ _ _ _ _
          · have HE3 : Hid (out = ⟨Sq.counted 0, true, st.table, st.cols, 0, [], []⟩) := by show _ = _; rw [HE2.out, if_neg (by decide), if_neg h1, h2, if_neg (by decide), if_neg h3, if_neg h4]
            obtain ⟨V, hV⟩ : ∃ V : World, V = w1.alloc (.cells #[.int .i64 fn, .string fm, .slice fao fc.length fcap] 74) := ⟨_, rfl⟩
            rw [← hV]
            have hbv : Below w1.heap.size w1 V := by rw [hV]; exact (Below.refl _ _).alloc (Nat.le_refl _) _
            have HBW2 : Hid (Below w.heap.size w V) := by show Below _ _ _; rw [hV]; exact HBA.out _
            have HBLK2 : Hid (V.heap[w.heap.size + 1]? = some (.cells out0 56)) := by show _ = _; rw [hV]; exact HBLK.out _
            have b1' := ((bcell hbv).1 w.heap.size 1 hz1).trans b1
            have b2' := ((bcell hbv).1 w.heap.size 2 hz1).trans b2
            have hz3 : w.heap.size < V.heap.size := by have := hbv.size; omega
            have hz4 := lt_blk HBLK2.out
            clear hV hbv b1 b2
            go_wp2
            go_region_with (go_at_call 46; refine (counted_any 0 V.drew (by omega) (by omega) (HT.out.below HBW2.out.drew)).mono ?_; rintro e w9 ⟨rfl, hb9⟩; have hb9' : Below V.heap.size V w9 := (Below.drew (Below.refl _ _)).trans hb9; have hblk9 := (hb9'.block (w.heap.size + 1) (by omega)).trans HBLK2.out; obtain ⟨d0, d1, d2, d3, d4, d5, d6⟩ := seven_cells hblk9; obtain ⟨f0, f1, f2, f3, f4, f5, f6⟩ := seven_frozen hblk9; have b1'' := ((bcell hb9').1 w.heap.size 1 hz3).trans b1'; have b2'' := ((bcell hb9').1 w.heap.size 2 hz3).trans b2'; have hz9 := hb9'.size; have hz10 : w.heap.size + 1 < w9.heap.size := (by omega); have hz11 : w.heap.size < w9.heap.size := (by omega); have HB9 := hd hb9'; clear hb9 hb9' hblk9)
            all_goals (try go_wp2_with fail)
            all_goals (refine bodyPost_ret (v := .agg (outCells ⟨Sq.counted 0, true, st.table, st.cols, 0, [], []⟩ (.slice q5 st.cols.length c5) (.slice none 0 0) (.slice none 0 0))) (by simp [results, Tryz.results24, go_sem, outCells, *]) rfl ⟨_, _, _, by rw [HE3.out], ?_, ?_⟩)
            all_goals first
              | exact set7_below (HBW2.out.trans (HB9.out.mono (by omega))) (by omega) _ _ _ _ _ _ _
              | (rw [HE3.out]; exact ⟨HS.out.cols.below (set7_below (HBW2.out.trans (HB9.out.mono (by omega))) (by omega) _ _ _ _ _ _ _), RowsOwn.nil _ _, World.ownsRow_nil _ _ _ _, by simp, by simp⟩)

end Go.Proofs.YtamkfbelpfpjcaaGreatDoor

namespace Go.Proofs.YtamkfbelpfpjcaaGreatDoor

namespace Sq
def metN (cols : List Col) (rows : List (List Val)) (l : List StepS) : List (List Val) := rows.filter fun r => meets cols r l
def decideTabN (x : Tree) (t : TabN) (st : PSt) : Out :=
  if check t.cols st != 0 then refused (check t.cols st)
  else if st.act == 2 then insertN x t.number st.vals
  else if st.act == 3 then updateN t.number t.cols (metN t.cols (rowsOf x t) st.wher) st.sets
  else if st.act == 4 then removeN t.number (metN t.cols (rowsOf x t) st.wher)
  else ⟨showN t.cols (metN t.cols (rowsOf x t) st.wher) st, false, nobytes, [], 0, [], []⟩
def decideStN (x : Tree) (st : PSt) : Out :=
  if st.act == 1 then createN (tabsOf x) (ents x.d x.t).length st
  else match findN st.table (tabsOf x) with
    | some t => decideTabN x t st
    | none => refused 4
def decideN (x : Tree) (sql : ByteArray) : Out := if (parse sql).1 != 0 then refused (parse sql).1 else decideStN x (parse sql).2
def madeN (x : Tree) (o : Out) : Tree := if o.makes then x.make o.name o.cols else x
def putsN (tb : Int) (x : Tree) (puts : List (List Val)) : Tree := puts.foldl (fun x r => x.put ⟨placeOf tb (keyOf r), ofCells r⟩) x
def cutsN (tb : Int) (x : Tree) (cuts : List Int) : Tree := cuts.foldl (fun x k => x.del (placeOf tb k)) x
def applyN (x : Tree) (o : Out) : Tree := cutsN o.table (putsN o.table (madeN x o) o.puts) o.cuts
def afterN (x : Tree) (sql : ByteArray) : Tree := applyN x (decideN x sql)
def runN (x : Tree) : List ByteArray → Tree
  | [] => x
  | s :: r => runN (afterN x s) r
end Sq

end Go.Proofs.YtamkfbelpfpjcaaGreatDoor

namespace Go.Proofs.YtamkfbelpfpjcaaGreatDoor

/-- What is read out of a text is small. -/
structure Sq.okStm (st : Sq.PSt) : Prop where
  cols : st.cols.length ≤ 1000
  vals : st.vals.length ≤ 1000
  sets : st.sets.length ≤ 1000
  items : st.items.length ≤ 1000
  wher : st.wher.length ≤ 1000
  okv : ∀ v ∈ st.vals, Sq.okVal v
  oks : ∀ s ∈ st.sets, Sq.okSet s

theorem Sq.checkValuesFrom_bd : ∀ (v : List Sq.Val) (c : List Sq.Col), 0 ≤ Sq.checkValuesFrom v c ∧ Sq.checkValuesFrom v c ≤ 10
  | [], _ => ⟨by simp [Sq.checkValuesFrom], by simp [Sq.checkValuesFrom]⟩
  | _ :: _, [] => ⟨by simp [Sq.checkValuesFrom], by simp [Sq.checkValuesFrom]⟩
  | v :: r, c :: q => by
    rw [Sq.checkValuesFrom]
    split
    · exact ⟨by decide, by decide⟩
    · exact Sq.checkValuesFrom_bd r q
theorem Sq.checkSum_bd (cols : List Sq.Col) (t : Int) (s : Sq.SetS) : 0 ≤ Sq.checkSum cols t s ∧ Sq.checkSum cols t s ≤ 10 := by
  unfold Sq.checkSum
  repeat' split
  all_goals exact ⟨by decide, by decide⟩
theorem Sq.checkSet_bd (cols : List Sq.Col) (e : List Sq.SetS) (s : Sq.SetS) : 0 ≤ Sq.checkSet cols e s ∧ Sq.checkSet cols e s ≤ 10 := by
  unfold Sq.checkSet
  split
  · split
    · exact ⟨by decide, by decide⟩
    · split
      · exact ⟨by decide, by decide⟩
      · split
        · exact ⟨by decide, by decide⟩
        · exact Sq.checkSum_bd _ _ _
  · exact ⟨by decide, by decide⟩
theorem Sq.checkSetsFrom_bd (cols : List Sq.Col) : ∀ (r e : List Sq.SetS), 0 ≤ Sq.checkSetsFrom cols e r ∧ Sq.checkSetsFrom cols e r ≤ 10
  | [], _ => ⟨by simp [Sq.checkSetsFrom], by simp [Sq.checkSetsFrom]⟩
  | s :: r, e => by
    rw [Sq.checkSetsFrom]
    split
    · exact Sq.checkSet_bd _ _ _
    · exact Sq.checkSetsFrom_bd cols r _
theorem Sq.checkItemsFrom_bd (cols : List Sq.Col) (x : Int) : ∀ l : List ByteArray, 0 ≤ Sq.checkItemsFrom cols x l ∧ Sq.checkItemsFrom cols x l ≤ 10
  | [] => ⟨by simp [Sq.checkItemsFrom], by simp [Sq.checkItemsFrom]⟩
  | n :: r => by
    rw [Sq.checkItemsFrom]
    split
    · exact ⟨by decide, by decide⟩
    · split
      · exact ⟨by decide, by decide⟩
      · exact Sq.checkItemsFrom_bd cols x r
theorem Sq.checkWhereFrom_bd (cols : List Sq.Col) : ∀ l : List Sq.StepS, 0 ≤ Sq.checkWhereFrom cols l ∧ Sq.checkWhereFrom cols l ≤ 10
  | [] => ⟨by simp [Sq.checkWhereFrom], by simp [Sq.checkWhereFrom]⟩
  | s :: r => by
    have ih := Sq.checkWhereFrom_bd cols r
    rw [Sq.checkWhereFrom]
    repeat' split
    all_goals first | exact ih | exact ⟨by decide, by decide⟩
theorem Sq.check_bd (cols : List Sq.Col) (st : Sq.PSt) : 0 ≤ Sq.check cols st ∧ Sq.check cols st ≤ 10 := by
  have h1 : 0 ≤ Sq.checkAct cols st ∧ Sq.checkAct cols st ≤ 10 := by
    unfold Sq.checkAct Sq.checkValues Sq.checkSets
    repeat' split
    all_goals first | exact Sq.checkValuesFrom_bd _ _ | exact Sq.checkSetsFrom_bd _ _ _ | exact Sq.checkItemsFrom_bd _ _ _ | exact ⟨by decide, by decide⟩
  unfold Sq.check
  split
  · exact h1
  · exact Sq.checkWhereFrom_bd _ _
theorem Sq.parse_bd (s : ByteArray) : 0 ≤ (Sq.parse s).1 ∧ (Sq.parse s).1 ≤ 3 := by
  unfold Sq.parse
  split
  · exact ⟨by decide, by decide⟩
  · split
    · exact ⟨by decide, by decide⟩
    · split <;> exact ⟨by simp, by simp⟩

/-- What Decide asks of the tree. -/
structure Sq.fit (x : Sq.Tree) : Prop where
  ok : x.ok
  few : (Sq.ents x.d x.t).length ≤ 100
  rows : ∀ e ∈ Sq.ents x.d x.t, e.row.size ≤ 1000 ∧ 0 ≤ e.place
  tabs : ∀ t ∈ Sq.tabsOf x, 0 ≤ t.number ∧ t.number ≤ 100000
theorem Sq.entsOf_sub {x : Sq.Tree} (h : x.ok) (t : Int) : (Sq.entsOf x t).Sublist (Sq.ents x.d x.t) := by
  unfold Sq.entsOf
  rw [Sq.btw_all x.d x.t _ _ h.kids h.sorted]
  exact List.filter_sublist
theorem Sq.tabsOf_cols {x : Sq.Tree} : ∀ t ∈ Sq.tabsOf x, t.cols.length ≤ 4 := by
  intro t ht
  unfold Sq.tabsOf at ht
  obtain ⟨e, -, he⟩ := List.mem_filterMap.1 ht
  unfold Sq.tabOf at he
  cases hx : Sq.toTable e.row with
  | none => rw [hx] at he; cases he
  | some y => rw [hx] at he; simp at he; subst he; exact Sq.toTable_cols hx
theorem Sq.rowsOf_ok {x : Sq.Tree} (h : Sq.fit x) (t : Sq.TabN) : ∀ r ∈ Sq.rowsOf x t, Sq.okRow r := by
  intro r hr
  unfold Sq.rowsOf at hr
  obtain ⟨e, he, hx⟩ := List.mem_filterMap.1 hr
  have h1 := h.rows e ((Sq.entsOf_sub h.ok _).subset he)
  unfold Sq.rowOf Sq.toCells at hx
  split at hx
  · cases hx
    have hk := Sq.keyAt_bd e.place
    intro v hv
    have := Sq.cellsR_ok (t.cols.drop 1) ⟨[⟨0, Sq.keyAt e.place, Sq.nobytes⟩], ⟨e.row, false⟩, true⟩ h1.1 (by
      intro u hu
      rw [List.mem_singleton] at hu
      subst hu
      exact ⟨by show Sq.nobytes.size ≤ 1000; decide, by show _ ≤ Sq.keyAt e.place; omega, by show Sq.keyAt e.place ≤ _; omega⟩) v hv
    exact ⟨this.2.1, this.2.2, this.1⟩
  · cases hx
theorem Sq.rowsOf_len {x : Sq.Tree} (h : Sq.fit x) (t : Sq.TabN) : (Sq.rowsOf x t).length ≤ 100 := by
  have h1 := h.few
  have h2 := (Sq.entsOf_sub h.ok t.number).length_le
  have h3 : (Sq.rowsOf x t).length ≤ (Sq.entsOf x t.number).length := List.length_filterMap_le _ _
  omega

theorem Sq.putsN_snoc (tb : Int) (x : Sq.Tree) (l : List (List Sq.Val)) (k : Nat) (h : k < l.length) : Sq.putsN tb x (l.take (k + 1)) = (Sq.putsN tb x (l.take k)).put ⟨Sq.placeOf tb (Sq.keyOf l[k]), Sq.ofCells l[k]⟩ := by
  unfold Sq.putsN
  rw [List.take_succ_eq_append_getElem h, List.foldl_append]
  rfl
theorem Sq.cutsN_snoc (tb : Int) (x : Sq.Tree) (l : List Int) (k : Nat) (h : k < l.length) : Sq.cutsN tb x (l.take (k + 1)) = (Sq.cutsN tb x (l.take k)).del (Sq.placeOf tb l[k]) := by
  unfold Sq.cutsN
  rw [List.take_succ_eq_append_getElem h, List.foldl_append]
  rfl
theorem Sq.putsN_ok (tb : Int) : ∀ (l : List (List Sq.Val)) (x : Sq.Tree), x.ok → (Sq.putsN tb x l).ok ∧ (Sq.putsN tb x l).ents.length ≤ x.ents.length + l.length
  | [], x, h => ⟨h, Nat.le_refl _⟩
  | r :: q, x, h => by
    have h1 := Sq.put_tree h ⟨Sq.placeOf tb (Sq.keyOf r), Sq.ofCells r⟩
    have h2 := Sq.ins_len h.sorted ⟨Sq.placeOf tb (Sq.keyOf r), Sq.ofCells r⟩
    have h3 := Sq.putsN_ok tb q _ h1.1
    have h4 := h3.2
    rw [h1.2] at h4
    refine ⟨h3.1, ?_⟩
    show (Sq.putsN tb (x.put ⟨Sq.placeOf tb (Sq.keyOf r), Sq.ofCells r⟩) q).ents.length ≤ _
    simp only [List.length_cons]
    have h5 : (Sq.ins x.ents ⟨Sq.placeOf tb (Sq.keyOf r), Sq.ofCells r⟩).length ≤ x.ents.length + 1 := h2.2
    omega
theorem Sq.cutsN_ok (tb : Int) : ∀ (l : List Int) (x : Sq.Tree), x.ok → (Sq.cutsN tb x l).ok ∧ (Sq.cutsN tb x l).ents.length ≤ x.ents.length
  | [], x, h => ⟨h, Nat.le_refl _⟩
  | r :: q, x, h => by
    have h1 := Sq.del_tree h (Sq.placeOf tb r)
    have h3 := Sq.cutsN_ok tb q _ h1.1
    have h4 := h3.2
    rw [h1.2] at h4
    exact ⟨h3.1, Nat.le_trans h4 (List.length_filter_le _ _)⟩
/-- What Apply asks of the tree and the outcome. -/
structure Sq.fitO (x : Sq.Tree) (o : Sq.Out) : Prop where
  ok : x.ok
  few : (Sq.ents x.d x.t).length + 1 + o.puts.length ≤ 500
  tab0 : 0 ≤ o.table
  tab1 : o.table ≤ 100000
  puts : ∀ r ∈ o.puts, r.length ≤ 1000 ∧ ∀ v ∈ r, v.text.size ≤ 1000 ∧ -100000000000 ≤ v.number ∧ v.number ≤ 100000000000
  cuts : ∀ k ∈ o.cuts, -100000000000 ≤ k ∧ k ≤ 100000000000
  make : o.makes = true → (∀ e ∈ Sq.ents x.d x.t, e.row.size ≤ 1000 ∧ 0 ≤ e.place) ∧ o.cols.length ≤ 1000 ∧ o.name.size ≤ 1000 ∧ ∀ c ∈ o.cols, c.name.size ≤ 1000


end Go.Proofs.YtamkfbelpfpjcaaGreatDoor
