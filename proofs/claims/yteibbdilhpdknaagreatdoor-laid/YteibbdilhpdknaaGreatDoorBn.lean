import Derived.Test.YteibbdilhpdknaaGreatDoorBm
set_option linter.unusedVariables false
set_option linter.unusedSimpArgs false

namespace Go.Proofs.YteibbdilhpdknaaGreatDoor
open Go.RowKit

def Sq.decideTab (db : List Sq.Tab) (t : Sq.Tab) (at_ : Int) (st : Sq.PSt) : Sq.Out :=
  if Sq.check t.cols st != 0 then Sq.refused (Sq.check t.cols st)
  else if st.act == 2 then Sq.insert t at_ (Sq.dbSize db) st.vals
  else if st.act == 3 then Sq.update t at_ st
  else if st.act == 4 then Sq.remove t at_ st.wher
  else ⟨Sq.show t st, false, Sq.nobytes, [], 0, [], []⟩
def Sq.decideSt (db : List Sq.Tab) (st : Sq.PSt) : Sq.Out :=
  if st.act == 1 then Sq.create db st
  else match db[(Sq.findTab db st.table).toNat]? with
    | some t => if Sq.findTab db st.table < 0 then Sq.refused 4 else Sq.decideTab db t (Sq.findTab db st.table) st
    | none => Sq.refused 4
def Sq.decide (db : List Sq.Tab) (sql : ByteArray) : Sq.Out := if (Sq.parse sql).1 != 0 then Sq.refused (Sq.parse sql).1 else Sq.decideSt db (Sq.parse sql).2

structure Sq.okTab (t : Sq.Tab) : Prop where
  rows : t.rows.length ≤ 1000
  cols : t.cols.length ≤ 1000
  ok : ∀ r ∈ t.rows, Sq.okRow r
structure Sq.okDB (db : List Sq.Tab) : Prop where
  few : db.length ≤ 1000
  each : ∀ t ∈ db, Sq.okTab t
/-- What is read out of a text is small. -/
structure Sq.okStm (st : Sq.PSt) : Prop where
  cols : st.cols.length ≤ 1000
  vals : st.vals.length ≤ 1000
  sets : st.sets.length ≤ 1000
  items : st.items.length ≤ 1000
  wher : st.wher.length ≤ 1000
  okv : ∀ v ∈ st.vals, Sq.okVal v
  oks : ∀ s ∈ st.sets, Sq.okSet s

theorem OutAt.out {w w' : World} {rb : Nat} {o : Sq.Out} {cv pv kv : Value} {c : Array Value} {fr : Nat × Nat} (h : OutAt w o cv pv kv) (hb : w.heap[rb]? = some (.cells c 66 fr)) (ho : ∀ g, g ≠ rb → w'.heap[g]? = w.heap[g]?) : OutAt w' o cv pv kv :=
  ⟨h.cols.out hb (by decide) ho, h.puts.out hb (by decide) (by decide) ho, ownsRow_out h.cuts hb (by decide) ho, h.nputs, h.ncuts⟩
theorem refusedP_any (n : Int) (w : World) (h0 : 0 ≤ n) (h1 : n ≤ 1000000) (hT : Tbl w) : Calls Tryz.prog 35 #[.int .i64 n] w (OutPost w (Sq.refused n)) := by
  refine (refused_any n w h0 h1 hT).mono ?_
  rintro e w' ⟨rfl, hb⟩
  exact ⟨_, _, _, rfl, OutAt.none _ _ rfl rfl rfl, hb⟩

theorem Sq.checkValuesFrom_bd : ∀ (v : List Sq.Val) (c : List Sq.Col), 0 ≤ Sq.checkValuesFrom v c ∧ Sq.checkValuesFrom v c ≤ 10
  | [], _ => ⟨by simp [Sq.checkValuesFrom], by simp [Sq.checkValuesFrom]⟩
  | _ :: _, [] => ⟨by simp [Sq.checkValuesFrom], by simp [Sq.checkValuesFrom]⟩
  | v :: r, c :: q => by
    rw [Sq.checkValuesFrom]
    split
    · exact ⟨by decide, by decide⟩
    · exact Sq.checkValuesFrom_bd r q
theorem Sq.checkSum_bd (cols : List Sq.Col) (t : Int) (s : Sq.SetS) : 0 ≤ Sq.checkSum cols t s ∧ Sq.checkSum cols t s ≤ 10 := by
  unfold Sq.checkSum
  repeat' split
  all_goals exact ⟨by decide, by decide⟩
theorem Sq.checkSet_bd (cols : List Sq.Col) (e : List Sq.SetS) (s : Sq.SetS) : 0 ≤ Sq.checkSet cols e s ∧ Sq.checkSet cols e s ≤ 10 := by
  unfold Sq.checkSet
  split
  · split
    · exact ⟨by decide, by decide⟩
    · split
      · exact ⟨by decide, by decide⟩
      · split
        · exact ⟨by decide, by decide⟩
        · exact Sq.checkSum_bd _ _ _
  · exact ⟨by decide, by decide⟩
theorem Sq.checkSetsFrom_bd (cols : List Sq.Col) : ∀ (r e : List Sq.SetS), 0 ≤ Sq.checkSetsFrom cols e r ∧ Sq.checkSetsFrom cols e r ≤ 10
  | [], _ => ⟨by simp [Sq.checkSetsFrom], by simp [Sq.checkSetsFrom]⟩
  | s :: r, e => by
    rw [Sq.checkSetsFrom]
    split
    · exact Sq.checkSet_bd _ _ _
    · exact Sq.checkSetsFrom_bd cols r _
theorem Sq.checkItemsFrom_bd (cols : List Sq.Col) (x : Int) : ∀ l : List ByteArray, 0 ≤ Sq.checkItemsFrom cols x l ∧ Sq.checkItemsFrom cols x l ≤ 10
  | [] => ⟨by simp [Sq.checkItemsFrom], by simp [Sq.checkItemsFrom]⟩
  | n :: r => by
    rw [Sq.checkItemsFrom]
    split
    · exact ⟨by decide, by decide⟩
    · split
      · exact ⟨by decide, by decide⟩
      · exact Sq.checkItemsFrom_bd cols x r
theorem Sq.checkWhereFrom_bd (cols : List Sq.Col) : ∀ l : List Sq.StepS, 0 ≤ Sq.checkWhereFrom cols l ∧ Sq.checkWhereFrom cols l ≤ 10
  | [] => ⟨by simp [Sq.checkWhereFrom], by simp [Sq.checkWhereFrom]⟩
  | s :: r => by
    have ih := Sq.checkWhereFrom_bd cols r
    rw [Sq.checkWhereFrom]
    repeat' split
    all_goals first | exact ih | exact ⟨by decide, by decide⟩
theorem Sq.check_bd (cols : List Sq.Col) (st : Sq.PSt) : 0 ≤ Sq.check cols st ∧ Sq.check cols st ≤ 10 := by
  have h1 : 0 ≤ Sq.checkAct cols st ∧ Sq.checkAct cols st ≤ 10 := by
    unfold Sq.checkAct Sq.checkValues Sq.checkSets
    repeat' split
    all_goals first | exact Sq.checkValuesFrom_bd _ _ | exact Sq.checkSetsFrom_bd _ _ _ | exact Sq.checkItemsFrom_bd _ _ _ | exact ⟨by decide, by decide⟩
  unfold Sq.check
  split
  · exact h1
  · exact Sq.checkWhereFrom_bd _ _
theorem Sq.parse_bd (s : ByteArray) : 0 ≤ (Sq.parse s).1 ∧ (Sq.parse s).1 ≤ 3 := by
  unfold Sq.parse
  split
  · exact ⟨by decide, by decide⟩
  · split
    · exact ⟨by decide, by decide⟩
    · split <;> exact ⟨by simp, by simp⟩

theorem stm_cells {w : World} {b : Nat} {x0 x1 x2 x3 x4 x5 x6 x7 : Value} (h : w.heap[b]? = some (.cells #[x0, x1, x2, x3, x4, x5, x6, x7] 86)) :
    w.cell? ⟨b, 0, none⟩ = some x0 ∧ w.cell? ⟨b, 1, none⟩ = some x1 ∧ w.cell? ⟨b, 2, none⟩ = some x2 ∧ w.cell? ⟨b, 3, none⟩ = some x3 ∧ w.cell? ⟨b, 4, none⟩ = some x4 ∧ w.cell? ⟨b, 5, none⟩ = some x5 ∧ w.cell? ⟨b, 6, none⟩ = some x6 ∧ w.cell? ⟨b, 7, none⟩ = some x7 :=
  ⟨by rw [cell_blk h]; rfl, by rw [cell_blk h]; rfl, by rw [cell_blk h]; rfl, by rw [cell_blk h]; rfl, by rw [cell_blk h]; rfl, by rw [cell_blk h]; rfl, by rw [cell_blk h]; rfl, by rw [cell_blk h]; rfl⟩
theorem StmAt.of {B : Nat} {w : World} {st : Sq.PSt} {r : Rw} (h : Stm B w st r) (hk : Sq.okStm st) : StmAt w st r := by
  obtain ⟨h1, h2, h3, h4, h5⟩ := h
  have k1 := hk.cols
  have k2 := hk.vals
  have k3 := hk.sets
  have k4 := hk.items
  have k5 := hk.wher
  exact ⟨⟨ownsRow_base h1 (Nat.zero_le _), by omega⟩, ownsRow_base h2 (Nat.zero_le _), by omega, ⟨ownsRow_base h3 (Nat.zero_le _), by omega⟩, ⟨ownsRow_base h4 (Nat.zero_le _), by omega⟩, ownsRow_base h5 (Nat.zero_le _), by omega⟩

set_option maxRecDepth 100000 in
set_option maxHeartbeats 4000000 in
theorem Decide_any (sb : Nat) (db : List Sq.Tab) (sql : ByteArray) (w : World) (h : DB sb w db) (hok : Sq.okDB db) (hT : Tbl w) (hp : Sq.okStm (Sq.parse sql).2) :
    Calls Tryz.prog 29 #[.pointer (some ⟨sb, 0, none⟩), .string sql] w (OutPost w (Sq.decide db sql)) := by
  have HE : Hid (Sq.decide db sql = if (Sq.parse sql).1 != 0 then Sq.refused (Sq.parse sql).1 else Sq.decideSt db (Sq.parse sql).2) := rfl
  have hpb := Sq.parse_bd sql
  have hsb := h.lt
  have H := hd h
  have HT := hd hT
  have HOK := hd hok
  have HK := hd hp
  have hdl := hok.few
  have hW : ∀ o, Below w.heap.size w (w.alloc o) := fun o => (Below.refl _ _).alloc (Nat.le_refl _) _
  have HW := hd hW
  clear h hT hok hp hW
  go_enter Tryz.func29, Tryz.ntmps29
  go_wp2_with fail
  refine (Parse_any sql _).mono ?_
  rintro e w1 ⟨hb1, r, rfl, hst⟩
  have hst2 := StmAt.of hst HK.out
  obtain ⟨st, hste⟩ : ∃ x, x = (Sq.parse sql).2 := ⟨_, rfl⟩
  obtain ⟨pe, hpe⟩ : ∃ x, x = (Sq.parse sql).1 := ⟨_, rfl⟩
  have hE := HE.out
  have hk := HK.out
  rw [← hste] at hst2 hE hk ⊢
  rw [← hpe] at hpb hE ⊢
  clear HE HK
  have HE := hd hE
  have HK := hd hk
  have HS := hd hst2
  have HSTE := hd hste
  have hblk : w1.heap[w.heap.size]? = some (.cells out0 66) := (hb1.block _ (by simp)).trans (alloc_at _ _)
  have hbw : Below w.heap.size w w1 := (HW.out _).trans (hb1.mono (by simp))
  have hz : w.heap.size < w1.heap.size := by have := hb1.size; simp at this; omega
  obtain ⟨cvx, vvx, svx, ivx, wvx⟩ := r
  obtain ⟨q5, c5, hcv⟩ := ownsRow_slice hst2.cols.1
  obtain ⟨q6, c6, hvv⟩ := ownsRow_slice hst2.vals
  obtain ⟨q7, c7, hsv⟩ := ownsRow_slice hst2.sets.1
  obtain ⟨q9, c9, hiv⟩ := ownsRow_slice hst2.items.1
  obtain ⟨q10, c10, hwv⟩ := ownsRow_slice hst2.wher
  dsimp only at hcv hvv hsv hiv hwv
  subst hcv hvv hsv hiv hwv
  obtain ⟨hpb0, hpb1⟩ := hpb
  have HBLK := hd hblk
  have HBW := hd hbw
  clear hb1 hst hst2 hste hpe hE hk hblk hbw
  unfold stmCells
  cases h0 : pe != 0
  case true =>
    have HBWA := hd (Below.alloc (B := w.heap.size) HBW.out (by omega) (.cells #[.int .i64 st.act, .string st.table, .slice q5 st.cols.length c5, .slice q6 st.vals.length c6, .slice q7 st.sets.length c7, .int .i64 st.shw, .slice q9 st.items.length c9, .slice q10 st.wher.length c10] 86))
    have HBLKA := hd ((alloc_lt hz (.cells #[.int .i64 st.act, .string st.table, .slice q5 st.cols.length c5, .slice q6 st.vals.length c6, .slice q7 st.sets.length c7, .int .i64 st.shw, .slice q9 st.items.length c9, .slice q10 st.wher.length c10] 86)).trans HBLK.out)
    go_wp2_with fail
    refine (refusedP_any pe _ (by omega) (by omega) (HT.out.below HBWA.out)).mono ?_
    rintro e w9 ⟨cv9, pv9, kv9, rfl, ho9, hb9⟩
    have HE9 : Hid (Sq.decide db sql = Sq.refused pe) := by show _ = _; rw [HE.out, h0]; rfl
    obtain ⟨xo9, xc9, rfl⟩ := ownsRow_slice ho9.cols.1
    obtain ⟨yo9, yc9, rfl⟩ := ho9.puts.slice
    obtain ⟨zo9, zc9, rfl⟩ := ownsRow_slice ho9.cuts
    have hblk9 := (hb9.block w.heap.size (by first | omega | (simp; omega))).trans HBLKA.out
    obtain ⟨d0, d1, d2, d3, d4, d5, d6⟩ := seven_cells hblk9
    obtain ⟨f0, f1, f2, f3, f4, f5, f6⟩ := seven_frozen hblk9
    have hz9 := hb9.size
    have HB9 := hd hb9
    have HO9 := hd ho9
    have HBLK9 := hd hblk9
    have hz10 : w.heap.size < w9.heap.size := by first | omega | (simp at hz9; omega)
    obtain ⟨o9, ho9e⟩ : ∃ x, x = Sq.refused pe := ⟨_, rfl⟩
    have he9 := HE9.out
    have ho9' := HO9.out
    rw [← ho9e] at he9 ho9' ⊢
    have HE10 := hd he9
    have HO10 := hd ho9'
    clear hb9 hblk9 ho9 ho9e he9 ho9' HE9 HO9
    unfold outCells
    go_wp2
    refine bodyPost_ret (v := .agg (outCells o9 (.slice xo9 o9.cols.length xc9) (.slice yo9 o9.puts.length yc9) (.slice zo9 o9.cuts.length zc9))) (by simp [results, Tryz.results29, go_sem, outCells, *]) rfl ⟨_, _, _, by rw [HE10.out], ?_, ?_⟩
    · rw [HE10.out]
      exact HO10.out.out HBLK9.out (fun g hg => set7_other _ _ _ _ _ _ _ _ _ hg)
    · exact set7_below (HBWA.out.trans (HB9.out.mono (by first | omega | (simp; omega)))) (Nat.le_refl _) _ _ _ _ _ _ _
  case false =>
    have HE2 : Hid (Sq.decide db sql = Sq.decideSt db st) := by show _ = _; rw [HE.out, h0]; rfl
    have HEST : Hid (Sq.decideSt db st = if st.act == 1 then Sq.create db st else match db[(Sq.findTab db st.table).toNat]? with
      | some t => if Sq.findTab db st.table < 0 then Sq.refused 4 else Sq.decideTab db t (Sq.findTab db st.table) st
      | none => Sq.refused 4) := rfl
    have HBWA := hd (Below.alloc (B := w.heap.size) HBW.out (by omega) (.cells #[.int .i64 st.act, .string st.table, .slice q5 st.cols.length c5, .slice q6 st.vals.length c6, .slice q7 st.sets.length c7, .int .i64 st.shw, .slice q9 st.items.length c9, .slice q10 st.wher.length c10] 86))
    have HBLKA := hd ((alloc_lt hz (.cells #[.int .i64 st.act, .string st.table, .slice q5 st.cols.length c5, .slice q6 st.vals.length c6, .slice q7 st.sets.length c7, .int .i64 st.shw, .slice q9 st.items.length c9, .slice q10 st.wher.length c10] 86)).trans HBLK.out)
    have HB1A := hd ((Below.refl w1.heap.size w1).alloc (Nat.le_refl _) (.cells #[.int .i64 st.act, .string st.table, .slice q5 st.cols.length c5, .slice q6 st.vals.length c6, .slice q7 st.sets.length c7, .int .i64 st.shw, .slice q9 st.items.length c9, .slice q10 st.wher.length c10] 86))
    cases h1 : st.act == 1
    case true =>
      go_wp2_with fail
      refine (ecreate_any sb db st ⟨.slice q5 st.cols.length c5, .slice q6 st.vals.length c6, .slice q7 st.sets.length c7, .slice q9 st.items.length c9, .slice q10 st.wher.length c10⟩ _ (H.out.below HBWA.out) (HS.out.below HB1A.out) (HT.out.below HBWA.out) (fun t ht => (HOK.out.each t ht).rows) hdl).mono ?_
      rintro e w9 ⟨cv9, pv9, kv9, rfl, ho9, hb9⟩
      have HE9 : Hid (Sq.decide db sql = Sq.create db st) := by show _ = _; rw [HE2.out, HEST.out, h1]; rfl
      obtain ⟨xo9, xc9, rfl⟩ := ownsRow_slice ho9.cols.1
      obtain ⟨yo9, yc9, rfl⟩ := ho9.puts.slice
      obtain ⟨zo9, zc9, rfl⟩ := ownsRow_slice ho9.cuts
      have hblk9 := (hb9.block w.heap.size (by first | omega | (simp; omega))).trans HBLKA.out
      obtain ⟨d0, d1, d2, d3, d4, d5, d6⟩ := seven_cells hblk9
      obtain ⟨f0, f1, f2, f3, f4, f5, f6⟩ := seven_frozen hblk9
      have hz9 := hb9.size
      have HB9 := hd hb9
      have HO9 := hd ho9
      have HBLK9 := hd hblk9
      have hz10 : w.heap.size < w9.heap.size := by first | omega | (simp at hz9; omega)
      obtain ⟨o9, ho9e⟩ : ∃ x, x = Sq.create db st := ⟨_, rfl⟩
      have he9 := HE9.out
      have ho9' := HO9.out
      rw [← ho9e] at he9 ho9' ⊢
      have HE10 := hd he9
      have HO10 := hd ho9'
      clear hb9 hblk9 ho9 ho9e he9 ho9' HE9 HO9
      unfold outCells
      go_wp2
      refine bodyPost_ret (v := .agg (outCells o9 (.slice xo9 o9.cols.length xc9) (.slice yo9 o9.puts.length yc9) (.slice zo9 o9.cuts.length zc9))) (by simp [results, Tryz.results29, go_sem, outCells, *]) rfl ⟨_, _, _, by rw [HE10.out], ?_, ?_⟩
      · rw [HE10.out]
        exact HO10.out.out HBLK9.out (fun g hg => set7_other _ _ _ _ _ _ _ _ _ hg)
      · exact set7_below (HBWA.out.trans (HB9.out.mono (by first | omega | (simp; omega)))) (Nat.le_refl _) _ _ _ _ _ _ _
    case false =>
      have HES2 := HEST.out
      rw [h1, if_neg (by decide)] at HES2
      have HE3 := hd (HE2.out.trans HES2)
      clear HEST HE2 HES2 HE
      go_wp2_with fail
      refine (StoreFind_b sb db st.table _ (H.out.below HBWA.out)).mono ?_
      rintro e w2 ⟨rfl, hb2⟩
      have hstm : w2.heap[w1.heap.size]? = some (.cells #[.int .i64 st.act, .string st.table, .slice q5 st.cols.length c5, .slice q6 st.vals.length c6, .slice q7 st.sets.length c7, .int .i64 st.shw, .slice q9 st.items.length c9, .slice q10 st.wher.length c10] 86) := (hb2.block _ (by simp)).trans (alloc_at _ _)
      have hblk2 := (hb2.block w.heap.size (by simp; omega)).trans HBLKA.out
      have hbw2 : Below w.heap.size w w2 := HBWA.out.trans (hb2.mono (by simp; omega))
      have hb12 : Below w1.heap.size w1 w2 := HB1A.out.trans (hb2.mono (by simp))
      have hz2 : w1.heap.size < w2.heap.size := by have := hb2.size; simp at this; omega
      have HSTM := hd hstm
      have HBLK2 := hd hblk2
      have HBW2 := hd hbw2
      have HS2 := hd (HS.out.below hb12)
      clear hstm hblk2 hbw2 hb12 hb2 HBWA HBLKA HB1A HS HBLK HBW
      obtain ⟨v, l, hdb, hbd, ht⟩ := (H.out.below HBW2.out).at_
      obtain ⟨tq, tcap, rfl⟩ := ownsRow_slice ht.own
      have hll : db.length = l.length := by rw [hdb]; simp
      have s0 : w2.cell? ⟨sb, 0, none⟩ = some (.slice tq l.length tcap) := by rw [cell_blk hbd]; rfl
      have hlen : l.length ≤ 1000 := by omega
      have hsb2 : sb < w2.heap.size := by omega
      rcases Sq.findTab_cases db st.table with hf | ⟨k, hk, hf⟩
      · rw [hf]
        have HF := hd hf
        clear hf hdb hbd ht hll
        go_wp2_with fail
        refine (refusedP_any 4 _ (by omega) (by omega) (HT.out.below HBW2.out)).mono ?_
        rintro e w9 ⟨cv9, pv9, kv9, rfl, ho9, hb9⟩
        have HE9 : Hid (Sq.decide db sql = Sq.refused 4) := by show _ = _; rw [HE3.out, HF.out]; cases db[(-1 : Int).toNat]? <;> rfl
        obtain ⟨xo9, xc9, rfl⟩ := ownsRow_slice ho9.cols.1
        obtain ⟨yo9, yc9, rfl⟩ := ho9.puts.slice
        obtain ⟨zo9, zc9, rfl⟩ := ownsRow_slice ho9.cuts
        have hblk9 := (hb9.block w.heap.size (by first | omega | (simp; omega))).trans HBLK2.out
        obtain ⟨d0, d1, d2, d3, d4, d5, d6⟩ := seven_cells hblk9
        obtain ⟨f0, f1, f2, f3, f4, f5, f6⟩ := seven_frozen hblk9
        have hz9 := hb9.size
        have HB9 := hd hb9
        have HO9 := hd ho9
        have HBLK9 := hd hblk9
        have hz10 : w.heap.size < w9.heap.size := by first | omega | (simp at hz9; omega)
        obtain ⟨o9, ho9e⟩ : ∃ x, x = Sq.refused 4 := ⟨_, rfl⟩
        have he9 := HE9.out
        have ho9' := HO9.out
        rw [← ho9e] at he9 ho9' ⊢
        have HE10 := hd he9
        have HO10 := hd ho9'
        clear hb9 hblk9 ho9 ho9e he9 ho9' HE9 HO9
        unfold outCells
        go_wp2
        refine bodyPost_ret (v := .agg (outCells o9 (.slice xo9 o9.cols.length xc9) (.slice yo9 o9.puts.length yc9) (.slice zo9 o9.cuts.length zc9))) (by simp [results, Tryz.results29, go_sem, outCells, *]) rfl ⟨_, _, _, by rw [HE10.out], ?_, ?_⟩
        · rw [HE10.out]
          exact HO10.out.out HBLK9.out (fun g hg => set7_other _ _ _ _ _ _ _ _ _ hg)
        · exact set7_below (HBW2.out.trans (HB9.out.mono (by first | omega | (simp; omega)))) (Nat.le_refl _) _ _ _ _ _ _ _
      · rw [hf]
        have hkl : k < l.length := by rw [← hll]; exact hk
        obtain ⟨g, cap', ca, cc, ra, rc, hv, hg, y0, y1, y2, htt⟩ := ht.at k hkl
        simp only [Value.slice.injEq] at hv
        obtain ⟨rfl, -, rfl⟩ := hv
        have hdk : db[k]? = some l[k].1 := by rw [hdb, List.getElem?_map, List.getElem?_eq_getElem hkl]; rfl
        have hokt := HOK.out.each l[k].1 (List.mem_of_getElem? hdk)
        obtain ⟨t, hte⟩ : ∃ x, x = l[k].1 := ⟨_, rfl⟩
        rw [← hte] at hdk hokt y0 y1 y2 htt
        have hE := HE3.out
        rw [hf, Int.toNat_natCast, hdk] at hE
        simp only at hE
        rw [if_neg (by omega)] at hE
        have HE4 : Hid (Sq.decide db sql = Sq.decideTab db t k st) := hE
        have HOKT := hd hokt
        have HTT := hd htt
        clear hf hdb hbd ht hll hE HE3 hdk hokt htt hte
        have HEDT : Hid (Sq.decideTab db t k st = if Sq.check t.cols st != 0 then Sq.refused (Sq.check t.cols st) else if st.act == 2 then Sq.insert t k (Sq.dbSize db) st.vals else if st.act == 3 then Sq.update t k st else if st.act == 4 then Sq.remove t k st.wher else ⟨Sq.show t st, false, Sq.nobytes, [], 0, [], []⟩) := rfl
        have hcb := Sq.check_bd t.cols st
        obtain ⟨ck, hck⟩ : ∃ x, x = Sq.check t.cols st := ⟨_, rfl⟩
        have hE := HE4.out.trans HEDT.out
        rw [← hck] at hE hcb
        have HE5 := hd hE
        have HCK := hd hck
        obtain ⟨hcb0, hcb1⟩ := hcb
        clear hE hck HEDT HE4
        obtain ⟨m0, m1, m2, m3, m4, m5, m6, m7⟩ := stm_cells HSTM.out
        have HBWT := hd (Below.alloc (B := w.heap.size) HBW2.out (by omega) (.cells #[.string t.name, .slice ca t.cols.length cc, .slice ra t.rows.length rc] 92))
        have HB2T := hd ((Below.refl w2.heap.size w2).alloc (Nat.le_refl _) (.cells #[.string t.name, .slice ca t.cols.length cc, .slice ra t.rows.length rc] 92))
        have HBLKT := hd ((alloc_lt (Nat.lt_trans hz hz2) (.cells #[.string t.name, .slice ca t.cols.length cc, .slice ra t.rows.length rc] 92)).trans HBLK2.out)
        have HSTMT := hd ((alloc_lt hz2 (.cells #[.string t.name, .slice ca t.cols.length cc, .slice ra t.rows.length rc] 92)).trans HSTM.out)
        go_wp2_with fail
        refine (check_any t.cols _ st ⟨.slice q5 st.cols.length c5, .slice q6 st.vals.length c6, .slice q7 st.sets.length c7, .slice q9 st.items.length c9, .slice q10 st.wher.length c10⟩ _ (HTT.out.cols.below HB2T.out) (HS2.out.below HB2T.out)).mono ?_
        rintro e w3 ⟨rfl, hb3⟩
        rw [← HCK.out]
        have hblk3 := (hb3.block w.heap.size (by simp; omega)).trans HBLKT.out
        have hstm3 := (hb3.block w1.heap.size (by simp; omega)).trans HSTMT.out
        have htab3 := (hb3.block w2.heap.size (by simp)).trans (alloc_at w2 _)
        have hbw3 : Below w.heap.size w w3 := HBWT.out.trans (hb3.mono (by simp; omega))
        have hb23 : Below w2.heap.size w2 w3 := HB2T.out.trans (hb3.mono (by simp))
        have hz3 : w2.heap.size < w3.heap.size := by have := hb3.size; simp at this; omega
        have HBLK3 := hd hblk3
        have HSTM3 := hd hstm3
        have HBW3 := hd hbw3
        have HS3 := hd (HS2.out.below hb23)
        have HTT3 := hd (HTT.out.below hb23)
        have HDB3 := hd (H.out.below hbw3)
        have hzw1 : w1.heap.size < w3.heap.size := by omega
        have hzw0 : w.heap.size < w3.heap.size := by omega
        have t0 : w3.cell? ⟨w2.heap.size, 0, none⟩ = some (.string t.name) := by rw [cell_blk htab3]; rfl
        have t1 : w3.cell? ⟨w2.heap.size, 1, none⟩ = some (.slice ca t.cols.length cc) := by rw [cell_blk htab3]; rfl
        have t2 : w3.cell? ⟨w2.heap.size, 2, none⟩ = some (.slice ra t.rows.length rc) := by rw [cell_blk htab3]; rfl
        clear hb3 hblk3 hstm3 hbw3 hb23 m0 m1 m2 m3 m4 m5 m6 m7 y0 y1 y2 s0 HBWT HB2T HBLKT HSTMT HSTM HBLK2 HBW2 HS2 HTT htab3
        obtain ⟨m0, m1, m2, m3, m4, m5, m6, m7⟩ := stm_cells HSTM3.out
        cases h2 : ck != 0
        case true =>
          go_wp2_with fail
          refine (refusedP_any ck _ (by omega) (by omega) (HT.out.below HBW3.out)).mono ?_
          rintro e w9 ⟨cv9, pv9, kv9, rfl, ho9, hb9⟩
          have HE9 : Hid (Sq.decide db sql = Sq.refused ck) := by show _ = _; rw [HE5.out, h2]; rfl
          obtain ⟨xo9, xc9, rfl⟩ := ownsRow_slice ho9.cols.1
          obtain ⟨yo9, yc9, rfl⟩ := ho9.puts.slice
          obtain ⟨zo9, zc9, rfl⟩ := ownsRow_slice ho9.cuts
          have hblk9 := (hb9.block w.heap.size (by first | omega | (simp; omega))).trans HBLK3.out
          obtain ⟨d0, d1, d2, d3, d4, d5, d6⟩ := seven_cells hblk9
          obtain ⟨f0, f1, f2, f3, f4, f5, f6⟩ := seven_frozen hblk9
          have hz9 := hb9.size
          have HB9 := hd hb9
          have HO9 := hd ho9
          have HBLK9 := hd hblk9
          have hz10 : w.heap.size < w9.heap.size := by first | omega | (simp at hz9; omega)
          obtain ⟨o9, ho9e⟩ : ∃ x, x = Sq.refused ck := ⟨_, rfl⟩
          have he9 := HE9.out
          have ho9' := HO9.out
          rw [← ho9e] at he9 ho9' ⊢
          have HE10 := hd he9
          have HO10 := hd ho9'
          clear hb9 hblk9 ho9 ho9e he9 ho9' HE9 HO9
          unfold outCells
          go_wp2
          refine bodyPost_ret (v := .agg (outCells o9 (.slice xo9 o9.cols.length xc9) (.slice yo9 o9.puts.length yc9) (.slice zo9 o9.cuts.length zc9))) (by simp [results, Tryz.results29, go_sem, outCells, *]) rfl ⟨_, _, _, by rw [HE10.out], ?_, ?_⟩
          · rw [HE10.out]
            exact HO10.out.out HBLK9.out (fun g hg => set7_other _ _ _ _ _ _ _ _ _ hg)
          · exact set7_below (HBW3.out.trans (HB9.out.mono (by first | omega | (simp; omega)))) (Nat.le_refl _) _ _ _ _ _ _ _
        case false =>
          have hE := HE5.out
          rw [h2, if_neg (by decide)] at hE
          have HE6 := hd hE
          clear hE HE5
          cases h4 : st.act == 2
          case true =>
            have HE7 : Hid (Sq.decide db sql = Sq.insert t k (Sq.dbSize db) st.vals) := by show _ = _; rw [HE6.out, h4]; rfl
            have hds := dbSize_le db (fun t ht => (HOK.out.each t ht).rows) hdl
            obtain ⟨sz, hsz⟩ : ∃ x, x = Sq.dbSize db := ⟨_, rfl⟩
            have hE := HE7.out
            rw [← hsz] at hE hds
            have HE8 := hd hE
            have HSZ := hd hsz
            clear hE hsz HE7
            go_wp2
            go_region_with (first | (go_at_call 40; refine (Size_b sb db w3.drew (HDB3.out.below (Below.drew (Below.refl _ _))) (fun t ht => (HOK.out.each t ht).rows)).mono ?_; rintro e w4 ⟨rfl, hb4⟩; rw [← HSZ.out]; have hb4' : Below w3.heap.size w3 w4 := (Below.drew (Below.refl _ _)).trans hb4; have t0' := ((bcell hb4').1 w2.heap.size 0 hz3).trans t0; have t1' := ((bcell hb4').1 w2.heap.size 1 hz3).trans t1; have t2' := ((bcell hb4').1 w2.heap.size 2 hz3).trans t2; have m3' := ((bcell hb4').1 w1.heap.size 3 hzw1).trans m3; have hz4 := hb4'.size; have hz5 : w2.heap.size < w4.heap.size := (by omega); have hz6 : w1.heap.size < w4.heap.size := (by omega); have HB4 := hd hb4'; clear hb4 hb4') | (go_at_call 39; refine (einsert_any t _ _ _ k sz st.vals w4 (HTT3.out.below HB4.out) ⟨ownsRow_below HS3.out.vals HB4.out, HS3.out.nvals⟩ ((HT.out.below HBW3.out).below HB4.out) (by omega)).mono ?_; rintro e w9 ⟨cv9, pv9, kv9, rfl, ho9, hb9⟩; obtain ⟨xo9, xc9, rfl⟩ := ownsRow_slice ho9.cols.1; obtain ⟨yo9, yc9, rfl⟩ := ho9.puts.slice; obtain ⟨zo9, zc9, rfl⟩ := ownsRow_slice ho9.cuts; have hblk9 := (hb9.block w.heap.size (by omega)).trans ((HB4.out.block w.heap.size (by omega)).trans HBLK3.out); obtain ⟨d0, d1, d2, d3, d4, d5, d6⟩ := seven_cells hblk9; obtain ⟨f0, f1, f2, f3, f4, f5, f6⟩ := seven_frozen hblk9; have hz9 := hb9.size; have HB9 := hd hb9; have HO9 := hd ho9; have HBLK9 := hd hblk9; have hz10 : w.heap.size < w9.heap.size := (by omega); obtain ⟨o9, ho9e⟩ : ∃ x, x = Sq.insert t k sz st.vals := ⟨_, rfl⟩; have he9 := HE8.out; have ho9' := HO9.out; rw [← ho9e] at he9 ho9' ⊢; have HE10 := hd he9; have HO10 := hd ho9'; clear hb9 hblk9 ho9 ho9e he9 ho9' HE8 HO9; unfold outCells))
            all_goals (try go_wp2_with fail)
            all_goals (refine bodyPost_ret (v := .agg (outCells o9 (.slice xo9 o9.cols.length xc9) (.slice yo9 o9.puts.length yc9) (.slice zo9 o9.cuts.length zc9))) (by simp [results, Tryz.results29, go_sem, outCells, *]) rfl ⟨_, _, _, by rw [HE10.out], ?_, ?_⟩)
            all_goals first
              | exact set7_below ((HBW3.out.trans (HB4.out.mono (by omega))).trans (HB9.out.mono (by omega))) (Nat.le_refl _) _ _ _ _ _ _ _
              | (rw [HE10.out]; exact HO10.out.out HBLK9.out (fun g hg => set7_other _ _ _ _ _ _ _ _ _ hg))
          cases h5 : st.act == 3
          case true =>
            go_wp2_with fail
            refine (eupdate_any t st ⟨.slice q5 st.cols.length c5, .slice q6 st.vals.length c6, .slice q7 st.sets.length c7, .slice q9 st.items.length c9, .slice q10 st.wher.length c10⟩ _ _ k _ HTT3.out HS3.out (HT.out.below HBW3.out) HOKT.out.ok HK.out.oks (Nat.le_trans HK.out.wher (by omega)) HOKT.out.rows).mono ?_
            rintro e w9 ⟨cv9, pv9, kv9, rfl, ho9, hb9⟩
            have HE9 : Hid (Sq.decide db sql = Sq.update t k st) := by show _ = _; rw [HE6.out, h4, h5]; rfl
            obtain ⟨xo9, xc9, rfl⟩ := ownsRow_slice ho9.cols.1
            obtain ⟨yo9, yc9, rfl⟩ := ho9.puts.slice
            obtain ⟨zo9, zc9, rfl⟩ := ownsRow_slice ho9.cuts
            have hblk9 := (hb9.block w.heap.size (by first | omega | (simp; omega))).trans HBLK3.out
            obtain ⟨d0, d1, d2, d3, d4, d5, d6⟩ := seven_cells hblk9
            obtain ⟨f0, f1, f2, f3, f4, f5, f6⟩ := seven_frozen hblk9
            have hz9 := hb9.size
            have HB9 := hd hb9
            have HO9 := hd ho9
            have HBLK9 := hd hblk9
            have hz10 : w.heap.size < w9.heap.size := by first | omega | (simp at hz9; omega)
            obtain ⟨o9, ho9e⟩ : ∃ x, x = Sq.update t k st := ⟨_, rfl⟩
            have he9 := HE9.out
            have ho9' := HO9.out
            rw [← ho9e] at he9 ho9' ⊢
            have HE10 := hd he9
            have HO10 := hd ho9'
            clear hb9 hblk9 ho9 ho9e he9 ho9' HE9 HO9
            unfold outCells
            go_wp2
            refine bodyPost_ret (v := .agg (outCells o9 (.slice xo9 o9.cols.length xc9) (.slice yo9 o9.puts.length yc9) (.slice zo9 o9.cuts.length zc9))) (by simp [results, Tryz.results29, go_sem, outCells, *]) rfl ⟨_, _, _, by rw [HE10.out], ?_, ?_⟩
            · rw [HE10.out]
              exact HO10.out.out HBLK9.out (fun g hg => set7_other _ _ _ _ _ _ _ _ _ hg)
            · exact set7_below (HBW3.out.trans (HB9.out.mono (by first | omega | (simp; omega)))) (Nat.le_refl _) _ _ _ _ _ _ _
          cases h6 : st.act == 4
          case true =>
            go_wp2_with fail
            refine (remove_any t st.wher _ _ _ k _ HTT3.out ⟨HS3.out.wher, HS3.out.nwher⟩ (HT.out.below HBW3.out) (Nat.le_trans HK.out.wher (by omega)) HOKT.out.rows).mono ?_
            rintro e w9 ⟨cv9, pv9, kv9, rfl, ho9, hb9⟩
            have HE9 : Hid (Sq.decide db sql = Sq.remove t k st.wher) := by show _ = _; rw [HE6.out, h4, h5, h6]; rfl
            obtain ⟨xo9, xc9, rfl⟩ := ownsRow_slice ho9.cols.1
            obtain ⟨yo9, yc9, rfl⟩ := ho9.puts.slice
            obtain ⟨zo9, zc9, rfl⟩ := ownsRow_slice ho9.cuts
            have hblk9 := (hb9.block w.heap.size (by first | omega | (simp; omega))).trans HBLK3.out
            obtain ⟨d0, d1, d2, d3, d4, d5, d6⟩ := seven_cells hblk9
            obtain ⟨f0, f1, f2, f3, f4, f5, f6⟩ := seven_frozen hblk9
            have hz9 := hb9.size
            have HB9 := hd hb9
            have HO9 := hd ho9
            have HBLK9 := hd hblk9
            have hz10 : w.heap.size < w9.heap.size := by first | omega | (simp at hz9; omega)
            obtain ⟨o9, ho9e⟩ : ∃ x, x = Sq.remove t k st.wher := ⟨_, rfl⟩
            have he9 := HE9.out
            have ho9' := HO9.out
            rw [← ho9e] at he9 ho9' ⊢
            have HE10 := hd he9
            have HO10 := hd ho9'
            clear hb9 hblk9 ho9 ho9e he9 ho9' HE9 HO9
            unfold outCells
            go_wp2
            refine bodyPost_ret (v := .agg (outCells o9 (.slice xo9 o9.cols.length xc9) (.slice yo9 o9.puts.length yc9) (.slice zo9 o9.cuts.length zc9))) (by simp [results, Tryz.results29, go_sem, outCells, *]) rfl ⟨_, _, _, by rw [HE10.out], ?_, ?_⟩
            · rw [HE10.out]
              exact HO10.out.out HBLK9.out (fun g hg => set7_other _ _ _ _ _ _ _ _ _ hg)
            · exact set7_below (HBW3.out.trans (HB9.out.mono (by first | omega | (simp; omega)))) (Nat.le_refl _) _ _ _ _ _ _ _
          case false =>
            have HE7 : Hid (Sq.decide db sql = ⟨Sq.show t st, false, Sq.nobytes, [], 0, [], []⟩) := by show _ = _; rw [HE6.out, h4, h5, h6]; rfl
            go_wp2_with fail
            refine (show_any t _ _ st ⟨.slice q5 st.cols.length c5, .slice q6 st.vals.length c6, .slice q7 st.sets.length c7, .slice q9 st.items.length c9, .slice q10 st.wher.length c10⟩ _ HTT3.out HS3.out (HT.out.below HBW3.out) HOKT.out.ok HOKT.out.rows HOKT.out.cols HK.out.items (Nat.le_trans HK.out.wher (by omega))).mono ?_
            rintro e w9 ⟨rfl, hb9⟩
            have hblk9 := (hb9.block w.heap.size (by omega)).trans HBLK3.out
            obtain ⟨d0, d1, d2, d3, d4, d5, d6⟩ := seven_cells hblk9
            obtain ⟨f0, f1, f2, f3, f4, f5, f6⟩ := seven_frozen hblk9
            have hz9 := hb9.size
            have HB9 := hd hb9
            have hz10 : w.heap.size < w9.heap.size := by omega
            clear hb9 hblk9
            go_wp2
            refine bodyPost_ret (v := .agg (outCells ⟨Sq.show t st, false, Sq.nobytes, [], 0, [], []⟩ (.slice none 0 0) (.slice none 0 0) (.slice none 0 0))) (by simp [results, Tryz.results29, go_sem, outCells, Sq.nobytes, *]) rfl ⟨_, _, _, by rw [HE7.out], by rw [HE7.out]; exact OutAt.none _ _ rfl rfl rfl, ?_⟩
            exact set7_below (HBW3.out.trans (HB9.out.mono (by omega))) (Nat.le_refl _) _ _ _ _ _ _ _

end Go.Proofs.YteibbdilhpdknaaGreatDoor

namespace Go.Proofs.YteibbdilhpdknaaGreatDoor
open Go.RowKit

/-- What a turn of the server at block sb leaves alone: all below sb; all blocks but servers and tables. -/
structure Frm (sb : Nat) (w w' : World) : Prop where
  below : Below sb w w'
  other : ∀ (g : Nat) (c : Array Value) (e : TypeId) (fr : Nat × Nat), w.heap[g]? = some (Obj.cells c e fr) → e ≠ 61 → e ≠ 92 → w'.heap[g]? = w.heap[g]?
theorem Frm.refl (sb : Nat) (w : World) : Frm sb w w := ⟨Below.refl _ _, fun _ _ _ _ _ _ _ => rfl⟩
theorem Frm.trans {sb : Nat} {w w1 w2 : World} (h : Frm sb w w1) (h2 : Frm sb w1 w2) : Frm sb w w2 :=
  ⟨h.below.trans h2.below, fun g c e fr hg h3 h4 => by have := h.other g c e fr hg h3 h4; rw [← this]; rw [← this] at hg; exact h2.other g c e fr hg h3 h4⟩
theorem Frm.of_below {sb : Nat} {w w' : World} (h : Below w.heap.size w w') (hs : sb ≤ w.heap.size) : Frm sb w w' := ⟨h.mono hs, fun g _ _ _ hg _ _ => h.block g (lt_blk hg)⟩
theorem ownsRow_frm {sb : Nat} {w w' : World} {B : Nat} {e : TypeId} {size : Nat} {v : Value} {n : Nat} {xs : List Value} (h : w.ownsRow B e size v n xs) (hf : Frm sb w w') (h1 : e ≠ 61) (h2 : e ≠ 92) : w'.ownsRow B e size v n xs := by
  refine ⟨h.1, ?_⟩
  rcases h.2 with h0 | ⟨g, cap, cur, hv, hbg, hh, hn, hm, hc, ht⟩
  · exact Or.inl h0
  · exact Or.inr ⟨g, cap, cur, hv, hbg, (hf.other g _ _ _ hh h1 h2).trans hh, hn, hm, hc, ht⟩
theorem RowAt.frm {sb : Nat} {w w' : World} {v : Value} {row : List Sq.Val} (h : RowAt w v row) (hf : Frm sb w w') : RowAt w' v row := ⟨ownsRow_frm h.1 hf (by decide) (by decide), h.2⟩
theorem RowsOwn.frm {sb B : Nat} {w w' : World} {v : Value} {rows : List (List Sq.Val)} (h : RowsOwn B w v rows) (hf : Frm sb w w') : RowsOwn B w' v rows := by
  obtain ⟨rvs, h1, h2⟩ := h
  exact ⟨rvs, ownsRow_frm h1 hf (by decide) (by decide), fun i row hi => let ⟨rv, h3, h4⟩ := h2 i row hi; ⟨rv, h3, h4.frm hf⟩⟩
theorem ColsAt.frm {sb : Nat} {w w' : World} {v : Value} {l : List Sq.Col} (h : ColsAt w v l) (hf : Frm sb w w') : ColsAt w' v l := ⟨ownsRow_frm h.1 hf (by decide) (by decide), h.2⟩
theorem TabAt.frm {sb : Nat} {w w' : World} {t : Sq.Tab} {cv rv : Value} (h : TabAt w t cv rv) (hf : Frm sb w w') : TabAt w' t cv rv := ⟨h.cols.frm hf, h.rows.frm hf, h.few⟩
theorem OutAt.frm {sb : Nat} {w w' : World} {o : Sq.Out} {cv pv kv : Value} (h : OutAt w o cv pv kv) (hf : Frm sb w w') : OutAt w' o cv pv kv :=
  ⟨h.cols.frm hf, h.puts.frm hf, ownsRow_frm h.cuts hf (by decide) (by decide), h.nputs, h.ncuts⟩
/-- The world w0 in which the library's tables lie; the server lies behind it. -/
structure Bs (w0 : World) (sb : Nat) (w : World) : Prop where
  tbl : Tbl w0
  le : w0.heap.size ≤ sb
  below : Below w0.heap.size w0 w
theorem Bs.t {w0 : World} {sb : Nat} {w : World} (h : Bs w0 sb w) : Tbl w := h.tbl.below h.below
theorem Bs.frm {w0 : World} {sb : Nat} {w w' : World} (h : Bs w0 sb w) (hf : Frm sb w w') : Bs w0 sb w' := ⟨h.tbl, h.le, h.below.trans (hf.below.mono h.le)⟩
theorem Bs.step {w0 : World} {sb : Nat} {w w' : World} (h : Bs w0 sb w) (hb : Below w.heap.size w w') : Bs w0 sb w' := ⟨h.tbl, h.le, h.below.trans (hb.mono h.below.size)⟩

/-- A slice of tables grew; a server's cell was set. -/
theorem Frm.of_grown {sb : Nat} {w w' : World} {v : Value} {n : Nat} {xs : List Value} (hg : w.grownBy w' v.ownBlock) (ho : w.ownsRow (sb + 1) 92 3 v n xs) (hs : sb ≤ w.heap.size) : Frm sb w w' := by
  refine ⟨Tch.of_grown hg (fun k hk => Nat.le_of_succ_le (ho.lt k hk).1) hs, fun g c e fr hc h1 h2 => hg.block g (lt_blk hc) fun hh => ?_⟩
  exact ownsRow_notin ho hc (fun e => h2 e.symm) hh.symm
theorem Frm.of_server {sb o : Nat} {w : World} {x : Value} {c : Array Value} {fr : Nat × Nat} (hb : w.heap[sb]? = some (.cells c 61 fr)) : Frm sb w (w.setCell ⟨sb, o, none⟩ x) := by
  refine ⟨Below.setCell (B := sb) (Below.refl _ _) (Nat.le_refl _) _, fun g c' e fr' hc h1 _ => heap_set_other fun he => ?_⟩
  subst he
  rw [hb] at hc
  simp at hc
  exact h1 hc.2.1.symm
theorem Frm.of_table {sb g o : Nat} {w : World} {x : Value} {c : Array Value} {fr : Nat × Nat} (hb : w.heap[g]? = some (.cells c 92 fr)) (hg : sb ≤ g) : Frm sb w (w.setCell ⟨g, o, none⟩ x) := by
  refine ⟨Below.setCell (B := sb) (Below.refl _ _) hg _, fun k c' e fr' hc _ h2 => heap_set_other fun he => ?_⟩
  subst he
  rw [hb] at hc
  simp at hc
  exact h2 hc.2.1.symm

theorem Tryz.infoTab : (Tryz.prog.info? 92).map (fun i => (i.zero, i.size, i.bytes)) = some (some (.agg #[.string ⟨#[]⟩, .slice none 0 0, .slice none 0 0]), 3, 64) := by kernel_rfl
theorem colCells_one (l : List Sq.Col) : ∀ v ∈ l.flatMap Sq.Col.cells, v.oneCell' = true := by
  intro v hv
  obtain ⟨x, _, hx⟩ := List.mem_flatMap.1 hv
  simp only [Sq.Col.cells, List.mem_cons, List.not_mem_nil, or_false] at hx
  rcases hx with rfl | rfl <;> rfl

end Go.Proofs.YteibbdilhpdknaaGreatDoor

namespace Go.Proofs.YteibbdilhpdknaaGreatDoor
open Go.RowKit

theorem Tryz.infoCol2 : (Tryz.prog.info? 145).map (fun i => (i.zero, i.size, i.bytes)) = some (some (.agg #[.string ⟨#[]⟩, .int .i64 0]), 2, 24) := by kernel_rfl

theorem tab_one (n : ByteArray) (g : Nat) (k c : Nat) : ∀ u ∈ [Value.string n, .slice (some ⟨g, 0, none⟩) k c, .slice none 0 0], u.oneCell' = true := by
  intro u hu
  simp only [List.mem_cons, List.not_mem_nil, or_false] at hu
  rcases hu with rfl | rfl | rfl <;> rfl

set_option maxRecDepth 100000 in
set_option maxHeartbeats 1000000 in
theorem Make_any (sb : Nat) (db : List Sq.Tab) (name : ByteArray) (cols : List Sq.Col) (cv : Value) (w : World) (h : DB sb w db) (hc : ColsAt w cv cols) (hl : db.length + 1 ≤ 1000) :
    Calls Tryz.prog 44 #[.pointer (some ⟨sb, 0, none⟩), .string name, cv] w fun e w' => e = .returned (.tuple #[]) ∧ DB sb w' (db ++ [⟨name, cols, []⟩]) ∧ Frm sb w w' := by
  obtain ⟨i0, hi, hz0, hz1, hz2⟩ := info_parts Tryz.infoCol2
  obtain ⟨j0, hj, hy0, hy1, hy2⟩ := info_parts Tryz.infoTab
  obtain ⟨ao, acap, rfl⟩ := ownsRow_slice hc.1
  have hcl := hc.2
  have hone := colCells_one cols
  obtain ⟨cs, hcs⟩ : ∃ x, x = cols.flatMap Sq.Col.cells := ⟨_, rfl⟩
  have hown := hc.1
  rw [← hcs] at hown hone
  have hsb := h.lt
  have HOWN := hd hown
  have HONE := hd hone
  have HCS := hd hcs
  have H := hd h
  clear h hc hown hone hcs
  go_enter Tryz.func44, Tryz.ntmps44
  go_wp2_with (first
    | (at_make; refine wpList_make_full _ rfl (.tmp 8) (.tmp 8) 62 rfl w.heap.size 145 i0 _ 2 Tryz.underlying62 hi hz0 hz1 .i64 .i64 _ _ cols.length rfl rfl rfl rfl (by rw [hz2]; omega) (by unfold maxLen; omega) (Nat.le_refl _) ?_; intro w1 hown1 hgrow1; have hb1 := Tch.of_grown (pb := w.heap.size) hgrow1 (fun k hk => by cases hk) (Nat.le_refl _); obtain ⟨w2, hrun, hown2, hb2⟩ := run_copy_whole w1 62 3 145 i0 2 Tryz.underlying62 hi hz1 w.heap.size 0 145 _ cols.length _ _ _ _ cs hown1 (ownsRow_below HOWN.out hb1) HONE.out; have hb12 := hb1.trans hb2; have HB := hd hb12; have HO2 := hd hown2; have hz12 := hb12.size; have hdb := H.out.below hb12; have HDB := hd hdb; obtain ⟨v, l, hdl, hbd, ht⟩ := hdb.at_; obtain ⟨tq, tcap, rfl⟩ := ownsRow_slice ht.own; have hll : db.length = l.length := (by rw [hdl]; simp); have s0 : w2.cell? ⟨sb, 0, none⟩ = some (.slice tq l.length tcap) := (by rw [cell_blk hbd]; rfl); have hlen : l.length + 1 ≤ 1000 := (by omega); have hsb2 : sb < w2.heap.size := (by omega); have HBD := hd hbd; have HT := hd ht; have HDL := hd hdl; have HOA := hd (ht.own.alloc (.cells #[.string name, .slice (some ⟨w.heap.size, 0, none⟩) cols.length cols.length, .slice none 0 0] 92)); have hbda := (alloc_lt hsb2 (.cells #[.string name, .slice (some ⟨w.heap.size, 0, none⟩) cols.length cols.length, .slice none 0 0] 92)).trans hbd; have HBDA := hd hbda; clear hown1 hgrow1 hb1 hown2 hb2 hb12 hdb hdl hbd ht hll hbda)
    | (at_builtin; refine wpList_append_lies _ rfl (.tmp 17) (.tmp 21) 57 rfl (sb + 1) 92 j0 _ 3 64 Tryz.underlying57 hj hy0 hy1 hy2 rfl (by decide) _ l.length (l.flatMap tabCells) rfl HOA.out ⟨w2.heap.size, 0, none⟩ 1 1 [.string name, .slice (some ⟨w.heap.size, 0, none⟩) cols.length cols.length, .slice none 0 0] rfl rfl (by exact new_cells w2 _ _ _ rfl rfl) (tab_one _ _ _ _) (by decide) (by unfold maxLen; omega) (by omega) (by simp; omega) _ rfl ?_; intro gg cap3 w3 hown3 hgrow3 hat3 hlt3; have hbd3 := (hgrow3.block sb (by simp; omega) (fun e => ownsRow_notin HOA.out HBDA.out (by decide) e.symm)).trans HBDA.out; have k0 : w3.cell? ⟨sb, 0, none⟩ = some (.slice tq l.length tcap) := (by rw [cell_blk hbd3]; rfl); have f0 := frozen_blk hbd3 0; have hlt1 := lt_blk hbd3; have HO3 := hd hown3; have HG3 := hd hgrow3; have HBD3 := hd hbd3; clear hown3 hgrow3 hat3 hbd3))
  go_end0
  have hW2 : Below w2.heap.size w2 (w2.alloc (.cells #[.string name, .slice (some ⟨w.heap.size, 0, none⟩) cols.length cols.length, .slice none 0 0] 92)) := (Below.refl _ _).alloc (Nat.le_refl _) _
  have hf0 : Frm sb w (w2.alloc (.cells #[.string name, .slice (some ⟨w.heap.size, 0, none⟩) cols.length cols.length, .slice none 0 0] 92)) := (Frm.of_below HB.out (by omega)).trans (Frm.of_below hW2 (by omega))
  have hf1 := Frm.of_grown HG3.out HOA.out (by simp; omega)
  have hf2 : Frm sb w3 (w3.setCell ⟨sb, 0, none⟩ (.slice (some ⟨gg, 0, none⟩) (l.length + 1) cap3)) := Frm.of_server HBD3.out
  refine ⟨rfl, ⟨⟨.slice (some ⟨gg, 0, none⟩) (l.length + 1) cap3, l ++ [(⟨name, cols, []⟩, .slice (some ⟨w.heap.size, 0, none⟩) cols.length cols.length, .slice none 0 0)], ?_, ?_, ?_⟩⟩, (hf0.trans hf1).trans hf2⟩
  · rw [HDL.out]; simp
  · rw [heap_set_same HBD3.out]; rfl
  · have hlast := (hf1.trans hf2)
    refine ⟨?_, ?_, by simpa using hlen⟩
    · have : (w3.setCell ⟨sb, 0, none⟩ (.slice (some ⟨gg, 0, none⟩) (l.length + 1) cap3)).ownsRow (sb + 1) 92 3 (.slice (some ⟨gg, 0, none⟩) (l.length + 1) cap3) (l.length + 1) (l.flatMap tabCells ++ [.string name, .slice (some ⟨w.heap.size, 0, none⟩) cols.length cols.length, .slice none 0 0]) :=
        ownsRow_same HO3.out fun k hk => heap_set_other fun e => by have := (HO3.out.lt k hk).1; omega
      simpa [tabCells] using this
    · intro x hx
      rcases List.mem_append.1 hx with hx | hx
      · exact ((HT.out.each x hx).below hW2).frm hlast
      · simp at hx
        subst hx
        refine TabAt.frm ⟨⟨?_, hcl⟩, RowsOwn.nil _ _, by simp⟩ hlast
        have := ownsRow_below HO2.out hW2
        rw [HCS.out] at this
        exact ownsRow_base this (Nat.zero_le _)

end Go.Proofs.YteibbdilhpdknaaGreatDoor
