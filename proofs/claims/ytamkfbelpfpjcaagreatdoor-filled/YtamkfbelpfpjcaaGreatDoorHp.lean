import Derived.Deep.Cut
import Derived.Test.YtamkfbelpfpjcaaGreatDoorHl
import Derived.Test.YtamkfbelpfpjcaaGreatDoorHg
import Derived.Test.YtamkfbelpfpjcaaGreatDoorGl
set_option linter.unusedVariables false
set_option linter.unusedSimpArgs false

namespace Go.Proofs.YtamkfbelpfpjcaaGreatDoor
open Go.RowKit

theorem OutAt.out {w w' : World} {rb : Nat} {o : Sq.Out} {cv pv kv : Value} {c : Array Value} {fr : Nat × Nat} (h : OutAt w o cv pv kv) (hb : w.heap[rb]? = some (.cells c 56 fr)) (ho : ∀ g, g ≠ rb → w'.heap[g]? = w.heap[g]?) : OutAt w' o cv pv kv :=
  ⟨h.cols.out hb (by decide) ho, h.puts.out hb (by decide) (by decide) ho, ownsRow_out h.cuts hb (by decide) ho, h.nputs, h.ncuts⟩
theorem refusedP_any (n : Int) (w : World) (h0 : 0 ≤ n) (h1 : n ≤ 1000000) (hT : Tbl w) : Calls Tryz.prog 22 #[.int .i64 n] w (OutPost w (Sq.refused n)) := by
  refine (refused_any n w h0 h1 hT).mono ?_
  rintro e w' ⟨rfl, hb⟩
  exact ⟨_, _, _, rfl, OutAt.none _ _ rfl rfl rfl, hb⟩

theorem stm_cells {w : World} {b : Nat} {x0 x1 x2 x3 x4 x5 x6 x7 : Value} (h : w.heap[b]? = some (.cells #[x0, x1, x2, x3, x4, x5, x6, x7] 65)) :
    w.cell? ⟨b, 0, none⟩ = some x0 ∧ w.cell? ⟨b, 1, none⟩ = some x1 ∧ w.cell? ⟨b, 2, none⟩ = some x2 ∧ w.cell? ⟨b, 3, none⟩ = some x3 ∧ w.cell? ⟨b, 4, none⟩ = some x4 ∧ w.cell? ⟨b, 5, none⟩ = some x5 ∧ w.cell? ⟨b, 6, none⟩ = some x6 ∧ w.cell? ⟨b, 7, none⟩ = some x7 :=
  ⟨by rw [cell_blk h]; rfl, by rw [cell_blk h]; rfl, by rw [cell_blk h]; rfl, by rw [cell_blk h]; rfl, by rw [cell_blk h]; rfl, by rw [cell_blk h]; rfl, by rw [cell_blk h]; rfl, by rw [cell_blk h]; rfl⟩
theorem StmAt.of {B : Nat} {w : World} {st : Sq.PSt} {r : Rw} (h : Stm B w st r) (hk : Sq.okStm st) : StmAt w st r := by
  obtain ⟨h1, h2, h3, h4, h5⟩ := h
  have k1 := hk.cols
  have k2 := hk.vals
  have k3 := hk.sets
  have k4 := hk.items
  have k5 := hk.wher
  exact ⟨⟨ownsRow_base h1 (Nat.zero_le _), by omega⟩, ownsRow_base h2 (Nat.zero_le _), by omega, ⟨ownsRow_base h3 (Nat.zero_le _), by omega⟩, ⟨ownsRow_base h4 (Nat.zero_le _), by omega⟩, ownsRow_base h5 (Nat.zero_le _), by omega⟩


/-- What stays through Decide: the store's box, the outcome's cell, the statement's. -/
structure Dctx (w : World) (S : Array Value) (sb : Nat) (st : Sq.PSt) (r : Rw) (X : World) : Prop where
  below : Below w.heap.size w X
  sto : X.heap[w.heap.size]? = some (.cells S 46)
  out : X.heap[w.heap.size + 1]? = some (.cells out0 56)
  stm : X.heap[sb]? = some (.cells (stmCells st r) 65)
  at_ : StmAt X st r
theorem Dctx.next {w : World} {S : Array Value} {sb : Nat} {st : Sq.PSt} {r : Rw} {X Y : World} (h : Dctx w S sb st r X) (hb : Below X.heap.size X Y) : Dctx w S sb st r Y :=
  ⟨h.below.trans (hb.mono h.below.size), (hb.block _ (lt_blk h.sto)).trans h.sto, (hb.block _ (lt_blk h.out)).trans h.out, (hb.block _ (lt_blk h.stm)).trans h.stm, h.at_.below hb⟩

set_option maxRecDepth 100000 in
set_option maxHeartbeats 8000000 in
theorem Decide_any (x : Sq.Tree) (ev cv : Value) (sql : ByteArray) (w : World) (h : NodeAt w x.d x.t ev cv) (hg : Sq.fit x) (hT : Tbl w) (hp : Sq.okStm (Sq.parse sql).2) :
    Calls Tryz.prog 18 #[.agg (nodeCells x.d (x.t, ev, cv)).toArray, .string sql] w (OutPost w (Sq.decideN x sql)) := by
  rw [nodeCells_arr]
  obtain ⟨⟨e1, e2, e3, hev⟩, k1, k2, k3, hcv⟩ := h.slices
  subst hev hcv
  have hpb := Sq.parse_bd sql
  have hE : Sq.decideN x sql = if (Sq.parse sql).1 != 0 then Sq.refused (Sq.parse sql).1 else if (Sq.parse sql).2.act == 1 then Sq.createN (Sq.tabsOf x) (Sq.ents x.d x.t).length (Sq.parse sql).2
    else match Sq.findN (Sq.parse sql).2.table (Sq.tabsOf x) with
    | some t => if Sq.check t.cols (Sq.parse sql).2 != 0 then Sq.refused (Sq.check t.cols (Sq.parse sql).2)
        else if (Sq.parse sql).2.act == 2 then Sq.insertN x t.number (Sq.parse sql).2.vals
        else if (Sq.parse sql).2.act == 3 then Sq.updateN t.number t.cols (Sq.metN t.cols (Sq.rowsOf x t) (Sq.parse sql).2.wher) (Sq.parse sql).2.sets
        else if (Sq.parse sql).2.act == 4 then Sq.removeN t.number (Sq.metN t.cols (Sq.rowsOf x t) (Sq.parse sql).2.wher)
        else ⟨Sq.showN t.cols (Sq.metN t.cols (Sq.rowsOf x t) (Sq.parse sql).2.wher) (Sq.parse sql).2, false, Sq.nobytes, [], 0, [], []⟩
    | none => Sq.refused 4 := rfl
  have hfew := hg.few
  have hel : ∀ t, (Sq.entsOf ⟨x.d, x.t⟩ t).length ≤ 500 := fun t => by have := (Sq.entsOf_sub hg.ok t).length_le; show (Sq.entsOf x t).length ≤ _; omega
  have her : ∀ t, ∀ e ∈ Sq.entsOf ⟨x.d, x.t⟩ t, e.row.size ≤ 1000 ∧ 0 ≤ e.place := fun t e he => hg.rows e ((Sq.entsOf_sub hg.ok t).subset he)
  have hkt : ∀ w', Below w.heap.size w w' → Calls Tryz.prog 23 #[.agg #[.bool (x.d != 0), .slice e1 e2 e3, .slice k1 k2 k3, .int .i64 (Sq.least x.d x.t), .int .i64 ((Sq.ents x.d x.t).length : Nat)]] w' (TabsPost w' (Sq.tabsOf x)) := fun w' hb => Tables_any x.d x.t _ _ w' (h.below hb) hg.ok.kids (by omega) (hel 0) (her 0)
  have hks : ∀ w', Below w.heap.size w w' → Calls Tryz.prog 25 #[.agg #[.bool (x.d != 0), .slice e1 e2 e3, .slice k1 k2 k3, .int .i64 (Sq.least x.d x.t), .int .i64 ((Sq.ents x.d x.t).length : Nat)]] w' fun e w'' => e = .returned (.int .i64 ((Sq.ents x.d x.t).length : Nat)) ∧ Below w'.heap.size w' w'' := fun w' hb => Size_any x.d x.t _ _ w' (h.below hb)
  have hkr : ∀ (t : Sq.TabN) (tv : Value) w', t ∈ Sq.tabsOf x → Below w.heap.size w w' → ColsAt w' tv t.cols → Calls Tryz.prog 30 #[.agg #[.bool (x.d != 0), .slice e1 e2 e3, .slice k1 k2 k3, .int .i64 (Sq.least x.d x.t), .int .i64 ((Sq.ents x.d x.t).length : Nat)], .agg #[.int .i64 t.number, .string t.name, tv]] w' (RowsPost w' (Sq.rowsOf x t)) := fun t tv w' ht hb hc => Rows_any x.d x.t _ _ t tv w' (h.below hb) hg.ok.kids (by omega) (hg.tabs t ht).1 (hg.tabs t ht).2 hc (by have := Sq.tabsOf_cols t ht; omega) (hel t.number) (her t.number)
  have hki : ∀ (t : Sq.TabN) (vv : Value) (vals : List Sq.Val) w', t ∈ Sq.tabsOf x → Below w.heap.size w w' → RowAt w' vv vals → (∀ v ∈ vals, Sq.okVal v) → Calls Tryz.prog 28 #[.agg #[.bool (x.d != 0), .slice e1 e2 e3, .slice k1 k2 k3, .int .i64 (Sq.least x.d x.t), .int .i64 ((Sq.ents x.d x.t).length : Nat)], .int .i64 t.number, vv] w' (OutPost w' (Sq.insertN x t.number vals)) := fun t vv vals w' ht hb hv hok => einsert_any x _ _ vv t.number vals w' (h.below hb) hg.ok.kids (by omega) (hg.tabs t ht).1 (hg.tabs t ht).2 hv (fun v hv => ⟨(hok v hv).2.2, (hok v hv).1, (hok v hv).2.1⟩) (hT.below hb)
  have hrk : ∀ t, ∀ r ∈ Sq.rowsOf x t, Sq.okRow r := Sq.rowsOf_ok hg
  have hrl : ∀ t, (Sq.rowsOf x t).length ≤ 100 := Sq.rowsOf_len hg
  have hcl : ∀ t ∈ Sq.tabsOf x, t.cols.length ≤ 4 := Sq.tabsOf_cols
  clear h hg hfew hel her
  generalize Sq.insertN x = inf at *
  generalize Sq.rowsOf x = rf at *
  generalize Sq.decideN x sql = out at *
  generalize Sq.tabsOf x = ts at *
  generalize Sq.least x.d x.t = q3 at *
  generalize (Sq.ents x.d x.t).length = q4 at *
  generalize (x.d != 0) = bn at *
  have HE := hd hE
  have HKT := hd hkt
  have HKS := hd hks
  have HKR := hd hkr
  have HKI := hd hki
  have HRK := hd hrk
  have HRL := hd hrl
  have HCL := hd hcl
  have HT := hd hT
  have HK := hd hp
  clear hE hkt hks hkr hki hrk hrl hcl hT hp
  obtain ⟨W, hW⟩ : ∃ W : World, W = (w.alloc (.cells #[.bool bn, .slice e1 e2 e3, .slice k1 k2 k3, .int .i64 q3, .int .i64 (q4 : Nat)] 46)).alloc (.cells #[.string ⟨#[]⟩, .bool false, .string ⟨#[]⟩, .slice none 0 0, .int .i64 0, .slice none 0 0, .slice none 0 0] 56) := ⟨_, rfl⟩
  obtain ⟨hbW, hbox, hbo⟩ := two_stores hW
  have hzW := lt_blk hbo
  have HBW := hd hbW
  have HBO : Hid (W.heap[w.heap.size + 1]? = some (.cells out0 56)) := hbo
  have HBOX := hd hbox
  clear hbW hbo hbox
  go_enter Tryz.func18, Tryz.ntmps18
  go_wp2_with fail
  rw [← hW]
  clear hW
  refine (Parse_any sql _).mono ?_
  rintro e w1 ⟨hb1, r, rfl, hst⟩
  have hst2 := StmAt.of hst HK.out
  have hE := HE.out
  have hk := HK.out
  clear HE HK hst
  generalize (Sq.parse sql).2 = st at *
  generalize (Sq.parse sql).1 = pe at *
  have HE := hd hE
  have HK := hd hk
  obtain ⟨cvx, vvx, svx, ivx, wvx⟩ := r
  obtain ⟨q5, c5, hcv⟩ := ownsRow_slice hst2.cols.1
  obtain ⟨q6, c6, hvv⟩ := ownsRow_slice hst2.vals
  obtain ⟨q7, c7, hsv⟩ := ownsRow_slice hst2.sets.1
  obtain ⟨q9, c9, hiv⟩ := ownsRow_slice hst2.items.1
  obtain ⟨q10, c10, hwv⟩ := ownsRow_slice hst2.wher
  dsimp only at hcv hvv hsv hiv hwv
  subst hcv hvv hsv hiv hwv
  obtain ⟨hpb0, hpb1⟩ := hpb
  have hA1 : Below w1.heap.size w1 (w1.alloc (.cells #[.int .i64 st.act, .string st.table, .slice q5 st.cols.length c5, .slice q6 st.vals.length c6, .slice q7 st.sets.length c7, .int .i64 st.shw, .slice q9 st.items.length c9, .slice q10 st.wher.length c10] 65)) := (Below.refl _ _).alloc (Nat.le_refl _) _
  have hz1 := hb1.size
  have HC0 : Hid (Dctx w #[.bool bn, .slice e1 e2 e3, .slice k1 k2 k3, .int .i64 q3, .int .i64 (q4 : Nat)] w1.heap.size st ⟨.slice q5 st.cols.length c5, .slice q6 st.vals.length c6, .slice q7 st.sets.length c7, .slice q9 st.items.length c9, .slice q10 st.wher.length c10⟩ (w1.alloc (.cells #[.int .i64 st.act, .string st.table, .slice q5 st.cols.length c5, .slice q6 st.vals.length c6, .slice q7 st.sets.length c7, .int .i64 st.shw, .slice q9 st.items.length c9, .slice q10 st.wher.length c10] 65))) :=
    ⟨HBW.out.trans ((hb1.mono (by omega)).trans (hA1.mono (by omega))), (hA1.block _ (by omega)).trans ((hb1.block _ (by omega)).trans HBOX.out), (hA1.block _ (by omega)).trans ((hb1.block _ (by omega)).trans HBO.out), alloc_at _ _, hst2.below hA1⟩
  obtain ⟨y0, y1, y2, y3, y4⟩ := store5 ((hb1.block w.heap.size (by omega)).trans HBOX.out)
  have hzs : w.heap.size < w1.heap.size := by omega
  clear hb1 hst2 hE hk hA1 HBW HBO HBOX
  unfold stmCells
  cases h0 : pe != 0
  case true =>
    have HE2 : Hid (out = Sq.refused pe) := by show _ = _; rw [HE.out, h0]; rfl
    go_wp2_with fail
    refine (refusedP_any pe _ (by omega) (by omega) (HT.out.below HC0.out.below)).mono ?_
    rintro e w9 ⟨cv9, pv9, kv9, rfl, ho9, hb9⟩
    obtain ⟨o9, ho9e⟩ : ∃ x, x = Sq.refused pe := ⟨_, rfl⟩
    have HE9 : Hid (out = o9) := by show _ = _; rw [HE2.out]; exact ho9e.symm
    rw [← ho9e] at ho9 ⊢
    obtain ⟨xo9, xc9, rfl⟩ := ownsRow_slice ho9.cols.1
    obtain ⟨yo9, yc9, rfl⟩ := ho9.puts.slice
    obtain ⟨zo9, zc9, rfl⟩ := ownsRow_slice ho9.cuts
    have HC9 := hd (HC0.out.next hb9)
    have HO9 := hd ho9
    obtain ⟨d0, d1, d2, d3, d4, d5, d6⟩ := seven_cells HC9.out.out
    obtain ⟨f0, f1, f2, f3, f4, f5, f6⟩ := seven_frozen HC9.out.out
    have hz10 := lt_blk HC9.out.out
    clear hb9 ho9 ho9e
    unfold outCells
    go_wp2
    refine bodyPost_ret (v := .agg (outCells o9 (.slice xo9 o9.cols.length xc9) (.slice yo9 o9.puts.length yc9) (.slice zo9 o9.cuts.length zc9))) (by simp [results, Tryz.results18, go_sem, outCells, *]) rfl ⟨_, _, _, by rw [HE9.out], ?_, ?_⟩
    · rw [HE9.out]
      exact HO9.out.out HC9.out.out (fun g hg => set7_other _ _ _ _ _ _ _ _ _ hg)
    · exact set7_below HC9.out.below (by omega) _ _ _ _ _ _ _
  case false =>
    have hE := HE.out
    rw [h0, if_neg (by decide)] at hE
    clear HE
    have HE := hd hE
    clear hE
    go_wp2_with fail
    refine (HKT.out _ HC0.out.below).mono ?_
    rintro e w2 ⟨tv, l, rfl, hts, htown, hb2⟩
    obtain ⟨lo, lcap, rfl⟩ := ownsRow_slice htown.own
    have HC2 := hd (HC0.out.next hb2)
    have HTO := hd (htown.base (Nat.zero_le _))
    have HTS := hd hts
    clear hb2 htown hts HC0
    obtain ⟨b0, b1, b2, b3, b4, b5, b6, b7⟩ := stm_cells HC2.out.stm
    obtain ⟨s0, s1, s2, s3, s4⟩ := store5 HC2.out.sto
    have hz2 := lt_blk HC2.out.stm
    have hz3 := lt_blk HC2.out.sto
    have hz4 := lt_blk HC2.out.out
    cases h1 : st.act == 1
    case true =>
      have HE2 : Hid (out = Sq.createN (l.map Prod.fst) q4 st) := by show _ = _; rw [HE.out, h1, HTS.out]; rfl
      go_wp2
      go_region_with (first
        | (go_at_call 25; refine (HKS.out _ HC2.out.below.drew).mono ?_; rintro e w3 ⟨rfl, hb3⟩; have HC3 := hd (HC2.out.next ((Below.drew (Below.refl _ _)).trans hb3)); have HB3 := hd ((Below.drew (Below.refl w2.heap.size w2)).trans hb3); clear hb3; obtain ⟨g0, g1, g2, g3, g4, g5, g6, g7⟩ := stm_cells HC3.out.stm; have hz5 := lt_blk HC3.out.stm; have hz6 := lt_blk HC3.out.out)
        | (go_at_call 24; refine (ecreate_any l _ q4 st ⟨.slice q5 st.cols.length c5, .slice q6 st.vals.length c6, .slice q7 st.sets.length c7, .slice q9 st.items.length c9, .slice q10 st.wher.length c10⟩ _ (HTO.out.below HB3.out) HC3.out.at_ (HT.out.below HC3.out.below)).mono ?_; rintro e w9 ⟨cv9, pv9, kv9, rfl, ho9, hb9⟩; obtain ⟨o9, ho9e⟩ : ∃ x, x = Sq.createN (l.map Prod.fst) q4 st := ⟨_, rfl⟩; have HE9 : Hid (out = o9) := (by show _ = _; rw [HE2.out]; exact ho9e.symm); rw [← ho9e] at ho9 ⊢; obtain ⟨xo9, xc9, rfl⟩ := ownsRow_slice ho9.cols.1; obtain ⟨yo9, yc9, rfl⟩ := ho9.puts.slice; obtain ⟨zo9, zc9, rfl⟩ := ownsRow_slice ho9.cuts; have HC9 := hd (HC3.out.next hb9); have HO9 := hd ho9; obtain ⟨d0, d1, d2, d3, d4, d5, d6⟩ := seven_cells HC9.out.out; obtain ⟨f0, f1, f2, f3, f4, f5, f6⟩ := seven_frozen HC9.out.out; have hz10 := lt_blk HC9.out.out; clear hb9 ho9 ho9e; unfold outCells))
      all_goals (try go_wp2_with fail)
      all_goals (refine bodyPost_ret (v := .agg (outCells o9 (.slice xo9 o9.cols.length xc9) (.slice yo9 o9.puts.length yc9) (.slice zo9 o9.cuts.length zc9))) (by simp [results, Tryz.results18, go_sem, outCells, *]) rfl ⟨_, _, _, by rw [HE9.out], ?_, ?_⟩)
      all_goals first
        | exact set7_below HC9.out.below (by omega) _ _ _ _ _ _ _
        | (rw [HE9.out]; exact HO9.out.out HC9.out.out (fun g hg => set7_other _ _ _ _ _ _ _ _ _ hg))
    case false =>
      have hE := HE.out
      rw [h1, if_neg (by decide)] at hE
      clear HE
      have HE := hd hE
      clear hE
      go_wp2_with fail
      refine (FindTab_any l _ st.table _ HTO.out).mono ?_
      rintro e w3 ⟨fcv, rfl, hcf, hb3⟩
      obtain ⟨fao, fcap, rfl⟩ := ownsRow_slice hcf.1
      have HC3 := hd (HC2.out.next hb3)
      have HCF := hd hcf
      have hE := HE.out
      rw [← HTS.out] at hE
      clear HE
      have HMEM : Hid (∀ t, Sq.findN st.table (l.map Prod.fst) = some t → t ∈ ts) := fun t ht => by rw [← HTS.out]; exact Sq.findN_mem ht
      have hmem := HMEM.out
      have hcf2 := HCF.out
      clear hb3 hcf HC2 HMEM HCF b0 b1 b2 b3 b4 b5 b6 b7 s0 s1 s2 s3 s4 hz2 hz3 hz4 HTS
      generalize Sq.findN st.table (l.map Prod.fst) = fo at *
      cases fo with
      | none =>
        have HE2 : Hid (out = Sq.refused 4) := hE
        clear hE hmem hcf2
        simp only [Option.getD_none, Option.isSome_none]
        have hA3 : Below w3.heap.size w3 (w3.alloc (.cells #[.int .i64 Sq.noTab.number, .string Sq.noTab.name, .slice fao Sq.noTab.cols.length fcap] 74)) := (Below.refl _ _).alloc (Nat.le_refl _) _
        have HC4 := hd (HC3.out.next hA3)
        clear hA3 HC3
        go_wp2_with fail
        refine (refusedP_any 4 _ (by omega) (by omega) (HT.out.below HC4.out.below)).mono ?_
        rintro e w9 ⟨cv9, pv9, kv9, rfl, ho9, hb9⟩
        obtain ⟨o9, ho9e⟩ : ∃ x, x = Sq.refused 4 := ⟨_, rfl⟩
        have HE9 : Hid (out = o9) := by show _ = _; rw [HE2.out]; exact ho9e.symm
        rw [← ho9e] at ho9 ⊢
        obtain ⟨xo9, xc9, rfl⟩ := ownsRow_slice ho9.cols.1
        obtain ⟨yo9, yc9, rfl⟩ := ho9.puts.slice
        obtain ⟨zo9, zc9, rfl⟩ := ownsRow_slice ho9.cuts
        have HC9 := hd (HC4.out.next hb9)
        have HO9 := hd ho9
        obtain ⟨d0, d1, d2, d3, d4, d5, d6⟩ := seven_cells HC9.out.out
        obtain ⟨f0, f1, f2, f3, f4, f5, f6⟩ := seven_frozen HC9.out.out
        have hz10 := lt_blk HC9.out.out
        clear hb9 ho9 ho9e
        unfold outCells
        go_wp2
        refine bodyPost_ret (v := .agg (outCells o9 (.slice xo9 o9.cols.length xc9) (.slice yo9 o9.puts.length yc9) (.slice zo9 o9.cuts.length zc9))) (by simp [results, Tryz.results18, go_sem, outCells, *]) rfl ⟨_, _, _, by rw [HE9.out], ?_, ?_⟩
        · rw [HE9.out]
          exact HO9.out.out HC9.out.out (fun g hg => set7_other _ _ _ _ _ _ _ _ _ hg)
        · exact set7_below HC9.out.below (by omega) _ _ _ _ _ _ _
      | some t =>
        simp only [Option.getD_some, Option.isSome_some] at hcf2 hE ⊢
        have htm := hmem t rfl
        have hA3 : Below w3.heap.size w3 (w3.alloc (.cells #[.int .i64 t.number, .string t.name, .slice fao t.cols.length fcap] 74)) := (Below.refl _ _).alloc (Nat.le_refl _) _
        have HC4 := hd (HC3.out.next hA3)
        have HCT := hd (hcf2.below hA3)
        have HTM := hd htm
        have HTB : Hid ((w3.alloc (.cells #[.int .i64 t.number, .string t.name, .slice fao t.cols.length fcap] 74)).heap[w3.heap.size]? = some (.cells #[.int .i64 t.number, .string t.name, .slice fao t.cols.length fcap] 74)) := alloc_at _ _
        have HE := hd hE
        have hcb := Sq.check_bd t.cols st
        have hck := check_any t.cols (.slice fao t.cols.length fcap) st ⟨.slice q5 st.cols.length c5, .slice q6 st.vals.length c6, .slice q7 st.sets.length c7, .slice q9 st.items.length c9, .slice q10 st.wher.length c10⟩
        clear hA3 HC3 hmem htm hcf2 hE
        have HCK := hd hck
        obtain ⟨b0, b1, b2, b3, b4, b5, b6, b7⟩ := stm_cells HC4.out.stm
        have hz2 := lt_blk HC4.out.stm
        have hz3 := lt_blk HTB.out
        clear hck
        go_wp2_with fail
        refine (HCK.out _ HCT.out HC4.out.at_).mono ?_
        rintro e w4 ⟨rfl, hb4⟩
        have hE := HE.out
        have HC5 := hd (HC4.out.next hb4)
        have HCT5 := hd (HCT.out.below hb4)
        have HTB5 := hd ((hb4.block _ hz3).trans HTB.out)
        clear hb4 HCK HE HC4 HCT HTB b0 b1 b2 b3 b4 b5 b6 b7 hz2 hz3
        generalize Sq.check t.cols st = ce at *
        have HE := hd hE
        clear hE
        obtain ⟨b0, b1, b2, b3, b4, b5, b6, b7⟩ := stm_cells HC5.out.stm
        obtain ⟨s0, s1, s2, s3, s4⟩ := store5 HC5.out.sto
        obtain ⟨t0, t1, t2, -, -, -⟩ := tab3 HTB5.out
        have hz2 := lt_blk HC5.out.stm
        have hz3 := lt_blk HTB5.out
        have hz4 := lt_blk HC5.out.sto
        have hz5 := lt_blk HC5.out.out
        cases h2 : ce != 0
        case true =>
          have HE2 : Hid (out = Sq.refused ce) := by show _ = _; rw [HE.out, h2]; rfl
          go_wp2_with fail
          refine (refusedP_any ce _ (by omega) (by omega) (HT.out.below HC5.out.below)).mono ?_
          rintro e w9 ⟨cv9, pv9, kv9, rfl, ho9, hb9⟩
          obtain ⟨o9, ho9e⟩ : ∃ x, x = Sq.refused ce := ⟨_, rfl⟩
          have HE9 : Hid (out = o9) := by show _ = _; rw [HE2.out]; exact ho9e.symm
          rw [← ho9e] at ho9 ⊢
          obtain ⟨xo9, xc9, rfl⟩ := ownsRow_slice ho9.cols.1
          obtain ⟨yo9, yc9, rfl⟩ := ho9.puts.slice
          obtain ⟨zo9, zc9, rfl⟩ := ownsRow_slice ho9.cuts
          have HC9 := hd (HC5.out.next hb9)
          have HO9 := hd ho9
          obtain ⟨d0, d1, d2, d3, d4, d5, d6⟩ := seven_cells HC9.out.out
          obtain ⟨f0, f1, f2, f3, f4, f5, f6⟩ := seven_frozen HC9.out.out
          have hz10 := lt_blk HC9.out.out
          clear hb9 ho9 ho9e
          unfold outCells
          go_wp2
          refine bodyPost_ret (v := .agg (outCells o9 (.slice xo9 o9.cols.length xc9) (.slice yo9 o9.puts.length yc9) (.slice zo9 o9.cuts.length zc9))) (by simp [results, Tryz.results18, go_sem, outCells, *]) rfl ⟨_, _, _, by rw [HE9.out], ?_, ?_⟩
          · rw [HE9.out]
            exact HO9.out.out HC9.out.out (fun g hg => set7_other _ _ _ _ _ _ _ _ _ hg)
          · exact set7_below HC9.out.below (by omega) _ _ _ _ _ _ _
        case false =>
          have hE := HE.out
          rw [h2, if_neg (by decide)] at hE
          clear HE
          have HE := hd hE
          clear hE
          cases h3 : st.act == 2
          case true =>
            have HE2 : Hid (out = inf t.number st.vals) := by show _ = _; rw [HE.out, h3]; rfl
            go_wp2_with fail
            refine (HKI.out t _ st.vals _ HTM.out HC5.out.below ⟨HC5.out.at_.vals, HC5.out.at_.nvals⟩ HK.out.okv).mono ?_
            rintro e w9 ⟨cv9, pv9, kv9, rfl, ho9, hb9⟩
            obtain ⟨o9, ho9e⟩ : ∃ x, x = inf t.number st.vals := ⟨_, rfl⟩
            have HE9 : Hid (out = o9) := by show _ = _; rw [HE2.out]; exact ho9e.symm
            rw [← ho9e] at ho9 ⊢
            obtain ⟨xo9, xc9, rfl⟩ := ownsRow_slice ho9.cols.1
            obtain ⟨yo9, yc9, rfl⟩ := ho9.puts.slice
            obtain ⟨zo9, zc9, rfl⟩ := ownsRow_slice ho9.cuts
            have HC9 := hd (HC5.out.next hb9)
            have HO9 := hd ho9
            obtain ⟨d0, d1, d2, d3, d4, d5, d6⟩ := seven_cells HC9.out.out
            obtain ⟨f0, f1, f2, f3, f4, f5, f6⟩ := seven_frozen HC9.out.out
            have hz10 := lt_blk HC9.out.out
            clear hb9 ho9 ho9e
            unfold outCells
            go_wp2
            refine bodyPost_ret (v := .agg (outCells o9 (.slice xo9 o9.cols.length xc9) (.slice yo9 o9.puts.length yc9) (.slice zo9 o9.cuts.length zc9))) (by simp [results, Tryz.results18, go_sem, outCells, *]) rfl ⟨_, _, _, by rw [HE9.out], ?_, ?_⟩
            · rw [HE9.out]
              exact HO9.out.out HC9.out.out (fun g hg => set7_other _ _ _ _ _ _ _ _ _ hg)
            · exact set7_below HC9.out.below (by omega) _ _ _ _ _ _ _
          case false =>
            have hE := HE.out
            rw [h3, if_neg (by decide)] at hE
            clear HE
            have hml := List.length_filter_le (fun row => Sq.meets t.cols row st.wher) (rf t)
            have hmo : ∀ r ∈ Sq.metN t.cols (rf t) st.wher, Sq.okRow r := fun r hr => HRK.out t r (List.mem_filter.1 hr).1
            have hrl := HRL.out t
            have hmk : ∀ (rv : Value) w', ColsAt w' (.slice fao t.cols.length fcap) t.cols → RowsOwn 0 w' rv (rf t) → StepsAt w' (.slice q10 st.wher.length c10) st.wher → Calls Tryz.prog 29 #[.slice fao t.cols.length fcap, rv, .slice q10 st.wher.length c10] w' fun e w'' => ∃ v, e = .returned v ∧ RowsOwn w'.heap.size w'' v (Sq.metN t.cols (rf t) st.wher) ∧ Below w'.heap.size w' w'' := fun rv w' hc hr hs => meeting_any t.cols (rf t) st.wher _ rv _ w' hc hr (by omega) hs (by have := HK.out.wher; omega)
            change (Sq.metN t.cols (rf t) st.wher).length ≤ _ at hml
            generalize Sq.metN t.cols (rf t) st.wher = met at *
            have hmet : met.length ≤ 100 := by omega
            have HE := hd hE
            have HMO := hd hmo
            have HMK := hd hmk
            clear hE hmo hmk hml hrl
            go_wp2
            go_cut [10] from 57 (fun v wx => ∃ mo mcap, v = .slice mo met.length mcap ∧ RowsOwn 0 wx (.slice mo met.length mcap) met ∧ Below w4.heap.size w4 wx)
            case first =>
              go_region_with (first
                | (go_at_call 30; refine (HKR.out t _ _ HTM.out HC5.out.below.drew (HCT5.out.below (Below.drew (Below.refl _ _)))).mono ?_; rintro e w5 ⟨rv, rfl, hr5, hb5⟩; have hb5' := (Below.drew (Below.refl w4.heap.size w4)).trans hb5; obtain ⟨ro, rcap, rfl⟩ := hr5.slice; have HR5 := hd (hr5.base (Nat.zero_le _)); have HB5 := hd hb5'; have HC6 := hd (HC5.out.next hb5'); have HT6 := hd ((hb5'.block _ hz3).trans HTB5.out); obtain ⟨g0, g1, g2, g3, g4, g5, g6, g7⟩ := stm_cells HC6.out.stm; obtain ⟨u0, u1, u2, -, -, -⟩ := tab3 HT6.out; have hz6 := lt_blk HC6.out.stm; have hz7 := lt_blk HT6.out; clear hb5 hb5' hr5)
                | (go_at_call 29; refine (HMK.out _ _ (HCT5.out.below HB5.out) HR5.out HC6.out.at_.steps).mono ?_; rintro e w6 ⟨mv, rfl, hm6, hb6⟩; obtain ⟨mo6, mcap6, rfl⟩ := hm6.slice; have HM6 := hd (hm6.base (Nat.zero_le _)); have HB6 := hd (HB5.out.trans (hb6.mono HB5.out.size)); clear hm6 hb6))
              all_goals (try go_wp2_with fail)
              all_goals go_meet
              all_goals exact ⟨_, _, rfl, HM6.out, HB6.out⟩
            case rest =>
              obtain ⟨mo, mcap, rfl, hm, hbc⟩ := hcut
              have HC7 := hd (HC5.out.next hbc)
              have HTB7 := hd ((hbc.block _ hz3).trans HTB5.out)
              have HCT7 := hd (HCT5.out.below hbc)
              have HM := hd hm
              clear hm hbc HC5 HTB5 HCT5 b0 b1 b2 b3 b4 b5 b6 b7 s0 s1 s2 s3 s4 t0 t1 t2 hz2 hz4 hz5
              obtain ⟨b0, b1, b2, b3, b4, b5, b6, b7⟩ := stm_cells HC7.out.stm
              obtain ⟨t0, t1, t2, -, -, -⟩ := tab3 HTB7.out
              have hz2 := lt_blk HC7.out.stm
              have hz4 := lt_blk HTB7.out
              have hz5 := lt_blk HC7.out.out
              cases h4 : st.act == 3
              case true =>
                have HE2 : Hid (out = Sq.updateN t.number t.cols met st.sets) := by show _ = _; rw [HE.out, h4]; rfl
                go_wp2_with fail
                refine (eupdate_any t.number t.name t.cols met st.sets _ _ _ _ HCT7.out HM.out HC7.out.at_.sets (HT.out.below HC7.out.below) HMO.out HK.out.oks (by omega)).mono ?_
                rintro e w9 ⟨cv9, pv9, kv9, rfl, ho9, hb9⟩
                obtain ⟨o9, ho9e⟩ : ∃ x, x = Sq.updateN t.number t.cols met st.sets := ⟨_, rfl⟩
                have HE9 : Hid (out = o9) := by show _ = _; rw [HE2.out]; exact ho9e.symm
                rw [← ho9e] at ho9 ⊢
                obtain ⟨xo9, xc9, rfl⟩ := ownsRow_slice ho9.cols.1
                obtain ⟨yo9, yc9, rfl⟩ := ho9.puts.slice
                obtain ⟨zo9, zc9, rfl⟩ := ownsRow_slice ho9.cuts
                have HC9 := hd (HC7.out.next hb9)
                have HO9 := hd ho9
                obtain ⟨d0, d1, d2, d3, d4, d5, d6⟩ := seven_cells HC9.out.out
                obtain ⟨f0, f1, f2, f3, f4, f5, f6⟩ := seven_frozen HC9.out.out
                have hz10 := lt_blk HC9.out.out
                clear hb9 ho9 ho9e
                unfold outCells
                go_wp2
                refine bodyPost_ret (v := .agg (outCells o9 (.slice xo9 o9.cols.length xc9) (.slice yo9 o9.puts.length yc9) (.slice zo9 o9.cuts.length zc9))) (by simp [results, Tryz.results18, go_sem, outCells, *]) rfl ⟨_, _, _, by rw [HE9.out], ?_, ?_⟩
                · rw [HE9.out]
                  exact HO9.out.out HC9.out.out (fun g hg => set7_other _ _ _ _ _ _ _ _ _ hg)
                · exact set7_below HC9.out.below (by omega) _ _ _ _ _ _ _
              case false =>
                cases h5 : st.act == 4
                case true =>
                  have HE2 : Hid (out = Sq.removeN t.number met) := by show _ = _; rw [HE.out, h4, h5]; rfl
                  go_wp2_with fail
                  refine (remove_any t.number met _ _ HM.out (HT.out.below HC7.out.below) (by omega)).mono ?_
                  rintro e w9 ⟨cv9, pv9, kv9, rfl, ho9, hb9⟩
                  obtain ⟨o9, ho9e⟩ : ∃ x, x = Sq.removeN t.number met := ⟨_, rfl⟩
                  have HE9 : Hid (out = o9) := by show _ = _; rw [HE2.out]; exact ho9e.symm
                  rw [← ho9e] at ho9 ⊢
                  obtain ⟨xo9, xc9, rfl⟩ := ownsRow_slice ho9.cols.1
                  obtain ⟨yo9, yc9, rfl⟩ := ho9.puts.slice
                  obtain ⟨zo9, zc9, rfl⟩ := ownsRow_slice ho9.cuts
                  have HC9 := hd (HC7.out.next hb9)
                  have HO9 := hd ho9
                  obtain ⟨d0, d1, d2, d3, d4, d5, d6⟩ := seven_cells HC9.out.out
                  obtain ⟨f0, f1, f2, f3, f4, f5, f6⟩ := seven_frozen HC9.out.out
                  have hz10 := lt_blk HC9.out.out
                  clear hb9 ho9 ho9e
                  unfold outCells
                  go_wp2
                  refine bodyPost_ret (v := .agg (outCells o9 (.slice xo9 o9.cols.length xc9) (.slice yo9 o9.puts.length yc9) (.slice zo9 o9.cuts.length zc9))) (by simp [results, Tryz.results18, go_sem, outCells, *]) rfl ⟨_, _, _, by rw [HE9.out], ?_, ?_⟩
                  · rw [HE9.out]
                    exact HO9.out.out HC9.out.out (fun g hg => set7_other _ _ _ _ _ _ _ _ _ hg)
                  · exact set7_below HC9.out.below (by omega) _ _ _ _ _ _ _
                case false =>
                  have HE2 : Hid (out = ⟨Sq.showN t.cols met st, false, Sq.nobytes, [], 0, [], []⟩) := by show _ = _; rw [HE.out, h4, h5]; rfl
                  have hcl := HCL.out t HTM.out
                  go_wp2_with fail
                  refine (show_any t.cols met _ _ st ⟨.slice q5 st.cols.length c5, .slice q6 st.vals.length c6, .slice q7 st.sets.length c7, .slice q9 st.items.length c9, .slice q10 st.wher.length c10⟩ _ HCT7.out HM.out HC7.out.at_ (HT.out.below HC7.out.below) HMO.out (by omega) (by omega) HK.out.items).mono ?_
                  rintro e w9 ⟨rfl, hb9⟩
                  have HC9 := hd (HC7.out.next hb9)
                  obtain ⟨d0, d1, d2, d3, d4, d5, d6⟩ := seven_cells HC9.out.out
                  obtain ⟨f0, f1, f2, f3, f4, f5, f6⟩ := seven_frozen HC9.out.out
                  have hz10 := lt_blk HC9.out.out
                  clear hb9
                  go_wp2
                  refine bodyPost_ret (v := .agg (outCells ⟨Sq.showN t.cols met st, false, Sq.nobytes, [], 0, [], []⟩ (.slice none 0 0) (.slice none 0 0) (.slice none 0 0))) (by simp [results, Tryz.results18, go_sem, outCells, Sq.nobytes, *]) rfl ⟨_, _, _, by rw [HE2.out], by rw [HE2.out]; exact OutAt.none _ _ rfl rfl rfl, ?_⟩
                  exact set7_below HC9.out.below (by omega) _ _ _ _ _ _ _

end Go.Proofs.YtamkfbelpfpjcaaGreatDoor
