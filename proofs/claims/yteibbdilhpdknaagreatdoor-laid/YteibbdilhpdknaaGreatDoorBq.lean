import Derived.Test.YteibbdilhpdknaaGreatDoorBo
import Derived.Test.YteibbdilhpdknaaGreatDoorBp
set_option linter.unusedVariables false
set_option linter.unusedSimpArgs false

namespace Go.Proofs.YteibbdilhpdknaaGreatDoor
open Go.RowKit

theorem Sq.setRows_get (db : List Sq.Tab) (a : Nat) (rows : List (List Sq.Val)) (h : a < (Sq.setRows db a rows).length) : (Sq.setRows db a rows)[a].rows = rows := by
  have h' : a < db.length := by rw [Sq.setRows_length] at h; exact h
  have := Sq.rowsAt_set db a h' rows
  rw [Sq.rowsAt_lt _ a h] at this
  exact this
theorem Sq.putAll_snoc (puts : List (List Sq.Val)) (k : Nat) (h : k < puts.length) (rows : List (List Sq.Val)) : Sq.putAll (puts.take (k + 1)) rows = Sq.put puts[k] (Sq.putAll (puts.take k) rows) := by
  unfold Sq.putAll
  rw [List.take_succ_eq_append_getElem h, List.foldl_append]
  rfl
theorem Sq.cutAll_snoc (cuts : List Int) (k : Nat) (h : k < cuts.length) (rows : List (List Sq.Val)) : Sq.cutAll (cuts.take (k + 1)) rows = Sq.cutRows cuts[k] (Sq.cutAll (cuts.take k) rows) := by
  unfold Sq.cutAll
  rw [List.take_succ_eq_append_getElem h, List.foldl_append]
  rfl
theorem Sq.putAll_le : ∀ (puts rows : List (List Sq.Val)), (Sq.putAll puts rows).length ≤ rows.length + puts.length
  | [], rows => Nat.le_refl _
  | p :: r, rows => by
    have h1 := Sq.put_len p rows
    have h2 := Sq.putAll_le r (Sq.put p rows)
    simp only [List.length_cons]
    show (Sq.putAll r (Sq.put p rows)).length ≤ _
    omega
theorem Sq.apply_none (db : List Sq.Tab) (o : Sq.Out) (h1 : o.puts = []) (h2 : o.cuts = []) : Sq.apply db o = Sq.made db o := by
  unfold Sq.apply; rw [h1, h2]; exact Sq.setRows_same _ _
theorem Sq.apply_at (db : List Sq.Tab) (o : Sq.Out) (a : Nat) (hm : o.makes = false) (ht : o.table = a) : Sq.apply db o = Sq.setRows db a (Sq.cutAll o.cuts (Sq.putAll o.puts (Sq.rowsAt db a))) := by
  unfold Sq.apply Sq.made; rw [hm, ht]; rfl
theorem Frm.drew {sb : Nat} {w : World} (h : sb ≤ w.heap.size) : Frm sb w w.drew := Frm.of_below (Below.drew (Below.refl _ _)) h
theorem int_at {w : World} {v : Value} {l : List Int} (h : w.ownsRow 0 2 1 v l.length (l.map (Value.int .i64))) (k : Nat) (hk : k < l.length) : ∃ g cap, v = .slice (some ⟨g, 0, none⟩) l.length cap ∧ g < w.heap.size ∧ w.cell? ⟨g, k, none⟩ = some (.int .i64 l[k]) := by
  obtain ⟨g, cap, rfl, _, hlt⟩ := h.form (by omega)
  refine ⟨g, cap, rfl, hlt, ?_⟩
  have := h.cells (g := g) rfl k (.int .i64 l[k]) (by simp [hk])
  rwa [show (⟨g, 0, none⟩ : Addr).add k = ⟨g, k, none⟩ from by unfold Addr.add; split <;> simp_all] at this

set_option maxRecDepth 100000 in
set_option maxHeartbeats 4000000 in
theorem Apply_none (sb : Nat) (db : List Sq.Tab) (o : Sq.Out) (cv pv kv : Value) (w : World) (h : DB sb w db) (ho : OutAt w o cv pv kv) (hl : db.length + 1 ≤ 1000) (h1 : o.puts = []) (h2 : o.cuts = []) :
    Calls Tryz.prog 30 #[.pointer (some ⟨sb, 0, none⟩), .agg (outCells o cv pv kv)] w fun e w' => e = .returned (.tuple #[]) ∧ DB sb w' (Sq.apply db o) ∧ Frm sb w w' := by
  obtain ⟨po, pc, rfl⟩ := ho.puts.slice
  obtain ⟨ko, kc, rfl⟩ := ownsRow_slice ho.cuts
  have HE := hd (Sq.apply_none db o h1 h2)
  have hsb := h.lt
  unfold outCells
  rw [show o.puts.length = 0 by rw [h1]; rfl, show o.cuts.length = 0 by rw [h2]; rfl]
  have HO := hd ho
  have H := hd h
  have hW : ∀ q, Below w.heap.size w (w.alloc q) := fun q => (Below.refl _ _).alloc (Nat.le_refl _) _
  have HW := hd hW
  clear h ho h1 h2 hW
  cases hm : o.makes
  · have HM : Hid (Sq.made db o = db) := by show _ = _; unfold Sq.made; rw [hm]; rfl
    clear hm
    go_enter Tryz.func30, Tryz.ntmps30
    go_wp2
    go_loop [4] (fun i => i = .int .i64 0) (fun _ => 0)
    case atStart => rfl
    case round =>
      obtain rfl := hrel
      go_wp2
      go_loop [5] (fun i => i = .int .i64 0) (fun _ => 0)
      case atStart => rfl
      case round =>
        obtain rfl := hrel
        go_wp2
        go_end0
        refine ⟨rfl, ?_, Frm.of_below (HW.out _) (by omega)⟩
        rw [HE.out, HM.out]
        exact H.out.below (HW.out _)
  · have HM : Hid (Sq.made db o = db ++ [⟨o.name, o.cols, []⟩]) := by show _ = _; unfold Sq.made; rw [hm]; rfl
    clear hm
    go_enter Tryz.func30, Tryz.ntmps30
    go_wp2_with fail
    refine (Make_any sb db o.name o.cols _ _ (H.out.below (HW.out _)) (HO.out.cols.below (HW.out _)) hl).mono ?_
    rintro e w2 ⟨rfl, hdb2, hf2⟩
    have hblk := (hf2.other w.heap.size _ _ _ (heap_alloc_new w _) (by decide) (by decide)).trans (heap_alloc_new w _)
    have a5 := cell_blk hblk 5
    have a6 := cell_blk hblk 6
    simp at a5 a6
    have hz2 := hf2.below.size
    have hlt2 := lt_blk hblk
    have HDB2 := hd hdb2
    have HF2 := hd hf2
    clear hblk hdb2 hf2
    go_wp2
    go_loop [4] (fun i => i = .int .i64 0) (fun _ => 0)
    case atStart => rfl
    case round =>
      obtain rfl := hrel
      go_wp2
      go_loop [5] (fun i => i = .int .i64 0) (fun _ => 0)
      case atStart => rfl
      case round =>
        obtain rfl := hrel
        go_wp2
        go_end0
        refine ⟨rfl, ?_, (Frm.of_below (HW.out _) (by omega)).trans HF2.out⟩
        rw [HE.out, HM.out]
        exact HDB2.out

set_option maxRecDepth 100000 in
set_option maxHeartbeats 4000000 in
theorem Apply_at (sb : Nat) (db : List Sq.Tab) (o : Sq.Out) (cv pv kv : Value) (w : World) (h : DB sb w db) (ho : OutAt w o cv pv kv) (a : Nat) (hm : o.makes = false) (ht : o.table = a) (ha : a < db.length) (hf : (Sq.rowsAt db a).length + o.puts.length ≤ 1000) :
    Calls Tryz.prog 30 #[.pointer (some ⟨sb, 0, none⟩), .agg (outCells o cv pv kv)] w fun e w' => e = .returned (.tuple #[]) ∧ DB sb w' (Sq.apply db o) ∧ Frm sb w w' := by
  obtain ⟨po, pc, rfl⟩ := ho.puts.slice
  obtain ⟨ko, kc, rfl⟩ := ownsRow_slice ho.cuts
  have HE := hd (Sq.apply_at db o a hm ht)
  have hsb := h.lt
  unfold outCells
  rw [hm, ht]
  have hnp := ho.nputs
  have hnc := ho.ncuts
  have HO := hd ho
  have H := hd h
  have hW : ∀ q, Below w.heap.size w (w.alloc q) := fun q => (Below.refl _ _).alloc (Nat.le_refl _) _
  have HW := hd hW
  obtain ⟨rows0, hr0⟩ : ∃ x, x = Sq.rowsAt db a := ⟨_, rfl⟩
  rw [← hr0] at hf
  have HR0 := hd hr0
  obtain ⟨cells, hcells⟩ : ∃ c : Array Value, c = #[.string o.reply, .bool false, .string o.name, cv, .int .i64 (a : Int), .slice po o.puts.length pc, .slice ko o.cuts.length kc] := ⟨_, rfl⟩
  have HCE := hd hcells
  have HNEW := hd (heap_alloc_new w (.cells cells 66))
  clear h ho hm ht hW hr0 hcells
  go_enter Tryz.func30, Tryz.ntmps30
  go_wp2
  obtain ⟨w0, hw0⟩ : ∃ x, x = w.alloc (.cells cells 66) := ⟨_, rfl⟩
  have hbw0 : Below w.heap.size w w0 := by rw [hw0]; exact HW.out _
  have hblk0 : w0.heap[w.heap.size]? = some (.cells cells 66) := by rw [hw0]; exact HNEW.out
  rw [HCE.out] at hw0
  rw [← hw0]
  have HBW0 := hd hbw0
  have HBLK0 := hd hblk0
  have hs0 : sb ≤ w0.heap.size := by have := hbw0.size; omega
  clear hw0 hbw0 hblk0
  go_loopw [4] (fun i wr => ∃ k : Nat, k ≤ o.puts.length ∧ i = .int .i64 k ∧ DB sb wr (Sq.setRows db a (Sq.putAll (o.puts.take k) rows0)) ∧ Frm sb w0 wr) (fun i _ => o.puts.length - (intOf i).toNat)
  case atStart =>
    refine ⟨0, Nat.zero_le _, rfl, ?_, Frm.refl _ _⟩
    show DB sb w0 (Sq.setRows db a rows0)
    rw [HR0.out, Sq.setRows_same]
    exact H.out.below HBW0.out
  case round =>
    obtain ⟨k, hk, rfl, hdb, hfr⟩ := hrel
    have hblk := (hfr.other w.heap.size _ _ _ HBLK0.out (by decide) (by decide)).trans HBLK0.out
    rw [HCE.out] at hblk
    have hltB := lt_blk hblk
    have a4 := cell_blk hblk 4
    have a5 := cell_blk hblk 5
    simp at a4 a5
    have hsw := hdb.lt
    have hout := (HO.out.below HBW0.out).frm hfr
    have HDB := hd hdb
    have HFR := hd hfr
    have HOUT := hd hout
    have HBLK := hd hblk
    clear hblk hdb hfr hout
    by_cases hlt : k < o.puts.length
    · obtain ⟨q, cap', xa, xc, hv, hq, c0, hrow⟩ := HOUT.out.puts.at k hlt
      simp only [Value.slice.injEq] at hv
      obtain ⟨rfl, -, rfl⟩ := hv
      have hps := Sq.putAll_snoc o.puts k hlt rows0
      have hpl := Sq.putAll_le (o.puts.take k) rows0
      have htk : (o.puts.take k).length = k := by rw [List.length_take]; omega
      rw [htk] at hpl
      obtain ⟨row, hrw⟩ : ∃ x, x = o.puts[k] := ⟨_, rfl⟩
      rw [← hrw] at c0 hrow hps
      obtain ⟨cur, hcur⟩ : ∃ x, x = Sq.putAll (o.puts.take k) rows0 := ⟨_, rfl⟩
      have hdb := HDB.out
      rw [← hcur] at hpl hps hdb
      have hal : a < (Sq.setRows db a cur).length := by rw [Sq.setRows_length]; exact ha
      have hgr := Sq.setRows_get db a cur hal
      have htw := Sq.setRows_twice db a cur
      have HPS := hd hps
      have HROW := hd hrow
      have HDB1 := hd hdb
      have HGR := hd hgr
      have HTW := hd htw
      have hgf : (Sq.setRows db a cur)[a].rows.length ≤ 1000 := by rw [hgr]; omega
      have HGF := hd hgf
      clear hrow hrw hcur hdb hgr htw hps htk hgf
      go_wp2_with fail
      go_region_with (go_at_call 45; refine (Put_any sb _ a row _ wr.drew (HDB1.out.below (Below.drew (Below.refl _ _))) (HROW.out.below (Below.drew (Below.refl _ _))) hal HGF.out).mono ?_; rintro e w2 ⟨rfl, hdb2, hf2⟩)
      all_goals
        have hn : Sq.setRows (Sq.setRows db a cur) a (Sq.put row (Sq.setRows db a cur)[a].rows) = Sq.setRows db a (Sq.putAll (o.puts.take (k + 1)) rows0) := by rw [HTW.out, HGR.out, HPS.out]
        rw [hn] at hdb2
        have HDB2 := hd hdb2
        have HF2 := hd ((HFR.out.trans (Frm.drew (by omega))).trans hf2)
        have hz2 := hf2.below.size
        clear hn hdb2 hf2 a4 a5 c0
        go_wp2
        go_roundw
        case rel => exact ⟨k + 1, by omega, by go_num, HDB2.out, HF2.out⟩
        case measure => simp [intOf]; omega
    · have hke : o.puts.take k = o.puts := List.take_of_length_le (by omega)
      have hdb := HDB.out
      rw [hke] at hdb
      obtain ⟨rows1, hr1⟩ : ∃ x, x = Sq.putAll o.puts rows0 := ⟨_, rfl⟩
      rw [← hr1] at hdb
      have HR1 := hd hr1
      have HDB0 := hd hdb
      clear hke hdb hr1
      have a6 := cell_blk HBLK.out 6
      simp at a6
      obtain ⟨w1, rfl⟩ : ∃ w1 : World, w1 = wr := ⟨_, rfl⟩
      go_wp2
      clear a4 a5 a6
      go_loopw [5] (fun i wr => ∃ k : Nat, k ≤ o.cuts.length ∧ i = .int .i64 k ∧ DB sb wr (Sq.setRows db a (Sq.cutAll (o.cuts.take k) rows1)) ∧ Frm sb w0 wr) (fun i _ => o.cuts.length - (intOf i).toNat)
      case atStart => exact ⟨0, Nat.zero_le _, rfl, HDB0.out, HFR.out⟩
      case round =>
        obtain ⟨j, hj, rfl, hdb, hfr⟩ := hrel
        have hblk := (hfr.other w.heap.size _ _ _ HBLK0.out (by decide) (by decide)).trans HBLK0.out
        rw [HCE.out] at hblk
        have hltC := lt_blk hblk
        have b4 := cell_blk hblk 4
        have b6 := cell_blk hblk 6
        simp at b4 b6
        have hsw2 := hdb.lt
        have hout := (HO.out.below HBW0.out).frm hfr
        have HDBj := hd hdb
        have HFRj := hd hfr
        have HOUTj := hd hout
        clear hblk hdb hfr hout
        by_cases hlt2 : j < o.cuts.length
        · obtain ⟨q, cap', hv, hq, c0⟩ := int_at HOUTj.out.cuts j hlt2
          simp only [Value.slice.injEq] at hv
          obtain ⟨rfl, -, rfl⟩ := hv
          have hps := Sq.cutAll_snoc o.cuts j hlt2 rows1
          obtain ⟨key, hkw⟩ : ∃ x, x = o.cuts[j] := ⟨_, rfl⟩
          rw [← hkw] at c0 hps
          obtain ⟨cur, hcur⟩ : ∃ x, x = Sq.cutAll (o.cuts.take j) rows1 := ⟨_, rfl⟩
          have hdb := HDBj.out
          rw [← hcur] at hps hdb
          have hal : a < (Sq.setRows db a cur).length := by rw [Sq.setRows_length]; exact ha
          have HGR := hd (Sq.setRows_get db a cur hal)
          have HTW := hd (Sq.setRows_twice db a cur)
          have HPS := hd hps
          have HDB1 := hd hdb
          clear hkw hcur hdb hps
          go_wp2
          go_region_with (go_at_call 46; refine (Cut_any sb _ a key wr.drew (HDB1.out.below (Below.drew (Below.refl _ _))) hal).mono ?_; rintro e w2 ⟨rfl, hdb2, hf2⟩)
          all_goals
            have hn : Sq.setRows (Sq.setRows db a cur) a (Sq.cutRows key (Sq.setRows db a cur)[a].rows) = Sq.setRows db a (Sq.cutAll (o.cuts.take (j + 1)) rows1) := by rw [HTW.out, HGR.out, HPS.out]
            rw [hn] at hdb2
            have HDB2 := hd hdb2
            have HF2 := hd ((HFRj.out.trans (Frm.drew (by omega))).trans hf2)
            have hz2 := hf2.below.size
            clear hn hdb2 hf2 b4 b6 c0
            go_wp2
            go_roundw
            case rel => exact ⟨j + 1, by omega, by go_num, HDB2.out, HF2.out⟩
            case measure => simp [intOf]; omega
        · have hke : o.cuts.take j = o.cuts := List.take_of_length_le (by omega)
          have hdb := HDBj.out
          rw [hke] at hdb
          have HDBe := hd hdb
          clear hke hdb
          go_wp2
          go_end0
          refine ⟨rfl, ?_, (Frm.of_below HBW0.out (by omega)).trans HFRj.out⟩
          rw [HE.out, ← HR0.out, ← HR1.out]
          exact HDBe.out

end Go.Proofs.YteibbdilhpdknaaGreatDoor

namespace Go.Proofs.YteibbdilhpdknaaGreatDoor
open Go.RowKit

theorem Sq.updateFrom_len (cols : List Sq.Col) (sets : List Sq.SetS) : ∀ (rows acc puts : List (List Sq.Val)), Sq.updateFrom cols sets rows acc = some puts → puts.length = acc.length + rows.length := by
  intro rows
  induction rows with
  | nil => intro acc puts h; rw [Sq.updateFrom] at h; simp at h; subst h; simp
  | cons x q ih =>
    intro acc puts h
    rw [Sq.updateFrom] at h
    split at h
    · have := ih _ _ h; simp at this ⊢; omega
    · simp at h
/-- What an outcome asks of the store. -/
def Sq.shaped (db : List Sq.Tab) (o : Sq.Out) : Prop := (o.puts = [] ∧ o.cuts = []) ∨ ∃ a : Nat, o.makes = false ∧ o.table = a ∧ a < db.length ∧ (Sq.rowsAt db a).length + o.puts.length ≤ 1000
theorem Sq.decide_shape {db : List Sq.Tab} (hg : Sq.good db) (sql : ByteArray) : Sq.shaped db (Sq.decide db sql) := by
  unfold Sq.decide
  split
  · exact Or.inl ⟨rfl, rfl⟩
  · unfold Sq.decideSt
    split
    · unfold Sq.create
      repeat (first | exact Or.inl ⟨rfl, rfl⟩ | split)
    · split
      · rename_i t hx
        split
        · exact Or.inl ⟨rfl, rfl⟩
        · rename_i h0
          obtain ⟨k, hk⟩ := Int.eq_ofNat_of_zero_le (show 0 ≤ Sq.findTab db (Sq.parse sql).2.table by omega)
          rw [hk] at hx ⊢
          rw [Int.toNat_natCast] at hx
          obtain ⟨hk', ht⟩ := List.getElem?_eq_some_iff.1 hx
          have hfew : (Sq.rowsAt db k).length ≤ 60 := by
            rw [Sq.rowsAt_lt db k hk']
            have h1 := Sq.rows_le_sum db db[k] (List.getElem_mem hk')
            have h2 := hg.size
            unfold Sq.dbSize at h2
            omega
          subst ht
          unfold Sq.decideTab
          split
          · exact Or.inl ⟨rfl, rfl⟩
          · split
            · unfold Sq.insert
              split
              · exact Or.inl ⟨rfl, rfl⟩
              · split
                · exact Or.inl ⟨rfl, rfl⟩
                · exact Or.inr ⟨k, rfl, rfl, hk', by show _ + 1 ≤ 1000; omega⟩
            · split
              · unfold Sq.update
                cases hu : Sq.updateFrom db[k].cols (Sq.parse sql).2.sets (Sq.meeting db[k] (Sq.parse sql).2.wher) [] with
                | none => exact Or.inl ⟨rfl, rfl⟩
                | some puts =>
                  have hl := Sq.updateFrom_len _ _ _ _ _ hu
                  have hm : (Sq.meeting db[k] (Sq.parse sql).2.wher).length ≤ db[k].rows.length := List.length_filter_le _ _
                  rw [Sq.rowsAt_lt db k hk'] at hfew
                  refine Or.inr ⟨k, rfl, rfl, hk', ?_⟩
                  rw [Sq.rowsAt_lt db k hk']
                  show _ + puts.length ≤ 1000
                  simp at hl
                  omega
              · split
                · exact Or.inr ⟨k, rfl, rfl, hk', by show _ + 0 ≤ 1000; omega⟩
                · exact Or.inl ⟨rfl, rfl⟩
      · exact Or.inl ⟨rfl, rfl⟩
theorem Apply_any (sb : Nat) (db : List Sq.Tab) (o : Sq.Out) (cv pv kv : Value) (w : World) (h : DB sb w db) (ho : OutAt w o cv pv kv) (hl : db.length + 1 ≤ 1000) (hs : Sq.shaped db o) :
    Calls Tryz.prog 30 #[.pointer (some ⟨sb, 0, none⟩), .agg (outCells o cv pv kv)] w fun e w' => e = .returned (.tuple #[]) ∧ DB sb w' (Sq.apply db o) ∧ Frm sb w w' := by
  rcases hs with ⟨h1, h2⟩ | ⟨a, hm, ht, ha, hf⟩
  · exact Apply_none sb db o cv pv kv w h ho hl h1 h2
  · exact Apply_at sb db o cv pv kv w h ho a hm ht ha hf

theorem DB.out {sb rb : Nat} {w w' : World} {db : List Sq.Tab} {c : Array Value} {fr : Nat × Nat} (h : DB sb w db) (hb : w.heap[rb]? = some (.cells c 34 fr)) (ho : ∀ g, g ≠ rb → w'.heap[g]? = w.heap[g]?) : DB sb w' db := by
  obtain ⟨v, l, hdl, hbd, ht⟩ := h.at_
  refine ⟨v, l, hdl, ?_, ownsRow_out ht.own hb (by decide) ho, fun x hx => ?_, ht.few⟩
  · rw [ho sb (fun e => by subst e; rw [hbd] at hb; simp at hb)]; exact hbd
  · have := ht.each x hx
    exact ⟨this.cols.out hb (by decide) ho, this.rows.out hb (by decide) (by decide) ho, this.few⟩

set_option maxHeartbeats 400000 in
theorem New_any (n : Int) (w : World) (h0 : 1 ≤ n) (h1 : n ≤ 32) :
    Calls Tryz.prog 13 #[.int .i64 n] w fun e w' => e = .returned (.tuple #[.pointer (some ⟨w.heap.size, 0, none⟩), .int .i64 0]) ∧ w' = w.alloc (.cells #[.slice none 0 0] 61) := by
  go_enter Tryz.func13, Tryz.ntmps13
  go_wp2
  go_ret2
  exact ⟨rfl, rfl⟩
theorem DB.new (w : World) : DB w.heap.size (w.alloc (.cells #[.slice none 0 0] 61)) [] :=
  ⟨.slice none 0 0, [], rfl, heap_alloc_new w _, World.ownsRow_nil _ _ _ _, fun x hx => by simp at hx, by simp⟩

def answer (s : ByteArray) : Value := .agg #[.string s, .string Sq.nobytes, .string Sq.nobytes]
set_option maxRecDepth 100000 in
set_option maxHeartbeats 2000000 in
theorem Peek_any (sb : Nat) (db : List Sq.Tab) (sql : ByteArray) (w : World) (h : DB sb w db) (hg : Sq.good db) (hT : Tbl w) :
    Calls Tryz.prog 21 #[.pointer (some ⟨sb, 0, none⟩), .string sql] w fun e w' => e = .returned (answer (Sq.decide db sql).reply) ∧ Below w.heap.size w w' := by
  have hsb := h.lt
  have H := hd h
  have HT := hd hT
  have HG := hd hg
  have hW : ∀ o, Below w.heap.size w (w.alloc o) := fun o => (Below.refl _ _).alloc (Nat.le_refl _) _
  have HW := hd hW
  clear h hT hg hW
  go_enter Tryz.func21, Tryz.ntmps21
  go_wp2_with fail
  refine (Decide_any sb db sql _ (H.out.below (HW.out _)) HG.out.ok (HT.out.below (HW.out _)) (Sq.parse_ok sql)).mono ?_
  rintro e w2 ⟨cv, pv, kv, rfl, hout, hb2⟩
  obtain ⟨o, ho⟩ : ∃ x, x = Sq.decide db sql := ⟨_, rfl⟩
  rw [← ho] at hout
  rw [← ho]
  have HOE := hd ho
  obtain ⟨co, cc, rfl⟩ := ownsRow_slice hout.cols.1
  obtain ⟨po, pc, rfl⟩ := hout.puts.slice
  obtain ⟨ko, kc, rfl⟩ := ownsRow_slice hout.cuts
  have hblk := (hb2.block w.heap.size (by simp)).trans (heap_alloc_new w _)
  have hbw2 := (HW.out _).trans (hb2.mono (by simp))
  have hz2 := lt_blk hblk
  have a0 := cell_blk hblk 0
  have a1 := cell_blk hblk 1
  have a2 := cell_blk hblk 2
  have f0 := frozen_blk hblk 0
  have f1 := frozen_blk hblk 1
  have f2 := frozen_blk hblk 2
  simp at a0 a1 a2
  unfold outCells
  clear hout hb2 hblk ho
  go_wp2
  refine bodyPost_ret (v := answer o.reply) (by simp [results, Tryz.results21, go_sem, answer, Sq.nobytes, *]) rfl ⟨?_, ?_⟩
  · rw [HOE.out]
  · exact Below.alloc (B := w.heap.size) (three_set hbw2 (Nat.le_refl _) _ _ _) (by simp; omega) _

set_option maxRecDepth 100000 in
set_option maxHeartbeats 2000000 in
theorem Run_any (sb : Nat) (db : List Sq.Tab) (sql : ByteArray) (w : World) (h : DB sb w db) (hg : Sq.good db) (hT : Tbl w) :
    Calls Tryz.prog 15 #[.pointer (some ⟨sb, 0, none⟩), .string sql] w fun e w' => e = .returned (answer (Sq.decide db sql).reply) ∧ DB sb w' (Sq.after db sql) ∧ Frm sb w w' := by
  have hsb := h.lt
  have hfew := hg.few
  have HSH := hd (Sq.decide_shape hg sql)
  have H := hd h
  have HT := hd hT
  have HG := hd hg
  have hW : ∀ o, Below w.heap.size w (w.alloc o) := fun o => (Below.refl _ _).alloc (Nat.le_refl _) _
  have HW := hd hW
  clear h hT hg hW
  go_enter Tryz.func15, Tryz.ntmps15
  go_wp2_with fail
  refine (Decide_any sb db sql _ (H.out.below (HW.out _)) HG.out.ok (HT.out.below (HW.out _)) (Sq.parse_ok sql)).mono ?_
  rintro e w2 ⟨cv, pv, kv, rfl, hout, hb2⟩
  obtain ⟨o, ho⟩ : ∃ x, x = Sq.decide db sql := ⟨_, rfl⟩
  rw [← ho] at hout
  rw [← ho]
  have HOE := hd ho
  obtain ⟨co, cc, rfl⟩ := ownsRow_slice hout.cols.1
  obtain ⟨po, pc, rfl⟩ := hout.puts.slice
  obtain ⟨ko, kc, rfl⟩ := ownsRow_slice hout.cuts
  have hblk := (hb2.block w.heap.size (by simp)).trans (heap_alloc_new w _)
  have hbw2 := (HW.out _).trans (hb2.mono (by simp))
  have hz2 := lt_blk hblk
  have hsh := HSH.out
  rw [← ho] at hsh
  have HSH2 := hd hsh
  have HOUT := hd hout
  have HBLK := hd hblk
  have HBW2 := hd hbw2
  have hDB2 := H.out.below hbw2
  have HDB2 := hd hDB2
  unfold outCells
  clear hout hb2 hblk ho hsh hDB2 hbw2
  go_wp2
  go_region_with (go_at_call 30; refine (Apply_any sb db o _ _ _ _ (HDB2.out.below (Below.drew ((Below.refl _ _).alloc (Nat.le_refl _) _))) (HOUT.out.below (Below.drew ((Below.refl _ _).alloc (Nat.le_refl _) _))) (by omega) HSH2.out).mono ?_; rintro e w3 ⟨rfl, hdb3, hf3⟩)
  all_goals
    have hblkO := hf3.other w2.heap.size _ _ _ (heap_alloc_new w2 _) (by decide) (by decide)
    have hblkO' := hblkO.trans (heap_alloc_new w2 _)
    have hblkA := (hf3.other w.heap.size _ _ _ ((alloc_lt hz2 _).trans HBLK.out) (by decide) (by decide)).trans ((alloc_lt hz2 _).trans HBLK.out)
    have r0 := cell_blk hblkO' 0
    have a0 := cell_blk hblkA 0
    have a1 := cell_blk hblkA 1
    have a2 := cell_blk hblkA 2
    have f0 := frozen_blk hblkA 0
    have f1 := frozen_blk hblkA 1
    have f2 := frozen_blk hblkA 2
    simp at r0 a0 a1 a2
    have hz3 := lt_blk hblkA
    have hz3' := lt_blk hblkO'
    have hfr : Frm sb w w3 := ((Frm.of_below HBW2.out (by omega)).trans (Frm.of_below (Below.drew ((Below.refl _ _).alloc (Nat.le_refl _) _)) (by omega))).trans hf3
    have HDB3 := hd hdb3
    have HFR := hd hfr
    have HBA := hd hblkA
    clear hblkO hblkO' hblkA hdb3 hf3 hfr
    go_wp2
    refine bodyPost_ret (v := answer o.reply) (by simp [results, Tryz.results15, go_sem, answer, Sq.nobytes, *]) rfl ⟨?_, ?_, ?_⟩
    · rw [HOE.out]
    · unfold Sq.after
      rw [← HOE.out]
      exact HDB3.out.out HBA.out (fun g hg => three_other hg _ _ _ _ _ _)
    · exact ⟨three_set HFR.out.below (by omega) _ _ _, fun g c e fr hg h1 h2 => (three_other (fun e => by have := lt_blk hg; omega) _ _ _ _ _ _).trans (HFR.out.other g c e fr hg h1 h2)⟩

end Go.Proofs.YteibbdilhpdknaaGreatDoor
