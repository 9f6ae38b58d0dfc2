import Derived.Deep.Cut
import Derived.Deep.CutRange
import Derived.Test.YteibbdilhpdknaaGreatDoorBl
set_option linter.unusedVariables false
set_option linter.unusedSimpArgs false

namespace Go.Proofs.YteibbdilhpdknaaGreatDoor
open Go.RowKit

def Sq.twoFrom (cols : List Sq.Col) : List Sq.Col → Int → Bool
  | [], _ => false
  | c :: r, i => if Sq.find cols c.name != i then true else Sq.twoFrom cols r (i + 1)
def Sq.twoOf (cols : List Sq.Col) : Bool := Sq.twoFrom cols cols 0
theorem Sq.twoFrom_drop (cols l : List Sq.Col) (k : Nat) (h : k < l.length) : Sq.twoFrom cols (l.drop k) k = if Sq.find cols l[k].name != (k : Int) then true else Sq.twoFrom cols (l.drop (k + 1)) ((k : Int) + 1) := by
  rw [List.drop_eq_getElem_cons h, Sq.twoFrom]

set_option maxRecDepth 100000 in
set_option maxHeartbeats 400000 in
theorem twoOf_any (cols : List Sq.Col) (cv : Value) (w : World) (h : ColsAt w cv cols) :
    Calls Tryz.prog 57 #[cv] w fun e w' => e = .returned (.bool (Sq.twoOf cols)) ∧ w' = w := by
  obtain ⟨ao, cap, rfl⟩ := ownsRow_slice h.1
  have hl := h.2
  have H := hd h
  clear h
  go_enter Tryz.func57, Tryz.ntmps57
  go_wp2
  go_loop [3] (fun i => ∃ k : Nat, k ≤ cols.length ∧ i = .int .i64 k ∧ Hid (Sq.twoOf cols = Sq.twoFrom cols (cols.drop k) k)) (fun i => cols.length - (intOf i).toNat)
  case atStart => exact ⟨0, Nat.zero_le _, rfl, rfl⟩
  case round =>
    obtain ⟨k, hk, rfl, hr⟩ := hrel
    by_cases hlt : k < cols.length
    · obtain ⟨g, cap', hv, hg, hc⟩ := sl_at (f := Sq.Col.cells) (fun _ => rfl) H.out.1 k hlt
      simp only [Value.slice.injEq] at hv
      obtain ⟨rfl, -, rfl⟩ := hv
      have c0 := hc 0 (.string cols[k].name) (by decide) rfl
      simp only [Nat.add_zero] at c0
      have hs := Sq.twoFrom_drop cols cols k hlt
      obtain ⟨nm, hnm⟩ : ∃ x, x = cols[k].name := ⟨_, rfl⟩
      rw [← hnm] at c0 hs
      have hfb := Sq.find_bd cols nm
      obtain ⟨f, hf⟩ : ∃ x, x = Sq.find cols nm := ⟨_, rfl⟩
      rw [← hf] at hs hfb
      have HF := hd hf
      have HS := hd hs
      clear hc hs hnm hf
      cases he : f != (k : Int)
      · have HR : Hid (Sq.twoOf cols = Sq.twoFrom cols (cols.drop (k + 1)) ((k : Int) + 1)) := by show _ = _; rw [hr.out, HS.out, he]; rfl
        clear hr HS
        go_wp2_with (go_at_call 91; refine (Find_any cols _ nm _ H.out.1 hl).mono ?_; rintro e w' ⟨rfl, rfl⟩; rw [← HF.out])
        go_round
        case rel => exact ⟨k + 1, by omega, by go_num, HR⟩
        case measure => simp [intOf]; omega
      · have HR : Hid (Sq.twoOf cols = true) := by show _ = _; rw [hr.out, HS.out, he]; rfl
        clear hr HS
        go_wp2_with (go_at_call 91; refine (Find_any cols _ nm _ H.out.1 hl).mono ?_; rintro e w' ⟨rfl, rfl⟩; rw [← HF.out])
        go_ret
        exact ⟨by rw [HR.out]; rfl, rfl⟩
    · have HR : Hid (Sq.twoOf cols = false) := by show _ = _; rw [hr.out, List.drop_eq_nil_of_le (by omega)]; rfl
      clear hr
      go_wp2
      go_ret
      exact ⟨by rw [HR.out]; rfl, rfl⟩

def Sq.rowsSum (db : List Sq.Tab) : Nat := (db.map fun t => t.rows.length).sum
def Sq.dbSize (db : List Sq.Tab) : Nat := db.length + Sq.rowsSum db
theorem Sq.rowsSum_take (db : List Sq.Tab) (k : Nat) (h : k < db.length) : Sq.rowsSum (db.take (k + 1)) = Sq.rowsSum (db.take k) + db[k].rows.length := by
  unfold Sq.rowsSum
  rw [List.take_succ_eq_append_getElem h, List.map_append, List.sum_append]; simp
theorem Sq.rowsSum_le (db : List Sq.Tab) (h : ∀ t ∈ db, t.rows.length ≤ 1000) : Sq.rowsSum db ≤ 1000 * db.length := by
  induction db with
  | nil => simp [Sq.rowsSum]
  | cons t r ih =>
    have h1 := h t (List.mem_cons_self ..)
    have h2 := ih fun x hx => h x (List.mem_cons_of_mem _ hx)
    have e : Sq.rowsSum (t :: r) = t.rows.length + Sq.rowsSum r := by simp [Sq.rowsSum]
    rw [e, List.length_cons]; omega

set_option maxRecDepth 100000 in
set_option maxHeartbeats 1000000 in
theorem Size_any (sb : Nat) (db : List Sq.Tab) (w : World) (h : DB sb w db) (hr : ∀ t ∈ db, t.rows.length ≤ 1000) :
    Calls Tryz.prog 40 #[.pointer (some ⟨sb, 0, none⟩)] w fun e w' => e = .returned (.int .i64 (Sq.dbSize db)) ∧ ∃ m, w' = w.drewN m := by
  have hlt := h.lt
  obtain ⟨v, l, hdb, hb, ht⟩ := h.at_
  obtain ⟨ao, cap, rfl⟩ := ownsRow_slice ht.own
  have hl := ht.few
  have c0 : w.cell? ⟨sb, 0, none⟩ = some (.slice ao l.length cap) := by rw [cell_blk hb]; rfl
  have hll : db.length = l.length := by rw [hdb]; simp
  have hsm : ∀ k, k ≤ l.length → Sq.rowsSum (db.take k) ≤ 1000 * k := fun k hk => Nat.le_trans (Sq.rowsSum_le _ fun t ht => hr t (List.mem_of_mem_take ht)) (Nat.mul_le_mul_left _ (List.length_take_le _ _))
  have HSM := hd hsm
  have HLL := hd hll
  have HDB := hd hdb
  have HT := hd ht
  clear h hb ht hdb hll hr hsm
  go_enter Tryz.func40, Tryz.ntmps40
  go_wp2
  go_loopw [3, 4] (fun s i wr => ∃ k z : Nat, k ≤ l.length ∧ i = .int .i64 k ∧ s = .int .i64 ((l.length : Int) + (z : Int)) ∧ z ≤ 1000 * k ∧ (∃ m, wr = w.drewN m) ∧ Hid (z = Sq.rowsSum (db.take k))) (fun _ i _ => l.length - (intOf i).toNat)
  case atStart => exact ⟨0, 0, Nat.zero_le _, rfl, by simp, by omega, ⟨0, rfl⟩, rfl⟩
  case round =>
    obtain ⟨k, z, hk, rfl, rfl, hz, ⟨m, rfl⟩, hr⟩ := hrel
    by_cases hlt2 : k < l.length
    · obtain ⟨g, cap', ca, cc, ra, rc, hv, hg, d0, d1, d2, htt⟩ := HT.out.at k hlt2
      simp only [Value.slice.injEq] at hv
      obtain ⟨rfl, -, rfl⟩ := hv
      have hkd : k < db.length := by rw [HLL.out]; exact hlt2
      have hst := Sq.rowsSum_take db k hkd
      have hsm := HSM.out (k + 1) (by omega)
      have hnm : db[k].rows = l[k].1.rows := by simp [HDB.out]
      rw [hnm] at hst
      have HR : Hid (z + l[k].1.rows.length = Sq.rowsSum (db.take (k + 1))) := by show _ = _; rw [hst, hr.out]
      have hsm2 : z + l[k].1.rows.length ≤ 1000 * (k + 1) := by rw [HR.out]; exact hsm
      obtain ⟨rl, hrl⟩ : ∃ x, x = l[k].1.rows.length := ⟨_, rfl⟩
      have hr2 := HR.out
      rw [← hrl] at d2 hsm2 hr2
      have HR2 := hd hr2
      clear hst hnm d0 d1 htt hsm hr HR hr2 hrl
      go_wp2
      all_goals (try go_quiet (fail))
      all_goals (try go_wp2)
      go_roundw
      case rel => exact ⟨k + 1, z + rl, by omega, by go_num, by go_num, by omega, ⟨_, rfl⟩, HR2⟩
      case measure => simp [intOf]; omega
    · have HR : Hid ((l.length : Int) + (z : Int) = (Sq.dbSize db : Int)) := by
        show _ = _
        have : db.take k = db := List.take_of_length_le (by rw [HLL.out]; omega)
        have h2 := hr.out
        rw [this] at h2
        unfold Sq.dbSize
        rw [HLL.out, h2]; simp
      clear hr
      go_wp2
      go_ret
      exact ⟨by rw [← HR.out]; rfl, _, rfl⟩

end Go.Proofs.YteibbdilhpdknaaGreatDoor

namespace Go.Proofs.YteibbdilhpdknaaGreatDoor
open Go.RowKit

def Sq.insert (t : Sq.Tab) (at_ size : Int) (vals : List Sq.Val) : Sq.Out :=
  if Sq.hasKey t.rows (Sq.keyOf vals) then Sq.refused 8 else if 60 ≤ size then Sq.refused 10 else ⟨Sq.counted 1, false, Sq.nobytes, [], at_, [vals], []⟩

theorem RowsOwn.one {w : World} {pb : Nat} {rv : Value} {row : List Sq.Val} (h : w.heap[pb]? = some (.cells #[rv] 102)) (hr : RowAt w rv row) : RowsOwn 0 w (.slice (some ⟨pb, 0, none⟩) 1 1) [row] := by
  refine ⟨[rv], ⟨rfl, Or.inr ⟨pb, 1, _, rfl, Nat.zero_le _, h, Nat.le_refl _, by unfold maxLen; omega, rfl, rfl⟩⟩, fun i r hi => ?_⟩
  cases i with
  | zero => simp at hi; subst hi; exact ⟨rv, rfl, hr⟩
  | succ i => simp at hi

theorem set7_size (w : World) (b : Nat) (x0 x1 x2 x3 x4 x5 x6 : Value) : (set7 w b x0 x1 x2 x3 x4 x5 x6).heap.size = w.heap.size := by simp [set7]
theorem alloc_at' {w : World} {k : Nat} (h : k = w.heap.size) (o : Obj) : (w.alloc o).heap[k]? = some o := by rw [h]; exact alloc_at w o

set_option maxRecDepth 100000 in
set_option maxHeartbeats 1000000 in
theorem einsert_any (t : Sq.Tab) (cv rv vv : Value) (a size : Nat) (vals : List Sq.Val) (w : World) (h : TabAt w t cv rv) (hv : RowAt w vv vals) (hT : Tbl w) (hsz : size ≤ 100000000) :
    Calls Tryz.prog 39 #[.agg #[.string t.name, cv, rv], .int .i64 a, .int .i64 size, vv] w (OutPost w (Sq.insert t a size vals)) := by
  obtain ⟨ao, cap, rfl⟩ := h.rows.slice
  obtain ⟨co, cap2, rfl⟩ := ownsRow_slice h.cols.1
  obtain ⟨vo, vcap, rfl⟩ := ownsRow_slice hv.1
  have HE : Hid (Sq.insert t a size vals = if Sq.hasKey t.rows (Sq.keyOf vals) then Sq.refused 8 else if 60 ≤ (size : Int) then Sq.refused 10 else ⟨Sq.counted 1, false, Sq.nobytes, [], a, [vals], []⟩) := rfl
  obtain ⟨has, hhas⟩ : ∃ x, x = Sq.hasKey t.rows (Sq.keyOf vals) := ⟨_, rfl⟩
  have hE := HE.out
  rw [← hhas] at hE
  have HE2 := hd hE
  have HHAS := hd hhas
  have H := hd h
  have HV := hd hv
  have HT := hd hT
  have hW : ∀ o o2 o3, Below w.heap.size w (((w.alloc o).alloc o2).alloc o3) := fun o o2 o3 => (((Below.refl _ _).alloc (Nat.le_refl _) _).alloc (by simp) _).alloc (by simp; omega) _
  have HW := hd hW
  clear h hv hW hE HE hhas hT
  go_enter Tryz.func39, Tryz.ntmps39
  go_wp2
  go_cut [15] from 12 to 24 (fun bv wx => bv = .bool has ∧ Below (w.heap.size + 1 + 1 + 1) (((w.alloc (.cells #[.string t.name, .slice co t.cols.length cap2, .slice ao t.rows.length cap] 92)).alloc (.cells out0 66)).alloc (.cells #[.slice vo vals.length vcap] 102)) wx)
  case first =>
    go_region_with (first | (go_at_call 64; refine (Key_any vals _ _ (HV.out.below (HW.out _ _ _).drew)).mono ?_; rintro e w2 ⟨rfl, hb2⟩; have hb2' : Below (w.heap.size + 1 + 1 + 1) (((w.alloc (.cells #[.string t.name, .slice co t.cols.length cap2, .slice ao t.rows.length cap] 92)).alloc (.cells out0 66)).alloc (.cells #[.slice vo vals.length vcap] 102)) w2 := (Below.drew (Below.refl _ _)).trans (hb2.mono (by simp)); have a0 := hb2'.cell (p := ⟨w.heap.size, 0, none⟩) (by simp; omega); have a1 := hb2'.cell (p := ⟨w.heap.size, 1, none⟩) (by simp; omega); have a2 := hb2'.cell (p := ⟨w.heap.size, 2, none⟩) (by simp; omega); simp [go_sem] at a0 a1 a2; have hz2 : w.heap.size < w2.heap.size := (by have := hb2'.size; simp at this; omega); have HB2 := hd hb2'; clear hb2 hb2') | (go_at_call 63; refine (Has_any t _ _ (Sq.keyOf vals) _ (H.out.below ((HW.out _ _ _).trans (HB2.out.mono (by omega))))).mono ?_; rintro e w3 ⟨rfl, hb3⟩; rw [← HHAS.out]))
    all_goals (try go_wp2_with fail)
    all_goals go_meet
    all_goals exact ⟨rfl, HB2.out.trans (hb3.mono (by have := HB2.out.size; simp at this; omega))⟩
  case rest =>
    obtain ⟨rfl, hb⟩ := hcut
    have hblk : wc.heap[w.heap.size + 1]? = some (.cells out0 66) := (hb.block _ (by omega)).trans ((alloc_lt (by simp) _).trans (by rw [show w.heap.size + 1 = (w.alloc (.cells #[.string t.name, .slice co t.cols.length cap2, .slice ao t.rows.length cap] 92)).heap.size from by simp]; exact alloc_at _ _))
    have r0 := hb.cell (p := ⟨w.heap.size + 1 + 1, 0, none⟩) (by simp)
    simp [go_sem] at r0
    have hbw : Below w.heap.size w wc := (HW.out _ _ _).trans (hb.mono (by omega))
    have hz := hb.size
    rw [heap_alloc3] at hz
    have HBW := hd hbw
    have HBLK := hd hblk
    clear hb hblk hbw
    cases has
    case true =>
      have HE3 : Hid (Sq.insert t a size vals = Sq.refused 8) := by show _ = _; rw [HE2.out]; rfl
      go_wp2_with fail
      refine (refused_any 8 _ (by omega) (by omega) (HT.out.below HBW.out)).mono ?_
      rintro e w3 ⟨rfl, hb3⟩
      have hblk3 := (hb3.block (w.heap.size + 1) (by omega)).trans HBLK.out
      obtain ⟨d0, d1, d2, d3, d4, d5, d6⟩ := seven_cells hblk3
      obtain ⟨f0, f1, f2, f3, f4, f5, f6⟩ := seven_frozen hblk3
      have hz3 := hb3.size
      have HB3 := hd hb3
      have hz4 : w.heap.size + 1 < w3.heap.size := by omega
      clear hb3 hblk3
      unfold outCells
      go_wp2
      refine bodyPost_ret (v := .agg (outCells (Sq.refused 8) (.slice none 0 0) (.slice none 0 0) (.slice none 0 0))) (by simp [results, Tryz.results39, go_sem, outCells, *]) rfl ⟨_, _, _, by rw [HE3.out], by rw [HE3.out]; exact OutAt.none _ _ rfl rfl rfl, ?_⟩
      exact set7_below (HBW.out.trans (HB3.out.mono (by omega))) (by omega) _ _ _ _ _ _ _
    case false =>
      by_cases hfull : 60 ≤ (size : Int)
      · have HE3 : Hid (Sq.insert t a size vals = Sq.refused 10) := by show _ = _; rw [HE2.out, if_neg (by decide), if_pos hfull]
        go_wp2_with fail
        refine (refused_any 10 _ (by omega) (by omega) (HT.out.below HBW.out)).mono ?_
        rintro e w3 ⟨rfl, hb3⟩
        have hblk3 := (hb3.block (w.heap.size + 1) (by omega)).trans HBLK.out
        obtain ⟨d0, d1, d2, d3, d4, d5, d6⟩ := seven_cells hblk3
        obtain ⟨f0, f1, f2, f3, f4, f5, f6⟩ := seven_frozen hblk3
        have hz3 := hb3.size
        have HB3 := hd hb3
        have hz4 : w.heap.size + 1 < w3.heap.size := by omega
        clear hb3 hblk3
        unfold outCells
        go_wp2
        refine bodyPost_ret (v := .agg (outCells (Sq.refused 10) (.slice none 0 0) (.slice none 0 0) (.slice none 0 0))) (by simp [results, Tryz.results39, go_sem, outCells, *]) rfl ⟨_, _, _, by rw [HE3.out], by rw [HE3.out]; exact OutAt.none _ _ rfl rfl rfl, ?_⟩
        exact set7_below (HBW.out.trans (HB3.out.mono (by omega))) (by omega) _ _ _ _ _ _ _
      · have HE3 : Hid (Sq.insert t a size vals = ⟨Sq.counted 1, false, Sq.nobytes, [], a, [vals], []⟩) := by show _ = _; rw [HE2.out, if_neg (by decide), if_neg hfull]
        have hz5 : w.heap.size + 1 + 1 < wc.heap.size := by omega
        go_wp2
        go_region_with (go_at_call 58; first
          | (refine (counted_any 1 wc.drew (by omega) (by omega) (HT.out.below HBW.out.drew)).mono ?_; rintro e w3 ⟨rfl, hb3⟩; have hb3' : Below wc.heap.size wc w3 := (Below.drew (Below.refl _ _)).trans hb3; have hblk3 := (hb3'.block (w.heap.size + 1) (by omega)).trans HBLK.out; obtain ⟨d0, d1, d2, d3, d4, d5, d6⟩ := seven_cells hblk3; obtain ⟨f0, f1, f2, f3, f4, f5, f6⟩ := seven_frozen hblk3; have r1 := (hb3'.cell (p := ⟨w.heap.size + 1 + 1, 0, none⟩) (by simp; omega)).trans r0; have hz3 := hb3'.size; have hz4 : w.heap.size + 1 < w3.heap.size := (by omega); have hz6 : w.heap.size + 1 + 1 < w3.heap.size := (by omega); have HB3 := hd hb3'; have HBLK3 := hd hblk3; clear hb3 hb3' hblk3)
          | (refine (counted_any 1 (wc.drew.alloc _) (by omega) (by omega) (HT.out.below (Below.alloc (B := w.heap.size) HBW.out.drew (by simp; omega) _))).mono ?_; rintro e w3 ⟨rfl, hb3⟩; have hb3' : Below wc.heap.size wc w3 := (Below.alloc (B := wc.heap.size) (Below.drew (Below.refl _ _)) (Nat.le_refl _) _).trans (hb3.mono (by simp)); have hblk3 := (hb3'.block (w.heap.size + 1) (by omega)).trans HBLK.out; obtain ⟨d0, d1, d2, d3, d4, d5, d6⟩ := seven_cells hblk3; obtain ⟨f0, f1, f2, f3, f4, f5, f6⟩ := seven_frozen hblk3; have e9 := (hb3.block wc.heap.size (by simp)).trans (alloc_at wc.drew _); have hz3 := hb3'.size; have hz4 : w.heap.size + 1 < w3.heap.size := (by omega); have HB3 := hd hb3'; have HBLK3 := hd hblk3; have HE9 := hd e9; clear hb3 hb3' hblk3 e9))
        all_goals (try go_wp2_with fail)
        all_goals first
          | (have hmark := HE9.out
             refine bodyPost_ret (v := .agg (outCells ⟨Sq.counted 1, false, Sq.nobytes, [], a, [vals], []⟩ (.slice none 0 0) (.slice (some ⟨wc.heap.size, 0, none⟩) 1 1) (.slice none 0 0))) (by simp [results, Tryz.results39, go_sem, outCells, Sq.nobytes, *]) rfl ⟨_, _, _, by rw [HE3.out], ?_, ?_⟩
             · rw [HE3.out]
               exact ⟨⟨World.ownsRow_nil _ _ _ _, by simp⟩, RowsOwn.one ((set7_other _ _ _ _ _ _ _ _ _ (by omega)).trans HE9.out) (HV.out.below (set7_below (HBW.out.trans (HB3.out.mono (by omega))) (by omega) _ _ _ _ _ _ _)), World.ownsRow_nil _ _ _ _, by simp, by simp⟩
             · exact set7_below (HBW.out.trans (HB3.out.mono (by omega))) (by omega) _ _ _ _ _ _ _)
          | (refine bodyPost_ret (v := .agg (outCells ⟨Sq.counted 1, false, Sq.nobytes, [], a, [vals], []⟩ (.slice none 0 0) (.slice (some ⟨w3.heap.size, 0, none⟩) 1 1) (.slice none 0 0))) (by simp [results, Tryz.results39, go_sem, outCells, Sq.nobytes, *]) rfl ⟨_, _, _, by rw [HE3.out], ?_, ?_⟩
             · rw [HE3.out]
               exact ⟨⟨World.ownsRow_nil _ _ _ _, by simp⟩, RowsOwn.one (alloc_at' (set7_size _ _ _ _ _ _ _ _ _).symm _) (HV.out.below (Below.alloc (B := w.heap.size) (set7_below (HBW.out.trans (HB3.out.mono (by omega))) (by omega) _ _ _ _ _ _ _) (by rw [set7_size]; omega) _)), World.ownsRow_nil _ _ _ _, by simp, by simp⟩
             · exact Below.alloc (B := w.heap.size) (set7_below (HBW.out.trans (HB3.out.mono (by omega))) (by omega) _ _ _ _ _ _ _) (by rw [set7_size]; omega) _)

end Go.Proofs.YteibbdilhpdknaaGreatDoor

namespace Go.Proofs.YteibbdilhpdknaaGreatDoor
open Go.RowKit

def Sq.create (db : List Sq.Tab) (st : Sq.PSt) : Sq.Out :=
  if 0 ≤ Sq.findTab db st.table then Sq.refused 5
  else if 4 < st.cols.length then Sq.refused 6
  else if Sq.twoOf st.cols then Sq.refused 5
  else if 5 ≤ db.length then Sq.refused 10
  else if 60 ≤ Sq.dbSize db then Sq.refused 10
  else ⟨Sq.counted 0, true, st.table, st.cols, 0, [], []⟩

theorem below_drewN (w : World) : ∀ m, Below w.heap.size w (w.drewN m) := by
  intro m
  exact ⟨rfl, rfl, rfl, Nat.le_refl _, fun _ _ => rfl⟩
theorem StoreFind_b (sb : Nat) (db : List Sq.Tab) (n : ByteArray) (w : World) (h : DB sb w db) :
    Calls Tryz.prog 37 #[.pointer (some ⟨sb, 0, none⟩), .string n] w fun e w' => e = .returned (.int .i64 (Sq.findTab db n)) ∧ Below w.heap.size w w' := by
  refine (StoreFind_any sb db n w h).mono ?_
  rintro e w' ⟨rfl, m, rfl⟩
  exact ⟨rfl, below_drewN w m⟩
theorem Size_b (sb : Nat) (db : List Sq.Tab) (w : World) (h : DB sb w db) (hr : ∀ t ∈ db, t.rows.length ≤ 1000) :
    Calls Tryz.prog 40 #[.pointer (some ⟨sb, 0, none⟩)] w fun e w' => e = .returned (.int .i64 (Sq.dbSize db)) ∧ Below w.heap.size w w' := by
  refine (Size_any sb db w h hr).mono ?_
  rintro e w' ⟨rfl, m, rfl⟩
  exact ⟨rfl, below_drewN w m⟩
theorem dbSize_le (db : List Sq.Tab) (h : ∀ t ∈ db, t.rows.length ≤ 1000) (hl : db.length ≤ 1000) : Sq.dbSize db ≤ 1100000 := by
  have := Sq.rowsSum_le db h
  unfold Sq.dbSize; omega

set_option maxRecDepth 100000 in
set_option maxHeartbeats 2000000 in
theorem ecreate_any (sb : Nat) (db : List Sq.Tab) (st : Sq.PSt) (r : Rw) (w : World) (h : DB sb w db) (hs : StmAt w st r) (hT : Tbl w) (hr : ∀ t ∈ db, t.rows.length ≤ 1000) (hdl : db.length ≤ 1000) :
    Calls Tryz.prog 36 #[.pointer (some ⟨sb, 0, none⟩), .agg (stmCells st r)] w (OutPost w (Sq.create db st)) := by
  obtain ⟨cvx, vvx, svx, ivx, wvx⟩ := r
  obtain ⟨q5, c5, hcv⟩ := ownsRow_slice hs.cols.1
  obtain ⟨q6, c6, hvv⟩ := ownsRow_slice hs.vals
  obtain ⟨q7, c7, hsv⟩ := ownsRow_slice hs.sets.1
  obtain ⟨q9, c9, hiv⟩ := ownsRow_slice hs.items.1
  obtain ⟨q10, c10, hwv⟩ := ownsRow_slice hs.wher
  dsimp only at hcv hvv hsv hiv hwv
  subst hcv hvv hsv hiv hwv
  unfold stmCells
  have HE : Hid (Sq.create db st = if 0 ≤ Sq.findTab db st.table then Sq.refused 5
    else if 4 < st.cols.length then Sq.refused 6
    else if Sq.twoOf st.cols then Sq.refused 5
    else if 5 ≤ db.length then Sq.refused 10
    else if 60 ≤ Sq.dbSize db then Sq.refused 10
    else ⟨Sq.counted 0, true, st.table, st.cols, 0, [], []⟩) := rfl
  have hcl := hs.cols.2
  have hsb := h.lt
  have hds := dbSize_le db hr hdl
  have H := hd h
  have HS := hd hs
  have HT := hd hT
  have HR := hd hr
  have hW : ∀ o o2, Below w.heap.size w ((w.alloc o).alloc o2) := fun o o2 => ((Below.refl _ _).alloc (Nat.le_refl _) _).alloc (by simp) _
  have HW := hd hW
  clear h hs hW hT hr
  go_enter Tryz.func36, Tryz.ntmps36
  go_wp2_with fail
  refine (StoreFind_b sb db st.table _ (H.out.below (HW.out _ _))).mono ?_
  rintro e w1 ⟨rfl, hb1⟩
  rw [heap_alloc2] at hb1
  have hblk : w1.heap[w.heap.size + 1]? = some (.cells out0 66) := (hb1.block _ (by omega)).trans (by rw [show w.heap.size + 1 = (w.alloc (.cells #[.int .i64 st.act, .string st.table, .slice q5 st.cols.length c5, .slice q6 st.vals.length c6, .slice q7 st.sets.length c7, .int .i64 st.shw, .slice q9 st.items.length c9, .slice q10 st.wher.length c10] 86)).heap.size from by simp]; exact alloc_at _ _)
  have b1 := hb1.cell (p := ⟨w.heap.size, 1, none⟩) (by simp; omega)
  have b2 := hb1.cell (p := ⟨w.heap.size, 2, none⟩) (by simp; omega)
  simp [go_sem] at b1 b2
  have hbw : Below w.heap.size w w1 := (HW.out _ _).trans (hb1.mono (by omega))
  have hz := hb1.size
  rw [heap_alloc2] at hz
  have HBLK := hd hblk
  have HBW := hd hbw
  have hz1 : w.heap.size < w1.heap.size := by omega
  clear hb1 hblk hbw
  have hfb := Sq.findTab_cases db st.table
  obtain ⟨f, hf⟩ : ∃ x, x = Sq.findTab db st.table := ⟨_, rfl⟩
  have hE := HE.out
  rw [← hf] at hfb hE ⊢
  have hfr : -1 ≤ f ∧ f ≤ 1000 := by rcases hfb with h | ⟨k, hk, h⟩ <;> omega
  obtain ⟨hfr1, hfr2⟩ := hfr
  have HE2 := hd hE
  clear hE HE hf hfb
  by_cases h0 : 0 ≤ f
  · have HE3 : Hid (Sq.create db st = Sq.refused 5) := by show _ = _; rw [HE2.out, if_pos h0]
    go_wp2_with fail
    refine (refused_any 5 _ (by omega) (by omega) (HT.out.below HBW.out)).mono ?_
    rintro e w9 ⟨rfl, hb9⟩
    have hblk9 := (hb9.block (w.heap.size + 1) (by omega)).trans HBLK.out
    obtain ⟨d0, d1, d2, d3, d4, d5, d6⟩ := seven_cells hblk9
    obtain ⟨f0, f1, f2, f3, f4, f5, f6⟩ := seven_frozen hblk9
    have hz9 := hb9.size
    have HB9 := hd hb9
    have hz10 : w.heap.size + 1 < w9.heap.size := by omega
    clear hb9 hblk9
    unfold outCells
    go_wp2
    refine bodyPost_ret (v := .agg (outCells (Sq.refused 5) (.slice none 0 0) (.slice none 0 0) (.slice none 0 0))) (by simp [results, Tryz.results36, go_sem, outCells, *]) rfl ⟨_, _, _, by rw [HE3.out], by rw [HE3.out]; exact OutAt.none _ _ rfl rfl rfl, ?_⟩
    exact set7_below (HBW.out.trans (HB9.out.mono (by omega))) (by omega) _ _ _ _ _ _ _

  by_cases h1 : 4 < st.cols.length
  · have HE3 : Hid (Sq.create db st = Sq.refused 6) := by show _ = _; rw [HE2.out, if_neg h0, if_pos h1]
    go_wp2_with fail
    refine (refused_any 6 _ (by omega) (by omega) (HT.out.below HBW.out)).mono ?_
    rintro e w9 ⟨rfl, hb9⟩
    have hblk9 := (hb9.block (w.heap.size + 1) (by omega)).trans HBLK.out
    obtain ⟨d0, d1, d2, d3, d4, d5, d6⟩ := seven_cells hblk9
    obtain ⟨f0, f1, f2, f3, f4, f5, f6⟩ := seven_frozen hblk9
    have hz9 := hb9.size
    have HB9 := hd hb9
    have hz10 : w.heap.size + 1 < w9.heap.size := by omega
    clear hb9 hblk9
    unfold outCells
    go_wp2
    refine bodyPost_ret (v := .agg (outCells (Sq.refused 6) (.slice none 0 0) (.slice none 0 0) (.slice none 0 0))) (by simp [results, Tryz.results36, go_sem, outCells, *]) rfl ⟨_, _, _, by rw [HE3.out], by rw [HE3.out]; exact OutAt.none _ _ rfl rfl rfl, ?_⟩
    exact set7_below (HBW.out.trans (HB9.out.mono (by omega))) (by omega) _ _ _ _ _ _ _

  go_wp2_with fail
  refine (twoOf_any st.cols _ _ (HS.out.cols.below HBW.out)).mono ?_
  rintro e w2 ⟨rfl, hw2⟩
  rw [hw2]
  clear hw2 w2
  cases h2 : Sq.twoOf st.cols
  case true =>
    have HE3 : Hid (Sq.create db st = Sq.refused 5) := by show _ = _; rw [HE2.out, if_neg (by omega), if_neg (by omega), h2]; rfl
    go_wp2_with fail
    refine (refused_any 5 _ (by omega) (by omega) (HT.out.below HBW.out)).mono ?_
    rintro e w9 ⟨rfl, hb9⟩
    have hblk9 := (hb9.block (w.heap.size + 1) (by omega)).trans HBLK.out
    obtain ⟨d0, d1, d2, d3, d4, d5, d6⟩ := seven_cells hblk9
    obtain ⟨f0, f1, f2, f3, f4, f5, f6⟩ := seven_frozen hblk9
    have hz9 := hb9.size
    have HB9 := hd hb9
    have hz10 : w.heap.size + 1 < w9.heap.size := by omega
    clear hb9 hblk9
    unfold outCells
    go_wp2
    refine bodyPost_ret (v := .agg (outCells (Sq.refused 5) (.slice none 0 0) (.slice none 0 0) (.slice none 0 0))) (by simp [results, Tryz.results36, go_sem, outCells, *]) rfl ⟨_, _, _, by rw [HE3.out], by rw [HE3.out]; exact OutAt.none _ _ rfl rfl rfl, ?_⟩
    exact set7_below (HBW.out.trans (HB9.out.mono (by omega))) (by omega) _ _ _ _ _ _ _
  case false =>
    obtain ⟨v, l, hdb, hbd, ht⟩ := (H.out.below HBW.out).at_
    obtain ⟨tq, tcap, rfl⟩ := ownsRow_slice ht.own
    have hll : db.length = l.length := by rw [hdb]; simp
    have s0 : w1.cell? ⟨sb, 0, none⟩ = some (.slice tq l.length tcap) := by rw [cell_blk hbd]; rfl
    have hlen : l.length ≤ 1000 := by omega
    have hsb1 : sb < w1.heap.size := by omega
    have HLL := hd hll
    have hE := HE2.out
    rw [if_neg (by omega), if_neg (by omega), h2, if_neg (by decide), hll] at hE
    have HE4 := hd hE
    clear hdb hbd ht hll hE HE2
    by_cases h3 : 5 ≤ l.length
    · have HE3 : Hid (Sq.create db st = Sq.refused 10) := by show _ = _; rw [HE4.out, if_pos h3]
      go_wp2_with fail
      refine (refused_any 10 _ (by omega) (by omega) (HT.out.below HBW.out)).mono ?_
      rintro e w9 ⟨rfl, hb9⟩
      have hblk9 := (hb9.block (w.heap.size + 1) (by omega)).trans HBLK.out
      obtain ⟨d0, d1, d2, d3, d4, d5, d6⟩ := seven_cells hblk9
      obtain ⟨f0, f1, f2, f3, f4, f5, f6⟩ := seven_frozen hblk9
      have hz9 := hb9.size
      have HB9 := hd hb9
      have hz10 : w.heap.size + 1 < w9.heap.size := by omega
      clear hb9 hblk9
      unfold outCells
      go_wp2
      refine bodyPost_ret (v := .agg (outCells (Sq.refused 10) (.slice none 0 0) (.slice none 0 0) (.slice none 0 0))) (by simp [results, Tryz.results36, go_sem, outCells, *]) rfl ⟨_, _, _, by rw [HE3.out], by rw [HE3.out]; exact OutAt.none _ _ rfl rfl rfl, ?_⟩
      exact set7_below (HBW.out.trans (HB9.out.mono (by omega))) (by omega) _ _ _ _ _ _ _

    obtain ⟨sz, hsz⟩ : ∃ x, x = Sq.dbSize db := ⟨_, rfl⟩
    have hE := HE4.out
    rw [← hsz, if_neg (by omega)] at hE
    rw [← hsz] at hds
    have HSZ := hd hsz
    have HE5 := hd hE
    clear hE HE4 hsz
    go_wp2_with fail
    refine (Size_b sb db _ (H.out.below HBW.out) HR.out).mono ?_
    rintro e w2 ⟨rfl, hb2⟩
    rw [← HSZ.out]
    have hblk2 := (hb2.block (w.heap.size + 1) (by omega)).trans HBLK.out
    have b1' := ((bcell hb2).1 w.heap.size 1 hz1).trans b1
    have b2' := ((bcell hb2).1 w.heap.size 2 hz1).trans b2
    have hz2 := hb2.size
    have hbw2 := HBW.out.trans (hb2.mono (by omega))
    have HBW2 := hd hbw2
    have HBLK2 := hd hblk2
    have hz3 : w.heap.size < w2.heap.size := by omega
    clear hb2 hblk2 hbw2 b1 b2 s0
    by_cases h4 : 60 ≤ sz
    · have HE3 : Hid (Sq.create db st = Sq.refused 10) := by show _ = _; rw [HE5.out, if_pos h4]
      go_wp2_with fail
      refine (refused_any 10 _ (by omega) (by omega) (HT.out.below HBW2.out)).mono ?_
      rintro e w9 ⟨rfl, hb9⟩
      have hblk9 := (hb9.block (w.heap.size + 1) (by omega)).trans HBLK2.out
      obtain ⟨d0, d1, d2, d3, d4, d5, d6⟩ := seven_cells hblk9
      obtain ⟨f0, f1, f2, f3, f4, f5, f6⟩ := seven_frozen hblk9
      have hz9 := hb9.size
      have HB9 := hd hb9
      have hz10 : w.heap.size + 1 < w9.heap.size := by omega
      clear hb9 hblk9
      unfold outCells
      go_wp2
      refine bodyPost_ret (v := .agg (outCells (Sq.refused 10) (.slice none 0 0) (.slice none 0 0) (.slice none 0 0))) (by simp [results, Tryz.results36, go_sem, outCells, *]) rfl ⟨_, _, _, by rw [HE3.out], by rw [HE3.out]; exact OutAt.none _ _ rfl rfl rfl, ?_⟩
      exact set7_below (HBW2.out.trans (HB9.out.mono (by omega))) (by omega) _ _ _ _ _ _ _

    have HE3 : Hid (Sq.create db st = ⟨Sq.counted 0, true, st.table, st.cols, 0, [], []⟩) := by show _ = _; rw [HE5.out, if_neg h4]
    go_wp2
    go_region_with (go_at_call 58; refine (counted_any 0 w2.drew (by omega) (by omega) (HT.out.below HBW2.out.drew)).mono ?_; rintro e w9 ⟨rfl, hb9⟩; have hb9' : Below w2.heap.size w2 w9 := (Below.drew (Below.refl _ _)).trans hb9; have hblk9 := (hb9'.block (w.heap.size + 1) (by omega)).trans HBLK2.out; obtain ⟨d0, d1, d2, d3, d4, d5, d6⟩ := seven_cells hblk9; obtain ⟨f0, f1, f2, f3, f4, f5, f6⟩ := seven_frozen hblk9; have b1'' := ((bcell hb9').1 w.heap.size 1 hz3).trans b1'; have b2'' := ((bcell hb9').1 w.heap.size 2 hz3).trans b2'; have hz9 := hb9'.size; have hz10 : w.heap.size + 1 < w9.heap.size := (by omega); have hz11 : w.heap.size < w9.heap.size := (by omega); have HB9 := hd hb9'; clear hb9 hb9' hblk9)
    all_goals (try go_wp2_with fail)
    all_goals (refine bodyPost_ret (v := .agg (outCells ⟨Sq.counted 0, true, st.table, st.cols, 0, [], []⟩ (.slice q5 st.cols.length c5) (.slice none 0 0) (.slice none 0 0))) (by simp [results, Tryz.results36, go_sem, outCells, *]) rfl ⟨_, _, _, by rw [HE3.out], ?_, ?_⟩)
    all_goals first
      | exact set7_below (HBW2.out.trans (HB9.out.mono (by omega))) (by omega) _ _ _ _ _ _ _
      | (rw [HE3.out]; exact ⟨HS.out.cols.below (set7_below (HBW2.out.trans (HB9.out.mono (by omega))) (by omega) _ _ _ _ _ _ _), RowsOwn.nil _ _, World.ownsRow_nil _ _ _ _, by simp, by simp⟩)

end Go.Proofs.YteibbdilhpdknaaGreatDoor
