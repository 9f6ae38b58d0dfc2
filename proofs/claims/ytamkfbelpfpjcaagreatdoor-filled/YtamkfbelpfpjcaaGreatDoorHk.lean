import Derived.Deep.Cut
import Derived.Deep.CutRange
import Derived.Test.YtamkfbelpfpjcaaGreatDoorHj
import Derived.Test.YtamkfbelpfpjcaaGreatDoorHc
import Derived.Test.YtamkfbelpfpjcaaGreatDoorHe
set_option linter.unusedVariables false
set_option linter.unusedSimpArgs false

namespace Go.Proofs.YtamkfbelpfpjcaaGreatDoor
open Go.RowKit

def Sq.twoFrom (cols : List Sq.Col) : List Sq.Col → Int → Bool
  | [], _ => false
  | c :: r, i => if Sq.find cols c.name != i then true else Sq.twoFrom cols r (i + 1)
def Sq.twoOf (cols : List Sq.Col) : Bool := Sq.twoFrom cols cols 0
theorem Sq.twoFrom_drop (cols l : List Sq.Col) (k : Nat) (h : k < l.length) : Sq.twoFrom cols (l.drop k) k = if Sq.find cols l[k].name != (k : Int) then true else Sq.twoFrom cols (l.drop (k + 1)) ((k : Int) + 1) := by
  rw [List.drop_eq_getElem_cons h, Sq.twoFrom]

set_option maxRecDepth 100000 in
set_option maxHeartbeats 400000 in
theorem twoOf_any (cols : List Sq.Col) (cv : Value) (w : World) (h : ColsAt w cv cols) :
    Calls Tryz.prog 45 #[cv] w fun e w' => e = .returned (.bool (Sq.twoOf cols)) ∧ w' = w := by
  obtain ⟨ao, cap, rfl⟩ := ownsRow_slice h.1
  have hl := h.2
  have H := hd h
  clear h
  go_enter Tryz.func45, Tryz.ntmps45
  go_wp2
  go_loop [3] (fun i => ∃ k : Nat, k ≤ cols.length ∧ i = .int .i64 k ∧ Hid (Sq.twoOf cols = Sq.twoFrom cols (cols.drop k) k)) (fun i => cols.length - (intOf i).toNat)
  case atStart => exact ⟨0, Nat.zero_le _, rfl, rfl⟩
  case round =>
    obtain ⟨k, hk, rfl, hr⟩ := hrel
    by_cases hlt : k < cols.length
    · obtain ⟨g, cap', hv, hg, hc⟩ := sl_at (f := Sq.Col.cells) (fun _ => rfl) H.out.1 k hlt
      simp only [Value.slice.injEq] at hv
      obtain ⟨rfl, -, rfl⟩ := hv
      have c0 := hc 0 (.string cols[k].name) (by decide) rfl
      simp only [Nat.add_zero] at c0
      have hs := Sq.twoFrom_drop cols cols k hlt
      obtain ⟨nm, hnm⟩ : ∃ x, x = cols[k].name := ⟨_, rfl⟩
      rw [← hnm] at c0 hs
      have hfb := Sq.find_bd cols nm
      obtain ⟨f, hf⟩ : ∃ x, x = Sq.find cols nm := ⟨_, rfl⟩
      rw [← hf] at hs hfb
      have HF := hd hf
      have HS := hd hs
      clear hc hs hnm hf
      cases he : f != (k : Int)
      · have HR : Hid (Sq.twoOf cols = Sq.twoFrom cols (cols.drop (k + 1)) ((k : Int) + 1)) := by show _ = _; rw [hr.out, HS.out, he]; rfl
        clear hr HS
        go_wp2_with (go_at_call 84; refine (Find_any cols _ nm _ H.out.1 hl).mono ?_; rintro e w' ⟨rfl, rfl⟩; rw [← HF.out])
        go_round
        case rel => exact ⟨k + 1, by omega, by go_num, HR⟩
        case measure => simp [intOf]; omega
      · have HR : Hid (Sq.twoOf cols = true) := by show _ = _; rw [hr.out, HS.out, he]; rfl
        clear hr HS
        go_wp2_with (go_at_call 84; refine (Find_any cols _ nm _ H.out.1 hl).mono ?_; rintro e w' ⟨rfl, rfl⟩; rw [← HF.out])
        go_ret
        exact ⟨by rw [HR.out]; rfl, rfl⟩
    · have HR : Hid (Sq.twoOf cols = false) := by show _ = _; rw [hr.out, List.drop_eq_nil_of_le (by omega)]; rfl
      clear hr
      go_wp2
      go_ret
      exact ⟨by rw [HR.out]; rfl, rfl⟩

end Go.Proofs.YtamkfbelpfpjcaaGreatDoor

namespace Go.Proofs.YtamkfbelpfpjcaaGreatDoor
open Go.RowKit

/-- The outcome of an insert. -/
def Sq.insertN (x : Sq.Tree) (tb : Int) (vals : List Sq.Val) : Sq.Out :=
  if Sq.hasT x.d x.t (Sq.placeOf tb (Sq.keyOf vals)) then Sq.refused 8 else if 60 ≤ ((Sq.ents x.d x.t).length : Int) then Sq.refused 10 else ⟨Sq.counted 1, false, Sq.nobytes, [], tb, [vals], []⟩

theorem RowsOwn.one {w : World} {pb : Nat} {rv : Value} {row : List Sq.Val} (h : w.heap[pb]? = some (.cells #[rv] 87)) (hr : RowAt w rv row) : RowsOwn 0 w (.slice (some ⟨pb, 0, none⟩) 1 1) [row] := by
  refine ⟨[rv], ⟨rfl, Or.inr ⟨pb, 1, _, rfl, Nat.zero_le _, h, Nat.le_refl _, by unfold maxLen; omega, rfl, rfl⟩⟩, fun i r hi => ?_⟩
  cases i with
  | zero => simp at hi; subst hi; exact ⟨rv, rfl, hr⟩
  | succ i => simp at hi

theorem set7_size (w : World) (b : Nat) (x0 x1 x2 x3 x4 x5 x6 : Value) : (set7 w b x0 x1 x2 x3 x4 x5 x6).heap.size = w.heap.size := by simp [set7]
theorem alloc_at' {w : World} {k : Nat} (h : k = w.heap.size) (o : Obj) : (w.alloc o).heap[k]? = some o := by rw [h]; exact alloc_at w o

theorem three_objs {w W : World} {a b c : Obj} (h : W = ((w.alloc a).alloc b).alloc c) : Below w.heap.size w W ∧ W.heap[w.heap.size]? = some a ∧ W.heap[w.heap.size + 1]? = some b ∧ W.heap[w.heap.size + 1 + 1]? = some c := three_stores h

set_option maxRecDepth 100000 in
set_option maxHeartbeats 2000000 in
theorem einsert_any (x : Sq.Tree) (ev cv vv : Value) (a : Int) (vals : List Sq.Val) (w : World) (h : NodeAt w x.d x.t ev cv) (ho : Sq.okT x.d x.t) (hl : (Sq.ents x.d x.t).length ≤ 500) (ha0 : 0 ≤ a) (ha1 : a ≤ 100000) (hv : RowAt w vv vals) (hvs : ∀ v ∈ vals, v.text.size ≤ 1000 ∧ -100000000000 ≤ v.number ∧ v.number ≤ 100000000000) (hT : Tbl w) :
    Calls Tryz.prog 28 #[.agg (nodeCells x.d (x.t, ev, cv)).toArray, .int .i64 a, vv] w (OutPost w (Sq.insertN x a vals)) := by
  rw [nodeCells_arr]
  obtain ⟨⟨e1, e2, e3, hev⟩, c1, c2, c3, hcv⟩ := h.slices
  subst hev hcv
  obtain ⟨vo, vcap, rfl⟩ := ownsRow_slice hv.1
  have hkb := Sq.keyOf_bd hvs
  have HE : Hid (Sq.insertN x a vals = if Sq.hasT x.d x.t (Sq.placeOf a (Sq.keyOf vals)) then Sq.refused 8 else if 60 ≤ ((Sq.ents x.d x.t).length : Int) then Sq.refused 10 else ⟨Sq.counted 1, false, Sq.nobytes, [], a, [vals], []⟩) := rfl
  have hkh : ∀ w', Below w.heap.size w w' → Calls Tryz.prog 51 #[.agg #[.bool (x.d != 0), .slice e1 e2 e3, .slice c1 c2 c3, .int .i64 (Sq.least x.d x.t), .int .i64 ((Sq.ents x.d x.t).length : Nat)], .int .i64 a, .int .i64 (Sq.keyOf vals)] w' fun e w'' => e = .returned (.bool (Sq.hasT x.d x.t (Sq.placeOf a (Sq.keyOf vals)))) ∧ Below w'.heap.size w' w'' := fun w' hb => StoreHas_any x.d x.t _ _ a (Sq.keyOf vals) w' (h.below hb) ho (by omega) ha0 ha1 hkb.1 hkb.2
  have hks : ∀ w', Below w.heap.size w w' → Calls Tryz.prog 25 #[.agg #[.bool (x.d != 0), .slice e1 e2 e3, .slice c1 c2 c3, .int .i64 (Sq.least x.d x.t), .int .i64 ((Sq.ents x.d x.t).length : Nat)]] w' fun e w'' => e = .returned (.int .i64 ((Sq.ents x.d x.t).length : Nat)) ∧ Below w'.heap.size w' w'' := fun w' hb => Size_any x.d x.t _ _ w' (h.below hb)
  have hE := HE.out
  clear HE h ho hkb hvs
  generalize Sq.hasT x.d x.t (Sq.placeOf a (Sq.keyOf vals)) = has at *
  generalize Sq.insertN x a vals = out at *
  generalize Sq.least x.d x.t = q3 at *
  generalize (Sq.ents x.d x.t).length = q4 at *
  generalize (x.d != 0) = bn at *
  have HE2 := hd hE
  have HKH := hd hkh
  have HKS := hd hks
  have HV := hd hv
  have HT := hd hT
  clear hE hkh hks hv hT
  obtain ⟨W, hW⟩ : ∃ W : World, W = ((w.alloc (.cells #[.bool bn, .slice e1 e2 e3, .slice c1 c2 c3, .int .i64 q3, .int .i64 q4] 46)).alloc (.cells #[.string ⟨#[]⟩, .bool false, .string ⟨#[]⟩, .slice none 0 0, .int .i64 0, .slice none 0 0, .slice none 0 0] 56)).alloc (.cells #[.slice vo vals.length vcap] 87) := ⟨_, rfl⟩
  obtain ⟨hbW, hbox, hbo, hbr⟩ := three_objs hW
  obtain ⟨s0, s1, s2, s3, s4⟩ := store5 hbox
  have r0' : W.cell? ⟨w.heap.size + 1 + 1, 0, none⟩ = some (.slice vo vals.length vcap) := by rw [cell_blk hbr]; rfl
  have hzR := lt_blk hbr
  have HBW0 := hd hbW
  have HBOX := hd hbox
  have HBO : Hid (W.heap[w.heap.size + 1]? = some (.cells out0 56)) := hbo
  have HBR := hd hbr
  clear hbW hbox hbo hbr
  go_enter Tryz.func28, Tryz.ntmps28
  go_wp2
  rw [← hW]
  clear hW
  go_cut [14] from 10 (fun bv wx => bv = .bool has ∧ Below W.heap.size W wx)
  case first =>
    go_region_with (first
      | (go_at_call 52; refine (Key_any vals _ _ (HV.out.below HBW0.out.drew)).mono ?_; rintro e w2 ⟨rfl, hb2⟩; have hb2' : Below W.heap.size W w2 := (Below.drew (Below.refl _ _)).trans hb2; obtain ⟨m0, m1, m2, m3, m4⟩ := store5 ((hb2'.block w.heap.size (by omega)).trans HBOX.out); have hz2 := hb2'.size; have hz2' : w.heap.size < w2.heap.size := (by omega); have HB2 := hd hb2'; clear hb2 hb2')
      | (go_at_call 51; refine (HKH.out _ (HBW0.out.trans (HB2.out.mono (by omega)))).mono ?_; rintro e w3 ⟨rfl, hb3⟩; have HB3 := hd (HB2.out.trans (hb3.mono (by omega))); clear hb3))
    all_goals (try go_wp2_with fail)
    all_goals go_meet
    all_goals exact ⟨rfl, HB3.out⟩
  case rest =>
    obtain ⟨rfl, hb⟩ := hcut
    have hblk : wc.heap[w.heap.size + 1]? = some (.cells out0 56) := (hb.block _ (by omega)).trans HBO.out
    have r0 := (hb.cell (p := ⟨w.heap.size + 1 + 1, 0, none⟩) (by show w.heap.size + 1 + 1 < _; omega)).trans r0'
    obtain ⟨t0, t1, t2, t3, t4⟩ := store5 ((hb.block w.heap.size (by omega)).trans HBOX.out)
    have hbw : Below w.heap.size w wc := HBW0.out.trans (hb.mono (by omega))
    have hz := hb.size
    have HBW := hd hbw
    have HBLK := hd hblk
    have hz8 : w.heap.size < wc.heap.size := by omega
    have hz9 : w.heap.size + 1 + 1 < wc.heap.size := by omega
    clear hb hblk hbw s0 s1 s2 s3 s4 r0' HBO HBR
    cases has
    case true =>
      have HE3 : Hid (out = Sq.refused 8) := by show _ = _; rw [HE2.out]; rfl
      go_wp2_with fail
      refine (refused_any 8 _ (by omega) (by omega) (HT.out.below HBW.out)).mono ?_
      rintro e w3 ⟨rfl, hb3⟩
      have hblk3 := (hb3.block (w.heap.size + 1) (by omega)).trans HBLK.out
      obtain ⟨d0, d1, d2, d3, d4, d5, d6⟩ := seven_cells hblk3
      obtain ⟨f0, f1, f2, f3, f4, f5, f6⟩ := seven_frozen hblk3
      have hz3 := hb3.size
      have HB3 := hd hb3
      have hz4 : w.heap.size + 1 < w3.heap.size := by omega
      clear hb3 hblk3
      unfold outCells
      go_wp2
      refine bodyPost_ret (v := .agg (outCells (Sq.refused 8) (.slice none 0 0) (.slice none 0 0) (.slice none 0 0))) (by simp [results, Tryz.results28, go_sem, outCells, *]) rfl ⟨_, _, _, by rw [HE3.out], by rw [HE3.out]; exact OutAt.none _ _ rfl rfl rfl, ?_⟩
      exact set7_below (HBW.out.trans (HB3.out.mono (by omega))) (by omega) _ _ _ _ _ _ _
    case false =>
      go_wp2_with fail
      refine (HKS.out _ HBW.out).mono ?_
      rintro e wd ⟨rfl, hbd⟩
      have HBLKd := hd ((hbd.block (w.heap.size + 1) (by omega)).trans HBLK.out)
      have r0d := (hbd.cell (p := ⟨w.heap.size + 1 + 1, 0, none⟩) (by show w.heap.size + 1 + 1 < _; omega)).trans r0
      have HBWd := hd (HBW.out.trans (hbd.mono (by omega)))
      have hzd := hbd.size
      have hzd2 : w.heap.size + 1 + 1 < wd.heap.size := by omega
      clear hbd r0 t0 t1 t2 t3 t4 HBW HBLK
      have r0 := r0d
      clear r0d
      have HBW := hd HBWd.out
      have HBLK := hd HBLKd.out
      clear HBWd HBLKd
      by_cases hfull : 60 ≤ (q4 : Int)
      · have HE3 : Hid (out = Sq.refused 10) := by show _ = _; rw [HE2.out, if_neg (by decide), if_pos hfull]
        go_wp2_with fail
        refine (refused_any 10 _ (by omega) (by omega) (HT.out.below HBW.out)).mono ?_
        rintro e w3 ⟨rfl, hb3⟩
        have hblk3 := (hb3.block (w.heap.size + 1) (by omega)).trans HBLK.out
        obtain ⟨d0, d1, d2, d3, d4, d5, d6⟩ := seven_cells hblk3
        obtain ⟨f0, f1, f2, f3, f4, f5, f6⟩ := seven_frozen hblk3
        have hz3 := hb3.size
        have HB3 := hd hb3
        have hz4 : w.heap.size + 1 < w3.heap.size := by omega
        clear hb3 hblk3
        unfold outCells
        go_wp2
        refine bodyPost_ret (v := .agg (outCells (Sq.refused 10) (.slice none 0 0) (.slice none 0 0) (.slice none 0 0))) (by simp [results, Tryz.results28, go_sem, outCells, *]) rfl ⟨_, _, _, by rw [HE3.out], by rw [HE3.out]; exact OutAt.none _ _ rfl rfl rfl, ?_⟩
        exact set7_below (HBW.out.trans (HB3.out.mono (by omega))) (by omega) _ _ _ _ _ _ _
      · have HE3 : Hid (out = ⟨Sq.counted 1, false, Sq.nobytes, [], a, [vals], []⟩) := by show _ = _; rw [HE2.out, if_neg (by decide), if_neg hfull]
        have hz5 : w.heap.size + 1 + 1 < wd.heap.size := by omega
        go_wp2
        go_region_with (go_at_call 46; first
          | (refine (counted_any 1 wd.drew (by omega) (by omega) (HT.out.below HBW.out.drew)).mono ?_; rintro e w3 ⟨rfl, hb3⟩; have hb3' : Below wd.heap.size wd w3 := (Below.drew (Below.refl _ _)).trans hb3; have hblk3 := (hb3'.block (w.heap.size + 1) (by omega)).trans HBLK.out; obtain ⟨d0, d1, d2, d3, d4, d5, d6⟩ := seven_cells hblk3; obtain ⟨f0, f1, f2, f3, f4, f5, f6⟩ := seven_frozen hblk3; have r1 := (hb3'.cell (p := ⟨w.heap.size + 1 + 1, 0, none⟩) (by simp; omega)).trans r0; have hz3 := hb3'.size; have hz4 : w.heap.size + 1 < w3.heap.size := (by omega); have hz6 : w.heap.size + 1 + 1 < w3.heap.size := (by omega); have HB3 := hd hb3'; have HBLK3 := hd hblk3; clear hb3 hb3' hblk3)
          | (refine (counted_any 1 (wd.drew.alloc _) (by omega) (by omega) (HT.out.below (Below.alloc (B := w.heap.size) HBW.out.drew (by simp; omega) _))).mono ?_; rintro e w3 ⟨rfl, hb3⟩; have hb3' : Below wd.heap.size wd w3 := (Below.alloc (B := wd.heap.size) (Below.drew (Below.refl _ _)) (Nat.le_refl _) _).trans (hb3.mono (by simp)); have hblk3 := (hb3'.block (w.heap.size + 1) (by omega)).trans HBLK.out; obtain ⟨d0, d1, d2, d3, d4, d5, d6⟩ := seven_cells hblk3; obtain ⟨f0, f1, f2, f3, f4, f5, f6⟩ := seven_frozen hblk3; have e9 := (hb3.block wd.heap.size (by simp)).trans (alloc_at wd.drew _); have hz3 := hb3'.size; have hz4 : w.heap.size + 1 < w3.heap.size := (by omega); have HB3 := hd hb3'; have HBLK3 := hd hblk3; have HE9 := hd e9; clear hb3 hb3' hblk3 e9))
        all_goals (try go_wp2_with fail)
        all_goals first
          | (have hmark := HE9.out
             refine bodyPost_ret (v := .agg (outCells ⟨Sq.counted 1, false, Sq.nobytes, [], a, [vals], []⟩ (.slice none 0 0) (.slice (some ⟨wd.heap.size, 0, none⟩) 1 1) (.slice none 0 0))) (by simp [results, Tryz.results28, go_sem, outCells, Sq.nobytes, *]) rfl ⟨_, _, _, by rw [HE3.out], ?_, ?_⟩
             · rw [HE3.out]
               exact ⟨⟨World.ownsRow_nil _ _ _ _, by simp⟩, RowsOwn.one ((set7_other _ _ _ _ _ _ _ _ _ (by omega)).trans HE9.out) (HV.out.below (set7_below (HBW.out.trans (HB3.out.mono (by omega))) (by omega) _ _ _ _ _ _ _)), World.ownsRow_nil _ _ _ _, by simp, by simp⟩
             · exact set7_below (HBW.out.trans (HB3.out.mono (by omega))) (by omega) _ _ _ _ _ _ _)
          | (refine bodyPost_ret (v := .agg (outCells ⟨Sq.counted 1, false, Sq.nobytes, [], a, [vals], []⟩ (.slice none 0 0) (.slice (some ⟨w3.heap.size, 0, none⟩) 1 1) (.slice none 0 0))) (by simp [results, Tryz.results28, go_sem, outCells, Sq.nobytes, *]) rfl ⟨_, _, _, by rw [HE3.out], ?_, ?_⟩
             · rw [HE3.out]
               exact ⟨⟨World.ownsRow_nil _ _ _ _, by simp⟩, RowsOwn.one (alloc_at' (set7_size _ _ _ _ _ _ _ _ _).symm _) (HV.out.below (Below.alloc (B := w.heap.size) (set7_below (HBW.out.trans (HB3.out.mono (by omega))) (by omega) _ _ _ _ _ _ _) (by rw [set7_size]; omega) _)), World.ownsRow_nil _ _ _ _, by simp, by simp⟩
             · exact Below.alloc (B := w.heap.size) (set7_below (HBW.out.trans (HB3.out.mono (by omega))) (by omega) _ _ _ _ _ _ _) (by rw [set7_size]; omega) _)

end Go.Proofs.YtamkfbelpfpjcaaGreatDoor
