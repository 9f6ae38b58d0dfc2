import Derived.Test.YtamkfbelpfpjcaaGreatDoorGf
import Derived.Test.YtamkfbelpfpjcaaGreatDoorGb
set_option linter.unusedVariables false
set_option linter.unusedSimpArgs false

namespace Go.Proofs.YtamkfbelpfpjcaaGreatDoor
open Go.RowKit

/-- A row in memory: its slice. -/
def RowAt (w : World) (v : Value) (row : List Sq.Val) : Prop := w.ownsRow 0 139 3 v row.length (row.flatMap Sq.Val.cells) ∧ row.length ≤ 100000
theorem RowAt.below {w w' : World} {v : Value} {l : List Sq.Val} (h : RowAt w v l) (hb : Below w.heap.size w w') : RowAt w' v l := ⟨ownsRow_below h.1 hb, h.2⟩

theorem three_later {W w1 : World} {b : Nat} (hb : Below W.heap.size W w1) (hlt : b < W.heap.size) {x y z : Value} (h0 : W.cell? ⟨b, 0, none⟩ = some x) (h1 : W.cell? ⟨b, 1, none⟩ = some y) (h2 : W.cell? ⟨b, 2, none⟩ = some z) :
    w1.cell? ⟨b, 0, none⟩ = some x ∧ w1.cell? ⟨b, 1, none⟩ = some y ∧ w1.cell? ⟨b, 2, none⟩ = some z := by
  obtain ⟨k1, -⟩ := bcell hb
  exact ⟨(k1 b 0 hlt).trans h0, (k1 b 1 hlt).trans h1, (k1 b 2 hlt).trans h2⟩

set_option maxRecDepth 100000 in
set_option maxHeartbeats 1000000 in
theorem cellOf_any (cols : List Sq.Col) (row : List Sq.Val) (cv rv : Value) (n : ByteArray) (w : World) (h : ColsAt w cv cols) (hr : RowAt w rv row) :
    Calls Tryz.prog 98 #[cv, .agg #[rv], .string n] w fun e w' => e = .returned (.agg (Sq.cellOf cols row n).cells.toArray) ∧ Below w.heap.size w w' := by
  obtain ⟨ao, cap, rfl⟩ := ownsRow_slice hr.1
  have hl := h.2
  have hl2 := hr.2
  have H := hd h
  have HR := hd hr
  have hW : ∀ o o2, Below w.heap.size w ((w.alloc o).alloc o2) := fun o o2 => ((Below.refl _ _).alloc (Nat.le_refl _) _).alloc (by simp) _
  have HW := hd hW
  clear h hr hW
  rcases Sq.find_cases cols n with hf | ⟨k, hk, hf⟩
  · have HE : Hid (Sq.cellOf cols row n = Sq.val0) := by show _ = _; unfold Sq.cellOf; rw [hf]; rfl
    have HF := hd hf
    clear hf
    go_enter Tryz.func98, Tryz.ntmps98
    go_wp2_with (go_at_call 84; refine (Find_any cols _ n _ (H.out.below (HW.out _ _)).1 hl).mono ?_; rintro e w' ⟨rfl, rfl⟩; rw [HF.out])
    exact bodyPost_ret (v := .agg #[.int .i64 0, .int .i64 0, .string ⟨#[]⟩]) (by simp [results, Tryz.results98, go_sem]) rfl ⟨by rw [HE.out]; rfl, HW.out _ _⟩
  have HF := hd hf
  by_cases hkr : k < row.length
  · have HE : Hid (Sq.cellOf cols row n = row[k]) := by show _ = _; unfold Sq.cellOf; rw [hf, if_neg (by omega), Int.toNat_natCast, List.getElem?_eq_getElem hkr]; rfl
    obtain ⟨g, cap', hv, hg, hc⟩ := sl_at (f := Sq.Val.cells) (fun _ => rfl) HR.out.1 k hkr
    simp only [Value.slice.injEq] at hv
    obtain ⟨rfl, -, rfl⟩ := hv
    have c0 := hc 0 (.int .i64 row[k].kind) (by decide) rfl
    have c1 := hc 1 (.int .i64 row[k].number) (by decide) rfl
    have c2 := hc 2 (.string row[k].text) (by decide) rfl
    simp only [Nat.add_zero] at c0
    clear hc hf
    go_enter Tryz.func98, Tryz.ntmps98
    go_wp2_with (go_at_call 84; refine (Find_any cols _ n _ (H.out.below (HW.out _ _)).1 hl).mono ?_; rintro e w' ⟨rfl, rfl⟩; rw [HF.out])
    exact bodyPost_ret (v := .agg #[.int .i64 row[k].kind, .int .i64 row[k].number, .string row[k].text]) (by simp [results, Tryz.results98, go_sem]) rfl ⟨by rw [HE.out]; rfl, HW.out _ _⟩
  · have HE : Hid (Sq.cellOf cols row n = Sq.val0) := by show _ = _; unfold Sq.cellOf; rw [hf, if_neg (by omega), Int.toNat_natCast, List.getElem?_eq_none (by omega)]; rfl
    clear hf
    go_enter Tryz.func98, Tryz.ntmps98
    go_wp2_with (go_at_call 84; refine (Find_any cols _ n _ (H.out.below (HW.out _ _)).1 hl).mono ?_; rintro e w' ⟨rfl, rfl⟩; rw [HF.out])
    exact bodyPost_ret (v := .agg #[.int .i64 0, .int .i64 0, .string ⟨#[]⟩]) (by simp [results, Tryz.results98, go_sem]) rfl ⟨by rw [HE.out]; rfl, HW.out _ _⟩

set_option maxRecDepth 100000 in
set_option maxHeartbeats 1000000 in
theorem valueOf_any (cols : List Sq.Col) (row : List Sq.Val) (cv rv : Value) (t : Sq.Term) (w : World) (h : ColsAt w cv cols) (hr : RowAt w rv row) :
    Calls Tryz.prog 133 #[cv, .agg #[rv], .agg t.cells.toArray] w fun e w' => e = .returned (.agg (Sq.valueOf cols row t).cells.toArray) ∧ Below w.heap.size w w' := by
  obtain ⟨ao, cap, rfl⟩ := ownsRow_slice hr.1
  obtain ⟨tc, ⟨tk, tn, tt⟩⟩ := t
  unfold Sq.Term.cells
  have H := hd h
  have HR := hd hr
  have hW : ∀ o o2 o3, Below w.heap.size w (((w.alloc o).alloc o2).alloc o3) := fun o o2 o3 => (((Below.refl _ _).alloc (Nat.le_refl _) _).alloc (by simp) _).alloc (by simp; omega) _
  have HW := hd hW
  clear h hr hW
  cases he : tc.toList.isEmpty
  case true =>
    have HE : Hid (Sq.valueOf cols row ⟨tc, ⟨tk, tn, tt⟩⟩ = ⟨tk, tn, tt⟩) := by show _ = _; unfold Sq.valueOf; simp only; rw [he]; rfl
    go_enter Tryz.func133, Tryz.ntmps133
    go_wp2
    exact bodyPost_ret (v := .agg #[.int .i64 tk, .int .i64 tn, .string tt]) (by simp [results, Tryz.results133, go_sem]) rfl ⟨by rw [HE.out]; rfl, HW.out _ _ _⟩
  case false =>
    have HE : Hid (Sq.valueOf cols row ⟨tc, ⟨tk, tn, tt⟩⟩ = Sq.cellOf cols row tc) := by show _ = _; unfold Sq.valueOf; simp only; rw [he]; rfl
    obtain ⟨x, hx⟩ : ∃ x, x = Sq.cellOf cols row tc := ⟨_, rfl⟩
    have HX := hd hx
    clear hx
    go_enter Tryz.func133, Tryz.ntmps133
    go_wp2_with fail
    refine (cellOf_any cols row cv _ tc _ (H.out.below (HW.out _ _ _)) (HR.out.below (HW.out _ _ _))).mono ?_
    rintro e w1 ⟨rfl, hb1⟩
    rw [← HX.out]
    have hbw : Below w.heap.size w w1 := (HW.out _ _ _).trans (hb1.mono (by simp; omega))
    obtain ⟨k1, k2⟩ := bcell hb1
    have a0 := k1 (w.heap.size + 1 + 1) 0 (by simp)
    have a1 := k1 (w.heap.size + 1 + 1) 1 (by simp)
    have a2 := k1 (w.heap.size + 1 + 1) 2 (by simp)
    have b0 := k2 (w.heap.size + 1 + 1) 0 (by simp)
    have b1 := k2 (w.heap.size + 1 + 1) 1 (by simp)
    have b2 := k2 (w.heap.size + 1 + 1) 2 (by simp)
    simp [go_sem] at a0 a1 a2 b0 b1 b2
    have hz : w.heap.size + 1 + 1 < w1.heap.size := by have := hb1.size; simp at this; omega
    clear k1 k2 hb1
    obtain ⟨xk, xn, xt⟩ := x
    unfold Sq.Val.cells
    go_wp2
    refine bodyPost_ret (v := .agg #[.int .i64 xk, .int .i64 xn, .string xt]) (by simp [results, Tryz.results133, go_sem, *]) rfl ⟨by rw [HE.out, ← HX.out]; rfl, ?_⟩
    exact Below.setCell (B := w.heap.size) (Below.setCell (B := w.heap.size) (Below.setCell (B := w.heap.size) hbw (by simp; omega) _) (by simp; omega) _) (by simp; omega) _

end Go.Proofs.YtamkfbelpfpjcaaGreatDoor

namespace Go.Proofs.YtamkfbelpfpjcaaGreatDoor
open Go.RowKit

set_option maxRecDepth 100000 in
set_option maxHeartbeats 1000000 in
theorem compared_any (cols : List Sq.Col) (row : List Sq.Val) (cv rv : Value) (s : Sq.StepS) (w : World) (h : ColsAt w cv cols) (hr : RowAt w rv row) :
    Calls Tryz.prog 90 #[cv, .agg #[rv], .agg s.cells.toArray] w fun e w' => e = .returned (.bool (Sq.compared cols row s)) ∧ Below w.heap.size w w' := by
  obtain ⟨ao, cap, rfl⟩ := ownsRow_slice hr.1
  have HE : Hid (Sq.compared cols row s = Sq.holds s.op (Sq.compare (Sq.valueOf cols row s.left) (Sq.valueOf cols row s.right))) := rfl
  obtain ⟨op, ⟨lc, ⟨lk, ln, lt⟩⟩, ⟨rc, ⟨rk, rn, rt⟩⟩⟩ := s
  obtain ⟨x, hx⟩ : ∃ x, x = Sq.valueOf cols row ⟨lc, ⟨lk, ln, lt⟩⟩ := ⟨_, rfl⟩
  obtain ⟨y, hy⟩ : ∃ x, x = Sq.valueOf cols row ⟨rc, ⟨rk, rn, rt⟩⟩ := ⟨_, rfl⟩
  have hE := HE.out
  simp only [← hx, ← hy] at hE
  have HE2 := hd hE
  have HX := hd hx
  have HY := hd hy
  clear hE HE hx hy
  unfold Sq.StepS.cells
  have H := hd h
  have HR := hd hr
  have hW : ∀ o o2, Below w.heap.size w ((w.alloc o).alloc o2) := fun o o2 => ((Below.refl _ _).alloc (Nat.le_refl _) _).alloc (by simp) _
  have HW := hd hW
  clear h hr hW
  go_enter Tryz.func90, Tryz.ntmps90
  go_wp2_with fail
  refine (valueOf_any cols row cv _ ⟨lc, ⟨lk, ln, lt⟩⟩ _ (H.out.below (HW.out _ _)) (HR.out.below (HW.out _ _))).mono ?_
  rintro e w1 ⟨rfl, hb1⟩
  rw [← HX.out]
  have hbw : Below w.heap.size w w1 := (HW.out _ _).trans (hb1.mono (by simp; omega))
  obtain ⟨k1, k2⟩ := bcell hb1
  have a0 := k1 w.heap.size 0 (by simp; omega)
  have b0 := k1 (w.heap.size + 1) 0 (by simp)
  have b5 := k1 (w.heap.size + 1) 5 (by simp)
  have b6 := k1 (w.heap.size + 1) 6 (by simp)
  have b7 := k1 (w.heap.size + 1) 7 (by simp)
  have b8 := k1 (w.heap.size + 1) 8 (by simp)
  simp [go_sem] at a0 b0 b5 b6 b7 b8
  have hz : w.heap.size + 1 < w1.heap.size := by have := hb1.size; simp at this; omega
  have hz0 : w.heap.size < w1.heap.size := by omega
  clear k1 k2 hb1
  obtain ⟨xk, xn, xt⟩ := x
  unfold Sq.Val.cells
  have hW1 : Below w.heap.size w (w1.alloc (.cells #[.int .i64 xk, .int .i64 xn, .string xt] 139)) := Below.alloc (B := w.heap.size) hbw (by omega) _
  have HW1 := hd hW1
  clear hW1
  go_wp2_with fail
  refine (valueOf_any cols row cv _ ⟨rc, ⟨rk, rn, rt⟩⟩ _ (H.out.below HW1.out) (HR.out.below HW1.out)).mono ?_
  rintro e w2 ⟨rfl, hb2⟩
  rw [← HY.out]
  have hbw2 : Below w.heap.size w w2 := HW1.out.trans (hb2.mono (by simp; omega))
  obtain ⟨k1, k2⟩ := bcell hb2
  have d0 := k1 w1.heap.size 0 (by simp)
  have d1 := k1 w1.heap.size 1 (by simp)
  have d2 := k1 w1.heap.size 2 (by simp)
  have b0' := (k1 (w.heap.size + 1) 0 (by simp; omega)).trans ((World.cell?_alloc_past _ _ _ hz).trans b0)
  simp [go_sem] at d0 d1 d2
  have hz2 : w1.heap.size < w2.heap.size := by have := hb2.size; simp at this; omega
  have hz3 : w.heap.size + 1 < w2.heap.size := by omega
  clear k1 k2 hb2 a0 b0 b5 b6 b7 b8
  obtain ⟨yk, yn, yt⟩ := y
  unfold Sq.Val.cells
  have hW2 : Below w.heap.size w (w2.alloc (.cells #[.int .i64 yk, .int .i64 yn, .string yt] 139)) := Below.alloc (B := w.heap.size) hbw2 (by omega) _
  go_wp2_with fail
  refine (Compare_any ⟨xk, xn, xt⟩ ⟨yk, yn, yt⟩ _).mono ?_
  rintro e w3 ⟨rfl, hb3⟩
  have hbw3 : Below w.heap.size w w3 := hW2.trans (hb3.mono (by simp; omega))
  obtain ⟨k1, k2⟩ := bcell hb3
  have b0'' := (k1 (w.heap.size + 1) 0 (by simp; omega)).trans ((World.cell?_alloc_past _ _ _ hz3).trans b0')
  obtain ⟨sd, hsd⟩ : ∃ x, x = Sq.compare ⟨xk, xn, xt⟩ ⟨yk, yn, yt⟩ := ⟨_, rfl⟩
  have hE := HE2.out
  rw [← hsd] at hE ⊢
  have HE3 : Hid (Sq.compared cols row ⟨op, ⟨lc, ⟨lk, ln, lt⟩⟩, ⟨rc, ⟨rk, rn, rt⟩⟩⟩ = Sq.holds op sd) := hE
  clear k1 k2 hb3 d0 d1 d2 b0' hW2 hE hsd HE2
  cases h1 : op.toList == [61]
  case true =>
    go_wp2
    go_ret
    exact ⟨by rw [HE3.out]; unfold Sq.holds; rw [h1]; rfl, hbw3⟩
  cases h2 : op.toList == [60, 62]
  case true =>
    go_wp2
    go_ret
    exact ⟨by rw [HE3.out]; unfold Sq.holds; rw [h1, h2]; rfl, hbw3⟩
  cases h3 : op.toList == [60]
  case true =>
    go_wp2
    go_ret
    exact ⟨by rw [HE3.out]; unfold Sq.holds; rw [h1, h2, h3]; rfl, hbw3⟩
  cases h4 : op.toList == [60, 61]
  case true =>
    go_wp2
    go_ret
    exact ⟨by rw [HE3.out]; unfold Sq.holds; rw [h1, h2, h3, h4]; rfl, hbw3⟩
  cases h5 : op.toList == [62]
  case true =>
    go_wp2
    go_ret
    exact ⟨by rw [HE3.out]; unfold Sq.holds; rw [h1, h2, h3, h4, h5]; rfl, hbw3⟩
  case false =>
    go_wp2
    go_ret
    exact ⟨by rw [HE3.out]; unfold Sq.holds; rw [h1, h2, h3, h4, h5]; rfl, hbw3⟩

/-- The pile lies in block pb, its row behind it. -/
structure PL (pb : Nat) (w : World) (l : List Bool) : Prop where
  row : ∃ v, w.heap[pb]? = some (.cells #[v] 153) ∧ w.ownsRow (pb + 1) 4 1 v l.length (l.map Value.bool)
  few : l.length ≤ 100000

theorem PL.lt {pb : Nat} {w : World} {l : List Bool} (h : PL pb w l) : pb < w.heap.size := by obtain ⟨v, h1, _⟩ := h.row; exact lt_blk h1
theorem PL.below {pb : Nat} {w w' : World} {l : List Bool} (h : PL pb w l) (hb : Below w.heap.size w w') : PL pb w' l := by
  have hlt := h.lt
  obtain ⟨v, h1, h2⟩ := h.row
  exact ⟨⟨v, by rw [hb.block pb hlt]; exact h1, ownsRow_below h2 hb⟩, h.few⟩

theorem Tryz.infoBool : (Tryz.prog.info? 4).map (fun i => (i.zero, i.size, i.bytes)) = some (some (.bool false), 1, 1) := by kernel_rfl

set_option maxRecDepth 100000 in
set_option maxHeartbeats 1000000 in
theorem push_any {pb : Nat} {w : World} {l : List Bool} (b : Bool) (h : PL pb w l) (hn : l.length + 1 ≤ 100000) :
    Calls Tryz.prog 91 #[.pointer (some ⟨pb, 0, none⟩), .bool b] w fun e w' => e = .returned (.tuple #[]) ∧ PL pb w' (l ++ [b]) ∧ Below pb w w' := by
  obtain ⟨i0, hi, hz0, hz1, hz2⟩ := info_parts Tryz.infoBool
  have hlt := h.lt
  obtain ⟨v, hb, hown⟩ := h.row
  have c0 : w.cell? ⟨pb, 0, none⟩ = some v := by rw [cell_blk hb]; rfl
  have hW : Below w.heap.size w (w.alloc (.cells #[.bool b] 4)) := (Below.refl _ _).alloc (Nat.le_refl _) _
  have HO := hd (ownsRow_below hown hW)
  have HB : Hid ((w.alloc (.cells #[.bool b] 4)).heap[pb]? = some (.cells #[v] 153)) := (hW.block pb hlt).trans hb
  have HW := hd hW
  clear hb hown hW h
  go_enter Tryz.func91, Tryz.ntmps91
  go_wp2_with (at_builtin; refine wpList_append_lies _ rfl (.tmp 8) (.tmp 10) 151 rfl (pb + 1) 4 i0 _ 1 1 Tryz.underlying151 hi hz0 hz1 hz2 rfl (by decide) v l.length (l.map Value.bool) rfl HO.out ⟨w.heap.size, 0, none⟩ 1 1 [.bool b] rfl rfl (by exact new_cells w _ _ _ rfl rfl) (by intro u hu; simp at hu; subst hu; rfl) (by decide) (by unfold maxLen; omega) (by omega) (by simp; omega) _ rfl ?_; intro g cap w1 hown1 hgrow hat hltg; have hb1 := (hgrow.block pb (by simp; omega) (fun e => ownsRow_notin HO.out HB.out (by decide) e.symm)).trans HB.out; have k0 : w1.cell? ⟨pb, 0, none⟩ = some v := (by rw [cell_blk hb1]; rfl); have f0 := frozen_blk hb1 0; have hlt1 := lt_blk hb1; have HO1 := hd hown1; have HG := hd hgrow; have HB1 := hd hb1; clear hown1 hgrow hat hb1)
  go_end0
  refine ⟨rfl, ⟨⟨.slice (some ⟨g, 0, none⟩) (l.length + 1) cap, by rw [heap_set_same HB1.out]; rfl, ?_⟩, by simpa using hn⟩, ?_⟩
  · have := HO1.out
    rw [List.length_append, List.length_singleton, List.map_append]
    exact ownsRow_same this fun k hk => heap_set_other (fun e => ownsRow_notin this HB1.out (by decide) (by rw [hk, e]))
  · refine Below.setCell (B := pb) (Below.trans (Below.mono (B' := pb) HW.out (by omega)) (Tch.of_grown HG.out (fun k hk => ?_) (by simp; omega))) (Nat.le_refl _) _
    exact Nat.le_of_succ_le (HO.out.lt k hk).1

end Go.Proofs.YtamkfbelpfpjcaaGreatDoor

namespace Go.Proofs.YtamkfbelpfpjcaaGreatDoor
open Go.RowKit

/-- A shorter slice of the same row. -/
theorem ownsRow_prefix {w : World} {base : Nat} {e : TypeId} {size : Nat} {g n cap : Nat} {xs ys : List Value} (h : w.ownsRow base e size (.slice (some ⟨g, 0, none⟩) n cap) n (xs ++ ys)) (m : Nat) (hm : m ≤ n) (hx : xs.length = m * size) : w.ownsRow base e size (.slice (some ⟨g, 0, none⟩) m cap) m xs := by
  refine ⟨hx, ?_⟩
  rcases h.2 with ⟨h1, h2⟩ | ⟨g', cap', cur, h1, hg, hh, hn, hmx, hc, ht⟩
  · simp at h1
  · simp only [Value.slice.injEq, Option.some.injEq, Addr.mk.injEq] at h1
    obtain ⟨⟨rfl, -, -⟩, -, rfl⟩ := h1
    refine Or.inr ⟨g, cap, cur, rfl, hg, hh, by omega, hmx, hc, ?_⟩
    have : cur.toList.take (m * size) = (cur.toList.take (n * size)).take (m * size) := by
      rw [List.take_take]
      congr 1
      have := Nat.mul_le_mul_right size hm
      omega
    rw [this, ht, List.take_left' hx]

set_option maxRecDepth 100000 in
set_option maxHeartbeats 1000000 in
theorem pop_any {pb : Nat} {w : World} {l : List Bool} (h : PL pb w l) :
    Calls Tryz.prog 93 #[.pointer (some ⟨pb, 0, none⟩)] w fun e w' => e = .returned (.bool (Sq.popB l)) ∧ PL pb w' l.dropLast ∧ Below pb w w' := by
  have hlt := h.lt
  have hfew := h.few
  obtain ⟨v, hb, hown⟩ := h.row
  have HPL := hd h
  clear h
  rcases List.eq_nil_or_concat l with rfl | ⟨l', b, rfl⟩
  · have hv : v = .slice none 0 0 ∨ ∃ g cap, v = .slice (some ⟨g, 0, none⟩) 0 cap := by
      rcases hown.2 with ⟨h1, _⟩ | ⟨g, cap, _, h1, _⟩
      · exact Or.inl h1
      · exact Or.inr ⟨g, cap, h1⟩
    have c0 : w.cell? ⟨pb, 0, none⟩ = some v := by rw [cell_blk hb]; rfl
    clear hown hb
    rcases hv with rfl | ⟨g, cap, rfl⟩
    all_goals
      go_enter Tryz.func93, Tryz.ntmps93
      go_wp2
      go_ret
      exact ⟨rfl, HPL.out, Below.refl _ _⟩
  · rw [List.concat_eq_append] at hown hfew
    have hle : (l' ++ [b]).length = l'.length + 1 := by simp
    obtain ⟨g, cap, rfl, hg1, hg2⟩ := hown.form (by rw [hle]; omega)
    rw [hle] at hown hb hfew
    rw [List.concat_eq_append]
    have hE : Sq.popB (l' ++ [b]) = b := by simp [Sq.popB]
    have HE := hd hE
    have c0 : w.cell? ⟨pb, 0, none⟩ = some (.slice (some ⟨g, 0, none⟩) (l'.length + 1) cap) := by rw [cell_blk hb]; rfl
    have f0 := frozen_blk hb 0
    have ct := hown.cells (g := g) rfl l'.length (.bool b) (by simp)
    rw [show (⟨g, 0, none⟩ : Addr).add l'.length = ⟨g, l'.length, none⟩ from by unfold Addr.add; split <;> simp_all] at ct
    have hcap : l'.length + 1 ≤ cap ∧ cap ≤ 9223372036854775807 := by
      rcases hown.2 with ⟨h1, h2⟩ | ⟨g', cap', cur, h1, hg, hh, hn, hm, _⟩
      · omega
      · simp only [Value.slice.injEq] at h1
        obtain ⟨-, -, rfl⟩ := h1
        exact ⟨hn, hm⟩
    obtain ⟨hcap1, hcap2⟩ := hcap
    have HO := hd hown
    have HB := hd hb
    clear hown hb hE hle HPL
    go_enter Tryz.func93, Tryz.ntmps93
    go_wp2
    go_ret
    refine ⟨by rw [HE.out]; rfl, ⟨⟨.slice (some ⟨g, 0, none⟩) l'.length cap, by rw [heap_set_same HB.out]; rfl, ?_⟩, by simp; omega⟩, Below.setCell (B := pb) (Below.refl _ _) (Nat.le_refl _) _⟩
    have h1 := HO.out
    rw [List.map_append] at h1
    have h2 := ownsRow_prefix h1 l'.length (by omega) (by simp)
    rw [List.dropLast_concat]
    exact ownsRow_same h2 fun k hk => heap_set_other (fun e => ownsRow_notin h2 HB.out (by decide) (by rw [hk, e]))

theorem Sq.dropLast_len (l : List Bool) : l.dropLast.length ≤ l.length := by simp

set_option maxRecDepth 100000 in
set_option maxHeartbeats 1000000 in
theorem join_any {pb : Nat} {w : World} {l : List Bool} (op : ByteArray) (h : PL pb w l) (hn : l.length + 1 ≤ 100000) :
    Calls Tryz.prog 92 #[.pointer (some ⟨pb, 0, none⟩), .string op] w fun e w' => e = .returned (.tuple #[]) ∧ PL pb w' (Sq.joinB l op) ∧ Below pb w w' := by
  have hlt := h.lt
  have H := hd h
  have hd1 := Sq.dropLast_len l
  have hd2 := Sq.dropLast_len l.dropLast
  clear h
  go_enter Tryz.func92, Tryz.ntmps92
  go_wp2_with fail
  refine (pop_any H.out).mono ?_
  rintro e w1 ⟨rfl, hp1, hb1⟩
  have HP1 := hd hp1
  obtain ⟨x, hx⟩ : ∃ x, x = Sq.popB l := ⟨_, rfl⟩
  rw [← hx]
  have HX := hd hx
  clear hp1 hx
  cases h1 : op.toList == [110, 111, 116]
  case true =>
    have HE : Hid (Sq.joinB l op = l.dropLast ++ [!x]) := by show _ = _; unfold Sq.joinB; rw [h1, HX.out]; rfl
    go_wp2_with fail
    refine (push_any (!x) HP1.out (by omega)).mono ?_
    rintro e w2 ⟨rfl, hp2, hb2⟩
    have HP2 := hd hp2
    clear hp2
    go_wp2
    exact bodyPost_ret (v := .tuple #[]) (by simp [results, Tryz.results92, go_sem]) rfl ⟨rfl, by rw [HE.out]; exact HP2.out, hb1.trans hb2⟩
  case false =>
    go_wp2_with fail
    refine (pop_any HP1.out).mono ?_
    rintro e w2 ⟨rfl, hp2, hb2⟩
    have HP2 := hd hp2
    obtain ⟨y, hy⟩ : ∃ x, x = Sq.popB l.dropLast := ⟨_, rfl⟩
    rw [← hy]
    have HY := hd hy
    clear hp2 hy
    cases h2 : op.toList == [97, 110, 100]
    case true =>
      have HE : Hid (Sq.joinB l op = l.dropLast.dropLast ++ [y && x]) := by show _ = _; unfold Sq.joinB; rw [h1, h2, HX.out, HY.out]; rfl
      cases y
      all_goals
        go_wp2_with fail
        refine (push_any _ HP2.out (by omega)).mono ?_
        rintro e w3 ⟨rfl, hp3, hb3⟩
        have HP3 := hd hp3
        clear hp3
        go_wp2
        go_end0
        exact ⟨rfl, by rw [HE.out]; exact HP3.out, hb1.trans (hb2.trans hb3)⟩
    case false =>
      have HE : Hid (Sq.joinB l op = l.dropLast.dropLast ++ [y || x]) := by show _ = _; unfold Sq.joinB; rw [h1, h2, HX.out, HY.out]; rfl
      cases y
      all_goals
        go_wp2_with fail
        refine (push_any _ HP2.out (by omega)).mono ?_
        rintro e w3 ⟨rfl, hp3, hb3⟩
        have HP3 := hd hp3
        clear hp3
        go_wp2
        go_end0
        exact ⟨rfl, by rw [HE.out]; exact HP3.out, hb1.trans (hb2.trans hb3)⟩


theorem Sq.joinB_len (l : List Bool) (op : ByteArray) : (Sq.joinB l op).length ≤ l.length + 1 := by
  unfold Sq.joinB
  split
  · simp
  · split <;> (simp; omega)
theorem Sq.stepB_len (cols : List Sq.Col) (row : List Sq.Val) (l : List Bool) (s : Sq.StepS) : (Sq.stepB cols row l s).length ≤ l.length + 1 := by
  unfold Sq.stepB
  split
  · simp
  · exact Sq.joinB_len l s.op
theorem Sq.foldl_take (f : List Bool → Sq.StepS → List Bool) (l : List Sq.StepS) (k : Nat) (h : k < l.length) : (l.take (k + 1)).foldl f [] = f ((l.take k).foldl f []) l[k] := by
  rw [List.take_succ_eq_append_getElem h, List.foldl_append]; rfl

set_option maxRecDepth 100000 in
set_option maxHeartbeats 1000000 in
theorem meets_any (cols : List Sq.Col) (row : List Sq.Val) (l : List Sq.StepS) (cv rv sv : Value) (w : World) (h : ColsAt w cv cols) (hr : RowAt w rv row) (hs : StepsAt w sv l) (hl : l.length ≤ 50000) :
    Calls Tryz.prog 53 #[cv, .agg #[rv], sv] w fun e w' => e = .returned (.bool (Sq.meets cols row l)) ∧ Below w.heap.size w w' := by
  obtain ⟨ao, cap, rfl⟩ := ownsRow_slice hr.1
  obtain ⟨bo, bap, rfl⟩ := ownsRow_slice hs.1
  have H := hd h
  have HR := hd hr
  have HS := hd hs
  clear h hr hs
  cases hz : l.isEmpty
  case true =>
    have HE : Hid (Sq.meets cols row l = true) := by show _ = _; unfold Sq.meets; rw [hz]; rfl
    have hz' : l.length = 0 := by simpa using hz
    clear hz
    go_enter Tryz.func53, Tryz.ntmps53
    go_wp2
    go_ret
    exact ⟨by rw [HE.out]; rfl, (Below.refl _ _).alloc (Nat.le_refl _) _⟩
  case false =>
    have HE : Hid (Sq.meets cols row l = Sq.popB (l.foldl (Sq.stepB cols row) [])) := by show _ = _; unfold Sq.meets; rw [hz]; rfl
    have hz' : ¬ l = [] := by simpa using hz
    have hzl : 0 < l.length := by cases l with | nil => exact absurd rfl hz' | cons _ _ => simp
    have hc0 : ((l.length : Int) == 0) = false := by simp; omega
    clear hz hz'
    have hW : Below w.heap.size w (w.alloc (.cells #[.slice ao row.length cap] 87)) := (Below.refl _ _).alloc (Nat.le_refl _) _
    have HW := hd hW
    clear hW
    go_enter Tryz.func53, Tryz.ntmps53
    go_wp2
    go_loopw [8] (fun i wr => ∃ k : Nat, k ≤ l.length ∧ i = .int .i64 k ∧ PL (w.heap.size + 1) wr ((l.take k).foldl (Sq.stepB cols row) []) ∧ ((l.take k).foldl (Sq.stepB cols row) []).length ≤ k ∧ Below (w.heap.size + 1) (w.alloc (.cells #[.slice ao row.length cap] 87)) wr) (fun i _ => l.length - (intOf i).toNat)
    case atStart =>
      refine ⟨0, Nat.zero_le _, rfl, ⟨⟨.slice none 0 0, ?_, World.ownsRow_nil _ _ _ _⟩, by simp⟩, by simp, (Below.refl _ _).alloc (by simp) _⟩
      have := heap_alloc_new (w.alloc (.cells #[.slice ao row.length cap] 87)) (.cells #[.slice none 0 0] 153)
      simpa using this
    case round =>
      obtain ⟨k, hk, rfl, hpl, hlen, hb⟩ := hrel
      have hbw : Below w.heap.size w wr := HW.out.trans (hb.mono (by omega))
      have a0 : wr.cell? ⟨w.heap.size, 0, none⟩ = some (.slice ao row.length cap) := (hb.cell (p := ⟨w.heap.size, 0, none⟩) (by simp)).trans (by simp [go_sem])
      have hzw := hpl.lt
      have HPL := hd hpl
      have HB := hd hb
      clear hpl hb
      by_cases hlt : k < l.length
      · obtain ⟨x, hx⟩ : ∃ x, x = l[k] := ⟨_, rfl⟩
        have HX := hd hx
        have cells : ∀ W, Below w.heap.size w W → ∃ g, bo = some ⟨g, 0, none⟩ ∧ g < W.heap.size ∧ ∀ j u, j < 9 → x.cells[j]? = some u → W.cell? ⟨g, k * 9 + j, none⟩ = some u := by
          intro W hW
          obtain ⟨g, cap', hv, hg, hc⟩ := sl_at (f := Sq.StepS.cells) (fun _ => rfl) (HS.out.below hW).1 k hlt
          simp only [Value.slice.injEq] at hv
          exact ⟨g, hv.1, hg, by rw [hx]; exact hc⟩
        have HC := hd cells
        obtain ⟨ls, hls⟩ : ∃ x, x = (l.take k).foldl (Sq.stepB cols row) [] := ⟨_, rfl⟩
        have hft := Sq.foldl_take (Sq.stepB cols row) l k hlt
        rw [← hls, ← hx] at hft
        have hsl := Sq.stepB_len cols row ls x
        rw [← hls] at hlen
        have hpl := HPL.out
        rw [← hls] at hpl
        have HPL2 := hd hpl
        have HFT := hd hft
        clear cells hx hls hft hpl HPL
        obtain ⟨g, hbo, hg, hc⟩ := HC.out wr hbw
        subst hbo
        have HSTB : Hid (Sq.stepB cols row ls x = if Sq.isComparison x.op then ls ++ [Sq.compared cols row x] else Sq.joinB ls x.op) := rfl
        obtain ⟨op, ⟨lc, ⟨lk, ln, lt⟩⟩, ⟨rc, ⟨rk, rn, rt⟩⟩⟩ := x
        have c0 := hc 0 _ (by decide) rfl
        have c1 := hc 1 _ (by decide) rfl
        have c2 := hc 2 _ (by decide) rfl
        have c3 := hc 3 _ (by decide) rfl
        have c4 := hc 4 _ (by decide) rfl
        have c5 := hc 5 _ (by decide) rfl
        have c6 := hc 6 _ (by decide) rfl
        have c7 := hc 7 _ (by decide) rfl
        have c8 := hc 8 _ (by decide) rfl
        simp only [Nat.add_zero] at c0
        clear hc
        go_wp2_with fail
        refine (Compares_any ⟨op, ⟨lc, ⟨lk, ln, lt⟩⟩, ⟨rc, ⟨rk, rn, rt⟩⟩⟩ _).mono ?_
        rintro e w1 ⟨rfl, hb1⟩
        have hbw1 : Below w.heap.size w w1 := hbw.trans (hb1.mono hbw.size)
        have HB1 := hd (HB.out.trans (hb1.mono (by omega)))
        have HPL3 := hd (HPL2.out.below hb1)
        have a0' := ((bcell hb1).1 w.heap.size 0 (by omega)).trans a0
        have hz1 := hb1.size
        clear c0 c1 c2 c3 c4 c5 c6 c7 c8 hb1 a0 HPL2 HB
        obtain ⟨g', hg', hg1, hc⟩ := HC.out w1 hbw1
        have hgg : g = g' := by simpa using hg'
        subst hgg
        have c0 := hc 0 _ (by decide) rfl
        have c1 := hc 1 _ (by decide) rfl
        have c2 := hc 2 _ (by decide) rfl
        have c3 := hc 3 _ (by decide) rfl
        have c4 := hc 4 _ (by decide) rfl
        have c5 := hc 5 _ (by decide) rfl
        have c6 := hc 6 _ (by decide) rfl
        have c7 := hc 7 _ (by decide) rfl
        have c8 := hc 8 _ (by decide) rfl
        simp only [Nat.add_zero] at c0
        clear hc hg'
        cases hcmp : Sq.isComparison op
        case true =>
          have HE2 : Hid ((l.take (k + 1)).foldl (Sq.stepB cols row) [] = ls ++ [Sq.compared cols row ⟨op, ⟨lc, ⟨lk, ln, lt⟩⟩, ⟨rc, ⟨rk, rn, rt⟩⟩⟩]) := by show _ = _; rw [HFT.out, HSTB.out, hcmp]; rfl
          clear HFT HSTB hsl
          go_wp2
          go_region_with (go_at_call 90; refine (compared_any cols row cv _ ⟨op, ⟨lc, ⟨lk, ln, lt⟩⟩, ⟨rc, ⟨rk, rn, rt⟩⟩⟩ _ (H.out.below hbw1.drew) (HR.out.below hbw1.drew)).mono ?_; rintro e w2 ⟨rfl, hb2⟩)
          all_goals
            have hb2' : Below w1.heap.size w1 w2 := (Below.drew (Below.refl _ _)).trans hb2
            have HPL4 := hd (HPL3.out.below hb2')
            have HB2 := hd (HB1.out.trans (hb2'.mono (by omega)))
            clear hb2 hb2' c0 c1 c2 c3 c4 c5 c6 c7 c8
            go_wp2_with fail
            refine (push_any _ HPL4.out (by omega)).mono ?_
            rintro e w3 ⟨rfl, hp3, hb3⟩
            have HP3 := hd hp3
            clear hp3
            go_wp2
            go_roundw
            case rel => exact ⟨k + 1, by omega, by go_num, by rw [HE2.out]; exact HP3.out, by rw [HE2.out]; simp; omega, HB2.out.trans hb3⟩
            case measure => simp [intOf]; omega
        case false =>
          have HE2 : Hid ((l.take (k + 1)).foldl (Sq.stepB cols row) [] = Sq.joinB ls op) := by show _ = _; rw [HFT.out, HSTB.out, hcmp]; rfl
          have hjl := Sq.joinB_len ls op
          clear HFT HSTB hsl
          go_wp2_with fail
          refine (join_any op HPL3.out (by omega)).mono ?_
          rintro e w3 ⟨rfl, hp3, hb3⟩
          have HP3 := hd hp3
          clear hp3
          go_wp2
          go_roundw
          case rel => exact ⟨k + 1, by omega, by go_num, by rw [HE2.out]; exact HP3.out, by rw [HE2.out]; omega, HB1.out.trans hb3⟩
          case measure => simp [intOf]; omega
      · have hkl : l.take k = l := List.take_of_length_le (by omega)
        have hpl := HPL.out
        rw [hkl] at hpl
        have HPL2 := hd hpl
        clear hpl hkl HPL
        go_wp2_with fail
        refine (pop_any HPL2.out).mono ?_
        rintro e w3 ⟨rfl, hp3, hb3⟩
        go_wp2
        go_ret
        exact ⟨by rw [HE.out]; rfl, hbw.trans (hb3.mono (by omega))⟩

end Go.Proofs.YtamkfbelpfpjcaaGreatDoor

namespace Go.Proofs.YtamkfbelpfpjcaaGreatDoor
open Go.RowKit

/-- A slice of rows: its cells are the rows' slices. -/
def RowsOwn (B : Nat) (w : World) (v : Value) (rows : List (List Sq.Val)) : Prop :=
  ∃ rvs : List Value, w.ownsRow B 87 1 v rows.length rvs ∧ ∀ (i : Nat) (row : List Sq.Val), rows[i]? = some row → ∃ rv, rvs[i]? = some rv ∧ RowAt w rv row

theorem RowsOwn.below {B : Nat} {w w' : World} {v : Value} {rows : List (List Sq.Val)} (h : RowsOwn B w v rows) (hb : Below w.heap.size w w') : RowsOwn B w' v rows := by
  obtain ⟨rvs, h1, h2⟩ := h
  exact ⟨rvs, ownsRow_below h1 hb, fun i row hi => let ⟨rv, h3, h4⟩ := h2 i row hi; ⟨rv, h3, h4.below hb⟩⟩
theorem RowsOwn.base {B B' : Nat} {w : World} {v : Value} {rows : List (List Sq.Val)} (h : RowsOwn B w v rows) (hb : B' ≤ B) : RowsOwn B' w v rows := by
  obtain ⟨rvs, h1, h2⟩ := h
  exact ⟨rvs, ownsRow_base h1 hb, h2⟩
theorem RowsOwn.nil (B : Nat) (w : World) : RowsOwn B w (.slice none 0 0) [] := ⟨[], World.ownsRow_nil _ _ _ _, fun i row h => by simp at h⟩
theorem RowsOwn.slice {B : Nat} {w : World} {v : Value} {rows : List (List Sq.Val)} (h : RowsOwn B w v rows) : ∃ ao cap, v = .slice ao rows.length cap := by
  obtain ⟨rvs, h1, _⟩ := h; exact ownsRow_slice h1
theorem RowsOwn.at {B : Nat} {w : World} {v : Value} {rows : List (List Sq.Val)} (h : RowsOwn B w v rows) (k : Nat) (hk : k < rows.length) :
    ∃ g cap ra rc, v = .slice (some ⟨g, 0, none⟩) rows.length cap ∧ g < w.heap.size ∧ w.cell? ⟨g, k, none⟩ = some (.slice ra rows[k].length rc) ∧ RowAt w (.slice ra rows[k].length rc) rows[k] := by
  obtain ⟨rvs, h1, h2⟩ := h
  obtain ⟨g, cap, rfl, _, hlt⟩ := h1.form (by omega)
  obtain ⟨rv, h3, h4⟩ := h2 k rows[k] (List.getElem?_eq_getElem hk)
  obtain ⟨ra, rc, rfl⟩ := ownsRow_slice h4.1
  refine ⟨g, cap, ra, rc, rfl, hlt, ?_, h4⟩
  have := h1.cells (g := g) rfl k _ h3
  rwa [show (⟨g, 0, none⟩ : Addr).add k = ⟨g, k, none⟩ from by unfold Addr.add; split <;> simp_all] at this
theorem RowAt.one {w : World} {v : Value} {row : List Sq.Val} (h : RowAt w v row) : v.oneCell' = true := by
  obtain ⟨a, c, rfl⟩ := ownsRow_slice h.1; rfl

theorem Tryz.infoRow : (Tryz.prog.info? 87).map (fun i => (i.zero, i.size, i.bytes)) = some (some (.agg #[.slice none 0 0]), 1, 24) := by kernel_rfl

/-- Behind an append of one row. -/
theorem RowsOwn.snoc {B : Nat} {w1 : World} {v' rv : Value} {rows : List (List Sq.Val)} {rvs : List Value} {row : List Sq.Val}
    (h1 : w1.ownsRow B 87 1 v' (rows.length + 1) (rvs ++ [rv])) (hl : rvs.length = rows.length)
    (h2 : ∀ (i : Nat) (row : List Sq.Val), rows[i]? = some row → ∃ rv, rvs[i]? = some rv ∧ RowAt w1 rv row) (h3 : RowAt w1 rv row) : RowsOwn B w1 v' (rows ++ [row]) := by
  refine ⟨rvs ++ [rv], by simpa using h1, fun i r hi => ?_⟩
  rcases Nat.lt_or_ge i rows.length with h | h
  · rw [List.getElem?_append_left h] at hi
    obtain ⟨x, h4, h5⟩ := h2 i r hi
    exact ⟨x, by rw [List.getElem?_append_left (by omega)]; exact h4, h5⟩
  · rw [List.getElem?_append_right h] at hi
    have h0 : i - rows.length = 0 := by
      rcases Nat.eq_zero_or_pos (i - rows.length) with h4 | h4
      · exact h4
      · rw [List.getElem?_eq_none (by simp; omega)] at hi; cases hi
    rw [h0] at hi
    simp at hi
    subst hi
    exact ⟨rv, by rw [List.getElem?_append_right (by omega), show i - rvs.length = 0 from by omega]; rfl, h3⟩

/-- A row's slice is not touched by what is done to a slice of rows. -/
theorem RowAt.grown {w w1 : World} {v rv : Value} {row : List Sq.Val} {B n : Nat} {xs : List Value} (h : RowAt w rv row) (ho : w.ownsRow B 87 1 v n xs) (hg : w.grownBy w1 v.ownBlock) : RowAt w1 rv row :=
  ⟨row_other h.1 ho (by decide) hg, h.2⟩

/-- A table's three cells, and what they lead to. -/
structure TabAt (w : World) (t : Sq.Tab) (cv rv : Value) : Prop where
  cols : ColsAt w cv t.cols
  rows : RowsOwn 0 w rv t.rows
  few : t.rows.length ≤ 100000
theorem TabAt.below {w w' : World} {t : Sq.Tab} {cv rv : Value} (h : TabAt w t cv rv) (hb : Below w.heap.size w w') : TabAt w' t cv rv := ⟨h.cols.below hb, h.rows.below hb, h.few⟩

def Sq.meeting (t : Sq.Tab) (steps : List Sq.StepS) : List (List Sq.Val) := t.rows.filter fun row => Sq.meets t.cols row steps
theorem Sq.filter_take (p : List Sq.Val → Bool) (l : List (List Sq.Val)) (k : Nat) (h : k < l.length) : (l.take (k + 1)).filter p = (l.take k).filter p ++ (if p l[k] then [l[k]] else []) := by
  rw [List.take_succ_eq_append_getElem h, List.filter_append]
  congr 1
  simp only [List.filter_cons, List.filter_nil]
theorem Sq.filter_len (p : List Sq.Val → Bool) (l : List (List Sq.Val)) (k : Nat) : ((l.take k).filter p).length ≤ k := Nat.le_trans (List.length_filter_le _ _) (List.length_take_le _ _)

set_option maxRecDepth 100000 in
set_option maxHeartbeats 1000000 in
theorem meeting_any (cols : List Sq.Col) (rows : List (List Sq.Val)) (l : List Sq.StepS) (cv rv sv : Value) (w : World) (hcols : ColsAt w cv cols) (hrows : RowsOwn 0 w rv rows) (hfew : rows.length ≤ 100000) (hs : StepsAt w sv l) (hl : l.length ≤ 50000) :
    Calls Tryz.prog 29 #[cv, rv, sv] w fun e w' => ∃ v, e = .returned v ∧ RowsOwn w.heap.size w' v (rows.filter fun row => Sq.meets cols row l) ∧ Below w.heap.size w w' := by
  obtain ⟨i0, hi, hz0, hz1, hz2⟩ := info_parts Tryz.infoRow
  obtain ⟨ao, cap, rfl⟩ := hrows.slice
  obtain ⟨co, cap2, rfl⟩ := ownsRow_slice hcols.1
  obtain ⟨bo, bap, rfl⟩ := ownsRow_slice hs.1
  have HC := hd hcols
  have H := hd hrows
  have HS := hd hs
  clear hcols hrows hs
  go_enter Tryz.func29, Tryz.ntmps29
  go_wp2
  go_loopw [7, 8] (fun v i wr => ∃ k : Nat, k ≤ rows.length ∧ i = .int .i64 k ∧ RowsOwn w.heap.size wr v ((rows.take k).filter fun row => Sq.meets cols row l) ∧ Below w.heap.size w wr) (fun _ i _ => rows.length - (intOf i).toNat)
  case atStart => exact ⟨0, Nat.zero_le _, rfl, RowsOwn.nil _ _, Below.refl _ _⟩
  case round =>
    obtain ⟨k, hk, rfl, hro, hb⟩ := hrel
    have hbw : Below w.heap.size w wr := hb
    have hzw : w.heap.size ≤ wr.heap.size := hb.size
    have HRO := hd hro
    have HB := hd hb
    clear hro hb
    by_cases hlt : k < rows.length
    · obtain ⟨g, cap', ra, rc, hv, hg, c0, hrow⟩ := (H.out.below hbw).at k hlt
      simp only [Value.slice.injEq] at hv
      obtain ⟨rfl, -, rfl⟩ := hv
      have HFT := hd (Sq.filter_take (fun row => Sq.meets cols row l) rows k hlt)
      have hfl := Sq.filter_len (fun row => Sq.meets cols row l) rows k
      obtain ⟨row, hrw⟩ : ∃ x, x = rows[k] := ⟨_, rfl⟩
      have hft := HFT.out
      rw [← hrw] at hft c0 hrow
      have HFT2 := hd hft
      have HROW := hd hrow
      clear hft hrow HFT hrw
      go_wp2_with fail
      refine (meets_any cols row l _ _ _ _ (HC.out.below hbw) HROW.out (HS.out.below hbw) hl).mono ?_
      rintro e w2 ⟨rfl, hb2⟩
      · have hb2' : Below wr.heap.size wr w2 := hb2
        have HB2 := hd (HB.out.trans (hb2'.mono (by omega)))
        have HRO2 := hd (HRO.out.below hb2')
        have HROW2 := hd (HROW.out.below hb2')
        have c0' := ((bcell hb2').1 g k hg).trans c0
        have hz2' := hb2'.size
        clear hb2 hb2' c0
        cases hm : Sq.meets cols row l
        case false =>
          have HE : Hid ((rows.take (k + 1)).filter (fun row => Sq.meets cols row l) = (rows.take k).filter fun row => Sq.meets cols row l) := by show _ = _; rw [HFT2.out]; simp only [hm]; simp
          go_wp2
          go_roundw
          case rel => exact ⟨k + 1, by omega, by go_num, by rw [HE.out]; exact HRO2.out, HB2.out⟩
          case measure => simp [intOf]; omega
        case true =>
          have HE : Hid ((rows.take (k + 1)).filter (fun row => Sq.meets cols row l) = ((rows.take k).filter fun row => Sq.meets cols row l) ++ [row]) := by show _ = _; rw [HFT2.out]; simp only [hm]; simp
          obtain ⟨fl, hfle⟩ : ∃ x, x = (rows.take k).filter fun row => Sq.meets cols row l := ⟨_, rfl⟩
          have hro := HRO2.out
          have hee := HE.out
          rw [← hfle] at hro hee hfl
          obtain ⟨rvs, ho, hrs⟩ := hro
          have HEE := hd hee
          have hlr : rvs.length = fl.length := by have := ho.1; omega
          have HLR := hd hlr
          have HOA := hd (ho.alloc (.cells #[.slice ra row.length rc] 87))
          have HRS := hd hrs
          clear ho hrs hee hfle HE HRO2 hlr
          go_wp2_with (at_builtin; refine wpList_append_lies _ rfl (.tmp 22) (.tmp 27) 53 rfl w.heap.size 87 i0 _ 1 24 Tryz.underlying53 hi hz0 hz1 hz2 rfl (by decide) _ fl.length rvs rfl HOA.out ⟨w2.heap.size, 0, none⟩ 1 1 [.slice ra row.length rc] rfl rfl (by exact new_cells w2 _ _ _ rfl rfl) (by intro u hu; simp at hu; subst hu; rfl) (by decide) (by unfold maxLen; omega) (by omega) (by simp; omega) _ rfl ?_; intro gg cap3 w3 hown3 hgrow3 hat3 hlt3; have HO3 := hd hown3; have HG3 := hd hgrow3; clear hown3 hgrow3 hat3)
          have hW2 : Below w2.heap.size w2 (w2.alloc (.cells #[.slice ra row.length rc] 87)) := (Below.refl _ _).alloc (Nat.le_refl _) _
          have hrel' : RowsOwn w.heap.size w3 (.slice (some ⟨gg, 0, none⟩) (fl.length + 1) cap3) (fl ++ [row]) :=
            RowsOwn.snoc HO3.out HLR.out (fun i r hi => let ⟨x, h4, h5⟩ := HRS.out i r hi; ⟨x, h4, (h5.below hW2).grown HOA.out HG3.out⟩) ((HROW2.out.below hW2).grown HOA.out HG3.out)
          have hbel : Below w.heap.size w w3 :=
            HB2.out.trans ((Below.mono (B' := w.heap.size) hW2 (by omega)).trans (Tch.of_grown HG3.out (fun k hk => (HOA.out.lt k hk).1) (by simp; omega)))
          clear hW2
          go_roundw
          case rel => exact ⟨k + 1, by omega, by go_num, by rw [HEE.out]; exact hrel', hbel⟩
          case measure => simp [intOf]; omega
    · have HE : Hid ((rows.filter fun row => Sq.meets cols row l) = (rows.take k).filter fun row => Sq.meets cols row l) := by show _ = _; rw [List.take_of_length_le (by omega)]
      go_wp2
      go_ret
      exact ⟨_, rfl, by rw [HE.out]; exact HRO.out.base (by omega), hbw⟩

end Go.Proofs.YtamkfbelpfpjcaaGreatDoor

namespace Go.Proofs.YtamkfbelpfpjcaaGreatDoor
open Go.RowKit

set_option maxRecDepth 100000 in
set_option maxHeartbeats 400000 in
theorem Key_any (row : List Sq.Val) (rv : Value) (w : World) (h : RowAt w rv row) :
    Calls Tryz.prog 52 #[.agg #[rv]] w fun e w' => e = .returned (.int .i64 (Sq.keyOf row)) ∧ Below w.heap.size w w' := by
  obtain ⟨ao, cap, rfl⟩ := ownsRow_slice h.1
  have hl := h.2
  have H := hd h
  clear h
  cases row with
  | nil =>
    go_enter Tryz.func52, Tryz.ntmps52
    go_wp2
    go_ret
    exact ⟨rfl, (Below.refl _ _).alloc (Nat.le_refl _) _⟩
  | cons v r =>
    obtain ⟨g, cap', hv, hg, hc⟩ := sl_at (f := Sq.Val.cells) (fun _ => rfl) H.out.1 0 (by simp)
    simp only [Value.slice.injEq] at hv
    obtain ⟨rfl, -, rfl⟩ := hv
    have c1 := hc 1 (.int .i64 v.number) (by decide) rfl
    simp only [Nat.zero_mul, Nat.zero_add] at c1
    have hn : (((v :: r).length : Int) == 0) = false := by simp; omega
    have hp : 0 < (v :: r).length := by simp
    obtain ⟨n, hnn⟩ : ∃ n, n = (v :: r).length := ⟨_, rfl⟩
    rw [← hnn] at hn hp hl ⊢
    clear hc hnn H
    go_enter Tryz.func52, Tryz.ntmps52
    go_wp2
    go_ret
    exact ⟨rfl, (Below.refl _ _).alloc (Nat.le_refl _) _⟩

end Go.Proofs.YtamkfbelpfpjcaaGreatDoor

namespace Go.Proofs.YtamkfbelpfpjcaaGreatDoor
open Go.RowKit

/-- A table with its slice. -/
def tabCells (x : Sq.TabN × Value) : List Value := [.int .i64 x.1.number, .string x.1.name, x.2]
/-- A slice of tables. -/
structure TabsOwn (B : Nat) (w : World) (v : Value) (l : List (Sq.TabN × Value)) : Prop where
  own : w.ownsRow B 74 3 v l.length (l.flatMap tabCells)
  each : ∀ x ∈ l, ColsAt w x.2 x.1.cols
  few : l.length ≤ 1000
theorem TabsOwn.below {B : Nat} {w w' : World} {v : Value} {l : List (Sq.TabN × Value)} (h : TabsOwn B w v l) (hb : Below w.heap.size w w') : TabsOwn B w' v l := ⟨ownsRow_below h.own hb, fun x hx => (h.each x hx).below hb, h.few⟩
theorem TabsOwn.base {B B' : Nat} {w : World} {v : Value} {l : List (Sq.TabN × Value)} (h : TabsOwn B w v l) (hb : B' ≤ B) : TabsOwn B' w v l := ⟨ownsRow_base h.own hb, h.each, h.few⟩
theorem TabsOwn.at {B : Nat} {w : World} {v : Value} {l : List (Sq.TabN × Value)} (h : TabsOwn B w v l) (k : Nat) (hk : k < l.length) :
    ∃ g cap ca cc, v = .slice (some ⟨g, 0, none⟩) l.length cap ∧ g < w.heap.size ∧ w.cell? ⟨g, k * 3, none⟩ = some (.int .i64 l[k].1.number) ∧ w.cell? ⟨g, k * 3 + 1, none⟩ = some (.string l[k].1.name) ∧ w.cell? ⟨g, k * 3 + 2, none⟩ = some (.slice ca l[k].1.cols.length cc) ∧ ColsAt w (.slice ca l[k].1.cols.length cc) l[k].1.cols := by
  obtain ⟨g, cap, hv, hg, hc⟩ := sl_at (f := tabCells) (fun _ => rfl) h.own k hk
  have ht := h.each l[k] (List.getElem_mem hk)
  obtain ⟨ca, cc, h1⟩ := ownsRow_slice ht.1
  have c0 := hc 0 (.int .i64 l[k].1.number) (by decide) rfl
  have c1 := hc 1 (.string l[k].1.name) (by decide) rfl
  have c2 := hc 2 l[k].2 (by decide) rfl
  rw [h1] at c2 ht
  exact ⟨g, cap, ca, cc, hv, hg, by simpa using c0, c1, c2, ht⟩

def Sq.findN (n : ByteArray) : List Sq.TabN → Option Sq.TabN
  | [] => none
  | t :: r => if t.name.toList == n.toList then some t else Sq.findN n r
theorem Sq.findN_drop (l : List Sq.TabN) (n : ByteArray) (k : Nat) (h : k < l.length) : Sq.findN n (l.drop k) = if l[k].name.toList == n.toList then some l[k] else Sq.findN n (l.drop (k + 1)) := by
  rw [List.drop_eq_getElem_cons h, Sq.findN]
theorem Sq.findN_mem {l : List Sq.TabN} {n : ByteArray} {t : Sq.TabN} (h : Sq.findN n l = some t) : t ∈ l := by
  induction l with
  | nil => cases h
  | cons x r ih =>
    rw [Sq.findN] at h
    split at h
    · cases h; simp
    · exact List.mem_cons_of_mem _ (ih h)

end Go.Proofs.YtamkfbelpfpjcaaGreatDoor
