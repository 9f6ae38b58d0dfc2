import Derived.Test.YtamkfbelpfpjcaaGreatDoorHw
set_option linter.unusedVariables false
set_option linter.unusedSimpArgs false

namespace Go.Proofs.YtamkfbelpfpjcaaGreatDoor
open Go.RowKit

/-- A world with its server, alive. -/
structure LiveN (w : World) (wb sb wide : Nat) (x : Sq.Tree) : Prop where
  blk : w.heap[wb]? = some (.cells #[.pointer (some ⟨sb, 0, none⟩), .int .i64 wide] 40)
  srv : SrvAt sb w wide x
  good : Sq.goodN x
  tbl : Tbl w
  rnd : Rnd w
theorem LiveN.below {w w' : World} {wb sb wide : Nat} {x : Sq.Tree} (h : LiveN w wb sb wide x) (hb : Below w.heap.size w w') : LiveN w' wb sb wide x := ⟨(hb.block wb (lt_blk h.blk)).trans h.blk, h.srv.below hb, h.good, h.tbl.below hb, h.rnd.below hb⟩
theorem LiveN.cells {w : World} {wb sb wide : Nat} {x : Sq.Tree} (h : LiveN w wb sb wide x) : w.cell? ⟨wb, 0, none⟩ = some (.pointer (some ⟨sb, 0, none⟩)) ∧ w.cell? ⟨wb, 1, none⟩ = some (.int .i64 wide) ∧ wb < w.heap.size := ⟨by rw [cell_blk h.blk]; rfl, by rw [cell_blk h.blk]; rfl, lt_blk h.blk⟩
theorem LiveN.ne {w : World} {wb sb wide : Nat} {x : Sq.Tree} (h : LiveN w wb sb wide x) : wb ≠ sb := by
  intro e
  subst e
  obtain ⟨ev, cv, h1, -⟩ := h.srv
  have := h.blk
  rw [h1] at this
  simp at this
theorem lroot {w : World} {wb sb wide : Nat} {x : Sq.Tree} (h : LiveN w wb sb wide x) (hw : wide ≤ 32) : Calls Tryz.prog 11 #[.pointer (some ⟨sb, 0, none⟩)] w fun e w' => e = .returned (.string (Sq.digT wide x.d x.t)) ∧ LiveN w' wb sb wide x ∧ Below w.heap.size w w' :=
  (SrvRoot_any sb wide x w hw h.srv h.good.ok.kids (Nat.le_trans h.good.few (by omega)) (fun e he => (h.good.rows e he).1) h.rnd).mono fun e w' hh => ⟨hh.1, h.below hh.2, hh.2⟩
theorem lpeek {w : World} {wb sb wide : Nat} {x : Sq.Tree} (h : LiveN w wb sb wide x) (hw : wide ≤ 32) (sql : ByteArray) : Calls Tryz.prog 13 #[.pointer (some ⟨sb, 0, none⟩), .string sql] w fun e w' => e = .returned (.agg #[.string (Sq.decideN x sql).reply, .string Sq.nobytes, .string (Sq.digT wide (Sq.afterN x sql).d (Sq.afterN x sql).t)]) ∧ LiveN w' wb sb wide x ∧ Below w.heap.size w w' :=
  (Peek_any sb wide x sql w hw h.srv h.good h.tbl h.rnd).mono fun e w' hh => ⟨hh.1, h.below hh.2, hh.2⟩
theorem lrun {w0 w : World} {wb sb wide : Nat} {x : Sq.Tree} (h : LiveN w wb sb wide x) (hw : wide ≤ 32) (h0 : Below w0.heap.size w0 w) (hl : w0.heap.size ≤ sb) (hT : Tbl w0) (hR : Rnd w0) (sql : ByteArray) : Calls Tryz.prog 10 #[.pointer (some ⟨sb, 0, none⟩), .string sql] w fun e w' => e = .returned (.agg #[.string (Sq.decideN x sql).reply, .string Sq.nobytes, .string (Sq.digT wide (Sq.afterN x sql).d (Sq.afterN x sql).t)]) ∧ LiveN w' wb sb wide (Sq.afterN x sql) ∧ Moved sb w w' ∧ Below w0.heap.size w0 w' :=
  (Run_any sb wide x sql w hw h.srv h.good h.tbl h.rnd).mono fun e w' hh => by
    have hb : Below w0.heap.size w0 w' := h0.trans (hh.2.2.below hl h0.size)
    exact ⟨hh.1, ⟨(hh.2.2.block wb (lt_blk h.blk) h.ne).trans h.blk, hh.2.1, Sq.good_after h.good sql, hT.below hb, hR.below hb⟩, hh.2.2, hb⟩

theorem Sq.digT_size (wide : Nat) (hw : wide ≤ 32) (d : Nat) (t : List (Sq.Kid d)) : (Sq.digT wide d t).size = wide := by unfold Sq.digT; exact Sq.shaOf_size _ _ hw
theorem ansCells {w : World} {b : Nat} {a0 a1 a2 : Value} (h : w.heap[b]? = some (.cells #[a0, a1, a2] 34)) : w.cell? ⟨b, 0, none⟩ = some a0 ∧ w.cell? ⟨b, 1, none⟩ = some a1 ∧ w.cell? ⟨b, 2, none⟩ = some a2 ∧ b < w.heap.size :=
  ⟨by rw [cell_blk h]; rfl, by rw [cell_blk h]; rfl, by rw [cell_blk h]; rfl, lt_blk h⟩

set_option maxRecDepth 100000 in
set_option maxHeartbeats 4000000 in
theorem wsteady_any (wb sb wide : Nat) (x : Sq.Tree) (sql : ByteArray) (w0 w : World) (h : LiveN w wb sb wide x) (hw : wide ≤ 32) (hs : sql.size ≤ 1048576) (h0 : Below w0.heap.size w0 w) (hl : w0.heap.size ≤ sb) (hT : Tbl w0) (hR : Rnd w0) :
    Calls Tryz.prog 7 #[.pointer (some ⟨wb, 0, none⟩), .string sql] w fun e w' => e = .returned (.bool true) ∧ Below w0.heap.size w0 w' := by
  have hrs := Sq.replyN_size h.good sql
  have hdz : (Sq.digT wide x.d x.t).size = wide := Sq.digT_size wide hw x.d x.t
  have hstill1 : Sq.bang (Sq.decideN x sql).reply = true → Sq.digT wide (Sq.afterN x sql).d (Sq.afterN x sql).t = Sq.digT wide x.d x.t := fun hb => by rw [Sq.still_refused x sql hb]
  have hstill2 : (0 < sql.size ∧ Sq.byteAt sql 0 = 115) → Sq.digT wide (Sq.afterN x sql).d (Sq.afterN x sql).t = Sq.digT wide x.d x.t := fun hb => by rw [Sq.still_asks x sql hb.1 hb.2]
  have hkroot : ∀ w, LiveN w wb sb wide x → Calls Tryz.prog 11 #[.pointer (some ⟨sb, 0, none⟩)] w fun e w' => e = .returned (.string (Sq.digT wide x.d x.t)) ∧ LiveN w' wb sb wide x ∧ Below w.heap.size w w' := fun w h => lroot h hw
  have hkpeek : ∀ w, LiveN w wb sb wide x → Calls Tryz.prog 13 #[.pointer (some ⟨sb, 0, none⟩), .string sql] w fun e w' => e = .returned (.agg #[.string (Sq.decideN x sql).reply, .string Sq.nobytes, .string (Sq.digT wide (Sq.afterN x sql).d (Sq.afterN x sql).t)]) ∧ LiveN w' wb sb wide x ∧ Below w.heap.size w w' := fun w h => lpeek h hw sql
  have hkrun : ∀ w, LiveN w wb sb wide x → Below w0.heap.size w0 w → Calls Tryz.prog 10 #[.pointer (some ⟨sb, 0, none⟩), .string sql] w fun e w' => e = .returned (.agg #[.string (Sq.decideN x sql).reply, .string Sq.nobytes, .string (Sq.digT wide (Sq.afterN x sql).d (Sq.afterN x sql).t)]) ∧ LiveN w' wb sb wide (Sq.afterN x sql) ∧ Moved sb w w' ∧ Below w0.heap.size w0 w' := fun w h hb => lrun h hw hb hl hT hR sql
  have hkroot2 : ∀ w, LiveN w wb sb wide (Sq.afterN x sql) → Calls Tryz.prog 11 #[.pointer (some ⟨sb, 0, none⟩)] w fun e w' => e = .returned (.string (Sq.digT wide (Sq.afterN x sql).d (Sq.afterN x sql).t)) ∧ LiveN w' wb sb wide (Sq.afterN x sql) ∧ Below w.heap.size w w' := fun w h => lroot h hw
  have HST1 := hd hstill1
  have HST2 := hd hstill2
  have HKROOT := hd hkroot
  have HKPEEK := hd hkpeek
  have HKRUN := hd hkrun
  have HKROOT2 := hd hkroot2
  have HL := hd h
  have HB0 := hd h0
  have hsb := h.srv.lt
  obtain ⟨c0, c1, hz0⟩ := h.cells
  clear hstill1 hstill2 hkroot hkpeek hkrun hkroot2 h h0 hT hR
  generalize Sq.digT wide (Sq.afterN x sql).d (Sq.afterN x sql).t = dg2 at *
  generalize Sq.digT wide x.d x.t = dg at *
  generalize (Sq.decideN x sql).reply = rep at *
  generalize Sq.afterN x sql = y at *
  generalize Sq.nobytes = nb at *
  go_enter Tryz.func7, Tryz.ntmps7
  go_wp2_with fail
  refine (HKROOT.out _ HL.out).mono ?_
  rintro e w1 ⟨rfl, hl1, hb1⟩
  have HL1 := hd hl1
  have HB1 := hd (HB0.out.trans (hb1.mono HB0.out.size))
  have hs1 := hl1.srv.lt
  obtain ⟨p0, p1, hz1⟩ := hl1.cells
  clear hl1 hb1 c0 c1 HL HB0 hz0
  go_wp2_with fail
  refine (HKPEEK.out _ HL1.out).mono ?_
  rintro e w2 ⟨rfl, hl2, hb2⟩
  have hA2 : ∀ o, Below w2.heap.size w2 (w2.alloc o) := fun o => (Below.refl _ _).alloc (Nat.le_refl _) _
  have HA2 := hd hA2
  have HL2 := hd hl2
  have HB2 := hd (HB1.out.trans (hb2.mono HB1.out.size))
  have hs2 := hl2.srv.lt
  obtain ⟨q0, q1, hz2⟩ := hl2.cells
  clear hl2 hb2 hA2 p0 p1 HL1 HB1 hz1
  go_wp2_with fail
  refine (HKPEEK.out _ (HL2.out.below (HA2.out _))).mono ?_
  rintro e w3 ⟨rfl, hl3, hb3⟩
  have hk3 := (hb3.block w2.heap.size (by simp)).trans (alloc_at w2 _)
  have hA3 : ∀ o, Below w3.heap.size w3 (w3.alloc o) := fun o => (Below.refl _ _).alloc (Nat.le_refl _) _
  have HA3 := hd hA3
  have HK3 := hd hk3
  have HL3 := hd hl3
  have HB3 := hd ((HB2.out.trans ((HA2.out _).mono HB2.out.size)).trans (hb3.mono (Nat.le_trans HB2.out.size (by simp))))
  have hs3 := hl3.srv.lt
  obtain ⟨r0, r1, hz3⟩ := hl3.cells
  obtain ⟨m0, m1, m2, hzm⟩ := ansCells hk3
  clear hl3 hb3 hA3 hk3 q0 q1 HL2 HB2 HA2 hz2
  go_wp2_with fail
  refine (HKROOT.out _ (HL3.out.below (HA3.out _))).mono ?_
  rintro e w4 ⟨rfl, hl4, hb4⟩
  have hk4 := (hb4.block w3.heap.size (by simp)).trans (alloc_at w3 _)
  have hk4' := (hb4.block w2.heap.size (by simp; omega)).trans (((HA3.out _).block w2.heap.size hzm).trans HK3.out)
  have HK4 := hd hk4'
  have HL4 := hd hl4
  have HB4 := hd ((HB3.out.trans ((HA3.out _).mono HB3.out.size)).trans (hb4.mono (Nat.le_trans HB3.out.size (by simp))))
  have hs4 := hl4.srv.lt
  obtain ⟨s0, s1, hz4⟩ := hl4.cells
  obtain ⟨n0, n1, n2, hzn⟩ := ansCells hk4
  obtain ⟨o0, o1, o2, hzo⟩ := ansCells hk4'
  clear hl4 hb4 hk4 hk4' r0 r1 m0 m1 m2 HL3 HB3 HA3 HK3 hz3
  go_wp2_with fail
  refine (krefused_any rep _ (by omega)).mono ?_
  rintro e w' ⟨rfl, hw'⟩
  rw [hw']
  clear hw' w'
  go_wp2_with fail
  refine (asks_any sql _ (by omega)).mono ?_
  rintro e w' ⟨b, rfl, hb, hw'⟩
  rw [hw']
  clear hw' w'
  have hq : dg2 = dg ∨ (Sq.bang rep = false ∧ b = false) := by
    cases h1 : Sq.bang rep with
    | true => exact Or.inl (HST1.out h1)
    | false =>
      cases b with
      | true => exact Or.inl (HST2.out (hb rfl))
      | false => exact Or.inr ⟨rfl, rfl⟩
  clear hb
  rcases hq with hq | ⟨hq1, hq2⟩
  · subst hq
    go_wp2_with fail
    all_goals
      refine (HKRUN.out _ HL4.out HB4.out).mono ?_
      rintro e w6 ⟨rfl, hl6, hm6, hb6⟩
      have hk6 := (hm6.block w2.heap.size hzo (by omega)).trans HK4.out
      have hA6 : ∀ o, Below w6.heap.size w6 (w6.alloc o) := fun o => (Below.refl _ _).alloc (Nat.le_refl _) _
      have HA6 := hd hA6
      have HK6 := hd hk6
      have HL6 := hd hl6
      have HB6 := hd hb6
      obtain ⟨x0, x1, hz6⟩ := hl6.cells
      obtain ⟨y0, y1, y2, hzy⟩ := ansCells hk6
      clear hl6 hm6 hb6 hA6 hk6 HL4 HB4 HK4 s0 s1 n0 n1 n2 o0 o1 o2
      go_wp2_with fail
      refine (HKROOT2.out _ (HL6.out.below (HA6.out _))).mono ?_
      rintro e w7 ⟨rfl, hl7, hb7⟩
      have hk7 := (hb7.block w6.heap.size (by simp)).trans (alloc_at w6 _)
      have hk7' := (hb7.block w2.heap.size (by simp; omega)).trans (((HA6.out _).block w2.heap.size hzy).trans HK6.out)
      have HB7 := hd ((HB6.out.trans ((HA6.out _).mono HB6.out.size)).trans (hb7.mono (Nat.le_trans HB6.out.size (by simp))))
      obtain ⟨a0, a1, a2, hza⟩ := ansCells hk7
      obtain ⟨b0, b1, b2, hzb⟩ := ansCells hk7'
      clear hl7 hb7 hk7 hk7' x0 x1 y0 y1 y2 HL6 HB6 HK6 HA6
      go_wp2
      go_ret
      exact ⟨rfl, HB7.out⟩
  · subst hq2
    go_wp2_with fail
    all_goals
      refine (HKRUN.out _ HL4.out HB4.out).mono ?_
      rintro e w6 ⟨rfl, hl6, hm6, hb6⟩
      have hk6 := (hm6.block w2.heap.size hzo (by omega)).trans HK4.out
      have hA6 : ∀ o, Below w6.heap.size w6 (w6.alloc o) := fun o => (Below.refl _ _).alloc (Nat.le_refl _) _
      have HA6 := hd hA6
      have HK6 := hd hk6
      have HL6 := hd hl6
      have HB6 := hd hb6
      obtain ⟨x0, x1, hz6⟩ := hl6.cells
      obtain ⟨y0, y1, y2, hzy⟩ := ansCells hk6
      clear hl6 hm6 hb6 hA6 hk6 HL4 HB4 HK4 s0 s1 n0 n1 n2 o0 o1 o2
      go_wp2_with fail
      refine (HKROOT2.out _ (HL6.out.below (HA6.out _))).mono ?_
      rintro e w7 ⟨rfl, hl7, hb7⟩
      have hk7 := (hb7.block w6.heap.size (by simp)).trans (alloc_at w6 _)
      have hk7' := (hb7.block w2.heap.size (by simp; omega)).trans (((HA6.out _).block w2.heap.size hzy).trans HK6.out)
      have HB7 := hd ((HB6.out.trans ((HA6.out _).mono HB6.out.size)).trans (hb7.mono (Nat.le_trans HB6.out.size (by simp))))
      obtain ⟨a0, a1, a2, hza⟩ := ansCells hk7
      obtain ⟨b0, b1, b2, hzb⟩ := ansCells hk7'
      clear hl7 hb7 hk7 hk7' x0 x1 y0 y1 y2 HL6 HB6 HK6 HA6
      go_wp2
      go_ret
      exact ⟨rfl, HB7.out⟩

set_option maxRecDepth 100000 in
set_option maxHeartbeats 2000000 in
theorem steady_any (n0 : Int) (v1 : Value) (l1 : List ByteArray) (s2 : ByteArray) (w : World) (h0 : -9223372036854775808 ≤ n0) (h1 : n0 ≤ 9223372036854775807) (hs : Strs w v1 l1) (h2 : s2.size ≤ 1000000000000000) (hT : Tbl w) (hR : Rnd w) :
    Calls Tryz.prog 3 #[.int .i64 n0, v1, .string s2] w fun e w' => e = .returned (.bool true) ∧ Below w.heap.size w w' := by
  have hpk := Sq.pick_bd n0 32 (by decide)
  obtain ⟨k, hk⟩ := Int.eq_ofNat_of_zero_le hpk.1
  have hk32 : k < 32 := by omega
  have hworld := world_any n0 k hk h0 h1 l1 v1 w hs hT hR
  have hgood : Sq.goodN (Sq.runN Sq.tree0 l1) := Sq.good_run _ Sq.goodN0
  have HWORLD := hd hworld
  have HGOOD := hd hgood
  have HS := hd hs
  have HT := hd hT
  have HR := hd hR
  clear hworld hgood hs hT hR hpk hk h0 h1
  go_enter Tryz.func3, Tryz.ntmps3
  go_wp2_with fail
  refine HWORLD.out.mono ?_
  rintro e w1 (⟨ht, rfl, hw1⟩ | ⟨wb, sb, ht, rfl, hwa, hb1⟩)
  · rw [hw1]
    clear hw1 w1
    have HTM := hd ht
    clear ht
    go_wp2_with fail
    refine (none_any l1 v1 w HS.out).mono ?_
    rintro e w' ⟨rfl, hw'⟩
    rw [hw', HTM.out]
    clear hw' w'
    go_wp2
    go_ret
    exact ⟨rfl, Below.refl _ _⟩
  · have HL := hd (LiveN.mk hwa.blk hwa.srv HGOOD.out (HT.out.below hb1) (HR.out.below hb1))
    have HB1 := hd hb1
    have hle := hwa.le
    clear hwa hb1 ht
    by_cases hbig : 1048576 < s2.size
    · go_wp2
      go_ret
      exact ⟨rfl, HB1.out⟩
    · go_wp2_with fail
      refine (wsteady_any wb sb (k + 1) _ s2 w w1 HL.out (by omega) (by omega) HB1.out hle HT.out HR.out).mono ?_
      rintro e w2 ⟨rfl, hb2⟩
      go_wp2
      go_ret
      exact ⟨rfl, hb2⟩

end Go.Proofs.YtamkfbelpfpjcaaGreatDoor
