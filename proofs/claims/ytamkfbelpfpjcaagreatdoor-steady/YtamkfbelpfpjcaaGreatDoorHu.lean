import Derived.Test.YtamkfbelpfpjcaaGreatDoorHs
set_option linter.unusedVariables false
set_option linter.unusedSimpArgs false

namespace Go.Proofs.YtamkfbelpfpjcaaGreatDoor
open Go.RowKit

/-- All that was there stays, but for one block. -/
structure Moved (sb : Nat) (w w' : World) : Prop where
  os : w'.os = w.os
  tape : w'.tape = w.tape
  output : w'.output = w.output
  size : w.heap.size ≤ w'.heap.size
  block : ∀ k, k < w.heap.size → k ≠ sb → w'.heap[k]? = w.heap[k]?
theorem Moved.below {sb B : Nat} {w w' : World} (h : Moved sb w w') (h1 : B ≤ sb) (h2 : B ≤ w.heap.size) : Below B w w' := ⟨h.os, h.tape, h.output, h.size, fun k hk => h.block k (by omega) (by omega)⟩
/-- The five stores into a server. -/
def srv5 (w : World) (b : Nat) (x0 x1 x2 x3 x4 : Value) : World :=
  ((((w.setCell ⟨b, 1, none⟩ x0).setCell ⟨b, 2, none⟩ x1).setCell ⟨b, 3, none⟩ x2).setCell ⟨b, 4, none⟩ x3).setCell ⟨b, 5, none⟩ x4
theorem srv5_other (w : World) (b : Nat) (x0 x1 x2 x3 x4 : Value) {g : Nat} (h : g ≠ b) : (srv5 w b x0 x1 x2 x3 x4).heap[g]? = w.heap[g]? := by
  unfold srv5
  rw [heap_set_other h, heap_set_other h, heap_set_other h, heap_set_other h, heap_set_other h]
theorem srv5_at {w : World} {b : Nat} {a a0 a1 a2 a3 a4 : Value} {ty : TypeId} {fr : Nat × Nat} (h : w.heap[b]? = some (.cells #[a, a0, a1, a2, a3, a4] ty fr)) (x0 x1 x2 x3 x4 : Value) : (srv5 w b x0 x1 x2 x3 x4).heap[b]? = some (.cells #[a, x0, x1, x2, x3, x4] ty fr) := by
  unfold srv5
  rw [heap_set_same (heap_set_same (heap_set_same (heap_set_same (heap_set_same h _) _) _) _) _]
  rfl
theorem srv5_below {B b : Nat} {W w : World} (hb : Below B W w) (h : B ≤ b) (x0 x1 x2 x3 x4 : Value) : Below B W (srv5 w b x0 x1 x2 x3 x4) := by
  unfold srv5
  exact Below.setCell (B := B) (Below.setCell (B := B) (Below.setCell (B := B) (Below.setCell (B := B) (Below.setCell (B := B) hb h _) h _) h _) h _) h _
theorem srv_frozen {sb : Nat} {w : World} {c : Array Value} (h : w.heap[sb]? = some (.cells c 48)) : w.frozen? ⟨sb, 1, none⟩ = false ∧ w.frozen? ⟨sb, 2, none⟩ = false ∧ w.frozen? ⟨sb, 3, none⟩ = false ∧ w.frozen? ⟨sb, 4, none⟩ = false ∧ w.frozen? ⟨sb, 5, none⟩ = false := ⟨frozen_blk h _, frozen_blk h _, frozen_blk h _, frozen_blk h _, frozen_blk h _⟩
theorem Keep.srv5 {w : World} {b : Nat} {c : Array Value} {fr : Nat × Nat} (h : w.heap[b]? = some (.cells c 48 fr)) (x0 x1 x2 x3 x4 : Value) : Keep w (srv5 w b x0 x1 x2 x3 x4) := (((((Keep.refl w).setV _ h).setV _ h).setV _ h).setV _ h).setV _ h

set_option maxRecDepth 100000 in
set_option maxHeartbeats 40000000 in
theorem Run_any (sb wide : Nat) (x : Sq.Tree) (sql : ByteArray) (w : World) (hw : wide ≤ 32) (h : SrvAt sb w wide x) (hg : Sq.goodN x) (hT : Tbl w) (hR : Rnd w) :
    Calls Tryz.prog 10 #[.pointer (some ⟨sb, 0, none⟩), .string sql] w fun e w' => e = .returned (.agg #[.string (Sq.decideN x sql).reply, .string Sq.nobytes, .string (Sq.digT wide (Sq.afterN x sql).d (Sq.afterN x sql).t)]) ∧ SrvAt sb w' wide (Sq.afterN x sql) ∧ Moved sb w w' := by
  obtain ⟨ev, cv, hblk, hn⟩ := h
  obtain ⟨⟨e1, e2, e3, hev⟩, k1, k2, k3, hcv⟩ := hn.slices
  subst hev hcv
  have hb2 : w.heap[sb]? = some (.cells #[.int .i64 wide, .bool (x.d != 0), .slice e1 e2 e3, .slice k1 k2 k3, .int .i64 (Sq.least x.d x.t), .int .i64 ((Sq.ents x.d x.t).length : Nat)] 48) := hblk
  have hka : ∀ w', Below w.heap.size w w' → Calls Tryz.prog 16 #[.int .i64 wide, .agg #[.bool (x.d != 0), .slice e1 e2 e3, .slice k1 k2 k3, .int .i64 (Sq.least x.d x.t), .int .i64 ((Sq.ents x.d x.t).length : Nat)], .string sql] w' (AnsGen (fun w a b => NodeAt w (Sq.afterN x sql).d (Sq.afterN x sql).t a b) (Sq.decideN x sql).reply Sq.nobytes (Sq.digT wide (Sq.afterN x sql).d (Sq.afterN x sql).t) ((Sq.afterN x sql).d != 0) (Sq.least (Sq.afterN x sql).d (Sq.afterN x sql).t) (Sq.ents (Sq.afterN x sql).d (Sq.afterN x sql).t).length w') := fun w' hb => (answered_any wide hw x _ _ sql w' (hn.below hb) hg (hT.below hb) (hR.below hb)).mono fun e w'' hh => hh.gen
  have hfin : ∀ w' a b, w'.heap[sb]? = some (.cells #[.int .i64 wide, .bool ((Sq.afterN x sql).d != 0), a, b, .int .i64 (Sq.least (Sq.afterN x sql).d (Sq.afterN x sql).t), .int .i64 ((Sq.ents (Sq.afterN x sql).d (Sq.afterN x sql).t).length : Nat)] 48) → NodeAt w' (Sq.afterN x sql).d (Sq.afterN x sql).t a b → SrvAt sb w' wide (Sq.afterN x sql) := fun w' a b h1 h2 => ⟨a, b, h1, h2⟩
  have hkeep : ∀ w w' a b, NodeAt w (Sq.afterN x sql).d (Sq.afterN x sql).t a b → Keep w w' → NodeAt w' (Sq.afterN x sql).d (Sq.afterN x sql).t a b := fun w w' a b h1 h2 => h1.keep h2
  obtain ⟨SV, hSV⟩ : ∃ SV : World → Prop, ∀ w', SV w' = SrvAt sb w' wide (Sq.afterN x sql) := ⟨_, fun _ => rfl⟩
  simp only [← hSV] at hfin ⊢
  clear hSV
  obtain ⟨ND, hND⟩ : ∃ ND : World → Value → Value → Prop, ND = fun w a b => NodeAt w (Sq.afterN x sql).d (Sq.afterN x sql).t a b := ⟨_, rfl⟩
  rw [← hND] at hka
  have hkeep2 : ∀ w w' a b, ND w a b → Keep w w' → ND w' a b := by rw [hND]; exact hkeep
  have hfin2 : ∀ w' a b, w'.heap[sb]? = some (.cells #[.int .i64 wide, .bool ((Sq.afterN x sql).d != 0), a, b, .int .i64 (Sq.least (Sq.afterN x sql).d (Sq.afterN x sql).t), .int .i64 ((Sq.ents (Sq.afterN x sql).d (Sq.afterN x sql).t).length : Nat)] 48) → ND w' a b → SV w' := by rw [hND]; exact hfin
  clear hkeep hfin
  clear hND
  obtain ⟨W, hW⟩ : ∃ W : World, W = w.alloc (.cells #[.string ⟨#[]⟩, .string ⟨#[]⟩, .string ⟨#[]⟩] 34) := ⟨_, rfl⟩
  have hbW : Below w.heap.size w W := by rw [hW]; exact (Below.refl _ _).alloc (Nat.le_refl _) _
  have hans : W.heap[w.heap.size]? = some (.cells #[.string ⟨#[]⟩, .string ⟨#[]⟩, .string ⟨#[]⟩] 34) := by rw [hW]; exact alloc_at _ _
  have hsrv := (hbW.block sb (lt_blk hb2)).trans hb2
  obtain ⟨c0, c1, c2, c3, c4, c5⟩ := srv_cells hsrv
  have hzs := lt_blk hb2
  have hzW := lt_blk hans
  have hzS := lt_blk hsrv
  have hzT : sb < W.heap.size + 1 := by omega
  have HKA := hd hka
  have HBW := hd hbW
  have HANS := hd hans
  have HSRV := hd hsrv
  clear hka hn hblk hb2 hg hT hR hbW hans hsrv
  have HKEEP := hd hkeep2
  have HFIN := hd hfin2
  clear hkeep2 hfin2
  generalize Sq.least x.d x.t = q3 at *
  generalize (Sq.ents x.d x.t).length = q4 at *
  generalize (x.d != 0) = bn at *
  generalize (Sq.decideN x sql).reply = rep at *
  generalize Sq.digT wide (Sq.afterN x sql).d (Sq.afterN x sql).t = dg at *
  generalize ((Sq.afterN x sql).d != 0) = bm at *
  generalize Sq.least (Sq.afterN x sql).d (Sq.afterN x sql).t = l3 at *
  generalize (Sq.ents (Sq.afterN x sql).d (Sq.afterN x sql).t).length = l4 at *
  generalize Sq.nobytes = nb at *
  go_enter Tryz.func10, Tryz.ntmps10
  go_wp2
  rw [← hW]
  clear hW
  go_cut [5, 6] from 11 (fun p5 p6 wx => ∃ a b g1 g2 g3 j1 j2 j3, p5 = .pointer (some ⟨a, 0, none⟩) ∧ p6 = .pointer (some ⟨b, 0, none⟩) ∧ W.heap.size ≤ a ∧ W.heap.size ≤ b ∧ wx.heap[a]? = some (.cells #[.string rep, .string nb, .string dg] 34) ∧ wx.heap[b]? = some (.cells #[.bool bm, .slice g1 g2 g3, .slice j1 j2 j3, .int .i64 l3, .int .i64 (l4 : Nat)] 46) ∧ ND wx (.slice g1 g2 g3) (.slice j1 j2 j3) ∧ Below W.heap.size W wx)
  case first =>
    go_region_with (first
      | (go_at_call 16; refine (HKA.out _ (HBW.out.trans (Below.mono (Below.drew (Below.refl _ _)) HBW.out.size))).mono ?_; rintro e w5 hh5; obtain ⟨g1, g2, g3, j1, j2, j3, rfl, hn5, hb5⟩ := hh5; have hb5' : Below W.heap.size W w5 := (Below.drew (Below.refl _ _)).trans hb5; have hz5 := hb5'.size; have HB5 := hd hb5'; have HN5 := hd hn5; have hzU : sb < w5.heap.size := (by omega); have hzV : ¬ (sb = w5.heap.size) := (by omega); have hzX : ¬ (sb = w5.heap.size + 1) := (by omega); (try (have hzY : ¬ (W.heap.size = w5.heap.size) := (by omega))); (try (have hzZ : ¬ (W.heap.size + 1 = w5.heap.size) := (by omega))); clear hb5 hb5' hn5)
      | (go_at_call 16; refine (HKA.out _ (HBW.out.trans (Below.mono (Below.alloc (B := W.heap.size) (Below.drew (Below.refl _ _)) (Nat.le_refl _) _) HBW.out.size))).mono ?_; rintro e w5 hh5; obtain ⟨g1, g2, g3, j1, j2, j3, rfl, hn5, hb5⟩ := hh5; have e9 := (hb5.block W.heap.size (by simp)).trans (alloc_at W.drew _); have E9 := hd e9; have hb5' : Below W.heap.size W w5 := (Below.alloc (B := W.heap.size) (Below.drew (Below.refl _ _)) (Nat.le_refl _) _).trans (hb5.mono (by simp)); have hz5 := lt_blk e9; have HB5 := hd hb5'; have HN5 := hd hn5; have hzU : sb < w5.heap.size := (by omega); have hzV : ¬ (sb = w5.heap.size) := (by omega); have hzX : ¬ (sb = w5.heap.size + 1) := (by omega); (try (have hzY : ¬ (W.heap.size = w5.heap.size) := (by omega))); (try (have hzZ : ¬ (W.heap.size + 1 = w5.heap.size) := (by omega))); (first | (obtain ⟨m0, m1, m2, n0, n1, n2⟩ := ans3 e9) | (obtain ⟨m0, m1, m2, m3, m4⟩ := store_cells e9; obtain ⟨n0, n1, n2, n3, n4⟩ := store_frozen e9)); clear hb5 hb5' hn5 e9)
      | (go_at_call 16; refine (HKA.out _ (HBW.out.trans (Below.mono (Below.alloc (B := W.heap.size) (Below.alloc (B := W.heap.size) (Below.drew (Below.refl _ _)) (Nat.le_refl _) _) (by simp) _) HBW.out.size))).mono ?_; rintro e w5 hh5; obtain ⟨g1, g2, g3, j1, j2, j3, rfl, hn5, hb5⟩ := hh5; have e9 := (hb5.block W.heap.size (by simp; omega)).trans ((alloc_lt (by simp) _).trans (alloc_at W.drew _)); have e8 := (hb5.block (W.heap.size + 1) (by simp)).trans (alloc_at' (by simp) _); have E9 := hd e9; have E8 := hd e8; have hb5' : Below W.heap.size W w5 := (Below.alloc (B := W.heap.size) (Below.alloc (B := W.heap.size) (Below.drew (Below.refl _ _)) (Nat.le_refl _) _) (by simp) _).trans (hb5.mono (by simp; omega)); have hz5 := lt_blk e8; have hz6 := lt_blk e9; have HB5 := hd hb5'; have HN5 := hd hn5; have hzU : sb < w5.heap.size := (by omega); have hzV : ¬ (sb = w5.heap.size) := (by omega); have hzX : ¬ (sb = w5.heap.size + 1) := (by omega); (try (have hzY : ¬ (W.heap.size = w5.heap.size) := (by omega))); (try (have hzZ : ¬ (W.heap.size + 1 = w5.heap.size) := (by omega))); (first | (obtain ⟨m0, m1, m2, n0, n1, n2⟩ := ans3 e9; obtain ⟨o0, o1, o2, o3, o4⟩ := store_cells e8; obtain ⟨p0, p1, p2, p3, p4⟩ := store_frozen e8) | (obtain ⟨m0, m1, m2, m3, m4⟩ := store_cells e9; obtain ⟨n0, n1, n2, n3, n4⟩ := store_frozen e9; obtain ⟨o0, o1, o2, p0, p1, p2⟩ := ans3 e8)); clear hb5 hb5' hn5 e9 e8))
    all_goals (try go_wp2_with fail)
    all_goals go_meet
    all_goals exact ⟨_, _, _, _, _, _, _, _, rfl, rfl, (by first | omega | (simp; omega)), (by first | omega | (simp; omega)), (by repeat' first | with_reducible exact E9.out | with_reducible exact E8.out | with_reducible refine alloc_to _ ?_ | with_reducible exact five_at E9.out _ _ _ _ _ | with_reducible exact five_at E8.out _ _ _ _ _ | with_reducible exact five_at ((three_other (by omega) _ _ _ _ _ _).trans E8.out) _ _ _ _ _ | with_reducible exact five_at ((three_other (by omega) _ _ _ _ _ _).trans E9.out) _ _ _ _ _ | with_reducible exact five_atN E9.out _ _ _ _ _ | with_reducible exact five_atN E8.out _ _ _ _ _ | with_reducible exact five_atN ((three_other (by omega) _ _ _ _ _ _).trans E8.out) _ _ _ _ _ | with_reducible exact five_atN ((three_other (by omega) _ _ _ _ _ _).trans E9.out) _ _ _ _ _ | with_reducible exact three_at E9.out _ _ _ | with_reducible exact three_at E8.out _ _ _ | with_reducible refine (five_other ?_ _ _ _ _ _).trans ?_ | with_reducible refine (three_other ?_ _ _ _ _ _ _).trans ?_ | with_reducible refine (alloc_lt ?_ _).trans ?_ | omega | (simp; done) | (simp; omega)), (by repeat' first | with_reducible exact E9.out | with_reducible exact E8.out | with_reducible refine alloc_to _ ?_ | with_reducible exact five_at E9.out _ _ _ _ _ | with_reducible exact five_at E8.out _ _ _ _ _ | with_reducible exact five_at ((three_other (by omega) _ _ _ _ _ _).trans E8.out) _ _ _ _ _ | with_reducible exact five_at ((three_other (by omega) _ _ _ _ _ _).trans E9.out) _ _ _ _ _ | with_reducible exact five_atN E9.out _ _ _ _ _ | with_reducible exact five_atN E8.out _ _ _ _ _ | with_reducible exact five_atN ((three_other (by omega) _ _ _ _ _ _).trans E8.out) _ _ _ _ _ | with_reducible exact five_atN ((three_other (by omega) _ _ _ _ _ _).trans E9.out) _ _ _ _ _ | with_reducible exact three_at E9.out _ _ _ | with_reducible exact three_at E8.out _ _ _ | with_reducible refine (five_other ?_ _ _ _ _ _).trans ?_ | with_reducible refine (three_other ?_ _ _ _ _ _ _).trans ?_ | with_reducible refine (alloc_lt ?_ _).trans ?_ | omega | (simp; done) | (simp; omega)), HKEEP.out _ _ _ _ HN5.out (by repeat' first | with_reducible exact Keep.refl _ | (with_reducible refine Keep.set ?_ _ ?_; rotate_left; (first | omega | (simp; omega))) | with_reducible refine Keep.setA ?_ _ E9.out | with_reducible refine Keep.setS ?_ _ E9.out | with_reducible refine Keep.setA ?_ _ E8.out | with_reducible refine Keep.setS ?_ _ E8.out | with_reducible refine Keep.alloc ?_ _), (by repeat' first | with_reducible exact HB5.out | with_reducible refine Below.setCell (B := W.heap.size) ?_ ?_ _ | with_reducible refine Below.alloc (B := W.heap.size) ?_ ?_ _ | omega | (simp; done) | (simp; omega))⟩
  case rest =>
    obtain ⟨a, b, g1, g2, g3, j1, j2, j3, rfl, rfl, ha0, hb0, hablk, hbblk, hny, hbc⟩ := hcut
    have hansc := (hbc.block w.heap.size hzW).trans HANS.out
    obtain ⟨u0, u1, u2, f0, f1, f2⟩ := ans3 hansc
    have hsrvc := (hbc.block sb hzS).trans HSRV.out
    obtain ⟨v0, v1, v2, v3, v4, v5⟩ := srv_cells hsrvc
    obtain ⟨s1, s2, s3, s4, s5⟩ := srv_frozen hsrvc
    obtain ⟨d0, d1, d2, -⟩ := ans3 hablk
    obtain ⟨t0, t1, t2, t3, t4⟩ := store5 hbblk
    have ha1 := lt_blk hablk
    have hb1 := lt_blk hbblk
    have hz9 := lt_blk hansc
    have hzsv := lt_blk hsrvc
    have hne1 : ¬ (a = sb) := by omega
    have hne2 : ¬ (sb = a) := by omega
    have hne3 : ¬ (w.heap.size = sb) := by omega
    have hne4 : ¬ (sb = w.heap.size) := by omega
    have HANSC := hd hansc
    have HSRVC := hd hsrvc
    have HNY := hd hny
    have HBC := hd (HBW.out.trans (hbc.mono HBW.out.size))
    clear hbc hansc hsrvc hny c0 c1 c2 c3 c4 c5 hablk hbblk
    go_wp2
    refine bodyPost_ret (v := .agg #[.string rep, .string nb, .string dg]) (by simp [results, Tryz.results10, go_sem, *]) rfl ⟨rfl, ?_, ?_⟩
    · refine HFIN.out _ (.slice g1 g2 g3) (.slice j1 j2 j3) ?_ ?_
      · exact (three_other hne4 _ _ _ _ _ _).trans (srv5_at HSRVC.out _ _ _ _ _)
      · exact HKEEP.out _ _ _ _ HNY.out ((((Keep.srv5 HSRVC.out _ _ _ _ _).setA _ HANSC.out).setA _ HANSC.out).setA _ HANSC.out)
    · have hb0 := three_set (b := w.heap.size) (srv5_below (b := sb) (HBC.out.mono (Nat.zero_le _)) (Nat.zero_le _) (.bool bm) (.slice g1 g2 g3) (.slice j1 j2 j3) (.int .i64 l3) (.int .i64 (l4 : Nat))) (Nat.zero_le _) (.string rep) (.string nb) (.string dg)
      refine ⟨hb0.os, hb0.tape, hb0.output, hb0.size, fun k hk hks => ?_⟩
      exact ((three_other (by omega) _ _ _ _ _ _).trans (srv5_other _ _ _ _ _ _ _ hks)).trans (HBC.out.block k hk)

end Go.Proofs.YtamkfbelpfpjcaaGreatDoor
