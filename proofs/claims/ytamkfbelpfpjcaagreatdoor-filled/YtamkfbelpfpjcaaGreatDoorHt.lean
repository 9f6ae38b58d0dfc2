import Derived.Test.YtamkfbelpfpjcaaGreatDoorHs
set_option linter.unusedVariables false
set_option linter.unusedSimpArgs false

namespace Go.Proofs.YtamkfbelpfpjcaaGreatDoor
open Go.RowKit

set_option maxRecDepth 100000 in
set_option maxHeartbeats 8000000 in
theorem Peek_any (sb wide : Nat) (x : Sq.Tree) (sql : ByteArray) (w : World) (hw : wide ≤ 32) (h : SrvAt sb w wide x) (hg : Sq.goodN x) (hT : Tbl w) (hR : Rnd w) :
    Calls Tryz.prog 13 #[.pointer (some ⟨sb, 0, none⟩), .string sql] w fun e w' => e = .returned (.agg #[.string (Sq.decideN x sql).reply, .string Sq.nobytes, .string (Sq.digT wide (Sq.afterN x sql).d (Sq.afterN x sql).t)]) ∧ Below w.heap.size w w' := by
  obtain ⟨ev, cv, hblk, hn⟩ := h
  obtain ⟨⟨e1, e2, e3, hev⟩, k1, k2, k3, hcv⟩ := hn.slices
  subst hev hcv
  have hb2 : w.heap[sb]? = some (.cells #[.int .i64 wide, .bool (x.d != 0), .slice e1 e2 e3, .slice k1 k2 k3, .int .i64 (Sq.least x.d x.t), .int .i64 ((Sq.ents x.d x.t).length : Nat)] 48) := hblk
  have hka : ∀ w', Below w.heap.size w w' → Calls Tryz.prog 16 #[.int .i64 wide, .agg #[.bool (x.d != 0), .slice e1 e2 e3, .slice k1 k2 k3, .int .i64 (Sq.least x.d x.t), .int .i64 ((Sq.ents x.d x.t).length : Nat)], .string sql] w' (AnsGen (fun w a b => NodeAt w (Sq.afterN x sql).d (Sq.afterN x sql).t a b) (Sq.decideN x sql).reply Sq.nobytes (Sq.digT wide (Sq.afterN x sql).d (Sq.afterN x sql).t) ((Sq.afterN x sql).d != 0) (Sq.least (Sq.afterN x sql).d (Sq.afterN x sql).t) (Sq.ents (Sq.afterN x sql).d (Sq.afterN x sql).t).length w') := fun w' hb => (answered_any wide hw x _ _ sql w' (hn.below hb) hg (hT.below hb) (hR.below hb)).mono fun e w'' hh => hh.gen
  obtain ⟨ND, hND⟩ : ∃ ND : World → Value → Value → Prop, ND = fun w a b => NodeAt w (Sq.afterN x sql).d (Sq.afterN x sql).t a b := ⟨_, rfl⟩
  rw [← hND] at hka
  clear hND
  obtain ⟨W, hW⟩ : ∃ W : World, W = w.alloc (.cells #[.string ⟨#[]⟩, .string ⟨#[]⟩, .string ⟨#[]⟩] 34) := ⟨_, rfl⟩
  have hbW : Below w.heap.size w W := by rw [hW]; exact (Below.refl _ _).alloc (Nat.le_refl _) _
  have hans : W.heap[w.heap.size]? = some (.cells #[.string ⟨#[]⟩, .string ⟨#[]⟩, .string ⟨#[]⟩] 34) := by rw [hW]; exact alloc_at _ _
  have hsrv := (hbW.block sb (lt_blk hb2)).trans hb2
  obtain ⟨c0, c1, c2, c3, c4, c5⟩ := srv_cells hsrv
  have hzs := lt_blk hb2
  have hzW := lt_blk hans
  have hzS := lt_blk hsrv
  have hzT : sb < W.heap.size + 1 := by omega
  have HKA := hd hka
  have HBW := hd hbW
  have HANS := hd hans
  have HSRV := hd hsrv
  clear hka hn hblk hb2 hg hT hR hbW hans hsrv
  generalize Sq.least x.d x.t = q3 at *
  generalize (Sq.ents x.d x.t).length = q4 at *
  generalize (x.d != 0) = bn at *
  generalize (Sq.decideN x sql).reply = rep at *
  generalize Sq.digT wide (Sq.afterN x sql).d (Sq.afterN x sql).t = dg at *
  generalize ((Sq.afterN x sql).d != 0) = bm at *
  generalize Sq.least (Sq.afterN x sql).d (Sq.afterN x sql).t = l3 at *
  generalize (Sq.ents (Sq.afterN x sql).d (Sq.afterN x sql).t).length = l4 at *
  generalize Sq.nobytes = nb at *
  go_enter Tryz.func13, Tryz.ntmps13
  go_wp2
  rw [← hW]
  clear hW
  go_cut [5] from 11 (fun p5 wx => ∃ a, p5 = .pointer (some ⟨a, 0, none⟩) ∧ W.heap.size ≤ a ∧ wx.heap[a]? = some (.cells #[.string rep, .string nb, .string dg] 34) ∧ Below W.heap.size W wx)
  case first =>
    go_region_with (first
      | (go_at_call 16; refine (HKA.out _ (HBW.out.trans (Below.mono (Below.drew (Below.refl _ _)) HBW.out.size))).mono ?_; rintro e w5 hh5; obtain ⟨g1, g2, g3, j1, j2, j3, rfl, hn5, hb5⟩ := hh5; have hb5' : Below W.heap.size W w5 := (Below.drew (Below.refl _ _)).trans hb5; have hz5 := hb5'.size; have HB5 := hd hb5'; have HN5 := hd hn5; have hzU : sb < w5.heap.size := (by omega); have hzV : ¬ (sb = w5.heap.size) := (by omega); have hzX : ¬ (sb = w5.heap.size + 1) := (by omega); (try (have hzY : ¬ (W.heap.size = w5.heap.size) := (by omega))); (try (have hzZ : ¬ (W.heap.size + 1 = w5.heap.size) := (by omega))); clear hb5 hb5' hn5)
      | (go_at_call 16; refine (HKA.out _ (HBW.out.trans (Below.mono (Below.alloc (B := W.heap.size) (Below.drew (Below.refl _ _)) (Nat.le_refl _) _) HBW.out.size))).mono ?_; rintro e w5 hh5; obtain ⟨g1, g2, g3, j1, j2, j3, rfl, hn5, hb5⟩ := hh5; have e9 := (hb5.block W.heap.size (by simp)).trans (alloc_at W.drew _); have E9 := hd e9; have hb5' : Below W.heap.size W w5 := (Below.alloc (B := W.heap.size) (Below.drew (Below.refl _ _)) (Nat.le_refl _) _).trans (hb5.mono (by simp)); have hz5 := lt_blk e9; have HB5 := hd hb5'; have HN5 := hd hn5; have hzU : sb < w5.heap.size := (by omega); have hzV : ¬ (sb = w5.heap.size) := (by omega); have hzX : ¬ (sb = w5.heap.size + 1) := (by omega); (try (have hzY : ¬ (W.heap.size = w5.heap.size) := (by omega))); (try (have hzZ : ¬ (W.heap.size + 1 = w5.heap.size) := (by omega))); (first | (obtain ⟨m0, m1, m2, n0, n1, n2⟩ := ans3 e9) | (obtain ⟨m0, m1, m2, m3, m4⟩ := store_cells e9; obtain ⟨n0, n1, n2, n3, n4⟩ := store_frozen e9)); clear hb5 hb5' hn5 e9)
      | (go_at_call 16; refine (HKA.out _ (HBW.out.trans (Below.mono (Below.alloc (B := W.heap.size) (Below.alloc (B := W.heap.size) (Below.drew (Below.refl _ _)) (Nat.le_refl _) _) (by simp) _) HBW.out.size))).mono ?_; rintro e w5 hh5; obtain ⟨g1, g2, g3, j1, j2, j3, rfl, hn5, hb5⟩ := hh5; have e9 := (hb5.block W.heap.size (by simp; omega)).trans ((alloc_lt (by simp) _).trans (alloc_at W.drew _)); have e8 := (hb5.block (W.heap.size + 1) (by simp)).trans (alloc_at' (by simp) _); have E9 := hd e9; have E8 := hd e8; have hb5' : Below W.heap.size W w5 := (Below.alloc (B := W.heap.size) (Below.alloc (B := W.heap.size) (Below.drew (Below.refl _ _)) (Nat.le_refl _) _) (by simp) _).trans (hb5.mono (by simp; omega)); have hz5 := lt_blk e8; have hz6 := lt_blk e9; have HB5 := hd hb5'; have HN5 := hd hn5; have hzU : sb < w5.heap.size := (by omega); have hzV : ¬ (sb = w5.heap.size) := (by omega); have hzX : ¬ (sb = w5.heap.size + 1) := (by omega); (try (have hzY : ¬ (W.heap.size = w5.heap.size) := (by omega))); (try (have hzZ : ¬ (W.heap.size + 1 = w5.heap.size) := (by omega))); (first | (obtain ⟨m0, m1, m2, n0, n1, n2⟩ := ans3 e9; obtain ⟨o0, o1, o2, o3, o4⟩ := store_cells e8; obtain ⟨p0, p1, p2, p3, p4⟩ := store_frozen e8) | (obtain ⟨m0, m1, m2, m3, m4⟩ := store_cells e9; obtain ⟨n0, n1, n2, n3, n4⟩ := store_frozen e9; obtain ⟨o0, o1, o2, p0, p1, p2⟩ := ans3 e8)); clear hb5 hb5' hn5 e9 e8))
    all_goals (try go_wp2_with fail)
    all_goals go_meet
    all_goals exact ⟨_, rfl, (by first | omega | (simp; omega)), (by repeat' first | with_reducible exact E9.out | with_reducible exact E8.out | with_reducible refine alloc_to _ ?_ | with_reducible exact five_at E9.out _ _ _ _ _ | with_reducible exact five_at E8.out _ _ _ _ _ | with_reducible exact five_at ((three_other (by omega) _ _ _ _ _ _).trans E8.out) _ _ _ _ _ | with_reducible exact five_at ((three_other (by omega) _ _ _ _ _ _).trans E9.out) _ _ _ _ _ | with_reducible exact five_atN E9.out _ _ _ _ _ | with_reducible exact five_atN E8.out _ _ _ _ _ | with_reducible exact five_atN ((three_other (by omega) _ _ _ _ _ _).trans E8.out) _ _ _ _ _ | with_reducible exact five_atN ((three_other (by omega) _ _ _ _ _ _).trans E9.out) _ _ _ _ _ | with_reducible exact three_at E9.out _ _ _ | with_reducible exact three_at E8.out _ _ _ | with_reducible refine (five_other ?_ _ _ _ _ _).trans ?_ | with_reducible refine (three_other ?_ _ _ _ _ _ _).trans ?_ | with_reducible refine (alloc_lt ?_ _).trans ?_ | omega | (simp; done) | (simp; omega)), (by repeat' first | with_reducible exact HB5.out | with_reducible refine Below.setCell (B := W.heap.size) ?_ ?_ _ | with_reducible refine Below.alloc (B := W.heap.size) ?_ ?_ _ | omega | (simp; done) | (simp; omega))⟩
  case rest =>
    obtain ⟨a, rfl, ha0, hablk, hbc⟩ := hcut
    have hansc := (hbc.block w.heap.size hzW).trans HANS.out
    obtain ⟨u0, u1, u2, f0, f1, f2⟩ := ans3 hansc
    obtain ⟨d0, d1, d2, -⟩ := ans3 hablk
    have ha1 := lt_blk hablk
    have hz9 := lt_blk hansc
    have HBC := hd (HBW.out.trans (hbc.mono HBW.out.size))
    clear hbc hansc hablk c0 c1 c2 c3 c4 c5
    go_wp2
    refine bodyPost_ret (v := .agg #[.string rep, .string nb, .string dg]) (by simp [results, Tryz.results13, go_sem, *]) rfl ⟨rfl, three_set HBC.out (Nat.le_refl _) _ _ _⟩

end Go.Proofs.YtamkfbelpfpjcaaGreatDoor
