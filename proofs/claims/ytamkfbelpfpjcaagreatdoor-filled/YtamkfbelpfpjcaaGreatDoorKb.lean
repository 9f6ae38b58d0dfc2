import Derived.Test.YtamkfbelpfpjcaaGreatDoorHw
import Derived.Test.YtamkfbelpfpjcaaGreatDoorKa
set_option linter.unusedVariables false
set_option linter.unusedSimpArgs false

namespace Go.Proofs.YtamkfbelpfpjcaaGreatDoor
open Go.RowKit

theorem Sq.dgM_size (n : Nat) : (Sq.dgM n).size ≤ 2 := by unfold Sq.dgM; split <;> simp [ByteArray.size]

set_option maxRecDepth 100000 in
set_option maxHeartbeats 4000000 in
theorem filled_any (c : Int) (w : World) (h0 : -9223372036854775808 ≤ c) (h1 : c ≤ 9223372036854775807) (hT : Tbl w) (hR : Rnd w) :
    Calls Tryz.prog 4 #[.int .i64 c] w fun e w' => e = .returned (.bool true) ∧ Below w.heap.size w w' := by
  have hpk := Sq.pick_bd c 32 (by decide)
  obtain ⟨k, hk⟩ := Int.eq_ofNat_of_zero_le hpk.1
  have hk32 : k < 32 := by omega
  have HK := hd hk
  obtain ⟨P, hP⟩ : ∃ P : Nat → World → Prop, ∀ j w', P j w' ↔ (SrvAt w.heap.size w' (k + 1) (Sq.TM j) ∧ Below w.heap.size w w') := ⟨_, fun _ _ => Iff.rfl⟩
  obtain ⟨D, hD⟩ : ∃ D : Nat → ByteArray, ∀ j, Sq.digT (k + 1) (Sq.TM j).d (Sq.TM j).t = D j := ⟨_, fun _ => rfl⟩
  have hD1 : (D 1).size = k + 1 := by rw [← hD]; unfold Sq.digT; exact Sq.shaOf_size _ _ (by omega)
  have hDE : D 122 = D 1 := by rw [← hD, ← hD, Sq.TM_end]
  have hnew : Calls Tryz.prog 9 #[.int .i64 ((k : Int) + 1)] w fun e w' => e = .returned (.tuple #[.pointer (some ⟨w.heap.size, 0, none⟩), .int .i64 0]) ∧ P 0 w' :=
    (New_any (k + 1) w (by omega) (by omega)).mono fun e w' hh => ⟨hh.1, (hP _ _).2 hh.2⟩
  have hroot : ∀ j w', P j w' → Calls Tryz.prog 11 #[.pointer (some ⟨w.heap.size, 0, none⟩)] w' fun e w'' => e = .returned (.string (D j)) ∧ P j w'' := fun j w' hp =>
    (SrvRoot_any w.heap.size (k + 1) (Sq.TM j) w' (by omega) ((hP _ _).1 hp).1 (Sq.TM_good j).ok.kids (Nat.le_trans (Sq.TM_good j).few (by omega)) (fun e he => ((Sq.TM_good j).rows e he).1) (hR.below ((hP _ _).1 hp).2)).mono fun e w'' hh => ⟨by rw [hh.1, hD], (hP _ _).2 ⟨((hP _ _).1 hp).1.below hh.2, ((hP _ _).1 hp).2.trans (hh.2.mono ((hP _ _).1 hp).2.size)⟩⟩
  have hrun : ∀ j s r w', Sq.scriptM[j]? = some (s, r) → P j w' → Calls Tryz.prog 10 #[.pointer (some ⟨w.heap.size, 0, none⟩), .string s] w' fun e w'' => e = .returned (.agg #[.string r, .string Sq.nobytes, .string (D (j + 1))]) ∧ P (j + 1) w'' ∧ Moved w.heap.size w' w'' := fun j s r w' hs hp => by
    have ht := Sq.TM_at j s r hs
    refine (Run_any w.heap.size (k + 1) (Sq.TM j) s w' (by omega) ((hP _ _).1 hp).1 (Sq.TM_good j) (hT.below ((hP _ _).1 hp).2) (hR.below ((hP _ _).1 hp).2)).mono fun e w'' hh => ?_
    rw [ht.1, ← ht.2, hD] at hh
    exact ⟨hh.1, (hP _ _).2 ⟨hh.2.1, ((hP _ _).1 hp).2.trans (hh.2.2.below (Nat.le_refl _) ((hP _ _).1 hp).2.size)⟩, hh.2.2⟩
  have hal : ∀ j w' o, P j w' → P j (w'.alloc o) := fun j w' o hp => (hP _ _).2 ⟨((hP _ _).1 hp).1.below ((Below.refl _ _).alloc (Nat.le_refl _) _), ((hP _ _).1 hp).2.alloc ((hP _ _).1 hp).2.size _⟩
  have hlt : ∀ j w', P j w' → w.heap.size < w'.heap.size := fun j w' hp => ((hP _ _).1 hp).1.lt
  have hbl : ∀ j w', P j w' → Below w.heap.size w w' := fun j w' hp => ((hP _ _).1 hp).2
  have hdn : ∀ j w' w'', P j w' → Below w'.heap.size w' w'' → P j w'' := fun j w' w'' hp hb => (hP _ _).2 ⟨((hP _ _).1 hp).1.below hb, ((hP _ _).1 hp).2.trans (hb.mono ((hP _ _).1 hp).2.size)⟩
  have hst : ∀ j w' A c x y z, P j w' → w.heap.size < A → w'.heap[A]? = some (.cells c 34) → P j (((w'.setCell ⟨A, 0, none⟩ x).setCell ⟨A, 1, none⟩ y).setCell ⟨A, 2, none⟩ z) := fun j w' A c x y z hp hA hc => by
    obtain ⟨⟨ev, cv, g1, g2⟩, hb⟩ := (hP _ _).1 hp
    exact (hP _ _).2 ⟨⟨ev, cv, (three_other (by omega) _ _ _ _ _ _).trans g1, g2.keep ((((Keep.refl w').setA _ hc).setA _ hc).setA _ hc)⟩, three_set hb (Nat.le_of_lt hA) _ _ _⟩
  have HST := hd hst
  have HNEW := hd hnew
  have HROOT := hd hroot
  have HRUN := hd hrun
  have HAL := hd hal
  have HLT := hd hlt
  have HBL := hd hbl
  have HDN := hd hdn
  have HDE := hd hDE
  clear hnew hst hroot hrun hal hlt hbl hdn hDE hD hP hT hR hpk hk
  go_enter Tryz.func4, Tryz.ntmps4
  go_wp2_with (first
    | (go_at_call 8; refine (kpick_any c 32 _ h0 h1 (by decide) (by decide)).mono ?_; rintro e w' ⟨rfl, hw'⟩; rw [hw', HK.out]; clear hw' w')
    | (go_at_call 9; refine HNEW.out.mono ?_; rintro e w0 ⟨rfl, hp0⟩; have HP0 := hd hp0; clear hp0))
  refine (HRUN.out 0 _ _ _ Sq.at_create HP0.out).mono ?_
  rintro e w1 ⟨rfl, hp1, -⟩
  have HP1 := hd hp1
  clear hp1 HP0
  go_wp2_with fail
  refine (HROOT.out 1 _ HP1.out).mono ?_
  rintro e w2 ⟨rfl, hp2⟩
  have HP2 := hd hp2
  clear hp2 HP1
  go_wp2
  go_loopw [8] (fun i wr => ∃ j : Nat, j ≤ 60 ∧ i = .int .i64 j ∧ P (j + 1) wr) (fun i _ => 60 - (intOf i).toNat)
  case atStart => exact ⟨0, by omega, rfl, HP2.out⟩
  case round =>
    obtain ⟨j, hj, rfl, hpj⟩ := hrel
    have HPJ := hd hpj
    clear hpj HP2
    by_cases hjl : j < 60
    · have hins := Sq.at_ins j hjl
      obtain ⟨n, hn⟩ : ∃ n : Nat, n = HMod.hMod (j * 7) 60 := ⟨_, rfl⟩
      rw [← hn] at hins
      have hn60 : n < 60 := by omega
      have HN := hd (show (HMod.hMod ((j : Int) * 7) (60 : Int)) = (n : Int) by omega)
      have hj59 : (j : Int) ≤ 59 := by omega
      have hrep : Sq.insR j = if j < 59 then ⟨#[49, 59]⟩ else ⟨#[33, 49, 48]⟩ := rfl
      by_cases hj9 : j < 59
      · have hj9' : (j : Int) < 59 := by omega
        rw [hrep, if_pos hj9] at hins
        have HINS := hd hins
        clear hins hn hrep
        go_wp2_with fail
        rw [HN.out]
        refine (digits_any n _ (by omega)).mono ?_
        rintro e w3 ⟨rfl, hb3⟩
        have hgz := Sq.dgM_size n
        have HP3 := hd (HDN.out _ _ _ HPJ.out hb3)
        clear hb3 HPJ
        go_wp2_with fail
        refine (HRUN.out (j + 1) (Sq.insM n) _ _ HINS.out HP3.out).mono ?_
        rintro e w4 ⟨rfl, hp4, -⟩
        have HP4 := hd hp4
        clear hp4 HP3
        go_wp2
        go_roundw
        case rel => exact ⟨j + 1, by omega, by go_num, HAL.out _ _ _ HP4.out⟩
        case measure => simp [intOf]; omega
      · have hj9' : ¬ ((j : Int) < 59) := by omega
        obtain rfl : j = 59 := by omega
        obtain rfl : n = 53 := by omega
        rw [hrep, if_neg hj9] at hins
        have HINS := hd hins
        clear hins hn hrep
        go_wp2_with fail
        refine (digits_any 53 _ (by omega)).mono ?_
        rintro e w3 ⟨rfl, hb3⟩
        have hgz := Sq.dgM_size 53
        have HP3 := hd (HDN.out _ _ _ HPJ.out hb3)
        clear hb3 HPJ
        go_wp2_with fail
        refine (HRUN.out (59 + 1) (Sq.insM 53) _ _ HINS.out HP3.out).mono ?_
        rintro e w4 ⟨rfl, hp4, -⟩
        have HP4 := hd hp4
        clear hp4 HP3
        go_wp2
        go_roundw
        case rel => exact ⟨59 + 1, by omega, by go_num, HAL.out _ _ _ HP4.out⟩
        case measure => simp [intOf]
    · obtain rfl : j = 60 := by omega
      go_wp2_with fail
      refine (HRUN.out 61 Sq.countM _ _ Sq.at_count HPJ.out).mono ?_
      rintro e w3 ⟨rfl, hp3, -⟩
      have HP3 := hd hp3
      clear hp3 HPJ
      go_wp2
      have hz3 := HLT.out _ _ HP3.out
      go_loopw [12] (fun i wr => ∃ j : Nat, j ≤ 59 ∧ i = .int .i64 j ∧ P (j + 62) wr ∧ ∃ s0 s1 s2, wr.heap[w3.heap.size]? = some (.cells #[.string s0, .string s1, .string s2] 34)) (fun i _ => 59 - (intOf i).toNat)
      case atStart => exact ⟨0, by omega, rfl, HAL.out _ _ _ HP3.out, _, _, _, alloc_at _ _⟩
      case round =>
        obtain ⟨j, hj, rfl, hpj, s0, s1, s2, hans⟩ := hrel
        have HPJ := hd hpj
        clear hpj HP3
        by_cases hjl : j < 59
        · have hdel := Sq.at_del j hjl
          obtain ⟨n, hn⟩ : ∃ n : Nat, n = HMod.hMod (j * 11) 60 := ⟨_, rfl⟩
          rw [← hn] at hdel
          have hn60 : n < 60 := by omega
          have HN := hd (show (HMod.hMod ((j : Int) * 11) (60 : Int)) = (n : Int) by omega)
          have hrep : Sq.delR j = if j = 43 then ⟨#[48, 59]⟩ else ⟨#[49, 59]⟩ := rfl
          have hj2 : (j : Int) < 59 := by omega
          obtain ⟨r, hr, hrr⟩ : ∃ r, Sq.delR j = r ∧ (r = ⟨#[48, 59]⟩ ∨ r = ⟨#[49, 59]⟩) := by
            refine ⟨_, rfl, ?_⟩
            rw [hrep]
            split
            · exact Or.inl rfl
            · exact Or.inr rfl
          rw [hr] at hdel
          have HDEL := hd hdel
          clear hdel hn hr hrep
          go_wp2_with fail
          rw [HN.out]
          refine (digits_any n _ (by omega)).mono ?_
          rintro e w4 ⟨rfl, hb4⟩
          have hgz := Sq.dgM_size n
          have hk4 := (hb4.block w3.heap.size (lt_blk hans)).trans hans
          have HP4 := hd (HDN.out _ _ _ HPJ.out hb4)
          have HK4 := hd hk4
          have hz4 := lt_blk hk4
          clear hb4 hk4 hans HPJ
          go_wp2_with fail
          refine (HRUN.out (j + 62) (Sq.delM n) _ _ HDEL.out HP4.out).mono ?_
          rintro e w5 ⟨rfl, hp5, hm5⟩
          have hk5 := (hm5.block w3.heap.size hz4 (by omega)).trans HK4.out
          obtain ⟨m0, m1, m2, f0, f1, f2⟩ := ans3 hk5
          have hz5 := lt_blk hk5
          have HP5 := hd (HST.out _ _ _ _ (.string r) (.string Sq.nobytes) (.string (D (j + 62 + 1))) hp5 hz3 hk5)
          have HK5 := hd (three_at hk5 (.string r) (.string Sq.nobytes) (.string (D (j + 62 + 1))))
          clear hp5 hm5 hk5 HP4 HK4
          rcases hrr with rfl | rfl
          · go_wp2
            go_roundw
            case rel => exact ⟨j + 1, by omega, by go_num, (by have := HP5.out; rw [show j + 62 + 1 = j + 1 + 62 by omega] at this; exact this), _, _, _, HK5.out⟩
            case measure => simp [intOf]; omega
          · go_wp2
            go_roundw
            case rel => exact ⟨j + 1, by omega, by go_num, (by have := HP5.out; rw [show j + 62 + 1 = j + 1 + 62 by omega] at this; exact this), _, _, _, HK5.out⟩
            case measure => simp [intOf]; omega
        · obtain rfl : j = 59 := by omega
          clear hans
          go_wp2_with fail
          refine (HRUN.out 121 Sq.wipeM _ _ Sq.at_wipe HPJ.out).mono ?_
          rintro e w4 ⟨rfl, hp4, -⟩
          have HP4 := hd hp4
          clear hp4 HPJ
          go_wp2_with fail
          refine (HROOT.out 122 _ HP4.out).mono ?_
          rintro e w5 ⟨rfl, hp5⟩
          rw [HDE.out]
          have HP5 := hd hp5
          clear hp5 HP4
          go_wp2
          go_ret
          exact ⟨rfl, HBL.out _ _ HP5.out⟩

end Go.Proofs.YtamkfbelpfpjcaaGreatDoor
