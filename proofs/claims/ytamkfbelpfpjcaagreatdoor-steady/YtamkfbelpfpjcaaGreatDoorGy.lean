import Derived.Test.YtamkfbelpfpjcaaGreatDoorGw
set_option linter.unusedVariables false
set_option linter.unusedSimpArgs false

namespace Go.Proofs.YtamkfbelpfpjcaaGreatDoor
open Go.RowKit

/-- What Digest owes for a node. -/
def DigOk (wide : Nat) (a0 a1 a2 a3 a4 : Value) (d : ByteArray) (w : World) : Prop :=
  ∀ w', Below w.heap.size w w' → Calls Tryz.prog 20 #[.agg #[a0, a1, a2, a3, a4], .int .i64 wide] w' fun e w'' => e = .returned (.string d) ∧ Below w'.heap.size w' w''

set_option maxRecDepth 100000 in
set_option maxHeartbeats 4000000 in
theorem bytes1_any (wide n : Nat) (l : List (List (Sq.Kid n) × Value × Value)) (cv : Value) (q3 q4 : Int) (w : World) (h : NodesAt 0 w cv n l) (hl : l.length ≤ 100) (dg : List (Sq.Kid n) → ByteArray) (hds : ∀ x ∈ l, (dg x.1).size ≤ 32)
    (hdo : ∀ x ∈ l, DigOk wide (.bool (n != 0)) x.2.1 x.2.2 (.int .i64 (Sq.least n x.1)) (.int .i64 ((Sq.ents n x.1).length : Nat)) (dg x.1) w) (B : ByteArray) (HE : Hid (B = Sq.kidsB (Sq.pnum 2 1 ++ Sq.pnum l.length 1) (l.map fun x => (Sq.least n x.1, (Sq.ents n x.1).length, dg x.1)))) :
    Calls Tryz.prog 38 #[.agg #[.bool true, .slice none 0 0, cv, .int .i64 q3, .int .i64 q4], .int .i64 wide] w fun e w' => e = .returned (.string B) ∧ Below w.heap.size w w' := by
  obtain ⟨ao, acap, rfl⟩ := ownsRow_slice h.own
  have H := hd h
  have HS := hd hds
  have HDO := hd hdo
  have hp1 := Sq.pnum_size 2 1
  have hp2 := Sq.pnum_size l.length 1
  obtain ⟨p1, hq1⟩ : ∃ x, x = Sq.pnum 2 1 := ⟨_, rfl⟩
  obtain ⟨p2, hq2⟩ : ∃ x, x = Sq.pnum l.length 1 := ⟨_, rfl⟩
  have he := HE.out
  rw [← hq1, ← hq2] at he
  rw [← hq1] at hp1
  rw [← hq2] at hp2
  have HE2 := hd he
  have HQ1 := hd hq1
  have HQ2 := hd hq2
  have hp1' : p1.size ≤ 1 := by omega
  have hp2' : p2.size ≤ 1 := by omega
  have hap : (p1 ++ p2).size = p1.size + p2.size := ByteArray.size_append
  have HAP : Hid ((p1 ++ p2).size ≤ 2000) := by show _ ≤ _; omega
  clear h hds hdo HE he hq1 hq2 hp1 hp2 hap
  go_enter Tryz.func38, Tryz.ntmps38
  go_wp2
  obtain ⟨W, hW⟩ : ∃ W : World, W = w.alloc (.cells #[.bool true, .slice none 0 0, .slice ao l.length acap, .int .i64 q3, .int .i64 q4] 44) := ⟨_, rfl⟩
  rw [← hW]
  have hbW : Below w.heap.size w W := by rw [hW]; exact (Below.refl _ _).alloc (Nat.le_refl _) _
  have hblk : W.heap[w.heap.size]? = some (.cells #[.bool true, .slice none 0 0, .slice ao l.length acap, .int .i64 q3, .int .i64 q4] 44) := by rw [hW]; exact alloc_here w _
  have hzW := lt_blk hblk
  have HC := hd (node5_below hblk)
  obtain ⟨c0, c1, c2, c3, c4⟩ := node5 hblk
  have HBW := hd hbW
  clear hW hbW hblk
  go_cut [6] from 12 (fun bv wx => bv = .string (p1 ++ p2) ∧ Below W.heap.size W wx)
  case first =>
    have HBr : Hid (Below W.heap.size W W) := Below.refl _ _
    go_region_with (first
      | (go_at_call 66; refine (sizeI_any ao l.length acap q3 q4 _ (by omega)).mono ?_; rintro e w5 ⟨rfl, hb5⟩; have hb5' : Below W.heap.size W w5 := (by first | exact HBr.out.trans (hb5.mono (by omega)) | exact (HBr.out.drew).trans (hb5.mono (by simp))); obtain ⟨k0, k1, k2, k3, k4⟩ := HC.out w5 hb5'; have hz5 := hb5'.size; have hz5' : w.heap.size < w5.heap.size := (by omega); clear HBr; have HBr := hd hb5'; clear hb5 hb5')
      | (go_at_call 65; refine (Number_any _ 1 _ (by omega)).mono ?_; rintro e w5 ⟨rfl, hb5⟩; have hb5' : Below W.heap.size W w5 := (by first | exact HBr.out.trans (hb5.mono (by omega)) | exact (HBr.out.drew).trans (hb5.mono (by simp))); obtain ⟨k0, k1, k2, k3, k4⟩ := HC.out w5 hb5'; have hz5 := hb5'.size; have hz5' : w.heap.size < w5.heap.size := (by omega); clear HBr; have HBr := hd hb5'; clear hb5 hb5'; first | rw [← HQ1.out] | rw [← HQ2.out]))
    all_goals (try go_wp2_with fail)
    all_goals go_meet
    all_goals exact ⟨rfl, HBr.out⟩
  case rest =>
    obtain ⟨rfl, hbc⟩ := hcut
    have HBC := hd hbc
    obtain ⟨m0, m1, m2, m3, m4⟩ := HC.out wc hbc
    have hzc := hbc.size
    have hzc' : w.heap.size < wc.heap.size := by omega
    clear hbc c0 c1 c2 c3 c4 HQ1 HQ2 hp1' hp2'
    go_wp2
    go_loopw [6, 7] (fun bv i wr => bv = .string (p1 ++ p2) ∧ i = .int .i64 0 ∧ wr = wc) (fun _ _ _ => 0)
    case atStart => exact ⟨rfl, rfl, rfl⟩
    case round =>
      obtain ⟨rfl, rfl, rfl⟩ := hrel
      obtain ⟨wd, rfl⟩ : ∃ wd : World, wd = wr := ⟨_, rfl⟩
      go_wp2
      go_loopw [6, 8, 9] (fun bv i _ wr => ∃ (k : Nat) (b : ByteArray), bv = .string b ∧ i = .int .i64 k ∧ k ≤ l.length ∧ b.size ≤ 2000 * (k + 1) ∧ Below W.heap.size W wr ∧ Hid (B = Sq.kidsB b ((l.map fun x => (Sq.least n x.1, (Sq.ents n x.1).length, dg x.1)).drop k))) (fun _ i _ _ => l.length - (intOf i).toNat)
      case atStart => exact ⟨0, p1 ++ p2, rfl, rfl, Nat.zero_le _, HAP.out, HBC.out, HE2⟩
      case round =>
        obtain ⟨k, b, rfl, rfl, hk, hbs, hb, HQ⟩ := hrel
        clear HAP HBC HE2 m0 m1 m2 m3 m4
        obtain ⟨wo, rfl⟩ : ∃ wo : World, wo = wr := ⟨_, rfl⟩
        have hzr := hb.size
        have hzw : w.heap.size < wo.heap.size := by omega
        obtain ⟨m0, m1, m2, m3, m4⟩ := HC.out wo hb
        have HB := hd hb
        by_cases hkt : k < l.length
        · obtain ⟨g, cap', ea, el, ec, ca, cl, cc, hv, hg, d0, d1, d2, d3, d4, d5, d6⟩ := ((H.out.below HBW.out).below hb).at k hkt
          simp only [Value.slice.injEq] at hv
          obtain ⟨rfl, -, rfl⟩ := hv
          have hm := HS.out l[k] (List.getElem_mem hkt)
          have ho := HDO.out l[k] (List.getElem_mem hkt)
          have hq := HQ.out
          rw [Sq.kidsB_drop _ k (by simpa using hkt), List.getElem_map] at hq
          rw [d5] at ho
          simp only at hq ho
          clear HQ hb d5 d6
          generalize Sq.least n l[k].1 = xl at *
          generalize (Sq.ents n l[k].1).length = xc at *
          generalize dg l[k].1 = xd at *
          generalize (n != 0) = bn at *
          have hps := Sq.pnum_size xl 5
          have hcs := Sq.pnum_size xc 1
          obtain ⟨q1, hq1⟩ : ∃ x, x = Sq.pnum xl 5 := ⟨_, rfl⟩
          obtain ⟨q2, hq2⟩ : ∃ x, x = Sq.pnum xc 1 := ⟨_, rfl⟩
          rw [← hq1, ← hq2] at hq
          rw [← hq2] at hcs
          rw [← hq1] at hps
          have HQ := hd hq
          have hps' : q1.size ≤ 5 := by omega
          have hcs' : q2.size ≤ 1 := by omega
          have hap1 : (q1 ++ q2).size = q1.size + q2.size := ByteArray.size_append
          have hap2 : (q1 ++ q2 ++ xd).size = (q1 ++ q2).size + xd.size := ByteArray.size_append
          have hap4 : (b ++ (q1 ++ q2 ++ xd)).size = b.size + (q1 ++ q2 ++ xd).size := ByteArray.size_append
          have HAP : Hid ((b ++ (q1 ++ q2 ++ xd)).size ≤ 2000 * (k + 1 + 1)) := by show _ ≤ _; omega
          have hap3 : (q1 ++ q2 ++ xd).size ≤ 38 := by omega
          have hap5 : (q1 ++ q2).size ≤ 6 := by omega
          obtain ⟨xci, hxci⟩ : ∃ x : Int, x = (xc : Int) := ⟨_, rfl⟩
          rw [← hxci] at hq2 d4 ho
          have HQ1 := hd hq1
          have HQ2 := hd hq2
          have HO := hd ho
          have i1 : (k : Int) < (l.length : Int) := by omega
          have i2 : ¬ ((l.length : Int) ≤ (k : Int)) := by omega
          have i0 : ¬ ((k : Int) < 0) := by omega
          clear hq hcs hps hq1 hq2 hap1 hap2 hap4 ho hxci
          go_wp2
          obtain ⟨V, hV⟩ : ∃ V : World, V = wo.alloc (.cells #[.bool bn, .slice ea el ec, .slice ca cl cc, .int .i64 xl, .int .i64 xci] 44) := ⟨_, rfl⟩
          rw [← hV]
          have hbV : Below wo.heap.size wo V := by rw [hV]; exact (Below.refl _ _).alloc (Nat.le_refl _) _
          have hblk : V.heap[wo.heap.size]? = some (.cells #[.bool bn, .slice ea el ec, .slice ca cl cc, .int .i64 xl, .int .i64 xci] 44) := by rw [hV]; exact alloc_here wo _
          have hzV := lt_blk hblk
          have HC2 := hd (node5_below hblk)
          obtain ⟨e0, e1, e2, e3, e4⟩ := node5 hblk
          have HBV := hd hbV
          have HBr : Hid (Below V.heap.size V V) := Below.refl _ _
          clear hV hbV hblk
          go_region_with (first
            | (go_at_call 20; refine (HO.out _ (HBW.out.trans ((HB.out.trans ((HBV.out.trans (by first | exact HBr.out.mono (by omega) | exact (HBr.out.drew).mono (by omega))).mono (by omega))).mono (by omega)))).mono ?_; rintro e w5 ⟨rfl, hb5⟩; have hb5' : Below V.heap.size V w5 := (by first | exact HBr.out.trans (hb5.mono (by omega)) | exact (HBr.out.drew).trans (hb5.mono (by simp))); obtain ⟨k0, k1, k2, k3, k4⟩ := HC2.out w5 hb5'; have hz5 := hb5'.size; have hz5' : wo.heap.size < w5.heap.size := (by omega); clear HBr; have HBr := hd hb5'; clear hb5 hb5')
            | (go_at_call 65; first | (have hx := HN1; clear hx; refine (Number_any xci 1 _ (by omega)).mono ?_; rintro e w5 ⟨rfl, hb5⟩; have hb5' : Below V.heap.size V w5 := (by first | exact HBr.out.trans (hb5.mono (by omega)) | exact (HBr.out.drew).trans (hb5.mono (by simp))); obtain ⟨k0, k1, k2, k3, k4⟩ := HC2.out w5 hb5'; have hz5 := hb5'.size; have hz5' : wo.heap.size < w5.heap.size := (by omega); clear HBr; have HBr := hd hb5'; clear hb5 hb5'; rw [← HQ2.out]) | (have HN1 : True := trivial; refine (Number_any xl 5 _ (by omega)).mono ?_; rintro e w5 ⟨rfl, hb5⟩; have hb5' : Below V.heap.size V w5 := (by first | exact HBr.out.trans (hb5.mono (by omega)) | exact (HBr.out.drew).trans (hb5.mono (by simp))); obtain ⟨k0, k1, k2, k3, k4⟩ := HC2.out w5 hb5'; have hz5 := hb5'.size; have hz5' : wo.heap.size < w5.heap.size := (by omega); clear HBr; have HBr := hd hb5'; clear hb5 hb5'; rw [← HQ1.out])))
          all_goals (try go_wp2)
          all_goals
            go_roundw
            case rel => exact ⟨k + 1, b ++ (q1 ++ q2 ++ xd), rfl, by go_num, by omega, HAP.out, HB.out.trans ((HBV.out.trans (HBr.out.mono (by omega))).mono (by omega)), HQ⟩
            case measure => simp [intOf]; omega
        · have i1 : ¬ ((k : Int) < (l.length : Int)) := by omega
          have HN : Hid (B = b) := by show _ = _; rw [HQ.out, List.drop_eq_nil_of_le (by simp; omega)]; rfl
          clear hb HQ
          go_wp2
          go_ret
          exact ⟨by rw [HN.out]; rfl, HBW.out.trans (HB.out.mono (by omega))⟩

end Go.Proofs.YtamkfbelpfpjcaaGreatDoor
