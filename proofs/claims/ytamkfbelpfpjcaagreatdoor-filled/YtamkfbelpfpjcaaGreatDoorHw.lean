import Derived.Test.YtamkfbelpfpjcaaGreatDoorHt
import Derived.Test.YtamkfbelpfpjcaaGreatDoorHu
import Derived.Test.YtamkfbelpfpjcaaGreatDoorHv
set_option linter.unusedVariables false
set_option linter.unusedSimpArgs false

namespace Go.Proofs.YtamkfbelpfpjcaaGreatDoor
open Go.RowKit

theorem add_block (b : Addr) (k : Nat) : (b.add k).block = b.block := by unfold Addr.add; split <;> rfl
theorem Strs.below {w w' : World} {v : Value} {l : List ByteArray} (h : Strs w v l) {B : Nat} (hb : Below B w w') (hB : w.heap.size ≤ B) : Strs w' v l := by
  obtain ⟨a, cap, hv, hl, hs, hat⟩ := h
  refine ⟨a, cap, hv, hl, hs, fun k hk => ?_⟩
  obtain ⟨b, hb1, hb2, hb3⟩ := hat k hk
  refine ⟨b, hb1, Nat.lt_of_lt_of_le hb2 hb.size, ?_⟩
  rw [hb.cell (p := b.add k) (by rw [add_block]; omega)]
  exact hb3
theorem SrvAt.below {sb : Nat} {w w' : World} {wide : Nat} {x : Sq.Tree} (h : SrvAt sb w wide x) (hb : Below w.heap.size w w') : SrvAt sb w' wide x := by
  obtain ⟨ev, cv, h1, h2⟩ := h
  exact ⟨ev, cv, (hb.block sb (lt_blk h1)).trans h1, h2.below hb⟩
theorem SrvAt.lt {sb : Nat} {w : World} {wide : Nat} {x : Sq.Tree} (h : SrvAt sb w wide x) : sb < w.heap.size := by
  obtain ⟨ev, cv, h1, h2⟩ := h
  exact lt_blk h1
theorem Sq.runN_snoc : ∀ (l : List ByteArray) (x : Sq.Tree) (j : Nat) (h : j < l.length), Sq.runN x (l.take (j + 1)) = Sq.afterN (Sq.runN x (l.take j)) l[j]
  | s :: r, x, 0, _ => rfl
  | s :: r, x, j + 1, h => by
    rw [List.take_succ_cons, Sq.runN, Sq.runN_snoc r (Sq.afterN x s) j (by simpa using h)]
    rfl

/-- A server that has run the statements, in memory. -/
structure WorldAt (B : Nat) (w : World) (wb sb wide : Nat) (x : Sq.Tree) : Prop where
  blk : w.heap[wb]? = some (.cells #[.pointer (some ⟨sb, 0, none⟩), .int .i64 wide] 40)
  srv : SrvAt sb w wide x
  le : B ≤ sb

set_option maxRecDepth 100000 in
set_option maxHeartbeats 2000000 in
theorem world_any (c : Int) (k : Nat) (hk : Sq.pick c 32 = k) (h0 : -9223372036854775808 ≤ c) (h1 : c ≤ 9223372036854775807) (l : List ByteArray) (v : Value) (w : World) (h : Strs w v l) (hT : Tbl w) (hR : Rnd w) :
    Calls Tryz.prog 5 #[.int .i64 c, v] w fun e w' =>
      (Sq.tooMuch l = true ∧ e = .returned (.pointer none) ∧ w' = w) ∨ (∃ wb sb, Sq.tooMuch l = false ∧ e = .returned (.pointer (some ⟨wb, 0, none⟩)) ∧ WorldAt w.heap.size w' wb sb (k + 1) (Sq.runN Sq.tree0 l) ∧ Below w.heap.size w w') := by
  have hpk := Sq.pick_bd c 32 (by decide)
  have hk32 : k < 32 := by omega
  have HK := hd hk
  have HS0 := hd h
  obtain ⟨a, cap, rfl, hl, hsz, hat⟩ := h
  have HAT := hd hat
  have HSZ := hd hsz
  have HT := hd hT
  have HR0 := hd hR
  have hnew : ∀ w : World, Calls Tryz.prog 9 #[.int .i64 ((k : Int) + 1)] w fun e w' => e = .returned (.tuple #[.pointer (some ⟨w.heap.size, 0, none⟩), .int .i64 0]) ∧ SrvAt w.heap.size w' (k + 1) Sq.tree0 ∧ Below w.heap.size w w' := fun w => New_any (k + 1) w (by omega) (by omega)
  have HNEW := hd hnew
  clear hat hsz hT hR hnew hpk hk
  by_cases hbig : 1048576 < l.length
  · have HE : Hid (Sq.tooMuch l = true) := by show _ = _; unfold Sq.tooMuch; simp [hbig]
    go_enter Tryz.func5, Tryz.ntmps5
    go_wp2
    go_ret
    exact Or.inl ⟨HE.out, rfl, rfl⟩
  · have HE : Hid (Sq.tooMuch l = (Sq.bulk l l.length).isNone) := by show _ = _; unfold Sq.tooMuch; simp [hbig]
    go_enter Tryz.func5, Tryz.ntmps5
    go_wp2
    go_loop [5, 6] (fun n i => ∃ k m : Nat, k ≤ l.length ∧ m ≤ 1048576 ∧ n = .int .i64 m ∧ i = .int .i64 k ∧ Hid (Sq.bulk l l.length = Sq.bulk (l.drop k) m)) (fun _ i => l.length - (intOf i).toNat)
    case atStart => exact ⟨0, l.length, Nat.zero_le _, by omega, rfl, rfl, rfl⟩
    case round =>
      obtain ⟨q, m, hq, hm, rfl, rfl, HR⟩ := hrel
      by_cases hlt : q < l.length
      · obtain ⟨b, rfl, hb, hc⟩ := HAT.out q hlt
        have hs := HSZ.out l[q] (List.getElem_mem hlt)
        have hst : Sq.bulk (l.drop q) m = if 1048576 < m + l[q].size then none else Sq.bulk (l.drop (q + 1)) (m + l[q].size) := by
          rw [List.drop_eq_getElem_cons hlt, Sq.bulk]
        have HS := hd hst
        obtain ⟨s, hs0⟩ : ∃ s, s = l[q] := ⟨_, rfl⟩
        rw [← hs0] at hs hc HS
        clear hst hs0
        by_cases hmm : 1048576 < m + s.size
        · go_wp2
          go_ret
          refine Or.inl ⟨?_, rfl, rfl⟩
          rw [HE.out, HR.out, HS.out, if_pos hmm]; rfl
        · go_wp2
          go_round
          case rel => exact ⟨q + 1, m + s.size, by omega, by omega, by go_num, by go_num, by show _ = _; rw [HR.out, HS.out, if_neg hmm]⟩
          case measure => simp [intOf]; omega
      · have HNO : Hid (Sq.tooMuch l = false) := by
          show _ = _
          rw [HE.out, HR.out, List.drop_eq_nil_of_le (by omega)]; rfl
        clear HR HE
        go_wp2_with (go_at_call 8; refine (kpick_any c 32 _ h0 h1 (by decide) (by decide)).mono ?_; rintro e w' ⟨rfl, hw'⟩; rw [hw', HK.out]; clear hw' w')
        refine (HNEW.out _).mono ?_
        rintro e w0 ⟨rfl, hsv0, hb0⟩
        have HSV0 := hd hsv0
        have HB0 := hd hb0
        clear hsv0 hb0
        go_wp2
        go_loopw [10] (fun i wr => ∃ j : Nat, j ≤ l.length ∧ i = .int .i64 j ∧ SrvAt w.heap.size wr (k + 1) (Sq.runN Sq.tree0 (l.take j)) ∧ Below w.heap.size w wr) (fun i _ => l.length - (intOf i).toNat)
        case atStart => exact ⟨0, Nat.zero_le _, rfl, HSV0.out, HB0.out⟩
        case round =>
          obtain ⟨j, hj, rfl, hsv, hbr⟩ := hrel
          have hsw := hsv.lt
          have HSVj := hd hsv
          have HBR := hd hbr
          clear hsv hbr
          by_cases hltj : j < l.length
          · obtain ⟨a2, cap2, hv2, -, -, hat2⟩ := HS0.out.below HBR.out (Nat.le_refl _)
            obtain ⟨b, hb1, hb2, hc⟩ := hat2 j hltj
            simp only [Value.slice.injEq] at hv2
            obtain ⟨hv3, -, -⟩ := hv2
            rw [← hv3] at hb1
            subst hb1
            have hsn := Sq.runN_snoc l Sq.tree0 j hltj
            obtain ⟨sql, hsql⟩ : ∃ x, x = l[j] := ⟨_, rfl⟩
            rw [← hsql] at hsn hc
            have hgood : Sq.goodN (Sq.runN Sq.tree0 (l.take j)) := Sq.good_run _ Sq.goodN0
            have HSN := hd hsn
            have HGOOD := hd hgood
            have HTB := hd (HT.out.below HBR.out)
            have HRB := hd (HR0.out.below HBR.out)
            clear hsn hsql hgood hat2 hv3
            go_wp2_with fail
            refine (Run_any w.heap.size (k + 1) _ sql _ (by omega) HSVj.out HGOOD.out HTB.out HRB.out).mono ?_
            rintro e w3 ⟨rfl, hsv3, hm3⟩
            rw [← HSN.out] at hsv3
            have HSV3 := hd hsv3
            have HB3 := hd (HBR.out.trans (hm3.below (Nat.le_refl _) (Nat.le_of_lt hsw)))
            clear hsv3 hm3
            go_wp2
            go_roundw
            case rel => exact ⟨j + 1, by omega, by go_num, HSV3.out, HB3.out⟩
            case measure => simp [intOf]; omega
          · have hke : l.take j = l := List.take_of_length_le (by omega)
            have hsv := HSVj.out
            rw [hke] at hsv
            have HSVe := hd hsv
            clear hke hsv
            go_wp2
            go_ret
            refine Or.inr ⟨wr.heap.size, w.heap.size, HNO.out, rfl, ⟨alloc_at wr _, HSVe.out.below ((Below.refl _ _).alloc (Nat.le_refl _) _), Nat.le_refl _⟩, Below.alloc (B := w.heap.size) HBR.out (by omega) _⟩

end Go.Proofs.YtamkfbelpfpjcaaGreatDoor
