import Derived.Test.YteibbdilhpdknaaGreatDoorCe
import Derived.Test.YteibbdilhpdknaaGreatDoorCj
set_option linter.unusedVariables false
set_option linter.unusedSimpArgs false

namespace Go.Proofs.YteibbdilhpdknaaGreatDoor
open Go.RowKit

theorem own_fresh (w : World) (e : TypeId) (n : Nat) (cs : Array Value) (h : cs.size = n) (hn : n ≤ 1000) : (w.alloc (.cells cs e)).ownsRow w.heap.size e 1 (.slice (some ⟨w.heap.size, 0, none⟩) n n) n cs.toList := by
  refine ⟨by simpa using h, Or.inr ⟨w.heap.size, n, cs, rfl, Nat.le_refl _, heap_alloc_new w _, Nat.le_refl _, by unfold maxLen; omega, by omega, ?_⟩⟩
  exact List.take_of_length_le (by simp [h])
theorem u8_nat (n : Nat) (h : n < 256) : (UInt8.ofNat n).toNat = n := by rw [UInt8.toNat_ofNat']; omega
set_option maxRecDepth 100000 in
set_option maxHeartbeats 1000000 in
theorem digits_any (n : Nat) (w : World) (hn : n < 100) :
    Calls Tryz.prog 26 #[.int .i64 n] w fun e w' => e = .returned (.string (Sq.dg n)) ∧ Below w.heap.size w w' := by
  by_cases h : n < 10
  · have HE : Hid (Sq.dg n = ⟨[UInt8.ofNat (48 + n)].toArray⟩) := by show _ = _; unfold Sq.dg; rw [Lib.decDigits_one h]
    have hbuf : BufAt w.heap.size (w.alloc (.cells #[.int .u8 (48 + (n : Int))] 5)) (.slice (some ⟨w.heap.size, 0, none⟩) 1 1) [UInt8.ofNat (48 + n)] := by
      have h1 := own_fresh w 5 1 #[.int .u8 (48 + (n : Int))] rfl (by omega)
      unfold BufAt
      simp only [List.map_cons, List.map_nil, u8_nat (48 + n) (by omega), List.length_cons, List.length_nil]
      rw [show ((48 + n : Nat) : Int) = 48 + (n : Int) by omega]
      exact h1
    have hcv := bytes_back _ _ _ _ hbuf
    rw [← HE.out] at hcv
    have HCV := hd hcv
    clear hbuf hcv
    go_enter Tryz.func26, Tryz.ntmps26
    go_wp2
    rw [HCV.out]
    go_wp2
    go_ret
    exact ⟨rfl, (Below.refl _ _).alloc (Nat.le_refl _) _⟩
  · have HE : Hid (Sq.dg n = ⟨[UInt8.ofNat (48 + n / 10), UInt8.ofNat (48 + (HMod.hMod n 10 : Nat))].toArray⟩) := by show _ = _; unfold Sq.dg; rw [Lib.decDigits_two h hn]
    have hbuf : BufAt w.heap.size (w.alloc (.cells #[.int .u8 (48 + (n : Int) / 10), .int .u8 ((48 : Int) + HMod.hMod (n : Int) (10 : Int))] 5)) (.slice (some ⟨w.heap.size, 0, none⟩) 2 2) [UInt8.ofNat (48 + n / 10), UInt8.ofNat (48 + (HMod.hMod n 10 : Nat))] := by
      have h1 := own_fresh w 5 2 #[.int .u8 (48 + (n : Int) / 10), .int .u8 ((48 : Int) + HMod.hMod (n : Int) (10 : Int))] rfl (by omega)
      unfold BufAt
      simp only [List.map_cons, List.map_nil, u8_nat (48 + n / 10) (by omega), u8_nat (48 + (HMod.hMod n 10 : Nat)) (by omega), List.length_cons, List.length_nil]
      rw [show ((48 + n / 10 : Nat) : Int) = 48 + (n : Int) / 10 by omega, show ((48 + (HMod.hMod n 10 : Nat) : Nat) : Int) = (48 : Int) + HMod.hMod (n : Int) (10 : Int) by omega]
      exact h1
    have hcv := bytes_back _ _ _ _ hbuf
    rw [← HE.out] at hcv
    have HCV := hd hcv
    clear hbuf hcv
    go_enter Tryz.func26, Tryz.ntmps26
    go_wp2
    rw [HCV.out]
    go_wp2
    go_ret
    exact ⟨rfl, (Below.refl _ _).alloc (Nat.le_refl _) _⟩

end Go.Proofs.YteibbdilhpdknaaGreatDoor

namespace Go.Proofs.YteibbdilhpdknaaGreatDoor
open Go.RowKit

theorem loop_eq (bs : ByteArray) : ∀ (n i : Nat) (r : List UInt8), bs.size - i = n → ByteArray.toList.loop bs i r = r.reverse ++ bs.data.toList.drop i := by
  intro n
  induction n with
  | zero =>
    intro i r h
    unfold ByteArray.toList.loop
    rw [if_neg (by omega), List.drop_eq_nil_of_le (by simp; omega)]
    simp
  | succ n ih =>
    intro i r h
    unfold ByteArray.toList.loop
    have hi : i < bs.data.toList.length := by simp; omega
    rw [if_pos (by omega), ih (i + 1) _ (by omega), List.drop_eq_getElem_cons hi]
    have : bs.get! i = bs.data.toList[i] := by
      unfold ByteArray.get!
      simp at hi
      simp [hi]
    rw [this]
    simp
theorem ba_toList (b : ByteArray) : b.toList = b.data.toList := by
  show ByteArray.toList.loop b 0 [] = _
  rw [loop_eq b _ 0 [] rfl]; simp
theorem ref_ne (r : ByteArray) (h : Sq.isRef r) : (r.toList == [48, 59]) = false := by
  obtain ⟨e, h⟩ := h
  rw [ba_toList, h]
  simp

/-- An answer in memory. -/
def Ans (w : World) (b : Nat) (r : ByteArray) : Prop := w.heap[b]? = some (.cells #[.string r, .string Sq.nobytes, .string Sq.nobytes] 34)
theorem Ans.frm {sb b : Nat} {w w' : World} {r : ByteArray} (h : Ans w b r) (hf : Frm sb w w') : Ans w' b r := (hf.other b _ _ _ h (by decide) (by decide)).trans h
theorem Ans.alloc {b : Nat} {w : World} {r : ByteArray} (h : Ans w b r) (o : Obj) : Ans (w.alloc o) b r := (alloc_lt (lt_blk h) o).trans h
theorem Ans.new (w : World) (r : ByteArray) : Ans (w.alloc (.cells #[.string r, .string Sq.nobytes, .string Sq.nobytes] 34)) w.heap.size r := heap_alloc_new w _
theorem Ans.cell {b : Nat} {w : World} {r : ByteArray} (h : Ans w b r) : w.cell? ⟨b, 0, none⟩ = some (.string r) ∧ b < w.heap.size := ⟨by rw [cell_blk h]; rfl, lt_blk h⟩
theorem Ans.cells {b : Nat} {w : World} {r : ByteArray} (h : Ans w b r) : w.cell? ⟨b, 1, none⟩ = some (.string Sq.nobytes) ∧ w.cell? ⟨b, 2, none⟩ = some (.string Sq.nobytes) ∧ w.frozen? ⟨b, 0, none⟩ = false ∧ w.frozen? ⟨b, 1, none⟩ = false ∧ w.frozen? ⟨b, 2, none⟩ = false :=
  ⟨by rw [cell_blk h]; rfl, by rw [cell_blk h]; rfl, frozen_blk h _, frozen_blk h _, frozen_blk h _⟩
theorem Ans.set {b : Nat} {w : World} {r : ByteArray} (h : Ans w b r) (r' : ByteArray) : Ans (((w.setCell ⟨b, 0, none⟩ (.string r')).setCell ⟨b, 1, none⟩ (.string Sq.nobytes)).setCell ⟨b, 2, none⟩ (.string Sq.nobytes)) b r' := by
  unfold Ans
  rw [heap_set_same (heap_set_same (heap_set_same h _) _) _]
  rfl
/-- A server within a World, alive; the first world beneath. -/
structure LiveB (w0 w : World) (wb sb : Nat) (db : List Sq.Tab) : Prop where
  blk : w.heap[wb]? = some (.cells #[.pointer (some ⟨sb, 0, none⟩), .int .i64 32] 47)
  here : DB sb w db
  good : Sq.good db
  bs : Bs w0 sb w
theorem LiveB.cell {w0 w : World} {wb sb : Nat} {db : List Sq.Tab} (h : LiveB w0 w wb sb db) : w.cell? ⟨wb, 0, none⟩ = some (.pointer (some ⟨sb, 0, none⟩)) ∧ wb < w.heap.size := ⟨by rw [cell_blk h.blk]; rfl, lt_blk h.blk⟩
theorem LiveB.below {w0 w w' : World} {wb sb : Nat} {db : List Sq.Tab} (h : LiveB w0 w wb sb db) (hb : Below w.heap.size w w') : LiveB w0 w' wb sb db := ⟨(hb.block wb (lt_blk h.blk)).trans h.blk, h.here.below hb, h.good, h.bs.step hb⟩
theorem LiveB.alloc {w0 w : World} {wb sb : Nat} {db : List Sq.Tab} (h : LiveB w0 w wb sb db) (o : Obj) : LiveB w0 (w.alloc o) wb sb db := h.below ((Below.refl _ _).alloc (Nat.le_refl _) _)
theorem LiveB.set {w0 w : World} {wb sb b : Nat} {db : List Sq.Tab} {r : ByteArray} (h : LiveB w0 w wb sb db) (ha : Ans w b r) (hb : sb ≤ b) (x y z : Value) : LiveB w0 (((w.setCell ⟨b, 0, none⟩ x).setCell ⟨b, 1, none⟩ y).setCell ⟨b, 2, none⟩ z) wb sb db := by
  have hne : wb ≠ b := fun e => by
    subst e
    have h1 := h.blk
    unfold Ans at ha
    rw [ha] at h1
    simp at h1
  refine ⟨(three_other hne _ _ _ _ _ _).trans h.blk, h.here.out ha (fun g hg => three_other hg _ _ _ _ _ _), h.good, ⟨h.bs.tbl, h.bs.le, three_set h.bs.below (Nat.le_trans h.bs.le hb) _ _ _⟩⟩
theorem lrunB (w0 : World) (wb sb : Nat) (db : List Sq.Tab) (sql : ByteArray) (w : World) (h : LiveB w0 w wb sb db) :
    Calls Tryz.prog 15 #[.pointer (some ⟨sb, 0, none⟩), .string sql] w fun e w' => e = .returned (answer (Sq.decide db sql).reply) ∧ LiveB w0 w' wb sb (Sq.after db sql) ∧ Frm sb w w' := by
  refine (Run_any sb db sql w h.here h.good h.bs.t).mono ?_
  rintro e w' ⟨rfl, hdb, hf⟩
  exact ⟨rfl, ⟨(hf.other wb _ _ _ h.blk (by decide) (by decide)).trans h.blk, hdb, Sq.good_after h.good sql, h.bs.frm hf⟩, hf⟩
theorem lpeekB (w0 : World) (wb sb : Nat) (db : List Sq.Tab) (sql : ByteArray) (w : World) (h : LiveB w0 w wb sb db) :
    Calls Tryz.prog 21 #[.pointer (some ⟨sb, 0, none⟩), .string sql] w fun e w' => e = .returned (answer (Sq.decide db sql).reply) ∧ LiveB w0 w' wb sb db ∧ Frm sb w w' := by
  refine (Peek_any sb db sql w h.here h.good h.bs.t).mono ?_
  rintro e w' ⟨rfl, hb⟩
  exact ⟨rfl, h.below hb, Frm.of_below hb (Nat.le_of_lt h.here.lt)⟩

theorem Sq.e_ins (k x : Nat) : (⟨#[105, 110, 115, 101, 114, 116, 32, 105, 110, 116, 111, 32, 122, 122, 32, 118, 97, 108, 117, 101, 115, 32, 40]⟩ : ByteArray) ++ Sq.dg k ++ (⟨#[44, 32]⟩ : ByteArray) ++ Sq.dg x ++ (⟨#[41]⟩ : ByteArray) = Sq.lins k x := by
  apply Sq.bytes_ext
  rw [Sq.append_list, Sq.append_list, Sq.append_list, Sq.append_list]
  show (((Sq.pIns ++ Lib.decDigits k) ++ [44, 32]) ++ Lib.decDigits x) ++ [41] = Sq.pIns ++ (Lib.decDigits k ++ ([44, 32] ++ (Lib.decDigits x ++ [41])))
  simp
theorem Sq.e_ins1 (k : Nat) : (⟨#[105, 110, 115, 101, 114, 116, 32, 105, 110, 116, 111, 32, 122, 122, 32, 118, 97, 108, 117, 101, 115, 32, 40]⟩ : ByteArray) ++ Sq.dg k ++ (⟨#[44, 32, 49, 41]⟩ : ByteArray) = Sq.tx Sq.pIns k [44, 32, 49, 41] := by
  apply Sq.bytes_ext
  rw [Sq.append_list, Sq.append_list]
  show (Sq.pIns ++ Lib.decDigits k) ++ [44, 32, 49, 41] = Sq.pIns ++ (Lib.decDigits k ++ [44, 32, 49, 41])
  simp
theorem Sq.e_sel (k : Nat) : (⟨#[115, 101, 108, 101, 99, 116, 32, 118, 44, 32, 105, 100, 32, 102, 114, 111, 109, 32, 122, 122, 32, 119, 104, 101, 114, 101, 32, 105, 100, 32, 61, 32]⟩ : ByteArray) ++ Sq.dg k = Sq.tx Sq.pSel k [] := by
  apply Sq.bytes_ext
  rw [Sq.append_list]
  show Sq.pSel ++ Lib.decDigits k = Sq.pSel ++ (Lib.decDigits k ++ [])
  simp
theorem Sq.e_ne (k : Nat) : (⟨#[115, 101, 108, 101, 99, 116, 32, 42, 32, 102, 114, 111, 109, 32, 122, 122, 32, 119, 104, 101, 114, 101, 32, 105, 100, 32, 60, 62, 32]⟩ : ByteArray) ++ Sq.dg k = Sq.tx Sq.pNe k [] := by
  apply Sq.bytes_ext
  rw [Sq.append_list]
  show Sq.pNe ++ Lib.decDigits k = Sq.pNe ++ (Lib.decDigits k ++ [])
  simp
theorem Sq.e_upd (k : Nat) : (⟨#[117, 112, 100, 97, 116, 101, 32, 122, 122, 32, 115, 101, 116, 32, 118, 32, 61, 32, 118, 32, 45, 32, 105, 100, 32, 119, 104, 101, 114, 101, 32, 105, 100, 32, 62, 61, 32]⟩ : ByteArray) ++ Sq.dg k = Sq.tx Sq.pUpd k [] := by
  apply Sq.bytes_ext
  rw [Sq.append_list]
  show Sq.pUpd ++ Lib.decDigits k = Sq.pUpd ++ (Lib.decDigits k ++ [])
  simp
theorem Sq.e_rep (k x : Nat) (r : ByteArray) (h : r.data.toList = Lib.decDigits x ++ (44 :: (Lib.decDigits k ++ [59]))) : r = Sq.dg x ++ (⟨#[44]⟩ : ByteArray) ++ Sq.dg k ++ (⟨#[59]⟩ : ByteArray) := by
  apply Sq.bytes_ext
  rw [Sq.append_list, Sq.append_list, Sq.append_list, h]
  show _ = ((Lib.decDigits x ++ [44]) ++ Lib.decDigits k) ++ [59]
  simp
theorem Sq.dg_size (k : Nat) (h : k < 100) : (Sq.dg k).size ≤ 14 := by
  rw [Sq.size_list]
  show (Lib.decDigits k).length ≤ 14
  rw [Lib.decDigits_length]
  exact Sq.nDigits_mono_small k (by omega)

set_option maxRecDepth 100000 in
set_option maxHeartbeats 8000000 in
theorem laid_any (v : Value) (l : List ByteArray) (key vv : Int) (w : World) (h : Strs w v l) (hk0 : -9223372036854775808 ≤ key) (hk1 : key ≤ 9223372036854775807) (hv0 : -9223372036854775808 ≤ vv) (hv1 : vv ≤ 9223372036854775807) (hT : Tbl w) :
    Calls Tryz.prog 10 #[v, .int .i64 key, .int .i64 vv] w fun e w' => e = .returned (.bool true) ∧ Below w.heap.size w w' := by
  have HS := hd h
  have HT := hd hT
  have hpk := Sq.pick_bd key 100 (by decide)
  obtain ⟨kk, hkk⟩ := Int.eq_ofNat_of_zero_le hpk.1
  have hk100 : kk < 100 := by omega
  have hpv := Sq.pick_bd vv 100 (by decide)
  obtain ⟨xx, hxx⟩ := Int.eq_ofNat_of_zero_le hpv.1
  have hx100 : xx < 100 := by omega
  have HKK := hd hkk
  have HXX := hd hxx
  have hdk := Sq.dg_size kk hk100
  have hdx := Sq.dg_size xx hx100
  clear h hT hpk hkk hpv hxx
  go_enter Tryz.func10, Tryz.ntmps10
  go_wp2_with fail
  refine (awake_any w HT.out).mono ?_
  rintro e w1 ⟨rfl, hb1⟩
  have hz1 := hb1.size
  have HB1 := hd hb1
  have HS1 := hd (HS.out.below hb1 (Nat.le_refl _))
  have HT1 := hd (HT.out.below hb1)
  clear hb1
  go_wp2_with fail
  refine (world_any l v w1 HS1.out HT1.out).mono ?_
  rintro e w2 (⟨hbig, rfl, hw2⟩ | ⟨wb, sb, hno, rfl, hW, hb2⟩)
  · subst hw2
    have HBG := hd hbig
    clear hbig
    go_wp2_with fail
    refine (none_any l v _ HS1.out).mono ?_
    rintro e w3 ⟨rfl, hw3⟩
    rw [hw3, HBG.out]
    clear hw3 w3
    go_wp2
    go_ret
    exact ⟨rfl, HB1.out⟩
  · have hlive : LiveB w w2 wb sb (Sq.afterAll [] l) := ⟨hW.blk, hW.db, Sq.good_afterAll _ Sq.good_nil, ⟨HT.out, Nat.le_trans hz1 hW.le, HB1.out.trans (hb2.mono hz1)⟩⟩
    obtain ⟨db, hdb⟩ : ∃ x, x = Sq.afterAll [] l := ⟨_, rfl⟩
    rw [← hdb] at hlive
    have HL2 := hd hlive
    obtain ⟨p2, l2⟩ := hlive.cell
    have hcz := Sq.create_zz db
    have HCZ := hd hcz
    clear hno hW hb2 hlive hdb hcz
    go_wp2_with fail
    refine (lrunB w wb sb db Sq.lcreate w2 HL2.out).mono ?_
    rintro e w3 ⟨rfl, hL3, hf3⟩
    have hsz3 := Sq.reply_size HL2.out.good Sq.lcreate
    rcases HCZ.out with hr | ⟨hr, haf, hft⟩
    · have hne := ref_ne _ hr
      have hbg : Sq.bang (Sq.decide db Sq.lcreate).reply = true := (Sq.bang_iff _).2 hr.bang
      obtain ⟨r0, hr0⟩ : ∃ x, x = (Sq.decide db Sq.lcreate).reply := ⟨_, rfl⟩
      rw [← hr0] at hne hbg hsz3
      rw [← hr0]
      have HBG := hd hbg
      have HB3 := hd hL3.bs.below
      have hz3 := hL3.bs.below.size
      clear hr hr0 hL3 hf3 HCZ hbg
      unfold answer
      go_wp2_with fail
      refine (krefused_any r0 _ (by omega)).mono ?_
      rintro e w' ⟨rfl, hw'⟩
      rw [hw', HBG.out]
      clear hw' w'
      go_wp2
      go_ret
      exact ⟨rfl, Below.alloc (B := w.heap.size) HB3.out hz3 _⟩
    · rw [haf] at hL3
      rw [hr]
      unfold answer
      have LS := Sq.laid_said hft kk xx hk100 hx100
      have HLS := hd LS
      have HL3 := hd hL3
      have hs3 := hL3.here.lt
      have hz3 := hL3.bs.below.size
      obtain ⟨p3, l3⟩ := hL3.cell
      clear hr haf hft hL3 hf3 HCZ LS hsz3 p2
      go_wp2_with (go_at_call 12; refine (kpick_any key 100 _ hk0 hk1 (by decide) (by decide)).mono ?_; rintro e w' ⟨rfl, hw'⟩; rw [hw', HKK.out]; clear hw' w')
      refine (digits_any kk _ hk100).mono ?_
      rintro e w4 ⟨rfl, hb4⟩
      have HL4 := hd ((HL3.out.alloc _).below hb4)
      have HA4 := hd ((Ans.new w3 (⟨#[48, 59]⟩ : ByteArray)).frm (Frm.of_below (sb := sb) hb4 (by simp; omega)))
      have hz4 := hb4.size
      simp at hz4
      clear hb4 p3
      go_wp2_with (go_at_call 12; refine (kpick_any vv 100 _ hv0 hv1 (by decide) (by decide)).mono ?_; rintro e w' ⟨rfl, hw'⟩; rw [hw', HXX.out]; clear hw' w')
      refine (digits_any xx _ hx100).mono ?_
      rintro e w5 ⟨rfl, hb5⟩
      have HL5 := hd (HL4.out.below hb5)
      have HA5 := hd (HA4.out.frm (Frm.of_below (sb := sb) hb5 (by omega)))
      have hz5 := hb5.size
      obtain ⟨p5, l5⟩ := HL5.out.cell
      clear hb5
      go_wp2_with fail
      refine (lrunB w wb sb _ _ w5 HL5.out).mono ?_
      rintro e w6 ⟨rfl, hL6, hf6⟩
      rw [Sq.e_ins kk xx] at hL6
      rw [Sq.e_ins kk xx]
      have HA6 := hd (HA5.out.frm hf6)
      obtain ⟨c60, l60⟩ := HA6.out.cell
      obtain ⟨c61, c62, f60, f61, f62⟩ := HA6.out.cells
      have hs6 := hL6.here.lt
      have HB6 := hd hL6.bs.below
      have hz6 := hL6.bs.below.size
      rcases HLS.out.ins with hr | ⟨hr, haf⟩
      · rw [hr]
        unfold answer
        clear hr hL6 hf6 p5
        go_wp2
        go_ret
        exact ⟨rfl, three_set HB6.out (by omega) _ _ _⟩
      · rw [haf] at hL6
        rw [hr]
        unfold answer
        have HL7 := hd (hL6.set HA6.out (by omega) (.string (⟨#[49, 59]⟩ : ByteArray)) (.string Sq.nobytes) (.string Sq.nobytes))
        have HA7 := hd (HA6.out.set (⟨#[49, 59]⟩ : ByteArray))
        have p6 := hL6.cell.1
        have l6 := hL6.cell.2
        clear hr haf hL6 hf6 p5 HB6
        go_wp2_with fail
        refine (lrunB w wb sb _ _ _ HL7.out).mono ?_
        rintro e w8 ⟨rfl, hL8, hf8⟩
        rw [Sq.e_ins1 kk, HLS.out.ins1.2] at hL8
        rw [Sq.e_ins1 kk, HLS.out.ins1.1]
        unfold answer
        have HA8 := hd (HA7.out.frm hf8)
        obtain ⟨c80, l80⟩ := HA8.out.cell
        obtain ⟨c81, c82, f80, f81, f82⟩ := HA8.out.cells
        have hs8 := hL8.here.lt
        have HL9 := hd (hL8.set HA8.out (by omega) (.string (⟨#[33, 56]⟩ : ByteArray)) (.string Sq.nobytes) (.string Sq.nobytes))
        have HA9 := hd (HA8.out.set (⟨#[33, 56]⟩ : ByteArray))
        have p8 := hL8.cell.1
        have l8 := hL8.cell.2
        clear hL8 hf8 p6 c60 c61 c62 f60 f61 f62 HA6 HA7 HA8 HL7
        go_wp2_with fail
        refine (lpeekB w wb sb _ _ _ HL9.out).mono ?_
        rintro e w10 ⟨rfl, hL10, hf10⟩
        rw [Sq.e_sel kk]
        have hrp := Sq.e_rep kk xx _ HLS.out.sel
        rw [hrp]
        obtain ⟨rb, hrb⟩ : ∃ x, x = Sq.dg xx ++ (⟨#[44]⟩ : ByteArray) ++ Sq.dg kk ++ (⟨#[59]⟩ : ByteArray) := ⟨_, rfl⟩
        rw [← hrb]
        unfold answer
        have HRB := hd hrb
        have HA10 := hd (HA9.out.frm hf10)
        have HL10 := hd hL10
        obtain ⟨p10, l10⟩ := hL10.cell
        have hs10 := hL10.here.lt
        clear hL10 hf10 p8 c80 c81 c82 f80 f81 f82 HA9 HL9 hrp hrb
        go_wp2_with fail
        refine (lpeekB w wb sb _ _ _ (HL10.out.alloc _)).mono ?_
        rintro e w11 ⟨rfl, hL11, hf11⟩
        rw [Sq.e_ne kk, HLS.out.ne]
        unfold answer
        have HA11 := hd ((HA10.out.alloc _).frm hf11)
        have HC11 := hd ((Ans.new w10 rb).frm hf11)
        have HL11 := hd hL11
        obtain ⟨p11, l11⟩ := hL11.cell
        have hs11 := hL11.here.lt
        clear hL11 hf11 p10 HA10
        go_wp2_with fail
        refine (lrunB w wb sb _ _ _ (HL11.out.alloc _)).mono ?_
        rintro e w12 ⟨rfl, hL12, hf12⟩
        rw [Sq.e_upd kk, HLS.out.upd.2] at hL12
        rw [Sq.e_upd kk, HLS.out.upd.1]
        unfold answer
        have HA12 := hd ((HA11.out.alloc _).frm hf12)
        have HC12 := hd ((HC11.out.alloc _).frm hf12)
        have HD12 := hd ((Ans.new w11 (⟨#[]⟩ : ByteArray)).frm hf12)
        have HL12 := hd hL12
        obtain ⟨p12, l12⟩ := hL12.cell
        have hs12 := hL12.here.lt
        clear hL12 hf12 p11 HA11 HC11
        go_wp2_with fail
        refine (lpeekB w wb sb _ Sq.lsum _ (HL12.out.alloc _)).mono ?_
        rintro e w13 ⟨rfl, hL13, hf13⟩
        have hnum := HLS.out.sum
        have hrs := Sq.reply_size hL13.good Sq.lsum
        obtain ⟨rs, hrs0⟩ : ∃ x, x = (Sq.decide (db ++ [Sq.zz [Sq.rw2 kk ((xx : Int) - kk)]]) Sq.lsum).reply := ⟨_, rfl⟩
        rw [← hrs0] at hnum hrs
        rw [← hrs0]
        unfold answer
        have HNUM := hd hnum
        have HA13 := hd ((HA12.out.alloc _).frm hf13)
        have HC13 := hd ((HC12.out.alloc _).frm hf13)
        have HD13 := hd ((HD12.out.alloc _).frm hf13)
        have HE13 := hd ((Ans.new w12 (⟨#[49, 59]⟩ : ByteArray)).frm hf13)
        have HL13 := hd hL13
        obtain ⟨p13, l13⟩ := hL13.cell
        have hs13 := hL13.here.lt
        clear hL13 hf13 p12 HA12 HC12 HD12 hnum hrs0
        go_wp2_with fail
        refine (number_any rs _ (by omega)).mono ?_
        rintro e w' ⟨rfl, hw'⟩
        rw [hw', HNUM.out]
        clear hw' w'
        go_wp2_with fail
        refine (lrunB w wb sb _ Sq.ldel _ (HL13.out.alloc _)).mono ?_
        rintro e w14 ⟨rfl, hL14, hf14⟩
        rw [HLS.out.del.2] at hL14
        rw [HLS.out.del.1]
        unfold answer
        have HA14 := hd ((HA13.out.alloc _).frm hf14)
        have HC14 := hd ((HC13.out.alloc _).frm hf14)
        have HD14 := hd ((HD13.out.alloc _).frm hf14)
        have HE14 := hd ((HE13.out.alloc _).frm hf14)
        have HL14 := hd hL14
        obtain ⟨p14, l14⟩ := hL14.cell
        have hs14 := hL14.here.lt
        clear hL14 hf14 p13 HA13 HC13 HD13 HE13
        go_wp2_with fail
        refine (lpeekB w wb sb _ Sq.lcnt _ (HL14.out.alloc _)).mono ?_
        rintro e w15 ⟨rfl, hL15, hf15⟩
        rw [HLS.out.cnt]
        unfold answer
        have HB15 := hd hL15.bs.below
        have hz15 := hL15.bs.below.size
        obtain ⟨a0, la⟩ := ((HA14.out.alloc _).frm hf15).cell
        obtain ⟨b0, lb⟩ := ((HC14.out.alloc _).frm hf15).cell
        obtain ⟨c0, lc⟩ := ((HD14.out.alloc _).frm hf15).cell
        obtain ⟨d0, ld⟩ := ((HE14.out.alloc _).frm hf15).cell
        obtain ⟨g0, lg⟩ := ((Ans.new w14 (⟨#[49, 59]⟩ : ByteArray)).frm hf15).cell
        rw [HRB.out] at b0
        clear hL15 hf15 p14 HA14 HC14 HD14 HE14 HLS
        go_wp2_with fail
        refine (kpick_any vv 100 _ hv0 hv1 (by decide) (by decide)).mono ?_
        rintro e w' ⟨rfl, hw'⟩
        rw [hw', HXX.out]
        clear hw' w'
        go_wp2_with fail
        refine (kpick_any key 100 _ hk0 hk1 (by decide) (by decide)).mono ?_
        rintro e w' ⟨rfl, hw'⟩
        rw [hw', HKK.out]
        clear hw' w'
        go_wp2
        go_ret
        exact ⟨rfl, Below.alloc (B := w.heap.size) HB15.out hz15 _⟩

end Go.Proofs.YteibbdilhpdknaaGreatDoor
