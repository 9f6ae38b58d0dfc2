import Derived.Lib.AppendIntMem
import Derived.Test.YtamkfbelpfpjcaaGreatDoorGf
import Derived.Test.YtamkfbelpfpjcaaGreatDoorGb
set_option linter.unusedVariables false
set_option linter.unusedSimpArgs false

namespace Go.Proofs.YtamkfbelpfpjcaaGreatDoor
open Go.RowKit

/-- Bytes in memory. -/
def BufAt (B : Nat) (w : World) (v : Value) (l : List UInt8) : Prop := w.ownsRow B 5 1 v l.length (l.map fun b => Value.int .u8 b.toNat)
theorem BufAt.below {B : Nat} {w w' : World} {v : Value} {l : List UInt8} (h : BufAt B w v l) (hb : Below w.heap.size w w') : BufAt B w' v l := ownsRow_below h hb
theorem BufAt.slice {B : Nat} {w : World} {v : Value} {l : List UInt8} (h : BufAt B w v l) : ∃ ao cap, v = .slice ao l.length cap := ownsRow_slice h

theorem Tryz.infoU8 : (Tryz.prog.info? 5).map (fun i => (i.zero, i.size, i.bytes)) = some (some (.int .u8 0), 1, 1) := by kernel_rfl

theorem bytes_back (w : World) (v : Value) (l : List UInt8) (B : Nat) (h : BufAt B w v l) : (convert 51 9 v).run Tryz.prog w = .ok (.string ⟨l.toArray⟩) w := by
  rcases Nat.eq_zero_or_pos l.length with h0 | h0
  · have hn : l = [] := by simpa using h0
    subst hn
    obtain ⟨ao, cap, rfl⟩ := h.slice
    refine (run_convert_bytes_string w 51 9 5 ao 0 cap Tryz.underlying51 Tryz.underlying5 Tryz.underlying9).trans ?_
    cases ao <;> simp [go_sem, loadCells, Conv.bytesToString] <;> rfl
  · obtain ⟨g, cap, rfl, _, hlt⟩ := World.ownsRow.form h h0
    refine run_convert_bytes_back w 51 9 5 ⟨g, 0, none⟩ cap l Tryz.underlying51 Tryz.underlying5 Tryz.underlying9 fun j hj => ?_
    exact World.ownsRow.cells h (g := g) rfl j _ (by simp [List.getElem?_eq_getElem hj])

/-- One byte behind. -/
theorem BufAt.snoc {B : Nat} {w1 : World} {v' : Value} {l : List UInt8} {b : UInt8} (h : w1.ownsRow B 5 1 v' (l.length + 1) ((l.map fun b => Value.int .u8 b.toNat) ++ [.int .u8 b.toNat])) : BufAt B w1 v' (l ++ [b]) := by
  unfold BufAt; simpa using h
theorem BufAt.more {B : Nat} {w1 : World} {v' : Value} {l : List UInt8} {s : ByteArray} (h : w1.ownsRow B 5 1 v' (l.length + s.size) ((l.map fun b => Value.int .u8 b.toNat) ++ Lib.strCells s)) : BufAt B w1 v' (l ++ s.data.toList) := by
  unfold BufAt
  rw [List.length_append, List.map_append, Array.length_toList]
  exact h

/-- A text behind the bytes. -/
theorem wpList_append_buf {ops : Array Oper} {rest : List Oper} {o : Oper} {a : Act} {Q : Exit → Act → World → Prop} {w : World} (hgd : o.guard = none) (sl x : Operand)
    (ho : o.op = .call { callee := .builtin .append, args := #[sl, x], argTypes := #[51, 9] }) (B : Nat) (v : Value) (l : List UInt8) (hs : a.eval sl = v) (hb : BufAt B w v l)
    (s : ByteArray) (hx : a.eval x = .string s) (h1 : l.length + s.size ≤ 100000000000) (hB : B ≤ w.heap.size)
    (h : ∀ v' w', BufAt B w' v' (l ++ s.data.toList) → Below B w w' → wpList Tryz.prog ops Q rest (a.put o.dst v') w') : wpList Tryz.prog ops Q (o :: rest) a w := by
  obtain ⟨i0, hi, hz0, hz1, hz2⟩ := info_parts Tryz.infoU8
  refine Lib.wpList_append_own_string _ hgd sl x 51 9 ho B 5 i0 Tryz.underlying51 Tryz.underlying9 hi hz0 hz1 hz2 v l.length _ hs hb s hx (by unfold maxLen; omega) (by omega) hB ?_
  intro v' w' ho' hg' _
  exact h v' w' (BufAt.more ho') (Tch.of_grown hg' (fun k hk => (World.ownsRow.lt hb k hk).1) hB)

theorem wpList_append_byte {ops : Array Oper} {rest : List Oper} {o : Oper} {a : Act} {Q : Exit → Act → World → Prop} {w : World} (hgd : o.guard = none) (sl x : Operand)
    (ho : o.op = .call { callee := .builtin .append, args := #[sl, x], argTypes := #[51, 51] }) (B : Nat) (v : Value) (l : List UInt8) (hs : a.eval sl = v) (hb : BufAt B w v l)
    (b : UInt8) (ad : Addr) (c : Nat) (hx : a.eval x = .slice (some ad) 1 c) (hc : w.cell? ad = some (.int .u8 b.toNat)) (h1 : l.length + 1 ≤ 100000000000) (hB : B ≤ w.heap.size)
    (h : ∀ v' w', BufAt B w' v' (l ++ [b]) → Below B w w' → wpList Tryz.prog ops Q rest (a.put o.dst v') w') : wpList Tryz.prog ops Q (o :: rest) a w := by
  obtain ⟨i0, hi, hz0, hz1, hz2⟩ := info_parts Tryz.infoU8
  refine wpList_append_lies _ hgd sl x 51 ho B 5 i0 _ 1 1 Tryz.underlying51 hi hz0 hz1 hz2 rfl (by decide) v l.length _ hs hb ad 1 c [.int .u8 b.toNat] hx rfl (by
    intro j u hu
    cases j with
    | zero =>
      rw [show ad.add 0 = ad from by unfold Addr.add; split <;> simp_all]
      simp at hu; subst hu; exact hc
    | succ j => simp at hu) (by intro u hu; simp at hu; subst hu; rfl) (by decide) (by unfold maxLen; omega) (by omega) hB _ rfl ?_
  intro g cap w' ho' hg' _ _
  exact h _ w' (BufAt.snoc ho') (Tch.of_grown hg' (fun k hk => (World.ownsRow.lt hb k hk).1) hB)


end Go.Proofs.YtamkfbelpfpjcaaGreatDoor

namespace Go.Proofs.YtamkfbelpfpjcaaGreatDoor
open Go.RowKit

theorem Sq.byte_nat (m : Int) : ((UInt8.ofNat (HMod.hMod m (256 : Int)).toNat).toNat : Int) = HMod.hMod m (256 : Int) := by
  rw [UInt8.toNat_ofNat']
  omega
theorem Sq.rev_drop (l : List UInt8) (k : Nat) (h : k < l.length) : (l.drop (k + 1)).reverse ++ [l[k]] = (l.drop k).reverse := by
  rw [List.drop_eq_getElem_cons h, List.reverse_cons]

theorem BufAt.at {B : Nat} {w : World} {v : Value} {l : List UInt8} (h : BufAt B w v l) (k : Nat) (hk : k < l.length) : ∃ g cap, v = .slice (some ⟨g, 0, none⟩) l.length cap ∧ g < w.heap.size ∧ w.cell? ⟨g, k, none⟩ = some (.int .u8 (l[k].toNat : Int)) := by
  obtain ⟨g, cap, rfl, _, hlt⟩ := World.ownsRow.form h (by omega)
  refine ⟨g, cap, rfl, hlt, ?_⟩
  have := World.ownsRow.cells h (g := g) rfl k (.int .u8 (l[k].toNat : Int)) (by simp [List.getElem?_eq_getElem hk])
  rwa [show (⟨g, 0, none⟩ : Addr).add k = ⟨g, k, none⟩ from by unfold Addr.add; split <;> simp_all] at this

set_option maxRecDepth 100000 in
set_option maxHeartbeats 1000000 in
theorem Number_any (n : Int) (bytes : Nat) (w : World) (hk : bytes ≤ 1000) :
    Calls Tryz.prog 65 #[.int .i64 n, .int .i64 bytes] w fun e w' => e = .returned (.string (Sq.pnum n bytes)) ∧ Below w.heap.size w w' := by
  go_enter Tryz.func65, Tryz.ntmps65
  go_wp2
  go_loopw [0, 5, 6] (fun x v i wr => ∃ k : Nat, ∃ m : Int, ∃ l : List UInt8, k ≤ bytes ∧ i = .int .i64 k ∧ x = .int .i64 m ∧ BufAt w.heap.size wr v l ∧ Hid (l.length = k) ∧ Hid (Sq.lowB bytes n = l ++ Sq.lowB (bytes - k) m) ∧ Below w.heap.size w wr) (fun _ _ i _ => bytes - (intOf i).toNat)
  case atStart => exact ⟨0, n, [], Nat.zero_le _, rfl, rfl, World.ownsRow_nil _ _ _ _, rfl, rfl, Below.refl _ _⟩
  case round =>
    obtain ⟨k, m, l, hk1, rfl, rfl, hbuf, hlen, hll, hb⟩ := hrel
    obtain ⟨wo, rfl⟩ : ∃ wo : World, wo = wr := ⟨_, rfl⟩
    obtain ⟨vo, vcap, rfl⟩ := hbuf.slice
    have hzw := hb.size
    have HB := hd hb
    have HBUF := hd hbuf
    have hl1 : l.length ≤ 1000 := by rw [hlen.out]; omega
    clear hb hbuf
    by_cases hlt : k < bytes
    · have HST : Hid (Sq.lowB bytes n = (l ++ [UInt8.ofNat (HMod.hMod m (256 : Int)).toNat]) ++ Sq.lowB (bytes - (k + 1)) (m / 256)) := by
        show _ = _
        rw [hll.out, show bytes - k = (bytes - (k + 1)) + 1 by omega, Sq.lowB, List.append_assoc]
        rfl
      have hbn := Sq.byte_nat m
      obtain ⟨b, hbb⟩ : ∃ b, b = UInt8.ofNat (HMod.hMod m (256 : Int)).toNat := ⟨_, rfl⟩
      have hst := HST.out
      rw [← hbb] at hst hbn
      have HST2 := hd hst
      have HBN := hd hbn
      have HLEN : Hid ((l ++ [b]).length = k + 1) := by show _ = _; rw [List.length_append, hlen.out]; rfl
      have HBA := hd (HBUF.out.below ((Below.refl _ _).alloc (Nat.le_refl _) (.cells #[.int .u8 (HMod.hMod m (256 : Int))] 5)))
      clear hst hbn hbb HST hll hlen
      go_wp2_with (at_builtin; refine wpList_append_byte rfl (.tmp 14) (.tmp 17) rfl w.heap.size _ l rfl HBA.out b ⟨wo.heap.size, 0, none⟩ 1 rfl (by rw [HBN.out]; simp [go_sem]) (by omega) (by simp; omega) ?_; intro v3 w3 hbuf3 hb3; have HBUF3 := hd hbuf3; have HB3 := hd hb3; clear hbuf3 hb3)
      go_roundw
      case rel => exact ⟨k + 1, m / 256, l ++ [b], by omega, by go_num, rfl, HBUF3.out, HLEN, HST2, HB.out.trans ((Below.mono (B' := w.heap.size) ((Below.refl _ _).alloc (Nat.le_refl _) _) hzw).trans HB3.out)⟩
      case measure => simp [intOf]; omega
    · have HST : Hid (Sq.lowB bytes n = l) := by
        show _ = _
        rw [hll.out, show bytes - k = 0 by omega, Sq.lowB, List.append_nil]
      clear hll hlen
      go_wp2
      go_loopw [7, 8] (fun v i wr => ∃ k : Nat, k ≤ l.length ∧ i = .int .i64 ((k : Int) - 1) ∧ BufAt wo.heap.size wr v (l.drop k).reverse ∧ Below wo.heap.size wo wr) (fun _ i _ => (intOf i + 1).toNat)
      case atStart => exact ⟨l.length, Nat.le_refl _, by go_num, by rw [List.drop_length]; exact World.ownsRow_nil _ _ _ _, Below.refl _ _⟩
      case round =>
        obtain ⟨j, hj, rfl, hb2, hb3⟩ := hrel
        obtain ⟨xo, xcap, rfl⟩ := hb2.slice
        have hz3 := hb3.size
        have HB2 := hd hb2
        have HB3 := hd hb3
        have hrl : (l.drop j).reverse.length ≤ 1000 := by simp; omega
        clear hb2 hb3
        by_cases hj0 : j = 0
        · subst hj0
          have HE : Hid ((⟨(l.drop 0).reverse.toArray⟩ : ByteArray) = Sq.pnum n bytes) := by show _ = _; unfold Sq.pnum; rw [HST.out]; rfl
          obtain ⟨dl, hdl⟩ : ∃ x, x = (l.drop 0).reverse := ⟨_, rfl⟩
          have hb2 := HB2.out
          have he := HE.out
          rw [← hdl] at hb2 he hrl ⊢
          have hcv := bytes_back _ _ _ _ hb2
          rw [he] at hcv
          have HCV := hd hcv
          clear hcv HE he hb2 HB2 hdl
          go_wp2
          rw [HCV.out]
          go_wp2
          go_ret
          exact ⟨rfl, HB.out.trans (HB3.out.mono hzw)⟩
        · obtain ⟨q, rfl⟩ : ∃ q, j = q + 1 := ⟨j - 1, by omega⟩
          obtain ⟨g, cap', hv, hg, c0⟩ := (HBUF.out.below HB3.out).at q (by omega)
          simp only [Value.slice.injEq] at hv
          obtain ⟨rfl, -, rfl⟩ := hv
          have HRD := hd (Sq.rev_drop l q (by omega))
          obtain ⟨b, hbb⟩ : ∃ b, b = l[q] := ⟨_, rfl⟩
          have hrd := HRD.out
          rw [← hbb] at hrd c0
          have HRD2 := hd hrd
          have i1 : ¬ ((l.length : Int) ≤ (q : Int)) := by omega
          have i2 : ((q + 1 : Nat) : Int) - 1 = (q : Int) := by omega
          obtain ⟨dl, hdl⟩ : ∃ x, x = (l.drop (q + 1)).reverse := ⟨_, rfl⟩
          have hb2 := HB2.out
          have hrd2 := HRD2.out
          rw [← hdl] at hb2 hrd2 hrl ⊢
          rw [i2]
          have HBA := hd (hb2.below ((Below.refl _ _).alloc (Nat.le_refl _) (.cells #[.int .u8 (b.toNat : Int)] 5)))
          have HRD3 := hd hrd2
          clear hrd HRD hrd2 HRD2 hbb hb2 HB2 hdl i2
          go_wp2_with (at_builtin; refine wpList_append_byte rfl (.tmp 28) (.tmp 33) rfl wo.heap.size _ dl rfl HBA.out b ⟨wr.heap.size, 0, none⟩ 1 rfl (by simp [go_sem]) (by omega) (by simp; omega) ?_; intro v3 w3 hbuf3 hb3; have HBUF3 := hd hbuf3; have HB4 := hd hb3; clear hbuf3 hb3)
          go_roundw
          case rel => exact ⟨q, by omega, by go_num, by rw [← HRD3.out]; exact HBUF3.out, HB3.out.trans ((Below.mono (B' := wo.heap.size) ((Below.refl _ _).alloc (Nat.le_refl _) _) hz3).trans HB4.out)⟩
          case measure => simp [intOf]

set_option maxRecDepth 100000 in
set_option maxHeartbeats 400000 in
theorem Text_any (t : ByteArray) (w : World) (hs : t.size ≤ 1000000) :
    Calls Tryz.prog 67 #[.string t] w fun e w' => e = .returned (.string (Sq.txt t)) ∧ Below w.heap.size w w' := by
  have hn := Sq.pnum_size t.size 1
  have HE : Hid (Sq.txt t = Sq.pnum t.size 1 ++ t) := rfl
  go_enter Tryz.func67, Tryz.ntmps67
  go_wp2_with fail
  refine (Number_any t.size 1 _ (by omega)).mono ?_
  rintro e w2 ⟨rfl, hb2⟩
  obtain ⟨p, hp⟩ : ∃ x, x = Sq.pnum t.size 1 := ⟨_, rfl⟩
  have he := HE.out
  rw [← hp] at hn he ⊢
  have HE2 := hd he
  clear hp he HE
  go_wp2
  go_ret
  exact ⟨by rw [HE2.out]; rfl, hb2⟩

end Go.Proofs.YtamkfbelpfpjcaaGreatDoor
