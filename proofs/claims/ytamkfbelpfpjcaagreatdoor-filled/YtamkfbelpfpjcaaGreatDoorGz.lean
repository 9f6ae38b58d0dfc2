import Derived.Laws.BitsAllLaws
import Derived.Test.YtamkfbelpfpjcaaGreatDoorGg
set_option linter.unusedVariables false
set_option linter.unusedSimpArgs false

namespace Go.Proofs.YtamkfbelpfpjcaaGreatDoor
open Go.RowKit

/-- The reader lies in block b. -/
def RdAt (b : Nat) (w : World) (r : Sq.Rd) : Prop := w.heap[b]? = some (.cells #[.string r.rest, .bool r.short] 130)
/-- Nothing but block b has turned. -/
structure Only (b : Nat) (w w' : World) : Prop where
  below : Below b w w'
  other : ∀ g, g ≠ b → w'.heap[g]? = w.heap[g]?
theorem Only.refl (b : Nat) (w : World) : Only b w w := ⟨Below.refl _ _, fun _ _ => rfl⟩
theorem Only.trans {b : Nat} {w w1 w2 : World} (h : Only b w w1) (k : Only b w1 w2) : Only b w w2 := ⟨h.below.trans k.below, fun g hg => (k.other g hg).trans (h.other g hg)⟩
theorem Only.set {b : Nat} {w : World} (o : Nat) (x : Value) : Only b w (w.setCell ⟨b, o, none⟩ x) := ⟨Below.setCell (B := b) (Below.refl _ _) (Nat.le_refl _) _, fun _ hg => heap_set_other hg⟩

theorem rd_short {b : Nat} {w : World} {r : Sq.Rd} (h : RdAt b w r) : RdAt b (w.setCell ⟨b, 1, none⟩ (.bool true)) ⟨r.rest, true⟩ := by
  unfold RdAt at h ⊢
  rw [heap_set_same h]
  rfl
theorem rd_rest {b : Nat} {w : World} {r : Sq.Rd} (h : RdAt b w r) (s : ByteArray) : RdAt b (w.setCell ⟨b, 0, none⟩ (.string s)) ⟨s, r.short⟩ := by
  unfold RdAt at h ⊢
  rw [heap_set_same h]
  rfl

set_option maxRecDepth 100000 in
set_option maxHeartbeats 1000000 in
theorem Take_any (b : Nat) (r : Sq.Rd) (k : Int) (w : World) (h : RdAt b w r) (hs : r.rest.size ≤ 1000000) :
    Calls Tryz.prog 129 #[.pointer (some ⟨b, 0, none⟩), .int .i64 k] w fun e w' => e = .returned (.string (Sq.takeV r k)) ∧ RdAt b w' (Sq.takeN r k) ∧ Only b w w' := by
  obtain ⟨s, sh⟩ := r
  have c0 : w.cell? ⟨b, 0, none⟩ = some (.string s) := by rw [cell_blk h]; rfl
  have c1 : w.cell? ⟨b, 1, none⟩ = some (.bool sh) := by rw [cell_blk h]; rfl
  have f0 := frozen_blk h 0
  have f1 := frozen_blk h 1
  have hz := lt_blk h
  have H := hd h
  simp only at hs
  clear h
  by_cases h1 : k < 0
  · have HE : Hid (Sq.takeBad ⟨s, sh⟩ k = true) := by show _ = _; unfold Sq.takeBad; simp [h1]
    have i1 : decide (k < 0) = true := by simpa using h1
    go_enter Tryz.func129, Tryz.ntmps129
    go_wp2
    go_ret
    refine ⟨by unfold Sq.takeV; rw [HE.out]; rfl, ?_, Only.set _ _⟩
    unfold Sq.takeN
    rw [HE.out]
    exact rd_short H.out
  · have i1 : decide (k < 0) = false := by simpa using h1
    by_cases h2 : (s.size : Int) < k
    · have HE : Hid (Sq.takeBad ⟨s, sh⟩ k = true) := by show _ = _; unfold Sq.takeBad; simp [h2]
      have i2 : decide ((s.size : Int) < k) = true := by simpa using h2
      go_enter Tryz.func129, Tryz.ntmps129
      go_wp2
      go_ret
      refine ⟨by unfold Sq.takeV; rw [HE.out]; rfl, ?_, Only.set _ _⟩
      unfold Sq.takeN
      rw [HE.out]
      exact rd_short H.out
    · have i2 : decide ((s.size : Int) < k) = false := by simpa using h2
      cases sh
      case true =>
        have HE : Hid (Sq.takeBad ⟨s, true⟩ k = true) := by show _ = _; unfold Sq.takeBad; simp
        go_enter Tryz.func129, Tryz.ntmps129
        go_wp2
        go_ret
        refine ⟨by unfold Sq.takeV; rw [HE.out]; rfl, ?_, Only.set _ _⟩
        unfold Sq.takeN
        rw [HE.out]
        exact rd_short H.out
      case false =>
        have HE : Hid (Sq.takeBad ⟨s, false⟩ k = false) := by show _ = _; unfold Sq.takeBad; simp [h1, h2]
        obtain ⟨n, rfl⟩ := Int.eq_ofNat_of_zero_le (show 0 ≤ k by omega)
        have hn : n ≤ s.size := by omega
        clear h1 h2
        go_enter Tryz.func129, Tryz.ntmps129
        go_wp2
        go_ret
        refine ⟨by unfold Sq.takeV; rw [HE.out]; rfl, ?_, Only.set _ _⟩
        unfold Sq.takeN
        rw [HE.out]
        exact rd_rest H.out _

theorem or_nat (a b : Nat) (ha : a < 4611686018427387904) (hb : b < 4611686018427387904) : bits .or .i64 ((a : Nat) : Int) ((b : Nat) : Int) = ((a ||| b : Nat) : Int) := by
  have hlt : a ||| b < 2 ^ 62 := Nat.or_lt_two_pow (by omega) (by omega)
  have ea : (BitVec.ofInt 64 (a : Int)).toNat = a := by rw [BitVec.toNat_ofInt]; omega
  have eb : (BitVec.ofInt 64 (b : Int)).toNat = b := by rw [BitVec.toNat_ofInt]; omega
  show IntKind.i64.wrap ((BitVec.ofInt 64 (a : Int) ||| BitVec.ofInt 64 (b : Int)).toNat : Int) = _
  rw [BitVec.toNat_or, ea, eb]
  obtain ⟨c, hc⟩ : ∃ c, c = a ||| b := ⟨_, rfl⟩
  rw [← hc] at hlt ⊢
  simp [IntKind.wrap, IntKind.bits, IntKind.signed]
  omega
theorem or_byte (n : Int) (b : UInt8) (h0 : 0 ≤ n) (h1 : n < 16777216) : bits .or .i64 (n * 256) ((b.toNat : Nat) : Int) = n * 256 + ((b.toNat : Nat) : Int) := by
  obtain ⟨m, rfl⟩ := Int.eq_ofNat_of_zero_le h0
  have hb := b.toNat_lt
  have e : ((m : Nat) : Int) * 256 = ((2 ^ 8 * m : Nat) : Int) := by omega
  rw [e, or_nat _ _ (by omega) (by omega), ← Nat.two_pow_add_eq_or_of_lt (by omega) m]
  omega

namespace Sq
theorem big_take (l : List UInt8) (k : Nat) (h : k < l.length) : big (l.take (k + 1)) = big (l.take k) * 256 + (l[k].toNat : Int) := by
  unfold big
  rw [List.take_succ_eq_append_getElem h, List.foldl_append]
  rfl
theorem big_take_bd (l : List UInt8) (k : Nat) (h : k ≤ 3) : 0 ≤ big (l.take k) ∧ big (l.take k) < 16777216 := by
  have h1 := big_bd (l.take k)
  have h2 : (l.take k).length ≤ 3 := Nat.le_trans (List.length_take_le _ _) h
  have h3 : (256 : Int) ^ (l.take k).length ≤ 16777216 := by
    have := Nat.pow_le_pow_right (n := 256) (by decide) h2
    have e : (256 : Int) ^ (l.take k).length = ((256 ^ (l.take k).length : Nat) : Int) := by simp
    rw [e]
    exact Int.ofNat_le.2 (Nat.le_trans this (by decide))
  omega
end Sq

set_option maxRecDepth 100000 in
set_option maxHeartbeats 1000000 in
theorem ReadNum_any (b : Nat) (r : Sq.Rd) (k : Nat) (w : World) (h : RdAt b w r) (hs : r.rest.size ≤ 1000000) (hk : k ≤ 4) :
    Calls Tryz.prog 81 #[.pointer (some ⟨b, 0, none⟩), .int .i64 k] w fun e w' => e = .returned (.int .i64 (Sq.numV r k)) ∧ RdAt b w' (Sq.takeN r k) ∧ Only b w w' := by
  have hts := (Sq.takeV_size r k).2
  have HN : Hid (Sq.numV r k = Sq.big (Sq.takeV r k).data.toList) := rfl
  obtain ⟨s, hs'⟩ : ∃ x, x = Sq.takeV r k := ⟨_, rfl⟩
  have hn := HN.out
  rw [← hs'] at hn hts
  rw [Int.toNat_natCast] at hts
  have HN2 := hd hn
  have HS := hd hs'
  have H := hd h
  clear hn HN hs' h
  go_enter Tryz.func81, Tryz.ntmps81
  go_wp2_with fail
  refine (Take_any b r k _ H.out hs).mono ?_
  rintro e w1 ⟨rfl, hr1, ho1⟩
  rw [← HS.out]
  have HR1 := hd hr1
  have HO1 := hd ho1
  clear hr1 ho1
  have hsl : s.data.toList.length = s.size := Array.length_toList
  have HSL := hd hsl
  clear hsl
  go_wp2
  go_loop [6, 7] (fun nv i => ∃ j : Nat, ∃ n : Int, j ≤ s.size ∧ i = .int .i64 j ∧ nv = .int .i64 n ∧ Hid (n = Sq.big (s.data.toList.take j))) (fun _ i => s.size - (intOf i).toNat)
  case atStart => exact ⟨0, 0, Nat.zero_le _, rfl, rfl, rfl⟩
  case round =>
    obtain ⟨j, n, hj, rfl, rfl, hbig⟩ := hrel
    by_cases hjt : j < s.size
    · have hj' : j < s.data.toList.length := by rw [HSL.out]; exact hjt
      have hbt := Sq.big_take s.data.toList j hj'
      have hbd := Sq.big_take_bd s.data.toList j (by omega)
      rw [← hbig.out] at hbt hbd
      have hor := or_byte n s.data.toList[j] hbd.1 hbd.2
      obtain ⟨hb0, hb1⟩ := hbd
      have HOR := hd hor
      have HBT := hd hbt
      clear hor hbt
      go_wp2
      have hw : wrap64 ((s[j].toNat : Nat) : Int) = ((s.data.toList[j].toNat : Nat) : Int) := by
        have hlt := s.data.toList[j].toNat_lt
        show wrap64 ((s.data.toList[j].toNat : Nat) : Int) = _
        unfold wrap64
        omega
      rw [hw, HOR.out]
      go_round
      case rel => exact ⟨j + 1, _, by omega, by go_num, rfl, HBT.out.symm⟩
      case measure => simp [intOf]; omega
    · have HE : Hid (Sq.numV r k = n) := by show _ = _; rw [HN2.out, hbig.out, List.take_of_length_le (by rw [HSL.out]; omega)]
      clear hbig
      go_wp2
      go_ret
      exact ⟨by rw [HE.out]; rfl, HR1.out, HO1.out⟩

set_option maxRecDepth 100000 in
set_option maxHeartbeats 1000000 in
theorem ReadText_any (b : Nat) (r : Sq.Rd) (w : World) (h : RdAt b w r) (hs : r.rest.size ≤ 1000000) :
    Calls Tryz.prog 80 #[.pointer (some ⟨b, 0, none⟩)] w fun e w' => e = .returned (.string (Sq.txtV r)) ∧ RdAt b w' (Sq.txtN r) ∧ Only b w w' := by
  have H := hd h
  have hs2 := Nat.le_trans (Sq.takeN_size r 1) hs
  have HV : Hid (Sq.txtV r = Sq.takeV (Sq.takeN r 1) (Sq.numV r 1)) := rfl
  have HN : Hid (Sq.txtN r = Sq.takeN (Sq.takeN r 1) (Sq.numV r 1)) := rfl
  clear h
  go_enter Tryz.func80, Tryz.ntmps80
  go_wp2_with fail
  refine (ReadNum_any b r 1 _ H.out hs (by decide)).mono ?_
  rintro e w1 ⟨rfl, hr1, ho1⟩
  have HR1 := hd hr1
  have HO1 := hd ho1
  clear hr1 ho1
  obtain ⟨n, hn⟩ : ∃ n, n = Sq.numV r 1 := ⟨_, rfl⟩
  have hv := HV.out
  have hn' := HN.out
  rw [← hn] at hv hn'
  have HV2 := hd hv
  have HN2 := hd hn'
  rw [show Sq.numV r ((1 : Nat) : Int) = n from hn.symm]
  clear hv hn' hn HV HN
  go_wp2_with fail
  refine (Take_any b (Sq.takeN r 1) n _ HR1.out hs2).mono ?_
  rintro e w2 ⟨rfl, hr2, ho2⟩
  go_wp2
  go_ret
  exact ⟨by rw [HV2.out]; rfl, by rw [HN2.out]; exact hr2, HO1.out.trans ho2⟩

set_option maxRecDepth 100000 in
set_option maxHeartbeats 1000000 in
theorem Done_any (b : Nat) (r : Sq.Rd) (w : World) (h : RdAt b w r) :
    Calls Tryz.prog 83 #[.pointer (some ⟨b, 0, none⟩)] w fun e w' => e = .returned (.bool (Sq.doneR r)) ∧ w' = w := by
  obtain ⟨s, sh⟩ := r
  have c0 : w.cell? ⟨b, 0, none⟩ = some (.string s) := by rw [cell_blk h]; rfl
  have c1 : w.cell? ⟨b, 1, none⟩ = some (.bool sh) := by rw [cell_blk h]; rfl
  have hz := lt_blk h
  clear h
  have HE : Hid (Sq.doneR ⟨s, sh⟩ = (s.toList.isEmpty && !sh)) := rfl
  cases he : s.toList.isEmpty
  all_goals
    have h0 := he
    cases sh
  all_goals
    go_enter Tryz.func83, Tryz.ntmps83
    go_wp2
    go_ret
    exact ⟨by rw [HE.out, he]; rfl, rfl⟩

set_option maxRecDepth 100000 in
set_option maxHeartbeats 400000 in
theorem isNm_any (s : ByteArray) (w : World) (hs : s.size ≤ 1000000) :
    Calls Tryz.prog 82 #[.string s] w fun e w' => e = .returned (.bool (Sq.isNm s)) ∧ w' = w := by
  have HE : Hid (Sq.isNm s = (Decidable.decide (1 ≤ s.size) && Decidable.decide (s.size ≤ 8))) := rfl
  by_cases h1 : 1 ≤ s.size
  · by_cases h2 : s.size ≤ 8
    · have i1 : decide ((1 : Int) ≤ (s.size : Int)) = true := by simp; omega
      have i2 : decide ((s.size : Int) ≤ 8) = true := by simp; omega
      go_enter Tryz.func82, Tryz.ntmps82
      go_wp2
      go_ret
      exact ⟨by rw [HE.out]; simp [h1, h2], rfl⟩
    · have i1 : decide ((1 : Int) ≤ (s.size : Int)) = true := by simp; omega
      have i2 : decide ((s.size : Int) ≤ 8) = false := by simp; omega
      go_enter Tryz.func82, Tryz.ntmps82
      go_wp2
      go_ret
      exact ⟨by rw [HE.out]; simp [h1, h2], rfl⟩
  · have i1 : decide ((1 : Int) ≤ (s.size : Int)) = false := by simp; omega
    go_enter Tryz.func82, Tryz.ntmps82
    go_wp2
    go_ret
    exact ⟨by rw [HE.out]; simp [h1], rfl⟩

end Go.Proofs.YtamkfbelpfpjcaaGreatDoor

namespace Go.Proofs.YtamkfbelpfpjcaaGreatDoor
open Go.RowKit

theorem Tryz.infoColR : (Tryz.prog.info? 135).map (fun i => (i.zero, i.size, i.bytes)) = some (some (.agg #[.string ⟨#[]⟩, .int .i64 0]), 2, 24) := by kernel_rfl
/-- Columns in new memory. -/
def ColsNew (B : Nat) (w : World) (v : Value) (l : List Sq.Col) : Prop := w.ownsRow B 135 2 v l.length (l.flatMap Sq.Col.cells)
theorem wpList_append_col {ops : Array Oper} {rest : List Oper} {o : Oper} {a : Act} {Q : Exit → Act → World → Prop} {w : World} (hgd : o.guard = none) (sl x : Operand)
    (ho : o.op = .call { callee := .builtin .append, args := #[sl, x], argTypes := #[52, 52] }) (B : Nat) (v : Value) (l : List Sq.Col) (hs : a.eval sl = v) (hb : ColsNew B w v l)
    (c : Sq.Col) (g cc : Nat) (hx : a.eval x = .slice (some ⟨g, 0, none⟩) 1 cc) (hc0 : w.cell? ⟨g, 0, none⟩ = some (.string c.name)) (hc1 : w.cell? ⟨g, 1, none⟩ = some (.int .i64 c.kind)) (h1 : l.length + 1 ≤ 1000000) (hB : B ≤ w.heap.size)
    (h : ∀ v' w', ColsNew B w' v' (l ++ [c]) → w.grownBy w' v.ownBlock → wpList Tryz.prog ops Q rest (a.put o.dst v') w') : wpList Tryz.prog ops Q (o :: rest) a w := by
  obtain ⟨i0, hi, hz0, hz1, hz2⟩ := info_parts Tryz.infoColR
  refine wpList_append_lies _ hgd sl x 52 ho B 135 i0 _ 2 24 Tryz.underlying52 hi hz0 hz1 hz2 rfl (by decide) v l.length _ hs hb ⟨g, 0, none⟩ 1 cc c.cells hx rfl (by
    intro j u hu
    have ea : (⟨g, 0, none⟩ : Addr).add j = ⟨g, j, none⟩ := by unfold Addr.add; split <;> simp_all
    rw [ea]
    match j, hu with
    | 0, hu => simp [Sq.Col.cells] at hu; subst hu; exact hc0
    | 1, hu => simp [Sq.Col.cells] at hu; subst hu; exact hc1
    | j + 2, hu => simp [Sq.Col.cells] at hu) (by intro u hu; simp [Sq.Col.cells] at hu; rcases hu with rfl | rfl <;> rfl) (by decide) (by unfold maxLen; omega) (by omega) hB _ rfl ?_
  intro g' cap w' ho' hg' _ _
  refine h _ w' ?_ hg'
  unfold ColsNew
  rw [List.length_append, List.flatMap_append]
  simpa using ho'
theorem ColsNew.below2 {B b : Nat} {w w' : World} {v : Value} {l : List Sq.Col} (h : ColsNew B w v l) (hB : B ≤ b) (hb : Below w.heap.size w w') : ColsNew B w' v l :=
  ownsRow_same h fun g hg => hb.block g (World.ownsRow.lt h g hg).2
theorem rd_below {b : Nat} {w w' : World} {r : Sq.Rd} (h : RdAt b w r) (hb : Below w.heap.size w w') : RdAt b w' r := (hb.block b (lt_blk h)).trans h
theorem RdAt.grown {B b : Nat} {w w' : World} {v : Value} {l : List Sq.Col} {r : Sq.Rd} (h : RdAt b w r) (ho : ColsNew B w v l) (hg : w.grownBy w' v.ownBlock) : RdAt b w' r :=
  (hg.block b (lt_blk h) (fun e => ownsRow_notin ho h (by decide) e.symm)).trans h
theorem ColsNew.only {B b : Nat} {w w' : World} {v : Value} {l : List Sq.Col} {c : Array Value} (h : ColsNew B w v l) (hb : w.heap[b]? = some (.cells c 130)) (ho : Only b w w') : ColsNew B w' v l :=
  ownsRow_same h fun g hg => ho.other g fun e => ownsRow_notin h hb (by decide) (by rw [hg, e])

set_option maxRecDepth 100000 in
set_option maxHeartbeats 400000 in
theorem Read_any (s : ByteArray) (w : World) :
    Calls Tryz.prog 79 #[.string s] w fun e w' => e = .returned (.agg #[.string s, .bool false]) ∧ Below w.heap.size w w' := by
  go_enter Tryz.func79, Tryz.ntmps79
  go_wp2
  refine bodyPost_ret (v := .agg #[.string s, .bool false]) (by simp [results, Tryz.results79, go_sem]) rfl ⟨rfl, ?_⟩
  first
    | exact (Below.refl _ _).alloc (Nat.le_refl _) _
    | exact Below.setCell (B := w.heap.size) (Below.setCell (B := w.heap.size) ((Below.refl _ _).alloc (Nat.le_refl _) _) (Nat.le_refl _) _) (Nat.le_refl _) _

/-- What ToTable answers. -/
def TabPost (w : World) (row : ByteArray) (e : Ending) (w' : World) : Prop :=
  ∃ cv, e = .returned (.tuple #[.string (match Sq.toTable row with | some x => x.1 | none => ⟨#[]⟩), cv, .bool (Sq.toTable row).isSome]) ∧ ColsNew w.heap.size w' cv (match Sq.toTable row with | some x => x.2 | none => []) ∧ Below w.heap.size w w'

set_option maxRecDepth 100000 in
set_option maxHeartbeats 2000000 in
theorem ToTable_any (row : ByteArray) (w : World) (hs : row.size ≤ 1000) : Calls Tryz.prog 43 #[.string row] w (TabPost w row) := by
  have H1 : Hid ((Sq.tabHead row).1 = Sq.txtV ⟨row, false⟩) := rfl
  have H2 : Hid ((Sq.tabHead row).2.1 = Sq.numV (Sq.txtN ⟨row, false⟩) 1) := rfl
  have H3 : Hid ((Sq.tabHead row).2.2 = Sq.takeN (Sq.txtN ⟨row, false⟩) 1) := rfl
  go_enter Tryz.func43, Tryz.ntmps43
  go_wp2_with fail
  refine (Read_any row _).mono ?_
  rintro e w0 ⟨rfl, hb0⟩
  have hz0 := hb0.size
  have HB0 := hd hb0
  clear hb0
  have hr0 : RdAt w0.heap.size (w0.alloc (.cells #[.string row, .bool false] 130)) ⟨row, false⟩ := heap_alloc_new w0 _
  have HR0 := hd hr0
  clear hr0
  go_wp2_with fail
  refine (ReadText_any w0.heap.size ⟨row, false⟩ _ HR0.out (by show row.size ≤ _; omega)).mono ?_
  rintro e w1 ⟨rfl, hr1, ho1⟩
  have hsz1 := Sq.txtN_size ⟨row, false⟩
  have HR1 := hd hr1
  have HO1 := hd ho1
  clear hr1 ho1
  go_wp2_with fail
  refine (ReadNum_any w0.heap.size (Sq.txtN ⟨row, false⟩) 1 _ HR1.out (Nat.le_trans hsz1 (by show row.size ≤ _; omega)) (by decide)).mono ?_
  rintro e w2 ⟨rfl, hr2, ho2⟩
  rw [show Sq.numV (Sq.txtN ⟨row, false⟩) ((1 : Nat) : Int) = (Sq.tabHead row).2.1 from rfl, show Sq.txtV ⟨row, false⟩ = (Sq.tabHead row).1 from rfl]
  have hr2' : RdAt w0.heap.size w2 (Sq.tabHead row).2.2 := hr2
  have HR2 := hd hr2'
  have HO2 := hd (HO1.out.trans ho2)
  clear hr2 hr2' ho2 HR1 HO1 HR0
  have hsz2 : (Sq.tabHead row).2.2.rest.size ≤ 1000 := Nat.le_trans (Sq.takeN_size _ _) (Nat.le_trans hsz1 hs)
  have hnm2 : (Sq.tabHead row).1.size ≤ 1000 := Nat.le_trans (Sq.txtV_size _) hs
  have HG : Hid (Sq.tabGood row = (Sq.isNm (Sq.tabHead row).1 && Decidable.decide (1 ≤ (Sq.tabHead row).2.1) && Decidable.decide ((Sq.tabHead row).2.1 ≤ 4))) := rfl
  have HC : Hid (Sq.tabCols row = if Sq.tabGood row then Sq.colsR (Sq.tabHead row).2.1.toNat 0 (Sq.tabHead row).2.2 [] else ⟨[], (Sq.tabHead row).2.2, false⟩) := rfl
  have HT : Hid (Sq.toTable row = if (Sq.tabCols row).good && Sq.doneR (Sq.tabCols row).rd then some ((Sq.tabHead row).1, (Sq.tabCols row).cols) else none) := rfl
  have hg := HG.out
  have hc := HC.out
  have ht := HT.out
  have hr2 := HR2.out
  clear HG HC HT HR2 hsz1 H1 H2 H3
  generalize (Sq.tabHead row).1 = nm at *
  generalize (Sq.tabHead row).2.1 = cnt at *
  generalize (Sq.tabHead row).2.2 = rd at *
  have HG := hd hg
  have HC := hd hc
  have HT := hd ht
  have HR2 := hd hr2
  have hz2 := lt_blk hr2
  have HZ : Hid (Below w.heap.size w w2) := HB0.out.trans (((Below.refl w0.heap.size w0).alloc (Nat.le_refl _) _).mono hz0 |>.trans (HO2.out.below.mono hz0))
  clear hg hc ht hr2
  go_wp2_with fail
  refine (isNm_any nm _ (by omega)).mono ?_
  rintro e w3 ⟨rfl, hw3⟩
  rw [hw3]
  clear hw3 w3
  have hg := HG.out
  obtain ⟨b1, hb1⟩ : ∃ b, b = Sq.isNm nm := ⟨_, rfl⟩
  rw [← hb1] at hg ⊢
  clear hb1 HG
  by_cases hgood : b1 = true ∧ 1 ≤ cnt ∧ cnt ≤ 4
  · obtain ⟨rfl, h1, h2⟩ := hgood
    have HGD : Hid (Sq.tabCols row = Sq.colsR cnt.toNat 0 rd []) := by
      show _ = _
      have hf : Sq.tabGood row = true := by rw [hg]; simp [h1, h2]
      have hc := HC.out
      rw [hf] at hc
      exact hc
    clear hg HC
    have i1 : decide (1 ≤ cnt) = true := by simpa using h1
    have i2 : decide (cnt ≤ 4) = true := by simpa using h2
    go_wp2
    go_loopw [8, 9, 10] (fun gv cv i wr => ∃ (g : Bool) (j : Nat) (acc : List Sq.Col) (r : Sq.Rd), gv = .bool g ∧ i = .int .i64 j ∧ j ≤ 4 ∧ acc.length ≤ j ∧ (g = true → (j : Int) ≤ cnt) ∧ r.rest.size ≤ 1000 ∧ ColsNew w.heap.size wr cv acc ∧ RdAt w0.heap.size wr r ∧ Below w.heap.size w wr ∧ Hid (Sq.tabCols row = if g then Sq.colsR (cnt.toNat - j) j r acc else ⟨acc, r, false⟩)) (fun _ _ i _ => 5 - (intOf i).toNat)
    case atStart => exact ⟨true, 0, [], rd, rfl, rfl, by decide, Nat.le_refl _, fun _ => by show (0 : Int) ≤ cnt; omega, hsz2, World.ownsRow_nil _ _ _ _, HR2.out, HZ.out, HGD.out⟩
    case round =>
      obtain ⟨g, j, acc, r, rfl, rfl, hj4, hacc, hjc, hrs, hown, hrd, hb, HQ⟩ := hrel
      clear HGD HR2 HZ hz2 i1 i2
      obtain ⟨ao, acap, rfl⟩ := ownsRow_slice hown
      have hzr := lt_blk hrd
      have HOWN := hd hown
      have HRD := hd hrd
      have HB := hd hb
      clear hown hrd hb
      cases g
      case false =>
        have HN : Hid (Sq.toTable row = none) := by
          show _ = _
          have hq := HQ.out
          simp only [Bool.false_eq_true, if_false] at hq
          rw [HT.out, hq]; rfl
        clear HQ HT hjc
        go_wp2
        go_ret3
        exact ⟨.slice none 0 0, by rw [HN.out]; rfl, by rw [HN.out]; exact World.ownsRow_nil _ _ _ _, HB.out⟩
      case true =>
        have hjc' := hjc rfl
        clear hjc
        have hq := HQ.out
        simp only [if_true] at hq
        clear HQ
        by_cases hjt : (j : Int) < cnt
        · obtain ⟨f, hf⟩ : ∃ f, cnt.toNat - j = f + 1 := ⟨cnt.toNat - j - 1, by omega⟩
          have hf' : cnt.toNat - (j + 1) = f := by omega
          rw [hf, Sq.colsR] at hq
          have HQ := hd hq
          have HF := hd hf'
          have hcs := Nat.le_trans (Sq.takeN_size r 1) hrs
          have hcn := Nat.le_trans (Sq.txtN_size (Sq.takeN r 1)) hcs
          have hcv := Nat.le_trans (Sq.txtV_size (Sq.takeN r 1)) hcs
          have i3 : decide ((j : Int) < cnt) = true := by simpa using hjt
          clear hq hf hf'
          go_wp2_with fail
          refine (ReadNum_any w0.heap.size r 1 _ HRD.out (by omega) (by decide)).mono ?_
          rintro e w4 ⟨rfl, hr4, ho4⟩
          have HR4 := hd hr4
          have HO4 := hd ho4
          clear hr4 ho4
          go_wp2_with fail
          refine (ReadText_any w0.heap.size (Sq.takeN r 1) _ HR4.out (by omega)).mono ?_
          rintro e w5 ⟨rfl, hr5, ho5⟩
          have hown := HOWN.out.only HRD.out (HO4.out.trans ho5)
          have hb := HB.out.trans ((HO4.out.trans ho5).below.mono hz0)
          have hr5' : RdAt w0.heap.size w5 (Sq.colN r) := hr5
          have hcn' : (Sq.colN r).rest.size ≤ 1000 := hcn
          have hcv' : (Sq.colV r).name.size ≤ 1000 := hcv
          rw [show Sq.numV r 1 = (Sq.colV r).kind from rfl, show Sq.txtV (Sq.takeN r 1) = (Sq.colV r).name from rfl]
          have hq := HQ.out
          clear HQ HOWN HRD HB HR4 HO4 hr5 ho5 hcs hcn hcv
          generalize Sq.colV r = c at *
          generalize Sq.colN r = r' at *
          obtain ⟨cn, ck⟩ := c
          simp only at hcv' ⊢
          have HOWN := hd hown
          have HB := hd hb
          have HR5 := hd hr5'
          have HQ := hd hq
          have hz5 := lt_blk hr5'
          have HCG : Hid (Sq.colGood ⟨cn, ck⟩ j = (Sq.isNm cn && (ck == 0 || (ck == 1 && Decidable.decide (0 < j))))) := rfl
          clear hown hb hr5' hq
          go_wp2_with fail
          refine (isNm_any cn _ (by omega)).mono ?_
          rintro e w6 ⟨rfl, hw6⟩
          rw [hw6]
          clear hw6 w6
          have hcg := HCG.out
          obtain ⟨b1, hb1⟩ : ∃ b, b = Sq.isNm cn := ⟨_, rfl⟩
          rw [← hb1] at hcg ⊢
          have hsp : b1 = false ∨ (b1 = true ∧ ck = 0) ∨ (b1 = true ∧ ck = 1 ∧ 0 < j) ∨ (b1 = true ∧ ck = 1 ∧ j = 0) ∨ (b1 = true ∧ ck ≠ 0 ∧ ck ≠ 1) := by cases b1 <;> simp <;> omega
          clear hb1 HCG
          have HOW2 := hd (HOWN.out.below2 (by omega) ((Below.refl w5.heap.size w5).alloc (Nat.le_refl _) (.cells #[.string cn, .int .i64 ck] 135)))
          have HR6 : Hid (RdAt w0.heap.size (w5.alloc (.cells #[.string cn, .int .i64 ck] 135)) r') := rd_below HR5.out ((Below.refl w5.heap.size w5).alloc (Nat.le_refl _) _)
          rcases hsp with rfl | ⟨rfl, rfl⟩ | ⟨rfl, rfl, hj0⟩ | ⟨rfl, rfl, rfl⟩ | ⟨rfl, hk0, hk1⟩
          · have HGB : Hid (Sq.colGood ⟨cn, ck⟩ j = false) := by show _ = _; rw [hcg]; simp
            clear hcg
            go_wp2_with (at_builtin; refine wpList_append_col rfl (.tmp 51) (.tmp 55) rfl w.heap.size _ acc rfl HOW2.out ⟨cn, ck⟩ w5.heap.size 1 rfl (by simp [go_sem]) (by simp [go_sem]) (by omega) (by simp; omega) ?_; intro v7 w7 hown7 hg7; have HO7 := hd hown7; have HB7 := hd (Tch.of_grown (pb := w.heap.size) hg7 (fun k hk => (World.ownsRow.lt HOW2.out k hk).1) (by simp; omega)); have HR7 := hd (HR6.out.grown HOW2.out hg7); clear hown7 hg7)
            go_roundw
            case rel =>
              refine ⟨false, j + 1, acc ++ [⟨cn, ck⟩], r', rfl, by go_num, by omega, by rw [List.length_append]; show acc.length + 1 ≤ _; omega, (fun h => by cases h), hcn', HO7.out, HR7.out, HB.out.trans ((Below.mono (B' := w.heap.size) ((Below.refl _ _).alloc (Nat.le_refl _) _) (by omega)).trans HB7.out), ?_⟩
              show _ = _
              rw [HQ.out, HGB.out]
              try rfl
            case measure => (simp [intOf]; try omega)
          · have HGB : Hid (Sq.colGood ⟨cn, 0⟩ j = true) := by show _ = _; rw [hcg]; simp
            clear hcg
            go_wp2_with (at_builtin; refine wpList_append_col rfl (.tmp 51) (.tmp 55) rfl w.heap.size _ acc rfl HOW2.out ⟨cn, 0⟩ w5.heap.size 1 rfl (by simp [go_sem]) (by simp [go_sem]) (by omega) (by simp; omega) ?_; intro v7 w7 hown7 hg7; have HO7 := hd hown7; have HB7 := hd (Tch.of_grown (pb := w.heap.size) hg7 (fun k hk => (World.ownsRow.lt HOW2.out k hk).1) (by simp; omega)); have HR7 := hd (HR6.out.grown HOW2.out hg7); clear hown7 hg7)
            go_roundw
            case rel =>
              refine ⟨true, j + 1, acc ++ [⟨cn, 0⟩], r', rfl, by go_num, by omega, by rw [List.length_append]; show acc.length + 1 ≤ _; omega, (fun h => by omega), hcn', HO7.out, HR7.out, HB.out.trans ((Below.mono (B' := w.heap.size) ((Below.refl _ _).alloc (Nat.le_refl _) _) (by omega)).trans HB7.out), ?_⟩
              show _ = _
              rw [HQ.out, HGB.out, HF.out]
              try rfl
            case measure => (simp [intOf]; try omega)
          · have HGB : Hid (Sq.colGood ⟨cn, 1⟩ j = true) := by show _ = _; rw [hcg]; simp [hj0]
            clear hcg
            have i4 : decide ((0 : Int) < (j : Int)) = true := by simpa using hj0
            go_wp2_with (at_builtin; refine wpList_append_col rfl (.tmp 51) (.tmp 55) rfl w.heap.size _ acc rfl HOW2.out ⟨cn, 1⟩ w5.heap.size 1 rfl (by simp [go_sem]) (by simp [go_sem]) (by omega) (by simp; omega) ?_; intro v7 w7 hown7 hg7; have HO7 := hd hown7; have HB7 := hd (Tch.of_grown (pb := w.heap.size) hg7 (fun k hk => (World.ownsRow.lt HOW2.out k hk).1) (by simp; omega)); have HR7 := hd (HR6.out.grown HOW2.out hg7); clear hown7 hg7)
            go_roundw
            case rel =>
              refine ⟨true, j + 1, acc ++ [⟨cn, 1⟩], r', rfl, by go_num, by omega, by rw [List.length_append]; show acc.length + 1 ≤ _; omega, (fun h => by omega), hcn', HO7.out, HR7.out, HB.out.trans ((Below.mono (B' := w.heap.size) ((Below.refl _ _).alloc (Nat.le_refl _) _) (by omega)).trans HB7.out), ?_⟩
              show _ = _
              rw [HQ.out, HGB.out, HF.out]
              try rfl
            case measure => (simp [intOf]; try omega)
          · have HGB : Hid (Sq.colGood ⟨cn, 1⟩ 0 = false) := by show _ = _; rw [hcg]; simp
            clear hcg
            go_wp2_with (at_builtin; refine wpList_append_col rfl (.tmp 51) (.tmp 55) rfl w.heap.size _ acc rfl HOW2.out ⟨cn, 1⟩ w5.heap.size 1 rfl (by simp [go_sem]) (by simp [go_sem]) (by omega) (by simp; omega) ?_; intro v7 w7 hown7 hg7; have HO7 := hd hown7; have HB7 := hd (Tch.of_grown (pb := w.heap.size) hg7 (fun k hk => (World.ownsRow.lt HOW2.out k hk).1) (by simp; omega)); have HR7 := hd (HR6.out.grown HOW2.out hg7); clear hown7 hg7)
            go_roundw
            case rel =>
              refine ⟨false, 0 + 1, acc ++ [⟨cn, 1⟩], r', rfl, by go_num, by omega, by rw [List.length_append]; show acc.length + 1 ≤ _; omega, (fun h => by cases h), hcn', HO7.out, HR7.out, HB.out.trans ((Below.mono (B' := w.heap.size) ((Below.refl _ _).alloc (Nat.le_refl _) _) (by omega)).trans HB7.out), ?_⟩
              show _ = _
              rw [HQ.out, HGB.out]
              try rfl
            case measure => (simp [intOf]; try omega)
          · have HGB : Hid (Sq.colGood ⟨cn, ck⟩ j = false) := by show _ = _; rw [hcg]; simp [hk0, hk1]
            clear hcg
            have i4 : (ck == 0) = false := by simpa using hk0
            have i5 : (ck == 1) = false := by simpa using hk1
            go_wp2_with (at_builtin; refine wpList_append_col rfl (.tmp 51) (.tmp 55) rfl w.heap.size _ acc rfl HOW2.out ⟨cn, ck⟩ w5.heap.size 1 rfl (by simp [go_sem]) (by simp [go_sem]) (by omega) (by simp; omega) ?_; intro v7 w7 hown7 hg7; have HO7 := hd hown7; have HB7 := hd (Tch.of_grown (pb := w.heap.size) hg7 (fun k hk => (World.ownsRow.lt HOW2.out k hk).1) (by simp; omega)); have HR7 := hd (HR6.out.grown HOW2.out hg7); clear hown7 hg7)
            go_roundw
            case rel =>
              refine ⟨false, j + 1, acc ++ [⟨cn, ck⟩], r', rfl, by go_num, by omega, by rw [List.length_append]; show acc.length + 1 ≤ _; omega, (fun h => by cases h), hcn', HO7.out, HR7.out, HB.out.trans ((Below.mono (B' := w.heap.size) ((Below.refl _ _).alloc (Nat.le_refl _) _) (by omega)).trans HB7.out), ?_⟩
              show _ = _
              rw [HQ.out, HGB.out]
              try rfl
            case measure => (simp [intOf]; try omega)
        · have hjt' : cnt.toNat - j = 0 := by omega
          rw [hjt', Sq.colsR] at hq
          have hT := HT.out
          rw [hq] at hT
          simp only [Bool.true_and] at hT
          have HT2 := hd hT
          have i3 : decide ((j : Int) < cnt) = false := by simpa using hjt
          clear HT hq hT hjt'
          go_wp2_with fail
          refine (Done_any w0.heap.size r _ HRD.out).mono ?_
          rintro e w4 ⟨rfl, hw4⟩
          rw [hw4]
          clear hw4 w4
          obtain ⟨b1, hb1⟩ : ∃ b, b = Sq.doneR r := ⟨_, rfl⟩
          have ht2 := HT2.out
          rw [← hb1] at ht2 ⊢
          clear hb1 HT2
          cases b1
          case false =>
            have HN : Hid (Sq.toTable row = none) := ht2
            clear ht2
            go_wp2
            go_ret3
            exact ⟨.slice none 0 0, by rw [HN.out]; rfl, by rw [HN.out]; exact World.ownsRow_nil _ _ _ _, HB.out⟩
          case true =>
            have HN : Hid (Sq.toTable row = some (nm, acc)) := ht2
            clear ht2
            go_wp2
            go_ret3
            exact ⟨_, by rw [HN.out]; rfl, by rw [HN.out]; exact HOWN.out, HB.out⟩
  · have HBAD : Hid (Sq.toTable row = none) := by
      show _ = _
      have hf : Sq.tabGood row = false := by rw [hg]; cases b1 <;> simp at hgood ⊢; intro h; have := hgood h; omega
      have hc := HC.out
      rw [hf] at hc
      rw [HT.out, hc]; rfl
    clear hg HC HT
    have hsp : b1 = false ∨ (b1 = true ∧ ¬ 1 ≤ cnt) ∨ (b1 = true ∧ 1 ≤ cnt ∧ ¬ cnt ≤ 4) := by cases b1 <;> simp at hgood ⊢; omega
    clear hgood
    rcases hsp with rfl | ⟨rfl, h1⟩ | ⟨rfl, h1, h2⟩
    all_goals
      first
        | have i1 : decide (1 ≤ cnt) = false := by simpa using h1
        | (have i1 : decide (1 ≤ cnt) = true := by simpa using h1
           have i2 : decide (cnt ≤ 4) = false := by simpa using h2)
        | skip
      go_wp2
      go_loopw [8, 9, 10, 11, 12] (fun gv _ _ _ _ wr => gv = .bool false ∧ wr = w2) (fun _ _ _ _ _ _ => 0)
      case atStart => exact ⟨rfl, rfl⟩
      case round =>
        obtain ⟨rfl, rfl⟩ := hrel
        go_wp2
        go_ret3
        exact ⟨.slice none 0 0, by rw [HBAD.out]; rfl, by rw [HBAD.out]; exact World.ownsRow_nil _ _ _ _, HZ.out⟩

end Go.Proofs.YtamkfbelpfpjcaaGreatDoor
