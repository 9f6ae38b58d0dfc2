import Derived.Test.YteibbdilhpdknaaGreatDoorBs
import Derived.Test.YteibbdilhpdknaaGreatDoorBe
set_option linter.unusedVariables false
set_option linter.unusedSimpArgs false

namespace Go.Proofs.YteibbdilhpdknaaGreatDoor
open Go.RowKit

theorem Sq.drop_at (s : ByteArray) (k : Nat) (h : k < s.size) : s.data.toList.drop k = s[k] :: s.data.toList.drop (k + 1) := by
  have h' : k < s.data.toList.length := by rw [← Sq.size_list]; exact h
  rw [List.drop_eq_getElem_cons h']
  rfl
theorem Sq.drop_end (s : ByteArray) (k : Nat) (h : s.size ≤ k) : s.data.toList.drop k = [] := List.drop_eq_nil_of_le (by rw [← Sq.size_list]; exact h)
theorem Sq.bytes_eq {a b : ByteArray} (h : a.data.toList = b.data.toList) : a = b := by
  cases a; cases b; simp at h; rw [h]
theorem Sq.extract_to (s : ByteArray) (k : Nat) : s.extract k s.size = Sq.bytesOf (s.data.toList.drop k) := by
  apply Sq.bytes_eq
  rw [Sq.extract_list]
  show _ = s.data.toList.drop k
  exact List.take_of_length_le (by rw [List.length_drop, ← Sq.size_list]; omega)
theorem Sq.eq_nat (c : UInt8) (n : Nat) (hn : n < 256) : (c == UInt8.ofNat n) = ((c.toNat : Int) == (n : Int)) := by
  rw [Bool.eq_iff_iff]
  simp only [beq_iff_eq]
  constructor
  · intro h; rw [h, UInt8.toNat_ofNat']; omega
  · intro h; apply UInt8.toNat_inj.1; rw [UInt8.toNat_ofNat']; omega
theorem Sq.eq39 (c : UInt8) : (c == 39) = ((c.toNat : Int) == 39) := Sq.eq_nat c 39 (by omega)
theorem Sq.eq59 (c : UInt8) : (c == 59) = ((c.toNat : Int) == 59) := Sq.eq_nat c 59 (by omega)
theorem Sq.eq44 (c : UInt8) : (c == 44) = ((c.toNat : Int) == 44) := Sq.eq_nat c 44 (by omega)

set_option maxRecDepth 100000 in
set_option maxHeartbeats 1000000 in
theorem behind_any (s : ByteArray) (w : World) (hs : s.size ≤ 1000000000) :
    Calls Tryz.prog 23 #[.string s] w fun e w' => e = .returned (.string (Sq.bytesOf (Sq.behind false s.data.toList))) ∧ w' = w := by
  go_enter Tryz.func23, Tryz.ntmps23
  go_wp2
  go_loop [3, 4] (fun q i => ∃ (k : Nat) (b : Bool), k ≤ s.size ∧ q = .bool b ∧ i = .int .i64 k ∧ Hid (Sq.behind false s.data.toList = Sq.behind b (s.data.toList.drop k))) (fun _ i => s.size - (intOf i).toNat)
  case atStart => exact ⟨0, false, Nat.zero_le _, rfl, rfl, rfl⟩
  case round =>
    obtain ⟨k, b, hk, rfl, rfl, HR⟩ := hrel
    by_cases hlt : k < s.size
    · have hst : Sq.behind b (s.data.toList.drop k) = if ((s[k].toNat : Int) == 59) && !(if ((s[k].toNat : Int) == 39) then !b else b) then s.data.toList.drop (k + 1) else Sq.behind (if ((s[k].toNat : Int) == 39) then !b else b) (s.data.toList.drop (k + 1)) := by
        rw [Sq.drop_at s k hlt, Sq.behind]
        unfold Sq.turn
        rw [Sq.eq39, Sq.eq59]
      have HS : Hid _ := hst
      clear hst
      cases h39 : ((s[k].toNat : Int) == 39)
      · cases h59 : ((s[k].toNat : Int) == 59)
        · have HT := HS.out
          rw [h39, h59] at HT
          have HT2 : Hid _ := HT
          clear HT
          go_wp2
          go_round
          case rel => exact ⟨k + 1, b, by omega, rfl, by go_num, HR.out.trans HT2.out⟩
          case measure => simp [intOf]; omega
        · have HT := HS.out
          rw [h39, h59] at HT
          have HT2 : Hid _ := HT
          clear HT
          cases b
          · go_wp2
            go_ret
            refine ⟨?_, rfl⟩
            rw [HR.out, HT2.out]
            exact congrArg (fun x => Ending.returned (.string x)) (Sq.extract_to s (k + 1))
          · go_wp2
            go_round
            case rel => exact ⟨k + 1, true, by omega, rfl, by go_num, HR.out.trans HT2.out⟩
            case measure => simp [intOf]; omega
      · have h59 : ((s[k].toNat : Int) == 59) = false := by simp at h39; simp; omega
        have HT := HS.out
        rw [h39, h59] at HT
        have HT2 : Hid _ := HT
        clear HT
        go_wp2
        go_round
        case rel => exact ⟨k + 1, !b, by omega, rfl, by go_num, HR.out.trans HT2.out⟩
        case measure => simp [intOf]; omega
    · have HZ : Hid _ := Sq.drop_end s k (by omega)
      go_wp2
      go_ret
      refine ⟨?_, rfl⟩
      rw [HR.out, HZ.out]; rfl

set_option maxRecDepth 100000 in
set_option maxHeartbeats 1000000 in
theorem lines_any (s : ByteArray) (w : World) (hs : s.size ≤ 1000000000) :
    Calls Tryz.prog 31 #[.string s] w fun e w' => e = .returned (.int .i64 (Sq.lines false s.data.toList : Nat)) ∧ w' = w := by
  go_enter Tryz.func31, Tryz.ntmps31
  go_wp2
  go_loop [3, 4, 5] (fun n q i => ∃ (k m : Nat) (b : Bool), k ≤ s.size ∧ m ≤ k ∧ n = .int .i64 m ∧ q = .bool b ∧ i = .int .i64 k ∧ Hid (Sq.lines false s.data.toList = m + Sq.lines b (s.data.toList.drop k))) (fun _ _ i => s.size - (intOf i).toNat)
  case atStart => exact ⟨0, 0, false, Nat.zero_le _, Nat.le_refl _, rfl, rfl, rfl, (Nat.zero_add _).symm⟩
  case round =>
    obtain ⟨k, m, b, hk, hm, rfl, rfl, rfl, HR⟩ := hrel
    by_cases hlt : k < s.size
    · have hst : Sq.lines b (s.data.toList.drop k) = (if ((s[k].toNat : Int) == 59) && !(if ((s[k].toNat : Int) == 39) then !b else b) then 1 else 0) + Sq.lines (if ((s[k].toNat : Int) == 39) then !b else b) (s.data.toList.drop (k + 1)) := by
        rw [Sq.drop_at s k hlt, Sq.lines]
        unfold Sq.turn
        rw [Sq.eq39, Sq.eq59]
      have HS : Hid _ := hst
      clear hst
      cases h39 : ((s[k].toNat : Int) == 39)
      · cases h59 : ((s[k].toNat : Int) == 59)
        · have HT := HS.out
          rw [h39, h59] at HT
          have HT2 : Hid _ := HT
          clear HT
          go_wp2
          go_round
          case rel => exact ⟨k + 1, m, b, by omega, by omega, rfl, rfl, by go_num, by have h1 := HR.out; have h2 := HT2.out; simp at h2; show _ = _; omega⟩
          case measure => simp [intOf]; omega
        · have HT := HS.out
          rw [h39, h59] at HT
          have HT2 : Hid _ := HT
          clear HT
          cases b
          · go_wp2
            go_round
            case rel => exact ⟨k + 1, m + 1, false, by omega, by omega, by go_num, rfl, by go_num, by have h1 := HR.out; have h2 := HT2.out; simp at h2; show _ = _; omega⟩
            case measure => simp [intOf]; omega
          · go_wp2
            go_round
            case rel => exact ⟨k + 1, m, true, by omega, by omega, rfl, rfl, by go_num, by have h1 := HR.out; have h2 := HT2.out; simp at h2; show _ = _; omega⟩
            case measure => simp [intOf]; omega
      · have h59 : ((s[k].toNat : Int) == 59) = false := by simp at h39; simp; omega
        have HT := HS.out
        rw [h39, h59] at HT
        have HT2 : Hid _ := HT
        clear HT
        go_wp2
        go_round
        case rel => exact ⟨k + 1, m, !b, by omega, by omega, rfl, rfl, by go_num, by have h1 := HR.out; have h2 := HT2.out; simp at h2; show _ = _; omega⟩
        case measure => simp [intOf]; omega
    · have HZ : Hid _ := Sq.drop_end s k (by omega)
      go_wp2
      go_ret
      refine ⟨?_, rfl⟩
      rw [HR.out, HZ.out]; rfl

theorem Sq.upto_take (l : List UInt8) : l.take (Sq.upto l).length = Sq.upto l := Sq.take_takeWhile _ l
def Sq.uptoN (l : List UInt8) : Nat := (Sq.upto l).length
theorem Sq.upto_step (c : UInt8) (r : List UInt8) : Sq.uptoN (c :: r) = if !((c.toNat : Int) == 44) && !((c.toNat : Int) == 59) then Sq.uptoN r + 1 else 0 := by
  unfold Sq.uptoN Sq.upto
  rw [List.takeWhile_cons]
  simp only [bne, Sq.eq44, Sq.eq59]
  split <;> rfl
theorem Sq.uptoN_le (l : List UInt8) : Sq.uptoN l ≤ l.length := (List.takeWhile_sublist _).length_le
theorem Sq.key_eq (s : ByteArray) (k : Nat) (h : k = Sq.uptoN s.data.toList) : Sq.number (s.extract 0 k ++ Sq.bSemi) = Sq.key s := by
  unfold Sq.key
  congr 2
  apply Sq.bytes_eq
  rw [Sq.extract_list, h]
  show (s.data.toList.drop 0).take _ = Sq.upto s.data.toList
  rw [List.drop_zero]
  exact Sq.upto_take _

set_option maxRecDepth 100000 in
set_option maxHeartbeats 1000000 in
theorem key_any (s : ByteArray) (w : World) (hs : s.size ≤ 100000000) :
    Calls Tryz.prog 24 #[.string s] w fun e w' => e = .returned (.tuple #[.int .i64 (Sq.key s).1, .bool (Sq.key s).2]) ∧ w' = w := by
  go_enter Tryz.func24, Tryz.ntmps24
  go_wp2
  go_loop [4] (fun i => ∃ k : Nat, k ≤ s.size ∧ i = .int .i64 k ∧ Hid (k + Sq.uptoN (s.data.toList.drop k) = Sq.uptoN s.data.toList)) (fun i => s.size - (intOf i).toNat)
  case atStart => exact ⟨0, Nat.zero_le _, rfl, Nat.zero_add _⟩
  case round =>
    obtain ⟨k, hk, rfl, HR⟩ := hrel
    by_cases hlt : k < s.size
    · have hst : Sq.uptoN (s.data.toList.drop k) = if !((s[k].toNat : Int) == 44) && !((s[k].toNat : Int) == 59) then Sq.uptoN (s.data.toList.drop (k + 1)) + 1 else 0 := by
        rw [Sq.drop_at s k hlt, Sq.upto_step]
      have HS : Hid _ := hst
      clear hst
      cases h44 : ((s[k].toNat : Int) == 44)
      · cases h59 : ((s[k].toNat : Int) == 59)
        · have HT := HS.out
          rw [h44, h59] at HT
          have HT2 : Hid _ := HT
          have n44 : ((s[k].toNat : Int) != 44) = true := by simp [bne, h44]
          have n59 : ((s[k].toNat : Int) != 59) = true := by simp [bne, h59]
          clear HT
          go_wp2
          go_round
          case rel => exact ⟨k + 1, by omega, by go_num, by have h1 := HR.out; have h2 := HT2.out; simp at h2; show _ = _; omega⟩
          case measure => simp [intOf]; omega
        · have HT := HS.out
          rw [h44, h59] at HT
          have HT2 : Hid (k = Sq.uptoN s.data.toList) := by have h1 := HR.out; simp at HT; show _ = _; omega
          have n44 : ((s[k].toNat : Int) != 44) = true := by simp [bne, h44]
          have n59 : ((s[k].toNat : Int) != 59) = false := by simp [bne, h59]
          clear HT
          go_wp2_with fail
          refine (number_any _ _ ?_).mono ?_
          · have : (⟨#[59]⟩ : ByteArray).size = 1 := rfl
            simp [this]; omega
          · rintro e w' ⟨rfl, rfl⟩
            rw [show (⟨#[59]⟩ : ByteArray) = Sq.bSemi from rfl, Sq.key_eq s k HT2.out]
            go_wp2
            go_ret2
            exact ⟨rfl, rfl⟩
      · have HT := HS.out
        rw [h44] at HT
        have HT2 : Hid (k = Sq.uptoN s.data.toList) := by have h1 := HR.out; simp at HT; show _ = _; omega
        have n44 : ((s[k].toNat : Int) != 44) = false := by simp [bne, h44]
        clear HT
        go_wp2_with fail
        refine (number_any _ _ ?_).mono ?_
        · have : (⟨#[59]⟩ : ByteArray).size = 1 := rfl
          simp [this]; omega
        · rintro e w' ⟨rfl, rfl⟩
          rw [show (⟨#[59]⟩ : ByteArray) = Sq.bSemi from rfl, Sq.key_eq s k HT2.out]
          go_wp2
          go_ret2
          exact ⟨rfl, rfl⟩
    · have HT2 : Hid (k = Sq.uptoN s.data.toList) := by
        have h1 := HR.out
        rw [Sq.drop_end s k (by omega)] at h1
        have h2 : k = Sq.uptoN s.data.toList := by simpa [Sq.uptoN, Sq.upto] using h1
        exact h2
      go_wp2_with fail
      refine (number_any _ _ ?_).mono ?_
      · have : (⟨#[59]⟩ : ByteArray).size = 1 := rfl
        simp [this]; omega
      · rintro e w' ⟨rfl, rfl⟩
        rw [show (⟨#[59]⟩ : ByteArray) = Sq.bSemi from rfl, Sq.key_eq s k HT2.out]
        go_wp2
        go_ret2
        exact ⟨rfl, rfl⟩

end Go.Proofs.YteibbdilhpdknaaGreatDoor

namespace Go.Proofs.YteibbdilhpdknaaGreatDoor
open Go.RowKit

/-- Texts that came in. -/
def Strs (w : World) (v : Value) (l : List ByteArray) : Prop := ∃ (a : Option Addr) (cap : Nat), v = .slice a l.length cap ∧ l.length ≤ 1000000000000000 ∧ (∀ s ∈ l, s.size ≤ 1000000000000000) ∧ ∀ k : Nat, ∀ _ : k < l.length, ∃ b, a = some b ∧ b.block < w.heap.size ∧ w.cell? (b.add k) = some (.string l[k])
/-- How much they are together, if not too much. -/
def Sq.bulk : List ByteArray → Nat → Option Nat
  | [], n => some n
  | s :: r, n => if 1048576 < n + s.size then none else Sq.bulk r (n + s.size)
def Sq.tooMuch (l : List ByteArray) : Bool := Decidable.decide (1048576 < l.length) || (Sq.bulk l l.length).isNone

set_option maxRecDepth 100000 in
set_option maxHeartbeats 1000000 in
theorem none_any (l : List ByteArray) (v : Value) (w : World) (h : Strs w v l) :
    Calls Tryz.prog 18 #[v] w fun e w' => e = .returned (.bool (Sq.tooMuch l)) ∧ w' = w := by
  obtain ⟨a, cap, rfl, hl, hsz, hat⟩ := h
  have HAT : Hid _ := hat
  have HSZ : Hid _ := hsz
  clear hat hsz
  by_cases hbig : 1048576 < l.length
  · have HE : Hid (Sq.tooMuch l = true) := by show _ = _; unfold Sq.tooMuch; simp [hbig]
    go_enter Tryz.func18, Tryz.ntmps18
    go_wp2
    go_ret
    exact ⟨by rw [HE.out]; rfl, rfl⟩
  · have HE : Hid (Sq.tooMuch l = (Sq.bulk l l.length).isNone) := by show _ = _; unfold Sq.tooMuch; simp [hbig]
    go_enter Tryz.func18, Tryz.ntmps18
    go_wp2
    go_loop [3, 4] (fun n i => ∃ k m : Nat, k ≤ l.length ∧ m ≤ 1048576 ∧ n = .int .i64 m ∧ i = .int .i64 k ∧ Hid (Sq.bulk l l.length = Sq.bulk (l.drop k) m)) (fun _ i => l.length - (intOf i).toNat)
    case atStart => exact ⟨0, l.length, Nat.zero_le _, by omega, rfl, rfl, rfl⟩
    case round =>
      obtain ⟨k, m, hk, hm, rfl, rfl, HR⟩ := hrel
      by_cases hlt : k < l.length
      · obtain ⟨b, rfl, hb, hc⟩ := HAT.out k hlt
        have hs := HSZ.out l[k] (List.getElem_mem hlt)
        have hst : Sq.bulk (l.drop k) m = if 1048576 < m + l[k].size then none else Sq.bulk (l.drop (k + 1)) (m + l[k].size) := by
          rw [List.drop_eq_getElem_cons hlt, Sq.bulk]
        have HS : Hid _ := hst
        obtain ⟨s, hs0⟩ : ∃ s, s = l[k] := ⟨_, rfl⟩
        rw [← hs0] at hs hc HS
        clear hst hs0
        by_cases hmm : 1048576 < m + s.size
        · go_wp2
          go_ret
          refine ⟨?_, rfl⟩
          rw [HE.out, HR.out, HS.out, if_pos hmm]; rfl
        · go_wp2
          go_round
          case rel => exact ⟨k + 1, m + s.size, by omega, by omega, by go_num, by go_num, by show _ = _; rw [HR.out, HS.out, if_neg hmm]⟩
          case measure => simp [intOf]; omega
      · have HZ : Hid (l.drop k = []) := List.drop_eq_nil_of_le (by omega)
        go_wp2
        go_ret
        refine ⟨?_, rfl⟩
        rw [HE.out, HR.out, HZ.out]; rfl

end Go.Proofs.YteibbdilhpdknaaGreatDoor
