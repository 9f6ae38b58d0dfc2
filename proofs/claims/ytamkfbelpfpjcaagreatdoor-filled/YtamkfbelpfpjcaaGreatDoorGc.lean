import Derived.Test.YtamkfbelpfpjcaaGreatDoorProg
import Derived.WalkSpells
import Derived.WalkLawsBesides
import Derived.Lib.ConvBytes
import Derived.Lib.AtoiErrMem
import Derived.Lib.Strings
import Derived.Deep.Cut
import Derived.Test.YtamkfbelpfpjcaaGreatDoorGa
set_option linter.unusedVariables false
set_option linter.unusedSimpArgs false

namespace Go.Proofs.YtamkfbelpfpjcaaGreatDoor
open Go.RowKit

set_option maxHeartbeats 400000 in
theorem isDigit_any (c : Int) (w : World) :
    Calls Tryz.prog 110 #[.int .u8 c] w fun e w' => e = .returned (.bool (Sq.isDigit c)) ∧ w' = w := by
  unfold Sq.isDigit Sq.rng
  by_cases h1 : 48 ≤ c
  all_goals (try by_cases h2 : c ≤ 57)
  all_goals
    go_enter Tryz.func110, Tryz.ntmps110
    go_wp2
    go_ret
    exact ⟨by simp [*] <;> omega, rfl⟩

set_option maxHeartbeats 400000 in
theorem isLetter_any (c : Int) (w : World) :
    Calls Tryz.prog 108 #[.int .u8 c] w fun e w' => e = .returned (.bool (Sq.isLetter c)) ∧ w' = w := by
  unfold Sq.isLetter Sq.rng
  by_cases h1 : 97 ≤ c
  all_goals (try by_cases h2 : c ≤ 122)
  all_goals
    go_enter Tryz.func108, Tryz.ntmps108
    go_wp2
    go_ret
    exact ⟨by simp [*] <;> omega, rfl⟩

set_option maxHeartbeats 400000 in
theorem isGap_any (c : Int) (w : World) :
    Calls Tryz.prog 68 #[.int .u8 c] w fun e w' => e = .returned (.bool (Sq.isGap c)) ∧ w' = w := by
  unfold Sq.isGap
  go_enter Tryz.func68, Tryz.ntmps68
  go_wp2
  all_goals
    go_ret
    exact ⟨by simp [*], rfl⟩

set_option maxHeartbeats 400000 in
theorem isInText_any (c : Int) (w : World) :
    Calls Tryz.prog 144 #[.int .u8 c] w fun e w' => e = .returned (.bool (Sq.isInText c)) ∧ w' = w := by
  unfold Sq.isInText Sq.rng
  go_enter Tryz.func144, Tryz.ntmps144
  go_wp2
  all_goals
    go_ret
    exact ⟨by simp_all [bne] <;> omega, rfl⟩

set_option maxHeartbeats 400000 in
theorem isPair_any (c d : Int) (w : World) :
    Calls Tryz.prog 113 #[.int .u8 c, .int .u8 d] w fun e w' => e = .returned (.bool (Sq.isPair c d)) ∧ w' = w := by
  unfold Sq.isPair
  go_enter Tryz.func113, Tryz.ntmps113
  go_wp2
  all_goals
    go_ret
    exact ⟨by simp [*], rfl⟩

set_option maxHeartbeats 400000 in
theorem isSign_any (c : Int) (w : World) :
    Calls Tryz.prog 114 #[.int .u8 c] w fun e w' => e = .returned (.bool (Sq.isSign c)) ∧ w' = w := by
  unfold Sq.isSign
  go_enter Tryz.func114, Tryz.ntmps114
  go_wp2
  all_goals
    go_ret
    exact ⟨by simp_all, rfl⟩

set_option maxHeartbeats 400000 in
theorem byteAt_any (s : ByteArray) (i : Int) (w : World) (h0 : 0 ≤ i) (hs : s.size ≤ 1000) :
    Calls Tryz.prog 107 #[.string s, .int .i64 i] w fun e w' => e = .returned (.int .u8 (Sq.byteAt s i.toNat)) ∧ w' = w := by
  obtain ⟨k, rfl⟩ := Int.eq_ofNat_of_zero_le h0
  rw [Int.toNat_natCast]
  by_cases hk : k < s.size
  · have e := Sq.byteAt_lt s k hk
    have H : Hid _ := e
    clear e
    go_enter Tryz.func107, Tryz.ntmps107
    go_wp2
    go_ret
    exact ⟨by rw [H.out]; rfl, rfl⟩
  · have e := Sq.byteAt_ge s k (by omega)
    have H : Hid _ := e
    clear e
    go_enter Tryz.func107, Tryz.ntmps107
    go_wp2
    go_ret
    exact ⟨by rw [H.out]; rfl, rfl⟩

end Go.Proofs.YtamkfbelpfpjcaaGreatDoor

namespace Go.Proofs.YtamkfbelpfpjcaaGreatDoor
open Go.RowKit

set_option maxHeartbeats 400000 in
theorem endOfDigits_any (s : ByteArray) (i : Int) (w : World) (h0 : 0 ≤ i) (hi : i ≤ s.size) (hs : s.size ≤ 1000) :
    Calls Tryz.prog 111 #[.string s, .int .i64 i] w fun e w' => e = .returned (.int .i64 ((i.toNat + Sq.cnt Sq.isDigit s i.toNat : Nat) : Int)) ∧ w' = w := by
  obtain ⟨a, rfl⟩ := Int.eq_ofNat_of_zero_le h0
  rw [Int.toNat_natCast]
  have ha : a ≤ s.size := by omega
  clear hi h0
  go_enter Tryz.func111, Tryz.ntmps111
  go_wp2
  go_loop [5] (fun i => ∃ k : Nat, k ≤ s.size ∧ i = .int .i64 k ∧ Hid (k + Sq.cnt Sq.isDigit s k = a + Sq.cnt Sq.isDigit s a)) (fun i => s.size - (intOf i).toNat)
  case atStart => exact ⟨a, ha, rfl, rfl⟩
  case round =>
    obtain ⟨k, hk, rfl, hr⟩ := hrel
    cases hd : Sq.isDigit (Sq.byteAt s k)
    · have hz := Sq.cnt_stop Sq.isDigit s k hd
      have HZ : Hid _ := hz
      clear hz
      go_wp2_with (first | (go_at_call 107; refine (byteAt_any s k _ (by omega) hs).mono ?_; rintro e w' ⟨rfl, rfl⟩; rw [Int.toNat_natCast]) | (go_at_call 110; refine (isDigit_any _ _).mono ?_; rintro e w' ⟨rfl, rfl⟩; rw [hd]))
      go_ret
      have hr := hr.out
      have hz := HZ.out
      rw [hz] at hr
      exact ⟨by rw [← hr]; rfl, rfl⟩
    · obtain ⟨hlt, hz⟩ := Sq.cnt_step Sq.isDigit rfl s k hd
      have HZ : Hid _ := hz
      clear hz
      go_wp2_with (first | (go_at_call 107; refine (byteAt_any s k _ (by omega) hs).mono ?_; rintro e w' ⟨rfl, rfl⟩; rw [Int.toNat_natCast]) | (go_at_call 110; refine (isDigit_any _ _).mono ?_; rintro e w' ⟨rfl, rfl⟩; rw [hd]))
      go_round
      case rel => exact ⟨k + 1, by omega, by go_num, by have := HZ.out; have hr := hr.out; show _ = _; omega⟩
      case measure => simp [intOf]; omega


set_option maxHeartbeats 400000 in
theorem endOfLetters_any (s : ByteArray) (i : Int) (w : World) (h0 : 0 ≤ i) (hi : i ≤ s.size) (hs : s.size ≤ 1000) :
    Calls Tryz.prog 109 #[.string s, .int .i64 i] w fun e w' => e = .returned (.int .i64 ((i.toNat + Sq.cnt Sq.isName s i.toNat : Nat) : Int)) ∧ w' = w := by
  obtain ⟨a, rfl⟩ := Int.eq_ofNat_of_zero_le h0
  rw [Int.toNat_natCast]
  have ha : a ≤ s.size := by omega
  clear hi h0
  go_enter Tryz.func109, Tryz.ntmps109
  go_wp2
  go_loop [5] (fun i => ∃ k : Nat, k ≤ s.size ∧ i = .int .i64 k ∧ Hid (k + Sq.cnt Sq.isName s k = a + Sq.cnt Sq.isName s a)) (fun i => s.size - (intOf i).toNat)
  case atStart => exact ⟨a, ha, rfl, rfl⟩
  case round =>
    obtain ⟨k, hk, rfl, hr⟩ := hrel
    have hor : Sq.isName (Sq.byteAt s k) = (Sq.isLetter (Sq.byteAt s k) || Sq.isDigit (Sq.byteAt s k)) := rfl
    cases hl : Sq.isLetter (Sq.byteAt s k)
    · cases hd : Sq.isDigit (Sq.byteAt s k)
      · rw [hl, hd] at hor
        have hz := Sq.cnt_stop Sq.isName s k hor
        have HZ : Hid _ := hz
        clear hz hor
        go_wp2_with (first | (go_at_call 107; refine (byteAt_any s k _ (by omega) hs).mono ?_; rintro e w' ⟨rfl, rfl⟩; rw [Int.toNat_natCast]) | (go_at_call 110; refine (isDigit_any _ _).mono ?_; rintro e w' ⟨rfl, rfl⟩; rw [hd]) | (go_at_call 108; refine (isLetter_any _ _).mono ?_; rintro e w' ⟨rfl, rfl⟩; rw [hl]))
        go_ret
        have hr := hr.out
        have hz := HZ.out
        rw [hz] at hr
        exact ⟨by rw [← hr]; rfl, rfl⟩
      · rw [hl, hd] at hor
        obtain ⟨hlt, hz⟩ := Sq.cnt_step Sq.isName rfl s k hor
        have HZ : Hid _ := hz
        clear hz hor
        go_wp2_with (first | (go_at_call 107; refine (byteAt_any s k _ (by omega) hs).mono ?_; rintro e w' ⟨rfl, rfl⟩; rw [Int.toNat_natCast]) | (go_at_call 110; refine (isDigit_any _ _).mono ?_; rintro e w' ⟨rfl, rfl⟩; rw [hd]) | (go_at_call 108; refine (isLetter_any _ _).mono ?_; rintro e w' ⟨rfl, rfl⟩; rw [hl]))
        go_round
        case rel => exact ⟨k + 1, by omega, by go_num, by have := HZ.out; have hr := hr.out; show _ = _; omega⟩
        case measure => simp [intOf]; omega
    · rw [hl, Bool.true_or] at hor
      obtain ⟨hlt, hz⟩ := Sq.cnt_step Sq.isName rfl s k hor
      have HZ : Hid _ := hz
      clear hz hor
      go_wp2_with (first | (go_at_call 107; refine (byteAt_any s k _ (by omega) hs).mono ?_; rintro e w' ⟨rfl, rfl⟩; rw [Int.toNat_natCast]) | (go_at_call 108; refine (isLetter_any _ _).mono ?_; rintro e w' ⟨rfl, rfl⟩; rw [hl]))
      go_round
      case rel => exact ⟨k + 1, by omega, by go_num, by have := HZ.out; have hr := hr.out; show _ = _; omega⟩
      case measure => simp [intOf]; omega

set_option maxHeartbeats 400000 in
theorem endOfText_any (s : ByteArray) (i : Int) (w : World) (h0 : 0 ≤ i) (hi : i < s.size) (hs : s.size ≤ 1000) :
    Calls Tryz.prog 112 #[.string s, .int .i64 i] w fun e w' => e = .returned (.int .i64 ((Sq.endOfText s i.toNat : Nat) : Int)) ∧ w' = w := by
  obtain ⟨a, rfl⟩ := Int.eq_ofNat_of_zero_le h0
  rw [Int.toNat_natCast]
  have ha : a < s.size := by omega
  clear hi h0
  have HE : Hid (Sq.endOfText s a = if Sq.byteAt s (a + 1 + Sq.cnt Sq.isInText s (a + 1)) == 39 then a + 1 + Sq.cnt Sq.isInText s (a + 1) + 1 else a) := rfl
  go_enter Tryz.func112, Tryz.ntmps112
  go_wp2
  go_loop [5] (fun i => ∃ k : Nat, k ≤ s.size ∧ i = .int .i64 k ∧ Hid (k + Sq.cnt Sq.isInText s k = a + 1 + Sq.cnt Sq.isInText s (a + 1))) (fun i => s.size - (intOf i).toNat)
  case atStart => exact ⟨a + 1, by omega, by go_num, rfl⟩
  case round =>
    obtain ⟨k, hk, rfl, hr⟩ := hrel
    cases hd : Sq.isInText (Sq.byteAt s k)
    · have hz := Sq.cnt_stop Sq.isInText s k hd
      have hr := hr.out
      rw [hz, Nat.add_zero] at hr
      have HE := HE.out
      rw [← hr] at HE
      have HH : Hid _ := HE
      clear HE hz hr
      by_cases hq : Sq.byteAt s k = 39
      · have hq' : (Sq.byteAt s k != 39) = false := by simp [hq]
        have HQ : Hid _ := hq
        clear hq
        go_wp2_with (first | (go_at_call 107; refine (byteAt_any s k _ (by omega) hs).mono ?_; rintro e w' ⟨rfl, rfl⟩; rw [Int.toNat_natCast]) | (go_at_call 144; refine (isInText_any _ _).mono ?_; rintro e w' ⟨rfl, rfl⟩; rw [hd]))
        go_ret
        exact ⟨by rw [HH.out, HQ.out]; rfl, rfl⟩
      · have hq' : (Sq.byteAt s k != 39) = true := by simp [hq]
        go_wp2_with (first | (go_at_call 107; refine (byteAt_any s k _ (by omega) hs).mono ?_; rintro e w' ⟨rfl, rfl⟩; rw [Int.toNat_natCast]) | (go_at_call 144; refine (isInText_any _ _).mono ?_; rintro e w' ⟨rfl, rfl⟩; rw [hd]))
        go_ret
        exact ⟨by rw [HH.out, if_neg (by simp [hq])]; rfl, rfl⟩
    · obtain ⟨hlt, hz⟩ := Sq.cnt_step Sq.isInText rfl s k hd
      have HZ : Hid _ := hz
      clear hz
      go_wp2_with (first | (go_at_call 107; refine (byteAt_any s k _ (by omega) hs).mono ?_; rintro e w' ⟨rfl, rfl⟩; rw [Int.toNat_natCast]) | (go_at_call 144; refine (isInText_any _ _).mono ?_; rintro e w' ⟨rfl, rfl⟩; rw [hd]))
      go_round
      case rel => exact ⟨k + 1, by omega, by go_num, by have := HZ.out; have hr := hr.out; show _ = _; omega⟩
      case measure => simp [intOf]; omega

end Go.Proofs.YtamkfbelpfpjcaaGreatDoor

namespace Go.Proofs.YtamkfbelpfpjcaaGreatDoor
open Go.RowKit

set_option maxHeartbeats 400000 in
theorem endOf_any (s : ByteArray) (i : Int) (w : World) (h0 : 0 ≤ i) (hi : i < s.size) (hs : s.size ≤ 1000) :
    Calls Tryz.prog 69 #[.string s, .int .i64 i] w fun e w' => e = .returned (.int .i64 ((Sq.endOf s i.toNat : Nat) : Int)) ∧ w' = w := by
  obtain ⟨a, rfl⟩ := Int.eq_ofNat_of_zero_le h0
  rw [Int.toNat_natCast]
  have ha : a < s.size := by omega
  clear hi h0
  cases hl : Sq.isLetter (Sq.byteAt s a)
  case true =>
    have HE : Hid (Sq.endOf s a = a + Sq.cnt Sq.isName s a) := by show Sq.endOf s a = _; unfold Sq.endOf; rw [hl]; rfl
    go_enter Tryz.func69, Tryz.ntmps69
    go_wp2_with (first | (go_at_call 107; refine (byteAt_any s _ _ (by omega) hs).mono ?_; rintro e w' ⟨rfl, rfl⟩; rw [Int.toNat_natCast]) | (go_at_call 108; refine (isLetter_any _ _).mono ?_; rintro e w' ⟨rfl, rfl⟩; rw [hl]) | (go_at_call 109; refine (endOfLetters_any s a _ (by omega) (by omega) hs).mono ?_; rintro e w' ⟨rfl, rfl⟩; rw [Int.toNat_natCast]))
    go_ret
    exact ⟨by rw [HE.out]; rfl, rfl⟩
  cases hd : Sq.isDigit (Sq.byteAt s a)
  case true =>
    have HE : Hid (Sq.endOf s a = a + Sq.cnt Sq.isDigit s a) := by show Sq.endOf s a = _; unfold Sq.endOf; rw [hl, hd]; rfl
    go_enter Tryz.func69, Tryz.ntmps69
    go_wp2_with (first | (go_at_call 107; refine (byteAt_any s _ _ (by omega) hs).mono ?_; rintro e w' ⟨rfl, rfl⟩; rw [Int.toNat_natCast]) | (go_at_call 108; refine (isLetter_any _ _).mono ?_; rintro e w' ⟨rfl, rfl⟩; rw [hl]) | (go_at_call 110; refine (isDigit_any _ _).mono ?_; rintro e w' ⟨rfl, rfl⟩; rw [hd]) | (go_at_call 111; refine (endOfDigits_any s a _ (by omega) (by omega) hs).mono ?_; rintro e w' ⟨rfl, rfl⟩; rw [Int.toNat_natCast]))
    go_ret
    exact ⟨by rw [HE.out]; rfl, rfl⟩
  cases hq : Sq.byteAt s a == 39
  case true =>
    have HE : Hid (Sq.endOf s a = Sq.endOfText s a) := by show Sq.endOf s a = _; unfold Sq.endOf; rw [hl, hd, hq]; rfl
    have HQ : Hid _ := hq
    clear hq
    go_enter Tryz.func69, Tryz.ntmps69
    go_wp2_with (first | (go_at_call 107; refine (byteAt_any s _ _ (by omega) hs).mono ?_; rintro e w' ⟨rfl, rfl⟩; rw [Int.toNat_natCast]) | (go_at_call 108; refine (isLetter_any _ _).mono ?_; rintro e w' ⟨rfl, rfl⟩; rw [hl]) | (go_at_call 110; refine (isDigit_any _ _).mono ?_; rintro e w' ⟨rfl, rfl⟩; rw [hd]; have hq := HQ.out) | (go_at_call 112; refine (endOfText_any s a _ (by omega) (by omega) hs).mono ?_; rintro e w' ⟨rfl, rfl⟩; rw [Int.toNat_natCast]))
    go_ret
    exact ⟨by rw [HE.out]; rfl, rfl⟩
  have hbd := Sq.byteAt_bd s (a + 1)
  cases hp : Sq.isPair (Sq.byteAt s a) (Sq.byteAt s (a + 1))
  case true =>
    have HE : Hid (Sq.endOf s a = a + 2) := by show Sq.endOf s a = _; unfold Sq.endOf; rw [hl, hd, hq, hp]; rfl
    go_enter Tryz.func69, Tryz.ntmps69
    go_wp2_with (first | (go_at_call 107; refine (byteAt_any s _ _ (by omega) hs).mono ?_; rintro e w' ⟨rfl, rfl⟩; first | rw [Int.toNat_natCast] | rw [show ((a : Int) + 1).toNat = a + 1 from by omega]) | (go_at_call 108; refine (isLetter_any _ _).mono ?_; rintro e w' ⟨rfl, rfl⟩; rw [hl]) | (go_at_call 110; refine (isDigit_any _ _).mono ?_; rintro e w' ⟨rfl, rfl⟩; rw [hd]) | (go_at_call 113; refine (isPair_any _ _ _).mono ?_; rintro e w' ⟨rfl, rfl⟩; rw [hp]))
    go_ret
    exact ⟨by rw [HE.out]; rfl, rfl⟩
  cases hg : Sq.isSign (Sq.byteAt s a)
  case true =>
    have HE : Hid (Sq.endOf s a = a + 1) := by show Sq.endOf s a = _; unfold Sq.endOf; rw [hl, hd, hq, hp, hg]; rfl
    go_enter Tryz.func69, Tryz.ntmps69
    go_wp2_with (first | (go_at_call 107; refine (byteAt_any s _ _ (by omega) hs).mono ?_; rintro e w' ⟨rfl, rfl⟩; first | rw [Int.toNat_natCast] | rw [show ((a : Int) + 1).toNat = a + 1 from by omega]) | (go_at_call 108; refine (isLetter_any _ _).mono ?_; rintro e w' ⟨rfl, rfl⟩; rw [hl]) | (go_at_call 110; refine (isDigit_any _ _).mono ?_; rintro e w' ⟨rfl, rfl⟩; rw [hd]) | (go_at_call 113; refine (isPair_any _ _ _).mono ?_; rintro e w' ⟨rfl, rfl⟩; rw [hp]) | (go_at_call 114; refine (isSign_any _ _).mono ?_; rintro e w' ⟨rfl, rfl⟩; rw [hg]))
    go_ret
    exact ⟨by rw [HE.out]; rfl, rfl⟩
  case false =>
    have HE : Hid (Sq.endOf s a = a) := by show Sq.endOf s a = _; unfold Sq.endOf; rw [hl, hd, hq, hp, hg]; rfl
    go_enter Tryz.func69, Tryz.ntmps69
    go_wp2_with (first | (go_at_call 107; refine (byteAt_any s _ _ (by omega) hs).mono ?_; rintro e w' ⟨rfl, rfl⟩; first | rw [Int.toNat_natCast] | rw [show ((a : Int) + 1).toNat = a + 1 from by omega]) | (go_at_call 108; refine (isLetter_any _ _).mono ?_; rintro e w' ⟨rfl, rfl⟩; rw [hl]) | (go_at_call 110; refine (isDigit_any _ _).mono ?_; rintro e w' ⟨rfl, rfl⟩; rw [hd]) | (go_at_call 113; refine (isPair_any _ _ _).mono ?_; rintro e w' ⟨rfl, rfl⟩; rw [hp]) | (go_at_call 114; refine (isSign_any _ _).mono ?_; rintro e w' ⟨rfl, rfl⟩; rw [hg]))
    go_ret
    exact ⟨by rw [HE.out]; rfl, rfl⟩

set_option maxHeartbeats 800000 in
theorem isKeyword_any (s : ByteArray) (w : World) :
    Calls Tryz.prog 115 #[.string s] w fun e w' => e = .returned (.bool (Sq.isKeyword s)) ∧ w' = w := by
  unfold Sq.isKeyword Sq.keywords
  go_enter Tryz.func115, Tryz.ntmps115
  go_wp2
  all_goals
    go_ret
    exact ⟨by rw [← ByteArray.toList_eq]; simp_all, rfl⟩

set_option maxHeartbeats 400000 in
theorem bounded_any (k : Int) (t : ByteArray) (m : Int) (w : World) (h0 : 0 ≤ m) (hs : t.size ≤ 1000) :
    Calls Tryz.prog 116 #[.int .i64 k, .string t, .int .i64 m] w fun e w' => e = .returned (.agg #[.int .i64 (Sq.bounded k t m.toNat).kind, .string (Sq.bounded k t m.toNat).text]) ∧ Below w.heap.size w w' := by
  by_cases h : t.size ≤ m.toNat
  · have h' : (t.size : Int) ≤ m := by omega
    have HE : Hid (Sq.bounded k t m.toNat = ⟨k, t⟩) := by show _ = _; unfold Sq.bounded; rw [if_pos h]
    go_enter Tryz.func116, Tryz.ntmps116
    go_wp2
    exact bodyPost_ret (v := .agg #[.int .i64 k, .string t]) (by simp [results, Tryz.results116, go_sem]) rfl ⟨by rw [HE.out], (Below.refl _ _).alloc (Nat.le_refl _) _⟩
  · have h' : m < (t.size : Int) := by omega
    have HE : Hid (Sq.bounded k t m.toNat = ⟨0, ⟨#[]⟩⟩) := by show _ = _; unfold Sq.bounded; rw [if_neg h]
    go_enter Tryz.func116, Tryz.ntmps116
    go_wp2
    exact bodyPost_ret (v := .agg #[.int .i64 0, .string ⟨#[]⟩]) (by simp [results, Tryz.results116, go_sem]) rfl ⟨by rw [HE.out], (Below.refl _ _).alloc (Nat.le_refl _) _⟩

end Go.Proofs.YtamkfbelpfpjcaaGreatDoor

namespace Go.Proofs.YtamkfbelpfpjcaaGreatDoor
open Go.RowKit

/-- What is told of all blocks that a world had: their cells and marks. -/
theorem bcell {W w1 : World} (hb : Below W.heap.size W w1) : (∀ b o, b < W.heap.size → w1.cell? ⟨b, o, none⟩ = W.cell? ⟨b, o, none⟩) ∧ (∀ b o, b < W.heap.size → w1.frozen? ⟨b, o, none⟩ = W.frozen? ⟨b, o, none⟩) :=
  ⟨fun b o h => hb.cell (p := ⟨b, o, none⟩) h, fun b o h => hb.frozen (p := ⟨b, o, none⟩) h⟩

theorem conv_round (W : World) (s : ByteArray) : ∃ W1 cap, (convert 9 51 (.string s)).run Tryz.prog W = .ok (.slice (some ⟨W.heap.size, 0, none⟩) s.size cap) W1 ∧
    (convert 51 9 (.slice (some ⟨W.heap.size, 0, none⟩) s.size cap)).run Tryz.prog W1 = .ok (.string s) W1 ∧ Below W.heap.size W W1 ∧ W1.heap.size = W.heap.size + 1 := by
  refine ⟨Lib.bytesWorld W 5 s, _, Lib.run_convert_string_bytes W 9 51 5 s Tryz.underlying9 Tryz.underlying51 Tryz.underlying5, ?_, Lib.bytesWorld_below W 5 s, Lib.bytesWorld_size W 5 s⟩
  have h := run_convert_bytes_back (P := Tryz.prog) (Lib.bytesWorld W 5 s) 51 9 5 ⟨W.heap.size, 0, none⟩ (grownCap W s.size 0 5) s.data.toList Tryz.underlying51 Tryz.underlying5 Tryz.underlying9 (fun j hj => by
    have h6 := Lib.bytesWorld_cell W 5 s j (by simpa using hj)
    have e : (⟨W.heap.size, 0, none⟩ : Addr).add j = ⟨W.heap.size, j, none⟩ := by unfold Addr.add; split <;> simp_all
    rw [e, h6]
    simp [List.getD, List.getElem?_eq_getElem hj])
  have e1 : s.data.toList.length = s.size := by simp
  have e2 : (⟨s.data.toList.toArray⟩ : ByteArray) = s := by cases s; simp
  rw [e1, e2] at h
  exact h

theorem extract_small (s : ByteArray) (a b : Nat) (hs : s.size ≤ 1000) : (s.extract a b).size ≤ 1000 := by
  have h := Lib.size_eq (s.extract a b)
  rw [Lib.extract_data, List.length_take, List.length_drop, ← Lib.size_eq] at h
  omega

theorem slice_in (s : ByteArray) (h : 2 ≤ s.size) (wx : World) : (Instr.slice 9 (.string s) (some (.int .i64 1)) (some (.int .i64 ((s.size : Int) - 1))) none).run Tryz.prog wx = .ok (.string (s.extract 1 (s.size - 1))) wx := by
  have := run_slice_string (P := Tryz.prog) (w := wx) 9 s .i64 .i64 1 ((s.size : Int) - 1) Tryz.underlying9 (by omega) (by omega) (by omega)
  rw [this, show ((s.size : Int) - 1).toNat = s.size - 1 from by omega, show (1 : Int).toNat = 1 from rfl]

set_option maxHeartbeats 400000 in
theorem wordOf_any (s : ByteArray) (w : World) (hs : s.size ≤ 1000) :
    Calls Tryz.prog 70 #[.string s] w fun e w' => e = .returned (.agg #[.int .i64 (Sq.wordOf s).kind, .string (Sq.wordOf s).text]) ∧ Below w.heap.size w w' := by
  obtain ⟨W1, cap, hc1, hc2, hb1, hz1⟩ := conv_round (w.alloc (.cells #[.int .i64 0, .string ⟨#[]⟩] 125)) s
  simp only [World.size_alloc] at hc1 hc2 hz1
  have hbw : Below w.heap.size w W1 := ((Below.refl _ w).alloc (Nat.le_refl _) _).trans (hb1.mono (by simp))
  obtain ⟨k1, k2⟩ := bcell hb1
  have c0 := k1 w.heap.size 0 (by simp)
  have c1 := k1 w.heap.size 1 (by simp)
  have f0 := k2 w.heap.size 0 (by simp)
  have f1 := k2 w.heap.size 1 (by simp)
  simp [go_sem] at c0 c1 f0 f1
  clear hb1 k1 k2
  have ext : ∀ w2, Below W1.heap.size W1 w2 → w2.cell? ⟨w.heap.size, 0, none⟩ = some (.int .i64 0) ∧ w2.cell? ⟨w.heap.size, 1, none⟩ = some (.string ⟨#[]⟩) ∧ w2.frozen? ⟨w.heap.size, 0, none⟩ = false ∧ w2.frozen? ⟨w.heap.size, 1, none⟩ = false ∧ Below w.heap.size w w2 := by
    intro w2 hb
    obtain ⟨k1, k2⟩ := bcell hb
    exact ⟨(k1 _ _ (by omega)).trans c0, (k1 _ _ (by omega)).trans c1, (k2 _ _ (by omega)).trans f0, (k2 _ _ (by omega)).trans f1, hbw.trans (hb.mono (by omega))⟩
  have EX : Hid _ := ext
  clear ext
  cases hk : Sq.isKeyword s
  case true =>
    have HE : Hid (Sq.wordOf s = ⟨1, s⟩) := by show Sq.wordOf s = _; unfold Sq.wordOf; rw [hk]; rfl
    go_enter Tryz.func70, Tryz.ntmps70
    go_wp2_with (first | (go_at_call 107; refine (byteAt_any s _ _ (by omega) hs).mono ?_; rintro e w' ⟨rfl, rfl⟩) | (go_at_call 115; refine (isKeyword_any s _).mono ?_; rintro e w' ⟨rfl, rfl⟩; rw [hk]))
    exact bodyPost_ret (v := .agg #[.int .i64 1, .string s]) (by simp [results, Tryz.results70, go_sem, c0, c1]) rfl ⟨by rw [HE.out], (hbw.setCell (Nat.le_refl _) _).setCell (Nat.le_refl _) _⟩
  cases hl : Sq.isLetter (Sq.byteAt s 0)
  case true =>
    have HE : Hid (Sq.wordOf s = Sq.bounded 2 s 8) := by show Sq.wordOf s = _; unfold Sq.wordOf; rw [hk, hl]; rfl
    go_enter Tryz.func70, Tryz.ntmps70
    go_wp2_with (first | (go_at_call 107; refine (byteAt_any s _ _ (by omega) hs).mono ?_; rintro e w' ⟨rfl, rfl⟩; rw [show ((0 : Int)).toNat = 0 from rfl]) | (go_at_call 115; refine (isKeyword_any s _).mono ?_; rintro e w' ⟨rfl, rfl⟩; rw [hk]) | (go_at_call 108; refine (isLetter_any _ _).mono ?_; rintro e w' ⟨rfl, rfl⟩; rw [hl]) | (go_at_call 116; refine (bounded_any 2 s 8 _ (by omega) hs).mono ?_; rintro e w2 ⟨rfl, hb2⟩; obtain ⟨d0, d1, g0, g1, hbw2⟩ := EX.out w2 hb2; rw [show (8 : Int).toNat = 8 from rfl]))
    exact bodyPost_ret (v := .agg #[.int .i64 (Sq.bounded 2 s 8).kind, .string (Sq.bounded 2 s 8).text]) (by simp [results, Tryz.results70, go_sem, d0, d1]) rfl ⟨by rw [HE.out], (hbw2.setCell (Nat.le_refl _) _).setCell (Nat.le_refl _) _⟩
  cases hd : Sq.isDigit (Sq.byteAt s 0)
  case true =>
    have HE : Hid (Sq.wordOf s = Sq.bounded 3 s 9) := by show Sq.wordOf s = _; unfold Sq.wordOf; rw [hk, hl, hd]; rfl
    go_enter Tryz.func70, Tryz.ntmps70
    go_wp2_with (first | (go_at_call 107; refine (byteAt_any s _ _ (by omega) hs).mono ?_; rintro e w' ⟨rfl, rfl⟩; rw [show ((0 : Int)).toNat = 0 from rfl]) | (go_at_call 115; refine (isKeyword_any s _).mono ?_; rintro e w' ⟨rfl, rfl⟩; rw [hk]) | (go_at_call 108; refine (isLetter_any _ _).mono ?_; rintro e w' ⟨rfl, rfl⟩; rw [hl]) | (go_at_call 110; refine (isDigit_any _ _).mono ?_; rintro e w' ⟨rfl, rfl⟩; rw [hd]) | (go_at_call 116; refine (bounded_any 3 s 9 _ (by omega) hs).mono ?_; rintro e w2 ⟨rfl, hb2⟩; obtain ⟨d0, d1, g0, g1, hbw2⟩ := EX.out w2 hb2; rw [show (9 : Int).toNat = 9 from rfl]))
    exact bodyPost_ret (v := .agg #[.int .i64 (Sq.bounded 3 s 9).kind, .string (Sq.bounded 3 s 9).text]) (by simp [results, Tryz.results70, go_sem, d0, d1]) rfl ⟨by rw [HE.out], (hbw2.setCell (Nat.le_refl _) _).setCell (Nat.le_refl _) _⟩
  cases hq : Sq.byteAt s 0 == 39
  case false =>
    have HE : Hid (Sq.wordOf s = ⟨1, s⟩) := by show Sq.wordOf s = _; unfold Sq.wordOf; rw [hk, hl, hd, hq]; rfl
    go_enter Tryz.func70, Tryz.ntmps70
    go_wp2_with (first | (go_at_call 107; refine (byteAt_any s _ _ (by omega) hs).mono ?_; rintro e w' ⟨rfl, rfl⟩; rw [show ((0 : Int)).toNat = 0 from rfl]) | (go_at_call 115; refine (isKeyword_any s _).mono ?_; rintro e w' ⟨rfl, rfl⟩; rw [hk]) | (go_at_call 108; refine (isLetter_any _ _).mono ?_; rintro e w' ⟨rfl, rfl⟩; rw [hl]) | (go_at_call 110; refine (isDigit_any _ _).mono ?_; rintro e w' ⟨rfl, rfl⟩; rw [hd]))
    exact bodyPost_ret (v := .agg #[.int .i64 1, .string s]) (by simp [results, Tryz.results70, go_sem, c0, c1]) rfl ⟨by rw [HE.out], (hbw.setCell (Nat.le_refl _) _).setCell (Nat.le_refl _) _⟩
  by_cases hz : 2 ≤ s.size
  · have HE : Hid (Sq.wordOf s = Sq.bounded 4 (s.extract 1 (s.size - 1)) 12) := by show Sq.wordOf s = _; unfold Sq.wordOf; rw [hk, hl, hd, hq, decide_eq_true hz]; rfl
    have HQ : Hid (Sq.byteAt s 0 = 39) := eq_of_beq hq
    have hsl := slice_in s hz
    have hex := extract_small s 1 (s.size - 1) hs
    have hz2 : (2 : Int) ≤ (s.size : Int) := by omega
    clear hq hl hd hz
    go_enter Tryz.func70, Tryz.ntmps70
    go_wp2_with (first | (go_at_call 107; refine (byteAt_any s _ _ (by omega) hs).mono ?_; rintro e w' ⟨rfl, rfl⟩; rw [show ((0 : Int)).toNat = 0 from rfl, HQ.out]) | (go_at_call 115; refine (isKeyword_any s _).mono ?_; rintro e w' ⟨rfl, rfl⟩; rw [hk]) | (go_at_call 108; refine (isLetter_any _ _).mono ?_; rintro e w' ⟨rfl, rfl⟩; rw [show Sq.isLetter 39 = false from rfl]) | (go_at_call 110; refine (isDigit_any _ _).mono ?_; rintro e w' ⟨rfl, rfl⟩; rw [show Sq.isDigit 39 = false from rfl]) | (go_at_call 116; refine (bounded_any 4 (s.extract 1 (s.size - 1)) 12 _ (by omega) hex).mono ?_; rintro e w2 ⟨rfl, hb2⟩; obtain ⟨d0, d1, g0, g1, hbw2⟩ := EX.out w2 hb2; rw [show (12 : Int).toNat = 12 from rfl]))
    exact bodyPost_ret (v := .agg #[.int .i64 (Sq.bounded 4 (s.extract 1 (s.size - 1)) 12).kind, .string (Sq.bounded 4 (s.extract 1 (s.size - 1)) 12).text]) (by simp [results, Tryz.results70, go_sem, d0, d1]) rfl ⟨by rw [HE.out], (hbw2.setCell (Nat.le_refl _) _).setCell (Nat.le_refl _) _⟩
  · have HE : Hid (Sq.wordOf s = ⟨1, s⟩) := by show Sq.wordOf s = _; unfold Sq.wordOf; rw [hk, hl, hd, hq, decide_eq_false hz]; rfl
    have HQ : Hid (Sq.byteAt s 0 = 39) := eq_of_beq hq
    have HZ : Hid (decide ((2 : Int) ≤ (s.size : Int)) = false) := decide_eq_false (by omega)
    clear hq hl hd hz
    go_enter Tryz.func70, Tryz.ntmps70
    go_wp2_with fail
    refine (byteAt_any s _ _ (by omega) hs).mono ?_; rintro e w' ⟨rfl, rfl⟩; rw [show ((0 : Int)).toNat = 0 from rfl, HQ.out]
    go_wp2_with fail
    refine (isKeyword_any s _).mono ?_; rintro e w' ⟨rfl, rfl⟩; rw [hk]
    go_wp2_with fail
    refine (isLetter_any _ _).mono ?_; rintro e w' ⟨rfl, rfl⟩; rw [show Sq.isLetter 39 = false from rfl]
    go_wp2_with fail
    refine (isDigit_any _ _).mono ?_; rintro e w' ⟨rfl, rfl⟩; rw [show Sq.isDigit 39 = false from rfl]
    go_upto_if 25 with fail
    rw [HZ.out]
    go_wp2
    exact bodyPost_ret (v := .agg #[.int .i64 1, .string s]) (by simp [results, Tryz.results70, go_sem, c0, c1]) rfl ⟨by rw [HE.out], (hbw.setCell (Nat.le_refl _) _).setCell (Nat.le_refl _) _⟩

end Go.Proofs.YtamkfbelpfpjcaaGreatDoor

namespace Go.Proofs.YtamkfbelpfpjcaaGreatDoor
open Go.RowKit

theorem ownsRow_below {w w' : World} {base : Nat} {e : TypeId} {size : Nat} {v : Value} {n : Nat} {xs : List Value} (h : w.ownsRow base e size v n xs) (hb : Below w.heap.size w w') : w'.ownsRow base e size v n xs := by
  refine ⟨h.1, ?_⟩
  rcases h.2 with h2 | ⟨g, cap, cur, hv, hg, hh, r⟩
  · exact Or.inl h2
  · exact Or.inr ⟨g, cap, cur, hv, hg, by rw [hb.block g (Array.getElem?_eq_some_iff.1 hh).1]; exact hh, r⟩

/-- What lies in a block that is just made. -/
theorem new_cells (w : World) (c : Array Value) (e : TypeId) (l : List Value) (hl : c.toList = l) {b : Nat} (hb : b = w.heap.size) : ∀ j u, l[j]? = some u → (w.alloc (.cells c e)).cell? ((⟨b, 0, none⟩ : Addr).add j) = some u := by
  intro j u hu
  subst hb
  have e1 : (⟨w.heap.size, 0, none⟩ : Addr).add j = ⟨w.heap.size, j, none⟩ := by unfold Addr.add; split <;> simp_all
  rw [e1]
  subst hl
  simpa using hu

theorem Tryz.infoWord : (Tryz.prog.info? 125).map (fun i => (i.zero, i.size, i.bytes)) = some (some (.agg #[.int .i64 0, .string ⟨#[]⟩]), 2, 24) := by kernel_rfl

set_option maxHeartbeats 400000 in
set_option maxRecDepth 100000 in
theorem Split_any (s : ByteArray) (w : World) (hs : s.size ≤ 1000) :
    Calls Tryz.prog 39 #[.string s] w fun e w' => Below w.heap.size w w' ∧
      ((Sq.split s = none ∧ e = .returned (.tuple #[.slice none 0 0, .bool false])) ∨
       (∃ ws v, Sq.split s = some ws ∧ e = .returned (.tuple #[v, .bool true]) ∧ ws.length ≤ 1000 ∧ w'.ownsRow w.heap.size 125 2 v ws.length (Sq.wcells ws))) := by
  obtain ⟨i0, hi, hz0, hz1, hz2⟩ := info_parts Tryz.infoWord
  go_enter Tryz.func39, Tryz.ntmps39
  go_wp2
  go_loopw [4, 5] (fun v i wr => ∃ (k f : Nat) (ws : List Sq.Word), k ≤ s.size ∧ s.size < k + f ∧ i = .int .i64 k ∧ wr.ownsRow w.heap.size 125 2 v ws.length (Sq.wcells ws) ∧ Below w.heap.size w wr ∧ ws.length ≤ k ∧ Hid (Sq.split s = (Sq.splitFrom s f k).map (ws ++ ·))) (fun _ i _ => s.size - (intOf i).toNat)
  case atStart => exact ⟨0, s.size + 1, [], Nat.zero_le _, by omega, rfl, World.ownsRow_nil _ _ _ _, Below.refl _ _, Nat.le_refl _, by show _ = _; simp [Sq.split]⟩
  case round =>
    obtain ⟨k, f, ws, hk, hf, rfl, hown, hbel, hwl, hsp⟩ := hrel
    have hwsz := hbel.size
    by_cases hlt : k < s.size
    · obtain ⟨f, rfl⟩ : ∃ g, f = g + 1 := ⟨f - 1, by omega⟩
      have eb := Sq.byteAt_lt s k hlt
      cases hg : Sq.isGap (Sq.byteAt s k)
      · have hg' : Sq.isGap ((s[k]).toNat : Int) = false := by rw [← eb]; exact hg
        by_cases he : Sq.endOf s k ≤ k ∨ s.size < Sq.endOf s k
        · have hn := Sq.split_bad s f k hlt hg he
          have HN : Hid _ := hn
          clear hn hg eb
          rcases he with he | he
          · go_wp2_with (first | (go_at_call 68; refine (isGap_any _ _).mono ?_; rintro e w' ⟨rfl, rfl⟩; rw [hg']) | (go_at_call 69; refine (endOf_any s k _ (by omega) (by omega) hs).mono ?_; rintro e w' ⟨rfl, rfl⟩; simp only [Int.toNat_natCast]))
            go_ret2
            refine ⟨hbel, Or.inl ⟨?_, rfl⟩⟩
            rw [hsp.out, HN.out]; rfl
          · go_wp2_with (first | (go_at_call 68; refine (isGap_any _ _).mono ?_; rintro e w' ⟨rfl, rfl⟩; rw [hg']) | (go_at_call 69; refine (endOf_any s k _ (by omega) (by omega) hs).mono ?_; rintro e w' ⟨rfl, rfl⟩; simp only [Int.toNat_natCast]))
            go_ret2
            refine ⟨hbel, Or.inl ⟨?_, rfl⟩⟩
            rw [hsp.out, HN.out]; rfl
        · have he1 : k < Sq.endOf s k := by omega
          have he2 : Sq.endOf s k ≤ s.size := by omega
          have hex := extract_small s k (Sq.endOf s k) hs
          have HS : Hid (¬ (Sq.endOf s k ≤ k ∨ s.size < Sq.endOf s k)) := he
          clear he
          obtain ⟨x, hx⟩ : ∃ x, x = Sq.wordOf (s.extract k (Sq.endOf s k)) := ⟨_, rfl⟩
          cases hkd : x.kind == 0
          · have hn := Sq.split_word s f k hlt hg HS.out (by rw [← hx]; exact ne_of_beq_false hkd)
            rw [← hx] at hn
            have HN : Hid _ := hn
            have HX : Hid _ := hx
            clear hn hg eb hx
            go_wp2_with (first | (go_at_call 68; refine (isGap_any _ _).mono ?_; rintro e w' ⟨rfl, rfl⟩; rw [hg']) | (go_at_call 69; refine (endOf_any s k _ (by omega) (by omega) hs).mono ?_; rintro e w' ⟨rfl, rfl⟩; simp only [Int.toNat_natCast]) | (go_at_call 70; refine (wordOf_any (s.extract k (Sq.endOf s k)) _ hex).mono ?_; rintro e w1 ⟨rfl, hb1⟩; rw [← HX.out]) | (at_builtin; refine wpList_append_own _ rfl (.tmp 38) (.tmp 40) 90 rfl w.heap.size 125 i0 (.agg #[.int .i64 0, .string ⟨#[]⟩]) 2 24 Tryz.underlying90 hi hz0 hz1 hz2 rfl (by decide) _ _ _ rfl (((ownsRow_below hown hb1).alloc _).alloc _) ⟨w1.heap.size + 1, 0, none⟩ 1 1 [.int .i64 x.kind, .string x.text] rfl rfl ?c1 ?c2 ?c3 ?c4 ?c5 ?_))
            case c1 => exact new_cells (w1.alloc (Obj.cells #[Value.int IntKind.i64 x.kind, Value.string x.text] 125)) _ _ _ rfl (by simp)
            case c2 => intro u hu; simp at hu; rcases hu with rfl | rfl <;> rfl
            case c3 => unfold maxLen; omega
            case c4 => omega
            case c5 => have := hb1.size; simp; omega
            · intro v' w2 hown2 hgrow _
              have hb2 : Below w.heap.size w w2 := (((hbel.trans (hb1.mono hwsz)).alloc (by have := hb1.size; omega) _).alloc (by have := hb1.size; simp; omega) _).grown hgrow (by have := hb1.size; simp; omega) (fun g hg => (hown.lt g hg).1)
              clear hgrow hbel hb1 hown
              go_wp2
              go_roundw
              case rel => exact ⟨Sq.endOf s k, f, ws ++ [x], he2, by omega, rfl, by rw [Sq.wcells_snoc]; simpa using hown2, hb2, by simp; omega, by show _ = _; rw [hsp.out, HN.out]; simp [Option.map_map, Function.comp_def]⟩
              case measure => simp [intOf]; omega
          · have hn := Sq.split_none s f k hlt hg HS.out (by rw [← hx]; exact eq_of_beq hkd)
            have HN : Hid _ := hn
            have HX : Hid _ := hx
            clear hn hg eb hx
            go_wp2_with (first | (go_at_call 68; refine (isGap_any _ _).mono ?_; rintro e w' ⟨rfl, rfl⟩; rw [hg']) | (go_at_call 69; refine (endOf_any s k _ (by omega) (by omega) hs).mono ?_; rintro e w' ⟨rfl, rfl⟩; simp only [Int.toNat_natCast]) | (go_at_call 70; refine (wordOf_any (s.extract k (Sq.endOf s k)) _ hex).mono ?_; rintro e w1 ⟨rfl, hb1⟩; rw [← HX.out]))
            go_ret2
            refine ⟨(hbel.trans (hb1.mono hwsz)).alloc (by have := hb1.size; omega) _, Or.inl ⟨?_, rfl⟩⟩
            rw [hsp.out, HN.out]; rfl
      · have hg' : Sq.isGap ((s[k]).toNat : Int) = true := by rw [← eb]; exact hg
        have hn := Sq.split_gap s f k hlt hg
        have HN : Hid _ := hn
        clear hn hg eb
        go_wp2_with (first | (go_at_call 68; refine (isGap_any _ _).mono ?_; rintro e w' ⟨rfl, rfl⟩; rw [hg']))
        go_roundw
        case rel => exact ⟨k + 1, f, ws, by omega, by omega, by go_num, hown, hbel, by omega, by show _ = _; rw [hsp.out, HN.out]⟩
        case measure => simp [intOf]; omega
    · have hn := Sq.split_end s f k (by omega)
      have HN : Hid _ := hn
      clear hn
      go_wp2
      go_ret2
      refine ⟨hbel, Or.inr ⟨ws, _, ?_, rfl, by omega, hown⟩⟩
      rw [hsp.out, HN.out]; simp

end Go.Proofs.YtamkfbelpfpjcaaGreatDoor
