import Derived.Test.YteibbdilhpdknaaGreatDoorBx
import Derived.Test.YteibbdilhpdknaaGreatDoorBb
set_option linter.unusedVariables false
set_option linter.unusedSimpArgs false

namespace Go.Proofs.YteibbdilhpdknaaGreatDoor
open Go.RowKit

/-- Which of n things a number speaks of. -/
def Sq.pick (c n : Int) : Int := (if c < 0 then -(c + 1) else c) % n
theorem Sq.pick_bd (c n : Int) (h : 0 < n) : 0 ≤ Sq.pick c n ∧ Sq.pick c n < n := ⟨Int.emod_nonneg _ (by omega), Int.emod_lt_of_pos _ h⟩

set_option maxHeartbeats 400000 in
theorem kpick_any (c n : Int) (w : World) (h0 : -9223372036854775808 ≤ c) (h1 : c ≤ 9223372036854775807) (hn : 0 < n) (hn2 : n ≤ 1000) :
    Calls Tryz.prog 12 #[.int .i64 c, .int .i64 n] w fun e w' => e = .returned (.int .i64 (Sq.pick c n)) ∧ w' = w := by
  have hb := Sq.pick_bd c n hn
  by_cases hc : c < 0
  · have HE : Hid (Sq.pick c n = -(c + 1).tmod n) := by show _ = _; unfold Sq.pick; rw [if_pos hc, ← Int.neg_tmod, Int.tmod_eq_emod_of_nonneg (by omega)]
    go_enter Tryz.func12, Tryz.ntmps12
    go_wp2
    go_ret
    exact ⟨by rw [HE.out]; rfl, rfl⟩
  · have HE : Hid (Sq.pick c n = c % n) := by show _ = _; unfold Sq.pick; rw [if_neg hc]
    go_enter Tryz.func12, Tryz.ntmps12
    go_wp2
    go_ret
    exact ⟨by rw [HE.out]; rfl, rfl⟩

/-- Is it a reply of an error? -/
def Sq.bang (s : ByteArray) : Bool := s.data.toList.head? == some 33
theorem Sq.bang_lt (s : ByteArray) (h : 0 < s.size) : Sq.bang s = ((s[0].toNat : Int) == 33) := by
  have h' : 0 < s.data.toList.length := by simpa using h
  unfold Sq.bang
  rw [List.head?_eq_getElem?, List.getElem?_eq_getElem h']
  show (some s[0] == some 33) = _
  rw [Bool.eq_iff_iff]
  simp
  constructor
  · intro h; rw [h]; rfl
  · intro h; apply UInt8.toNat_inj.1; show _ = 33; omega
theorem Sq.bang_ge (s : ByteArray) (h : ¬ 0 < s.size) : Sq.bang s = false := by
  have h' : s.data.toList = [] := List.eq_nil_of_length_eq_zero (by rw [← Sq.size_list]; omega)
  unfold Sq.bang
  rw [h']; rfl
set_option maxHeartbeats 400000 in
theorem krefused_any (s : ByteArray) (w : World) (hs : s.size ≤ 1000000000) :
    Calls Tryz.prog 22 #[.string s] w fun e w' => e = .returned (.bool (Sq.bang s)) ∧ w' = w := by
  by_cases hk : 0 < s.size
  · have H : Hid _ := Sq.bang_lt s hk
    go_enter Tryz.func22, Tryz.ntmps22
    go_wp2
    go_ret
    exact ⟨by rw [H.out]; rfl, rfl⟩
  · have H : Hid _ := Sq.bang_ge s hk
    go_enter Tryz.func22, Tryz.ntmps22
    go_wp2
    go_ret
    exact ⟨by rw [H.out]; rfl, rfl⟩

theorem Sq.byteAt_at (s : ByteArray) (k : Nat) (h : k < s.size) : Sq.byteAt s k = (s[k].toNat : Int) := Sq.byteAt_lt s k h
/-- The digits from k on. -/
def Sq.rest (s : ByteArray) (k : Nat) : List UInt8 := (s.data.toList.drop k).take (s.size - 1 - k)
theorem Sq.rest_end (s : ByteArray) (k : Nat) (h : s.size - 1 ≤ k) : Sq.rest s k = [] := by
  unfold Sq.rest; rw [Nat.sub_eq_zero_of_le h]; rfl
theorem Sq.rest_step (s : ByteArray) (k : Nat) (h : k < s.size - 1) (hk : k < s.size) : Sq.rest s k = s[k] :: Sq.rest s (k + 1) := by
  have h' : k < s.data.toList.length := by rw [← Sq.size_list]; exact hk
  unfold Sq.rest
  rw [List.drop_eq_getElem_cons h', show s.size - 1 - k = s.size - 1 - (k + 1) + 1 from by omega, List.take_succ_cons]
  rfl
theorem Sq.number_no (s : ByteArray) (a : Nat) (ha : (if Sq.byteAt s 0 == 45 then 1 else 0) = a) (h : s.size < a + 2 ∨ 16 < s.size ∨ Sq.byteAt s (s.size - 1) ≠ 59) : Sq.number s = (0, false) := by
  unfold Sq.number
  rw [ha, if_pos h]
theorem Sq.number_yes (s : ByteArray) (a : Nat) (ha : (if Sq.byteAt s 0 == 45 then 1 else 0) = a) (h1 : a + 2 ≤ s.size) (h2 : s.size ≤ 16) (h3 : Sq.byteAt s (s.size - 1) = 59) :
    Sq.number s = match Sq.digs (Sq.rest s a) 0 with | none => (0, false) | some n => (if Sq.byteAt s 0 == 45 then -n else n, true) := by
  unfold Sq.number
  rw [ha, if_neg (by omega)]
  rfl
theorem Sq.pow15 (n a k : Nat) (h : n < 10 ^ (k - a)) (hk : k ≤ 15) : n ≤ 1000000000000000 := by
  have : 10 ^ (k - a) ≤ 10 ^ 15 := Nat.pow_le_pow_right (by decide) (by omega)
  have e : 10 ^ 15 = 1000000000000000 := by decide
  omega
theorem Sq.pow_step (n a k c : Nat) (h : n < 10 ^ (k - a)) (hak : a ≤ k) (hc : c ≤ 9) : 10 * n + c < 10 ^ (k + 1 - a) := by
  rw [show k + 1 - a = (k - a) + 1 from by omega, Nat.pow_succ]
  omega

set_option maxRecDepth 100000 in
set_option maxHeartbeats 2000000 in
theorem number_any (s : ByteArray) (w : World) (hs : s.size ≤ 1000000000) :
    Calls Tryz.prog 25 #[.string s] w fun e w' => e = .returned (.tuple #[.int .i64 (Sq.number s).1, .bool (Sq.number s).2]) ∧ w' = w := by
  by_cases hk : 0 < s.size
  · cases hm : ((s[0].toNat : Int) == 45)
    · skip
      have ha : (if Sq.byteAt s 0 == 45 then 1 else 0) = 0 := by rw [Sq.byteAt_at s 0 hk, hm]; rfl
      by_cases hz : s.size < 2
      · have HN : Hid _ := Sq.number_no s 0 ha (Or.inl hz)
        clear ha
        go_enter Tryz.func25, Tryz.ntmps25
        go_wp2
        go_ret2
        exact ⟨by rw [HN.out]; rfl, rfl⟩
      · by_cases hz2 : 16 < s.size
        · have HN : Hid _ := Sq.number_no s 0 ha (Or.inr (Or.inl hz2))
          clear ha
          go_enter Tryz.func25, Tryz.ntmps25
          go_wp2
          go_ret2
          exact ⟨by rw [HN.out]; rfl, rfl⟩
        · have hlt : s.size - 1 < s.size := by omega
          have hby := Sq.byteAt_at s (s.size - 1) hlt
          cases hl : ((s[s.size - 1].toNat : Int) != 59)
          · have h59 : Sq.byteAt s (s.size - 1) = 59 := by rw [hby]; simpa using hl
            have HN : Hid _ := Sq.number_yes s 0 ha (by omega) (by omega) h59
            have HM : Hid ((Sq.byteAt s 0 == 45) = false) := by show _ = _; rw [Sq.byteAt_at s 0 hk, hm]
            clear ha hby h59
            go_enter Tryz.func25, Tryz.ntmps25
            go_wp2
            go_loop [4, 7] (fun n i => ∃ k v : Nat, 0 ≤ k ∧ k ≤ s.size - 1 ∧ n = .int .i64 v ∧ i = .int .i64 k ∧ Hid (v < 10 ^ (k - 0) ∧ Sq.digs (Sq.rest s 0) 0 = Sq.digs (Sq.rest s k) v)) (fun _ i => s.size - (intOf i).toNat)
            case atStart => exact ⟨0, 0, by omega, by omega, rfl, rfl, by decide, rfl⟩
            case round =>
              obtain ⟨k, v, hak, hk1, rfl, rfl, HR⟩ := hrel
              have hv := Sq.pow15 v 0 k HR.out.1 (by omega)
              by_cases hkl : k < s.size - 1
              · have hks : k < s.size := by omega
                obtain ⟨c, hc⟩ : ∃ c : Nat, c = s[k].toNat := ⟨_, rfl⟩
                have hst : Sq.digs (Sq.rest s k) v = if c < 48 ∨ 57 < c then none else Sq.digs (Sq.rest s (k + 1)) (10 * v + c - 48) := by
                  rw [Sq.rest_step s k hkl hks, Sq.digs, ← hc]
                have HS : Hid _ := hst
                have HC : Hid _ := hc
                clear hst
                by_cases h48 : c < 48
                · have hcc : (s[k].toNat : Int) < 48 := by omega
                  clear hc
                  go_wp2
                  go_ret2
                  refine ⟨?_, rfl⟩
                  rw [HN.out, HR.out.2, HS.out, if_pos (Or.inl h48)]; rfl
                · have hcc : ¬ (s[k].toNat : Int) < 48 := by omega
                  by_cases h57 : 57 < c
                  · have hcd : (57 : Int) < (s[k].toNat : Int) := by omega
                    clear hc
                    go_wp2
                    go_ret2
                    refine ⟨?_, rfl⟩
                    rw [HN.out, HR.out.2, HS.out, if_pos (Or.inr h57)]; rfl
                  · have hcd : ¬ (57 : Int) < (s[k].toNat : Int) := by omega
                    have HV : Hid (10 * v + (c - 48) < 10 ^ (k + 1 - 0)) := Sq.pow_step v 0 k (c - 48) HR.out.1 hak (by omega)
                    clear hc
                    go_wp2
                    go_round
                    case rel =>
                      refine ⟨k + 1, 10 * v + (c - 48), by omega, by omega, ?_, by go_num, HV.out, ?_⟩
                      · have := HC.out
                        rw [← this]
                        congr 1
                        omega
                      · rw [HR.out.2, HS.out, if_neg (by omega)]
                        congr 1
                        omega
                    case measure => simp [intOf]; omega
              · have HZ : Hid (Sq.digs (Sq.rest s k) v = some (v : Int)) := by show _ = _; rw [Sq.rest_end s k (by omega)]; rfl
                go_wp2
                go_ret2
                refine ⟨?_, rfl⟩
                rw [HN.out, HR.out.2, HZ.out, HM.out]; rfl
          · have HN : Hid _ := Sq.number_no s 0 ha (Or.inr (Or.inr (by rw [hby]; simpa using hl)))
            clear ha hby
            go_enter Tryz.func25, Tryz.ntmps25
            go_wp2
            go_ret2
            exact ⟨by rw [HN.out]; rfl, rfl⟩
    · skip
      have ha : (if Sq.byteAt s 0 == 45 then 1 else 0) = 1 := by rw [Sq.byteAt_at s 0 hk, hm]; rfl
      by_cases hz : s.size < 3
      · have HN : Hid _ := Sq.number_no s 1 ha (Or.inl hz)
        clear ha
        go_enter Tryz.func25, Tryz.ntmps25
        go_wp2
        go_ret2
        exact ⟨by rw [HN.out]; rfl, rfl⟩
      · by_cases hz2 : 16 < s.size
        · have HN : Hid _ := Sq.number_no s 1 ha (Or.inr (Or.inl hz2))
          clear ha
          go_enter Tryz.func25, Tryz.ntmps25
          go_wp2
          go_ret2
          exact ⟨by rw [HN.out]; rfl, rfl⟩
        · have hlt : s.size - 1 < s.size := by omega
          have hby := Sq.byteAt_at s (s.size - 1) hlt
          cases hl : ((s[s.size - 1].toNat : Int) != 59)
          · have h59 : Sq.byteAt s (s.size - 1) = 59 := by rw [hby]; simpa using hl
            have HN : Hid _ := Sq.number_yes s 1 ha (by omega) (by omega) h59
            have HM : Hid ((Sq.byteAt s 0 == 45) = true) := by show _ = _; rw [Sq.byteAt_at s 0 hk, hm]
            clear ha hby h59
            go_enter Tryz.func25, Tryz.ntmps25
            go_wp2
            go_loop [4, 7] (fun n i => ∃ k v : Nat, 1 ≤ k ∧ k ≤ s.size - 1 ∧ n = .int .i64 v ∧ i = .int .i64 k ∧ Hid (v < 10 ^ (k - 1) ∧ Sq.digs (Sq.rest s 1) 0 = Sq.digs (Sq.rest s k) v)) (fun _ i => s.size - (intOf i).toNat)
            case atStart => exact ⟨1, 0, by omega, by omega, rfl, rfl, by decide, rfl⟩
            case round =>
              obtain ⟨k, v, hak, hk1, rfl, rfl, HR⟩ := hrel
              have hv := Sq.pow15 v 1 k HR.out.1 (by omega)
              by_cases hkl : k < s.size - 1
              · have hks : k < s.size := by omega
                obtain ⟨c, hc⟩ : ∃ c : Nat, c = s[k].toNat := ⟨_, rfl⟩
                have hst : Sq.digs (Sq.rest s k) v = if c < 48 ∨ 57 < c then none else Sq.digs (Sq.rest s (k + 1)) (10 * v + c - 48) := by
                  rw [Sq.rest_step s k hkl hks, Sq.digs, ← hc]
                have HS : Hid _ := hst
                have HC : Hid _ := hc
                clear hst
                by_cases h48 : c < 48
                · have hcc : (s[k].toNat : Int) < 48 := by omega
                  clear hc
                  go_wp2
                  go_ret2
                  refine ⟨?_, rfl⟩
                  rw [HN.out, HR.out.2, HS.out, if_pos (Or.inl h48)]; rfl
                · have hcc : ¬ (s[k].toNat : Int) < 48 := by omega
                  by_cases h57 : 57 < c
                  · have hcd : (57 : Int) < (s[k].toNat : Int) := by omega
                    clear hc
                    go_wp2
                    go_ret2
                    refine ⟨?_, rfl⟩
                    rw [HN.out, HR.out.2, HS.out, if_pos (Or.inr h57)]; rfl
                  · have hcd : ¬ (57 : Int) < (s[k].toNat : Int) := by omega
                    have HV : Hid (10 * v + (c - 48) < 10 ^ (k + 1 - 1)) := Sq.pow_step v 1 k (c - 48) HR.out.1 hak (by omega)
                    clear hc
                    go_wp2
                    go_round
                    case rel =>
                      refine ⟨k + 1, 10 * v + (c - 48), by omega, by omega, ?_, by go_num, HV.out, ?_⟩
                      · have := HC.out
                        rw [← this]
                        congr 1
                        omega
                      · rw [HR.out.2, HS.out, if_neg (by omega)]
                        congr 1
                        omega
                    case measure => simp [intOf]; omega
              · have HZ : Hid (Sq.digs (Sq.rest s k) v = some (v : Int)) := by show _ = _; rw [Sq.rest_end s k (by omega)]; rfl
                go_wp2
                go_ret2
                refine ⟨?_, rfl⟩
                rw [HN.out, HR.out.2, HZ.out, HM.out]; rfl
          · have HN : Hid _ := Sq.number_no s 1 ha (Or.inr (Or.inr (by rw [hby]; simpa using hl)))
            clear ha hby
            go_enter Tryz.func25, Tryz.ntmps25
            go_wp2
            go_ret2
            exact ⟨by rw [HN.out]; rfl, rfl⟩
  · have HN : Hid (Sq.number s = (0, false)) := by
      refine Sq.number_no s _ rfl (Or.inl ?_)
      omega
    go_enter Tryz.func25, Tryz.ntmps25
    go_wp2
    go_ret2
    exact ⟨by rw [HN.out]; rfl, rfl⟩

end Go.Proofs.YteibbdilhpdknaaGreatDoor
