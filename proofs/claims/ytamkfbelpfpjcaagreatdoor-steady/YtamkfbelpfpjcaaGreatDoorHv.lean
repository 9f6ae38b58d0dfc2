import Derived.Test.YtamkfbelpfpjcaaGreatDoorGf
import Derived.Test.YtamkfbelpfpjcaaGreatDoorHo
import Derived.Test.YtamkfbelpfpjcaaGreatDoorGc
set_option linter.unusedVariables false
set_option linter.unusedSimpArgs false

namespace Go.Proofs.YtamkfbelpfpjcaaGreatDoor
open Go.RowKit

/-- Texts that came in. -/
def Strs (w : World) (v : Value) (l : List ByteArray) : Prop := ∃ (a : Option Addr) (cap : Nat), v = .slice a l.length cap ∧ l.length ≤ 1000000000000000 ∧ (∀ s ∈ l, s.size ≤ 1000000000000000) ∧ ∀ k : Nat, ∀ _ : k < l.length, ∃ b, a = some b ∧ b.block < w.heap.size ∧ w.cell? (b.add k) = some (.string l[k])
/-- How much they are together, if not too much. -/
def Sq.bulk : List ByteArray → Nat → Option Nat
  | [], n => some n
  | s :: r, n => if 1048576 < n + s.size then none else Sq.bulk r (n + s.size)
def Sq.tooMuch (l : List ByteArray) : Bool := Decidable.decide (1048576 < l.length) || (Sq.bulk l l.length).isNone

set_option maxRecDepth 100000 in
set_option maxHeartbeats 1000000 in
theorem none_any (l : List ByteArray) (v : Value) (w : World) (h : Strs w v l) :
    Calls Tryz.prog 6 #[v] w fun e w' => e = .returned (.bool (Sq.tooMuch l)) ∧ w' = w := by
  obtain ⟨a, cap, rfl, hl, hsz, hat⟩ := h
  have HAT : Hid _ := hat
  have HSZ : Hid _ := hsz
  clear hat hsz
  by_cases hbig : 1048576 < l.length
  · have HE : Hid (Sq.tooMuch l = true) := by show _ = _; unfold Sq.tooMuch; simp [hbig]
    go_enter Tryz.func6, Tryz.ntmps6
    go_wp2
    go_ret
    exact ⟨by rw [HE.out]; rfl, rfl⟩
  · have HE : Hid (Sq.tooMuch l = (Sq.bulk l l.length).isNone) := by show _ = _; unfold Sq.tooMuch; simp [hbig]
    go_enter Tryz.func6, Tryz.ntmps6
    go_wp2
    go_loop [3, 4] (fun n i => ∃ k m : Nat, k ≤ l.length ∧ m ≤ 1048576 ∧ n = .int .i64 m ∧ i = .int .i64 k ∧ Hid (Sq.bulk l l.length = Sq.bulk (l.drop k) m)) (fun _ i => l.length - (intOf i).toNat)
    case atStart => exact ⟨0, l.length, Nat.zero_le _, by omega, rfl, rfl, rfl⟩
    case round =>
      obtain ⟨k, m, hk, hm, rfl, rfl, HR⟩ := hrel
      by_cases hlt : k < l.length
      · obtain ⟨b, rfl, hb, hc⟩ := HAT.out k hlt
        have hs := HSZ.out l[k] (List.getElem_mem hlt)
        have hst : Sq.bulk (l.drop k) m = if 1048576 < m + l[k].size then none else Sq.bulk (l.drop (k + 1)) (m + l[k].size) := by
          rw [List.drop_eq_getElem_cons hlt, Sq.bulk]
        have HS : Hid _ := hst
        obtain ⟨s, hs0⟩ : ∃ s, s = l[k] := ⟨_, rfl⟩
        rw [← hs0] at hs hc HS
        clear hst hs0
        by_cases hmm : 1048576 < m + s.size
        · go_wp2
          go_ret
          refine ⟨?_, rfl⟩
          rw [HE.out, HR.out, HS.out, if_pos hmm]; rfl
        · go_wp2
          go_round
          case rel => exact ⟨k + 1, m + s.size, by omega, by omega, by go_num, by go_num, by show _ = _; rw [HR.out, HS.out, if_neg hmm]⟩
          case measure => simp [intOf]; omega
      · have HZ : Hid (l.drop k = []) := List.drop_eq_nil_of_le (by omega)
        go_wp2
        go_ret
        refine ⟨?_, rfl⟩
        rw [HE.out, HR.out, HZ.out]; rfl

end Go.Proofs.YtamkfbelpfpjcaaGreatDoor

namespace Go.Proofs.YtamkfbelpfpjcaaGreatDoor
open Go.RowKit

/-- Which of n things a number speaks of. -/
def Sq.pick (c n : Int) : Int := (if c < 0 then -(c + 1) else c) % n
theorem Sq.pick_bd (c n : Int) (h : 0 < n) : 0 ≤ Sq.pick c n ∧ Sq.pick c n < n := ⟨Int.emod_nonneg _ (by omega), Int.emod_lt_of_pos _ h⟩

set_option maxHeartbeats 400000 in
theorem kpick_any (c n : Int) (w : World) (h0 : -9223372036854775808 ≤ c) (h1 : c ≤ 9223372036854775807) (hn : 0 < n) (hn2 : n ≤ 1000) :
    Calls Tryz.prog 8 #[.int .i64 c, .int .i64 n] w fun e w' => e = .returned (.int .i64 (Sq.pick c n)) ∧ w' = w := by
  have hb := Sq.pick_bd c n hn
  by_cases hc : c < 0
  · have HE : Hid (Sq.pick c n = -(c + 1).tmod n) := by show _ = _; unfold Sq.pick; rw [if_pos hc, ← Int.neg_tmod, Int.tmod_eq_emod_of_nonneg (by omega)]
    go_enter Tryz.func8, Tryz.ntmps8
    go_wp2
    go_ret
    exact ⟨by rw [HE.out]; rfl, rfl⟩
  · have HE : Hid (Sq.pick c n = c % n) := by show _ = _; unfold Sq.pick; rw [if_neg hc]
    go_enter Tryz.func8, Tryz.ntmps8
    go_wp2
    go_ret
    exact ⟨by rw [HE.out]; rfl, rfl⟩

theorem Sq.bang_lt (s : ByteArray) (h : 0 < s.size) : Sq.bang s = ((s[0].toNat : Int) == 33) := by
  have h' : 0 < s.data.toList.length := by simpa using h
  unfold Sq.bang
  rw [List.head?_eq_getElem?, List.getElem?_eq_getElem h']
  show (some s[0] == some 33) = _
  rw [Bool.eq_iff_iff]
  simp
  constructor
  · intro h; rw [h]; rfl
  · intro h; apply UInt8.toNat_inj.1; show _ = 33; omega
theorem Sq.bang_ge (s : ByteArray) (h : ¬ 0 < s.size) : Sq.bang s = false := by
  have h' : s.data.toList = [] := List.eq_nil_of_length_eq_zero (by rw [← Sq.sizeL]; omega)
  unfold Sq.bang
  rw [h']; rfl
set_option maxHeartbeats 400000 in
theorem krefused_any (s : ByteArray) (w : World) (hs : s.size ≤ 1000000000) :
    Calls Tryz.prog 14 #[.string s] w fun e w' => e = .returned (.bool (Sq.bang s)) ∧ w' = w := by
  by_cases hk : 0 < s.size
  · have H : Hid _ := Sq.bang_lt s hk
    go_enter Tryz.func14, Tryz.ntmps14
    go_wp2
    go_ret
    exact ⟨by rw [H.out]; rfl, rfl⟩
  · have H : Hid _ := Sq.bang_ge s hk
    go_enter Tryz.func14, Tryz.ntmps14
    go_wp2
    go_ret
    exact ⟨by rw [H.out]; rfl, rfl⟩

theorem Sq.extract_first (s : ByteArray) (h : 6 < s.size) (c : UInt8) (l : List UInt8) (ht : (s.extract 0 6).toList = c :: l) : Sq.byteAt s 0 = c.toNat := by
  unfold Sq.byteAt
  have h2 : (s.extract 0 6).data.toList = s.data.toList.take 6 := by simp
  rw [Sq.ba_toList, h2] at ht
  cases hs : s.data.toList with
  | nil => rw [hs] at ht; simp at ht
  | cons a r => rw [hs] at ht; simp at ht; simp [ht.1]
/-- It may ask. -/
def AsksPost (s : ByteArray) (w : World) (e : Ending) (w' : World) : Prop := ∃ b : Bool, e = .returned (.bool b) ∧ (b = true → 0 < s.size ∧ Sq.byteAt s 0 = 115) ∧ w' = w

set_option maxHeartbeats 400000 in
theorem asks_any (s : ByteArray) (w : World) (hs : s.size ≤ 1000000000) :
    Calls Tryz.prog 15 #[.string s] w (AsksPost s w) := by
  by_cases hk : 6 < s.size
  · have HX : Hid (∀ c l, (s.extract 0 6).toList = c :: l → Sq.byteAt s 0 = c.toNat) := fun c l => Sq.extract_first s hk c l
    go_enter Tryz.func15, Tryz.ntmps15
    go_wp2
    go_ret
    refine ⟨_, rfl, fun hb => ⟨by omega, ?_⟩, rfl⟩
    exact HX.out 115 [101, 108, 101, 99, 116] (by simpa using hb)
  · go_enter Tryz.func15, Tryz.ntmps15
    go_wp2
    go_ret
    exact ⟨_, rfl, fun hb => (by cases hb), rfl⟩

end Go.Proofs.YtamkfbelpfpjcaaGreatDoor
