import Derived.Test.YtamkfbelpfpjcaaGreatDoorKa
import Derived.Test.YtamkfbelpfpjcaaGreatDoorHk
import Derived.Test.YtamkfbelpfpjcaaGreatDoorGc
set_option linter.unusedVariables false
set_option linter.unusedSimpArgs false

namespace Go.Proofs.YtamkfbelpfpjcaaGreatDoor
open Go.RowKit

theorem own_fresh (w : World) (e : TypeId) (n : Nat) (cs : Array Value) (h : cs.size = n) (hn : n ≤ 1000) : (w.alloc (.cells cs e)).ownsRow w.heap.size e 1 (.slice (some ⟨w.heap.size, 0, none⟩) n n) n cs.toList := by
  refine ⟨by simpa using h, Or.inr ⟨w.heap.size, n, cs, rfl, Nat.le_refl _, alloc_at w _, Nat.le_refl _, by unfold maxLen; omega, by omega, ?_⟩⟩
  exact List.take_of_length_le (by simp [h])
theorem u8_nat (n : Nat) (h : n < 256) : (UInt8.ofNat n).toNat = n := by rw [UInt8.toNat_ofNat']; omega
set_option maxRecDepth 100000 in
set_option maxHeartbeats 1000000 in
theorem digits_any (n : Nat) (w : World) (hn : n < 100) :
    Calls Tryz.prog 12 #[.int .i64 n] w fun e w' => e = .returned (.string (Sq.dgM n)) ∧ Below w.heap.size w w' := by
  by_cases h : n < 10
  · have HE : Hid (Sq.dgM n = ⟨[UInt8.ofNat (48 + n)].toArray⟩) := by show _ = _; unfold Sq.dgM; rw [if_pos h]
    have hbuf : BufAt w.heap.size (w.alloc (.cells #[.int .u8 (48 + (n : Int))] 5)) (.slice (some ⟨w.heap.size, 0, none⟩) 1 1) [UInt8.ofNat (48 + n)] := by
      have h1 := own_fresh w 5 1 #[.int .u8 (48 + (n : Int))] rfl (by omega)
      unfold BufAt
      simp only [List.map_cons, List.map_nil, u8_nat (48 + n) (by omega), List.length_cons, List.length_nil]
      rw [show ((48 + n : Nat) : Int) = 48 + (n : Int) by omega]
      exact h1
    have hcv := bytes_back _ _ _ _ hbuf
    rw [← HE.out] at hcv
    have HCV := hd hcv
    clear hbuf hcv
    go_enter Tryz.func12, Tryz.ntmps12
    go_wp2
    rw [HCV.out]
    go_wp2
    go_ret
    exact ⟨rfl, (Below.refl _ _).alloc (Nat.le_refl _) _⟩
  · have HE : Hid (Sq.dgM n = ⟨[UInt8.ofNat (48 + n / 10), UInt8.ofNat (48 + (HMod.hMod n 10 : Nat))].toArray⟩) := by show _ = _; unfold Sq.dgM; rw [if_neg h]
    have hbuf : BufAt w.heap.size (w.alloc (.cells #[.int .u8 (48 + (n : Int) / 10), .int .u8 ((48 : Int) + HMod.hMod (n : Int) (10 : Int))] 5)) (.slice (some ⟨w.heap.size, 0, none⟩) 2 2) [UInt8.ofNat (48 + n / 10), UInt8.ofNat (48 + (HMod.hMod n 10 : Nat))] := by
      have h1 := own_fresh w 5 2 #[.int .u8 (48 + (n : Int) / 10), .int .u8 ((48 : Int) + HMod.hMod (n : Int) (10 : Int))] rfl (by omega)
      unfold BufAt
      simp only [List.map_cons, List.map_nil, u8_nat (48 + n / 10) (by omega), u8_nat (48 + (HMod.hMod n 10 : Nat)) (by omega), List.length_cons, List.length_nil]
      rw [show ((48 + n / 10 : Nat) : Int) = 48 + (n : Int) / 10 by omega, show ((48 + (HMod.hMod n 10 : Nat) : Nat) : Int) = (48 : Int) + HMod.hMod (n : Int) (10 : Int) by omega]
      exact h1
    have hcv := bytes_back _ _ _ _ hbuf
    rw [← HE.out] at hcv
    have HCV := hd hcv
    clear hbuf hcv
    go_enter Tryz.func12, Tryz.ntmps12
    go_wp2
    rw [HCV.out]
    go_wp2
    go_ret
    exact ⟨rfl, (Below.refl _ _).alloc (Nat.le_refl _) _⟩

end Go.Proofs.YtamkfbelpfpjcaaGreatDoor
