import Derived.Test.YtamkfbelpfpjcaaGreatDoorHo
import Derived.Test.YtamkfbelpfpjcaaGreatDoorHk
import Derived.Test.YtamkfbelpfpjcaaGreatDoorGc
set_option linter.unusedVariables false
set_option linter.unusedSimpArgs false

namespace Go.Proofs.YtamkfbelpfpjcaaGreatDoor
namespace Sq

def dgM (n : Nat) : ByteArray := if n < 10 then ⟨[UInt8.ofNat (48 + n)].toArray⟩ else ⟨[UInt8.ofNat (48 + n / 10), UInt8.ofNat (48 + (HMod.hMod n 10 : Nat))].toArray⟩
def createM : ByteArray := ⟨#[99, 114, 101, 97, 116, 101, 32, 116, 97, 98, 108, 101, 32, 109, 32, 40, 105, 100, 32, 105, 110, 116, 41]⟩
def insP : ByteArray := ⟨#[105, 110, 115, 101, 114, 116, 32, 105, 110, 116, 111, 32, 109, 32, 118, 97, 108, 117, 101, 115, 32, 40]⟩
def shutM : ByteArray := ⟨#[41]⟩
def insM (n : Nat) : ByteArray := insP ++ dgM n ++ shutM
def delP : ByteArray := ⟨#[100, 101, 108, 101, 116, 101, 32, 102, 114, 111, 109, 32, 109, 32, 119, 104, 101, 114, 101, 32, 105, 100, 32, 61, 32]⟩
def delM (n : Nat) : ByteArray := delP ++ dgM n
def countM : ByteArray := ⟨#[115, 101, 108, 101, 99, 116, 32, 99, 111, 117, 110, 116, 32, 102, 114, 111, 109, 32, 109]⟩
def wipeM : ByteArray := ⟨#[100, 101, 108, 101, 116, 101, 32, 102, 114, 111, 109, 32, 109]⟩
def insR (i : Nat) : ByteArray := if i < 59 then ⟨#[49, 59]⟩ else ⟨#[33, 49, 48]⟩
def delR (i : Nat) : ByteArray := if i = 43 then ⟨#[48, 59]⟩ else ⟨#[49, 59]⟩
def insL : List (ByteArray × ByteArray) := (List.range 60).map fun i => (insM (HMod.hMod (i * 7) 60), insR i)
def delL : List (ByteArray × ByteArray) := (List.range 59).map fun i => (delM (HMod.hMod (i * 11) 60), delR i)
def scriptM : List (ByteArray × ByteArray) := (createM, ⟨#[48, 59]⟩) :: (insL ++ ((countM, ⟨#[53, 57, 59]⟩) :: (delL ++ [(wipeM, ⟨#[49, 59]⟩)])))
def tells (x : Tree) : List (ByteArray × ByteArray) → Bool
  | [] => true
  | (s, r) :: q => ((decideN x s).reply.data.toList == r.data.toList) && tells (afterN x s) q
def leafB : Tree → Tree → Bool
  | ⟨0, a⟩, ⟨0, b⟩ => ((show List Ent from a).map fun e => (e.place, e.row.data.toList)) == ((show List Ent from b).map fun e => (e.place, e.row.data.toList))
  | _, _ => false
theorem bytes_eqL {a b : ByteArray} (h : a.data.toList = b.data.toList) : a = b := by
  cases a; cases b; simp at h; rw [h]
theorem map_inj {α β : Type} {f : α → β} (hf : ∀ a b, f a = f b → a = b) : ∀ l m : List α, l.map f = m.map f → l = m
  | [], [], _ => rfl
  | [], _ :: _, h => by simp at h
  | _ :: _, [], h => by simp at h
  | a :: l, b :: m, h => by
    simp only [List.map_cons, List.cons.injEq] at h
    rw [hf a b h.1, map_inj hf l m h.2]
theorem leafB_eq : ∀ {x y : Tree}, leafB x y = true → x = y
  | ⟨0, a⟩, ⟨0, b⟩, h => by
    have h1 : ((show List Ent from a).map fun e => (e.place, e.row.data.toList)) = ((show List Ent from b).map fun e => (e.place, e.row.data.toList)) := by simpa [leafB] using h
    have h2 : (show List Ent from a) = (show List Ent from b) := by
      refine map_inj ?_ _ _ h1
      intro e f he
      cases e; cases f
      simp only [Prod.mk.injEq] at he
      obtain ⟨h3, h4⟩ := he
      subst h3
      rw [bytes_eqL h4]
    have h3 : a = b := h2
    rw [h3]
  | ⟨0, _⟩, ⟨_ + 1, _⟩, h => by cases h
  | ⟨_ + 1, _⟩, _, h => by cases h
theorem tells_at : ∀ (l : List (ByteArray × ByteArray)) (x : Tree) (j : Nat) (s r : ByteArray), tells x l = true → l[j]? = some (s, r) → (decideN (runN x ((l.map Prod.fst).take j)) s).reply = r ∧ runN x ((l.map Prod.fst).take (j + 1)) = afterN (runN x ((l.map Prod.fst).take j)) s
  | (s, r) :: q, x, 0, s', r', h, hj => by
    simp at hj
    obtain ⟨rfl, rfl⟩ := hj
    rw [tells, Bool.and_eq_true] at h
    have h1 := h.1
    exact ⟨bytes_eqL (by simpa [runN] using h1), rfl⟩
  | (s, r) :: q, x, j + 1, s', r', h, hj => by
    rw [tells, Bool.and_eq_true] at h
    have := tells_at q (afterN x s) j s' r' h.2 (by simpa using hj)
    exact this
def allM : Bool := tells tree0 scriptM && leafB (runN tree0 (scriptM.map Prod.fst)) (runN tree0 [createM])
set_option maxRecDepth 1000000 in
theorem allM_so : allM = true := by decide +kernel
/-- The tree behind so many statements. -/
def TM (j : Nat) : Tree := runN tree0 ((scriptM.map Prod.fst).take j)
theorem TM_at (j : Nat) (s r : ByteArray) (h : scriptM[j]? = some (s, r)) : (decideN (TM j) s).reply = r ∧ TM (j + 1) = afterN (TM j) s := by
  have h1 := allM_so
  unfold allM at h1
  rw [Bool.and_eq_true] at h1
  exact tells_at scriptM tree0 j s r h1.1 h
theorem TM_end : TM 122 = TM 1 := by
  have h1 := allM_so
  unfold allM at h1
  rw [Bool.and_eq_true] at h1
  have h2 := leafB_eq h1.2
  have e1 : TM 122 = runN tree0 (scriptM.map Prod.fst) := by
    unfold TM
    rw [List.take_of_length_le]
    simp [scriptM, insL, delL]
  rw [e1, h2]
  rfl
theorem TM_good (j : Nat) : goodN (TM j) := good_run _ goodN0
theorem at_create : scriptM[0]? = some (createM, ⟨#[48, 59]⟩) := rfl
theorem at_ins (i : Nat) (h : i < 60) : scriptM[i + 1]? = some (insM (HMod.hMod (i * 7) 60), insR i) := by
  unfold scriptM
  rw [List.getElem?_cons_succ, List.getElem?_append_left (by simp [insL]; exact h)]
  unfold insL
  rw [List.getElem?_map, List.getElem?_range h]
  rfl
theorem at_count : scriptM[61]? = some (countM, ⟨#[53, 57, 59]⟩) := by
  unfold scriptM
  rw [List.getElem?_cons_succ, List.getElem?_append_right (by simp [insL])]
  simp [insL]
theorem at_del (i : Nat) (h : i < 59) : scriptM[i + 62]? = some (delM (HMod.hMod (i * 11) 60), delR i) := by
  unfold scriptM
  rw [List.getElem?_cons_succ, List.getElem?_append_right (by simp [insL])]
  rw [show i + 61 - insL.length = i + 1 by simp [insL], List.getElem?_cons_succ, List.getElem?_append_left (by simp [delL]; exact h)]
  unfold delL
  rw [List.getElem?_map, List.getElem?_range h]
  rfl
theorem at_wipe : scriptM[121]? = some (wipeM, ⟨#[49, 59]⟩) := by
  unfold scriptM
  rw [List.getElem?_cons_succ, List.getElem?_append_right (by simp [insL])]
  rw [show 120 - insL.length = 59 + 1 by simp [insL], List.getElem?_cons_succ, List.getElem?_append_right (by simp [delL])]
  simp [delL]

end Sq
end Go.Proofs.YtamkfbelpfpjcaaGreatDoor

namespace Go.Proofs.YtamkfbelpfpjcaaGreatDoor
open Go.RowKit

theorem own_fresh (w : World) (e : TypeId) (n : Nat) (cs : Array Value) (h : cs.size = n) (hn : n ≤ 1000) : (w.alloc (.cells cs e)).ownsRow w.heap.size e 1 (.slice (some ⟨w.heap.size, 0, none⟩) n n) n cs.toList := by
  refine ⟨by simpa using h, Or.inr ⟨w.heap.size, n, cs, rfl, Nat.le_refl _, alloc_at w _, Nat.le_refl _, by unfold maxLen; omega, by omega, ?_⟩⟩
  exact List.take_of_length_le (by simp [h])
theorem u8_nat (n : Nat) (h : n < 256) : (UInt8.ofNat n).toNat = n := by rw [UInt8.toNat_ofNat']; omega
set_option maxRecDepth 100000 in
set_option maxHeartbeats 1000000 in
theorem digits_any (n : Nat) (w : World) (hn : n < 100) :
    Calls Tryz.prog 12 #[.int .i64 n] w fun e w' => e = .returned (.string (Sq.dgM n)) ∧ Below w.heap.size w w' := by
  by_cases h : n < 10
  · have HE : Hid (Sq.dgM n = ⟨[UInt8.ofNat (48 + n)].toArray⟩) := by show _ = _; unfold Sq.dgM; rw [if_pos h]
    have hbuf : BufAt w.heap.size (w.alloc (.cells #[.int .u8 (48 + (n : Int))] 5)) (.slice (some ⟨w.heap.size, 0, none⟩) 1 1) [UInt8.ofNat (48 + n)] := by
      have h1 := own_fresh w 5 1 #[.int .u8 (48 + (n : Int))] rfl (by omega)
      unfold BufAt
      simp only [List.map_cons, List.map_nil, u8_nat (48 + n) (by omega), List.length_cons, List.length_nil]
      rw [show ((48 + n : Nat) : Int) = 48 + (n : Int) by omega]
      exact h1
    have hcv := bytes_back _ _ _ _ hbuf
    rw [← HE.out] at hcv
    have HCV := hd hcv
    clear hbuf hcv
    go_enter Tryz.func12, Tryz.ntmps12
    go_wp2
    rw [HCV.out]
    go_wp2
    go_ret
    exact ⟨rfl, (Below.refl _ _).alloc (Nat.le_refl _) _⟩
  · have HE : Hid (Sq.dgM n = ⟨[UInt8.ofNat (48 + n / 10), UInt8.ofNat (48 + (HMod.hMod n 10 : Nat))].toArray⟩) := by show _ = _; unfold Sq.dgM; rw [if_neg h]
    have hbuf : BufAt w.heap.size (w.alloc (.cells #[.int .u8 (48 + (n : Int) / 10), .int .u8 ((48 : Int) + HMod.hMod (n : Int) (10 : Int))] 5)) (.slice (some ⟨w.heap.size, 0, none⟩) 2 2) [UInt8.ofNat (48 + n / 10), UInt8.ofNat (48 + (HMod.hMod n 10 : Nat))] := by
      have h1 := own_fresh w 5 2 #[.int .u8 (48 + (n : Int) / 10), .int .u8 ((48 : Int) + HMod.hMod (n : Int) (10 : Int))] rfl (by omega)
      unfold BufAt
      simp only [List.map_cons, List.map_nil, u8_nat (48 + n / 10) (by omega), u8_nat (48 + (HMod.hMod n 10 : Nat)) (by omega), List.length_cons, List.length_nil]
      rw [show ((48 + n / 10 : Nat) : Int) = 48 + (n : Int) / 10 by omega, show ((48 + (HMod.hMod n 10 : Nat) : Nat) : Int) = (48 : Int) + HMod.hMod (n : Int) (10 : Int) by omega]
      exact h1
    have hcv := bytes_back _ _ _ _ hbuf
    rw [← HE.out] at hcv
    have HCV := hd hcv
    clear hbuf hcv
    go_enter Tryz.func12, Tryz.ntmps12
    go_wp2
    rw [HCV.out]
    go_wp2
    go_ret
    exact ⟨rfl, (Below.refl _ _).alloc (Nat.le_refl _) _⟩

end Go.Proofs.YtamkfbelpfpjcaaGreatDoor
