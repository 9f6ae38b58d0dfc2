import Derived.Deep.CutRange
import Derived.Test.YtamkfbelpfpjcaaGreatDoorGv
import Derived.Test.YtamkfbelpfpjcaaGreatDoorGo
set_option linter.unusedVariables false
set_option linter.unusedSimpArgs false

namespace Go.Proofs.YtamkfbelpfpjcaaGreatDoor
open Go.RowKit

namespace Sq
def entsB (b : ByteArray) (es : List Ent) : ByteArray := es.foldl (fun b e => b ++ (pnum e.place 5 ++ txt e.row)) b
/-- Children's rows: least place, how many, digest. -/
def kidsB (b : ByteArray) (l : List (Int × Nat × ByteArray)) : ByteArray := l.foldl (fun b x => b ++ (pnum x.1 5 ++ pnum x.2.1 1 ++ x.2.2)) b
def bytesT (wide : Nat) : (n : Nat) → List (Kid n) → ByteArray
  | 0, es => entsB (pnum 1 1 ++ pnum (List.length (α := Ent) es : Nat) 1) es
  | n + 1, cs => kidsB (pnum 2 1 ++ pnum (List.length (α := List (Kid n)) cs : Nat) 1) (List.map (α := List (Kid n)) (fun c => (least n c, (ents n c).length, shaOf (bytesT wide n c) wide)) cs)
def digT (wide n : Nat) (t : List (Kid n)) : ByteArray := shaOf (bytesT wide n t) wide
theorem entsB_drop (l : List Ent) (k : Nat) (h : k < l.length) (b : ByteArray) : entsB b (l.drop k) = entsB (b ++ (pnum l[k].place 5 ++ txt l[k].row)) (l.drop (k + 1)) := by
  unfold entsB
  rw [List.drop_eq_getElem_cons h, List.foldl_cons]
theorem kidsB_drop (l : List (Int × Nat × ByteArray)) (k : Nat) (h : k < l.length) (b : ByteArray) : kidsB b (l.drop k) = kidsB (b ++ (pnum l[k].1 5 ++ pnum l[k].2.1 1 ++ l[k].2.2)) (l.drop (k + 1)) := by
  unfold kidsB
  rw [List.drop_eq_getElem_cons h, List.foldl_cons]
theorem entsB_size : ∀ (l : List Ent) (b : ByteArray), (∀ e ∈ l, e.row.size ≤ 1000) → (entsB b l).size ≤ b.size + 2000 * l.length
  | [], b, _ => by unfold entsB; simp
  | e :: r, b, h => by
    have h1 := entsB_size r (b ++ (pnum e.place 5 ++ txt e.row)) fun x hx => h x (by simp [hx])
    have h2 := h e (by simp)
    have h3 := pnum_size e.place 5
    have h4 := txt_size e.row
    rw [ByteArray.size_append, ByteArray.size_append] at h1
    unfold entsB at h1 ⊢
    rw [List.foldl_cons, List.length_cons]
    omega
theorem kidsB_size : ∀ (l : List (Int × Nat × ByteArray)) (b : ByteArray), (∀ x ∈ l, x.2.2.size ≤ 32) → (kidsB b l).size ≤ b.size + 2000 * l.length
  | [], b, _ => by unfold kidsB; simp
  | e :: r, b, h => by
    have h1 := kidsB_size r (b ++ (pnum e.1 5 ++ pnum e.2.1 1 ++ e.2.2)) fun x hx => h x (by simp [hx])
    have h2 := h e (by simp)
    have h3 := pnum_size e.1 5
    have h4 := pnum_size e.2.1 1
    rw [ByteArray.size_append, ByteArray.size_append, ByteArray.size_append] at h1
    unfold kidsB at h1 ⊢
    rw [List.foldl_cons, List.length_cons]
    omega
end Sq

theorem node5 {w : World} {b : Nat} {a0 a1 a2 a3 a4 : Value} (h : w.heap[b]? = some (.cells #[a0, a1, a2, a3, a4] 44)) :
    w.cell? ⟨b, 0, none⟩ = some a0 ∧ w.cell? ⟨b, 1, none⟩ = some a1 ∧ w.cell? ⟨b, 2, none⟩ = some a2 ∧ w.cell? ⟨b, 3, none⟩ = some a3 ∧ w.cell? ⟨b, 4, none⟩ = some a4 :=
  ⟨by rw [cell_blk h]; rfl, by rw [cell_blk h]; rfl, by rw [cell_blk h]; rfl, by rw [cell_blk h]; rfl, by rw [cell_blk h]; rfl⟩
theorem node5_below {W : World} {b : Nat} {a0 a1 a2 a3 a4 : Value} (h : W.heap[b]? = some (.cells #[a0, a1, a2, a3, a4] 44)) (w : World) (hb : Below W.heap.size W w) :
    w.cell? ⟨b, 0, none⟩ = some a0 ∧ w.cell? ⟨b, 1, none⟩ = some a1 ∧ w.cell? ⟨b, 2, none⟩ = some a2 ∧ w.cell? ⟨b, 3, none⟩ = some a3 ∧ w.cell? ⟨b, 4, none⟩ = some a4 :=
  node5 ((hb.block b (lt_blk h)).trans h)

set_option maxRecDepth 100000 in
set_option maxHeartbeats 400000 in
theorem sizeL_any (ao : Option Addr) (len cap : Nat) (q3 q4 : Int) (w : World) (hl : len ≤ 1000) :
    Calls Tryz.prog 66 #[.agg #[.bool false, .slice ao len cap, .slice none 0 0, .int .i64 q3, .int .i64 q4]] w fun e w' => e = .returned (.int .i64 len) ∧ Below w.heap.size w w' := by
  have hW : ∀ o, Below w.heap.size w (w.alloc o) := fun o => (Below.refl _ _).alloc (Nat.le_refl _) _
  have HW := hd hW
  clear hW
  go_enter Tryz.func66, Tryz.ntmps66
  go_wp2
  go_ret
  exact ⟨rfl, HW.out _⟩
set_option maxRecDepth 100000 in
set_option maxHeartbeats 400000 in
theorem sizeI_any (ao : Option Addr) (len cap : Nat) (q3 q4 : Int) (w : World) (hl : len ≤ 1000) :
    Calls Tryz.prog 66 #[.agg #[.bool true, .slice none 0 0, .slice ao len cap, .int .i64 q3, .int .i64 q4]] w fun e w' => e = .returned (.int .i64 len) ∧ Below w.heap.size w w' := by
  have hW : ∀ o, Below w.heap.size w (w.alloc o) := fun o => (Below.refl _ _).alloc (Nat.le_refl _) _
  have HW := hd hW
  clear hW
  go_enter Tryz.func66, Tryz.ntmps66
  go_wp2
  go_ret
  exact ⟨rfl, HW.out _⟩

end Go.Proofs.YtamkfbelpfpjcaaGreatDoor
