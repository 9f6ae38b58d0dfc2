import Derived.Test.YtamkfbelpfpjcaaGreatDoorGx
import Derived.Test.YtamkfbelpfpjcaaGreatDoorGy
import Derived.Test.YtamkfbelpfpjcaaGreatDoorHd
set_option linter.unusedVariables false
set_option linter.unusedSimpArgs false

namespace Go.Proofs.YtamkfbelpfpjcaaGreatDoor
open Go.RowKit

set_option maxRecDepth 100000 in
set_option maxHeartbeats 400000 in
theorem digest_of (wide : Nat) (hw : wide ≤ 32) (bn : Bool) (ea ca : Option Addr) (el ec cl cc : Nat) (q3 q4 : Int) (bs : ByteArray) (hbs : bs.size ≤ 1000000) (w : World) (hR : Rnd w)
    (hB : ∀ w', Below w.heap.size w w' → Calls Tryz.prog 38 #[.agg #[.bool bn, .slice ea el ec, .slice ca cl cc, .int .i64 q3, .int .i64 q4], .int .i64 wide] w' fun e w'' => e = .returned (.string bs) ∧ Below w'.heap.size w' w'') :
    Calls Tryz.prog 20 #[.agg #[.bool bn, .slice ea el ec, .slice ca cl cc, .int .i64 q3, .int .i64 q4], .int .i64 wide] w fun e w' => e = .returned (.string (Sq.shaOf bs wide)) ∧ Below w.heap.size w w' := by
  have HR := hd hR
  have HB := hd hB
  clear hR hB
  have hW : ∀ o, Below w.heap.size w (w.alloc o) := fun o => (Below.refl _ _).alloc (Nat.le_refl _) _
  have HW := hd hW
  clear hW
  go_enter Tryz.func20, Tryz.ntmps20
  go_wp2_with fail
  refine (HB.out _ (HW.out _)).mono ?_
  rintro e w1 ⟨rfl, hb1⟩
  have HB1 := hd ((HW.out _).trans (hb1.mono (by simp)))
  have hz1 := HB1.out.size
  clear hb1
  go_wp2_with fail
  refine (Of_any bs wide _ hbs hw (HR.out.below HB1.out)).mono ?_
  rintro e w2 ⟨rfl, hb2⟩
  go_wp2
  go_ret
  exact ⟨rfl, HB1.out.trans (hb2.mono hz1)⟩

theorem Sq.bytesT_size {wide n : Nat} (hw : wide ≤ 32) {t : List (Sq.Kid n)} (ho : Sq.okT n t) (hl : (Sq.ents n t).length ≤ 100) (hs : ∀ e ∈ Sq.ents n t, e.row.size ≤ 1000) : (Sq.bytesT wide n t).size ≤ 1000000 := by
  have hk := Sq.okT_len ho
  cases n with
  | zero =>
    have h1 := Sq.entsB_size t (Sq.pnum 1 1 ++ Sq.pnum (List.length (α := Sq.Ent) t : Nat) 1) hs
    have h2 : (Sq.pnum 1 1 ++ Sq.pnum (List.length (α := Sq.Ent) t : Nat) 1).size = 2 := by rw [ByteArray.size_append, Sq.pnum_size, Sq.pnum_size]
    show (Sq.entsB _ t).size ≤ _
    omega
  | succ n =>
    have h1 := Sq.kidsB_size (List.map (α := List (Sq.Kid n)) (fun c => (Sq.least n c, (Sq.ents n c).length, Sq.shaOf (Sq.bytesT wide n c) wide)) t) (Sq.pnum 2 1 ++ Sq.pnum (List.length (α := List (Sq.Kid n)) t : Nat) 1) (by
      intro x hx
      obtain ⟨c, _, rfl⟩ := List.mem_map.1 hx
      show (Sq.shaOf _ wide).size ≤ 32
      rw [Sq.shaOf_size _ _ hw]
      exact hw)
    have h2 : (Sq.pnum 2 1 ++ Sq.pnum (List.length (α := List (Sq.Kid n)) t : Nat) 1).size = 2 := by rw [ByteArray.size_append, Sq.pnum_size, Sq.pnum_size]
    rw [List.length_map] at h1
    show (Sq.kidsB _ _).size ≤ _
    omega

theorem Sq.ents_mem {n : Nat} {cs : List (List (Sq.Kid n))} {c : List (Sq.Kid n)} (hm : c ∈ cs) {e : Sq.Ent} (he : e ∈ Sq.ents n c) : e ∈ Sq.ents (n + 1) cs := List.mem_flatMap.2 ⟨c, hm, he⟩

theorem dig_any (wide : Nat) (hw : wide ≤ 32) : ∀ (n : Nat) (t : List (Sq.Kid n)) (ev cv : Value) (w : World), NodeAt w n t ev cv → Sq.okT n t → (Sq.ents n t).length ≤ 100 → (∀ e ∈ Sq.ents n t, e.row.size ≤ 1000) → Rnd w →
    Calls Tryz.prog 20 #[.agg #[.bool (n != 0), ev, cv, .int .i64 (Sq.least n t), .int .i64 ((Sq.ents n t).length : Nat)], .int .i64 wide] w fun e w' => e = .returned (.string (Sq.digT wide n t)) ∧ Below w.heap.size w w'
  | 0, es, ev, cv, w, h, ho, hl, hs, hR => by
    obtain ⟨rfl, h2⟩ := h.leaf
    obtain ⟨ao, cap, rfl⟩ := ownsRow_slice h2
    exact digest_of wide hw false ao none _ cap 0 0 _ _ (Sq.bytesT wide 0 es) (Sq.bytesT_size hw ho hl hs) w hR fun w' hb => bytes0_any wide es _ _ _ w' (h2.below hb) hl hs _ rfl
  | n + 1, cs, ev, cv, w, h, ho, hl, hs, hR => by
    obtain ⟨rfl, l, hcs, h3⟩ := h.inner
    obtain ⟨ao, cap, hcv⟩ := ownsRow_slice h3.own
    have hk := Sq.okT_len ho
    have hkl : l.length ≤ 100 := by
      have : List.length (α := List (Sq.Kid n)) cs = l.length := by rw [hcs]; simp
      have h5 : List.length (α := List (Sq.Kid n)) cs ≤ (Sq.ents (n + 1) cs).length := hk
      omega
    have hmem : ∀ x ∈ l, x.1 ∈ (show List (List (Sq.Kid n)) from cs) := fun x hx => by rw [hcs]; exact List.mem_map.2 ⟨x, hx, rfl⟩
    have key : ∀ w', Below w.heap.size w w' → Calls Tryz.prog 38 #[.agg #[.bool true, .slice none 0 0, cv, .int .i64 (Sq.least (n + 1) cs), .int .i64 ((Sq.ents (n + 1) cs).length : Nat)], .int .i64 wide] w' fun e w'' => e = .returned (.string (Sq.bytesT wide (n + 1) cs)) ∧ Below w'.heap.size w' w'' := by
      intro w' hb
      refine bytes1_any wide n l cv _ _ w' (h3.below hb) hkl (Sq.digT wide n) (fun x _ => by unfold Sq.digT; rw [Sq.shaOf_size _ _ hw]; exact hw) ?_ _ ?_
      · intro x hx w'' hb2
        have hm := hmem x hx
        exact dig_any wide hw n x.1 x.2.1 x.2.2 w'' (((h3.below hb).each x hx).below hb2) (Sq.okT_mem ho hm).2 (Nat.le_trans (Sq.ents_mem_len hm) hl) (fun e he => hs e (Sq.ents_mem hm he)) ((hR.below hb).below hb2)
      · show _ = _
        subst hcs
        show Sq.kidsB (Sq.pnum 2 1 ++ Sq.pnum ((l.map Prod.fst).length : Nat) 1) ((l.map Prod.fst).map _) = _
        rw [List.length_map, List.map_map]
        rfl
    subst hcv
    exact digest_of wide hw true none ao 0 0 _ cap _ _ (Sq.bytesT wide (n + 1) cs) (Sq.bytesT_size hw ho hl hs) w hR key

end Go.Proofs.YtamkfbelpfpjcaaGreatDoor

namespace Go.Proofs.YtamkfbelpfpjcaaGreatDoor
open Go.RowKit

set_option maxRecDepth 100000 in
set_option maxHeartbeats 400000 in
theorem StoreRoot_any (wide : Nat) (hw : wide ≤ 32) (n : Nat) (t : List (Sq.Kid n)) (ev cv : Value) (w : World) (h : NodeAt w n t ev cv) (ho : Sq.okT n t) (hl : (Sq.ents n t).length ≤ 100) (hs : ∀ e ∈ Sq.ents n t, e.row.size ≤ 1000) (hR : Rnd w) :
    Calls Tryz.prog 17 #[.agg (nodeCells n (t, ev, cv)).toArray, .int .i64 wide] w fun e w' => e = .returned (.string (Sq.digT wide n t)) ∧ Below w.heap.size w w' := by
  rw [nodeCells_arr]
  obtain ⟨⟨e1, e2, e3, hev⟩, c1, c2, c3, hcv⟩ := h.slices
  subst hev hcv
  have hW : ∀ o, Below w.heap.size w (w.alloc o) := fun o => (Below.refl _ _).alloc (Nat.le_refl _) _
  have hk : ∀ w', Below w.heap.size w w' → Calls Tryz.prog 20 #[.agg #[.bool (n != 0), .slice e1 e2 e3, .slice c1 c2 c3, .int .i64 (Sq.least n t), .int .i64 ((Sq.ents n t).length : Nat)], .int .i64 wide] w' fun e w'' => e = .returned (.string (Sq.digT wide n t)) ∧ Below w'.heap.size w' w'' := fun w' hb => dig_any wide hw n t _ _ w' (h.below hb) ho hl hs (hR.below hb)
  have HW := hd hW
  have HK := hd hk
  clear h ho hl hs hR hW hk
  generalize Sq.least n t = q3 at *
  generalize (Sq.ents n t).length = q4 at *
  generalize Sq.digT wide n t = dg at *
  generalize (n != 0) = bn at *
  go_enter Tryz.func17, Tryz.ntmps17
  go_wp2_with fail
  refine (HK.out _ (HW.out _)).mono ?_
  rintro e w2 ⟨rfl, hb2⟩
  go_wp2
  go_ret
  exact ⟨rfl, (HW.out _).trans (hb2.mono (by simp))⟩

end Go.Proofs.YtamkfbelpfpjcaaGreatDoor
