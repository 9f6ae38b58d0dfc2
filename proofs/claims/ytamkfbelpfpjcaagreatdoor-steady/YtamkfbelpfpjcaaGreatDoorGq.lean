import Derived.Test.YtamkfbelpfpjcaaGreatDoorGp
set_option linter.unusedVariables false
set_option linter.unusedSimpArgs false

namespace Go.Proofs.YtamkfbelpfpjcaaGreatDoor
open Go.RowKit

namespace Sq
theorem withE_len (es : List Ent) (e : Ent) : (withE es e).length ≤ es.length + 1 := by
  unfold withE
  have h1 := List.length_filter_le (fun x : Ent => x.place != e.place) (es.dropWhile fun x => Decidable.decide (x.place < e.place))
  have h2 : (es.takeWhile fun x => Decidable.decide (x.place < e.place)).length + (es.dropWhile fun x => Decidable.decide (x.place < e.place)).length = es.length := by
    rw [← List.length_append, List.takeWhile_append_dropWhile]
  rw [List.length_append, List.length_cons]
  omega
theorem put_two (n : Nat) (t : List (Kid n)) (e : Ent) : 1 ≤ (putT n t e).length ∧ (putT n t e).length ≤ 2 := by
  obtain ⟨q, h | h⟩ := put_form n t e
  · rw [h]; exact halve_len q
  · rw [h]; simp
theorem at_split {α : Type} (l : List α) (k : Nat) (h : k < l.length) : l = l.take k ++ l[k] :: l.drop (k + 1) := by
  conv => lhs; rw [← List.take_append_drop k l, List.drop_eq_getElem_cons h]
theorem exch_ents (n : Nat) (cs : List (List (Kid n))) (a : Nat) (h : a < cs.length) (o : List (List (Kid n))) : (ents (n + 1) (exch cs a 1 o)).length + (ents n cs[a]).length = (ents (n + 1) cs).length + (o.flatMap (ents n)).length := by
  have e := at_split cs a h
  have e1 : (ents (n + 1) cs).length = ((cs.take a).flatMap (ents n)).length + (ents n cs[a]).length + ((cs.drop (a + 1)).flatMap (ents n)).length := by
    conv => lhs; rw [e]
    rw [kid_mid, List.length_append, List.length_append]
  have e2 : (ents (n + 1) (exch cs a 1 o)).length = ((cs.take a).flatMap (ents n)).length + (o.flatMap (ents n)).length + ((cs.drop (a + 1)).flatMap (ents n)).length := by
    show (List.flatMap (ents n) (exch cs a 1 o)).length = _
    unfold exch
    rw [List.flatMap_append, List.flatMap_append, List.length_append, List.length_append]
  omega
theorem put_at {n : Nat} {cs : List (List (Kid n))} {e : Ent} (h : way n cs e.place < cs.length) : putT (n + 1) cs e = halve (exch cs (way n cs e.place) 1 (putT n cs[way n cs e.place] e)) := by
  show putO cs (way n cs e.place) (fun c => putT n c e) cs[way n cs e.place]? = _
  rw [List.getElem?_eq_getElem h]
  rfl
theorem put_none {n : Nat} {cs : List (List (Kid n))} {e : Ent} (h : ¬ way n cs e.place < cs.length) : putT (n + 1) cs e = [cs] := by
  show putO cs (way n cs e.place) (fun c => putT n c e) cs[way n cs e.place]? = _
  rw [List.getElem?_eq_none (by omega)]
  rfl
theorem put_more : ∀ (n : Nat) (t : List (Kid n)) (e : Ent), ((putT n t e).flatMap (ents n)).length ≤ (ents n t).length + 1
  | 0, t, e => by
    show ((halve (withE t e)).flatMap (ents 0)).length ≤ _
    rw [halve_ents 0]
    exact withE_len t e
  | n + 1, cs, e => by
    by_cases h : way n cs e.place < List.length cs
    · rw [put_at h]
      have h1 := exch_ents n cs (way n cs e.place) h (putT n (show List (List (Kid n)) from cs)[way n cs e.place] e)
      have h2 := put_more n (show List (List (Kid n)) from cs)[way n cs e.place] e
      obtain ⟨c, hc⟩ : ∃ c, c = (show List (List (Kid n)) from cs)[way n cs e.place] := ⟨_, rfl⟩
      have h3 := congrArg List.length (halve_ents (n + 1) (exch (show List (List (Kid n)) from cs) (way n cs e.place) 1 (putT n (show List (List (Kid n)) from cs)[way n cs e.place] e)))
      refine Nat.le_trans (Nat.le_of_eq h3) ?_
      exact Nat.le_of_add_le_add_right (Nat.le_trans (Nat.le_of_eq h1) (Nat.le_trans (Nat.add_le_add_left h2 _) (Nat.le_of_eq (Nat.add_right_comm _ _ _ ▸ (Nat.add_assoc _ _ _).symm))))
    · rw [put_none h]
      show (List.flatMap (ents (n + 1)) [cs]).length ≤ _
      simp
end Sq

set_option maxRecDepth 100000 in
set_option maxHeartbeats 2000000 in
theorem put_any : ∀ (n : Nat) (t : List (Sq.Kid n)) (ev cv : Value) (x : Sq.Ent) (w : World), NodeAt w n t ev cv → Sq.okT n t → (n = 0 ∨ t ≠ []) → (Sq.ents n t).length ≤ 500 →
    Calls Tryz.prog 101 #[.agg (nodeCells n (t, ev, cv)).toArray, .agg #[.int .i64 x.place, .string x.row]] w fun e w' => ∃ v l, e = .returned v ∧ l.map Prod.fst = Sq.putT n t x ∧ NodesAt w.heap.size w' v n l ∧ Below w.heap.size w w'
  | 0, es, ev, cv, x, w, h, _, _, hl => by
    rw [nodeCells_arr]
    obtain ⟨rfl, h2⟩ := h.leaf
    obtain ⟨ao, acap, rfl⟩ := ownsRow_slice h2
    obtain ⟨q3, hq3⟩ : ∃ x, x = Sq.least 0 es := ⟨_, rfl⟩
    rw [← hq3]
    have h00 : ((0 : Nat) != 0) = false := rfl
    have h01 : (Sq.ents 0 es).length = es.length := rfl
    simp only [h00, h01]
    have hl2 : List.length (α := Sq.Ent) es ≤ 500 := hl
    have HE : Hid (Sq.putT 0 es x = Sq.halve (Sq.withE es x)) := rfl
    have hwl := Sq.withE_len es x
    have hW : ∀ o o2, Below w.heap.size w ((w.alloc o).alloc o2) := fun o o2 => ((Below.refl _ _).alloc (Nat.le_refl _) _).alloc (by simp) _
    have HW := hd hW
    have H := hd h2
    have HWL := hd hwl
    clear h h2 hl hq3 h00 h01 hW hwl
    go_enter Tryz.func101, Tryz.ntmps101
    go_wp2_with fail
    refine (with_any es x _ _ (H.out.below (HW.out _ _)) (by omega)).mono ?_
    rintro e w1 ⟨v1, rfl, ho1, hb1⟩
    have hb1' : Below w.heap.size w w1 := (HW.out _ _).trans (hb1.mono (by simp; omega))
    have HB1 := hd hb1'
    have HO1 := hd ho1
    clear hb1 hb1' ho1
    go_wp2_with fail
    refine (leaves_any _ _ _ (HO1.out.base (Nat.zero_le _)) (by have := HWL.out; omega)).mono ?_
    rintro e w2 ⟨v2, l, rfl, hm, hn, hb2⟩
    go_wp2
    go_ret
    exact ⟨_, l, rfl, by rw [HE.out]; exact hm, hn.base HB1.out.size, HB1.out.trans (hb2.mono HB1.out.size)⟩
  | n + 1, cs, ev, cv, x, w, h, hok, hne, hl => by
    have ih := put_any n
    rw [nodeCells_arr]
    obtain ⟨rfl, l, hcs, hn⟩ := h.inner
    obtain ⟨ao, acap, rfl⟩ := ownsRow_slice hn.own
    have hlc : List.length cs = l.length := by rw [hcs]; simp
    have hll : l.length ≤ 500 := by
      have h1 := Sq.okT_len hok
      omega
    have hpos : 0 < l.length := by
      rcases hne with h | h
      · cases h
      · have : cs ≠ [] := h
        cases hc : l with
        | nil => rw [hc] at hcs; exact absurd hcs this
        | cons a b => simp
    obtain ⟨q3, hq3⟩ : ∃ x, x = Sq.least (n + 1) cs := ⟨_, rfl⟩
    obtain ⟨q4, hq4⟩ : ∃ x : Int, x = ((Sq.ents (n + 1) cs).length : Nat) := ⟨_, rfl⟩
    rw [← hq3, ← hq4]
    have hnz := nz n
    simp only [hnz]
    obtain ⟨a, haw⟩ : ∃ y, y = Sq.way n (l.map Prod.fst) x.place := ⟨_, rfl⟩
    have hab : a < l.length := by
      rw [haw]
      rcases Sq.wayFrom_spec n x.place ((l.map Prod.fst).drop 1) 1 0 with ⟨h1, _⟩ | ⟨r1, c, r2, h1, h2, _⟩
      · show Sq.wayFrom n x.place ((l.map Prod.fst).drop 1) 1 0 < _; rw [h1]; exact hpos
      · show Sq.wayFrom n x.place ((l.map Prod.fst).drop 1) 1 0 < _
        rw [h2]
        have := congrArg List.length h1
        simp at this
        omega
    have HE : Hid (Sq.putT (n + 1) cs x = Sq.halve (Sq.exch (l.map Prod.fst) a 1 (Sq.putT n l[a].1 x))) := by
      show Sq.putO cs (Sq.way n cs x.place) (fun c => Sq.putT n c x) (show List (List (Sq.Kid n)) from cs)[Sq.way n cs x.place]? = _
      rw [hcs, ← haw, List.getElem?_map, List.getElem?_eq_getElem hab]
      rfl
    have hmem : l[a].1 ∈ (show List (List (Sq.Kid n)) from cs) := by rw [hcs]; exact List.mem_map.2 ⟨l[a], List.getElem_mem hab, rfl⟩
    have hok2 := Sq.okT_mem hok hmem
    have hl2 := Nat.le_trans (Sq.ents_mem_len hmem) hl
    have hexl : (Sq.ents (n + 1) (Sq.exch (l.map Prod.fst) a 1 (Sq.putT n l[a].1 x))).length ≤ 501 := by
      have h1 := Sq.exch_ents n (l.map Prod.fst) a (by simpa using hab) (Sq.putT n l[a].1 x)
      have h2 := Sq.put_more n l[a].1 x
      rw [List.getElem_map] at h1
      rw [hcs] at hl
      omega
    have hW : Below w.heap.size w ((w.alloc (.cells #[.bool true, .slice none 0 0, .slice ao l.length acap, .int .i64 q3, .int .i64 q4] 44)).alloc (.cells #[.int .i64 x.place, .string x.row] 99)) := ((Below.refl _ _).alloc (Nat.le_refl _) _).alloc (by simp) _
    have HW := hd hW
    have H := hd hn
    have HOK := hd hok2
    have HL := hd hl2
    have HEXL := hd hexl
    have IH := hd ih
    have HAW := hd haw
    clear h hn hcs hok hl ih hq3 hq4 hnz hW haw hmem hok2 hl2 hexl hlc hne
    go_enter Tryz.func101, Tryz.ntmps101
    go_wp2_with fail
    refine (way_any n l x.place _ _ q3 q4 _ ⟨_, _, _, rfl⟩ (H.out.below HW.out) (by omega)).mono ?_
    rintro e w1 ⟨rfl, hb1⟩
    rw [← HAW.out]
    have hbw := HW.out.trans (hb1.mono (by simp; omega))
    have c2 := hb1.cell (p := ⟨w.heap.size, 2, none⟩) (by simp; omega)
    have b0 := hb1.cell (p := ⟨w.heap.size + 1, 0, none⟩) (by simp)
    have b1 := hb1.cell (p := ⟨w.heap.size + 1, 1, none⟩) (by simp)
    simp [go_sem] at c2 b0 b1
    have hz1 : w.heap.size + 1 < w1.heap.size := by have := hb1.size; simp at this; omega
    have hz0 : w.heap.size < w1.heap.size := by omega
    have HB1 := hd hbw
    clear hb1 hbw
    obtain ⟨g, cap', ea, el, ec, ca, cl, cc, hv, hg, d0, d1, d2, d3, d4, d5, d6⟩ := (H.out.below HB1.out).at a hab
    simp only [Value.slice.injEq] at hv
    obtain ⟨rfl, -, rfl⟩ := hv
    obtain ⟨t, ht⟩ : ∃ x, x = l[a].1 := ⟨_, rfl⟩
    have he := HE.out
    have hok2 := HOK.out
    have hl2 := HL.out
    have hexl := HEXL.out
    rw [← ht] at he hok2 hl2 hexl d3 d4 d6
    have HE2 := hd he
    have HOK2 := hd hok2
    have HL2 := hd hl2
    have HEXL2 := hd hexl
    have HN := hd d6
    have i1 : ¬ ((l.length : Int) ≤ (a : Int)) := by omega
    clear he hok2 hl2 hexl ht HE HOK HL HEXL d5 d6
    go_wp2
    go_region_with (go_at_call 101; refine (IH.out t _ _ x _ (HN.out.below (Below.drew (Below.refl _ _))) HOK2.out.2 (Or.inr (Sq.ne_of_two HOK2.out.1)) HL2.out).mono ?_; rintro e w2 ⟨v2, k, rfl, hm2, hn2, hb2⟩; obtain ⟨ko, kcap, rfl⟩ := ownsRow_slice hn2.own; have hb2' : Below w1.heap.size w1 w2 := (Below.drew (Below.refl _ _)).trans hb2; have c2' := ((bcell hb2').1 w.heap.size 2 hz0).trans c2; have hz2 := hb2'.size; have hz3 : w.heap.size < w2.heap.size := (by omega); have HB2 := hd hb2'; have HN2 := hd hn2; have HM2 := hd hm2; clear hb2 hb2' hm2 hn2)
    all_goals
      have hkl : k.length ≤ 2 := by
        have h1 := congrArg List.length HM2.out
        rw [List.length_map] at h1
        have h2 := (Sq.put_two n t x).2
        omega
      have hkp : 0 < k.length := by
        have h1 := congrArg List.length HM2.out
        rw [List.length_map] at h1
        have h2 := (Sq.put_two n t x).1
        omega
      go_wp2_with fail
      refine (exchanged_any n l k _ _ a 1 _ ((H.out.below HB1.out).below HB2.out) (HN2.out.base (Nat.zero_le _)) hkp (by omega) (by omega) (by omega) (by omega)).mono ?_
      rintro e w3 ⟨v3, rfl, hn3, hb3⟩
      have hxl : (Sq.exch l a 1 k).length ≤ 600 := by unfold Sq.exch; simp; omega
      have hxe : (Sq.exch l a 1 k).map Prod.fst = Sq.exch (l.map Prod.fst) a 1 (Sq.putT n t x) := by rw [Sq.exch_map, HM2.out]
      have HN3 := hd hn3
      have HB3 := hd hb3
      have HXE := hd hxe
      clear hn3 hb3 hxe
      go_wp2_with fail
      refine (inners_any n (Sq.exch l a 1 k) _ _ (HN3.out.base (Nat.zero_le _)) (by omega) (by rw [HXE.out]; exact Nat.le_trans HEXL2.out (by omega))).mono ?_
      rintro e w4 ⟨v4, k4, rfl, hm4, hn4, hb4⟩
      go_wp2
      go_ret
      have hB : Below w.heap.size w w3 := (HB1.out.trans (HB2.out.mono (by omega))).trans (HB3.out.mono (by omega))
      exact ⟨_, k4, rfl, by rw [HE2.out, hm4, HXE.out], hn4.base hB.size, hB.trans (hb4.mono hB.size)⟩

end Go.Proofs.YtamkfbelpfpjcaaGreatDoor

namespace Go.Proofs.YtamkfbelpfpjcaaGreatDoor
open Go.RowKit

theorem slice_one {ao : Option Addr} {w : World} {B : Nat} {e : TypeId} {size n cap : Nat} {cs : List Value} (h : w.ownsRow B e size (.slice ao n cap) n cs) (hn : 0 < n) : ∃ g, ao = some ⟨g, 0, none⟩ ∧ g < w.heap.size := by
  obtain ⟨g, h1, h2, _⟩ := own_cap h hn
  exact ⟨g, h1, h2⟩

/-- A new node's block is no part of a tree: what is done to it leaves the tree alone. -/
theorem NodeAt.skip {b : Nat} : ∀ {n : Nat} {w w' : World} {t : List (Sq.Kid n)} {ev cv : Value}, NodeAt w n t ev cv → Sq.okT n t → (n = 0 ∨ t ≠ []) → w.heap[b]? = some (.cells node0 44) → (∀ g, g ≠ b → w'.heap[g]? = w.heap[g]?) → NodeAt w' n t ev cv
  | 0, w, w', _, _, _, h, _, _, hb, ho => by
    refine ⟨h.1, h.2.1, ?_⟩
    rcases h.2.2 with h0 | ⟨g, cap, cur, hv, hbg, hh, hn, hm, hc, ht⟩
    · exact Or.inl h0
    · refine Or.inr ⟨g, cap, cur, hv, hbg, (ho g ?_).trans hh, hn, hm, hc, ht⟩
      rintro rfl
      rw [hb] at hh
      simp at hh
  | n + 1, w, w', cs, _, _, h, hok, hne, hb, ho => by
    obtain ⟨h1, l, h2, h3, h4⟩ := h
    have hpos : 0 < l.length := by
      rcases hne with h | h
      · cases h
      · cases hl : l with
        | nil => rw [hl] at h2; exact absurd h2 h
        | cons a b => simp
    have hin : ∀ x ∈ l, 2 ≤ x.1.length ∧ Sq.okT n x.1 := fun x hx => Sq.okT_mem (n := n) (cs := (show List (List (Sq.Kid n)) from cs)) hok (by rw [h2]; exact List.mem_map.2 ⟨x, hx, rfl⟩)
    refine ⟨h1, l, h2, ⟨h3.1, ?_⟩, fun x hx => (h4 x hx).skip (hin x hx).2 (Or.inr (Sq.ne_of_two (hin x hx).1)) hb ho⟩
    rcases h3.2 with h0 | ⟨g, cap, cur, hv, hbg, hh, hn, hm, hc, ht⟩
    · exact Or.inl h0
    · refine Or.inr ⟨g, cap, cur, hv, hbg, (ho g ?_).trans hh, hn, hm, hc, ht⟩
      rintro rfl
      rw [hb] at hh
      simp only [Option.some.injEq, Obj.cells.injEq, and_true] at hh
      subst hh
      have hcap : cap = 1 := by have : node0.size = 5 := rfl; omega
      have hl1 : l.length = 1 := by omega
      obtain ⟨x, rfl⟩ := List.length_eq_one_iff.1 hl1
      have hx := hin x (by simp)
      have hlen := Sq.okT_len hx.2
      have e : (nodeCells n x)[4]? = some (.int .i64 0) := by
        have : nodeCells n x = node0.toList.take (1 * 5) := by
          rw [← show [x].flatMap (nodeCells n) = nodeCells n x by simp]
          exact ht.symm
        rw [this]; rfl
      simp [nodeCells] at e
      have : x.1.length = 0 := by
        have h5 : (Sq.ents n x.1).length = 0 := by rw [e]; rfl
        omega
      omega

set_option maxRecDepth 100000 in
set_option maxHeartbeats 2000000 in
theorem Put_any (n : Nat) (t : List (Sq.Kid n)) (ev cv : Value) (p : Int) (row : ByteArray) (w : World) (h : NodeAt w n t ev cv) (hT : (⟨n, t⟩ : Sq.Tree).ok) (hl : (Sq.ents n t).length ≤ 500) :
    Calls Tryz.prog 60 #[.agg (nodeCells n (t, ev, cv)).toArray, .int .i64 p, .string row] w fun e w' => ∃ ev' cv', e = .returned (.agg (nodeCells (Sq.upT n (Sq.putT n t ⟨p, row⟩)).d ((Sq.upT n (Sq.putT n t ⟨p, row⟩)).t, ev', cv')).toArray) ∧ NodeAt w' (Sq.upT n (Sq.putT n t ⟨p, row⟩)).d (Sq.upT n (Sq.putT n t ⟨p, row⟩)).t ev' cv' ∧ Below w.heap.size w w' := by
  rw [nodeCells_arr]
  obtain ⟨⟨e1, e2, e3, hev⟩, c1, c2, c3, hcv⟩ := h.slices
  subst hev hcv
  have hbd := Sq.put_more n t ⟨p, row⟩
  have hok : Sq.okT n t := hT.kids
  have hne : n = 0 ∨ t ≠ [] := hT.ne
  have hT2 : (Sq.upT n (Sq.putT n t ⟨p, row⟩)).ok := (Sq.put_tree hT ⟨p, row⟩).1
  have htwo := Sq.put_two n t ⟨p, row⟩
  obtain ⟨pt, hpt⟩ : ∃ x, x = Sq.putT n t ⟨p, row⟩ := ⟨_, rfl⟩
  rw [← hpt] at hbd htwo hT2 ⊢
  have HT2 := hd hT2
  have hW : Below w.heap.size w ((w.alloc (.cells #[.bool (n != 0), .slice e1 e2 e3, .slice c1 c2 c3, .int .i64 (Sq.least n t), .int .i64 ((Sq.ents n t).length : Nat)] 44)).alloc (.cells node0 44)) := ((Below.refl _ _).alloc (Nat.le_refl _) _).alloc (by simp) _
  have H := hd h
  have HOK := hd hok
  have HNE := hd hne
  have HL := hd hl
  have HPT := hd hpt
  have HBD := hd hbd
  have HW := hd hW
  clear h hok hne hl hpt hbd hW hT hT2
  go_enter Tryz.func60, Tryz.ntmps60
  go_wp2_with fail
  refine (put_any n t _ _ ⟨p, row⟩ _ (H.out.below HW.out) HOK.out HNE.out HL.out).mono ?_
  rintro e w1 ⟨v1, l, rfl, hm, hn, hb1⟩
  obtain ⟨lo, lcap, rfl⟩ := ownsRow_slice hn.own
  rw [← HPT.out] at hm
  have hll : l.length = pt.length := by rw [← hm]; simp
  have hblk : w1.heap[w.heap.size + 1]? = some (.cells node0 44) := (hb1.block (w.heap.size + 1) (by simp)).trans (by rw [← heap_alloc1 w (.cells #[.bool (n != 0), .slice e1 e2 e3, .slice c1 c2 c3, .int .i64 (Sq.least n t), .int .i64 ((Sq.ents n t).length : Nat)] 44)]; exact alloc_here _ _)
  have hbw : Below w.heap.size w w1 := HW.out.trans (hb1.mono (by simp; omega))
  have hz1 : w.heap.size + 1 < w1.heap.size := lt_blk hblk
  have HN := hd hn
  have HM := hd hm
  have HBLK := hd hblk
  have HB1 := hd hbw
  clear hb1 hm hn hblk hbw
  match l, hll, HN, HM with
  | [], hll, _, _ => exfalso; simp at hll; omega
  | [y], hll, HN, HM =>
    obtain ⟨g, cap', ea, el, ec, ca, cl, cc, hv, hg, d0, d1, d2, d3, d4, d5, d6⟩ := HN.out.at 0 (by simp)
    simp only [Value.slice.injEq] at hv
    obtain ⟨rfl, -, rfl⟩ := hv
    obtain ⟨yt, yev, ycv⟩ := y
    simp only [List.getElem_cons_zero, Prod.mk.injEq, Nat.zero_mul, Nat.zero_add] at d0 d1 d2 d3 d4 d5 d6
    obtain ⟨rfl, rfl⟩ := d5
    have hpe : pt = [yt] := HM.out.symm
    subst hpe
    obtain ⟨b0, b1, b2, b3, b4⟩ := five_cells HBLK.out
    obtain ⟨f0, f1, f2, f3, f4⟩ := five_frozen HBLK.out
    have HN2 := hd d6
    have HE : Hid ((Sq.upT n [yt]) = ⟨n, yt⟩) := rfl
    clear d6 HM hll htwo
    go_wp2
    refine bodyPost_ret (v := .agg (nodeCells n (yt, .slice ea el ec, .slice ca cl cc)).toArray) (by simp [results, Tryz.results60, go_sem, nodeCells, *]) rfl ⟨_, _, rfl, ?_, ?_⟩
    · exact NodeAt.skip (b := w.heap.size + 1) HN2.out HT2.out.kids HT2.out.ne HBLK.out fun g hg => set5_other _ _ _ _ _ _ _ hg
    · exact set5_below HB1.out (by omega) _ _ _ _ _
  | y :: z :: r, hll, HN, HM =>
    have hlen2 : (y :: z :: r).length ≤ 2 := by omega
    have hn1 : (((y :: z :: r).length : Int) == 1) = false := by simp; omega
    have HE : Hid (Sq.upT n pt = ⟨n + 1, (y :: z :: r).map Prod.fst⟩) := by show _ = _; rw [← HM.out]; rfl
    have hents : (Sq.ents (n + 1) ((y :: z :: r).map Prod.fst)).length ≤ 501 := by
      have h1 := HBD.out
      rw [← HM.out] at h1
      have h2 := HL.out
      exact Nat.le_trans h1 (by omega)
    obtain ⟨l, hl⟩ : ∃ l, l = y :: z :: r := ⟨_, rfl⟩
    have he := HE.out
    have hn' := HN.out
    have hm' := HM.out
    rw [← hl] at hlen2 hn1 he hents hn' hm' ⊢
    have HE2 := hd he
    have HN2 := hd hn'
    have HENT := hd hents
    clear hl he hents hn' hm' HE HN HM hll htwo
    go_wp2_with fail
    refine (inner_any n l _ _ HN2.out.rd (by omega) (Nat.le_trans HENT.out (by omega))).mono ?_
    rintro e w2 ⟨cv2, rfl, hn2, hb2⟩
    obtain ⟨ko, kcap, rfl⟩ := ownsRow_slice hn2.own
    have hblk2 := (hb2.block (w.heap.size + 1) hz1).trans HBLK.out
    obtain ⟨b0, b1, b2, b3, b4⟩ := five_cells hblk2
    obtain ⟨f0, f1, f2, f3, f4⟩ := five_frozen hblk2
    have hz2 := lt_blk hblk2
    have HBLK2 := hd hblk2
    have HB2 := hd (HB1.out.trans (hb2.mono (by omega)))
    have HN3 := hd hn2
    clear hblk2 hn2 hb2
    rw [nodeCells_arr]
    have hnz := nz n
    simp only [hnz]
    clear hnz
    go_wp2
    rw [HE2.out]
    have hT2 := HT2.out
    rw [HE2.out] at hT2
    refine bodyPost_ret (v := .agg (nodeCells (n + 1) (l.map Prod.fst, .slice none 0 0, .slice ko l.length kcap)).toArray) (by simp [results, Tryz.results60, go_sem, nodeCells, *]) rfl ⟨_, _, rfl, ?_, ?_⟩
    · exact NodeAt.skip (b := w.heap.size + 1) (NodeAt.mk rfl (HN3.out.base (Nat.zero_le _))) hT2.kids hT2.ne HBLK2.out fun g hg => set5_other _ _ _ _ _ _ _ hg
    · exact set5_below HB2.out (by omega) _ _ _ _ _

end Go.Proofs.YtamkfbelpfpjcaaGreatDoor
