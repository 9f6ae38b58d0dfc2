import Derived.Test.YtamkfbelpfpjcaaGreatDoorGq
set_option linter.unusedVariables false
set_option linter.unusedSimpArgs false

namespace Go.Proofs.YtamkfbelpfpjcaaGreatDoor
open Go.RowKit

theorem ents_ne {es : List Sq.Ent} (h : es ≠ []) : 0 < es.length := by
  cases es with
  | nil => exact absurd rfl h
  | cons a b => simp

set_option maxRecDepth 100000 in
set_option maxHeartbeats 2000000 in
theorem together_any : ∀ (n : Nat) (a b : List (Sq.Kid n)) (ea ca eb cb : Value) (w : World), NodeAt w n a ea ca → NodeAt w n b eb cb → a ≠ [] → b ≠ [] → a.length ≤ 500 → b.length ≤ 500 → (Sq.ents n (a ++ b)).length ≤ 1000 →
    Calls Tryz.prog 154 #[.agg (nodeCells n (a, ea, ca)).toArray, .agg (nodeCells n (b, eb, cb)).toArray] w fun e w' => ∃ v l, e = .returned v ∧ l.map Prod.fst = Sq.halve (a ++ b) ∧ NodesAt w.heap.size w' v n l ∧ Below w.heap.size w w'
  | 0, a, b, ea, ca, eb, cb, w, ha, hb, hna, hnb, hla, hlb, hents => by
    rw [nodeCells_arr, nodeCells_arr]
    obtain ⟨rfl, ha2⟩ := ha.leaf
    obtain ⟨rfl, hb2⟩ := hb.leaf
    obtain ⟨ao, acap, rfl⟩ := ownsRow_slice ha2
    obtain ⟨bo, bcap, rfl⟩ := ownsRow_slice hb2
    obtain ⟨q3, hq3⟩ : ∃ x, x = Sq.least 0 a := ⟨_, rfl⟩
    obtain ⟨q4, hq4⟩ : ∃ x, x = Sq.least 0 b := ⟨_, rfl⟩
    rw [← hq3, ← hq4]
    have h00 : ((0 : Nat) != 0) = false := rfl
    have h01 : (Sq.ents 0 a).length = List.length (α := Sq.Ent) a := rfl
    have h02 : (Sq.ents 0 b).length = List.length (α := Sq.Ent) b := rfl
    simp only [h00, h01, h02]
    obtain ⟨es, hes⟩ : ∃ x : List Sq.Ent, x = a := ⟨_, rfl⟩
    obtain ⟨fs, hfs⟩ : ∃ x : List Sq.Ent, x = b := ⟨_, rfl⟩
    subst hes hfs
    have hpa := ents_ne hna
    have hpb := ents_ne hnb
    have hW : ∀ o o2, Below w.heap.size w ((w.alloc o).alloc o2) := fun o o2 => ((Below.refl _ _).alloc (Nat.le_refl _) _).alloc (by simp) _
    have HW := hd hW
    have HA := hd ha2
    have HB := hd hb2
    clear ha hb ha2 hb2 hq3 hq4 h00 h01 h02 hW hna hnb hents
    go_enter Tryz.func154, Tryz.ntmps154
    go_wp2_with (at_builtin; (first
      | (have hx := HB1; clear hx; refine wpList_append_ents rfl (.tmp 21) (.tmp 23) rfl (w.heap.size + 1 + 1) _ es rfl HO1.out fs _ rfl (Reads.of_own ((HB.out.below (HW.out _ _)).below (HB1.out.mono (by simp)))) hpb (by omega) (by omega) ?_; intro v2 w2 ho2 hb2; have HO2 := hd ho2; have HB2 := hd hb2; clear ho2 hb2)
      | (refine wpList_append_ents rfl (.tmp 17) (.tmp 19) rfl (w.heap.size + 1 + 1) _ [] rfl (World.ownsRow_nil _ _ _ _) es _ rfl (Reads.of_own (HA.out.below (HW.out _ _))) hpa (by simp; omega) (by simp) ?_; intro v1 w1 ho1 hb1; rw [List.nil_append] at ho1; obtain ⟨xo, xcap, rfl⟩ := ownsRow_slice ho1; have k2 := hb1.cell (p := ⟨w.heap.size + 1, 1, none⟩) (by simp); simp [go_sem] at k2; have hz1 : w.heap.size + 1 + 1 ≤ w1.heap.size := (by have := hb1.size; simp at this; omega); have hz0 : w.heap.size + 1 < w1.heap.size := (by omega); have HO1 := hd ho1; have HB1 := hd hb1; clear ho1 hb1)))
    go_wp2_with fail
    refine (leaves_any (es ++ fs) _ _ (HO2.out.base (Nat.zero_le _)) (by rw [List.length_append]; omega)).mono ?_
    rintro e w3 ⟨v3, l, rfl, hm, hn, hb3⟩
    go_wp2
    go_ret
    have hB : Below w.heap.size w w2 := (HW.out _ _).trans ((HB1.out.trans HB2.out).mono (by omega))
    exact ⟨_, l, rfl, hm, hn.base hB.size, hB.trans (hb3.mono hB.size)⟩
  | n + 1, a, b, ea, ca, eb, cb, w, ha, hb, hna, hnb, hla, hlb, hents => by
    rw [nodeCells_arr, nodeCells_arr]
    obtain ⟨rfl, la, hca, ha2⟩ := ha.inner
    obtain ⟨rfl, lb, hcb, hb2⟩ := hb.inner
    obtain ⟨ao, acap, rfl⟩ := ownsRow_slice ha2.own
    obtain ⟨bo, bcap, rfl⟩ := ownsRow_slice hb2.own
    have hA : List.length a = la.length := by rw [hca]; simp
    have hB : List.length b = lb.length := by rw [hcb]; simp
    have hpb : 0 < lb.length := by
      rcases Nat.eq_zero_or_pos lb.length with h | h
      · have : lb = [] := by simpa using h
        rw [this] at hcb; exact absurd hcb hnb
      · exact h
    rw [hA] at hla
    rw [hB] at hlb
    obtain ⟨q3, hq3⟩ : ∃ x, x = Sq.least (n + 1) a := ⟨_, rfl⟩
    obtain ⟨q4, hq4⟩ : ∃ x, x = Sq.least (n + 1) b := ⟨_, rfl⟩
    obtain ⟨q5, hq5⟩ : ∃ x : Int, x = ((Sq.ents (n + 1) a).length : Nat) := ⟨_, rfl⟩
    obtain ⟨q6, hq6⟩ : ∃ x : Int, x = ((Sq.ents (n + 1) b).length : Nat) := ⟨_, rfl⟩
    rw [← hq3, ← hq4, ← hq5, ← hq6]
    have hnz := nz n
    simp only [hnz]
    have hab : (show List (List (Sq.Kid n)) from a) ++ (show List (List (Sq.Kid n)) from b) = (la ++ lb).map Prod.fst := by rw [hca, hcb]; simp
    have HE : Hid (Sq.halve (a ++ b) = Sq.halve ((la ++ lb).map Prod.fst)) := congrArg Sq.halve hab
    have hen2 : (Sq.ents (n + 1) ((la ++ lb).map Prod.fst)).length ≤ 1000 := by rw [← hab]; exact hents
    have hex : Sq.exch la la.length 0 lb = la ++ lb := by unfold Sq.exch; simp
    have hW : ∀ o o2, Below w.heap.size w ((w.alloc o).alloc o2) := fun o o2 => ((Below.refl _ _).alloc (Nat.le_refl _) _).alloc (by simp) _
    have HW := hd hW
    have HA := hd ha2
    have HB := hd hb2
    have HEN := hd hen2
    have HEX := hd hex
    clear ha hb ha2 hb2 hq3 hq4 hq5 hq6 hnz hW hna hnb hents hab hen2 hex hca hcb hA hB
    go_enter Tryz.func154, Tryz.ntmps154
    go_wp2_with fail
    refine (exchanged_any n la lb _ _ la.length 0 _ (HA.out.below (HW.out _ _)) (HB.out.below (HW.out _ _)) hpb (by omega) (by omega) (by omega) (by omega)).mono ?_
    rintro e w3 ⟨v3, rfl, hn3, hb3⟩
    rw [HEX.out] at hn3
    have HN3 := hd hn3
    have HB3 := hd ((HW.out _ _).trans (hb3.mono (by simp; omega)))
    clear hn3 hb3
    go_wp2_with fail
    refine (inners_any n (la ++ lb) _ _ (HN3.out.base (Nat.zero_le _)) (by rw [List.length_append]; omega) (Nat.le_trans HEN.out (by omega))).mono ?_
    rintro e w4 ⟨v4, k4, rfl, hm4, hn4, hb4⟩
    go_wp2
    go_ret
    exact ⟨_, k4, rfl, by rw [HE.out]; exact hm4, hn4.base HB3.out.size, HB3.out.trans (hb4.mono HB3.out.size)⟩

/-- The pair that is joined, by its number. -/
theorem Sq.joinK_at {α : Type} (cs : List (List α)) (a b : Nat) (h2 : b + 1 < cs.length) (hb : b = if a + 1 == cs.length then a - 1 else a) : Sq.joinK cs a = Sq.exch cs b 2 (Sq.halve (cs[b] ++ cs[b + 1])) := by
  unfold Sq.joinK
  rw [← hb, List.getElem?_eq_getElem (by omega), List.getElem?_eq_getElem (by omega)]

set_option maxRecDepth 100000 in
set_option maxHeartbeats 2000000 in
theorem joined_any (n : Nat) (l : List (List (Sq.Kid n) × Value × Value)) (v : Value) (a : Nat) (w : World) (h : NodesAt 0 w v n l) (hl : l.length ≤ 500) (h2 : 2 ≤ l.length) (ha : a < l.length) (hne : ∀ x ∈ l, x.1 ≠ [] ∧ x.1.length ≤ 500) (hent : (Sq.ents (n + 1) (l.map Prod.fst)).length ≤ 1000) :
    Calls Tryz.prog 141 #[v, .int .i64 a] w fun e w' => ∃ v' k, e = .returned v' ∧ k.map Prod.fst = Sq.joinK (l.map Prod.fst) a ∧ NodesAt w.heap.size w' v' n k ∧ Below w.heap.size w w' := by
  obtain ⟨ao, acap, rfl⟩ := ownsRow_slice h.own
  obtain ⟨b, hb⟩ : ∃ b, b = (if a + 1 == l.length then a - 1 else a) := ⟨_, rfl⟩
  have hb1 : b + 1 < l.length := by
    rw [hb]
    by_cases h : a + 1 = l.length
    · simp [h]; omega
    · simp [h]; omega
  have HE : Hid (Sq.joinK (l.map Prod.fst) a = Sq.exch (l.map Prod.fst) b 2 (Sq.halve (l[b].1 ++ l[b + 1].1))) := by
    show _ = _
    rw [Sq.joinK_at (l.map Prod.fst) a b (by simpa using hb1) (by simpa using hb), List.getElem_map, List.getElem_map]
  obtain ⟨g, cap', ea, el, ec, ca, cl, cc, hv, hg, d0, d1, d2, d3, d4, d5, d6⟩ := h.at b (by omega)
  simp only [Value.slice.injEq] at hv
  obtain ⟨rfl, -, rfl⟩ := hv
  obtain ⟨g2, cap2, ea2, el2, ec2, ca2, cl2, cc2, hv2, hg2, e0, e1, e2, e3, e4, e5, e6⟩ := h.at (b + 1) hb1
  simp only [Value.slice.injEq, Option.some.injEq, Addr.mk.injEq] at hv2
  obtain ⟨⟨rfl, -, -⟩, -, rfl⟩ := hv2
  have hx1 := hne l[b] (List.getElem_mem _)
  have hx2 := hne l[b + 1] (List.getElem_mem _)
  have hee : (Sq.ents n (l[b].1 ++ l[b + 1].1)).length ≤ 1000 := by
    refine Nat.le_trans ?_ hent
    rw [Sq.ents_append, List.length_append]
    have hs := Sq.at_split l b (by omega)
    have hs2 : l.drop (b + 1) = l[b + 1] :: l.drop (b + 1 + 1) := List.drop_eq_getElem_cons hb1
    rw [Sq.ents_pairs]
    conv => rhs; rw [hs, hs2]
    simp only [List.flatMap_append, List.flatMap_cons, List.length_append]
    omega
  obtain ⟨t1, ht1⟩ : ∃ x, x = l[b].1 := ⟨_, rfl⟩
  obtain ⟨t2, ht2⟩ : ∃ x, x = l[b + 1].1 := ⟨_, rfl⟩
  have he := HE.out
  rw [← ht1] at he d3 d4 d6 hx1 hee
  rw [← ht2] at he e3 e4 e6 hx2 hee
  have HE2 := hd he
  have H := hd h
  have HN1 := hd d6
  have HN2 := hd e6
  have HEE := hd hee
  have HX1 := hd hx1
  have HX2 := hd hx2
  have i1 : ¬ ((l.length : Int) ≤ (b : Int)) := by omega
  have i2 : ¬ ((l.length : Int) ≤ (b : Int) + 1) := by omega
  have i3 : ¬ ((b : Int) < 0) := by omega
  have i4 : decide ((b : Int) < 0) = false := by simp
  have i6 : IntKind.i64.wrap ((b : Int) + 1) = ((b + 1 : Nat) : Int) := by simp [IntKind.wrap, IntKind.bits, IntKind.signed]; omega
  have i5 : decide ((l.length : Int) ≤ (b : Int) + 1) = false := by simp; omega
  clear h he HE ht1 ht2 hx1 hx2 hee d5 d6 e5 e6 hne hent
  by_cases hal : a + 1 = l.length
  · have hba : b = a - 1 := by rw [hb]; simp [hal]
    have j1 : ((a : Int) == (l.length : Int) - 1) = true := by simp; omega
    have j2 : (a : Int) - 1 = (b : Int) := by omega
    clear hb hba
    go_enter Tryz.func141, Tryz.ntmps141
    go_wp2
    go_region_with (first
      | (go_at_call 154; refine (together_any n t1 t2 _ _ _ _ _ (HN1.out.below (Below.drew (Below.refl _ _))) (HN2.out.below (Below.drew (Below.refl _ _))) HX1.out.1 HX2.out.1 HX1.out.2 HX2.out.2 HEE.out).mono ?_; rintro e w2 ⟨v2, k, rfl, hm2, hn2, hb2⟩; obtain ⟨ko, kcap, rfl⟩ := ownsRow_slice hn2.own; have hb2' : Below w.heap.size w w2 := (Below.drew (Below.refl _ _)).trans hb2; have hkl : k.length = (Sq.halve (t1 ++ t2)).length := (by rw [← hm2]; simp); have hk2 := Sq.halve_len (t1 ++ t2); have hkA : k.length ≤ 2 := (by omega); have hkB : 0 < k.length := (by omega); have HB2 := hd hb2'; have HNK := hd hn2; have HM2 := hd hm2; clear hb2 hb2' hn2 hm2 hkl hk2)
      | (go_at_call 138; refine (exchanged_any n l k _ _ b 2 _ (H.out.below HB2.out) (HNK.out.base (Nat.zero_le _)) hkB (by omega) (by omega) (by omega) (by omega)).mono ?_; rintro e w3 ⟨v3, rfl, hn3, hb3⟩))
    all_goals
      go_wp2
      go_ret
      exact ⟨_, Sq.exch l b 2 k, rfl, by rw [HE2.out, Sq.exch_map, HM2.out], hn3.base HB2.out.size, HB2.out.trans (hb3.mono HB2.out.size)⟩
  · have hba : b = a := by rw [hb]; simp [hal]
    subst hba
    have j1 : ((b : Int) == (l.length : Int) - 1) = false := by simp; omega
    clear hb
    go_enter Tryz.func141, Tryz.ntmps141
    go_wp2
    go_region_with (first
      | (go_at_call 154; refine (together_any n t1 t2 _ _ _ _ _ (HN1.out.below (Below.drew (Below.refl _ _))) (HN2.out.below (Below.drew (Below.refl _ _))) HX1.out.1 HX2.out.1 HX1.out.2 HX2.out.2 HEE.out).mono ?_; rintro e w2 ⟨v2, k, rfl, hm2, hn2, hb2⟩; obtain ⟨ko, kcap, rfl⟩ := ownsRow_slice hn2.own; have hb2' : Below w.heap.size w w2 := (Below.drew (Below.refl _ _)).trans hb2; have hkl : k.length = (Sq.halve (t1 ++ t2)).length := (by rw [← hm2]; simp); have hk2 := Sq.halve_len (t1 ++ t2); have hkA : k.length ≤ 2 := (by omega); have hkB : 0 < k.length := (by omega); have HB2 := hd hb2'; have HNK := hd hn2; have HM2 := hd hm2; clear hb2 hb2' hn2 hm2 hkl hk2)
      | (go_at_call 138; refine (exchanged_any n l k _ _ b 2 _ (H.out.below HB2.out) (HNK.out.base (Nat.zero_le _)) hkB (by omega) (by omega) (by omega) (by omega)).mono ?_; rintro e w3 ⟨v3, rfl, hn3, hb3⟩))
    all_goals
      go_wp2
      go_ret
      exact ⟨_, Sq.exch l b 2 k, rfl, by rw [HE2.out, Sq.exch_map, HM2.out], hn3.base HB2.out.size, HB2.out.trans (hb3.mono HB2.out.size)⟩

end Go.Proofs.YtamkfbelpfpjcaaGreatDoor
