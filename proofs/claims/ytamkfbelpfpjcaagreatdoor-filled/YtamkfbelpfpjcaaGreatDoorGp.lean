import Derived.Laws.AppendOwnNone
import Derived.Test.YtamkfbelpfpjcaaGreatDoorGo
set_option linter.unusedVariables false
set_option linter.unusedSimpArgs false

namespace Go.Proofs.YtamkfbelpfpjcaaGreatDoor
open Go.RowKit

theorem Sq.wayFrom_drop (n : Nat) (p : Int) (cs : List (List (Sq.Kid n))) (k a : Nat) (h : k < cs.length) : Sq.wayFrom n p (cs.drop k) k a = Sq.wayFrom n p (cs.drop (k + 1)) (k + 1) (if Sq.least n cs[k] ≤ p then k else a) := by
  rw [List.drop_eq_getElem_cons h, Sq.wayFrom]

set_option maxRecDepth 100000 in
set_option maxHeartbeats 1000000 in
theorem way_any (n : Nat) (l : List (List (Sq.Kid n) × Value × Value)) (p : Int) (ev cv : Value) (q3 q4 : Int) (w : World) (he : ∃ a k c, ev = .slice a k c) (h : NodesAt 0 w cv n l) (hl : l.length ≤ 1000) :
    Calls Tryz.prog 132 #[.agg #[.bool true, ev, cv, .int .i64 q3, .int .i64 q4], .int .i64 p] w fun e w' => e = .returned (.int .i64 (Sq.way n (l.map Prod.fst) p : Nat)) ∧ Below w.heap.size w w' := by
  obtain ⟨eo, en, ecap, rfl⟩ := he
  obtain ⟨ao, acap, rfl⟩ := ownsRow_slice h.own
  have hW : Below w.heap.size w (w.alloc (.cells #[.bool true, .slice eo en ecap, .slice ao l.length acap, .int .i64 q3, .int .i64 q4] 44)) := (Below.refl _ _).alloc (Nat.le_refl _) _
  have HW := hd hW
  have H := hd h
  have HL : Hid ((l.map Prod.fst).length = l.length) := by show _ = _; simp
  clear h hW
  go_enter Tryz.func132, Tryz.ntmps132
  go_wp2
  go_loop [5, 6] (fun at_ i => ∃ k a : Nat, 1 ≤ k ∧ k ≤ l.length + 1 ∧ i = .int .i64 k ∧ a ≤ l.length ∧ at_ = .int .i64 a ∧ Hid (Sq.way n (l.map Prod.fst) p = Sq.wayFrom n p ((l.map Prod.fst).drop k) k a)) (fun _ i => l.length + 1 - (intOf i).toNat)
  case atStart => exact ⟨1, 0, Nat.le_refl _, by omega, rfl, Nat.zero_le _, rfl, rfl⟩
  case round =>
    obtain ⟨k, a, hk1, hk, rfl, ha, rfl, hr⟩ := hrel
    by_cases hlt : k < l.length
    · obtain ⟨g, cap', ea, el, ec, ca, cl, cc, hv, hg, d0, d1, d2, d3, d4, d5, d6⟩ := (H.out.below HW.out).at k hlt
      simp only [Value.slice.injEq] at hv
      obtain ⟨rfl, -, rfl⟩ := hv
      have hst := Sq.wayFrom_drop n p (l.map Prod.fst) k a (by rw [HL.out]; exact hlt)
      rw [List.getElem_map] at hst
      obtain ⟨q, hq⟩ : ∃ x, x = Sq.least n l[k].1 := ⟨_, rfl⟩
      rw [← hq] at hst d3
      have HST := hd hst
      have i1 : ¬ ((l.length : Int) ≤ (k : Int)) := by omega
      clear hst hq d0 d1 d2 d4 d5 d6
      by_cases hle : q ≤ p
      · have HR : Hid (Sq.way n (l.map Prod.fst) p = Sq.wayFrom n p ((l.map Prod.fst).drop (k + 1)) (k + 1) k) := by show _ = _; rw [hr.out, HST.out, if_pos hle]
        clear hr HST
        go_wp2
        go_round
        case rel => exact ⟨k + 1, k, by omega, by omega, by go_num, by omega, rfl, HR⟩
        case measure => simp [intOf]; omega
      · have HR : Hid (Sq.way n (l.map Prod.fst) p = Sq.wayFrom n p ((l.map Prod.fst).drop (k + 1)) (k + 1) a) := by show _ = _; rw [hr.out, HST.out, if_neg hle]
        clear hr HST
        go_wp2
        go_round
        case rel => exact ⟨k + 1, a, by omega, by omega, by go_num, by omega, rfl, HR⟩
        case measure => simp [intOf]; omega
    · have HR : Hid (Sq.way n (l.map Prod.fst) p = a) := by show _ = _; rw [hr.out, List.drop_eq_nil_of_le (by rw [HL.out]; omega)]; rfl
      clear hr
      go_wp2
      go_ret
      exact ⟨by rw [HR.out]; rfl, HW.out⟩

theorem nz (n : Nat) : ((n + 1 : Nat) != 0) = true := by simp
theorem Sq.any_drop (es : List Sq.Ent) (p : Int) (k : Nat) (h : k < es.length) : (es.drop k).any (fun x => x.place == p) = (es[k].place == p || (es.drop (k + 1)).any fun x => x.place == p) := by
  rw [List.drop_eq_getElem_cons h]; rfl

set_option maxRecDepth 100000 in
set_option maxHeartbeats 1000000 in
theorem Has_leaf (es : List Sq.Ent) (ev : Value) (p : Int) (w : World) (h : EntsAt 0 w ev es) (hl : es.length ≤ 1000) :
    Calls Tryz.prog 89 #[.agg (nodeCells 0 (es, ev, .slice none 0 0)).toArray, .int .i64 p] w fun e w' => e = .returned (.bool (Sq.hasT 0 es p)) ∧ Below w.heap.size w w' := by
  rw [nodeCells_arr]
  obtain ⟨ao, acap, rfl⟩ := ownsRow_slice h
  obtain ⟨q3, hq3⟩ : ∃ x, x = Sq.least 0 es := ⟨_, rfl⟩
  rw [← hq3]
  have hW : Below w.heap.size w (w.alloc (.cells #[.bool false, .slice ao es.length acap, .slice none 0 0, .int .i64 q3, .int .i64 (es.length : Nat)] 44)) := (Below.refl _ _).alloc (Nat.le_refl _) _
  have HW := hd hW
  have H := hd h
  have HE : Hid (Sq.hasT 0 es p = es.any fun x => x.place == p) := rfl
  have h00 : ((0 : Nat) != 0) = false := rfl
  have h01 : (Sq.ents 0 es).length = es.length := rfl
  simp only [h00, h01]
  clear h hW hq3 h00 h01
  go_enter Tryz.func89, Tryz.ntmps89
  go_wp2
  go_loop [6] (fun i => ∃ k : Nat, k ≤ es.length ∧ i = .int .i64 k ∧ Hid (Sq.hasT 0 es p = (es.drop k).any fun x => x.place == p)) (fun i => es.length - (intOf i).toNat)
  case atStart => exact ⟨0, Nat.zero_le _, rfl, HE⟩
  case round =>
    obtain ⟨k, hk, rfl, hr⟩ := hrel
    by_cases hlt : k < es.length
    · obtain ⟨g, cap', hv, hg, c0, c1⟩ := (H.out.below (HW.out)).at k hlt
      simp only [Value.slice.injEq] at hv
      obtain ⟨rfl, -, rfl⟩ := hv
      have hst := Sq.any_drop es p k hlt
      obtain ⟨q, hq⟩ : ∃ x, x = es[k].place := ⟨_, rfl⟩
      rw [← hq] at hst c0
      have HST := hd hst
      have i1 : ¬ ((es.length : Int) ≤ (k : Int)) := by omega
      clear hst hq c1
      cases he : q == p
      · have HR : Hid (Sq.hasT 0 es p = (es.drop (k + 1)).any fun x => x.place == p) := by show _ = _; rw [hr.out, HST.out, he]; rfl
        clear hr HST
        go_wp2
        go_round
        case rel => exact ⟨k + 1, by omega, by go_num, HR⟩
        case measure => simp [intOf]; omega
      · have HR : Hid (Sq.hasT 0 es p = true) := by show _ = _; rw [hr.out, HST.out, he]; rfl
        clear hr HST
        go_wp2
        go_ret
        exact ⟨by rw [HR.out]; rfl, HW.out⟩
    · have HR : Hid (Sq.hasT 0 es p = false) := by show _ = _; rw [hr.out, List.drop_eq_nil_of_le (by omega)]; rfl
      clear hr
      go_wp2
      go_ret
      exact ⟨by rw [HR.out]; rfl, HW.out⟩

set_option maxRecDepth 100000 in
set_option maxHeartbeats 1000000 in
theorem Has_any : ∀ (n : Nat) (t : List (Sq.Kid n)) (ev cv : Value) (p : Int) (w : World), NodeAt w n t ev cv → Sq.okT n t → (Sq.ents n t).length ≤ 1000 →
    Calls Tryz.prog 89 #[.agg (nodeCells n (t, ev, cv)).toArray, .int .i64 p] w fun e w' => e = .returned (.bool (Sq.hasT n t p)) ∧ Below w.heap.size w w'
  | 0, es, ev, cv, p, w, h, _, hl => by
    obtain ⟨rfl, h2⟩ := h.leaf
    exact Has_leaf es ev p w h2 hl
  | n + 1, cs, ev, cv, p, w, h, hok, hl => by
    have ih := Has_any n
    rw [nodeCells_arr]
    obtain ⟨rfl, l, hcs, hn⟩ := h.inner
    obtain ⟨ao, acap, rfl⟩ := ownsRow_slice hn.own
    have hll : l.length ≤ 1000 := by
      have h1 := Sq.okT_len hok
      have h2 : List.length cs = l.length := by rw [hcs]; simp
      omega
    obtain ⟨q3, hq3⟩ : ∃ x, x = Sq.least (n + 1) cs := ⟨_, rfl⟩
    obtain ⟨q4, hq4⟩ : ∃ x : Int, x = ((Sq.ents (n + 1) cs).length : Nat) := ⟨_, rfl⟩
    rw [← hq3, ← hq4]
    have HE : Hid (Sq.hasT (n + 1) cs p = Sq.hasO (fun c => Sq.hasT n c p) (l.map Prod.fst)[Sq.way n (l.map Prod.fst) p]?) := by show _ = _; rw [hcs]; rfl
    have hnz := nz n
    simp only [hnz]
    have hW : Below w.heap.size w (w.alloc (.cells #[.bool true, .slice none 0 0, .slice ao l.length acap, .int .i64 q3, .int .i64 q4] 44)) := (Below.refl _ _).alloc (Nat.le_refl _) _
    have HW := hd hW
    have H := hd hn
    have HCS := hd hcs
    have HOK := hd hok
    have HL := hd hl
    have IH := hd ih
    obtain ⟨a, haw⟩ : ∃ x, x = Sq.way n (l.map Prod.fst) p := ⟨_, rfl⟩
    have he := HE.out
    rw [← haw] at he
    have HE2 := hd he
    have HAW := hd haw
    have hab : a ≤ 1000 := by
      rw [haw]
      rcases Sq.wayFrom_spec n p ((l.map Prod.fst).drop 1) 1 0 with ⟨h1, _⟩ | ⟨r1, c, r2, h1, h2, _⟩
      · show Sq.wayFrom n p ((l.map Prod.fst).drop 1) 1 0 ≤ _; rw [h1]; omega
      · show Sq.wayFrom n p ((l.map Prod.fst).drop 1) 1 0 ≤ _
        rw [h2]
        have := congrArg List.length h1
        simp at this
        omega
    clear h hn hcs hok hl ih hq3 hq4 HE hnz hW he haw
    go_enter Tryz.func89, Tryz.ntmps89
    go_wp2_with fail
    refine (way_any n l p _ _ q3 q4 _ ⟨_, _, _, rfl⟩ (H.out.below HW.out) hll).mono ?_
    rintro e w1 ⟨rfl, hb1⟩
    rw [← HAW.out]
    have hbw := HW.out.trans (hb1.mono (by simp))
    have c2 := hb1.cell (p := ⟨w.heap.size, 2, none⟩) (by simp)
    simp [go_sem] at c2
    have hz1 : w.heap.size < w1.heap.size := by have := hb1.size; simp at this; omega
    have HB1 := hd hbw
    clear hb1 hbw
    by_cases hlt : a < l.length
    · obtain ⟨g, cap', ea, el, ec, ca, cl, cc, hv, hg, d0, d1, d2, d3, d4, d5, d6⟩ := (H.out.below HB1.out).at a hlt
      simp only [Value.slice.injEq] at hv
      obtain ⟨rfl, -, rfl⟩ := hv
      have HE3 : Hid (Sq.hasT (n + 1) cs p = Sq.hasT n l[a].1 p) := by show _ = _; rw [HE2.out, List.getElem?_map, List.getElem?_eq_getElem hlt]; rfl
      have hmem : l[a].1 ∈ (show List (List (Sq.Kid n)) from cs) := by rw [HCS.out]; exact List.mem_map.2 ⟨l[a], List.getElem_mem hlt, rfl⟩
      have HOK2 := hd (Sq.okT_mem HOK.out hmem).2
      have HL2 := hd (Nat.le_trans (Sq.ents_mem_len hmem) HL.out)
      obtain ⟨t, ht⟩ : ∃ x, x = l[a].1 := ⟨_, rfl⟩
      have he3 := HE3.out
      have hok2 := HOK2.out
      have hl2 := HL2.out
      rw [← ht] at he3 hok2 hl2 d3 d4 d6
      have HE4 := hd he3
      have HOK3 := hd hok2
      have HL3 := hd hl2
      have HN := hd d6
      have i1 : ¬ ((l.length : Int) ≤ (a : Int)) := by omega
      have i2 : decide ((a : Int) < (l.length : Int)) = true := by simpa using hlt
      clear he3 hok2 hl2 ht hmem HE3 HOK2 HL2 d5 d6
      go_wp2_with fail
      refine (IH.out t _ _ p _ HN.out HOK3.out HL3.out).mono ?_
      rintro e w2 ⟨rfl, hb2⟩
      go_wp2
      go_ret
      exact ⟨by rw [HE4.out]; rfl, HB1.out.trans (hb2.mono HB1.out.size)⟩
    · have HE3 : Hid (Sq.hasT (n + 1) cs p = false) := by show _ = _; rw [HE2.out, List.getElem?_eq_none (by simpa using hlt)]; rfl
      have i2 : decide ((a : Int) < (l.length : Int)) = false := by simpa using hlt
      go_wp2
      go_ret
      exact ⟨by rw [HE3.out]; rfl, HB1.out⟩

end Go.Proofs.YtamkfbelpfpjcaaGreatDoor

namespace Go.Proofs.YtamkfbelpfpjcaaGreatDoor
open Go.RowKit

def Sq.mayB (n : Nat) (lo hi : Int) : List (List (Sq.Kid n)) → Bool
  | [] => false
  | c :: r => Decidable.decide (Sq.least n c ≤ hi) && Sq.nextLow n lo r
theorem Sq.btwL_drop (n : Nat) (f : List (Sq.Kid n) → List Sq.Ent) (lo hi : Int) (cs : List (List (Sq.Kid n))) (k : Nat) (h : k < cs.length) : Sq.btwL n f lo hi (cs.drop k) = (if Sq.mayB n lo hi (cs.drop k) then f cs[k] else []) ++ Sq.btwL n f lo hi (cs.drop (k + 1)) := by
  rw [List.drop_eq_getElem_cons h, Sq.btwL]; rfl

set_option maxRecDepth 100000 in
set_option maxHeartbeats 1000000 in
theorem mayHave_any (n : Nat) (l : List (List (Sq.Kid n) × Value × Value)) (k : Nat) (lo hi : Int) (cv : Value) (q3 q4 : Int) (w : World) (h : NodesAt 0 w cv n l) (hl : l.length ≤ 1000) (hk : k < l.length) :
    Calls Tryz.prog 128 #[.agg #[.bool true, .slice none 0 0, cv, .int .i64 q3, .int .i64 q4], .int .i64 k, .int .i64 lo, .int .i64 hi] w fun e w' => e = .returned (.bool (Sq.mayB n lo hi ((l.map Prod.fst).drop k))) ∧ Below w.heap.size w w' := by
  obtain ⟨ao, acap, rfl⟩ := ownsRow_slice h.own
  have hW : Below w.heap.size w (w.alloc (.cells #[.bool true, .slice none 0 0, .slice ao l.length acap, .int .i64 q3, .int .i64 q4] 44)) := (Below.refl _ _).alloc (Nat.le_refl _) _
  have HW := hd hW
  have H := hd h
  clear h hW
  obtain ⟨g, cap', ea, el, ec, ca, cl, cc, hv, hg, d0, d1, d2, d3, d4, d5, d6⟩ := (H.out.below HW.out).at k hk
  simp only [Value.slice.injEq] at hv
  obtain ⟨rfl, -, rfl⟩ := hv
  have HE : Hid (Sq.mayB n lo hi ((l.map Prod.fst).drop k) = (Decidable.decide (Sq.least n l[k].1 ≤ hi) && Sq.nextLow n lo ((l.map Prod.fst).drop (k + 1)))) := by
    show _ = _
    rw [List.drop_eq_getElem_cons (by simpa using hk), Sq.mayB, List.getElem_map]
  obtain ⟨q, hq⟩ : ∃ x, x = Sq.least n l[k].1 := ⟨_, rfl⟩
  have he := HE.out
  rw [← hq] at d3 he
  have HE2 := hd he
  have i1 : ¬ ((l.length : Int) ≤ (k : Int)) := by omega
  have i2 : ¬ ((k : Int) < 0) := by omega
  have i3 : decide ((k : Int) < 0) = false := by simp
  have i4 : decide ((l.length : Int) ≤ (k : Int)) = false := by simpa using hk
  clear hq he HE d0 d1 d2 d4 d5 d6
  by_cases hle : q ≤ hi
  · have i5 : decide (hi < q) = false := by simpa using hle
    by_cases hk2 : k + 1 < l.length
    · obtain ⟨g2, cap2, ea2, el2, ec2, ca2, cl2, cc2, hv2, hg2, e0, e1, e2, e3, e4, e5, e6⟩ := (H.out.below HW.out).at (k + 1) hk2
      simp only [Value.slice.injEq, Option.some.injEq, Addr.mk.injEq] at hv2
      obtain ⟨⟨rfl, -, -⟩, -, rfl⟩ := hv2
      have HE3 : Hid (Sq.mayB n lo hi ((l.map Prod.fst).drop k) = Decidable.decide (lo < Sq.least n l[k + 1].1)) := by
        show _ = _
        rw [HE2.out, List.drop_eq_getElem_cons (by simpa using hk2), Sq.nextLow, List.getElem_map]
        simp [hle]
      obtain ⟨q2, hq2⟩ : ∃ x, x = Sq.least n l[k + 1].1 := ⟨_, rfl⟩
      have he := HE3.out
      rw [← hq2] at e3 he
      have HE4 := hd he
      have j1 : ¬ ((l.length : Int) ≤ (k : Int) + 1) := by omega
      have j2 : ¬ ((k : Int) + 1 < 0) := by omega
      have j3 : ((k : Int) + 1 == (l.length : Int)) = false := by simp; omega
      clear he HE3 hq2 e0 e1 e2 e4 e5 e6 HE2
      go_enter Tryz.func128, Tryz.ntmps128
      go_wp2
      go_ret
      exact ⟨by rw [HE4.out]; rfl, HW.out⟩
    · have HE3 : Hid (Sq.mayB n lo hi ((l.map Prod.fst).drop k) = true) := by
        show _ = _
        rw [HE2.out, List.drop_eq_nil_of_le (by simp; omega), Sq.nextLow]
        simp [hle]
      have j3 : ((k : Int) + 1 == (l.length : Int)) = true := by simp; omega
      clear HE2
      go_enter Tryz.func128, Tryz.ntmps128
      go_wp2
      go_ret
      exact ⟨by rw [HE3.out]; rfl, HW.out⟩
  · have i5 : decide (hi < q) = true := by simpa using hle
    have HE3 : Hid (Sq.mayB n lo hi ((l.map Prod.fst).drop k) = false) := by show _ = _; rw [HE2.out]; simp [hle]
    clear HE2
    go_enter Tryz.func128, Tryz.ntmps128
    go_wp2
    go_ret
    exact ⟨by rw [HE3.out]; rfl, HW.out⟩

end Go.Proofs.YtamkfbelpfpjcaaGreatDoor

namespace Go.Proofs.YtamkfbelpfpjcaaGreatDoor
open Go.RowKit

theorem wpList_append_ents {ops : Array Oper} {rest : List Oper} {o : Oper} {a : Act} {Q : Exit → Act → World → Prop} {w : World} (hgd : o.guard = none) (sl x : Operand)
    (ho : o.op = .call { callee := .builtin .append, args := #[sl, x], argTypes := #[41, 41] }) (B : Nat) (v : Value) (es : List Sq.Ent) (hs : a.eval sl = v) (hb : EntsAt B w v es)
    (m : List Sq.Ent) (sv : Value) (hx : a.eval x = sv) (hrd : Reads w sv m.length 2 (m.flatMap entCells)) (hm : 0 < m.length) (h1 : es.length + m.length ≤ 1000000) (hB : B ≤ w.heap.size)
    (h : ∀ v' w', EntsAt B w' v' (es ++ m) → Below B w w' → wpList Tryz.prog ops Q rest (a.put o.dst v') w') : wpList Tryz.prog ops Q (o :: rest) a w := by
  obtain ⟨i0, hi, hz0, hz1, hz2⟩ := info_parts Tryz.infoEnt
  rcases hrd.2 with ⟨_, h0⟩ | ⟨g, off, cap, rfl, _, hc⟩
  · omega
  refine wpList_append_lies _ hgd sl x 41 ho B 99 i0 _ 2 24 Tryz.underlying41 hi hz0 hz1 hz2 rfl (by decide) v es.length _ hs hb ⟨g, off, none⟩ m.length cap (m.flatMap entCells) hx hrd.1 (by
    intro j u hu
    rw [add_off]
    exact hc j u hu) (entCells_one m) hm (by unfold maxLen; omega) (by omega) hB _ rfl ?_
  intro g' cap w' ho' hg' _ _
  refine h _ w' ?_ (Tch.of_grown hg' (fun k hk => (World.ownsRow.lt hb k hk).1) hB)
  unfold EntsAt
  rw [List.length_append, List.flatMap_append]
  exact ho'

namespace Sq
theorem btwL_len (n : Nat) (f : List (Kid n) → List Ent) (lo hi : Int) (hf : ∀ c, (f c).length ≤ (ents n c).length) : ∀ cs : List (List (Kid n)), (btwL n f lo hi cs).length ≤ (cs.flatMap (ents n)).length
  | [] => Nat.le_refl _
  | c :: r => by
    have := btwL_len n f lo hi hf r
    have := hf c
    rw [btwL, List.length_append, List.flatMap_cons, List.length_append]
    split
    · omega
    · rw [List.length_nil]; omega
theorem btw_len : ∀ (n : Nat) (t : List (Kid n)) (lo hi : Int), (btwT n t lo hi).length ≤ (ents n t).length
  | 0, _, _, _ => List.length_filter_le _ _
  | n + 1, cs, lo, hi => btwL_len n _ lo hi (fun c => btw_len n c lo hi) cs

end Sq

/-- What a search answers: entries in new memory; nil, if there are none. -/
def Found (w : World) (es : List Sq.Ent) (e : Ending) (w' : World) : Prop := ∃ v, e = .returned v ∧ EntsAt w.heap.size w' v es ∧ (es = [] → v = .slice none 0 0) ∧ Below w.heap.size w w'

set_option maxRecDepth 100000 in
set_option maxHeartbeats 1000000 in
theorem Between_leaf (es : List Sq.Ent) (ev : Value) (lo hi : Int) (w : World) (h : EntsAt 0 w ev es) (hl : es.length ≤ 1000) :
    Calls Tryz.prog 78 #[.agg (nodeCells 0 (es, ev, .slice none 0 0)).toArray, .int .i64 lo, .int .i64 hi] w (Found w (Sq.btwT 0 es lo hi)) := by
  rw [nodeCells_arr]
  obtain ⟨ao, acap, rfl⟩ := ownsRow_slice h
  obtain ⟨q3, hq3⟩ : ∃ x, x = Sq.least 0 es := ⟨_, rfl⟩
  rw [← hq3]
  have hW : Below w.heap.size w (w.alloc (.cells #[.bool false, .slice ao es.length acap, .slice none 0 0, .int .i64 q3, .int .i64 (es.length : Nat)] 44)) := (Below.refl _ _).alloc (Nat.le_refl _) _
  have HW := hd hW
  have H := hd h
  have HE : Hid (Sq.btwT 0 es lo hi = es.filter fun x => Decidable.decide (lo ≤ x.place) && Decidable.decide (x.place ≤ hi)) := rfl
  have h00 : ((0 : Nat) != 0) = false := rfl
  have h01 : (Sq.ents 0 es).length = es.length := rfl
  simp only [h00, h01]
  clear h hW hq3 h00 h01
  go_enter Tryz.func78, Tryz.ntmps78
  go_wp2
  go_loopw [7, 8] (fun v i wr => ∃ k : Nat, ∃ acc : List Sq.Ent, k ≤ es.length ∧ i = .int .i64 k ∧ EntsAt (w.heap.size + 1) wr v acc ∧ (acc = [] → v = .slice none 0 0) ∧ acc.length ≤ k ∧ Hid (Sq.btwT 0 es lo hi = acc ++ (es.drop k).filter fun x => Decidable.decide (lo ≤ x.place) && Decidable.decide (x.place ≤ hi)) ∧ Below (w.heap.size + 1) (w.alloc (.cells #[.bool false, .slice ao es.length acap, .slice none 0 0, .int .i64 q3, .int .i64 (es.length : Nat)] 44)) wr) (fun _ i _ => es.length - (intOf i).toNat)
  case atStart => exact ⟨0, [], Nat.zero_le _, rfl, World.ownsRow_nil _ _ _ _, fun _ => rfl, Nat.le_refl _, HE, Below.refl _ _⟩
  case round =>
    obtain ⟨j, ac, hj, rfl, hac, hnil, hacl, hr2, hb4⟩ := hrel
    obtain ⟨wo, rfl⟩ : ∃ wo : World, wo = wr := ⟨_, rfl⟩
    obtain ⟨yo, ycap, rfl⟩ := ownsRow_slice hac
    have hbw : Below w.heap.size w wo := HW.out.trans (hb4.mono (by omega))
    have a1 : wo.cell? ⟨w.heap.size, 1, none⟩ = some (.slice ao es.length acap) := (hb4.cell (p := ⟨w.heap.size, 1, none⟩) (by simp)).trans (by simp [go_sem])
    have a2 : wo.cell? ⟨w.heap.size, 2, none⟩ = some (.slice none 0 0) := (hb4.cell (p := ⟨w.heap.size, 2, none⟩) (by simp)).trans (by simp [go_sem])
    have hzw : w.heap.size < wo.heap.size := by have := hb4.size; simp at this; omega
    have HB4 := hd hb4
    have HAC := hd hac
    have HNIL := hd hnil
    clear hb4 hac hnil
    by_cases hjt : j < es.length
    · obtain ⟨g4, cap4, hv, hg4, c0, c1⟩ := (H.out.below hbw).at j hjt
      simp only [Value.slice.injEq] at hv
      obtain ⟨rfl, -, rfl⟩ := hv
      have HFD := hd (Sq.filt_drop (fun x => Decidable.decide (lo ≤ x.place) && Decidable.decide (x.place ≤ hi)) es j hjt)
      obtain ⟨y, hy⟩ : ∃ x, x = es[j] := ⟨_, rfl⟩
      have hfd := HFD.out
      rw [← hy] at c0 c1 hfd
      have HFD2 := hd hfd
      have i1 : ¬ ((es.length : Int) ≤ (j : Int)) := by omega
      clear hfd HFD hy
      by_cases hlo : lo ≤ y.place
      · have i2 : decide (lo ≤ y.place) = true := by simpa using hlo
        by_cases hhi : y.place ≤ hi
        · have i3 : decide (y.place ≤ hi) = true := by simpa using hhi
          have HR2 : Hid (Sq.btwT 0 es lo hi = (ac ++ [y]) ++ (es.drop (j + 1)).filter fun x => Decidable.decide (lo ≤ x.place) && Decidable.decide (x.place ≤ hi)) := by show _ = _; rw [hr2.out, HFD2.out]; simp only [i2, i3]; simp
          have HA4 := hd (HAC.out.below ((Below.refl _ _).alloc (Nat.le_refl _) (.cells #[.int .i64 y.place, .string y.row] 99)))
          clear hr2 HFD2
          go_wp2_with (at_builtin; refine wpList_append_ent rfl (.tmp 35) (.tmp 41) rfl (w.heap.size + 1) _ ac rfl HA4.out y wo.heap.size 1 rfl (by simp [go_sem]) (by simp [go_sem]) (by omega) (by simp; omega) ?_; intro v5 w5 hown5 hb5; have HO5 := hd hown5; have HB5 := hd hb5; clear hown5 hb5)
          go_roundw
          case rel => exact ⟨j + 1, ac ++ [y], by omega, by go_num, HO5.out, fun h => by simp at h, by rw [List.length_append]; simp; omega, HR2, HB4.out.trans ((Below.mono (B' := w.heap.size + 1) ((Below.refl _ _).alloc (Nat.le_refl _) _) (by omega)).trans HB5.out)⟩
          case measure => simp [intOf]; omega
        · have i3 : decide (y.place ≤ hi) = false := by simpa using hhi
          have HR2 : Hid (Sq.btwT 0 es lo hi = ac ++ (es.drop (j + 1)).filter fun x => Decidable.decide (lo ≤ x.place) && Decidable.decide (x.place ≤ hi)) := by show _ = _; rw [hr2.out, HFD2.out]; simp only [i2, i3]; simp
          clear hr2 HFD2
          go_wp2
          go_roundw
          case rel => exact ⟨j + 1, ac, by omega, by go_num, HAC.out, HNIL.out, by omega, HR2, HB4.out⟩
          case measure => simp [intOf]; omega
      · have i2 : decide (lo ≤ y.place) = false := by simpa using hlo
        have HR2 : Hid (Sq.btwT 0 es lo hi = ac ++ (es.drop (j + 1)).filter fun x => Decidable.decide (lo ≤ x.place) && Decidable.decide (x.place ≤ hi)) := by show _ = _; rw [hr2.out, HFD2.out]; simp only [i2]; simp
        clear hr2 HFD2
        go_wp2
        go_roundw
        case rel => exact ⟨j + 1, ac, by omega, by go_num, HAC.out, HNIL.out, by omega, HR2, HB4.out⟩
        case measure => simp [intOf]; omega
    · have HE2 : Hid (Sq.btwT 0 es lo hi = ac) := by show _ = _; rw [hr2.out, List.drop_eq_nil_of_le (by omega)]; simp
      clear hr2
      go_wp2
      go_loop [7, 9] (fun v i => v = .slice yo ac.length ycap ∧ i = .int .i64 0) (fun _ _ => 0)
      case atStart => exact ⟨rfl, rfl⟩
      case round =>
        obtain ⟨rfl, rfl⟩ := hrel
        go_wp2
        go_ret
        exact ⟨_, rfl, by rw [HE2.out]; exact HAC.out.base (by omega), by rw [HE2.out]; exact HNIL.out, hbw⟩

set_option maxRecDepth 100000 in
set_option maxHeartbeats 2000000 in
theorem Between_any : ∀ (n : Nat) (t : List (Sq.Kid n)) (ev cv : Value) (lo hi : Int) (w : World), NodeAt w n t ev cv → Sq.okT n t → (Sq.ents n t).length ≤ 1000 →
    Calls Tryz.prog 78 #[.agg (nodeCells n (t, ev, cv)).toArray, .int .i64 lo, .int .i64 hi] w (Found w (Sq.btwT n t lo hi))
  | 0, es, ev, cv, lo, hi, w, h, _, hl => by
    obtain ⟨rfl, h2⟩ := h.leaf
    exact Between_leaf es ev lo hi w h2 hl
  | n + 1, cs, ev, cv, lo, hi, w, h, hok, hl => by
    have ih := Between_any n
    rw [nodeCells_arr]
    obtain ⟨rfl, l, hcs, hn⟩ := h.inner
    obtain ⟨ao, acap, rfl⟩ := ownsRow_slice hn.own
    have hlc : List.length cs = l.length := by rw [hcs]; simp
    have hll : l.length ≤ 1000 := by
      have h1 := Sq.okT_len hok
      omega
    obtain ⟨q3, hq3⟩ : ∃ x, x = Sq.least (n + 1) cs := ⟨_, rfl⟩
    obtain ⟨q4, hq4⟩ : ∃ x : Int, x = ((Sq.ents (n + 1) cs).length : Nat) := ⟨_, rfl⟩
    rw [← hq3, ← hq4]
    have HE : Hid (Sq.btwT (n + 1) cs lo hi = Sq.btwL n (fun c => Sq.btwT n c lo hi) lo hi (l.map Prod.fst)) := by show _ = _; rw [hcs]; rfl
    have hnz := nz n
    simp only [hnz]
    have hW : Below w.heap.size w (w.alloc (.cells #[.bool true, .slice none 0 0, .slice ao l.length acap, .int .i64 q3, .int .i64 q4] 44)) := (Below.refl _ _).alloc (Nat.le_refl _) _
    have hbnd : ∀ c ∈ (show List (List (Sq.Kid n)) from cs), (Sq.btwT n c lo hi).length ≤ 1000 := fun c hc => Nat.le_trans (Sq.btw_len n c lo hi) (Nat.le_trans (Sq.ents_mem_len hc) hl)
    have HBND := hd hbnd
    have HW := hd hW
    have H := hd hn
    have HCS := hd hcs
    have HOK := hd hok
    have HL := hd hl
    have IH := hd ih
    have HLC := hd hlc
    clear h hn hcs hok hl ih hq3 hq4 hnz hW hbnd hlc
    go_enter Tryz.func78, Tryz.ntmps78
    go_wp2
    go_loop [7, 8] (fun v i => v = .slice none 0 0 ∧ i = .int .i64 0) (fun _ _ => 0)
    case atStart => exact ⟨rfl, rfl⟩
    case round =>
      obtain ⟨rfl, rfl⟩ := hrel
      go_wp2
      go_loopw [7, 9] (fun v i wr => ∃ k : Nat, ∃ acc : List Sq.Ent, k ≤ l.length ∧ i = .int .i64 k ∧ EntsAt (w.heap.size + 1) wr v acc ∧ (acc = [] → v = .slice none 0 0) ∧ acc.length ≤ 1000 * k ∧ Hid (Sq.btwT (n + 1) cs lo hi = acc ++ Sq.btwL n (fun c => Sq.btwT n c lo hi) lo hi ((l.map Prod.fst).drop k)) ∧ Below (w.heap.size + 1) (w.alloc (.cells #[.bool true, .slice none 0 0, .slice ao l.length acap, .int .i64 q3, .int .i64 q4] 44)) wr) (fun _ i _ => l.length - (intOf i).toNat)
      case atStart => exact ⟨0, [], Nat.zero_le _, rfl, World.ownsRow_nil _ _ _ _, fun _ => rfl, Nat.zero_le _, HE, Below.refl _ _⟩
      case round =>
        obtain ⟨k, ac, hk, rfl, hac, hnil, hacl, hr2, hb4⟩ := hrel
        obtain ⟨wo, rfl⟩ : ∃ wo : World, wo = wr := ⟨_, rfl⟩
        obtain ⟨yo, ycap, rfl⟩ := ownsRow_slice hac
        have hbw : Below w.heap.size w wo := HW.out.trans (hb4.mono (by omega))
        have a0 : wo.cell? ⟨w.heap.size, 0, none⟩ = some (.bool true) := (hb4.cell (p := ⟨w.heap.size, 0, none⟩) (by simp)).trans (by simp [go_sem])
        have a1 : wo.cell? ⟨w.heap.size, 1, none⟩ = some (.slice none 0 0) := (hb4.cell (p := ⟨w.heap.size, 1, none⟩) (by simp)).trans (by simp [go_sem])
        have a2 : wo.cell? ⟨w.heap.size, 2, none⟩ = some (.slice ao l.length acap) := (hb4.cell (p := ⟨w.heap.size, 2, none⟩) (by simp)).trans (by simp [go_sem])
        have a3 : wo.cell? ⟨w.heap.size, 3, none⟩ = some (.int .i64 q3) := (hb4.cell (p := ⟨w.heap.size, 3, none⟩) (by simp)).trans (by simp [go_sem])
        have a4 : wo.cell? ⟨w.heap.size, 4, none⟩ = some (.int .i64 q4) := (hb4.cell (p := ⟨w.heap.size, 4, none⟩) (by simp)).trans (by simp [go_sem])
        have hzw : w.heap.size < wo.heap.size := by have := hb4.size; simp at this; omega
        have HB4 := hd hb4
        have HAC := hd hac
        have HNIL := hd hnil
        clear hb4 hac hnil
        by_cases hkt : k < l.length
        · have hst := Sq.btwL_drop n (fun c => Sq.btwT n c lo hi) lo hi (l.map Prod.fst) k (by simpa using hkt)
          rw [List.getElem_map] at hst
          obtain ⟨mb, hmb⟩ : ∃ x, x = Sq.mayB n lo hi ((l.map Prod.fst).drop k) := ⟨_, rfl⟩
          rw [← hmb] at hst
          have HST := hd hst
          have HMB := hd hmb
          clear hst hmb
          go_wp2_with fail
          refine (mayHave_any n l k lo hi _ q3 q4 _ (H.out.below hbw) hll hkt).mono ?_
          rintro e w2 ⟨rfl, hb2⟩
          rw [← HMB.out]
          have hbw2 : Below w.heap.size w w2 := hbw.trans (hb2.mono (by omega))
          have b2 := ((bcell hb2).1 w.heap.size 2 hzw).trans a2
          have hz2 := hb2.size
          have hzw2 : w.heap.size < w2.heap.size := by omega
          have HB2 := hd hb2
          have HBW2 := hd hbw2
          clear hb2 a0 a1 a2 a3 a4 hbw hbw2
          cases mb
          case false =>
            have HR2 : Hid (Sq.btwT (n + 1) cs lo hi = ac ++ Sq.btwL n (fun c => Sq.btwT n c lo hi) lo hi ((l.map Prod.fst).drop (k + 1))) := by show _ = _; rw [hr2.out, HST.out]; simp
            clear hr2 HST
            go_wp2
            go_roundw
            case rel => exact ⟨k + 1, ac, by omega, by go_num, HAC.out.below HB2.out, HNIL.out, by omega, HR2, HB4.out.trans (HB2.out.mono (by omega))⟩
            case measure => simp [intOf]; omega
          case true =>
            obtain ⟨g, cap', ea, el, ec, ca, cl, cc, hv, hg, d0, d1, d2, d3, d4, d5, d6⟩ := (H.out.below HBW2.out).at k hkt
            simp only [Value.slice.injEq] at hv
            obtain ⟨rfl, -, rfl⟩ := hv
            have hmem : l[k].1 ∈ (show List (List (Sq.Kid n)) from cs) := by rw [HCS.out]; exact List.mem_map.2 ⟨l[k], List.getElem_mem hkt, rfl⟩
            have hok2 := (Sq.okT_mem HOK.out hmem).2
            have hl2 := Nat.le_trans (Sq.ents_mem_len hmem) HL.out
            have hbn2 := HBND.out _ hmem
            have hst := HST.out
            obtain ⟨t, ht⟩ : ∃ x, x = l[k].1 := ⟨_, rfl⟩
            rw [← ht] at hst hok2 hl2 hbn2 d3 d4 d6
            obtain ⟨m, hm⟩ : ∃ x, x = Sq.btwT n t lo hi := ⟨_, rfl⟩
            simp only [if_true] at hst
            rw [← hm] at hst hbn2
            have HM := hd hm
            have HR2 : Hid (Sq.btwT (n + 1) cs lo hi = (ac ++ m) ++ Sq.btwL n (fun c => Sq.btwT n c lo hi) lo hi ((l.map Prod.fst).drop (k + 1))) := by show _ = _; rw [hr2.out, hst, List.append_assoc]
            have HOK3 := hd hok2
            have HL3 := hd hl2
            have HN := hd d6
            have i1 : ¬ ((l.length : Int) ≤ (k : Int)) := by omega
            clear hst hok2 hl2 ht hm hmem HST d5 d6 hr2
            go_wp2_with fail
            refine (IH.out t _ _ lo hi _ HN.out HOK3.out HL3.out).mono ?_
            rintro e w3 ⟨v3, rfl, ho3, hn3, hb3⟩
            rw [← HM.out] at ho3 hn3
            have hz3 := hb3.size
            have HB3 := hd hb3
            have HAC3 := hd ((HAC.out.below HB2.out).below hb3)
            have HBC : Hid (Below (w.heap.size + 1) (w.alloc (.cells #[.bool true, .slice none 0 0, .slice (some ⟨g, 0, none⟩) l.length acap, .int .i64 q3, .int .i64 q4] 44)) w3) := HB4.out.trans ((HB2.out.trans (hb3.mono (by omega))).mono (by omega))
            by_cases hm0 : m = []
            · have hv3 := hn3 hm0
              subst hv3
              subst hm0
              have HR3 : Hid (Sq.btwT (n + 1) cs lo hi = ac ++ Sq.btwL n (fun c => Sq.btwT n c lo hi) lo hi ((l.map Prod.fst).drop (k + 1))) := by have := HR2.out; rw [List.append_nil] at this; exact this
              obtain ⟨i0, hi0, hz0, hz1, hz2⟩ := info_parts Tryz.infoEnt
              clear HR2 ho3 hn3 hb3
              go_wp2_with (at_builtin; refine wpList_append_own_none rfl (.tmp 55) (.tmp 63) 41 rfl (w.heap.size + 1) 99 i0 2 Tryz.underlying41 hi0 _ ac.length _ rfl HAC3.out rfl ?_)
              go_roundw
              case rel => exact ⟨k + 1, ac, by omega, by go_num, HAC3.out, HNIL.out, by omega, HR3, HBC.out⟩
              case measure => simp [intOf]; omega
            · have hmp : 0 < m.length := by cases m with | nil => exact absurd rfl hm0 | cons x r => simp
              obtain ⟨zo, zcap, rfl⟩ := ownsRow_slice ho3
              have HRD := hd (Reads.of_own ho3)
              have hne : ac ++ m ≠ [] := by simp [hm0]
              have HNE := hd hne
              clear ho3 hn3 hb3 hne
              go_wp2_with (at_builtin; refine wpList_append_ents rfl (.tmp 55) (.tmp 63) rfl (w.heap.size + 1) _ ac rfl HAC3.out m _ rfl HRD.out hmp (by omega) (by omega) ?_; intro v5 w5 hown5 hb5; have HO5 := hd hown5; have HB5 := hd hb5; clear hown5 hb5)
              go_roundw
              case rel => exact ⟨k + 1, ac ++ m, by omega, by go_num, HO5.out, fun h => absurd h HNE.out, by rw [List.length_append]; omega, HR2, HBC.out.trans HB5.out⟩
              case measure => simp [intOf]; omega
        · have HE2 : Hid (Sq.btwT (n + 1) cs lo hi = ac) := by show _ = _; rw [hr2.out, List.drop_eq_nil_of_le (by simp; omega)]; simp [Sq.btwL]
          clear hr2
          go_wp2
          go_ret
          exact ⟨_, rfl, by rw [HE2.out]; exact HAC.out.base (by omega), by rw [HE2.out]; exact HNIL.out, hbw⟩

end Go.Proofs.YtamkfbelpfpjcaaGreatDoor
