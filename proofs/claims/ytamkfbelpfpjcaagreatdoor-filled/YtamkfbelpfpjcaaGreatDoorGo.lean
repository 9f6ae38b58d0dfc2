import Derived.BigQuiet
import Derived.Test.YtamkfbelpfpjcaaGreatDoorGn
set_option linter.unusedVariables false
set_option linter.unusedSimpArgs false

namespace Go.Proofs.YtamkfbelpfpjcaaGreatDoor
open Go.RowKit

theorem wpList_append_ent {ops : Array Oper} {rest : List Oper} {o : Oper} {a : Act} {Q : Exit → Act → World → Prop} {w : World} (hgd : o.guard = none) (sl x : Operand)
    (ho : o.op = .call { callee := .builtin .append, args := #[sl, x], argTypes := #[41, 41] }) (B : Nat) (v : Value) (es : List Sq.Ent) (hs : a.eval sl = v) (hb : EntsAt B w v es)
    (e : Sq.Ent) (g c : Nat) (hx : a.eval x = .slice (some ⟨g, 0, none⟩) 1 c) (hc0 : w.cell? ⟨g, 0, none⟩ = some (.int .i64 e.place)) (hc1 : w.cell? ⟨g, 1, none⟩ = some (.string e.row)) (h1 : es.length + 1 ≤ 1000000) (hB : B ≤ w.heap.size)
    (h : ∀ v' w', EntsAt B w' v' (es ++ [e]) → Below B w w' → wpList Tryz.prog ops Q rest (a.put o.dst v') w') : wpList Tryz.prog ops Q (o :: rest) a w := by
  obtain ⟨i0, hi, hz0, hz1, hz2⟩ := info_parts Tryz.infoEnt
  refine wpList_append_lies _ hgd sl x 41 ho B 99 i0 _ 2 24 Tryz.underlying41 hi hz0 hz1 hz2 rfl (by decide) v es.length _ hs hb ⟨g, 0, none⟩ 1 c (entCells e) hx rfl (by
    intro j u hu
    rw [add_off]
    match j, hu with
    | 0, hu => simp [entCells] at hu; subst hu; exact hc0
    | 1, hu => simp [entCells] at hu; subst hu; exact hc1
    | j + 2, hu => simp [entCells] at hu) (by intro u hu; simp [entCells] at hu; rcases hu with rfl | rfl <;> rfl) (by decide) (by unfold maxLen; omega) (by omega) hB _ rfl ?_
  intro g' cap w' ho' hg' _ _
  refine h _ w' ?_ (Tch.of_grown hg' (fun k hk => (World.ownsRow.lt hb k hk).1) hB)
  unfold EntsAt
  rw [List.length_append, List.flatMap_append]
  simpa using ho'

theorem below_dn (w : World) : ∀ m, Below w.heap.size w (w.drewN m) := by
  intro m
  induction m with
  | zero => exact Below.refl _ _
  | succ m ih => exact Below.drew ih
theorem dn_size (w : World) (m : Nat) : (w.drewN m).heap.size = w.heap.size := by
  induction m with
  | zero => rfl
  | succ m ih => exact ih

namespace Sq
theorem withE_less (es : List Ent) (e : Ent) (k : Nat) (h : k < es.length) (hl : es[k].place < e.place) : withE (es.drop k) e = es[k] :: withE (es.drop (k + 1)) e := by
  rw [List.drop_eq_getElem_cons h]
  unfold withE
  rw [List.takeWhile_cons, List.dropWhile_cons]
  simp [hl]
theorem withE_here (es : List Ent) (e : Ent) (k : Nat) (hl : ∀ h : k < es.length, ¬ (es[k].place < e.place)) : withE (es.drop k) e = e :: (es.drop k).filter (fun x => x.place != e.place) := by
  by_cases h : k < es.length
  · have := hl h
    rw [List.drop_eq_getElem_cons h]
    unfold withE
    rw [List.takeWhile_cons, List.dropWhile_cons]
    simp [this]
  · rw [List.drop_eq_nil_of_le (by omega)]
    rfl
theorem filt_drop (p : Ent → Bool) (es : List Ent) (k : Nat) (h : k < es.length) : (es.drop k).filter p = (if p es[k] then [es[k]] else []) ++ (es.drop (k + 1)).filter p := by
  rw [List.drop_eq_getElem_cons h, List.filter_cons]
  split <;> simp
end Sq

set_option maxRecDepth 100000 in
set_option maxHeartbeats 1000000 in
theorem with_any (es : List Sq.Ent) (e : Sq.Ent) (v : Value) (w : World) (h : EntsAt 0 w v es) (hl : es.length ≤ 1000) :
    Calls Tryz.prog 136 #[v, .agg #[.int .i64 e.place, .string e.row]] w fun r w' => ∃ v', r = .returned v' ∧ EntsAt w.heap.size w' v' (Sq.withE es e) ∧ Below w.heap.size w w' := by
  obtain ⟨ao, acap, rfl⟩ := ownsRow_slice h
  have hW : Below w.heap.size w (w.alloc (.cells #[.int .i64 e.place, .string e.row] 99)) := (Below.refl _ _).alloc (Nat.le_refl _) _
  have HW := hd hW
  have H := hd h
  clear h hW
  go_enter Tryz.func136, Tryz.ntmps136
  go_wp2
  go_loopw [5, 6] (fun v i wr => ∃ k : Nat, ∃ acc : List Sq.Ent, k ≤ es.length ∧ i = .int .i64 k ∧ EntsAt (w.heap.size + 1) wr v acc ∧ Hid (acc.length = k) ∧ Hid (Sq.withE es e = acc ++ Sq.withE (es.drop k) e) ∧ Below (w.heap.size + 1) (w.alloc (.cells #[.int .i64 e.place, .string e.row] 99)) wr) (fun _ i _ => es.length - (intOf i).toNat)
  case atStart => exact ⟨0, [], Nat.zero_le _, rfl, World.ownsRow_nil _ _ _ _, rfl, rfl, Below.refl _ _⟩
  case round =>
    obtain ⟨k, acc, hk, rfl, hacc, hal, hr, hb⟩ := hrel
    obtain ⟨wo, rfl⟩ : ∃ wo : World, wo = wr := ⟨_, rfl⟩
    obtain ⟨xo, xcap, rfl⟩ := ownsRow_slice hacc
    have hbw : Below w.heap.size w wo := HW.out.trans (hb.mono (by omega))
    have a0 : wo.cell? ⟨w.heap.size, 0, none⟩ = some (.int .i64 e.place) := (hb.cell (p := ⟨w.heap.size, 0, none⟩) (by simp)).trans (by simp [go_sem])
    have a1 : wo.cell? ⟨w.heap.size, 1, none⟩ = some (.string e.row) := (hb.cell (p := ⟨w.heap.size, 1, none⟩) (by simp)).trans (by simp [go_sem])
    have hzw : w.heap.size < wo.heap.size := by have := hb.size; simp at this; omega
    have hal1 : acc.length ≤ 1000 := by rw [hal.out]; omega
    have HB := hd hb
    have HACC := hd hacc
    clear hb hacc
    by_cases hlt : k < es.length
    · obtain ⟨g, cap', hv, hg, c0, c1⟩ := (H.out.below hbw).at k hlt
      simp only [Value.slice.injEq] at hv
      obtain ⟨rfl, -, rfl⟩ := hv
      have i1 : ¬ ((es.length : Int) ≤ (k : Int)) := by omega
      have i2 : decide ((k : Int) < (es.length : Int)) = true := by simpa using hlt
      obtain ⟨x, hx⟩ : ∃ x, x = es[k] := ⟨_, rfl⟩
      rw [← hx] at c0 c1
      have HX := hd hx
      clear hx
      by_cases hless : x.place < e.place
      · have HR : Hid (Sq.withE es e = (acc ++ [x]) ++ Sq.withE (es.drop (k + 1)) e) := by
          show _ = _
          rw [hr.out, Sq.withE_less es e k hlt (by rw [← HX.out]; exact hless), ← HX.out, List.append_assoc]
          rfl
        have HAL : Hid ((acc ++ [x]).length = k + 1) := by show _ = _; rw [List.length_append, hal.out]; rfl
        have i3 : decide (x.place < e.place) = true := by simpa using hless
        clear hr hal
        go_wp2
        go_quiet (fail)
        obtain ⟨wq, hbq, hsq, hq⟩ : ∃ wq, Below wo.heap.size wo wq ∧ wo.heap.size ≤ wq.heap.size ∧ wo.drewN nq = wq := ⟨_, below_dn _ _, (below_dn _ _).size, rfl⟩
        rw [hq]
        have d0 := ((bcell hbq).1 g (k * 2) hg).trans c0
        have d1 := ((bcell hbq).1 g (k * 2 + 1) hg).trans c1
        have hgq : g < wq.heap.size := by omega
        have HBQ := hd hbq
        have HA2 := hd ((HACC.out.below hbq).below ((Below.refl _ _).alloc (Nat.le_refl _) (.cells #[.int .i64 x.place, .string x.row] 99)))
        clear hq c0 c1 a0 a1 hbq
        go_wp2_with (at_builtin; refine wpList_append_ent rfl (.tmp 21) (.tmp 26) rfl (w.heap.size + 1) _ acc rfl HA2.out x wq.heap.size 1 rfl (by simp [go_sem]) (by simp [go_sem]) (by omega) (by simp; omega) ?_; intro v3 w3 hown3 hb3; have HO3 := hd hown3; have HB3 := hd hb3; clear hown3 hb3)
        go_roundw
        case rel => exact ⟨k + 1, acc ++ [x], by omega, by go_num, HO3.out, HAL, HR, HB.out.trans ((Below.mono (B' := w.heap.size + 1) (HBQ.out.alloc hsq _) (by omega)).trans HB3.out)⟩
        case measure => simp [intOf]; omega
      · have HR : Hid (Sq.withE es e = (acc ++ [e]) ++ (es.drop k).filter (fun x => x.place != e.place)) := by
          show _ = _
          rw [hr.out, Sq.withE_here es e k (fun _ => by rw [← HX.out]; exact hless), List.append_assoc]
          rfl
        have HAL : Hid ((acc ++ [e]).length = k + 1) := by show _ = _; rw [List.length_append, hal.out]; rfl
        have i3 : decide (x.place < e.place) = false := by simpa using hless
        clear hr hal
        go_wp2
        go_quiet (fail)
        obtain ⟨wq, hbq, hsq, hq⟩ : ∃ wq, Below wo.heap.size wo wq ∧ wo.heap.size ≤ wq.heap.size ∧ wo.drewN nq = wq := ⟨_, below_dn _ _, (below_dn _ _).size, rfl⟩
        rw [hq]
        have a0q := ((bcell hbq).1 w.heap.size 0 hzw).trans a0
        have a1q := ((bcell hbq).1 w.heap.size 1 hzw).trans a1
        have hgq : w.heap.size < wq.heap.size := by omega
        have HBQ := hd hbq
        have HA2 := hd ((HACC.out.below hbq).below ((Below.refl _ _).alloc (Nat.le_refl _) (.cells #[.int .i64 e.place, .string e.row] 99)))
        clear hq c0 c1 a0 a1 hbq
        go_wp2_with (at_builtin; refine wpList_append_ent rfl (.tmp 30) (.tmp 32) rfl (w.heap.size + 1) _ acc rfl HA2.out e wq.heap.size 1 rfl (by simp [go_sem]) (by simp [go_sem]) (by omega) (by simp; omega) ?_; intro v3 w3 hown3 hb3; have HO3 := hd hown3; have HB3 := hd hb3; clear hown3 hb3)
        go_loopw [5, 6] (fun v i wr => ∃ j : Nat, ∃ ac : List Sq.Ent, j ≤ es.length ∧ i = .int .i64 j ∧ EntsAt (w.heap.size + 1) wr v ac ∧ ac.length ≤ j + 1 ∧ Hid (Sq.withE es e = ac ++ (es.drop j).filter (fun x => x.place != e.place)) ∧ Below (w.heap.size + 1) (w.alloc (.cells #[.int .i64 e.place, .string e.row] 99)) wr) (fun _ i _ => es.length - (intOf i).toNat)
        case atStart => exact ⟨k, acc ++ [e], hk, rfl, HO3.out, Nat.le_of_eq HAL.out, HR, HB.out.trans ((Below.mono (B' := w.heap.size + 1) (HBQ.out.alloc hsq _) (by omega)).trans HB3.out)⟩
        case round =>
          obtain ⟨j, ac, hj, rfl, hac, hacl, hr2, hb4⟩ := hrel
          obtain ⟨yo, ycap, rfl⟩ := ownsRow_slice hac
          have hbw4 : Below w.heap.size w wr := HW.out.trans (hb4.mono (by omega))
          have a0 : wr.cell? ⟨w.heap.size, 0, none⟩ = some (.int .i64 e.place) := (hb4.cell (p := ⟨w.heap.size, 0, none⟩) (by simp)).trans (by simp [go_sem])
          have hzw4 : w.heap.size < wr.heap.size := by have := hb4.size; simp at this; omega
          have HB4 := hd hb4
          have HAC := hd hac
          clear hb4 hac
          by_cases hjt : j < es.length
          · obtain ⟨g4, cap4, hv, hg4, c0, c1⟩ := (H.out.below hbw4).at j hjt
            simp only [Value.slice.injEq] at hv
            obtain ⟨hv1, -, hv2⟩ := hv
            have HFD := hd (Sq.filt_drop (fun x => x.place != e.place) es j hjt)
            obtain ⟨y, hy⟩ : ∃ x, x = es[j] := ⟨_, rfl⟩
            have hfd := HFD.out
            rw [← hy] at c0 c1 hfd
            have HFD2 := hd hfd
            have i1 : ¬ ((es.length : Int) ≤ (j : Int)) := by omega
            obtain ⟨rfl, rfl⟩ : g4 = g ∧ cap4 = acap := ⟨by simpa using hv1.symm, hv2.symm⟩
            clear hfd HFD hy
            cases hne : y.place != e.place
            case false =>
              have HR2 : Hid (Sq.withE es e = ac ++ (es.drop (j + 1)).filter (fun x => x.place != e.place)) := by show _ = _; rw [hr2.out, HFD2.out]; simp only [hne]; simp
              clear hr2
              go_wp2
              go_quiet (fail)
              obtain ⟨wq4, hbq4, hsq4, hq4⟩ : ∃ wq, Below wr.heap.size wr wq ∧ wr.heap.size ≤ wq.heap.size ∧ wr.drewN nq = wq := ⟨_, below_dn _ _, (below_dn _ _).size, rfl⟩
              rw [hq4]
              have HBQ4 := hd hbq4
              clear hq4 hbq4 c0 c1 a0
              go_wp2
              go_roundw
              case rel => exact ⟨j + 1, ac, by omega, by go_num, HAC.out.below HBQ4.out, by omega, HR2, HB4.out.trans (HBQ4.out.mono (by omega))⟩
              case measure => simp [intOf]; omega
            case true =>
              have HR2 : Hid (Sq.withE es e = (ac ++ [y]) ++ (es.drop (j + 1)).filter (fun x => x.place != e.place)) := by show _ = _; rw [hr2.out, HFD2.out]; simp only [hne]; simp
              clear hr2
              go_wp2
              go_quiet (fail)
              obtain ⟨wq4, hbq4, hsq4, hq4⟩ : ∃ wq, Below wr.heap.size wr wq ∧ wr.heap.size ≤ wq.heap.size ∧ wr.drewN nq = wq := ⟨_, below_dn _ _, (below_dn _ _).size, rfl⟩
              rw [hq4]
              have e0 := ((bcell hbq4).1 g4 (j * 2) hg4).trans c0
              have e1 := ((bcell hbq4).1 g4 (j * 2 + 1) hg4).trans c1
              have hg5 : g4 < wq4.heap.size := by omega
              have HBQ4 := hd hbq4
              have HA4 := hd ((HAC.out.below hbq4).below ((Below.refl _ _).alloc (Nat.le_refl _) (.cells #[.int .i64 y.place, .string y.row] 99)))
              clear hq4 hbq4 c0 c1 a0
              go_wp2_with (at_builtin; refine wpList_append_ent rfl (.tmp 48) (.tmp 53) rfl (w.heap.size + 1) _ ac rfl HA4.out y wq4.heap.size 1 rfl (by simp [go_sem]) (by simp [go_sem]) (by omega) (by simp; omega) ?_; intro v5 w5 hown5 hb5; have HO5 := hd hown5; have HB5 := hd hb5; clear hown5 hb5)
              go_roundw
              case rel => exact ⟨j + 1, ac ++ [y], by omega, by go_num, HO5.out, by rw [List.length_append]; simp; omega, HR2, HB4.out.trans ((Below.mono (B' := w.heap.size + 1) (HBQ4.out.alloc hsq4 _) (by omega)).trans HB5.out)⟩
              case measure => simp [intOf]; omega
          · have HE : Hid (Sq.withE es e = ac) := by show _ = _; rw [hr2.out, List.drop_eq_nil_of_le (by omega)]; simp
            clear hr2
            go_wp2
            go_ret
            exact ⟨_, rfl, by rw [HE.out]; exact HAC.out.base (by omega), hbw4⟩
    · have HR : Hid (Sq.withE es e = (acc ++ [e]) ++ (es.drop k).filter (fun x => x.place != e.place)) := by
        show _ = _
        rw [hr.out, Sq.withE_here es e k (fun h => absurd h hlt), List.append_assoc]
        rfl
      have HAL : Hid ((acc ++ [e]).length = k + 1) := by show _ = _; rw [List.length_append, hal.out]; rfl
      have i2 : decide ((k : Int) < (es.length : Int)) = false := by simpa using hlt
      clear hr hal
      go_wp2
      go_quiet (fail)
      obtain ⟨wq, hbq, hsq, hq⟩ : ∃ wq, Below wo.heap.size wo wq ∧ wo.heap.size ≤ wq.heap.size ∧ wo.drewN nq = wq := ⟨_, below_dn _ _, (below_dn _ _).size, rfl⟩
      rw [hq]
      have a0q := ((bcell hbq).1 w.heap.size 0 hzw).trans a0
      have a1q := ((bcell hbq).1 w.heap.size 1 hzw).trans a1
      have hgq : w.heap.size < wq.heap.size := by omega
      have HBQ := hd hbq
      have HA2 := hd ((HACC.out.below hbq).below ((Below.refl _ _).alloc (Nat.le_refl _) (.cells #[.int .i64 e.place, .string e.row] 99)))
      clear hq a0 a1 hbq
      go_wp2_with (at_builtin; refine wpList_append_ent rfl (.tmp 30) (.tmp 32) rfl (w.heap.size + 1) _ acc rfl HA2.out e wq.heap.size 1 rfl (by simp [go_sem]) (by simp [go_sem]) (by omega) (by simp; omega) ?_; intro v3 w3 hown3 hb3; have HO3 := hd hown3; have HB3 := hd hb3; clear hown3 hb3)
      go_loopw [5, 6] (fun v i wr => ∃ j : Nat, ∃ ac : List Sq.Ent, j ≤ es.length ∧ i = .int .i64 j ∧ EntsAt (w.heap.size + 1) wr v ac ∧ ac.length ≤ j + 1 ∧ Hid (Sq.withE es e = ac ++ (es.drop j).filter (fun x => x.place != e.place)) ∧ Below (w.heap.size + 1) (w.alloc (.cells #[.int .i64 e.place, .string e.row] 99)) wr) (fun _ i _ => es.length - (intOf i).toNat)
      case atStart => exact ⟨k, acc ++ [e], hk, rfl, HO3.out, Nat.le_of_eq HAL.out, HR, HB.out.trans ((Below.mono (B' := w.heap.size + 1) (HBQ.out.alloc hsq _) (by omega)).trans HB3.out)⟩
      case round =>
        obtain ⟨j, ac, hj, rfl, hac, hacl, hr2, hb4⟩ := hrel
        obtain ⟨yo, ycap, rfl⟩ := ownsRow_slice hac
        have hbw4 : Below w.heap.size w wr := HW.out.trans (hb4.mono (by omega))
        have a0 : wr.cell? ⟨w.heap.size, 0, none⟩ = some (.int .i64 e.place) := (hb4.cell (p := ⟨w.heap.size, 0, none⟩) (by simp)).trans (by simp [go_sem])
        have hzw4 : w.heap.size < wr.heap.size := by have := hb4.size; simp at this; omega
        have HB4 := hd hb4
        have HAC := hd hac
        clear hb4 hac
        by_cases hjt : j < es.length
        · obtain ⟨g4, cap4, hv, hg4, c0, c1⟩ := (H.out.below hbw4).at j hjt
          simp only [Value.slice.injEq] at hv
          obtain ⟨hv1, -, hv2⟩ := hv
          have HFD := hd (Sq.filt_drop (fun x => x.place != e.place) es j hjt)
          obtain ⟨y, hy⟩ : ∃ x, x = es[j] := ⟨_, rfl⟩
          have hfd := HFD.out
          rw [← hy] at c0 c1 hfd
          have HFD2 := hd hfd
          have i1 : ¬ ((es.length : Int) ≤ (j : Int)) := by omega
          obtain rfl := hv1; obtain rfl := hv2
          clear hfd HFD hy
          cases hne : y.place != e.place
          case false =>
            have HR2 : Hid (Sq.withE es e = ac ++ (es.drop (j + 1)).filter (fun x => x.place != e.place)) := by show _ = _; rw [hr2.out, HFD2.out]; simp only [hne]; simp
            clear hr2
            go_wp2
            go_quiet (fail)
            obtain ⟨wq4, hbq4, hsq4, hq4⟩ : ∃ wq, Below wr.heap.size wr wq ∧ wr.heap.size ≤ wq.heap.size ∧ wr.drewN nq = wq := ⟨_, below_dn _ _, (below_dn _ _).size, rfl⟩
            rw [hq4]
            have HBQ4 := hd hbq4
            clear hq4 hbq4 c0 c1 a0
            go_wp2
            go_roundw
            case rel => exact ⟨j + 1, ac, by omega, by go_num, HAC.out.below HBQ4.out, by omega, HR2, HB4.out.trans (HBQ4.out.mono (by omega))⟩
            case measure => simp [intOf]; omega
          case true =>
            have HR2 : Hid (Sq.withE es e = (ac ++ [y]) ++ (es.drop (j + 1)).filter (fun x => x.place != e.place)) := by show _ = _; rw [hr2.out, HFD2.out]; simp only [hne]; simp
            clear hr2
            go_wp2
            go_quiet (fail)
            obtain ⟨wq4, hbq4, hsq4, hq4⟩ : ∃ wq, Below wr.heap.size wr wq ∧ wr.heap.size ≤ wq.heap.size ∧ wr.drewN nq = wq := ⟨_, below_dn _ _, (below_dn _ _).size, rfl⟩
            rw [hq4]
            have e0 := ((bcell hbq4).1 g4 (j * 2) hg4).trans c0
            have e1 := ((bcell hbq4).1 g4 (j * 2 + 1) hg4).trans c1
            have hg5 : g4 < wq4.heap.size := by omega
            have HBQ4 := hd hbq4
            have HA4 := hd ((HAC.out.below hbq4).below ((Below.refl _ _).alloc (Nat.le_refl _) (.cells #[.int .i64 y.place, .string y.row] 99)))
            clear hq4 hbq4 c0 c1 a0
            go_wp2_with (at_builtin; refine wpList_append_ent rfl (.tmp 48) (.tmp 53) rfl (w.heap.size + 1) _ ac rfl HA4.out y wq4.heap.size 1 rfl (by simp [go_sem]) (by simp [go_sem]) (by omega) (by simp; omega) ?_; intro v5 w5 hown5 hb5; have HO5 := hd hown5; have HB5 := hd hb5; clear hown5 hb5)
            go_roundw
            case rel => exact ⟨j + 1, ac ++ [y], by omega, by go_num, HO5.out, by rw [List.length_append]; simp; omega, HR2, HB4.out.trans ((Below.mono (B' := w.heap.size + 1) (HBQ4.out.alloc hsq4 _) (by omega)).trans HB5.out)⟩
            case measure => simp [intOf]; omega
        · have HE : Hid (Sq.withE es e = ac) := by show _ = _; rw [hr2.out, List.drop_eq_nil_of_le (by omega)]; simp
          clear hr2
          go_wp2
          go_ret
          exact ⟨_, rfl, by rw [HE.out]; exact HAC.out.base (by omega), hbw4⟩

end Go.Proofs.YtamkfbelpfpjcaaGreatDoor

namespace Go.Proofs.YtamkfbelpfpjcaaGreatDoor
open Go.RowKit

set_option maxRecDepth 100000 in
set_option maxHeartbeats 1000000 in
theorem dropped_any (es : List Sq.Ent) (p : Int) (v : Value) (w : World) (h : EntsAt 0 w v es) (hl : es.length ≤ 1000) :
    Calls Tryz.prog 140 #[v, .int .i64 p] w fun r w' => ∃ v', r = .returned v' ∧ EntsAt w.heap.size w' v' (es.filter fun x => x.place != p) ∧ Below w.heap.size w w' := by
  obtain ⟨ao, acap, rfl⟩ := ownsRow_slice h
  have H := hd h
  clear h
  go_enter Tryz.func140, Tryz.ntmps140
  go_wp2
  go_loopw [5, 6] (fun v i wr => ∃ k : Nat, ∃ acc : List Sq.Ent, k ≤ es.length ∧ i = .int .i64 k ∧ EntsAt w.heap.size wr v acc ∧ acc.length ≤ k ∧ Hid ((es.filter fun x => x.place != p) = acc ++ (es.drop k).filter fun x => x.place != p) ∧ Below w.heap.size w wr) (fun _ i _ => es.length - (intOf i).toNat)
  case atStart => exact ⟨0, [], Nat.zero_le _, rfl, World.ownsRow_nil _ _ _ _, Nat.le_refl _, rfl, Below.refl _ _⟩
  case round =>
    obtain ⟨j, ac, hj, rfl, hac, hacl, hr2, hb4⟩ := hrel
    obtain ⟨yo, ycap, rfl⟩ := ownsRow_slice hac
    have hzw := hb4.size
    have HB4 := hd hb4
    have HAC := hd hac
    clear hb4 hac
    by_cases hjt : j < es.length
    · obtain ⟨g4, cap4, hv, hg4, c0, c1⟩ := (H.out.below HB4.out).at j hjt
      simp only [Value.slice.injEq] at hv
      obtain ⟨rfl, -, rfl⟩ := hv
      have HFD := hd (Sq.filt_drop (fun x => x.place != p) es j hjt)
      obtain ⟨y, hy⟩ : ∃ x, x = es[j] := ⟨_, rfl⟩
      have hfd := HFD.out
      rw [← hy] at c0 c1 hfd
      have HFD2 := hd hfd
      clear hfd HFD hy
      cases hne : y.place != p
      case false =>
        have HR2 : Hid ((es.filter fun x => x.place != p) = ac ++ (es.drop (j + 1)).filter fun x => x.place != p) := by show _ = _; rw [hr2.out, HFD2.out]; simp only [hne]; simp
        clear hr2
        go_wp2
        go_roundw
        case rel => exact ⟨j + 1, ac, by omega, by go_num, HAC.out, by omega, HR2, HB4.out⟩
        case measure => simp [intOf]; omega
      case true =>
        have HR2 : Hid ((es.filter fun x => x.place != p) = (ac ++ [y]) ++ (es.drop (j + 1)).filter fun x => x.place != p) := by show _ = _; rw [hr2.out, HFD2.out]; simp only [hne]; simp
        have HA4 := hd (HAC.out.below ((Below.refl _ _).alloc (Nat.le_refl _) (.cells #[.int .i64 y.place, .string y.row] 99)))
        clear hr2
        go_wp2_with (at_builtin; refine wpList_append_ent rfl (.tmp 20) (.tmp 25) rfl w.heap.size _ ac rfl HA4.out y wr.heap.size 1 rfl (by simp [go_sem]) (by simp [go_sem]) (by omega) (by simp; omega) ?_; intro v5 w5 hown5 hb5; have HO5 := hd hown5; have HB5 := hd hb5; clear hown5 hb5)
        go_roundw
        case rel => exact ⟨j + 1, ac ++ [y], by omega, by go_num, HO5.out, by rw [List.length_append]; simp; omega, HR2, HB4.out.trans ((Below.mono (B' := w.heap.size) ((Below.refl _ _).alloc (Nat.le_refl _) _) hzw).trans HB5.out)⟩
        case measure => simp [intOf]; omega
    · have HE : Hid ((es.filter fun x => x.place != p) = ac) := by show _ = _; rw [hr2.out, List.drop_eq_nil_of_le (by omega)]; simp
      clear hr2
      go_wp2
      go_ret
      exact ⟨_, rfl, by rw [HE.out]; exact HAC.out, HB4.out⟩

theorem wpList_append_nodes {ops : Array Oper} {rest : List Oper} {o : Oper} {a : Act} {Q : Exit → Act → World → Prop} {w : World} (hgd : o.guard = none) (sl x : Operand)
    (ho : o.op = .call { callee := .builtin .append, args := #[sl, x], argTypes := #[42, 42] }) (B : Nat) (v : Value) (n : Nat) (l : List (List (Sq.Kid n) × Value × Value)) (hs : a.eval sl = v) (hb : w.ownsRow B 44 5 v l.length (l.flatMap (nodeCells n)))
    (m : List (List (Sq.Kid n) × Value × Value)) (sv : Value) (hx : a.eval x = sv) (hrd : Reads w sv m.length 5 (m.flatMap (nodeCells n))) (hone : ∀ u ∈ m.flatMap (nodeCells n), u.oneCell' = true) (hm : 0 < m.length) (h1 : l.length + m.length ≤ 1000000) (hB : B ≤ w.heap.size)
    (h : ∀ v' w', w'.ownsRow B 44 5 v' (l ++ m).length ((l ++ m).flatMap (nodeCells n)) → Below B w w' → wpList Tryz.prog ops Q rest (a.put o.dst v') w') : wpList Tryz.prog ops Q (o :: rest) a w := by
  obtain ⟨i0, hi, hz0, hz1, hz2⟩ := info_parts Tryz.infoNode
  rcases hrd.2 with ⟨_, h0⟩ | ⟨g, off, cap, rfl, _, hc⟩
  · omega
  refine wpList_append_lies _ hgd sl x 42 ho B 44 i0 _ 5 72 Tryz.underlying42 hi hz0 hz1 hz2 rfl (by decide) v l.length _ hs hb ⟨g, off, none⟩ m.length cap (m.flatMap (nodeCells n)) hx hrd.1 (by
    intro j u hu
    rw [add_off]
    exact hc j u hu) hone hm (by unfold maxLen; omega) (by omega) hB _ rfl ?_
  intro g' cap w' ho' hg' _ _
  refine h _ w' ?_ (Tch.of_grown hg' (fun k hk => (World.ownsRow.lt hb k hk).1) hB)
  rw [List.length_append, List.flatMap_append]
  exact ho'
theorem reads_new (w : World) (e : TypeId) (cs : Array Value) (l : List Value) (n size : Nat) (hl : cs.toList = l) (h : l.length = n * size) : Reads (w.alloc (.cells cs e)) (.slice (some ⟨w.heap.size, 0, none⟩) n n) n size l := by
  refine ⟨h, Or.inr ⟨w.heap.size, 0, n, rfl, by simp, fun j u hj => ?_⟩⟩
  have := new_cells w cs e l hl rfl j u hj
  rwa [add_off] at this

end Go.Proofs.YtamkfbelpfpjcaaGreatDoor

namespace Go.Proofs.YtamkfbelpfpjcaaGreatDoor
open Go.RowKit

theorem take_next {α : Type} (l : List α) (k : Nat) (h : k < l.length) : l.take (k + 1) = l.take k ++ [l[k]] := List.take_succ_eq_append_getElem h
theorem Sq.exch_map {α β : Type} (f : α → β) (l o : List α) (a m : Nat) : (Sq.exch l a m o).map f = Sq.exch (l.map f) a m (o.map f) := by
  unfold Sq.exch; simp
theorem mem_exch {α : Type} {l o : List α} {a m : Nat} {x : α} (h : x ∈ Sq.exch l a m o) : x ∈ l ∨ x ∈ o := by
  unfold Sq.exch at h
  rcases List.mem_append.1 h with h | h
  · rcases List.mem_append.1 h with h | h
    · exact Or.inl (List.mem_of_mem_take h)
    · exact Or.inr h
  · exact Or.inl (List.mem_of_mem_drop h)
theorem node_one {n : Nat} {w : World} {x : List (Sq.Kid n) × Value × Value} (h : NodeAt w n x.1 x.2.1 x.2.2) : ∀ u ∈ [x].flatMap (nodeCells n), u.oneCell' = true :=
  NodesAt.one (B := 0) (v := .slice none 0 0) (l := [x]) fun y hy => by rw [List.mem_singleton.1 hy]; exact h

set_option maxRecDepth 100000 in
set_option maxHeartbeats 2000000 in
theorem exchanged_any (n : Nat) (l o : List (List (Sq.Kid n) × Value × Value)) (cv ov : Value) (a m : Nat) (w : World) (h : NodesAt 0 w cv n l) (ho : NodesAt 0 w ov n o) (h0 : 0 < o.length) (hl : l.length ≤ 1000) (hol : o.length ≤ 1000) (ha : a ≤ 1000) (hm : m ≤ 1000) :
    Calls Tryz.prog 138 #[cv, .int .i64 a, .int .i64 m, ov] w fun r w' => ∃ v', r = .returned v' ∧ NodesAt w.heap.size w' v' n (Sq.exch l a m o) ∧ Below w.heap.size w w' := by
  obtain ⟨ao, acap, rfl⟩ := ownsRow_slice h.own
  obtain ⟨bo, bcap, rfl⟩ := ownsRow_slice ho.own
  have hone := NodesAt.one (B := 0) (v := .slice none 0 0) ho.each
  have HONE := hd hone
  have H := hd h
  have HO := hd ho
  clear h ho hone
  go_enter Tryz.func138, Tryz.ntmps138
  go_wp2
  go_loopw [9, 10] (fun v i wr => ∃ k : Nat, k ≤ l.length ∧ k ≤ a ∧ i = .int .i64 k ∧ wr.ownsRow w.heap.size 44 5 v (l.take k).length ((l.take k).flatMap (nodeCells n)) ∧ Below w.heap.size w wr) (fun _ i _ => l.length - (intOf i).toNat)
  case atStart => exact ⟨0, Nat.zero_le _, Nat.zero_le _, rfl, World.ownsRow_nil _ _ _ _, Below.refl _ _⟩
  case round =>
    obtain ⟨k, hk, hka, rfl, hac, hb⟩ := hrel
    obtain ⟨wo, rfl⟩ : ∃ wo : World, wo = wr := ⟨_, rfl⟩
    have hzw := hb.size
    have HB := hd hb
    have HTK := hd (fun h => take_next l k h)
    have htl : (l.take k).length ≤ 1000 := Nat.le_trans (List.length_take_le _ _) (by omega)
    obtain ⟨acc, hacc⟩ : ∃ x, x = l.take k := ⟨_, rfl⟩
    have HTK2 : Hid (∀ h : k < l.length, l.take (k + 1) = acc ++ [l[k]]) := by rw [hacc]; exact HTK
    rw [← hacc] at hac htl
    obtain ⟨xo, xcap, rfl⟩ := ownsRow_slice hac
    have HAC := hd hac
    have HACC := hd hacc
    clear hb hac hacc HTK
    by_cases hlt : k < l.length ∧ k < a
    · obtain ⟨hlt, hlta⟩ := hlt
      obtain ⟨g, cap', ea, el, ec, ca, cl, cc, hv, hg, d0, d1, d2, d3, d4, d5, d6⟩ := (H.out.below HB.out).at k hlt
      simp only [Value.slice.injEq] at hv
      obtain ⟨rfl, -, rfl⟩ := hv
      have htk := HTK2.out hlt
      obtain ⟨x, hx⟩ : ∃ x, x = l[k] := ⟨_, rfl⟩
      rw [← hx] at htk d3 d4 d5 d6
      obtain ⟨t, evx, cvx⟩ := x
      simp only [Prod.mk.injEq] at d5
      obtain ⟨rfl, rfl⟩ := d5
      have HTK3 := hd htk
      have i2 : decide ((k : Int) < (l.length : Int)) = true := by simpa using hlt
      have i3 : decide ((k : Int) < (a : Int)) = true := by simpa using hlta
      have i4 : ¬ ((l.length : Int) ≤ (k : Int)) := by omega
      have HN := hd d6
      have HA2 := hd (ownsRow_below HAC.out ((Below.refl _ _).alloc (Nat.le_refl _) (.cells (nodeCells n (t, .slice ea el ec, .slice ca cl cc)).toArray 44)))
      have HRD := hd (reads_new wo 44 (nodeCells n (t, .slice ea el ec, .slice ca cl cc)).toArray (([(t, Value.slice ea el ec, Value.slice ca cl cc)] : List (List (Sq.Kid n) × Value × Value)).flatMap (nodeCells n)) 1 5 rfl rfl)
      clear htk hx d6 HTK2
      go_wp2_with (at_builtin; refine wpList_append_nodes rfl (.tmp 23) (.tmp 28) rfl w.heap.size _ n acc rfl HA2.out [(t, Value.slice ea el ec, Value.slice ca cl cc)] _ rfl HRD.out (node_one HN.out) (Nat.zero_lt_succ _) (by show acc.length + 1 ≤ 1000000; omega) (by first | (rw [heap_alloc1]; omega) | omega | (simp; done)) ?_; intro v3 w3 hown3 hb3; have HO3 := hd hown3; have HB3 := hd hb3; clear hown3 hb3)
      go_roundw
      case rel => exact ⟨k + 1, by omega, by omega, by go_num, by rw [HTK3.out]; exact HO3.out, HB.out.trans ((Below.mono (B' := w.heap.size) ((Below.refl _ _).alloc (Nat.le_refl _) _) hzw).trans HB3.out)⟩
      case measure => simp [intOf]; omega
    · have HT : Hid (acc = l.take a) := by
        show _ = _
        rw [HACC.out]
        rcases Nat.lt_or_ge k l.length with h | h
        · rw [show k = a by omega]
        · rw [List.take_of_length_le h, List.take_of_length_le (by omega)]
      have HRO := hd (Reads.of_own (ownsRow_below HO.out.own HB.out))
      have hand : (decide ((k : Int) < (l.length : Int)) && decide ((k : Int) < (a : Int))) = false := by
        rcases Nat.lt_or_ge k l.length with h | h
        · have : ¬ ((k : Int) < (a : Int)) := by omega
          simp [this]
        · have : ¬ ((k : Int) < (l.length : Int)) := by omega
          simp [this]
      clear HTK2
      rcases Nat.lt_or_ge k l.length with hkl | hkl
      all_goals
        first
          | (have i2 : decide ((k : Int) < (l.length : Int)) = true := (by simpa using hkl); have i3 : decide ((k : Int) < (a : Int)) = false := (by simp; omega))
          | (have i2 : decide ((k : Int) < (l.length : Int)) = false := (by simp; omega))
        clear hand
        go_wp2_with (at_builtin; refine wpList_append_nodes rfl (.tmp 30) (.tmp 31) rfl w.heap.size _ n acc rfl HAC.out o _ rfl HRO.out HONE.out h0 (by omega) (by omega) ?_; intro v3 w3 hown3 hb3; have HO3 := hd hown3; have HB3 := hd hb3; clear hown3 hb3)
        have HEX : Hid (Sq.exch l a m o = (acc ++ o) ++ l.drop (a + m)) := by show _ = _; unfold Sq.exch; rw [HT.out]
        have hlen3 : (acc ++ o).length ≤ 2000 := by rw [List.length_append]; omega
        have HB13 : Hid (Below w.heap.size w w3) := HB.out.trans HB3.out
        obtain ⟨ac0, hac0⟩ : ∃ x, x = acc ++ o := ⟨_, rfl⟩
        have ho3 := HO3.out
        have hex := HEX.out
        rw [← hac0] at ho3 hex hlen3
        have HO4 := hd ho3
        have HEX2 := hd hex
        clear ho3 hex HEX HO3 hac0
        go_loopw [9, 11] (fun v i wr => ∃ j : Nat, ∃ ac : List (List (Sq.Kid n) × Value × Value), j ≤ 3000 ∧ i = .int .i64 j ∧ wr.ownsRow w.heap.size 44 5 v ac.length (ac.flatMap (nodeCells n)) ∧ ac.length ≤ 2000 + j ∧ Hid (Sq.exch l a m o = ac ++ l.drop j) ∧ Below w.heap.size w wr) (fun _ i _ => l.length - (intOf i).toNat)
        case atStart => exact ⟨a + m, ac0, by omega, by go_num, HO4.out, by omega, HEX2, HB13.out⟩
        case round =>
          obtain ⟨j, ac, hj, rfl, hac, hacl, hex, hb4⟩ := hrel
          obtain ⟨yo, ycap, rfl⟩ := ownsRow_slice hac
          have hzw4 := hb4.size
          have HB4 := hd hb4
          have HAC4 := hd hac
          clear hb4 hac
          by_cases hjt : j < l.length
          · obtain ⟨g, cap', ea, el, ec, ca, cl, cc, hv, hg, d0, d1, d2, d3, d4, d5, d6⟩ := (H.out.below HB4.out).at j hjt
            simp only [Value.slice.injEq] at hv
            obtain ⟨rfl, -, rfl⟩ := hv
            have hdr := List.drop_eq_getElem_cons hjt
            obtain ⟨x, hx⟩ : ∃ x, x = l[j] := ⟨_, rfl⟩
            rw [← hx] at hdr d3 d4 d5 d6
            obtain ⟨t, evx, cvx⟩ := x
            simp only [Prod.mk.injEq] at d5
            obtain ⟨rfl, rfl⟩ := d5
            have HEX3 : Hid (Sq.exch l a m o = (ac ++ [(t, Value.slice ea el ec, Value.slice ca cl cc)]) ++ l.drop (j + 1)) := by show _ = _; rw [hex.out, hdr, List.append_assoc]; rfl
            have i4 : ¬ ((l.length : Int) ≤ (j : Int)) := by omega
            have HN := hd d6
            have HA2 := hd (ownsRow_below HAC4.out ((Below.refl _ _).alloc (Nat.le_refl _) (.cells (nodeCells n (t, .slice ea el ec, .slice ca cl cc)).toArray 44)))
            have HRD := hd (reads_new wr 44 (nodeCells n (t, .slice ea el ec, .slice ca cl cc)).toArray (([(t, Value.slice ea el ec, Value.slice ca cl cc)] : List (List (Sq.Kid n) × Value × Value)).flatMap (nodeCells n)) 1 5 rfl rfl)
            clear hdr hx d6 hex
            go_wp2_with (at_builtin; refine wpList_append_nodes rfl (.tmp 42) (.tmp 47) rfl w.heap.size _ n ac rfl HA2.out [(t, Value.slice ea el ec, Value.slice ca cl cc)] _ rfl HRD.out (node_one HN.out) (Nat.zero_lt_succ _) (by show ac.length + 1 ≤ 1000000; omega) (by first | (rw [heap_alloc1]; omega) | omega | (simp; done)) ?_; intro v5 w5 hown5 hb5; have HO5 := hd hown5; have HB5 := hd hb5; clear hown5 hb5)
            go_roundw
            case rel => exact ⟨j + 1, ac ++ [(t, Value.slice ea el ec, Value.slice ca cl cc)], by omega, by go_num, HO5.out, by rw [List.length_append]; show ac.length + 1 ≤ _; omega, HEX3, HB4.out.trans ((Below.mono (B' := w.heap.size) ((Below.refl _ _).alloc (Nat.le_refl _) _) hzw4).trans HB5.out)⟩
            case measure => simp [intOf]; omega
          · have HE : Hid (Sq.exch l a m o = ac) := by show _ = _; rw [hex.out, List.drop_eq_nil_of_le (by omega)]; simp
            clear hex
            go_wp2
            go_ret
            refine ⟨_, rfl, ⟨by rw [HE.out]; exact HAC4.out, fun x hx => ?_⟩, HB4.out⟩
            rcases mem_exch hx with h | h
            · exact (H.out.each x h).below HB4.out
            · exact (HO.out.each x h).below HB4.out

end Go.Proofs.YtamkfbelpfpjcaaGreatDoor

namespace Go.Proofs.YtamkfbelpfpjcaaGreatDoor
open Go.RowKit

theorem own_new (w : World) (e : TypeId) (cs : Array Value) (l : List Value) (n size B : Nat) (hl : cs.toList = l) (h : l.length = n * size) (hn : n ≤ 1000) (hB : B ≤ w.heap.size) : (w.alloc (.cells cs e)).ownsRow B e size (.slice (some ⟨w.heap.size, 0, none⟩) n n) n l := by
  subst hl
  refine ⟨h, Or.inr ⟨w.heap.size, n, cs, rfl, hB, alloc_here w _, Nat.le_refl _, by unfold maxLen; omega, by simpa using h, ?_⟩⟩
  exact List.take_of_length_le (by rw [h]; exact Nat.le_refl _)
/-- The two parts of a list of five or more. -/
def part {α : Type} (off : Nat) (l : List α) : List α := if off = 0 then l.take 3 else l.drop 3
theorem Reads.part {α : Type} {f : α → List Value} {size : Nat} (hs : 0 < size) (hf : ∀ x, (f x).length = size) {w : World} {g cap : Nat} {l : List α} (h : Reads w (.slice (some ⟨g, 0, none⟩) l.length cap) l.length size (l.flatMap f)) (h3 : 3 ≤ l.length) (off len c : Nat) (hp : (off = 0 ∧ len = 3) ∨ (off = 3 * size ∧ len = l.length - 3)) :
    Reads w (.slice (some ⟨g, off, none⟩) len c) (part off l).length size ((part off l).flatMap f) ∧ (part off l).length = len := by
  have hlen : ∀ m : List α, (m.flatMap f).length = m.length * size := by
    intro m
    induction m with
    | nil => simp
    | cons x r ih => rw [List.flatMap_cons, List.length_append, ih, hf, List.length_cons, Nat.succ_mul]; omega
  rcases h.2 with ⟨h1, _⟩ | ⟨g', off', cap', hv, hg, hc⟩
  · simp at h1
  simp only [Value.slice.injEq, Option.some.injEq, Addr.mk.injEq] at hv
  obtain ⟨⟨rfl, rfl, -⟩, -, rfl⟩ := hv
  have hsplit : l.flatMap f = (l.take 3).flatMap f ++ (l.drop 3).flatMap f := by rw [← List.flatMap_append, List.take_append_drop]
  have ht : (l.take 3).length = 3 := by simp; omega
  rcases hp with ⟨rfl, rfl⟩ | ⟨rfl, rfl⟩
  · have e : Go.Proofs.YtamkfbelpfpjcaaGreatDoor.part 0 l = l.take 3 := rfl
    rw [e]
    refine ⟨⟨hlen _, Or.inr ⟨g, 0, c, by rw [ht], hg, fun j u hj => ?_⟩⟩, ht⟩
    refine hc j u ?_
    rw [hsplit, List.getElem?_append_left (by rcases Nat.lt_or_ge j ((l.take 3).flatMap f).length with h | h; exact h; rw [List.getElem?_eq_none h] at hj; cases hj)]
    exact hj
  · have e : Go.Proofs.YtamkfbelpfpjcaaGreatDoor.part (3 * size) l = l.drop 3 := by unfold Go.Proofs.YtamkfbelpfpjcaaGreatDoor.part; rw [if_neg (by omega)]
    rw [e]
    refine ⟨⟨hlen _, Or.inr ⟨g, 3 * size, c, by simp, hg, fun j u hj => ?_⟩⟩, by simp⟩
    have h5 := hc (3 * size + j) u (by
      rw [hsplit, List.getElem?_append_right (by rw [hlen, ht]; omega), hlen, ht, Nat.add_sub_cancel_left]
      exact hj)
    rwa [Nat.zero_add] at h5

theorem own_cap {w : World} {B : Nat} {e : TypeId} {size : Nat} {ao : Option Addr} {n cap : Nat} {cs : List Value} (h : w.ownsRow B e size (.slice ao n cap) n cs) (hn : 0 < n) : ∃ g, ao = some ⟨g, 0, none⟩ ∧ g < w.heap.size ∧ n ≤ cap := by
  rcases h.2 with ⟨h1, h2⟩ | ⟨g', cap', cur, hv, hbg, hh, hn', hm, hc, ht⟩
  · omega
  · simp only [Value.slice.injEq] at hv
    obtain ⟨rfl, -, rfl⟩ := hv
    exact ⟨g', rfl, lt_blk hh, hn'⟩

theorem leafP_any (es : List Sq.Ent) (g cap : Nat) (off len c : Nat) (w : World) (h : Reads w (.slice (some ⟨g, 0, none⟩) es.length cap) es.length 2 (es.flatMap entCells)) (h3 : 3 ≤ es.length) (hl : es.length ≤ 1000) (hp : (off = 0 ∧ len = 3) ∨ (off = 6 ∧ len = es.length - 3)) :
    Calls Tryz.prog 139 #[.slice (some ⟨g, off, none⟩) len c] w fun e w' => ∃ ev, e = .returned (.agg (nodeCells 0 (part off es, ev, .slice none 0 0)).toArray) ∧ EntsAt w.heap.size w' ev (part off es) ∧ Below w.heap.size w w' := by
  obtain ⟨hr, _⟩ := Reads.part (f := entCells) (by decide) (fun _ => rfl) h h3 off len c hp
  exact leaf_any _ _ w hr (by
    have : (part off es).length ≤ es.length := by unfold part; split <;> simp <;> omega
    omega)

set_option maxRecDepth 100000 in
set_option maxHeartbeats 1000000 in
theorem leaves_any (es : List Sq.Ent) (v : Value) (w : World) (h : EntsAt 0 w v es) (hl : es.length ≤ 1000) :
    Calls Tryz.prog 135 #[v] w fun r w' => ∃ v' l, r = .returned v' ∧ l.map Prod.fst = Sq.halve es ∧ NodesAt w.heap.size w' v' 0 l ∧ Below w.heap.size w w' := by
  obtain ⟨ao, acap, rfl⟩ := ownsRow_slice h
  by_cases h4 : es.length ≤ 4
  · have HE : Hid (Sq.halve es = [es]) := by show _ = _; unfold Sq.halve; rw [if_pos h4]
    have H := hd (Reads.of_own h)
    clear h
    go_enter Tryz.func135, Tryz.ntmps135
    go_wp2_with fail
    refine (leaf_any es _ _ H.out hl).mono ?_
    rintro e w1 ⟨ev, rfl, he, hb⟩
    obtain ⟨xo, xc, rfl⟩ := ownsRow_slice he
    have HEV := hd he
    have HB := hd hb
    have hz := hb.size
    clear he hb
    rw [nodeCells_arr]
    go_wp2
    go_ret
    refine ⟨_, [(es, .slice xo es.length xc, .slice none 0 0)], rfl, by rw [HE.out]; rfl, ⟨own_new w1 44 _ _ 1 5 w.heap.size rfl rfl (by decide) hz, fun x hx => ?_⟩, HB.out.alloc hz _⟩
    rw [List.mem_singleton.1 hx]
    exact ⟨rfl, ownsRow_base (ownsRow_below HEV.out ((Below.refl _ _).alloc (Nat.le_refl _) _)) (Nat.zero_le _)⟩
  · have HE : Hid (Sq.halve es = [part 0 es, part 6 es]) := by show _ = _; unfold Sq.halve; rw [if_neg h4]; rfl
    obtain ⟨g, hao, hg, hcap⟩ := own_cap h (by omega)
    subst hao
    have hrb : ∀ w', Below w.heap.size w w' → Reads w' (.slice (some ⟨g, 0, none⟩) es.length acap) es.length 2 (es.flatMap entCells) := fun w' hb => (Reads.of_own h).below hb
    have HRB := hd hrb
    have i1 : ¬ ((es.length : Int) ≤ 4) := by omega
    have i2 : ¬ ((es.length : Int) < 3) := by omega
    clear h hrb
    go_enter Tryz.func135, Tryz.ntmps135
    go_wp2
    go_region_with (go_at_call 139; (first | (have hx := HB1; clear hx; refine (leafP_any es g acap _ _ _ _ (HRB.out _ ((Below.drew (Below.refl _ _)).trans (HB1.out.mono (by simp)))) (by omega) hl (by first | exact Or.inl ⟨rfl, rfl⟩ | exact Or.inr ⟨rfl, rfl⟩)).mono ?_; rintro e w2 ⟨ev2, rfl, he2, hb2⟩; obtain ⟨yo, yc, rfl⟩ := ownsRow_slice he2; have HEV2 := hd he2; have HB2 := hd hb2; have hz2 := hb2.size; clear he2 hb2; rw [nodeCells_arr]) | (refine (leafP_any es g acap _ _ _ _ (HRB.out _ (Below.drew (Below.refl _ _))) (by omega) hl (by first | exact Or.inl ⟨rfl, rfl⟩ | exact Or.inr ⟨rfl, rfl⟩)).mono ?_; rintro e w1 ⟨ev1, rfl, he1, hb1⟩; obtain ⟨xo, xc, rfl⟩ := ownsRow_slice he1; have HEV1 := hd he1; have HB1 := hd hb1; have hz1 := hb1.size; clear he1 hb1; rw [nodeCells_arr])))
    go_wp2
    go_ret
    have hbw : Below w.heap.size w w2 := (Below.drew (Below.refl _ _)).trans ((HB1.out.trans (HB2.out.mono hz1)).mono (by simp))
    have hzw : w.heap.size ≤ w2.heap.size := hbw.size
    refine ⟨_, [(part 0 es, .slice xo (part 0 es).length xc, .slice none 0 0), (part 6 es, .slice yo (part 6 es).length yc, .slice none 0 0)], rfl, by rw [HE.out]; rfl, ⟨own_new w2 44 _ _ 2 5 w.heap.size rfl rfl (by decide) hzw, fun x hx => ?_⟩, hbw.alloc hzw _⟩
    simp only [List.mem_cons, List.not_mem_nil, or_false] at hx
    rcases hx with rfl | rfl
    · exact ⟨rfl, ownsRow_base (ownsRow_below (ownsRow_below HEV1.out HB2.out) ((Below.refl _ _).alloc (Nat.le_refl _) _)) (Nat.zero_le _)⟩
    · exact ⟨rfl, ownsRow_base (ownsRow_below HEV2.out ((Below.refl _ _).alloc (Nat.le_refl _) _)) (Nat.zero_le _)⟩

theorem part_ents (n off : Nat) (l : List (List (Sq.Kid n) × Value × Value)) : (Sq.ents (n + 1) ((part off l).map Prod.fst)).length ≤ (Sq.ents (n + 1) (l.map Prod.fst)).length := by
  rw [Sq.ents_pairs, Sq.ents_pairs]
  unfold part
  split
  · exact Sq.ents_take_le n l 3
  · conv => rhs; rw [← List.take_append_drop 3 l, List.flatMap_append, List.length_append]
    omega
theorem part_mem {α : Type} {off : Nat} {l : List α} {x : α} (h : x ∈ part off l) : x ∈ l := by
  unfold part at h
  split at h
  · exact List.mem_of_mem_take h
  · exact List.mem_of_mem_drop h
theorem part_map {α β : Type} (f : α → β) (off : Nat) (l : List α) : (part off l).map f = part off (l.map f) := by
  unfold part; split <;> simp
theorem innerP_any (n : Nat) (l : List (List (Sq.Kid n) × Value × Value)) (g cap : Nat) (off len c : Nat) (w : World) (h : NodesRd w (.slice (some ⟨g, 0, none⟩) l.length cap) n l) (h3 : 3 ≤ l.length) (hl : l.length ≤ 1000) (hr : (Sq.ents (n + 1) (l.map Prod.fst)).length ≤ 100000) (hp : (off = 0 ∧ len = 3) ∨ (off = 15 ∧ len = l.length - 3)) :
    Calls Tryz.prog 102 #[.slice (some ⟨g, off, none⟩) len c] w fun e w' => ∃ cv, e = .returned (.agg (nodeCells (n + 1) ((part off l).map Prod.fst, .slice none 0 0, cv)).toArray) ∧ NodesAt w.heap.size w' cv n (part off l) ∧ Below w.heap.size w w' := by
  obtain ⟨hrd, _⟩ := Reads.part (f := nodeCells n) (by decide) (fun _ => rfl) h.rd h3 off len c hp
  exact inner_any n _ _ w ⟨hrd, fun x hx => h.each x (part_mem hx)⟩ (by
    have : (part off l).length ≤ l.length := by unfold part; split <;> simp <;> omega
    omega) (Nat.le_trans (part_ents n off l) hr)

set_option maxRecDepth 100000 in
set_option maxHeartbeats 1000000 in
theorem inners_any (n : Nat) (l : List (List (Sq.Kid n) × Value × Value)) (v : Value) (w : World) (h : NodesAt 0 w v n l) (hl : l.length ≤ 1000) (hr : (Sq.ents (n + 1) (l.map Prod.fst)).length ≤ 100000) :
    Calls Tryz.prog 137 #[v] w fun r w' => ∃ v' k, r = .returned v' ∧ k.map Prod.fst = Sq.halve (l.map Prod.fst) ∧ NodesAt w.heap.size w' v' (n + 1) k ∧ Below w.heap.size w w' := by
  obtain ⟨ao, acap, rfl⟩ := ownsRow_slice h.own
  by_cases h4 : l.length ≤ 4
  · have HE : Hid (Sq.halve (l.map Prod.fst) = [l.map Prod.fst]) := by show _ = _; unfold Sq.halve; rw [if_pos (by simpa using h4)]
    have H := hd h.rd
    clear h
    go_enter Tryz.func137, Tryz.ntmps137
    go_wp2_with fail
    refine (inner_any n l _ _ H.out hl hr).mono ?_
    rintro e w1 ⟨ev, rfl, he, hb⟩
    obtain ⟨xo, xc, rfl⟩ := ownsRow_slice he.own
    have HEV := hd he
    have HB := hd hb
    have hz := hb.size
    clear he hb
    rw [nodeCells_arr]
    go_wp2
    go_ret
    refine ⟨_, [(l.map Prod.fst, .slice none 0 0, .slice xo l.length xc)], rfl, by rw [HE.out]; rfl, ⟨own_new w1 44 _ _ 1 5 w.heap.size rfl rfl (by decide) hz, fun x hx => ?_⟩, HB.out.alloc hz _⟩
    rw [List.mem_singleton.1 hx]
    exact NodeAt.mk rfl ((HEV.out.below ((Below.refl _ _).alloc (Nat.le_refl _) _)).base (Nat.zero_le _))
  · have HE : Hid (Sq.halve (l.map Prod.fst) = [(part 0 l).map Prod.fst, (part 15 l).map Prod.fst]) := by show _ = _; rw [part_map, part_map]; unfold Sq.halve; rw [if_neg (by simpa using h4)]; rfl
    obtain ⟨g, hao, hg, hcap⟩ := own_cap h.own (by omega)
    subst hao
    have hrb : ∀ w', Below w.heap.size w w' → NodesRd w' (.slice (some ⟨g, 0, none⟩) l.length acap) n l := fun w' hb => h.rd.below hb
    have HRB := hd hrb
    have HR := hd hr
    have i1 : ¬ ((l.length : Int) ≤ 4) := by omega
    have i2 : ¬ ((l.length : Int) < 3) := by omega
    clear h hrb hr
    go_enter Tryz.func137, Tryz.ntmps137
    go_wp2
    go_region_with (go_at_call 102; (first | (have hx := HB1; clear hx; refine (innerP_any n l g acap _ _ _ _ (HRB.out _ ((Below.drew (Below.refl _ _)).trans (HB1.out.mono (by simp)))) (by omega) hl HR.out (by first | exact Or.inl ⟨rfl, rfl⟩ | exact Or.inr ⟨rfl, rfl⟩)).mono ?_; rintro e w2 ⟨ev2, rfl, he2, hb2⟩; obtain ⟨yo, yc, rfl⟩ := ownsRow_slice he2.own; have HEV2 := hd he2; have HB2 := hd hb2; have hz2 := hb2.size; clear he2 hb2; rw [nodeCells_arr]) | (refine (innerP_any n l g acap _ _ _ _ (HRB.out _ (Below.drew (Below.refl _ _))) (by omega) hl HR.out (by first | exact Or.inl ⟨rfl, rfl⟩ | exact Or.inr ⟨rfl, rfl⟩)).mono ?_; rintro e w1 ⟨ev1, rfl, he1, hb1⟩; obtain ⟨xo, xc, rfl⟩ := ownsRow_slice he1.own; have HEV1 := hd he1; have HB1 := hd hb1; have hz1 := hb1.size; clear he1 hb1; rw [nodeCells_arr])))
    go_wp2
    go_ret
    have hbw : Below w.heap.size w w2 := (Below.drew (Below.refl _ _)).trans ((HB1.out.trans (HB2.out.mono hz1)).mono (by simp))
    have hzw : w.heap.size ≤ w2.heap.size := hbw.size
    refine ⟨_, [((part 0 l).map Prod.fst, .slice none 0 0, .slice xo (part 0 l).length xc), ((part 15 l).map Prod.fst, .slice none 0 0, .slice yo (part 15 l).length yc)], rfl, by rw [HE.out]; rfl, ⟨own_new w2 44 _ _ 2 5 w.heap.size rfl rfl (by decide) hzw, fun x hx => ?_⟩, hbw.alloc hzw _⟩
    simp only [List.mem_cons, List.not_mem_nil, or_false] at hx
    rcases hx with rfl | rfl
    · exact NodeAt.mk rfl (((HEV1.out.below HB2.out).below ((Below.refl _ _).alloc (Nat.le_refl _) _)).base (Nat.zero_le _))
    · exact NodeAt.mk rfl ((HEV2.out.below ((Below.refl _ _).alloc (Nat.le_refl _) _)).base (Nat.zero_le _))

end Go.Proofs.YtamkfbelpfpjcaaGreatDoor
