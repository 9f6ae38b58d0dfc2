import Derived.Test.YtamkfbelpfpjcaaGreatDoorGe
import Derived.Test.YtamkfbelpfpjcaaGreatDoorGa
set_option linter.unusedVariables false
set_option linter.unusedSimpArgs false

namespace Go.Proofs.YtamkfbelpfpjcaaGreatDoor
open Go.RowKit

theorem hd {p : Prop} (h : p) : Hid p := h

/-- The cells of element k of a slice of structs. -/
theorem sl_at {α : Type} {f : α → List Value} {size : Nat} (hf : ∀ x, (f x).length = size) {w : World} {base : Nat} {e : TypeId} {v : Value} {l : List α} (h : w.ownsRow base e size v l.length (l.flatMap f)) (k : Nat) (hk : k < l.length) :
    ∃ g cap, v = .slice (some ⟨g, 0, none⟩) l.length cap ∧ g < w.heap.size ∧ ∀ j u, j < size → (f l[k])[j]? = some u → w.cell? ⟨g, k * size + j, none⟩ = some u := by
  obtain ⟨g, cap, rfl, _, hlt⟩ := h.form (by omega)
  refine ⟨g, cap, rfl, hlt, fun j u hj hu => ?_⟩
  have := h.cells (g := g) rfl (k * size + j) u (by rw [Sq.flat_at f size hf l k j hk hj]; exact hu)
  rwa [show (⟨g, 0, none⟩ : Addr).add (k * size + j) = ⟨g, k * size + j, none⟩ from by unfold Addr.add; split <;> simp_all] at this

set_option maxHeartbeats 400000 in
theorem sideOf_any (b : Bool) (w : World) :
    Calls Tryz.prog 153 #[.bool b] w fun e w' => e = .returned (.int .i64 (Sq.sideOf b)) ∧ w' = w := by
  cases b
  all_goals
    go_enter Tryz.func153, Tryz.ntmps153
    go_wp2
    go_ret
    exact ⟨rfl, rfl⟩

set_option maxRecDepth 100000 in
set_option maxHeartbeats 400000 in
theorem Find_any (cols : List Sq.Col) (v : Value) (n : ByteArray) (w : World) (h : w.ownsRow 0 135 2 v cols.length (cols.flatMap Sq.Col.cells)) (hl : cols.length ≤ 100000) :
    Calls Tryz.prog 84 #[v, .string n] w fun e w' => e = .returned (.int .i64 (Sq.find cols n)) ∧ w' = w := by
  obtain ⟨ao, cap, rfl⟩ := ownsRow_slice h
  have H := hd h
  clear h
  go_enter Tryz.func84, Tryz.ntmps84
  go_wp2
  go_loop [5] (fun i => ∃ k : Nat, k ≤ cols.length ∧ i = .int .i64 k ∧ Hid (Sq.find cols n = Sq.findFrom n (cols.drop k) k)) (fun i => cols.length - (intOf i).toNat)
  case atStart => exact ⟨0, Nat.zero_le _, rfl, rfl⟩
  case round =>
    obtain ⟨k, hk, rfl, hr⟩ := hrel
    by_cases hlt : k < cols.length
    · obtain ⟨g, cap', hv, hg, hc⟩ := sl_at (f := Sq.Col.cells) (fun _ => rfl) H.out k hlt
      simp only [Value.slice.injEq] at hv
      obtain ⟨rfl, -, rfl⟩ := hv
      have c0 := hc 0 (.string cols[k].name) (by decide) rfl
      simp only [Nat.add_zero] at c0
      have hs := Sq.findFrom_step cols n k hlt
      have HS : Hid _ := hs
      clear hc hs
      cases he : cols[k].name.toList == n.toList
      · have hs := HS.out
        rw [he] at hs
        have HR : Hid (Sq.find cols n = Sq.findFrom n (cols.drop (k + 1)) ((k : Int) + 1)) := hr.out.trans hs
        clear hs HS hr
        go_wp2
        go_round
        case rel => exact ⟨k + 1, by omega, by go_num, HR.out⟩
        case measure => simp [intOf]; omega
      · have hs := HS.out
        rw [he] at hs
        have HR : Hid (Sq.find cols n = (k : Int)) := hr.out.trans hs
        clear hs HS hr
        go_wp2
        go_ret
        exact ⟨by rw [HR.out]; rfl, rfl⟩
    · have HR : Hid (Sq.find cols n = -1) := by show _ = _; rw [hr.out, List.drop_eq_nil_of_le (by omega)]; rfl
      clear hr
      go_wp2
      go_ret
      exact ⟨by rw [HR.out]; rfl, rfl⟩

set_option maxRecDepth 100000 in
set_option maxHeartbeats 1000000 in
theorem Compare_any (v x : Sq.Val) (w : World) :
    Calls Tryz.prog 134 #[.agg v.cells.toArray, .agg x.cells.toArray] w fun e w' => e = .returned (.int .i64 (Sq.compare v x)) ∧ Below w.heap.size w w' := by
  obtain ⟨vk, vn, vt⟩ := v
  obtain ⟨xk, xn, xt⟩ := x
  unfold Sq.Val.cells
  have hbl : ∀ a b, Below w.heap.size w ((w.alloc a).alloc b) := fun a b => ((Below.refl _ _).alloc (Nat.le_refl _) _).alloc (by simp) _
  have HBL : Hid _ := hbl
  clear hbl
  cases h1 : vk != xk
  case true =>
    have HE : Hid (Sq.compare ⟨vk, vn, vt⟩ ⟨xk, xn, xt⟩ = Sq.sideOf (decide (vk < xk))) := by show _ = _; unfold Sq.compare; simp only; rw [h1]; rfl
    go_enter Tryz.func134, Tryz.ntmps134
    go_wp2_with (go_at_call 153; refine (sideOf_any _ _).mono ?_; rintro e w' ⟨rfl, rfl⟩)
    go_ret
    exact ⟨by rw [HE.out]; rfl, HBL.out _ _⟩
  cases h2 : (vk == 0 && vn != xn)
  case true =>
    have HE : Hid (Sq.compare ⟨vk, vn, vt⟩ ⟨xk, xn, xt⟩ = Sq.sideOf (decide (vn < xn))) := by show _ = _; unfold Sq.compare; simp only; rw [h1, h2]; rfl
    obtain ⟨h2a, h2b⟩ : (vk == 0) = true ∧ (vn != xn) = true := by simpa using h2
    clear h2
    go_enter Tryz.func134, Tryz.ntmps134
    go_wp2_with (go_at_call 153; refine (sideOf_any _ _).mono ?_; rintro e w' ⟨rfl, rfl⟩)
    go_ret
    exact ⟨by rw [HE.out]; rfl, HBL.out _ _⟩
  cases h3 : (vk == 1 && !(vt.toList == xt.toList))
  case true =>
    have HE : Hid (Sq.compare ⟨vk, vn, vt⟩ ⟨xk, xn, xt⟩ = Sq.sideOf (Op.bytesLess vt.toList xt.toList)) := by show _ = _; unfold Sq.compare; simp only; rw [h1, h2, h3]; rfl
    obtain ⟨h3a, h3b⟩ : (vk == 1) = true ∧ (vt.toList == xt.toList) = false := by simpa using h3
    have h0 : (vk == 0) = false := by rw [eq_of_beq h3a]; rfl
    clear h2 h3
    go_enter Tryz.func134, Tryz.ntmps134
    go_wp2_with (go_at_call 153; refine (sideOf_any _ _).mono ?_; rintro e w' ⟨rfl, rfl⟩)
    go_ret
    exact ⟨by rw [HE.out]; rfl, HBL.out _ _⟩
  case false =>
    have HE : Hid (Sq.compare ⟨vk, vn, vt⟩ ⟨xk, xn, xt⟩ = 0) := by show _ = _; unfold Sq.compare; simp only; rw [h1, h2, h3]; rfl
    cases h0 : vk == 0
    · cases h4 : vk == 1
      · clear h2 h3
        go_enter Tryz.func134, Tryz.ntmps134
        go_wp2
        go_ret
        exact ⟨by rw [HE.out]; rfl, HBL.out _ _⟩
      · have h5 : (vt.toList == xt.toList) = true := by rw [h4] at h3; simpa using h3
        clear h2 h3
        go_enter Tryz.func134, Tryz.ntmps134
        go_wp2
        go_ret
        exact ⟨by rw [HE.out]; rfl, HBL.out _ _⟩
    · have h5 : (vn != xn) = false := by rw [h0] at h2; simpa using h2
      have h4 : (vk == 1) = false := by rw [eq_of_beq h0]; rfl
      clear h2 h3
      go_enter Tryz.func134, Tryz.ntmps134
      go_wp2
      go_ret
      exact ⟨by rw [HE.out]; rfl, HBL.out _ _⟩

end Go.Proofs.YtamkfbelpfpjcaaGreatDoor

namespace Go.Proofs.YtamkfbelpfpjcaaGreatDoor
open Go.RowKit

/-- Columns in memory. -/
def ColsAt (w : World) (v : Value) (cols : List Sq.Col) : Prop := w.ownsRow 0 135 2 v cols.length (cols.flatMap Sq.Col.cells) ∧ cols.length ≤ 100000
theorem ColsAt.below {w w' : World} {v : Value} {cols : List Sq.Col} (h : ColsAt w v cols) (hb : Below w.heap.size w w') : ColsAt w' v cols := ⟨ownsRow_below h.1 hb, h.2⟩
theorem ColsAt.alloc {w : World} {v : Value} {cols : List Sq.Col} (h : ColsAt w v cols) (o : Obj) : ColsAt (w.alloc o) v cols := h.below ((Below.refl _ _).alloc (Nat.le_refl _) _)

set_option maxRecDepth 100000 in
set_option maxHeartbeats 400000 in
theorem columnKind_any (cols : List Sq.Col) (v : Value) (n : ByteArray) (w : World) (h : ColsAt w v cols) :
    Calls Tryz.prog 86 #[v, .string n] w fun e w' => e = .returned (.tuple #[.int .i64 (Sq.columnKind cols n).1, .bool (Sq.columnKind cols n).2]) ∧ w' = w := by
  obtain ⟨ao, cap, rfl⟩ := ownsRow_slice h.1
  have hl := h.2
  have H := hd h
  clear h
  rcases Sq.find_cases cols n with hf | ⟨k, hk, hf⟩
  · have HE := hd (Sq.columnKind_no cols n hf)
    have HF := hd hf
    clear hf
    go_enter Tryz.func86, Tryz.ntmps86
    go_wp2_with (go_at_call 84; refine (Find_any cols _ n _ H.out.1 hl).mono ?_; rintro e w' ⟨rfl, rfl⟩; rw [HF.out])
    go_ret2
    exact ⟨by rw [HE.out]; rfl, rfl⟩
  · have HE := hd (Sq.columnKind_yes cols n k hk hf)
    have HF := hd hf
    obtain ⟨g, cap', hv, hg, hc⟩ := sl_at (f := Sq.Col.cells) (fun _ => rfl) H.out.1 k hk
    simp only [Value.slice.injEq] at hv
    obtain ⟨rfl, -, rfl⟩ := hv
    have c1 := hc 1 (.int .i64 cols[k].kind) (by decide) rfl
    clear hf hc
    go_enter Tryz.func86, Tryz.ntmps86
    go_wp2_with (go_at_call 84; refine (Find_any cols _ n _ H.out.1 hl).mono ?_; rintro e w' ⟨rfl, rfl⟩; rw [HF.out])
    go_ret2
    exact ⟨by rw [HE.out]; rfl, rfl⟩

set_option maxRecDepth 100000 in
set_option maxHeartbeats 400000 in
theorem kindOf_any (cols : List Sq.Col) (v : Value) (t : Sq.Term) (w : World) (h : ColsAt w v cols) :
    Calls Tryz.prog 88 #[v, .agg t.cells.toArray] w fun e w' => e = .returned (.tuple #[.int .i64 (Sq.kindOf cols t).1, .bool (Sq.kindOf cols t).2]) ∧ Below w.heap.size w w' := by
  obtain ⟨tc, ⟨tk, tn, tt⟩⟩ := t
  unfold Sq.Term.cells
  have H := hd h
  clear h
  cases he : tc.toList.isEmpty
  · have HE : Hid (Sq.kindOf cols ⟨tc, ⟨tk, tn, tt⟩⟩ = Sq.columnKind cols tc) := by show _ = _; unfold Sq.kindOf; simp only; rw [he]; rfl
    go_enter Tryz.func88, Tryz.ntmps88
    go_wp2_with (go_at_call 86; refine (columnKind_any cols v tc _ (H.out.alloc _)).mono ?_; rintro e w' ⟨rfl, rfl⟩)
    go_ret2
    exact ⟨by rw [HE.out]; rfl, (Below.refl _ _).alloc (Nat.le_refl _) _⟩
  · have HE : Hid (Sq.kindOf cols ⟨tc, ⟨tk, tn, tt⟩⟩ = (tk, true)) := by show _ = _; unfold Sq.kindOf; simp only; rw [he]; rfl
    go_enter Tryz.func88, Tryz.ntmps88
    go_wp2
    go_ret2
    exact ⟨by rw [HE.out]; rfl, (Below.refl _ _).alloc (Nat.le_refl _) _⟩

end Go.Proofs.YtamkfbelpfpjcaaGreatDoor

namespace Go.Proofs.YtamkfbelpfpjcaaGreatDoor
open Go.RowKit

theorem Sq.checkValuesFrom_step (vals : List Sq.Val) (cols : List Sq.Col) (k : Nat) (h1 : k < vals.length) (h2 : k < cols.length) :
    Sq.checkValuesFrom (vals.drop k) (cols.drop k) = if vals[k].kind != cols[k].kind then 7 else Sq.checkValuesFrom (vals.drop (k + 1)) (cols.drop (k + 1)) := by
  rw [List.drop_eq_getElem_cons h1, List.drop_eq_getElem_cons h2, Sq.checkValuesFrom]

set_option maxRecDepth 100000 in
set_option maxHeartbeats 400000 in
theorem checkValues_any (cols : List Sq.Col) (vals : List Sq.Val) (cv vv : Value) (w : World) (h : ColsAt w cv cols) (hv : w.ownsRow 0 139 3 vv vals.length (vals.flatMap Sq.Val.cells)) (hn : vals.length ≤ 100000) :
    Calls Tryz.prog 47 #[cv, vv] w fun e w' => e = .returned (.int .i64 (Sq.checkValues cols vals)) ∧ Below w.heap.size w w' := by
  obtain ⟨ao, cap, rfl⟩ := ownsRow_slice h.1
  obtain ⟨bo, bap, rfl⟩ := ownsRow_slice hv
  have hl := h.2
  have H := hd h
  have HV := hd hv
  clear h hv
  cases hne : vals.length != cols.length
  case true =>
    have HE : Hid (Sq.checkValues cols vals = 6) := by show _ = _; unfold Sq.checkValues; rw [hne]; rfl
    have hne' : ((vals.length : Int) != (cols.length : Int)) = true := by rw [bne_iff_ne] at hne ⊢; omega
    clear hne
    go_enter Tryz.func47, Tryz.ntmps47
    go_wp2
    go_ret
    exact ⟨by rw [HE.out]; rfl, Below.refl _ _⟩
  case false =>
    have HE : Hid (Sq.checkValues cols vals = Sq.checkValuesFrom vals cols) := by show _ = _; unfold Sq.checkValues; rw [hne]; rfl
    have heq : Hid (vals.length = cols.length) := by show _ = _; simpa using hne
    have hne' : ((vals.length : Int) != (cols.length : Int)) = false := by rw [heq.out]; simp
    have hle : vals.length ≤ cols.length := by rw [heq.out]; omega
    clear hne
    go_enter Tryz.func47, Tryz.ntmps47
    go_wp2
    go_loopw [5] (fun i wr => ∃ k : Nat, k ≤ vals.length ∧ i = .int .i64 k ∧ (∃ n, wr = w.drewN n) ∧ Hid (Sq.checkValues cols vals = Sq.checkValuesFrom (vals.drop k) (cols.drop k))) (fun i _ => vals.length - (intOf i).toNat)
    case atStart => exact ⟨0, Nat.zero_le _, rfl, ⟨0, rfl⟩, HE⟩
    case round =>
      obtain ⟨k, hk, rfl, ⟨nd, rfl⟩, hr⟩ := hrel
      by_cases hlt : k < vals.length
      · obtain ⟨g, cap', hv1, hg, hc⟩ := sl_at (f := Sq.Val.cells) (fun _ => rfl) HV.out k hlt
        simp only [Value.slice.injEq] at hv1
        obtain ⟨rfl, -, rfl⟩ := hv1
        have c0 := hc 0 (.int .i64 vals[k].kind) (by decide) rfl
        simp only [Nat.add_zero] at c0
        have hlt2 : k < cols.length := by omega
        obtain ⟨g2, cap2, hv2, hg2, hc2⟩ := sl_at (f := Sq.Col.cells) (fun _ => rfl) H.out.1 k hlt2
        simp only [Value.slice.injEq] at hv2
        obtain ⟨rfl, -, rfl⟩ := hv2
        have c1 := hc2 1 (.int .i64 cols[k].kind) (by decide) rfl
        have HS := hd (Sq.checkValuesFrom_step vals cols k hlt hlt2)
        clear hc hc2
        cases he : vals[k].kind != cols[k].kind
        · have HR : Hid (Sq.checkValues cols vals = Sq.checkValuesFrom (vals.drop (k + 1)) (cols.drop (k + 1))) := by show _ = _; rw [hr.out, HS.out, he]; rfl
          clear hr HS
          go_wp2
          go_quiet (fail)
          go_wp2
          go_roundw
          case rel => exact ⟨k + 1, by omega, by go_num, ⟨_, rfl⟩, HR⟩
          case measure => simp [intOf]; omega
        · have HR : Hid (Sq.checkValues cols vals = 7) := by show _ = _; rw [hr.out, HS.out, he]; rfl
          clear hr HS
          go_wp2
          go_quiet (fail)
          go_wp2
          go_ret
          exact ⟨by rw [HR.out]; rfl, by first | exact below_drewN (Below.refl _ _) _ | exact below_drewN (below_drewN (Below.refl _ _) _) _⟩
      · have HR : Hid (Sq.checkValues cols vals = 0) := by show _ = _; rw [hr.out, List.drop_eq_nil_of_le (by omega)]; rfl
        clear hr
        go_wp2
        go_ret
        exact ⟨by rw [HR.out]; rfl, below_drewN (Below.refl _ _) _⟩

set_option maxRecDepth 100000 in
set_option maxHeartbeats 1000000 in
theorem checkSum_any (cols : List Sq.Col) (v : Value) (k : Int) (s : Sq.SetS) (w : World) (h : ColsAt w v cols) :
    Calls Tryz.prog 130 #[v, .int .i64 k, .agg s.cells.toArray] w fun e w' => e = .returned (.int .i64 (Sq.checkSum cols k s)) ∧ Below w.heap.size w w' := by
  have hE : Sq.checkSum cols k s = if !(Sq.kindOf cols s.first).2 then 4 else if (Sq.kindOf cols s.first).1 != k then 7 else if s.sign.toList.isEmpty then 0 else if !(Sq.kindOf cols s.second).2 then 4 else if (Sq.kindOf cols s.first).1 == 1 || (Sq.kindOf cols s.second).1 == 1 then 7 else 0 := rfl
  have HE := hd hE
  clear hE
  obtain ⟨sc, ⟨fc, ⟨fk, fn, ft⟩⟩, sg, ⟨rc, ⟨rk, rn, rt⟩⟩⟩ := s
  obtain ⟨k1, hk1⟩ : ∃ x, x = Sq.kindOf cols ⟨fc, ⟨fk, fn, ft⟩⟩ := ⟨_, rfl⟩
  obtain ⟨k2, hk2⟩ : ∃ x, x = Sq.kindOf cols ⟨rc, ⟨rk, rn, rt⟩⟩ := ⟨_, rfl⟩
  have hE := HE.out
  simp only [← hk1, ← hk2] at hE
  have HE := hd hE
  clear hE
  have HK1 := hd hk1
  have HK2 := hd hk2
  clear hk1 hk2
  unfold Sq.SetS.cells
  have H := hd h
  clear h
  have hW : ∀ o, Below w.heap.size w (w.alloc o) := fun o => (Below.refl _ _).alloc (Nat.le_refl _) _
  have HW := hd hW
  clear hW
  go_enter Tryz.func130, Tryz.ntmps130
  go_wp2_with fail
  refine (kindOf_any cols v ⟨fc, ⟨fk, fn, ft⟩⟩ _ (H.out.alloc _)).mono ?_
  rintro e w1 ⟨rfl, hb1⟩
  rw [← HK1.out]
  have hbw : Below w.heap.size w w1 := (HW.out _).trans (hb1.mono (by simp))
  obtain ⟨q1, q2⟩ := bcell hb1
  have a5 := q1 w.heap.size 5 (by simp)
  have a6 := q1 w.heap.size 6 (by simp)
  have a7 := q1 w.heap.size 7 (by simp)
  have a8 := q1 w.heap.size 8 (by simp)
  have a9 := q1 w.heap.size 9 (by simp)
  simp [go_sem] at a5 a6 a7 a8 a9
  have HB1 := hd hb1
  clear q1 q2 hb1
  obtain ⟨k1a, k1b⟩ := k1
  obtain ⟨k2a, k2b⟩ := k2
  have hE := HE.out
  simp only at hE
  have HE := hd hE
  clear hE
  cases k1b
  case false =>
    go_wp2
    go_ret
    exact ⟨by rw [HE.out]; rfl, hbw⟩
  cases hkk : k1a != k
  case true =>
    go_wp2
    go_ret
    exact ⟨by rw [HE.out, hkk]; rfl, hbw⟩
  cases hsg : sg.toList.isEmpty
  case true =>
    go_wp2
    go_ret
    exact ⟨by rw [HE.out, hkk, hsg]; rfl, hbw⟩
  go_wp2_with fail
  refine (kindOf_any cols v ⟨rc, ⟨rk, rn, rt⟩⟩ _ (H.out.below hbw)).mono ?_
  rintro e w2 ⟨rfl, hb2⟩
  rw [← HK2.out]
  have hbw2 : Below w.heap.size w w2 := hbw.trans (hb2.mono hbw.size)
  clear hb2
  cases k2b
  case false =>
    go_wp2
    go_ret
    exact ⟨by rw [HE.out, hkk, hsg]; rfl, hbw2⟩
  cases h1 : k1a == 1
  case true =>
    go_wp2
    go_ret
    exact ⟨by rw [HE.out, hkk, hsg, h1]; rfl, hbw2⟩
  cases h2 : k2a == 1
  case true =>
    go_wp2
    go_ret
    exact ⟨by rw [HE.out, hkk, hsg, h1, h2]; rfl, hbw2⟩
  case false =>
    go_wp2
    go_ret
    exact ⟨by rw [HE.out, hkk, hsg, h1, h2]; rfl, hbw2⟩

end Go.Proofs.YtamkfbelpfpjcaaGreatDoor

namespace Go.Proofs.YtamkfbelpfpjcaaGreatDoor
open Go.RowKit

theorem Sq.setBefore_step (sets : List Sq.SetS) (n : ByteArray) (k : Nat) (h : k < sets.length) : Sq.setBefore (sets.drop k) n = (sets[k].column.toList == n.toList || Sq.setBefore (sets.drop (k + 1)) n) := by
  rw [List.drop_eq_getElem_cons h]; rfl

/-- Assignments in memory. -/
def SetsAt (w : World) (v : Value) (sets : List Sq.SetS) : Prop := w.ownsRow 0 144 10 v sets.length (sets.flatMap Sq.SetS.cells) ∧ sets.length ≤ 100000
theorem SetsAt.below {w w' : World} {v : Value} {l : List Sq.SetS} (h : SetsAt w v l) (hb : Below w.heap.size w w') : SetsAt w' v l := ⟨ownsRow_below h.1 hb, h.2⟩

set_option maxRecDepth 100000 in
set_option maxHeartbeats 1000000 in
theorem checkSet_any (cols : List Sq.Col) (earlier : List Sq.SetS) (cv ev : Value) (s : Sq.SetS) (w : World) (h : ColsAt w cv cols) (he : SetsAt w ev earlier) :
    Calls Tryz.prog 85 #[cv, ev, .agg s.cells.toArray] w fun e w' => e = .returned (.int .i64 (Sq.checkSet cols earlier s)) ∧ Below w.heap.size w w' := by
  obtain ⟨ao, cap, rfl⟩ := ownsRow_slice h.1
  obtain ⟨bo, bap, rfl⟩ := ownsRow_slice he.1
  have hl := h.2
  have hle := he.2
  have hE : Sq.checkSet cols earlier s = match cols[(Sq.find cols s.column).toNat]? with | some c => if Sq.find cols s.column < 0 then 4 else if Sq.find cols s.column == 0 then 8 else if Sq.setBefore earlier s.column then 5 else Sq.checkSum cols c.kind s | none => 4 := rfl
  have HE := hd hE
  clear hE
  obtain ⟨S, hS⟩ : ∃ x, x = s := ⟨_, rfl⟩
  have HS := hd hS
  clear hS
  obtain ⟨sc, ⟨fc, ⟨fk, fn, ft⟩⟩, sg, ⟨rc, ⟨rk, rn, rt⟩⟩⟩ := s
  unfold Sq.SetS.cells
  have H := hd h
  have HEa := hd he
  clear h he
  have hW : ∀ o, Below w.heap.size w (w.alloc o) := fun o => (Below.refl _ _).alloc (Nat.le_refl _) _
  have HW := hd hW
  clear hW
  rcases Sq.find_cases cols sc with hf | ⟨k, hk, hf⟩
  · have hE := HE.out
    simp only at hE
    rw [hf] at hE
    have HE4 : Hid (Sq.checkSet cols earlier ⟨sc, ⟨fc, ⟨fk, fn, ft⟩⟩, sg, ⟨rc, ⟨rk, rn, rt⟩⟩⟩ = 4) := by show _ = _; rw [hE]; split <;> rfl
    have HF := hd hf
    clear hf hE
    go_enter Tryz.func85, Tryz.ntmps85
    go_wp2_with (go_at_call 84; refine (Find_any cols _ sc _ (H.out.alloc _).1 hl).mono ?_; rintro e w' ⟨rfl, rfl⟩; rw [HF.out])
    go_ret
    exact ⟨by rw [HE4.out]; rfl, HW.out _⟩
  have hE := HE.out
  simp only at hE
  rw [hf, Int.toNat_natCast, List.getElem?_eq_getElem hk] at hE
  simp only at hE
  rw [if_neg (by omega)] at hE
  have HEk := hd hE
  have HF := hd hf
  clear hf hE
  by_cases hk0 : k = 0
  · subst hk0
    have hnn : ¬ cols = [] := by intro h; rw [h] at hk; simp at hk
    have HE8 : Hid (Sq.checkSet cols earlier ⟨sc, ⟨fc, ⟨fk, fn, ft⟩⟩, sg, ⟨rc, ⟨rk, rn, rt⟩⟩⟩ = 8) := by show _ = _; rw [HEk.out]; rfl
    go_enter Tryz.func85, Tryz.ntmps85
    go_wp2_with (go_at_call 84; refine (Find_any cols _ sc _ (H.out.alloc _).1 hl).mono ?_; rintro e w' ⟨rfl, rfl⟩; rw [HF.out])
    go_ret
    exact ⟨by rw [HE8.out]; rfl, HW.out _⟩
  have hk1 : 0 < k := by omega
  have HE5 : Hid (Sq.checkSet cols earlier ⟨sc, ⟨fc, ⟨fk, fn, ft⟩⟩, sg, ⟨rc, ⟨rk, rn, rt⟩⟩⟩ = if Sq.setBefore earlier sc then 5 else Sq.checkSum cols cols[k].kind ⟨sc, ⟨fc, ⟨fk, fn, ft⟩⟩, sg, ⟨rc, ⟨rk, rn, rt⟩⟩⟩) := by
    show _ = _
    rw [HEk.out]
    have : ((k : Int) == 0) = false := by simp; omega
    rw [this]
    rfl
  obtain ⟨g, cap', hv, hg, hc⟩ := sl_at (f := Sq.Col.cells) (fun _ => rfl) H.out.1 k hk
  simp only [Value.slice.injEq] at hv
  obtain ⟨rfl, -, rfl⟩ := hv
  have c1 := hc 1 (.int .i64 cols[k].kind) (by decide) rfl
  clear hc hk0
  go_enter Tryz.func85, Tryz.ntmps85
  go_wp2_with (go_at_call 84; refine (Find_any cols _ sc _ (H.out.alloc _).1 hl).mono ?_; rintro e w' ⟨rfl, rfl⟩; rw [HF.out])
  go_loopw [8] (fun i wr => ∃ j : Nat, j ≤ earlier.length ∧ i = .int .i64 j ∧ (∃ n, wr = (w.alloc (.cells #[.string sc, .string fc, .int .i64 fk, .int .i64 fn, .string ft, .string sg, .string rc, .int .i64 rk, .int .i64 rn, .string rt] 144)).drewN n) ∧ Hid (Sq.setBefore earlier sc = Sq.setBefore (earlier.drop j) sc)) (fun i _ => earlier.length - (intOf i).toNat)
  case atStart => exact ⟨0, Nat.zero_le _, rfl, ⟨0, rfl⟩, rfl⟩
  case round =>
    obtain ⟨j, hj, rfl, ⟨nd, rfl⟩, hr⟩ := hrel
    by_cases hlt : j < earlier.length
    · obtain ⟨g2, cap2, hv2, hg2, hc2⟩ := sl_at (f := Sq.SetS.cells) (fun _ => rfl) HEa.out.1 j hlt
      simp only [Value.slice.injEq] at hv2
      obtain ⟨rfl, -, rfl⟩ := hv2
      have c0 := hc2 0 (.string earlier[j].column) (by decide) rfl
      simp only [Nat.add_zero] at c0
      have HST := hd (Sq.setBefore_step earlier sc j hlt)
      clear hc2
      cases hq : earlier[j].column.toList == sc.toList
      · have HR : Hid (Sq.setBefore earlier sc = Sq.setBefore (earlier.drop (j + 1)) sc) := by show _ = _; rw [hr.out, HST.out, hq]; rfl
        clear hr HST
        go_wp2
        go_quiet (fail)
        go_wp2
        go_roundw
        case rel => exact ⟨j + 1, by omega, by go_num, ⟨_, rfl⟩, HR⟩
        case measure => simp [intOf]; omega
      · have HR : Hid (Sq.setBefore earlier sc = true) := by show _ = _; rw [hr.out, HST.out, hq]; rfl
        clear hr HST
        go_wp2
        go_quiet (fail)
        go_wp2
        go_ret
        exact ⟨by rw [HE5.out, HR.out]; rfl, below_drewN (below_drewN (HW.out _) _) _⟩
    · have HR : Hid (Sq.setBefore earlier sc = false) := by show _ = _; rw [hr.out, List.drop_eq_nil_of_le (by omega)]; rfl
      clear hr
      go_wp2
      go_region_with (go_at_call 130; refine (checkSum_any cols _ _ ⟨sc, ⟨fc, ⟨fk, fn, ft⟩⟩, sg, ⟨rc, ⟨rk, rn, rt⟩⟩⟩ _ (H.out.below (by exact below_drewN (HW.out _) _))).mono ?_; rintro e w5 ⟨rfl, hb5⟩)
      all_goals
        go_wp2
        go_ret
        exact ⟨by rw [HE5.out, HR.out]; rfl, (below_drewN (HW.out _) _).trans (Below.mono (B' := w.heap.size) hb5 (by simp))⟩


/-- The first assignments of a slice. -/
theorem take_sets {w : World} {sets : List Sq.SetS} {ao : Option Addr} {cap : Nat} (h : SetsAt w (.slice ao sets.length cap) sets) (k : Nat) (hk : k < sets.length) : SetsAt w (.slice ao k cap) (sets.take k) := by
  have hl : (sets.take k).length = k := by simp; omega
  refine ⟨?_, by rw [hl]; have := h.2; omega⟩
  rw [hl]
  rcases h.1.2 with ⟨h1, h2⟩ | ⟨g, cap', cur, h1, hg, hh, hn, hm, hc, ht⟩
  · omega
  · simp only [Value.slice.injEq] at h1
    obtain ⟨rfl, -, rfl⟩ := h1
    refine ⟨by rw [Sq.flat_length Sq.SetS.cells 10 (fun _ => rfl), hl], Or.inr ⟨g, cap, cur, rfl, hg, hh, by omega, hm, hc, ?_⟩⟩
    have e1 : (sets.take k).flatMap Sq.SetS.cells = (sets.flatMap Sq.SetS.cells).take (k * 10) := by
      conv => rhs; rw [← List.take_append_drop k sets, List.flatMap_append]
      rw [List.take_left' (by rw [Sq.flat_length Sq.SetS.cells 10 (fun _ => rfl), hl])]
    rw [e1, ← ht, List.take_take]
    congr 1
    omega

theorem Sq.checkSetsFrom_step (cols : List Sq.Col) (sets : List Sq.SetS) (k : Nat) (h : k < sets.length) : Sq.checkSetsFrom cols (sets.take k) (sets.drop k) = if Sq.checkSet cols (sets.take k) sets[k] != 0 then Sq.checkSet cols (sets.take k) sets[k] else Sq.checkSetsFrom cols (sets.take (k + 1)) (sets.drop (k + 1)) := by
  conv => lhs; rw [List.drop_eq_getElem_cons h]
  rw [Sq.checkSetsFrom, List.take_succ_eq_append_getElem h]

end Go.Proofs.YtamkfbelpfpjcaaGreatDoor

namespace Go.Proofs.YtamkfbelpfpjcaaGreatDoor
open Go.RowKit

set_option maxRecDepth 100000 in
set_option maxHeartbeats 1000000 in
theorem checkSets_any (cols : List Sq.Col) (sets : List Sq.SetS) (cv sv : Value) (w : World) (h : ColsAt w cv cols) (hs : SetsAt w sv sets) :
    Calls Tryz.prog 48 #[cv, sv] w fun e w' => e = .returned (.int .i64 (Sq.checkSets cols sets)) ∧ Below w.heap.size w w' := by
  obtain ⟨bo, bap, rfl⟩ := ownsRow_slice hs.1
  have hl := hs.2
  have H := hd h
  have HS := hd hs
  have hcap : sets.length ≤ bap := by
    rcases hs.1.2 with ⟨h1, h2⟩ | ⟨g, cap', cur, h1, hg, hh, hn, _⟩
    · simp only [Value.slice.injEq] at h1; omega
    · simp only [Value.slice.injEq] at h1
      obtain ⟨-, -, rfl⟩ := h1
      exact hn
  have hcm : bap ≤ 9223372036854775807 := by
    rcases hs.1.2 with ⟨h1, h2⟩ | ⟨g, cap', cur, h1, hg, hh, hn, hm, _⟩
    · simp only [Value.slice.injEq] at h1; omega
    · simp only [Value.slice.injEq] at h1
      obtain ⟨-, -, rfl⟩ := h1
      exact hm
  clear h hs
  go_enter Tryz.func48, Tryz.ntmps48
  go_wp2
  go_loopw [5] (fun i wr => ∃ k : Nat, k ≤ sets.length ∧ i = .int .i64 k ∧ Below w.heap.size w wr ∧ Hid (Sq.checkSets cols sets = Sq.checkSetsFrom cols (sets.take k) (sets.drop k))) (fun i _ => sets.length - (intOf i).toNat)
  case atStart => exact ⟨0, Nat.zero_le _, rfl, Below.refl _ _, rfl⟩
  case round =>
    obtain ⟨k, hk, rfl, hb, hr⟩ := hrel
    by_cases hlt : k < sets.length
    · have HSW := hd (HS.out.below hb)
      obtain ⟨g, cap', hv, hg, hc⟩ := sl_at (f := Sq.SetS.cells) (fun _ => rfl) HSW.out.1 k hlt
      simp only [Value.slice.injEq] at hv
      obtain ⟨rfl, -, rfl⟩ := hv
      obtain ⟨x, hx⟩ : ∃ x, x = sets[k] := ⟨_, rfl⟩
      rw [← hx] at hc
      have HST := hd (Sq.checkSetsFrom_step cols sets k hlt)
      have HX := hd hx
      clear hx
      obtain ⟨sc, ⟨fc, ⟨fk, fn, ft⟩⟩, sg, ⟨rc, ⟨rk, rn, rt⟩⟩⟩ := x
      have c0 := hc 0 _ (by decide) rfl
      have c1 := hc 1 _ (by decide) rfl
      have c2 := hc 2 _ (by decide) rfl
      have c3 := hc 3 _ (by decide) rfl
      have c4 := hc 4 _ (by decide) rfl
      have c5 := hc 5 _ (by decide) rfl
      have c6 := hc 6 _ (by decide) rfl
      have c7 := hc 7 _ (by decide) rfl
      have c8 := hc 8 _ (by decide) rfl
      have c9 := hc 9 _ (by decide) rfl
      simp only [Nat.add_zero] at c0
      have hkb : k ≤ bap := by omega
      have HT := hd (take_sets (HS.out.below hb.drew) k hlt)
      have HCW := hd (H.out.below hb.drew)
      clear hc
      go_wp2
      go_region_with (go_at_call 85; refine (checkSet_any cols (sets.take k) cv _ ⟨sc, ⟨fc, ⟨fk, fn, ft⟩⟩, sg, ⟨rc, ⟨rk, rn, rt⟩⟩⟩ _ HCW.out HT.out).mono ?_; rintro e w5 ⟨rfl, hb5⟩)
      all_goals
        obtain ⟨er, her⟩ : ∃ x, x = Sq.checkSet cols (sets.take k) ⟨sc, ⟨fc, ⟨fk, fn, ft⟩⟩, sg, ⟨rc, ⟨rk, rn, rt⟩⟩⟩ := ⟨_, rfl⟩
        rw [← her]
        have hbw : Below w.heap.size w w5 := hb.drew.trans (Below.mono (B' := w.heap.size) hb5 hb.size)
        have hst := HST.out
        rw [← HX.out, ← her] at hst
        have HST2 := hd hst
        clear hst her HST hb5 c0 c1 c2 c3 c4 c5 c6 c7 c8 c9
        cases hz : er != 0
        · have HR : Hid (Sq.checkSets cols sets = Sq.checkSetsFrom cols (sets.take (k + 1)) (sets.drop (k + 1))) := by show _ = _; rw [hr.out, HST2.out, hz]; rfl
          clear hr HST2
          go_wp2
          go_roundw
          case rel => exact ⟨k + 1, by omega, by go_num, hbw, HR⟩
          case measure => simp [intOf]; omega
        · have HR : Hid (Sq.checkSets cols sets = er) := by show _ = _; rw [hr.out, HST2.out, hz]; rfl
          clear hr HST2
          go_wp2
          go_ret
          exact ⟨by rw [HR.out]; rfl, hbw⟩
    · have HR : Hid (Sq.checkSets cols sets = 0) := by show _ = _; rw [hr.out, List.drop_eq_nil_of_le (by omega)]; unfold Sq.checkSetsFrom; rfl
      clear hr
      go_wp2
      go_ret
      exact ⟨by rw [HR.out]; rfl, hb⟩


theorem Sq.checkItems_step (cols : List Sq.Col) (shw : Int) (l : List ByteArray) (k : Nat) (h : k < l.length) : Sq.checkItemsFrom cols shw (l.drop k) = if !(Sq.columnKind cols l[k]).2 then 4 else if shw == 3 && (Sq.columnKind cols l[k]).1 == 1 then 7 else Sq.checkItemsFrom cols shw (l.drop (k + 1)) := by
  rw [List.drop_eq_getElem_cons h, Sq.checkItemsFrom]

/-- Names in memory. -/
def StrsAt (w : World) (v : Value) (l : List ByteArray) : Prop := w.ownsRow 0 9 1 v l.length (l.map Value.string) ∧ l.length ≤ 100000
theorem StrsAt.below {w w' : World} {v : Value} {l : List ByteArray} (h : StrsAt w v l) (hb : Below w.heap.size w w') : StrsAt w' v l := ⟨ownsRow_below h.1 hb, h.2⟩
theorem StrsAt.at {w : World} {v : Value} {l : List ByteArray} (h : StrsAt w v l) (k : Nat) (hk : k < l.length) : ∃ g cap, v = .slice (some ⟨g, 0, none⟩) l.length cap ∧ g < w.heap.size ∧ w.cell? ⟨g, k, none⟩ = some (.string l[k]) := by
  obtain ⟨g, cap, rfl, _, hlt⟩ := h.1.form (by omega)
  refine ⟨g, cap, rfl, hlt, ?_⟩
  have := h.1.cells (g := g) rfl k (.string l[k]) (by simp [hk])
  rwa [show (⟨g, 0, none⟩ : Addr).add k = ⟨g, k, none⟩ from by unfold Addr.add; split <;> simp_all] at this

/-- A statement in memory, whole. -/
structure StmAt (w : World) (st : Sq.PSt) (r : Rw) : Prop where
  cols : ColsAt w r.cv st.cols
  vals : w.ownsRow 0 139 3 r.vv st.vals.length (st.vals.flatMap Sq.Val.cells)
  nvals : st.vals.length ≤ 100000
  sets : SetsAt w r.sv st.sets
  items : StrsAt w r.iv st.items
  wher : w.ownsRow 0 148 9 r.wv st.wher.length (st.wher.flatMap Sq.StepS.cells)
  nwher : st.wher.length ≤ 100000
theorem StmAt.below {w w' : World} {st : Sq.PSt} {r : Rw} (h : StmAt w st r) (hb : Below w.heap.size w w') : StmAt w' st r :=
  ⟨h.cols.below hb, ownsRow_below h.vals hb, h.nvals, h.sets.below hb, h.items.below hb, ownsRow_below h.wher hb, h.nwher⟩

set_option maxRecDepth 100000 in
set_option maxHeartbeats 1000000 in
theorem checkItems_any (cols : List Sq.Col) (cv : Value) (st : Sq.PSt) (r : Rw) (w : World) (h : ColsAt w cv cols) (hs : StmAt w st r) :
    Calls Tryz.prog 49 #[cv, .agg (stmCells st r)] w fun e w' => e = .returned (.int .i64 (Sq.checkItemsFrom cols st.shw st.items)) ∧ Below w.heap.size w w' := by
  obtain ⟨cvx, vvx, svx, ivx, wvx⟩ := r
  obtain ⟨q5, c5, hcv⟩ := ownsRow_slice hs.cols.1
  obtain ⟨q6, c6, hvv⟩ := ownsRow_slice hs.vals
  obtain ⟨q7, c7, hsv⟩ := ownsRow_slice hs.sets.1
  obtain ⟨q9, c9, hiv⟩ := ownsRow_slice hs.items.1
  obtain ⟨q10, c10, hwv⟩ := ownsRow_slice hs.wher
  dsimp only at hcv hvv hsv hiv hwv
  subst hcv hvv hsv hiv hwv
  unfold stmCells
  have hl := hs.items.2
  have H := hd h
  have HS := hd hs
  clear h hs
  go_enter Tryz.func49, Tryz.ntmps49
  go_wp2
  go_loop [5] (fun i => ∃ k : Nat, k ≤ st.items.length ∧ i = .int .i64 k ∧ Hid (Sq.checkItemsFrom cols st.shw st.items = Sq.checkItemsFrom cols st.shw (st.items.drop k))) (fun i => st.items.length - (intOf i).toNat)
  case atStart => exact ⟨0, Nat.zero_le _, rfl, rfl⟩
  case round =>
    obtain ⟨k, hk, rfl, hr⟩ := hrel
    by_cases hlt : k < st.items.length
    · obtain ⟨g, cap', hv, hg, c0⟩ := HS.out.items.at k hlt
      simp only [Value.slice.injEq] at hv
      obtain ⟨rfl, -, rfl⟩ := hv
      have HST := hd (Sq.checkItems_step cols st.shw st.items k hlt)
      obtain ⟨kd, hkd⟩ : ∃ x, x = Sq.columnKind cols st.items[k] := ⟨_, rfl⟩
      have hst := HST.out
      rw [← hkd] at hst
      have HST2 := hd hst
      have HKD := hd hkd
      clear hst hkd HST
      obtain ⟨ka, kb⟩ := kd
      cases kb
      case false =>
        have HR : Hid (Sq.checkItemsFrom cols st.shw st.items = 4) := by show _ = _; rw [hr.out, HST2.out]; rfl
        go_wp2_with (go_at_call 86; refine (columnKind_any cols cv _ _ (H.out.alloc _)).mono ?_; rintro e w' ⟨rfl, rfl⟩; rw [← HKD.out])
        go_ret
        exact ⟨by rw [HR.out]; rfl, (Below.refl _ _).alloc (Nat.le_refl _) _⟩
      cases h3 : st.shw == 3
      case false =>
        have HR : Hid (Sq.checkItemsFrom cols st.shw st.items = Sq.checkItemsFrom cols st.shw (st.items.drop (k + 1))) := by show _ = _; rw [hr.out, HST2.out, h3]; rfl
        clear hr HST2
        go_wp2_with (go_at_call 86; refine (columnKind_any cols cv _ _ (H.out.alloc _)).mono ?_; rintro e w' ⟨rfl, rfl⟩; rw [← HKD.out])
        go_round
        case rel => exact ⟨k + 1, by omega, by go_num, HR⟩
        case measure => simp [intOf]; omega
      cases h1 : ka == 1
      case false =>
        have HR : Hid (Sq.checkItemsFrom cols st.shw st.items = Sq.checkItemsFrom cols st.shw (st.items.drop (k + 1))) := by show _ = _; rw [hr.out, HST2.out, h3]; simp only [h1]; rfl
        clear hr HST2
        go_wp2_with (go_at_call 86; refine (columnKind_any cols cv _ _ (H.out.alloc _)).mono ?_; rintro e w' ⟨rfl, rfl⟩; rw [← HKD.out])
        go_round
        case rel => exact ⟨k + 1, by omega, by go_num, HR⟩
        case measure => simp [intOf]; omega
      case true =>
        have HR : Hid (Sq.checkItemsFrom cols st.shw st.items = 7) := by show _ = _; rw [hr.out, HST2.out, h3]; simp only [h1]; rfl
        go_wp2_with (go_at_call 86; refine (columnKind_any cols cv _ _ (H.out.alloc _)).mono ?_; rintro e w' ⟨rfl, rfl⟩; rw [← HKD.out])
        go_ret
        exact ⟨by rw [HR.out]; rfl, (Below.refl _ _).alloc (Nat.le_refl _) _⟩
    · have HR : Hid (Sq.checkItemsFrom cols st.shw st.items = 0) := by show _ = _; rw [hr.out, List.drop_eq_nil_of_le (by omega)]; rfl
      clear hr
      go_wp2
      go_ret
      exact ⟨by rw [HR.out]; rfl, (Below.refl _ _).alloc (Nat.le_refl _) _⟩

end Go.Proofs.YtamkfbelpfpjcaaGreatDoor

namespace Go.Proofs.YtamkfbelpfpjcaaGreatDoor
open Go.RowKit

set_option maxRecDepth 100000 in
set_option maxHeartbeats 400000 in
theorem Compares_any (s : Sq.StepS) (w : World) :
    Calls Tryz.prog 87 #[.agg s.cells.toArray] w fun e w' => e = .returned (.bool (Sq.isComparison s.op)) ∧ Below w.heap.size w w' := by
  obtain ⟨op, ⟨lc, ⟨lk, ln, lt⟩⟩, ⟨rc, ⟨rk, rn, rt⟩⟩⟩ := s
  unfold Sq.StepS.cells
  go_enter Tryz.func87, Tryz.ntmps87
  go_wp2_with (go_at_call 131; refine (isComparison_any _ _).mono ?_; rintro e w' ⟨rfl, rfl⟩)
  go_ret
  exact ⟨rfl, (Below.refl _ _).alloc (Nat.le_refl _) _⟩

theorem Sq.checkWhere_step (cols : List Sq.Col) (l : List Sq.StepS) (k : Nat) (h : k < l.length) : Sq.checkWhereFrom cols (l.drop k) = if !Sq.isComparison l[k].op then Sq.checkWhereFrom cols (l.drop (k + 1)) else if !(Sq.kindOf cols l[k].left).2 then 4 else if !(Sq.kindOf cols l[k].right).2 then 4 else if (Sq.kindOf cols l[k].left).1 != (Sq.kindOf cols l[k].right).1 then 7 else Sq.checkWhereFrom cols (l.drop (k + 1)) := by
  rw [List.drop_eq_getElem_cons h, Sq.checkWhereFrom]

/-- Steps in memory. -/
def StepsAt (w : World) (v : Value) (l : List Sq.StepS) : Prop := w.ownsRow 0 148 9 v l.length (l.flatMap Sq.StepS.cells) ∧ l.length ≤ 100000
theorem StepsAt.below {w w' : World} {v : Value} {l : List Sq.StepS} (h : StepsAt w v l) (hb : Below w.heap.size w w') : StepsAt w' v l := ⟨ownsRow_below h.1 hb, h.2⟩
theorem StmAt.steps {w : World} {st : Sq.PSt} {r : Rw} (h : StmAt w st r) : StepsAt w r.wv st.wher := ⟨h.wher, h.nwher⟩

set_option maxRecDepth 100000 in
set_option maxHeartbeats 1000000 in
theorem checkWhere_any (cols : List Sq.Col) (l : List Sq.StepS) (cv sv : Value) (w : World) (h : ColsAt w cv cols) (hs : StepsAt w sv l) :
    Calls Tryz.prog 50 #[cv, sv] w fun e w' => e = .returned (.int .i64 (Sq.checkWhereFrom cols l)) ∧ Below w.heap.size w w' := by
  obtain ⟨bo, bap, rfl⟩ := ownsRow_slice hs.1
  have hl := hs.2
  have H := hd h
  have HS := hd hs
  clear h hs
  go_enter Tryz.func50, Tryz.ntmps50
  go_wp2
  go_loopw [5] (fun i wr => ∃ k : Nat, k ≤ l.length ∧ i = .int .i64 k ∧ Below w.heap.size w wr ∧ Hid (Sq.checkWhereFrom cols l = Sq.checkWhereFrom cols (l.drop k))) (fun i _ => l.length - (intOf i).toNat)
  case atStart => exact ⟨0, Nat.zero_le _, rfl, Below.refl _ _, rfl⟩
  case round =>
    obtain ⟨k, hk, rfl, hb, hr⟩ := hrel
    by_cases hlt : k < l.length
    · obtain ⟨x, hx⟩ : ∃ x, x = l[k] := ⟨_, rfl⟩
      have HX := hd hx
      have cells : ∀ W, Below w.heap.size w W → ∃ g, bo = some ⟨g, 0, none⟩ ∧ g < W.heap.size ∧ ∀ j u, j < 9 → x.cells[j]? = some u → W.cell? ⟨g, k * 9 + j, none⟩ = some u := by
        intro W hW
        obtain ⟨g, cap', hv, hg, hc⟩ := sl_at (f := Sq.StepS.cells) (fun _ => rfl) (HS.out.below hW).1 k hlt
        simp only [Value.slice.injEq] at hv
        exact ⟨g, hv.1, hg, by rw [hx]; exact hc⟩
      have HC := hd cells
      have HST := hd (Sq.checkWhere_step cols l k hlt)
      have hst := HST.out
      rw [← hx] at hst
      have HST2 := hd hst
      clear hst HST cells hx
      obtain ⟨g, hbo, hg, hc⟩ := HC.out wr hb
      subst hbo
      obtain ⟨op, ⟨lc, ⟨lk, ln, lt⟩⟩, ⟨rc, ⟨rk, rn, rt⟩⟩⟩ := x
      have c0 := hc 0 _ (by decide) rfl
      have c1 := hc 1 _ (by decide) rfl
      have c2 := hc 2 _ (by decide) rfl
      have c3 := hc 3 _ (by decide) rfl
      have c4 := hc 4 _ (by decide) rfl
      have c5 := hc 5 _ (by decide) rfl
      have c6 := hc 6 _ (by decide) rfl
      have c7 := hc 7 _ (by decide) rfl
      have c8 := hc 8 _ (by decide) rfl
      simp only [Nat.add_zero] at c0
      clear hc
      go_wp2_with fail
      refine (Compares_any ⟨op, ⟨lc, ⟨lk, ln, lt⟩⟩, ⟨rc, ⟨rk, rn, rt⟩⟩⟩ _).mono ?_
      rintro e w1 ⟨rfl, hb1⟩
      have hbw1 : Below w.heap.size w w1 := hb.trans (hb1.mono hb.size)
      clear hb1 c0 c1 c2 c3 c4 c5 c6 c7 c8
      obtain ⟨g', hg', hg1, hc⟩ := HC.out w1 hbw1
      have hgg : g = g' := by simpa using hg'
      subst hgg
      have c1 := hc 1 _ (by decide) rfl
      have c2 := hc 2 _ (by decide) rfl
      have c3 := hc 3 _ (by decide) rfl
      have c4 := hc 4 _ (by decide) rfl
      clear hc hg'
      have hst := HST2.out
      obtain ⟨k1, hk1⟩ : ∃ x, x = Sq.kindOf cols ⟨lc, ⟨lk, ln, lt⟩⟩ := ⟨_, rfl⟩
      obtain ⟨k2, hk2⟩ : ∃ x, x = Sq.kindOf cols ⟨rc, ⟨rk, rn, rt⟩⟩ := ⟨_, rfl⟩
      rw [← hk1, ← hk2] at hst
      have HST3 := hd hst
      have HK1 := hd hk1
      have HK2 := hd hk2
      clear hst HST2 hk1 hk2
      cases hc : Sq.isComparison op
      case false =>
        have HR : Hid (Sq.checkWhereFrom cols l = Sq.checkWhereFrom cols (l.drop (k + 1))) := by show _ = _; rw [hr.out, HST3.out, hc]; rfl
        clear hr HST3
        go_wp2
        go_roundw
        case rel => exact ⟨k + 1, by omega, by go_num, hbw1, HR⟩
        case measure => simp [intOf]; omega
      go_wp2_with fail
      refine (kindOf_any cols cv ⟨lc, ⟨lk, ln, lt⟩⟩ _ (H.out.below hbw1)).mono ?_
      rintro e w2 ⟨rfl, hb2⟩
      rw [← HK1.out]
      have hbw2 : Below w.heap.size w w2 := hbw1.trans (hb2.mono hbw1.size)
      clear hb2 c1 c2 c3 c4
      obtain ⟨g', hg', hg2, hc9⟩ := HC.out w2 hbw2
      have hgg : g = g' := by simpa using hg'
      subst hgg
      have c5 := hc9 5 _ (by decide) rfl
      have c6 := hc9 6 _ (by decide) rfl
      have c7 := hc9 7 _ (by decide) rfl
      have c8 := hc9 8 _ (by decide) rfl
      clear hc9 hg'
      obtain ⟨k1a, k1b⟩ := k1
      obtain ⟨k2a, k2b⟩ := k2
      cases k1b
      case false =>
        have HR : Hid (Sq.checkWhereFrom cols l = 4) := by show _ = _; rw [hr.out, HST3.out, hc]; rfl
        go_wp2
        go_ret
        exact ⟨by rw [HR.out]; rfl, hbw2⟩
      go_wp2_with fail
      refine (kindOf_any cols cv ⟨rc, ⟨rk, rn, rt⟩⟩ _ (H.out.below hbw2)).mono ?_
      rintro e w3 ⟨rfl, hb3⟩
      rw [← HK2.out]
      have hbw3 : Below w.heap.size w w3 := hbw2.trans (hb3.mono hbw2.size)
      clear hb3 c5 c6 c7 c8
      cases k2b
      case false =>
        have HR : Hid (Sq.checkWhereFrom cols l = 4) := by show _ = _; rw [hr.out, HST3.out, hc]; rfl
        go_wp2
        go_ret
        exact ⟨by rw [HR.out]; rfl, hbw3⟩
      cases hn : k1a != k2a
      case true =>
        have HR : Hid (Sq.checkWhereFrom cols l = 7) := by show _ = _; rw [hr.out, HST3.out, hc]; simp only [hn]; rfl
        go_wp2
        go_ret
        exact ⟨by rw [HR.out]; rfl, hbw3⟩
      case false =>
        have HR : Hid (Sq.checkWhereFrom cols l = Sq.checkWhereFrom cols (l.drop (k + 1))) := by show _ = _; rw [hr.out, HST3.out, hc]; simp only [hn]; rfl
        clear hr HST3
        go_wp2
        go_roundw
        case rel => exact ⟨k + 1, by omega, by go_num, hbw3, HR⟩
        case measure => simp [intOf]; omega
    · have HR : Hid (Sq.checkWhereFrom cols l = 0) := by show _ = _; rw [hr.out, List.drop_eq_nil_of_le (by omega)]; rfl
      clear hr
      go_wp2
      go_ret
      exact ⟨by rw [HR.out]; rfl, hb⟩

set_option maxRecDepth 100000 in
set_option maxHeartbeats 1000000 in
theorem check_any (cols : List Sq.Col) (cv : Value) (st : Sq.PSt) (r : Rw) (w : World) (h : ColsAt w cv cols) (hs : StmAt w st r) :
    Calls Tryz.prog 27 #[cv, .agg (stmCells st r)] w fun e w' => e = .returned (.int .i64 (Sq.check cols st)) ∧ Below w.heap.size w w' := by
  obtain ⟨cvx, vvx, svx, ivx, wvx⟩ := r
  obtain ⟨q5, c5, hcv⟩ := ownsRow_slice hs.cols.1
  obtain ⟨q6, c6, hvv⟩ := ownsRow_slice hs.vals
  obtain ⟨q7, c7, hsv⟩ := ownsRow_slice hs.sets.1
  obtain ⟨q9, c9, hiv⟩ := ownsRow_slice hs.items.1
  obtain ⟨q10, c10, hwv⟩ := ownsRow_slice hs.wher
  dsimp only at hcv hvv hsv hiv hwv
  subst hcv hvv hsv hiv hwv
  unfold stmCells
  have hW : ∀ o, Below w.heap.size w (w.alloc o) := fun o => (Below.refl _ _).alloc (Nat.le_refl _) _
  have HW := hd hW
  have H := hd h
  have HS := hd hs
  have HE : Hid (Sq.check cols st = if Sq.checkAct cols st != 0 then Sq.checkAct cols st else Sq.checkWhereFrom cols st.wher) := rfl
  have HA : Hid (Sq.checkAct cols st = if st.act == 2 then Sq.checkValues cols st.vals else if st.act == 3 then Sq.checkSets cols st.sets else if st.act == 5 then Sq.checkItemsFrom cols st.shw st.items else 0) := rfl
  clear h hs hW
  cases h2 : st.act == 2
  case true =>
    go_enter Tryz.func27, Tryz.ntmps27
    go_wp2_with fail
    refine (checkValues_any cols st.vals cv _ _ (H.out.alloc _) (HS.out.below (HW.out _)).vals HS.out.nvals).mono ?_
    rintro e w1 ⟨rfl, hb1⟩
    obtain ⟨er, her⟩ : ∃ x, x = Sq.checkAct cols st := ⟨_, rfl⟩
    rw [show Sq.checkValues cols st.vals = er from by rw [her, HA.out, h2]; rfl]
    have hE := HE.out
    rw [← her] at hE
    have HE2 := hd hE
    have hbw : Below w.heap.size w w1 := (HW.out _).trans (hb1.mono (by simp))
    obtain ⟨q1, q2⟩ := bcell hb1
    have a7 := q1 w.heap.size 7 (by simp)
    simp [go_sem] at a7
    clear hE her hb1 q1 q2
    cases hz : er != 0
    case true =>
      go_wp2
      go_ret
      exact ⟨by rw [HE2.out, hz]; rfl, hbw⟩
    case false =>
      go_wp2_with fail
      refine (checkWhere_any cols st.wher cv _ _ (H.out.below hbw) (HS.out.below hbw).steps).mono ?_
      rintro e w2 ⟨rfl, hb2⟩
      go_wp2
      go_ret
      exact ⟨by rw [HE2.out, hz]; rfl, hbw.trans (hb2.mono hbw.size)⟩
  cases h3 : st.act == 3
  case true =>
    go_enter Tryz.func27, Tryz.ntmps27
    go_wp2_with fail
    refine (checkSets_any cols st.sets cv _ _ (H.out.alloc _) (HS.out.below (HW.out _)).sets).mono ?_
    rintro e w1 ⟨rfl, hb1⟩
    obtain ⟨er, her⟩ : ∃ x, x = Sq.checkAct cols st := ⟨_, rfl⟩
    rw [show Sq.checkSets cols st.sets = er from by rw [her, HA.out, h2, h3]; rfl]
    have hE := HE.out
    rw [← her] at hE
    have HE2 := hd hE
    have hbw : Below w.heap.size w w1 := (HW.out _).trans (hb1.mono (by simp))
    obtain ⟨q1, q2⟩ := bcell hb1
    have a7 := q1 w.heap.size 7 (by simp)
    simp [go_sem] at a7
    clear hE her hb1 q1 q2
    cases hz : er != 0
    case true =>
      go_wp2
      go_ret
      exact ⟨by rw [HE2.out, hz]; rfl, hbw⟩
    case false =>
      go_wp2_with fail
      refine (checkWhere_any cols st.wher cv _ _ (H.out.below hbw) (HS.out.below hbw).steps).mono ?_
      rintro e w2 ⟨rfl, hb2⟩
      go_wp2
      go_ret
      exact ⟨by rw [HE2.out, hz]; rfl, hbw.trans (hb2.mono hbw.size)⟩
  cases h5 : st.act == 5
  case true =>
    go_enter Tryz.func27, Tryz.ntmps27
    go_wp2_with fail
    refine (checkItems_any cols cv st _ _ (H.out.alloc _) (HS.out.below (HW.out _))).mono ?_
    rintro e w1 ⟨rfl, hb1⟩
    obtain ⟨er, her⟩ : ∃ x, x = Sq.checkAct cols st := ⟨_, rfl⟩
    rw [show Sq.checkItemsFrom cols st.shw st.items = er from by rw [her, HA.out, h2, h3, h5]; rfl]
    have hE := HE.out
    rw [← her] at hE
    have HE2 := hd hE
    have hbw : Below w.heap.size w w1 := (HW.out _).trans (hb1.mono (by simp))
    obtain ⟨q1, q2⟩ := bcell hb1
    have a7 := q1 w.heap.size 7 (by simp)
    simp [go_sem] at a7
    clear hE her hb1 q1 q2
    cases hz : er != 0
    case true =>
      go_wp2
      go_ret
      exact ⟨by rw [HE2.out, hz]; rfl, hbw⟩
    case false =>
      go_wp2_with fail
      refine (checkWhere_any cols st.wher cv _ _ (H.out.below hbw) (HS.out.below hbw).steps).mono ?_
      rintro e w2 ⟨rfl, hb2⟩
      go_wp2
      go_ret
      exact ⟨by rw [HE2.out, hz]; rfl, hbw.trans (hb2.mono hbw.size)⟩
  have hE : Sq.check cols st = Sq.checkWhereFrom cols st.wher := by rw [HE.out, HA.out, h2, h3, h5]; rfl
  have HE2 := hd hE
  clear hE
  go_enter Tryz.func27, Tryz.ntmps27
  go_wp2_with fail
  refine (checkWhere_any cols st.wher cv _ _ (H.out.alloc _) (HS.out.below (HW.out _)).steps).mono ?_
  rintro e w2 ⟨rfl, hb2⟩
  go_wp2
  go_ret
  exact ⟨by rw [HE2.out]; rfl, (HW.out _).trans (hb2.mono (by simp))⟩

end Go.Proofs.YtamkfbelpfpjcaaGreatDoor
