import Derived.Deep.AppendLies
import Derived.Deep.RegionHeld3
import Derived.Deep.QuietTactic
import Derived.BigQuiet
import Derived.Deep.RegionLaw
import Derived.Deep.LoopGhost
import Derived.Test.YtamkfbelpfpjcaaGreatDoorGc
import Derived.Test.YtamkfbelpfpjcaaGreatDoorGa
set_option linter.unusedVariables false
set_option linter.unusedSimpArgs false

namespace Go.Proofs.YtamkfbelpfpjcaaGreatDoor
open Go.RowKit

/-- The five slices of what is read so far. -/
structure Rw where
  cv : Value
  vv : Value
  sv : Value
  iv : Value
  wv : Value

/-- The parser lies in block pb, its slices in blocks of their own behind it. -/
structure PS (pb : Nat) (lv : Value) (ws : List Sq.Word) (r : Rw) (w : World) (st : Sq.PSt) : Prop where
  blk : w.heap[pb]? = some (.cells #[lv, .int .i64 st.pos, .bool st.bad, .int .i64 st.act, .string st.table, r.cv, r.vv, r.sv, .int .i64 st.shw, r.iv, r.wv] 94)
  list : w.ownsRow 0 125 2 lv ws.length (Sq.wcells ws)
  small : ws.length ≤ 1000
  wf : ∀ x ∈ ws, x.kind = 3 → x.text.size ≤ 9
  inside : st.pos ≤ ws.length
  cols : w.ownsRow (pb + 1) 135 2 r.cv st.cols.length (st.cols.flatMap Sq.Col.cells)
  vals : w.ownsRow (pb + 1) 139 3 r.vv st.vals.length (st.vals.flatMap Sq.Val.cells)
  sets : w.ownsRow (pb + 1) 144 10 r.sv st.sets.length (st.sets.flatMap Sq.SetS.cells)
  items : w.ownsRow (pb + 1) 9 1 r.iv st.items.length (st.items.map Value.string)
  wher : w.ownsRow (pb + 1) 148 9 r.wv st.wher.length (st.wher.flatMap Sq.StepS.cells)

theorem ownsRow_same {w w' : World} {base : Nat} {e : TypeId} {size : Nat} {v : Value} {n : Nat} {xs : List Value} (h : w.ownsRow base e size v n xs) (hb : ∀ g, v.ownBlock = some g → w'.heap[g]? = w.heap[g]?) : w'.ownsRow base e size v n xs := by
  refine ⟨h.1, ?_⟩
  rcases h.2 with h2 | ⟨g, cap, cur, hv, hg, hh, r⟩
  · exact Or.inl h2
  · exact Or.inr ⟨g, cap, cur, hv, hg, by rw [hb g (by rw [hv]; rfl)]; exact hh, r⟩

/-- The block of a row that is owned, and what it holds. -/
theorem ownsRow_block {w : World} {base : Nat} {e : TypeId} {size : Nat} {v : Value} {n : Nat} {xs : List Value} (h : w.ownsRow base e size v n xs) {g : Nat} (hg : v.ownBlock = some g) : ∃ cur, w.heap[g]? = some (.cells cur e (0, 0)) := by
  rcases h.2 with ⟨rfl, _⟩ | ⟨g', cap, cur, rfl, _, hh, _⟩
  · cases hg
  · have : g' = g := by simpa [Value.ownBlock] using hg
    subst this
    exact ⟨cur, hh⟩

/-- Rows of two types of elements lie in two blocks. -/
theorem ownsRow_apart {w : World} {base base' : Nat} {e e' : TypeId} {size size' : Nat} {v v' : Value} {n n' : Nat} {xs xs' : List Value} (h : w.ownsRow base e size v n xs) (h' : w.ownsRow base' e' size' v' n' xs') (hne : e ≠ e') {g : Nat} (hg : v.ownBlock = some g) : v'.ownBlock ≠ some g := by
  intro hg'
  obtain ⟨c1, h1⟩ := ownsRow_block h hg
  obtain ⟨c2, h2⟩ := ownsRow_block h' hg'
  rw [h1] at h2
  simp at h2
  exact hne h2.2

/-- A row that is owned lies in no block that is of another type. -/
theorem ownsRow_notin {w : World} {base : Nat} {e e' : TypeId} {size : Nat} {v : Value} {n : Nat} {xs : List Value} {b : Nat} {c : Array Value} {fr : Nat × Nat} (h : w.ownsRow base e size v n xs) (hb : w.heap[b]? = some (.cells c e' fr)) (hne : e ≠ e') : v.ownBlock ≠ some b := by
  intro hg
  obtain ⟨c1, h1⟩ := ownsRow_block h hg
  rw [hb] at h1
  simp at h1
  exact hne h1.2.1.symm

theorem cell_blk {w : World} {b : Nat} {c : Array Value} {e : TypeId} (h : w.heap[b]? = some (.cells c e (0, 0))) (j : Nat) : w.cell? ⟨b, j, none⟩ = c[j]? := by simp [World.cell?, h]
theorem frozen_blk {w : World} {b : Nat} {c : Array Value} {e : TypeId} (h : w.heap[b]? = some (.cells c e (0, 0))) (j : Nat) : w.frozen? ⟨b, j, none⟩ = false := by simp [World.frozen?, h]
theorem lt_blk {w : World} {b : Nat} {o : Obj} (h : w.heap[b]? = some o) : b < w.heap.size := (Array.getElem?_eq_some_iff.1 h).1

section
variable {pb : Nat} {lv : Value} {ws : List Sq.Word} {r : Rw} {w w' : World} {st : Sq.PSt}

theorem PS.lt (h : PS pb lv ws r w st) : pb < w.heap.size := lt_blk h.blk

/-- In a world that has the old blocks as they were. -/
theorem PS.below (h : PS pb lv ws r w st) (hb : Below w.heap.size w w') : PS pb lv ws r w' st :=
  ⟨by rw [hb.block pb h.lt]; exact h.blk, ownsRow_below h.list hb, h.small, h.wf, h.inside, ownsRow_below h.cols hb, ownsRow_below h.vals hb, ownsRow_below h.sets hb, ownsRow_below h.items hb, ownsRow_below h.wher hb⟩

theorem PS.alloc (h : PS pb lv ws r w st) (o : Obj) : PS pb lv ws r (w.alloc o) st := h.below ((Below.refl _ _).alloc (Nat.le_refl _) _)
theorem PS.drew (h : PS pb lv ws r w st) : PS pb lv ws r w.drew st := h.below (Below.drew (Below.refl _ _))

end

/-- The word at a place of the list. -/
theorem list_at {w : World} {lv : Value} {ws : List Sq.Word} (h : w.ownsRow 0 125 2 lv ws.length (Sq.wcells ws)) (k : Nat) (hk : k < ws.length) :
    ∃ g cap, lv = .slice (some ⟨g, 0, none⟩) ws.length cap ∧ g < w.heap.size ∧ w.cell? ⟨g, k * 2, none⟩ = some (.int .i64 (ws[k]).kind) ∧ w.cell? ⟨g, k * 2 + 1, none⟩ = some (.string (ws[k]).text) := by
  obtain ⟨g, cap, rfl, _, hlt⟩ := h.form (by omega)
  refine ⟨g, cap, rfl, hlt, ?_, ?_⟩
  · have := h.cells (g := g) rfl (k * 2) _ (Sq.wcells_at ws k hk).1
    rwa [show (⟨g, 0, none⟩ : Addr).add (k * 2) = ⟨g, k * 2, none⟩ from by unfold Addr.add; split <;> simp_all] at this
  · have := h.cells (g := g) rfl (k * 2 + 1) _ (Sq.wcells_at ws k hk).2
    rwa [show (⟨g, 0, none⟩ : Addr).add (k * 2 + 1) = ⟨g, k * 2 + 1, none⟩ from by unfold Addr.add; split <;> simp_all] at this

set_option maxRecDepth 100000 in
set_option maxHeartbeats 400000 in
theorem next_any {pb : Nat} {lv : Value} {ws : List Sq.Word} {r : Rw} {w : World} {st : Sq.PSt} (h : PS pb lv ws r w st) :
    Calls Tryz.prog 145 #[.pointer (some ⟨pb, 0, none⟩)] w fun e w' => e = .returned (.agg #[.int .i64 (Sq.nextW ws st).kind, .string (Sq.nextW ws st).text]) ∧ Below w.heap.size w w' := by
  have hlt := h.lt
  have c0 : w.cell? ⟨pb, 0, none⟩ = some lv := by rw [cell_blk h.blk]; rfl
  have c1 : w.cell? ⟨pb, 1, none⟩ = some (.int .i64 st.pos) := by rw [cell_blk h.blk]; rfl
  have c2 : w.cell? ⟨pb, 2, none⟩ = some (.bool st.bad) := by rw [cell_blk h.blk]; rfl
  have hsm := h.small
  have hin := h.inside
  have hlist := h.list
  clear h
  cases hb : st.bad
  case true =>
    have HE : Hid _ := Sq.nextW_bad ws st hb
    rw [hb] at c2
    clear hb hlist
    go_enter Tryz.func145, Tryz.ntmps145
    go_wp2
    go_quiet (fail)
    go_wp2
    exact bodyPost_ret (v := .agg #[.int .i64 0, .string ⟨#[]⟩]) (by simp [results, Tryz.results145, go_sem]) rfl ⟨by rw [HE.out]; rfl, ((below_drewN ((Below.refl _ _).alloc (Nat.le_refl _) _) _).setCell (Nat.le_refl _) _).setCell (Nat.le_refl _) _⟩
  case false =>
    rw [hb] at c2
    by_cases hp : st.pos < ws.length
    · have HE : Hid _ := Sq.nextW_in ws st hb hp
      obtain ⟨g, cap, rfl, hg, k0, k1⟩ := list_at hlist st.pos hp
      clear hb hlist
      go_enter Tryz.func145, Tryz.ntmps145
      go_wp2
      go_quiet (fail)
      go_wp2
      go_region
      go_wp2
      exact bodyPost_ret (v := .agg #[.int .i64 (ws[st.pos]).kind, .string (ws[st.pos]).text]) (by simp [results, Tryz.results145, go_sem]) rfl ⟨by rw [HE.out], ((below_drewN ((Below.refl _ _).alloc (Nat.le_refl _) _) _).setCell (Nat.le_refl _) _).setCell (Nat.le_refl _) _⟩
    · have HE : Hid _ := Sq.nextW_out ws st (by omega)
      obtain ⟨ao, cap, rfl⟩ : ∃ ao cap, lv = .slice ao ws.length cap := by
        rcases hlist.2 with ⟨h1, h2⟩ | ⟨g, cap, _, h1, _⟩
        · exact ⟨none, 0, by rw [h1, h2]⟩
        · exact ⟨_, _, h1⟩
      clear hb hlist
      go_enter Tryz.func145, Tryz.ntmps145
      go_wp2
      go_quiet (fail)
      go_wp2
      exact bodyPost_ret (v := .agg #[.int .i64 0, .string ⟨#[]⟩]) (by simp [results, Tryz.results145, go_sem]) rfl ⟨by rw [HE.out]; rfl, ((below_drewN ((Below.refl _ _).alloc (Nat.le_refl _) _) _).setCell (Nat.le_refl _) _).setCell (Nat.le_refl _) _⟩

end Go.Proofs.YtamkfbelpfpjcaaGreatDoor

namespace Go.Proofs.YtamkfbelpfpjcaaGreatDoor
open Go.RowKit

/-- New blocks, and stores into block pb. -/
def Tch (pb : Nat) (w w' : World) : Prop := w.grownBy w' (some pb)

section
variable {pb : Nat} {w w1 w2 : World}
theorem Tch.refl (pb : Nat) (w : World) : Tch pb w w := ⟨rfl, rfl, rfl, Nat.le_refl _, fun _ _ _ => rfl⟩
theorem Tch.trans (h : Tch pb w w1) (k : Tch pb w1 w2) : Tch pb w w2 :=
  ⟨k.os.trans h.os, k.tape.trans h.tape, k.output.trans h.output, Nat.le_trans h.size k.size, fun i hi hn => (k.block i (Nat.lt_of_lt_of_le hi h.size) hn).trans (h.block i hi hn)⟩
theorem Tch.of (h : Below w.heap.size w w1) : Tch pb w w1 := ⟨h.os, h.tape, h.output, h.size, fun i hi _ => h.block i hi⟩
theorem Tch.below {B : Nat} (h : Tch pb w w1) (hB : B ≤ pb) (hw : B ≤ w.heap.size) : Below B w w1 := ⟨h.os, h.tape, h.output, h.size, fun i hi => h.block i (by omega) (by simp; omega)⟩
theorem Tch.alloc (h : Tch pb w w1) (o : Obj) : Tch pb w (w1.alloc o) := h.trans (Tch.of ((Below.refl _ _).alloc (Nat.le_refl _) _))
theorem Tch.drewN (h : Tch pb w w1) (n : Nat) : Tch pb w (w1.drewN n) := h.trans (Tch.of (below_drewN (Below.refl _ _) n))
theorem Tch.store (h : Tch pb w w1) {b o : Nat} (hb : b = pb ∨ w.heap.size ≤ b) (x : Value) : Tch pb w (w1.setCell ⟨b, o, none⟩ x) := by
  refine ⟨h.os, h.tape, h.output, by simpa [World.setCell] using h.size, fun i hi hn => ?_⟩
  rw [Below.heap_setCell _ _ _ _ (by show i ≠ b; rcases hb with rfl | hb; exact fun e => hn (by rw [e]); omega)]
  exact h.block i hi hn
end

theorem heap_set_same {w : World} {b o : Nat} {c : Array Value} {e : TypeId} {fr : Nat × Nat} (h : w.heap[b]? = some (.cells c e fr)) (x : Value) : (w.setCell ⟨b, o, none⟩ x).heap[b]? = some (.cells (c.setIfInBounds o x) e fr) := by
  simp only [World.setCell, Array.getElem?_modify, h]
  simp
theorem heap_set_other {w : World} {b b' o : Nat} {x : Value} (h : b ≠ b') : (w.setCell ⟨b', o, none⟩ x).heap[b]? = w.heap[b]? := Below.heap_setCell _ _ _ _ h

/-- The parser behind what touches its block alone. -/
theorem PS.touch {pb : Nat} {lv : Value} {ws : List Sq.Word} {r : Rw} {w w' : World} {st st' : Sq.PSt} (h : PS pb lv ws r w st) (ht : Tch pb w w')
    (hb : w'.heap[pb]? = some (.cells #[lv, .int .i64 st'.pos, .bool st'.bad, .int .i64 st'.act, .string st'.table, r.cv, r.vv, r.sv, .int .i64 st'.shw, r.iv, r.wv] 94))
    (hin : st'.pos ≤ ws.length) (e1 : st'.cols = st.cols) (e2 : st'.vals = st.vals) (e3 : st'.sets = st.sets) (e4 : st'.items = st.items) (e5 : st'.wher = st.wher) : PS pb lv ws r w' st' := by
  have k : ∀ {v : Value} {base : Nat} {e : TypeId} {size n : Nat} {xs : List Value}, e ≠ 94 → w.ownsRow base e size v n xs → w'.ownsRow base e size v n xs := by
    intro v base e size n xs hne ho
    refine ownsRow_same ho fun g hg => ht.block g (ho.lt g hg).2 ?_
    exact fun e => ownsRow_notin ho h.blk hne (by rw [hg, e])
  exact ⟨hb, k (by decide) h.list, h.small, h.wf, hin, by rw [e1]; exact k (by decide) h.cols, by rw [e2]; exact k (by decide) h.vals, by rw [e3]; exact k (by decide) h.sets, by rw [e4]; exact k (by decide) h.items, by rw [e5]; exact k (by decide) h.wher⟩

/-- What the walk wants of the parser's block in a later world. -/
theorem PS.later {pb : Nat} {lv : Value} {ws : List Sq.Word} {r : Rw} {w w1 : World} {st : Sq.PSt} (h : PS pb lv ws r w st) (hb : Below w.heap.size w w1) :
    w1.cell? ⟨pb, 1, none⟩ = some (.int .i64 st.pos) ∧ w1.frozen? ⟨pb, 1, none⟩ = false ∧ w1.cell? ⟨pb, 2, none⟩ = some (.bool st.bad) ∧ w1.frozen? ⟨pb, 2, none⟩ = false ∧ pb < w1.heap.size := by
  have hb' := (h.below hb).blk
  exact ⟨by rw [cell_blk hb']; rfl, frozen_blk hb' 1, by rw [cell_blk hb']; rfl, frozen_blk hb' 2, lt_blk hb'⟩

/-- Behind a step over a word, or a fault, and stores elsewhere. -/
theorem PS.pos_end {pb : Nat} {lv : Value} {ws : List Sq.Word} {r : Rw} {w w1 w' : World} {st : Sq.PSt} (h : PS pb lv ws r w st) (hb : Below w.heap.size w w1) (ht : Tch pb w w') (hp : st.pos < ws.length)
    (hw : w'.heap[pb]? = (w1.setCell ⟨pb, 1, none⟩ (.int .i64 ((st.pos : Int) + 1))).heap[pb]?) : PS pb lv ws r w' (Sq.step1 st) :=
  h.touch ht (by rw [hw, heap_set_same (h.below hb).blk]; rfl) hp rfl rfl rfl rfl rfl
theorem PS.bad_end {pb : Nat} {lv : Value} {ws : List Sq.Word} {r : Rw} {w w1 w' : World} {st : Sq.PSt} (h : PS pb lv ws r w st) (hb : Below w.heap.size w w1) (ht : Tch pb w w')
    (hw : w'.heap[pb]? = (w1.setCell ⟨pb, 2, none⟩ (.bool true)).heap[pb]?) : PS pb lv ws r w' (Sq.fail st) :=
  h.touch ht (by rw [hw, heap_set_same (h.below hb).blk]; rfl) h.inside rfl rfl rfl rfl rfl

theorem Sq.takeS_in (ws : List Sq.Word) (st : Sq.PSt) (h : st.pos ≤ ws.length) : (Sq.takeS ws st).pos ≤ ws.length := by
  unfold Sq.takeS
  split
  · exact h
  · rename_i h1
    have := Sq.nextW_pos ws st (by simpa using h1)
    show st.pos + 1 ≤ _
    omega

set_option maxRecDepth 100000 in
set_option maxHeartbeats 400000 in
theorem take_any {pb : Nat} {lv : Value} {ws : List Sq.Word} {r : Rw} {w : World} {st : Sq.PSt} (h : PS pb lv ws r w st) :
    Calls Tryz.prog 117 #[.pointer (some ⟨pb, 0, none⟩)] w fun e w' => e = .returned (.agg #[.int .i64 (Sq.nextW ws st).kind, .string (Sq.nextW ws st).text]) ∧ PS pb lv ws r w' (Sq.takeS ws st) ∧ Tch pb w w' := by
  have hlt := h.lt
  have hsm := h.small
  have hin := h.inside
  obtain ⟨x, hx⟩ : ∃ x, x = Sq.nextW ws st := ⟨_, rfl⟩
  rw [← hx]
  have HX : Hid _ := hx
  have H : Hid _ := h
  clear hx h
  go_enter Tryz.func117, Tryz.ntmps117
  go_wp2_with fail
  refine (next_any (H.out.alloc _)).mono ?_
  rintro e w1 ⟨rfl, hb1⟩
  rw [← HX.out]
  obtain ⟨k1, k2⟩ := bcell hb1
  have c0 := k1 w.heap.size 0 (by simp)
  have c1 := k1 w.heap.size 1 (by simp)
  have f0 := k2 w.heap.size 0 (by simp)
  have f1 := k2 w.heap.size 1 (by simp)
  simp [go_sem] at c0 c1 f0 f1
  have hz : w.heap.size < w1.heap.size := by have := hb1.size; simp at this; omega
  have hne : w.heap.size ≠ pb := by omega
  have hbw : Below w.heap.size w w1 := ((Below.refl _ w).alloc (Nat.le_refl _) _).trans (hb1.mono (by simp))
  obtain ⟨d1, g1, d2, g2, hlt1⟩ := H.out.later hbw
  clear k1 k2 hb1
  cases hk : x.kind == 0
  · have hps : st.pos < ws.length := Sq.nextW_pos ws st (by rw [← HX.out]; exact ne_of_beq_false hk)
    go_wp2
    have ht : Tch pb w ((((w1.setCell ⟨pb, 1, none⟩ (.int .i64 ((st.pos : Int) + 1))).setCell ⟨w.heap.size, 0, none⟩ (.int .i64 x.kind)).setCell ⟨w.heap.size, 1, none⟩ (.string x.text)).alloc (.cells #[.int .i64 x.kind, .string x.text] 125)) :=
      ((((Tch.of hbw).store (.inl rfl) _).store (.inr (Nat.le_refl _)) _).store (.inr (Nat.le_refl _)) _).alloc _
    refine bodyPost_ret (v := .agg #[.int .i64 x.kind, .string x.text]) (by simp [results, Tryz.results117, go_sem, *]) rfl ⟨rfl, ?_, ht⟩
    rw [show Sq.takeS ws st = Sq.step1 st from by unfold Sq.takeS; rw [← HX.out, hk]; rfl]
    exact H.out.pos_end hbw ht hps (by rw [Below.heap_alloc _ _ _ (by simpa using hlt1), heap_set_other hne.symm, heap_set_other hne.symm])
  · go_wp2
    have ht : Tch pb w ((((w1.setCell ⟨pb, 2, none⟩ (.bool true)).setCell ⟨w.heap.size, 0, none⟩ (.int .i64 x.kind)).setCell ⟨w.heap.size, 1, none⟩ (.string x.text)).alloc (.cells #[.int .i64 x.kind, .string x.text] 125)) :=
      ((((Tch.of hbw).store (.inl rfl) _).store (.inr (Nat.le_refl _)) _).store (.inr (Nat.le_refl _)) _).alloc _
    refine bodyPost_ret (v := .agg #[.int .i64 x.kind, .string x.text]) (by simp [results, Tryz.results117, go_sem, *]) rfl ⟨rfl, ?_, ht⟩
    rw [show Sq.takeS ws st = Sq.fail st from by unfold Sq.takeS; rw [← HX.out, hk]; rfl]
    exact H.out.bad_end hbw ht (by rw [Below.heap_alloc _ _ _ (by simpa using hlt1), heap_set_other hne.symm, heap_set_other hne.symm])

set_option maxRecDepth 100000 in
set_option maxHeartbeats 400000 in
theorem accept_any {pb : Nat} {lv : Value} {ws : List Sq.Word} {r : Rw} {w : World} {st : Sq.PSt} (m : ByteArray) (h : PS pb lv ws r w st) :
    Calls Tryz.prog 120 #[.pointer (some ⟨pb, 0, none⟩), .string m] w fun e w' => e = .returned (.bool (Sq.acceptB ws st m)) ∧ PS pb lv ws r w' (Sq.acceptS ws st m) ∧ Tch pb w w' := by
  have hlt := h.lt
  have hsm := h.small
  have hin := h.inside
  obtain ⟨x, hx⟩ : ∃ x, x = Sq.nextW ws st := ⟨_, rfl⟩
  have HB : Hid (Sq.acceptB ws st m = (x.kind == 1 && x.text.toList == m.toList)) := by rw [hx]; rfl
  have HX : Hid _ := hx
  have H : Hid _ := h
  clear hx h
  go_enter Tryz.func120, Tryz.ntmps120
  go_wp2_with fail
  refine (next_any H.out).mono ?_
  rintro e w1 ⟨rfl, hb1⟩
  rw [← HX.out]
  obtain ⟨d1, g1, d2, g2, hlt1⟩ := H.out.later hb1
  cases hk : x.kind == 1
  · have hk' : (x.kind != 1) = true := by simp [bne, hk]
    have hB : Sq.acceptB ws st m = false := by rw [HB.out, hk]; rfl
    have HBB : Hid _ := hB
    clear hB
    go_wp2
    go_ret
    exact ⟨by rw [HBB.out]; rfl, by rw [show Sq.acceptS ws st m = st from by unfold Sq.acceptS; rw [HBB.out]; rfl]; exact (H.out.below hb1).alloc _, (Tch.of hb1).alloc _⟩
  cases ht : x.text.toList == m.toList
  · have hk' : (x.kind != 1) = false := by simp [bne, hk]
    have hB : Sq.acceptB ws st m = false := by rw [HB.out, hk, ht]; rfl
    have HBB : Hid _ := hB
    clear hB hk
    go_wp2
    go_ret
    exact ⟨by rw [HBB.out]; rfl, by rw [show Sq.acceptS ws st m = st from by unfold Sq.acceptS; rw [HBB.out]; rfl]; exact (H.out.below hb1).alloc _, (Tch.of hb1).alloc _⟩
  · have hk' : (x.kind != 1) = false := by simp [bne, hk]
    have hB : Sq.acceptB ws st m = true := by rw [HB.out, hk, ht]; rfl
    have HBB : Hid _ := hB
    have hps : st.pos < ws.length := Sq.nextW_pos ws st (by rw [← HX.out, eq_of_beq hk]; decide)
    have HT : Hid _ := ht
    clear hB hk ht
    have ht' : (!(x.text.toList == m.toList)) = false := by rw [HT.out]; rfl
    go_wp2
    go_ret
    have ht : Tch pb w ((w1.setCell ⟨pb, 1, none⟩ (.int .i64 ((st.pos : Int) + 1))).alloc (.cells #[.int .i64 x.kind, .string x.text] 125)) :=
      ((Tch.of hb1).store (.inl rfl) _).alloc _
    exact ⟨by rw [HBB.out]; rfl, by rw [show Sq.acceptS ws st m = Sq.step1 st from by unfold Sq.acceptS; rw [HBB.out]; rfl]; exact H.out.pos_end hb1 ht hps (by rw [Below.heap_alloc _ _ _ (by simpa using hlt1)]), ht⟩

end Go.Proofs.YtamkfbelpfpjcaaGreatDoor

namespace Go.Proofs.YtamkfbelpfpjcaaGreatDoor
open Go.RowKit

set_option maxRecDepth 100000 in
set_option maxHeartbeats 400000 in
theorem want_any {pb : Nat} {lv : Value} {ws : List Sq.Word} {r : Rw} {w : World} {st : Sq.PSt} (m : ByteArray) (h : PS pb lv ws r w st) :
    Calls Tryz.prog 118 #[.pointer (some ⟨pb, 0, none⟩), .string m] w fun e w' => e = .returned (.tuple #[]) ∧ PS pb lv ws r w' (Sq.wantS ws st m) ∧ Tch pb w w' := by
  have H : Hid _ := h
  clear h
  go_enter Tryz.func118, Tryz.ntmps118
  go_wp2_with fail
  refine (accept_any m H.out).mono ?_
  rintro e w1 ⟨rfl, hp1, ht1⟩
  obtain ⟨d1, g1, d2, g2, hlt1⟩ := hp1.later (Below.refl _ _)
  cases hB : Sq.acceptB ws st m
  · have e1 : Sq.acceptS ws st m = st := by unfold Sq.acceptS; rw [hB]; rfl
    rw [e1] at hp1 d1 d2
    have HP : Hid _ := hp1
    have HE : Hid (Sq.wantS ws st m = Sq.fail st) := by show _ = _; unfold Sq.wantS; rw [hB]; rfl
    clear hp1 e1 hB
    go_wp2
    go_end0
    have ht : Tch pb w1 (w1.setCell ⟨pb, 2, none⟩ (.bool true)) := (Tch.refl _ _).store (.inl rfl) _
    exact ⟨rfl, by rw [HE.out]; exact HP.out.bad_end (Below.refl _ _) ht rfl, ht1.trans ht⟩
  · have e1 : Sq.acceptS ws st m = Sq.wantS ws st m := by unfold Sq.acceptS Sq.wantS; rw [hB]; rfl
    rw [e1] at hp1
    have HP : Hid _ := hp1
    clear hp1 e1 hB d1 d2
    go_wp2
    go_end0
    exact ⟨rfl, HP.out, ht1⟩

set_option maxRecDepth 100000 in
set_option maxHeartbeats 400000 in
theorem name_any {pb : Nat} {lv : Value} {ws : List Sq.Word} {r : Rw} {w : World} {st : Sq.PSt} (h : PS pb lv ws r w st) :
    Calls Tryz.prog 119 #[.pointer (some ⟨pb, 0, none⟩)] w fun e w' => e = .returned (.string (Sq.nameR ws st)) ∧ PS pb lv ws r w' (Sq.nameS ws st) ∧ Tch pb w w' := by
  obtain ⟨x, hx⟩ : ∃ x, x = Sq.nextW ws st := ⟨_, rfl⟩
  have HX : Hid _ := hx
  have H : Hid _ := h
  clear h hx
  go_enter Tryz.func119, Tryz.ntmps119
  go_wp2_with fail
  refine (take_any H.out).mono ?_
  rintro e w1 ⟨rfl, hp1, ht1⟩
  rw [← HX.out]
  obtain ⟨d1, g1, d2, g2, hlt1⟩ := hp1.later (Below.refl _ _)
  have HP : Hid _ := hp1
  clear hp1
  cases hk : x.kind == 2
  · have HE : Hid (Sq.nameS ws st = Sq.fail (Sq.takeS ws st) ∧ Sq.nameR ws st = Sq.nobytes) := by refine ⟨?_, ?_⟩ <;> (first | unfold Sq.nameS | unfold Sq.nameR) <;> rw [← HX.out, hk] <;> rfl
    have hk' : (x.kind != 2) = true := by simp [bne, hk]
    go_wp2
    go_ret
    have ht : Tch pb w1 ((w1.setCell ⟨pb, 2, none⟩ (.bool true)).alloc (.cells #[.int .i64 x.kind, .string x.text] 125)) := ((Tch.refl _ _).store (.inl rfl) _).alloc _
    exact ⟨by rw [HE.out.2]; rfl, by rw [HE.out.1]; exact HP.out.bad_end (Below.refl _ _) ht (by rw [Below.heap_alloc _ _ _ (by simpa using hlt1)]), ht1.trans ht⟩
  · have HE : Hid (Sq.nameS ws st = Sq.takeS ws st ∧ Sq.nameR ws st = x.text) := by refine ⟨?_, ?_⟩ <;> (first | unfold Sq.nameS | unfold Sq.nameR) <;> rw [← HX.out, hk] <;> rfl
    have hk' : (x.kind != 2) = false := by simp [bne, hk]
    clear hk
    go_wp2
    go_ret
    exact ⟨by rw [HE.out.2]; rfl, by rw [HE.out.1]; exact HP.out.alloc _, ht1.alloc _⟩

set_option maxRecDepth 100000 in
set_option maxHeartbeats 400000 in
theorem mark_any {pb : Nat} {lv : Value} {ws : List Sq.Word} {r : Rw} {w : World} {st : Sq.PSt} (h : PS pb lv ws r w st) :
    Calls Tryz.prog 71 #[.pointer (some ⟨pb, 0, none⟩)] w fun e w' => e = .returned (.string (Sq.markR ws st)) ∧ PS pb lv ws r w' (Sq.takeS ws st) ∧ Tch pb w w' := by
  obtain ⟨x, hx⟩ : ∃ x, x = Sq.nextW ws st := ⟨_, rfl⟩
  have HX : Hid _ := hx
  have H : Hid _ := h
  clear h hx
  go_enter Tryz.func71, Tryz.ntmps71
  go_wp2_with fail
  refine (take_any H.out).mono ?_
  rintro e w1 ⟨rfl, hp1, ht1⟩
  rw [← HX.out]
  have HP : Hid _ := hp1
  clear hp1
  cases hk : x.kind == 1
  · have HE : Hid (Sq.markR ws st = Sq.nobytes) := by show _ = _; unfold Sq.markR; rw [← HX.out, hk]; rfl
    have hk' : (x.kind != 1) = true := by simp [bne, hk]
    go_wp2
    go_ret
    exact ⟨by rw [HE.out]; rfl, HP.out.alloc _, ht1.alloc _⟩
  · have HE : Hid (Sq.markR ws st = x.text) := by show _ = _; unfold Sq.markR; rw [← HX.out, hk]; rfl
    have hk' : (x.kind != 1) = false := by simp [bne, hk]
    clear hk
    go_wp2
    go_ret
    exact ⟨by rw [HE.out]; rfl, HP.out.alloc _, ht1.alloc _⟩

set_option maxRecDepth 100000 in
set_option maxHeartbeats 400000 in
theorem kind_any {pb : Nat} {lv : Value} {ws : List Sq.Word} {r : Rw} {w : World} {st : Sq.PSt} (h : PS pb lv ws r w st) :
    Calls Tryz.prog 121 #[.pointer (some ⟨pb, 0, none⟩)] w fun e w' => e = .returned (.int .i64 (Sq.kindR ws st)) ∧ PS pb lv ws r w' (Sq.kindS ws st) ∧ Tch pb w w' := by
  have H : Hid _ := h
  clear h
  go_enter Tryz.func121, Tryz.ntmps121
  go_wp2_with fail
  refine (accept_any Sq.bText H.out).mono ?_
  rintro e w1 ⟨rfl, hp1, ht1⟩
  have HP : Hid _ := hp1
  clear hp1
  cases hB : Sq.acceptB ws st Sq.bText
  · have HE : Hid (Sq.kindR ws st = 0 ∧ Sq.kindS ws st = Sq.wantS ws st Sq.bInt ∧ Sq.acceptS ws st Sq.bText = st) := by refine ⟨?_, ?_, ?_⟩ <;> (first | unfold Sq.kindR | unfold Sq.kindS | unfold Sq.acceptS) <;> rw [hB] <;> rfl
    have h1 := HP.out
    rw [HE.out.2.2] at h1
    have HQ : Hid _ := h1
    clear h1
    go_wp2_with fail
    refine (want_any Sq.bInt HQ.out).mono ?_
    rintro e w2 ⟨rfl, hp2, ht2⟩
    have HP2 : Hid _ := hp2
    clear hp2
    go_wp2
    go_ret
    exact ⟨by rw [HE.out.1]; rfl, by rw [HE.out.2.1]; exact HP2.out, ht1.trans ht2⟩
  · have HE : Hid (Sq.kindR ws st = 1 ∧ Sq.kindS ws st = Sq.acceptS ws st Sq.bText) := by refine ⟨?_, ?_⟩ <;> (first | unfold Sq.kindR | unfold Sq.kindS) <;> rw [hB] <;> rfl
    go_wp2
    go_ret
    exact ⟨by rw [HE.out.1]; rfl, by rw [HE.out.2]; exact HP.out, ht1⟩

end Go.Proofs.YtamkfbelpfpjcaaGreatDoor

namespace Go.Proofs.YtamkfbelpfpjcaaGreatDoor
open Go.RowKit

set_option maxRecDepth 100000 in
set_option maxHeartbeats 400000 in
theorem numberOf_any (t : ByteArray) (w : World) (hs : t.size ≤ 9) :
    Calls Tryz.prog 155 #[.string t] w fun e w' => e = .returned (.int .i64 (Sq.num t)) ∧ w' = w := by
  go_enter Tryz.func155, Tryz.ntmps155
  go_wp2
  go_loop [3, 4] (fun n i => ∃ k : Nat, k ≤ t.size ∧ i = .int .i64 k ∧ n = .int .i64 (Sq.numL (t.data.toList.take k))) (fun _ i => t.size - (intOf i).toNat)
  case atStart => exact ⟨0, Nat.zero_le _, rfl, rfl⟩
  case round =>
    obtain ⟨k, hk, rfl, rfl⟩ := hrel
    have hl : (t.data.toList.take k).length ≤ 9 := by simp; omega
    obtain ⟨n0, n1⟩ := Sq.numL_small _ hl
    by_cases hlt : k < t.size
    · have hts : t.data.toList.take (k + 1) = t.data.toList.take k ++ [t[k]] := by
        rw [List.take_succ_eq_append_getElem (by simpa using hlt)]; rfl
      have HS : Hid (Sq.numL (t.data.toList.take (k + 1)) = Sq.numL (t.data.toList.take k) * 10 + Sq.dv t[k]) := by show _ = _; rw [hts, Sq.numL_snoc]
      clear hts
      obtain ⟨n, hn⟩ : ∃ n, n = Sq.numL (t.data.toList.take k) := ⟨_, rfl⟩
      rw [← hn] at n0 n1
      have HN : Hid _ := hn
      rw [← hn]
      clear hn
      go_wp2
      go_round
      case rel => exact ⟨k + 1, by omega, by go_num, by rw [HS.out, ← HN.out]; rfl⟩
      case measure => simp [intOf]; omega
    · go_wp2
      go_ret
      exact ⟨by unfold Sq.num; rw [List.take_of_length_le (by simp; omega)]; rfl, rfl⟩


set_option maxHeartbeats 400000 in
theorem OfNumber_any (n : Int) (w : World) :
    Calls Tryz.prog 94 #[.int .i64 n] w fun e w' => e = .returned (.agg #[.int .i64 0, .int .i64 n, .string ⟨#[]⟩]) ∧ Below w.heap.size w w' := by
  go_enter Tryz.func94, Tryz.ntmps94
  go_wp2
  exact bodyPost_ret (v := .agg #[.int .i64 0, .int .i64 n, .string ⟨#[]⟩]) (by simp [results, Tryz.results94, go_sem]) rfl ⟨rfl, (Below.refl _ _).alloc (Nat.le_refl _) _⟩

set_option maxHeartbeats 400000 in
theorem OfText_any (t : ByteArray) (w : World) :
    Calls Tryz.prog 95 #[.string t] w fun e w' => e = .returned (.agg #[.int .i64 1, .int .i64 0, .string t]) ∧ Below w.heap.size w w' := by
  go_enter Tryz.func95, Tryz.ntmps95
  go_wp2
  exact bodyPost_ret (v := .agg #[.int .i64 1, .int .i64 0, .string t]) (by simp [results, Tryz.results95, go_sem]) rfl ⟨rfl, (Below.refl _ _).alloc (Nat.le_refl _) _⟩

/-- The parser as a callee left it, behind what was done to blocks that were not there. -/
theorem PS.keep {pb : Nat} {lv : Value} {ws : List Sq.Word} {r : Rw} {w w2 w' : World} {st st2 : Sq.PSt} (h : PS pb lv ws r w st) (h2 : PS pb lv ws r w2 st2) (hb : Below w.heap.size w2 w') : PS pb lv ws r w' st2 := by
  have k : ∀ {v : Value} {base base' : Nat} {e e' : TypeId} {size size' n n' : Nat} {xs xs' : List Value}, w.ownsRow base' e' size' v n' xs' → w2.ownsRow base e size v n xs → w'.ownsRow base e size v n xs :=
    fun ho h2 => ownsRow_same h2 fun g hg => hb.block g (ho.lt g hg).2
  exact ⟨by rw [hb.block pb h.lt]; exact h2.blk, k h.list h2.list, h2.small, h2.wf, h2.inside, k h.cols h2.cols, k h.vals h2.vals, k h.sets h2.sets, k h.items h2.items, k h.wher h2.wher⟩
theorem Tch.then {pb : Nat} {w w2 w' : World} (h : Tch pb w w2) (hb : Below w.heap.size w2 w') : Tch pb w w' :=
  ⟨hb.os.trans h.os, hb.tape.trans h.tape, hb.output.trans h.output, Nat.le_trans h.size hb.size, fun i hi hn => (hb.block i hi).trans (h.block i hi hn)⟩
theorem Tch.cells {pb : Nat} {W w1 : World} (h : Tch pb W w1) : (∀ b o, b < W.heap.size → b ≠ pb → w1.cell? ⟨b, o, none⟩ = W.cell? ⟨b, o, none⟩) ∧ (∀ b o, b < W.heap.size → b ≠ pb → w1.frozen? ⟨b, o, none⟩ = W.frozen? ⟨b, o, none⟩) :=
  ⟨fun b o hb hn => World.cell?_of_block (w := W) (h.block b hb (by simp; exact hn)), fun b o hb hn => World.frozen?_of_block (w := W) (h.block b hb (by simp; exact hn))⟩

set_option maxRecDepth 100000 in
set_option maxHeartbeats 800000 in
theorem literal_any {pb : Nat} {lv : Value} {ws : List Sq.Word} {r : Rw} {w : World} {st : Sq.PSt} (h : PS pb lv ws r w st) :
    Calls Tryz.prog 146 #[.pointer (some ⟨pb, 0, none⟩)] w fun e w' => e = .returned (.agg #[.int .i64 (Sq.litR ws st).kind, .int .i64 (Sq.litR ws st).number, .string (Sq.litR ws st).text]) ∧ PS pb lv ws r w' (Sq.litS ws st) ∧ Tch pb w w' := by
  have hlt := h.lt
  have hne : w.heap.size ≠ pb := by omega
  have H : Hid _ := h
  clear h
  go_enter Tryz.func146, Tryz.ntmps146
  go_wp2_with fail
  refine (accept_any Sq.bMinus (H.out.alloc _)).mono ?_
  rintro e w1 ⟨rfl, hp1, ht1⟩
  have HP1 : Hid _ := hp1
  clear hp1
  go_wp2_with fail
  refine (take_any HP1.out).mono ?_
  rintro e w2 ⟨rfl, hp2, ht2⟩
  have HP2 : Hid _ := hp2
  clear hp2
  obtain ⟨x, hx⟩ : ∃ x, x = Sq.nextW ws (Sq.acceptS ws st Sq.bMinus) := ⟨_, rfl⟩
  rw [← hx]
  have hwf : Hid (x.kind = 3 → x.text.size ≤ 9) := by show _ → _; rw [hx]; exact Sq.nextW_wf ws _ H.out.wf
  have ht := ht1.trans ht2
  have htw : Tch pb w w2 := ((Tch.refl pb w).alloc _).trans ht
  obtain ⟨k1, k2⟩ := ht.cells
  have c0 := k1 w.heap.size 0 (by simp) hne
  have c1 := k1 w.heap.size 1 (by simp) hne
  have c2 := k1 w.heap.size 2 (by simp) hne
  have f0 := k2 w.heap.size 0 (by simp) hne
  have f1 := k2 w.heap.size 1 (by simp) hne
  have f2 := k2 w.heap.size 2 (by simp) hne
  simp [go_sem] at c0 c1 c2 f0 f1 f2
  have hz : w.heap.size < w2.heap.size := by have := ht.size; simp at this; omega
  obtain ⟨d1, g1, d2, g2, hlt2⟩ := HP2.out.later (Below.refl _ _)
  clear k1 k2 ht ht1 ht2
  obtain ⟨m, hm⟩ : ∃ m, m = Sq.acceptB ws st Sq.bMinus := ⟨_, rfl⟩
  rw [← hm]
  have HLR : Hid (Sq.litR ws st = if x.kind == 3 then (if m then ⟨0, -Sq.num x.text, Sq.nobytes⟩ else ⟨0, Sq.num x.text, Sq.nobytes⟩) else if x.kind == 4 && !m then ⟨1, 0, x.text⟩ else Sq.val0) := by show _ = _; rw [hx, hm]; rfl
  have HLS : Hid (Sq.litS ws st = if x.kind == 3 then Sq.takeS ws (Sq.acceptS ws st Sq.bMinus) else if x.kind == 4 && !m then Sq.takeS ws (Sq.acceptS ws st Sq.bMinus) else Sq.fail (Sq.takeS ws (Sq.acceptS ws st Sq.bMinus))) := by show _ = _; rw [hx, hm]; rfl
  clear hx hm
  have ext : Hid (∀ w3, Below w2.heap.size w2 w3 → w3.cell? ⟨w.heap.size, 0, none⟩ = some (.int .i64 0) ∧ w3.cell? ⟨w.heap.size, 1, none⟩ = some (.int .i64 0) ∧ w3.cell? ⟨w.heap.size, 2, none⟩ = some (.string ⟨#[]⟩) ∧ w3.frozen? ⟨w.heap.size, 0, none⟩ = false ∧ w3.frozen? ⟨w.heap.size, 1, none⟩ = false ∧ w3.frozen? ⟨w.heap.size, 2, none⟩ = false) := by
    intro w3 hb
    obtain ⟨k1, k2⟩ := bcell hb
    exact ⟨(k1 _ _ hz).trans c0, (k1 _ _ hz).trans c1, (k1 _ _ hz).trans c2, (k2 _ _ hz).trans f0, (k2 _ _ hz).trans f1, (k2 _ _ hz).trans f2⟩
  have fin : Hid (∀ w3 (v0 v1 v2 : Value), Below w2.heap.size w2 w3 → PS pb lv ws r (((w3.setCell ⟨w.heap.size, 0, none⟩ v0).setCell ⟨w.heap.size, 1, none⟩ v1).setCell ⟨w.heap.size, 2, none⟩ v2) (Sq.takeS ws (Sq.acceptS ws st Sq.bMinus)) ∧ Tch pb w (((w3.setCell ⟨w.heap.size, 0, none⟩ v0).setCell ⟨w.heap.size, 1, none⟩ v1).setCell ⟨w.heap.size, 2, none⟩ v2)) := by
    intro w3 v0 v1 v2 hb
    have hbl : Below w.heap.size w2 (((w3.setCell ⟨w.heap.size, 0, none⟩ v0).setCell ⟨w.heap.size, 1, none⟩ v1).setCell ⟨w.heap.size, 2, none⟩ v2) := (((Below.mono (B' := w.heap.size) hb (by omega)).setCell (Nat.le_refl _) _).setCell (Nat.le_refl _) _).setCell (Nat.le_refl _) _
    exact ⟨H.out.keep HP2.out hbl, htw.then hbl⟩
  cases hk : x.kind == 3
  case true =>
    have hsz := hwf.out (eq_of_beq hk)
    obtain ⟨n0, n1⟩ := Sq.num_small _ hsz
    cases m
    case true =>
      have HR := HLR.out
      have HS := HLS.out
      rw [hk] at HR HS
      have HR' : Hid _ := HR
      have HS' : Hid _ := HS
      clear HLR HLS HR HS
      go_wp2_with (first | (go_at_call 155; refine (numberOf_any _ _ hsz).mono ?_; rintro e w' ⟨rfl, rfl⟩) | (go_at_call 94; refine (OfNumber_any _ _).mono ?_; rintro e w3 ⟨rfl, hb3⟩; have hb23 := ((Below.refl _ w2).alloc (Nat.le_refl _) _).trans (hb3.mono (by simp)); obtain ⟨p0, p1, p2, q0, q1, q2⟩ := ext.out w3 hb23))
      exact bodyPost_ret (v := .agg #[.int .i64 0, .int .i64 (-Sq.num x.text), .string ⟨#[]⟩]) (by simp [results, Tryz.results146, go_sem, *]) rfl ⟨by rw [HR'.out]; rfl, by rw [HS'.out]; exact (fin.out w3 _ _ _ hb23).1, (fin.out w3 _ _ _ hb23).2⟩
    case false =>
      have HR := HLR.out
      have HS := HLS.out
      rw [hk] at HR HS
      have HR' : Hid _ := HR
      have HS' : Hid _ := HS
      clear HLR HLS HR HS
      go_wp2_with (first | (go_at_call 155; refine (numberOf_any _ _ hsz).mono ?_; rintro e w' ⟨rfl, rfl⟩) | (go_at_call 94; refine (OfNumber_any _ _).mono ?_; rintro e w3 ⟨rfl, hb3⟩; have hb23 := ((Below.refl _ w2).alloc (Nat.le_refl _) _).trans (hb3.mono (by simp)); obtain ⟨p0, p1, p2, q0, q1, q2⟩ := ext.out w3 hb23))
      exact bodyPost_ret (v := .agg #[.int .i64 0, .int .i64 (Sq.num x.text), .string ⟨#[]⟩]) (by simp [results, Tryz.results146, go_sem, *]) rfl ⟨by rw [HR'.out]; rfl, by rw [HS'.out]; exact (fin.out w3 _ _ _ hb23).1, (fin.out w3 _ _ _ hb23).2⟩
  cases hk4 : (x.kind == 4 && !m)
  case true =>
    have hk4' : (x.kind == 4) = true ∧ m = false := by simpa using hk4
    obtain ⟨h4, rfl⟩ := hk4'
    have HR := HLR.out
    have HS := HLS.out
    rw [hk, hk4] at HR HS
    have HR' : Hid _ := HR
    have HS' : Hid _ := HS
    clear HLR HLS HR HS hk4
    go_wp2_with (first | (go_at_call 95; refine (OfText_any _ _).mono ?_; rintro e w3 ⟨rfl, hb3⟩; have hb23 := ((Below.refl _ w2).alloc (Nat.le_refl _) _).trans (hb3.mono (by simp)); obtain ⟨p0, p1, p2, q0, q1, q2⟩ := ext.out w3 hb23))
    exact bodyPost_ret (v := .agg #[.int .i64 1, .int .i64 0, .string x.text]) (by simp [results, Tryz.results146, go_sem, *]) rfl ⟨by rw [HR'.out]; rfl, by rw [HS'.out]; exact (fin.out w3 _ _ _ hb23).1, (fin.out w3 _ _ _ hb23).2⟩
  case false =>
    have HR := HLR.out
    have HS := HLS.out
    rw [hk, hk4] at HR HS
    have HR' : Hid _ := HR
    have HS' : Hid _ := HS
    clear HLR HLS HR HS
    have hwb : PS pb lv ws r (w2.setCell ⟨pb, 2, none⟩ (.bool true)) (Sq.fail (Sq.takeS ws (Sq.acceptS ws st Sq.bMinus))) := HP2.out.bad_end (Below.refl _ _) ((Tch.refl _ _).store (.inl rfl) _) rfl
    have HWB : Hid _ := hwb
    clear hwb
    cases h4 : x.kind == 4
    case false =>
      clear hk4
      go_wp2
      have hbl : Below w.heap.size (w2.setCell ⟨pb, 2, none⟩ (.bool true)) (((((w2.setCell ⟨pb, 2, none⟩ (.bool true)).setCell ⟨w.heap.size, 0, none⟩ (.int .i64 0)).setCell ⟨w.heap.size, 1, none⟩ (.int .i64 0)).setCell ⟨w.heap.size, 2, none⟩ (.string ⟨#[]⟩)).alloc (.cells #[.int .i64 x.kind, .string x.text] 125)) := Below.alloc (B := w.heap.size) ((((Below.refl w.heap.size _).setCell (Nat.le_refl _) _).setCell (Nat.le_refl _) _).setCell (Nat.le_refl _) _) (by simp; omega) _
      exact bodyPost_ret (v := .agg #[.int .i64 0, .int .i64 0, .string ⟨#[]⟩]) (by simp [results, Tryz.results146, go_sem, *]) rfl ⟨by rw [HR'.out]; rfl, by rw [HS'.out]; exact H.out.keep HWB.out hbl, (htw.store (.inl rfl) _).then hbl⟩
    case true =>
      have hm : m = true := by cases m <;> simp_all
      subst hm
      clear hk4
      go_wp2
      have hbl : Below w.heap.size (w2.setCell ⟨pb, 2, none⟩ (.bool true)) (((((w2.setCell ⟨pb, 2, none⟩ (.bool true)).setCell ⟨w.heap.size, 0, none⟩ (.int .i64 0)).setCell ⟨w.heap.size, 1, none⟩ (.int .i64 0)).setCell ⟨w.heap.size, 2, none⟩ (.string ⟨#[]⟩)).alloc (.cells #[.int .i64 x.kind, .string x.text] 125)) := Below.alloc (B := w.heap.size) ((((Below.refl w.heap.size _).setCell (Nat.le_refl _) _).setCell (Nat.le_refl _) _).setCell (Nat.le_refl _) _) (by simp; omega) _
      exact bodyPost_ret (v := .agg #[.int .i64 0, .int .i64 0, .string ⟨#[]⟩]) (by simp [results, Tryz.results146, go_sem, *]) rfl ⟨by rw [HR'.out]; rfl, by rw [HS'.out]; exact H.out.keep HWB.out hbl, (htw.store (.inl rfl) _).then hbl⟩

end Go.Proofs.YtamkfbelpfpjcaaGreatDoor

namespace Go.Proofs.YtamkfbelpfpjcaaGreatDoor
open Go.RowKit

set_option maxRecDepth 100000 in
set_option maxHeartbeats 800000 in
theorem term_any {pb : Nat} {lv : Value} {ws : List Sq.Word} {r : Rw} {w : World} {st : Sq.PSt} (h : PS pb lv ws r w st) :
    Calls Tryz.prog 147 #[.pointer (some ⟨pb, 0, none⟩)] w fun e w' => e = .returned (.agg #[.string (Sq.termR ws st).column, .int .i64 (Sq.termR ws st).lit.kind, .int .i64 (Sq.termR ws st).lit.number, .string (Sq.termR ws st).lit.text]) ∧ PS pb lv ws r w' (Sq.termS ws st) ∧ Tch pb w w' := by
  have hlt := h.lt
  have hsm := h.small
  have hin := h.inside
  have hne : w.heap.size ≠ pb := by omega
  obtain ⟨x, hx⟩ : ∃ x, x = Sq.nextW ws st := ⟨_, rfl⟩
  have HX : Hid _ := hx
  have H : Hid _ := h
  clear h hx
  go_enter Tryz.func147, Tryz.ntmps147
  go_wp2_with fail
  refine (next_any (H.out.alloc _)).mono ?_
  rintro e w1 ⟨rfl, hb1⟩
  rw [← HX.out]
  have hz : w.heap.size < w1.heap.size := by have := hb1.size; simp at this; omega
  have hbw : Below w.heap.size w w1 := ((Below.refl _ w).alloc (Nat.le_refl _) _).trans (hb1.mono (by simp))
  obtain ⟨k1, k2⟩ := bcell hb1
  have c0 := k1 w.heap.size 0 (by simp)
  have c1 := k1 w.heap.size 1 (by simp)
  have c2 := k1 w.heap.size 2 (by simp)
  have c3 := k1 w.heap.size 3 (by simp)
  have f0 := k2 w.heap.size 0 (by simp)
  have f1 := k2 w.heap.size 1 (by simp)
  have f2 := k2 w.heap.size 2 (by simp)
  have f3 := k2 w.heap.size 3 (by simp)
  simp [go_sem] at c0 c1 c2 c3 f0 f1 f2 f3
  obtain ⟨d1, g1, d2, g2, hlt1⟩ := H.out.later hbw
  clear k1 k2 hb1
  cases hk : x.kind == 2
  case true =>
    have hps : st.pos < ws.length := Sq.nextW_pos ws st (by rw [← HX.out, eq_of_beq hk]; decide)
    have HE : Hid (Sq.termR ws st = ⟨x.text, Sq.val0⟩ ∧ Sq.termS ws st = Sq.step1 st) := by refine ⟨?_, ?_⟩ <;> (first | unfold Sq.termR | unfold Sq.termS) <;> rw [← HX.out, hk] <;> rfl
    have hps2 : PS pb lv ws r (w1.setCell ⟨pb, 1, none⟩ (.int .i64 ((st.pos : Int) + 1))) (Sq.step1 st) := H.out.pos_end hbw ((Tch.of hbw).store (.inl rfl) _) hps rfl
    have HP : Hid _ := hps2
    clear hps2
    go_wp2
    have hbl : Below w.heap.size (w1.setCell ⟨pb, 1, none⟩ (.int .i64 ((st.pos : Int) + 1))) ((((((w1.setCell ⟨pb, 1, none⟩ (.int .i64 ((st.pos : Int) + 1))).setCell ⟨w.heap.size, 0, none⟩ (.string x.text)).setCell ⟨w.heap.size, 1, none⟩ (.int .i64 0)).setCell ⟨w.heap.size, 2, none⟩ (.int .i64 0)).setCell ⟨w.heap.size, 3, none⟩ (.string ⟨#[]⟩)).alloc (.cells #[.int .i64 x.kind, .string x.text] 125)) := Below.alloc (B := w.heap.size) (((((Below.refl w.heap.size _).setCell (Nat.le_refl _) _).setCell (Nat.le_refl _) _).setCell (Nat.le_refl _) _).setCell (Nat.le_refl _) _) (by simp; omega) _
    exact bodyPost_ret (v := .agg #[.string x.text, .int .i64 0, .int .i64 0, .string ⟨#[]⟩]) (by simp [results, Tryz.results147, go_sem, *]) rfl ⟨by rw [HE.out.1]; rfl, by rw [HE.out.2]; exact H.out.keep HP.out hbl, ((Tch.of hbw).store (.inl rfl) _).then hbl⟩
  case false =>
    have HE : Hid (Sq.termR ws st = ⟨Sq.nobytes, Sq.litR ws st⟩ ∧ Sq.termS ws st = Sq.litS ws st) := by refine ⟨?_, ?_⟩ <;> (first | unfold Sq.termR | unfold Sq.termS) <;> rw [← HX.out, hk] <;> rfl
    have hps1 := (H.out.below hbw).alloc (.cells #[.int .i64 x.kind, .string x.text] 125)
    have HP1 : Hid _ := hps1
    clear hps1
    go_wp2_with fail
    refine (literal_any HP1.out).mono ?_
    rintro e w2 ⟨rfl, hp2, ht2⟩
    have HP2 : Hid _ := hp2
    clear hp2
    obtain ⟨k1, k2⟩ := ht2.cells
    have a0 := (k1 w.heap.size 0 (by simp; omega) hne).trans (World.cell?_alloc_past _ _ _ hz)
    have a1 := (k1 w.heap.size 1 (by simp; omega) hne).trans (World.cell?_alloc_past _ _ _ hz)
    have a2 := (k1 w.heap.size 2 (by simp; omega) hne).trans (World.cell?_alloc_past _ _ _ hz)
    have a3 := (k1 w.heap.size 3 (by simp; omega) hne).trans (World.cell?_alloc_past _ _ _ hz)
    have b0 := (k2 w.heap.size 0 (by simp; omega) hne).trans (World.frozen?_alloc_past _ _ _ hz)
    have b1 := (k2 w.heap.size 1 (by simp; omega) hne).trans (World.frozen?_alloc_past _ _ _ hz)
    have b2 := (k2 w.heap.size 2 (by simp; omega) hne).trans (World.frozen?_alloc_past _ _ _ hz)
    have b3 := (k2 w.heap.size 3 (by simp; omega) hne).trans (World.frozen?_alloc_past _ _ _ hz)
    rw [c0] at a0
    rw [c1] at a1
    rw [c2] at a2
    rw [c3] at a3
    rw [f0] at b0
    rw [f1] at b1
    rw [f2] at b2
    rw [f3] at b3
    have hz2 : w.heap.size < w2.heap.size := by have := ht2.size; simp at this; omega
    have htw : Tch pb w w2 := ((Tch.of hbw).alloc _).trans ht2
    clear c0 c1 c2 c3 f0 f1 f2 f3 k1 k2 ht2 d1 d2 g1 g2
    go_wp2
    have hbl : ∀ v0 v1 v2 v3 o, Below w.heap.size w2 (((((w2.setCell ⟨w.heap.size, 0, none⟩ v0).setCell ⟨w.heap.size, 1, none⟩ v1).setCell ⟨w.heap.size, 2, none⟩ v2).setCell ⟨w.heap.size, 3, none⟩ v3).alloc o) := fun v0 v1 v2 v3 o => Below.alloc (B := w.heap.size) (((((Below.refl w.heap.size _).setCell (Nat.le_refl _) _).setCell (Nat.le_refl _) _).setCell (Nat.le_refl _) _).setCell (Nat.le_refl _) _) (by simp; omega) _
    exact bodyPost_ret (v := .agg #[.string ⟨#[]⟩, .int .i64 (Sq.litR ws st).kind, .int .i64 (Sq.litR ws st).number, .string (Sq.litR ws st).text]) (by simp [results, Tryz.results147, go_sem, *]) rfl ⟨by rw [HE.out.1]; rfl, by rw [HE.out.2]; exact H.out.keep HP2.out (hbl _ _ _ _ _), htw.then (hbl _ _ _ _ _)⟩

set_option maxHeartbeats 800000 in
theorem isComparison_any (s : ByteArray) (w : World) :
    Calls Tryz.prog 131 #[.string s] w fun e w' => e = .returned (.bool (Sq.isComparison s)) ∧ w' = w := by
  unfold Sq.isComparison Sq.comparisons
  go_enter Tryz.func131, Tryz.ntmps131
  go_wp2
  all_goals
    go_ret
    exact ⟨by rw [← ByteArray.toList_eq]; simp_all, rfl⟩

theorem Tryz.infoStep : (Tryz.prog.info? 148).map (fun i => (i.zero, i.size, i.bytes)) = some (some (.agg (Sq.StepS.cells ⟨Sq.nobytes, Sq.term0, Sq.term0⟩).toArray), 9, 112) := by kernel_rfl

end Go.Proofs.YtamkfbelpfpjcaaGreatDoor

namespace Go.Proofs.YtamkfbelpfpjcaaGreatDoor
open Go.RowKit

/-- Behind an append to one row and the store of its new value: the parser. -/
theorem PS.blk_other {pb : Nat} {lv : Value} {ws : List Sq.Word} {r : Rw} {w w' : World} {st : Sq.PSt} (h : PS pb lv ws r w st) {v : Value} {base : Nat} {e : TypeId} {size n : Nat} {xs : List Value} (ho : w.ownsRow base e size v n xs) (hne : e ≠ 94) (hg : w.grownBy w' v.ownBlock) :
    w'.heap[pb]? = w.heap[pb]? := hg.block pb h.lt (fun e => ownsRow_notin ho h.blk hne e.symm)
theorem row_other {w w' : World} {v v2 : Value} {base base2 : Nat} {e e2 : TypeId} {size size2 n n2 : Nat} {xs xs2 : List Value} (h2 : w.ownsRow base2 e2 size2 v2 n2 xs2) (ho : w.ownsRow base e size v n xs) (hne : e2 ≠ e) (hg : w.grownBy w' v.ownBlock) : w'.ownsRow base2 e2 size2 v2 n2 xs2 :=
  ownsRow_same h2 fun g hg2 => hg.block g (h2.lt g hg2).2 (fun e => ownsRow_apart h2 ho hne hg2 e.symm)
/-- A store into the parser's block leaves the rows. -/
theorem row_store {w : World} {v : Value} {base pb o : Nat} {e : TypeId} {size n : Nat} {xs : List Value} (ho : w.ownsRow base e size v n xs) {c : Array Value} {fr : Nat × Nat} (hb : w.heap[pb]? = some (.cells c 94 fr)) (hne : e ≠ 94) (x : Value) : (w.setCell ⟨pb, o, none⟩ x).ownsRow base e size v n xs :=
  ownsRow_same ho fun g hg => heap_set_other (fun e => ownsRow_notin ho hb hne (by rw [hg, e]))

theorem PS.where_end {pb : Nat} {lv : Value} {ws : List Sq.Word} {r : Rw} {w w1 : World} {st : Sq.PSt} (h : PS pb lv ws r w st) (s : Sq.StepS) {g cap : Nat}
    (hown : w1.ownsRow (pb + 1) 148 9 (.slice (some ⟨g, 0, none⟩) (st.wher.length + 1) cap) (st.wher.length + 1) (st.wher.flatMap Sq.StepS.cells ++ s.cells)) (hg : w.grownBy w1 r.wv.ownBlock) :
    PS pb lv ws { r with wv := .slice (some ⟨g, 0, none⟩) (st.wher.length + 1) cap } (w1.setCell ⟨pb, 10, none⟩ (.slice (some ⟨g, 0, none⟩) (st.wher.length + 1) cap)) (Sq.addStep st s) := by
  have hb := (h.blk_other h.wher (by decide) hg).trans h.blk
  refine ⟨by rw [heap_set_same hb]; rfl, row_store (row_other h.list h.wher (by decide) hg) hb (by decide) _, h.small, h.wf, h.inside, row_store (row_other h.cols h.wher (by decide) hg) hb (by decide) _, row_store (row_other h.vals h.wher (by decide) hg) hb (by decide) _,
    row_store (row_other h.sets h.wher (by decide) hg) hb (by decide) _, row_store (row_other h.items h.wher (by decide) hg) hb (by decide) _, row_store ?_ hb (by decide) _⟩
  show w1.ownsRow (pb + 1) 148 9 _ (st.wher ++ [s]).length ((st.wher ++ [s]).flatMap Sq.StepS.cells)
  rw [List.length_append, List.length_singleton, List.flatMap_append]
  simpa using hown

theorem Tch.of_grown {pb : Nat} {w w1 : World} {row : Option Nat} (hg : w.grownBy w1 row) (h : ∀ k, row = some k → pb ≤ k) (hw : pb ≤ w.heap.size) : Below pb w w1 :=
  ⟨hg.os, hg.tape, hg.output, hg.size, fun k hk => hg.block k (by omega) (fun e => by have := h k e.symm; omega)⟩

set_option maxRecDepth 100000 in
set_option maxHeartbeats 1000000 in
theorem step_any {pb : Nat} {lv : Value} {ws : List Sq.Word} {r : Rw} {w : World} {st : Sq.PSt} (s : Sq.StepS) (h : PS pb lv ws r w st) (hn : st.wher.length ≤ 5000) :
    Calls Tryz.prog 157 #[.pointer (some ⟨pb, 0, none⟩), .agg s.cells.toArray] w fun e w' => e = .returned (.tuple #[]) ∧ (∃ r', PS pb lv ws r' w' (Sq.addStep st s)) ∧ Below pb w w' := by
  obtain ⟨i0, hi, hz0, hz1, hz2⟩ := info_parts Tryz.infoStep
  have hlt := h.lt
  obtain ⟨op, ⟨lc, ⟨lk, ln, lt⟩⟩, ⟨rc, ⟨rk, rn, rt⟩⟩⟩ := s
  have H : Hid _ := h
  have c10 : w.cell? ⟨pb, 10, none⟩ = some r.wv := by rw [cell_blk h.blk]; rfl
  clear h
  unfold Sq.StepS.cells
  go_enter Tryz.func157, Tryz.ntmps157
  go_wp2
  have hW : Below w.heap.size w ((w.alloc (.cells #[.string op, .string lc, .int .i64 lk, .int .i64 ln, .string lt, .string rc, .int .i64 rk, .int .i64 rn, .string rt] 148)).alloc (.cells #[.string op, .string lc, .int .i64 lk, .int .i64 ln, .string lt, .string rc, .int .i64 rk, .int .i64 rn, .string rt] 148)).drew := (((Below.refl _ _).alloc (Nat.le_refl _) _).alloc (by simp) _).drew
  have hps := H.out.below hW
  have HP : Hid _ := hps
  have HW : Hid _ := hW
  clear hps hW
  go_region_law (first
    | (refine step_append_lies _ rfl (.tmp 9) (.tmp 11) 63 rfl (pb + 1) 148 i0 _ 9 112 Tryz.underlying63 hi hz0 hz1 hz2 rfl (by decide) r.wv st.wher.length (st.wher.flatMap Sq.StepS.cells) (by simp [Act.eval, Act.put]) HP.out.wher ⟨w.heap.size + 1, 0, none⟩ 1 1 [.string op, .string lc, .int .i64 lk, .int .i64 ln, .string lt, .string rc, .int .i64 rk, .int .i64 rn, .string rt] (by simp [Act.eval, Act.put]) rfl (by exact new_cells (w.alloc _) _ _ _ rfl (by simp)) (by intro u hu; simp at hu; rcases hu with rfl | rfl | rfl | rfl | rfl | rfl | rfl | rfl | rfl <;> rfl) (by decide) (by unfold maxLen; omega) (by omega) (by simp; omega) _ rfl ?_; intro g cap w1 hown hgrow hat hltg; have hb := (HP.out.blk_other HP.out.wher (by decide) hgrow).trans HP.out.blk; have k10 : w1.cell? ⟨pb, 10, none⟩ = some r.wv := (by rw [cell_blk hb]; rfl); have f10 := frozen_blk hb 10; have hlt1 := lt_blk hb; have HO : Hid _ := hown; have HG : Hid _ := hgrow; clear hown hgrow hat hb))
  all_goals
    go_end0
    refine ⟨rfl, ⟨_, HP.out.where_end ⟨op, ⟨lc, ⟨lk, ln, lt⟩⟩, ⟨rc, ⟨rk, rn, rt⟩⟩⟩ HO.out HG.out⟩, ?_⟩
    refine Below.setCell (B := pb) (Below.trans (Below.mono (B' := pb) HW.out (by omega)) (Tch.of_grown HG.out (fun k hk => ?_) (by simp; omega))) (Nat.le_refl _) _
    exact Nat.le_of_succ_le (HP.out.wher.lt k hk).1

end Go.Proofs.YtamkfbelpfpjcaaGreatDoor

namespace Go.Proofs.YtamkfbelpfpjcaaGreatDoor
open Go.RowKit

/-- What a fixed block holds, behind calls that touch the parser's alone. -/
theorem Tch.four {pb : Nat} {W w1 : World} {t : Sq.Term} {e : TypeId} (h : Tch pb (W.alloc (.cells #[.string t.column, .int .i64 t.lit.kind, .int .i64 t.lit.number, .string t.lit.text] e)) w1) (hne : W.heap.size ≠ pb) :
    w1.cell? ⟨W.heap.size, 0, none⟩ = some (.string t.column) ∧ w1.cell? ⟨W.heap.size, 1, none⟩ = some (.int .i64 t.lit.kind) ∧ w1.cell? ⟨W.heap.size, 2, none⟩ = some (.int .i64 t.lit.number) ∧ w1.cell? ⟨W.heap.size, 3, none⟩ = some (.string t.lit.text) ∧ W.heap.size < w1.heap.size := by
  obtain ⟨k1, k2⟩ := h.cells
  have c0 := k1 W.heap.size 0 (by simp) hne
  have c1 := k1 W.heap.size 1 (by simp) hne
  have c2 := k1 W.heap.size 2 (by simp) hne
  have c3 := k1 W.heap.size 3 (by simp) hne
  simp [go_sem] at c0 c1 c2 c3
  exact ⟨c0, c1, c2, c3, by have := h.size; simp at this; omega⟩

set_option maxRecDepth 100000 in
set_option maxHeartbeats 1000000 in
theorem comparison_any {pb : Nat} {lv : Value} {ws : List Sq.Word} {r : Rw} {w : World} {st : Sq.PSt} (h : PS pb lv ws r w st) (hn : st.wher.length ≤ 5000) :
    Calls Tryz.prog 166 #[.pointer (some ⟨pb, 0, none⟩)] w fun e w' => e = .returned (.tuple #[]) ∧ (∃ r', PS pb lv ws r' w' (Sq.compS ws st)) ∧ Below pb w w' := by
  have hlt := h.lt
  have H : Hid _ := h
  clear h
  go_enter Tryz.func166, Tryz.ntmps166
  go_wp2_with fail
  refine (term_any H.out).mono ?_
  rintro e w1 ⟨rfl, hp1, ht1⟩
  obtain ⟨t1, ht1'⟩ : ∃ t, t = Sq.termR ws st := ⟨_, rfl⟩
  obtain ⟨s1, hs1⟩ : ∃ s, s = Sq.termS ws st := ⟨_, rfl⟩
  rw [← ht1']
  rw [← hs1] at hp1
  have HT1 : Hid _ := ht1'
  have HS1 : Hid _ := hs1
  have hz1 := ht1.size
  have hne1 : w1.heap.size ≠ pb := by omega
  have HP1 : Hid _ := hp1
  have HTw1 : Hid _ := ht1
  clear hp1 ht1' hs1 ht1
  go_wp2_with fail
  refine (mark_any (HP1.out.alloc _)).mono ?_
  rintro e w2 ⟨rfl, hp2, ht2⟩
  obtain ⟨sg, hsg⟩ : ∃ s, s = Sq.markR ws s1 := ⟨_, rfl⟩
  rw [← hsg]
  have HSG : Hid _ := hsg
  clear hsg
  have HP2 : Hid _ := hp2
  have HT2 : Hid _ := ht2
  obtain ⟨d1, g1, d2, g2, hlt2⟩ := HP2.out.later (Below.refl _ _)
  clear hp2 ht2
  cases hc : Sq.isComparison sg
  case true =>
    have HM : Hid (Sq.compMid ws st = Sq.takeS ws s1) := by show _ = _; unfold Sq.compMid; rw [← HS1.out, ← HSG.out, hc]; rfl
    go_wp2_with (go_at_call 131; refine (isComparison_any _ _).mono ?_; rintro e w' ⟨rfl, rfl⟩; rw [hc])
    refine (term_any HP2.out).mono ?_
    rintro e w3 ⟨rfl, hp3, ht3⟩
    obtain ⟨c0, c1, c2, c3, hz3⟩ := Tch.four (Tch.trans HT2.out ht3) hne1
    have hz3' := ht3.size
    have HP3 : Hid _ := hp3
    have HT3 : Hid _ := ht3
    clear hp3 ht3
    go_wp2_with fail
    refine (step_any ⟨sg, t1, Sq.termR ws (Sq.takeS ws s1)⟩ (HP3.out.alloc _) (by rw [Sq.termS_wher, Sq.takeS_wher, HS1.out, Sq.termS_wher]; exact hn)).mono ?_
    rintro e w4 ⟨rfl, ⟨r', hp4⟩, hb4⟩
    have HP4 : Hid _ := hp4
    clear hp4
    go_wp2
    go_end0
    refine ⟨rfl, ⟨r', ?_⟩, ?_⟩
    · have := HP4.out
      rw [← HM.out, HSG.out, HS1.out, HT1.out] at this
      exact this
    · exact (Tch.below (Tch.trans (Tch.alloc HTw1.out _) (Tch.trans HT2.out HT3.out)) (Nat.le_refl _) (by omega)).trans ((Below.alloc (B := pb) (Below.refl _ _) (by omega) _).trans hb4)
  case false =>
    have HM : Hid (Sq.compMid ws st = Sq.fail (Sq.takeS ws s1)) := by show _ = _; unfold Sq.compMid; rw [← HS1.out, ← HSG.out, hc]; rfl
    have htb : Tch pb w2 (w2.setCell ⟨pb, 2, none⟩ (.bool true)) := (Tch.refl _ _).store (.inl rfl) _
    have HTB : Hid _ := htb
    have hpb := HP2.out.bad_end (Below.refl _ _) htb rfl
    have HPB : Hid _ := hpb
    clear htb hpb
    go_wp2_with (go_at_call 131; refine (isComparison_any _ _).mono ?_; rintro e w' ⟨rfl, rfl⟩; rw [hc])
    refine (term_any HPB.out).mono ?_
    rintro e w3 ⟨rfl, hp3, ht3⟩
    obtain ⟨c0, c1, c2, c3, hz3⟩ := Tch.four (Tch.trans HT2.out (Tch.trans HTB.out ht3)) hne1
    have hz3' := ht3.size
    simp at hz3'
    have HP3 : Hid _ := hp3
    have HT3 : Hid _ := ht3
    clear hp3 ht3
    go_wp2_with fail
    refine (step_any ⟨sg, t1, Sq.termR ws (Sq.fail (Sq.takeS ws s1))⟩ (HP3.out.alloc _) (by rw [Sq.termS_wher]; show (Sq.takeS ws s1).wher.length ≤ _; rw [Sq.takeS_wher, HS1.out, Sq.termS_wher]; exact hn)).mono ?_
    rintro e w4 ⟨rfl, ⟨r', hp4⟩, hb4⟩
    have HP4 : Hid _ := hp4
    clear hp4
    go_wp2
    go_end0
    refine ⟨rfl, ⟨r', ?_⟩, ?_⟩
    · have := HP4.out
      rw [← HM.out, HSG.out, HS1.out, HT1.out] at this
      exact this
    · exact (Tch.below (Tch.trans (Tch.alloc HTw1.out _) (Tch.trans HT2.out (Tch.trans HTB.out HT3.out))) (Nat.le_refl _) (by omega)).trans ((Below.alloc (B := pb) (Below.refl _ _) (by omega) _).trans hb4)

end Go.Proofs.YtamkfbelpfpjcaaGreatDoor

namespace Go.Proofs.YtamkfbelpfpjcaaGreatDoor
open Go.RowKit

/-- What is to be shown of one of the three functions. -/
def CondSaid (fn t k f : Nat) : Prop :=
  ∀ (pb : Nat) (lv : Value) (ws : List Sq.Word) (r : Rw) (w : World) (st : Sq.PSt), PS pb lv ws r w st → st.wher.length ≤ 2 * st.pos → 8 * (ws.length - st.pos) + k ≤ f →
    Calls Tryz.prog fn #[.pointer (some ⟨pb, 0, none⟩)] w fun e w' => e = .returned (.tuple #[]) ∧ (∃ r', PS pb lv ws r' w' (Sq.cond ws f t st)) ∧ Below pb w w'

theorem accept_pos {ws : List Sq.Word} {st : Sq.PSt} {m : ByteArray} (h : Sq.acceptB ws st m = true) : st.pos < ws.length := by
  unfold Sq.acceptB at h
  simp at h
  exact Sq.nextW_pos ws st (by rw [h.1]; decide)
theorem acceptS_yes {ws : List Sq.Word} {st : Sq.PSt} {m : ByteArray} (h : Sq.acceptB ws st m = true) : Sq.acceptS ws st m = Sq.step1 st := by unfold Sq.acceptS; rw [h]; rfl
theorem acceptS_no {ws : List Sq.Word} {st : Sq.PSt} {m : ByteArray} (h : Sq.acceptB ws st m = false) : Sq.acceptS ws st m = st := by unfold Sq.acceptS; rw [h]; rfl

set_option maxRecDepth 100000 in
set_option maxHeartbeats 1000000 in
theorem not_step (f : Nat) (hn : CondSaid 163 2 3 f) (ho : CondSaid 148 0 7 f) : CondSaid 163 2 3 (f + 1) := by
  intro pb lv ws r w st h hw hf
  have hlt := h.lt
  have hsm := h.small
  have hin := h.inside
  have H : Hid _ := h
  clear h
  go_enter Tryz.func163, Tryz.ntmps163
  go_wp2_with fail
  refine (accept_any Sq.bNot H.out).mono ?_
  rintro e w1 ⟨rfl, hp1, ht1⟩
  have hz1 := ht1.size
  have HT1 : Hid _ := ht1
  clear ht1
  cases hB : Sq.acceptB ws st Sq.bNot
  case true =>
    have hps := accept_pos hB
    rw [acceptS_yes hB] at hp1
    have HE : Hid (Sq.cond ws (f + 1) 2 st = Sq.addStep (Sq.cond ws f 2 (Sq.step1 st)) (Sq.opStep Sq.bNot)) := by show _ = _; rw [Sq.cond, if_pos hB]
    have HP1 : Hid _ := hp1
    clear hp1 hB
    go_wp2_with fail
    refine (hn pb lv ws r w1 (Sq.step1 st) HP1.out (by show st.wher.length ≤ 2 * (st.pos + 1); omega) (by show 8 * (ws.length - (st.pos + 1)) + 3 ≤ f; omega)).mono ?_
    rintro e w2 ⟨rfl, ⟨r2, hp2⟩, hb2⟩
    have hl := Sq.cond_len ws f 2 (Sq.step1 st)
    have hi2 := hp2.inside
    have hc : (Sq.cond ws f 2 (Sq.step1 st)).wher.length ≤ 5000 := by
      have h4 : (Sq.step1 st).wher = st.wher := rfl
      have h5 : (Sq.step1 st).pos = st.pos + 1 := rfl
      rw [h4, h5] at hl
      simp [Sq.more] at hl
      omega
    have HP2 : Hid _ := hp2
    clear hp2 hl hi2
    go_wp2_with fail
    refine (step_any (Sq.opStep Sq.bNot) HP2.out hc).mono ?_
    rintro e w3 ⟨rfl, ⟨r3, hp3⟩, hb3⟩
    have HP3 : Hid _ := hp3
    clear hp3
    go_wp2
    go_end0
    exact ⟨rfl, ⟨r3, by rw [HE.out]; exact HP3.out⟩, (Tch.below HT1.out (Nat.le_refl _) (by omega)).trans (hb2.trans hb3)⟩
  case false =>
    rw [acceptS_no hB] at hp1
    have HP1 : Hid _ := hp1
    clear hp1
    go_wp2_with fail
    refine (accept_any Sq.bOpen HP1.out).mono ?_
    rintro e w2 ⟨rfl, hp2, ht2⟩
    have hz2 := ht2.size
    have HT2 : Hid _ := Tch.trans HT1.out ht2
    clear ht2
    cases hB2 : Sq.acceptB ws st Sq.bOpen
    case true =>
      have hps := accept_pos hB2
      rw [acceptS_yes hB2] at hp2
      have HE : Hid (Sq.cond ws (f + 1) 2 st = Sq.wantS ws (Sq.cond ws f 0 (Sq.step1 st)) Sq.bClose) := by show _ = _; rw [Sq.cond, if_neg (by simp [hB]), if_pos hB2]
      have HP2 : Hid _ := hp2
      clear hp2 hB hB2
      go_wp2_with fail
      refine (ho pb lv ws r w2 (Sq.step1 st) HP2.out (by show st.wher.length ≤ 2 * (st.pos + 1); omega) (by show 8 * (ws.length - (st.pos + 1)) + 7 ≤ f; omega)).mono ?_
      rintro e w3 ⟨rfl, ⟨r3, hp3⟩, hb3⟩
      have hlt3 := hp3.lt
      have HP3 : Hid _ := hp3
      clear hp3
      go_wp2_with fail
      refine (want_any Sq.bClose HP3.out).mono ?_
      rintro e w4 ⟨rfl, hp4, ht4⟩
      have HP4 : Hid _ := hp4
      have HT4 : Hid _ := ht4
      clear hp4 ht4
      go_wp2
      go_end0
      exact ⟨rfl, ⟨r3, by rw [HE.out]; exact HP4.out⟩, (Tch.below HT2.out (Nat.le_refl _) (by omega)).trans (hb3.trans (Tch.below HT4.out (Nat.le_refl _) (by omega)))⟩
    case false =>
      rw [acceptS_no hB2] at hp2
      have HE : Hid (Sq.cond ws (f + 1) 2 st = Sq.compS ws st) := by show _ = _; rw [Sq.cond, if_neg (by simp [hB]), if_neg (by simp [hB2])]
      have HP2 : Hid _ := hp2
      clear hp2 hB hB2
      go_wp2_with fail
      refine (comparison_any HP2.out (by omega)).mono ?_
      rintro e w3 ⟨rfl, ⟨r3, hp3⟩, hb3⟩
      have HP3 : Hid _ := hp3
      clear hp3
      go_wp2
      go_end0
      exact ⟨rfl, ⟨r3, by rw [HE.out]; exact HP3.out⟩, (Tch.below HT2.out (Nat.le_refl _) (by omega)).trans hb3⟩

set_option maxRecDepth 100000 in
set_option maxHeartbeats 1000000 in
theorem or_step (f : Nat) (ha : ∀ g, g ≤ f → CondSaid 156 1 5 g) : CondSaid 148 0 7 (f + 1) := by
  intro pb lv ws r w st h hw hf
  have hlt := h.lt
  have hsm := h.small
  have H : Hid _ := h
  clear h
  go_enter Tryz.func148, Tryz.ntmps148
  go_wp2_with fail
  refine (ha f (Nat.le_refl _) pb lv ws r w st H.out hw (by omega)).mono ?_
  rintro e w1 ⟨rfl, ⟨r1, hp1⟩, hb1⟩
  have hl := Sq.cond_len ws f 1 st
  have hl1 : (Sq.cond ws f 1 st).wher.length ≤ 2 * (Sq.cond ws f 1 st).pos + 1 := by simp [Sq.more] at hl; omega
  have hl2 := hl.1
  have HP1 : Hid _ := hp1
  have HE : Hid (Sq.cond ws (f + 1) 0 st = Sq.cond ws f 3 (Sq.cond ws f 1 st)) := by show _ = _; rw [Sq.cond]
  clear hp1 hl
  go_wp2_with fail
  go_loopg [] f (fun k wr => ∃ (g : Nat) (sk : Sq.PSt) (rk : Rw), g = k ∧ g ≤ f ∧ PS pb lv ws rk wr sk ∧ sk.wher.length ≤ 2 * sk.pos + 1 ∧ 8 * (ws.length - sk.pos) + 6 ≤ g ∧ Below pb w wr ∧ Hid (Sq.cond ws (f + 1) 0 st = Sq.cond ws g 3 sk))
  case atStart => exact ⟨f, _, r1, rfl, Nat.le_refl _, HP1.out, hl1, by omega, hb1, HE⟩
  case round =>
    obtain ⟨g, sk, rk, rfl, hgf, hpk, hwk, hfk, hbk, hek⟩ := hrel
    have HPK : Hid _ := hpk
    have hltk := hpk.lt
    clear hpk HP1 HE H hb1 hl1
    go_wp2_with fail
    refine (accept_any Sq.bOr HPK.out).mono ?_
    rintro e w2 ⟨rfl, hp2, ht2⟩
    have hz2 := ht2.size
    have HT2 : Hid _ := ht2
    clear ht2
    cases hB : Sq.acceptB ws sk Sq.bOr
    case true =>
      have hps := accept_pos hB
      obtain ⟨g, rfl⟩ : ∃ g', g = g' + 1 := ⟨g - 1, by omega⟩
      rw [acceptS_yes hB] at hp2
      have HE : Hid (Sq.cond ws (f + 1) 0 st = Sq.cond ws g 3 (Sq.addStep (Sq.cond ws g 1 (Sq.step1 sk)) (Sq.opStep Sq.bOr))) := by show _ = _; rw [hek.out, Sq.cond, if_pos hB]
      have HP2 : Hid _ := hp2
      clear hp2 hB hek
      go_wp2_with fail
      refine (ha g (by omega) pb lv ws rk w2 (Sq.step1 sk) HP2.out (by show sk.wher.length ≤ 2 * (sk.pos + 1); omega) (by show 8 * (ws.length - (sk.pos + 1)) + 5 ≤ g; omega)).mono ?_
      rintro e w3 ⟨rfl, ⟨r3, hp3⟩, hb3⟩
      have hl := Sq.cond_len ws g 1 (Sq.step1 sk)
      have hi3 := hp3.inside
      have hl' : sk.pos + 1 ≤ (Sq.cond ws g 1 (Sq.step1 sk)).pos ∧ (Sq.cond ws g 1 (Sq.step1 sk)).wher.length ≤ 2 * (Sq.cond ws g 1 (Sq.step1 sk)).pos := by
        have h4 : (Sq.step1 sk).wher = sk.wher := rfl
        have h5 : (Sq.step1 sk).pos = sk.pos + 1 := rfl
        rw [h4, h5] at hl
        simp [Sq.more] at hl
        omega
      obtain ⟨hl1, hl2⟩ := hl'
      have HP3 : Hid _ := hp3
      clear hp3 hl
      go_wp2_with fail
      refine (step_any (Sq.opStep Sq.bOr) HP3.out (by omega)).mono ?_
      rintro e w4 ⟨rfl, ⟨r4, hp4⟩, hb4⟩
      have HP4 : Hid _ := hp4
      clear hp4
      have hbw : Below pb w w4 := hbk.trans ((Tch.below HT2.out (Nat.le_refl _) (by omega)).trans (hb3.trans hb4))
      clear hbk hb3 hb4
      go_wp2
      go_roundg g
      case measure => omega
      case rel => exact ⟨g, _, r4, rfl, by omega, HP4.out, by rw [Sq.addStep_len]; show _ ≤ 2 * (Sq.cond ws g 1 (Sq.step1 sk)).pos + 1; omega, by show 8 * (ws.length - (Sq.cond ws g 1 (Sq.step1 sk)).pos) + 6 ≤ g; omega, hbw, HE⟩
    case false =>
      rw [acceptS_no hB] at hp2
      have HE : Hid (Sq.cond ws (f + 1) 0 st = sk) := by
        show _ = _
        rw [hek.out]
        obtain ⟨g, rfl⟩ : ∃ g', g = g' + 1 := ⟨g - 1, by omega⟩
        rw [Sq.cond, if_neg (by simp [hB])]
      have HP2 : Hid _ := hp2
      clear hp2 hB hek
      go_wp2
      go_end0
      exact ⟨rfl, ⟨rk, by rw [HE.out]; exact HP2.out⟩, hbk.trans (Tch.below HT2.out (Nat.le_refl _) (by omega))⟩

set_option maxRecDepth 100000 in
set_option maxHeartbeats 1000000 in
theorem and_step (f : Nat) (ha : ∀ g, g ≤ f → CondSaid 163 2 3 g) : CondSaid 156 1 5 (f + 1) := by
  intro pb lv ws r w st h hw hf
  have hlt := h.lt
  have hsm := h.small
  have H : Hid _ := h
  clear h
  go_enter Tryz.func156, Tryz.ntmps156
  go_wp2_with fail
  refine (ha f (Nat.le_refl _) pb lv ws r w st H.out hw (by omega)).mono ?_
  rintro e w1 ⟨rfl, ⟨r1, hp1⟩, hb1⟩
  have hl := Sq.cond_len ws f 2 st
  have hl1 : (Sq.cond ws f 2 st).wher.length ≤ 2 * (Sq.cond ws f 2 st).pos + 1 := by simp [Sq.more] at hl; omega
  have hl2 := hl.1
  have HP1 : Hid _ := hp1
  have HE : Hid (Sq.cond ws (f + 1) 1 st = Sq.cond ws f 4 (Sq.cond ws f 2 st)) := by show _ = _; rw [Sq.cond]
  clear hp1 hl
  go_wp2_with fail
  go_loopg [] f (fun k wr => ∃ (g : Nat) (sk : Sq.PSt) (rk : Rw), g = k ∧ g ≤ f ∧ PS pb lv ws rk wr sk ∧ sk.wher.length ≤ 2 * sk.pos + 1 ∧ 8 * (ws.length - sk.pos) + 4 ≤ g ∧ Below pb w wr ∧ Hid (Sq.cond ws (f + 1) 1 st = Sq.cond ws g 4 sk))
  case atStart => exact ⟨f, _, r1, rfl, Nat.le_refl _, HP1.out, hl1, by omega, hb1, HE⟩
  case round =>
    obtain ⟨g, sk, rk, rfl, hgf, hpk, hwk, hfk, hbk, hek⟩ := hrel
    have HPK : Hid _ := hpk
    have hltk := hpk.lt
    clear hpk HP1 HE H hb1 hl1
    go_wp2_with fail
    refine (accept_any Sq.bAnd HPK.out).mono ?_
    rintro e w2 ⟨rfl, hp2, ht2⟩
    have hz2 := ht2.size
    have HT2 : Hid _ := ht2
    clear ht2
    cases hB : Sq.acceptB ws sk Sq.bAnd
    case true =>
      have hps := accept_pos hB
      obtain ⟨g, rfl⟩ : ∃ g', g = g' + 1 := ⟨g - 1, by omega⟩
      rw [acceptS_yes hB] at hp2
      have HE : Hid (Sq.cond ws (f + 1) 1 st = Sq.cond ws g 4 (Sq.addStep (Sq.cond ws g 2 (Sq.step1 sk)) (Sq.opStep Sq.bAnd))) := by show _ = _; rw [hek.out, Sq.cond, if_pos hB]
      have HP2 : Hid _ := hp2
      clear hp2 hB hek
      go_wp2_with fail
      refine (ha g (by omega) pb lv ws rk w2 (Sq.step1 sk) HP2.out (by show sk.wher.length ≤ 2 * (sk.pos + 1); omega) (by show 8 * (ws.length - (sk.pos + 1)) + 3 ≤ g; omega)).mono ?_
      rintro e w3 ⟨rfl, ⟨r3, hp3⟩, hb3⟩
      have hl := Sq.cond_len ws g 2 (Sq.step1 sk)
      have hi3 := hp3.inside
      have hl' : sk.pos + 1 ≤ (Sq.cond ws g 2 (Sq.step1 sk)).pos ∧ (Sq.cond ws g 2 (Sq.step1 sk)).wher.length ≤ 2 * (Sq.cond ws g 2 (Sq.step1 sk)).pos := by
        have h4 : (Sq.step1 sk).wher = sk.wher := rfl
        have h5 : (Sq.step1 sk).pos = sk.pos + 1 := rfl
        rw [h4, h5] at hl
        simp [Sq.more] at hl
        omega
      obtain ⟨hl1, hl2⟩ := hl'
      have HP3 : Hid _ := hp3
      clear hp3 hl
      go_wp2_with fail
      refine (step_any (Sq.opStep Sq.bAnd) HP3.out (by omega)).mono ?_
      rintro e w4 ⟨rfl, ⟨r4, hp4⟩, hb4⟩
      have HP4 : Hid _ := hp4
      clear hp4
      have hbw : Below pb w w4 := hbk.trans ((Tch.below HT2.out (Nat.le_refl _) (by omega)).trans (hb3.trans hb4))
      clear hbk hb3 hb4
      go_wp2
      go_roundg g
      case measure => omega
      case rel => exact ⟨g, _, r4, rfl, by omega, HP4.out, by rw [Sq.addStep_len]; show _ ≤ 2 * (Sq.cond ws g 2 (Sq.step1 sk)).pos + 1; omega, by show 8 * (ws.length - (Sq.cond ws g 2 (Sq.step1 sk)).pos) + 4 ≤ g; omega, hbw, HE⟩
    case false =>
      rw [acceptS_no hB] at hp2
      have HE : Hid (Sq.cond ws (f + 1) 1 st = sk) := by
        show _ = _
        rw [hek.out]
        obtain ⟨g, rfl⟩ : ∃ g', g = g' + 1 := ⟨g - 1, by omega⟩
        rw [Sq.cond, if_neg (by simp [hB])]
      have HP2 : Hid _ := hp2
      clear hp2 hB hek
      go_wp2
      go_end0
      exact ⟨rfl, ⟨rk, by rw [HE.out]; exact HP2.out⟩, hbk.trans (Tch.below HT2.out (Nat.le_refl _) (by omega))⟩


theorem cond_all : ∀ f g, g ≤ f → CondSaid 148 0 7 g ∧ CondSaid 156 1 5 g ∧ CondSaid 163 2 3 g := by
  intro f
  induction f with
  | zero =>
    intro g hg
    obtain rfl : g = 0 := by omega
    exact ⟨fun _ _ _ _ _ _ _ _ hf => absurd hf (by omega), fun _ _ _ _ _ _ _ _ hf => absurd hf (by omega), fun _ _ _ _ _ _ _ _ hf => absurd hf (by omega)⟩
  | succ f ih =>
    intro g hg
    rcases Nat.lt_or_ge g (f + 1) with h | h
    · exact ih g (by omega)
    · obtain rfl : g = f + 1 := by omega
      exact ⟨or_step f fun g hg => (ih g hg).2.1, and_step f fun g hg => (ih g hg).2.2, not_step f (ih f (Nat.le_refl _)).2.2 (ih f (Nat.le_refl _)).1⟩

set_option maxRecDepth 100000 in
set_option maxHeartbeats 1000000 in
theorem where_any {pb : Nat} {lv : Value} {ws : List Sq.Word} {r : Rw} {w : World} {st : Sq.PSt} (h : PS pb lv ws r w st) (hn : st.wher.length ≤ 2 * st.pos) :
    Calls Tryz.prog 124 #[.pointer (some ⟨pb, 0, none⟩)] w fun e w' => e = .returned (.tuple #[]) ∧ (∃ r', PS pb lv ws r' w' (Sq.whereS ws st)) ∧ Below pb w w' := by
  have hlt := h.lt
  have H : Hid _ := h
  clear h
  go_enter Tryz.func124, Tryz.ntmps124
  go_wp2_with fail
  refine (accept_any Sq.bWhere H.out).mono ?_
  rintro e w1 ⟨rfl, hp1, ht1⟩
  have HT1 : Hid _ := ht1
  clear ht1
  cases hB : Sq.acceptB ws st Sq.bWhere
  case true =>
    have hps := accept_pos hB
    rw [acceptS_yes hB] at hp1
    have HE : Hid (Sq.whereS ws st = Sq.cond ws (8 * ws.length + 7) 0 (Sq.step1 st)) := by show _ = _; unfold Sq.whereS; rw [if_pos hB]
    have HP1 : Hid _ := hp1
    clear hp1 hB
    go_wp2_with fail
    refine ((cond_all _ _ (Nat.le_refl (8 * ws.length + 7))).1 pb lv ws r w1 (Sq.step1 st) HP1.out (by show st.wher.length ≤ 2 * (st.pos + 1); omega) (by omega)).mono ?_
    rintro e w2 ⟨rfl, ⟨r2, hp2⟩, hb2⟩
    have HP2 : Hid _ := hp2
    clear hp2
    go_wp2
    go_end0
    exact ⟨rfl, ⟨r2, by rw [HE.out]; exact HP2.out⟩, (Tch.below HT1.out (Nat.le_refl _) (by omega)).trans hb2⟩
  case false =>
    rw [acceptS_no hB] at hp1
    have HE : Hid (Sq.whereS ws st = st) := by show _ = _; unfold Sq.whereS; rw [if_neg (by simp [hB])]
    have HP1 : Hid _ := hp1
    clear hp1 hB
    go_wp2
    go_end0
    exact ⟨rfl, ⟨r, by rw [HE.out]; exact HP1.out⟩, Tch.below HT1.out (Nat.le_refl _) (by omega)⟩

end Go.Proofs.YtamkfbelpfpjcaaGreatDoor
