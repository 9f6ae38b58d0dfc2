import Derived.Laws.CopyOwn
import Derived.Test.YtamkfbelpfpjcaaGreatDoorGb
import Derived.Test.YtamkfbelpfpjcaaGreatDoorGf
set_option linter.unusedVariables false
set_option linter.unusedSimpArgs false

namespace Go.Proofs.YtamkfbelpfpjcaaGreatDoor
open Go.RowKit

def entCells (e : Sq.Ent) : List Value := [.int .i64 e.place, .string e.row]
/-- The cells of a node, and the two slices among them. -/
def nodeCells (n : Nat) (x : List (Sq.Kid n) × Value × Value) : List Value := [.bool (n != 0), x.2.1, x.2.2, .int .i64 (Sq.least n x.1), .int .i64 ((Sq.ents n x.1).length : Nat)]
def NodeAt (w : World) : (n : Nat) → List (Sq.Kid n) → Value → Value → Prop
  | 0, es, ev, cv => cv = .slice none 0 0 ∧ w.ownsRow 0 99 2 ev (List.length (α := Sq.Ent) es) (List.flatMap (α := Sq.Ent) entCells es)
  | n + 1, cs, ev, cv => ev = .slice none 0 0 ∧ ∃ l : List (List (Sq.Kid n) × Value × Value), (show List (List (Sq.Kid n)) from cs) = l.map Prod.fst ∧ w.ownsRow 0 44 5 cv l.length (l.flatMap (nodeCells n)) ∧ ∀ x ∈ l, NodeAt w n x.1 x.2.1 x.2.2
/-- A slice of entries. -/
def EntsAt (B : Nat) (w : World) (v : Value) (es : List Sq.Ent) : Prop := w.ownsRow B 99 2 v es.length (es.flatMap entCells)
/-- A slice of nodes. -/
structure NodesAt (B : Nat) (w : World) (v : Value) (n : Nat) (l : List (List (Sq.Kid n) × Value × Value)) : Prop where
  own : w.ownsRow B 44 5 v l.length (l.flatMap (nodeCells n))
  each : ∀ x ∈ l, NodeAt w n x.1 x.2.1 x.2.2

theorem NodeAt.leaf {w : World} {es : List Sq.Ent} {ev cv : Value} (h : NodeAt w 0 es ev cv) : cv = .slice none 0 0 ∧ EntsAt 0 w ev es := h
theorem NodeAt.inner {w : World} {n : Nat} {cs : List (List (Sq.Kid n))} {ev cv : Value} (h : NodeAt w (n + 1) cs ev cv) : ev = .slice none 0 0 ∧ ∃ l, cs = l.map Prod.fst ∧ NodesAt 0 w cv n l := by
  obtain ⟨h1, l, h2, h3, h4⟩ := h
  exact ⟨h1, l, h2, h3, h4⟩
theorem NodeAt.mk {w : World} {n : Nat} {cs : List (List (Sq.Kid n))} {cv : Value} {l : List (List (Sq.Kid n) × Value × Value)} (h1 : cs = l.map Prod.fst) (h2 : NodesAt 0 w cv n l) : NodeAt w (n + 1) cs (.slice none 0 0) cv := ⟨rfl, l, h1, h2.own, h2.each⟩
theorem NodeAt.below : ∀ {n : Nat} {w w' : World} {t : List (Sq.Kid n)} {ev cv : Value}, NodeAt w n t ev cv → Below w.heap.size w w' → NodeAt w' n t ev cv
  | 0, _, _, _, _, _, h, hb => ⟨h.1, ownsRow_below h.2 hb⟩
  | _ + 1, _, _, _, _, _, h, hb => by
    obtain ⟨h1, l, h2, h3, h4⟩ := h
    exact ⟨h1, l, h2, ownsRow_below h3 hb, fun x hx => (h4 x hx).below hb⟩
theorem EntsAt.below {B : Nat} {w w' : World} {v : Value} {es : List Sq.Ent} (h : EntsAt B w v es) (hb : Below w.heap.size w w') : EntsAt B w' v es := ownsRow_below h hb
theorem EntsAt.base {B B' : Nat} {w : World} {v : Value} {es : List Sq.Ent} (h : EntsAt B w v es) (hb : B' ≤ B) : EntsAt B' w v es := ownsRow_base h hb
theorem NodesAt.below {B n : Nat} {w w' : World} {v : Value} {l : List (List (Sq.Kid n) × Value × Value)} (h : NodesAt B w v n l) (hb : Below w.heap.size w w') : NodesAt B w' v n l := ⟨ownsRow_below h.own hb, fun x hx => (h.each x hx).below hb⟩
theorem NodesAt.base {B B' n : Nat} {w : World} {v : Value} {l : List (List (Sq.Kid n) × Value × Value)} (h : NodesAt B w v n l) (hb : B' ≤ B) : NodesAt B' w v n l := ⟨ownsRow_base h.own hb, h.each⟩
/-- The two slices of a node, by their shape. -/
theorem NodeAt.slices : ∀ {n : Nat} {w : World} {t : List (Sq.Kid n)} {ev cv : Value}, NodeAt w n t ev cv → (∃ a k c, ev = .slice a k c) ∧ ∃ a k c, cv = .slice a k c
  | 0, _, _, _, _, h => by
    obtain ⟨a, c, h2⟩ := ownsRow_slice h.2
    exact ⟨⟨a, _, c, h2⟩, ⟨none, 0, 0, h.1⟩⟩
  | n + 1, _, _, _, _, h => by
    obtain ⟨h1, l, h2, h3, h4⟩ := h
    obtain ⟨a, c, h5⟩ := ownsRow_slice h3
    exact ⟨⟨none, 0, 0, h1⟩, ⟨a, _, c, h5⟩⟩
theorem entCells_one (es : List Sq.Ent) : ∀ v ∈ es.flatMap entCells, v.oneCell' = true := by
  intro v hv
  obtain ⟨x, _, hx⟩ := List.mem_flatMap.1 hv
  simp only [entCells, List.mem_cons, List.not_mem_nil, or_false] at hx
  rcases hx with rfl | rfl <;> rfl
theorem NodesAt.one {B n : Nat} {w : World} {v : Value} {l : List (List (Sq.Kid n) × Value × Value)} (h : ∀ x ∈ l, NodeAt w n x.1 x.2.1 x.2.2) : ∀ u ∈ l.flatMap (nodeCells n), u.oneCell' = true := by
  intro u hu
  obtain ⟨x, hx, hux⟩ := List.mem_flatMap.1 hu
  obtain ⟨⟨a, k, c, h1⟩, a', k', c', h2⟩ := (h x hx).slices
  simp only [nodeCells, List.mem_cons, List.not_mem_nil, or_false] at hux
  rcases hux with rfl | rfl | rfl | rfl | rfl
  · rfl
  · rw [h1]; rfl
  · rw [h2]; rfl
  · rfl
  · rfl
/-- What is done to a block of another kind leaves a node alone. -/
theorem NodeAt.same : ∀ {n : Nat} {w w' : World} {t : List (Sq.Kid n)} {ev cv : Value}, NodeAt w n t ev cv → (∀ (g : Nat) (c : Array Value) (e : TypeId) (fr : Nat × Nat), w.heap[g]? = some (Obj.cells c e fr) → (e = 99 ∨ e = 44) → w'.heap[g]? = w.heap[g]?) → NodeAt w' n t ev cv
  | 0, _, _, _, _, _, h, hs => by
    refine ⟨h.1, h.2.1, ?_⟩
    rcases h.2.2 with h0 | ⟨g, cap, cur, hv, hbg, hh, hn, hm, hc, ht⟩
    · exact Or.inl h0
    · exact Or.inr ⟨g, cap, cur, hv, hbg, (hs g _ _ _ hh (Or.inl rfl)).trans hh, hn, hm, hc, ht⟩
  | _ + 1, _, _, _, _, _, h, hs => by
    obtain ⟨h1, l, h2, h3, h4⟩ := h
    refine ⟨h1, l, h2, ⟨h3.1, ?_⟩, fun x hx => (h4 x hx).same hs⟩
    rcases h3.2 with h0 | ⟨g, cap, cur, hv, hbg, hh, hn, hm, hc, ht⟩
    · exact Or.inl h0
    · exact Or.inr ⟨g, cap, cur, hv, hbg, (hs g _ _ _ hh (Or.inr rfl)).trans hh, hn, hm, hc, ht⟩

/-- The cells of entry k. -/
theorem EntsAt.at {B : Nat} {w : World} {v : Value} {es : List Sq.Ent} (h : EntsAt B w v es) (k : Nat) (hk : k < es.length) :
    ∃ g cap, v = .slice (some ⟨g, 0, none⟩) es.length cap ∧ g < w.heap.size ∧ w.cell? ⟨g, k * 2, none⟩ = some (.int .i64 es[k].place) ∧ w.cell? ⟨g, k * 2 + 1, none⟩ = some (.string es[k].row) := by
  obtain ⟨g, cap, hv, hg, hc⟩ := sl_at (f := entCells) (fun _ => rfl) h k hk
  have c0 := hc 0 (.int .i64 es[k].place) (by decide) rfl
  have c1 := hc 1 (.string es[k].row) (by decide) rfl
  exact ⟨g, cap, hv, hg, by simpa using c0, c1⟩
/-- The cells of node k. -/
theorem NodesAt.at {B n : Nat} {w : World} {v : Value} {l : List (List (Sq.Kid n) × Value × Value)} (h : NodesAt B w v n l) (k : Nat) (hk : k < l.length) :
    ∃ g cap ea el ec ca cl cc, v = .slice (some ⟨g, 0, none⟩) l.length cap ∧ g < w.heap.size ∧ w.cell? ⟨g, k * 5, none⟩ = some (.bool (n != 0)) ∧ w.cell? ⟨g, k * 5 + 1, none⟩ = some (.slice ea el ec) ∧ w.cell? ⟨g, k * 5 + 2, none⟩ = some (.slice ca cl cc) ∧
      w.cell? ⟨g, k * 5 + 3, none⟩ = some (.int .i64 (Sq.least n l[k].1)) ∧ w.cell? ⟨g, k * 5 + 4, none⟩ = some (.int .i64 ((Sq.ents n l[k].1).length : Nat)) ∧ l[k].2 = (.slice ea el ec, .slice ca cl cc) ∧ NodeAt w n l[k].1 (.slice ea el ec) (.slice ca cl cc) := by
  obtain ⟨g, cap, hv, hg, hc⟩ := sl_at (f := nodeCells n) (fun _ => rfl) h.own k hk
  have ht := h.each l[k] (List.getElem_mem hk)
  obtain ⟨⟨ea, el, ec, h1⟩, ca, cl, cc, h2⟩ := ht.slices
  have c0 := hc 0 (.bool (n != 0)) (by decide) rfl
  have c1 := hc 1 l[k].2.1 (by decide) rfl
  have c2 := hc 2 l[k].2.2 (by decide) rfl
  have c3 := hc 3 (.int .i64 (Sq.least n l[k].1)) (by decide) rfl
  have c4 := hc 4 (.int .i64 ((Sq.ents n l[k].1).length : Nat)) (by decide) rfl
  rw [h1] at c1 ht
  rw [h2] at c2 ht
  exact ⟨g, cap, ea, el, ec, ca, cl, cc, hv, hg, by simpa using c0, c1, c2, c3, c4, by rw [← h1, ← h2], ht⟩

namespace Sq
theorem okT_len : ∀ {n : Nat} {t : List (Kid n)}, okT n t → t.length ≤ (ents n t).length
  | 0, _, _ => Nat.le_refl _
  | n + 1, cs, h => by
    show List.length cs ≤ (List.flatMap (ents n) cs).length
    have : ∀ l : List (List (Kid n)), (∀ c ∈ l, c ∈ (show List (List (Kid n)) from cs)) → l.length ≤ (l.flatMap (ents n)).length := by
      intro l
      induction l with
      | nil => intro _; simp
      | cons c r ih =>
        intro hl
        have h2 := okT_mem h (hl c (by simp))
        have h3 := okT_len h2.2
        have h4 := ih fun x hx => hl x (by simp [hx])
        rw [List.flatMap_cons, List.length_append, List.length_cons]
        omega
    exact this cs fun c hc => hc
theorem ents_mem_len {n : Nat} {cs : List (List (Kid n))} {c : List (Kid n)} (h : c ∈ cs) : (ents n c).length ≤ (ents (n + 1) cs).length := by
  obtain ⟨l1, l2, rfl⟩ := List.append_of_mem h
  rw [kid_mid]
  simp only [List.length_append]
  omega
end Sq

end Go.Proofs.YtamkfbelpfpjcaaGreatDoor

namespace Go.Proofs.YtamkfbelpfpjcaaGreatDoor
open Go.RowKit

/-- A slice, or a part of one, whose cells read so. -/
def Reads (w : World) (v : Value) (n size : Nat) (cs : List Value) : Prop :=
  cs.length = n * size ∧ ((v = .slice none 0 0 ∧ n = 0) ∨ ∃ g off cap, v = .slice (some ⟨g, off, none⟩) n cap ∧ g < w.heap.size ∧ ∀ j u, cs[j]? = some u → w.cell? ⟨g, off + j, none⟩ = some u)
theorem add_off (g off j : Nat) : (⟨g, off, none⟩ : Addr).add j = ⟨g, off + j, none⟩ := by unfold Addr.add; split <;> simp_all
theorem Reads.of_own {w : World} {B : Nat} {e : TypeId} {size : Nat} {v : Value} {n : Nat} {cs : List Value} (h : w.ownsRow B e size v n cs) : Reads w v n size cs := by
  refine ⟨h.1, ?_⟩
  rcases Nat.eq_zero_or_pos n with h0 | h0
  · rcases h.2 with h1 | ⟨g, cap, cur, hv, hbg, hh, hn, hm, hc, ht⟩
    · exact Or.inl h1
    · refine Or.inr ⟨g, 0, cap, hv, lt_blk hh, fun j u hj => ?_⟩
      have : cs = [] := by have := h.1; rw [h0] at this; simpa using this
      rw [this] at hj; simp at hj
  · obtain ⟨g, cap, rfl, _, hlt⟩ := h.form h0
    refine Or.inr ⟨g, 0, cap, rfl, hlt, fun j u hj => ?_⟩
    have := h.cells (g := g) rfl j u hj
    rwa [add_off] at this
theorem Reads.slice {w : World} {size : Nat} {v : Value} {n : Nat} {cs : List Value} (h : Reads w v n size cs) : ∃ ao cap, v = .slice ao n cap := by
  rcases h.2 with ⟨h1, h2⟩ | ⟨g, off, cap, h1, _⟩
  · exact ⟨none, 0, by rw [h1, h2]⟩
  · exact ⟨_, cap, h1⟩
theorem Reads.below {w w' : World} {size : Nat} {v : Value} {n : Nat} {cs : List Value} (h : Reads w v n size cs) (hb : Below w.heap.size w w') : Reads w' v n size cs := by
  refine ⟨h.1, ?_⟩
  rcases h.2 with h1 | ⟨g, off, cap, h1, h2, h3⟩
  · exact Or.inl h1
  · exact Or.inr ⟨g, off, cap, h1, Nat.lt_of_lt_of_le h2 hb.size, fun j u hj => ((bcell hb).1 g (off + j) h2).trans (h3 j u hj)⟩

theorem run_copy_reads {P : Program} (w : World) (t ty e : TypeId) (i : TypeInfo) (size : Nat) (hu : P.underlying t = some (.slice e)) (hi : P.info? e = some i) (hz1 : i.size = size)
    (base : Nat) (g n cap : Nat) (so : Option Addr) (sc : Nat) (zs cs : List Value)
    (hod : w.ownsRow base e size (.slice (some ⟨g, 0, none⟩) n cap) n zs) (hos : Reads w (.slice so n sc) n size cs) (h1 : ∀ v ∈ cs, v.oneCell' = true) :
    ∃ w', (Builtin.copy_ #[t, t] ty #[.slice (some ⟨g, 0, none⟩) n cap, .slice so n sc]).run P w = .ok (goInt n) w' ∧ w'.ownsRow base e size (.slice (some ⟨g, 0, none⟩) n cap) n cs ∧ Below base w w' := by
  obtain ⟨hzl, hz⟩ := hod
  obtain ⟨hcl, hc⟩ := hos
  rcases hz with ⟨h, _⟩ | ⟨g', cap', cur, hv, hbg, hh, hn, hmx, hcs, ht⟩
  · simp at h
  simp only [Value.slice.injEq, Option.some.injEq, Addr.mk.injEq] at hv
  obtain ⟨⟨rfl, -, -⟩, -, rfl⟩ := hv
  rcases hc with ⟨h, h0⟩ | ⟨g2, off, cap2, hv2, hbg2, hsr⟩
  · simp only [Value.slice.injEq] at h
    obtain ⟨rfl, -, rfl⟩ := h
    subst h0
    have hc0 : cs = [] := by simpa using hcl
    have hz0 : zs = [] := by simpa using hzl
    subst hc0
    refine ⟨w, ?_, ⟨by simp, Or.inr ⟨g, cap, cur, rfl, hbg, hh, hn, hmx, hcs, by simp⟩⟩, Below.refl _ _⟩
    simp [Builtin.copy_, run_underlying hu, Builtin.lenOf, Builtin.firstCells, sizeOf, typeInfo, hi, storeCells]
  · simp only [Value.slice.injEq] at hv2
    obtain ⟨rfl, -, rfl⟩ := hv2
    have hsrc : ∀ j v, cs[j]? = some v → w.cell? ((⟨g2, off, none⟩ : Addr).add j) = some v := by
      intro j v hj
      rw [add_off]
      exact hsr j v hj
    have hl := run_loadCells_list (P := P) w ⟨g2, off, none⟩ cs hsrc
    have hmul : n * size ≤ cap * size := Nat.mul_le_mul_right _ hn
    have hst := run_storeCells_at P g 0 e cs 0 cur w hh (by omega) h1
    refine ⟨_, ?_, ⟨hcl, Or.inr ⟨g, cap, (cur.toList.take 0 ++ cs ++ cur.toList.drop (0 + 0 + cs.length)).toArray, rfl, hbg, setRow_heap w g cur _ e _ hh, hn, hmx, ?_, ?_⟩⟩, below_setRow (Below.refl _ _) hbg _⟩
    · rw [hcl] at hl
      simp [Builtin.copy_, run_underlying hu, Builtin.lenOf, Builtin.firstCells, sizeOf, typeInfo, hi, hz1, hl, hst]
    · simp; omega
    · simp [hcl]

theorem Tryz.infoEnt : (Tryz.prog.info? 99).map (fun i => (i.zero, i.size, i.bytes)) = some (some (.agg #[.int .i64 0, .string ⟨#[]⟩]), 2, 24) := by kernel_rfl
theorem Tryz.infoNode : (Tryz.prog.info? 44).map (fun i => (i.zero, i.size, i.bytes)) = some (some (.agg #[.bool false, .slice none 0 0, .slice none 0 0, .int .i64 0, .int .i64 0]), 5, 72) := by kernel_rfl
def node0 : Array Value := #[.bool false, .slice none 0 0, .slice none 0 0, .int .i64 0, .int .i64 0]
theorem heap_alloc1 (w : World) (o : Obj) : (w.alloc o).heap.size = w.heap.size + 1 := by simp

/-- The five stores into a block. -/
def set5 (w : World) (b : Nat) (x0 x1 x2 x3 x4 : Value) : World :=
  ((((w.setCell ⟨b, 0, none⟩ x0).setCell ⟨b, 1, none⟩ x1).setCell ⟨b, 2, none⟩ x2).setCell ⟨b, 3, none⟩ x3).setCell ⟨b, 4, none⟩ x4
theorem set5_other (w : World) (b : Nat) (x0 x1 x2 x3 x4 : Value) {g : Nat} (h : g ≠ b) : (set5 w b x0 x1 x2 x3 x4).heap[g]? = w.heap[g]? := by
  unfold set5
  rw [heap_set_other h, heap_set_other h, heap_set_other h, heap_set_other h, heap_set_other h]
theorem set5_below {B b : Nat} {W w : World} (hb : Below B W w) (h : B ≤ b) (x0 x1 x2 x3 x4 : Value) : Below B W (set5 w b x0 x1 x2 x3 x4) := by
  unfold set5
  exact Below.setCell (B := B) (Below.setCell (B := B) (Below.setCell (B := B) (Below.setCell (B := B) (Below.setCell (B := B) hb h _) h _) h _) h _) h _

theorem own_lt {w : World} {B : Nat} {e : TypeId} {size g : Nat} {n cap : Nat} {cs : List Value} (h : w.ownsRow B e size (.slice (some ⟨g, 0, none⟩) n cap) n cs) : g < w.heap.size := by
  rcases h.2 with ⟨h1, _⟩ | ⟨g', cap', cur, hv, hbg, hh, hn, hm, hc, ht⟩
  · simp at h1
  · simp only [Value.slice.injEq, Option.some.injEq, Addr.mk.injEq] at hv
    obtain ⟨⟨rfl, -, -⟩, -, -⟩ := hv
    exact lt_blk hh
/-- The cells of a new node. -/
theorem five_cells {w : World} {b : Nat} (h : w.heap[b]? = some (.cells node0 44)) :
    w.cell? ⟨b, 0, none⟩ = some (.bool false) ∧ w.cell? ⟨b, 1, none⟩ = some (.slice none 0 0) ∧ w.cell? ⟨b, 2, none⟩ = some (.slice none 0 0) ∧ w.cell? ⟨b, 3, none⟩ = some (.int .i64 0) ∧ w.cell? ⟨b, 4, none⟩ = some (.int .i64 0) :=
  ⟨by rw [cell_blk h]; rfl, by rw [cell_blk h]; rfl, by rw [cell_blk h]; rfl, by rw [cell_blk h]; rfl, by rw [cell_blk h]; rfl⟩
theorem five_frozen {w : World} {b : Nat} {c : Array Value} (h : w.heap[b]? = some (.cells c 44)) :
    w.frozen? ⟨b, 0, none⟩ = false ∧ w.frozen? ⟨b, 1, none⟩ = false ∧ w.frozen? ⟨b, 2, none⟩ = false ∧ w.frozen? ⟨b, 3, none⟩ = false ∧ w.frozen? ⟨b, 4, none⟩ = false :=
  ⟨frozen_blk h _, frozen_blk h _, frozen_blk h _, frozen_blk h _, frozen_blk h _⟩
theorem alloc_here (w : World) (o : Obj) : (w.alloc o).heap[w.heap.size]? = some o := by show (w.heap.push o)[w.heap.size]? = some o; simp

set_option maxRecDepth 100000 in
set_option maxHeartbeats 1000000 in
theorem leaf_any (es : List Sq.Ent) (v : Value) (w : World) (h : Reads w v es.length 2 (es.flatMap entCells)) (hl : es.length ≤ 1000) :
    Calls Tryz.prog 139 #[v] w fun e w' => ∃ ev, e = .returned (.agg (nodeCells 0 (es, ev, .slice none 0 0)).toArray) ∧ EntsAt w.heap.size w' ev es ∧ Below w.heap.size w w' := by
  obtain ⟨i0, hi, hz0, hz1, hz2⟩ := info_parts Tryz.infoEnt
  obtain ⟨ao, acap, rfl⟩ := h.slice
  have hone := entCells_one es
  have hfst : ∀ h : 0 < es.length, (es.flatMap entCells)[0]? = some (.int .i64 es[0].place) := by
    intro h
    cases es with
    | nil => simp at h
    | cons x r => rfl
  have hle : ∀ h : 0 < es.length, Sq.least 0 es = es[0].place := by
    intro h
    cases es with
    | nil => simp at h
    | cons x r => rfl
  obtain ⟨cs, hcs⟩ : ∃ x, x = es.flatMap entCells := ⟨_, rfl⟩
  rw [← hcs] at h hone hfst
  have hW : ∀ o, Below w.heap.size w (w.alloc o) := fun o => (Below.refl _ _).alloc (Nat.le_refl _) _
  have HOWN := hd h
  have HONE := hd hone
  have HCS := hd hcs
  have HF := hd hfst
  have HLE := hd hle
  have HW := hd hW
  clear h hone hcs hW hfst hle
  rcases Nat.eq_zero_or_pos es.length with h0 | h0
  · have h0' : es = [] := by simpa using h0
    subst h0'
    go_enter Tryz.func139, Tryz.ntmps139
    go_wp2_with (at_make; refine wpList_make_full _ rfl (.tmp 6) (.tmp 6) 41 rfl (w.heap.size + 1) 99 i0 _ 2 Tryz.underlying41 hi hz0 hz1 .i64 .i64 _ _ 0 rfl rfl rfl rfl (by rw [hz2]; omega) (by unfold maxLen; omega) (by simp) ?_; intro w1 hown1 hgrow1; rw [heap_alloc1] at hown1; have hb1 := Tch.of_grown (pb := w.heap.size + 1) hgrow1 (fun k hk => by cases hk) (by simp); have hbw1 := (HW.out _).trans (hb1.mono (by omega)); obtain ⟨w2, hrun, hown2, hb2⟩ := run_copy_reads w1 41 3 99 i0 2 Tryz.underlying41 hi hz1 (w.heap.size + 1) _ 0 _ _ _ _ cs hown1 (HOWN.out.below hbw1) HONE.out; have hb12 := hb1.trans hb2; have hblk := (hb12.block w.heap.size (by omega)).trans (alloc_here w _); obtain ⟨b0, b1, b2, b3, b4⟩ := five_cells hblk; obtain ⟨f0, f1, f2, f3, f4⟩ := five_frozen hblk; have hlt2 := own_lt hown2; have hlt3 : w.heap.size < w2.heap.size := (by omega); have HB2 := hd hb12; have HO2 := hd hown2; clear hown1 hgrow1 hb1 hbw1 hown2 hb2 hb12 hblk)
    have hbw2 : Below w.heap.size w w2 := (HW.out _).trans (HB2.out.mono (by omega))
    refine bodyPost_ret (v := .agg (nodeCells 0 (([] : List Sq.Ent), .slice (some ⟨w.heap.size + 1, 0, none⟩) 0 0, .slice none 0 0)).toArray) (by simp [results, Tryz.results139, go_sem, nodeCells, Sq.least, Sq.ents, *]) rfl ⟨_, rfl, ?_, ?_⟩
    · have ho := HO2.out
      rw [HCS.out] at ho
      exact ownsRow_base (ownsRow_below (ownsRow_same ho fun k hk => set5_other w2 w.heap.size _ _ _ _ _ (fun e => by have := (World.ownsRow.lt ho k hk).1; omega)) ((Below.refl _ _).alloc (Nat.le_refl _) _)) (by omega)
    · exact Below.alloc (B := w.heap.size) (set5_below hbw2 (Nat.le_refl _) _ _ _ _ _) (by simp [set5]; omega) _
  · have hle := HLE.out h0
    have HLE2 := hd hle
    have hcs0 := HF.out h0
    have HC0 := hd hcs0
    obtain ⟨p0, hp0⟩ : ∃ x, x = es[0].place := ⟨_, rfl⟩
    rw [← hp0] at hcs0 hle
    have HC0 := hd hcs0
    have HLE2 := hd hle
    clear hcs0 hle hp0 HF HLE
    go_enter Tryz.func139, Tryz.ntmps139
    go_wp2_with (at_make; refine wpList_make_full _ rfl (.tmp 6) (.tmp 6) 41 rfl (w.heap.size + 1) 99 i0 _ 2 Tryz.underlying41 hi hz0 hz1 .i64 .i64 _ _ es.length rfl rfl rfl rfl (by rw [hz2]; omega) (by unfold maxLen; omega) (by simp) ?_; intro w1 hown1 hgrow1; rw [heap_alloc1] at hown1; have hb1 := Tch.of_grown (pb := w.heap.size + 1) hgrow1 (fun k hk => by cases hk) (by simp); have hbw1 := (HW.out _).trans (hb1.mono (by omega)); obtain ⟨w2, hrun, hown2, hb2⟩ := run_copy_reads w1 41 3 99 i0 2 Tryz.underlying41 hi hz1 (w.heap.size + 1) _ es.length _ _ _ _ cs hown1 (HOWN.out.below hbw1) HONE.out; have hb12 := hb1.trans hb2; have hblk := (hb12.block w.heap.size (by omega)).trans (alloc_here w _); obtain ⟨b0, b1, b2, b3, b4⟩ := five_cells hblk; obtain ⟨f0, f1, f2, f3, f4⟩ := five_frozen hblk; have hlt2 := own_lt hown2; have hlt3 : w.heap.size < w2.heap.size := (by omega); have e0 := hown2.cells (g := w.heap.size + 1) rfl 0 _ HC0.out; rw [add_off] at e0; have HB2 := hd hb12; have HO2 := hd hown2; clear hown1 hgrow1 hb1 hbw1 hown2 hb2 hb12 hblk)
    have hbw2 : Below w.heap.size w w2 := (HW.out _).trans (HB2.out.mono (by omega))
    refine bodyPost_ret (v := .agg (nodeCells 0 (es, .slice (some ⟨w.heap.size + 1, 0, none⟩) es.length es.length, .slice none 0 0)).toArray) (by simp [results, Tryz.results139, go_sem, nodeCells, Sq.ents, HLE2.out, *]) rfl ⟨_, rfl, ?_, ?_⟩
    · have ho := HO2.out
      rw [HCS.out] at ho
      exact ownsRow_base (ownsRow_below (ownsRow_same ho fun k hk => set5_other w2 w.heap.size _ _ _ _ _ (fun e => by have := (World.ownsRow.lt ho k hk).1; omega)) ((Below.refl _ _).alloc (Nat.le_refl _) _)) (by omega)
    · exact Below.alloc (B := w.heap.size) (set5_below hbw2 (Nat.le_refl _) _ _ _ _ _) (by simp [set5]; omega) _

end Go.Proofs.YtamkfbelpfpjcaaGreatDoor

namespace Go.Proofs.YtamkfbelpfpjcaaGreatDoor
open Go.RowKit

/-- A part of a slice of nodes. -/
structure NodesRd (w : World) (v : Value) (n : Nat) (l : List (List (Sq.Kid n) × Value × Value)) : Prop where
  rd : Reads w v l.length 5 (l.flatMap (nodeCells n))
  each : ∀ x ∈ l, NodeAt w n x.1 x.2.1 x.2.2
theorem NodesAt.rd {B n : Nat} {w : World} {v : Value} {l : List (List (Sq.Kid n) × Value × Value)} (h : NodesAt B w v n l) : NodesRd w v n l := ⟨Reads.of_own h.own, h.each⟩
theorem NodesRd.below {n : Nat} {w w' : World} {v : Value} {l : List (List (Sq.Kid n) × Value × Value)} (h : NodesRd w v n l) (hb : Below w.heap.size w w') : NodesRd w' v n l := ⟨h.rd.below hb, fun x hx => (h.each x hx).below hb⟩

theorem Sq.ents_take (n : Nat) (l : List (List (Sq.Kid n) × Value × Value)) (k : Nat) (h : k < l.length) : ((l.take (k + 1)).flatMap fun x => Sq.ents n x.1).length = ((l.take k).flatMap fun x => Sq.ents n x.1).length + (Sq.ents n l[k].1).length := by
  rw [List.take_succ_eq_append_getElem h, List.flatMap_append, List.length_append]
  simp
theorem Sq.ents_pairs (n : Nat) (l : List (List (Sq.Kid n) × Value × Value)) : Sq.ents (n + 1) (l.map Prod.fst) = l.flatMap fun x => Sq.ents n x.1 := by
  show List.flatMap (Sq.ents n) (l.map Prod.fst) = _
  rw [List.flatMap_map]
theorem Sq.ents_take_le (n : Nat) (l : List (List (Sq.Kid n) × Value × Value)) (k : Nat) : ((l.take k).flatMap fun x => Sq.ents n x.1).length ≤ (l.flatMap fun x => Sq.ents n x.1).length := by
  conv => rhs; rw [← List.take_append_drop k l, List.flatMap_append, List.length_append]
  omega

set_option maxRecDepth 100000 in
set_option maxHeartbeats 1000000 in
theorem inner_any (n : Nat) (l : List (List (Sq.Kid n) × Value × Value)) (v : Value) (w : World) (h : NodesRd w v n l) (hl : l.length ≤ 1000) (hr : (Sq.ents (n + 1) (l.map Prod.fst)).length ≤ 100000) :
    Calls Tryz.prog 102 #[v] w fun e w' => ∃ cv, e = .returned (.agg (nodeCells (n + 1) (l.map Prod.fst, .slice none 0 0, cv)).toArray) ∧ NodesAt w.heap.size w' cv n l ∧ Below w.heap.size w w' := by
  obtain ⟨i0, hi, hz0, hz1, hz2⟩ := info_parts Tryz.infoNode
  obtain ⟨ao, acap, rfl⟩ := h.rd.slice
  have hone := NodesAt.one (B := 0) (v := .slice none 0 0) h.each
  rw [Sq.ents_pairs] at hr
  obtain ⟨cs, hcs⟩ : ∃ x, x = l.flatMap (nodeCells n) := ⟨_, rfl⟩
  have hrd := h.rd
  rw [← hcs] at hrd hone
  have hW : ∀ o, Below w.heap.size w (w.alloc o) := fun o => (Below.refl _ _).alloc (Nat.le_refl _) _
  have HOWN := hd hrd
  have HEACH := hd h.each
  have HONE := hd hone
  have HCS := hd hcs
  have HW := hd hW
  clear h hrd hone hcs hW
  go_enter Tryz.func102, Tryz.ntmps102
  go_wp2_with (at_make; refine wpList_make_full _ rfl (.tmp 7) (.tmp 7) 42 rfl (w.heap.size + 1) 44 i0 _ 5 Tryz.underlying42 hi hz0 hz1 .i64 .i64 _ _ l.length rfl rfl rfl rfl (by rw [hz2]; omega) (by unfold maxLen; omega) (by simp) ?_; intro w1 hown1 hgrow1; rw [heap_alloc1] at hown1; have hb1 := Tch.of_grown (pb := w.heap.size + 1) hgrow1 (fun k hk => by cases hk) (by simp); have hbw1 := (HW.out _).trans (hb1.mono (by omega)); obtain ⟨w2, hrun, hown2, hb2⟩ := run_copy_reads w1 42 3 44 i0 5 Tryz.underlying42 hi hz1 (w.heap.size + 1) _ l.length _ _ _ _ cs hown1 (HOWN.out.below hbw1) HONE.out; have hb12 := hb1.trans hb2; have hblk := (hb12.block w.heap.size (by omega)).trans (alloc_here w _); have hlt2 := own_lt hown2; have hlt3 : w.heap.size < w2.heap.size := (by omega); have HB2 := hd hb12; have HO2 := hd hown2; have HBLK := hd hblk; clear hown1 hgrow1 hb1 hbw1 hown2 hb2 hb12 hblk)
  have hbw2 : Below w.heap.size w w2 := (HW.out _).trans (HB2.out.mono (by omega))
  have HNA : Hid (NodesAt (w.heap.size + 1) w2 (.slice (some ⟨w.heap.size + 1, 0, none⟩) l.length l.length) n l) := by
    refine ⟨?_, fun x hx => (HEACH.out x hx).below hbw2⟩
    have := HO2.out
    rw [HCS.out] at this
    exact this
  have HBW2 := hd hbw2
  clear hbw2 hrun HO2 HB2 HOWN
  go_loopw [5] (fun i wr => ∃ k : Nat, k ≤ l.length ∧ i = .int .i64 k ∧ wr.heap[w2.heap.size]? = some (.cells #[.bool true, .slice none 0 0, .slice (some ⟨w.heap.size + 1, 0, none⟩) l.length l.length, .int .i64 0, .int .i64 (((l.take k).flatMap fun x => Sq.ents n x.1).length : Nat)] 44) ∧ Below w2.heap.size w2 wr) (fun i _ => l.length - (intOf i).toNat)
  case atStart => exact ⟨0, Nat.zero_le _, rfl, alloc_here w2 _, (Below.refl _ _).alloc (Nat.le_refl _) _⟩
  case round =>
    obtain ⟨k, hk, rfl, hblk, hb⟩ := hrel
    have c0 : wr.cell? ⟨w2.heap.size, 0, none⟩ = some (.bool true) := by rw [cell_blk hblk]; rfl
    have c1 : wr.cell? ⟨w2.heap.size, 1, none⟩ = some (.slice none 0 0) := by rw [cell_blk hblk]; rfl
    have c2 : wr.cell? ⟨w2.heap.size, 2, none⟩ = some (.slice (some ⟨w.heap.size + 1, 0, none⟩) l.length l.length) := by rw [cell_blk hblk]; rfl
    have c3 : wr.cell? ⟨w2.heap.size, 3, none⟩ = some (.int .i64 0) := by rw [cell_blk hblk]; rfl
    have c4 : wr.cell? ⟨w2.heap.size, 4, none⟩ = some (.int .i64 (((l.take k).flatMap fun x => Sq.ents n x.1).length : Nat)) := by rw [cell_blk hblk]; rfl
    obtain ⟨f0, f1, f2, f3, f4⟩ := five_frozen hblk
    have hle := Sq.ents_take_le n l k
    have hlt4 := lt_blk hblk
    have HBLK2 := hd hblk
    have HB := hd hb
    clear hblk hb
    by_cases hlt : k < l.length
    · obtain ⟨g, cap', ea, el, ec, ca, cl, cc, hv, hg, d0, d1, d2, d3, d4, d5, d6⟩ := (HNA.out.below HB.out).at k hlt
      simp only [Value.slice.injEq, Option.some.injEq, Addr.mk.injEq] at hv
      obtain ⟨⟨rfl, -, -⟩, -, rfl⟩ := hv
      have HST := hd (Sq.ents_take n l k hlt)
      have hle2 := Sq.ents_take_le n l (k + 1)
      have hst := HST.out
      obtain ⟨q, hq⟩ : ∃ x, x = (Sq.ents n l[k].1).length := ⟨_, rfl⟩
      obtain ⟨z, hz⟩ : ∃ x, x = ((l.take k).flatMap fun x => Sq.ents n x.1).length := ⟨_, rfl⟩
      rw [hst] at hle2
      rw [← hq] at d4 hst hle2
      rw [← hz] at c4 hst hle2 hle
      have HZ := hd hz
      have HST2 := hd hst
      clear hst HST hq hz d0 d1 d2 d3 d5 d6 c0 c1 c2 c3
      go_wp2
      go_region
      all_goals (try go_wp2)
      go_roundw
      case rel =>
        refine ⟨k + 1, by omega, by go_num, ?_, Below.drew (Below.setCell (B := w2.heap.size) HB.out (Nat.le_refl _) _)⟩
        have hb2 := HBLK2.out
        rw [← HZ.out] at hb2
        show (wr.setCell _ _).heap[w2.heap.size]? = _
        rw [heap_set_same hb2, HST2.out]
        simp
      case measure => simp [intOf]; omega
    · have HST : Hid (((l.take k).flatMap fun x => Sq.ents n x.1).length = (Sq.ents (n + 1) (l.map Prod.fst)).length) := by show _ = _; rw [List.take_of_length_le (by omega), Sq.ents_pairs]
      have hblkA := (HB.out.block w.heap.size (by omega)).trans HBLK.out
      obtain ⟨b0, b1, b2, b3, b4⟩ := five_cells hblkA
      obtain ⟨e0, e1, e2, e3, e4⟩ := five_frozen hblkA
      have hltA := lt_blk hblkA
      rw [HST.out] at c4
      obtain ⟨z, hz⟩ : ∃ x, x = (Sq.ents (n + 1) (l.map Prod.fst)).length := ⟨_, rfl⟩
      rw [← hz] at c4
      have HZ := hd hz
      have hll : ¬ (k < l.length) := hlt
      have HBA := hd hblkA
      clear hz hblkA HST
      rcases Nat.eq_zero_or_pos l.length with h0 | h0
      · have h0' : l = [] := by simpa using h0
        subst h0'
        have hbf : Below w.heap.size w wr := HBW2.out.trans (HB.out.mono (by omega))
        have ho := (HNA.out.below HB.out).own
        have HO := hd ho
        have HBF := hd hbf
        have HLE : Hid (Sq.least (n + 1) (([] : List (List (Sq.Kid n) × Value × Value)).map Prod.fst) = 0) := rfl
        clear ho hbf
        go_wp2
        refine bodyPost_ret (v := .agg (nodeCells (n + 1) (([] : List (List (Sq.Kid n) × Value × Value)).map Prod.fst, .slice none 0 0, .slice (some ⟨w.heap.size + 1, 0, none⟩) 0 0)).toArray) (by simp only [nodeCells, HLE.out, ← HZ.out]; simp [results, Tryz.results102, go_sem, *]) rfl ⟨_, rfl, ⟨?_, fun x hx => by cases hx⟩, ?_⟩
        · exact ownsRow_base (ownsRow_same HO.out fun k hk => set5_other wr w.heap.size _ _ _ _ _ (fun e => by have := (World.ownsRow.lt HO.out k hk).1; omega)) (by omega)
        · exact set5_below HBF.out (Nat.le_refl _) _ _ _ _ _
      · obtain ⟨g, cap', ea, el, ec, ca, cl, cc, hv, hg, d0, d1, d2, d3, d4, d5, d6⟩ := (HNA.out.below HB.out).at 0 h0
        simp only [Value.slice.injEq, Option.some.injEq, Addr.mk.injEq] at hv
        obtain ⟨⟨rfl, -, -⟩, -, rfl⟩ := hv
        have HLE : Hid (Sq.least (n + 1) (l.map Prod.fst) = Sq.least n l[0].1) := by
          cases l with
          | nil => simp at h0
          | cons x r => rfl
        obtain ⟨p0, hp0⟩ : ∃ x, x = Sq.least n l[0].1 := ⟨_, rfl⟩
        have hle0 := HLE.out
        rw [← hp0] at d3 hle0
        have HLE2 := hd hle0
        clear hp0 hle0 HLE d0 d1 d2 d4 d5 d6
        simp only [Nat.zero_mul, Nat.zero_add] at d3
        have hbf : Below w.heap.size w wr := HBW2.out.trans (HB.out.mono (by omega))
        have ho := (HNA.out.below HB.out).own
        have HO := hd ho
        have HBF := hd hbf
        clear ho hbf
        go_wp2
        refine bodyPost_ret (v := .agg (nodeCells (n + 1) (l.map Prod.fst, .slice none 0 0, .slice (some ⟨w.heap.size + 1, 0, none⟩) l.length l.length)).toArray) (by simp only [nodeCells, HLE2.out, ← HZ.out]; simp [results, Tryz.results102, go_sem, *]) rfl ⟨_, rfl, ?_, ?_⟩
        · have hbF : Below w.heap.size w (set5 (wr.setCell ⟨w2.heap.size, 3, none⟩ (.int .i64 p0)) w.heap.size (.bool true) (.slice none 0 0) (.slice (some ⟨w.heap.size + 1, 0, none⟩) l.length l.length) (.int .i64 p0) (.int .i64 z)) := set5_below (Below.setCell (B := w.heap.size) HBF.out (Nat.le_of_lt hlt3) _) (Nat.le_refl _) _ _ _ _ _
          refine ⟨ownsRow_base (ownsRow_same HO.out fun k hk => ?_) (by omega), fun x hx => (HEACH.out x hx).below hbF⟩
          have hk' : w.heap.size + 1 = k := by simpa [Value.ownBlock] using hk
          exact (set5_other _ w.heap.size _ _ _ _ _ (by omega)).trans (heap_set_other (by omega))
        · exact set5_below (Below.setCell (B := w.heap.size) HBF.out (Nat.le_of_lt hlt3) _) (Nat.le_refl _) _ _ _ _ _

end Go.Proofs.YtamkfbelpfpjcaaGreatDoor

namespace Go.Proofs.YtamkfbelpfpjcaaGreatDoor
open Go.RowKit

theorem nodeCells_arr (n : Nat) (x : List (Sq.Kid n) × Value × Value) : (nodeCells n x).toArray = #[.bool (n != 0), x.2.1, x.2.2, .int .i64 (Sq.least n x.1), .int .i64 ((Sq.ents n x.1).length : Nat)] := rfl

set_option maxRecDepth 100000 in
set_option maxHeartbeats 400000 in
theorem size_any (n : Nat) (t : List (Sq.Kid n)) (ev cv : Value) (w : World) (h : NodeAt w n t ev cv) (hl : t.length ≤ 1000) :
    Calls Tryz.prog 66 #[.agg (nodeCells n (t, ev, cv)).toArray] w fun e w' => e = .returned (.int .i64 t.length) ∧ Below w.heap.size w w' := by
  rw [nodeCells_arr]
  have hW : ∀ o, Below w.heap.size w (w.alloc o) := fun o => (Below.refl _ _).alloc (Nat.le_refl _) _
  have HW := hd hW
  clear hW
  cases n with
  | zero =>
    obtain ⟨rfl, h2⟩ := h.leaf
    obtain ⟨ao, cap, rfl⟩ := ownsRow_slice h2
    clear h h2
    go_enter Tryz.func66, Tryz.ntmps66
    go_wp2
    go_ret
    exact ⟨rfl, HW.out _⟩
  | succ n =>
    obtain ⟨rfl, l, hl2, h3⟩ := h.inner
    obtain ⟨ao, cap, rfl⟩ := ownsRow_slice h3.own
    have hll : t.length = l.length := by rw [hl2]; simp
    clear h h3 hl2
    obtain ⟨k, hk⟩ : ∃ k, k = t.length := ⟨_, rfl⟩
    rw [hll] at hl ⊢
    clear hk hll
    go_enter Tryz.func66, Tryz.ntmps66
    go_wp2
    go_ret
    exact ⟨rfl, HW.out _⟩

end Go.Proofs.YtamkfbelpfpjcaaGreatDoor
