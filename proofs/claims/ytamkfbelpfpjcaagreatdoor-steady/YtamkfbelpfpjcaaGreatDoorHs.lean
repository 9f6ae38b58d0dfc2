import Derived.Deep.Cut
import Derived.Deep.RegionHeld3
import Derived.Test.YtamkfbelpfpjcaaGreatDoorHq
import Derived.Test.YtamkfbelpfpjcaaGreatDoorHr
import Derived.Test.YtamkfbelpfpjcaaGreatDoorHn
set_option linter.unusedVariables false
set_option linter.unusedSimpArgs false

namespace Go.Proofs.YtamkfbelpfpjcaaGreatDoor
open Go.RowKit

/-- What answered gives: the answer, and the tree behind the statement. -/
def AnsPost (wide : Nat) (rep : ByteArray) (y : Sq.Tree) (w : World) (e : Ending) (w' : World) : Prop :=
  ∃ ev cv, e = .returned (.tuple #[.agg #[.string rep, .string Sq.nobytes, .string (Sq.digT wide y.d y.t)], .agg (nodeCells y.d (y.t, ev, cv)).toArray]) ∧ NodeAt w' y.d y.t ev cv ∧ Below w.heap.size w w'
/-- The three cells of answered. -/
structure Bctx (w : World) (S : Array Value) (X : World) : Prop where
  below : Below w.heap.size w X
  sto : X.heap[w.heap.size]? = some (.cells S 46)
  ans : X.heap[w.heap.size + 1]? = some (.cells #[.string ⟨#[]⟩, .string ⟨#[]⟩, .string ⟨#[]⟩] 34)
  res : X.heap[w.heap.size + 1 + 1]? = some (.cells node0 46)
theorem Bctx.next {w : World} {S : Array Value} {X Y : World} (h : Bctx w S X) (hb : Below X.heap.size X Y) : Bctx w S Y :=
  ⟨h.below.trans (hb.mono h.below.size), (hb.block _ (lt_blk h.sto)).trans h.sto, (hb.block _ (lt_blk h.ans)).trans h.ans, (hb.block _ (lt_blk h.res)).trans h.res⟩
theorem ans3 {w : World} {b : Nat} {a0 a1 a2 : Value} (h : w.heap[b]? = some (.cells #[a0, a1, a2] 34)) : w.cell? ⟨b, 0, none⟩ = some a0 ∧ w.cell? ⟨b, 1, none⟩ = some a1 ∧ w.cell? ⟨b, 2, none⟩ = some a2 ∧ w.frozen? ⟨b, 0, none⟩ = false ∧ w.frozen? ⟨b, 1, none⟩ = false ∧ w.frozen? ⟨b, 2, none⟩ = false :=
  ⟨by rw [cell_blk h]; rfl, by rw [cell_blk h]; rfl, by rw [cell_blk h]; rfl, frozen_blk h _, frozen_blk h _, frozen_blk h _⟩
theorem out7 {w : World} {b : Nat} {a0 a1 a2 a3 a4 a5 a6 : Value} (h : w.heap[b]? = some (.cells #[a0, a1, a2, a3, a4, a5, a6] 56)) : w.cell? ⟨b, 0, none⟩ = some a0 ∧ w.cell? ⟨b, 1, none⟩ = some a1 ∧ w.cell? ⟨b, 2, none⟩ = some a2 ∧ w.cell? ⟨b, 3, none⟩ = some a3 ∧ w.cell? ⟨b, 4, none⟩ = some a4 ∧ w.cell? ⟨b, 5, none⟩ = some a5 ∧ w.cell? ⟨b, 6, none⟩ = some a6 :=
  ⟨by rw [cell_blk h]; rfl, by rw [cell_blk h]; rfl, by rw [cell_blk h]; rfl, by rw [cell_blk h]; rfl, by rw [cell_blk h]; rfl, by rw [cell_blk h]; rfl, by rw [cell_blk h]; rfl⟩
theorem NodeAt.skipA : ∀ {n : Nat} {w w' : World} {t : List (Sq.Kid n)} {ev cv : Value} {b : Nat} {c : Array Value} {fr : Nat × Nat}, NodeAt w n t ev cv → w.heap[b]? = some (.cells c 34 fr) → (∀ g, g ≠ b → w'.heap[g]? = w.heap[g]?) → NodeAt w' n t ev cv
  | 0, _, _, _, _, _, _, _, _, h, hb, ho => ⟨h.1, ownsRow_out h.2 hb (by decide) ho⟩
  | _ + 1, _, _, _, _, _, _, _, _, h, hb, ho => by
    obtain ⟨h1, l, h2, h3, h4⟩ := h
    exact ⟨h1, l, h2, ownsRow_out h3 hb (by decide) ho, fun x hx => (h4 x hx).skipA hb ho⟩

set_option maxRecDepth 100000 in
set_option maxHeartbeats 4000000 in
theorem answered_any (wide : Nat) (hw : wide ≤ 32) (x : Sq.Tree) (ev cv : Value) (sql : ByteArray) (w : World) (h : NodeAt w x.d x.t ev cv) (hg : Sq.goodN x) (hT : Tbl w) (hR : Rnd w) :
    Calls Tryz.prog 16 #[.int .i64 wide, .agg (nodeCells x.d (x.t, ev, cv)).toArray, .string sql] w (AnsPost wide (Sq.decideN x sql).reply (Sq.afterN x sql) w) := by
  rw [nodeCells_arr]
  obtain ⟨⟨e1, e2, e3, hev⟩, k1, k2, k3, hcv⟩ := h.slices
  subst hev hcv
  have hga := Sq.good_after hg sql
  have hkd : ∀ w', Below w.heap.size w w' → Calls Tryz.prog 18 #[.agg #[.bool (x.d != 0), .slice e1 e2 e3, .slice k1 k2 k3, .int .i64 (Sq.least x.d x.t), .int .i64 ((Sq.ents x.d x.t).length : Nat)], .string sql] w' (OutPost w' (Sq.decideN x sql)) := fun w' hb => Decide_any x _ _ sql w' (h.below hb) hg.fit (hT.below hb) (Sq.parse_ok sql)
  have hka : ∀ ov pv kv w', Below w.heap.size w w' → OutAt w' (Sq.decideN x sql) ov pv kv → Calls Tryz.prog 19 #[.agg #[.bool (x.d != 0), .slice e1 e2 e3, .slice k1 k2 k3, .int .i64 (Sq.least x.d x.t), .int .i64 ((Sq.ents x.d x.t).length : Nat)], .agg (outCells (Sq.decideN x sql) ov pv kv)] w' (NodeOut w' (Sq.afterN x sql)) := fun ov pv kv w' hb ho => Apply_any x _ _ (Sq.decideN x sql) ov pv kv w' (h.below hb) ho (Sq.kept_all hg sql).1
  generalize Sq.afterN x sql = y at *
  generalize Sq.decideN x sql = o at *
  have hkr : ∀ ev cv w', Below w.heap.size w w' → NodeAt w' y.d y.t ev cv → Calls Tryz.prog 17 #[.agg #[.bool (y.d != 0), ev, cv, .int .i64 (Sq.least y.d y.t), .int .i64 ((Sq.ents y.d y.t).length : Nat)], .int .i64 wide] w' fun e w'' => e = .returned (.string (Sq.digT wide y.d y.t)) ∧ Below w'.heap.size w' w'' := fun ev cv w' hb hn => StoreRoot_any wide hw y.d y.t ev cv w' hn hga.ok.kids (Nat.le_trans hga.few (by omega)) (fun e he => (hga.rows e he).1) (hR.below hb)
  have HKD := hd hkd
  have HKA := hd hka
  have HKR := hd hkr
  clear hkd hka hkr h hg hT hR hga
  generalize Sq.least x.d x.t = q3 at *
  generalize (Sq.ents x.d x.t).length = q4 at *
  generalize (x.d != 0) = bn at *
  obtain ⟨W, hW⟩ : ∃ W : World, W = ((w.alloc (.cells #[.bool bn, .slice e1 e2 e3, .slice k1 k2 k3, .int .i64 q3, .int .i64 (q4 : Nat)] 46)).alloc (.cells #[.string ⟨#[]⟩, .string ⟨#[]⟩, .string ⟨#[]⟩] 34)).alloc (.cells #[.bool false, .slice none 0 0, .slice none 0 0, .int .i64 0, .int .i64 0] 46) := ⟨_, rfl⟩
  obtain ⟨hbW, hbox, hbx2, hblk⟩ := three_stores hW
  have HC0 : Hid (Bctx w #[.bool bn, .slice e1 e2 e3, .slice k1 k2 k3, .int .i64 q3, .int .i64 (q4 : Nat)] W) := ⟨hbW, hbox, hbx2, hblk⟩
  clear hbW hbox hbx2 hblk
  go_enter Tryz.func16, Tryz.ntmps16
  go_wp2_with fail
  rw [← hW]
  clear hW
  refine (HKD.out _ HC0.out.below).mono ?_
  rintro e w1 ⟨ov, pv, kv, rfl, ho1, hb1⟩
  obtain ⟨xo, xcap, rfl⟩ := ownsRow_slice ho1.cols.1
  obtain ⟨po, pcap, rfl⟩ := ho1.puts.slice
  obtain ⟨ko, kcap, rfl⟩ := ownsRow_slice ho1.cuts
  have hA1 : Below w1.heap.size w1 (w1.alloc (.cells #[.string o.reply, .bool o.makes, .string o.name, .slice xo o.cols.length xcap, .int .i64 o.table, .slice po o.puts.length pcap, .slice ko o.cuts.length kcap] 56)) := (Below.refl _ _).alloc (Nat.le_refl _) _
  have HC1 := hd ((HC0.out.next hb1).next hA1)
  have HO1 := hd (ho1.below hA1)
  obtain ⟨s0, s1, s2, s3, s4⟩ := store5 (HC0.out.next hb1).sto
  have hz1 := lt_blk (HC0.out.next hb1).sto
  have HBK : Hid ((w1.alloc (.cells #[.string o.reply, .bool o.makes, .string o.name, .slice xo o.cols.length xcap, .int .i64 o.table, .slice po o.puts.length pcap, .slice ko o.cuts.length kcap] 56)).heap[w1.heap.size]? = some (.cells #[.string o.reply, .bool o.makes, .string o.name, .slice xo o.cols.length xcap, .int .i64 o.table, .slice po o.puts.length pcap, .slice ko o.cuts.length kcap] 56)) := alloc_at _ _
  clear ho1 hb1 hA1 HC0
  unfold outCells
  go_wp2_with fail
  refine (HKA.out _ _ _ _ HC1.out.below HO1.out).mono ?_
  rintro e w2 ⟨ev2, cv2, rfl, hn2, hb2⟩
  obtain ⟨⟨g1, g2, g3, hev⟩, j1, j2, j3, hcv⟩ := hn2.slices
  subst hev hcv
  rw [nodeCells_arr]
  have HC2 := hd (HC1.out.next hb2)
  have HB2 := hd ((hb2.block w1.heap.size (by simp)).trans HBK.out)
  have HZ2 := hd (lt_blk HC2.out.res)
  obtain ⟨W2, hW2⟩ : ∃ X : World, X = w2.alloc (.cells #[.bool (y.d != 0), .slice g1 g2 g3, .slice j1 j2 j3, .int .i64 (Sq.least y.d y.t), .int .i64 ((Sq.ents y.d y.t).length : Nat)] 46) := ⟨_, rfl⟩
  have hA2 : Below w2.heap.size w2 W2 := by rw [hW2]; exact (Below.refl _ _).alloc (Nat.le_refl _) _
  have HC3 := hd (HC2.out.next hA2)
  have HN3 := hd (hn2.below hA2)
  have hbk3 := (hA2.block _ (lt_blk HB2.out)).trans HB2.out
  have hst3 : W2.heap[w2.heap.size]? = some (.cells #[.bool (y.d != 0), .slice g1 g2 g3, .slice j1 j2 j3, .int .i64 (Sq.least y.d y.t), .int .i64 ((Sq.ents y.d y.t).length : Nat)] 46) := by rw [hW2]; exact alloc_at _ _
  have HBK3 := hd hbk3
  have HST3 := hd hst3
  clear hn2 hb2 HC1 HO1 HBK HC2 HB2 s0 s1 s2 s3 s4 hz1 hA2
  obtain ⟨b0, -⟩ := out7 hbk3
  obtain ⟨s0, s1, s2, s3, s4⟩ := store5 hst3
  obtain ⟨a0, a1, a2, f0, f1, f2⟩ := ans3 HC3.out.ans
  obtain ⟨t0, t1, t2, t3, t4⟩ := store_cells HC3.out.res
  obtain ⟨r0, r1, r2, r3, r4⟩ := store_frozen HC3.out.res
  have hz1 := lt_blk hbk3
  have hz2 := lt_blk hst3
  have hz3 := lt_blk HC3.out.res
  have hz4 : w.heap.size + 1 < W2.heap.size := by omega
  have hw2 : w.heap.size + 1 + 1 < w2.heap.size := HZ2.out
  have hn1 : ¬ (w2.heap.size = w.heap.size + 1) := by omega
  have hn2 : ¬ (w.heap.size + 1 = w2.heap.size) := by omega
  have hn3 : ¬ (w2.heap.size = w.heap.size + 1 + 1) := by omega
  have hn4 : ¬ (w.heap.size + 1 + 1 = w2.heap.size) := by omega
  clear hbk3 hst3
  go_wp2
  rw [← hW2]
  clear hW2
  go_region_with (go_at_call 17; refine (HKR.out _ _ _ HC3.out.below.drew (HN3.out.below (Below.drew (Below.refl _ _)))).mono ?_; rintro e w5 ⟨rfl, hb5⟩; have hb5' := (Below.drew (Below.refl W2.heap.size W2)).trans hb5; have HC5 := hd (HC3.out.next hb5'); have HN5 := hd (HN3.out.below hb5'); have hbk5 := (hb5'.block _ hz1).trans HBK3.out; have hst5 := (hb5'.block _ hz2).trans HST3.out; obtain ⟨x0, -⟩ := out7 hbk5; obtain ⟨m0, m1, m2, m3, m4⟩ := store5 hst5; obtain ⟨c0, c1, c2, n0, n1, n2⟩ := ans3 HC5.out.ans; obtain ⟨u0, u1, u2, u3, u4⟩ := store_cells HC5.out.res; obtain ⟨v0, v1, v2, v3, v4⟩ := store_frozen HC5.out.res; have hz5 := lt_blk hbk5; have hz6 := lt_blk hst5; have hz7 := lt_blk HC5.out.res; have hz8 : w.heap.size + 1 < w5.heap.size := (by omega); clear hb5 hb5' hbk5 hst5)
  all_goals (try go_wp2)
  all_goals
    refine bodyPost_ret (v := .tuple #[.agg #[.string o.reply, .string Sq.nobytes, .string (Sq.digT wide y.d y.t)], .agg (nodeCells y.d (y.t, .slice g1 g2 g3, .slice j1 j2 j3)).toArray]) (by simp [results, Tryz.results16, go_sem, nodeCells, Sq.nobytes, *]) rfl ⟨_, _, rfl, ?_, ?_⟩
    · exact NodeAt.skipS (b := w.heap.size + 1 + 1) (NodeAt.skipA (b := w.heap.size + 1) HN5.out HC5.out.ans fun g hg => three_other hg _ _ _ _ _ _) ((three_other (by omega) _ _ _ _ _ _).trans HC5.out.res) fun g hg => set5_other _ _ _ _ _ _ _ hg
    · exact set5_below (three_set HC5.out.below (by omega) _ _ _) (by omega) _ _ _ _ _

end Go.Proofs.YtamkfbelpfpjcaaGreatDoor

namespace Go.Proofs.YtamkfbelpfpjcaaGreatDoor
open Go.RowKit

/-- Rows of entries and nodes stay; cells of answers, stores and servers may turn. -/
structure Keep (w w' : World) : Prop where
  size : w.heap.size ≤ w'.heap.size
  blk : ∀ (g : Nat) (c : Array Value) (e : TypeId) (fr : Nat × Nat), w.heap[g]? = some (.cells c e fr) → e ≠ 34 → e ≠ 46 → e ≠ 48 → w'.heap[g]? = w.heap[g]?
theorem Keep.refl (w : World) : Keep w w := ⟨Nat.le_refl _, fun _ _ _ _ _ _ _ _ => rfl⟩
theorem Keep.alloc {w w' : World} (h : Keep w w') (o : Obj) : Keep w (w'.alloc o) :=
  ⟨Nat.le_trans h.size (by show w'.heap.size ≤ (w'.heap.push o).size; simp), fun g c e fr hg h1 h2 h3 => (alloc_lt (Nat.lt_of_lt_of_le (lt_blk hg) h.size) o).trans (h.blk g c e fr hg h1 h2 h3)⟩
theorem Keep.set {w w' : World} (h : Keep w w') {b i : Nat} (v : Value) (hb : w.heap.size ≤ b) : Keep w (w'.setCell ⟨b, i, none⟩ v) :=
  ⟨Nat.le_trans h.size (by simp), fun g c e fr hg h1 h2 h3 => (heap_set_other (fun e => by have := lt_blk hg; omega)).trans (h.blk g c e fr hg h1 h2 h3)⟩
theorem Keep.setA {w w' : World} (h : Keep w w') {b i : Nat} (v : Value) {c : Array Value} {fr : Nat × Nat} (hb : w.heap[b]? = some (.cells c 34 fr)) : Keep w (w'.setCell ⟨b, i, none⟩ v) :=
  ⟨Nat.le_trans h.size (by simp), fun g c e fr hg h1 h2 h3 => (heap_set_other (fun e => by subst e; rw [hb] at hg; simp at hg; exact h1 hg.2.1.symm)).trans (h.blk g c e fr hg h1 h2 h3)⟩
theorem Keep.setS {w w' : World} (h : Keep w w') {b i : Nat} (v : Value) {c : Array Value} {fr : Nat × Nat} (hb : w.heap[b]? = some (.cells c 46 fr)) : Keep w (w'.setCell ⟨b, i, none⟩ v) :=
  ⟨Nat.le_trans h.size (by simp), fun g c e fr hg h1 h2 h3 => (heap_set_other (fun e => by subst e; rw [hb] at hg; simp at hg; exact h2 hg.2.1.symm)).trans (h.blk g c e fr hg h1 h2 h3)⟩
theorem Keep.setV {w w' : World} (h : Keep w w') {b i : Nat} (v : Value) {c : Array Value} {fr : Nat × Nat} (hb : w.heap[b]? = some (.cells c 48 fr)) : Keep w (w'.setCell ⟨b, i, none⟩ v) :=
  ⟨Nat.le_trans h.size (by simp), fun g c e fr hg h1 h2 h3 => (heap_set_other (fun e => by subst e; rw [hb] at hg; simp at hg; exact h3 hg.2.1.symm)).trans (h.blk g c e fr hg h1 h2 h3)⟩
theorem ownsRow_keep {w w' : World} {B : Nat} {e : TypeId} {size : Nat} {v : Value} {n : Nat} {xs : List Value} (h : w.ownsRow B e size v n xs) (hk : Keep w w') (h1 : e ≠ 34) (h2 : e ≠ 46) (h3 : e ≠ 48) : w'.ownsRow B e size v n xs := by
  refine ⟨h.1, ?_⟩
  rcases h.2 with h4 | ⟨g, cap, cur, hv, hg, hr, r⟩
  · exact Or.inl h4
  · exact Or.inr ⟨g, cap, cur, hv, hg, (hk.blk g _ _ _ hr h1 h2 h3).trans hr, r⟩
theorem NodeAt.keep : ∀ {n : Nat} {w w' : World} {t : List (Sq.Kid n)} {ev cv : Value}, NodeAt w n t ev cv → Keep w w' → NodeAt w' n t ev cv
  | 0, _, _, _, _, _, h, hk => ⟨h.1, ownsRow_keep h.2 hk (by decide) (by decide) (by decide)⟩
  | _ + 1, _, _, _, _, _, h, hk => by
    obtain ⟨h1, l, h2, h3, h4⟩ := h
    exact ⟨h1, l, h2, ownsRow_keep h3 hk (by decide) (by decide) (by decide), fun x hx => (h4 x hx).keep hk⟩

theorem three_at {w : World} {b : Nat} {a0 a1 a2 : Value} {ty : TypeId} {fr : Nat × Nat} (h : w.heap[b]? = some (.cells #[a0, a1, a2] ty fr)) (x y z : Value) : (((w.setCell ⟨b, 0, none⟩ x).setCell ⟨b, 1, none⟩ y).setCell ⟨b, 2, none⟩ z).heap[b]? = some (.cells #[x, y, z] ty fr) := by
  rw [heap_set_same (heap_set_same (heap_set_same h _) _) _]
  rfl
theorem five_at {w : World} {b : Nat} {a0 a1 a2 a3 a4 : Value} {ty : TypeId} {fr : Nat × Nat} (h : w.heap[b]? = some (.cells #[a0, a1, a2, a3, a4] ty fr)) (x0 x1 x2 x3 x4 : Value) : (((((w.setCell ⟨b, 0, none⟩ x0).setCell ⟨b, 1, none⟩ x1).setCell ⟨b, 2, none⟩ x2).setCell ⟨b, 3, none⟩ x3).setCell ⟨b, 4, none⟩ x4).heap[b]? = some (.cells #[x0, x1, x2, x3, x4] ty fr) := set5_at h x0 x1 x2 x3 x4
theorem five_atN {w : World} {b : Nat} {ty : TypeId} {fr : Nat × Nat} (h : w.heap[b]? = some (.cells node0 ty fr)) (x0 x1 x2 x3 x4 : Value) : (((((w.setCell ⟨b, 0, none⟩ x0).setCell ⟨b, 1, none⟩ x1).setCell ⟨b, 2, none⟩ x2).setCell ⟨b, 3, none⟩ x3).setCell ⟨b, 4, none⟩ x4).heap[b]? = some (.cells #[x0, x1, x2, x3, x4] ty fr) := set5_at (by unfold node0 at h; exact h) x0 x1 x2 x3 x4
theorem five_other {w : World} {b c : Nat} (h : c ≠ b) (x0 x1 x2 x3 x4 : Value) : (((((w.setCell ⟨b, 0, none⟩ x0).setCell ⟨b, 1, none⟩ x1).setCell ⟨b, 2, none⟩ x2).setCell ⟨b, 3, none⟩ x3).setCell ⟨b, 4, none⟩ x4).heap[c]? = w.heap[c]? := set5_other w b x0 x1 x2 x3 x4 h
theorem alloc_to {w : World} {k : Nat} (o : Obj) (h : k = w.heap.size) : (w.alloc o).heap[k]? = some o := alloc_at' h o
/-- What answered gives, with its parts named. -/
def AnsGen (ND : World → Value → Value → Prop) (rep nb dg : ByteArray) (bn : Bool) (l : Int) (n : Nat) (w : World) (e : Ending) (w' : World) : Prop :=
  ∃ g1 g2 g3 j1 j2 j3, e = .returned (.tuple #[.agg #[.string rep, .string nb, .string dg], .agg #[.bool bn, .slice g1 g2 g3, .slice j1 j2 j3, .int .i64 l, .int .i64 n]]) ∧ ND w' (.slice g1 g2 g3) (.slice j1 j2 j3) ∧ Below w.heap.size w w'
theorem AnsPost.gen {wide : Nat} {rep : ByteArray} {y : Sq.Tree} {w : World} {e : Ending} {w' : World} (h : AnsPost wide rep y w e w') : AnsGen (fun w a b => NodeAt w y.d y.t a b) rep Sq.nobytes (Sq.digT wide y.d y.t) (y.d != 0) (Sq.least y.d y.t) (Sq.ents y.d y.t).length w e w' := by
  obtain ⟨ev, cv, rfl, hn, hb⟩ := h
  obtain ⟨⟨g1, g2, g3, hev⟩, j1, j2, j3, hcv⟩ := hn.slices
  subst hev hcv
  exact ⟨g1, g2, g3, j1, j2, j3, by rw [nodeCells_arr], hn, hb⟩

end Go.Proofs.YtamkfbelpfpjcaaGreatDoor
