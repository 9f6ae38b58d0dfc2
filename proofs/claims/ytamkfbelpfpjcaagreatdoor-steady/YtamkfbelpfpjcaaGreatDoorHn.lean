import Derived.Test.YtamkfbelpfpjcaaGreatDoorHl
import Derived.Test.YtamkfbelpfpjcaaGreatDoorHg
import Derived.Test.YtamkfbelpfpjcaaGreatDoorHm
set_option linter.unusedVariables false
set_option linter.unusedSimpArgs false

namespace Go.Proofs.YtamkfbelpfpjcaaGreatDoor
namespace Sq

def lowE (e : Ent) : Bool := Decidable.decide (e.place < 4294967296)
structure goodN (x : Tree) : Prop where
  ok : x.ok
  few : x.ents.length ≤ 60
  rows : ∀ e ∈ x.ents, e.row.size ≤ 1000 ∧ 0 ≤ e.place
  tabs : ∀ e ∈ x.ents, e.place < 4294967296 → 1 ≤ keyAt e.place ∧ keyAt e.place ≤ ((x.ents.filter lowE).length : Int)
theorem goodN0 : goodN tree0 := ⟨tree0_ok, Nat.zero_le _, fun e he => (by cases he), fun e he => (by cases he)⟩

theorem mem_ins {es : List Ent} {e y : Ent} (h : y ∈ ins es e) : y = e ∨ y ∈ es := by
  unfold ins at h
  rcases List.mem_append.1 h with h | h
  · exact Or.inr (List.mem_filter.1 h).1
  · rcases List.mem_cons.1 h with h | h
    · exact Or.inl h
    · exact Or.inr (List.mem_filter.1 h).1
theorem ins_low {es : List Ent} {e : Ent} (h : 4294967296 ≤ e.place) : (ins es e).filter lowE = es.filter lowE := by
  have h1 : (es.filter fun x => Decidable.decide (x.place < e.place)).filter lowE = es.filter lowE := by
    rw [List.filter_filter]
    refine List.filter_congr fun y _ => ?_
    unfold lowE
    by_cases hy : y.place < 4294967296
    · rw [decide_eq_true hy, decide_eq_true (show y.place < e.place by omega)]; rfl
    · rw [decide_eq_false hy]; rfl
  have h2 : (es.filter fun x => Decidable.decide (e.place < x.place)).filter lowE = [] := by
    rw [List.filter_filter]
    refine List.filter_eq_nil_iff.2 fun y _ => ?_
    unfold lowE
    by_cases hy : y.place < 4294967296
    · rw [decide_eq_false (show ¬ e.place < y.place by omega)]; simp
    · rw [decide_eq_false hy]; simp
  unfold ins
  rw [List.filter_append, h1, List.filter_cons_of_neg (by unfold lowE; simp; omega), h2, List.append_nil]
theorem ins_lt {x e : Ent} {r : List Ent} (h : x.place < e.place) : ins (x :: r) e = x :: ins r e := by
  unfold ins
  rw [List.filter_cons_of_pos (by simpa using h), List.filter_cons_of_neg (by simp; omega)]
  rfl
theorem ins_places : ∀ (es : List Ent) (e : Ent), srt es → (∃ y ∈ es, y.place = e.place) → (ins es e).map Ent.place = es.map Ent.place
  | [], e, _, h => by obtain ⟨y, hy, _⟩ := h; cases hy
  | x :: r, e, hs, h => by
    have hs' := List.pairwise_cons.1 hs
    rcases Int.lt_trichotomy x.place e.place with hl | he | hg
    · have ih := ins_places r e hs'.2 (by
        obtain ⟨y, hy, hye⟩ := h
        rcases List.mem_cons.1 hy with rfl | hy
        · omega
        · exact ⟨y, hy, hye⟩)
      rw [ins_lt hl, List.map_cons, ih, List.map_cons]
    · have hr : ∀ y ∈ r, e.place < y.place := fun y hy => by have := hs'.1 y hy; omega
      have h1 : ins (x :: r) e = e :: r := by
        unfold ins
        rw [List.filter_cons_of_neg (by simp; omega), List.filter_cons_of_neg (by simp; omega), filt_none (fun y hy => by have := hr y hy; simp; omega), filt_all (fun y hy => by have := hr y hy; simp; omega)]
        rfl
      rw [h1, List.map_cons, List.map_cons, he]
    · obtain ⟨y, hy, hye⟩ := h
      rcases List.mem_cons.1 hy with rfl | hy
      · omega
      · have := hs'.1 y hy; omega
theorem ins_new (P : Ent → Bool) : ∀ (es : List Ent) (e : Ent), srt es → (∀ y ∈ es, y.place ≠ e.place) → P e = true → ((ins es e).filter P).length = (es.filter P).length + 1
  | [], e, _, _, hp => by
    have : ins [] e = [e] := rfl
    rw [this, List.filter_cons_of_pos hp]; rfl
  | x :: r, e, hs, h, hp => by
    have hs' := List.pairwise_cons.1 hs
    rcases Int.lt_trichotomy x.place e.place with hl | he | hg
    · have ih := ins_new P r e hs'.2 (fun y hy => h y (by simp [hy])) hp
      rw [ins_lt hl]
      cases hx : P x
      · rw [List.filter_cons_of_neg (by rw [hx]; simp), List.filter_cons_of_neg (by rw [hx]; simp)]; exact ih
      · rw [List.filter_cons_of_pos hx, List.filter_cons_of_pos hx, List.length_cons, List.length_cons, ih]
    · exact absurd he (h x (by simp))
    · have hr : ∀ y ∈ r, e.place < y.place := fun y hy => by have := hs'.1 y hy; omega
      have h1 : ins (x :: r) e = e :: x :: r := by
        unfold ins
        rw [List.filter_cons_of_neg (by simp; omega), List.filter_cons_of_pos (by simpa using hg), filt_none (fun y hy => by have := hr y hy; simp; omega), filt_all (fun y hy => by have := hr y hy; simp; omega)]
        rfl
      rw [h1, List.filter_cons_of_pos hp, List.length_cons]
theorem low_places {a b : List Ent} (h : a.map Ent.place = b.map Ent.place) : (a.filter lowE).length = (b.filter lowE).length := by
  have h1 : ∀ l : List Ent, (l.filter lowE).length = ((l.map Ent.place).filter fun p => Decidable.decide (p < 4294967296)).length := fun l => by
    rw [List.filter_map, List.length_map]; rfl
  rw [h1, h1, h]
theorem len_places {a b : List Ent} (h : a.map Ent.place = b.map Ent.place) : a.length = b.length := by
  have := congrArg List.length h
  simpa using this

theorem goodN.put {x : Tree} (h : goodN x) {e : Ent} (hr : e.row.size ≤ 1000) (hi : 4294967296 ≤ e.place) (hf : x.ents.length < 60 ∨ ∃ y ∈ x.ents, y.place = e.place) : goodN (x.put e) := by
  have hp := put_tree h.ok e
  refine ⟨hp.1, ?_, ?_, ?_⟩
  · rw [hp.2]
    rcases hf with hf | hf
    · have := (ins_len h.ok.sorted e).2
      have h2 : (ins x.ents e).length ≤ x.ents.length + 1 := this
      omega
    · rw [len_places (ins_places _ e h.ok.sorted hf)]; exact h.few
  · rw [hp.2]
    intro y hy
    rcases mem_ins hy with rfl | hy
    · exact ⟨hr, by omega⟩
    · exact h.rows y hy
  · rw [hp.2, ins_low hi]
    intro y hy hl
    rcases mem_ins hy with rfl | hy
    · omega
    · exact h.tabs y hy hl
theorem goodN.put_places {x : Tree} (h : goodN x) {e : Ent} (hf : ∃ y ∈ x.ents, y.place = e.place) : (x.put e).ents.map Ent.place = x.ents.map Ent.place := by
  rw [(put_tree h.ok e).2]; exact ins_places _ e h.ok.sorted hf
theorem goodN.del {x : Tree} (h : goodN x) {p : Int} (hi : 4294967296 ≤ p) : goodN (x.del p) := by
  have hp := del_tree h.ok p
  refine ⟨hp.1, ?_, ?_, ?_⟩
  · rw [hp.2]; exact Nat.le_trans (List.length_filter_le _ _) h.few
  · rw [hp.2]; exact fun y hy => h.rows y (List.mem_filter.1 hy).1
  · have h1 : (x.ents.filter fun y => y.place != p).filter lowE = x.ents.filter lowE := by
      rw [List.filter_filter]
      refine List.filter_congr fun y _ => ?_
      unfold lowE
      by_cases hy : y.place < 4294967296
      · rw [decide_eq_true hy, Bool.true_and]; simp; omega
      · rw [decide_eq_false hy]; rfl
    rw [hp.2, h1]
    exact fun y hy hl => h.tabs y (List.mem_filter.1 hy).1 hl

theorem entsOf_mem {x : Tree} (h : x.ok) {t : Int} {e : Ent} (he : e ∈ entsOf x t) : e ∈ x.ents ∧ t * 4294967296 ≤ e.place ∧ e.place ≤ t * 4294967296 + 4294967295 := by
  unfold entsOf at he
  rw [btw_all x.d x.t _ _ h.kids h.sorted] at he
  obtain ⟨h1, h2⟩ := List.mem_filter.1 he
  unfold inside placeOf at h2
  simp at h2
  exact ⟨h1, by omega, by omega⟩
theorem place_back {t : Int} {p : Int} (h0 : t * 4294967296 ≤ p) (h1 : p ≤ t * 4294967296 + 4294967295) : placeOf t (keyAt p) = p := by
  unfold placeOf keyAt; omega
theorem goodN.tab {x : Tree} (h : goodN x) {t : TabN} (ht : t ∈ tabsOf x) : 1 ≤ t.number ∧ t.number ≤ ((x.ents.filter lowE).length : Int) ∧ t.number ≤ 60 := by
  unfold tabsOf at ht
  obtain ⟨e, he, hx⟩ := List.mem_filterMap.1 ht
  obtain ⟨h1, h2, h3⟩ := entsOf_mem h.ok he
  have h4 := h.tabs e h1 (by omega)
  have h5 : t.number = keyAt e.place := by
    unfold tabOf at hx
    cases hy : toTable e.row with
    | none => rw [hy] at hx; cases hx
    | some y => rw [hy] at hx; simp at hx; subst hx; rfl
  have h6 : (x.ents.filter lowE).length ≤ 60 := Nat.le_trans (List.length_filter_le _ _) h.few
  rw [h5]
  exact ⟨h4.1, h4.2, by omega⟩
theorem goodN.fit {x : Tree} (h : goodN x) : fit x := by
  have := h.few
  exact ⟨h.ok, by show x.ents.length ≤ 100; omega, h.rows, fun t ht => by have := h.tab ht; omega⟩
theorem lastN_le : ∀ (l : List TabN) (m B : Int), m ≤ B → (∀ t ∈ l, t.number ≤ B) → m ≤ lastN m l ∧ lastN m l ≤ B
  | [], m, B, hm, _ => ⟨Int.le_refl _, hm⟩
  | t :: r, m, B, hm, h => by
    have ih := lastN_le r (if m < t.number then t.number else m) B (by split; exact h t (by simp); exact hm) (fun y hy => h y (by simp [hy]))
    show m ≤ lastN (if m < t.number then t.number else m) r ∧ lastN (if m < t.number then t.number else m) r ≤ B
    refine ⟨Int.le_trans ?_ ih.1, ih.2⟩
    split <;> omega
theorem goodN.make {x : Tree} (h : goodN x) (name : ByteArray) (cols : List Col) (hf : x.ents.length < 60) (hs : (ofTable name cols).size ≤ 1000) : goodN (x.make name cols) := by
  unfold Tree.make
  have hl := lastN_le (tabsOf x) 0 ((x.ents.filter lowE).length : Int) (by omega) (fun t ht => (h.tab ht).2.1)
  have h6 : (x.ents.filter lowE).length < 60 := Nat.lt_of_le_of_lt (List.length_filter_le _ _) hf
  generalize lastN 0 (tabsOf x) = last at *
  obtain ⟨e, he⟩ : ∃ e : Ent, e = ⟨placeOf 0 (last + 1), ofTable name cols⟩ := ⟨_, rfl⟩
  have hep : e.place = last + 1 + 2147483648 := by rw [he]; show placeOf 0 (last + 1) = _; unfold placeOf; omega
  have hek : keyAt e.place = last + 1 := by rw [hep]; unfold keyAt; omega
  have her : e.row.size ≤ 1000 := by rw [he]; exact hs
  rw [← he]
  have hp := put_tree h.ok e
  refine ⟨hp.1, ?_, ?_, ?_⟩
  · rw [hp.2]
    have h2 : (ins x.ents e).length ≤ x.ents.length + 1 := (ins_len h.ok.sorted e).2
    omega
  · rw [hp.2]
    intro y hy
    rcases mem_ins hy with rfl | hy
    · exact ⟨her, by omega⟩
    · exact h.rows y hy
  · rw [hp.2]
    by_cases hx : ∃ y ∈ x.ents, y.place = e.place
    · rw [low_places (ins_places _ e h.ok.sorted hx)]
      intro y hy hl2
      rcases mem_ins hy with rfl | hy
      · obtain ⟨z, hz, hze⟩ := hx
        have := h.tabs z hz (by omega)
        rw [hze] at this
        exact this
      · exact h.tabs y hy hl2
    · have hn := ins_new lowE x.ents e h.ok.sorted (fun y hy hye => hx ⟨y, hy, hye⟩) (by unfold lowE; simp; omega)
      rw [hn]
      intro y hy hl2
      rcases mem_ins hy with rfl | hy
      · rw [hek]; omega
      · have := h.tabs y hy hl2; omega

/- rows -/
def small (v : Val) : Prop := -2147483648 ≤ v.number ∧ v.number ≤ 2147483647 ∧ v.text.size ≤ 12
theorem goodVal.small {v : Val} (h : goodVal v) : small v := by
  rcases h with ⟨-, h1, h2, h3⟩ | ⟨-, h1, h2, -⟩
  · exact ⟨h1, h2, by rw [h3]; decide⟩
  · exact ⟨by omega, by omega, h2⟩
theorem small0 : small val0 := ⟨by decide, by decide, by decide⟩
theorem cellsR_good : ∀ (cols : List Col) (x : CellsR), (cellsR cols x).good = true → x.good = true
  | [], x, h => h
  | c :: r, x, h => by
    have h1 := cellsR_good r (cellStep c x) h
    unfold cellStep at h1
    split at h1
    · simp at h1; exact h1.1
    · exact h1
theorem cellsR_keeps : ∀ (cols : List Col) (x : CellsR), ∃ q, (cellsR cols x).cells = x.cells ++ q
  | [], x => ⟨[], by rw [List.append_nil]; rfl⟩
  | c :: r, x => by
    obtain ⟨q, hq⟩ := cellsR_keeps r (cellStep c x)
    have h1 : ∃ v, (cellStep c x).cells = x.cells ++ [v] := by unfold cellStep; split <;> exact ⟨_, rfl⟩
    obtain ⟨v, hv⟩ := h1
    refine ⟨v :: q, ?_⟩
    show (cellsR r (cellStep c x)).cells = _
    rw [hq, hv, List.append_assoc]
    rfl
theorem cellsR_small : ∀ (cols : List Col) (x : CellsR), (∀ v ∈ x.cells, small v) → (cellsR cols x).good = true → ∀ v ∈ (cellsR cols x).cells, small v
  | [], x, h, _ => h
  | c :: r, x, h, hg => by
    have h1 := cellsR_good r (cellStep c x) hg
    refine cellsR_small r (cellStep c x) ?_ hg
    unfold cellStep at h1 ⊢
    split
    · rename_i hk
      rw [if_pos hk] at h1
      simp at h1
      intro v hv
      rcases List.mem_append.1 hv with hv | hv
      · exact h v hv
      · rw [List.mem_singleton] at hv
        subst hv
        exact ⟨by show (-2147483648 : Int) ≤ 0; decide, by show (0 : Int) ≤ 2147483647; decide, h1.2⟩
    · intro v hv
      rcases List.mem_append.1 hv with hv | hv
      · exact h v hv
      · rw [List.mem_singleton] at hv
        subst hv
        have := numV_bd x.rd 4 (by decide)
        exact ⟨by show _ ≤ numV x.rd 4 - 2147483648; have := this.1; have h5 : ((4 : Nat) : Int) = 4 := rfl; rw [h5] at this; omega, by show numV x.rd 4 - 2147483648 ≤ _; have := this.2.1; have h5 : ((4 : Nat) : Int) = 4 := rfl; rw [h5] at this; omega, by show nobytes.size ≤ 12; decide⟩
/-- A row as it is read: its key is the place's. -/
structure seen (x : Tree) (t : TabN) (r : List Val) : Prop where
  at_ : ∃ e ∈ x.ents, placeOf t.number (keyOf r) = e.place ∧ t.number * 4294967296 ≤ e.place
  key0 : -2147483648 ≤ keyOf r
  key1 : keyOf r ≤ 2147483647
  vals : ∀ v ∈ r, small v
  len : r.length ≤ 5
theorem rowsOf_seen {x : Tree} (h : goodN x) {t : TabN} (ht : t ∈ tabsOf x) : ∀ r ∈ rowsOf x t, seen x t r := by
  intro r hr
  unfold rowsOf at hr
  obtain ⟨e, he, hx⟩ := List.mem_filterMap.1 hr
  obtain ⟨h1, h2, h3⟩ := entsOf_mem h.ok he
  have hlen := toCells_len hx
  have htc := tabsOf_cols t ht
  have hkb := keyAt_bd e.place
  unfold rowOf toCells at hx
  split at hx
  · rename_i hg
    simp only [Bool.and_eq_true] at hg
    have hxx := Option.some.inj hx
    obtain ⟨q, hq⟩ := cellsR_keeps (t.cols.drop 1) ⟨[⟨0, keyAt e.place, nobytes⟩], ⟨e.row, false⟩, true⟩
    have hkey : keyOf r = keyAt e.place := by
      rw [← hxx]
      show keyOf (cellsR (t.cols.drop 1) ⟨[⟨0, keyAt e.place, nobytes⟩], ⟨e.row, false⟩, true⟩).cells = _
      rw [hq]; rfl
    refine ⟨⟨e, h1, by rw [hkey]; exact place_back h2 h3, h2⟩, by omega, by omega, ?_, by omega⟩
    rw [← hxx]
    refine cellsR_small _ _ ?_ hg.1
    intro v hv
    rw [List.mem_singleton] at hv
    subst hv
    exact ⟨hkb.1, hkb.2, by show nobytes.size ≤ 12; decide⟩
  · cases hx

theorem cellOf_small (cols : List Col) (row : List Val) (n : ByteArray) (h : ∀ v ∈ row, small v) : small (cellOf cols row n) := by
  unfold cellOf
  split
  · exact small0
  · cases h2 : row[(find cols n).toNat]? with
    | none => exact small0
    | some v => exact h v (List.mem_of_getElem? h2)
theorem valueOf_small (cols : List Col) (row : List Val) (t : Term) (h : ∀ v ∈ row, small v) (ht : small t.lit) : small (valueOf cols row t) := by
  unfold valueOf
  split
  · exact ht
  · exact cellOf_small cols row _ h
theorem result_small (cols : List Col) (row : List Val) (s : SetS) (h : ∀ v ∈ row, small v) (hs : small s.first.lit) : small (result cols row s).1 := by
  unfold result
  split
  · exact valueOf_small cols row _ h hs
  · split
    · exact small0
    · split
      · exact small0
      · exact ⟨by show _ ≤ numOf _ _ _; omega, by show numOf _ _ _ ≤ _; omega, by show nobytes.size ≤ 12; decide⟩
theorem keyOf_set (row : List Val) (k : Nat) (v : Val) : keyOf (row.set (k + 1) v) = keyOf row := by cases row <;> rfl
theorem checkSets_find (cols : List Col) : ∀ (sets e : List SetS), checkSetsFrom cols e sets = 0 → ∀ s ∈ sets, find cols s.column ≠ 0 := by
  intro sets
  induction sets with
  | nil => intro e _ s hs; simp at hs
  | cons x r ih =>
    intro e h s hs
    rw [checkSetsFrom] at h
    split at h
    · rename_i hx; rw [h] at hx; simp at hx
    · rename_i hx
      rcases List.mem_cons.1 hs with rfl | hs
      · have hx' : checkSet cols e s = 0 := by simpa using hx
        intro h0
        unfold checkSet at hx'
        rw [h0] at hx'
        split at hx' <;> simp at hx'
      · exact ih _ h s hs
theorem assignFrom_small (cols : List Col) (old : List Val) (ho : ∀ v ∈ old, small v) : ∀ (sets : List SetS) (row : List Val), (∀ s ∈ sets, small s.first.lit) → (∀ s ∈ sets, find cols s.column ≠ 0) → (∀ v ∈ row, small v) → (assignFrom cols old sets row).2 = true →
    (∀ v ∈ (assignFrom cols old sets row).1, small v) ∧ keyOf (assignFrom cols old sets row).1 = keyOf row ∧ (assignFrom cols old sets row).1.length = row.length := by
  intro sets
  induction sets with
  | nil => intro row _ _ h _; exact ⟨h, rfl, rfl⟩
  | cons s r ih =>
    intro row h1 h2 h3 h4
    rw [assignFrom] at h4 ⊢
    split
    · rename_i hk
      rw [if_pos hk] at h4
      have hstep : (∀ v ∈ assignStep cols old row s, small v) ∧ keyOf (assignStep cols old row s) = keyOf row ∧ (assignStep cols old row s).length = row.length := by
        unfold assignStep
        split
        · exact ⟨h3, rfl, rfl⟩
        · rename_i hf
          have hf2 := h2 s (by simp)
          obtain ⟨k, hk⟩ : ∃ k, (find cols s.column).toNat = k + 1 := ⟨(find cols s.column).toNat - 1, by omega⟩
          rw [hk]
          refine ⟨?_, keyOf_set row k _, by simp⟩
          intro x hx
          rcases List.mem_or_eq_of_mem_set hx with hx | rfl
          · exact h3 x hx
          · exact result_small cols old s ho (h1 s (by simp))
      have := ih _ (fun x hx => h1 x (by simp [hx])) (fun x hx => h2 x (by simp [hx])) hstep.1 h4
      exact ⟨this.1, this.2.1.trans hstep.2.1, this.2.2.trans hstep.2.2⟩
    · rename_i hk
      rw [if_neg hk] at h4
      simp at h4
theorem updateFrom_mem (cols : List Col) (sets : List SetS) : ∀ (rows acc puts : List (List Val)), updateFrom cols sets rows acc = some puts → (∀ p ∈ puts, p ∈ acc ∨ ∃ r ∈ rows, (assigned cols r sets).2 = true ∧ p = (assigned cols r sets).1) ∧ puts.length = acc.length + rows.length := by
  intro rows
  induction rows with
  | nil => intro acc puts h; rw [updateFrom] at h; simp at h; subst h; exact ⟨fun p hp => Or.inl hp, rfl⟩
  | cons x q ih =>
    intro acc puts h
    rw [updateFrom] at h
    split at h
    · rename_i hx
      have ih2 := ih _ _ h
      refine ⟨fun p hp => ?_, by rw [ih2.2]; simp; omega⟩
      rcases ih2.1 p hp with h1 | ⟨r, hr, h1⟩
      · rcases List.mem_append.1 h1 with h1 | h1
        · exact Or.inl h1
        · simp at h1; exact Or.inr ⟨x, by simp, hx, h1⟩
      · exact Or.inr ⟨r, by simp [hr], h1⟩
    · simp at h
theorem ofVals_size : ∀ (l : List Val) (b : ByteArray), (∀ v ∈ l, v.text.size ≤ 12) → (ofVals b l).size ≤ b.size + 13 * l.length
  | [], b, _ => Nat.le_refl _
  | v :: r, b, h => by
    have ih := ofVals_size r (b ++ ofVal v) (fun y hy => h y (by simp [hy]))
    have hv := h v (by simp)
    have hs : (ofVal v).size ≤ 13 := by
      unfold ofVal
      split
      · rw [txt_size]; omega
      · rw [pnum_size]; omega
    show (ofVals (b ++ ofVal v) r).size ≤ _
    rw [ByteArray.size_append] at ih
    simp only [List.length_cons]
    omega
theorem ofCells_size {l : List Val} (h : ∀ v ∈ l, small v) (hl : l.length ≤ 10) : (ofCells l).size ≤ 1000 := by
  unfold ofCells
  have h1 := ofVals_size (l.drop 1) nobytes (fun v hv => (h v (List.mem_of_mem_drop hv)).2.2)
  have h2 : nobytes.size = 0 := rfl
  have h3 : (l.drop 1).length ≤ 10 := by rw [List.length_drop]; omega
  omega
theorem ofCols_size : ∀ (l : List Col) (b : ByteArray), (∀ c ∈ l, c.name.size ≤ 8) → (ofCols b l).size ≤ b.size + 10 * l.length
  | [], b, _ => Nat.le_refl _
  | v :: r, b, h => by
    have ih := ofCols_size r (b ++ ofCol v) (fun y hy => h y (by simp [hy]))
    have hv := h v (by simp)
    have hs : (ofCol v).size ≤ 10 := by
      unfold ofCol
      rw [ByteArray.size_append, txt_size, pnum_size]; omega
    show (ofCols (b ++ ofCol v) r).size ≤ _
    rw [ByteArray.size_append] at ih
    simp only [List.length_cons]
    omega
theorem ofTable_size {name : ByteArray} {cols : List Col} (h : name.size ≤ 8) (hc : ∀ c ∈ cols, c.name.size ≤ 8) (hl : cols.length ≤ 4) : (ofTable name cols).size ≤ 1000 := by
  unfold ofTable
  have h1 := ofCols_size cols (txt name ++ pnum cols.length 1) hc
  rw [ByteArray.size_append, txt_size, pnum_size] at h1
  omega

/- what is read: names are short -/
structure nm (st : PSt) : Prop where
  table : st.table.size ≤ 8
  cols : ∀ c ∈ st.cols, c.name.size ≤ 8
theorem nm.same {a b : PSt} (h : nm a) (k : Same a b) : nm b := ⟨by rw [k.table]; exact h.table, by rw [k.cols]; exact h.cols⟩
theorem nameR_size (ws : List Word) (hw : ∀ x ∈ ws, okWord x) (st : PSt) : (nameR ws st).size ≤ 8 := by
  unfold nameR
  split
  · rename_i h
    exact (nextW_ok ws st hw).name (by simpa using h)
  · decide
theorem nm.tab {a : PSt} (h : nm a) (ws : List Word) (hw : ∀ x ∈ ws, okWord x) : nm (tableS ws a) := ⟨nameR_size ws hw a, (h.same (nameS_same ws a)).cols⟩
theorem nm.want {a : PSt} (h : nm a) (ws : List Word) (m : ByteArray) : nm (wantS ws a m) := h.same (wantS_same ws a m)
theorem nm.addCol {a : PSt} (h : nm a) (c : Col) (hc : c.name.size ≤ 8) : nm (addCol a c) := by
  refine ⟨h.table, ?_⟩
  intro x hx
  rcases List.mem_append.1 hx with hx | hx
  · exact h.cols x hx
  · simp at hx; subst hx; exact hc
theorem nm.commas (ws : List Word) (body : PSt → PSt) (hb : ∀ st, nm st → nm (body st)) : ∀ f st, nm st → nm (commas ws body f st) := by
  intro f
  induction f with
  | zero => intro st h; exact h
  | succ f ih =>
    intro st h
    rw [Sq.commas]
    split
    · exact ih _ (hb _ (h.same (step1_same st)))
    · exact h
theorem colS_nm (ws : List Word) (hw : ∀ x ∈ ws, okWord x) (st : PSt) (h : nm st) : nm (colS ws st) := ((h.same (nameS_same ws st)).same (kindS_same ws _)).addCol _ (nameR_size ws hw st)
theorem asgS_nm (ws : List Word) (st : PSt) (h : nm st) : nm (asgS ws st) := by
  have h2 := asg2_same ws st
  have h4 : Same st (asg4 ws st) := by
    unfold asg4 asg3
    split
    · exact (h2.trans (step1_same _)).trans (termS_same ws _)
    · split
      · exact (h2.trans (step1_same _)).trans (termS_same ws _)
      · exact h2
  have := h.same h4
  exact ⟨this.table, this.cols⟩
theorem valueS_nm (ws : List Word) (st : PSt) (h : nm st) : nm (valueS ws st) := by
  have := h.same (litS_same ws st)
  exact ⟨this.table, this.cols⟩
theorem itemS_nm (ws : List Word) (st : PSt) (h : nm st) : nm (itemS ws st) := by
  have := h.same (nameS_same ws st)
  exact ⟨this.table, this.cols⟩
theorem nm.act {a : PSt} (h : nm a) (x : Int) : nm (setAct a x) := ⟨h.table, h.cols⟩
theorem nm.shw {a : PSt} (h : nm a) (x : Int) : nm (setShow a x) := ⟨h.table, h.cols⟩
theorem statementS_nm (ws : List Word) (hw : ∀ x ∈ ws, okWord x) (st : PSt) (h : nm st) : nm (statementS ws st) := by
  have h' := h.same (takeS_same ws st)
  unfold statementS
  split
  · exact (nm.commas ws _ (colS_nm ws hw) (ws.length + 1) _ ((((((h'.act 1).want ws _).tab ws hw).want ws _).same (nameS_same ws _)).want ws _ |>.addCol _ (nameR_size ws hw _))).want ws _
  · split
    · exact (nm.commas ws _ (valueS_nm ws) (ws.length + 1) _ (valueS_nm ws _ (((((h'.act 2).want ws _).tab ws hw).want ws _).want ws _))).want ws _
    · split
      · exact (nm.commas ws _ (asgS_nm ws) (ws.length + 1) _ (asgS_nm ws _ (((h'.act 3).tab ws hw).want ws _))).same (whereS_same ws _)
      · split
        · exact (((h'.act 4).want ws _).tab ws hw).same (whereS_same ws _)
        · split
          · have h5 := h'.act 5
            have h6 : nm (chooseA ws (setAct (takeS ws st) 5)) := by
              unfold chooseA
              split
              · exact (h5.same (step1_same _)).shw 1
              · split
                · exact (h5.same (step1_same _)).shw 2
                · split
                  · exact (itemS_nm ws _ (((h5.same (step1_same _)).shw 3).want ws _)).want ws _
                  · exact nm.commas ws _ (itemS_nm ws) (ws.length + 1) _ (itemS_nm ws _ (h5.shw 0))
            exact ((h6.want ws _).tab ws hw).same (whereS_same ws _)
          · exact h'.same (fail_same _)
theorem st0_nm : nm st0 := ⟨by decide, by intro c hc; cases hc⟩
theorem parse_nm (sql : ByteArray) : nm (parse sql).2 := by
  unfold parse
  split
  · exact st0_nm
  · split
    · exact st0_nm
    · rename_i ws hws
      split
      · exact st0_nm
      · exact statementS_nm ws (split_ok sql ws hws).1 st0 st0_nm
theorem parse_ok (sql : ByteArray) : okStm (parse sql).2 := by
  obtain ⟨h1, h2⟩ := parse_read sql
  have h3 := h1.few
  have hk : ∀ {v : Val}, goodVal v → okVal v := fun h => by
    have := h.small
    exact ⟨by have := this.1; omega, by have := this.2.1; omega, by have := this.2.2; omega⟩
  exact ⟨by omega, by omega, by omega, by omega, by omega, fun v hv => hk (h1.vals v hv), fun s hs => ⟨hk (h1.sets s hs).1, hk (h1.sets s hs).2⟩⟩

/- what is decided keeps the tree -/
theorem applyN_none (x : Tree) (o : Out) (h1 : o.makes = false) (h2 : o.puts = []) (h3 : o.cuts = []) : applyN x o = x := by
  unfold applyN madeN; rw [h1, h2, h3]; rfl
def kept (x : Tree) (o : Out) : Prop := fitO x o ∧ goodN (applyN x o)
theorem kept_none {x : Tree} (h : goodN x) (o : Out) (h1 : o.makes = false) (h2 : o.puts = []) (h3 : o.cuts = []) (h4 : o.table = 0) : kept x o := by
  have hf := h.few
  refine ⟨⟨h.ok, by rw [h2]; show x.ents.length + 1 + 0 ≤ 500; omega, by omega, by omega, (by rw [h2]; intro r hr; cases hr), (by rw [h3]; intro r hr; cases hr), (by rw [h1]; intro hc; cases hc)⟩, ?_⟩
  rw [applyN_none x o h1 h2 h3]; exact h
theorem kept_refused {x : Tree} (h : goodN x) (n : Int) : kept x (refused n) := kept_none h _ rfl rfl rfl rfl
theorem check_act (cols : List Col) (st : PSt) (h : check cols st = 0) : checkAct cols st = 0 := by
  unfold check at h
  split at h
  · exact h
  · rename_i h2; simpa using h2
theorem putsN_good (t : TabN) (ht : 1 ≤ t.number) : ∀ (l : List (List Val)) (x : Tree), goodN x → (∀ r ∈ l, seen x t r) → goodN (putsN t.number x l)
  | [], x, h, _ => h
  | r :: q, x, h, hl => by
    have hr := hl r (by simp)
    obtain ⟨e, he, hp, hlo⟩ := hr.at_
    have h1 : ∃ y ∈ x.ents, y.place = (⟨placeOf t.number (keyOf r), ofCells r⟩ : Ent).place := ⟨e, he, hp.symm⟩
    have hg := h.put (e := ⟨placeOf t.number (keyOf r), ofCells r⟩) (ofCells_size hr.vals (by have := hr.len; omega)) (by show _ ≤ placeOf t.number (keyOf r); rw [hp]; omega) (Or.inr h1)
    have hpl := h.put_places h1
    refine putsN_good t ht q _ hg fun r' hr' => ?_
    have hs := hl r' (by simp [hr'])
    refine ⟨?_, hs.key0, hs.key1, hs.vals, hs.len⟩
    obtain ⟨e', he', hp', hlo'⟩ := hs.at_
    have hm : e'.place ∈ (x.put ⟨placeOf t.number (keyOf r), ofCells r⟩).ents.map Ent.place := by rw [hpl]; exact List.mem_map.2 ⟨e', he', rfl⟩
    obtain ⟨z, hz, hze⟩ := List.mem_map.1 hm
    exact ⟨z, hz, by rw [hze]; exact hp', by rw [hze]; exact hlo'⟩
theorem cutsN_good (tb : Int) (ht : 1 ≤ tb) : ∀ (l : List Int) (x : Tree), goodN x → (∀ k ∈ l, -2147483648 ≤ k) → goodN (cutsN tb x l)
  | [], x, h, _ => h
  | k :: q, x, h, hl => by
    have hk := hl k (by simp)
    exact cutsN_good tb ht q _ (h.del (by unfold placeOf; omega)) fun r hr => hl r (by simp [hr])
theorem kept_tab {x : Tree} (h : goodN x) {t : TabN} (ht : t ∈ tabsOf x) (st : PSt) (n : Nat) (hst : okRead goodVal n st) : kept x (decideTabN x t st) := by
  have hn := h.tab ht
  have hc4 := tabsOf_cols t ht
  have hfew := h.few
  unfold decideTabN
  split
  · exact kept_refused h _
  · rename_i hck
    have hck' : check t.cols st = 0 := by simpa using hck
    have hca := check_act _ _ hck'
    unfold checkAct at hca
    split
    · rename_i ha
      rw [if_pos ha] at hca
      unfold checkValues at hca
      have hvl : st.vals.length = t.cols.length := by
        split at hca
        · simp at hca
        · rename_i hl; simpa using hl
      have hsm : ∀ v ∈ st.vals, small v := fun v hv => (hst.vals v hv).small
      have hkb : -2147483648 ≤ keyOf st.vals ∧ keyOf st.vals ≤ 2147483647 := by
        cases hv : st.vals with
        | nil => exact ⟨by decide, by decide⟩
        | cons a r => have := hsm a (by rw [hv]; simp); exact ⟨this.1, this.2.1⟩
      unfold insertN
      split
      · exact kept_refused h _
      · split
        · exact kept_refused h _
        · rename_i hfull
          have hl59 : x.ents.length < 60 := by
            have : ¬ 60 ≤ ((x.ents.length : Nat) : Int) := hfull
            omega
          refine ⟨⟨h.ok, by show x.ents.length + 1 + 1 ≤ 500; omega, by show 0 ≤ t.number; omega, by show t.number ≤ 100000; omega, ?_, (by intro k hk; cases hk), (by intro hc; cases hc)⟩, ?_⟩
          · intro r hr
            rw [List.mem_singleton] at hr
            subst hr
            exact ⟨by omega, fun v hv => by have := hsm v hv; exact ⟨by have := this.2.2; omega, by have := this.1; omega, by have := this.2.1; omega⟩⟩
          · exact h.put (e := ⟨placeOf t.number (keyOf st.vals), ofCells st.vals⟩) (ofCells_size hsm (by omega)) (by show _ ≤ placeOf t.number (keyOf st.vals); unfold placeOf; omega) (Or.inl hl59)
    · rename_i ha
      rw [if_neg ha] at hca
      have hmem : ∀ r ∈ metN t.cols (rowsOf x t) st.wher, seen x t r := fun r hr => rowsOf_seen h ht r (List.mem_filter.1 hr).1
      have hlen : (metN t.cols (rowsOf x t) st.wher).length ≤ 100 := Nat.le_trans (List.length_filter_le _ _) (rowsOf_len h.fit t)
      split
      · rename_i hb
        rw [if_pos hb] at hca
        have hfi := checkSets_find t.cols st.sets [] hca
        unfold updateN
        cases hu : updateFrom t.cols st.sets (metN t.cols (rowsOf x t) st.wher) [] with
        | none => exact kept_refused h _
        | some puts =>
          obtain ⟨hm, hl⟩ := updateFrom_mem _ _ _ _ _ hu
          have hps : ∀ r ∈ puts, seen x t r := by
            intro p hp
            rcases hm p hp with h1 | ⟨r, hr, h1, h2⟩
            · cases h1
            · have hs := hmem r hr
              have := assignFrom_small t.cols r hs.vals st.sets r (fun s hs => (hst.sets s hs).1.small) hfi hs.vals h1
              have h2' : p = (assignFrom t.cols r st.sets r).1 := h2
              rw [← h2'] at this
              exact ⟨by rw [this.2.1]; exact hs.at_, by rw [this.2.1]; exact hs.key0, by rw [this.2.1]; exact hs.key1, this.1, by rw [this.2.2]; exact hs.len⟩
          have hl2 : puts.length ≤ 100 := by rw [hl]; simpa using hlen
          refine ⟨⟨h.ok, by show x.ents.length + 1 + puts.length ≤ 500; omega, by show 0 ≤ t.number; omega, by show t.number ≤ 100000; omega, ?_, (by intro k hk; cases hk), (by intro hc; cases hc)⟩, ?_⟩
          · intro r hr
            have hs := hps r hr
            exact ⟨by have := hs.len; omega, fun v hv => by have := hs.vals v hv; exact ⟨by have := this.2.2; omega, by have := this.1; omega, by have := this.2.1; omega⟩⟩
          · exact putsN_good t hn.1 puts x h hps
      · split
        · refine ⟨⟨h.ok, by show x.ents.length + 1 + 0 ≤ 500; omega, by show 0 ≤ t.number; omega, by show t.number ≤ 100000; omega, (by intro k hk; cases hk), ?_, (by intro hc; cases hc)⟩, ?_⟩
          · intro k hk
            obtain ⟨r, hr, rfl⟩ := List.mem_map.1 hk
            have hs := hmem r hr
            exact ⟨by have := hs.key0; omega, by have := hs.key1; omega⟩
          · exact cutsN_good t.number hn.1 _ x h fun k hk => by
              obtain ⟨r, hr, rfl⟩ := List.mem_map.1 hk
              exact (hmem r hr).key0
        · exact kept_none h _ rfl rfl rfl rfl
theorem kept_st {x : Tree} (h : goodN x) (st : PSt) (n : Nat) (hst : okRead goodVal n st) (hm : nm st) : kept x (decideStN x st) := by
  have hfew := h.few
  unfold decideStN
  split
  · unfold createN
    split
    · exact kept_refused h _
    · split
      · exact kept_refused h _
      · rename_i hcl
        split
        · exact kept_refused h _
        · split
          · exact kept_refused h _
          · split
            · exact kept_refused h _
            · rename_i hsz
              have hl59 : x.ents.length < 60 := by
                have : ¬ 60 ≤ ((x.ents.length : Nat) : Int) := hsz
                omega
              refine ⟨⟨h.ok, by show x.ents.length + 1 + 0 ≤ 500; omega, by show (0 : Int) ≤ 0; omega, by show (0 : Int) ≤ 100000; omega, (by intro k hk; cases hk), (by intro k hk; cases hk), fun _ => ⟨h.rows, by show st.cols.length ≤ 1000; omega, by show st.table.size ≤ 1000; have := hm.table; omega, fun c hc => by have := hm.cols c hc; omega⟩⟩, ?_⟩
              exact h.make st.table st.cols hl59 (ofTable_size hm.table hm.cols (by omega))
  · split
    · rename_i t hf
      exact kept_tab h (findN_mem hf) st n hst
    · exact kept_refused h _
theorem kept_all {x : Tree} (h : goodN x) (sql : ByteArray) : kept x (decideN x sql) := by
  unfold decideN
  split
  · exact kept_refused h _
  · exact kept_st h _ _ (parse_read sql).1 (parse_nm sql)
theorem good_after {x : Tree} (h : goodN x) (sql : ByteArray) : goodN (afterN x sql) := (kept_all h sql).2
theorem good_run : ∀ (l : List ByteArray) {x : Tree}, goodN x → goodN (runN x l)
  | [], _, h => h
  | s :: r, _, h => good_run r (good_after h s)

end Sq
end Go.Proofs.YtamkfbelpfpjcaaGreatDoor
