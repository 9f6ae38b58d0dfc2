import Derived.Test.YtamkfbelpfpjcaaGreatDoorGa
set_option linter.unusedVariables false
set_option linter.unusedSimpArgs false

namespace Go.Proofs.YtamkfbelpfpjcaaGreatDoor
namespace Sq

/-- What a value is that can be told or made. -/
def goodVal (v : Val) : Prop := (v.kind = 0 ∧ -2147483648 ≤ v.number ∧ v.number ≤ 2147483647 ∧ v.text = nobytes) ∨ (v.kind = 1 ∧ v.number = 0 ∧ v.text.size ≤ 12 ∧ (39 : UInt8) ∉ v.text.data.toList)
theorem goodVal0 : goodVal val0 := Or.inl ⟨rfl, by decide, by decide, rfl⟩

theorem numFrom_digits (l : List UInt8) : ∀ a : Int, 0 ≤ a → (∀ c ∈ l, isDigit c.toNat = true) → 0 ≤ l.foldl (fun n c => n * 10 + dv c) a ∧ l.foldl (fun n c => n * 10 + dv c) a + 1 ≤ (a + 1) * ((10 ^ l.length : Nat) : Int) := by
  induction l with
  | nil => intro a h _; simp; omega
  | cons c r ih =>
    intro a h hd
    have hc := hd c (by simp)
    have h1 : 0 ≤ dv c ∧ dv c ≤ 9 := by
      unfold isDigit rng at hc
      simp at hc
      unfold dv
      omega
    obtain ⟨i1, i2⟩ := ih (a * 10 + dv c) (by omega) (fun x hx => hd x (by simp [hx]))
    rw [List.foldl_cons, List.length_cons, Nat.pow_succ]
    refine ⟨i1, ?_⟩
    have h2 : (0 : Int) ≤ ((10 ^ r.length : Nat) : Int) := Int.natCast_nonneg _
    have h3 : (a * 10 + dv c + 1) * ((10 ^ r.length : Nat) : Int) ≤ ((a + 1) * 10) * ((10 ^ r.length : Nat) : Int) := Int.mul_le_mul_of_nonneg_right (by omega) h2
    have h4 : (a + 1) * ((10 ^ r.length * 10 : Nat) : Int) = ((a + 1) * 10) * ((10 ^ r.length : Nat) : Int) := by
      rw [Int.natCast_mul, Int.mul_assoc, Int.mul_comm ((10 ^ r.length : Nat) : Int)]
      rfl
    rw [h4]
    omega
theorem num_digits (t : ByteArray) (h : t.size ≤ 9) (hd : ∀ c ∈ t.data.toList, isDigit c.toNat = true) : 0 ≤ num t ∧ num t ≤ 999999999 := by
  have h1 := numFrom_digits t.data.toList 0 (by omega) hd
  have h2 : (10 : Nat) ^ t.data.toList.length ≤ 10 ^ 9 := Nat.pow_le_pow_right (by decide) (by simpa using h)
  have h3 : (10 : Nat) ^ 9 = 1000000000 := by decide
  refine ⟨h1.1, ?_⟩
  have h4 := h1.2
  unfold num numL
  omega

theorem extract_list (s : ByteArray) (a b : Nat) : (s.extract a b).data.toList = (s.data.toList.drop a).take (b - a) := by
  simp [List.extract_eq_take_drop]
theorem take_takeWhile {α : Type} (p : α → Bool) (l : List α) : l.take (l.takeWhile p).length = l.takeWhile p := by
  induction l with
  | nil => rfl
  | cons x r ih =>
    rw [List.takeWhile_cons]
    split
    · rw [List.length_cons, List.take_succ_cons, ih]
    · rfl
theorem mem_takeWhile {α : Type} (p : α → Bool) (l : List α) : ∀ x ∈ l.takeWhile p, p x = true := by
  induction l with
  | nil => intro x hx; simp at hx
  | cons y r ih =>
    intro x hx
    rw [List.takeWhile_cons] at hx
    split at hx
    · rename_i h
      rcases List.mem_cons.1 hx with rfl | hx
      · exact h
      · exact ih x hx
    · simp at hx
theorem cnt_list (p : Int → Bool) (s : ByteArray) (a : Nat) : (s.extract a (a + cnt p s a)).data.toList = (s.data.toList.drop a).takeWhile fun c => p c.toNat := by
  rw [extract_list, Nat.add_sub_cancel_left]
  exact take_takeWhile _ _
theorem byteAt_extract0 (s : ByteArray) (a b : Nat) (h : a < b) (hb : b ≤ s.size) : byteAt (s.extract a b) 0 = byteAt s a := by
  unfold byteAt
  rw [extract_list]
  rw [List.getElem?_take, if_pos (by omega), List.getElem?_drop]
  simp

/-- A word as it should be. -/
structure okWord (x : Word) : Prop where
  num : x.kind = 3 → x.text.size ≤ 9 ∧ ∀ c ∈ x.text.data.toList, isDigit c.toNat = true
  text : x.kind = 4 → x.text.size ≤ 12 ∧ (39 : UInt8) ∉ x.text.data.toList
  name : x.kind = 2 → x.text.size ≤ 8

theorem wordOf_ok (s : ByteArray) (a : Nat) (h : a < endOf s a) (hs : endOf s a ≤ s.size) : okWord (wordOf (s.extract a (endOf s a))) := by
  have h0 := byteAt_extract0 s a (endOf s a) h hs
  obtain ⟨t, ht⟩ : ∃ t, t = s.extract a (endOf s a) := ⟨_, rfl⟩
  rw [← ht] at h0 ⊢
  unfold wordOf
  split
  · exact ⟨by simp, by simp, by simp⟩
  · rw [h0]
    split
    · refine ⟨fun h => ?_, fun h => ?_, fun _ => bounded_size 2 t 8⟩
      · rcases bounded_kind 2 t 8 with h3 | h3 <;> rw [h3] at h <;> simp at h
      · rcases bounded_kind 2 t 8 with h3 | h3 <;> rw [h3] at h <;> simp at h
    · rename_i hl
      split
      · rename_i hdg
        refine ⟨fun _ => ⟨bounded_size 3 t 9, ?_⟩, fun h => ?_, fun h => ?_⟩
        · unfold bounded
          split
          · have he : endOf s a = a + cnt isDigit s a := by unfold endOf; rw [if_neg hl, if_pos hdg]
            show ∀ c ∈ t.data.toList, _
            rw [ht, he, cnt_list]
            exact fun c hc => mem_takeWhile _ _ c hc
          · intro c hc; simp at hc
        · rcases bounded_kind 3 t 9 with h3 | h3 <;> rw [h3] at h <;> simp at h
        · rcases bounded_kind 3 t 9 with h3 | h3 <;> rw [h3] at h <;> simp at h
      · rename_i hdg
        split
        · rename_i hq
          simp only [Bool.and_eq_true, beq_iff_eq] at hq
          refine ⟨fun h => ?_, fun _ => ⟨bounded_size 4 _ 12, ?_⟩, fun h => ?_⟩
          · rcases bounded_kind 4 (t.extract 1 (t.size - 1)) 12 with h3 | h3 <;> rw [h3] at h <;> simp at h
          · unfold bounded
            split
            · have he : endOf s a = endOfText s a := by unfold endOf; rw [if_neg hl, if_neg hdg, if_pos (by simp [hq.1])]
              have he2 : endOf s a = a + 1 + cnt isInText s (a + 1) + 1 := by
                rw [he]; rw [he] at h; unfold endOfText at h ⊢
                split
                · rfl
                · rename_i hx; rw [if_neg hx] at h; omega
              show (39 : UInt8) ∉ (t.extract 1 (t.size - 1)).data.toList
              have hts : t.size = cnt isInText s (a + 1) + 2 := by
                rw [ht, ByteArray.size_extract]; omega
              rw [extract_list, hts, ht, extract_list, List.drop_take, List.drop_drop, List.take_take]
              have hm : min (cnt isInText s (a + 1) + 2 - 1 - 1) (endOf s a - a - 1) = (((s.data.toList.drop (a + 1)).takeWhile fun c => isInText c.toNat)).length := by
                show _ = cnt isInText s (a + 1)
                omega
              rw [hm, take_takeWhile]
              intro hc
              have := mem_takeWhile _ _ _ hc
              exact absurd this (by decide)
            · simp
          · rcases bounded_kind 4 (t.extract 1 (t.size - 1)) 12 with h3 | h3 <;> rw [h3] at h <;> simp at h
        · exact ⟨by simp, by simp, by simp⟩

theorem splitFrom_ok (s : ByteArray) : ∀ f a ws, splitFrom s f a = some ws → (∀ x ∈ ws, okWord x) ∧ ws.length ≤ f := by
  intro f
  induction f with
  | zero => intro a ws h; simp [splitFrom] at h; subst h; simp
  | succ f ih =>
    intro a ws h
    rw [splitFrom] at h
    split at h
    · split at h
      · have := ih _ _ h; exact ⟨this.1, by omega⟩
      · split at h
        · simp at h
        · rename_i he
          split at h
          · simp at h
          · cases h2 : splitFrom s f (endOf s a) with
            | none => rw [h2] at h; simp at h
            | some l =>
              rw [h2] at h
              simp at h
              subst h
              have h3 := ih _ _ h2
              refine ⟨fun x hx => ?_, by simp; omega⟩
              rcases List.mem_cons.1 hx with rfl | hx
              · exact wordOf_ok s a (by omega) (by omega)
              · exact h3.1 x hx
    · simp at h; subst h; simp
theorem split_ok (s : ByteArray) (ws : List Word) (h : split s = some ws) : (∀ x ∈ ws, okWord x) ∧ ws.length ≤ s.size + 1 := splitFrom_ok s _ _ ws h

theorem nextW_ok (ws : List Word) (st : PSt) (h : ∀ x ∈ ws, okWord x) : okWord (nextW ws st) := by
  unfold nextW
  split
  · exact ⟨by simp [word0], by simp [word0], by simp [word0]⟩
  · cases h2 : ws[st.pos]? with
    | none => exact ⟨by simp [word0], by simp [word0], by simp [word0]⟩
    | some x => exact h x (List.mem_of_getElem? h2)
theorem litR_good (ws : List Word) (st : PSt) (h : ∀ x ∈ ws, okWord x) : goodVal (litR ws st) := by
  have hw := nextW_ok ws (acceptS ws st bMinus) h
  unfold litR
  split
  · rename_i hk
    have h3 := hw.num (by simpa using hk)
    have h4 := num_digits _ h3.1 h3.2
    split
    · exact Or.inl ⟨rfl, by show _ ≤ -_; omega, by show -_ ≤ _; omega, rfl⟩
    · exact Or.inl ⟨rfl, by show _ ≤ num _; omega, by show num _ ≤ _; omega, rfl⟩
  · split
    · rename_i hk
      simp only [Bool.and_eq_true, beq_iff_eq] at hk
      exact Or.inr ⟨rfl, rfl, hw.text hk.1⟩
    · exact goodVal0
theorem termR_good (ws : List Word) (st : PSt) (h : ∀ x ∈ ws, okWord x) : goodVal (termR ws st).lit := by
  unfold termR
  split
  · exact goodVal0
  · exact litR_good ws st h

/-- All but the place, the fault and the condition is alike. -/
structure Same (a b : PSt) : Prop where
  act : b.act = a.act
  table : b.table = a.table
  cols : b.cols = a.cols
  vals : b.vals = a.vals
  sets : b.sets = a.sets
  shw : b.shw = a.shw
  items : b.items = a.items
theorem Same.refl (a : PSt) : Same a a := ⟨rfl, rfl, rfl, rfl, rfl, rfl, rfl⟩
theorem Same.trans {a b c : PSt} (h : Same a b) (k : Same b c) : Same a c := ⟨k.1.trans h.1, k.2.trans h.2, k.3.trans h.3, k.4.trans h.4, k.5.trans h.5, k.6.trans h.6, k.7.trans h.7⟩
theorem fail_same (a : PSt) : Same a (fail a) := ⟨rfl, rfl, rfl, rfl, rfl, rfl, rfl⟩
theorem step1_same (a : PSt) : Same a (step1 a) := ⟨rfl, rfl, rfl, rfl, rfl, rfl, rfl⟩
theorem addStep_same (a : PSt) (s : StepS) : Same a (addStep a s) := ⟨rfl, rfl, rfl, rfl, rfl, rfl, rfl⟩
theorem takeS_same (ws : List Word) (a : PSt) : Same a (takeS ws a) := by unfold takeS; split; exact fail_same a; exact step1_same a
theorem acceptS_same (ws : List Word) (a : PSt) (m : ByteArray) : Same a (acceptS ws a m) := by unfold acceptS; split; exact step1_same a; exact Same.refl a
theorem wantS_same (ws : List Word) (a : PSt) (m : ByteArray) : Same a (wantS ws a m) := by unfold wantS; split; exact step1_same a; exact fail_same a
theorem nameS_same (ws : List Word) (a : PSt) : Same a (nameS ws a) := by unfold nameS; split; exact takeS_same ws a; exact (takeS_same ws a).trans (fail_same _)
theorem kindS_same (ws : List Word) (a : PSt) : Same a (kindS ws a) := by unfold kindS; split; exact acceptS_same ws a _; exact wantS_same ws a _
theorem litS_same (ws : List Word) (a : PSt) : Same a (litS ws a) := by
  have h := (acceptS_same ws a bMinus).trans (takeS_same ws _)
  unfold litS
  split
  · exact h
  · split
    · exact h
    · exact h.trans (fail_same _)
theorem termS_same (ws : List Word) (a : PSt) : Same a (termS ws a) := by unfold termS; split; exact step1_same a; exact litS_same ws a
theorem compS_same (ws : List Word) (a : PSt) : Same a (compS ws a) := by
  have h1 := (termS_same ws a).trans (takeS_same ws _)
  have h : Same a (compMid ws a) := by unfold compMid; split; exact h1; exact h1.trans (fail_same _)
  exact (h.trans (termS_same ws _)).trans (addStep_same _ _)
theorem cond_same (ws : List Word) : ∀ f t st, Same st (cond ws f t st) := by
  intro f
  induction f with
  | zero => intro t st; exact Same.refl _
  | succ f ih =>
    intro t st
    match t with
    | 0 => rw [cond]; exact (ih 1 st).trans (ih 3 _)
    | 1 => rw [cond]; exact (ih 2 st).trans (ih 4 _)
    | 2 =>
      rw [cond]
      split
      · exact ((step1_same st).trans (ih 2 _)).trans (addStep_same _ _)
      · split
        · exact ((step1_same st).trans (ih 0 _)).trans (wantS_same ws _ _)
        · exact compS_same ws st
    | 3 =>
      rw [cond]
      split
      · exact (((step1_same st).trans (ih 1 _)).trans (addStep_same _ _)).trans (ih 3 _)
      · exact Same.refl _
    | t + 4 =>
      rw [cond]
      split
      · exact (((step1_same st).trans (ih 2 _)).trans (addStep_same _ _)).trans (ih 4 _)
      · exact Same.refl _
theorem whereS_same (ws : List Word) (st : PSt) : Same st (whereS ws st) := by
  unfold whereS
  split
  · exact (step1_same st).trans (cond_same ws _ _ _)
  · exact Same.refl _

/-- How much has been read, and that it is good. -/
structure okRead (P : Val → Prop) (n : Nat) (st : PSt) : Prop where
  few : st.cols.length + st.vals.length + st.sets.length + st.items.length ≤ n
  vals : ∀ v ∈ st.vals, P v
  sets : ∀ s ∈ st.sets, P s.first.lit ∧ P s.second.lit
theorem okRead.same {P : Val → Prop} {n : Nat} {a b : PSt} (h : okRead P n a) (k : Same a b) : okRead P n b := by
  refine ⟨?_, ?_, ?_⟩
  · rw [k.cols, k.vals, k.sets, k.items]; exact h.few
  · rw [k.vals]; exact h.vals
  · rw [k.sets]; exact h.sets
theorem okRead.mono {P : Val → Prop} {n m : Nat} {a : PSt} (h : okRead P n a) (k : n ≤ m) : okRead P m a := ⟨Nat.le_trans h.few k, h.vals, h.sets⟩
theorem okRead.act {P : Val → Prop} {n : Nat} {a : PSt} (h : okRead P n a) (x : Int) : okRead P n (setAct a x) := ⟨h.few, h.vals, h.sets⟩
theorem okRead.shw {P : Val → Prop} {n : Nat} {a : PSt} (h : okRead P n a) (x : Int) : okRead P n (setShow a x) := ⟨h.few, h.vals, h.sets⟩
theorem okRead.table {P : Val → Prop} {n : Nat} {a : PSt} (h : okRead P n a) (ws : List Word) : okRead P n (tableS ws a) := by
  have := h.same (nameS_same ws a)
  exact ⟨this.few, this.vals, this.sets⟩
theorem okRead.want {P : Val → Prop} {n : Nat} {a : PSt} (h : okRead P n a) (ws : List Word) (m : ByteArray) : okRead P n (wantS ws a m) := h.same (wantS_same ws a m)
theorem okRead.addCol {P : Val → Prop} {n : Nat} {a : PSt} (h : okRead P n a) (c : Col) : okRead P (n + 1) (addCol a c) := ⟨by have := h.few; simp [Sq.addCol]; omega, h.vals, h.sets⟩
theorem okRead.addItem {P : Val → Prop} {n : Nat} {a : PSt} (h : okRead P n a) (c : ByteArray) : okRead P (n + 1) (addItem a c) := ⟨by have := h.few; simp [Sq.addItem]; omega, h.vals, h.sets⟩
theorem okRead.addVal {P : Val → Prop} {n : Nat} {a : PSt} (h : okRead P n a) (v : Val) (hv : P v) : okRead P (n + 1) (addVal a v) := by
  refine ⟨by have := h.few; simp [Sq.addVal]; omega, ?_, h.sets⟩
  intro x hx
  rcases List.mem_append.1 hx with hx | hx
  · exact h.vals x hx
  · simp at hx; subst hx; exact hv
theorem okRead.addSet {P : Val → Prop} {n : Nat} {a : PSt} (h : okRead P n a) (v : SetS) (hv : P v.first.lit ∧ P v.second.lit) : okRead P (n + 1) (addSet a v) := by
  refine ⟨by have := h.few; simp [Sq.addSet]; omega, h.vals, ?_⟩
  intro x hx
  rcases List.mem_append.1 hx with hx | hx
  · exact h.sets x hx
  · simp at hx; subst hx; exact hv
theorem okRead.commas {P : Val → Prop} (ws : List Word) (body : PSt → PSt) (hb : ∀ n st, okRead P n st → okRead P (n + 1) (body st)) : ∀ f n st, okRead P n st → okRead P (n + f) (commas ws body f st) := by
  intro f
  induction f with
  | zero => intro n st h; exact h
  | succ f ih =>
    intro n st h
    rw [Sq.commas]
    split
    · exact (ih (n + 1) _ (hb n _ (h.same (step1_same st)))).mono (by omega)
    · exact h.mono (by omega)

theorem valueS_read (ws : List Word) (hw : ∀ x ∈ ws, okWord x) (n : Nat) (st : PSt) (h : okRead goodVal n st) : okRead goodVal (n + 1) (valueS ws st) := (h.same (litS_same ws st)).addVal _ (litR_good ws st hw)
theorem itemS_read (ws : List Word) (n : Nat) (st : PSt) (h : okRead goodVal n st) : okRead goodVal (n + 1) (itemS ws st) := (h.same (nameS_same ws st)).addItem _
theorem colS_read (ws : List Word) (n : Nat) (st : PSt) (h : okRead goodVal n st) : okRead goodVal (n + 1) (colS ws st) := ((h.same (nameS_same ws st)).same (kindS_same ws _)).addCol _
theorem asg2_same (ws : List Word) (st : PSt) : Same st (asg2 ws st) := ((nameS_same ws st).trans (wantS_same ws _ _)).trans (termS_same ws _)
theorem asgS_read (ws : List Word) (hw : ∀ x ∈ ws, okWord x) (n : Nat) (st : PSt) (h : okRead goodVal n st) : okRead goodVal (n + 1) (asgS ws st) := by
  have h2 := asg2_same ws st
  have h4 : Same st (asg4 ws st) := by
    unfold asg4 asg3
    split
    · exact (h2.trans (step1_same _)).trans (termS_same ws _)
    · split
      · exact (h2.trans (step1_same _)).trans (termS_same ws _)
      · exact h2
  refine (h.same h4).addSet _ ⟨termR_good ws _ hw, ?_⟩
  show goodVal (asgSecond ws st).lit
  unfold asgSecond
  split
  · exact termR_good ws _ hw
  · split
    · exact termR_good ws _ hw
    · exact goodVal0
theorem st0_read : okRead goodVal 0 st0 := ⟨by simp [st0], by simp [st0], by simp [st0]⟩
theorem statementS_read (ws : List Word) (hw : ∀ x ∈ ws, okWord x) (st : PSt) (h : okRead goodVal 0 st) : okRead goodVal (ws.length + 2) (statementS ws st) := by
  have h' := h.same (takeS_same ws st)
  unfold statementS
  split
  · exact ((okRead.commas ws _ (colS_read ws) (ws.length + 1) 1 _ ((((((h'.act 1).want ws _).table ws).want ws _).same (nameS_same ws _)).want ws _ |>.addCol _)).want ws _).mono (by omega)
  · split
    · exact ((okRead.commas ws _ (valueS_read ws hw) (ws.length + 1) 1 _ (valueS_read ws hw 0 _ (((((h'.act 2).want ws _).table ws).want ws _).want ws _))).want ws _).mono (by omega)
    · split
      · exact ((okRead.commas ws _ (asgS_read ws hw) (ws.length + 1) 1 _ (asgS_read ws hw 0 _ (((h'.act 3).table ws).want ws _))).same (whereS_same ws _)).mono (by omega)
      · split
        · exact ((((h'.act 4).want ws _).table ws).same (whereS_same ws _)).mono (by omega)
        · split
          · have h5 := h'.act 5
            have h6 : okRead goodVal (ws.length + 2) (chooseA ws (setAct (takeS ws st) 5)) := by
              unfold chooseA
              split
              · exact ((h5.same (step1_same _)).shw 1).mono (by omega)
              · split
                · exact ((h5.same (step1_same _)).shw 2).mono (by omega)
                · split
                  · exact ((itemS_read ws 0 _ (((h5.same (step1_same _)).shw 3).want ws _)).want ws _).mono (by omega)
                  · exact (okRead.commas ws _ (itemS_read ws) (ws.length + 1) 1 _ (itemS_read ws 0 _ (h5.shw 0))).mono (by omega)
            exact ((h6.want ws _).table ws).same (whereS_same ws _)
          · exact (h'.same (fail_same _)).mono (by omega)

/-- The condition is no longer than what was read of it. -/
def okWher (st : PSt) : Prop := st.wher.length ≤ 2 * st.pos + 1
theorem whereS_wher (ws : List Word) (st : PSt) (h : st.wher = []) : okWher (whereS ws st) := by
  unfold whereS okWher
  split
  · have h1 := (cond_len ws (8 * ws.length + 7) 0 (step1 st)).2
    have h2 : (step1 st).wher = [] := h
    rw [h2] at h1
    simp [more] at h1
    omega
  · rw [h]; simp
theorem chooseA_wher (ws : List Word) (st : PSt) : (chooseA ws st).wher = st.wher := by
  unfold chooseA
  split
  · rfl
  · split
    · rfl
    · split
      · rw [wantS_wher, itemS_wher, wantS_wher]; rfl
      · unfold itemsS
        rw [commas_wher ws _ (itemS_wher ws), itemS_wher]; rfl
theorem statementS_wher (ws : List Word) (st : PSt) (h : st.wher = []) : okWher (statementS ws st) := by
  have h' : (takeS ws st).wher = [] := (takeS_wher ws st).trans h
  have hz : ∀ a : PSt, a.wher = [] → okWher a := fun a ha => by unfold okWher; rw [ha]; simp
  unfold statementS
  split
  · refine hz _ ?_
    unfold createS
    simp only
    rw [wantS_wher, commas_wher ws _ (colS_wher ws)]
    show (wantS ws _ _).wher = []
    rw [wantS_wher, nameS_wher, wantS_wher, tableS_wher, wantS_wher]; exact h'
  · split
    · refine hz _ ?_
      unfold insertS
      simp only
      rw [wantS_wher, commas_wher ws _ (valueS_wher ws), valueS_wher, wantS_wher, wantS_wher, tableS_wher, wantS_wher]; exact h'
    · split
      · refine whereS_wher ws _ ?_
        rw [commas_wher ws _ (asgS_wher ws), asgS_wher, wantS_wher, tableS_wher]; exact h'
      · split
        · refine whereS_wher ws _ ?_
          rw [tableS_wher, wantS_wher]; exact h'
        · split
          · refine whereS_wher ws _ ?_
            rw [tableS_wher, wantS_wher, chooseA_wher]; exact h'
          · exact hz _ h'

theorem parse_read (sql : ByteArray) : okRead goodVal 163 (parse sql).2 ∧ (parse sql).2.wher.length ≤ 400 := by
  have h0 : okRead goodVal 163 st0 ∧ st0.wher.length ≤ 400 := ⟨st0_read.mono (by omega), by simp [st0]⟩
  unfold parse
  split
  · exact h0
  · cases h : split sql with
    | none => exact h0
    | some ws =>
      simp only
      obtain ⟨h1, h2⟩ := split_ok sql ws h
      split
      · exact h0
      · rename_i hs hx
        simp at hx
        have h3 := statementS_wher ws st0 rfl
        unfold okWher at h3
        exact ⟨(statementS_read ws h1 st0 st0_read).mono (by omega), by show (statementS ws st0).wher.length ≤ _; omega⟩

end Sq
end Go.Proofs.YtamkfbelpfpjcaaGreatDoor

namespace Go.Proofs.YtamkfbelpfpjcaaGreatDoor
namespace Sq

theorem commas_act (ws : List Word) (body : PSt → PSt) (hb : ∀ st, (body st).act = st.act) : ∀ f st, (commas ws body f st).act = st.act := by
  intro f
  induction f with
  | zero => intro st; rfl
  | succ f ih =>
    intro st
    rw [Sq.commas]
    split
    · rw [ih, hb]; rfl
    · rfl
theorem itemS_act (ws : List Word) (st : PSt) : (itemS ws st).act = st.act := (nameS_same ws st).act
theorem chooseA_act (ws : List Word) (st : PSt) : (chooseA ws st).act = st.act := by
  unfold chooseA
  split
  · rfl
  · split
    · rfl
    · split
      · rw [(wantS_same ws _ _).act, itemS_act, (wantS_same ws _ _).act]; rfl
      · unfold itemsS
        rw [commas_act ws _ (itemS_act ws), itemS_act]; rfl
theorem chooseS_act (ws : List Word) (st : PSt) : (chooseS ws st).act = 5 := by
  unfold chooseS
  rw [(whereS_same ws _).act]
  show (nameS ws _).act = 5
  rw [(nameS_same ws _).act, (wantS_same ws _ _).act, chooseA_act]
  rfl

theorem word_first (s : ByteArray) (h : (wordOf s).kind = 1) : (wordOf s).text = s := by
  unfold wordOf at h ⊢
  split
  · rfl
  · rename_i h1
    rw [if_neg h1] at h
    split
    · rename_i h2
      rw [if_pos h2] at h
      rcases bounded_kind 2 s 8 with h3 | h3 <;> rw [h3] at h <;> simp at h
    · rename_i h2
      rw [if_neg h2] at h
      split
      · rename_i h3
        rw [if_pos h3] at h
        rcases bounded_kind 3 s 9 with h4 | h4 <;> rw [h4] at h <;> simp at h
      · rename_i h3
        rw [if_neg h3] at h
        split
        · rename_i h4
          rw [if_pos h4] at h
          rcases bounded_kind 4 (s.extract 1 (s.size - 1)) 12 with h5 | h5 <;> rw [h5] at h <;> simp at h
        · rfl

theorem loop_eq (bs : ByteArray) : ∀ (n i : Nat) (r : List UInt8), bs.size - i = n → ByteArray.toList.loop bs i r = r.reverse ++ bs.data.toList.drop i := by
  intro n
  induction n with
  | zero =>
    intro i r h
    unfold ByteArray.toList.loop
    rw [if_neg (by omega), List.drop_eq_nil_of_le (by simp; omega)]
    simp
  | succ n ih =>
    intro i r h
    unfold ByteArray.toList.loop
    have hi : i < bs.data.toList.length := by simp; omega
    rw [if_pos (by omega), ih (i + 1) _ (by omega), List.drop_eq_getElem_cons hi]
    have : bs.get! i = bs.data.toList[i] := by
      unfold ByteArray.get!
      simp at hi
      simp [hi]
    rw [this]
    simp
theorem ba_toList (b : ByteArray) : b.toList = b.data.toList := by
  show ByteArray.toList.loop b 0 [] = _
  rw [loop_eq b _ 0 [] rfl]; simp

theorem first_byte {s : ByteArray} {l : List UInt8} {c : UInt8} (h : s.toList = c :: l) : byteAt s 0 = c.toNat := by
  unfold byteAt
  have : s.data.toList = s.toList := (ba_toList s).symm
  rw [this, h]
  rfl

theorem split_first {s : ByteArray} {ws : List Word} (hs : 0 < s.size) (hg : isGap (byteAt s 0) = false) (h : split s = some ws) : ∃ r, ws = wordOf (s.extract 0 (endOf s 0)) :: r ∧ 0 < endOf s 0 ∧ endOf s 0 ≤ s.size := by
  unfold split at h
  rw [splitFrom, if_pos hs, if_neg (by rw [hg]; simp)] at h
  split at h
  · cases h
  · rename_i h1
    split at h
    · cases h
    · cases h2 : splitFrom s s.size (endOf s 0) with
      | none => rw [h2] at h; cases h
      | some r =>
        rw [h2] at h
        simp at h
        exact ⟨r, h.symm, by omega, by omega⟩

theorem parse_asks (sql : ByteArray) (h6 : 0 < sql.size) (hs : byteAt sql 0 = 115) : (parse sql).1 ≠ 0 ∨ (parse sql).2.act = 5 := by
  unfold parse
  split
  · left; simp
  · cases h : split sql with
    | none => left; simp
    | some ws =>
      simp only
      split
      · left; simp
      · rename_i hb
        right
        obtain ⟨r, rfl, he0, he1⟩ := split_first h6 (by rw [hs]; rfl) h
        have hmark : ∀ (c : UInt8) (l : List UInt8) (b : ByteArray), b.toList = c :: l → c ≠ 115 → ((markR (wordOf (sql.extract 0 (endOf sql 0)) :: r) st0).toList == b.toList) = false := by
          intro c l b hbl hc
          cases hq : ((markR (wordOf (sql.extract 0 (endOf sql 0)) :: r) st0).toList == b.toList) with
          | false => rfl
          | true =>
            exfalso
            have hq := eq_of_beq hq
            rw [hbl] at hq
            have hn : nextW (wordOf (sql.extract 0 (endOf sql 0)) :: r) st0 = wordOf (sql.extract 0 (endOf sql 0)) := rfl
            unfold markR at hq
            rw [hn] at hq
            split at hq
            · rename_i hk
              rw [word_first _ (by simpa using hk)] at hq
              have h1 := first_byte hq
              rw [byteAt_extract0 sql 0 _ he0 he1, hs] at h1
              exact hc (UInt8.toNat_inj.1 (by show c.toNat = 115; omega))
            · rw [ba_toList] at hq; cases hq
        have hst : statementS (wordOf (sql.extract 0 (endOf sql 0)) :: r) st0 = chooseS (wordOf (sql.extract 0 (endOf sql 0)) :: r) (takeS (wordOf (sql.extract 0 (endOf sql 0)) :: r) st0) ∨ (statementS (wordOf (sql.extract 0 (endOf sql 0)) :: r) st0).bad = true := by
          unfold statementS
          rw [hmark 99 [114, 101, 97, 116, 101] bCreate (ba_toList _) (by decide), hmark 105 [110, 115, 101, 114, 116] bInsert (ba_toList _) (by decide), hmark 117 [112, 100, 97, 116, 101] bUpdate (ba_toList _) (by decide), hmark 100 [101, 108, 101, 116, 101] bDelete (ba_toList _) (by decide)]
          simp only [Bool.false_eq_true, if_false]
          split
          · left; rfl
          · right; rfl
        rcases hst with h1 | h1
        · rw [h1]; exact chooseS_act _ _
        · rw [h1] at hb; simp at hb

end Sq
end Go.Proofs.YtamkfbelpfpjcaaGreatDoor
