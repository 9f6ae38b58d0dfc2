import Derived.Test.YteibbdilhpdknaaGreatDoorBa
import Derived.Test.YteibbdilhpdknaaGreatDoorBn
set_option linter.unusedVariables false
set_option linter.unusedSimpArgs false

namespace Go.Proofs.YteibbdilhpdknaaGreatDoor
namespace Sq

/-- What a value is that can be told or made. -/
def goodVal (v : Val) : Prop := (v.kind = 0 ∧ -2147483648 ≤ v.number ∧ v.number ≤ 2147483647 ∧ v.text = nobytes) ∨ (v.kind = 1 ∧ v.number = 0 ∧ v.text.size ≤ 12 ∧ (39 : UInt8) ∉ v.text.data.toList)
theorem goodVal0 : goodVal val0 := Or.inl ⟨rfl, by decide, by decide, rfl⟩

theorem numFrom_digits (l : List UInt8) : ∀ a : Int, 0 ≤ a → (∀ c ∈ l, isDigit c.toNat = true) → 0 ≤ l.foldl (fun n c => n * 10 + dv c) a ∧ l.foldl (fun n c => n * 10 + dv c) a + 1 ≤ (a + 1) * ((10 ^ l.length : Nat) : Int) := by
  induction l with
  | nil => intro a h _; simp; omega
  | cons c r ih =>
    intro a h hd
    have hc := hd c (by simp)
    have h1 : 0 ≤ dv c ∧ dv c ≤ 9 := by
      unfold isDigit rng at hc
      simp at hc
      unfold dv
      omega
    obtain ⟨i1, i2⟩ := ih (a * 10 + dv c) (by omega) (fun x hx => hd x (by simp [hx]))
    rw [List.foldl_cons, List.length_cons, Nat.pow_succ]
    refine ⟨i1, ?_⟩
    have h2 : (0 : Int) ≤ ((10 ^ r.length : Nat) : Int) := Int.natCast_nonneg _
    have h3 : (a * 10 + dv c + 1) * ((10 ^ r.length : Nat) : Int) ≤ ((a + 1) * 10) * ((10 ^ r.length : Nat) : Int) := Int.mul_le_mul_of_nonneg_right (by omega) h2
    have h4 : (a + 1) * ((10 ^ r.length * 10 : Nat) : Int) = ((a + 1) * 10) * ((10 ^ r.length : Nat) : Int) := by
      rw [Int.natCast_mul, Int.mul_assoc, Int.mul_comm ((10 ^ r.length : Nat) : Int)]
      rfl
    rw [h4]
    omega
theorem num_digits (t : ByteArray) (h : t.size ≤ 9) (hd : ∀ c ∈ t.data.toList, isDigit c.toNat = true) : 0 ≤ num t ∧ num t ≤ 999999999 := by
  have h1 := numFrom_digits t.data.toList 0 (by omega) hd
  have h2 : (10 : Nat) ^ t.data.toList.length ≤ 10 ^ 9 := Nat.pow_le_pow_right (by decide) (by simpa using h)
  have h3 : (10 : Nat) ^ 9 = 1000000000 := by decide
  refine ⟨h1.1, ?_⟩
  have h4 := h1.2
  unfold num numL
  omega

theorem extract_list (s : ByteArray) (a b : Nat) : (s.extract a b).data.toList = (s.data.toList.drop a).take (b - a) := by
  simp [List.extract_eq_take_drop]
theorem take_takeWhile {α : Type} (p : α → Bool) (l : List α) : l.take (l.takeWhile p).length = l.takeWhile p := by
  induction l with
  | nil => rfl
  | cons x r ih =>
    rw [List.takeWhile_cons]
    split
    · rw [List.length_cons, List.take_succ_cons, ih]
    · rfl
theorem mem_takeWhile {α : Type} (p : α → Bool) (l : List α) : ∀ x ∈ l.takeWhile p, p x = true := by
  induction l with
  | nil => intro x hx; simp at hx
  | cons y r ih =>
    intro x hx
    rw [List.takeWhile_cons] at hx
    split at hx
    · rename_i h
      rcases List.mem_cons.1 hx with rfl | hx
      · exact h
      · exact ih x hx
    · simp at hx
theorem cnt_list (p : Int → Bool) (s : ByteArray) (a : Nat) : (s.extract a (a + cnt p s a)).data.toList = (s.data.toList.drop a).takeWhile fun c => p c.toNat := by
  rw [extract_list, Nat.add_sub_cancel_left]
  exact take_takeWhile _ _
theorem byteAt_extract0 (s : ByteArray) (a b : Nat) (h : a < b) (hb : b ≤ s.size) : byteAt (s.extract a b) 0 = byteAt s a := by
  unfold byteAt
  rw [extract_list]
  rw [List.getElem?_take, if_pos (by omega), List.getElem?_drop]
  simp

/-- A word as it should be. -/
structure okWord (x : Word) : Prop where
  num : x.kind = 3 → x.text.size ≤ 9 ∧ ∀ c ∈ x.text.data.toList, isDigit c.toNat = true
  text : x.kind = 4 → x.text.size ≤ 12 ∧ (39 : UInt8) ∉ x.text.data.toList
  name : x.kind = 2 → x.text.size ≤ 8

theorem wordOf_ok (s : ByteArray) (a : Nat) (h : a < endOf s a) (hs : endOf s a ≤ s.size) : okWord (wordOf (s.extract a (endOf s a))) := by
  have h0 := byteAt_extract0 s a (endOf s a) h hs
  obtain ⟨t, ht⟩ : ∃ t, t = s.extract a (endOf s a) := ⟨_, rfl⟩
  rw [← ht] at h0 ⊢
  unfold wordOf
  split
  · exact ⟨by simp, by simp, by simp⟩
  · rw [h0]
    split
    · refine ⟨fun h => ?_, fun h => ?_, fun _ => bounded_size 2 t 8⟩
      · rcases bounded_kind 2 t 8 with h3 | h3 <;> rw [h3] at h <;> simp at h
      · rcases bounded_kind 2 t 8 with h3 | h3 <;> rw [h3] at h <;> simp at h
    · rename_i hl
      split
      · rename_i hdg
        refine ⟨fun _ => ⟨bounded_size 3 t 9, ?_⟩, fun h => ?_, fun h => ?_⟩
        · unfold bounded
          split
          · have he : endOf s a = a + cnt isDigit s a := by unfold endOf; rw [if_neg hl, if_pos hdg]
            show ∀ c ∈ t.data.toList, _
            rw [ht, he, cnt_list]
            exact fun c hc => mem_takeWhile _ _ c hc
          · intro c hc; simp at hc
        · rcases bounded_kind 3 t 9 with h3 | h3 <;> rw [h3] at h <;> simp at h
        · rcases bounded_kind 3 t 9 with h3 | h3 <;> rw [h3] at h <;> simp at h
      · rename_i hdg
        split
        · rename_i hq
          simp only [Bool.and_eq_true, beq_iff_eq] at hq
          refine ⟨fun h => ?_, fun _ => ⟨bounded_size 4 _ 12, ?_⟩, fun h => ?_⟩
          · rcases bounded_kind 4 (t.extract 1 (t.size - 1)) 12 with h3 | h3 <;> rw [h3] at h <;> simp at h
          · unfold bounded
            split
            · have he : endOf s a = endOfText s a := by unfold endOf; rw [if_neg hl, if_neg hdg, if_pos (by simp [hq.1])]
              have he2 : endOf s a = a + 1 + cnt isInText s (a + 1) + 1 := by
                rw [he]; rw [he] at h; unfold endOfText at h ⊢
                split
                · rfl
                · rename_i hx; rw [if_neg hx] at h; omega
              show (39 : UInt8) ∉ (t.extract 1 (t.size - 1)).data.toList
              have hts : t.size = cnt isInText s (a + 1) + 2 := by
                rw [ht, ByteArray.size_extract]; omega
              rw [extract_list, hts, ht, extract_list, List.drop_take, List.drop_drop, List.take_take]
              have hm : min (cnt isInText s (a + 1) + 2 - 1 - 1) (endOf s a - a - 1) = (((s.data.toList.drop (a + 1)).takeWhile fun c => isInText c.toNat)).length := by
                show _ = cnt isInText s (a + 1)
                omega
              rw [hm, take_takeWhile]
              intro hc
              have := mem_takeWhile _ _ _ hc
              exact absurd this (by decide)
            · simp
          · rcases bounded_kind 4 (t.extract 1 (t.size - 1)) 12 with h3 | h3 <;> rw [h3] at h <;> simp at h
        · exact ⟨by simp, by simp, by simp⟩

theorem splitFrom_ok (s : ByteArray) : ∀ f a ws, splitFrom s f a = some ws → (∀ x ∈ ws, okWord x) ∧ ws.length ≤ f := by
  intro f
  induction f with
  | zero => intro a ws h; simp [splitFrom] at h; subst h; simp
  | succ f ih =>
    intro a ws h
    rw [splitFrom] at h
    split at h
    · split at h
      · have := ih _ _ h; exact ⟨this.1, by omega⟩
      · split at h
        · simp at h
        · rename_i he
          split at h
          · simp at h
          · cases h2 : splitFrom s f (endOf s a) with
            | none => rw [h2] at h; simp at h
            | some l =>
              rw [h2] at h
              simp at h
              subst h
              have h3 := ih _ _ h2
              refine ⟨fun x hx => ?_, by simp; omega⟩
              rcases List.mem_cons.1 hx with rfl | hx
              · exact wordOf_ok s a (by omega) (by omega)
              · exact h3.1 x hx
    · simp at h; subst h; simp
theorem split_ok (s : ByteArray) (ws : List Word) (h : split s = some ws) : (∀ x ∈ ws, okWord x) ∧ ws.length ≤ s.size + 1 := splitFrom_ok s _ _ ws h

theorem nextW_ok (ws : List Word) (st : PSt) (h : ∀ x ∈ ws, okWord x) : okWord (nextW ws st) := by
  unfold nextW
  split
  · exact ⟨by simp [word0], by simp [word0], by simp [word0]⟩
  · cases h2 : ws[st.pos]? with
    | none => exact ⟨by simp [word0], by simp [word0], by simp [word0]⟩
    | some x => exact h x (List.mem_of_getElem? h2)
theorem litR_good (ws : List Word) (st : PSt) (h : ∀ x ∈ ws, okWord x) : goodVal (litR ws st) := by
  have hw := nextW_ok ws (acceptS ws st bMinus) h
  unfold litR
  split
  · rename_i hk
    have h3 := hw.num (by simpa using hk)
    have h4 := num_digits _ h3.1 h3.2
    split
    · exact Or.inl ⟨rfl, by show _ ≤ -_; omega, by show -_ ≤ _; omega, rfl⟩
    · exact Or.inl ⟨rfl, by show _ ≤ num _; omega, by show num _ ≤ _; omega, rfl⟩
  · split
    · rename_i hk
      simp only [Bool.and_eq_true, beq_iff_eq] at hk
      exact Or.inr ⟨rfl, rfl, hw.text hk.1⟩
    · exact goodVal0
theorem termR_good (ws : List Word) (st : PSt) (h : ∀ x ∈ ws, okWord x) : goodVal (termR ws st).lit := by
  unfold termR
  split
  · exact goodVal0
  · exact litR_good ws st h

/-- All but the place, the fault and the condition is alike. -/
structure Same (a b : PSt) : Prop where
  act : b.act = a.act
  table : b.table = a.table
  cols : b.cols = a.cols
  vals : b.vals = a.vals
  sets : b.sets = a.sets
  shw : b.shw = a.shw
  items : b.items = a.items
theorem Same.refl (a : PSt) : Same a a := ⟨rfl, rfl, rfl, rfl, rfl, rfl, rfl⟩
theorem Same.trans {a b c : PSt} (h : Same a b) (k : Same b c) : Same a c := ⟨k.1.trans h.1, k.2.trans h.2, k.3.trans h.3, k.4.trans h.4, k.5.trans h.5, k.6.trans h.6, k.7.trans h.7⟩
theorem fail_same (a : PSt) : Same a (fail a) := ⟨rfl, rfl, rfl, rfl, rfl, rfl, rfl⟩
theorem step1_same (a : PSt) : Same a (step1 a) := ⟨rfl, rfl, rfl, rfl, rfl, rfl, rfl⟩
theorem addStep_same (a : PSt) (s : StepS) : Same a (addStep a s) := ⟨rfl, rfl, rfl, rfl, rfl, rfl, rfl⟩
theorem takeS_same (ws : List Word) (a : PSt) : Same a (takeS ws a) := by unfold takeS; split; exact fail_same a; exact step1_same a
theorem acceptS_same (ws : List Word) (a : PSt) (m : ByteArray) : Same a (acceptS ws a m) := by unfold acceptS; split; exact step1_same a; exact Same.refl a
theorem wantS_same (ws : List Word) (a : PSt) (m : ByteArray) : Same a (wantS ws a m) := by unfold wantS; split; exact step1_same a; exact fail_same a
theorem nameS_same (ws : List Word) (a : PSt) : Same a (nameS ws a) := by unfold nameS; split; exact takeS_same ws a; exact (takeS_same ws a).trans (fail_same _)
theorem kindS_same (ws : List Word) (a : PSt) : Same a (kindS ws a) := by unfold kindS; split; exact acceptS_same ws a _; exact wantS_same ws a _
theorem litS_same (ws : List Word) (a : PSt) : Same a (litS ws a) := by
  have h := (acceptS_same ws a bMinus).trans (takeS_same ws _)
  unfold litS
  split
  · exact h
  · split
    · exact h
    · exact h.trans (fail_same _)
theorem termS_same (ws : List Word) (a : PSt) : Same a (termS ws a) := by unfold termS; split; exact step1_same a; exact litS_same ws a
theorem compS_same (ws : List Word) (a : PSt) : Same a (compS ws a) := by
  have h1 := (termS_same ws a).trans (takeS_same ws _)
  have h : Same a (compMid ws a) := by unfold compMid; split; exact h1; exact h1.trans (fail_same _)
  exact (h.trans (termS_same ws _)).trans (addStep_same _ _)
theorem cond_same (ws : List Word) : ∀ f t st, Same st (cond ws f t st) := by
  intro f
  induction f with
  | zero => intro t st; exact Same.refl _
  | succ f ih =>
    intro t st
    match t with
    | 0 => rw [cond]; exact (ih 1 st).trans (ih 3 _)
    | 1 => rw [cond]; exact (ih 2 st).trans (ih 4 _)
    | 2 =>
      rw [cond]
      split
      · exact ((step1_same st).trans (ih 2 _)).trans (addStep_same _ _)
      · split
        · exact ((step1_same st).trans (ih 0 _)).trans (wantS_same ws _ _)
        · exact compS_same ws st
    | 3 =>
      rw [cond]
      split
      · exact (((step1_same st).trans (ih 1 _)).trans (addStep_same _ _)).trans (ih 3 _)
      · exact Same.refl _
    | t + 4 =>
      rw [cond]
      split
      · exact (((step1_same st).trans (ih 2 _)).trans (addStep_same _ _)).trans (ih 4 _)
      · exact Same.refl _
theorem whereS_same (ws : List Word) (st : PSt) : Same st (whereS ws st) := by
  unfold whereS
  split
  · exact (step1_same st).trans (cond_same ws _ _ _)
  · exact Same.refl _

/-- How much has been read, and that it is good. -/
structure okRead (P : Val → Prop) (n : Nat) (st : PSt) : Prop where
  few : st.cols.length + st.vals.length + st.sets.length + st.items.length ≤ n
  vals : ∀ v ∈ st.vals, P v
  sets : ∀ s ∈ st.sets, P s.first.lit ∧ P s.second.lit
theorem okRead.same {P : Val → Prop} {n : Nat} {a b : PSt} (h : okRead P n a) (k : Same a b) : okRead P n b := by
  refine ⟨?_, ?_, ?_⟩
  · rw [k.cols, k.vals, k.sets, k.items]; exact h.few
  · rw [k.vals]; exact h.vals
  · rw [k.sets]; exact h.sets
theorem okRead.mono {P : Val → Prop} {n m : Nat} {a : PSt} (h : okRead P n a) (k : n ≤ m) : okRead P m a := ⟨Nat.le_trans h.few k, h.vals, h.sets⟩
theorem okRead.act {P : Val → Prop} {n : Nat} {a : PSt} (h : okRead P n a) (x : Int) : okRead P n (setAct a x) := ⟨h.few, h.vals, h.sets⟩
theorem okRead.shw {P : Val → Prop} {n : Nat} {a : PSt} (h : okRead P n a) (x : Int) : okRead P n (setShow a x) := ⟨h.few, h.vals, h.sets⟩
theorem okRead.table {P : Val → Prop} {n : Nat} {a : PSt} (h : okRead P n a) (ws : List Word) : okRead P n (tableS ws a) := by
  have := h.same (nameS_same ws a)
  exact ⟨this.few, this.vals, this.sets⟩
theorem okRead.want {P : Val → Prop} {n : Nat} {a : PSt} (h : okRead P n a) (ws : List Word) (m : ByteArray) : okRead P n (wantS ws a m) := h.same (wantS_same ws a m)
theorem okRead.addCol {P : Val → Prop} {n : Nat} {a : PSt} (h : okRead P n a) (c : Col) : okRead P (n + 1) (addCol a c) := ⟨by have := h.few; simp [Sq.addCol]; omega, h.vals, h.sets⟩
theorem okRead.addItem {P : Val → Prop} {n : Nat} {a : PSt} (h : okRead P n a) (c : ByteArray) : okRead P (n + 1) (addItem a c) := ⟨by have := h.few; simp [Sq.addItem]; omega, h.vals, h.sets⟩
theorem okRead.addVal {P : Val → Prop} {n : Nat} {a : PSt} (h : okRead P n a) (v : Val) (hv : P v) : okRead P (n + 1) (addVal a v) := by
  refine ⟨by have := h.few; simp [Sq.addVal]; omega, ?_, h.sets⟩
  intro x hx
  rcases List.mem_append.1 hx with hx | hx
  · exact h.vals x hx
  · simp at hx; subst hx; exact hv
theorem okRead.addSet {P : Val → Prop} {n : Nat} {a : PSt} (h : okRead P n a) (v : SetS) (hv : P v.first.lit ∧ P v.second.lit) : okRead P (n + 1) (addSet a v) := by
  refine ⟨by have := h.few; simp [Sq.addSet]; omega, h.vals, ?_⟩
  intro x hx
  rcases List.mem_append.1 hx with hx | hx
  · exact h.sets x hx
  · simp at hx; subst hx; exact hv
theorem okRead.commas {P : Val → Prop} (ws : List Word) (body : PSt → PSt) (hb : ∀ n st, okRead P n st → okRead P (n + 1) (body st)) : ∀ f n st, okRead P n st → okRead P (n + f) (commas ws body f st) := by
  intro f
  induction f with
  | zero => intro n st h; exact h
  | succ f ih =>
    intro n st h
    rw [Sq.commas]
    split
    · exact (ih (n + 1) _ (hb n _ (h.same (step1_same st)))).mono (by omega)
    · exact h.mono (by omega)

theorem valueS_read (ws : List Word) (hw : ∀ x ∈ ws, okWord x) (n : Nat) (st : PSt) (h : okRead goodVal n st) : okRead goodVal (n + 1) (valueS ws st) := (h.same (litS_same ws st)).addVal _ (litR_good ws st hw)
theorem itemS_read (ws : List Word) (n : Nat) (st : PSt) (h : okRead goodVal n st) : okRead goodVal (n + 1) (itemS ws st) := (h.same (nameS_same ws st)).addItem _
theorem colS_read (ws : List Word) (n : Nat) (st : PSt) (h : okRead goodVal n st) : okRead goodVal (n + 1) (colS ws st) := ((h.same (nameS_same ws st)).same (kindS_same ws _)).addCol _
theorem asg2_same (ws : List Word) (st : PSt) : Same st (asg2 ws st) := ((nameS_same ws st).trans (wantS_same ws _ _)).trans (termS_same ws _)
theorem asgS_read (ws : List Word) (hw : ∀ x ∈ ws, okWord x) (n : Nat) (st : PSt) (h : okRead goodVal n st) : okRead goodVal (n + 1) (asgS ws st) := by
  have h2 := asg2_same ws st
  have h4 : Same st (asg4 ws st) := by
    unfold asg4 asg3
    split
    · exact (h2.trans (step1_same _)).trans (termS_same ws _)
    · split
      · exact (h2.trans (step1_same _)).trans (termS_same ws _)
      · exact h2
  refine (h.same h4).addSet _ ⟨termR_good ws _ hw, ?_⟩
  show goodVal (asgSecond ws st).lit
  unfold asgSecond
  split
  · exact termR_good ws _ hw
  · split
    · exact termR_good ws _ hw
    · exact goodVal0
theorem st0_read : okRead goodVal 0 st0 := ⟨by simp [st0], by simp [st0], by simp [st0]⟩
theorem statementS_read (ws : List Word) (hw : ∀ x ∈ ws, okWord x) (st : PSt) (h : okRead goodVal 0 st) : okRead goodVal (ws.length + 2) (statementS ws st) := by
  have h' := h.same (takeS_same ws st)
  unfold statementS
  split
  · exact ((okRead.commas ws _ (colS_read ws) (ws.length + 1) 1 _ ((((((h'.act 1).want ws _).table ws).want ws _).same (nameS_same ws _)).want ws _ |>.addCol _)).want ws _).mono (by omega)
  · split
    · exact ((okRead.commas ws _ (valueS_read ws hw) (ws.length + 1) 1 _ (valueS_read ws hw 0 _ (((((h'.act 2).want ws _).table ws).want ws _).want ws _))).want ws _).mono (by omega)
    · split
      · exact ((okRead.commas ws _ (asgS_read ws hw) (ws.length + 1) 1 _ (asgS_read ws hw 0 _ (((h'.act 3).table ws).want ws _))).same (whereS_same ws _)).mono (by omega)
      · split
        · exact ((((h'.act 4).want ws _).table ws).same (whereS_same ws _)).mono (by omega)
        · split
          · have h5 := h'.act 5
            have h6 : okRead goodVal (ws.length + 2) (chooseA ws (setAct (takeS ws st) 5)) := by
              unfold chooseA
              split
              · exact ((h5.same (step1_same _)).shw 1).mono (by omega)
              · split
                · exact ((h5.same (step1_same _)).shw 2).mono (by omega)
                · split
                  · exact ((itemS_read ws 0 _ (((h5.same (step1_same _)).shw 3).want ws _)).want ws _).mono (by omega)
                  · exact (okRead.commas ws _ (itemS_read ws) (ws.length + 1) 1 _ (itemS_read ws 0 _ (h5.shw 0))).mono (by omega)
            exact ((h6.want ws _).table ws).same (whereS_same ws _)
          · exact (h'.same (fail_same _)).mono (by omega)

/-- The condition is no longer than what was read of it. -/
def okWher (st : PSt) : Prop := st.wher.length ≤ 2 * st.pos + 1
theorem whereS_wher (ws : List Word) (st : PSt) (h : st.wher = []) : okWher (whereS ws st) := by
  unfold whereS okWher
  split
  · have h1 := (cond_len ws (8 * ws.length + 7) 0 (step1 st)).2
    have h2 : (step1 st).wher = [] := h
    rw [h2] at h1
    simp [more] at h1
    omega
  · rw [h]; simp
theorem chooseA_wher (ws : List Word) (st : PSt) : (chooseA ws st).wher = st.wher := by
  unfold chooseA
  split
  · rfl
  · split
    · rfl
    · split
      · rw [wantS_wher, itemS_wher, wantS_wher]; rfl
      · unfold itemsS
        rw [commas_wher ws _ (itemS_wher ws), itemS_wher]; rfl
theorem statementS_wher (ws : List Word) (st : PSt) (h : st.wher = []) : okWher (statementS ws st) := by
  have h' : (takeS ws st).wher = [] := (takeS_wher ws st).trans h
  have hz : ∀ a : PSt, a.wher = [] → okWher a := fun a ha => by unfold okWher; rw [ha]; simp
  unfold statementS
  split
  · refine hz _ ?_
    unfold createS
    simp only
    rw [wantS_wher, commas_wher ws _ (colS_wher ws)]
    show (wantS ws _ _).wher = []
    rw [wantS_wher, nameS_wher, wantS_wher, tableS_wher, wantS_wher]; exact h'
  · split
    · refine hz _ ?_
      unfold insertS
      simp only
      rw [wantS_wher, commas_wher ws _ (valueS_wher ws), valueS_wher, wantS_wher, wantS_wher, tableS_wher, wantS_wher]; exact h'
    · split
      · refine whereS_wher ws _ ?_
        rw [commas_wher ws _ (asgS_wher ws), asgS_wher, wantS_wher, tableS_wher]; exact h'
      · split
        · refine whereS_wher ws _ ?_
          rw [tableS_wher, wantS_wher]; exact h'
        · split
          · refine whereS_wher ws _ ?_
            rw [tableS_wher, wantS_wher, chooseA_wher]; exact h'
          · exact hz _ h'

theorem parse_read (sql : ByteArray) : okRead goodVal 163 (parse sql).2 ∧ (parse sql).2.wher.length ≤ 400 := by
  have h0 : okRead goodVal 163 st0 ∧ st0.wher.length ≤ 400 := ⟨st0_read.mono (by omega), by simp [st0]⟩
  unfold parse
  split
  · exact h0
  · cases h : split sql with
    | none => exact h0
    | some ws =>
      simp only
      obtain ⟨h1, h2⟩ := split_ok sql ws h
      split
      · exact h0
      · rename_i hs hx
        simp at hx
        have h3 := statementS_wher ws st0 rfl
        unfold okWher at h3
        exact ⟨(statementS_read ws h1 st0 st0_read).mono (by omega), by show (statementS ws st0).wher.length ≤ _; omega⟩

end Sq
end Go.Proofs.YteibbdilhpdknaaGreatDoor

namespace Go.Proofs.YteibbdilhpdknaaGreatDoor
namespace Sq

/-- The tables as an outcome leaves them. -/
def made (db : List Tab) (o : Out) : List Tab := if o.makes then db ++ [⟨o.name, o.cols, []⟩] else db
def apply (db : List Tab) (o : Out) : List Tab := setRows (made db o) o.table.toNat (cutAll o.cuts (putAll o.puts (rowsAt (made db o) o.table.toNat)))
def after (db : List Tab) (sql : ByteArray) : List Tab := apply db (Sq.decide db sql)

structure goodRow (r : List Val) : Prop where
  vals : ∀ v ∈ r, goodVal v
  head : ∃ v q, r = v :: q ∧ v.kind = 0
structure goodTab (t : Tab) : Prop where
  cols : t.cols.length ≤ 4
  head : ∃ c q, t.cols = c :: q ∧ c.kind = 0
  sorted : sorted t.rows
  rows : ∀ r ∈ t.rows, goodRow r
structure good (db : List Tab) : Prop where
  few : db.length ≤ 5
  size : dbSize db ≤ 60
  each : ∀ t ∈ db, goodTab t
theorem good_nil : good [] := ⟨by simp, by simp [dbSize, rowsSum], by simp⟩

theorem goodVal.ok {v : Val} (h : goodVal v) : okVal v := by
  rcases h with ⟨_, h1, h2, h3⟩ | ⟨_, h1, h2, _⟩
  · exact ⟨by omega, by omega, by rw [h3]; decide⟩
  · exact ⟨by omega, by omega, by omega⟩
theorem rows_le_sum : ∀ (db : List Tab) (t : Tab), t ∈ db → t.rows.length ≤ rowsSum db := by
  intro db
  induction db with
  | nil => intro t h; simp at h
  | cons x r ih =>
    intro t h
    have e : rowsSum (x :: r) = x.rows.length + rowsSum r := by simp [rowsSum]
    rcases List.mem_cons.1 h with rfl | h
    · omega
    · have := ih t h; omega
theorem good.ok {db : List Tab} (h : good db) : okDB db := by
  refine ⟨by have := h.few; omega, fun t ht => ⟨?_, by have := (h.each t ht).cols; omega, fun r hr v hv => (((h.each t ht).rows r hr).vals v hv).ok⟩⟩
  have h1 := rows_le_sum db t ht
  have h2 := h.size
  unfold dbSize at h2
  omega
theorem sum_set : ∀ (db : List Tab) (k : Nat) (hk : k < db.length) (t : Tab), rowsSum (db.set k t) + db[k].rows.length = rowsSum db + t.rows.length := by
  intro db
  induction db with
  | nil => intro k hk; simp at hk
  | cons x r ih =>
    intro k hk t
    have e : ∀ (y : Tab) (q : List Tab), rowsSum (y :: q) = y.rows.length + rowsSum q := fun y q => by simp [rowsSum]
    cases k with
    | zero => rw [List.set_cons_zero, e, e, List.getElem_cons_zero]; omega
    | succ k =>
      have := ih k (by simpa using hk) t
      rw [List.set_cons_succ, e, e, List.getElem_cons_succ]; omega
theorem good_setRows {db : List Tab} (h : good db) (k : Nat) (hk : k < db.length) (rows : List (List Val)) (hs : sorted rows) (hr : ∀ r ∈ rows, goodRow r) (hl : dbSize db + rows.length ≤ 60 + db[k].rows.length) : good (setRows db k rows) := by
  refine ⟨by rw [setRows_length]; exact h.few, ?_, ?_⟩
  · unfold dbSize at hl ⊢
    rw [setRows_length, setRows_lt db k hk]
    have := sum_set db k hk { db[k] with rows := rows }
    simp only at this ⊢
    omega
  · rw [setRows_lt db k hk]
    intro t ht
    rcases List.mem_or_eq_of_mem_set ht with ht | rfl
    · exact h.each t ht
    · have := h.each db[k] (List.getElem_mem hk)
      exact ⟨this.cols, this.head, hs, hr⟩
theorem good_same {db : List Tab} (h : good db) (o : Out) (h1 : o.makes = false) (h2 : o.puts = []) (h3 : o.cuts = []) : good (apply db o) := by
  have e : made db o = db := by unfold made; rw [h1]; rfl
  unfold apply
  rw [e, h2, h3]
  show good (setRows db _ (rowsAt db _))
  rw [setRows_same]; exact h
theorem good_refused {db : List Tab} (h : good db) (n : Int) : good (apply db (refused n)) := good_same h _ rfl rfl rfl

theorem check_act (cols : List Col) (st : PSt) (h : check cols st = 0) : checkAct cols st = 0 := by
  unfold check at h
  split at h
  · exact h
  · rename_i h2; simpa using h2
theorem checkValues_head (c : Col) (q : List Col) (vals : List Val) (h : checkValues (c :: q) vals = 0) : ∃ v r, vals = v :: r ∧ v.kind = c.kind := by
  unfold checkValues at h
  split at h
  · simp at h
  · rename_i hl
    simp at hl
    match vals, hl, h with
    | v :: r, _, h =>
      refine ⟨v, r, rfl, ?_⟩
      rw [checkValuesFrom] at h
      split at h
      · simp at h
      · rename_i hk; simpa using hk
theorem checkSets_find (cols : List Col) : ∀ (sets e : List SetS), checkSetsFrom cols e sets = 0 → ∀ s ∈ sets, find cols s.column ≠ 0 := by
  intro sets
  induction sets with
  | nil => intro e _ s hs; simp at hs
  | cons x r ih =>
    intro e h s hs
    rw [checkSetsFrom] at h
    split at h
    · rename_i hx; rw [h] at hx; simp at hx
    · rename_i hx
      rcases List.mem_cons.1 hs with rfl | hs
      · have hx' : checkSet cols e s = 0 := by simpa using hx
        intro h0
        unfold checkSet at hx'
        rw [h0] at hx'
        split at hx' <;> simp at hx'
      · exact ih _ h s hs
theorem cellOf_good (cols : List Col) (row : List Val) (n : ByteArray) (h : ∀ v ∈ row, goodVal v) : goodVal (cellOf cols row n) := by
  unfold cellOf
  split
  · exact goodVal0
  · cases h2 : row[(find cols n).toNat]? with
    | none => exact goodVal0
    | some v => exact h v (List.mem_of_getElem? h2)
theorem valueOf_good (cols : List Col) (row : List Val) (t : Term) (h : ∀ v ∈ row, goodVal v) (ht : goodVal t.lit) : goodVal (valueOf cols row t) := by
  unfold valueOf
  split
  · exact ht
  · exact cellOf_good cols row _ h
theorem result_good (cols : List Col) (row : List Val) (s : SetS) (h : ∀ v ∈ row, goodVal v) (hs : goodVal s.first.lit) : goodVal (result cols row s).1 := by
  unfold result
  split
  · exact valueOf_good cols row _ h hs
  · split
    · exact goodVal0
    · split
      · exact goodVal0
      · exact Or.inl ⟨rfl, by show _ ≤ numOf _ _ _; omega, by show numOf _ _ _ ≤ _; omega, rfl⟩
theorem assignFrom_good (cols : List Col) (old : List Val) (ho : ∀ v ∈ old, goodVal v) : ∀ (sets : List SetS) (row : List Val), (∀ s ∈ sets, goodVal s.first.lit) → (∀ s ∈ sets, find cols s.column ≠ 0) → goodRow row → (assignFrom cols old sets row).2 = true →
    goodRow (assignFrom cols old sets row).1 ∧ keyOf (assignFrom cols old sets row).1 = keyOf row := by
  intro sets
  induction sets with
  | nil => intro row _ _ h _; exact ⟨h, rfl⟩
  | cons s r ih =>
    intro row h1 h2 h3 h4
    rw [assignFrom] at h4 ⊢
    split
    · rename_i hk
      rw [if_pos hk] at h4
      have hstep : goodRow (assignStep cols old row s) ∧ keyOf (assignStep cols old row s) = keyOf row := by
        unfold assignStep
        split
        · exact ⟨h3, rfl⟩
        · rename_i hf
          have hf2 := h2 s (by simp)
          obtain ⟨k, hk⟩ : ∃ k, (find cols s.column).toNat = k + 1 := ⟨(find cols s.column).toNat - 1, by omega⟩
          rw [hk]
          obtain ⟨v, q, hv, hk0⟩ := h3.head
          rw [hv, List.set_cons_succ]
          refine ⟨⟨?_, ⟨v, _, rfl, hk0⟩⟩, rfl⟩
          intro x hx
          rcases List.mem_cons.1 hx with rfl | hx
          · exact h3.vals x (by rw [hv]; simp)
          · rcases List.mem_or_eq_of_mem_set hx with hx | rfl
            · exact h3.vals x (by rw [hv]; simp [hx])
            · exact result_good cols old s ho (h1 s (by simp))
      have := ih _ (fun x hx => h1 x (by simp [hx])) (fun x hx => h2 x (by simp [hx])) hstep.1 h4
      exact ⟨this.1, this.2.trans hstep.2⟩
    · rename_i hk
      rw [if_neg hk] at h4
      simp at h4
theorem updateFrom_mem (cols : List Col) (sets : List SetS) : ∀ (rows acc puts : List (List Val)), updateFrom cols sets rows acc = some puts → ∀ p ∈ puts, p ∈ acc ∨ ∃ r ∈ rows, (assigned cols r sets).2 = true ∧ p = (assigned cols r sets).1 := by
  intro rows
  induction rows with
  | nil => intro acc puts h p hp; rw [updateFrom] at h; simp at h; subst h; exact Or.inl hp
  | cons x q ih =>
    intro acc puts h p hp
    rw [updateFrom] at h
    split at h
    · rename_i hx
      rcases ih _ _ h p hp with h1 | ⟨r, hr, h1⟩
      · rcases List.mem_append.1 h1 with h1 | h1
        · exact Or.inl h1
        · simp at h1; exact Or.inr ⟨x, by simp, hx, h1⟩
      · exact Or.inr ⟨r, by simp [hr], h1⟩
    · simp at h

theorem good_tab {db : List Tab} (h : good db) (k : Nat) (hk : k < db.length) (st : PSt) (n : Nat) (hst : okRead goodVal n st) : good (apply db (decideTab db db[k] k st)) := by
  have ht := h.each db[k] (List.getElem_mem hk)
  unfold decideTab
  split
  · exact good_refused h _
  · rename_i hc
    have hc' : check db[k].cols st = 0 := by simpa using hc
    have hca := check_act _ _ hc'
    have hsz := h.size
    split
    · rename_i ha
      unfold Sq.insert
      split
      · exact good_refused h _
      · split
        · exact good_refused h _
        · rename_i h6
          unfold apply made
          simp only [Bool.false_eq_true, if_false, Int.toNat_natCast]
          rw [rowsAt_lt db k hk]
          show good (setRows db k (put st.vals db[k].rows))
          have hv : goodRow st.vals := by
            refine ⟨hst.vals, ?_⟩
            obtain ⟨c, q, hcq, hc0⟩ := ht.head
            have h7 : checkValues db[k].cols st.vals = 0 := by
              unfold checkAct at hca; rw [if_pos ha] at hca; exact hca
            rw [hcq] at h7
            obtain ⟨v, r, hvr, hvk⟩ := checkValues_head c q st.vals h7
            exact ⟨v, r, hvr, hvk.trans hc0⟩
          refine good_setRows h k hk _ (put_sorted ht.sorted) ?_ ?_
          · intro r hr
            rcases put_mem hr with rfl | hr
            · exact hv
            · exact ht.rows r hr
          · have := put_len st.vals db[k].rows
            omega
    · rename_i ha
      split
      · rename_i ha3
        unfold Sq.update
        cases hu : updateFrom db[k].cols st.sets (meeting db[k] st.wher) [] with
        | none => exact good_refused h _
        | some puts =>
          unfold updated apply made
          simp only [Bool.false_eq_true, if_false, Int.toNat_natCast]
          rw [rowsAt_lt db k hk]
          show good (setRows db k (putAll puts db[k].rows))
          have hfind : ∀ s ∈ st.sets, find db[k].cols s.column ≠ 0 := by
            unfold checkAct at hca; rw [if_neg ha, if_pos ha3] at hca
            exact checkSets_find _ _ _ hca
          have hp : ∀ p ∈ puts, goodRow p ∧ hasK db[k].rows (keyOf p) := by
            intro p hp
            rcases updateFrom_mem _ _ _ _ _ hu p hp with h1 | ⟨r, hr, h2, rfl⟩
            · simp at h1
            · have hr' : r ∈ db[k].rows := (List.mem_filter.1 hr).1
              have hg := ht.rows r hr'
              have := assignFrom_good db[k].cols r hg.vals st.sets r (fun s hs => (hst.sets s hs).1) hfind hg h2
              exact ⟨this.1, r, hr', this.2.symm⟩
          refine good_setRows h k hk _ (putAll_sorted puts ht.sorted) ?_ ?_
          · intro r hr
            rcases putAll_mem puts hr with hr | hr
            · exact (hp r hr).1
            · exact ht.rows r hr
          · have := putAll_len puts (rows := db[k].rows) (fun p h => (hp p h).2)
            omega
      · split
        · unfold Sq.remove apply made
          simp only [Bool.false_eq_true, if_false, Int.toNat_natCast]
          rw [rowsAt_lt db k hk]
          show good (setRows db k (cutAll _ db[k].rows))
          refine good_setRows h k hk _ (cutAll_sorted _ ht.sorted) (fun r hr => ht.rows r (cutAll_mem _ hr)) ?_
          have := cutAll_len ((meeting db[k] st.wher).map keyOf) (rows := db[k].rows)
          omega
        · exact good_same h _ rfl rfl rfl
theorem good_st {db : List Tab} (h : good db) (st : PSt) (n : Nat) (hst : okRead goodVal n st) (hh : st.act = 1 → ∃ c q, st.cols = c :: q ∧ c.kind = 0) : good (apply db (decideSt db st)) := by
  unfold decideSt
  split
  · rename_i ha
    unfold create
    split
    · exact good_refused h _
    · split
      · exact good_refused h _
      · split
        · exact good_refused h _
        · split
          · exact good_refused h _
          · split
            · exact good_refused h _
            · rename_i h1 h2 h3 h4 h5
              unfold apply made
              simp only [if_true]
              show good (setRows (db ++ [_]) _ (rowsAt _ _))
              rw [setRows_same]
              refine ⟨by simp; omega, ?_, ?_⟩
              · unfold dbSize rowsSum at h5 ⊢
                simp
                omega
              · intro t ht
                rcases List.mem_append.1 ht with ht | ht
                · exact h.each t ht
                · simp at ht
                  subst ht
                  exact ⟨by show st.cols.length ≤ 4; omega, hh (by simpa using ha), List.Pairwise.nil, by simp⟩
  · split
    · rename_i t hx
      split
      · exact good_refused h _
      · rename_i h0
        obtain ⟨k, hk⟩ := Int.eq_ofNat_of_zero_le (show 0 ≤ findTab db st.table by omega)
        rw [hk] at hx ⊢
        rw [Int.toNat_natCast] at hx
        obtain ⟨hk', ht⟩ := List.getElem?_eq_some_iff.1 hx
        subst ht
        exact good_tab h k hk' st n hst
    · exact good_refused h _

theorem commas_keep (ws : List Word) (body : PSt → PSt) (Q : PSt → Prop) (hb : ∀ st, Q st → Q (body (step1 st))) : ∀ f st, Q st → Q (commas ws body f st) := by
  intro f
  induction f with
  | zero => intro st h; exact h
  | succ f ih =>
    intro st h
    rw [commas]
    split
    · exact ih _ (hb st h)
    · exact h
theorem asgS_act (ws : List Word) (st : PSt) : (asgS ws st).act = st.act := by
  show (asg4 ws st).act = _
  have h2 := asg2_same ws st
  unfold asg4 asg3
  split
  · exact ((h2.trans (step1_same _)).trans (termS_same ws _)).act
  · split
    · exact ((h2.trans (step1_same _)).trans (termS_same ws _)).act
    · exact h2.act
theorem itemS_act (ws : List Word) (st : PSt) : (itemS ws st).act = st.act := (nameS_same ws st).act
theorem tableS_act (ws : List Word) (st : PSt) : (tableS ws st).act = st.act := (nameS_same ws st).act
theorem wantS_act (ws : List Word) (st : PSt) (m : ByteArray) : (wantS ws st m).act = st.act := (wantS_same ws st m).act
theorem statementS_head (ws : List Word) (st : PSt) (h0 : st.act = 0) (hc : st.cols = []) : (statementS ws st).act = 1 → ∃ c q, (statementS ws st).cols = c :: q ∧ c.kind = 0 := by
  unfold statementS
  split
  · intro _
    unfold createS
    simp only
    rw [(wantS_same ws _ bClose).cols]
    refine commas_keep ws (colS ws) (fun st => ∃ c q, st.cols = c :: q ∧ c.kind = 0) ?_ _ _ ?_
    · rintro s ⟨c, q, h1, h2⟩
      refine ⟨c, q ++ [⟨nameR ws (step1 s), kindR ws (nameS ws (step1 s))⟩], ?_, h2⟩
      show (kindS ws (nameS ws (step1 s))).cols ++ [_] = _
      rw [kindS_cols, nameS_cols]
      show s.cols ++ [_] = _
      rw [h1]; rfl
    · refine ⟨⟨nameR ws (wantS ws (tableS ws (wantS ws (setAct (takeS ws st) 1) bTable)) bOpen), 0⟩, [], ?_, rfl⟩
      show (wantS ws _ _).cols ++ [_] = _
      rw [wantS_cols, nameS_cols, wantS_cols, tableS_cols, wantS_cols]
      show (takeS ws st).cols ++ [_] = _
      rw [takeS_cols, hc]; rfl
  · split
    · intro h
      unfold insertS at h
      simp only at h
      rw [wantS_act, commas_keep ws (valueS ws) (fun st => st.act = 2) (fun s hs => ((litS_same ws (step1 s)).act).trans hs) _ _ ?_] at h
      · simp at h
      · refine ((litS_same ws _).act).trans ?_
        rw [wantS_act, wantS_act, tableS_act, wantS_act]; rfl
    · split
      · intro h
        unfold updateS at h
        simp only at h
        rw [(whereS_same ws _).act, commas_keep ws (asgS ws) (fun st => st.act = 3) (fun s hs => (asgS_act ws (step1 s)).trans hs) _ _ ?_] at h
        · simp at h
        · rw [asgS_act, wantS_act, tableS_act]; rfl
      · split
        · intro h
          unfold deleteS at h
          rw [(whereS_same ws _).act, tableS_act, wantS_act] at h
          simp [setAct] at h
        · split
          · intro h
            unfold chooseS at h
            rw [(whereS_same ws _).act, tableS_act, wantS_act] at h
            have h5 : (chooseA ws (setAct (takeS ws st) 5)).act = 5 := by
              unfold chooseA
              split
              · rfl
              · split
                · rfl
                · split
                  · rw [wantS_act, itemS_act, wantS_act]; rfl
                  · unfold itemsS
                    exact commas_keep ws (itemS ws) (fun st => st.act = 5) (fun s hs => (itemS_act ws (step1 s)).trans hs) _ _ (itemS_act ws _)
            rw [h5] at h; simp at h
          · intro h
            have : (takeS ws st).act = 1 := h
            rw [(takeS_same ws st).act, h0] at this
            simp at this
theorem parse_head (sql : ByteArray) : (parse sql).2.act = 1 → ∃ c q, (parse sql).2.cols = c :: q ∧ c.kind = 0 := by
  have h0 : st0.act = 1 → ∃ c q, st0.cols = c :: q ∧ c.kind = 0 := fun h => by simp [st0] at h
  unfold parse
  split
  · exact h0
  · cases h : split sql with
    | none => exact h0
    | some ws =>
      simp only
      split
      · exact h0
      · exact statementS_head ws st0 rfl rfl
theorem good_after {db : List Tab} (h : good db) (sql : ByteArray) : good (after db sql) := by
  unfold after Sq.decide
  split
  · exact good_refused h _
  · exact good_st h _ 163 (parse_read sql).1 (parse_head sql)
theorem parse_ok (sql : ByteArray) : okStm (parse sql).2 := by
  obtain ⟨h1, h2⟩ := parse_read sql
  have h3 := h1.few
  exact ⟨by omega, by omega, by omega, by omega, by omega, fun v hv => (h1.vals v hv).ok, fun s hs => ⟨(h1.sets s hs).1.ok, (h1.sets s hs).2.ok⟩⟩
/-- Many statements, one behind the other. -/
def afterAll (db : List Tab) (sqls : List ByteArray) : List Tab := sqls.foldl after db
theorem good_afterAll : ∀ (sqls : List ByteArray) {db : List Tab}, good db → good (afterAll db sqls)
  | [], _, h => h
  | s :: r, _, h => good_afterAll r (good_after h s)
end Sq
end Go.Proofs.YteibbdilhpdknaaGreatDoor
