import Derived.Test.YteibbdilhpdknaaGreatDoorBx
set_option linter.unusedVariables false
set_option linter.unusedSimpArgs false

namespace Go.Proofs.YteibbdilhpdknaaGreatDoor
namespace Sq

/-! A fault stays. -/
theorem acceptB_bad (ws : List Word) (st : PSt) (m : ByteArray) (h : st.bad = true) : acceptB ws st m = false := by
  unfold acceptB; rw [nextW_bad ws st h]; rfl
theorem acceptS_bad (ws : List Word) (st : PSt) (m : ByteArray) (h : st.bad = true) : acceptS ws st m = st := by
  unfold acceptS; rw [acceptB_bad ws st m h]; rfl
theorem takeS_bad (ws : List Word) (st : PSt) (h : st.bad = true) : (takeS ws st).bad = true := by
  unfold takeS; rw [nextW_bad ws st h]; rfl
theorem litS_bad (ws : List Word) (st : PSt) (h : st.bad = true) : (litS ws st).bad = true := by
  unfold litS
  rw [acceptS_bad ws st bMinus h]
  have := takeS_bad ws st h
  split
  · exact this
  · split
    · exact this
    · rfl
theorem termS_bad (ws : List Word) (st : PSt) (h : st.bad = true) : (termS ws st).bad = true := by
  unfold termS
  rw [nextW_bad ws st h, if_neg (by decide)]
  exact litS_bad ws st h
theorem compMid_bad (ws : List Word) (st : PSt) (h : st.bad = true) : (compMid ws st).bad = true := by
  unfold compMid
  split
  · exact takeS_bad ws _ (termS_bad ws st h)
  · rfl
theorem compS_bad (ws : List Word) (st : PSt) (h : st.bad = true) : (compS ws st).bad = true := termS_bad ws _ (compMid_bad ws st h)
theorem wantS_bad (ws : List Word) (st : PSt) (m : ByteArray) (h : st.bad = true) : (wantS ws st m).bad = true := by
  unfold wantS; rw [acceptB_bad ws st m h]; rfl
theorem cond_bad (ws : List Word) : ∀ f t st, st.bad = true → (cond ws f t st).bad = true := by
  intro f
  induction f with
  | zero => intro t st h; exact h
  | succ f ih =>
    intro t st h
    match t with
    | 0 => rw [cond]; exact ih 3 _ (ih 1 st h)
    | 1 => rw [cond]; exact ih 4 _ (ih 2 st h)
    | 2 => rw [cond, acceptB_bad ws st _ h, acceptB_bad ws st _ h]; exact compS_bad ws st h
    | 3 => rw [cond, acceptB_bad ws st _ h]; exact h
    | t + 4 => rw [cond, acceptB_bad ws st _ h]; exact h
theorem ok_of {a b : Bool} (h : a = true → b = true) (k : b = false) : a = false := by
  cases a with
  | false => rfl
  | true => rw [h rfl] at k; cases k

/-! Enough fuel is enough. -/
def need (t n : Nat) : Nat := 8 * n + (if t = 0 then 3 else if t = 1 then 2 else 1)
theorem acceptB_in (ws : List Word) (st : PSt) (m : ByteArray) (h : acceptB ws st m = true) : st.pos < ws.length := by
  refine nextW_pos ws st ?_
  unfold acceptB at h
  simp only [Bool.and_eq_true, beq_iff_eq] at h
  rw [h.1]; decide
theorem cond_pos (ws : List Word) (f t : Nat) (st : PSt) : st.pos ≤ (cond ws f t st).pos := (cond_len ws f t st).1
theorem cond_fuel (ws : List Word) : ∀ f t st, need t (ws.length - st.pos) ≤ f → cond ws (f + 1) t st = cond ws f t st := by
  intro f
  induction f with
  | zero => intro t st h; unfold need at h; split at h <;> (try split at h) <;> omega
  | succ f ih =>
    intro t st h
    match t with
    | 0 =>
      have h1 := cond_pos ws f 1 st
      rw [cond, ih 1 st (by simp [need] at h ⊢; omega), ih 3 _ (by simp [need] at h ⊢; omega)]
      conv => rhs; rw [cond]
    | 1 =>
      have h1 := cond_pos ws f 2 st
      rw [cond, ih 2 st (by simp [need] at h ⊢; omega), ih 4 _ (by simp [need] at h ⊢; omega)]
      conv => rhs; rw [cond]
    | 2 =>
      rw [cond]
      conv => rhs; rw [cond]
      have e : (step1 st).pos = st.pos + 1 := rfl
      by_cases ha : acceptB ws st bNot = true
      · have hp := acceptB_in ws st _ ha
        rw [if_pos ha, if_pos ha, ih 2 (step1 st) (by simp [need] at h ⊢; omega)]
      · rw [if_neg ha, if_neg ha]
        by_cases hb : acceptB ws st bOpen = true
        · have hp := acceptB_in ws st _ hb
          rw [if_pos hb, if_pos hb, ih 0 (step1 st) (by simp [need] at h ⊢; omega)]
        · rw [if_neg hb, if_neg hb]
    | 3 =>
      rw [cond]
      conv => rhs; rw [cond]
      have e : (step1 st).pos = st.pos + 1 := rfl
      by_cases ha : acceptB ws st bOr = true
      · have hp := acceptB_in ws st _ ha
        have h1 := cond_pos ws f 1 (step1 st)
        rw [if_pos ha, if_pos ha, ih 1 (step1 st) (by simp [need] at h ⊢; omega), ih 3 _ (by
          have e2 : (addStep (cond ws f 1 (step1 st)) (opStep bOr)).pos = (cond ws f 1 (step1 st)).pos := rfl
          rw [e2]; simp [need] at h ⊢; omega)]
      · rw [if_neg ha, if_neg ha]
    | t + 4 =>
      rw [cond]
      conv => rhs; rw [cond]
      have e : (step1 st).pos = st.pos + 1 := rfl
      by_cases ha : acceptB ws st bAnd = true
      · have hp := acceptB_in ws st _ ha
        have h1 := cond_pos ws f 2 (step1 st)
        rw [if_pos ha, if_pos ha, ih 2 (step1 st) (by simp [need] at h ⊢; omega), ih 4 _ (by
          have e2 : (addStep (cond ws f 2 (step1 st)) (opStep bAnd)).pos = (cond ws f 2 (step1 st)).pos := rfl
          rw [e2]; simp [need] at h ⊢; omega)]
      · rw [if_neg ha, if_neg ha]
theorem cond_more (ws : List Word) (f t : Nat) (st : PSt) (h : need t (ws.length - st.pos) ≤ f) : ∀ k, cond ws (f + k) t st = cond ws f t st
  | 0 => rfl
  | k + 1 => by rw [← Nat.add_assoc, cond_fuel ws (f + k) t st (by omega), cond_more ws f t st h k]
theorem cond_any (ws : List Word) (f g t : Nat) (st : PSt) (h : need t (ws.length - st.pos) ≤ f) (k : need t (ws.length - st.pos) ≤ g) : cond ws f t st = cond ws g t st := by
  rcases Nat.le_total f g with hfg | hfg
  · obtain ⟨d, rfl⟩ := Nat.exists_eq_add_of_le hfg
    exact (cond_more ws f t st h d).symm
  · obtain ⟨d, rfl⟩ := Nat.exists_eq_add_of_le hfg
    exact cond_more ws g t st k d

/-! The same words in another place are read alike. -/
def wClose : Word := ⟨1, bClose⟩
/-- What may stand behind a condition. -/
def Tail (T : List Word) : Prop := T = [] ∨ ∃ r, T = wClose :: r
structure Sim (A A' wc : List Word) (e : List StepS) (st st' : PSt) : Prop where
  ok : st.bad = false
  ok' : st'.bad = false
  pos : A.length ≤ st.pos
  lim : st.pos ≤ A.length + wc.length
  pos' : st'.pos + A.length = st.pos + A'.length
  wher : st'.wher = e ++ st.wher
section
variable {A A' wc T : List Word} {e : List StepS} {st st' : PSt}
theorem Sim.inside (h : Sim A A' wc e st st') (hk : st.pos < A.length + wc.length) : nextW (A ++ wc) st = nextW (A' ++ (wc ++ T)) st' := by
  have h1 := h.pos
  have h2 := h.pos'
  unfold nextW
  rw [h.ok, h.ok']
  simp only [Bool.false_eq_true, if_false]
  rw [List.getElem?_append_right h1, List.getElem?_append_right (by omega), List.getElem?_append_left (by omega), show st'.pos - A'.length = st.pos - A.length from by omega]
theorem Sim.here (h : Sim A A' wc e st st') (hk : (nextW (A ++ wc) st).kind ≠ 0) : st.pos < A.length + wc.length := by
  have := nextW_pos (A ++ wc) st hk
  simpa using this
theorem Sim.atEnd (h : Sim A A' wc e st st') (hT : Tail T) (hk : ¬ st.pos < A.length + wc.length) : nextW (A ++ wc) st = word0 ∧ (nextW (A' ++ (wc ++ T)) st' = word0 ∨ nextW (A' ++ (wc ++ T)) st' = wClose) := by
  have h1 := h.pos
  have h2 := h.pos'
  have h3 := h.lim
  refine ⟨nextW_out _ _ (by simp; omega), ?_⟩
  unfold nextW
  rw [h.ok']
  simp only [Bool.false_eq_true, if_false]
  rw [List.getElem?_append_right (by omega), List.getElem?_append_right (by omega), show st'.pos - A'.length - wc.length = 0 from by omega]
  rcases hT with rfl | ⟨r, rfl⟩
  · left; rfl
  · right; rfl
theorem Sim.step (h : Sim A A' wc e st st') (hk : st.pos < A.length + wc.length) : Sim A A' wc e (step1 st) (step1 st') :=
  ⟨h.ok, h.ok', Nat.le_succ_of_le h.pos, hk, by have := h.pos'; show st'.pos + 1 + _ = st.pos + 1 + _; omega, h.wher⟩
theorem Sim.accept (h : Sim A A' wc e st st') (hT : Tail T) (m : ByteArray) (hm : (bClose.toList == m.toList) = false) : acceptB (A' ++ (wc ++ T)) st' m = acceptB (A ++ wc) st m := by
  by_cases hk : st.pos < A.length + wc.length
  · unfold acceptB; rw [← h.inside hk]
  · obtain ⟨h1, h2⟩ := h.atEnd hT hk
    unfold acceptB
    rw [h1]
    rcases h2 with h2 | h2
    · rw [h2]
    · rw [h2]
      show ((1 : Int) == 1 && bClose.toList == m.toList) = ((0 : Int) == 1 && _)
      rw [hm]; rfl
theorem Sim.acceptIn (h : Sim A A' wc e st st') (m : ByteArray) (hm : acceptB (A ++ wc) st m = true) : st.pos < A.length + wc.length := by
  have := acceptB_in _ st m hm
  simpa using this
theorem Sim.acceptS (h : Sim A A' wc e st st') (hT : Tail T) (m : ByteArray) (hm : (bClose.toList == m.toList) = false) : Sim A A' wc e (acceptS (A ++ wc) st m) (acceptS (A' ++ (wc ++ T)) st' m) := by
  unfold Sq.acceptS
  rw [h.accept hT m hm]
  split
  · rename_i ha; exact h.step (h.acceptIn m ha)
  · exact h
theorem Sim.takeS (h : Sim A A' wc e st st') (hk : (nextW (A ++ wc) st).kind ≠ 0) : Sim A A' wc e (takeS (A ++ wc) st) (takeS (A' ++ (wc ++ T)) st') := by
  have hp := h.here hk
  unfold Sq.takeS
  rw [← h.inside hp, if_neg (by simpa using hk), if_neg (by simpa using hk)]
  exact h.step hp
theorem Sim.want (h : Sim A A' wc e st st') (m : ByteArray) (hb : (wantS (A ++ wc) st m).bad = false) : Sim A A' wc e (wantS (A ++ wc) st m) (wantS (A' ++ (wc ++ T)) st' m) := by
  unfold wantS at hb ⊢
  split at hb
  · rename_i ha
    have hp := h.acceptIn m ha
    have ha' : acceptB (A' ++ (wc ++ T)) st' m = true := by unfold acceptB at ha ⊢; rw [← h.inside hp]; exact ha
    rw [if_pos ha, if_pos ha']
    exact h.step hp
  · simp [fail] at hb
theorem Sim.lit (h : Sim A A' wc e st st') (hT : Tail T) (hb : (litS (A ++ wc) st).bad = false) : Sim A A' wc e (litS (A ++ wc) st) (litS (A' ++ (wc ++ T)) st') ∧ litR (A' ++ (wc ++ T)) st' = litR (A ++ wc) st := by
  have hs := h.acceptS hT bMinus (by decide +kernel)
  have ha := h.accept hT bMinus (by decide +kernel)
  unfold litS litR at *
  by_cases h3 : ((nextW (A ++ wc) (Sq.acceptS (A ++ wc) st bMinus)).kind == 3) = true
  · have hk : (nextW (A ++ wc) (Sq.acceptS (A ++ wc) st bMinus)).kind ≠ 0 := by simp at h3; rw [h3]; decide
    have hn := hs.inside (T := T) (hs.here hk)
    simp only [← hn, if_pos h3, ha]
    exact ⟨hs.takeS hk, trivial⟩
  · rw [if_neg h3] at hb
    by_cases h4 : ((nextW (A ++ wc) (Sq.acceptS (A ++ wc) st bMinus)).kind == 4 && !acceptB (A ++ wc) st bMinus) = true
    · have hk : (nextW (A ++ wc) (Sq.acceptS (A ++ wc) st bMinus)).kind ≠ 0 := by simp at h4; rw [h4.1]; decide
      have hn := hs.inside (T := T) (hs.here hk)
      simp only [← hn, ha, if_neg h3, if_pos h4]
      exact ⟨hs.takeS hk, trivial⟩
    · rw [if_neg h4] at hb; simp [fail] at hb
theorem Sim.term (h : Sim A A' wc e st st') (hT : Tail T) (hb : (termS (A ++ wc) st).bad = false) : Sim A A' wc e (termS (A ++ wc) st) (termS (A' ++ (wc ++ T)) st') ∧ termR (A' ++ (wc ++ T)) st' = termR (A ++ wc) st := by
  unfold termS termR at *
  by_cases h2 : ((nextW (A ++ wc) st).kind == 2) = true
  · have hk : (nextW (A ++ wc) st).kind ≠ 0 := by simp at h2; rw [h2]; decide
    have hp := h.here hk
    rw [← h.inside (T := T) hp, if_pos h2, if_pos h2, if_pos h2, if_pos h2]
    exact ⟨h.step hp, rfl⟩
  · have h2' : ¬ ((nextW (A' ++ (wc ++ T)) st').kind == 2) = true := by
      by_cases hp : st.pos < A.length + wc.length
      · rw [← h.inside hp]; exact h2
      · rcases (h.atEnd hT hp).2 with e | e <;> rw [e] <;> decide
    rw [if_neg h2] at hb
    rw [if_neg h2, if_neg h2, if_neg h2', if_neg h2']
    obtain ⟨h5, h6⟩ := h.lit hT hb
    exact ⟨h5, by rw [h6]⟩
theorem Sim.add (h : Sim A A' wc e st st') (s : StepS) : Sim A A' wc e (addStep st s) (addStep st' s) :=
  ⟨h.ok, h.ok', h.pos, h.lim, h.pos', by show st'.wher ++ [s] = e ++ (st.wher ++ [s]); rw [h.wher, List.append_assoc]⟩
theorem Sim.comp (h : Sim A A' wc e st st') (hT : Tail T) (hb : (compS (A ++ wc) st).bad = false) : Sim A A' wc e (compS (A ++ wc) st) (compS (A' ++ (wc ++ T)) st') := by
  have hb2 : (termS (A ++ wc) (compMid (A ++ wc) st)).bad = false := hb
  have hb1 : (compMid (A ++ wc) st).bad = false := ok_of (termS_bad _ _) hb2
  have hm : isComparison (markR (A ++ wc) (termS (A ++ wc) st)) = true := by
    unfold compMid at hb1
    split at hb1
    · assumption
    · simp [fail] at hb1
  have hb0 : (termS (A ++ wc) st).bad = false := by
    unfold compMid at hb1; rw [if_pos hm] at hb1; exact ok_of (takeS_bad _ _) hb1
  obtain ⟨h1, r1⟩ := h.term hT hb0
  have hk1 : ((nextW (A ++ wc) (termS (A ++ wc) st)).kind == 1) = true := by
    cases hh : ((nextW (A ++ wc) (termS (A ++ wc) st)).kind == 1) with
    | true => rfl
    | false => unfold markR at hm; rw [hh] at hm; exact absurd (show isComparison nobytes = true from hm) (by decide)
  have hk : (nextW (A ++ wc) (termS (A ++ wc) st)).kind ≠ 0 := by simp at hk1; rw [hk1]; decide
  have hmr : markR (A' ++ (wc ++ T)) (termS (A' ++ (wc ++ T)) st') = markR (A ++ wc) (termS (A ++ wc) st) := by
    unfold markR; rw [← h1.inside (T := T) (h1.here hk)]
  have h2 : Sim A A' wc e (compMid (A ++ wc) st) (compMid (A' ++ (wc ++ T)) st') := by
    unfold compMid; rw [hmr, if_pos hm, if_pos hm]; exact h1.takeS hk
  obtain ⟨h3, r3⟩ := h2.term hT hb2
  unfold compS
  rw [hmr, r1, r3]
  exact h3.add _
end
theorem cond_sim {A A' wc T : List Word} {e : List StepS} (hT : Tail T) : ∀ f t st st', Sim A A' wc e st st' → (cond (A ++ wc) f t st).bad = false → Sim A A' wc e (cond (A ++ wc) f t st) (cond (A' ++ (wc ++ T)) f t st') := by
  intro f
  induction f with
  | zero => intro t st st' h _; exact h
  | succ f ih =>
    intro t st st' h hb
    match t with
    | 0 =>
      rw [cond] at hb
      rw [cond, cond]
      exact ih 3 _ _ (ih 1 _ _ h (ok_of (cond_bad _ f 3 _) hb)) hb
    | 1 =>
      rw [cond] at hb
      rw [cond, cond]
      exact ih 4 _ _ (ih 2 _ _ h (ok_of (cond_bad _ f 4 _) hb)) hb
    | 2 =>
      rw [cond] at hb
      rw [cond, cond, h.accept hT bNot (by decide +kernel), h.accept hT bOpen (by decide +kernel)]
      by_cases ha : acceptB (A ++ wc) st bNot = true
      · rw [if_pos ha] at hb
        rw [if_pos ha, if_pos ha]
        exact (ih 2 _ _ (h.step (h.acceptIn _ ha)) hb).add _
      · rw [if_neg ha] at hb
        rw [if_neg ha, if_neg ha]
        by_cases ho : acceptB (A ++ wc) st bOpen = true
        · rw [if_pos ho] at hb
          rw [if_pos ho, if_pos ho]
          exact (ih 0 _ _ (h.step (h.acceptIn _ ho)) (ok_of (wantS_bad _ _ _) hb)).want _ hb
        · rw [if_neg ho] at hb
          rw [if_neg ho, if_neg ho]
          exact h.comp hT hb
    | 3 =>
      rw [cond] at hb
      rw [cond, cond, h.accept hT bOr (by decide +kernel)]
      by_cases ha : acceptB (A ++ wc) st bOr = true
      · rw [if_pos ha] at hb
        rw [if_pos ha, if_pos ha]
        have hb1 : (addStep (cond (A ++ wc) f 1 (step1 st)) (opStep bOr)).bad = false := ok_of (cond_bad _ f 3 _) hb
        exact ih 3 _ _ ((ih 1 _ _ (h.step (h.acceptIn _ ha)) hb1).add _) hb
      · rw [if_neg ha, if_neg ha]; exact h
    | t + 4 =>
      rw [cond] at hb
      rw [cond, cond, h.accept hT bAnd (by decide +kernel)]
      by_cases ha : acceptB (A ++ wc) st bAnd = true
      · rw [if_pos ha] at hb
        rw [if_pos ha, if_pos ha]
        have hb1 : (addStep (cond (A ++ wc) f 2 (step1 st)) (opStep bAnd)).bad = false := ok_of (cond_bad _ f 4 _) hb
        exact ih 4 _ _ ((ih 2 _ _ (h.step (h.acceptIn _ ha)) hb1).add _) hb
      · rw [if_neg ha, if_neg ha]; exact h

/-! What a condition leaves on the pile: one answer. -/
theorem popB_snoc (l : List Bool) (v : Bool) : popB (l ++ [v]) = v := by unfold popB; simp
theorem stepB_not (cols : List Col) (row : List Val) (l : List Bool) (v : Bool) : stepB cols row (l ++ [v]) (opStep bNot) = l ++ [!v] := by
  unfold stepB
  rw [if_neg (by decide)]
  unfold joinB
  rw [if_pos (by decide +kernel), popB_snoc, List.dropLast_concat]
theorem stepB_and (cols : List Col) (row : List Val) (l : List Bool) (x y : Bool) : stepB cols row (l ++ [x] ++ [y]) (opStep bAnd) = l ++ [x && y] := by
  unfold stepB
  rw [if_neg (by decide)]
  unfold joinB
  rw [if_neg (by decide +kernel), if_pos (by decide +kernel), popB_snoc, List.dropLast_concat, popB_snoc, List.dropLast_concat]
theorem stepB_or (cols : List Col) (row : List Val) (l : List Bool) (x y : Bool) : stepB cols row (l ++ [x] ++ [y]) (opStep bOr) = l ++ [x || y] := by
  unfold stepB
  rw [if_neg (by decide)]
  unfold joinB
  rw [if_neg (by decide +kernel), if_neg (by decide +kernel), popB_snoc, List.dropLast_concat, popB_snoc, List.dropLast_concat]
/-- The steps put one answer on the pile. -/
def Tells (cols : List Col) (row : List Val) (d : List StepS) (v : Bool) : Prop := ∀ l, d.foldl (stepB cols row) l = l ++ [v]
/-- The steps turn the answer at the pile's top. -/
def Turns (cols : List Col) (row : List Val) (d : List StepS) (x v : Bool) : Prop := ∀ l, d.foldl (stepB cols row) (l ++ [x]) = l ++ [v]
theorem compS_tells (ws : List Word) (st : PSt) (hb : (compS ws st).bad = false) : ∃ s, (compS ws st).wher = st.wher ++ [s] ∧ ∀ cols row, Tells cols row [s] (compared cols row s) := by
  have hb1 : (compMid ws st).bad = false := ok_of (termS_bad _ _) hb
  have hm : isComparison (markR ws (termS ws st)) = true := by
    unfold compMid at hb1
    split at hb1
    · assumption
    · simp [fail] at hb1
  refine ⟨⟨markR ws (termS ws st), termR ws st, termR ws (compMid ws st)⟩, ?_, ?_⟩
  · show (termS ws (compMid ws st)).wher ++ [_] = _
    rw [termS_wher, compMid_wher]
  · intro cols row l
    show stepB cols row l _ = _
    unfold stepB
    rw [if_pos hm]
theorem cond_tells (ws : List Word) : ∀ f t st, need t (ws.length - st.pos) ≤ f → (cond ws f t st).bad = false → ∃ d, (cond ws f t st).wher = st.wher ++ d ∧
    (t ≤ 2 → ∀ cols row, ∃ v, Tells cols row d v) ∧ (3 ≤ t → ∀ cols row x, ∃ v, Turns cols row d x v) := by
  intro f
  induction f with
  | zero => intro t st h; exfalso; unfold need at h; split at h <;> (try split at h) <;> omega
  | succ f ih =>
    intro t st h hb
    match t with
    | 0 =>
      rw [cond] at hb ⊢
      have h1 := cond_pos ws f 1 st
      obtain ⟨d1, e1, t1, _⟩ := ih 1 st (by simp [need] at h ⊢; omega) (ok_of (cond_bad _ f 3 _) hb)
      obtain ⟨d3, e3, _, t3⟩ := ih 3 _ (by simp [need] at h ⊢; omega) hb
      refine ⟨d1 ++ d3, by rw [e3, e1, List.append_assoc], fun _ cols row => ?_, fun h => by omega⟩
      obtain ⟨x, hx⟩ := t1 (by omega) cols row
      obtain ⟨v, hv⟩ := t3 (by omega) cols row x
      exact ⟨v, fun l => by rw [List.foldl_append, hx, hv]⟩
    | 1 =>
      rw [cond] at hb ⊢
      have h1 := cond_pos ws f 2 st
      obtain ⟨d1, e1, t1, _⟩ := ih 2 st (by simp [need] at h ⊢; omega) (ok_of (cond_bad _ f 4 _) hb)
      obtain ⟨d3, e3, _, t3⟩ := ih 4 _ (by simp [need] at h ⊢; omega) hb
      refine ⟨d1 ++ d3, by rw [e3, e1, List.append_assoc], fun _ cols row => ?_, fun h => by omega⟩
      obtain ⟨x, hx⟩ := t1 (by omega) cols row
      obtain ⟨v, hv⟩ := t3 (by omega) cols row x
      exact ⟨v, fun l => by rw [List.foldl_append, hx, hv]⟩
    | 2 =>
      rw [cond] at hb ⊢
      have e : (step1 st).pos = st.pos + 1 := rfl
      by_cases ha : acceptB ws st bNot = true
      · have hp := acceptB_in ws st _ ha
        rw [if_pos ha] at hb ⊢
        obtain ⟨d1, e1, t1, _⟩ := ih 2 (step1 st) (by simp [need] at h ⊢; omega) hb
        refine ⟨d1 ++ [opStep bNot], ?_, fun _ cols row => ?_, fun h => by omega⟩
        · show (cond ws f 2 (step1 st)).wher ++ [_] = _
          rw [e1, List.append_assoc]; rfl
        · obtain ⟨x, hx⟩ := t1 (by omega) cols row
          exact ⟨!x, fun l => by rw [List.foldl_append, hx]; exact stepB_not cols row l x⟩
      · rw [if_neg ha] at hb ⊢
        by_cases ho : acceptB ws st bOpen = true
        · have hp := acceptB_in ws st _ ho
          rw [if_pos ho] at hb ⊢
          obtain ⟨d1, e1, t1, _⟩ := ih 0 (step1 st) (by simp [need] at h ⊢; omega) (ok_of (wantS_bad _ _ _) hb)
          exact ⟨d1, by rw [wantS_wher, e1]; rfl, fun _ cols row => t1 (by omega) cols row, fun h => by omega⟩
        · rw [if_neg ho] at hb ⊢
          obtain ⟨s, h1, h2⟩ := compS_tells ws st hb
          exact ⟨[s], h1, fun _ cols row => ⟨_, h2 cols row⟩, fun h => by omega⟩
    | 3 =>
      rw [cond] at hb ⊢
      have e : (step1 st).pos = st.pos + 1 := rfl
      by_cases ha : acceptB ws st bOr = true
      · have hp := acceptB_in ws st _ ha
        have h1 := cond_pos ws f 1 (step1 st)
        rw [if_pos ha] at hb ⊢
        have hb1 : (addStep (cond ws f 1 (step1 st)) (opStep bOr)).bad = false := ok_of (cond_bad _ f 3 _) hb
        obtain ⟨d1, e1, t1, _⟩ := ih 1 (step1 st) (by simp [need] at h ⊢; omega) hb1
        obtain ⟨d3, e3, _, t3⟩ := ih 3 (addStep (cond ws f 1 (step1 st)) (opStep bOr)) (by
          have e2 : (addStep (cond ws f 1 (step1 st)) (opStep bOr)).pos = (cond ws f 1 (step1 st)).pos := rfl
          rw [e2]; simp [need] at h ⊢; omega) hb
        refine ⟨d1 ++ [opStep bOr] ++ d3, ?_, fun h => by omega, fun _ cols row x => ?_⟩
        · rw [e3]
          show (cond ws f 1 (step1 st)).wher ++ [_] ++ d3 = _
          rw [e1, List.append_assoc, List.append_assoc, List.append_assoc]; rfl
        · obtain ⟨y, hy⟩ := t1 (by omega) cols row
          obtain ⟨v, hv⟩ := t3 (by omega) cols row (x || y)
          refine ⟨v, fun l => ?_⟩
          rw [List.foldl_append, List.foldl_append, hy]
          show List.foldl _ (stepB cols row (l ++ [x] ++ [y]) (opStep bOr)) d3 = _
          rw [stepB_or, hv]
      · rw [if_neg ha]
        exact ⟨[], by simp, fun h => by omega, fun _ cols row x => ⟨x, fun l => rfl⟩⟩
    | t + 4 =>
      rw [cond] at hb ⊢
      have e : (step1 st).pos = st.pos + 1 := rfl
      by_cases ha : acceptB ws st bAnd = true
      · have hp := acceptB_in ws st _ ha
        have h1 := cond_pos ws f 2 (step1 st)
        rw [if_pos ha] at hb ⊢
        have hb1 : (addStep (cond ws f 2 (step1 st)) (opStep bAnd)).bad = false := ok_of (cond_bad _ f 4 _) hb
        obtain ⟨d1, e1, t1, _⟩ := ih 2 (step1 st) (by simp [need] at h ⊢; omega) hb1
        obtain ⟨d3, e3, _, t3⟩ := ih 4 (addStep (cond ws f 2 (step1 st)) (opStep bAnd)) (by
          have e2 : (addStep (cond ws f 2 (step1 st)) (opStep bAnd)).pos = (cond ws f 2 (step1 st)).pos := rfl
          rw [e2]; simp [need] at h ⊢; omega) hb
        refine ⟨d1 ++ [opStep bAnd] ++ d3, ?_, fun h => by omega, fun _ cols row x => ?_⟩
        · rw [e3]
          show (cond ws f 2 (step1 st)).wher ++ [_] ++ d3 = _
          rw [e1, List.append_assoc, List.append_assoc, List.append_assoc]; rfl
        · obtain ⟨y, hy⟩ := t1 (by omega) cols row
          obtain ⟨v, hv⟩ := t3 (by omega) cols row (x && y)
          refine ⟨v, fun l => ?_⟩
          rw [List.foldl_append, List.foldl_append, hy]
          show List.foldl _ (stepB cols row (l ++ [x] ++ [y]) (opStep bAnd)) d3 = _
          rw [stepB_and, hv]
      · rw [if_neg ha]
        exact ⟨[], by simp, fun h => by omega, fun _ cols row x => ⟨x, fun l => rfl⟩⟩
theorem Tells.meets {cols : List Col} {row : List Val} {d : List StepS} {v : Bool} (h : Tells cols row d v) : meets cols row d = v := by
  have h0 := h []
  unfold Sq.meets
  cases d with
  | nil => simp at h0
  | cons s r =>
    rw [if_neg (by simp), h0]
    exact popB_snoc [] v

end Sq
end Go.Proofs.YteibbdilhpdknaaGreatDoor

namespace Go.Proofs.YteibbdilhpdknaaGreatDoor
namespace Sq

def byteL (l : List UInt8) (k : Nat) : Int := ((l[k]?).getD 0).toNat
def cntL (p : Int → Bool) (l : List UInt8) : Nat := (l.takeWhile fun c => p c.toNat).length
/-- How long the first word is; 0: there is none. -/
def tokL (l : List UInt8) : Nat :=
  if isLetter (byteL l 0) then cntL isName l
  else if isDigit (byteL l 0) then cntL isDigit l
  else if byteL l 0 == 39 then (if byteL l (1 + cntL isInText (l.drop 1)) == 39 then 1 + cntL isInText (l.drop 1) + 1 else 0)
  else if isPair (byteL l 0) (byteL l 1) then 2
  else if isSign (byteL l 0) then 1
  else 0
def wordL (l : List UInt8) : Word := wordOf ⟨l.toArray⟩
theorem bytes_ext {a b : ByteArray} (h : a.data.toList = b.data.toList) : a = b := by
  cases a; cases b; simp at h; rw [h]
theorem byteAt_drop (s : ByteArray) (a k : Nat) : byteAt s (a + k) = byteL (s.data.toList.drop a) k := by
  unfold byteAt byteL; rw [List.getElem?_drop]
theorem byteAt_drop0 (s : ByteArray) (a : Nat) : byteAt s a = byteL (s.data.toList.drop a) 0 := byteAt_drop s a 0
theorem endOf_tok (s : ByteArray) (a : Nat) : endOf s a = a + tokL (s.data.toList.drop a) := by
  have h1 := byteAt_drop0 s a
  have h2 : byteAt s (a + 1) = byteL (s.data.toList.drop a) 1 := byteAt_drop s a 1
  have h3 : cnt isInText s (a + 1) = cntL isInText ((s.data.toList.drop a).drop 1) := by unfold cnt cntL; rw [List.drop_drop]
  have h4 : byteAt s (a + 1 + cnt isInText s (a + 1)) = byteL (s.data.toList.drop a) (1 + cntL isInText ((s.data.toList.drop a).drop 1)) := by
    rw [h3, Nat.add_assoc, byteAt_drop]
  unfold endOf tokL endOfText
  rw [h4, h3, h1, h2]
  split
  · rfl
  · split
    · rfl
    · split
      · split <;> omega
      · split
        · rfl
        · split <;> rfl
theorem extract_tok (s : ByteArray) (a n : Nat) : s.extract a (a + n) = ⟨((s.data.toList.drop a).take n).toArray⟩ := by
  apply bytes_ext
  rw [extract_list, Nat.add_sub_cancel_left]

/-- A text and its words. -/
def Splits (l : List UInt8) (ws : List Word) : Prop := ∀ P : List UInt8 → List Word → Prop, P [] [] → (∀ (c : UInt8) (r : List UInt8) (ws : List Word), isGap c.toNat = true → P r ws → P (c :: r) ws) →
  (∀ (l : List UInt8) (ws : List Word), isGap (byteL l 0) = false → 0 < tokL l → tokL l ≤ l.length → (wordL (l.take (tokL l))).kind ≠ 0 → P (l.drop (tokL l)) ws → P l (wordL (l.take (tokL l)) :: ws)) → P l ws
theorem Splits.nil : Splits [] [] := fun _ h1 _ _ => h1
theorem Splits.gap {c : UInt8} {r : List UInt8} {ws : List Word} (hg : isGap c.toNat = true) (h : Splits r ws) : Splits (c :: r) ws := fun P h1 h2 h3 => h2 c r ws hg (h P h1 h2 h3)
theorem Splits.word {l : List UInt8} {ws : List Word} (hg : isGap (byteL l 0) = false) (h0 : 0 < tokL l) (hl : tokL l ≤ l.length) (hk : (wordL (l.take (tokL l))).kind ≠ 0) (h : Splits (l.drop (tokL l)) ws) : Splits l (wordL (l.take (tokL l)) :: ws) := fun P h1 h2 h3 => h3 l ws hg h0 hl hk (h P h1 h2 h3)
theorem Splits.inv {l : List UInt8} {ws : List Word} (h : Splits l ws) : Splits l ws ∧ ((l = [] ∧ ws = []) ∨ (∃ c r, l = c :: r ∧ isGap c.toNat = true ∧ Splits r ws) ∨ (isGap (byteL l 0) = false ∧ ∃ ws', ws = wordL (l.take (tokL l)) :: ws' ∧ Splits (l.drop (tokL l)) ws')) :=
  h (fun l ws => Splits l ws ∧ ((l = [] ∧ ws = []) ∨ (∃ c r, l = c :: r ∧ isGap c.toNat = true ∧ Splits r ws) ∨ (isGap (byteL l 0) = false ∧ ∃ ws', ws = wordL (l.take (tokL l)) :: ws' ∧ Splits (l.drop (tokL l)) ws')))
    ⟨Splits.nil, Or.inl ⟨rfl, rfl⟩⟩ (fun c r ws hg ih => ⟨Splits.gap hg ih.1, Or.inr (Or.inl ⟨c, r, rfl, hg, ih.1⟩)⟩) (fun l ws hg h0 hl hk ih => ⟨Splits.word hg h0 hl hk ih.1, Or.inr (Or.inr ⟨hg, ws, rfl, ih.1⟩)⟩)

theorem splits_of (s : ByteArray) : ∀ f a ws, s.size < f + a → splitFrom s f a = some ws → Splits (s.data.toList.drop a) ws := by
  intro f
  induction f with
  | zero =>
    intro a ws hf h
    rw [List.drop_eq_nil_of_le (by rw [← size_list]; omega)]
    simp [splitFrom] at h; subst h; exact Splits.nil
  | succ f ih =>
    intro a ws hf h
    rw [splitFrom] at h
    split at h
    · rename_i ha
      have ha' : a < s.data.toList.length := by rw [← size_list]; exact ha
      split at h
      · rename_i hg
        have := ih (a + 1) ws (by omega) h
        rw [List.drop_eq_getElem_cons ha']
        refine Splits.gap ?_ this
        have e : byteAt s a = ((s.data.toList[a]).toNat : Int) := by unfold byteAt; rw [List.getElem?_eq_getElem ha']; rfl
        rw [← e]; exact hg
      · rename_i hg
        split at h
        · simp at h
        · rename_i he
          split at h
          · simp at h
          · rename_i hk
            cases h2 : splitFrom s f (endOf s a) with
            | none => rw [h2] at h; simp at h
            | some l =>
              rw [h2] at h
              simp at h
              have he2 := endOf_tok s a
              have h3 := ih _ l (by omega) h2
              rw [he2] at h h3 hk he
              rw [extract_tok] at h hk
              subst h
              refine Splits.word ?_ (by omega) (by rw [List.length_drop, ← size_list]; omega) ?_ ?_
              · rw [← byteAt_drop0]; simpa using hg
              · simpa [wordL] using hk
              · rw [List.drop_drop]; exact h3
    · rename_i ha
      rw [List.drop_eq_nil_of_le (by rw [← size_list]; omega)]
      simp at h; subst h; exact Splits.nil
theorem splits_back (s : ByteArray) {l : List UInt8} {ws : List Word} (h : Splits l ws) : ∀ a f, s.data.toList.drop a = l → l.length < f → splitFrom s f a = some ws := by
  have hl : ∀ a, (s.data.toList.drop a).length = s.size - a := fun a => by rw [List.length_drop, ← size_list]
  refine h (fun l ws => ∀ a f, s.data.toList.drop a = l → l.length < f → splitFrom s f a = some ws) ?_ ?_ ?_
  · intro a f h hf
    have := hl a
    rw [h] at this
    exact split_end s f a (by simp at this; omega)
  · intro c r ws hg ih a f h hf
    have h1 := hl a
    rw [h] at h1
    simp at h1 hf
    have h2 := byteAt_drop0 s a
    rw [h] at h2
    obtain ⟨f, rfl⟩ : ∃ g, f = g + 1 := ⟨f - 1, by omega⟩
    rw [split_gap s f a (by omega) (by rw [h2]; exact hg)]
    refine ih (a + 1) f ?_ (by omega)
    rw [← List.drop_drop, h]; rfl
  · intro l ws hg h0 hle hk ih a f h hf
    have h1 := hl a
    rw [h] at h1
    have h2 := byteAt_drop0 s a
    rw [h] at h2
    have he := endOf_tok s a
    rw [h] at he
    obtain ⟨f, rfl⟩ : ∃ g, f = g + 1 := ⟨f - 1, by omega⟩
    have hx : s.extract a (endOf s a) = ⟨(l.take (tokL l)).toArray⟩ := by rw [he, extract_tok, h]
    rw [split_word s f a (by omega) (by rw [h2]; exact hg) (by omega) (by rw [hx]; exact hk), hx]
    rw [ih (endOf s a) f (by rw [he, ← List.drop_drop, h]) (by rw [List.length_drop]; omega)]
    rfl
theorem split_iff (s : ByteArray) (ws : List Word) : split s = some ws ↔ Splits s.data.toList ws := by
  constructor
  · intro h; exact splits_of s _ 0 ws (by omega) h
  · intro h; exact splits_back s h 0 _ rfl (by rw [size_list]; omega)

/-! Words of 'l ++ R'. -/
theorem byteL_app (l R : List UInt8) (k : Nat) (h : k < l.length) : byteL (l ++ R) k = byteL l k := by
  unfold byteL; rw [List.getElem?_append_left h]
theorem byteL_out (l : List UInt8) (k : Nat) (h : l.length ≤ k) : byteL l k = 0 := by
  unfold byteL; rw [List.getElem?_eq_none h]; rfl
theorem cntL_app (p : Int → Bool) (R : List UInt8) : ∀ l : List UInt8, cntL p l < l.length → cntL p (l ++ R) = cntL p l := by
  intro l
  induction l with
  | nil => intro h; simp at h
  | cons c r ih =>
    intro h
    unfold cntL at h ih ⊢
    rw [List.cons_append, List.takeWhile_cons, List.takeWhile_cons]
    rw [List.takeWhile_cons] at h
    split
    · rename_i hc
      rw [if_pos hc] at h
      simp only [List.length_cons] at h ⊢
      rw [ih (by omega)]
    · rfl
theorem cntL_stop (p : Int → Bool) (R : List UInt8) (hR : R = [] ∨ ∃ c r, R = c :: r ∧ p c.toNat = false) : ∀ l : List UInt8, cntL p (l ++ R) = cntL p l := by
  intro l
  induction l with
  | nil =>
    rcases hR with rfl | ⟨c, r, rfl, hc⟩
    · rfl
    · unfold cntL; simp [hc]
  | cons c r ih =>
    unfold cntL at ih ⊢
    rw [List.cons_append, List.takeWhile_cons, List.takeWhile_cons]
    split
    · simp only [List.length_cons]; rw [ih]
    · rfl
theorem tok_pos {l : List UInt8} (h : 0 < tokL l) : 0 < l.length := by
  cases l with
  | nil => exact absurd h (by decide)
  | cons c r => simp
/-- A word that ends within the text, or where a bracket closes, stays. -/
theorem tok_app (l R : List UInt8) (h0 : 0 < tokL l) (hR : tokL l < l.length ∨ R = [] ∨ ∃ r, R = 41 :: r) : tokL (l ++ R) = tokL l := by
  have hp := tok_pos h0
  have hb0 := byteL_app l R 0 hp
  unfold tokL at h0 hR ⊢
  rw [hb0]
  split
  · rename_i h1
    rw [if_pos h1] at hR
    rcases hR with h | h | ⟨r, h⟩
    · exact cntL_app _ R l h
    · exact cntL_stop _ R (Or.inl h) l
    · exact cntL_stop _ R (Or.inr ⟨41, r, h, by decide⟩) l
  · rename_i h1
    rw [if_neg h1] at h0 hR
    split
    · rename_i h2
      rw [if_pos h2] at hR
      rcases hR with h | h | ⟨r, h⟩
      · exact cntL_app _ R l h
      · exact cntL_stop _ R (Or.inl h) l
      · exact cntL_stop _ R (Or.inr ⟨41, r, h, by decide⟩) l
    · rename_i h2
      rw [if_neg h2] at h0 hR
      split
      · rename_i h3
        rw [if_pos h3] at h0 hR
        by_cases hq : (byteL l (1 + cntL isInText (l.drop 1)) == 39) = true
        · have hlt : 1 + cntL isInText (l.drop 1) < l.length := by
            rcases Nat.lt_or_ge (1 + cntL isInText (l.drop 1)) l.length with h | h
            · exact h
            · rw [byteL_out l _ h] at hq; exact absurd hq (by decide)
          have hd : (l ++ R).drop 1 = l.drop 1 ++ R := by rw [List.drop_append_of_le_length (by omega)]
          rw [hd, cntL_app _ R (l.drop 1) (by rw [List.length_drop]; omega), byteL_app l R _ hlt]
        · rw [if_neg hq] at h0; omega
      · rename_i h3
        rw [if_neg h3] at h0 hR
        by_cases hl : 1 < l.length
        · rw [byteL_app l R 1 hl]
        · have e1 : byteL l 1 = 0 := byteL_out l 1 (by omega)
          have e2 : isPair (byteL l 0) (byteL (l ++ R) 1) = false := by
            have hnp : isPair (byteL l 0) (byteL l 1) = false := by rw [e1]; unfold isPair; simp
            rw [hnp] at hR h0
            simp only [Bool.false_eq_true, if_false] at hR h0
            split at h0
            · rename_i hs
              rw [if_pos hs] at hR
              have hb : byteL (l ++ R) 1 = byteL R 0 := by
                unfold byteL
                rw [List.getElem?_append_right (by omega), show 1 - l.length = 0 from by omega]
              rw [hb]
              rcases hR with h | h | ⟨r, h⟩
              · omega
              · rw [h]; unfold isPair byteL; simp
              · rw [h]; unfold isPair byteL; simp
            · omega
          have hnp : isPair (byteL l 0) (byteL l 1) = false := by rw [e1]; unfold isPair; simp
          rw [e2, hnp]
theorem Splits.app {l R : List UInt8} {ws wr : List Word} (h : Splits l ws) (hR : R = [] ∨ ∃ r, R = 41 :: r) (k : Splits R wr) : Splits (l ++ R) (ws ++ wr) := by
  refine h (fun l ws => Splits (l ++ R) (ws ++ wr)) k (fun c r ws hg ih => Splits.gap hg ih) ?_
  · intro l ws hg h0 hle hk ih
    have ht := tok_app l R h0 (Or.inr hR)
    have e1 : (l ++ R).take (tokL (l ++ R)) = l.take (tokL l) := by rw [ht, List.take_append_of_le_length hle]
    have e2 : (l ++ R).drop (tokL (l ++ R)) = l.drop (tokL l) ++ R := by rw [ht, List.drop_append_of_le_length hle]
    have := Splits.word (l := l ++ R) (ws := ws ++ wr) (by rw [byteL_app l R 0 (tok_pos h0)]; exact hg) (by omega) (by rw [ht]; simp; omega) (by rw [e1]; exact hk) (by rw [e2]; exact ih)
    rw [e1] at this
    exact this
/-- The words of a text that ends outside of a word (by steps). -/
def splitP : Nat → List UInt8 → Option (List Word)
  | 0, _ => none
  | _ + 1, [] => some []
  | f + 1, c :: r =>
    if isGap c.toNat then splitP f r
    else if 0 < tokL (c :: r) ∧ tokL (c :: r) < (c :: r).length ∧ (wordL ((c :: r).take (tokL (c :: r)))).kind ≠ 0 then (splitP f ((c :: r).drop (tokL (c :: r)))).map (wordL ((c :: r).take (tokL (c :: r))) :: ·)
    else none
theorem splitP_app (R : List UInt8) : ∀ f P wP, splitP f P = some wP → ∀ ws, Splits (P ++ R) ws ↔ ∃ wr, ws = wP ++ wr ∧ Splits R wr := by
  intro f
  induction f with
  | zero => intro P wP h; simp [splitP] at h
  | succ f ih =>
    intro P wP h ws
    cases P with
    | nil => simp [splitP] at h; subst h; simp
    | cons c r =>
      rw [splitP] at h
      split at h
      · rename_i hg
        rw [← ih r wP h ws]
        constructor
        · intro hs
          rcases hs.inv.2 with ⟨hl, _⟩ | ⟨c', r', hl, _, h2⟩ | ⟨hg2, _⟩
          · simp at hl
          · simp at hl; obtain ⟨rfl, rfl⟩ := hl; exact h2
          · exact absurd (show isGap c.toNat = false from hg2) (by rw [hg]; simp)
        · intro hs; exact Splits.gap hg hs
      · rename_i hg
        split at h
        · rename_i ht
          obtain ⟨t1, t2, t3⟩ := ht
          have hta := tok_app (c :: r) R t1 (Or.inl t2)
          have hle : tokL (c :: r) ≤ (c :: r).length := by omega
          have e1 : (c :: r ++ R).take (tokL (c :: r ++ R)) = (c :: r).take (tokL (c :: r)) := by rw [hta, List.take_append_of_le_length hle]
          have e2 : (c :: r ++ R).drop (tokL (c :: r ++ R)) = (c :: r).drop (tokL (c :: r)) ++ R := by rw [hta, List.drop_append_of_le_length hle]
          cases hp : splitP f ((c :: r).drop (tokL (c :: r))) with
          | none => rw [hp] at h; simp at h
          | some w2 =>
            rw [hp] at h
            simp at h
            subst h
            have hi := ih _ w2 hp
            constructor
            · intro hs
              rcases hs.inv.2 with ⟨hl, _⟩ | ⟨c', r', hl, hg2, _⟩ | ⟨hg2, ws', rfl, h5⟩
              · simp at hl
              · simp at hl; obtain ⟨rfl, rfl⟩ := hl; exact absurd hg2 hg
              · rw [e2] at h5
                obtain ⟨wr, rfl, h6⟩ := (hi _).1 h5
                exact ⟨wr, by rw [e1]; rfl, h6⟩
            · rintro ⟨wr, rfl, h6⟩
              have h7 := (hi (w2 ++ wr)).2 ⟨wr, rfl, h6⟩
              have := Splits.word (l := c :: r ++ R) (ws := w2 ++ wr) (by rw [byteL_app (c :: r) R 0 (by simp)]; show isGap c.toNat = false; simpa using hg) (by omega) (by rw [hta]; simp at hle ⊢; omega) (by rw [e1]; exact t3) (by rw [e2]; exact h7)
              rw [e1] at this
              exact this
        · simp at h
/-- A bracket that opens is a word. -/
def wOpen : Word := ⟨1, bOpen⟩
theorem splits_sign (c : UInt8) (hc : c = 40 ∨ c = 41) (R : List UInt8) (ws : List Word) : Splits (c :: R) ws ↔ ∃ wr, ws = ⟨1, ⟨#[c]⟩⟩ :: wr ∧ Splits R wr := by
  have ht : tokL (c :: R) = 1 := by
    rcases hc with rfl | rfl
    · unfold tokL isPair; rfl
    · unfold tokL isPair; rfl
  have hw : wordL ((c :: R).take (tokL (c :: R))) = ⟨1, ⟨#[c]⟩⟩ := by
    rw [ht]
    rcases hc with rfl | rfl <;> rfl
  have hg : isGap c.toNat = false := by rcases hc with rfl | rfl <;> decide
  have hd : (c :: R).drop (tokL (c :: R)) = R := by rw [ht]; rfl
  constructor
  · intro hs
    rcases hs.inv.2 with ⟨hl, _⟩ | ⟨c', r', hl, hg2, _⟩ | ⟨_, ws', rfl, h5⟩
    · simp at hl
    · simp at hl; obtain ⟨rfl, rfl⟩ := hl; rw [hg] at hg2; cases hg2
    · rw [hd] at h5
      exact ⟨_, by rw [hw], h5⟩
  · rintro ⟨wr, rfl, h6⟩
    have := Splits.word (l := c :: R) (ws := wr) hg (by omega) (by rw [ht]; simp) (by rw [hw]; show (1 : Int) ≠ 0; decide) (by rw [hd]; exact h6)
    rw [hw] at this
    exact this

end Sq
end Go.Proofs.YteibbdilhpdknaaGreatDoor

namespace Go.Proofs.YteibbdilhpdknaaGreatDoor
namespace Sq

/-! Words that stand ahead. -/
theorem nextW_pre (A X : List Word) (st : PSt) (h : st.pos < A.length) : nextW (A ++ X) st = nextW A st := by
  unfold nextW; rw [List.getElem?_append_left h]
theorem acceptB_pre (A X : List Word) (st : PSt) (m : ByteArray) (h : st.pos < A.length) : acceptB (A ++ X) st m = acceptB A st m := by
  unfold acceptB; rw [nextW_pre A X st h]
theorem takeS_pre (A X : List Word) (st : PSt) (h : st.pos < A.length) : takeS (A ++ X) st = takeS A st := by
  unfold takeS; rw [nextW_pre A X st h]
theorem wantS_pre (A X : List Word) (st : PSt) (m : ByteArray) (h : st.pos < A.length) : wantS (A ++ X) st m = wantS A st m := by
  unfold wantS; rw [acceptB_pre A X st m h]
theorem nameS_pre (A X : List Word) (st : PSt) (h : st.pos < A.length) : nameS (A ++ X) st = nameS A st := by
  unfold nameS; rw [nextW_pre A X st h, takeS_pre A X st h]
theorem nameR_pre (A X : List Word) (st : PSt) (h : st.pos < A.length) : nameR (A ++ X) st = nameR A st := by
  unfold nameR; rw [nextW_pre A X st h]
theorem markR_pre (A X : List Word) (st : PSt) (h : st.pos < A.length) : markR (A ++ X) st = markR A st := by
  unfold markR; rw [nextW_pre A X st h]
theorem itemS_pre (A X : List Word) (st : PSt) (h : st.pos < A.length) : itemS (A ++ X) st = itemS A st := by
  unfold itemS; rw [nameS_pre A X st h, nameR_pre A X st h]
theorem tableS_pre (A X : List Word) (st : PSt) (h : st.pos < A.length) : tableS (A ++ X) st = tableS A st := by
  unfold tableS; rw [nameS_pre A X st h, nameR_pre A X st h]
theorem acceptS_pre (A X : List Word) (st : PSt) (m : ByteArray) (h : st.pos < A.length) : acceptS (A ++ X) st m = acceptS A st m := by
  unfold acceptS; rw [acceptB_pre A X st m h]
theorem litS_pre (A X : List Word) (st : PSt) (h : st.pos + 1 < A.length) : litS (A ++ X) st = litS A st ∧ litR (A ++ X) st = litR A st := by
  have h1 : (acceptS A st bMinus).pos < A.length := by unfold acceptS; split; exact h; omega
  unfold litS litR
  rw [acceptS_pre A X st bMinus (by omega), nextW_pre A X _ h1, takeS_pre A X _ h1, acceptB_pre A X st bMinus (by omega)]
  exact ⟨rfl, rfl⟩

def stSel (A : List Word) : PSt := setAct (takeS A st0) 5
def stTab (A : List Word) : PSt := tableS A (wantS A (chooseA A (stSel A)) bFrom)
/-- What a text begins with that asks for rows under a condition. -/
structure Opens (A : List Word) : Prop where
  c : ∀ X, chooseA (A ++ X) (stSel A) = chooseA A (stSel A)
  pos0 : st0.pos < A.length
  m1 : ((markR A st0).toList == bCreate.toList) = false
  m2 : ((markR A st0).toList == bInsert.toList) = false
  m3 : ((markR A st0).toList == bUpdate.toList) = false
  m4 : ((markR A st0).toList == bDelete.toList) = false
  m5 : ((markR A st0).toList == bSelect.toList) = true
  pos1 : (chooseA A (stSel A)).pos < A.length
  pos2 : (wantS A (chooseA A (stSel A)) bFrom).pos < A.length
  pos3 : (stTab A).pos < A.length
  w : acceptB A (stTab A) bWhere = true
  pos4 : (stTab A).pos + 1 = A.length
  ok : (stTab A).bad = false
  act : (stTab A).act = 5
  table : (stTab A).table = bT
  wher : (stTab A).wher.length = 0
theorem Opens.said {A : List Word} (h : Opens A) (X : List Word) : statementS (A ++ X) st0 = cond (A ++ X) (8 * (A ++ X).length + 7) 0 (step1 (stTab A)) := by
  unfold statementS
  rw [markR_pre A X st0 h.pos0, takeS_pre A X st0 h.pos0, h.m1, h.m2, h.m3, h.m4, h.m5]
  simp only [Bool.false_eq_true, if_false, if_true]
  unfold chooseS
  show whereS (A ++ X) (tableS (A ++ X) (wantS (A ++ X) (chooseA (A ++ X) (stSel A)) bFrom)) = _
  rw [h.c X, wantS_pre A X _ _ h.pos1, tableS_pre A X _ h.pos2]
  show whereS (A ++ X) (stTab A) = _
  unfold whereS
  rw [acceptB_pre A X _ _ h.pos3, h.w]
  rfl
/-- What is read behind a condition as behind another. -/
theorem Opens.same {A : List Word} (h : Opens A) (X : List Word) : Same (stTab A) (statementS (A ++ X) st0) := by
  rw [h.said X]; exact (step1_same _).trans (cond_same _ _ _ _)
def bId : ByteArray := ⟨#[105, 100]⟩
def w_count : List Word := [⟨1, bSelect⟩, ⟨1, bCount⟩, ⟨1, bFrom⟩, ⟨2, bT⟩, ⟨1, bWhere⟩]
def p_count : List UInt8 := [115, 101, 108, 101, 99, 116, 32, 99, 111, 117, 110, 116, 32, 102, 114, 111, 109, 32, 116, 32, 119, 104, 101, 114, 101, 32]
def w_sum : List Word := [⟨1, bSelect⟩, ⟨1, bSum⟩, ⟨1, bOpen⟩, ⟨2, bId⟩, ⟨1, bClose⟩, ⟨1, bFrom⟩, ⟨2, bT⟩, ⟨1, bWhere⟩]
def p_sum : List UInt8 := [115, 101, 108, 101, 99, 116, 32, 115, 117, 109, 32, 40, 105, 100, 41, 32, 102, 114, 111, 109, 32, 116, 32, 119, 104, 101, 114, 101, 32]
def w_star : List Word := [⟨1, bSelect⟩, ⟨1, bStar⟩, ⟨1, bFrom⟩, ⟨2, bT⟩, ⟨1, bWhere⟩]
def p_star : List UInt8 := [115, 101, 108, 101, 99, 116, 32, 42, 32, 102, 114, 111, 109, 32, 116, 32, 119, 104, 101, 114, 101, 32]
def wnot : List Word := [⟨1, bNot⟩]
def pnot : List UInt8 := [110, 111, 116, 32]
def wid : List Word := [⟨2, bId⟩, ⟨1, bEq⟩, ⟨2, bId⟩, ⟨1, bAnd⟩]
def pid : List UInt8 := [105, 100, 32, 61, 32, 105, 100, 32, 97, 110, 100, 32]
def wor : List Word := [⟨1, bOr⟩, ⟨2, bId⟩, ⟨1, ⟨#[60, 62]⟩⟩, ⟨2, bId⟩]
def por : List UInt8 := [32, 111, 114, 32, 105, 100, 32, 60, 62, 32, 105, 100]
def wkey (x : Word) : Int × List UInt8 := (x.kind, x.text.data.toList)
theorem wkey_inj {a b : Word} (h : wkey a = wkey b) : a = b := by
  cases a; cases b
  simp only [wkey, Prod.mk.injEq] at h
  rw [h.1, bytes_ext h.2]
theorem words_eq : ∀ {a b : List Word}, a.map wkey = b.map wkey → a = b
  | [], [], _ => rfl
  | [], _ :: _, h => by simp at h
  | _ :: _, [], h => by simp at h
  | x :: r, y :: q, h => by
    simp only [List.map_cons, List.cons.injEq] at h
    rw [wkey_inj h.1, words_eq h.2]
theorem words_of {o : Option (List Word)} {w : List Word} (h : o.map (List.map wkey) = some (w.map wkey)) : o = some w := by
  cases o with
  | none => simp at h
  | some l => simp at h; rw [words_eq h]
theorem split_count : splitP 60 p_count = some w_count := words_of (by decide +kernel)
theorem split_sum : splitP 60 p_sum = some w_sum := words_of (by decide +kernel)
theorem split_star : splitP 60 p_star = some w_star := words_of (by decide +kernel)
theorem split_not : splitP 60 pnot = some wnot := words_of (by decide +kernel)
theorem split_id : splitP 60 pid = some wid := words_of (by decide +kernel)
theorem split_or : Splits por wor := (split_iff ⟨por.toArray⟩ wor).1 (words_of (by decide +kernel))
theorem opens_count : Opens w_count := by
  refine ⟨fun X => ?_, by decide +kernel, by decide +kernel, by decide +kernel, by decide +kernel, by decide +kernel, by decide +kernel, by decide +kernel, by decide +kernel, by decide +kernel, by decide +kernel, by decide +kernel, by decide +kernel, by decide +kernel, by decide +kernel, by decide +kernel⟩
  have hp : (stSel w_count).pos < w_count.length := by decide +kernel
  have h1 : acceptB w_count (stSel w_count) bStar = false := by decide +kernel
  have h2 : acceptB w_count (stSel w_count) bCount = true := by decide +kernel
  unfold chooseA
  rw [acceptB_pre _ X _ _ hp, acceptB_pre _ X _ _ hp, h1, h2]
  simp only [Bool.false_eq_true, if_false, if_true]
theorem opens_star : Opens w_star := by
  refine ⟨fun X => ?_, by decide +kernel, by decide +kernel, by decide +kernel, by decide +kernel, by decide +kernel, by decide +kernel, by decide +kernel, by decide +kernel, by decide +kernel, by decide +kernel, by decide +kernel, by decide +kernel, by decide +kernel, by decide +kernel, by decide +kernel⟩
  have hp : (stSel w_star).pos < w_star.length := by decide +kernel
  have h1 : acceptB w_star (stSel w_star) bStar = true := by decide +kernel
  unfold chooseA
  rw [acceptB_pre _ X _ _ hp, h1]
  simp only [if_true]
theorem opens_sum : Opens w_sum := by
  refine ⟨fun X => ?_, by decide +kernel, by decide +kernel, by decide +kernel, by decide +kernel, by decide +kernel, by decide +kernel, by decide +kernel, by decide +kernel, by decide +kernel, by decide +kernel, by decide +kernel, by decide +kernel, by decide +kernel, by decide +kernel, by decide +kernel⟩
  have hp : (stSel w_sum).pos < w_sum.length := by decide +kernel
  have h1 : acceptB w_sum (stSel w_sum) bStar = false := by decide +kernel
  have h2 : acceptB w_sum (stSel w_sum) bCount = false := by decide +kernel
  have h3 : acceptB w_sum (stSel w_sum) bSum = true := by decide +kernel
  have p1 : (setShow (step1 (stSel w_sum)) 3).pos < w_sum.length := by decide +kernel
  have p2 : (wantS w_sum (setShow (step1 (stSel w_sum)) 3) bOpen).pos < w_sum.length := by decide +kernel
  have p3 : (itemS w_sum (wantS w_sum (setShow (step1 (stSel w_sum)) 3) bOpen)).pos < w_sum.length := by decide +kernel
  unfold chooseA
  rw [acceptB_pre _ X _ _ hp, acceptB_pre _ X _ _ hp, acceptB_pre _ X _ _ hp, h1, h2, h3, wantS_pre _ X _ _ p1, itemS_pre _ X _ p2, wantS_pre _ X _ _ p3]
  simp only [Bool.false_eq_true, if_false, if_true]

/-! A condition that stands alone. -/
theorem cond_two (ws : List Word) (f : Nat) (st : PSt) : cond ws (f + 2) 0 st = cond ws (f + 1) 3 (cond ws f 4 (cond ws f 2 st)) := by
  conv => lhs; rw [cond, cond]
theorem acceptB_end (ws : List Word) (st : PSt) (m : ByteArray) (h : ws.length ≤ st.pos) : acceptB ws st m = false := by
  unfold acceptB; rw [nextW_out ws st h]; rfl
theorem cond3_end (ws : List Word) (f : Nat) (st : PSt) (h : acceptB ws st bOr = false) : cond ws (f + 1) 3 st = st := by
  rw [cond, h]; rfl
theorem cond4_end (ws : List Word) (f : Nat) (st : PSt) (h : acceptB ws st bAnd = false) : cond ws (f + 1) 4 st = st := by
  rw [cond, h]; rfl
/-- A condition was read to its end, behind A. -/
structure Read (A wc : List Word) (d : List StepS) : Prop where
  opens : Opens A
  ok : (statementS (A ++ wc) st0).bad = false
  all : (statementS (A ++ wc) st0).pos = (A ++ wc).length
  wher : (statementS (A ++ wc) st0).wher = d
theorem Opens.at {A : List Word} (h : Opens A) : (step1 (stTab A)).pos = A.length := h.pos4
theorem Opens.nil {A : List Word} (h : Opens A) : (step1 (stTab A)).wher = [] := nil_of_len h.wher
/-- The same condition anywhere else. -/
theorem Read.sim {A wc : List Word} {d : List StepS} (h : Read A wc d) (A' T : List Word) (hT : Tail T) (e : List StepS) (st' : PSt) (hb : st'.bad = false) (hp : st'.pos = A'.length) (hw : st'.wher = e) (f : Nat) (hf : need 0 ((A' ++ (wc ++ T)).length - st'.pos) ≤ f) :
    (cond (A' ++ (wc ++ T)) f 0 st').bad = false ∧ (cond (A' ++ (wc ++ T)) f 0 st').pos = A'.length + wc.length ∧ (cond (A' ++ (wc ++ T)) f 0 st').wher = e ++ d := by
  have h0 := h.opens.at
  have hs : Sim A A' wc e (step1 (stTab A)) st' := ⟨h.opens.ok, hb, by omega, by omega, by omega, by rw [hw, h.opens.nil]; simp⟩
  have hok := h.ok
  have hall := h.all
  have hwh := h.wher
  rw [h.opens.said wc] at hok hall hwh
  obtain ⟨g, hg⟩ : ∃ g, g = f + (8 * (A ++ wc).length + 7) := ⟨_, rfl⟩
  have e1 : cond (A ++ wc) (8 * (A ++ wc).length + 7) 0 (step1 (stTab A)) = cond (A ++ wc) g 0 (step1 (stTab A)) := cond_any _ _ _ _ _ (by simp [need]; omega) (by rw [hg]; simp [need]; omega)
  have e2 : cond (A' ++ (wc ++ T)) f 0 st' = cond (A' ++ (wc ++ T)) g 0 st' := cond_any _ _ _ _ _ hf (by omega)
  rw [e1] at hok hall hwh
  rw [e2]
  have := cond_sim (T := T) hT g 0 _ _ hs hok
  refine ⟨this.ok', ?_, by rw [this.wher, hwh]⟩
  have h5 := this.pos'
  rw [hall] at h5
  simp at h5
  omega
theorem Read.alone {A wc : List Word} {d : List StepS} (h : Read A wc d) {A' : List Word} (h' : Opens A') : Read A' wc d := by
  have := h.sim A' [] (Or.inl rfl) [] (step1 (stTab A')) h'.ok h'.at h'.nil (8 * (A' ++ wc).length + 7) (by simp [need]; omega)
  rw [List.append_nil, List.nil_append] at this
  refine ⟨h', ?_, ?_, ?_⟩
  · rw [h'.said]; exact this.1
  · rw [h'.said, this.2.1]; simp
  · rw [h'.said]; exact this.2.2
theorem Read.tells {A wc : List Word} {d : List StepS} (h : Read A wc d) (cols : List Col) (row : List Val) : ∃ v, Tells cols row d v := by
  have hok := h.ok
  have hwh := h.wher
  rw [h.opens.said wc] at hok hwh
  obtain ⟨d', e1, t1, _⟩ := cond_tells (A ++ wc) _ 0 _ (by simp [need]; omega) hok
  rw [hwh, h.opens.nil] at e1
  have e2 : d = d' := by simpa using e1
  subst e2
  exact t1 (by omega) cols row
theorem acceptB_at (A : List Word) (x : Word) (X : List Word) (st : PSt) (m : ByteArray) (hb : st.bad = false) (hp : st.pos = A.length) : acceptB (A ++ x :: X) st m = (x.kind == 1 && x.text.toList == m.toList) := by
  unfold acceptB nextW
  rw [hb, hp]
  simp
/-- Behind 'not', within brackets. -/
theorem Read.nots {A wc : List Word} {d : List StepS} (h : Read A wc d) : (statementS (A ++ (wnot ++ wOpen :: (wc ++ [wClose]))) st0).bad = false ∧
    (statementS (A ++ (wnot ++ wOpen :: (wc ++ [wClose]))) st0).pos = (A ++ (wnot ++ wOpen :: (wc ++ [wClose]))).length ∧ (statementS (A ++ (wnot ++ wOpen :: (wc ++ [wClose]))) st0).wher = d ++ [opStep bNot] := by
  rw [h.opens.said]
  obtain ⟨g, hg⟩ : ∃ g, 8 * (A ++ (wnot ++ wOpen :: (wc ++ [wClose]))).length + 7 = g + 4 := ⟨8 * (A ++ (wnot ++ wOpen :: (wc ++ [wClose]))).length + 3, by omega⟩
  rw [hg]
  obtain ⟨s, hs⟩ : ∃ s, s = step1 (stTab A) := ⟨_, rfl⟩
  have hsb : s.bad = false := by rw [hs]; exact h.opens.ok
  have hsp : s.pos = A.length := by rw [hs]; exact h.opens.at
  have hsw : s.wher = [] := by rw [hs]; exact h.opens.nil
  rw [← hs]
  obtain ⟨W, hW⟩ : ∃ W, W = A ++ (wnot ++ wOpen :: (wc ++ [wClose])) := ⟨_, rfl⟩
  have hlen : W.length = A.length + wc.length + 3 := by rw [hW]; simp [wnot]; omega
  have hW1 : W = A ++ ⟨1, bNot⟩ :: (wOpen :: (wc ++ [wClose])) := hW
  have hW2 : W = (A ++ [⟨1, bNot⟩]) ++ wOpen :: (wc ++ [wClose]) := by rw [hW]; simp [wnot]
  have hW3 : W = (A ++ [⟨1, bNot⟩, wOpen]) ++ (wc ++ [wClose]) := by rw [hW]; simp [wnot]
  have hW4 : W = (A ++ [⟨1, bNot⟩, wOpen] ++ wc) ++ wClose :: [] := by rw [hW]; simp [wnot]
  rw [← hW] at hg ⊢
  have i := h.sim (A ++ [⟨1, bNot⟩, wOpen]) [wClose] (Or.inr ⟨_, rfl⟩) [] (step1 (step1 s)) hsb (by simp [step1, hsp]) hsw g (by rw [← hW3, hlen]; simp [step1, need, hsp]; omega)
  rw [← hW3] at i
  obtain ⟨i1, i2, i3⟩ := i
  have a1 : acceptB W s bNot = true := by rw [hW1, acceptB_at A _ _ s _ hsb hsp]; decide +kernel
  have a2 : acceptB W (step1 s) bNot = false := by rw [hW2, acceptB_at _ _ _ (step1 s) _ hsb (by simp [step1, hsp])]; decide +kernel
  have a3 : acceptB W (step1 s) bOpen = true := by rw [hW2, acceptB_at _ _ _ (step1 s) _ hsb (by simp [step1, hsp])]; decide +kernel
  have a4 : acceptB W (cond W g 0 (step1 (step1 s))) bClose = true := by
    have := acceptB_at (A ++ [⟨1, bNot⟩, wOpen] ++ wc) wClose [] (cond W g 0 (step1 (step1 s))) bClose i1 (by rw [i2]; simp; omega)
    rw [← hW4] at this
    rw [this]; decide +kernel
  have c2 : cond W (g + 2) 2 s = addStep (step1 (cond W g 0 (step1 (step1 s)))) (opStep bNot) := by
    rw [cond, a1, if_pos rfl, cond, a2, a3]
    simp only [Bool.false_eq_true, if_false, if_true]
    unfold wantS
    rw [a4]
    rfl
  have hpe : (addStep (step1 (cond W g 0 (step1 (step1 s)))) (opStep bNot)).pos = W.length := by
    show (cond W g 0 (step1 (step1 s))).pos + 1 = _
    rw [i2, hlen]; simp; omega
  rw [cond_two W (g + 2) s, c2, cond4_end W (g + 1) _ (acceptB_end W _ _ (by omega)), cond3_end W (g + 2) _ (acceptB_end W _ _ (by omega))]
  refine ⟨i1, hpe, ?_⟩
  show (cond W g 0 (step1 (step1 s))).wher ++ [opStep bNot] = _
  rw [i3]; rfl

/-- A comparison of a column with itself. -/
def selfStep (op : ByteArray) : StepS := ⟨op, ⟨bId, val0⟩, ⟨bId, val0⟩⟩
theorem compS_self (A X : List Word) (op : ByteArray) (st : PSt) (hb : st.bad = false) (hp : st.pos = A.length) (hc : isComparison op = true) :
    compS (A ++ (⟨2, bId⟩ :: ⟨1, op⟩ :: ⟨2, bId⟩ :: X)) st = addStep (step1 (step1 (step1 st))) (selfStep op) := by
  obtain ⟨W, hW⟩ : ∃ W, W = A ++ (⟨2, bId⟩ :: ⟨1, op⟩ :: ⟨2, bId⟩ :: X) := ⟨_, rfl⟩
  rw [← hW]
  have n0 : nextW W st = ⟨2, bId⟩ := by unfold nextW; rw [hb, hp, hW]; simp
  have n1 : nextW W (step1 st) = ⟨1, op⟩ := by unfold nextW step1; simp only; rw [hb, hp, hW]; simp
  have n2 : nextW W (step1 (step1 st)) = ⟨2, bId⟩ := by unfold nextW step1; simp only; rw [hb, hp, hW]; simp [Nat.add_assoc]
  have t0 : termS W st = step1 st := by unfold termS; rw [n0]; rfl
  have r0 : termR W st = ⟨bId, val0⟩ := by unfold termR; rw [n0]; rfl
  have m1 : markR W (step1 st) = op := by unfold markR; rw [n1]; rfl
  have k1 : takeS W (step1 st) = step1 (step1 st) := by unfold takeS; rw [n1]; rfl
  have cm : compMid W st = step1 (step1 st) := by unfold compMid; rw [t0, m1, hc, k1]; rfl
  have t2 : termS W (step1 (step1 st)) = step1 (step1 (step1 st)) := by unfold termS; rw [n2]; rfl
  have r2 : termR W (step1 (step1 st)) = ⟨bId, val0⟩ := by unfold termR; rw [n2]; rfl
  unfold compS
  rw [cm, t2, t0, m1, r0, r2]
  rfl
theorem acceptB_name (A : List Word) (t : ByteArray) (X : List Word) (st : PSt) (m : ByteArray) (hb : st.bad = false) (hp : st.pos = A.length) : acceptB (A ++ ⟨2, t⟩ :: X) st m = false := by
  rw [acceptB_at A _ X st m hb hp]; rfl
/-- 'id = id and (..)'. -/
theorem Read.ands {A wc : List Word} {d : List StepS} (h : Read A wc d) : (statementS (A ++ (wid ++ wOpen :: (wc ++ [wClose]))) st0).bad = false ∧
    (statementS (A ++ (wid ++ wOpen :: (wc ++ [wClose]))) st0).pos = (A ++ (wid ++ wOpen :: (wc ++ [wClose]))).length ∧ (statementS (A ++ (wid ++ wOpen :: (wc ++ [wClose]))) st0).wher = [selfStep bEq] ++ d ++ [opStep bAnd] := by
  rw [h.opens.said]
  obtain ⟨g, hg⟩ : ∃ g, 8 * (A ++ (wid ++ wOpen :: (wc ++ [wClose]))).length + 7 = g + 4 := ⟨8 * (A ++ (wid ++ wOpen :: (wc ++ [wClose]))).length + 3, by omega⟩
  rw [hg]
  obtain ⟨s, hs⟩ : ∃ s, s = step1 (stTab A) := ⟨_, rfl⟩
  have hsb : s.bad = false := by rw [hs]; exact h.opens.ok
  have hsp : s.pos = A.length := by rw [hs]; exact h.opens.at
  have hsw : s.wher = [] := by rw [hs]; exact h.opens.nil
  rw [← hs]
  obtain ⟨W, hW⟩ : ∃ W, W = A ++ (wid ++ wOpen :: (wc ++ [wClose])) := ⟨_, rfl⟩
  have hlen : W.length = A.length + wc.length + 6 := by rw [hW]; simp [wid]; omega
  have hW1 : W = A ++ (⟨2, bId⟩ :: ⟨1, bEq⟩ :: ⟨2, bId⟩ :: (⟨1, bAnd⟩ :: wOpen :: (wc ++ [wClose]))) := hW
  have hW2 : W = (A ++ [⟨2, bId⟩, ⟨1, bEq⟩, ⟨2, bId⟩]) ++ ⟨1, bAnd⟩ :: (wOpen :: (wc ++ [wClose])) := by rw [hW]; simp [wid]
  have hW3 : W = (A ++ [⟨2, bId⟩, ⟨1, bEq⟩, ⟨2, bId⟩, ⟨1, bAnd⟩]) ++ wOpen :: (wc ++ [wClose]) := by rw [hW]; simp [wid]
  have hW4 : W = (A ++ [⟨2, bId⟩, ⟨1, bEq⟩, ⟨2, bId⟩, ⟨1, bAnd⟩, wOpen]) ++ (wc ++ [wClose]) := by rw [hW]; simp [wid]
  have hW5 : W = (A ++ [⟨2, bId⟩, ⟨1, bEq⟩, ⟨2, bId⟩, ⟨1, bAnd⟩, wOpen] ++ wc) ++ wClose :: [] := by rw [hW]; simp [wid]
  rw [← hW] at hg ⊢
  have b1 : acceptB W s bNot = false := by rw [hW1]; exact acceptB_name A _ _ s _ hsb hsp
  have b2 : acceptB W s bOpen = false := by rw [hW1]; exact acceptB_name A _ _ s _ hsb hsp
  have cs : compS W s = addStep (step1 (step1 (step1 s))) (selfStep bEq) := by rw [hW1]; exact compS_self A _ bEq s hsb hsp (by decide)
  obtain ⟨q, hq⟩ : ∃ q, q = addStep (step1 (step1 (step1 s))) (selfStep bEq) := ⟨_, rfl⟩
  have hqb : q.bad = false := by rw [hq]; exact hsb
  have hqp : q.pos = A.length + 3 := by rw [hq]; show s.pos + 1 + 1 + 1 = _; omega
  have hqw : q.wher = [selfStep bEq] := by rw [hq]; show s.wher ++ [_] = _; rw [hsw]; rfl
  have c2 : cond W (g + 2) 2 s = q := by
    rw [cond, b1, b2, hq]
    simp only [Bool.false_eq_true, if_false]
    exact cs
  have a1 : acceptB W q bAnd = true := by rw [hW2, acceptB_at _ _ _ q _ hqb (by simp [hqp])]; decide +kernel
  have a2 : acceptB W (step1 q) bNot = false := by rw [hW3, acceptB_at _ _ _ (step1 q) _ hqb (by simp [step1, hqp])]; decide +kernel
  have a3 : acceptB W (step1 q) bOpen = true := by rw [hW3, acceptB_at _ _ _ (step1 q) _ hqb (by simp [step1, hqp])]; decide +kernel
  have i := h.sim (A ++ [⟨2, bId⟩, ⟨1, bEq⟩, ⟨2, bId⟩, ⟨1, bAnd⟩, wOpen]) [wClose] (Or.inr ⟨_, rfl⟩) [selfStep bEq] (step1 (step1 q)) hqb (by simp [step1, hqp]) hqw g (by rw [← hW4, hlen]; simp [step1, need, hqp]; omega)
  rw [← hW4] at i
  obtain ⟨i1, i2, i3⟩ := i
  have a4 : acceptB W (cond W g 0 (step1 (step1 q))) bClose = true := by
    have := acceptB_at (A ++ [⟨2, bId⟩, ⟨1, bEq⟩, ⟨2, bId⟩, ⟨1, bAnd⟩, wOpen] ++ wc) wClose [] (cond W g 0 (step1 (step1 q))) bClose i1 (by rw [i2]; simp; omega)
    rw [← hW5] at this
    rw [this]; decide +kernel
  have c3 : cond W (g + 1) 2 (step1 q) = step1 (cond W g 0 (step1 (step1 q))) := by
    rw [cond, a2, a3]
    simp only [Bool.false_eq_true, if_false, if_true]
    unfold wantS
    rw [a4]
    rfl
  have hpe : (addStep (step1 (cond W g 0 (step1 (step1 q)))) (opStep bAnd)).pos = W.length := by
    show (cond W g 0 (step1 (step1 q))).pos + 1 = _
    rw [i2, hlen]; simp; omega
  have c4 : cond W (g + 2) 4 q = addStep (step1 (cond W g 0 (step1 (step1 q)))) (opStep bAnd) := by
    rw [cond, a1, if_pos rfl, c3]
    obtain ⟨g', hg'⟩ : ∃ g', g + 1 = g' + 1 := ⟨g, rfl⟩
    rw [hg']
    exact cond4_end W g' _ (acceptB_end W _ _ (by omega))
  rw [cond_two W (g + 2) s, c2, c4, cond3_end W (g + 2) _ (acceptB_end W _ _ (by omega))]
  refine ⟨i1, hpe, ?_⟩
  show (cond W g 0 (step1 (step1 q))).wher ++ [opStep bAnd] = _
  rw [i3]
/-- '(..) or id <> id'. -/
theorem Read.ors {A wc : List Word} {d : List StepS} (h : Read A wc d) : (statementS (A ++ (wOpen :: (wc ++ (wClose :: wor)))) st0).bad = false ∧
    (statementS (A ++ (wOpen :: (wc ++ (wClose :: wor)))) st0).pos = (A ++ (wOpen :: (wc ++ (wClose :: wor)))).length ∧ (statementS (A ++ (wOpen :: (wc ++ (wClose :: wor)))) st0).wher = d ++ [selfStep ⟨#[60, 62]⟩] ++ [opStep bOr] := by
  rw [h.opens.said]
  obtain ⟨g, hg⟩ : ∃ g, 8 * (A ++ (wOpen :: (wc ++ (wClose :: wor)))).length + 7 = g + 4 := ⟨8 * (A ++ (wOpen :: (wc ++ (wClose :: wor)))).length + 3, by omega⟩
  rw [hg]
  obtain ⟨s, hs⟩ : ∃ s, s = step1 (stTab A) := ⟨_, rfl⟩
  have hsb : s.bad = false := by rw [hs]; exact h.opens.ok
  have hsp : s.pos = A.length := by rw [hs]; exact h.opens.at
  have hsw : s.wher = [] := by rw [hs]; exact h.opens.nil
  rw [← hs]
  obtain ⟨W, hW⟩ : ∃ W, W = A ++ (wOpen :: (wc ++ (wClose :: wor))) := ⟨_, rfl⟩
  have hlen : W.length = A.length + wc.length + 6 := by rw [hW]; simp [wor]; omega
  have hW1 : W = A ++ wOpen :: (wc ++ (wClose :: wor)) := hW
  have hW2 : W = (A ++ [wOpen]) ++ (wc ++ (wClose :: wor)) := by rw [hW]; simp
  have hW3 : W = (A ++ [wOpen] ++ wc) ++ wClose :: wor := by rw [hW]; simp
  have hW4 : W = (A ++ [wOpen] ++ wc ++ [wClose]) ++ ⟨1, bOr⟩ :: [⟨2, bId⟩, ⟨1, ⟨#[60, 62]⟩⟩, ⟨2, bId⟩] := by rw [hW]; simp [wor]
  have hW5 : W = (A ++ [wOpen] ++ wc ++ [wClose, ⟨1, bOr⟩]) ++ (⟨2, bId⟩ :: ⟨1, ⟨#[60, 62]⟩⟩ :: ⟨2, bId⟩ :: []) := by rw [hW]; simp [wor]
  rw [← hW] at hg ⊢
  have a2 : acceptB W s bNot = false := by rw [hW1, acceptB_at _ _ _ s _ hsb hsp]; decide +kernel
  have a3 : acceptB W s bOpen = true := by rw [hW1, acceptB_at _ _ _ s _ hsb hsp]; decide +kernel
  have i := h.sim (A ++ [wOpen]) (wClose :: wor) (Or.inr ⟨_, rfl⟩) [] (step1 s) hsb (by simp [step1, hsp]) hsw (g + 1) (by rw [← hW2, hlen]; simp [step1, need, hsp]; omega)
  rw [← hW2] at i
  obtain ⟨i1, i2, i3⟩ := i
  have a4 : acceptB W (cond W (g + 1) 0 (step1 s)) bClose = true := by
    have := acceptB_at (A ++ [wOpen] ++ wc) wClose wor (cond W (g + 1) 0 (step1 s)) bClose i1 (by rw [i2]; simp; omega)
    rw [← hW3] at this
    rw [this]; decide +kernel
  obtain ⟨q, hq⟩ : ∃ q, q = step1 (cond W (g + 1) 0 (step1 s)) := ⟨_, rfl⟩
  have hqb : q.bad = false := by rw [hq]; exact i1
  have hqp : q.pos = A.length + wc.length + 2 := by rw [hq]; show (cond W (g + 1) 0 (step1 s)).pos + 1 = _; rw [i2]; simp; omega
  have hqw : q.wher = d := by rw [hq]; show (cond W (g + 1) 0 (step1 s)).wher = _; rw [i3]; rfl
  have c2 : cond W (g + 2) 2 s = q := by
    rw [cond, a2, a3, hq]
    simp only [Bool.false_eq_true, if_false, if_true]
    unfold wantS
    rw [a4]
    rfl
  have b1 : acceptB W q bAnd = false := by rw [hW4, acceptB_at _ _ _ q _ hqb (by simp [hqp]; omega)]; decide +kernel
  have b2 : acceptB W q bOr = true := by rw [hW4, acceptB_at _ _ _ q _ hqb (by simp [hqp]; omega)]; decide +kernel
  have hp5 : (step1 q).pos = (A ++ [wOpen] ++ wc ++ [wClose, ⟨1, bOr⟩]).length := by show q.pos + 1 = _; rw [hqp]; simp; omega
  have b3 : acceptB W (step1 q) bNot = false := by rw [hW5]; exact acceptB_name _ _ _ _ _ hqb hp5
  have b4 : acceptB W (step1 q) bOpen = false := by rw [hW5]; exact acceptB_name _ _ _ _ _ hqb hp5
  have cs : compS W (step1 q) = addStep (step1 (step1 (step1 (step1 q)))) (selfStep ⟨#[60, 62]⟩) := by rw [hW5]; exact compS_self _ _ _ (step1 q) hqb hp5 (by decide)
  have hpe : (addStep (step1 (step1 (step1 (step1 q)))) (selfStep ⟨#[60, 62]⟩)).pos = W.length := by show q.pos + 1 + 1 + 1 + 1 = _; omega
  have c1 : cond W (g + 2) 1 (step1 q) = addStep (step1 (step1 (step1 (step1 q)))) (selfStep ⟨#[60, 62]⟩) := by
    rw [cond, cond, b3, b4]
    simp only [Bool.false_eq_true, if_false]
    rw [cs]
    exact cond4_end W g _ (acceptB_end W _ _ (by omega))
  have c3 : cond W (g + 3) 3 q = addStep (addStep (step1 (step1 (step1 (step1 q)))) (selfStep ⟨#[60, 62]⟩)) (opStep bOr) := by
    rw [cond, b2, if_pos rfl, c1]
    exact cond3_end W (g + 1) _ (acceptB_end W _ _ (by
      show W.length ≤ (addStep (step1 (step1 (step1 (step1 q)))) (selfStep ⟨#[60, 62]⟩)).pos
      omega))
  rw [cond_two W (g + 2) s, c2, cond4_end W (g + 1) q b1, c3]
  refine ⟨hqb, hpe, ?_⟩
  show q.wher ++ [_] ++ [_] = _
  rw [hqw]

end Sq
end Go.Proofs.YteibbdilhpdknaaGreatDoor

namespace Go.Proofs.YteibbdilhpdknaaGreatDoor
namespace Sq

def isRef (r : ByteArray) : Prop := ∃ e : Int, r.data.toList = 33 :: Lib.itoa e
theorem refused_ref (e : Int) : isRef (refused e).reply := ⟨e, by show (bBang ++ itoa e).data.toList = _; rw [append_list]; rfl⟩
theorem isRef.bang {r : ByteArray} (h : isRef r) : r.data.toList.head? = some 33 := by obtain ⟨e, h⟩ := h; rw [h]; rfl
theorem isRef.num {r : ByteArray} (h : isRef r) : (number r).2 = false := by
  obtain ⟨e, h⟩ := h
  have hp := itoa_pos e
  have hl : byteAt r (r.size - 1) ≠ 59 := by
    have hsz : r.size = (Lib.itoa e).length + 1 := by rw [size_list, h]; simp
    unfold byteAt
    rw [h, hsz]
    obtain ⟨n, hn⟩ : ∃ n, (Lib.itoa e).length = n + 1 := ⟨(Lib.itoa e).length - 1, by omega⟩
    rw [hn]
    show (((33 :: Lib.itoa e)[n + 1]?).getD 0).toNat ≠ (59 : Int)
    rw [List.getElem?_cons_succ, List.getElem?_eq_getElem (by omega)]
    have := itoa_mem e _ (List.getElem_mem (show n < (Lib.itoa e).length by omega))
    unfold isNum at this
    simp only [Option.getD_some]
    omega
  unfold number
  rw [if_pos (Or.inr (Or.inr hl))]
theorem parse_of (sql : ByteArray) (ws : List Word) (hs : sql.size ≤ 160) (h : split sql = some ws) (hb : (statementS ws st0).bad = false) (hp : (statementS ws st0).pos = ws.length) : parse sql = (0, statementS ws st0) := by
  unfold parse
  rw [if_neg (by omega), h]
  simp only
  rw [hb, hp]
  simp
theorem parse_back (sql : ByteArray) (h : (parse sql).1 = 0) : sql.size ≤ 160 ∧ ∃ ws, split sql = some ws ∧ (statementS ws st0).bad = false ∧ (statementS ws st0).pos = ws.length ∧ parse sql = (0, statementS ws st0) := by
  unfold parse at h ⊢
  split at h
  · simp at h
  · rename_i hs
    refine ⟨by omega, ?_⟩
    cases hw : split sql with
    | none => rw [hw] at h; simp at h
    | some ws =>
      rw [hw] at h
      simp only at h
      split at h
      · simp at h
      · rename_i hx
        simp at hx
        refine ⟨ws, rfl, hx.1, hx.2, ?_⟩
        rw [if_neg hs]
        simp only
        rw [hx.1, hx.2]
        simp
/-- A select is refused, or tells of the table's rows. -/
theorem decide_cases (db : List Tab) (sql : ByteArray) : isRef (Sq.decide db sql).reply ∨ ((parse sql).1 = 0 ∧ ((parse sql).2.act = 5 → ∃ t, db[(findTab db (parse sql).2.table).toNat]? = some t ∧ (Sq.decide db sql).reply = showRows t (parse sql).2 (meeting t (parse sql).2.wher))) := by
  unfold Sq.decide
  by_cases h0 : (parse sql).1 = 0
  · rw [h0, if_neg (by decide)]
    by_cases h5 : (parse sql).2.act = 5
    · unfold decideSt
      rw [h5, if_neg (by decide)]
      cases hx : db[(findTab db (parse sql).2.table).toNat]? with
      | none => left; exact refused_ref 4
      | some t =>
        simp only
        split
        · left; exact refused_ref 4
        · unfold decideTab
          split
          · left; exact refused_ref _
          · rw [h5, if_neg (by decide), if_neg (by decide), if_neg (by decide)]
            right
            exact ⟨trivial, fun _ => ⟨t, rfl, rfl⟩⟩
    · right; exact ⟨rfl, fun h => absurd h h5⟩
  · rw [if_pos (by simpa using h0)]
    left; exact refused_ref _
theorem showRows_same (t : Tab) {a b : PSt} (h : Same a b) (rows : List (List Val)) : showRows t b rows = showRows t a rows := by
  unfold showRows; rw [h.shw, h.items]

/-- A text 'A C' that is understood. -/
theorem read_of (A : List Word) (pA : List UInt8) (hA : Opens A) (hs : splitP 60 pA = some A) (C : List UInt8) (sql : ByteArray) (hq : sql.data.toList = pA ++ C) (h : (parse sql).1 = 0) :
    ∃ wc d, Splits C wc ∧ Read A wc d ∧ Same (stTab A) (parse sql).2 ∧ (parse sql).2.wher = d := by
  obtain ⟨_, ws, h1, h2, h3, h4⟩ := parse_back sql h
  have h5 := (split_iff sql ws).1 h1
  rw [hq] at h5
  obtain ⟨wc, rfl, h6⟩ := (splitP_app C 60 pA A hs ws).1 h5
  refine ⟨wc, _, h6, ⟨hA, h2, h3, rfl⟩, ?_, ?_⟩
  · rw [h4]; exact hA.same wc
  · rw [h4]
/-- The same condition behind 'not', within brackets. -/
theorem nots_of (A : List Word) (pA : List UInt8) (hs : splitP 60 pA = some A) {wc : List Word} {d : List StepS} {C : List UInt8} (hC : Splits C wc) (hr : Read A wc d) (sql : ByteArray) (hq : sql.data.toList = pA ++ (pnot ++ 40 :: (C ++ [41]))) (h : (parse sql).1 = 0) :
    Same (stTab A) (parse sql).2 ∧ (parse sql).2.wher = d ++ [opStep bNot] := by
  obtain ⟨_, ws, h1, h2, h3, h4⟩ := parse_back sql h
  have h5 := (split_iff sql ws).1 h1
  rw [hq] at h5
  obtain ⟨w1, rfl, h6⟩ := (splitP_app _ 60 pA A hs ws).1 h5
  obtain ⟨w2, rfl, h7⟩ := (splitP_app _ 60 pnot wnot split_not w1).1 h6
  obtain ⟨w3, rfl, h8⟩ := (splits_sign 40 (Or.inl rfl) _ w2).1 h7
  have h9 : Splits (C ++ [41]) (wc ++ [wClose]) := hC.app (Or.inr ⟨[], rfl⟩) ((splits_sign 41 (Or.inr rfl) [] _).2 ⟨[], rfl, Splits.nil⟩)
  have e1 : w3 = wc ++ [wClose] := by
    have i1 := (split_iff ⟨(C ++ [41]).toArray⟩ w3).2 (by simpa using h8)
    have i2 := (split_iff ⟨(C ++ [41]).toArray⟩ (wc ++ [wClose])).2 (by simpa using h9)
    rw [i1] at i2
    simpa using i2
  subst e1
  rw [h4]
  exact ⟨hr.opens.same _, hr.nots.2.2⟩
theorem ands_of (A : List Word) (pA : List UInt8) (hs : splitP 60 pA = some A) {wc : List Word} {d : List StepS} {C : List UInt8} (hC : Splits C wc) (hr : Read A wc d) (sql : ByteArray) (hq : sql.data.toList = pA ++ (pid ++ 40 :: (C ++ [41]))) (h : (parse sql).1 = 0) :
    Same (stTab A) (parse sql).2 ∧ (parse sql).2.wher = [selfStep bEq] ++ d ++ [opStep bAnd] := by
  obtain ⟨_, ws, h1, h2, h3, h4⟩ := parse_back sql h
  have h5 := (split_iff sql ws).1 h1
  rw [hq] at h5
  obtain ⟨w1, rfl, h6⟩ := (splitP_app _ 60 pA A hs ws).1 h5
  obtain ⟨w2, rfl, h7⟩ := (splitP_app _ 60 pid wid split_id w1).1 h6
  obtain ⟨w3, rfl, h8⟩ := (splits_sign 40 (Or.inl rfl) _ w2).1 h7
  have h9 : Splits (C ++ [41]) (wc ++ [wClose]) := hC.app (Or.inr ⟨[], rfl⟩) ((splits_sign 41 (Or.inr rfl) [] _).2 ⟨[], rfl, Splits.nil⟩)
  have e1 : w3 = wc ++ [wClose] := by
    have i1 := (split_iff ⟨(C ++ [41]).toArray⟩ w3).2 (by simpa using h8)
    have i2 := (split_iff ⟨(C ++ [41]).toArray⟩ (wc ++ [wClose])).2 (by simpa using h9)
    rw [i1] at i2
    simpa using i2
  subst e1
  rw [h4]
  exact ⟨hr.opens.same _, hr.ands.2.2⟩
theorem ors_of (A : List Word) (pA : List UInt8) (hs : splitP 60 pA = some A) {wc : List Word} {d : List StepS} {C : List UInt8} (hC : Splits C wc) (hr : Read A wc d) (sql : ByteArray) (hq : sql.data.toList = pA ++ (40 :: (C ++ (41 :: por)))) (h : (parse sql).1 = 0) :
    Same (stTab A) (parse sql).2 ∧ (parse sql).2.wher = d ++ [selfStep ⟨#[60, 62]⟩] ++ [opStep bOr] := by
  obtain ⟨_, ws, h1, h2, h3, h4⟩ := parse_back sql h
  have h5 := (split_iff sql ws).1 h1
  rw [hq] at h5
  obtain ⟨w1, rfl, h6⟩ := (splitP_app _ 60 pA A hs ws).1 h5
  obtain ⟨w3, rfl, h8⟩ := (splits_sign 40 (Or.inl rfl) _ w1).1 h6
  have h9 : Splits (C ++ (41 :: por)) (wc ++ (wClose :: wor)) := hC.app (Or.inr ⟨por, rfl⟩) ((splits_sign 41 (Or.inr rfl) por _).2 ⟨wor, rfl, split_or⟩)
  have e1 : w3 = wc ++ (wClose :: wor) := by
    have i1 := (split_iff ⟨(C ++ (41 :: por)).toArray⟩ w3).2 (by simpa using h8)
    have i2 := (split_iff ⟨(C ++ (41 :: por)).toArray⟩ (wc ++ (wClose :: wor))).2 (by simpa using h9)
    rw [i1] at i2
    simpa using i2
  subst e1
  rw [h4]
  exact ⟨hr.opens.same _, hr.ors.2.2⟩

theorem meeting_of (t : Tab) (d : List StepS) (f : List Val → Bool) (h : ∀ row, Tells t.cols row d (f row)) : meeting t d = t.rows.filter f := by
  unfold meeting
  congr 1
  funext row
  exact (h row).meets
theorem few_rows {db : List Tab} (hg : good db) {t : Tab} (ht : t ∈ db) : t.rows.length ≤ 60 := by
  have h1 := rows_le_sum db t ht
  have h2 := hg.size
  unfold dbSize at h2
  omega
/-- The parts of a table, measured. -/
theorem parts_plain {db : List Tab} (hg : good db) (A : List Word) (pA : List UInt8) (hA : Opens A) (hs : splitP 60 pA = some A) (meas : Tab → List (List Val) → Int)
    (hm : ∀ t ∈ db, ∀ f, number (showRows t (stTab A) (t.rows.filter f)) = (meas t (t.rows.filter f), true))
    (hadd : ∀ t f, meas t (t.rows.filter fun _ => true) = meas t (t.rows.filter f) + meas t (t.rows.filter fun r => !f r))
    (sa sb sc : ByteArray) (C : List UInt8) (ha : (parse sa).2.act = 5 ∧ (parse sa).2.table = bT ∧ (parse sa).2.wher = [] ∧ (parse sa).2.shw = (stTab A).shw ∧ (parse sa).2.items = (stTab A).items)
    (hb : sb.data.toList = pA ++ C) (hc : sc.data.toList = pA ++ (pnot ++ 40 :: (C ++ [41])))
    (ka : (number (Sq.decide db sa).reply).2 = true) (kb : (number (Sq.decide db sb).reply).2 = true) (kc : (number (Sq.decide db sc).reply).2 = true) :
    (number (Sq.decide db sa).reply).1 = (number (Sq.decide db sb).reply).1 + (number (Sq.decide db sc).reply).1 := by
  have no : ∀ s, (number (Sq.decide db s).reply).2 = true → ¬ isRef (Sq.decide db s).reply := fun s h r => by rw [r.num] at h; cases h
  obtain ⟨a0, a5⟩ := (decide_cases db sa).resolve_left (no sa ka)
  obtain ⟨b0, b5⟩ := (decide_cases db sb).resolve_left (no sb kb)
  obtain ⟨c0, c5⟩ := (decide_cases db sc).resolve_left (no sc kc)
  obtain ⟨wc, d, r1, r2, r3, r4⟩ := read_of A pA hA hs C sb hb b0
  obtain ⟨n1, n2⟩ := nots_of A pA hs r1 r2 sc hc c0
  obtain ⟨ta, ta1, ta2⟩ := a5 ha.1
  obtain ⟨tb, tb1, tb2⟩ := b5 (r3.act.trans hA.act)
  obtain ⟨tc, tc1, tc2⟩ := c5 (n1.act.trans hA.act)
  rw [ha.2.1] at ta1
  rw [r3.table, hA.table] at tb1
  rw [n1.table, hA.table] at tc1
  rw [ta1] at tb1 tc1
  cases tb1
  cases tc1
  have ht : ta ∈ db := List.mem_of_getElem? ta1
  have hf : ∀ row, ∃ v, Tells ta.cols row d v := fun row => r2.tells ta.cols row
  obtain ⟨f, hf⟩ := Classical.axiomOfChoice hf
  have e1 : meeting ta d = ta.rows.filter f := meeting_of ta d f hf
  have e2 : meeting ta (d ++ [opStep bNot]) = ta.rows.filter fun r => !f r := meeting_of ta _ _ (fun row l => by rw [List.foldl_append, hf row]; exact stepB_not ta.cols row l (f row))
  have e3 : meeting ta [] = ta.rows.filter fun _ => true := rfl
  have sA : ∀ rows, showRows ta (parse sa).2 rows = showRows ta (stTab A) rows := fun rows => by unfold showRows; rw [ha.2.2.2.1, ha.2.2.2.2]
  rw [ta2, tb2, tc2, sA, showRows_same ta r3, showRows_same ta n1, ha.2.2.1, r4, n2, e1, e2, e3, hm ta ht, hm ta ht, hm ta ht]
  exact hadd ta f

theorem filter_parts {α : Type} (f : α → Bool) : ∀ l : List α, l.length = (l.filter f).length + (l.filter fun r => !f r).length
  | [] => rfl
  | x :: r => by
    have := filter_parts f r
    cases hx : f x <;> simp [hx] <;> omega
theorem count_shw : (stTab w_count).shw = 2 := by decide +kernel
theorem star_shw : (stTab w_star).shw = 1 := by decide +kernel
theorem sum_shw : (stTab w_sum).shw = 3 ∧ (stTab w_sum).items = [bId] := by decide +kernel
theorem count_meas {db : List Tab} (hg : good db) (t : Tab) (ht : t ∈ db) (f : List Val → Bool) : number (showRows t (stTab w_count) (t.rows.filter f)) = (((t.rows.filter f).length : Int), true) := by
  have h1 := few_rows hg ht
  have h2 := List.length_filter_le f t.rows
  refine number_itoa _ (by omega) (by omega) _ ?_
  unfold showRows
  rw [count_shw, if_pos (by decide)]
  exact counted_list _
def sumId (t : Tab) (rows : List (List Val)) : Int := sumRows t.cols [bId] rows
theorem sumId_cons (t : Tab) (r : List Val) (q : List (List Val)) : sumId t (r :: q) = (cellOf t.cols r bId).number + sumId t q := by
  unfold sumId sumRows sumItems; simp
theorem sum_parts (t : Tab) (f : List Val → Bool) : ∀ rows : List (List Val), sumId t rows = sumId t (rows.filter f) + sumId t (rows.filter fun r => !f r)
  | [] => rfl
  | x :: r => by
    have := sum_parts t f r
    cases hx : f x <;> simp [hx, sumId_cons] <;> omega
theorem sum_bd (t : Tab) : ∀ rows : List (List Val), (∀ r ∈ rows, goodRow r) → -2147483648 * (rows.length : Int) ≤ sumId t rows ∧ sumId t rows ≤ 2147483648 * (rows.length : Int)
  | [], _ => by simp [sumId, sumRows]
  | x :: r, h => by
    have i := sum_bd t r (fun y hy => h y (by simp [hy]))
    have hc := cellOf_good t.cols x bId (h x (by simp)).vals
    have hb : -2147483648 ≤ (cellOf t.cols x bId).number ∧ (cellOf t.cols x bId).number ≤ 2147483648 := by
      rcases hc with ⟨_, h1, h2, _⟩ | ⟨_, h1, _⟩
      · omega
      · omega
    rw [sumId_cons, List.length_cons]
    push_cast
    omega
theorem sum_meas {db : List Tab} (hg : good db) (t : Tab) (ht : t ∈ db) (f : List Val → Bool) : number (showRows t (stTab w_sum) (t.rows.filter f)) = (sumId t (t.rows.filter f), true) := by
  have h1 := few_rows hg ht
  have h2 := List.length_filter_le f t.rows
  have h3 := sum_bd t (t.rows.filter f) (fun r hr => (hg.each t ht).rows r (List.mem_filter.1 hr).1)
  refine number_itoa _ (by omega) (by omega) _ ?_
  unfold showRows
  rw [sum_shw.1, sum_shw.2, if_neg (by decide), if_pos (by decide), append_list]
  rfl
def selSum : ByteArray := ⟨#[115, 101, 108, 101, 99, 116, 32, 115, 117, 109, 32, 40, 105, 100, 41, 32, 102, 114, 111, 109, 32, 116]⟩
theorem selSum_said : (parse selSum).2.act = 5 ∧ (parse selSum).2.table = bT ∧ (parse selSum).2.wher.length = 0 ∧ (parse selSum).2.shw = (stTab w_sum).shw ∧ (parse selSum).2.items = (stTab w_sum).items := by decide +kernel
theorem selCount_said : (parse selCount).2.act = 5 ∧ (parse selCount).2.table = bT ∧ (parse selCount).2.wher.length = 0 ∧ (parse selCount).2.shw = (stTab w_count).shw ∧ (parse selCount).2.items = (stTab w_count).items := by decide +kernel
theorem filter_true {α : Type} (l : List α) : (l.filter fun _ => true) = l := List.filter_eq_self.2 (fun _ _ => rfl)
theorem count_plain {db : List Tab} (hg : good db) (sb sc : ByteArray) (C : List UInt8) (hb : sb.data.toList = p_count ++ C) (hc : sc.data.toList = p_count ++ (pnot ++ 40 :: (C ++ [41])))
    (ka : (number (Sq.decide db selCount).reply).2 = true) (kb : (number (Sq.decide db sb).reply).2 = true) (kc : (number (Sq.decide db sc).reply).2 = true) :
    (number (Sq.decide db selCount).reply).1 = (number (Sq.decide db sb).reply).1 + (number (Sq.decide db sc).reply).1 := by
  obtain ⟨s1, s2, s3, s4, s5⟩ := selCount_said
  refine parts_plain hg w_count p_count opens_count split_count (fun _ rows => (rows.length : Int)) (fun t ht f => count_meas hg t ht f) (fun t f => ?_) selCount sb sc C ⟨s1, s2, nil_of_len s3, s4, s5⟩ hb hc ka kb kc
  have := filter_parts f t.rows
  rw [filter_true]
  omega
theorem sum_plain {db : List Tab} (hg : good db) (sb sc : ByteArray) (C : List UInt8) (hb : sb.data.toList = p_sum ++ C) (hc : sc.data.toList = p_sum ++ (pnot ++ 40 :: (C ++ [41])))
    (ka : (number (Sq.decide db selSum).reply).2 = true) (kb : (number (Sq.decide db sb).reply).2 = true) (kc : (number (Sq.decide db sc).reply).2 = true) :
    (number (Sq.decide db selSum).reply).1 = (number (Sq.decide db sb).reply).1 + (number (Sq.decide db sc).reply).1 := by
  obtain ⟨s1, s2, s3, s4, s5⟩ := selSum_said
  refine parts_plain hg w_sum p_sum opens_sum split_sum sumId (fun t ht f => sum_meas hg t ht f) (fun t f => ?_) selSum sb sc C ⟨s1, s2, nil_of_len s3, s4, s5⟩ hb hc ka kb kc
  rw [filter_true]
  exact sum_parts t f t.rows
/-- As many lines as are counted. -/
theorem lines_plain {db : List Tab} (hg : good db) (sb sl : ByteArray) (C : List UInt8) (hb : sb.data.toList = p_count ++ C) (hl : sl.data.toList = p_star ++ C)
    (kb : (number (Sq.decide db sb).reply).2 = true) (kl : (Sq.decide db sl).reply.data.toList.head? ≠ some 33) :
    (lines false (Sq.decide db sl).reply.data.toList : Int) = (number (Sq.decide db sb).reply).1 := by
  have nb : ¬ isRef (Sq.decide db sb).reply := fun r => by rw [r.num] at kb; cases kb
  have nl : ¬ isRef (Sq.decide db sl).reply := fun r => kl r.bang
  obtain ⟨b0, b5⟩ := (decide_cases db sb).resolve_left nb
  obtain ⟨l0, l5⟩ := (decide_cases db sl).resolve_left nl
  obtain ⟨wc, d, r1, r2, r3, r4⟩ := read_of w_count p_count opens_count split_count C sb hb b0
  obtain ⟨wc', d', q1, q2, q3, q4⟩ := read_of w_star p_star opens_star split_star C sl hl l0
  have hww : wc' = wc := by
    have i1 := (split_iff ⟨C.toArray⟩ wc).2 (by simpa using r1)
    have i2 := (split_iff ⟨C.toArray⟩ wc').2 (by simpa using q1)
    rw [i1] at i2
    simpa using i2.symm
  subst hww
  have hdd : d' = d := by
    have := (r2.alone opens_star).wher
    rw [q2.wher] at this
    exact this
  subst hdd
  obtain ⟨tb, tb1, tb2⟩ := b5 (r3.act.trans opens_count.act)
  obtain ⟨tl, tl1, tl2⟩ := l5 (q3.act.trans opens_star.act)
  rw [r3.table, opens_count.table] at tb1
  rw [q3.table, opens_star.table] at tl1
  rw [tb1] at tl1
  cases tl1
  have ht : tb ∈ db := List.mem_of_getElem? tb1
  have hf : ∀ row, ∃ v, Tells tb.cols row d' v := fun row => r2.tells tb.cols row
  obtain ⟨f, hf⟩ := Classical.axiomOfChoice hf
  have e1 : meeting tb d' = tb.rows.filter f := meeting_of tb d' f hf
  rw [tb2, tl2, showRows_same tb r3, showRows_same tb q3, r4, q4, e1, count_meas hg tb ht]
  unfold showRows
  rw [star_shw, if_neg (by decide), if_neg (by decide), if_pos (by decide)]
  show ((lines false (listed tb.cols (tb.cols.map Col.name) (tb.rows.filter f)) : Nat) : Int) = _
  rw [lines_listed _ _ _ (fun r hr => ((hg.each tb ht).rows r (List.mem_filter.1 hr).1).vals)]
theorem compare_self (v : Val) : compare v v = 0 := by
  unfold compare
  simp
theorem self_tells (cols : List Col) (row : List Val) (op : ByteArray) (hc : isComparison op = true) : Tells cols row [selfStep op] (holds op 0) := by
  intro l
  show stepB cols row l (selfStep op) = _
  unfold stepB
  rw [show (selfStep op).op = op from rfl, if_pos hc]
  unfold compared
  show l ++ [holds op (compare (valueOf cols row ⟨bId, val0⟩) (valueOf cols row ⟨bId, val0⟩))] = _
  rw [compare_self]
theorem alike_plain (db : List Tab) (sa sb sc : ByteArray) (C : List UInt8) (ha : sa.data.toList = p_star ++ C) (hb : sb.data.toList = p_star ++ (40 :: (C ++ (41 :: por)))) (hc : sc.data.toList = p_star ++ (pid ++ 40 :: (C ++ [41])))
    (ka : (Sq.decide db sa).reply.data.toList.head? ≠ some 33) :
    ((Sq.decide db sb).reply.data.toList.head? = some 33 ∨ (Sq.decide db sa).reply = (Sq.decide db sb).reply) ∧ ((Sq.decide db sc).reply.data.toList.head? = some 33 ∨ (Sq.decide db sa).reply = (Sq.decide db sc).reply) := by
  have na : ¬ isRef (Sq.decide db sa).reply := fun r => ka r.bang
  obtain ⟨a0, a5⟩ := (decide_cases db sa).resolve_left na
  obtain ⟨wc, d, r1, r2, r3, r4⟩ := read_of w_star p_star opens_star split_star C sa ha a0
  obtain ⟨ta, ta1, ta2⟩ := a5 (r3.act.trans opens_star.act)
  rw [r3.table, opens_star.table] at ta1
  have hf : ∀ row, ∃ v, Tells ta.cols row d v := fun row => r2.tells ta.cols row
  obtain ⟨f, hf⟩ := Classical.axiomOfChoice hf
  have e1 : meeting ta d = ta.rows.filter f := meeting_of ta d f hf
  rw [ta2, showRows_same ta r3, r4, e1]
  constructor
  · rcases decide_cases db sb with h | ⟨b0, b5⟩
    · left; exact h.bang
    · right
      obtain ⟨n1, n2⟩ := ors_of w_star p_star split_star r1 r2 sb hb b0
      obtain ⟨tb, tb1, tb2⟩ := b5 (n1.act.trans opens_star.act)
      rw [n1.table, opens_star.table, ta1] at tb1
      cases tb1
      have e2 : meeting ta (d ++ [selfStep ⟨#[60, 62]⟩] ++ [opStep bOr]) = ta.rows.filter f := meeting_of ta _ _ (fun row l => by
        rw [List.foldl_append, List.foldl_append, hf row, self_tells ta.cols row ⟨#[60, 62]⟩ (by decide)]
        show stepB ta.cols row (l ++ [f row] ++ [holds ⟨#[60, 62]⟩ 0]) (opStep bOr) = _
        rw [stepB_or, show holds ⟨#[60, 62]⟩ 0 = false from by decide +kernel, Bool.or_false])
      rw [tb2, showRows_same ta n1, n2, e2]
  · rcases decide_cases db sc with h | ⟨b0, b5⟩
    · left; exact h.bang
    · right
      obtain ⟨n1, n2⟩ := ands_of w_star p_star split_star r1 r2 sc hc b0
      obtain ⟨tb, tb1, tb2⟩ := b5 (n1.act.trans opens_star.act)
      rw [n1.table, opens_star.table, ta1] at tb1
      cases tb1
      have e2 : meeting ta ([selfStep bEq] ++ d ++ [opStep bAnd]) = ta.rows.filter f := meeting_of ta _ _ (fun row l => by
        rw [List.foldl_append, List.foldl_append, self_tells ta.cols row bEq (by decide), hf row]
        show stepB ta.cols row (l ++ [holds bEq 0] ++ [f row]) (opStep bAnd) = _
        rw [stepB_and, show holds bEq 0 = true from by decide +kernel, Bool.true_and])
      rw [tb2, showRows_same ta n1, n2, e2]

end Sq
end Go.Proofs.YteibbdilhpdknaaGreatDoor
