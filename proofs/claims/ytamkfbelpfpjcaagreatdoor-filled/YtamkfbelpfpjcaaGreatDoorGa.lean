import Derived.WalkKit
set_option linter.unusedVariables false
set_option linter.unusedSimpArgs false

namespace Go.Proofs.YtamkfbelpfpjcaaGreatDoor
namespace Sq

def rng (lo hi c : Int) : Bool := decide (lo ≤ c) && decide (c ≤ hi)
def isLetter (c : Int) : Bool := rng 97 122 c
def isDigit (c : Int) : Bool := rng 48 57 c
def isName (c : Int) : Bool := isLetter c || isDigit c
def isGap (c : Int) : Bool := c == 32 || c == 10
def isInText (c : Int) : Bool := rng 32 126 c && !(c == 39)
def isSign (c : Int) : Bool := [40, 41, 44, 42, 61, 43, 45, 60, 62].contains c
def isPair (c d : Int) : Bool := (c == 60 && d == 62) || (c == 60 && d == 61) || (c == 62 && d == 61)

/-- The byte at a place; 0 outside. -/
def byteAt (s : ByteArray) (k : Nat) : Int := ((s.data.toList[k]?).getD 0).toNat

/-- How many bytes from k on are of the kind. -/
def cnt (p : Int → Bool) (s : ByteArray) (k : Nat) : Nat := ((s.data.toList.drop k).takeWhile fun c => p c.toNat).length

theorem byteAt_lt (s : ByteArray) (k : Nat) (h : k < s.size) : byteAt s k = (s[k]).toNat := by
  have h' : k < s.data.toList.length := by simpa using h
  unfold byteAt
  rw [List.getElem?_eq_getElem h']
  rfl

theorem byteAt_ge (s : ByteArray) (k : Nat) (h : s.size ≤ k) : byteAt s k = 0 := by
  have h' : s.data.toList.length ≤ k := by simpa using h
  unfold byteAt
  rw [List.getElem?_eq_none h']
  rfl

theorem byteAt_bd (s : ByteArray) (k : Nat) : 0 ≤ byteAt s k ∧ byteAt s k ≤ 255 := by
  unfold byteAt
  have := ((s.data.toList[k]?).getD 0).toNat_lt
  omega

theorem cnt_step (p : Int → Bool) (h0 : p 0 = false) (s : ByteArray) (k : Nat) (h : p (byteAt s k) = true) :
    k < s.size ∧ cnt p s k = cnt p s (k + 1) + 1 := by
  by_cases hk : k < s.size
  · refine ⟨hk, ?_⟩
    have h' : k < s.data.toList.length := by simpa using hk
    have e : byteAt s k = ((s.data.toList[k]).toNat : Int) := by unfold byteAt; rw [List.getElem?_eq_getElem h']; rfl
    unfold cnt
    rw [List.drop_eq_getElem_cons h', List.takeWhile_cons, if_pos (by rw [← e]; exact h), List.length_cons]
  · rw [byteAt_ge s k (by omega), h0] at h; cases h

theorem cnt_stop (p : Int → Bool) (s : ByteArray) (k : Nat) (h : p (byteAt s k) = false) : cnt p s k = 0 := by
  unfold cnt
  by_cases hk : k < s.size
  · have h' : k < s.data.toList.length := by simpa using hk
    have e : byteAt s k = ((s.data.toList[k]).toNat : Int) := by unfold byteAt; rw [List.getElem?_eq_getElem h']; rfl
    rw [List.drop_eq_getElem_cons h', List.takeWhile_cons, if_neg (by rw [← e, h]; simp)]
    rfl
  · have h' : s.data.toList.length ≤ k := by simpa using Nat.le_of_not_lt hk
    rw [List.drop_eq_nil_of_le h']
    rfl

theorem cnt_le (p : Int → Bool) (s : ByteArray) (k : Nat) : cnt p s k ≤ s.size - k := by
  unfold cnt
  have h1 : ((s.data.toList.drop k).takeWhile fun c => p c.toNat).length ≤ (s.data.toList.drop k).length := (List.takeWhile_sublist _).length_le
  have h2 : (s.data.toList.drop k).length = s.size - k := by simp
  omega

def endOfText (s : ByteArray) (a : Nat) : Nat := if byteAt s (a + 1 + cnt isInText s (a + 1)) == 39 then a + 1 + cnt isInText s (a + 1) + 1 else a

def endOf (s : ByteArray) (a : Nat) : Nat :=
  if isLetter (byteAt s a) then a + cnt isName s a
  else if isDigit (byteAt s a) then a + cnt isDigit s a
  else if byteAt s a == 39 then endOfText s a
  else if isPair (byteAt s a) (byteAt s (a + 1)) then a + 2
  else if isSign (byteAt s a) then a + 1
  else a

/-- A word: its kind (0 none, 1 mark, 2 name, 3 number, 4 text), its text. -/
structure Word where
  kind : Int
  text : ByteArray

def keywords : List (List UInt8) :=
  [[99, 114, 101, 97, 116, 101], [116, 97, 98, 108, 101], [105, 110, 115, 101, 114, 116], [105, 110, 116, 111], [118, 97, 108, 117, 101, 115], [117, 112, 100, 97, 116, 101], [115, 101, 116], [119, 104, 101, 114, 101], [100, 101, 108, 101, 116, 101],
   [102, 114, 111, 109], [115, 101, 108, 101, 99, 116], [97, 110, 100], [111, 114], [110, 111, 116], [105, 110, 116], [116, 101, 120, 116], [99, 111, 117, 110, 116], [115, 117, 109]]
def isKeyword (s : ByteArray) : Bool := keywords.contains s.data.toList

def bounded (kind : Int) (t : ByteArray) (most : Nat) : Word := if t.size ≤ most then ⟨kind, t⟩ else ⟨0, ⟨#[]⟩⟩

def wordOf (s : ByteArray) : Word :=
  if isKeyword s then ⟨1, s⟩
  else if isLetter (byteAt s 0) then bounded 2 s 8
  else if isDigit (byteAt s 0) then bounded 3 s 9
  else if byteAt s 0 == 39 && decide (2 ≤ s.size) then bounded 4 (s.extract 1 (s.size - 1)) 12
  else ⟨1, s⟩

/-- The words from a place on, with fuel; none: something is no word. -/
def splitFrom (s : ByteArray) : Nat → Nat → Option (List Word)
  | 0, _ => some []
  | f + 1, a =>
    if a < s.size then
      if isGap (byteAt s a) then splitFrom s f (a + 1)
      else if endOf s a ≤ a ∨ s.size < endOf s a then none
      else if (wordOf (s.extract a (endOf s a))).kind == 0 then none
      else (splitFrom s f (endOf s a)).map (wordOf (s.extract a (endOf s a)) :: ·)
    else some []
def split (s : ByteArray) : Option (List Word) := splitFrom s (s.size + 1) 0

def Word.cells (x : Word) : List Value := [.int .i64 x.kind, .string x.text]
def wcells (ws : List Word) : List Value := ws.flatMap Word.cells
theorem wcells_snoc (ws : List Word) (x : Word) : wcells (ws ++ [x]) = wcells ws ++ [.int .i64 x.kind, .string x.text] := by simp [wcells, Word.cells]
theorem wcells_length (ws : List Word) : (wcells ws).length = ws.length * 2 := by
  induction ws with
  | nil => rfl
  | cons x r ih => simp [wcells, Word.cells] at ih ⊢; omega

theorem split_end (s : ByteArray) (f k : Nat) (h : s.size ≤ k) : splitFrom s f k = some [] := by
  cases f with
  | zero => rfl
  | succ f => rw [splitFrom, if_neg (by omega)]
theorem split_gap (s : ByteArray) (f k : Nat) (h : k < s.size) (hg : isGap (byteAt s k) = true) : splitFrom s (f + 1) k = splitFrom s f (k + 1) := by
  rw [splitFrom, if_pos h, if_pos hg]
theorem split_bad (s : ByteArray) (f k : Nat) (h : k < s.size) (hg : isGap (byteAt s k) = false) (he : endOf s k ≤ k ∨ s.size < endOf s k) : splitFrom s (f + 1) k = none := by
  rw [splitFrom, if_pos h, if_neg (by simp [hg]), if_pos he]
theorem split_none (s : ByteArray) (f k : Nat) (h : k < s.size) (hg : isGap (byteAt s k) = false) (he : ¬ (endOf s k ≤ k ∨ s.size < endOf s k)) (hk : (wordOf (s.extract k (endOf s k))).kind = 0) : splitFrom s (f + 1) k = none := by
  rw [splitFrom, if_pos h, if_neg (by simp [hg]), if_neg he, if_pos (by simp [hk])]
theorem split_word (s : ByteArray) (f k : Nat) (h : k < s.size) (hg : isGap (byteAt s k) = false) (he : ¬ (endOf s k ≤ k ∨ s.size < endOf s k)) (hk : (wordOf (s.extract k (endOf s k))).kind ≠ 0) :
    splitFrom s (f + 1) k = (splitFrom s f (endOf s k)).map (wordOf (s.extract k (endOf s k)) :: ·) := by
  rw [splitFrom, if_pos h, if_neg (by simp [hg]), if_neg he, if_neg (by simp [hk])]

end Sq
end Go.Proofs.YtamkfbelpfpjcaaGreatDoor

namespace Go.Proofs.YtamkfbelpfpjcaaGreatDoor
namespace Sq

structure Col where
  name : ByteArray
  kind : Int
structure Val where
  kind : Int
  number : Int
  text : ByteArray
structure Term where
  column : ByteArray
  lit : Val
structure SetS where
  column : ByteArray
  first : Term
  sign : ByteArray
  second : Term
structure StepS where
  op : ByteArray
  left : Term
  right : Term

def nobytes : ByteArray := ⟨#[]⟩
def val0 : Val := ⟨0, 0, nobytes⟩
def term0 : Term := ⟨nobytes, val0⟩
def Col.cells (c : Col) : List Value := [.string c.name, .int .i64 c.kind]
def Val.cells (v : Val) : List Value := [.int .i64 v.kind, .int .i64 v.number, .string v.text]
def Term.cells (t : Term) : List Value := [.string t.column, .int .i64 t.lit.kind, .int .i64 t.lit.number, .string t.lit.text]
def SetS.cells (s : SetS) : List Value := [.string s.column, .string s.first.column, .int .i64 s.first.lit.kind, .int .i64 s.first.lit.number, .string s.first.lit.text, .string s.sign, .string s.second.column, .int .i64 s.second.lit.kind, .int .i64 s.second.lit.number, .string s.second.lit.text]
def StepS.cells (s : StepS) : List Value := [.string s.op, .string s.left.column, .int .i64 s.left.lit.kind, .int .i64 s.left.lit.number, .string s.left.lit.text, .string s.right.column, .int .i64 s.right.lit.kind, .int .i64 s.right.lit.number, .string s.right.lit.text]

structure PSt where
  pos : Nat
  bad : Bool
  act : Int
  table : ByteArray
  cols : List Col
  vals : List Val
  sets : List SetS
  shw : Int
  items : List ByteArray
  wher : List StepS

def word0 : Word := ⟨0, nobytes⟩
def nextW (ws : List Word) (st : PSt) : Word := if st.bad then word0 else (ws[st.pos]?).getD word0
def fail (st : PSt) : PSt := { st with bad := true }
def step1 (st : PSt) : PSt := { st with pos := st.pos + 1 }
def takeS (ws : List Word) (st : PSt) : PSt := if (nextW ws st).kind == 0 then fail st else step1 st
def acceptB (ws : List Word) (st : PSt) (m : ByteArray) : Bool := (nextW ws st).kind == 1 && (nextW ws st).text.toList == m.toList
def acceptS (ws : List Word) (st : PSt) (m : ByteArray) : PSt := if acceptB ws st m then step1 st else st
def wantS (ws : List Word) (st : PSt) (m : ByteArray) : PSt := if acceptB ws st m then step1 st else fail st
def nameS (ws : List Word) (st : PSt) : PSt := if (nextW ws st).kind == 2 then takeS ws st else fail (takeS ws st)
def nameR (ws : List Word) (st : PSt) : ByteArray := if (nextW ws st).kind == 2 then (nextW ws st).text else nobytes
def markR (ws : List Word) (st : PSt) : ByteArray := if (nextW ws st).kind == 1 then (nextW ws st).text else nobytes

theorem nextW_bad (ws : List Word) (st : PSt) (h : st.bad = true) : nextW ws st = word0 := by simp [nextW, h]
theorem nextW_out (ws : List Word) (st : PSt) (h : ws.length ≤ st.pos) : nextW ws st = word0 := by
  unfold nextW; split
  · rfl
  · rw [List.getElem?_eq_none h]; rfl
theorem nextW_in (ws : List Word) (st : PSt) (hb : st.bad = false) (h : st.pos < ws.length) : nextW ws st = ws[st.pos] := by
  unfold nextW; rw [hb, List.getElem?_eq_getElem h]; rfl
theorem nextW_pos (ws : List Word) (st : PSt) (h : (nextW ws st).kind ≠ 0) : st.pos < ws.length := by
  rcases Nat.lt_or_ge st.pos ws.length with h1 | h1
  · exact h1
  · rw [nextW_out ws st h1] at h; exact absurd rfl h

theorem wcells_at (ws : List Word) (k : Nat) (h : k < ws.length) : (wcells ws)[k * 2]? = some (.int .i64 (ws[k]).kind) ∧ (wcells ws)[k * 2 + 1]? = some (.string (ws[k]).text) := by
  induction ws generalizing k with
  | nil => simp at h
  | cons x r ih =>
    cases k with
    | zero => simp [wcells, Word.cells]
    | succ k =>
      have h' : k < r.length := by simpa using h
      have := ih k h'
      simp only [wcells, List.flatMap_cons, Word.cells] at this ⊢
      rw [show (k + 1) * 2 = k * 2 + 2 from by omega, show k * 2 + 2 + 1 = k * 2 + 1 + 2 from by omega]
      simpa using this

theorem bounded_size (k : Int) (t : ByteArray) (m : Nat) : (bounded k t m).text.size ≤ m := by
  unfold bounded; split
  · assumption
  · exact Nat.zero_le _
theorem bounded_kind (k : Int) (t : ByteArray) (m : Nat) : (bounded k t m).kind = k ∨ (bounded k t m).kind = 0 := by
  unfold bounded; split <;> simp
theorem wordOf_wf (s : ByteArray) (h : (wordOf s).kind = 3) : (wordOf s).text.size ≤ 9 := by
  unfold wordOf at h ⊢
  split
  · rename_i h1; rw [if_pos h1] at h; simp at h
  · rename_i h1; rw [if_neg h1] at h
    split
    · rename_i h2; rw [if_pos h2] at h; rcases bounded_kind 2 s 8 with h3 | h3 <;> rw [h3] at h <;> simp at h
    · rename_i h2; rw [if_neg h2] at h
      split
      · exact bounded_size 3 s 9
      · rename_i h3; rw [if_neg h3] at h
        split
        · rename_i h4; rw [if_pos h4] at h; rcases bounded_kind 4 (s.extract 1 (s.size - 1)) 12 with h5 | h5 <;> rw [h5] at h <;> simp at h
        · rename_i h4; rw [if_neg h4] at h; simp at h
theorem splitFrom_wf (s : ByteArray) : ∀ f a ws, splitFrom s f a = some ws → ∀ x ∈ ws, x.kind = 3 → x.text.size ≤ 9 := by
  intro f
  induction f with
  | zero => intro a ws h x hx; simp [splitFrom] at h; subst h; simp at hx
  | succ f ih =>
    intro a ws h x hx
    rw [splitFrom] at h
    split at h
    · split at h
      · exact ih _ _ h x hx
      · split at h
        · simp at h
        · split at h
          · simp at h
          · cases h2 : splitFrom s f (endOf s a) with
            | none => rw [h2] at h; simp at h
            | some l =>
              rw [h2] at h
              simp at h
              subst h
              rcases List.mem_cons.1 hx with rfl | hx
              · exact wordOf_wf _
              · exact ih _ _ h2 x hx
    · simp at h; subst h; simp at hx
theorem split_wf (s : ByteArray) (ws : List Word) (h : split s = some ws) : ∀ x ∈ ws, x.kind = 3 → x.text.size ≤ 9 := splitFrom_wf s _ _ ws h
theorem nextW_wf (ws : List Word) (st : PSt) (h : ∀ x ∈ ws, x.kind = 3 → x.text.size ≤ 9) (hk : (nextW ws st).kind = 3) : (nextW ws st).text.size ≤ 9 := by
  have hp := nextW_pos ws st (by rw [hk]; decide)
  cases hb : st.bad with
  | true => rw [nextW_bad ws st hb] at hk; simp [word0] at hk
  | false => rw [nextW_in ws st hb hp] at hk ⊢; exact h _ (List.getElem_mem hp) hk

/-- The number that digits tell (the machine's own: a byte minus 48 as a byte). -/
def dv (c : UInt8) : Int := ((c.toNat : Int) - 48) % 256
def numL (l : List UInt8) : Int := l.foldl (fun n c => n * 10 + dv c) 0
def num (t : ByteArray) : Int := numL t.data.toList
theorem numL_snoc (l : List UInt8) (c : UInt8) : numL (l ++ [c]) = numL l * 10 + dv c := by simp [numL]
theorem numFrom_bd (l : List UInt8) : ∀ a : Int, 0 ≤ a → 0 ≤ l.foldl (fun n c => n * 10 + dv c) a ∧ l.foldl (fun n c => n * 10 + dv c) a + 29 ≤ (a + 29) * ((10 ^ l.length : Nat) : Int) := by
  induction l with
  | nil => intro a h; simp; omega
  | cons c r ih =>
    intro a h
    have hd : 0 ≤ dv c ∧ dv c ≤ 255 := by unfold dv; omega
    obtain ⟨i1, i2⟩ := ih (a * 10 + dv c) (by omega)
    rw [List.foldl_cons, List.length_cons, Nat.pow_succ]
    refine ⟨i1, ?_⟩
    have h1 : (0 : Int) ≤ ((10 ^ r.length : Nat) : Int) := Int.natCast_nonneg _
    have h2 : (a * 10 + dv c + 29) * ((10 ^ r.length : Nat) : Int) ≤ ((a + 29) * 10) * ((10 ^ r.length : Nat) : Int) := Int.mul_le_mul_of_nonneg_right (by omega) h1
    have h3 : (a + 29) * ((10 ^ r.length * 10 : Nat) : Int) = ((a + 29) * 10) * ((10 ^ r.length : Nat) : Int) := by
      rw [Int.natCast_mul, Int.mul_assoc, Int.mul_comm ((10 ^ r.length : Nat) : Int)]
      rfl
    rw [h3]
    omega
theorem numL_small (l : List UInt8) (h : l.length ≤ 9) : 0 ≤ numL l ∧ numL l ≤ 29000000000 := by
  have h1 := numFrom_bd l 0 (by omega)
  have h2 : (10 : Nat) ^ l.length ≤ 10 ^ 9 := Nat.pow_le_pow_right (by decide) h
  have h3 : (10 : Nat) ^ 9 = 1000000000 := by decide
  refine ⟨h1.1, ?_⟩
  have h4 := h1.2
  unfold numL
  omega
theorem num_small (t : ByteArray) (h : t.size ≤ 9) : 0 ≤ num t ∧ num t ≤ 29000000000 := numL_small _ (by simpa using h)

def bMinus : ByteArray := ⟨#[45]⟩
def litR (ws : List Word) (st : PSt) : Val :=
  if (nextW ws (acceptS ws st bMinus)).kind == 3 then
    (if acceptB ws st bMinus then ⟨0, -num (nextW ws (acceptS ws st bMinus)).text, nobytes⟩ else ⟨0, num (nextW ws (acceptS ws st bMinus)).text, nobytes⟩)
  else if (nextW ws (acceptS ws st bMinus)).kind == 4 && !acceptB ws st bMinus then ⟨1, 0, (nextW ws (acceptS ws st bMinus)).text⟩
  else val0
def litS (ws : List Word) (st : PSt) : PSt :=
  if (nextW ws (acceptS ws st bMinus)).kind == 3 then takeS ws (acceptS ws st bMinus)
  else if (nextW ws (acceptS ws st bMinus)).kind == 4 && !acceptB ws st bMinus then takeS ws (acceptS ws st bMinus)
  else fail (takeS ws (acceptS ws st bMinus))
def termR (ws : List Word) (st : PSt) : Term := if (nextW ws st).kind == 2 then ⟨(nextW ws st).text, val0⟩ else ⟨nobytes, litR ws st⟩
def termS (ws : List Word) (st : PSt) : PSt := if (nextW ws st).kind == 2 then step1 st else litS ws st

end Sq
end Go.Proofs.YtamkfbelpfpjcaaGreatDoor

namespace Go.Proofs.YtamkfbelpfpjcaaGreatDoor

def Sq.bText : ByteArray := ⟨#[116, 101, 120, 116]⟩
def Sq.bInt : ByteArray := ⟨#[105, 110, 116]⟩
def Sq.kindR (ws : List Sq.Word) (st : Sq.PSt) : Int := if Sq.acceptB ws st Sq.bText then 1 else 0
def Sq.kindS (ws : List Sq.Word) (st : Sq.PSt) : Sq.PSt := if Sq.acceptB ws st Sq.bText then Sq.acceptS ws st Sq.bText else Sq.wantS ws st Sq.bInt

def Sq.comparisons : List (List UInt8) := [[61], [60, 62], [60], [60, 61], [62], [62, 61]]
def Sq.isComparison (s : ByteArray) : Bool := Sq.comparisons.contains s.data.toList

def Sq.addStep (st : Sq.PSt) (s : Sq.StepS) : Sq.PSt := { st with wher := st.wher ++ [s] }

def Sq.compMid (ws : List Sq.Word) (st : Sq.PSt) : Sq.PSt := if Sq.isComparison (Sq.markR ws (Sq.termS ws st)) then Sq.takeS ws (Sq.termS ws st) else Sq.fail (Sq.takeS ws (Sq.termS ws st))
def Sq.compS (ws : List Sq.Word) (st : Sq.PSt) : Sq.PSt :=
  Sq.addStep (Sq.termS ws (Sq.compMid ws st)) ⟨Sq.markR ws (Sq.termS ws st), Sq.termR ws st, Sq.termR ws (Sq.compMid ws st)⟩

theorem Sq.termS_wher (ws : List Sq.Word) (st : Sq.PSt) : (Sq.termS ws st).wher = st.wher := by
  unfold Sq.termS Sq.litS Sq.takeS Sq.acceptS
  repeat (first | rfl | split)
theorem Sq.takeS_wher (ws : List Sq.Word) (st : Sq.PSt) : (Sq.takeS ws st).wher = st.wher := by
  unfold Sq.takeS
  repeat (first | rfl | split)
theorem Sq.compMid_wher (ws : List Sq.Word) (st : Sq.PSt) : (Sq.compMid ws st).wher = st.wher := by
  unfold Sq.compMid
  split
  · rw [Sq.takeS_wher, Sq.termS_wher]
  · show (Sq.takeS ws _).wher = _
    rw [Sq.takeS_wher, Sq.termS_wher]


namespace Sq
def bOr : ByteArray := ⟨#[111, 114]⟩
def bAnd : ByteArray := ⟨#[97, 110, 100]⟩
def bNot : ByteArray := ⟨#[110, 111, 116]⟩
def bOpen : ByteArray := ⟨#[40]⟩
def bClose : ByteArray := ⟨#[41]⟩
def bWhere : ByteArray := ⟨#[119, 104, 101, 114, 101]⟩
def opStep (m : ByteArray) : StepS := ⟨m, term0, term0⟩

/-- Or (0), and (1), not (2), what follows an or (3), an and (4); with fuel. -/
def cond (ws : List Word) : Nat → Nat → PSt → PSt
  | 0, _, st => st
  | f + 1, 0, st => cond ws f 3 (cond ws f 1 st)
  | f + 1, 1, st => cond ws f 4 (cond ws f 2 st)
  | f + 1, 2, st => if acceptB ws st bNot then addStep (cond ws f 2 (step1 st)) (opStep bNot) else if acceptB ws st bOpen then wantS ws (cond ws f 0 (step1 st)) bClose else compS ws st
  | f + 1, 3, st => if acceptB ws st bOr then cond ws f 3 (addStep (cond ws f 1 (step1 st)) (opStep bOr)) else st
  | f + 1, _ + 4, st => if acceptB ws st bAnd then cond ws f 4 (addStep (cond ws f 2 (step1 st)) (opStep bAnd)) else st

theorem takeS_pos (ws : List Word) (st : PSt) : st.pos ≤ (takeS ws st).pos := by unfold takeS; split <;> simp [fail, step1]
theorem acceptS_pos (ws : List Word) (st : PSt) (m : ByteArray) : st.pos ≤ (acceptS ws st m).pos := by unfold acceptS; split <;> simp [step1]
theorem wantS_pos (ws : List Word) (st : PSt) (m : ByteArray) : st.pos ≤ (wantS ws st m).pos := by unfold wantS; split <;> simp [step1, fail]
theorem wantS_wher (ws : List Word) (st : PSt) (m : ByteArray) : (wantS ws st m).wher = st.wher := by unfold wantS; split <;> rfl
theorem litS_pos (ws : List Word) (st : PSt) : st.pos ≤ (litS ws st).pos := by
  have h1 := takeS_pos ws (acceptS ws st bMinus)
  have h2 := acceptS_pos ws st bMinus
  unfold litS
  repeat (first | split | (show _ ≤ (takeS ws _).pos; omega))
theorem termS_pos (ws : List Word) (st : PSt) : st.pos ≤ (termS ws st).pos := by
  unfold termS; split
  · simp [step1]
  · exact litS_pos ws st
theorem compMid_pos (ws : List Word) (st : PSt) : st.pos ≤ (compMid ws st).pos := by
  have h1 := termS_pos ws st
  have h2 := takeS_pos ws (termS ws st)
  unfold compMid
  split
  · omega
  · show _ ≤ (takeS ws _).pos; omega
theorem compS_pos (ws : List Word) (st : PSt) : st.pos ≤ (compS ws st).pos := Nat.le_trans (compMid_pos ws st) (termS_pos ws (compMid ws st))
theorem compS_wher (ws : List Word) (st : PSt) : (compS ws st).wher.length = st.wher.length + 1 := by
  show ((termS ws (compMid ws st)).wher ++ [_]).length = _
  rw [termS_wher, compMid_wher, List.length_append]; rfl
theorem addStep_len (st : PSt) (s : StepS) : (addStep st s).wher.length = st.wher.length + 1 := by simp [addStep]

def more (t : Nat) : Nat := if t ≤ 2 then 1 else 0
theorem cond_len (ws : List Word) : ∀ f t st, st.pos ≤ (cond ws f t st).pos ∧ (cond ws f t st).wher.length + 2 * st.pos ≤ st.wher.length + 2 * (cond ws f t st).pos + more t := by
  intro f
  induction f with
  | zero => intro t st; simp [cond]
  | succ f ih =>
    intro t st
    match t with
    | 0 =>
      rw [cond]
      have h1 := ih 1 st
      have h2 := ih 3 (cond ws f 1 st)
      simp [more] at h1 h2 ⊢
      omega
    | 1 =>
      rw [cond]
      have h1 := ih 2 st
      have h2 := ih 4 (cond ws f 2 st)
      simp [more] at h1 h2 ⊢
      omega
    | 2 =>
      rw [cond]
      split
      · have h1 := ih 2 (step1 st)
        rw [addStep_len]
        simp [more, step1] at h1 ⊢
        show st.pos ≤ (cond ws f 2 _).pos ∧ _ ≤ _ + 2 * (cond ws f 2 _).pos + 1
        omega
      · split
        · have h1 := ih 0 (step1 st)
          have h2 := wantS_pos ws (cond ws f 0 (step1 st)) bClose
          rw [wantS_wher]
          simp [more, step1] at h1 ⊢
          simp [step1] at h2
          omega
        · have h1 := compS_pos ws st
          have h2 := compS_wher ws st
          simp [more]
          omega
    | 3 =>
      rw [cond]
      split
      · have h1 := ih 1 (step1 st)
        have h2 := ih 3 (addStep (cond ws f 1 (step1 st)) (opStep bOr))
        rw [addStep_len] at h2
        have h3 : (addStep (cond ws f 1 (step1 st)) (opStep bOr)).pos = (cond ws f 1 (step1 st)).pos := rfl
        have h4 : (step1 st).wher = st.wher := rfl
        have h5 : (step1 st).pos = st.pos + 1 := rfl
        rw [h3] at h2
        rw [h4, h5] at h1
        simp only [more] at h1 h2 ⊢
        simp at h1 h2 ⊢
        omega
      · simp [more]
    | t + 4 =>
      rw [cond]
      split
      · have h1 := ih 2 (step1 st)
        have h2 := ih 4 (addStep (cond ws f 2 (step1 st)) (opStep bAnd))
        rw [addStep_len] at h2
        have h3 : (addStep (cond ws f 2 (step1 st)) (opStep bAnd)).pos = (cond ws f 2 (step1 st)).pos := rfl
        have h4 : (step1 st).wher = st.wher := rfl
        have h5 : (step1 st).pos = st.pos + 1 := rfl
        rw [h3] at h2
        rw [h4, h5] at h1
        simp only [more] at h1 h2 ⊢
        simp at h1 h2 ⊢
        omega
      · simp [more]
theorem takeS_cols (ws : List Word) (st : PSt) : (takeS ws st).cols = st.cols := by unfold takeS; split <;> rfl
theorem acceptS_cols (ws : List Word) (st : PSt) (m : ByteArray) : (acceptS ws st m).cols = st.cols := by unfold acceptS; split <;> rfl
theorem wantS_cols (ws : List Word) (st : PSt) (m : ByteArray) : (wantS ws st m).cols = st.cols := by unfold wantS; split <;> rfl
theorem nameS_cols (ws : List Word) (st : PSt) : (nameS ws st).cols = st.cols := by unfold nameS; split <;> exact takeS_cols ws st
theorem kindS_cols (ws : List Word) (st : PSt) : (kindS ws st).cols = st.cols := by
  unfold kindS; split
  · exact acceptS_cols ws st _
  · exact wantS_cols ws st _
theorem litS_cols (ws : List Word) (st : PSt) : (litS ws st).cols = st.cols := by
  have h : (takeS ws (acceptS ws st bMinus)).cols = st.cols := by rw [takeS_cols, acceptS_cols]
  unfold litS
  repeat (first | exact h | split)
theorem termS_cols (ws : List Word) (st : PSt) : (termS ws st).cols = st.cols := by
  unfold termS; split
  · rfl
  · exact litS_cols ws st
theorem takeS_vals (ws : List Word) (st : PSt) : (takeS ws st).vals = st.vals := by unfold takeS; split <;> rfl
theorem acceptS_vals (ws : List Word) (st : PSt) (m : ByteArray) : (acceptS ws st m).vals = st.vals := by unfold acceptS; split <;> rfl
theorem wantS_vals (ws : List Word) (st : PSt) (m : ByteArray) : (wantS ws st m).vals = st.vals := by unfold wantS; split <;> rfl
theorem nameS_vals (ws : List Word) (st : PSt) : (nameS ws st).vals = st.vals := by unfold nameS; split <;> exact takeS_vals ws st
theorem kindS_vals (ws : List Word) (st : PSt) : (kindS ws st).vals = st.vals := by
  unfold kindS; split
  · exact acceptS_vals ws st _
  · exact wantS_vals ws st _
theorem litS_vals (ws : List Word) (st : PSt) : (litS ws st).vals = st.vals := by
  have h : (takeS ws (acceptS ws st bMinus)).vals = st.vals := by rw [takeS_vals, acceptS_vals]
  unfold litS
  repeat (first | exact h | split)
theorem termS_vals (ws : List Word) (st : PSt) : (termS ws st).vals = st.vals := by
  unfold termS; split
  · rfl
  · exact litS_vals ws st
theorem takeS_sets (ws : List Word) (st : PSt) : (takeS ws st).sets = st.sets := by unfold takeS; split <;> rfl
theorem acceptS_sets (ws : List Word) (st : PSt) (m : ByteArray) : (acceptS ws st m).sets = st.sets := by unfold acceptS; split <;> rfl
theorem wantS_sets (ws : List Word) (st : PSt) (m : ByteArray) : (wantS ws st m).sets = st.sets := by unfold wantS; split <;> rfl
theorem nameS_sets (ws : List Word) (st : PSt) : (nameS ws st).sets = st.sets := by unfold nameS; split <;> exact takeS_sets ws st
theorem kindS_sets (ws : List Word) (st : PSt) : (kindS ws st).sets = st.sets := by
  unfold kindS; split
  · exact acceptS_sets ws st _
  · exact wantS_sets ws st _
theorem litS_sets (ws : List Word) (st : PSt) : (litS ws st).sets = st.sets := by
  have h : (takeS ws (acceptS ws st bMinus)).sets = st.sets := by rw [takeS_sets, acceptS_sets]
  unfold litS
  repeat (first | exact h | split)
theorem termS_sets (ws : List Word) (st : PSt) : (termS ws st).sets = st.sets := by
  unfold termS; split
  · rfl
  · exact litS_sets ws st
theorem takeS_items (ws : List Word) (st : PSt) : (takeS ws st).items = st.items := by unfold takeS; split <;> rfl
theorem acceptS_items (ws : List Word) (st : PSt) (m : ByteArray) : (acceptS ws st m).items = st.items := by unfold acceptS; split <;> rfl
theorem wantS_items (ws : List Word) (st : PSt) (m : ByteArray) : (wantS ws st m).items = st.items := by unfold wantS; split <;> rfl
theorem nameS_items (ws : List Word) (st : PSt) : (nameS ws st).items = st.items := by unfold nameS; split <;> exact takeS_items ws st
theorem kindS_items (ws : List Word) (st : PSt) : (kindS ws st).items = st.items := by
  unfold kindS; split
  · exact acceptS_items ws st _
  · exact wantS_items ws st _
theorem litS_items (ws : List Word) (st : PSt) : (litS ws st).items = st.items := by
  have h : (takeS ws (acceptS ws st bMinus)).items = st.items := by rw [takeS_items, acceptS_items]
  unfold litS
  repeat (first | exact h | split)
theorem termS_items (ws : List Word) (st : PSt) : (termS ws st).items = st.items := by
  unfold termS; split
  · rfl
  · exact litS_items ws st
def whereS (ws : List Word) (st : PSt) : PSt := if acceptB ws st bWhere then cond ws (8 * ws.length + 7) 0 (step1 st) else st
end Sq
end Go.Proofs.YtamkfbelpfpjcaaGreatDoor

namespace Go.Proofs.YtamkfbelpfpjcaaGreatDoor
namespace Sq
def addCol (st : PSt) (c : Col) : PSt := { st with cols := st.cols ++ [c] }
def addVal (st : PSt) (v : Val) : PSt := { st with vals := st.vals ++ [v] }
def addSet (st : PSt) (s : SetS) : PSt := { st with sets := st.sets ++ [s] }
def addItem (st : PSt) (n : ByteArray) : PSt := { st with items := st.items ++ [n] }
def setAct (st : PSt) (a : Int) : PSt := { st with act := a }
def setTable (st : PSt) (n : ByteArray) : PSt := { st with table := n }
def setShow (st : PSt) (a : Int) : PSt := { st with shw := a }

def bComma : ByteArray := ⟨#[44]⟩
def bEq : ByteArray := ⟨#[61]⟩
def bPlus : ByteArray := ⟨#[43]⟩
def bStar : ByteArray := ⟨#[42]⟩
def bCreate : ByteArray := ⟨#[99, 114, 101, 97, 116, 101]⟩
def bTable : ByteArray := ⟨#[116, 97, 98, 108, 101]⟩
def bInsert : ByteArray := ⟨#[105, 110, 115, 101, 114, 116]⟩
def bInto : ByteArray := ⟨#[105, 110, 116, 111]⟩
def bValues : ByteArray := ⟨#[118, 97, 108, 117, 101, 115]⟩
def bUpdate : ByteArray := ⟨#[117, 112, 100, 97, 116, 101]⟩
def bSet : ByteArray := ⟨#[115, 101, 116]⟩
def bDelete : ByteArray := ⟨#[100, 101, 108, 101, 116, 101]⟩
def bFrom : ByteArray := ⟨#[102, 114, 111, 109]⟩
def bSelect : ByteArray := ⟨#[115, 101, 108, 101, 99, 116]⟩
def bCount : ByteArray := ⟨#[99, 111, 117, 110, 116]⟩
def bSum : ByteArray := ⟨#[115, 117, 109]⟩

def valueS (ws : List Word) (st : PSt) : PSt := addVal (litS ws st) (litR ws st)
def itemS (ws : List Word) (st : PSt) : PSt := addItem (nameS ws st) (nameR ws st)
def colS (ws : List Word) (st : PSt) : PSt := addCol (kindS ws (nameS ws st)) ⟨nameR ws st, kindR ws (nameS ws st)⟩

def asg1 (ws : List Word) (st : PSt) : PSt := wantS ws (nameS ws st) bEq
def asg2 (ws : List Word) (st : PSt) : PSt := termS ws (asg1 ws st)
def asgSign (ws : List Word) (st : PSt) : ByteArray := if acceptB ws (asg2 ws st) bPlus then bPlus else if acceptB ws (asg2 ws st) bMinus then bMinus else nobytes
def asg3 (ws : List Word) (st : PSt) : PSt := if acceptB ws (asg2 ws st) bPlus then step1 (asg2 ws st) else if acceptB ws (asg2 ws st) bMinus then step1 (asg2 ws st) else asg2 ws st
def asgSecond (ws : List Word) (st : PSt) : Term := if acceptB ws (asg2 ws st) bPlus then termR ws (asg3 ws st) else if acceptB ws (asg2 ws st) bMinus then termR ws (asg3 ws st) else term0
def asg4 (ws : List Word) (st : PSt) : PSt := if acceptB ws (asg2 ws st) bPlus then termS ws (asg3 ws st) else if acceptB ws (asg2 ws st) bMinus then termS ws (asg3 ws st) else asg3 ws st
def asgS (ws : List Word) (st : PSt) : PSt := addSet (asg4 ws st) ⟨nameR ws st, termR ws (asg1 ws st), asgSign ws st, asgSecond ws st⟩

/-- What is read again and again behind commas; with fuel. -/
def commas (ws : List Word) (body : PSt → PSt) : Nat → PSt → PSt
  | 0, st => st
  | f + 1, st => if acceptB ws st bComma then commas ws body f (body (step1 st)) else st

def tableS (ws : List Word) (st : PSt) : PSt := setTable (nameS ws st) (nameR ws st)

def createS (ws : List Word) (st : PSt) : PSt :=
  let a := wantS ws (tableS ws (wantS ws (setAct st 1) bTable)) bOpen
  let b := addCol (wantS ws (nameS ws a) bInt) ⟨nameR ws a, 0⟩
  wantS ws (commas ws (colS ws) (ws.length + 1) b) bClose
def insertS (ws : List Word) (st : PSt) : PSt :=
  let a := wantS ws (wantS ws (tableS ws (wantS ws (setAct st 2) bInto)) bValues) bOpen
  wantS ws (commas ws (valueS ws) (ws.length + 1) (valueS ws a)) bClose
def updateS (ws : List Word) (st : PSt) : PSt :=
  let a := wantS ws (tableS ws (setAct st 3)) bSet
  whereS ws (commas ws (asgS ws) (ws.length + 1) (asgS ws a))
def deleteS (ws : List Word) (st : PSt) : PSt := whereS ws (tableS ws (wantS ws (setAct st 4) bFrom))
def itemsS (ws : List Word) (st : PSt) : PSt := commas ws (itemS ws) (ws.length + 1) (itemS ws (setShow st 0))
def chooseA (ws : List Word) (st : PSt) : PSt :=
  if acceptB ws st bStar then setShow (step1 st) 1
  else if acceptB ws st bCount then setShow (step1 st) 2
  else if acceptB ws st bSum then wantS ws (itemS ws (wantS ws (setShow (step1 st) 3) bOpen)) bClose
  else itemsS ws st
def chooseS (ws : List Word) (st : PSt) : PSt := whereS ws (tableS ws (wantS ws (chooseA ws (setAct st 5)) bFrom))

def statementS (ws : List Word) (st : PSt) : PSt :=
  if (markR ws st).toList == bCreate.toList then createS ws (takeS ws st)
  else if (markR ws st).toList == bInsert.toList then insertS ws (takeS ws st)
  else if (markR ws st).toList == bUpdate.toList then updateS ws (takeS ws st)
  else if (markR ws st).toList == bDelete.toList then deleteS ws (takeS ws st)
  else if (markR ws st).toList == bSelect.toList then chooseS ws (takeS ws st)
  else fail (takeS ws st)

def st0 : PSt := ⟨0, false, 0, nobytes, [], [], [], 0, [], []⟩
/-- What a text says: the error's number, or what is read. -/
def parse (sql : ByteArray) : Int × PSt :=
  if 160 < sql.size then (2, st0)
  else match split sql with
    | none => (3, st0)
    | some ws => if (statementS ws st0).bad || (statementS ws st0).pos != ws.length then (3, st0) else (0, statementS ws st0)

theorem nameS_pos (ws : List Word) (st : PSt) : st.pos ≤ (nameS ws st).pos := by
  have := takeS_pos ws st
  unfold nameS; split
  · exact this
  · exact this
theorem kindS_pos (ws : List Word) (st : PSt) : st.pos ≤ (kindS ws st).pos := by
  unfold kindS; split
  · exact acceptS_pos ws st _
  · exact wantS_pos ws st _
theorem tableS_cols (ws : List Word) (st : PSt) : (tableS ws st).cols = st.cols := nameS_cols ws st
theorem tableS_vals (ws : List Word) (st : PSt) : (tableS ws st).vals = st.vals := nameS_vals ws st
theorem tableS_sets (ws : List Word) (st : PSt) : (tableS ws st).sets = st.sets := nameS_sets ws st
theorem tableS_items (ws : List Word) (st : PSt) : (tableS ws st).items = st.items := nameS_items ws st
theorem nameS_wher (ws : List Word) (st : PSt) : (nameS ws st).wher = st.wher := by unfold nameS; split <;> exact takeS_wher ws st
theorem tableS_wher (ws : List Word) (st : PSt) : (tableS ws st).wher = st.wher := nameS_wher ws st
theorem litS_wher (ws : List Word) (st : PSt) : (litS ws st).wher = st.wher := by
  have h : (takeS ws (acceptS ws st bMinus)).wher = st.wher := by rw [takeS_wher]; unfold acceptS; split <;> rfl
  unfold litS
  repeat (first | exact h | split)
theorem kindS_wher (ws : List Word) (st : PSt) : (kindS ws st).wher = st.wher := by
  unfold kindS; split
  · unfold acceptS; split <;> rfl
  · exact wantS_wher ws st _
theorem valueS_len (ws : List Word) (st : PSt) : (valueS ws st).vals.length = st.vals.length + 1 := by
  show ((litS ws st).vals ++ [_]).length = _
  rw [litS_vals, List.length_append]; rfl
theorem valueS_pos (ws : List Word) (st : PSt) : st.pos ≤ (valueS ws st).pos := litS_pos ws st
theorem valueS_wher (ws : List Word) (st : PSt) : (valueS ws st).wher = st.wher := litS_wher ws st
theorem asg2_sets (ws : List Word) (st : PSt) : (asg2 ws st).sets = st.sets := by unfold asg2 asg1; rw [termS_sets, wantS_sets, nameS_sets]
theorem asg2_wher (ws : List Word) (st : PSt) : (asg2 ws st).wher = st.wher := by unfold asg2 asg1; rw [termS_wher, wantS_wher, nameS_wher]
theorem asg2_pos (ws : List Word) (st : PSt) : st.pos ≤ (asg2 ws st).pos := Nat.le_trans (Nat.le_trans (nameS_pos ws st) (wantS_pos ws _ bEq)) (termS_pos ws _)
theorem asgS_len (ws : List Word) (st : PSt) : (asgS ws st).sets.length = st.sets.length + 1 := by
  show ((asg4 ws st).sets ++ [_]).length = _
  have h : (asg4 ws st).sets = st.sets := by
    unfold asg4 asg3
    split
    · rw [termS_sets]; exact asg2_sets ws st
    · split
      · rw [termS_sets]; exact asg2_sets ws st
      · exact asg2_sets ws st
  rw [h, List.length_append]; rfl
theorem asgS_wher (ws : List Word) (st : PSt) : (asgS ws st).wher = st.wher := by
  show (asg4 ws st).wher = _
  unfold asg4 asg3
  split
  · rw [termS_wher]; exact asg2_wher ws st
  · split
    · rw [termS_wher]; exact asg2_wher ws st
    · exact asg2_wher ws st
theorem asgS_pos (ws : List Word) (st : PSt) : st.pos ≤ (asgS ws st).pos := by
  show _ ≤ (asg4 ws st).pos
  have h := asg2_pos ws st
  have h2 := termS_pos ws (step1 (asg2 ws st))
  have h3 : (step1 (asg2 ws st)).pos = (asg2 ws st).pos + 1 := rfl
  unfold asg4 asg3
  split
  · omega
  · split
    · omega
    · omega
theorem colS_len (ws : List Word) (st : PSt) : (colS ws st).cols.length = st.cols.length + 1 := by
  show ((kindS ws (nameS ws st)).cols ++ [_]).length = _
  rw [kindS_cols, nameS_cols, List.length_append]; rfl
theorem colS_pos (ws : List Word) (st : PSt) : st.pos ≤ (colS ws st).pos := Nat.le_trans (nameS_pos ws st) (kindS_pos ws _)
theorem colS_wher (ws : List Word) (st : PSt) : (colS ws st).wher = st.wher := by show (kindS ws (nameS ws st)).wher = _; rw [kindS_wher, nameS_wher]
theorem itemS_len (ws : List Word) (st : PSt) : (itemS ws st).items.length = st.items.length + 1 := by
  show ((nameS ws st).items ++ [_]).length = _
  rw [nameS_items, List.length_append]; rfl
theorem itemS_wher (ws : List Word) (st : PSt) : (itemS ws st).wher = st.wher := nameS_wher ws st
theorem commas_wher (ws : List Word) (body : PSt → PSt) (hb : ∀ st, (body st).wher = st.wher) : ∀ f st, (commas ws body f st).wher = st.wher := by
  intro f
  induction f with
  | zero => intro st; rfl
  | succ f ih =>
    intro st
    rw [commas]
    split
    · rw [ih, hb]; rfl
    · rfl
end Sq
end Go.Proofs.YtamkfbelpfpjcaaGreatDoor

namespace Go.Proofs.YtamkfbelpfpjcaaGreatDoor
namespace Sq

/-- The place of the first column of that name, from number i on; -1. -/
def findFrom (n : ByteArray) : List Col → Int → Int
  | [], _ => -1
  | c :: r, i => if c.name.toList == n.toList then i else findFrom n r (i + 1)
def find (cols : List Col) (n : ByteArray) : Int := findFrom n cols 0
theorem findFrom_bd (n : ByteArray) (l : List Col) : ∀ i : Int, 0 ≤ i → findFrom n l i = -1 ∨ (i ≤ findFrom n l i ∧ findFrom n l i < i + l.length) := by
  induction l with
  | nil => intro i _; left; rfl
  | cons c r ih =>
    intro i hi
    rw [findFrom]
    split
    · right; simp; omega
    · rcases ih (i + 1) (by omega) with h | h
      · left; exact h
      · right; simp; omega
theorem find_bd (cols : List Col) (n : ByteArray) : find cols n = -1 ∨ (0 ≤ find cols n ∧ find cols n < cols.length) := by
  have := findFrom_bd n cols 0 (by omega)
  unfold find
  rcases this with h | h
  · left; exact h
  · right; omega
theorem findFrom_step (cols : List Col) (n : ByteArray) (k : Nat) (h : k < cols.length) : findFrom n (cols.drop k) k = if cols[k].name.toList == n.toList then (k : Int) else findFrom n (cols.drop (k + 1)) ((k : Int) + 1) := by
  rw [List.drop_eq_getElem_cons h, findFrom]

def sideOf (b : Bool) : Int := if b then -1 else 1
/-- -1, 0, 1. -/
def compare (v x : Val) : Int :=
  if v.kind != x.kind then sideOf (decide (v.kind < x.kind))
  else if v.kind == 0 && v.number != x.number then sideOf (decide (v.number < x.number))
  else if v.kind == 1 && !(v.text.toList == x.text.toList) then sideOf (Op.bytesLess v.text.toList x.text.toList)
  else 0

theorem flat_at {α : Type} (f : α → List Value) (size : Nat) (hf : ∀ x, (f x).length = size) : ∀ (l : List α) (k j : Nat) (hk : k < l.length), j < size → (l.flatMap f)[k * size + j]? = (f l[k])[j]? := by
  intro l
  induction l with
  | nil => intro k j hk; simp at hk
  | cons x r ih =>
    intro k j hk hj
    rw [List.flatMap_cons]
    cases k with
    | zero =>
      rw [List.getElem?_append_left (by rw [hf]; omega)]
      simp
    | succ k =>
      rw [List.getElem?_append_right (by rw [hf, Nat.add_mul]; omega), hf]
      have e : (k + 1) * size + j - size = k * size + j := by rw [Nat.add_mul]; omega
      rw [e, ih k j (by simpa using hk) hj]
      rfl
theorem flat_length {α : Type} (f : α → List Value) (size : Nat) (hf : ∀ x, (f x).length = size) (l : List α) : (l.flatMap f).length = l.length * size := by
  induction l with
  | nil => simp
  | cons x r ih => rw [List.flatMap_cons, List.length_append, hf, ih, List.length_cons, Nat.add_mul]; omega

/-- The kind of a column; false: there is none of that name. -/
def columnKind (cols : List Col) (n : ByteArray) : Int × Bool := match cols[(find cols n).toNat]? with
  | some c => if find cols n < 0 then (0, false) else (c.kind, true)
  | none => (0, false)
def kindOf (cols : List Col) (t : Term) : Int × Bool := if t.column.toList.isEmpty then (t.lit.kind, true) else columnKind cols t.column

def checkValuesFrom : List Val → List Col → Int
  | v :: r, c :: q => if v.kind != c.kind then 7 else checkValuesFrom r q
  | _, _ => 0
def checkValues (cols : List Col) (vals : List Val) : Int := if vals.length != cols.length then 6 else checkValuesFrom vals cols

def checkSum (cols : List Col) (target : Int) (s : SetS) : Int :=
  if !(kindOf cols s.first).2 then 4
  else if (kindOf cols s.first).1 != target then 7
  else if s.sign.toList.isEmpty then 0
  else if !(kindOf cols s.second).2 then 4
  else if (kindOf cols s.first).1 == 1 || (kindOf cols s.second).1 == 1 then 7
  else 0
def setBefore (sets : List SetS) (n : ByteArray) : Bool := sets.any fun s => s.column.toList == n.toList
def checkSet (cols : List Col) (earlier : List SetS) (s : SetS) : Int := match cols[(find cols s.column).toNat]? with
  | some c => if find cols s.column < 0 then 4 else if find cols s.column == 0 then 8 else if setBefore earlier s.column then 5 else checkSum cols c.kind s
  | none => 4
def checkSetsFrom (cols : List Col) : List SetS → List SetS → Int
  | _, [] => 0
  | e, s :: r => if checkSet cols e s != 0 then checkSet cols e s else checkSetsFrom cols (e ++ [s]) r
def checkSets (cols : List Col) (sets : List SetS) : Int := checkSetsFrom cols [] sets

def checkItemsFrom (cols : List Col) (shw : Int) : List ByteArray → Int
  | [] => 0
  | n :: r => if !(columnKind cols n).2 then 4 else if shw == 3 && (columnKind cols n).1 == 1 then 7 else checkItemsFrom cols shw r
def checkWhereFrom (cols : List Col) : List StepS → Int
  | [] => 0
  | s :: r =>
    if !isComparison s.op then checkWhereFrom cols r
    else if !(kindOf cols s.left).2 then 4
    else if !(kindOf cols s.right).2 then 4
    else if (kindOf cols s.left).1 != (kindOf cols s.right).1 then 7
    else checkWhereFrom cols r
def checkAct (cols : List Col) (st : PSt) : Int :=
  if st.act == 2 then checkValues cols st.vals else if st.act == 3 then checkSets cols st.sets else if st.act == 5 then checkItemsFrom cols st.shw st.items else 0
def check (cols : List Col) (st : PSt) : Int := if checkAct cols st != 0 then checkAct cols st else checkWhereFrom cols st.wher

theorem columnKind_no (cols : List Col) (n : ByteArray) (h : find cols n = -1) : columnKind cols n = (0, false) := by
  unfold columnKind; rw [h]; split <;> simp
theorem columnKind_yes (cols : List Col) (n : ByteArray) (k : Nat) (hk : k < cols.length) (h : find cols n = k) : columnKind cols n = (cols[k].kind, true) := by
  unfold columnKind; rw [h, Int.toNat_natCast, List.getElem?_eq_getElem hk]; simp only; rw [if_neg (by omega)]
theorem find_cases (cols : List Col) (n : ByteArray) : find cols n = -1 ∨ ∃ k : Nat, ∃ _ : k < cols.length, find cols n = k := by
  rcases find_bd cols n with h | ⟨h1, h2⟩
  · left; exact h
  · right
    obtain ⟨k, hk⟩ := Int.eq_ofNat_of_zero_le h1
    exact ⟨k, by omega, hk⟩

/-- The key of a row: the number of its first cell. -/
def keyOf (row : List Val) : Int := match row with | [] => 0 | v :: _ => v.number

def cellOf (cols : List Col) (row : List Val) (n : ByteArray) : Val := if find cols n < 0 then val0 else (row[(find cols n).toNat]?).getD val0
def valueOf (cols : List Col) (row : List Val) (t : Term) : Val := if t.column.toList.isEmpty then t.lit else cellOf cols row t.column
def holds (op : ByteArray) (side : Int) : Bool :=
  if op.toList == [61] then side == 0
  else if op.toList == [60, 62] then side != 0
  else if op.toList == [60] then decide (side < 0)
  else if op.toList == [60, 61] then decide (side ≤ 0)
  else if op.toList == [62] then decide (0 < side)
  else decide (0 ≤ side)
def compared (cols : List Col) (row : List Val) (s : StepS) : Bool := holds s.op (compare (valueOf cols row s.left) (valueOf cols row s.right))

/-- A pile of what has been told; its top is the list's end. -/
def popB (l : List Bool) : Bool := l.getLast?.getD false
def joinB (l : List Bool) (op : ByteArray) : List Bool :=
  if op.toList == [110, 111, 116] then l.dropLast ++ [!popB l]
  else if op.toList == [97, 110, 100] then l.dropLast.dropLast ++ [popB l.dropLast && popB l]
  else l.dropLast.dropLast ++ [popB l.dropLast || popB l]
def stepB (cols : List Col) (row : List Val) (l : List Bool) (s : StepS) : List Bool := if isComparison s.op then l ++ [compared cols row s] else joinB l s.op
def meets (cols : List Col) (row : List Val) (steps : List StepS) : Bool := if steps.isEmpty then true else popB (steps.foldl (stepB cols row) [])

structure Tab where
  name : ByteArray
  cols : List Col
  rows : List (List Val)

end Sq
end Go.Proofs.YtamkfbelpfpjcaaGreatDoor

namespace Go.Proofs.YtamkfbelpfpjcaaGreatDoor

/-- The rows of table k, set. -/
def Sq.setRows (db : List Sq.Tab) (k : Nat) (rows : List (List Sq.Val)) : List Sq.Tab := match db[k]? with | some t => db.set k { t with rows := rows } | none => db
def Sq.rowsAt (db : List Sq.Tab) (k : Nat) : List (List Sq.Val) := match db[k]? with | some t => t.rows | none => []
def Sq.cutRows (key : Int) (rows : List (List Sq.Val)) : List (List Sq.Val) := rows.filter fun r => Sq.keyOf r != key
def Sq.put (row : List Sq.Val) : List (List Sq.Val) → List (List Sq.Val)
  | [] => [row]
  | r :: q => if Sq.keyOf r < Sq.keyOf row then r :: Sq.put row q else row :: Sq.cutRows (Sq.keyOf row) (r :: q)
def Sq.putAll (puts : List (List Sq.Val)) (rows : List (List Sq.Val)) : List (List Sq.Val) := puts.foldl (fun rows r => Sq.put r rows) rows
def Sq.cutAll (cuts : List Int) (rows : List (List Sq.Val)) : List (List Sq.Val) := cuts.foldl (fun rows k => Sq.cutRows k rows) rows

namespace Sq
theorem setRows_same (db : List Tab) (k : Nat) : setRows db k (rowsAt db k) = db := by
  unfold setRows rowsAt
  cases h : db[k]? with
  | none => rfl
  | some t =>
    obtain ⟨hk, ht⟩ := List.getElem?_eq_some_iff.1 h
    subst ht
    exact List.set_getElem_self hk
theorem setRows_length (db : List Tab) (k : Nat) (rows : List (List Val)) : (setRows db k rows).length = db.length := by
  unfold setRows; split <;> simp
theorem setRows_lt (db : List Tab) (k : Nat) (hk : k < db.length) (rows : List (List Val)) : setRows db k rows = db.set k { db[k] with rows := rows } := by
  unfold setRows; rw [List.getElem?_eq_getElem hk]
theorem setRows_twice (db : List Tab) (k : Nat) (x y : List (List Val)) : setRows (setRows db k x) k y = setRows db k y := by
  by_cases hk : k < db.length
  · have h := setRows_lt (setRows db k x) k (by rw [setRows_length]; exact hk) y
    rw [h, setRows_lt db k hk y]
    simp [setRows_lt db k hk x]
  · have h : db[k]? = none := List.getElem?_eq_none (by omega)
    have h2 : ∀ x, setRows db k x = db := fun x => by unfold setRows; rw [h]
    rw [h2, h2]
theorem rowsAt_set (db : List Tab) (k : Nat) (hk : k < db.length) (x : List (List Val)) : rowsAt (setRows db k x) k = x := by
  rw [setRows_lt _ k hk]; unfold rowsAt; simp [hk]
theorem rowsAt_lt (db : List Tab) (k : Nat) (hk : k < db.length) : rowsAt db k = db[k].rows := by
  unfold rowsAt; rw [List.getElem?_eq_getElem hk]

/-- In the order of the keys, each once. -/
def sorted (rows : List (List Val)) : Prop := rows.Pairwise fun r q => keyOf r < keyOf q
theorem cut_mem {k : Int} {rows : List (List Val)} {x : List Val} (h : x ∈ cutRows k rows) : x ∈ rows ∧ keyOf x ≠ k := by
  unfold cutRows at h
  rw [List.mem_filter] at h
  exact ⟨h.1, by simpa using h.2⟩
theorem mem_cut {k : Int} {rows : List (List Val)} {x : List Val} (h : x ∈ rows) (hk : keyOf x ≠ k) : x ∈ cutRows k rows := by
  unfold cutRows
  rw [List.mem_filter]
  exact ⟨h, by simpa using hk⟩
theorem cut_sorted {k : Int} {rows : List (List Val)} (h : sorted rows) : sorted (cutRows k rows) := List.Pairwise.filter _ h
theorem cut_len (k : Int) (rows : List (List Val)) : (cutRows k rows).length ≤ rows.length := List.length_filter_le _ _
theorem put_mem {row : List Val} : ∀ {rows : List (List Val)} {x : List Val}, x ∈ put row rows → x = row ∨ x ∈ rows := by
  intro rows
  induction rows with
  | nil => intro x h; rw [put] at h; simpa using h
  | cons r q ih =>
    intro x h
    rw [put] at h
    split at h
    · rcases List.mem_cons.1 h with rfl | h
      · exact Or.inr (by simp)
      · rcases ih h with h | h
        · exact Or.inl h
        · exact Or.inr (by simp [h])
    · rcases List.mem_cons.1 h with rfl | h
      · exact Or.inl rfl
      · exact Or.inr (cut_mem h).1
theorem put_sorted {row : List Val} : ∀ {rows : List (List Val)}, sorted rows → sorted (put row rows) := by
  intro rows
  induction rows with
  | nil => intro _; rw [put]; exact List.pairwise_singleton _ _
  | cons r q ih =>
    intro h
    rw [put]
    have h' := List.pairwise_cons.1 h
    split
    · rename_i hlt
      refine List.pairwise_cons.2 ⟨?_, ih h'.2⟩
      intro x hx
      rcases put_mem hx with rfl | hx
      · exact hlt
      · exact h'.1 x hx
    · rename_i hlt
      refine List.pairwise_cons.2 ⟨?_, cut_sorted h⟩
      intro x hx
      obtain ⟨h1, h2⟩ := cut_mem hx
      rcases List.mem_cons.1 h1 with rfl | h1
      · omega
      · have := h'.1 x h1; omega
def hasK (rows : List (List Val)) (k : Int) : Prop := ∃ r ∈ rows, keyOf r = k
theorem put_hasK {row : List Val} {k : Int} : ∀ {rows : List (List Val)}, hasK rows k → hasK (put row rows) k := by
  intro rows
  induction rows with
  | nil => rintro ⟨r, hr, _⟩; simp at hr
  | cons r q ih =>
    rintro ⟨x, hx, hk⟩
    rw [put]
    split
    · rcases List.mem_cons.1 hx with rfl | hx
      · exact ⟨x, by simp, hk⟩
      · obtain ⟨y, hy, hk⟩ := ih ⟨x, hx, hk⟩
        exact ⟨y, by simp [hy], hk⟩
    · by_cases he : keyOf row = k
      · exact ⟨row, by simp, he⟩
      · exact ⟨x, List.mem_cons.2 (Or.inr (mem_cut hx (by omega))), hk⟩
theorem put_len (row : List Val) : ∀ rows : List (List Val), (put row rows).length ≤ rows.length + 1 := by
  intro rows
  induction rows with
  | nil => simp [put]
  | cons r q ih =>
    rw [put]
    split
    · simp; omega
    · have := cut_len (keyOf row) (r :: q)
      simp only [List.length_cons] at this ⊢
      omega
theorem put_len_has (row : List Val) : ∀ rows : List (List Val), hasK rows (keyOf row) → (put row rows).length ≤ rows.length := by
  intro rows
  induction rows with
  | nil => rintro ⟨r, hr, _⟩; simp at hr
  | cons r q ih =>
    rintro ⟨x, hx, hk⟩
    rw [put]
    split
    · rename_i hlt
      rcases List.mem_cons.1 hx with rfl | hx
      · omega
      · have := ih ⟨x, hx, hk⟩
        simp; omega
    · have h1 : (cutRows (keyOf row) (r :: q)).length < (r :: q).length := by
        unfold cutRows
        rw [← List.countP_eq_length_filter]
        rcases Nat.lt_or_ge (List.countP (fun r => keyOf r != keyOf row) (r :: q)) (r :: q).length with h | h
        · exact h
        · have h2 : List.countP (fun r => keyOf r != keyOf row) (r :: q) = (r :: q).length := Nat.le_antisymm (List.countP_le_length) h
          rw [List.countP_eq_length] at h2
          have := h2 x hx
          simp [hk] at this
      simp only [List.length_cons] at h1 ⊢
      omega

theorem putAll_sorted : ∀ (puts : List (List Val)) {rows : List (List Val)}, sorted rows → sorted (putAll puts rows)
  | [], _, h => h
  | p :: r, _, h => putAll_sorted r (put_sorted (row := p) h)
theorem putAll_mem : ∀ (puts : List (List Val)) {rows : List (List Val)} {x : List Val}, x ∈ putAll puts rows → x ∈ puts ∨ x ∈ rows
  | [], _, _, h => Or.inr h
  | p :: r, rows, x, h => by
    rcases putAll_mem r (rows := put p rows) h with h | h
    · exact Or.inl (by simp [h])
    · rcases put_mem h with rfl | h
      · exact Or.inl (by simp)
      · exact Or.inr h
theorem putAll_len : ∀ (puts : List (List Val)) {rows : List (List Val)}, (∀ p ∈ puts, hasK rows (keyOf p)) → (putAll puts rows).length ≤ rows.length
  | [], _, _ => Nat.le_refl _
  | p :: r, rows, h => by
    have h1 := put_len_has p rows (h p (by simp))
    have h2 := putAll_len r (rows := put p rows) (fun x hx => put_hasK (h x (by simp [hx])))
    exact Nat.le_trans h2 h1
theorem cutAll_sorted : ∀ (cuts : List Int) {rows : List (List Val)}, sorted rows → sorted (cutAll cuts rows)
  | [], _, h => h
  | p :: r, _, h => cutAll_sorted r (cut_sorted (k := p) h)
theorem cutAll_mem : ∀ (cuts : List Int) {rows : List (List Val)} {x : List Val}, x ∈ cutAll cuts rows → x ∈ rows
  | [], _, _, h => h
  | p :: r, rows, x, h => (cut_mem (cutAll_mem r (rows := cutRows p rows) h)).1
theorem cutAll_len : ∀ (cuts : List Int) {rows : List (List Val)}, (cutAll cuts rows).length ≤ rows.length
  | [], _ => Nat.le_refl _
  | p :: r, rows => Nat.le_trans (cutAll_len r (rows := cutRows p rows)) (cut_len p rows)
end Sq
end Go.Proofs.YtamkfbelpfpjcaaGreatDoor
