import Derived.Test.YteibbdilhpdknaaGreatDoorBp
set_option linter.unusedVariables false
set_option linter.unusedSimpArgs false

namespace Go.Proofs.YteibbdilhpdknaaGreatDoor
namespace Sq

/-- The number that digits tell; none: something is no digit. -/
def digs : List UInt8 → Int → Option Int
  | [], n => some n
  | c :: r, n => if c.toNat < 48 ∨ 57 < c.toNat then none else digs r (10 * n + c.toNat - 48)
theorem digs_append : ∀ (l r : List UInt8) (n : Int), digs (l ++ r) n = (digs l n).bind (digs r)
  | [], r, n => rfl
  | c :: l, r, n => by
    rw [List.cons_append, digs, digs]
    split
    · rfl
    · exact digs_append l r _
theorem digs_dec (u : Nat) : digs (Lib.decDigits u) 0 = some (u : Int) := by
  induction u using Nat.strongRecOn with
  | ind u ih =>
    have e : ∀ d : Nat, d < 10 → (UInt8.ofNat (48 + d)).toNat = 48 + d := fun d hd => by rw [UInt8.toNat_ofNat']; omega
    rw [Lib.decDigits]
    split
    · rename_i h
      rw [digs, e u h, if_neg (by omega), digs]
      congr 1; omega
    · rename_i h
      rw [digs_append, ih (u / 10) (by omega)]
      show digs [_] _ = _
      rw [digs, e (u % 10) (by omega), if_neg (by omega), digs]
      congr 1; omega
def isNum (c : UInt8) : Prop := c.toNat = 45 ∨ (48 ≤ c.toNat ∧ c.toNat ≤ 57)
theorem dec_mem (u : Nat) : ∀ c ∈ Lib.decDigits u, 48 ≤ c.toNat ∧ c.toNat ≤ 57 := by
  induction u using Nat.strongRecOn with
  | ind u ih =>
    have e : ∀ d : Nat, d < 10 → (UInt8.ofNat (48 + d)).toNat = 48 + d := fun d hd => by rw [UInt8.toNat_ofNat']; omega
    rw [Lib.decDigits]
    split
    · intro c hc; rw [List.mem_singleton] at hc; subst hc; rw [e u (by assumption)]; omega
    · intro c hc
      rcases List.mem_append.1 hc with hc | hc
      · exact ih (u / 10) (by omega) c hc
      · rw [List.mem_singleton] at hc; subst hc; rw [e (u % 10) (by omega)]; omega
theorem dec_pos (u : Nat) : 0 < (Lib.decDigits u).length := by rw [Lib.decDigits_length]; exact Lib.nDigits_pos u
theorem itoa_mem (n : Int) : ∀ c ∈ Lib.itoa n, isNum c := by
  unfold Lib.itoa
  split
  · intro c hc
    rcases List.mem_cons.1 hc with rfl | hc
    · exact Or.inl rfl
    · exact Or.inr (dec_mem _ c hc)
  · intro c hc; exact Or.inr (dec_mem _ c hc)
theorem itoa_pos (n : Int) : 0 < (Lib.itoa n).length := by
  unfold Lib.itoa
  split
  · simp
  · exact dec_pos _

/-- The number of a text 'n;'. -/
def number (s : ByteArray) : Int × Bool :=
  if s.size < (if byteAt s 0 == 45 then 1 else 0) + 2 ∨ 16 < s.size ∨ byteAt s (s.size - 1) ≠ 59 then (0, false)
  else match digs ((s.data.toList.drop (if byteAt s 0 == 45 then 1 else 0)).take (s.size - 1 - (if byteAt s 0 == 45 then 1 else 0))) 0 with
    | none => (0, false)
    | some n => (if byteAt s 0 == 45 then -n else n, true)
theorem size_list (s : ByteArray) : s.size = s.data.toList.length := by simp
theorem nDigits_mono_small (u : Nat) (h : u < 10 ^ 14) : Lib.nDigits u ≤ 14 := by
  rcases Nat.lt_or_ge 14 (Lib.nDigits u) with h1 | h1
  · exfalso
    have h2 : ∀ k u, Lib.nDigits u = k + 1 → u ≥ 10 ^ k ∨ k = 0 := by
      intro k
      induction k with
      | zero => intro u _; right; rfl
      | succ k ih =>
        intro u hu
        left
        by_cases hs : u < 10
        · rw [Lib.nDigits_small hs] at hu; omega
        · rw [Lib.nDigits_big hs] at hu
          rcases ih (u / 10) (by omega) with h3 | h3
          · rw [Nat.pow_succ]; omega
          · subst h3; simp; omega
    obtain ⟨k, hk⟩ : ∃ k, Lib.nDigits u = k + 1 := ⟨Lib.nDigits u - 1, by omega⟩
    rcases h2 k u hk with h3 | h3
    · have : 10 ^ 14 ≤ 10 ^ k := Nat.pow_le_pow_right (by decide) (by omega)
      omega
    · omega
  · exact h1
theorem number_itoa (n : Int) (h0 : -100000000000000 < n) (h1 : n < 100000000000000) (s : ByteArray) (hs : s.data.toList = Lib.itoa n ++ [59]) : number s = (n, true) := by
  have hsz := size_list s
  unfold Lib.itoa at hs
  have hlast : byteAt s (s.size - 1) = 59 := by
    unfold byteAt
    rw [hsz, hs]
    simp
  by_cases hn : n < 0
  · rw [if_pos hn] at hs
    have hb0 : byteAt s 0 = 45 := by unfold byteAt; rw [hs]; rfl
    have hl : s.size = (Lib.decDigits n.natAbs).length + 2 := by rw [hsz, hs]; simp
    have hp := dec_pos n.natAbs
    have hu := nDigits_mono_small n.natAbs (by omega)
    rw [← Lib.decDigits_length] at hu
    unfold number
    rw [hb0, if_neg (by simp; omega)]
    have e : (s.data.toList.drop (if (45 : Int) == 45 then 1 else 0)).take (s.size - 1 - (if (45 : Int) == 45 then 1 else 0)) = Lib.decDigits n.natAbs := by
      rw [hs, hl]
      show (((45 : UInt8) :: Lib.decDigits n.natAbs ++ [59]).drop 1).take ((Lib.decDigits n.natAbs).length + 2 - 1 - 1) = _
      simp
    rw [e, digs_dec]
    show (-((n.natAbs : Nat) : Int), true) = (n, true)
    congr 1; omega
  · rw [if_neg hn] at hs
    have hp := dec_pos n.toNat
    have hl : s.size = (Lib.decDigits n.toNat).length + 1 := by rw [hsz, hs]; simp
    have hb0 : byteAt s 0 ≠ 45 := by
      unfold byteAt
      rw [hs]
      cases hd : Lib.decDigits n.toNat with
      | nil => rw [hd] at hp; simp at hp
      | cons c r =>
        have := dec_mem n.toNat c (by rw [hd]; simp)
        show ((c.toNat : Nat) : Int) ≠ 45
        omega
    have hb : (byteAt s 0 == 45) = false := by simpa using hb0
    have hu := nDigits_mono_small n.toNat (by omega)
    rw [← Lib.decDigits_length] at hu
    unfold number
    rw [hb, if_neg (by simp; omega)]
    have e : (s.data.toList.drop (if false = true then 1 else 0)).take (s.size - 1 - (if false = true then 1 else 0)) = Lib.decDigits n.toNat := by
      rw [hs, hl]
      simp
    rw [e, digs_dec]
    show (((n.toNat : Nat) : Int), true) = (n, true)
    congr 1; omega

/-- Up to a comma or a semicolon. -/
def upto (l : List UInt8) : List UInt8 := l.takeWhile fun c => c != 44 && c != 59
def key (s : ByteArray) : Int × Bool := number (⟨(upto s.data.toList).toArray⟩ ++ bSemi)
/-- Within quotes, or not, behind a byte. -/
def turn (q : Bool) (c : UInt8) : Bool := if c == 39 then !q else q
/-- The text behind its first row. -/
def behind : Bool → List UInt8 → List UInt8
  | _, [] => []
  | q, c :: r => if c == 59 && !(turn q c) then r else behind (turn q c) r
/-- How many rows. -/
def lines : Bool → List UInt8 → Nat
  | _, [] => 0
  | q, c :: r => (if c == 59 && !(turn q c) then 1 else 0) + lines (turn q c) r
/-- A text that ends outside of quotes, with no semicolon outside of them. -/
def scan : Bool → List UInt8 → Option Bool
  | q, [] => some q
  | q, c :: r => if c == 59 && !(turn q c) then none else scan (turn q c) r
def shut (l : List UInt8) : Prop := scan false l = some false
theorem scan_append : ∀ (l r : List UInt8) (q : Bool), scan q (l ++ r) = (scan q l).bind fun p => scan p r
  | [], r, q => rfl
  | c :: l, r, q => by
    rw [List.cons_append, scan, scan]
    split
    · rfl
    · exact scan_append l r _
theorem shut.append {l r : List UInt8} (h : shut l) (k : shut r) : shut (l ++ r) := by
  unfold shut at h k ⊢
  rw [scan_append, h]; exact k
theorem behind_shut : ∀ (l r : List UInt8) (q : Bool), scan q l = some false → behind q (l ++ 59 :: r) = r := by
  intro l
  induction l with
  | nil => intro r q h; simp [scan] at h; subst h; rfl
  | cons c l ih =>
    intro r q h
    rw [scan] at h
    rw [List.cons_append, behind]
    split
    · rename_i hc; rw [if_pos hc] at h; simp at h
    · rename_i hc; rw [if_neg hc] at h; exact ih r _ h
theorem lines_shut : ∀ (l r : List UInt8) (q : Bool), scan q l = some false → lines q (l ++ 59 :: r) = lines false r + 1 := by
  intro l
  induction l with
  | nil => intro r q h; simp [scan] at h; subst h; show 1 + lines false r = _; omega
  | cons c l ih =>
    intro r q h
    rw [scan] at h
    rw [List.cons_append, lines]
    split
    · rename_i hc; rw [if_pos hc] at h; simp at h
    · rename_i hc; rw [if_neg hc] at h; rw [ih r _ h]; omega
theorem scan_plain : ∀ (l : List UInt8) (q : Bool), (39 : UInt8) ∉ l → (q = false → (59 : UInt8) ∉ l) → scan q l = some q := by
  intro l
  induction l with
  | nil => intro q _ _; rfl
  | cons c l ih =>
    intro q h1 h2
    have hc : (c == 39) = false := by
      have : c ≠ 39 := fun e => h1 (by simp [e])
      simpa using this
    have ht : turn q c = q := by unfold turn; rw [hc]; rfl
    rw [scan, ht]
    rw [if_neg]
    · exact ih q (fun h => h1 (by simp [h])) (fun hq h => h2 hq (by simp [h]))
    · intro he
      simp at he
      exact h2 he.2 (by simp [he.1])
theorem shut_itoa (n : Int) : shut (Lib.itoa n) := by
  refine scan_plain _ _ (fun h => ?_) (fun _ h => ?_)
  · have := itoa_mem n _ h; unfold isNum at this; simp at this
  · have := itoa_mem n _ h; unfold isNum at this; simp at this
theorem append_list (a b : ByteArray) : (a ++ b).data.toList = a.data.toList ++ b.data.toList := by simp
theorem shut_written (v : Val) (h : goodVal v) : shut (written v).data.toList := by
  unfold written
  rcases h with ⟨hk, _⟩ | ⟨hk, _, _, h⟩
  · rw [hk, if_neg (by decide)]
    exact shut_itoa _
  · rw [hk, if_pos (by decide), append_list, append_list]
    unfold shut
    rw [scan_append, scan_append]
    show ((some true).bind fun p => scan p v.text.data.toList).bind _ = _
    show (scan true v.text.data.toList).bind _ = _
    rw [scan_plain _ true h (by simp)]
    rfl
theorem shut_flat : ∀ l : List (List UInt8), (∀ x ∈ l, shut x) → shut (l.flatMap fun y => 44 :: y)
  | [], _ => rfl
  | x :: r, h => by
    rw [List.flatMap_cons]
    have h1 : shut (44 :: x) := h x (by simp)
    exact h1.append (shut_flat r (fun y hy => h y (by simp [hy])))
theorem shut_joined (l : List (List UInt8)) (h : ∀ x ∈ l, shut x) : shut (joined l) := by
  cases l with
  | nil => rfl
  | cons x r => exact (h x (by simp)).append (shut_flat r (fun y hy => h y (by simp [hy])))
theorem shut_row (cols : List Col) (row : List Val) (items : List ByteArray) (h : ∀ v ∈ row, goodVal v) : shut (rowText cols row items) := by
  refine shut_joined _ ?_
  intro x hx
  obtain ⟨n, _, rfl⟩ := List.mem_map.1 hx
  exact shut_written _ (cellOf_good cols row n h)
theorem listed_cons (cols : List Col) (items : List ByteArray) (r : List Val) (q : List (List Val)) : listed cols items (r :: q) = rowText cols r items ++ 59 :: listed cols items q := by
  unfold listed; rw [List.flatMap_cons]; simp
theorem lines_listed (cols : List Col) (items : List ByteArray) : ∀ rows : List (List Val), (∀ r ∈ rows, ∀ v ∈ r, goodVal v) → lines false (listed cols items rows) = rows.length
  | [], _ => rfl
  | r :: q, h => by
    rw [listed_cons, lines_shut _ _ _ (shut_row cols r items (h r (by simp))), lines_listed cols items q (fun x hx => h x (by simp [hx]))]
    rfl
theorem behind_listed (cols : List Col) (items : List ByteArray) (r : List Val) (q : List (List Val)) (h : ∀ v ∈ r, goodVal v) : behind false (listed cols items (r :: q)) = listed cols items q := by
  rw [listed_cons]; exact behind_shut _ _ _ (shut_row cols r items h)

/-- All of a row: its key comes first. -/
theorem row_first (c : Col) (cq : List Col) (r : List Val) (h : goodRow r) : ∃ l, rowText (c :: cq) r ((c :: cq).map Col.name) = Lib.itoa (keyOf r) ++ l ∧ (l = [] ∨ ∃ m, l = 44 :: m) := by
  obtain ⟨v, q, rfl, hk⟩ := h.head
  unfold rowText
  rw [List.map_cons, List.map_cons]
  have e : cellOf (c :: cq) (v :: q) c.name = v := by
    unfold cellOf find findFrom
    simp
  rw [e]
  have e2 : (written v).data.toList = Lib.itoa v.number := by unfold written; rw [hk, if_neg (by decide)]; rfl
  rw [e2]
  refine ⟨_, rfl, ?_⟩
  cases cq with
  | nil => left; rfl
  | cons d r => right; exact ⟨_, rfl⟩
theorem takeWhile_stop {α : Type} (p : α → Bool) : ∀ (l : List α) (c : α) (r : List α), (∀ x ∈ l, p x = true) → p c = false → (l ++ c :: r).takeWhile p = l
  | [], c, r, _, hc => by simp [hc]
  | x :: l, c, r, h, hc => by
    rw [List.cons_append, List.takeWhile_cons, if_pos (h x (by simp)), takeWhile_stop p l c r (fun y hy => h y (by simp [hy])) hc]
theorem upto_row (c : Col) (cq : List Col) (r : List Val) (h : goodRow r) (l : List UInt8) : upto (rowText (c :: cq) r ((c :: cq).map Col.name) ++ 59 :: l) = Lib.itoa (keyOf r) := by
  have hn : ∀ x ∈ Lib.itoa (keyOf r), (x != 44 && x != 59) = true := by
    intro x hx
    have := itoa_mem _ x hx
    unfold isNum at this
    have h1 : x ≠ 44 := fun e => by subst e; simp at this
    have h2 : x ≠ 59 := fun e => by subst e; simp at this
    simp [h1, h2]
  obtain ⟨m, hm, hm2⟩ := row_first c cq r h
  rw [hm]
  rcases hm2 with rfl | ⟨m, rfl⟩
  · rw [List.append_nil]; exact takeWhile_stop _ _ _ _ hn (by decide)
  · rw [List.append_assoc]; exact takeWhile_stop _ _ _ _ hn (by decide)
theorem keyOf_bd (r : List Val) (h : goodRow r) : -2147483648 ≤ keyOf r ∧ keyOf r ≤ 2147483647 := by
  obtain ⟨v, q, rfl, hk⟩ := h.head
  rcases h.vals v (by simp) with ⟨_, h1, h2, _⟩ | ⟨h1, _⟩
  · exact ⟨h1, h2⟩
  · rw [hk] at h1; simp at h1
theorem key_listed (cols : List Col) (hc : ∃ c q, cols = c :: q ∧ c.kind = 0) (r : List Val) (q : List (List Val)) (h : goodRow r) (s : ByteArray) (hs : s.data.toList = listed cols (cols.map Col.name) (r :: q)) : key s = (keyOf r, true) := by
  obtain ⟨c, cq, rfl, _⟩ := hc
  have hb := keyOf_bd r h
  refine number_itoa _ (by omega) (by omega) _ ?_
  rw [append_list, hs, listed_cons, upto_row c cq r h]
  rfl
/-- A listing does not begin as an error does. -/
theorem listed_bang (cols : List Col) (hc : ∃ c q, cols = c :: q ∧ c.kind = 0) (rows : List (List Val)) (h : ∀ r ∈ rows, goodRow r) : (listed cols (cols.map Col.name) rows).head? ≠ some 33 := by
  obtain ⟨c, cq, rfl, _⟩ := hc
  cases rows with
  | nil => simp [listed]
  | cons r q =>
    rw [listed_cons]
    obtain ⟨m, hm, _⟩ := row_first c cq r (h r (by simp))
    rw [hm]
    have hp := itoa_pos (keyOf r)
    cases hi : Lib.itoa (keyOf r) with
    | nil => rw [hi] at hp; simp at hp
    | cons x y =>
      have := itoa_mem (keyOf r) x (by rw [hi]; simp)
      simp
      intro e; subst e; unfold isNum at this; simp at this

end Sq
end Go.Proofs.YteibbdilhpdknaaGreatDoor

namespace Go.Proofs.YteibbdilhpdknaaGreatDoor
namespace Sq

def bT : ByteArray := ⟨#[116]⟩
def selStar : ByteArray := ⟨#[115, 101, 108, 101, 99, 116, 32, 42, 32, 102, 114, 111, 109, 32, 116]⟩
def selCount : ByteArray := ⟨#[115, 101, 108, 101, 99, 116, 32, 99, 111, 117, 110, 116, 32, 102, 114, 111, 109, 32, 116]⟩
theorem nil_of_len {α : Type} {l : List α} (h : l.length = 0) : l = [] := List.eq_nil_of_length_eq_zero h
theorem meeting_nil (t : Tab) : meeting t [] = t.rows := by
  unfold meeting
  exact List.filter_eq_self.2 (fun _ _ => rfl)
/-- A select of a table, with no condition and no list of columns. -/
theorem decide_whole (db : List Tab) (sql : ByteArray) (h0 : (parse sql).1 = 0) (h1 : (parse sql).2.act = 5) (h2 : (parse sql).2.items = []) (h3 : (parse sql).2.wher = []) :
    Sq.decide db sql = match db[(findTab db (parse sql).2.table).toNat]? with
      | some t => if findTab db (parse sql).2.table < 0 then refused 4 else ⟨showRows t (parse sql).2 t.rows, false, nobytes, [], 0, [], []⟩
      | none => refused 4 := by
  unfold Sq.decide
  rw [h0, if_neg (by decide)]
  unfold decideSt
  rw [h1, if_neg (by decide)]
  cases hx : db[(findTab db (parse sql).2.table).toNat]? with
  | none => rfl
  | some t =>
    simp only
    split
    · rfl
    · have hc : check t.cols (parse sql).2 = 0 := by
        unfold check checkAct
        rw [h1, h2, h3]
        simp [checkItemsFrom, checkWhereFrom]
      unfold decideTab
      rw [hc, h1, if_neg (by decide), if_neg (by decide), if_neg (by decide), if_neg (by decide)]
      unfold Sq.show
      rw [h3, meeting_nil]
theorem star_said : (parse selStar).1 = 0 ∧ (parse selStar).2.act = 5 ∧ (parse selStar).2.items.length = 0 ∧ (parse selStar).2.wher.length = 0 ∧ (parse selStar).2.table = bT ∧ (parse selStar).2.shw = 1 := by decide +kernel
theorem count_said : (parse selCount).1 = 0 ∧ (parse selCount).2.act = 5 ∧ (parse selCount).2.items.length = 0 ∧ (parse selCount).2.wher.length = 0 ∧ (parse selCount).2.table = bT ∧ (parse selCount).2.shw = 2 := by decide +kernel
theorem bang4 : (refused 4).reply.data.toList = [33, 52] := by decide +kernel
theorem counted_list (n : Int) : (counted n).data.toList = Lib.itoa n ++ [59] := by unfold counted; rw [append_list]; rfl
/-- All rows of table t and their number; or there is no such table. -/
theorem star_count {db : List Tab} (h : good db) :
    ((Sq.decide db selStar).reply.data.toList = [33, 52] ∧ (Sq.decide db selCount).reply.data.toList = [33, 52]) ∨
    ∃ t, goodTab t ∧ t.rows.length ≤ 60 ∧ (Sq.decide db selStar).reply.data.toList = listed t.cols (t.cols.map Col.name) t.rows ∧ (Sq.decide db selCount).reply.data.toList = Lib.itoa t.rows.length ++ [59] := by
  obtain ⟨a0, a1, a2, a3, a4, a5⟩ := star_said
  obtain ⟨b0, b1, b2, b3, b4, b5⟩ := count_said
  rw [decide_whole db selStar a0 a1 (nil_of_len a2) (nil_of_len a3), decide_whole db selCount b0 b1 (nil_of_len b2) (nil_of_len b3), a4, b4]
  cases hx : db[(findTab db bT).toNat]? with
  | none => left; exact ⟨bang4, bang4⟩
  | some t =>
    simp only
    split
    · left; exact ⟨bang4, bang4⟩
    · right
      have ht : t ∈ db := List.mem_of_getElem? hx
      have h1 := rows_le_sum db t ht
      have h2 := h.size
      unfold dbSize at h2
      refine ⟨t, h.each t ht, by omega, ?_, ?_⟩
      · show (showRows t (parse selStar).2 t.rows).data.toList = _
        unfold showRows
        rw [a5]
        simp [bytesOf]
      · show (showRows t (parse selCount).2 t.rows).data.toList = _
        unfold showRows
        rw [b5]
        simp [counted_list]

end Sq
end Go.Proofs.YteibbdilhpdknaaGreatDoor
