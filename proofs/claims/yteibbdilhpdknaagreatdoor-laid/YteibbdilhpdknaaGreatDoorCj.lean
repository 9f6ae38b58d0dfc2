import Derived.Test.YteibbdilhpdknaaGreatDoorCi
set_option linter.unusedVariables false
set_option linter.unusedSimpArgs false

namespace Go.Proofs.YteibbdilhpdknaaGreatDoor
namespace Sq

def pI : List UInt8 := [105, 110, 115, 101, 114, 116, 32, 105, 110, 116, 111, 32, 122, 122, 32, 118, 97, 108, 117, 101, 115, 32]
def wI : List Word := [⟨1, bInsert⟩, ⟨1, bInto⟩, ⟨2, bZZ⟩, ⟨1, bValues⟩]
def wComma : Word := ⟨1, bComma⟩
def dg (k : Nat) : ByteArray := ⟨(Lib.decDigits k).toArray⟩
def wNum (k : Nat) : Word := ⟨3, dg k⟩
theorem split_I : splitP 60 pI = some wI := words_of (by decide +kernel)
theorem num_word : ∀ k : Fin 100, wkey (wordL (Lib.decDigits k.val)) = (3, Lib.decDigits k.val) := by decide +kernel
theorem num_dg : ∀ k : Fin 100, num (dg k.val) = (k.val : Int) := by decide +kernel
theorem dec_list (k : Nat) : ∀ c ∈ Lib.decDigits k, isDigit c.toNat = true := fun c hc => by
  have := dec_mem k c hc
  unfold isDigit rng
  simp
  omega
theorem cntL_all (p : Int → Bool) (R : List UInt8) (hR : R = [] ∨ ∃ c r, R = c :: r ∧ p c.toNat = false) : ∀ l : List UInt8, (∀ c ∈ l, p c.toNat = true) → cntL p (l ++ R) = l.length := by
  intro l hl
  rw [cntL_stop p R hR l]
  unfold cntL
  have : (l.takeWhile fun c => p c.toNat) = l := by
    induction l with
    | nil => rfl
    | cons c r ih => rw [List.takeWhile_cons, if_pos (hl c (by simp)), ih (fun x hx => hl x (by simp [hx]))]
  rw [this]
theorem splits_num (k : Nat) (hk : k < 100) (c : UInt8) (hc : isDigit c.toNat = false) (R : List UInt8) (ws : List Word) (h : Splits (c :: R) ws) : Splits (Lib.decDigits k ++ c :: R) (wNum k :: ws) := by
  have hp := dec_pos k
  have hall := dec_list k
  have hb : isDigit (byteL (Lib.decDigits k ++ c :: R) 0) = true := by
    rw [byteL_app _ _ 0 hp]
    unfold byteL
    rw [List.getElem?_eq_getElem hp]
    exact hall _ (List.getElem_mem hp)
  have hb2 : isLetter (byteL (Lib.decDigits k ++ c :: R) 0) = false ∧ isGap (byteL (Lib.decDigits k ++ c :: R) 0) = false := by
    generalize byteL (Lib.decDigits k ++ c :: R) 0 = x at hb
    unfold isDigit rng at hb
    unfold isLetter rng isGap
    simp at hb ⊢
    omega
  have ht : tokL (Lib.decDigits k ++ c :: R) = (Lib.decDigits k).length := by
    unfold tokL
    rw [hb2.1, hb]
    simp only [Bool.false_eq_true, if_false, if_true]
    exact cntL_all _ _ (Or.inr ⟨c, R, rfl, hc⟩) _ hall
  have e1 : (Lib.decDigits k ++ c :: R).take (tokL (Lib.decDigits k ++ c :: R)) = Lib.decDigits k := by rw [ht, List.take_left]
  have e2 : (Lib.decDigits k ++ c :: R).drop (tokL (Lib.decDigits k ++ c :: R)) = c :: R := by rw [ht, List.drop_left]
  have e3 : wordL (Lib.decDigits k) = wNum k := wkey_inj (num_word ⟨k, hk⟩)
  have := Splits.word (l := Lib.decDigits k ++ c :: R) (ws := ws) hb2.2 (by omega) (by rw [ht]; simp) (by rw [e1, e3]; show (3 : Int) ≠ 0; decide) (by rw [e2]; exact h)
  rw [e1, e3] at this
  exact this
theorem splits_comma (R : List UInt8) (ws : List Word) (h : Splits R ws) : Splits (44 :: R) (wComma :: ws) := by
  have ht : tokL (44 :: R) = 1 := by unfold tokL isPair; rfl
  have hw : wordL ((44 :: R).take (tokL (44 :: R))) = wComma := by rw [ht]; rfl
  have := Splits.word (l := 44 :: R) (ws := ws) rfl (by omega) (by rw [ht]; simp) (by rw [hw]; show (1 : Int) ≠ 0; decide) (by rw [ht]; exact h)
  rw [hw] at this
  exact this
theorem lins_splits (k x : Nat) (hk : k < 100) (hx : x < 100) : Splits (lins k x).data.toList (wI ++ wOpen :: wNum k :: wComma :: wNum x :: [wClose]) := by
  have e : (lins k x).data.toList = pI ++ (40 :: (Lib.decDigits k ++ 44 :: (32 :: (Lib.decDigits x ++ 41 :: [])))) := by
    show pIns ++ (Lib.decDigits k ++ ([44, 32] ++ (Lib.decDigits x ++ [41]))) = _
    show (pI ++ [40]) ++ _ = _
    simp
  rw [e]
  refine (splitP_app _ 60 pI wI split_I _).2 ⟨_, rfl, ?_⟩
  refine (splits_sign 40 (Or.inl rfl) _ _).2 ⟨_, rfl, ?_⟩
  refine splits_num k hk 44 (by decide) _ _ ?_
  refine splits_comma _ _ (Splits.gap (by decide) ?_)
  exact splits_num x hx 41 (by decide) _ _ ((splits_sign 41 (Or.inr rfl) [] _).2 ⟨[], rfl, Splits.nil⟩)

def wIO : List Word := wI ++ [wOpen]
def sI : PSt := wantS wIO (wantS wIO (tableS wIO (wantS wIO (setAct (takeS wIO st0) 2) bInto)) bValues) bOpen
theorem sI_said : sI.bad = false ∧ sI.pos = 5 ∧ sI.act = 2 ∧ sI.table = bZZ ∧ sI.vals.length = 0 ∧ sI.wher.length = 0 := by decide +kernel
theorem valueS_num (A : List Word) (k : Nat) (X : List Word) (st : PSt) (hb : st.bad = false) (hp : st.pos = A.length) : valueS (A ++ wNum k :: X) st = addVal (step1 st) (vnum (num (dg k))) := by
  have hn : nextW (A ++ wNum k :: X) st = wNum k := by unfold nextW; rw [hb, hp]; simp
  have ha : acceptB (A ++ wNum k :: X) st bMinus = false := by rw [acceptB_at A _ X st _ hb hp]; rfl
  have hs : acceptS (A ++ wNum k :: X) st bMinus = st := by unfold acceptS; rw [ha]; rfl
  have ht : takeS (A ++ wNum k :: X) st = step1 st := by unfold takeS; rw [hn]; rfl
  unfold valueS litS litR
  rw [hs, hn, ht, ha]
  rfl
theorem lins_said (k x : Nat) (hk : k < 100) (hx : x < 100) : (parse (lins k x)).1 = 0 ∧ (parse (lins k x)).2.act = 2 ∧ (parse (lins k x)).2.table = bZZ ∧ (parse (lins k x)).2.vals = [vnum k, vnum x] ∧ (parse (lins k x)).2.wher = [] := by
  obtain ⟨q1, q2, q3, q4, q5, q6⟩ := sI_said
  obtain ⟨W, hW⟩ : ∃ W, W = wI ++ wOpen :: wNum k :: wComma :: wNum x :: [wClose] := ⟨_, rfl⟩
  have hW1 : W = wIO ++ wNum k :: (wComma :: wNum x :: [wClose]) := by rw [hW]; simp [wIO]
  have hW2 : W = (wIO ++ [wNum k]) ++ wComma :: (wNum x :: [wClose]) := by rw [hW]; simp [wIO]
  have hW3 : W = (wIO ++ [wNum k, wComma]) ++ wNum x :: [wClose] := by rw [hW]; simp [wIO]
  have hW4 : W = (wIO ++ [wNum k, wComma, wNum x]) ++ wClose :: [] := by rw [hW]; simp [wIO]
  have hlen : W.length = 9 := by rw [hW]; rfl
  have hio : wIO.length = 5 := rfl
  have p0 : st0.pos < wIO.length := by decide
  have p1 : (setAct (takeS wIO st0) 2).pos < wIO.length := by decide +kernel
  have p2 : (wantS wIO (setAct (takeS wIO st0) 2) bInto).pos < wIO.length := by decide +kernel
  have p3 : (tableS wIO (wantS wIO (setAct (takeS wIO st0) 2) bInto)).pos < wIO.length := by decide +kernel
  have p4 : (wantS wIO (tableS wIO (wantS wIO (setAct (takeS wIO st0) 2) bInto)) bValues).pos < wIO.length := by decide +kernel
  have m1 : ((markR wIO st0).toList == bCreate.toList) = false := by decide +kernel
  have m2 : ((markR wIO st0).toList == bInsert.toList) = true := by decide +kernel
  have hst : statementS W st0 = wantS W (commas W (valueS W) (W.length + 1) (valueS W sI)) bClose := by
    rw [hW1]
    unfold statementS
    rw [markR_pre _ _ _ p0, takeS_pre _ _ _ p0, m1, m2]
    simp only [Bool.false_eq_true, if_false, if_true]
    unfold insertS
    simp only
    rw [wantS_pre _ _ _ _ p1, tableS_pre _ _ _ p2, wantS_pre _ _ _ _ p3, wantS_pre _ _ _ _ p4]
    rfl
  have v1 : valueS W sI = addVal (step1 sI) (vnum (num (dg k))) := by rw [hW1]; exact valueS_num wIO k _ sI q1 (by rw [q2, hio])
  obtain ⟨s1, hs1⟩ : ∃ s, s = addVal (step1 sI) (vnum (num (dg k))) := ⟨_, rfl⟩
  have b1 : s1.bad = false := by rw [hs1]; exact q1
  have r1 : s1.pos = 6 := by rw [hs1]; show sI.pos + 1 = 6; omega
  have c1 : acceptB W s1 bComma = true := by rw [hW2, acceptB_at _ _ _ s1 _ b1 (by rw [r1]; simp [hio])]; decide +kernel
  have v2 : valueS W (step1 s1) = addVal (step1 (step1 s1)) (vnum (num (dg x))) := by rw [hW3]; exact valueS_num _ x _ (step1 s1) b1 (by show s1.pos + 1 = _; rw [r1]; simp [hio])
  obtain ⟨s2, hs2⟩ : ∃ s, s = addVal (step1 (step1 s1)) (vnum (num (dg x))) := ⟨_, rfl⟩
  have b2 : s2.bad = false := by rw [hs2]; exact b1
  have r2 : s2.pos = 8 := by rw [hs2]; show s1.pos + 1 + 1 = 8; omega
  have c2 : acceptB W s2 bComma = false := by rw [hW4, acceptB_at _ _ _ s2 _ b2 (by rw [r2]; simp [hio])]; decide +kernel
  have c3 : acceptB W s2 bClose = true := by rw [hW4, acceptB_at _ _ _ s2 _ b2 (by rw [r2]; simp [hio])]; decide +kernel
  have hfin : statementS W st0 = step1 s2 := by
    rw [hst, v1, ← hs1, hlen, commas, c1, if_pos rfl, v2, ← hs2, commas, c2]
    simp only [Bool.false_eq_true, if_false]
    unfold wantS
    rw [c3]
    rfl
  have hsz : (lins k x).size ≤ 160 := by
    have h1 := Lib.decDigits_length k
    have h2 := Lib.decDigits_length x
    have h3 := nDigits_mono_small k (by omega)
    have h4 := nDigits_mono_small x (by omega)
    rw [size_list]
    show (pIns ++ (Lib.decDigits k ++ ([44, 32] ++ (Lib.decDigits x ++ [41])))).length ≤ 160
    have h5 : pIns.length = 23 := rfl
    simp only [List.length_append, List.length_cons, List.length_nil]
    omega
  have hp := parse_of (lins k x) W hsz ((split_iff _ W).2 (by rw [hW]; exact lins_splits k x hk hx)) (by rw [hfin]; exact b2) (by rw [hfin, hlen]; show s2.pos + 1 = 9; omega)
  rw [hp, hfin]
  have hk' : num (dg k) = (k : Int) := num_dg ⟨k, hk⟩
  have hx' : num (dg x) = (x : Int) := num_dg ⟨x, hx⟩
  refine ⟨rfl, ?_, ?_, ?_, ?_⟩
  · show s2.act = 2; rw [hs2, hs1]; exact q3
  · show s2.table = bZZ; rw [hs2, hs1]; exact q4
  · show s2.vals = _
    rw [hs2, hs1]
    show (sI.vals ++ [vnum (num (dg k))]) ++ [vnum (num (dg x))] = _
    rw [nil_of_len q5, hk', hx']; rfl
  · show s2.wher = []; rw [hs2, hs1]; exact nil_of_len q6

end Sq
end Go.Proofs.YteibbdilhpdknaaGreatDoor

namespace Go.Proofs.YteibbdilhpdknaaGreatDoor
namespace Sq

theorem findTabFrom_snoc (n : ByteArray) (t : Tab) (ht : (t.name.toList == n.toList) = true) : ∀ (l : List Tab) (i : Int), 0 ≤ i → findTabFrom n l i = -1 → findTabFrom n (l ++ [t]) i = i + l.length
  | [], i, _, _ => by show (if t.name.toList == n.toList then i else _) = _; rw [if_pos ht]; simp
  | c :: r, i, hi, h => by
    rw [findTabFrom] at h
    rw [List.cons_append, findTabFrom]
    split
    · rename_i hc; rw [if_pos hc] at h; omega
    · rename_i hc; rw [if_neg hc] at h
      rw [findTabFrom_snoc n t ht r (i + 1) (by omega) h]
      simp; omega
theorem zz_name : (bZZ.toList == bZZ.toList) = true := by simp
theorem findTab_zz {db : List Tab} (h : findTab db bZZ < 0) (rows : List (List Val)) : findTab (db ++ [zz rows]) bZZ = db.length := by
  have h1 : findTabFrom bZZ db 0 = -1 := by
    rcases findTabFrom_bd bZZ db 0 (by omega) with h2 | h2
    · exact h2
    · unfold findTab at h; omega
  have := findTabFrom_snoc bZZ (zz rows) zz_name db 0 (by omega) h1
  unfold findTab
  rw [this]; omega
theorem decide_zz {db : List Tab} (h : findTab db bZZ < 0) (rows : List (List Val)) (sql : ByteArray) (h0 : (parse sql).1 = 0) (h1 : (parse sql).2.act ≠ 1) (h2 : (parse sql).2.table = bZZ) :
    Sq.decide (db ++ [zz rows]) sql = decideTab (db ++ [zz rows]) (zz rows) db.length (parse sql).2 := by
  unfold Sq.decide
  rw [h0, if_neg (by decide)]
  unfold decideSt
  rw [if_neg (by simpa using h1), h2, findTab_zz h rows, Int.toNat_natCast, List.getElem?_append_right (Nat.le_refl _), Nat.sub_self]
  show (if (db.length : Int) < 0 then _ else _) = _
  rw [if_neg (by omega)]
theorem setRows_zz (db : List Tab) (rows R : List (List Val)) : setRows (db ++ [zz rows]) db.length R = db ++ [zz R] := by
  unfold setRows
  rw [List.getElem?_append_right (Nat.le_refl _), Nat.sub_self]
  show (db ++ [zz rows]).set db.length (zz R) = _
  rw [List.set_append_right _ _ (Nat.le_refl _), Nat.sub_self]
  rfl
theorem rowsAt_zz (db : List Tab) (rows : List (List Val)) : rowsAt (db ++ [zz rows]) db.length = rows := by
  unfold rowsAt
  rw [List.getElem?_append_right (Nat.le_refl _), Nat.sub_self]
  rfl
theorem apply_zz (db : List Tab) (rows : List (List Val)) (r nm : ByteArray) (cs : List Col) (puts : List (List Val)) (cuts : List Int) : apply (db ++ [zz rows]) ⟨r, false, nm, cs, db.length, puts, cuts⟩ = db ++ [zz (cutAll cuts (putAll puts rows))] := by
  unfold apply made
  simp only [Bool.false_eq_true, if_false, Int.toNat_natCast]
  rw [rowsAt_zz, setRows_zz]
theorem apply_still (db : List Tab) (o : Out) (h1 : o.makes = false) (h2 : o.puts = []) (h3 : o.cuts = []) : apply db o = db := by
  unfold apply made
  rw [h1, h2, h3]
  exact setRows_same _ _
theorem check_of (cols : List Col) (a b : PSt) (h1 : a.act = b.act) (h2 : a.vals = b.vals) (h3 : a.sets = b.sets) (h4 : a.shw = b.shw) (h5 : a.items = b.items) (h6 : a.wher = b.wher) : check cols a = check cols b := by
  unfold check checkAct
  rw [h1, h2, h3, h4, h5, h6]

theorem find_id : find zzC bId = 0 := by decide +kernel
theorem find_v : find zzC bV = 1 := by decide +kernel
theorem val_id (a b : Val) : valueOf zzC [a, b] (tcol bId) = a := by
  unfold valueOf tcol
  rw [show bId.toList.isEmpty = false from by decide +kernel]
  show cellOf zzC [a, b] bId = a
  unfold cellOf
  rw [find_id]; rfl
theorem cell_v (a b : Val) : cellOf zzC [a, b] bV = b := by
  unfold cellOf
  rw [find_v]; rfl
theorem cell_id (a b : Val) : cellOf zzC [a, b] bId = a := by
  unfold cellOf
  rw [find_id]; rfl
theorem val_v (a b : Val) : valueOf zzC [a, b] (tcol bV) = b := by
  unfold valueOf tcol
  rw [show bV.toList.isEmpty = false from by decide +kernel]
  exact cell_v a b
theorem val_lit (row : List Val) (n : Int) : valueOf zzC row (tlit n) = vnum n := by
  unfold valueOf tlit
  rw [show nobytes.toList.isEmpty = true from by decide +kernel]
  rfl
theorem meets_one (row : List Val) (s : StepS) (h : isComparison s.op = true) : meets zzC row [s] = holds s.op (compare (valueOf zzC row s.left) (valueOf zzC row s.right)) := by
  refine Tells.meets (fun l => ?_)
  show stepB zzC row l s = _
  unfold stepB
  rw [if_pos h]
  rfl
theorem compare_lt (a b : Int) (h : a < b) : compare (vnum a) (vnum b) = -1 := by
  unfold compare vnum
  have h1 : (a != b) = true := by simp; omega
  simp [h1, h, sideOf]

def rw2 (k y : Int) : List Val := [vnum k, vnum y]
theorem m_eq (k y : Int) : meeting (zz [rw2 k y]) [⟨⟨#[61]⟩, tcol bId, tlit k⟩] = [rw2 k y] := by
  unfold meeting zz rw2
  have : meets zzC [vnum k, vnum y] [⟨⟨#[61]⟩, tcol bId, tlit k⟩] = true := by rw [meets_one _ _ (show isComparison (⟨#[61]⟩ : ByteArray) = true by decide), val_id, val_lit, compare_self]; show holds (⟨#[61]⟩ : ByteArray) 0 = true; decide +kernel
  simp [this]
theorem m_ne (k y : Int) : meeting (zz [rw2 k y]) [⟨⟨#[60, 62]⟩, tcol bId, tlit k⟩] = [] := by
  unfold meeting zz rw2
  have : meets zzC [vnum k, vnum y] [⟨⟨#[60, 62]⟩, tcol bId, tlit k⟩] = false := by rw [meets_one _ _ (show isComparison (⟨#[60, 62]⟩ : ByteArray) = true by decide), val_id, val_lit, compare_self]; show holds (⟨#[60, 62]⟩ : ByteArray) 0 = false; decide +kernel
  simp [this]
theorem m_ge (k y : Int) : meeting (zz [rw2 k y]) [⟨⟨#[62, 61]⟩, tcol bId, tlit k⟩] = [rw2 k y] := by
  unfold meeting zz rw2
  have : meets zzC [vnum k, vnum y] [⟨⟨#[62, 61]⟩, tcol bId, tlit k⟩] = true := by rw [meets_one _ _ (show isComparison (⟨#[62, 61]⟩ : ByteArray) = true by decide), val_id, val_lit, compare_self]; show holds (⟨#[62, 61]⟩ : ByteArray) 0 = true; decide +kernel
  simp [this]
theorem m_lt (k y : Int) (h : y < 100) : meeting (zz [rw2 k y]) [⟨⟨#[60]⟩, tcol bV, tlit 100⟩] = [rw2 k y] := by
  unfold meeting zz rw2
  have : meets zzC [vnum k, vnum y] [⟨⟨#[60]⟩, tcol bV, tlit 100⟩] = true := by rw [meets_one _ _ (by decide), val_v, val_lit, compare_lt _ _ h]; decide +kernel
  simp [this]

def pst (act shw : Int) (vals : List Val) (sets : List SetS) (items : List ByteArray) (wher : List StepS) : PSt := ⟨0, false, act, bZZ, [], vals, sets, shw, items, wher⟩
theorem chk_ins : ∀ k x : Fin 100, check zzC (pst 2 0 [vnum k.val, vnum x.val] [] [] []) = 0 := fun k x => by
  unfold check checkAct pst
  simp [checkValues, checkValuesFrom, zzC, vnum, checkWhereFrom]
theorem kind_id : kindOf zzC (tcol bId) = (0, true) := by decide +kernel
theorem kind_v : kindOf zzC (tcol bV) = (0, true) := by decide +kernel
theorem kind_lit (n : Int) : kindOf zzC (tlit n) = (0, true) := by
  unfold kindOf tlit
  rw [show nobytes.toList.isEmpty = true from by decide +kernel]
  rfl
theorem chkw (op : ByteArray) (l : Term) (n : Int) (h : isComparison op = true) (hl : kindOf zzC l = (0, true)) : checkWhereFrom zzC [⟨op, l, tlit n⟩] = 0 := by
  rw [checkWhereFrom]
  simp only [h, hl, kind_lit]
  rfl
theorem items_sel : checkItemsFrom zzC 0 [bV, bId] = 0 := by decide +kernel
theorem items_sum : checkItemsFrom zzC 3 [bV] = 0 := by decide +kernel
theorem sets_upd : checkSets zzC [⟨bV, tcol bV, ⟨#[45]⟩, tcol bId⟩] = 0 := by decide +kernel
theorem itoa_nat (n : Nat) : Lib.itoa (n : Int) = Lib.decDigits n := by unfold Lib.itoa; rw [if_neg (by omega), Int.toNat_natCast]
theorem written_num (n : Int) : (written (vnum n)).data.toList = Lib.itoa n := by unfold written vnum; rfl

/-- All that the statements answer, one behind the other. -/
structure LaidSaid (db : List Tab) (k x : Nat) : Prop where
  ins : (Sq.decide (db ++ [zz []]) (lins k x)).reply = ⟨#[33, 49, 48]⟩ ∨ ((Sq.decide (db ++ [zz []]) (lins k x)).reply = ⟨#[49, 59]⟩ ∧ after (db ++ [zz []]) (lins k x) = db ++ [zz [rw2 k x]])
  ins1 : (Sq.decide (db ++ [zz [rw2 k x]]) (tx pIns k [44, 32, 49, 41])).reply = ⟨#[33, 56]⟩ ∧ after (db ++ [zz [rw2 k x]]) (tx pIns k [44, 32, 49, 41]) = db ++ [zz [rw2 k x]]
  sel : (Sq.decide (db ++ [zz [rw2 k x]]) (tx pSel k [])).reply.data.toList = Lib.decDigits x ++ (44 :: (Lib.decDigits k ++ [59]))
  ne : (Sq.decide (db ++ [zz [rw2 k x]]) (tx pNe k [])).reply = ⟨#[]⟩
  upd : (Sq.decide (db ++ [zz [rw2 k x]]) (tx pUpd k [])).reply = ⟨#[49, 59]⟩ ∧ after (db ++ [zz [rw2 k x]]) (tx pUpd k []) = db ++ [zz [rw2 k (x - k)]]
  sum : number (Sq.decide (db ++ [zz [rw2 k (x - k)]]) lsum).reply = ((x : Int) - k, true)
  del : (Sq.decide (db ++ [zz [rw2 k (x - k)]]) ldel).reply = ⟨#[49, 59]⟩ ∧ after (db ++ [zz [rw2 k (x - k)]]) ldel = db ++ [zz []]
  cnt : (Sq.decide (db ++ [zz []]) lcnt).reply = ⟨#[48, 59]⟩
theorem rep1 : counted 1 = ⟨#[49, 59]⟩ := by decide +kernel
theorem rep0 : counted 0 = ⟨#[48, 59]⟩ := by decide +kernel
theorem ref8 : (refused 8).reply = ⟨#[33, 56]⟩ := by decide +kernel
theorem ref10 : (refused 10).reply = ⟨#[33, 49, 48]⟩ := by decide +kernel

theorem laid_said {db : List Tab} (h : findTab db bZZ < 0) (k x : Nat) (hk : k < 100) (hx : x < 100) : LaidSaid db k x := by
  refine ⟨?_, ?_, ?_, ?_, ?_, ?_, ?_, ?_⟩
  · obtain ⟨a1, a2, a3, a4, a5⟩ := lins_said k x hk hx
    unfold after
    rw [decide_zz h [] _ a1 (by rw [a2]; decide) a3]
    have hc : check zzC (parse (lins k x)).2 = 0 := by
      unfold check checkAct
      rw [a2, a4, a5]
      simp [checkValues, checkValuesFrom, zzC, vnum, checkWhereFrom]
    unfold decideTab
    rw [show (zz []).cols = zzC from rfl, hc, a2, if_neg (by decide), if_pos (by decide)]
    unfold Sq.insert
    rw [show hasKey (zz []).rows _ = false from rfl, if_neg (by decide)]
    split
    · exact Or.inl ref10
    · refine Or.inr ⟨rep1, ?_⟩
      rw [apply_zz, a4]; rfl
  · obtain ⟨a1, a2, a3, a4, a5⟩ := ins1_said ⟨k, hk⟩
    have a4' : (parse (tx pIns k [44, 32, 49, 41])).2.vals = [vnum k, vnum 1] := map_inj vkey_inj (by rw [a4]; rfl)
    have a5' := nil_of_len a5
    unfold after
    rw [decide_zz h _ _ a1 (by rw [a2]; decide) a3]
    have hc : check zzC (parse (tx pIns k [44, 32, 49, 41])).2 = 0 := by
      unfold check checkAct
      rw [a2, a4', a5']
      simp [checkValues, checkValuesFrom, zzC, vnum, checkWhereFrom]
    have hd : decideTab (db ++ [zz [rw2 k x]]) (zz [rw2 k x]) db.length (parse (tx pIns k [44, 32, 49, 41])).2 = refused 8 := by
      unfold decideTab
      rw [show (zz [rw2 k x]).cols = zzC from rfl, hc, a2, if_neg (by decide), if_pos (by decide)]
      unfold Sq.insert
      rw [a4', if_pos (by simp [hasKey, zz, rw2, keyOf, vnum])]
    rw [hd]
    exact ⟨ref8, apply_still _ _ rfl rfl rfl⟩
  · obtain ⟨a1, a2, a3, a4, a5, a6⟩ := sel_said ⟨k, hk⟩
    have a6' : (parse (tx pSel k [])).2.wher = [⟨⟨#[61]⟩, tcol bId, tlit k⟩] := map_inj skey_inj (by rw [a6]; rfl)
    rw [decide_zz h _ _ a1 (by rw [a2]; decide) a3]
    have hc : check zzC (parse (tx pSel k [])).2 = 0 := by
      unfold check checkAct
      rw [a2, a4, a5, a6']
      simp [items_sel, chkw ⟨#[61]⟩ _ k (by decide) kind_id]
    unfold decideTab
    rw [show (zz [rw2 k x]).cols = zzC from rfl, hc, a2, if_neg (by decide), if_neg (by decide), if_neg (by decide), if_neg (by decide)]
    show (Sq.show (zz [rw2 k x]) _).data.toList = _
    unfold Sq.show showRows
    rw [a4, a5, a6', m_eq, if_neg (by decide), if_neg (by decide), if_neg (by decide)]
    show listed zzC [bV, bId] [rw2 k x] = _
    rw [listed_cons]
    unfold rowText rw2
    rw [List.map_cons, List.map_cons, List.map_nil, cell_v, cell_id, written_num, written_num, itoa_nat, itoa_nat]
    show (Lib.decDigits x ++ ([Lib.decDigits k].flatMap fun y => 44 :: y)) ++ 59 :: [] = _
    simp
  · obtain ⟨a1, a2, a3, a4, a5, a6⟩ := ne_said ⟨k, hk⟩
    have a6' : (parse (tx pNe k [])).2.wher = [⟨⟨#[60, 62]⟩, tcol bId, tlit k⟩] := map_inj skey_inj (by rw [a6]; rfl)
    rw [decide_zz h _ _ a1 (by rw [a2]; decide) a3]
    have hc : check zzC (parse (tx pNe k [])).2 = 0 := by
      unfold check checkAct
      rw [a2, a4, a5, a6']
      simp [checkItemsFrom, chkw ⟨#[60, 62]⟩ _ k (by decide) kind_id]
    unfold decideTab
    rw [show (zz [rw2 k x]).cols = zzC from rfl, hc, a2, if_neg (by decide), if_neg (by decide), if_neg (by decide), if_neg (by decide)]
    show Sq.show (zz [rw2 k x]) _ = _
    unfold Sq.show showRows
    rw [a4, a6', m_ne, if_neg (by decide), if_neg (by decide), if_pos (by decide)]
    rfl
  · obtain ⟨a1, a2, a3, a4, a5⟩ := upd_said ⟨k, hk⟩
    have a4' : (parse (tx pUpd k [])).2.sets = [⟨bV, tcol bV, ⟨#[45]⟩, tcol bId⟩] := map_inj akey_inj (by rw [a4]; rfl)
    have a5' : (parse (tx pUpd k [])).2.wher = [⟨⟨#[62, 61]⟩, tcol bId, tlit k⟩] := map_inj skey_inj (by rw [a5]; rfl)
    unfold after
    rw [decide_zz h _ _ a1 (by rw [a2]; decide) a3]
    have hc : check zzC (parse (tx pUpd k [])).2 = 0 := by
      unfold check checkAct
      rw [a2, a4', a5']
      simp [sets_upd, chkw ⟨#[62, 61]⟩ _ k (by decide) kind_id]
    have hres : result zzC (rw2 k x) ⟨bV, tcol bV, ⟨#[45]⟩, tcol bId⟩ = (vnum (x - k), true) := by
      unfold result rw2
      simp only [val_v, val_id]
      rw [show (⟨#[45]⟩ : ByteArray).toList.isEmpty = false from by decide +kernel]
      have hn : numOf ⟨#[45]⟩ (vnum x).number (vnum k).number = (x : Int) - k := by
        unfold numOf
        rw [if_pos (by decide +kernel)]; rfl
      rw [hn]
      simp only [Bool.false_eq_true, if_false]
      rw [if_neg (by omega), if_neg (by omega)]
      rfl
    have has : assigned zzC (rw2 k x) [⟨bV, tcol bV, ⟨#[45]⟩, tcol bId⟩] = (rw2 k (x - k), true) := by
      unfold assigned
      rw [assignFrom, hres]
      simp only [if_true]
      rw [assignFrom]
      unfold assignStep
      rw [hres]
      show (if find zzC bV < 0 then _ else _, true) = _
      rw [find_v, if_neg (by decide)]
      rfl
    have hd : decideTab (db ++ [zz [rw2 k x]]) (zz [rw2 k x]) db.length (parse (tx pUpd k [])).2 = ⟨counted 1, false, nobytes, [], db.length, [rw2 k (x - k)], []⟩ := by
      unfold decideTab
      rw [show (zz [rw2 k x]).cols = zzC from rfl, hc, a2, if_neg (by decide), if_neg (by decide), if_pos (by decide)]
      unfold Sq.update
      rw [a4', a5', m_ge, show (zz [rw2 k x]).cols = zzC from rfl, updateFrom, has]
      simp only [if_true]
      rw [updateFrom]
      rfl
    rw [hd]
    refine ⟨rep1, ?_⟩
    rw [apply_zz]
    show db ++ [zz (put (rw2 k (x - k)) [rw2 k x])] = _
    rw [put, if_neg (by simp [rw2, keyOf, vnum])]
    simp [cutRows, rw2, keyOf, vnum]
  · obtain ⟨a1, a2, a3, a4, a5, a6⟩ := sum_said
    rw [decide_zz h _ _ a1 (by rw [a2]; decide) a3]
    have hc : check zzC (parse lsum).2 = 0 := by
      unfold check checkAct
      rw [a2, a4, a5, nil_of_len a6]
      simp [items_sum, checkWhereFrom]
    unfold decideTab
    rw [show (zz [rw2 k (x - k)]).cols = zzC from rfl, hc, a2, if_neg (by decide), if_neg (by decide), if_neg (by decide), if_neg (by decide)]
    show number (Sq.show (zz [rw2 k (x - k)]) _) = _
    unfold Sq.show showRows
    rw [a4, a5, nil_of_len a6, meeting_nil, if_neg (by decide), if_pos (by decide)]
    refine number_itoa _ (by omega) (by omega) _ ?_
    rw [append_list]
    have hs : sumRows (zz [rw2 k (x - k)]).cols [bV] (zz [rw2 k (x - k)]).rows = (x : Int) - k := by
      show sumRows zzC [bV] [rw2 k (x - k)] = _
      unfold sumRows sumItems rw2
      simp only [List.map_cons, List.map_nil, cell_v]
      simp [vnum]
    rw [hs]
    rfl
  · obtain ⟨a1, a2, a3, a4⟩ := del_said
    have a4' : (parse ldel).2.wher = [⟨⟨#[60]⟩, tcol bV, tlit 100⟩] := map_inj skey_inj (by rw [a4]; rfl)
    unfold after
    rw [decide_zz h _ _ a1 (by rw [a2]; decide) a3]
    have hc : check zzC (parse ldel).2 = 0 := by
      unfold check checkAct
      rw [a2, a4']
      simp [chkw ⟨#[60]⟩ _ 100 (by decide) kind_v]
    have hd : decideTab (db ++ [zz [rw2 k (x - k)]]) (zz [rw2 k (x - k)]) db.length (parse ldel).2 = ⟨counted 1, false, nobytes, [], db.length, [], [(k : Int)]⟩ := by
      unfold decideTab
      rw [show (zz [rw2 k (x - k)]).cols = zzC from rfl, hc, a2, if_neg (by decide), if_neg (by decide), if_neg (by decide), if_pos (by decide)]
      unfold Sq.remove
      rw [a4', m_lt k _ (by omega)]
      rfl
    rw [hd]
    refine ⟨rep1, ?_⟩
    rw [apply_zz]
    show db ++ [zz (cutRows k [rw2 k (x - k)])] = _
    simp [cutRows, rw2, keyOf, vnum]
  · obtain ⟨a1, a2, a3, a4, a5, a6⟩ := cnt_said
    rw [decide_zz h _ _ a1 (by rw [a2]; decide) a3]
    have hc : check zzC (parse lcnt).2 = 0 := by
      unfold check checkAct
      rw [a2, a4, a5, nil_of_len a6]
      simp [checkItemsFrom, checkWhereFrom]
    unfold decideTab
    rw [show (zz []).cols = zzC from rfl, hc, a2, if_neg (by decide), if_neg (by decide), if_neg (by decide), if_neg (by decide)]
    show Sq.show (zz []) _ = _
    unfold Sq.show showRows
    rw [a4, nil_of_len a6, meeting_nil, if_pos (by decide)]
    exact rep0
/-- The table is made, or it is refused. -/
theorem create_zz (db : List Tab) : isRef (Sq.decide db lcreate).reply ∨ ((Sq.decide db lcreate).reply = ⟨#[48, 59]⟩ ∧ after db lcreate = db ++ [zz []] ∧ findTab db bZZ < 0) := by
  obtain ⟨a1, a2, a3, a4⟩ := create_said
  have a4' : (parse lcreate).2.cols = zzC := map_inj ckey_inj a4
  have hd : Sq.decide db lcreate = create db (parse lcreate).2 := by
    unfold Sq.decide
    rw [a1, if_neg (by decide)]
    unfold decideSt
    rw [a2, if_pos (by decide)]
  unfold after
  rw [hd]
  unfold create
  rw [a3, a4']
  split
  · exact Or.inl (refused_ref _)
  · rename_i hf
    split
    · exact Or.inl (refused_ref _)
    · split
      · exact Or.inl (refused_ref _)
      · split
        · exact Or.inl (refused_ref _)
        · split
          · exact Or.inl (refused_ref _)
          · refine Or.inr ⟨rep0, ?_, by omega⟩
            unfold apply made
            simp only [if_true]
            exact setRows_same _ _

end Sq
end Go.Proofs.YteibbdilhpdknaaGreatDoor
