import Derived.Test.YteibbdilhpdknaaGreatDoorCb
import Derived.Test.YteibbdilhpdknaaGreatDoorCd
set_option linter.unusedVariables false
set_option linter.unusedSimpArgs false

namespace Go.Proofs.YteibbdilhpdknaaGreatDoor
open Go.RowKit

theorem Sq.refused_size (e : Int) (h0 : -1000 ≤ e) (h1 : e ≤ 1000) : (Sq.refused e).reply.size ≤ 100000000 := by
  have := itoa_size e (by omega) (by omega)
  show (Sq.bBang ++ Sq.itoa e).size ≤ _
  rw [ByteArray.size_append]
  have : Sq.bBang.size = 1 := rfl
  omega
theorem Sq.counted_size (n : Int) (h0 : -1000000 ≤ n) (h1 : n ≤ 1000000) : (Sq.counted n).size ≤ 100000000 := by
  have := itoa_size n (by omega) (by omega)
  show (Sq.itoa n ++ Sq.bSemi).size ≤ _
  rw [ByteArray.size_append]
  have : Sq.bSemi.size = 1 := rfl
  omega
theorem Sq.show_size {db : List Sq.Tab} (hg : Sq.good db) (t : Sq.Tab) (ht : t ∈ db) (st : Sq.PSt) (hi : st.items.length ≤ 163) : (Sq.show t st).size ≤ 100000000 := by
  have h60 := Sq.few_rows hg ht
  have hm : (Sq.meeting t st.wher).length ≤ t.rows.length := List.length_filter_le _ _
  have hok : ∀ r ∈ Sq.meeting t st.wher, Sq.okRow r := fun r hr => ((hg.each t ht).rows r (List.mem_filter.1 hr).1).ok
  have hc := (hg.each t ht).cols
  unfold Sq.show Sq.showRows
  split
  · exact Sq.counted_size _ (by omega) (by omega)
  · split
    · have h1 := Sq.sumRows_bd t.cols st.items (by omega) _ hok
      have h2 := itoa_size (Sq.sumRows t.cols st.items (Sq.meeting t st.wher)) (by omega) (by omega)
      rw [ByteArray.size_append]
      have : Sq.bSemi.size = 1 := rfl
      omega
    · split
      · have h1 := Sq.listed_size t.cols (t.cols.map Sq.Col.name) (by simp; omega) _ hok
        rw [Sq.size_list]
        show (Sq.listed _ _ _).length ≤ _
        omega
      · have h1 := Sq.listed_size t.cols st.items hi _ hok
        rw [Sq.size_list]
        show (Sq.listed _ _ _).length ≤ _
        omega
theorem Sq.reply_size {db : List Sq.Tab} (hg : Sq.good db) (sql : ByteArray) : (Sq.decide db sql).reply.size ≤ 100000000 := by
  have hpb := Sq.parse_bd sql
  have hrd := (Sq.parse_read sql).1.few
  unfold Sq.decide
  split
  · exact Sq.refused_size _ (by omega) (by omega)
  · unfold Sq.decideSt
    split
    · unfold Sq.create
      repeat (first | exact Sq.refused_size _ (by decide) (by decide) | exact Sq.counted_size 0 (by decide) (by decide) | split)
    · split
      · rename_i t hx
        have ht : t ∈ db := List.mem_of_getElem? hx
        have hcb := Sq.check_bd t.cols (Sq.parse sql).2
        have h60 := Sq.few_rows hg ht
        split
        · exact Sq.refused_size _ (by decide) (by decide)
        · unfold Sq.decideTab
          split
          · exact Sq.refused_size _ (by omega) (by omega)
          · split
            · unfold Sq.insert
              repeat (first | exact Sq.refused_size _ (by decide) (by decide) | exact Sq.counted_size 1 (by decide) (by decide) | split)
            · split
              · unfold Sq.update
                cases hu : Sq.updateFrom t.cols (Sq.parse sql).2.sets (Sq.meeting t (Sq.parse sql).2.wher) [] with
                | none => exact Sq.refused_size _ (by decide) (by decide)
                | some puts =>
                  have hl := Sq.updateFrom_len _ _ _ _ _ hu
                  have hm : (Sq.meeting t (Sq.parse sql).2.wher).length ≤ t.rows.length := List.length_filter_le _ _
                  simp at hl
                  exact Sq.counted_size _ (by omega) (by omega)
              · split
                · have hm : (Sq.meeting t (Sq.parse sql).2.wher).length ≤ t.rows.length := List.length_filter_le _ _
                  exact Sq.counted_size _ (by omega) (by omega)
                · exact Sq.show_size hg t ht _ (by omega)
      · exact Sq.refused_size _ (by decide) (by decide)

/-- A server within a World, alive. -/
structure Live (w : World) (wb sb : Nat) (db : List Sq.Tab) : Prop where
  blk : w.heap[wb]? = some (.cells #[.pointer (some ⟨sb, 0, none⟩), .int .i64 32] 47)
  here : DB sb w db
  good : Sq.good db
  tbl : Tbl w
theorem Live.below {w w' : World} {wb sb : Nat} {db : List Sq.Tab} (h : Live w wb sb db) (hb : Below w.heap.size w w') : Live w' wb sb db := ⟨(hb.block wb (lt_blk h.blk)).trans h.blk, h.here.below hb, h.good, h.tbl.below hb⟩
theorem Live.cell {w : World} {wb sb : Nat} {db : List Sq.Tab} (h : Live w wb sb db) : w.cell? ⟨wb, 0, none⟩ = some (.pointer (some ⟨sb, 0, none⟩)) ∧ wb < w.heap.size := ⟨by rw [cell_blk h.blk]; rfl, lt_blk h.blk⟩
theorem lpeek (wb sb : Nat) (db : List Sq.Tab) (sql : ByteArray) (w : World) (h : Live w wb sb db) :
    Calls Tryz.prog 21 #[.pointer (some ⟨sb, 0, none⟩), .string sql] w fun e w' => e = .returned (answer (Sq.decide db sql).reply) ∧ Live w' wb sb db ∧ Below w.heap.size w w' := by
  refine (Peek_any sb db sql w h.here h.good h.tbl).mono ?_
  rintro e w' ⟨rfl, hb⟩
  exact ⟨rfl, h.below hb, hb⟩
theorem Sq.bang_iff (s : ByteArray) : Sq.bang s = true ↔ s.data.toList.head? = some 33 := by unfold Sq.bang; simp

def Sq.qStar (c : ByteArray) : ByteArray := (⟨#[115, 101, 108, 101, 99, 116, 32, 42, 32, 102, 114, 111, 109, 32]⟩ : ByteArray) ++ Sq.bT ++ (⟨#[32, 119, 104, 101, 114, 101, 32]⟩ : ByteArray) ++ c
def Sq.qOr (c : ByteArray) : ByteArray := (⟨#[115, 101, 108, 101, 99, 116, 32, 42, 32, 102, 114, 111, 109, 32]⟩ : ByteArray) ++ Sq.bT ++ (⟨#[32, 119, 104, 101, 114, 101, 32, 40]⟩ : ByteArray) ++ c ++ (⟨#[41, 32, 111, 114, 32, 105, 100, 32, 60, 62, 32, 105, 100]⟩ : ByteArray)
def Sq.qAnd (c : ByteArray) : ByteArray := (⟨#[115, 101, 108, 101, 99, 116, 32, 42, 32, 102, 114, 111, 109, 32]⟩ : ByteArray) ++ Sq.bT ++ (⟨#[32, 119, 104, 101, 114, 101, 32, 105, 100, 32, 61, 32, 105, 100, 32, 97, 110, 100, 32, 40]⟩ : ByteArray) ++ c ++ (⟨#[41]⟩ : ByteArray)
theorem Sq.qStar_list (c : ByteArray) : (Sq.qStar c).data.toList = Sq.p_star ++ c.data.toList := by
  unfold Sq.qStar; rw [Sq.append_list, Sq.append_list, Sq.append_list]; rfl
theorem Sq.qOr_list (c : ByteArray) : (Sq.qOr c).data.toList = Sq.p_star ++ (40 :: (c.data.toList ++ (41 :: Sq.por))) := by
  unfold Sq.qOr; rw [Sq.append_list, Sq.append_list, Sq.append_list, Sq.append_list]
  show ((Sq.p_star ++ [40]) ++ c.data.toList) ++ (41 :: Sq.por) = _
  simp
theorem Sq.qAnd_list (c : ByteArray) : (Sq.qAnd c).data.toList = Sq.p_star ++ (Sq.pid ++ 40 :: (c.data.toList ++ [41])) := by
  unfold Sq.qAnd; rw [Sq.append_list, Sq.append_list, Sq.append_list, Sq.append_list]
  show ((Sq.p_star ++ (Sq.pid ++ [40])) ++ c.data.toList) ++ [41] = _
  simp

set_option maxRecDepth 100000 in
set_option maxHeartbeats 4000000 in
theorem same_any (wb sb : Nat) (db : List Sq.Tab) (cond : ByteArray) (w : World) (h : Live w wb sb db) (hc : cond.size ≤ 160) :
    Calls Tryz.prog 20 #[.pointer (some ⟨wb, 0, none⟩), .string Sq.bT, .string cond] w fun e w' => e = .returned (.bool true) ∧ Below w.heap.size w w' := by
  have H := hd h
  obtain ⟨p0, hl0⟩ := h.cell
  have hbt : Sq.bT.size = 1 := rfl
  have hal := Sq.alike_plain db (Sq.qStar cond) (Sq.qOr cond) (Sq.qAnd cond) cond.data.toList (Sq.qStar_list cond) (Sq.qOr_list cond) (Sq.qAnd_list cond)
  have hsa := Sq.reply_size h.good (Sq.qStar cond)
  have hsb := Sq.reply_size h.good (Sq.qOr cond)
  have hsc := Sq.reply_size h.good (Sq.qAnd cond)
  obtain ⟨ra, hra⟩ : ∃ x, x = (Sq.decide db (Sq.qStar cond)).reply := ⟨_, rfl⟩
  obtain ⟨rb, hrb⟩ : ∃ x, x = (Sq.decide db (Sq.qOr cond)).reply := ⟨_, rfl⟩
  obtain ⟨rc, hrc⟩ : ∃ x, x = (Sq.decide db (Sq.qAnd cond)).reply := ⟨_, rfl⟩
  rw [← hra, ← hrb, ← hrc] at hal
  rw [← hra] at hsa
  rw [← hrb] at hsb
  rw [← hrc] at hsc
  have HAL := hd hal
  have HRA := hd hra
  have HRB := hd hrb
  have HRC := hd hrc
  clear h hal hra hrb hrc
  go_enter Tryz.func20, Tryz.ntmps20
  go_wp2_with fail
  refine (lpeek wb sb db (Sq.qStar cond) w H.out).mono ?_
  rintro e w1 ⟨rfl, hL1, hb1⟩
  rw [← HRA.out]
  unfold answer
  have hA1 : ∀ o, Below w1.heap.size w1 (w1.alloc o) := fun o => (Below.refl _ _).alloc (Nat.le_refl _) _
  have HA1 := hd hA1
  obtain ⟨p1, hl1⟩ := hL1.cell
  have HL1 := hd hL1
  have HB1 := hd hb1
  have hz1 := hb1.size
  clear hL1 hb1 hA1 p0
  cases hba : Sq.bang ra
  case true =>
    go_wp2_with (go_at_call 22; refine (krefused_any ra _ (by omega)).mono ?_; rintro e w' ⟨rfl, hw'⟩; rw [hw', hba]; clear hw' w')
    go_ret
    exact ⟨rfl, Below.alloc (B := w.heap.size) HB1.out hz1 _⟩
  case false =>
    have hk : ra.data.toList.head? ≠ some 33 := fun e => by rw [(Sq.bang_iff ra).2 e] at hba; cases hba
    have HPL := hd (HAL.out hk)
    have HBA := hd hba
    clear hk hba HAL
    go_wp2_with (go_at_call 22; refine (krefused_any ra _ (by omega)).mono ?_; rintro e w' ⟨rfl, hw'⟩; rw [hw', HBA.out]; clear hw' w')
    refine (lpeek wb sb db (Sq.qOr cond) _ (HL1.out.below (HA1.out _))).mono ?_
    rintro e w2 ⟨rfl, hL2, hb2⟩
    rw [← HRB.out]
    unfold answer
    have hA2 : ∀ o, Below w2.heap.size w2 (w2.alloc o) := fun o => (Below.refl _ _).alloc (Nat.le_refl _) _
    have HA2 := hd hA2
    obtain ⟨p2, hl2⟩ := hL2.cell
    have hk1 := (hb2.block w1.heap.size (by simp)).trans (heap_alloc_new w1 _)
    have HK1 := hd hk1
    have hlk1 := lt_blk hk1
    have HL2 := hd hL2
    have HB2 := hd ((HB1.out.trans ((HA1.out _).mono hz1)).trans (hb2.mono (by simp; omega)))
    have hz2 := hb2.size
    simp at hz2
    clear hL2 hb2 hA2 hk1 p1
    go_wp2_with fail
    refine (lpeek wb sb db (Sq.qAnd cond) _ (HL2.out.below (HA2.out _))).mono ?_
    rintro e w3 ⟨rfl, hL3, hb3⟩
    rw [← HRC.out]
    unfold answer
    have hk1 := (hb3.block w1.heap.size (by simp; omega)).trans ((alloc_lt hlk1 _).trans HK1.out)
    have hk2 := (hb3.block w2.heap.size (by simp)).trans (heap_alloc_new w2 _)
    have a1 := cell_blk hk1 0
    have a2 := cell_blk hk2 0
    simp at a1 a2
    have hlk1' := lt_blk hk1
    have hlk2 := lt_blk hk2
    have HB3 := hd ((HB2.out.trans ((HA2.out _).mono (by omega))).trans (hb3.mono (by simp; omega)))
    have hz3 := hb3.size
    simp at hz3
    clear hL3 hb3 hk1 hk2 p2
    have hfin : ((Sq.bang rb = true) ∨ (Sq.bang rb = false ∧ rb = ra)) ∧ ((Sq.bang rc = true) ∨ (Sq.bang rc = false ∧ rc = ra)) := by
      refine ⟨?_, ?_⟩
      · rcases HPL.out.1 with e | e
        · exact Or.inl ((Sq.bang_iff rb).2 e)
        · exact Or.inr ⟨by rw [← e]; exact HBA.out, e.symm⟩
      · rcases HPL.out.2 with e | e
        · exact Or.inl ((Sq.bang_iff rc).2 e)
        · exact Or.inr ⟨by rw [← e]; exact HBA.out, e.symm⟩
    clear HPL HRA HRB HRC
    go_wp2_with fail
    refine (krefused_any rb _ (by omega)).mono ?_
    rintro e w' ⟨rfl, hw'⟩
    rw [hw']
    clear hw' w'
    obtain ⟨bb, hbb⟩ : ∃ x, x = Sq.bang rb := ⟨_, rfl⟩
    rw [← hbb] at hfin
    rw [← hbb]
    clear hbb
    go_wp2_with fail
    refine (krefused_any rc _ (by omega)).mono ?_
    rintro e w' ⟨rfl, hw'⟩
    rw [hw']
    clear hw' w'
    obtain ⟨bc, hbc⟩ : ∃ x, x = Sq.bang rc := ⟨_, rfl⟩
    rw [← hbc] at hfin
    rw [← hbc]
    clear hbc
    obtain ⟨f1, f2⟩ := hfin
    rcases f1 with rfl | ⟨rfl, rfl⟩ <;> rcases f2 with rfl | ⟨rfl, rfl⟩
    all_goals
      go_wp2
      go_ret
      exact ⟨rfl, Below.alloc (B := w.heap.size) HB3.out (by omega) _⟩

set_option maxRecDepth 100000 in
set_option maxHeartbeats 2000000 in
theorem alike_any (v : Value) (l : List ByteArray) (cond : ByteArray) (w : World) (h : Strs w v l) (hc : cond.size ≤ 1000000000000000) (hT : Tbl w) :
    Calls Tryz.prog 8 #[v, .string cond] w fun e w' => e = .returned (.bool true) ∧ Below w.heap.size w w' := by
  have HS := hd h
  have HT := hd hT
  clear h hT
  go_enter Tryz.func8, Tryz.ntmps8
  go_wp2_with fail
  refine (awake_any w HT.out).mono ?_
  rintro e w1 ⟨rfl, hb1⟩
  have hz1 := hb1.size
  have HB1 := hd hb1
  have HS1 := hd (HS.out.below hb1 (Nat.le_refl _))
  have HT1 := hd (HT.out.below hb1)
  clear hb1
  go_wp2_with fail
  refine (world_any l v w1 HS1.out HT1.out).mono ?_
  rintro e w2 (⟨hbig, rfl, hw2⟩ | ⟨wb, sb, hno, rfl, hW, hb2⟩)
  · subst hw2
    have HBG := hd hbig
    clear hbig
    go_wp2_with fail
    refine (none_any l v _ HS1.out).mono ?_
    rintro e w3 ⟨rfl, hw3⟩
    rw [hw3, HBG.out]
    clear hw3 w3
    go_wp2
    go_ret
    exact ⟨rfl, HB1.out⟩
  · have hlive : Live w2 wb sb (Sq.afterAll [] l) := ⟨hW.blk, hW.db, Sq.good_afterAll _ Sq.good_nil, HT1.out.below hb2⟩
    have HLV := hd hlive
    have HB2 := hd (HB1.out.trans (hb2.mono hz1))
    have hz2 := hb2.size
    clear hno hW hb2 hlive
    by_cases hlen : 160 < cond.size
    · go_wp2
      go_ret
      exact ⟨rfl, HB2.out⟩
    · go_wp2_with fail
      refine (same_any wb sb _ cond w2 HLV.out (by omega)).mono ?_
      rintro e w3 ⟨rfl, hb3⟩
      have HB3 := hd (HB2.out.trans (hb3.mono (by omega)))
      clear hb3
      go_wp2
      go_ret
      exact ⟨rfl, HB3.out⟩

end Go.Proofs.YteibbdilhpdknaaGreatDoor
