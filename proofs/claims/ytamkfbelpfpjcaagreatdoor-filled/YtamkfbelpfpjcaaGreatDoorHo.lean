import Derived.Test.YtamkfbelpfpjcaaGreatDoorHn
import Derived.Test.YtamkfbelpfpjcaaGreatDoorHm
set_option linter.unusedVariables false
set_option linter.unusedSimpArgs false

namespace Go.Proofs.YtamkfbelpfpjcaaGreatDoor

theorem Sq.sizeL (s : ByteArray) : s.size = s.data.toList.length := by simp
theorem Sq.refused_size (e : Int) (h0 : -1000 ≤ e) (h1 : e ≤ 1000) : (Sq.refused e).reply.size ≤ 100000000 := by
  have := itoa_size e (by omega) (by omega)
  show (Sq.bBang ++ Sq.itoa e).size ≤ _
  rw [ByteArray.size_append]
  have : Sq.bBang.size = 1 := rfl
  omega
theorem Sq.counted_size (n : Int) (h0 : -1000000 ≤ n) (h1 : n ≤ 1000000) : (Sq.counted n).size ≤ 100000000 := by
  have := itoa_size n (by omega) (by omega)
  show (Sq.itoa n ++ Sq.bSemi).size ≤ _
  rw [ByteArray.size_append]
  have : Sq.bSemi.size = 1 := rfl
  omega
theorem Sq.listed_size (cols : List Sq.Col) (items : List ByteArray) (hi : items.length ≤ 163) : ∀ rows : List (List Sq.Val), (∀ r ∈ rows, Sq.okRow r) → (Sq.listed cols items rows).length ≤ 170000 * rows.length
  | [], _ => by simp [Sq.listed]
  | r :: q, h => by
    have h1 := Sq.rowText_len cols r items (h r (by simp))
    have h2 := Sq.listed_size cols items hi q (fun x hx => h x (by simp [hx]))
    have e : Sq.listed cols items (r :: q) = (Sq.rowText cols r items ++ [59]) ++ Sq.listed cols items q := by unfold Sq.listed; simp
    rw [e]
    simp only [List.length_append, List.length_cons, List.length_nil]
    omega
theorem Sq.showN_size (cols : List Sq.Col) (rows : List (List Sq.Val)) (st : Sq.PSt) (hok : ∀ r ∈ rows, Sq.okRow r) (hn : rows.length ≤ 100) (hi : st.items.length ≤ 163) (hc : cols.length ≤ 4) : (Sq.showN cols rows st).size ≤ 100000000 := by
  unfold Sq.showN
  split
  · exact Sq.counted_size _ (by omega) (by omega)
  · split
    · have h1 := Sq.sumRows_bd cols st.items (by omega) _ hok
      have h2 := itoa_size (Sq.sumRows cols st.items rows) (by omega) (by omega)
      rw [ByteArray.size_append]
      have : Sq.bSemi.size = 1 := rfl
      omega
    · split
      · have h1 := Sq.listed_size cols (cols.map Sq.Col.name) (by simp; omega) _ hok
        rw [Sq.sizeL]
        show (Sq.listed _ _ _).length ≤ _
        omega
      · have h1 := Sq.listed_size cols st.items hi _ hok
        rw [Sq.sizeL]
        show (Sq.listed _ _ _).length ≤ _
        omega
theorem Sq.metN_sub (cols : List Sq.Col) (rows : List (List Sq.Val)) (l : List Sq.StepS) : (Sq.metN cols rows l).Sublist rows := List.filter_sublist
theorem Sq.replyN_size {x : Sq.Tree} (hg : Sq.goodN x) (sql : ByteArray) : (Sq.decideN x sql).reply.size ≤ 100000000 := by
  have hpb := Sq.parse_bd sql
  have hrd := (Sq.parse_read sql).1.few
  unfold Sq.decideN
  split
  · exact Sq.refused_size _ (by omega) (by omega)
  · unfold Sq.decideStN
    split
    · unfold Sq.createN
      repeat (first | exact Sq.refused_size _ (by decide) (by decide) | exact Sq.counted_size 0 (by decide) (by decide) | split)
    · split
      · rename_i t hx
        have ht : t ∈ Sq.tabsOf x := Sq.findN_mem hx
        have hcb := Sq.check_bd t.cols (Sq.parse sql).2
        have hl := Sq.rowsOf_len hg.fit t
        have hs := Sq.metN_sub t.cols (Sq.rowsOf x t) (Sq.parse sql).2.wher
        have hsl := hs.length_le
        unfold Sq.decideTabN
        split
        · exact Sq.refused_size _ (by omega) (by omega)
        · split
          · unfold Sq.insertN
            repeat (first | exact Sq.refused_size _ (by decide) (by decide) | exact Sq.counted_size 1 (by decide) (by decide) | split)
          · split
            · unfold Sq.updateN
              cases hu : Sq.updateFrom t.cols (Sq.parse sql).2.sets (Sq.metN t.cols (Sq.rowsOf x t) (Sq.parse sql).2.wher) [] with
              | none => exact Sq.refused_size _ (by decide) (by decide)
              | some puts =>
                have hl := (Sq.updateFrom_mem _ _ _ _ _ hu).2
                simp at hl
                exact Sq.counted_size _ (by omega) (by omega)
            · split
              · exact Sq.counted_size _ (by omega) (by omega)
              · exact Sq.showN_size _ _ _ (fun r hr => Sq.rowsOf_ok hg.fit t r (hs.subset hr)) (by omega) (by omega) (Sq.tabsOf_cols t ht)
      · exact Sq.refused_size _ (by decide) (by decide)

/-- Is it a reply of an error? -/
def Sq.bang (s : ByteArray) : Bool := s.data.toList.head? == some 33
theorem Sq.dec_head (u : Nat) : (Lib.decDigits u).head? ≠ some 33 ∧ Lib.decDigits u ≠ [] := by
  induction u using Nat.strongRecOn with
  | ind u ih =>
    rw [Lib.decDigits]
    split
    · rename_i h
      refine ⟨?_, by simp⟩
      intro e
      simp at e
      have := congrArg UInt8.toNat e
      simp at this
      omega
    · rename_i h
      have h1 := ih (u / 10) (by omega)
      cases hd : Lib.decDigits (u / 10) with
      | nil => exact absurd hd h1.2
      | cons a r => rw [hd] at h1; exact ⟨h1.1, by simp⟩
theorem Sq.bang_counted (n : Nat) : Sq.bang (Sq.counted n) = false := by
  have h := Sq.dec_head n
  have e : (Sq.counted (n : Int)).data.toList = Lib.decDigits n ++ [59] := by
    show (Sq.itoa n ++ Sq.bSemi).data.toList = _
    rw [ByteArray.data_append, Array.toList_append]
    show Lib.itoa (n : Int) ++ _ = _
    unfold Lib.itoa
    rw [if_neg (by omega), Int.toNat_natCast]
    rfl
  unfold Sq.bang
  rw [e]
  cases hd : Lib.decDigits n with
  | nil => exact absurd hd h.2
  | cons a r => rw [hd] at h; simpa using h.1

def Sq.idle (o : Sq.Out) : Prop := o.makes = false ∧ o.puts = [] ∧ o.cuts = []
theorem Sq.idle_refused (e : Int) : Sq.idle (Sq.refused e) := ⟨rfl, rfl, rfl⟩
theorem Sq.decideN_kind (x : Sq.Tree) (sql : ByteArray) : Sq.idle (Sq.decideN x sql) ∨ ∃ n : Nat, (Sq.decideN x sql).reply = Sq.counted n := by
  unfold Sq.decideN
  split
  · exact Or.inl (Sq.idle_refused _)
  · unfold Sq.decideStN
    split
    · unfold Sq.createN
      repeat (first | exact Or.inl (Sq.idle_refused _) | exact Or.inr ⟨0, rfl⟩ | split)
    · split
      · unfold Sq.decideTabN
        split
        · exact Or.inl (Sq.idle_refused _)
        · split
          · unfold Sq.insertN
            repeat (first | exact Or.inl (Sq.idle_refused _) | exact Or.inr ⟨1, rfl⟩ | split)
          · split
            · unfold Sq.updateN
              generalize Sq.updateFrom _ _ _ _ = u
              cases u with
              | some puts => exact Or.inr ⟨_, rfl⟩
              | none => exact Or.inl (Sq.idle_refused _)
            · split
              · exact Or.inr ⟨_, rfl⟩
              · exact Or.inl ⟨rfl, rfl, rfl⟩
      · exact Or.inl (Sq.idle_refused _)
theorem Sq.idle_after (x : Sq.Tree) (sql : ByteArray) (h : Sq.idle (Sq.decideN x sql)) : Sq.afterN x sql = x := Sq.applyN_none x _ h.1 h.2.1 h.2.2
theorem Sq.still_refused (x : Sq.Tree) (sql : ByteArray) (h : Sq.bang (Sq.decideN x sql).reply = true) : Sq.afterN x sql = x := by
  rcases Sq.decideN_kind x sql with h1 | ⟨n, h1⟩
  · exact Sq.idle_after x sql h1
  · rw [h1, Sq.bang_counted] at h; cases h
theorem Sq.still_asks (x : Sq.Tree) (sql : ByteArray) (h0 : 0 < sql.size) (h1 : Sq.byteAt sql 0 = 115) : Sq.afterN x sql = x := by
  apply Sq.idle_after
  have hp := Sq.parse_asks sql h0 h1
  unfold Sq.decideN
  split
  · exact Sq.idle_refused _
  · rename_i h2
    rcases hp with hp | hp
    · exact absurd (by simpa using hp) h2
    · unfold Sq.decideStN
      rw [hp]
      split
      · rename_i h3; simp at h3
      · split
        · unfold Sq.decideTabN
          rw [hp]
          split
          · exact Sq.idle_refused _
          · exact ⟨rfl, rfl, rfl⟩
        · exact Sq.idle_refused _

end Go.Proofs.YtamkfbelpfpjcaaGreatDoor
