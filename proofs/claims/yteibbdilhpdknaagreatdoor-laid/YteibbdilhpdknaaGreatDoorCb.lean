import Derived.Test.YteibbdilhpdknaaGreatDoorBz
import Derived.Test.YteibbdilhpdknaaGreatDoorBy
import Derived.Test.YteibbdilhpdknaaGreatDoorBx
set_option linter.unusedVariables false
set_option linter.unusedSimpArgs false

namespace Go.Proofs.YteibbdilhpdknaaGreatDoor
open Go.RowKit

theorem Sq.listed_size (cols : List Sq.Col) (items : List ByteArray) (hi : items.length ≤ 163) : ∀ rows : List (List Sq.Val), (∀ r ∈ rows, Sq.okRow r) → (Sq.listed cols items rows).length ≤ 170000 * rows.length
  | [], _ => Nat.le_refl _
  | r :: q, h => by
    have h1 := Sq.rowText_len cols r items (h r (by simp))
    have h2 := Sq.listed_size cols items hi q (fun x hx => h x (by simp [hx]))
    rw [Sq.listed_cons]
    simp only [List.length_append, List.length_cons]
    omega
theorem Sq.goodRow.ok {r : List Sq.Val} (h : Sq.goodRow r) : Sq.okRow r := fun v hv => (h.vals v hv).ok
theorem Sq.drop_sorted (rows : List (List Sq.Val)) (j : Nat) (h : j < rows.length) (hs : Sq.sorted rows) : ∀ r ∈ rows.drop (j + 1), Sq.keyOf rows[j] < Sq.keyOf r := by
  have h1 : Sq.sorted (rows.drop j) := List.Pairwise.sublist (List.drop_sublist j rows) hs
  rw [List.drop_eq_getElem_cons h] at h1
  exact (List.pairwise_cons.1 h1).1

set_option maxRecDepth 100000 in
set_option maxHeartbeats 2000000 in
theorem risen_any (v : Value) (l : List ByteArray) (w : World) (h : Strs w v l) (hT : Tbl w) :
    Calls Tryz.prog 9 #[v] w fun e w' => e = .returned (.bool true) ∧ Below w.heap.size w w' := by
  have HS := hd h
  have HT := hd hT
  clear h hT
  go_enter Tryz.func9, Tryz.ntmps9
  go_wp2_with fail
  refine (awake_any w HT.out).mono ?_
  rintro e w1 ⟨rfl, hb1⟩
  have hz1 := hb1.size
  have HB1 := hd hb1
  have HS1 := hd (HS.out.below hb1 (Nat.le_refl _))
  have HT1 := hd (HT.out.below hb1)
  clear hb1
  go_wp2_with fail
  refine (world_any l v w1 HS1.out HT1.out).mono ?_
  rintro e w2 (⟨hbig, rfl, hw2⟩ | ⟨wb, sb, hno, rfl, hW, hb2⟩)
  · subst hw2
    have HBG := hd hbig
    clear hbig
    go_wp2_with fail
    refine (none_any l v _ HS1.out).mono ?_
    rintro e w3 ⟨rfl, hw3⟩
    rw [hw3, HBG.out]
    clear hw3 w3
    go_wp2
    go_ret
    exact ⟨rfl, HB1.out⟩
  · have hz2 := hb2.size
    have hblk := hW.blk
    have hlw := lt_blk hblk
    have p0 := cell_blk hblk 0
    simp at p0
    have hgood : Sq.good (Sq.afterAll [] l) := Sq.good_afterAll _ Sq.good_nil
    obtain ⟨db, hdb⟩ : ∃ x, x = Sq.afterAll [] l := ⟨_, rfl⟩
    have hD := hW.db
    rw [← hdb] at hgood hD
    have hsl := hD.lt
    have HD := hd hD
    have HG := hd hgood
    have HBLK := hd hblk
    have HB2 := hd (HB1.out.trans (hb2.mono hz1))
    have HT2 := hd (HT1.out.below hb2)
    have hsc := Sq.star_count hgood
    have HSC := hd hsc
    clear hno hW hb2 hblk hgood hdb hD hsc
    go_wp2_with fail
    refine (Peek_any sb db Sq.selStar w2 HD.out HG.out HT2.out).mono ?_
    rintro e w3 ⟨rfl, hb3⟩
    have hz3 := hb3.size
    obtain ⟨ra, hra⟩ : ∃ x, x = (Sq.decide db Sq.selStar).reply := ⟨_, rfl⟩
    obtain ⟨rb, hrb⟩ : ∃ x, x = (Sq.decide db Sq.selCount).reply := ⟨_, rfl⟩
    have hsc := HSC.out
    rw [← hra, ← hrb] at hsc
    rw [← hra]
    have HRB := hd hrb
    have HSC2 := hd hsc
    unfold answer
    have hb3a : ∀ o, Below w2.heap.size w2 (w3.alloc o) := fun o => Below.alloc (B := w2.heap.size) hb3 hz3 o
    have HB3A := hd hb3a
    have p0' : w3.cell? ⟨wb, 0, none⟩ = some (.pointer (some ⟨sb, 0, none⟩)) := ((bcell hb3).1 wb 0 hlw).trans p0
    have hl3 : wb < w3.heap.size := by omega
    clear hb3 hb3a hra hrb hsc p0
    go_wp2_with fail
    refine (Peek_any sb db Sq.selCount _ (HD.out.below (HB3A.out _)) HG.out (HT2.out.below (HB3A.out _))).mono ?_
    rintro e w4 ⟨rfl, hb4⟩
    rw [← HRB.out]
    unfold answer
    have hk4 := (hb4.block w3.heap.size (by simp)).trans (heap_alloc_new w3 _)
    have q0 := cell_blk hk4 0
    simp at q0
    have hlk := lt_blk hk4
    have hz4 := hb4.size
    simp at hz4
    have HB4 := hd ((HB2.out.trans ((HB3A.out _).mono (by omega))).trans (hb4.mono (by simp; omega)))
    clear hb4 p0' hk4
    rcases HSC2.out with ⟨e1, e2⟩ | ⟨t, ht, hr60, e1, e2⟩
    · have f1 : ra = ⟨#[33, 52]⟩ := Sq.bytes_eq e1
      have f2 : rb = ⟨#[33, 52]⟩ := Sq.bytes_eq e2
      subst f1
      subst f2
      clear e1 e2 HSC2 HRB
      go_wp2_with (go_at_call 22; refine (krefused_any ⟨#[33, 52]⟩ _ (by decide)).mono ?_; rintro e w' ⟨rfl, hw'⟩; rw [hw', show Sq.bang ⟨#[33, 52]⟩ = true from by decide +kernel]; clear hw' w')
      go_ret
      exact ⟨rfl, Below.alloc (B := w.heap.size) HB4.out (by omega) _⟩
    · have hcols := ht.cols
      have hsz : ra.size ≤ 100000000 := by
        have h1 := Sq.listed_size t.cols (t.cols.map Sq.Col.name) (by simp; omega) t.rows (fun r hr => (ht.rows r hr).ok)
        rw [Sq.size_list, e1]
        omega
      have hbang : Sq.bang ra = false := by
        unfold Sq.bang
        rw [e1]
        have := Sq.listed_bang t.cols ht.head t.rows ht.rows
        simpa using this
      have hnum : Sq.number rb = ((t.rows.length : Int), true) := Sq.number_itoa _ (by omega) (by omega) rb e2
      have hrbs : rb.size ≤ 1000000000 := by
        have h1 := Lib.itoa_length_le (t.rows.length : Int) (by omega) (by omega)
        rw [Sq.size_list, e2]
        simp
        omega
      have HBANG := hd hbang
      have HNUM := hd hnum
      have HT0 := hd ht
      have HE1 := hd e1
      have hall : ∀ r ∈ t.rows.drop 0, (-2147483649 : Int) < Sq.keyOf r := fun r hr => by have := Sq.keyOf_bd r (ht.rows r hr); omega
      have HALL := hd hall
      clear hbang hnum ht e1 e2 HSC2 HSC HRB hall
      go_wp2_with (go_at_call 22; refine (krefused_any ra _ (by omega)).mono ?_; rintro e w' ⟨rfl, hw'⟩; rw [hw', HBANG.out]; clear hw' w')
      go_loop [8, 9, 10] (fun la n x => ∃ (j : Nat) (lv : Int) (sj : ByteArray), j ≤ t.rows.length ∧ -2147483649 ≤ lv ∧ lv ≤ 2147483647 ∧ sj.size ≤ 100000000 ∧ la = .int .i64 lv ∧ n = .int .i64 j ∧ x = .string sj ∧ Hid (sj.data.toList = Sq.listed t.cols (t.cols.map Sq.Col.name) (t.rows.drop j) ∧ ∀ r ∈ t.rows.drop j, lv < Sq.keyOf r)) (fun _ n _ => t.rows.length - (intOf n).toNat)
      case atStart => exact ⟨0, -2147483649, ra, Nat.zero_le _, by decide, by decide, hsz, rfl, rfl, rfl, HE1.out, HALL.out⟩
      case round =>
        obtain ⟨j, lv, sj, hj, hlv0, hlv1, hsj, rfl, rfl, rfl, HR⟩ := hrel
        by_cases hlt : j < t.rows.length
        · have hdr := List.drop_eq_getElem_cons hlt
          have hmem : t.rows[j] ∈ t.rows := List.getElem_mem hlt
          have hgr := HT0.out.rows _ hmem
          have hkb := Sq.keyOf_bd _ hgr
          have h1 := HR.out.1
          have h2 := HR.out.2 t.rows[j] (by rw [hdr]; exact List.mem_cons_self)
          rw [hdr] at h1
          have hkey := Sq.key_listed t.cols HT0.out.head t.rows[j] _ hgr sj h1
          have hbeh : Sq.behind false sj.data.toList = Sq.listed t.cols (t.cols.map Sq.Col.name) (t.rows.drop (j + 1)) := by rw [h1]; exact Sq.behind_listed _ _ _ _ hgr.vals
          have hpos : 0 < sj.size := by
            rw [Sq.size_list, h1, Sq.listed_cons, List.length_append, List.length_cons]; omega
          have hnext := Sq.drop_sorted t.rows j hlt HT0.out.sorted
          have hbs : (Sq.bytesOf (Sq.behind false sj.data.toList)).size ≤ 100000000 := by
            rw [hbeh]
            have h3 := Sq.listed_size t.cols (t.cols.map Sq.Col.name) (by simp; omega) (t.rows.drop (j + 1)) (fun r hr => (HT0.out.rows r (List.mem_of_mem_drop hr)).ok)
            have h4 : (t.rows.drop (j + 1)).length ≤ 60 := by rw [List.length_drop]; omega
            rw [Sq.size_list]
            show (Sq.listed _ _ _).length ≤ _
            omega
          obtain ⟨kr, hkr⟩ : ∃ x, x = Sq.keyOf t.rows[j] := ⟨_, rfl⟩
          rw [← hkr] at hkey h2 hkb
          simp only [← hkr] at hnext
          have HKEY := hd hkey
          have HBEH := hd hbeh
          have HNEXT := hd hnext
          obtain ⟨sn, hsn⟩ : ∃ x, x = Sq.bytesOf (Sq.behind false sj.data.toList) := ⟨_, rfl⟩
          rw [← hsn] at hbs
          have HSN := hd hsn
          clear hdr hmem hgr h1 hkey hbeh hnext hkr hsn
          have hnl : ¬ kr ≤ lv := by omega
          go_wp2_with (first
            | (go_at_call 24; refine (key_any sj _ hsj).mono ?_; rintro e w' ⟨rfl, hw'⟩; rw [hw', HKEY.out]; clear hw' w')
            | (go_at_call 23; refine (behind_any sj _ (by omega)).mono ?_; rintro e w' ⟨rfl, hw'⟩; rw [hw', ← HSN.out]; clear hw' w'))
          go_round
          case rel => exact ⟨j + 1, kr, sn, by omega, by omega, by omega, hbs, rfl, by go_num, rfl, by rw [HSN.out]; exact HBEH.out, HNEXT.out⟩
          case measure => simp [intOf]; omega
        · have hz : sj.size = 0 := by
            rw [Sq.size_list, HR.out.1, List.drop_eq_nil_of_le (by omega)]; rfl
          have hje : j = t.rows.length := by omega
          subst hje
          have hnp : ¬ (0 : Int) < (sj.size : Int) := by omega
          clear hz hsj
          go_wp2_with (go_at_call 25; refine (number_any rb _ hrbs).mono ?_; rintro e w' ⟨rfl, hw'⟩; rw [hw', HNUM.out]; clear hw' w')
          go_ret
          exact ⟨rfl, Below.alloc (B := w.heap.size) HB4.out (by omega) _⟩

end Go.Proofs.YteibbdilhpdknaaGreatDoor
