import Derived.Test.YtamkfbelpfpjcaaGreatDoorRows
import Derived.ProofKit
import Derived.LaidMore
import Derived.ChangeSame
import Derived.ChangeVars
import Derived.JoinedOf
import Derived.RowKit
import Derived.RowKitTokens
import Derived.LaidLaws
import Derived.LaidHandle
import Derived.Lib.LaidTab
import Derived.OpenShut
import Derived.Carry
import Derived.SizedLaws
import Derived.SliceStrings
import Derived.Stop.Joined
import Derived.Stop.LaidErr
import Derived.Test.YtamkfbelpfpjcaaGreatDoorGj
import Derived.Test.YtamkfbelpfpjcaaGreatDoorGu
import Derived.Test.YtamkfbelpfpjcaaGreatDoorHv
set_option linter.unusedVariables false
set_option linter.unusedSimpArgs false

namespace Go.Proofs.YtamkfbelpfpjcaaGreatDoor
open Go.ChangeShapes Go.WideShapes Go.RowKit

theorem Tryz.own : ownKnob Tryz.prog.godebug = none := by kernel_rfl
theorem Tryz.laidOut : laidOutB Tryz.prog = true := by kernel_rfl
theorem Tryz.gPow : Tryz.prog.globalNamed "internal/strconv.uint64pow10" = some 1 := by kernel_rfl
theorem Tryz.tPow : (Tryz.prog.globals[1]?).map (·.type) = some 206 := by kernel_rfl
theorem Tryz.cellsU64 : Tryz.prog.cellsOf 191 = 1 := by kernel_rfl
theorem Tryz.cellsPow : Tryz.prog.cellsOf 206 = 20 := by kernel_rfl

theorem Tryz.gRnd : Tryz.prog.globalNamed "sqlproof/digest.rounds" = some 0 := by kernel_rfl
theorem Tryz.tRnd : (Tryz.prog.globals[0]?).map (·.type) = some 169 := by kernel_rfl
theorem Tryz.cellsU32 : Tryz.prog.cellsOf 166 = 1 := by kernel_rfl
theorem Tryz.cellsRnd : Tryz.prog.cellsOf 169 = 64 := by kernel_rfl

/-- What the rows list. -/
def laid4 : List (String × DataW Unit) := [("math/bits.deBruijn32tab", Rows.laid_math_bits_deBruijn32tab), ("math/bits.deBruijn64tab", Rows.laid_math_bits_deBruijn64tab), ("internal/strconv.uint64pow10", Rows.laid_internal_strconv_uint64pow10), ("sqlproof/digest.rounds", Rows.laid_sqlproof_digest_rounds)]
theorem laid_rnd : (Rows.laid_sqlproof_digest_rounds : DataW Unit) = Lib.tabData .u32 Sq.roundTab := by rfl
theorem laid_pow : (Rows.laid_internal_strconv_uint64pow10 : DataW Unit) = Lib.tabData .u64 Lib.pow10Tab := by rfl
theorem door_met (os : Os) (args : Array Value) : laidMetH Tryz.prog laid4 ((World.doorLaid Tryz.prog 400 os).forCall (fun _ _ => 0) ⟨#[], args, []⟩).memory :=
  laidMetH_of_parts3 (fuel := 8) (laidMet_of_run' 8 (by kernel_rfl) (by kernel_rfl)) (by kernel_rfl) (by kernel_rfl)
theorem tbl_of_laid {W : World} (h : laidMetH Tryz.prog laid4 W) : Tbl W := by
  rw [MakeChecks.laidMetH_plain _ _ _ (by kernel_rfl)] at h
  have h2 := laidMet.tail (laidMet.tail h)
  rw [laid_pow] at h2
  exact Lib.tabIs_of_head Tryz.gPow Tryz.tPow Tryz.underlying206 Tryz.underlying191 Tryz.cellsU64 Tryz.cellsPow h2

theorem rnd_of_laid {W : World} (h : laidMetH Tryz.prog laid4 W) : Rnd W := by
  rw [MakeChecks.laidMetH_plain _ _ _ (by kernel_rfl)] at h
  have h2 := laidMet.tail (laidMet.tail (laidMet.tail h))
  rw [laid_rnd] at h2
  exact Lib.tabIs_of_head Tryz.gRnd Tryz.tRnd Tryz.underlying169 Tryz.underlying166 Tryz.cellsU32 Tryz.cellsRnd h2

set_option maxRecDepth 100000 in
theorem filled_lifted (hk : ∀ (c : Int) (w : World), -9223372036854775808 ≤ c → c ≤ 9223372036854775807 → Tbl w → Rnd w → Calls Tryz.prog 4 #[.int .i64 c] w fun e w' => e = .returned (.bool true) ∧ Below w.heap.size w w')
    (os : Os) (started : os.Started) (H : Type) (enc : TypeId × Value → H) :
    ReturnsInHanded {} Tryz.checked os 4 .any (fun w args => (Rows.filledSpec.pre enc Tryz.prog Tryz.f4 [] false w args ∧ laidMetH Tryz.prog laid4 w) ∧ sizedMet enc Tryz.prog Tryz.f4 (OpenSpec.ofChange Rows.filledSpec) false w args)
      (Rows.filledSpec.post enc Tryz.prog Tryz.f4 false true false false) := by
  refine returnsInHanded_of_change_and (C := Tryz.checked) (X := fun w _ => laidMetH Tryz.prog laid4 w) (fun _ _ _ hh h => h.of_heap hh) Tryz.own started (by kernel_rfl) Tryz.func4
    (ChangeSpec.witness_shaped (enc := enc) (C := Tryz.checked) (os := os) (X := fun w _ => laidMetH Tryz.prog laid4 w) false (World.doorLaid Tryz.prog 400 os) #[.int .i64 0] 8 rfl (World.shaped_of_RefB (by kernel_rfl) (by kernel_rfl)) (by kernel_rfl) (by kernel_rfl) (by kernel_rfl) (door_met os _)) ?_
  intro W base args ds gs before hval0 hW _ _ hL _
  have hval : ∀ (j : Nat) t v, Tryz.f4.params[j]? = some t → args[j]? = some v → Value.okWide Tryz.prog W .any base t v := hval0
  have hW' := hW
  obtain ⟨p, q, hA0, hV, rfl, hfz, hnd⟩ := hW
  have hA : DataW.TrodAll enc Tryz.prog W 0 (fun _ => true) true Tryz.f4.params.toList args.toList ds p := hA0
  rw [Tryz.params4] at hA hval
  obtain ⟨v0, d0, rfl, rfl, h0⟩ := trodAll_one hA
  obtain ⟨rfl, rfl⟩ := trodVars_none hV
  obtain ⟨n, rfl, rfl, rfl, hwn⟩ := open_int Tryz.underlying3 (hval 0 3 v0 rfl rfl) h0
  have hn : -9223372036854775808 ≤ n ∧ n ≤ 9223372036854775807 := by
    have h9 := hwn
    unfold Lit.wf at h9
    simp only [Bool.and_eq_true, decide_eq_true_eq] at h9
    exact h9
  clear hA0 hval0
  simp only [List.append_nil] at hW'
  refine (hk n W hn.1 hn.2 (tbl_of_laid hL) (rnd_of_laid hL)).mono ?_
  rintro e W' ⟨rfl, bel⟩
  refine ⟨_, rfl, _, _, _, [], [], [], hW', ?_, ?_, ?_, bel.frame _, fun h => by cases h⟩
  · exact trodAll_mk1 (shut_bool Tryz.underlying4 true)
  · exact trodAll_mk1 (shut_int Tryz.underlying3 hwn)
  · rfl

end Go.Proofs.YtamkfbelpfpjcaaGreatDoor

namespace Go.Proofs.YtamkfbelpfpjcaaGreatDoor
open Go.ChangeShapes Go.WideShapes Go.ChangeMaps Go.RowKit

theorem Tryz.cellsStr : Tryz.prog.cellsOf 9 = 1 := by kernel_rfl
theorem Tryz.bytesStr : Tryz.prog.bytesOf 9 = 16 := by kernel_rfl
theorem cell_in {w : World} {a : Addr} {v : Value} (h : w.cell? a = some v) : a.block < w.heap.size := by
  rcases Nat.lt_or_ge a.block w.heap.size with h' | h'
  · exact h'
  · simp [World.cell?, Array.getElem?_eq_none h'] at h
theorem weightsAll_in {H : Type} {P : Program} {e : TypeId} : ∀ {l : List (DataW H)} {d : DataW H}, d ∈ l → ∀ n ∈ d.weights P e, n ∈ DataW.weightsAll P e l
  | d0 :: l, d, hd, n, hn => by
    simp only [DataW.weightsAll, List.mem_append]
    rcases List.mem_cons.1 hd with rfl | h
    · exact Or.inl hn
    · exact Or.inr (weightsAll_in h n hn)
theorem open_strs {H : Type} {enc : TypeId × Value → H} {W : World} {a0 : Option Addr} {len cap fuel : Nat} {x : DataW H × List MemPlace} {ts : List TypeId} {ds : List (DataW H)} {j : Nat}
    (hf : DataW.trod enc Tryz.prog W 0 (fun _ => true) true fuel 22 [.slice a0 len cap] = some x)
    (hsz : (DataW.weightsEach Tryz.prog ts ds).all (· ≤ reachBytes) = true) (ht : ts[j]? = some 22) (hd : ds[j]? = some x.1) : ∃ l, Strs W (.slice a0 len cap) l := by
  have hrb : reachBytes ≤ 1000000000000000 := by decide
  rcases open_strings Tryz.underlying22 Tryz.underlying9 Tryz.cellsStr hf with ⟨hcs, hx⟩ | ⟨a, len', cap', ss, hcs, _, hl, hm, hz, hx, hcell, _⟩
  · simp at hcs
    obtain ⟨rfl, rfl, rfl⟩ := hcs
    exact ⟨[], none, 0, rfl, by simp, by simp, fun k hk => by simp at hk⟩
  · simp at hcs
    obtain ⟨rfl, rfl, rfl⟩ := hcs
    subst hx
    simp only [if_true] at hz
    have hlen : (ss.take len).length = len := by rw [List.length_take]; omega
    have h1 := sized_slice hsz ht hd Tryz.underlying22
    rw [Tryz.bytesStr] at h1
    simp only [strs, List.length_map] at h1
    refine ⟨ss.take len, some a, cap, by rw [hlen], by omega, fun s hs => ?_, fun k hk => ?_⟩
    · have h2 := List.all_eq_true.1 hsz s.size (DataW.weights_mem_each ht hd _ (by
        simp only [DataW.weights, Tryz.underlying22, List.mem_cons, List.mem_append]
        refine Or.inr (Or.inl (weightsAll_in (d := .lit (.string s.data.toList)) ?_ _ (by simp [DataW.weights])))
        unfold strs
        exact List.mem_map.2 ⟨s, hs, rfl⟩))
      have h3 : s.size ≤ reachBytes := of_decide_eq_true h2
      omega
    · rw [hlen] at hk
      have hc := hcell k (by omega)
      refine ⟨a, rfl, by have := cell_in (hcell 0 (by omega)); rwa [show (a.add 0).block = a.block from by unfold Addr.add; split <;> rfl] at this, ?_⟩
      rw [hc]
      congr 2
      rw [List.getElem_take]
      simp [List.getD, show k < ss.length by omega]

set_option maxRecDepth 100000 in
theorem steady_lifted (hk : ∀ (n0 : Int) (v1 : Value) (l1 : List ByteArray) (s2 : ByteArray) (w : World), -9223372036854775808 ≤ n0 → n0 ≤ 9223372036854775807 → Strs w v1 l1 → s2.size ≤ 1000000000000000 → Tbl w → Rnd w → Calls Tryz.prog 3 #[.int .i64 n0, v1, .string s2] w fun e w' => e = .returned (.bool true) ∧ Below w.heap.size w w')
    (os : Os) (started : os.Started) (H : Type) (enc : TypeId × Value → H) :
    ReturnsInHanded {} Tryz.checked os 3 .any (fun w args => (Rows.steadySpec.pre enc Tryz.prog Tryz.f3 [] false w args ∧ laidMetH Tryz.prog laid4 w) ∧ sizedMet enc Tryz.prog Tryz.f3 (OpenSpec.ofChange Rows.steadySpec) false w args)
      (Rows.steadySpec.post enc Tryz.prog Tryz.f3 false true false false) := by
  refine returnsInHanded_of_change_and (C := Tryz.checked) (X := fun w _ => laidMetH Tryz.prog laid4 w) (fun _ _ _ hh h => h.of_heap hh) Tryz.own started (by kernel_rfl) Tryz.func3
    (ChangeSpec.witness_shaped (enc := enc) (C := Tryz.checked) (os := os) (X := fun w _ => laidMetH Tryz.prog laid4 w) false (World.doorLaid Tryz.prog 400 os) #[.int .i64 0, .slice none 0 0, .string ⟨#[]⟩] 8 rfl (World.shaped_of_RefB (by kernel_rfl) (by kernel_rfl)) (by kernel_rfl) (by kernel_rfl) (by kernel_rfl) (door_met os _)) ?_
  intro W base args ds gs before hval0 hW _ hsz0 hL _
  have hsz : (DataW.weightsEach Tryz.prog (Tryz.f3.params.toList ++ Rows.steadySpec.plain.varTypes Tryz.prog) (ds ++ gs)).all (· ≤ reachBytes) = true := hsz0
  have hval : ∀ (j : Nat) t v, Tryz.f3.params[j]? = some t → args[j]? = some v → Value.okWide Tryz.prog W .any base t v := hval0
  have hW' := hW
  obtain ⟨p, q, hA0, hV, rfl, hfz, hnd⟩ := hW
  have hA : DataW.TrodAll enc Tryz.prog W 0 (fun _ => true) true Tryz.f3.params.toList args.toList ds p := hA0
  rw [Tryz.params3] at hA hval hsz
  obtain ⟨v0, v1, v2, d0, d1, d2, p0, p1, p2, rfl, rfl, rfl, h0, h1, h2⟩ := trodAll_three hA
  obtain ⟨rfl, rfl⟩ := trodVars_none hV
  obtain ⟨n0, rfl, rfl, rfl, wn0⟩ := open_int Tryz.underlying3 (hval 0 3 v0 rfl rfl) h0
  have hn0 : -9223372036854775808 ≤ n0 ∧ n0 ≤ 9223372036854775807 := by
    have h9 := wn0
    unfold Lit.wf at h9
    simp only [Bool.and_eq_true, decide_eq_true_eq] at h9
    exact h9
  obtain ⟨a1, len1, cap1, rfl⟩ := okWide_slice Tryz.underlying22 (hval 1 22 v1 rfl rfl)
  have h1k := h1
  obtain ⟨fuel1, hf1⟩ := h1
  obtain ⟨s2, rfl, rfl, rfl, ws2⟩ := open_string Tryz.underlying9 (hval 2 9 v2 rfl rfl) h2
  clear hA0 hval0
  simp only [List.append_nil] at hW' hsz
  have hlt : ∀ x ∈ p1, x.block < W.heap.size := fun x hx => hW'.lt x (by simp [hx])
  obtain ⟨l1, hl1⟩ := open_strs hf1 hsz (j := 1) rfl rfl
  have hs2 : s2.size ≤ 1000000000000000 := by have h9 := sized_string hsz (j := 2) rfl rfl; have h8 : reachBytes ≤ 1000000000000000 := (by decide); have h7 : s2.data.toList.length = s2.size := (by simp); omega
  refine (hk n0 _ l1 s2 W hn0.1 hn0.2 hl1 hs2 (tbl_of_laid hL) (rnd_of_laid hL)).mono ?_
  rintro e W' ⟨rfl, bel⟩
  refine ⟨_, rfl, _, _, _, [], [] ++ (p1 ++ []), [], hW', ?_, ?_, ?_, bel.frame _, fun h => by cases h⟩
  · exact trodAll_mk1 (shut_bool Tryz.underlying4 true)
  · exact trodAll_mk3 (shut_int Tryz.underlying3 wn0) (Below.trod Tryz.laidOut (by kernel_rfl) (of_decide_eq_true (by kernel_rfl)) h1k bel (fun x hx => hlt x (by simpa using hx))) (shut_string Tryz.underlying9 ws2)
  · rfl

end Go.Proofs.YtamkfbelpfpjcaaGreatDoor
