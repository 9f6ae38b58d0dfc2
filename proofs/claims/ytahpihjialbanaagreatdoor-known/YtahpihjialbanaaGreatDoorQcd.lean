import Derived.Test.YtahpihjialbanaaGreatDoorQbm
import Derived.Test.YtahpihjialbanaaGreatDoorQcc
set_option linter.unusedVariables false
set_option linter.unusedSimpArgs false
set_option maxRecDepth 100000
set_option maxHeartbeats 2000000
namespace Go.Proofs.YtahpihjialbanaaGreatDoor
section
open Go.RowKit
theorem Sq.jQhl:∀(l:List ByteArray) (db:List Sq.Tab) (j:Nat) (h:j < l.length),(Sq.replies db l)[j]?=some (Sq.decide (Sq.afterAll db (l.take j)) l[j]).reply.data.toList
 | s :: r,db,0,_=>rfl
 | s :: r,db,j+1,h=>by
  rw[Sq.replies,List.getElem?_cons_succ,Sq.jQhl r (Sq.after db s) j (by simpa using h)]
  rfl
theorem Sq.jQpx {a b:ByteArray}(h:a.data.toList=b.data.toList):a=b:=by
 cases a;cases b;simp at h;rw[h]
theorem Sq.jQsp (k:Nat)(hk:k < 5)(j:Nat)(h:j < (Sq.lot k).length):(Sq.decide (Sq.afterAll [] (((Sq.lot k).map Prod.fst).take j)) (Sq.lot k)[j].1).reply=(Sq.lot k)[j].2:=by
 apply Sq.jQpx
 have h1:=Sq.jQhl ((Sq.lot k).map Prod.fst) [] j (by simpa using h)
 rw[Sq.jQqO k hk] at h1
 rw[List.getElem?_map,List.getElem?_eq_getElem h] at h1
 simp at h1
 simpa using h1.symm
theorem Sq.jQhV (db:List Sq.Tab)(l:List ByteArray)(j:Nat)(h:j < l.length):Sq.afterAll db (l.take (j+1))=Sq.after (Sq.afterAll db (l.take j)) l[j]:=by
 unfold Sq.afterAll
 rw[List.take_succ_eq_append_getElem h,List.foldl_append]
 rfl
theorem PairsAt.at {B:Nat}{w:World}{v:Value}{l:List (ByteArray×ByteArray)}(h:PairsAt B w v l)(k:Nat)(hk:k < l.length):∃g cap,v=.slice (some ⟨g,0,none⟩) l.length cap∧g < w.heap.size∧w.cell? ⟨g,k * 2,none⟩=some (.string l[k].1)∧w.cell? ⟨g,k * 2+1,none⟩=some (.string l[k].2):=by
 obtain⟨g,cap,rfl,_,hlt⟩:=h.form (by omega)
 have h0:=h.cells (g:=g) rfl (k * 2) (.string l[k].1) (by have:=Sq.jQni (fun p:ByteArray×ByteArray=>[Value.string p.1,Value.string p.2]) 2 (fun _=>rfl) l k 0 hk (by omega);exact this)
 have h1:=h.cells (g:=g) rfl (k * 2+1) (.string l[k].2) (by have:=Sq.jQni (fun p:ByteArray×ByteArray=>[Value.string p.1,Value.string p.2]) 2 (fun _=>rfl) l k 1 hk (by omega);exact this)
 rw[show ∀q,(⟨g,0,none⟩:Addr).add q=⟨g,q,none⟩ from fun q=>by unfold Addr.add;split <;> simp_all] at h0 h1
 exact⟨g,cap,rfl,hlt,h0,h1⟩
theorem PairsAt.frm {sb B:Nat}{w w':World}{v:Value}{l:List (ByteArray×ByteArray)}(h:PairsAt B w v l)(hf:Frm sb w w'):PairsAt B w' v l:=jQkF h hf (by decide) (by decide)
theorem jQqN (k:Nat)(hk:k < 5)(w:World):Calls Tryz.prog 15 #[.int .i64 k] w fun e w'=>∃v,e=.returned v∧PairsAt w.heap.size w' v (Sq.lot k)∧Below w.heap.size w w':=by
 rcases(show k=0∨k=1∨k=2∨k=3∨k=4 by omega) with rfl | rfl | rfl | rfl | rfl
 ·exact jQoT w
 ·exact jQoS w
 ·exact jQoR w
 ·exact jQoQ w
 ·exact jQoP w
theorem Sq.jQr0 (k:Nat)(hk:k < 5):(Sq.lot k).length≤100:=by
 rcases(show k=0∨k=1∨k=2∨k=3∨k=4 by omega) with rfl | rfl | rfl | rfl | rfl <;> decide
theorem jQo3 (c:Int)(w:World)(h0:-9223372036854775808≤c)(h1:c≤9223372036854775807)(hT:Tb2 w) :
  Calls Tryz.prog 3 #[.int .i64 c] w fun e w'=>e=.returned (.bool true)∧Below w.heap.size w w':=by
 have hpk:=Sq.jQjA c 5 (by decide)
 obtain⟨k,hk⟩:=Int.eq_ofNat_of_zero_le hpk.1
 have hk5:k < 5:=by omega
 have HK:=hd hk
 have HT:=hd hT
 clear hpk hk hT
 go_enter Tryz.func3,Tryz.ntmps3
 go_wp2_with (first
  | (go_at_call 13;refine(jQch c 5 _ h0 h1 (by decide) (by decide)).mono ?_;rintro e w' ⟨rfl,rfl⟩;rw[HK.out])
  | (go_at_call 14;refine(jQnZ 32 _ (by decide) (by decide)).mono ?_;rintro e w' ⟨rfl,rfl⟩)
  | (go_at_call 15;refine(jQqN k hk5 _).mono ?_;rintro e w2 ⟨v,rfl,hp,hb2⟩;obtain⟨lo,lc,rfl⟩:=jQa hp;have HP:=hd hp;have HB2:=hd hb2;have hz2:=hb2.size;simp at hz2;have HDB:=hd ((DB.new w').below hb2);clear hp hb2))
 have hlen:=Sq.jQr0 k hk5
 have hbw2:Below w'.heap.size w' w2:=((Below.refl _ _).alloc (Nat.le_refl _) _).trans (HB2.out.mono (by simp))
 have HBW2:=hd hbw2
 obtain⟨lot,hlot⟩:∃x,x=Sq.lot k:=⟨_,rfl⟩
 have hat:∀l:List (ByteArray×ByteArray),l=Sq.lot k→∀(j:Nat) (h:j < l.length),(Sq.decide (Sq.afterAll [] ((l.map Prod.fst).take j)) l[j].1).reply=l[j].2:=by rintro l rfl j h;exact Sq.jQsp k hk5 j h
 have hp:=HP.out
 rw[←hlot] at hp
 rw[←hlot] at hlen
 rw[←hlot]
 have HAT:=hd (hat lot hlot)
 have HP2:=hd hp
 clear hbw2 hat hp HP HB2 hlot HK
 go_loopw [7] (fun i wr=>∃j:Nat,j≤lot.length∧i=.int .i64 j∧DB w'.heap.size wr (Sq.afterAll [] ((lot.map Prod.fst).take j))∧Frm w'.heap.size w2 wr) (fun i _=>lot.length - (intOf i).toNat)
 case atStart=>exact⟨0,Nat.zero_le _,rfl,HDB.out,Frm.refl _ _⟩
 case round =>
  obtain⟨j,hj,rfl,hdb,hfr⟩:=hrel
  have hsw:=hdb.lt
  have HDBj:=hd hdb
  have HFR:=hd hfr
  clear hdb hfr
  by_cases hlt:j < lot.length
  ·obtain⟨q,cap',hv,hq,c0,c1⟩:=(HP2.out.frm HFR.out).at j hlt
   simp only[Value.slice.injEq] at hv
   obtain⟨rfl,-,rfl⟩:=hv
   have hrep:=HAT.out j hlt
   have hsn:=Sq.jQhV [] (lot.map Prod.fst) j (by simpa using hlt)
   obtain⟨sql,hsql⟩:∃x,x=lot[j].1:=⟨_,rfl⟩
   obtain⟨rep,hrp⟩:∃x,x=lot[j].2:=⟨_,rfl⟩
   rw[List.getElem_map,←hsql] at hsn
   rw[←hsql] at c0
   rw[←hrp] at c1
   rw[←hsql,←hrp] at hrep
   have hgood:Sq.good (Sq.afterAll [] ((lot.map Prod.fst).take j)):=Sq.jQad _ Sq.jQbc
   obtain⟨dbj,hdbj⟩:∃x,x=Sq.afterAll [] ((lot.map Prod.fst).take j):=⟨_,rfl⟩
   have hdb:=HDBj.out
   rw[←hdbj] at hrep hsn hgood hdb
   have htb:Tb2 wr:=HT.out.below (HBW2.out.trans HFR.out.below)
   have HREP:=hd hrep
   have HRP:=hd hrp
   have HSN:=hd hsn
   have HGOOD:=hd hgood
   have HDB1:=hd hdb
   have HTB:=hd htb
   clear hrep hsn hsql hrp hgood hdbj hdb htb HDBj
   go_wp2_with fail
   refine(jQdu w'.heap.size dbj sql _ HDB1.out HGOOD.out HTB.out).mono ?_
   rintro e w3 ⟨pf1,dg1,rfl,hdb3,hf3⟩
   rw[HREP.out]
   rw[←HSN.out] at hdb3
   unfold answer
   have hfr3:=HFR.out.trans hf3
   obtain⟨q3,cap3,hv3,hq3,d0,d1⟩:=(HP2.out.frm hfr3).at j hlt
   simp only[Value.slice.injEq,Option.some.injEq,Addr.mk.injEq,and_true,true_and] at hv3
   obtain⟨rfl,-⟩:=hv3
   rw[←HRP.out] at d1
   have HDB3:=hd hdb3
   have HF3:=hd hfr3
   have hz3:=hdb3.lt
   clear hdb3 hf3 hfr3 c0 c1 d0
   go_wp2
   go_region
   all_goals
    go_wp2
    go_roundw
    case rel=>exact⟨j+1,by omega,by go_num,HDB3.out.below (by first | exact(Below.refl _ _).alloc (Nat.le_refl _) _ | exact Below.drew ((Below.refl _ _).alloc (Nat.le_refl _) _)),HF3.out.trans (Frm.of_below (by first | exact(Below.refl _ _).alloc (Nat.le_refl _) _ | exact Below.drew ((Below.refl _ _).alloc (Nat.le_refl _) _)) (by omega))⟩
    case measure=>simp[intOf];omega
  ·go_wp2
   go_ret
   exact⟨rfl,HBW2.out.trans HFR.out.below⟩
end
section
open Go.ChangeShapes Go.WideShapes Go.RowKit
theorem jQiy (hk:∀(c:Int) (w:World),-9223372036854775808≤c→c≤9223372036854775807→Tb2 w→Calls Tryz.prog 3 #[.int .i64 c] w fun e w'=>e=.returned (.bool true)∧Below w.heap.size w w')
  (os:Os) (started:os.Started) (H:Type) (enc:TypeId×Value→H) :
  ReturnsInHanded {} Tryz.checked os 3 .any (fun w args=>(Rows.knownSpec.pre enc Tryz.prog Tryz.f3 [] false w args∧laidMetH Tryz.prog laid4 w)∧sizedMet enc Tryz.prog Tryz.f3 (OpenSpec.ofChange Rows.knownSpec) false w args)
   (Rows.knownSpec.post enc Tryz.prog Tryz.f3 false true false false):=by
 refine returnsInHanded_of_change_and (C:=Tryz.checked) (X:=fun w _=>laidMetH Tryz.prog laid4 w) (fun _ _ _ hh h=>h.of_heap hh) Tryz.own started (by kernel_rfl) Tryz.func3
  (ChangeSpec.witness_shaped (enc:=enc) (C:=Tryz.checked) (os:=os) (X:=fun w _=>laidMetH Tryz.prog laid4 w) false (World.doorLaid Tryz.prog 400 os) #[.int .i64 0] 8 rfl (World.shaped_of_RefB (by kernel_rfl) (by kernel_rfl)) (by kernel_rfl) (by kernel_rfl) (by kernel_rfl) (jQeU os _)) ?_
 intro W base args ds gs before hval0 hW _ _ hL _
 have hval:∀(j:Nat) t v,Tryz.f3.params[j]?=some t→args[j]?=some v→Value.okWide Tryz.prog W .any base t v:=hval0
 have hW':=hW
 obtain⟨p,q,hA0,hV,rfl,hfz,hnd⟩:=hW
 have hA:DataW.TrodAll enc Tryz.prog W 0 (fun _=>true) true Tryz.f3.params.toList args.toList ds p:=hA0
 rw[Tryz.params3] at hA hval
 obtain⟨v0,d0,rfl,rfl,h0⟩:=trodAll_one hA
 obtain⟨rfl,rfl⟩:=trodVars_none hV
 obtain⟨n,rfl,rfl,rfl,hwn⟩:=open_int Tryz.underlying3 (hval 0 3 v0 rfl rfl) h0
 have hn:-9223372036854775808≤n∧n≤9223372036854775807:=by
  have h9:=hwn
  unfold Lit.wf at h9
  simp only[Bool.and_eq_true,decide_eq_true_eq] at h9
  exact h9
 clear hA0 hval0
 simp only[List.append_nil] at hW'
 refine(hk n W hn.1 hn.2 ⟨jQbh hL,jQbj hL⟩).mono ?_
 rintro e W' ⟨rfl,bel⟩
 refine⟨_,rfl,_,_,_,[],[],[],hW',?_,?_,?_,bel.frame _,fun h=>by cases h⟩
 ·exact trodAll_mk1 (shut_bool Tryz.underlying4 true)
 ·exact trodAll_mk1 (shut_int Tryz.underlying3 hwn)
 ·rfl
end
end Go.Proofs.YtahpihjialbanaaGreatDoor
