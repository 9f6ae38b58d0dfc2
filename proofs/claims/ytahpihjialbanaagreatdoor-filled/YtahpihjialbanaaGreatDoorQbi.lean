import Derived.Test.YtahpihjialbanaaGreatDoorQbd
import Derived.Test.YtahpihjialbanaaGreatDoorQbh
set_option linter.unusedVariables false
set_option linter.unusedSimpArgs false
set_option maxRecDepth 100000
set_option maxHeartbeats 40000000
namespace Go.Proofs.YtahpihjialbanaaGreatDoor
section
open Go.RowKit
variable {Z:Nat→Prop}
theorem jQhW (n:Nat)(l:List (Sq.Nd n×Value×Value))(cv:Value)(hle hro hnu:Int)(hsl:ByteArray)(eo:Option Addr)(ec0:Nat)(bs:List ByteArray)(bv:Value)(w:World)(h:NodesAt Z 0 w cv n l)(hS:StrsAt w bv bs)(hl:l.length≤100)(hbl:bs.length=l.length)(hds:∀b∈bs,b.size≤10000)(B:ByteArray)(HE:Hid (B=Sq.kidsB (Sq.headN n) (Sq.pnum 2 1++Sq.pnum l.length 1) ((l.map Prod.fst).zip bs))) :
  Calls Tryz.prog 57 #[.agg #[.bool true,.slice eo 0 ec0,cv,.int .i64 hle,.int .i64 hro,.string hsl,.int .i64 hnu],bv] w fun e w'=>e=.returned (.string B)∧Below w.heap.size w w':=by
 obtain⟨ao,acap,rfl⟩:=jQa h.own
 obtain⟨vo,vcap,rfl⟩:=jQa hS.1
 have H:=hd h
 have HST:=hd hS
 have HS:=hd hds
 have HBL:=hd hbl
 have hbl1:bs.length≤l.length:=by omega
 have hbl2:l.length≤bs.length:=by omega
 have hp1:=Sq.jQt 2 1
 have hp2:=Sq.jQt l.length 1
 obtain⟨p1,hq1⟩:∃x,x=Sq.pnum 2 1:=⟨_,rfl⟩
 obtain⟨p2,hq2⟩:∃x,x=Sq.pnum l.length 1:=⟨_,rfl⟩
 have he:=HE.out
 rw[←hq1,←hq2] at he
 rw[←hq1] at hp1
 rw[←hq2] at hp2
 have HE2:=hd he
 have HQ1:=hd hq1
 have HQ2:=hd hq2
 have hp1':p1.size≤1:=by omega
 have hp2':p2.size≤1:=by omega
 have hap:(p1++p2).size=p1.size+p2.size:=ByteArray.size_append
 have HAP:Hid ((p1++p2).size≤2000):=by show _≤_;omega
 clear h hds hS hbl HE he hq1 hq2 hp1 hp2 hap
 go_enter Tryz.func57,Tryz.ntmps57
 go_wp2
 obtain⟨W,hW⟩:∃W:World,W=w.alloc (.cells #[.bool true,.slice eo 0 ec0,.slice ao l.length acap,.int .i64 hle,.int .i64 hro,.string hsl,.int .i64 hnu] 60):=⟨_,rfl⟩
 rw[←hW]
 have hbW:Below w.heap.size w W:=by rw[hW];exact(Below.refl _ _).alloc (Nat.le_refl _) _
 have hblk:W.heap[w.heap.size]?=some (.cells #[.bool true,.slice eo 0 ec0,.slice ao l.length acap,.int .i64 hle,.int .i64 hro,.string hsl,.int .i64 hnu] 60):=by rw[hW];exact jQk w _
 have hzW:=jQg hblk
 have HC:=hd (jQaS hblk)
 obtain⟨c0,c1,c2,c3,c4,c5,c6⟩:=node7 hblk
 have HBW:=hd hbW
 clear hW hbW hblk
 go_cut [6] from 11 (fun bv wx=>bv=.string (p1++p2)∧Below W.heap.size W wx)
 case first =>
  have HBr:Hid (Below W.heap.size W W):=Below.refl _ _
  go_region_with (first
   | (go_at_call 83;refine(jQot hle hro hnu hsl eo 0 ec0 ao l.length acap _).mono ?_;rintro e w5 ⟨rfl,hb5⟩;have hb5':Below W.heap.size W w5:=(by first | exact HBr.out.trans (hb5.mono (by omega)) | exact(HBr.out.drew).trans (hb5.mono (by simp)));obtain⟨k0,k1,k2,k3,k4,k5,k6⟩:=HC.out w5 hb5';have hz5:=hb5'.size;have hz5':w.heap.size < w5.heap.size:=(by omega);clear HBr;have HBr:=hd hb5';clear hb5 hb5')
   | (go_at_call 56;refine(jQ8 _ 1 _ (by omega)).mono ?_;rintro e w5 ⟨rfl,hb5⟩;have hb5':Below W.heap.size W w5:=(by first | exact HBr.out.trans (hb5.mono (by omega)) | exact(HBr.out.drew).trans (hb5.mono (by simp)));obtain⟨k0,k1,k2,k3,k4,k5,k6⟩:=HC.out w5 hb5';have hz5:=hb5'.size;have hz5':w.heap.size < w5.heap.size:=(by omega);clear HBr;have HBr:=hd hb5';clear hb5 hb5';first | rw[←HQ1.out] | rw[←HQ2.out]))
  all_goals(try go_wp2_with fail)
  all_goals go_meet
  all_goals exact⟨rfl,HBr.out⟩
 case rest =>
  obtain⟨rfl,hbc⟩:=hcut
  have HBC:=hd hbc
  obtain⟨m0,m1,m2,m3,m4,m5,m6⟩:=HC.out wc hbc
  have hzc:=hbc.size
  have hzc':w.heap.size < wc.heap.size:=by omega
  clear hbc c0 c1 c2 c3 c4 c5 c6 HQ1 HQ2 hp1' hp2'
  go_wp2
  go_loopw [6,7] (fun bv i wr=>bv=.string (p1++p2)∧i=.int .i64 0∧wr=wc) (fun _ _ _=>0)
  case atStart=>exact⟨rfl,rfl,rfl⟩
  case round =>
   obtain⟨rfl,rfl,rfl⟩:=hrel
   obtain⟨wd,rfl⟩:∃wd:World,wd=wr:=⟨_,rfl⟩
   go_wp2
   go_loopw [6,8] (fun bv i wr=>∃(k:Nat) (b:ByteArray),bv=.string b∧i=.int .i64 k∧k≤l.length∧b.size≤11000 * (k+1)∧Below W.heap.size W wr∧Hid (B=Sq.kidsB (Sq.headN n) b (((l.map Prod.fst).zip bs).drop k))) (fun _ i _=>l.length - (intOf i).toNat)
   case atStart=>exact⟨0,p1++p2,rfl,rfl,Nat.zero_le _,by have:=HAP.out;omega,HBC.out,HE2⟩
   case round =>
    obtain⟨k,b,rfl,rfl,hk,hbs,hb,HQ⟩:=hrel
    clear HAP HBC HE2 m0 m1 m2 m3 m4 m5 m6
    obtain⟨wo,rfl⟩:∃wo:World,wo=wr:=⟨_,rfl⟩
    have hzr:=hb.size
    have hzw:w.heap.size < wo.heap.size:=by omega
    obtain⟨m0,m1,m2,m3,m4,m5,m6⟩:=HC.out wo hb
    have HB:=hd hb
    by_cases hkt:k < l.length
    ·obtain⟨g,cap',ea,el,ec,ca,cl,cc,hv,hg,⟨d0,d1,d2,d3,d4,dsl,dnu⟩,d5,d6⟩:=((H.out.below HBW.out).below hb).at k hkt
     simp only[Value.slice.injEq] at hv
     obtain⟨rfl,-,rfl⟩:=hv
     obtain⟨gs,caps,hvs,hgs,ds⟩:=((HST.out.below HBW.out).below hb).at k (by omega)
     simp only[Value.slice.injEq] at hvs
     obtain⟨rfl,-,rfl⟩:=hvs
     have hm:=HS.out bs[k] (List.getElem_mem (by omega))
     have hq:=HQ.out
     rw[Sq.jQmZ _ _ k (by rw[List.length_zip,List.length_map];omega),List.getElem_zip,List.getElem_map] at hq
     simp only at hq
     clear HQ hb d0 d1 d2 d5 d6 dsl dnu
     generalize Sq.headN n l[k].1=xh at *
     obtain⟨xi,xl,xc,xs,xn⟩:=xh
     simp only at hq d3 d4
     generalize bs[k]=xd at *
     have hps:=Sq.jQt xl 5
     have hcs:=Sq.jQt xc 1
     obtain⟨q1,hq1⟩:∃x,x=Sq.pnum xl 5:=⟨_,rfl⟩
     obtain⟨q2,hq2⟩:∃x,x=Sq.pnum xc 1:=⟨_,rfl⟩
     rw[←hq1,←hq2] at hq
     rw[←hq2] at hcs
     rw[←hq1] at hps
     have HQ:=hd hq
     have hps':q1.size≤5:=by omega
     have hcs':q2.size≤1:=by omega
     have hap1:(q1++q2).size=q1.size+q2.size:=ByteArray.size_append
     have hap2:(q1++q2++xd).size=(q1++q2).size+xd.size:=ByteArray.size_append
     have hap4:(b++(q1++q2++xd)).size=b.size+(q1++q2++xd).size:=ByteArray.size_append
     have HAP:Hid ((b++(q1++q2++xd)).size≤11000 * (k+1+1)):=by show _≤_;omega
     have hap3:(q1++q2++xd).size≤10010:=by omega
     have hap5:(q1++q2).size≤6:=by omega
     have HQ1:=hd hq1
     have HQ2:=hd hq2
     have i1:(k:Int) < (l.length:Int):=by omega
     have i2:¬((l.length:Int)≤(k:Int)):=by omega
     have i0:¬((k:Int) < 0):=by omega
     have i3:decide ((k:Int) < (bs.length:Int))=true:=by simp;omega
     have i4:¬((bs.length:Int)≤(k:Int)):=by omega
     have hgz:g < wo.heap.size:=hg
     have hgsz:gs < wo.heap.size:=hgs
     have HCL:Hid (∀w',Below wo.heap.size wo w'→w'.cell? ⟨g,k * 7+3,none⟩=some (.int .i64 xl)∧w'.cell? ⟨g,k * 7+4,none⟩=some (.int .i64 xc)∧w'.cell? ⟨gs,k,none⟩=some (.string xd)∧w'.cell? ⟨w.heap.size,2,none⟩=some (.slice (some ⟨g,0,none⟩) l.length acap)∧g < w'.heap.size∧gs < w'.heap.size∧w.heap.size < w'.heap.size):=fun w' hb'=>⟨((bcell hb').1 g _ hgz).trans d3,((bcell hb').1 g _ hgz).trans d4,((bcell hb').1 gs _ hgsz).trans ds,((bcell hb').1 w.heap.size 2 hzw).trans m2,by have:=hb'.size;omega,by have:=hb'.size;omega,by have:=hb'.size;omega⟩
     have j1:(9223372036854775807 < q1.size+q2.size)=False:=by simp;omega
     have j2:(9223372036854775807 < q1.size+q2.size+xd.size)=False:=by simp;omega
     have j3:(9223372036854775807 < b.size+(q1.size+q2.size+xd.size))=False:=by simp;omega
     clear hq hcs hps hq1 hq2 hap1 hap2 hap4
     go_wp2
     have HBr:Hid (Below wo.heap.size wo wo):=Below.refl _ _
     go_region_held3 (fun w'=>w'.cell? ⟨g,k * 7+3,none⟩=some (.int .i64 xl)∧w'.cell? ⟨g,k * 7+4,none⟩=some (.int .i64 xc)∧w'.cell? ⟨gs,k,none⟩=some (.string xd)∧w'.cell? ⟨w.heap.size,2,none⟩=some (.slice (some ⟨g,0,none⟩) l.length acap)) (go_keep) (first | (go_at_call 56;have hx:=HN1;clear hx;refine(jQ8 xc 1 _ (by omega)).mono ?_;rintro e w5 ⟨rfl,hb5⟩;have hb5':Below wo.heap.size wo w5:=(by first | exact HBr.out.trans (hb5.mono HBr.out.size) | exact(HBr.out.drew).trans (hb5.mono (by first | (simp;done) | (have:=HBr.out.size;simp;omega) | exact HBr.out.size)));obtain⟨k3,k4,ks,k2,k5,k6,k7⟩:=HCL.out w5 hb5';clear HBr;have HBr:=hd hb5';clear hb5 hb5';rw[←HQ2.out]) | (go_at_call 56;have HN1:True:=trivial;refine(jQ8 xl 5 _ (by omega)).mono ?_;rintro e w5 ⟨rfl,hb5⟩;have hb5':Below wo.heap.size wo w5:=(by first | exact HBr.out.trans (hb5.mono HBr.out.size) | exact(HBr.out.drew).trans (hb5.mono (by first | (simp;done) | (have:=HBr.out.size;simp;omega) | exact HBr.out.size)));obtain⟨k3,k4,ks,k2,k5,k6,k7⟩:=HCL.out w5 hb5';clear HBr;have HBr:=hd hb5';clear hb5 hb5';rw[←HQ1.out]))
     all_goals(try go_wp2)
     all_goals
      go_roundw
      case rel=>exact⟨k+1,b++(q1++q2++xd),rfl,by go_num,by omega,HAP.out,HB.out.trans (HBr.out.mono (by omega)),HQ⟩
      case measure=>simp[intOf];omega
    ·have i1:¬((k:Int) < (l.length:Int)):=by omega
     have HN:Hid (B=b):=by show _=_;rw[HQ.out,List.drop_eq_nil_of_le (by rw[List.length_zip,List.length_map];omega)];rfl
     clear hb HQ
     go_wp2
     go_ret
     exact⟨by rw[HN.out];rfl,HBW.out.trans (HB.out.mono (by omega))⟩
end
section
open Go.RowKit
variable {Z:Nat→Prop}
theorem jQbK {ops:Array Oper}{rest:List Oper}{o:Oper}{a:Act}{Q:Exit→Act→World→Prop}{w:World}(hgd:o.guard=none)(sl x:Operand)
  (ho:o.op=.call { callee:=.builtin .append,args:=#[sl,x],argTypes:=#[35,35] }) (B:Nat) (v:Value) (l:List ByteArray) (hs:a.eval sl=v) (hb:w.ownsRow B 9 1 v l.length (l.map Value.string))
  (b:ByteArray) (g c:Nat) (hx:a.eval x=.slice (some ⟨g,0,none⟩) 1 c) (hc0:w.cell? ⟨g,0,none⟩=some (.string b)) (h1:l.length+1≤1000000) (hB:B≤w.heap.size)
  (h:∀v' w',w'.ownsRow B 9 1 v' (l++[b]).length ((l++[b]).map Value.string)→Below B w w'→wpList Tryz.prog ops Q rest (a.put o.dst v') w'):wpList Tryz.prog ops Q (o :: rest) a w:=by
 obtain⟨i0,hi,hz0,hz1,hz2⟩:=info_parts Tryz.infoStr
 refine wpList_append_lies _ hgd sl x 35 ho B 9 i0 _ 1 16 Tryz.underlying35 hi hz0 hz1 hz2 rfl (by decide) v l.length _ hs hb ⟨g,0,none⟩ 1 c [.string b] hx rfl (by
  intro j u hu
  rw[jQbt]
  match j,hu with
  | 0,hu=>simp at hu;subst hu;exact hc0
  | j+1,hu=>simp at hu) (by intro u hu;simp at hu;subst hu;rfl) (by decide) (by unfold maxLen;omega) (by omega) hB _ rfl ?_
 intro g' cap w' ho' hg' _ _
 refine h _ w' ?_ (Tch.of_grown hg' (fun k hk=>(World.ownsRow.lt hb k hk).1) hB)
 rw[List.length_append,List.map_append]
 exact ho'
def DigOk (wide:Nat)(c:List Value)(d:ByteArray)(w:World):Prop :=
 ∀w',Below w.heap.size w w'→Calls Tryz.prog 37 #[.agg c.toArray,.int .i64 wide] w' fun e w''=>e=.returned (.string d)∧Below w'.heap.size w' w''
theorem jQkk (wide n:Nat)(h:Sq.Head)(es:List Sq.Ent)(l:List (Sq.Nd n×Value×Value))(ev cv:Value)(w:World)(hev:∃a k c,ev=.slice a k c)(hn:NodesAt Z 0 w cv n l)(hl:l.length≤100)(dg:Sq.Nd n→ByteArray)
  (hdo:∀x∈l,DigOk wide (nodeCells n x) (dg x.1) w) (B:ByteArray)
  (hwr:∀w' bv,Below w.heap.size w w'→StrsAt w' bv (l.map fun x=>dg x.1)→Calls Tryz.prog 57 #[.agg (headCells h ev cv).toArray,bv] w' fun e w''=>e=.returned (.string B)∧Below w'.heap.size w' w'') :
  Calls Tryz.prog 47 #[.agg (headCells h ev cv).toArray,.int .i64 wide] w fun e w'=>e=.returned (.string B)∧Below w.heap.size w w':=by
 obtain⟨eo,el,ecap,rfl⟩:=hev
 obtain⟨co,ccap,rfl⟩:=jQa hn.own
 rw[jQc] at hwr ⊢
 obtain⟨W,hWW⟩:∃W,W=w.alloc (.cells #[.bool h.inner,.slice eo el ecap,.slice co l.length ccap,.int .i64 h.least,.int .i64 h.rows,.string h.sl,.int .i64 h.num] 60):=⟨_,rfl⟩
 have hW:Below w.heap.size w W:=by rw[hWW];exact(Below.refl _ _).alloc (Nat.le_refl _) _
 have hWs:W.heap.size=w.heap.size+1:=by rw[hWW];exact jQo w _
 have hblk:W.heap[w.heap.size]?=some (.cells #[.bool h.inner,.slice eo el ecap,.slice co l.length ccap,.int .i64 h.least,.int .i64 h.rows,.string h.sl,.int .i64 h.num] 60):=by rw[hWW];exact jQk w _
 have HC:=hd (jQaS hblk)
 have HW:=hd hW
 have HWS:=hd hWs
 have HN:=hd (hn.below hW)
 have HDO:=hd hdo
 have HWR:=hd hwr
 clear hW hWs hblk hn hdo hwr
 go_enter Tryz.func47,Tryz.ntmps47
 go_wp2
 rw[←hWW]
 clear hWW
 go_loopw [5,6] (fun v i wr=>∃k:Nat,k≤l.length∧i=.int .i64 k∧Hid (wr.ownsRow (w.heap.size+1) 9 1 v ((l.take k).map fun x=>dg x.1).length (((l.take k).map fun x=>dg x.1).map Value.string))∧Hid (Below W.heap.size W wr)) (fun _ i _=>l.length - (intOf i).toNat)
 case atStart=>exact⟨0,Nat.zero_le _,rfl,World.ownsRow_nil _ _ _ _,Below.refl _ _⟩
 case round =>
  obtain⟨k,hk,rfl,hac,hb⟩:=hrel
  obtain⟨wo,rfl⟩:∃wo:World,wo=wr:=⟨_,rfl⟩
  have hal:((l.take k).map fun x=>dg x.1).length=k:=by simp;omega
  obtain⟨acc,hacc⟩:∃acc,acc=(l.take k).map fun x=>dg x.1:=⟨_,rfl⟩
  rw[←hacc] at hac hal
  obtain⟨yo,ycap,rfl⟩:=jQa hac.out
  obtain⟨m0,m1,m2,m3,m4,m5,m6⟩:=HC.out wo hb.out
  have hzr:=hb.out.size
  rw[HWS.out] at hzr
  have hzw:w.heap.size < wo.heap.size:=by omega
  have HACC:=hd hacc
  have HAL:=hd hal
  have hal2:acc.length≤100:=by omega
  clear hacc hal
  by_cases hkt:k < l.length
  ·obtain⟨g,cap',ea,el',ec,ca,cl,cc,hv,hg,⟨d0,d1,d2,d3,d4,dsl,dnu⟩,d5,d6⟩:=(HN.out.below hb.out).at k hkt
   simp only[Value.slice.injEq] at hv
   obtain⟨rfl,-,rfl⟩:=hv
   have hmem:=List.getElem_mem hkt
   have hdk:=HDO.out _ hmem
   have hst:acc++[dg l[k].1]=(l.take (k+1)).map fun x=>dg x.1:=by rw[HACC.out,List.take_succ_eq_append_getElem hkt,List.map_append];rfl
   obtain⟨x,hx⟩:∃x,x=l[k]:=⟨_,rfl⟩
   rw[←hx] at d0 d3 d4 dsl dnu d5 d6 hdk hst
   obtain⟨t,evx,cvx⟩:=x
   simp only[Prod.mk.injEq] at d5
   obtain⟨rfl,rfl⟩:=d5
   have HST:=hd hst
   have HDK:=hd (hdk wo (HW.out.trans (hb.out.mono (by rw[HWS.out];omega))))
   obtain⟨xh,hxh⟩:∃x,x=Sq.headN n t:=⟨_,rfl⟩
   have hdk2:=HDK.out
   have hnc:nodeCells n (t,.slice ea el' ec,.slice ca cl cc)=headCells xh (.slice ea el' ec) (.slice ca cl cc):=by rw[hxh];rfl
   rw[hnc,jQc] at hdk2
   rw[←hxh] at d0 d3 d4 dsl dnu
   simp only at hdk2 hst
   obtain⟨D,hD⟩:∃D,D=dg t:=⟨_,rfl⟩
   rw[←hD] at hdk2
   have hst2:acc++[D]=(l.take (k+1)).map fun x=>dg x.1:=by rw[hD];exact hst
   have HST2:=hd hst2
   have HDK2:=hd hdk2
   have i1:¬((l.length:Int)≤(k:Int)):=by omega
   clear hmem hdk hst hx d6 HST HDK hxh hdk2 hnc hD hst2
   go_wp2_with fail
   refine HDK2.out.mono ?_
   rintro e w1 ⟨rfl,hb1⟩
   have HAC1:=hd (jQh hac.out hb1)
   have HB1:=hd hb1
   have hz1:=hb1.size
   have hA:Below w1.heap.size w1 (w1.alloc (.cells #[.string D] 9)):=(Below.refl _ _).alloc (Nat.le_refl _) _
   have HA4:=hd (jQh HAC1.out hA)
   have HA:=hd hA
   clear hb1 hA HDK2
   go_wp2_with (at_builtin;refine jQbK rfl (.tmp 14) (.tmp 22) rfl (w.heap.size+1) _ acc rfl HA4.out D w1.heap.size 1 rfl (by simp[go_sem]) (by omega) (by simp;omega) ?_;intro v5 w5 hown5 hb5;have HO5:=hd hown5;have HB5:=hd hb5;clear hown5 hb5)
   go_roundw
   case rel=>exact⟨k+1,by omega,by go_num,by have:=HO5.out;rw[HST2.out] at this;exact this,hb.out.trans ((HB1.out.mono (by rw[HWS.out];omega)).trans ((HA.out.mono (by rw[HWS.out];omega)).trans (by rw[HWS.out];exact HB5.out)))⟩
   case measure=>simp[intOf];omega
  ·have hkl:k=l.length:=by omega
   have hacl:acc=l.map fun x=>dg x.1:=by rw[HACC.out,hkl,List.take_length]
   have HS:Hid (StrsAt wo (.slice yo acc.length ycap) (l.map fun x=>dg x.1)):=⟨by have:=hac.out;rw[hacl] at this ⊢;exact jQi this (Nat.zero_le _),by simp;omega⟩
   have HBW:=hd (HW.out.trans (hb.out.mono (by rw[HWS.out];omega)))
   have i1:¬((k:Int) < (l.length:Int)):=by omega
   clear hkl hacl
   go_wp2_with fail
   refine(HWR.out wo _ HBW.out HS.out).mono ?_
   rintro e w1 ⟨rfl,hb1⟩
   go_wp2
   go_ret
   exact⟨rfl,HBW.out.trans (hb1.mono HBW.out.size)⟩
end
section
open Go.RowKit
variable {Z:Nat→Prop}
theorem jQdv {α:Type}(f:α→Sq.Head)(t:Sq.NodeF α)(hi:t.hd.inner=false)(hk:t.kids=[])(bs:List ByteArray):Sq.writtenF f t bs=Sq.entsB (Sq.pnum 1 1++Sq.pnum (t.ents.length:Nat) 1) t.ents:=by
 unfold Sq.writtenF Sq.sizeF
 rw[hi,hk]
 rfl
theorem jQf1 {α:Type}(f:α→Sq.Head)(t:Sq.NodeF α)(hi:t.hd.inner=true)(he:t.ents=[])(bs:List ByteArray):Sq.writtenF f t bs=Sq.kidsB f (Sq.pnum 2 1++Sq.pnum (t.kids.length:Nat) 1) (t.kids.zip bs):=by
 unfold Sq.writtenF Sq.sizeF
 rw[hi,he]
 rfl
def writtenN:(n:Nat)→Sq.Nd n→List ByteArray→ByteArray
 | 0,t,bs=>Sq.writtenF (fun e:Empty=>e.elim) t bs
 | n+1,t,bs=>Sq.writtenF (Sq.headN n) t bs
def kidsLen:(n:Nat)→Sq.Nd n→Nat
 | 0,_=>0
 | _+1,t=>(Sq.NodeF.kids t).length
theorem jQaH (K:Int):∀(n:Nat) (t:Sq.Nd n) (ev cv:Value) (bs:List ByteArray) (bv:Value) (w:World),NodeAt Z w n t ev cv→Sq.tameN K n t→StrsAt w bv bs→bs.length=kidsLen n t→(∀b∈bs,b.size≤10000) →
  Calls Tryz.prog 57 #[.agg (headCells (Sq.headN n t) ev cv).toArray,bv] w fun e w'=>e=.returned (.string (writtenN n t bs))∧Below w.heap.size w w'
 | 0,t,ev,cv,bs,bv,w,h,hf,hS,_,_=>by
  obtain⟨h1,rfl⟩:=h.leaf
  obtain⟨vo,vc,rfl⟩:=jQa hS.1
  have hk:(t:Sq.NodeF Empty).kids=[]:=by
   cases hq:(t:Sq.NodeF Empty).kids with
   | nil=>rfl
   | cons c _=>exact c.elim
  have h4:=hf.at0.ents
  have hr:=hf.at0.row
  rw[jQc,show(Sq.headN 0 t).inner=false from hf.leaf0]
  exact jQfa (Sq.NodeF.ents t) ev _ _ _ _ none 0 vo _ vc w h1 (by omega) (fun e he=>Nat.le_trans (hr e he) (by omega)) _ (jQdv _ t hf.leaf0 hk bs)
 | n+1,t,ev,cv,bs,bv,w,h,hf,hS,hbl,hbs=>by
  obtain⟨h1,l,h2,h3⟩:=h.inner
  have h4:=hf.at1.ents
  have hk4:=hf.at1.kids
  have hr:=hf.at1.row
  have hbl2:bs.length=l.length:=by rw[hbl];show(Sq.NodeF.kids t).length=_;rw[h2,List.length_map]
  cases hin:(Sq.NodeF.hd t).inner with
  | false =>
   have hk:=(hf.at1.lf hin).2
   have hl0:l=[]:=by rw[hk] at h2;exact List.map_eq_nil_iff.1 h2.symm
   subst hl0
   obtain⟨vo,vc,rfl⟩:=jQa hS.1
   obtain⟨co,cc,hcv⟩:=jQa h3.own
   have hcv':cv=.slice co 0 cc:=hcv
   subst hcv'
   rw[jQc,show(Sq.headN (n+1) t).inner=false from hin]
   exact jQfa (Sq.NodeF.ents t) ev _ _ _ _ co cc vo _ vc w h1 (by omega) (fun e he=>Nat.le_trans (hr e he) (by omega)) _ (jQdv _ t hin hk bs)
  | true =>
   have he:=(hf.at1.inn hin).2
   rw[he] at h1
   obtain⟨eo,ec,hev⟩:=jQa h1
   have hev':ev=.slice eo 0 ec:=hev
   subst hev'
   rw[jQc,show(Sq.headN (n+1) t).inner=true from hin]
   rw[h2,List.length_map] at hk4
   refine jQhW (Z:=Z) n l cv _ _ _ _ eo ec bs bv w h3 hS (by omega) hbl2 hbs _ ?_
   show _=_
   rw[←h2]
   show Sq.writtenF (Sq.headN n) t bs=_
   rw[jQf1 _ t hin he bs]
   rw[h2,List.length_map]
theorem jQcG:∀(l:List ByteArray) (m:Nat) (b:ByteArray),(∀x∈l,x.size≤m)→(l.foldl (·++·) b).size≤b.size+l.length * m
 | [],m,b,_=>by simp
 | x :: r,m,b,h=>by
  rw[List.foldl_cons]
  have h1:=jQcG r m (b++x) fun y hy=>h y (List.mem_cons_of_mem _ hy)
  have h2:=h x (List.mem_cons_self ..)
  rw[ByteArray.size_append] at h1
  rw[List.length_cons,Nat.add_mul]
  omega
theorem jQdw {α:Type}{f:α→Sq.Head}{G:α→Prop}{K:Int}{t:Sq.NodeF α}(h:Sq.TameF f G K t)(bs:List ByteArray)(m:Nat)(hm:∀b∈bs,b.size≤m):(Sq.writtenF f t bs).size≤2000+4 * m:=by
 unfold Sq.writtenF
 have h1:=jQcG ((t.kids.zip bs).map fun x=>Sq.kidBytes (f x.1) x.2) (m+6) ((t.ents.map Sq.entBytes).foldl (·++·) (Sq.pnum (if t.hd.inner then 2 else 1) 1++Sq.pnum (Sq.sizeF t) 1)) (fun x hx=>by
  obtain⟨y,hy,rfl⟩:=List.mem_map.1 hx
  rw[Sq.jQiz]
  have:=hm y.2 (List.of_mem_zip hy).2
  omega)
 have h2:=jQcG (t.ents.map Sq.entBytes) 306 (Sq.pnum (if t.hd.inner then 2 else 1) 1++Sq.pnum (Sq.sizeF t) 1) (fun x hx=>by
  obtain⟨y,hy,rfl⟩:=List.mem_map.1 hx
  rw[Sq.jQno]
  have:=h.row y hy
  omega)
 have h3:(Sq.pnum (if t.hd.inner then 2 else 1) 1++Sq.pnum (Sq.sizeF t) 1).size=2:=by rw[ByteArray.size_append,Sq.jQt,Sq.jQt]
 have h4:=h.ents
 have h5:=h.kids
 have h6:((t.kids.zip bs).map fun x=>Sq.kidBytes (f x.1) x.2).length≤4:=by rw[List.length_map,List.length_zip];omega
 rw[List.length_map] at h2
 have h7:((t.kids.zip bs).map fun x=>Sq.kidBytes (f x.1) x.2).length * (m+6)≤4 * (m+6):=Nat.mul_le_mul_right _ h6
 have h8:t.ents.length * 306≤4 * 306:=Nat.mul_le_mul_right _ h4
 omega
def HS (wide:Nat)(b:ByteArray):ByteArray:=Sq.shaOf b wide
theorem jQn1 {wide:Nat}(hw:wide≤32)(b:ByteArray):(HS wide b).size=wide:=Sq.jQl4 b wide hw
theorem jQiG (wide:Nat)(hw:wide≤32)(K:Int):∀(n:Nat) (t:Sq.Nd n),Sq.tameN K n t→(Sq.digN (HS wide) n t).size≤32
 | 0,t,h=>by
  show(Sq.digF _ _ _ t).size≤32
  unfold Sq.digF
  split
  ·exact h.at0.sl
  ·rw[jQn1 hw];exact hw
 | n+1,t,h=>by
  show(Sq.digF _ _ _ t).size≤32
  unfold Sq.digF
  split
  ·exact h.at1.sl
  ·rw[jQn1 hw];exact hw
theorem jQj5 (wide:Nat)(hw:wide≤32)(h:Sq.Head)(ev cv:Value)(bs:ByteArray)(hbs:bs.size≤1000000)(w:World)(hev:∃a k c,ev=.slice a k c)(hcv:∃a k c,cv=.slice a k c)(hR:Rnd w)
  (hB:∀w',Below w.heap.size w w'→Calls Tryz.prog 47 #[.agg (headCells h ev cv).toArray,.int .i64 wide] w' fun e w''=>e=.returned (.string bs)∧Below w'.heap.size w' w'') :
  Calls Tryz.prog 37 #[.agg (headCells h ev cv).toArray,.int .i64 wide] w fun e w'=>e=.returned (.string (if Sq.isShut h then h.sl else HS wide bs))∧Below w.heap.size w w':=by
 obtain⟨eo,el,ecap,rfl⟩:=hev
 obtain⟨co,cl,ccap,rfl⟩:=hcv
 rw[jQc] at hB ⊢
 obtain⟨D,hD⟩:∃D,D=(if Sq.isShut h then h.sl else HS wide bs):=⟨_,rfl⟩
 rw[←hD]
 obtain⟨W,hWW⟩:∃W,W=w.alloc (.cells #[.bool h.inner,.slice eo el ecap,.slice co cl ccap,.int .i64 h.least,.int .i64 h.rows,.string h.sl,.int .i64 h.num] 60):=⟨_,rfl⟩
 have hW:Below w.heap.size w W:=by rw[hWW];exact(Below.refl _ _).alloc (Nat.le_refl _) _
 have hblk:W.heap[w.heap.size]?=some (.cells #[.bool h.inner,.slice eo el ecap,.slice co cl ccap,.int .i64 h.least,.int .i64 h.rows,.string h.sl,.int .i64 h.num] 60):=by rw[hWW];exact jQk w _
 obtain⟨a0,a1,a2,a3,a4,a5,a6⟩:=node7 hblk
 have hzw:=jQg hblk
 have HR:=hd hR
 have HB:=hd hB
 have HW:=hd hW
 have HBLK:=hd hblk
 clear hR hB hW hblk
 go_enter Tryz.func37,Tryz.ntmps37
 go_wp2_with fail
 rw[←hWW]
 clear hWW
 refine(jQh1 h _ _ W ⟨_,_,_,rfl⟩ ⟨_,_,_,rfl⟩).mono ?_
 rintro e w1 ⟨rfl,hb1⟩
 obtain⟨k0,k1,k2,k3,k4,k5,k6⟩:=jQaS HBLK.out w1 hb1
 have hz1:=hb1.size
 have hzz:w.heap.size < w1.heap.size:=by omega
 have HB1:=hd (HW.out.trans (hb1.mono (by omega)))
 clear hb1 a0 a1 a2 a3 a4 a5 a6
 cases hs:Sq.isShut h
 ·have HD:Hid (D=HS wide bs):=by show _=_;rw[hD,hs];rfl
  clear hs hD
  go_wp2_with fail
  refine(HB.out _ HB1.out).mono ?_
  rintro e w2 ⟨rfl,hb2⟩
  have HB2:=hd (HB1.out.trans (hb2.mono HB1.out.size))
  clear hb2
  go_wp2_with fail
  refine(jQss bs wide _ hbs hw (HR.out.below HB2.out)).mono ?_
  rintro e w3 ⟨rfl,hb3⟩
  go_wp2
  go_ret
  exact⟨by rw[HD.out];rfl,HB2.out.trans (hb3.mono HB2.out.size)⟩
 ·have HD:Hid (D=h.sl):=by show _=_;rw[hD,hs];rfl
  clear hs hD
  go_wp2
  go_ret
  exact⟨by rw[HD.out];rfl,HB1.out⟩
theorem jQmY {n:Nat}{t:Sq.Nd (n+1)}{l:List (Sq.Nd n×Value×Value)}(h:Sq.NodeF.kids t=l.map Prod.fst)(dg:Sq.Nd n→ByteArray):(l.map fun x=>dg x.1)=(Sq.NodeF.kids t).map dg:=by rw[h,List.map_map];rfl
theorem jQc7 (wide:Nat)(hw:wide≤32)(K:Int):∀(n:Nat) (t:Sq.Nd n) (ev cv:Value) (w:World),NodeAt Z w n t ev cv→Sq.tameN K n t→Rnd w →
  (Calls Tryz.prog 47 #[.agg (headCells (Sq.headN n t) ev cv).toArray,.int .i64 wide] w fun e w'=>e=.returned (.string (Sq.bytesN (HS wide) n t))∧Below w.heap.size w w')∧Calls Tryz.prog 37 #[.agg (headCells (Sq.headN n t) ev cv).toArray,.int .i64 wide] w fun e w'=>e=.returned (.string (Sq.digN (HS wide) n t))∧Below w.heap.size w w'
 | 0,t,ev,cv,w,h,hf,hR=>by
  have hk:(t:Sq.NodeF Empty).kids=[]:=by
   cases hq:(t:Sq.NodeF Empty).kids with
   | nil=>rfl
   | cons c _=>exact c.elim
  have key:∀w',Below w.heap.size w w'→Calls Tryz.prog 47 #[.agg (headCells (Sq.headN 0 t) ev cv).toArray,.int .i64 wide] w' fun e w''=>e=.returned (.string (Sq.bytesN (HS wide) 0 t))∧Below w'.heap.size w' w'':=by
   intro w' hb
   obtain⟨h1,rfl⟩:=(h.below hb).leaf
   refine jQkk (Z:=Z) wide 0 (Sq.headN 0 t) (Sq.NodeF.ents t) [] ev (.slice none 0 0) w' (NodeAt.slices (h.below hb)).1 ⟨World.ownsRow_nil _ _ _ _,fun x hx=>by cases hx⟩ (Nat.zero_le _) (fun _=>Sq.nobytes) (fun x hx=>by cases hx) _ (fun w'' bv hb2 hS=>?_)
   have:=jQaH K 0 t ev (.slice none 0 0) [] bv w'' ((h.below hb).below hb2) hf hS rfl (fun b hb=>by cases hb)
   have e:Sq.bytesN (HS wide) 0 t=writtenN 0 t []:=by
    show Sq.writtenF _ t ((t:Sq.NodeF Empty).kids.map _)=_
    rw[hk]
    rfl
   rw[e]
   exact this
  refine⟨key w (Below.refl _ _),?_⟩
  have hsz:(Sq.bytesN (HS wide) 0 t).size≤1000000:=by
   show(Sq.writtenF (fun e:Empty=>e.elim) t ((t:Sq.NodeF Empty).kids.map _)).size≤_
   rw[hk]
   have:=jQdw hf.at0 [] 0 (fun b hb=>by cases hb)
   rw[List.map_nil]
   omega
  have hg:=jQj5 wide hw (Sq.headN 0 t) ev cv _ hsz w (NodeAt.slices h).1 (NodeAt.slices h).2 hR key
  exact hg
 | n+1,t,ev,cv,w,h,hf,hR=>by
  obtain⟨h1,l,h2,h3⟩:=h.inner
  have hk4:=hf.at1.kids
  have heach:=hf.at1.each
  have hds:∀b∈(Sq.NodeF.kids t).map (Sq.digN (HS wide) n),b.size≤32:=fun b hb=>by
   obtain⟨c,hc,rfl⟩:=List.mem_map.1 hb
   exact jQiG wide hw K n c (heach c hc)
  have key:∀w',Below w.heap.size w w'→Calls Tryz.prog 47 #[.agg (headCells (Sq.headN (n+1) t) ev cv).toArray,.int .i64 wide] w' fun e w''=>e=.returned (.string (Sq.bytesN (HS wide) (n+1) t))∧Below w'.heap.size w' w'':=by
   intro w' hb
   have hkl:l.length≤4:=by rw[h2,List.length_map] at hk4;exact hk4
   refine jQkk (Z:=Z) wide n (Sq.headN (n+1) t) (Sq.NodeF.ents t) l ev cv w' (NodeAt.slices h).1 (h3.below hb) (by omega) (Sq.digN (HS wide) n) (fun x hx w'' hb2=>?_) _ (fun w'' bv hb2 hS=>?_)
   ·exact(jQc7 wide hw K n x.1 x.2.1 x.2.2 w'' (((h3.below hb).each x hx).below hb2) (heach x.1 (by rw[h2];exact List.mem_map.2 ⟨x,hx,rfl⟩)) ((hR.below hb).below hb2)).2
   ·rw[jQmY h2] at hS
    exact jQaH K (n+1) t ev cv _ bv w'' ((h.below hb).below hb2) hf hS (by rw[List.length_map];rfl) (fun b hb=>Nat.le_trans (hds b hb) (by omega))
  refine⟨key w (Below.refl _ _),?_⟩
  have hsz:(Sq.bytesN (HS wide) (n+1) t).size≤1000000:=by
   have:=jQdw hf.at1 ((Sq.NodeF.kids t).map (Sq.digN (HS wide) n)) 32 hds
   show(Sq.writtenF _ t _).size≤_
   omega
  exact jQj5 wide hw (Sq.headN (n+1) t) ev cv _ hsz w (NodeAt.slices h).1 (NodeAt.slices h).2 hR key
end
section
open Go.RowKit
variable {Z:Nat→Prop}
theorem jQhX (wide:Nat)(h:Sq.Head)(ev cv:Value)(tb:Nat)(tr:Sq.Trl)(w:World)(hev:∃a k c,ev=.slice a k c)(hcv:∃a k c,cv=.slice a k c)(ht:TrAt tb w tr)(hno:Sq.touchedR tr h=false)(dg:ByteArray)(hds:dg.size≤32)
  (hdo:DigOk wide (headCells h ev cv) dg w) :
  Calls Tryz.prog 44 #[.agg (headCells h ev cv).toArray,.pointer (some ⟨tb,0,none⟩),.int .i64 wide] w fun e w'=>e=.returned (.string (Sq.pnum 0 1++dg))∧Below w.heap.size w w':=by
 obtain⟨eo,el,ecap,rfl⟩:=hev
 obtain⟨co,cl,ccap,rfl⟩:=hcv
 unfold DigOk at hdo
 rw[jQc] at hdo ⊢
 obtain⟨W,hWW⟩:∃W,W=w.alloc (.cells #[.bool h.inner,.slice eo el ecap,.slice co cl ccap,.int .i64 h.least,.int .i64 h.rows,.string h.sl,.int .i64 h.num] 60):=⟨_,rfl⟩
 have hW:Below w.heap.size w W:=by rw[hWW];exact(Below.refl _ _).alloc (Nat.le_refl _) _
 have hblk:W.heap[w.heap.size]?=some (.cells #[.bool h.inner,.slice eo el ecap,.slice co cl ccap,.int .i64 h.least,.int .i64 h.rows,.string h.sl,.int .i64 h.num] 60):=by rw[hWW];exact jQk w _
 obtain⟨a0,a1,a2,a3,a4,a5,a6⟩:=node7 hblk
 have hzw:=jQg hblk
 have HC:=hd (jQaS hblk)
 have HW:=hd hW
 have HT:=hd (ht.below hW)
 have HDO:=hd hdo
 have HNO:=hd hno
 have hp:=Sq.jQt 0 1
 obtain⟨q,hq⟩:∃x,x=Sq.pnum 0 1:=⟨_,rfl⟩
 rw[←hq] at hp ⊢
 have hp':q.size≤1:=by omega
 have HQ:=hd hq
 clear hW hblk ht hdo hno hq hp
 go_enter Tryz.func44,Tryz.ntmps44
 go_wp2_with fail
 rw[←hWW]
 clear hWW
 refine(jQcq tb tr h _ _ W ⟨_,_,_,rfl⟩ ⟨_,_,_,rfl⟩ HT.out).mono ?_
 rintro e w1 ⟨rfl,hb1⟩
 rw[HNO.out]
 obtain⟨k0,k1,k2,k3,k4,k5,k6⟩:=HC.out w1 hb1
 have hz1:=hb1.size
 have hz1':w.heap.size < w1.heap.size:=by omega
 have HB1:=hd hb1
 have HBr:Hid (Below w1.heap.size w1 w1):=Below.refl _ _
 have HG:Hid (∀w',Below w1.heap.size w1 w'→Calls Tryz.prog 37 #[.agg #[.bool h.inner,.slice eo el ecap,.slice co cl ccap,.int .i64 h.least,.int .i64 h.rows,.string h.sl,.int .i64 h.num],.int .i64 wide] w' fun e w''=>e=.returned (.string dg)∧Below w'.heap.size w' w''):=fun w' hb=>HDO.out w' (HW.out.trans ((HB1.out.trans (hb.mono hz1)).mono (by omega)))
 clear hb1 a0 a1 a2 a3 a4 a5 a6
 go_wp2
 go_region_with (first
  | (go_at_call 56;refine(jQ8 0 1 _ (by omega)).mono ?_;rintro e w5 ⟨rfl,hb5⟩;have hb5':Below w1.heap.size w1 w5:=(by first | exact HBr.out.trans (hb5.mono HBr.out.size) | exact(HBr.out.drew).trans (hb5.mono (by first | (simp;done) | (have:=HBr.out.size;simp;omega))));obtain⟨m0,m1,m2,m3,m4,m5,m6⟩:=HC.out w5 (HB1.out.trans (hb5'.mono hz1));have hz5:=hb5'.size;have hz5':w.heap.size < w5.heap.size:=(by omega);clear HBr;have HBr:=hd hb5';clear hb5 hb5';rw[←HQ.out])
  | (go_at_call 37;refine(HG.out _ (by first | exact HBr.out | exact HBr.out.drew)).mono ?_;rintro e w5 ⟨rfl,hb5⟩;have hb5':Below w1.heap.size w1 w5:=(by first | exact HBr.out.trans (hb5.mono HBr.out.size) | exact(HBr.out.drew).trans (hb5.mono (by first | (simp;done) | (have:=HBr.out.size;simp;omega))));obtain⟨m0,m1,m2,m3,m4,m5,m6⟩:=HC.out w5 (HB1.out.trans (hb5'.mono hz1));have hz5:=hb5'.size;have hz5':w.heap.size < w5.heap.size:=(by omega);clear HBr;have HBr:=hd hb5';clear hb5 hb5'))
 all_goals(try go_wp2)
 all_goals
  go_ret
  exact⟨rfl,HW.out.trans ((HB1.out.trans (HBr.out.mono hz1)).mono (by omega))⟩
def WrOk (wide tb:Nat)(c:List Value)(d:ByteArray)(w:World):Prop :=
 ∀w',Below w.heap.size w w'→Calls Tryz.prog 44 #[.agg c.toArray,.pointer (some ⟨tb,0,none⟩),.int .i64 wide] w' fun e w''=>e=.returned (.string d)∧Below w'.heap.size w' w''
theorem jQhY (wide n:Nat)(h:Sq.Head)(l:List (Sq.Nd n×Value×Value))(ev cv:Value)(tb:Nat)(tr:Sq.Trl)(w:World)(hev:∃a k c,ev=.slice a k c)(hn:NodesAt Z 0 w cv n l)(hl:l.length≤100)(ht:TrAt tb w tr)(hno:Sq.touchedR tr h=true)(dg:Sq.Nd n→ByteArray)
  (hdo:∀x∈l,WrOk wide tb (nodeCells n x) (dg x.1) w) (B:ByteArray)
  (hwr:∀w' bv,Below w.heap.size w w'→StrsAt w' bv (l.map fun x=>dg x.1)→Calls Tryz.prog 57 #[.agg (headCells h ev cv).toArray,bv] w' fun e w''=>e=.returned (.string B)∧Below w'.heap.size w' w'') :
  Calls Tryz.prog 44 #[.agg (headCells h ev cv).toArray,.pointer (some ⟨tb,0,none⟩),.int .i64 wide] w fun e w'=>e=.returned (.string B)∧Below w.heap.size w w':=by
 obtain⟨eo,el,ecap,rfl⟩:=hev
 obtain⟨co,ccap,rfl⟩:=jQa hn.own
 rw[jQc] at hwr ⊢
 obtain⟨W,hWW⟩:∃W,W=w.alloc (.cells #[.bool h.inner,.slice eo el ecap,.slice co l.length ccap,.int .i64 h.least,.int .i64 h.rows,.string h.sl,.int .i64 h.num] 60):=⟨_,rfl⟩
 have hW:Below w.heap.size w W:=by rw[hWW];exact(Below.refl _ _).alloc (Nat.le_refl _) _
 have hWs:W.heap.size=w.heap.size+1:=by rw[hWW];exact jQo w _
 have hblk:W.heap[w.heap.size]?=some (.cells #[.bool h.inner,.slice eo el ecap,.slice co l.length ccap,.int .i64 h.least,.int .i64 h.rows,.string h.sl,.int .i64 h.num] 60):=by rw[hWW];exact jQk w _
 obtain⟨a0,a1,a2,a3,a4,a5,a6⟩:=node7 hblk
 have hzw:=jQg hblk
 have HC:=hd (jQaS hblk)
 have HW:=hd hW
 have HWS:=hd hWs
 have HN:=hd (hn.below hW)
 have HT:=hd (ht.below hW)
 have HDO:=hd hdo
 have HWR:=hd hwr
 have HNO:=hd hno
 clear hW hWs hblk hn hdo hwr ht hno
 go_enter Tryz.func44,Tryz.ntmps44
 go_wp2_with fail
 rw[←hWW]
 clear hWW
 refine(jQcq tb tr h _ _ W ⟨_,_,_,rfl⟩ ⟨_,_,_,rfl⟩ HT.out).mono ?_
 rintro e w0 ⟨rfl,hb0⟩
 rw[HNO.out]
 have HB0:=hd hb0
 clear hb0 a0 a1 a2 a3 a4 a5 a6
 go_wp2
 go_loopw [7,8] (fun v i wr=>∃k:Nat,k≤l.length∧i=.int .i64 k∧Hid (wr.ownsRow (w.heap.size+1) 9 1 v ((l.take k).map fun x=>dg x.1).length (((l.take k).map fun x=>dg x.1).map Value.string))∧Hid (Below W.heap.size W wr)) (fun _ i _=>l.length - (intOf i).toNat)
 case atStart=>exact⟨0,Nat.zero_le _,rfl,World.ownsRow_nil _ _ _ _,HB0⟩
 case round =>
  obtain⟨k,hk,rfl,hac,hb⟩:=hrel
  obtain⟨wo,rfl⟩:∃wo:World,wo=wr:=⟨_,rfl⟩
  have hal:((l.take k).map fun x=>dg x.1).length=k:=by simp;omega
  obtain⟨acc,hacc⟩:∃acc,acc=(l.take k).map fun x=>dg x.1:=⟨_,rfl⟩
  rw[←hacc] at hac hal
  obtain⟨yo,ycap,rfl⟩:=jQa hac.out
  obtain⟨m0,m1,m2,m3,m4,m5,m6⟩:=HC.out wo hb.out
  have hzr:=hb.out.size
  rw[HWS.out] at hzr
  have hzw:w.heap.size < wo.heap.size:=by omega
  have HACC:=hd hacc
  have HAL:=hd hal
  have hal2:acc.length≤100:=by omega
  clear hacc hal
  by_cases hkt:k < l.length
  ·obtain⟨g,cap',ea,el',ec,ca,cl,cc,hv,hg,⟨d0,d1,d2,d3,d4,dsl,dnu⟩,d5,d6⟩:=(HN.out.below hb.out).at k hkt
   simp only[Value.slice.injEq] at hv
   obtain⟨rfl,-,rfl⟩:=hv
   have hmem:=List.getElem_mem hkt
   have hdk:=HDO.out _ hmem
   have hst:acc++[dg l[k].1]=(l.take (k+1)).map fun x=>dg x.1:=by rw[HACC.out,List.take_succ_eq_append_getElem hkt,List.map_append];rfl
   obtain⟨x,hx⟩:∃x,x=l[k]:=⟨_,rfl⟩
   rw[←hx] at d0 d3 d4 dsl dnu d5 d6 hdk hst
   obtain⟨t,evx,cvx⟩:=x
   simp only[Prod.mk.injEq] at d5
   obtain⟨rfl,rfl⟩:=d5
   have HST:=hd hst
   have HDK:=hd (hdk wo (HW.out.trans (hb.out.mono (by rw[HWS.out];omega))))
   obtain⟨xh,hxh⟩:∃x,x=Sq.headN n t:=⟨_,rfl⟩
   have hdk2:=HDK.out
   have hnc:nodeCells n (t,.slice ea el' ec,.slice ca cl cc)=headCells xh (.slice ea el' ec) (.slice ca cl cc):=by rw[hxh];rfl
   rw[hnc,jQc] at hdk2
   rw[←hxh] at d0 d3 d4 dsl dnu
   simp only at hdk2 hst
   obtain⟨D,hD⟩:∃D,D=dg t:=⟨_,rfl⟩
   rw[←hD] at hdk2
   have hst2:acc++[D]=(l.take (k+1)).map fun x=>dg x.1:=by rw[hD];exact hst
   have HST2:=hd hst2
   have HDK2:=hd hdk2
   have i1:¬((l.length:Int)≤(k:Int)):=by omega
   clear hmem hdk hst hx d6 HST HDK hxh hdk2 hnc hD hst2
   go_wp2_with fail
   refine HDK2.out.mono ?_
   rintro e w1 ⟨rfl,hb1⟩
   have HAC1:=hd (jQh hac.out hb1)
   have HB1:=hd hb1
   have hz1:=hb1.size
   have hA:Below w1.heap.size w1 (w1.alloc (.cells #[.string D] 9)):=(Below.refl _ _).alloc (Nat.le_refl _) _
   have HA4:=hd (jQh HAC1.out hA)
   have HA:=hd hA
   clear hb1 hA HDK2
   go_wp2_with (at_builtin;refine jQbK rfl (.tmp 25) (.tmp 34) rfl (w.heap.size+1) _ acc rfl HA4.out D w1.heap.size 1 rfl (by simp[go_sem]) (by omega) (by simp;omega) ?_;intro v5 w5 hown5 hb5;have HO5:=hd hown5;have HB5:=hd hb5;clear hown5 hb5)
   go_roundw
   case rel=>exact⟨k+1,by omega,by go_num,by have:=HO5.out;rw[HST2.out] at this;exact this,hb.out.trans ((HB1.out.mono (by rw[HWS.out];omega)).trans ((HA.out.mono (by rw[HWS.out];omega)).trans (by rw[HWS.out];exact HB5.out)))⟩
   case measure=>simp[intOf];omega
  ·have hkl:k=l.length:=by omega
   have hacl:acc=l.map fun x=>dg x.1:=by rw[HACC.out,hkl,List.take_length]
   have HS:Hid (StrsAt wo (.slice yo acc.length ycap) (l.map fun x=>dg x.1)):=⟨by have:=hac.out;rw[hacl] at this ⊢;exact jQi this (Nat.zero_le _),by simp;omega⟩
   have HBW:=hd (HW.out.trans (hb.out.mono (by rw[HWS.out];omega)))
   have i1:¬((k:Int) < (l.length:Int)):=by omega
   clear hkl hacl
   go_wp2_with fail
   refine(HWR.out wo _ HBW.out HS.out).mono ?_
   rintro e w1 ⟨rfl,hb1⟩
   go_wp2
   go_ret
   exact⟨rfl,HBW.out.trans (hb1.mono HBW.out.size)⟩
theorem jQfr {α:Type}(f:α→Sq.Head)(wr:α→ByteArray)(dg:ByteArray)(tr:Sq.Trl)(t:Sq.NodeF α)(h:Sq.touchedR tr t.hd=true):Sq.writeF f wr dg tr t=Sq.writtenF f t (t.kids.map wr):=by unfold Sq.writeF;rw[h];rfl
theorem jQfq {α:Type}(f:α→Sq.Head)(wr:α→ByteArray)(dg:ByteArray)(tr:Sq.Trl)(t:Sq.NodeF α)(h:Sq.touchedR tr t.hd=false):Sq.writeF f wr dg tr t=Sq.pnum 0 1++dg:=by unfold Sq.writeF;rw[h];rfl
theorem jQe2:∀{l:List ByteArray} {b x:ByteArray},x∈l→x.size≤(l.foldl (·++·) b).size
 | y :: r,b,x,h=>by
  rw[List.foldl_cons]
  rcases List.mem_cons.1 h with rfl | h
  ·rw[Sq.jQcl,ByteArray.size_append,ByteArray.size_append];omega
  ·exact jQe2 h
theorem jQd8 {α:Type}(f:α→Sq.Head)(t:Sq.NodeF α)(wr:α→ByteArray){c:α}(hc:c∈t.kids):(wr c).size≤(Sq.writtenF f t (t.kids.map wr)).size:=by
 unfold Sq.writtenF
 have hz:(c,wr c)∈t.kids.zip (t.kids.map wr):=by
  obtain⟨i,hi,he⟩:=List.getElem_of_mem hc
  have:(t.kids.zip (t.kids.map wr))[i]'(by rw[List.length_zip,List.length_map];omega)=(c,wr c):=by rw[List.getElem_zip,List.getElem_map,he]
  rw[←this]
  exact List.getElem_mem _
 have h2:Sq.kidBytes (f c) (wr c)∈(t.kids.zip (t.kids.map wr)).map fun x=>Sq.kidBytes (f x.1) x.2:=List.mem_map.2 ⟨_,hz,rfl⟩
 have h3:=jQe2 (b:=(t.ents.map Sq.entBytes).foldl (·++·) (Sq.pnum (if t.hd.inner then 2 else 1) 1++Sq.pnum (Sq.sizeF t) 1)) h2
 rw[Sq.jQiz] at h3
 omega
theorem jQkj (wide:Nat)(hw:wide≤32)(K:Int)(tb:Nat)(tr:Sq.Trl):∀(n:Nat) (t:Sq.Nd n) (ev cv:Value) (w:World),NodeAt Z w n t ev cv→Sq.tameN K n t→Rnd w→TrAt tb w tr→(Sq.writeN (HS wide) tr n t).size≤10000 →
  Calls Tryz.prog 44 #[.agg (headCells (Sq.headN n t) ev cv).toArray,.pointer (some ⟨tb,0,none⟩),.int .i64 wide] w fun e w'=>e=.returned (.string (Sq.writeN (HS wide) tr n t))∧Below w.heap.size w w'
 | 0,t,ev,cv,w,h,hf,hR,ht,hsz=>by
  have hk:(t:Sq.NodeF Empty).kids=[]:=by
   cases hq:(t:Sq.NodeF Empty).kids with
   | nil=>rfl
   | cons c _=>exact c.elim
  cases hto:Sq.touchedR tr (Sq.headN 0 t) with
  | false =>
   have e:Sq.writeN (HS wide) tr 0 t=Sq.pnum 0 1++Sq.digN (HS wide) 0 t:=jQfq _ _ _ tr t hto
   rw[e]
   exact jQhX wide (Sq.headN 0 t) ev cv tb tr w (NodeAt.slices h).1 (NodeAt.slices h).2 ht hto _ (jQiG wide hw K 0 t hf) (fun w' hb=>(jQc7 wide hw K 0 t ev cv w' (h.below hb) hf (hR.below hb)).2)
  | true =>
   have e:Sq.writeN (HS wide) tr 0 t=writtenN 0 t []:=by
    have:=jQfr (fun e:Empty=>e.elim) (fun e:Empty=>e.elim) (Sq.digN (HS wide) 0 t) tr t hto
    rw[hk] at this
    exact this
   rw[e]
   obtain⟨h1,rfl⟩:=h.leaf
   refine jQhY (Z:=Z) wide 0 (Sq.headN 0 t) [] ev (.slice none 0 0) tb tr w (NodeAt.slices h).1 ⟨World.ownsRow_nil _ _ _ _,fun x hx=>by cases hx⟩ (Nat.zero_le _) ht hto (fun _=>Sq.nobytes) (fun x hx=>by cases hx) _ (fun w' bv hb hS=>?_)
   exact jQaH K 0 t ev (.slice none 0 0) [] bv w' (h.below hb) hf hS rfl (fun b hb=>by cases hb)
 | n+1,t,ev,cv,w,h,hf,hR,ht,hsz=>by
  cases hto:Sq.touchedR tr (Sq.headN (n+1) t) with
  | false =>
   have e:Sq.writeN (HS wide) tr (n+1) t=Sq.pnum 0 1++Sq.digN (HS wide) (n+1) t:=jQfq _ _ _ tr t hto
   rw[e]
   exact jQhX wide (Sq.headN (n+1) t) ev cv tb tr w (NodeAt.slices h).1 (NodeAt.slices h).2 ht hto _ (jQiG wide hw K (n+1) t hf) (fun w' hb=>(jQc7 wide hw K (n+1) t ev cv w' (h.below hb) hf (hR.below hb)).2)
  | true =>
   have e:Sq.writeN (HS wide) tr (n+1) t=writtenN (n+1) t ((Sq.NodeF.kids t).map (Sq.writeN (HS wide) tr n)):=jQfr (Sq.headN n) (Sq.writeN (HS wide) tr n) _ tr t hto
   rw[e] at hsz ⊢
   obtain⟨h1,l,h2,h3⟩:=h.inner
   have hk4:=hf.at1.kids
   have heach:=hf.at1.each
   have hkl:l.length≤4:=by rw[h2,List.length_map] at hk4;exact hk4
   have hkid:∀c∈Sq.NodeF.kids t,(Sq.writeN (HS wide) tr n c).size≤10000:=fun c hc=>Nat.le_trans (jQd8 (Sq.headN n) t (Sq.writeN (HS wide) tr n) hc) hsz
   refine jQhY (Z:=Z) wide n (Sq.headN (n+1) t) l ev cv tb tr w (NodeAt.slices h).1 h3 (by omega) ht hto (Sq.writeN (HS wide) tr n) (fun x hx w' hb=>?_) _ (fun w' bv hb hS=>?_)
   ·have hm:x.1∈Sq.NodeF.kids t:=by rw[h2];exact List.mem_map.2 ⟨x,hx,rfl⟩
    exact jQkj wide hw K tb tr n x.1 x.2.1 x.2.2 w' ((h3.each x hx).below hb) (heach x.1 hm) (hR.below hb) (ht.below hb) (hkid x.1 hm)
   ·rw[jQmY h2] at hS
    exact jQaH K (n+1) t ev cv _ bv w' (h.below hb) hf hS (by rw[List.length_map];rfl) (fun b hb=>by
     obtain⟨c,hc,rfl⟩:=List.mem_map.1 hb
     exact hkid c hc)
end
end Go.Proofs.YtahpihjialbanaaGreatDoor
