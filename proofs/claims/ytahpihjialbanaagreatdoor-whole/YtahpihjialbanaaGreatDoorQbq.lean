import Derived.Test.YtahpihjialbanaaGreatDoorQbl
import Derived.Test.YtahpihjialbanaaGreatDoorQbp
set_option linter.unusedVariables false
set_option linter.unusedSimpArgs false
set_option maxRecDepth 100000
set_option maxHeartbeats 40000000
namespace Go.Proofs.YtahpihjialbanaaGreatDoor
open Sq (headN NodeF Nd pnum digN)
section
open Go.RowKit
variable {Z:Nat->Prop}
theorem jQih (n:Nat)(l:List (Nd n×Value×Value))(cv:Value)(hle hro hnu:Int)(hsl:ByteArray)(eo:Option Addr)(ec0:Nat)(bs:List ByteArray)(bv:Value)(w:World)(h:NodesAt Z 0 w cv n l)(hS:StrsAt w bv bs)(hl:l.length<=100)(hbl:bs.length=l.length)(hds:∀b∈bs,b.size<=10000)(B:ByteArray)(HE:Hid (B=Sq.kidsB (headN n) (pnum 2 1++pnum l.length 1) ((l.map Prod.fst).zip bs))) :
  Calls Tryz.prog 57 #[.agg #[.bool true,.slice eo 0 ec0,cv,.int .i64 hle,.int .i64 hro,.string hsl,.int .i64 hnu],bv] w fun e w'=>e=.returned (.string B)/\Below w.heap.size w w':=by
 obtain⟨ao,acap,rfl⟩:=jQa h.own;obtain⟨vo,vcap,rfl⟩:=jQa hS.1;have H:=hd h;have hL:=hd hS;have HS:=hd hds;have hY:=hd hbl;have hN:bs.length<=l.length:=by omega
 have hQ:l.length<=bs.length:=by omega
 have hF:=Sq.jQt 2 1;have hB:=Sq.jQt l.length 1;obtain⟨p1,hq1⟩:∃x,x=pnum 2 1:=⟨_,rfl⟩;obtain⟨p2,hq2⟩:∃x,x=pnum l.length 1:=⟨_,rfl⟩;have he:=HE.o;rw[<-hq1,<-hq2] at he;rw[<-hq1] at hF;rw[<-hq2] at hB;have hz:=hd he;have hj:=hd hq1;have hi:=hd hq2;have ho:p1.size<=1:=by omega
 have hs:p2.size<=1:=by omega
 have hM:(p1++p2).size=p1.size+p2.size:=ByteArray.size_append;have hh:Hid ((p1++p2).size<=2000):=by show _<=_;omega
 clear h hds hS hbl HE he hq1 hq2 hF hB hM;go_enter Tryz.func57,Tryz.ntmps57;go_wp2;obtain⟨W,hW⟩:∃W:World,W=w.alloc (.cells #[.bool true,.slice eo 0 ec0,.slice ao l.length acap,.int .i64 hle,.int .i64 hro,.string hsl,.int .i64 hnu] 60):=⟨_,rfl⟩;rw[<-hW];have hC:Below w.heap.size w W:=by rw[hW];exact(bR).alloc (nR) _
 have hf:W.heap[w.heap.size]?=some (.cells #[.bool true,.slice eo 0 ec0,.slice ao l.length acap,.int .i64 hle,.int .i64 hro,.string hsl,.int .i64 hnu] 60):=by rw[hW];exact jQi w _
 have hU:=jQf hf;have HC:=hd (jQaF hf);obtain⟨c0,c1,c2,c3,c4,c5,c6⟩:=node7 hf;have hu:=hd hC;clear hW hC hf
 go_cut [6] from 11 (fun bv wx=>bv=.string (p1++p2)/\Below W.heap.size W wx)
 case first =>
  have hc:Hid (Below W.heap.size W W):=bR
  go_region_with (first
   | (go_at_call 83;refine(jQoU hle hro hnu hsl eo 0 ec0 ao l.length acap _).mono ?_;rintro e w5 ⟨rfl,hb5⟩;have ha:Below W.heap.size W w5:=(by first | exact hc.o.trans (hb5.mono (by omega)) | exact(hc.o.drew).trans (hb5.mono (by simp)));obtain⟨k0,k1,k2,k3,k4,k5,k6⟩:=HC.o w5 ha;have hH:=ha.size;have ht:w.heap.size<w5.heap.size:=(by omega);clear hc;have hc:=hd ha;clear hb5 ha)
   | (go_at_call 56;refine(jQ7 _ 1 _ (by omega)).mono ?_;rintro e w5 ⟨rfl,hb5⟩;have ha:Below W.heap.size W w5:=(by first | exact hc.o.trans (hb5.mono (by omega)) | exact(hc.o.drew).trans (hb5.mono (by simp)));obtain⟨k0,k1,k2,k3,k4,k5,k6⟩:=HC.o w5 ha;have hH:=ha.size;have ht:w.heap.size<w5.heap.size:=(by omega);clear hc;have hc:=hd ha;clear hb5 ha;first | rw[<-hj.o] | rw[<-hi.o]))
  all_goals(try go_wp2_with fail)
  all_goals go_meet
  all_goals exact⟨rfl,hc.o⟩
 case rest =>
  obtain⟨rfl,hbc⟩:=hcut;have hy:=hd hbc;obtain⟨m0,m1,m2,m3,m4,m5,m6⟩:=HC.o wc hbc;have hV:=hbc.size;have hO:w.heap.size<wc.heap.size:=by omega
  clear hbc c0 c1 c2 c3 c4 c5 c6 hj hi ho hs;go_wp2
  go_loopw [6,7] (fun bv i wr=>bv=.string (p1++p2)/\i=.int .i64 0/\wr=wc) (fun _ _ _=>0)
  case atStart=>exact⟨rfl,rfl,rfl⟩
  case round =>
   obtain⟨rfl,rfl,rfl⟩:=hrel;obtain⟨wd,rfl⟩:∃wd:World,wd=wr:=⟨_,rfl⟩;go_wp2
   go_loopw [6,8] (fun bv i wr=>∃(k:Nat) (b:ByteArray),bv=.string b/\i=.int .i64 k/\k<=l.length/\b.size<=11000*(k+1)/\Below W.heap.size W wr/\Hid (B=Sq.kidsB (headN n) b (((l.map Prod.fst).zip bs).drop k))) (fun _ i _=>l.length-(intOf i).toNat)
   case atStart=>exact⟨0,p1++p2,rfl,rfl,zR,by have:=hh.o;omega,hy.o,hz⟩
   case round =>
    obtain⟨k,b,rfl,rfl,hk,hbs,hb,HQ⟩:=hrel;clear hh hy hz m0 m1 m2 m3 m4 m5 m6;obtain⟨wo,rfl⟩:∃wo:World,wo=wr:=⟨_,rfl⟩;have hX:=hb.size;have hK:w.heap.size<wo.heap.size:=by omega
    obtain⟨m0,m1,m2,m3,m4,m5,m6⟩:=HC.o wo hb;have HB:=hd hb
    by_cases hkt:k<l.length
    ·obtain⟨g,cap',ea,el,ec,ca,cl,cc,hv,hg,⟨d0,d1,d2,d3,d4,dsl,dnu⟩,d5,d6⟩:=((H.o.below hu.o).below hb).at k hkt;simp only[Value.slice.injEq] at hv;obtain⟨rfl,-,rfl⟩:=hv;obtain⟨gs,caps,hvs,hgs,ds⟩:=((hL.o.below hu.o).below hb).at k (by omega);simp only[Value.slice.injEq] at hvs;obtain⟨rfl,-,rfl⟩:=hvs;have hm:=HS.o bs[k] (List.getElem_mem (by omega));have hq:=HQ.o;rw[Sq.jQnt _ _ k (by rw[List.length_zip,List.length_map];omega),List.getElem_zip,List.getElem_map] at hq;simp only at hq;clear HQ hb d0 d1 d2 d5 d6 dsl dnu;generalize headN n l[k].1=xh at *;obtain⟨xi,xl,xc,xs,xn⟩:=xh;simp only at hq d3 d4;generalize bs[k]=xd at *;have hG:=Sq.jQt xl 5;have hE:=Sq.jQt xc 1;obtain⟨q1,hq1⟩:∃x,x=pnum xl 5:=⟨_,rfl⟩;obtain⟨q2,hq2⟩:∃x,x=pnum xc 1:=⟨_,rfl⟩;rw[<-hq1,<-hq2] at hq;rw[<-hq2] at hE;rw[<-hq1] at hG;have HQ:=hd hq;have hJ:q1.size<=5:=by omega
     have hP:q2.size<=1:=by omega
     have hp:(q1++q2).size=q1.size+q2.size:=ByteArray.size_append;have hw:(q1++q2++xd).size=(q1++q2).size+xd.size:=ByteArray.size_append;have hr:(b++(q1++q2++xd)).size=b.size+(q1++q2++xd).size:=ByteArray.size_append;have hh:Hid ((b++(q1++q2++xd)).size<=11000*(k+1+1)):=by show _<=_;omega
     have hI:(q1++q2++xd).size<=10010:=by omega
     have hR:(q1++q2).size<=6:=by omega
     have hj:=hd hq1;have hi:=hd hq2;have i1:(k:Int)<(l.length:Int):=by omega
     have i2:¬((l.length:Int)<=(k:Int)):=by omega
     have i0:¬((k:Int)<0):=by omega
     have i3:decide ((k:Int)<(bs.length:Int))=true:=by simp;omega
     have i4:¬((bs.length:Int)<=(k:Int)):=by omega
     have hA:g<wo.heap.size:=hg;have hn:gs<wo.heap.size:=hgs;have hD:Hid (∀w',Below wo.heap.size wo w'->w'.cell? ⟨g,k*7+3,none⟩=some (.int .i64 xl)/\w'.cell? ⟨g,k*7+4,none⟩=some (.int .i64 xc)/\w'.cell? ⟨gs,k,none⟩=some (.string xd)/\w'.cell? ⟨w.heap.size,2,none⟩=some (.slice (some ⟨g,0,none⟩) l.length acap)/\g<w'.heap.size/\gs<w'.heap.size/\w.heap.size<w'.heap.size):=fun w' hb'=>⟨((bcell hb').1 g _ hA).trans d3,((bcell hb').1 g _ hA).trans d4,((bcell hb').1 gs _ hn).trans ds,((bcell hb').1 w.heap.size 2 hK).trans m2,by have:=hb'.size;omega,by have:=hb'.size;omega,by have:=hb'.size;omega⟩
     have j1:(9223372036854775807<q1.size+q2.size)=False:=by simp;omega
     have j2:(9223372036854775807<q1.size+q2.size+xd.size)=False:=by simp;omega
     have j3:(9223372036854775807<b.size+(q1.size+q2.size+xd.size))=False:=by simp;omega
     clear hq hE hG hq1 hq2 hp hw hr;go_wp2;have hc:Hid (Below wo.heap.size wo wo):=bR
     go_region_held3 (fun w'=>w'.cell? ⟨g,k*7+3,none⟩=some (.int .i64 xl)/\w'.cell? ⟨g,k*7+4,none⟩=some (.int .i64 xc)/\w'.cell? ⟨gs,k,none⟩=some (.string xd)/\w'.cell? ⟨w.heap.size,2,none⟩=some (.slice (some ⟨g,0,none⟩) l.length acap)) (go_keep) (first | (go_at_call 56;have hx:=hT;clear hx;refine(jQ7 xc 1 _ (by omega)).mono ?_;rintro e w5 ⟨rfl,hb5⟩;have ha:Below wo.heap.size wo w5:=(by first | exact hc.o.trans (hb5.mono hc.o.size) | exact(hc.o.drew).trans (hb5.mono (by first | (simp;done) | (have:=hc.o.size;simp;omega) | exact hc.o.size)));obtain⟨k3,k4,ks,k2,k5,k6,k7⟩:=hD.o w5 ha;clear hc;have hc:=hd ha;clear hb5 ha;rw[<-hi.o]) | (go_at_call 56;have hT:True:=trivial;refine(jQ7 xl 5 _ (by omega)).mono ?_;rintro e w5 ⟨rfl,hb5⟩;have ha:Below wo.heap.size wo w5:=(by first | exact hc.o.trans (hb5.mono hc.o.size) | exact(hc.o.drew).trans (hb5.mono (by first | (simp;done) | (have:=hc.o.size;simp;omega) | exact hc.o.size)));obtain⟨k3,k4,ks,k2,k5,k6,k7⟩:=hD.o w5 ha;clear hc;have hc:=hd ha;clear hb5 ha;rw[<-hj.o]))
     all_goals(try go_wp2)
     all_goals
      go_roundw
      case rel=>exact⟨k+1,b++(q1++q2++xd),rfl,by go_num,by omega,hh.o,HB.o.trans (hc.o.mono (by omega)),HQ⟩
      case measure=>simp[intOf];omega
    ·have i1:¬((k:Int)<(l.length:Int)):=by omega
     have HN:Hid (B=b):=by show _=_;rw[HQ.o,List.drop_eq_nil_of_le (by rw[List.length_zip,List.length_map];omega)];rfl
     clear hb HQ;go_wp2;go_ret;exact⟨by rw[HN.o];rfl,hu.o.trans (HB.o.mono (by omega))⟩
end
section
open Go.RowKit
variable {Z:Nat->Prop}
theorem jQbs {ops:Array Oper}{rest:List Oper}{o:Oper}{a:Act}{Q:Exit->Act->World->Prop}{w:World}(hgd:o.guard=none)(sl x:Operand)
  (ho:o.op=.call { callee:=.builtin .append,args:=#[sl,x],argTypes:=#[35,35] }) (B:Nat) (v:Value) (l:List ByteArray) (hs:a.eval sl=v) (hb:w.ownsRow B 9 1 v l.length (l.map Value.string))
  (b:ByteArray) (g c:Nat) (hx:a.eval x=.slice (some ⟨g,0,none⟩) 1 c) (hc0:w.cell? ⟨g,0,none⟩=some (.string b)) (h1:l.length+1<=1000000) (hB:B<=w.heap.size)
  (h:∀v' w',w'.ownsRow B 9 1 v' (l++[b]).length ((l++[b]).map Value.string)->Below B w w'->wpList Tryz.prog ops Q rest (a.put o.dst v') w'):wpList Tryz.prog ops Q (o::rest) a w:=by
 obtain⟨i0,hi,hz0,hz1,hz2⟩:=info_parts Tryz.infoStr
 refine wpList_append_lies _ hgd sl x 35 ho B 9 i0 _ 1 16 Tryz.underlying35 hi hz0 hz1 hz2 rfl (by decide) v l.length _ hs hb ⟨g,0,none⟩ 1 c [.string b] hx rfl (by
  intro j u hu;rw[jQaQ]
  match j,hu with
  | 0,hu=>simp at hu;subst hu;exact hc0
  | j+1,hu=>simp at hu) (by intro u hu;simp at hu;subst hu;rfl) (by decide) (by unfold maxLen;omega) (by omega) hB _ rfl ?_
 intro g' cap w' ho' hg' _ _;refine h _ w' ?_ (Tch.of_grown hg' (fun k hk=>(World.ownsRow.lt hb k hk).1) hB);rw[List.length_append,List.map_append];exact ho'
def DigOk (wide:Nat)(c:List Value)(d:ByteArray)(w:World):Prop :=
 ∀w',Below w.heap.size w w'->Calls Tryz.prog 37 #[.agg c.toArray,.int .i64 wide] w' fun e w''=>e=.returned (.string d)/\Below w'.heap.size w' w''
theorem jQkE (wide n:Nat)(h:Sq.Head)(es:List Sq.Ent)(l:List (Nd n×Value×Value))(ev cv:Value)(w:World)(hev:∃a k c,ev=.slice a k c)(hn:NodesAt Z 0 w cv n l)(hl:l.length<=100)(dg:Nd n->ByteArray)
  (hdo:∀x∈l,DigOk wide (nodeCells n x) (dg x.1) w) (B:ByteArray)
  (hwr:∀w' bv,Below w.heap.size w w'->StrsAt w' bv (l.map fun x=>dg x.1)->Calls Tryz.prog 57 #[.agg (headCells h ev cv).toArray,bv] w' fun e w''=>e=.returned (.string B)/\Below w'.heap.size w' w'') :
  Calls Tryz.prog 47 #[.agg (headCells h ev cv).toArray,.int .i64 wide] w fun e w'=>e=.returned (.string B)/\Below w.heap.size w w':=by
 obtain⟨eo,el,ecap,rfl⟩:=hev;obtain⟨co,ccap,rfl⟩:=jQa hn.own;rw[jQc] at hwr ⊢;obtain⟨W,hWW⟩:∃W,W=w.alloc (.cells #[.bool h.inner,.slice eo el ecap,.slice co l.length ccap,.int .i64 h.least,.int .i64 h.rows,.string h.sl,.int .i64 h.num] 60):=⟨_,rfl⟩;have hW:Below w.heap.size w W:=by rw[hWW];exact(bR).alloc (nR) _
 have hw:W.heap.size=w.heap.size+1:=by rw[hWW];exact jQr w _
 have hi:W.heap[w.heap.size]?=some (.cells #[.bool h.inner,.slice eo el ecap,.slice co l.length ccap,.int .i64 h.least,.int .i64 h.rows,.string h.sl,.int .i64 h.num] 60):=by rw[hWW];exact jQi w _
 have HC:=hd (jQaF hi);have HW:=hd hW;have hc:=hd hw;have HN:=hd (hn.below hW);have hH:=hd hdo;have hK:=hd hwr;clear hW hw hi hn hdo hwr;go_enter Tryz.func47,Tryz.ntmps47;go_wp2;rw[<-hWW];clear hWW
 go_loopw [5,6] (fun v i wr=>∃k:Nat,k<=l.length/\i=.int .i64 k/\Hid (wr.ownsRow (w.heap.size+1) 9 1 v ((l.take k).map fun x=>dg x.1).length (((l.take k).map fun x=>dg x.1).map Value.string))/\Hid (Below W.heap.size W wr)) (fun _ i _=>l.length-(intOf i).toNat)
 case atStart=>exact⟨0,zR,rfl,World.ownsRow_nil _ _ _ _,bR⟩
 case round =>
  obtain⟨k,hk,rfl,hac,hb⟩:=hrel;obtain⟨wo,rfl⟩:∃wo:World,wo=wr:=⟨_,rfl⟩;have hp:((l.take k).map fun x=>dg x.1).length=k:=by simp;omega
  obtain⟨acc,hacc⟩:∃acc,acc=(l.take k).map fun x=>dg x.1:=⟨_,rfl⟩
  rw[<-hacc] at hac hp;obtain⟨yo,ycap,rfl⟩:=jQa hac.o;obtain⟨m0,m1,m2,m3,m4,m5,m6⟩:=HC.o wo hb.o;have hJ:=hb.o.size;rw[hc.o] at hJ;have hM:w.heap.size<wo.heap.size:=by omega
  have he:=hd hacc;have hL:=hd hp;have hC:acc.length<=100:=by omega
  clear hacc hp
  by_cases hkt:k<l.length
  ·obtain⟨g,cap',ea,el',ec,ca,cl,cc,hv,hg,⟨d0,d1,d2,d3,d4,dsl,dnu⟩,d5,d6⟩:=(HN.o.below hb.o).at k hkt;simp only[Value.slice.injEq] at hv;obtain⟨rfl,-,rfl⟩:=hv;have hm:=List.getElem_mem hkt;have hs:=hH.o _ hm;have hh:acc++[dg l[k].1]=(l.take (k+1)).map fun x=>dg x.1:=by rw[he.o,List.take_succ_eq_append_getElem hkt,List.map_append];rfl
   obtain⟨x,hx⟩:∃x,x=l[k]:=⟨_,rfl⟩;rw[<-hx] at d0 d3 d4 dsl dnu d5 d6 hs hh;obtain⟨t,evx,cvx⟩:=x;simp only[Prod.mk.injEq] at d5;obtain⟨rfl,rfl⟩:=d5;have hG:=hd hh;have hy:=hd (hs wo (HW.o.trans (hb.o.mono (by rw[hc.o];omega))));obtain⟨xh,hxh⟩:∃x,x=headN n t:=⟨_,rfl⟩;have ha:=hy.o;have hu:nodeCells n (t,.slice ea el' ec,.slice ca cl cc)=headCells xh (.slice ea el' ec) (.slice ca cl cc):=by rw[hxh];rfl
   rw[hu,jQc] at ha;rw[<-hxh] at d0 d3 d4 dsl dnu;simp only at ha hh;obtain⟨D,hD⟩:∃D,D=dg t:=⟨_,rfl⟩;rw[<-hD] at ha;have hj:acc++[D]=(l.take (k+1)).map fun x=>dg x.1:=by rw[hD];exact hh
   have ht:=hd hj;have ho:=hd ha;have i1:¬((l.length:Int)<=(k:Int)):=by omega
   clear hm hs hh hx d6 hG hy hxh ha hu hD hj;go_wp2_with fail;refine ho.o.mono ?_;rintro e w1 ⟨rfl,hb1⟩;have hq:=hd (jQh hac.o hb1);have hF:=hd hb1;have hN:=hb1.size;have hA:Below w1.heap.size w1 (w1.alloc (.cells #[.string D] 9)):=(bR).alloc (nR) _;have hB:=hd (jQh hq.o hA);have HA:=hd hA;clear hb1 hA ho;go_wp2_with (at_builtin;refine jQbs rfl (.tmp 14) (.tmp 22) rfl (w.heap.size+1) _ acc rfl hB.o D w1.heap.size 1 rfl (by simp[go_sem]) (by omega) (by simp;omega) ?_;intro v5 w5 hown5 hb5;have hE:=hd hown5;have hI:=hd hb5;clear hown5 hb5);go_roundw
   case rel=>exact⟨k+1,by omega,by go_num,by have:=hE.o;rw[ht.o] at this;exact this,hb.o.trans ((hF.o.mono (by rw[hc.o];omega)).trans ((HA.o.mono (by rw[hc.o];omega)).trans (by rw[hc.o];exact hI.o)))⟩
   case measure=>simp[intOf];omega
  ·have hz:k=l.length:=by omega
   have hf:acc=l.map fun x=>dg x.1:=by rw[he.o,hz,List.take_length]
   have HS:Hid (StrsAt wo (.slice yo acc.length ycap) (l.map fun x=>dg x.1)):=⟨by have:=hac.o;rw[hf] at this ⊢;exact jQj this (zR),by simp;omega⟩;have hr:=hd (HW.o.trans (hb.o.mono (by rw[hc.o];omega)));have i1:¬((k:Int)<(l.length:Int)):=by omega
   clear hz hf;go_wp2_with fail;refine(hK.o wo _ hr.o HS.o).mono ?_;rintro e w1 ⟨rfl,hb1⟩;go_wp2;go_ret;exact⟨rfl,hr.o.trans (hb1.mono hr.o.size)⟩
end
section
open Go.RowKit
variable {Z:Nat->Prop}
theorem jQdk {α:Type}(f:α->Sq.Head)(t:NodeF α)(hi:t.hd.inner=false)(hk:t.kids=[])(bs:List ByteArray):Sq.writtenF f t bs=Sq.entsB (pnum 1 1++pnum (t.ents.length:Nat) 1) t.ents:=by
 unfold Sq.writtenF Sq.sizeF;rw[hi,hk];rfl
theorem jQf5 {α:Type}(f:α->Sq.Head)(t:NodeF α)(hi:t.hd.inner=true)(he:t.ents=[])(bs:List ByteArray):Sq.writtenF f t bs=Sq.kidsB f (pnum 2 1++pnum (t.kids.length:Nat) 1) (t.kids.zip bs):=by
 unfold Sq.writtenF Sq.sizeF;rw[hi,he];rfl
def writtenN:(n:Nat)->Sq.Nd n->List ByteArray->ByteArray
 | 0,t,bs=>Sq.writtenF (fun e:Empty=>e.elim) t bs
 | n+1,t,bs=>Sq.writtenF (headN n) t bs
def kidsLen:(n:Nat)->Sq.Nd n->Nat
 | 0,_=>0
 | _+1,t=>(Sq.NodeF.kids t).length
theorem jQat (K:Int):∀(n:Nat) (t:Nd n) (ev cv:Value) (bs:List ByteArray) (bv:Value) (w:World),NodeAt Z w n t ev cv->Sq.tameN K n t->StrsAt w bv bs->bs.length=kidsLen n t->(∀b∈bs,b.size<=10000) ->
  Calls Tryz.prog 57 #[.agg (headCells (headN n t) ev cv).toArray,bv] w fun e w'=>e=.returned (.string (writtenN n t bs))/\Below w.heap.size w w'
 | 0,t,ev,cv,bs,bv,w,h,hf,hS,_,_=>by
  obtain⟨h1,rfl⟩:=h.leaf;obtain⟨vo,vc,rfl⟩:=jQa hS.1
  have hk:(t:NodeF Empty).kids=[]:=by
   cases hq:(t:NodeF Empty).kids with
   | nil=>rfl
   | cons c _=>exact c.elim
  have h4:=hf.at0.ents;have hr:=hf.at0.row;rw[jQc,show(headN 0 t).inner=false from hf.leaf0];exact jQfc (Sq.NodeF.ents t) ev _ _ _ _ none 0 vo _ vc w h1 (by omega) (fun e he=>Nat.le_trans (hr e he) (by omega)) _ (jQdk _ t hf.leaf0 hk bs)
 | n+1,t,ev,cv,bs,bv,w,h,hf,hS,hbl,hbs=>by
  obtain⟨h1,l,h2,h3⟩:=h.inner;have h4:=hf.at1.ents;have hh:=hf.at1.kids;have hr:=hf.at1.row;have ha:bs.length=l.length:=by rw[hbl];show(Sq.NodeF.kids t).length=_;rw[h2,List.length_map]
  cases hin:(Sq.NodeF.hd t).inner with
  | false =>
   have hk:=(hf.at1.lf hin).2;have hg:l=[]:=by rw[hk] at h2;exact List.map_eq_nil_iff.1 h2.symm
   subst hg;obtain⟨vo,vc,rfl⟩:=jQa hS.1;obtain⟨co,cc,hcv⟩:=jQa h3.own;have hb:cv=.slice co 0 cc:=hcv;subst hb;rw[jQc,show(headN (n+1) t).inner=false from hin];exact jQfc (Sq.NodeF.ents t) ev _ _ _ _ co cc vo _ vc w h1 (by omega) (fun e he=>Nat.le_trans (hr e he) (by omega)) _ (jQdk _ t hin hk bs)
  | true =>
   have he:=(hf.at1.inn hin).2;rw[he] at h1;obtain⟨eo,ec,hev⟩:=jQa h1;have hc:ev=.slice eo 0 ec:=hev;subst hc;rw[jQc,show(headN (n+1) t).inner=true from hin];rw[h2,List.length_map] at hh;refine jQih (Z:=Z) n l cv _ _ _ _ eo ec bs bv w h3 hS (by omega) ha hbs _ ?_;show _=_;rw[<-h2];show Sq.writtenF (headN n) t bs=_;rw[jQf5 _ t hin he bs];rw[h2,List.length_map]
theorem jQck:∀(l:List ByteArray) (m:Nat) (b:ByteArray),(∀x∈l,x.size<=m)->(l.foldl (·++·) b).size<=b.size+l.length*m
 | [],m,b,_=>by simp
 | x::r,m,b,h=>by
  rw[List.foldl_cons];have h1:=jQck r m (b++x) fun y hy=>h y (List.mem_cons_of_mem _ hy)
  have h2:=h x (List.mem_cons_self ..);rw[ByteArray.size_append] at h1;rw[List.length_cons,Nat.add_mul];omega
theorem jQdl {α:Type}{f:α->Sq.Head}{G:α->Prop}{K:Int}{t:NodeF α}(h:Sq.TameF f G K t)(bs:List ByteArray)(m:Nat)(hm:∀b∈bs,b.size<=m):(Sq.writtenF f t bs).size<=2000+4*m:=by
 unfold Sq.writtenF
 have h1:=jQck ((t.kids.zip bs).map fun x=>Sq.kidBytes (f x.1) x.2) (m+6) ((t.ents.map Sq.entBytes).foldl (·++·) (pnum (if t.hd.inner then 2 else 1) 1++pnum (Sq.sizeF t) 1)) (fun x hx=>by
  obtain⟨y,hy,rfl⟩:=List.mem_map.1 hx;rw[Sq.jQiV]
  have:=hm y.2 (List.of_mem_zip hy).2
  omega)
 have h2:=jQck (t.ents.map Sq.entBytes) 306 (pnum (if t.hd.inner then 2 else 1) 1++pnum (Sq.sizeF t) 1) (fun x hx=>by
  obtain⟨y,hy,rfl⟩:=List.mem_map.1 hx;rw[Sq.jQnU]
  have:=h.row y hy
  omega)
 have h3:(pnum (if t.hd.inner then 2 else 1) 1++pnum (Sq.sizeF t) 1).size=2:=by rw[ByteArray.size_append,Sq.jQt,Sq.jQt]
 have h4:=h.ents;have h5:=h.kids;have h6:((t.kids.zip bs).map fun x=>Sq.kidBytes (f x.1) x.2).length<=4:=by rw[List.length_map,List.length_zip];omega
 rw[List.length_map] at h2;have h7:((t.kids.zip bs).map fun x=>Sq.kidBytes (f x.1) x.2).length*(m+6)<=4*(m+6):=Nat.mul_le_mul_right _ h6;have h8:t.ents.length*306<=4*306:=Nat.mul_le_mul_right _ h4;omega
def HS (wide:Nat)(b:ByteArray):ByteArray:=Sq.shaOf b wide
theorem jQf2 {wide:Nat}(hw:wide<=32)(b:ByteArray):(HS wide b).size=wide:=Sq.jQmm b wide hw
theorem jQi3 (wide:Nat)(hw:wide<=32)(K:Int):∀(n:Nat) (t:Nd n),Sq.tameN K n t->(digN (HS wide) n t).size<=32
 | 0,t,h=>by
  show(Sq.digF _ _ _ t).size<=32
  unfold Sq.digF
  split
  ·exact h.at0.sl
  ·rw[jQf2 hw];exact hw
 | n+1,t,h=>by
  show(Sq.digF _ _ _ t).size<=32
  unfold Sq.digF
  split
  ·exact h.at1.sl
  ·rw[jQf2 hw];exact hw
theorem jQkp (wide:Nat)(hw:wide<=32)(h:Sq.Head)(ev cv:Value)(bs:ByteArray)(hbs:bs.size<=1000000)(w:World)(hev:∃a k c,ev=.slice a k c)(hcv:∃a k c,cv=.slice a k c)(hR:Rnd w)
  (hB:∀w',Below w.heap.size w w'->Calls Tryz.prog 47 #[.agg (headCells h ev cv).toArray,.int .i64 wide] w' fun e w''=>e=.returned (.string bs)/\Below w'.heap.size w' w'') :
  Calls Tryz.prog 37 #[.agg (headCells h ev cv).toArray,.int .i64 wide] w fun e w'=>e=.returned (.string (if Sq.isShut h then h.sl else HS wide bs))/\Below w.heap.size w w':=by
 obtain⟨eo,el,ecap,rfl⟩:=hev;obtain⟨co,cl,ccap,rfl⟩:=hcv;rw[jQc] at hB ⊢;obtain⟨D,hD⟩:∃D,D=(if Sq.isShut h then h.sl else HS wide bs):=⟨_,rfl⟩;rw[<-hD];obtain⟨W,hWW⟩:∃W,W=w.alloc (.cells #[.bool h.inner,.slice eo el ecap,.slice co cl ccap,.int .i64 h.least,.int .i64 h.rows,.string h.sl,.int .i64 h.num] 60):=⟨_,rfl⟩;have hW:Below w.heap.size w W:=by rw[hWW];exact(bR).alloc (nR) _
 have ha:W.heap[w.heap.size]?=some (.cells #[.bool h.inner,.slice eo el ecap,.slice co cl ccap,.int .i64 h.least,.int .i64 h.rows,.string h.sl,.int .i64 h.num] 60):=by rw[hWW];exact jQi w _
 obtain⟨a0,a1,a2,a3,a4,a5,a6⟩:=node7 ha;have hf:=jQf ha;have HR:=hd hR;have HB:=hd hB;have HW:=hd hW;have hc:=hd ha;clear hR hB hW ha;go_enter Tryz.func37,Tryz.ntmps37;go_wp2_with fail;rw[<-hWW];clear hWW;refine(jQbf h _ _ W ⟨_,_,_,rfl⟩ ⟨_,_,_,rfl⟩).mono ?_;rintro e w1 ⟨rfl,hb1⟩;obtain⟨k0,k1,k2,k3,k4,k5,k6⟩:=jQaF hc.o w1 hb1;have hg:=hb1.size;have hh:w.heap.size<w1.heap.size:=by omega
 have hb:=hd (HW.o.trans (hb1.mono (by omega)));clear hb1 a0 a1 a2 a3 a4 a5 a6;cases hs:Sq.isShut h
 ·have HD:Hid (D=HS wide bs):=by show _=_;rw[hD,hs];rfl
  clear hs hD;go_wp2_with fail;refine(HB.o _ hb.o).mono ?_;rintro e w2 ⟨rfl,hb2⟩;have he:=hd (hb.o.trans (hb2.mono hb.o.size));clear hb2;go_wp2_with fail;refine(jQr1 bs wide _ hbs hw (HR.o.below he.o)).mono ?_;rintro e w3 ⟨rfl,hb3⟩;go_wp2;go_ret;exact⟨by rw[HD.o];rfl,he.o.trans (hb3.mono he.o.size)⟩
 ·have HD:Hid (D=h.sl):=by show _=_;rw[hD,hs];rfl
  clear hs hD;go_wp2;go_ret;exact⟨by rw[HD.o];rfl,hb.o⟩
theorem jQns {n:Nat}{t:Nd (n+1)}{l:List (Nd n×Value×Value)}(h:Sq.NodeF.kids t=l.map Prod.fst)(dg:Nd n->ByteArray):(l.map fun x=>dg x.1)=(Sq.NodeF.kids t).map dg:=by rw[h,List.map_map];rfl
theorem jQaR (wide:Nat)(hw:wide<=32)(K:Int):∀(n:Nat) (t:Nd n) (ev cv:Value) (w:World),NodeAt Z w n t ev cv->Sq.tameN K n t->Rnd w ->
  (Calls Tryz.prog 47 #[.agg (headCells (headN n t) ev cv).toArray,.int .i64 wide] w fun e w'=>e=.returned (.string (Sq.bytesN (HS wide) n t))/\Below w.heap.size w w')/\Calls Tryz.prog 37 #[.agg (headCells (headN n t) ev cv).toArray,.int .i64 wide] w fun e w'=>e=.returned (.string (digN (HS wide) n t))/\Below w.heap.size w w'
 | 0,t,ev,cv,w,h,hf,hR=>by
  have hk:(t:NodeF Empty).kids=[]:=by
   cases hq:(t:NodeF Empty).kids with
   | nil=>rfl
   | cons c _=>exact c.elim
  have key:∀w',Below w.heap.size w w'->Calls Tryz.prog 47 #[.agg (headCells (headN 0 t) ev cv).toArray,.int .i64 wide] w' fun e w''=>e=.returned (.string (Sq.bytesN (HS wide) 0 t))/\Below w'.heap.size w' w'':=by
   intro w' hb;obtain⟨h1,rfl⟩:=(h.below hb).leaf;refine jQkE (Z:=Z) wide 0 (headN 0 t) (Sq.NodeF.ents t) [] ev (.slice none 0 0) w' (NodeAt.slices (h.below hb)).1 ⟨World.ownsRow_nil _ _ _ _,fun x hx=>by cases hx⟩ (zR) (fun _=>Sq.nobytes) (fun x hx=>by cases hx) _ (fun w'' bv hb2 hS=>?_)
   have:=jQat K 0 t ev (.slice none 0 0) [] bv w'' ((h.below hb).below hb2) hf hS rfl (fun b hb=>by cases hb)
   have e:Sq.bytesN (HS wide) 0 t=writtenN 0 t []:=by
    show Sq.writtenF _ t ((t:NodeF Empty).kids.map _)=_;rw[hk];rfl
   rw[e];exact this
  refine⟨key w (bR),?_⟩
  have he:(Sq.bytesN (HS wide) 0 t).size<=1000000:=by
   show(Sq.writtenF (fun e:Empty=>e.elim) t ((t:NodeF Empty).kids.map _)).size<=_
   rw[hk]
   have:=jQdl hf.at0 [] 0 (fun b hb=>by cases hb)
   rw[List.map_nil];omega
  have hg:=jQkp wide hw (headN 0 t) ev cv _ he w (NodeAt.slices h).1 (NodeAt.slices h).2 hR key;exact hg
 | n+1,t,ev,cv,w,h,hf,hR=>by
  obtain⟨h1,l,h2,h3⟩:=h.inner;have hh:=hf.at1.kids;have ha:=hf.at1.each
  have hi:∀b∈(Sq.NodeF.kids t).map (digN (HS wide) n),b.size<=32:=fun b hb=>by
   obtain⟨c,hc,rfl⟩:=List.mem_map.1 hb;exact jQi3 wide hw K n c (ha c hc)
  have key:∀w',Below w.heap.size w w'->Calls Tryz.prog 47 #[.agg (headCells (headN (n+1) t) ev cv).toArray,.int .i64 wide] w' fun e w''=>e=.returned (.string (Sq.bytesN (HS wide) (n+1) t))/\Below w'.heap.size w' w'':=by
   intro w' hb;have hj:l.length<=4:=by rw[h2,List.length_map] at hh;exact hh
   refine jQkE (Z:=Z) wide n (headN (n+1) t) (Sq.NodeF.ents t) l ev cv w' (NodeAt.slices h).1 (h3.below hb) (by omega) (digN (HS wide) n) (fun x hx w'' hb2=>?_) _ (fun w'' bv hb2 hS=>?_)
   ·exact(jQaR wide hw K n x.1 x.2.1 x.2.2 w'' (((h3.below hb).each x hx).below hb2) (ha x.1 (by rw[h2];exact List.mem_map.2 ⟨x,hx,rfl⟩)) ((hR.below hb).below hb2)).2
   ·rw[jQns h2] at hS;exact jQat K (n+1) t ev cv _ bv w'' ((h.below hb).below hb2) hf hS (by rw[List.length_map];rfl) (fun b hb=>Nat.le_trans (hi b hb) (by omega))
  refine⟨key w (bR),?_⟩
  have he:(Sq.bytesN (HS wide) (n+1) t).size<=1000000:=by
   have:=jQdl hf.at1 ((Sq.NodeF.kids t).map (digN (HS wide) n)) 32 hi
   show(Sq.writtenF _ t _).size<=_
   omega
  exact jQkp wide hw (headN (n+1) t) ev cv _ he w (NodeAt.slices h).1 (NodeAt.slices h).2 hR key
end
end Go.Proofs.YtahpihjialbanaaGreatDoor
