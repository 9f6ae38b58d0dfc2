import Derived.Test.YtahpihjialbanaaGreatDoorQbq
set_option linter.unusedVariables false
set_option linter.unusedSimpArgs false
set_option maxRecDepth 100000
set_option maxHeartbeats 2000000
namespace Go.Proofs.YtahpihjialbanaaGreatDoor
open Sq (headN NodeF Nd Trl pnum digN)
section
open Go.RowKit
variable {Z:Nat->Prop}
theorem jQii (wide:Nat)(h:Sq.Head)(ev cv:Value)(tb:Nat)(tr:Trl)(w:World)(hev:∃a k c,ev=.slice a k c)(hcv:∃a k c,cv=.slice a k c)(ht:TrAt tb w tr)(hno:Sq.touchedR tr h=false)(dg:ByteArray)(hds:dg.size<=32)
  (hdo:DigOk wide (headCells h ev cv) dg w) :
  Calls Tryz.prog 44 #[.agg (headCells h ev cv).toArray,.pointer (some ⟨tb,0,none⟩),.int .i64 wide] w fun e w'=>e=.returned (.string (pnum 0 1++dg))/\Below w.heap.size w w':=by
 obtain⟨eo,el,ecap,rfl⟩:=hev;obtain⟨co,cl,ccap,rfl⟩:=hcv;unfold DigOk at hdo;rw[jQc] at hdo ⊢;obtain⟨W,hWW⟩:∃W,W=w.alloc (.cells #[.bool h.inner,.slice eo el ecap,.slice co cl ccap,.int .i64 h.least,.int .i64 h.rows,.string h.sl,.int .i64 h.num] 60):=⟨_,rfl⟩;have hW:Below w.heap.size w W:=by rw[hWW];exact(bR).alloc (nR) _
 have he:W.heap[w.heap.size]?=some (.cells #[.bool h.inner,.slice eo el ecap,.slice co cl ccap,.int .i64 h.least,.int .i64 h.rows,.string h.sl,.int .i64 h.num] 60):=by rw[hWW];exact jQi w _
 obtain⟨a0,a1,a2,a3,a4,a5,a6⟩:=node7 he;have hm:=jQf he;have HC:=hd (jQaF he);have HW:=hd hW;have HT:=hd (ht.below hW);have hj:=hd hdo;have hk:=hd hno;have hp:=Sq.jQt 0 1;obtain⟨q,hq⟩:∃x,x=pnum 0 1:=⟨_,rfl⟩;rw[<-hq] at hp ⊢;have hn:q.size<=1:=by omega
 have HQ:=hd hq;clear hW he ht hdo hno hq hp;go_enter Tryz.func44,Tryz.ntmps44;go_wp2_with fail;rw[<-hWW];clear hWW;refine(jQb7 tb tr h _ _ W ⟨_,_,_,rfl⟩ ⟨_,_,_,rfl⟩ HT.o).mono ?_;rintro e w1 ⟨rfl,hb1⟩;rw[hk.o];obtain⟨k0,k1,k2,k3,k4,k5,k6⟩:=HC.o w1 hb1;have hf:=hb1.size;have hl:w.heap.size<w1.heap.size:=by omega
 have hg:=hd hb1;have hc:Hid (Below w1.heap.size w1 w1):=bR;have HG:Hid (∀w',Below w1.heap.size w1 w'->Calls Tryz.prog 37 #[.agg #[.bool h.inner,.slice eo el ecap,.slice co cl ccap,.int .i64 h.least,.int .i64 h.rows,.string h.sl,.int .i64 h.num],.int .i64 wide] w' fun e w''=>e=.returned (.string dg)/\Below w'.heap.size w' w''):=fun w' hb=>hj.o w' (HW.o.trans ((hg.o.trans (hb.mono hf)).mono (by omega)))
 clear hb1 a0 a1 a2 a3 a4 a5 a6;go_wp2
 go_region_with (first
  | (go_at_call 56;refine(jQ7 0 1 _ (by omega)).mono ?_;rintro e w5 ⟨rfl,hb5⟩;have ha:Below w1.heap.size w1 w5:=(by first | exact hc.o.trans (hb5.mono hc.o.size) | exact(hc.o.drew).trans (hb5.mono (by first | (simp;done) | (have:=hc.o.size;simp;omega))));obtain⟨m0,m1,m2,m3,m4,m5,m6⟩:=HC.o w5 (hg.o.trans (ha.mono hf));have hi:=ha.size;have hh:w.heap.size<w5.heap.size:=(by omega);clear hc;have hc:=hd ha;clear hb5 ha;rw[<-HQ.o])
  | (go_at_call 37;refine(HG.o _ (by first | exact hc.o | exact hc.o.drew)).mono ?_;rintro e w5 ⟨rfl,hb5⟩;have ha:Below w1.heap.size w1 w5:=(by first | exact hc.o.trans (hb5.mono hc.o.size) | exact(hc.o.drew).trans (hb5.mono (by first | (simp;done) | (have:=hc.o.size;simp;omega))));obtain⟨m0,m1,m2,m3,m4,m5,m6⟩:=HC.o w5 (hg.o.trans (ha.mono hf));have hi:=ha.size;have hh:w.heap.size<w5.heap.size:=(by omega);clear hc;have hc:=hd ha;clear hb5 ha))
 all_goals(try go_wp2)
 all_goals
  go_ret;exact⟨rfl,HW.o.trans ((hg.o.trans (hc.o.mono hf)).mono (by omega))⟩
def WrOk (wide tb:Nat)(c:List Value)(d:ByteArray)(w:World):Prop :=
 ∀w',Below w.heap.size w w'->Calls Tryz.prog 44 #[.agg c.toArray,.pointer (some ⟨tb,0,none⟩),.int .i64 wide] w' fun e w''=>e=.returned (.string d)/\Below w'.heap.size w' w''
theorem jQij (wide n:Nat)(h:Sq.Head)(l:List (Nd n×Value×Value))(ev cv:Value)(tb:Nat)(tr:Trl)(w:World)(hev:∃a k c,ev=.slice a k c)(hn:NodesAt Z 0 w cv n l)(hl:l.length<=100)(ht:TrAt tb w tr)(hno:Sq.touchedR tr h=true)(dg:Nd n->ByteArray)
  (hdo:∀x∈l,WrOk wide tb (nodeCells n x) (dg x.1) w) (B:ByteArray)
  (hwr:∀w' bv,Below w.heap.size w w'->StrsAt w' bv (l.map fun x=>dg x.1)->Calls Tryz.prog 57 #[.agg (headCells h ev cv).toArray,bv] w' fun e w''=>e=.returned (.string B)/\Below w'.heap.size w' w'') :
  Calls Tryz.prog 44 #[.agg (headCells h ev cv).toArray,.pointer (some ⟨tb,0,none⟩),.int .i64 wide] w fun e w'=>e=.returned (.string B)/\Below w.heap.size w w':=by
 obtain⟨eo,el,ecap,rfl⟩:=hev;obtain⟨co,ccap,rfl⟩:=jQa hn.own;rw[jQc] at hwr ⊢;obtain⟨W,hWW⟩:∃W,W=w.alloc (.cells #[.bool h.inner,.slice eo el ecap,.slice co l.length ccap,.int .i64 h.least,.int .i64 h.rows,.string h.sl,.int .i64 h.num] 60):=⟨_,rfl⟩;have hW:Below w.heap.size w W:=by rw[hWW];exact(bR).alloc (nR) _
 have hy:W.heap.size=w.heap.size+1:=by rw[hWW];exact jQr w _
 have hc:W.heap[w.heap.size]?=some (.cells #[.bool h.inner,.slice eo el ecap,.slice co l.length ccap,.int .i64 h.least,.int .i64 h.rows,.string h.sl,.int .i64 h.num] 60):=by rw[hWW];exact jQi w _
 obtain⟨a0,a1,a2,a3,a4,a5,a6⟩:=node7 hc;have hH:=jQf hc;have HC:=hd (jQaF hc);have HW:=hd hW;have he:=hd hy;have HN:=hd (hn.below hW);have HT:=hd (ht.below hW);have hK:=hd hdo;have hN:=hd hwr;have hO:=hd hno;clear hW hy hc hn hdo hwr ht hno;go_enter Tryz.func44,Tryz.ntmps44;go_wp2_with fail;rw[<-hWW];clear hWW;refine(jQb7 tb tr h _ _ W ⟨_,_,_,rfl⟩ ⟨_,_,_,rfl⟩ HT.o).mono ?_;rintro e w0 ⟨rfl,hb0⟩;rw[hO.o];have hC:=hd hb0;clear hb0 a0 a1 a2 a3 a4 a5 a6;go_wp2
 go_loopw [7,8] (fun v i wr=>∃k:Nat,k<=l.length/\i=.int .i64 k/\Hid (wr.ownsRow (w.heap.size+1) 9 1 v ((l.take k).map fun x=>dg x.1).length (((l.take k).map fun x=>dg x.1).map Value.string))/\Hid (Below W.heap.size W wr)) (fun _ i _=>l.length-(intOf i).toNat)
 case atStart=>exact⟨0,zR,rfl,World.ownsRow_nil _ _ _ _,hC⟩
 case round =>
  obtain⟨k,hk,rfl,hac,hb⟩:=hrel;obtain⟨wo,rfl⟩:∃wo:World,wo=wr:=⟨_,rfl⟩;have hp:((l.take k).map fun x=>dg x.1).length=k:=by simp;omega
  obtain⟨acc,hacc⟩:∃acc,acc=(l.take k).map fun x=>dg x.1:=⟨_,rfl⟩
  rw[<-hacc] at hac hp;obtain⟨yo,ycap,rfl⟩:=jQa hac.o;obtain⟨m0,m1,m2,m3,m4,m5,m6⟩:=HC.o wo hb.o;have hM:=hb.o.size;rw[he.o] at hM;have hH:w.heap.size<wo.heap.size:=by omega
  have hf:=hd hacc;have hP:=hd hp;have hF:acc.length<=100:=by omega
  clear hacc hp
  by_cases hkt:k<l.length
  ·obtain⟨g,cap',ea,el',ec,ca,cl,cc,hv,hg,⟨d0,d1,d2,d3,d4,dsl,dnu⟩,d5,d6⟩:=(HN.o.below hb.o).at k hkt;simp only[Value.slice.injEq] at hv;obtain⟨rfl,-,rfl⟩:=hv;have hm:=List.getElem_mem hkt;have hs:=hK.o _ hm;have hi:acc++[dg l[k].1]=(l.take (k+1)).map fun x=>dg x.1:=by rw[hf.o,List.take_succ_eq_append_getElem hkt,List.map_append];rfl
   obtain⟨x,hx⟩:∃x,x=l[k]:=⟨_,rfl⟩;rw[<-hx] at d0 d3 d4 dsl dnu d5 d6 hs hi;obtain⟨t,evx,cvx⟩:=x;simp only[Prod.mk.injEq] at d5;obtain⟨rfl,rfl⟩:=d5;have hJ:=hd hi;have hz:=hd (hs wo (HW.o.trans (hb.o.mono (by rw[he.o];omega))));obtain⟨xh,hxh⟩:∃x,x=headN n t:=⟨_,rfl⟩;have ha:=hz.o;have hw:nodeCells n (t,.slice ea el' ec,.slice ca cl cc)=headCells xh (.slice ea el' ec) (.slice ca cl cc):=by rw[hxh];rfl
   rw[hw,jQc] at ha;rw[<-hxh] at d0 d3 d4 dsl dnu;simp only at ha hi;obtain⟨D,hD⟩:∃D,D=dg t:=⟨_,rfl⟩;rw[<-hD] at ha;have hj:acc++[D]=(l.take (k+1)).map fun x=>dg x.1:=by rw[hD];exact hi
   have hu:=hd hj;have ho:=hd ha;have i1:¬((l.length:Int)<=(k:Int)):=by omega
   clear hm hs hi hx d6 hJ hz hxh ha hw hD hj;go_wp2_with fail;refine ho.o.mono ?_;rintro e w1 ⟨rfl,hb1⟩;have hq:=hd (jQh hac.o hb1);have hI:=hd hb1;have hQ:=hb1.size;have hA:Below w1.heap.size w1 (w1.alloc (.cells #[.string D] 9)):=(bR).alloc (nR) _;have hE:=hd (jQh hq.o hA);have HA:=hd hA;clear hb1 hA ho;go_wp2_with (at_builtin;refine jQbs rfl (.tmp 25) (.tmp 34) rfl (w.heap.size+1) _ acc rfl hE.o D w1.heap.size 1 rfl (by simp[go_sem]) (by omega) (by simp;omega) ?_;intro v5 w5 hown5 hb5;have hG:=hd hown5;have hL:=hd hb5;clear hown5 hb5);go_roundw
   case rel=>exact⟨k+1,by omega,by go_num,by have:=hG.o;rw[hu.o] at this;exact this,hb.o.trans ((hI.o.mono (by rw[he.o];omega)).trans ((HA.o.mono (by rw[he.o];omega)).trans (by rw[he.o];exact hL.o)))⟩
   case measure=>simp[intOf];omega
  ·have hB:k=l.length:=by omega
   have hh:acc=l.map fun x=>dg x.1:=by rw[hf.o,hB,List.take_length]
   have HS:Hid (StrsAt wo (.slice yo acc.length ycap) (l.map fun x=>dg x.1)):=⟨by have:=hac.o;rw[hh] at this ⊢;exact jQj this (zR),by simp;omega⟩;have hr:=hd (HW.o.trans (hb.o.mono (by rw[he.o];omega)));have i1:¬((k:Int)<(l.length:Int)):=by omega
   clear hB hh;go_wp2_with fail;refine(hN.o wo _ hr.o HS.o).mono ?_;rintro e w1 ⟨rfl,hb1⟩;go_wp2;go_ret;exact⟨rfl,hr.o.trans (hb1.mono hr.o.size)⟩
theorem jQfv {α:Type}(f:α->Sq.Head)(wr:α->ByteArray)(dg:ByteArray)(tr:Trl)(t:NodeF α)(h:Sq.touchedR tr t.hd=true):Sq.writeF f wr dg tr t=Sq.writtenF f t (t.kids.map wr):=by unfold Sq.writeF;rw[h];rfl
theorem jQfu {α:Type}(f:α->Sq.Head)(wr:α->ByteArray)(dg:ByteArray)(tr:Trl)(t:NodeF α)(h:Sq.touchedR tr t.hd=false):Sq.writeF f wr dg tr t=pnum 0 1++dg:=by unfold Sq.writeF;rw[h];rfl
theorem jQe5:∀{l:List ByteArray} {b x:ByteArray},x∈l->x.size<=(l.foldl (·++·) b).size
 | y::r,b,x,h=>by
  rw[List.foldl_cons];rcases List.mem_cons.1 h with rfl | h
  ·rw[Sq.jQb3,ByteArray.size_append,ByteArray.size_append];omega
  ·exact jQe5 h
theorem jQd0 {α:Type}(f:α->Sq.Head)(t:NodeF α)(wr:α->ByteArray){c:α}(hc:c∈t.kids):(wr c).size<=(Sq.writtenF f t (t.kids.map wr)).size:=by
 unfold Sq.writtenF
 have hz:(c,wr c)∈t.kids.zip (t.kids.map wr):=by
  obtain⟨i,hi,he⟩:=List.getElem_of_mem hc
  have:(t.kids.zip (t.kids.map wr))[i]'(by rw[List.length_zip,List.length_map];omega)=(c,wr c):=by rw[List.getElem_zip,List.getElem_map,he]
  rw[<-this];exact List.getElem_mem _
 have h2:Sq.kidBytes (f c) (wr c)∈(t.kids.zip (t.kids.map wr)).map fun x=>Sq.kidBytes (f x.1) x.2:=List.mem_map.2 ⟨_,hz,rfl⟩
 have h3:=jQe5 (b:=(t.ents.map Sq.entBytes).foldl (·++·) (pnum (if t.hd.inner then 2 else 1) 1++pnum (Sq.sizeF t) 1)) h2;rw[Sq.jQiV] at h3;omega
theorem jQkD (wide:Nat)(hw:wide<=32)(K:Int)(tb:Nat)(tr:Trl):∀(n:Nat) (t:Nd n) (ev cv:Value) (w:World),NodeAt Z w n t ev cv->Sq.tameN K n t->Rnd w->TrAt tb w tr->(Sq.writeN (HS wide) tr n t).size<=10000 ->
  Calls Tryz.prog 44 #[.agg (headCells (headN n t) ev cv).toArray,.pointer (some ⟨tb,0,none⟩),.int .i64 wide] w fun e w'=>e=.returned (.string (Sq.writeN (HS wide) tr n t))/\Below w.heap.size w w'
 | 0,t,ev,cv,w,h,hf,hR,ht,hsz=>by
  have hk:(t:NodeF Empty).kids=[]:=by
   cases hq:(t:NodeF Empty).kids with
   | nil=>rfl
   | cons c _=>exact c.elim
  cases hto:Sq.touchedR tr (headN 0 t) with
  | false =>
   have e:Sq.writeN (HS wide) tr 0 t=pnum 0 1++digN (HS wide) 0 t:=jQfu _ _ _ tr t hto;rw[e];exact jQii wide (headN 0 t) ev cv tb tr w (NodeAt.slices h).1 (NodeAt.slices h).2 ht hto _ (jQi3 wide hw K 0 t hf) (fun w' hb=>(jQaR wide hw K 0 t ev cv w' (h.below hb) hf (hR.below hb)).2)
  | true =>
   have e:Sq.writeN (HS wide) tr 0 t=writtenN 0 t []:=by
    have:=jQfv (fun e:Empty=>e.elim) (fun e:Empty=>e.elim) (digN (HS wide) 0 t) tr t hto
    rw[hk] at this;exact this
   rw[e];obtain⟨h1,rfl⟩:=h.leaf;refine jQij (Z:=Z) wide 0 (headN 0 t) [] ev (.slice none 0 0) tb tr w (NodeAt.slices h).1 ⟨World.ownsRow_nil _ _ _ _,fun x hx=>by cases hx⟩ (zR) ht hto (fun _=>Sq.nobytes) (fun x hx=>by cases hx) _ (fun w' bv hb hS=>?_);exact jQat K 0 t ev (.slice none 0 0) [] bv w' (h.below hb) hf hS rfl (fun b hb=>by cases hb)
 | n+1,t,ev,cv,w,h,hf,hR,ht,hsz=>by
  cases hto:Sq.touchedR tr (headN (n+1) t) with
  | false =>
   have e:Sq.writeN (HS wide) tr (n+1) t=pnum 0 1++digN (HS wide) (n+1) t:=jQfu _ _ _ tr t hto;rw[e];exact jQii wide (headN (n+1) t) ev cv tb tr w (NodeAt.slices h).1 (NodeAt.slices h).2 ht hto _ (jQi3 wide hw K (n+1) t hf) (fun w' hb=>(jQaR wide hw K (n+1) t ev cv w' (h.below hb) hf (hR.below hb)).2)
  | true =>
   have e:Sq.writeN (HS wide) tr (n+1) t=writtenN (n+1) t ((Sq.NodeF.kids t).map (Sq.writeN (HS wide) tr n)):=jQfv (headN n) (Sq.writeN (HS wide) tr n) _ tr t hto;rw[e] at hsz ⊢;obtain⟨h1,l,h2,h3⟩:=h.inner;have hg:=hf.at1.kids;have ha:=hf.at1.each;have hh:l.length<=4:=by rw[h2,List.length_map] at hg;exact hg
   have he:∀c∈Sq.NodeF.kids t,(Sq.writeN (HS wide) tr n c).size<=10000:=fun c hc=>Nat.le_trans (jQd0 (headN n) t (Sq.writeN (HS wide) tr n) hc) hsz
   refine jQij (Z:=Z) wide n (headN (n+1) t) l ev cv tb tr w (NodeAt.slices h).1 h3 (by omega) ht hto (Sq.writeN (HS wide) tr n) (fun x hx w' hb=>?_) _ (fun w' bv hb hS=>?_)
   ·have hm:x.1∈Sq.NodeF.kids t:=by rw[h2];exact List.mem_map.2 ⟨x,hx,rfl⟩
    exact jQkD wide hw K tb tr n x.1 x.2.1 x.2.2 w' ((h3.each x hx).below hb) (ha x.1 hm) (hR.below hb) (ht.below hb) (he x.1 hm)
   ·rw[jQns h2] at hS
    exact jQat K (n+1) t ev cv _ bv w' (h.below hb) hf hS (by rw[List.length_map];rfl) (fun b hb=>by
     obtain⟨c,hc,rfl⟩:=List.mem_map.1 hb;exact he c hc)
end
end Go.Proofs.YtahpihjialbanaaGreatDoor
