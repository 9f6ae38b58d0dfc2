import Derived.Test.YtahpihjialbanaaGreatDoorQas
set_option linter.unusedVariables false
set_option linter.unusedSimpArgs false
set_option maxRecDepth 100000
set_option maxHeartbeats 8000000
namespace Go.Proofs.YtahpihjialbanaaGreatDoor
open Sq (headN NodeF Nd Trl Ent takeN NTree numV touchR Rd tameN innerF leafF shutN readN kidsR exch)
section
open Go.RowKit
variable {Z:Nat->Prop}
def NodeSays (Z:Nat->Prop)(tb n:Nat)(x:Nd n×Trl)(w:World)(e:Ending)(w':World):Prop:=∃ev cv,e=.returned (.agg (headCells (headN n x.1) ev cv).toArray)/\NodeAt Z w' n x.1 ev cv/\TrAt tb w' x.2/\TFrm tb w w'
theorem jQjy (w:World)(x y:Array Value):∃W,W=(w.alloc (.cells x 60)).alloc (.cells y 60)/\Below w.heap.size w W/\W.heap.size=w.heap.size+2/\W.heap[w.heap.size]?=some (.cells x 60)/\W.heap[w.heap.size+1]?=some (.cells y 60):=by
 refine⟨_,rfl,((bR).alloc (nR) _).alloc (by simp) _,by rw[jQr,jQr],?_,?_⟩
 ·exact(((bR).alloc (nR) _).block w.heap.size (by simp)).trans (jQi w _)
 ·rw[<-jQr w (.cells x 60)];exact jQi _ _
theorem jQj0:∀{n:Nat} {w:World} {t:Nd n} {a b:Option Addr} {ek ec ck cc:Nat},NodeAt Z w n t (.slice a ek ec) (.slice b ck cc)->(if(headN n t).inner then ck else ek:Nat)=Sq.sizeN n t
 | 0,w,t,a,b,ek,ec,ck,cc,h=>by
  obtain⟨h1,h2⟩:=h.leaf;obtain⟨_,_,h3⟩:=jQa h1;simp only[Value.slice.injEq] at h2 h3
  have hk:(t:NodeF Empty).kids.length=0:=by
   cases hq:(t:NodeF Empty).kids with
   | nil=>rfl
   | cons c _=>exact c.elim
  show _=Sq.sizeF t;unfold Sq.sizeF;rw[h2.2.1,h3.2.1,hk];rfl
 | n+1,w,t,a,b,ek,ec,ck,cc,h=>by
  obtain⟨h1,l,h4,h5⟩:=h.inner;obtain⟨_,_,h3⟩:=jQa h1;obtain⟨_,_,h2⟩:=jQa h5.own;simp only[Value.slice.injEq] at h2 h3;show _=Sq.sizeF t;unfold Sq.sizeF;rw[h2.2.1,h3.2.1,h4,List.length_map];rfl
theorem jQbQ (w:World)(x:Array Value):∃W,W=(w.alloc (.cells x 60)).alloc (.cells node0 60)/\Below w.heap.size w W/\W.heap.size=w.heap.size+2/\W.heap[w.heap.size]?=some (.cells x 60)/\W.heap[w.heap.size+1]?=some (.cells node0 60):=by
 refine⟨_,rfl,((bR).alloc (nR) _).alloc (by simp) _,by rw[jQr,jQr],?_,?_⟩
 ·exact(((bR).alloc (nR) _).block w.heap.size (by simp)).trans (jQi w _)
 ·rw[<-jQr w (.cells x 60)];exact jQi _ _
theorem jQd1 (m:Nat)(h:Sq.Head)(es:List Ent)(ev cv:Value)(p:Int)(tb:Nat)(tr:Trl)(w:World)(hin:h.inner=false)(hes:EntsAt 0 w ev es)(hcv:∃a k c,cv=.slice a k c)(hel:es.length<=900)(ht:TrAt tb w tr)(hroom:tr.nums.length+1<=100000) :
  Calls Tryz.prog 169 #[.agg (headCells h ev cv).toArray,.int .i64 p,.pointer (some ⟨tb,0,none⟩)] w (NodeSays Z tb m (leafM m (es.filter fun x=>x.place != p),touchR tr h) w):=by
 obtain⟨eo,ecap,rfl⟩:=jQa hes;obtain⟨co,cl,ccap,rfl⟩:=hcv;rw[jQc];have hy:=ht.lt;have hu:=hd hin;clear hin;obtain⟨W,hWW,hW,hWs,hblk,hres⟩:=jQbQ w #[.bool h.inner,.slice eo es.length ecap,.slice co cl ccap,.int .i64 h.least,.int .i64 h.rows,.string h.sl,.int .i64 h.num];have HT:=hd (ht.below hW);have HF:Hid (TFrm tb w W):=TFrm.of hW (by omega);have hf:=hd hblk;have hi:=hd hres;have ho:=hd (hes.below hW);obtain⟨a0,a1,a2,a3,a4,a5,a6⟩:=SevenAt.blk (h:=h) hblk;simp only[Nat.zero_add] at a1 a2 a3 a4 a5 a6;have hs:=jQf hblk;clear ht hW hblk hes hres hWs;go_enter Tryz.func169,Tryz.ntmps169;go_wp2_with fail;rw[<-show node0=#[.bool false,.slice none 0 0,.slice none 0 0,.int .i64 0,.int .i64 0,.string ⟨#[]⟩,.int .i64 0] from rfl,<-hWW];clear hWW;refine(jQag tb tr h _ _ W ⟨_,_,_,rfl⟩ ⟨_,_,_,rfl⟩ HT.o hroom).mono ?_;rintro e w1 ⟨rfl,ht1,hf1⟩;have hb:=(hf1.keep w.heap.size _ _ _ hf.o (by decide) (by decide)).trans hf.o;have hc:=(hf1.keep (w.heap.size+1) _ _ _ hi.o (by decide) (by decide)).trans hi.o;have T1:=hd ht1;have F1:Hid (TFrm tb w w1):=HF.o.trans hf1;have ES1:=hd (ho.o.tfrm hf1);obtain⟨n0,n1,n2,n3,n4,n5,n6⟩:=SevenAt.blk (h:=h) hb;simp only[Nat.zero_add] at n1 n2 n3 n4 n5 n6;rw[hu.o] at n0;have hv:=jQf hb;have hl:=jQf hc;have hj:=hd hc;clear a0 a1 a2 a3 a4 a5 a6 hs HT HF hf hi ho ht1 hf1 hb hc n2 n3 n4 n5 n6;go_wp2_with fail;refine(jQll es p _ _ ES1.o (by omega)).mono ?_;rintro e w2 ⟨v2,rfl,ho2,hb2⟩;have T2:=hd (T1.o.below hb2);have F2:Hid (TFrm tb w w2):=F1.o.trans (TFrm.of hb2 (by have:=T1.o.lt;omega));have hz:=hb2.size;have hr:=List.length_filter_le (fun x:Ent=>x.place != p) es;have hn:=hd ho2;have hk:Hid (w2.heap[w.heap.size+1]?=_):=(hb2.block _ hl).trans hj.o;obtain⟨fs,hfs⟩:∃fs,fs=es.filter fun x=>x.place != p:=⟨_,rfl⟩
 have hh:=hn.o;rw[<-hfs] at hh hr;have hm:=hd hh;have hp:=hd hfs;clear hb2 ho2 hh n0 n1 hfs hn;go_wp2_with fail;refine(jQg5 fs _ _ (Reads.of_own hm.o) (by omega)).mono ?_;rintro e w3 ⟨v3,rfl,ho3,hb3⟩;obtain⟨vo,vcap,rfl⟩:=jQa ho3;have T3:=hd (T2.o.below hb3);have F3:Hid (TFrm tb w w3):=F2.o.trans (TFrm.of hb3 (by have:=T2.o.lt;omega));have ha:=(hb3.block (w.heap.size+1) (by omega)).trans hk.o;obtain⟨b0,b1,b2,b3,b4,b5,b6⟩:=jQw ha;obtain⟨f0,f1,f2,f3,f4,f5,f6⟩:=jQk ha;have hx:=jQf ha;have he:=hd ha;have hq:=hd ho3;obtain⟨yh,hyh⟩:∃x,x=(leafF (α:=Empty) fs).hd:=⟨_,rfl⟩;rw[<-hyh,jQc];have hw:Hid (headN m (leafM m (es.filter fun x=>x.place != p))=yh):=by show _=_;rw[<-hp.o,jQh1,hyh]
 clear ha ho3 hb3 hyh;go_wp2;refine bodyPost_ret (v:=.agg (headCells yh (.slice vo fs.length vcap) (.slice none 0 0)).toArray) (by simp[results,Tryz.results169,go_sem,headCells, *]) rfl ⟨_,_,by rw[hw.o],?_,?_,?_⟩
 ·show NodeAt Z _ m (leafM m (es.filter fun x=>x.place != p)) _ _;rw[<-hp.o];exact(NodeAt.skip (Z:=fun g=>Z g\/g=w.heap.size+1) (b:=w.heap.size+1) (jQhN m (show NodeAt _ _ 0 (leafF fs) _ _ from⟨hq.o.base (zR),rfl⟩)) (Or.inr rfl) he.o fun g hg=>jQl _ _ _ _ _ _ _ _ _ hg).less fun g hg=>Or.inl hg
 ·exact T3.o.keeps (jQaO he.o _ _ _ _ _ _ _) (by decide) (by decide)
 ·exact F3.o.set7 (by omega) (by omega) _ _ _ _ _ _ _
theorem jQg8 (n:Nat)(h:Sq.Head)(l:List (Nd n×Value×Value))(ev cv:Value)(p:Int)(tb:Nat)(tr tr2 tr3:Trl)(c':Nd n)(cs:List (Nd n))(w:World)(hin:h.inner=true)(hev:∃a k c,ev=.slice a k c)(hn:NodesAt Z 0 w cv n l)(hl:l.length<=400)(ht:TrAt tb w tr)(hroom:tr.nums.length+1<=100000)(hZ:∀g,w.heap.size<=g->¬Z g)
  (a:Nat) (ha:a<l.length) (haw:a=Sq.wayF (headN n) (l.map Prod.fst) p)
  (hno:¬Sq.sizeN n c'<2->cs=exch (l.map Prod.fst) a 1 [c']/\tr3=tr2) (hsm:∀c∈cs,0<=(headN n c).rows/\(headN n c).rows<=1000000000) (hcl:cs.length<=400)
  (ih:∀w',(∀g,w'.heap.size<=g->¬(Z g\/g=w.heap.size+1))->NodeAt (fun g=>Z g\/g=w.heap.size+1) w' n l[a].1 l[a].2.1 l[a].2.2->TrAt tb w' (touchR tr h)->Calls Tryz.prog 169 #[.agg (nodeCells n l[a]).toArray,.int .i64 p,.pointer (some ⟨tb,0,none⟩)] w' (NodeSays (fun g=>Z g\/g=w.heap.size+1) tb n (c',tr2) w'))
  (hj:Sq.sizeN n c'<2->∀w' v k,(∀g,w'.heap.size<=g->¬(Z g\/g=w.heap.size+1))->k.map Prod.fst=exch (l.map Prod.fst) a 1 [c']->NodesAt (fun g=>Z g\/g=w.heap.size+1) 0 w' v n k->TrAt tb w' tr2->Calls Tryz.prog 212 #[v,.int .i64 a,.pointer (some ⟨tb,0,none⟩)] w' (ListSays (fun g=>Z g\/g=w.heap.size+1) tb n (cs,tr3) w')) :
  Calls Tryz.prog 169 #[.agg (headCells h ev cv).toArray,.int .i64 p,.pointer (some ⟨tb,0,none⟩)] w (NodeSays Z tb (n+1) (innerF (headN n) cs,tr3) w):=by
 obtain⟨eo,el,ecap,rfl⟩:=hev;obtain⟨co,ccap,rfl⟩:=jQa hn.own;rw[jQc];have Hq:=ht.lt;have Hi:=hd hin;clear hin;obtain⟨W,hWW,hW,hWs,hblk,hres⟩:=jQbQ w #[.bool h.inner,.slice eo el ecap,.slice co l.length ccap,.int .i64 h.least,.int .i64 h.rows,.string h.sl,.int .i64 h.num];have HT:=hd (ht.below hW);have HF:Hid (TFrm tb w W):=TFrm.of hW (by omega);have hI:=hd hblk;have hJ:=hd hres;have HN:Hid (NodesAt (fun g=>Z g\/g=w.heap.size+1) 0 W (.slice co l.length ccap) n l):=(show NodesAt (fun g=>Z g\/g=w.heap.size+1) 0 w (.slice co l.length ccap) n l from⟨hn.own,fun x hx=>(hn.each x hx).more (Nat.le_succ _)⟩).below hW
 have HZ:Hid (∀g,w.heap.size+2<=g->¬(Z g\/g=w.heap.size+1)):=fun g hg=>by
  rintro(hz | hz)
  ·exact hZ g (by omega) hz
  ·omega
 have IH:=hd ih;have HJ:=hd hj;have Hf:=hd hno;have He:=hd hsm;have Hl:=hd haw;have Ho:=hd hWs;obtain⟨a0,a1,a2,a3,a4,a5,a6⟩:=SevenAt.blk (h:=h) hblk;simp only[Nat.zero_add] at a1 a2 a3 a4 a5 a6;have Hg:=jQf hblk;clear ht hW hblk hres hn hZ ih haw hWs hj hno hsm;go_enter Tryz.func169,Tryz.ntmps169;go_wp2_with fail;rw[<-show node0=#[.bool false,.slice none 0 0,.slice none 0 0,.int .i64 0,.int .i64 0,.string ⟨#[]⟩,.int .i64 0] from rfl,<-hWW];clear hWW;refine(jQag tb tr h _ _ W ⟨_,_,_,rfl⟩ ⟨_,_,_,rfl⟩ HT.o hroom).mono ?_;rintro e w1 ⟨rfl,ht1,hf1⟩;have hi:=(hf1.keep w.heap.size _ _ _ hI.o (by decide) (by decide)).trans hI.o;have hu:=(hf1.keep (w.heap.size+1) _ _ _ hJ.o (by decide) (by decide)).trans hJ.o;have T1:=hd ht1;have F1:Hid (TFrm tb w w1):=HF.o.trans hf1;have N1:=hd (HN.o.tfrm hf1);obtain⟨n0,n1,n2,n3,n4,n5,n6⟩:=SevenAt.blk (h:=h) hi;simp only[Nat.zero_add] at n1 n2 n3 n4 n5 n6;rw[Hi.o] at n0;have hV:=jQf hi;have hS:=jQf hu;have hE:=hd hu;have hG:=hd hi;clear a0 a1 a2 a3 a4 a5 a6 Hg HT HF hI hJ HN ht1 hf1 hi hu;go_wp2_with fail;refine(jQhb n l p ⟨true,h.least,h.rows,h.sl,h.num⟩ _ _ w1 ⟨_,_,_,rfl⟩ N1.o (by omega)).mono ?_;rintro e w2 ⟨rfl,hb2⟩;rw[<-Hl.o];have hk:=(hb2.block w.heap.size hV).trans hG.o;have hs:=(hb2.block (w.heap.size+1) hS).trans hE.o;have c2:w2.cell? ⟨w.heap.size,2,none⟩=some (.slice co l.length ccap):=by rw[jQb hk];rfl
 have Hs:=hb2.size;have h4:=jQf hs;have Hk:=jQf hk;have T2:=hd (T1.o.below hb2);have N2:=hd (N1.o.below hb2);have F2:Hid (TFrm tb w w2):=F1.o.trans (TFrm.of hb2 (by have:=T1.o.lt;omega));have hr:=hd hk;have hA:=hd hs;clear hb2 hk hs n0 n1 n2 n3 n4 n5 n6 hE hG T1 N1 F1;obtain⟨g,cap',ea,el2,ec,ca,cl,cc,hv,hg,⟨d0,d1,d2,d3,d4,dsl,dnu⟩,d5,d6⟩:=N2.o.at a ha;simp only[Value.slice.injEq] at hv;obtain⟨rfl,-,rfl⟩:=hv;have ih:=IH.o;obtain⟨y,hy⟩:∃y,y=l[a]:=⟨_,rfl⟩;rw[<-hy] at d0 d3 d4 dsl dnu d5 d6 ih;obtain⟨t,evx,cvx⟩:=y;simp only[Prod.mk.injEq] at d5;obtain⟨rfl,rfl⟩:=d5;have IH2:=hd ih;have h5:=hd d6;have i1:¬((l.length:Int)<=(a:Int)):=by omega
 have i2:decide ((l.length:Int)<=(a:Int))=false:=by simpa using ha
 clear ih hy IH d6;go_wp2_with fail;refine(IH2.o w2 (fun g hg=>HZ.o g (by omega)) h5.o T2.o).mono ?_;rintro e w3 ⟨ev3,cv3,rfl,hn3,ht3,hf3⟩;obtain⟨⟨x1,x2,x3,rfl⟩,y1,y2,y3,rfl⟩:=hn3.slices;have hm:=(hf3.keep w.heap.size _ _ _ hr.o (by decide) (by decide)).trans hr.o;have hH:=(hf3.keep (w.heap.size+1) _ _ _ hA.o (by decide) (by decide)).trans hA.o;have e2:w3.cell? ⟨w.heap.size,2,none⟩=some (.slice (some ⟨g,0,none⟩) l.length ccap):=by rw[jQb hm];rfl
 have Hh:=jQf hm;have T3:=hd ht3;have F3:Hid (TFrm tb w w3):=F2.o.trans hf3;have N3:=hd (N2.o.tfrm hf3);have HC:=hd hn3;have hN:=hd hm;have hB:=hd hH;obtain⟨yh,hyh⟩:∃x,x=headN n c':=⟨_,rfl⟩;rw[<-hyh,jQc];have h1:=hd hyh;clear ht3 hf3 hn3 hm hH hyh c2 h4 Hk T2 N2 F2 hr hA d0 d1 d2 d3 d4 dsl dnu h5 IH2;have h0:=jQj0 HC.o;rw[h1.o.symm] at h0;have h6:=hd h0;obtain⟨C,hC⟩:∃C:Array Value,C=#[.bool yh.inner,.slice x1 x2 x3,.slice y1 y2 y3,.int .i64 yh.least,.int .i64 yh.rows,.string yh.sl,.int .i64 yh.num]:=⟨_,rfl⟩;obtain⟨W4,hW4,hb4,hs4,hk4,hl4⟩:=jQjy w3 C C
 have N4:Hid (NodesAt (fun g=>Z g\/g=w.heap.size+1) 0 W4 (.slice (some ⟨w3.heap.size+1,0,none⟩) 1 1) n [(c',.slice x1 x2 x3,.slice y1 y2 y3)]):=by
  refine⟨?_,fun x hx=>by rw[List.mem_singleton.1 hx];exact HC.o.below hb4⟩
  have:=jQes (w3.alloc (.cells C 60)) 60 C ([(c',Value.slice x1 x2 x3,Value.slice y1 y2 y3)].flatMap (nodeCells n)) 1 7 0 (by rw[hC,h1.o];rfl) rfl (by decide) (zR)
  rw[jQr] at this;rw[hW4];exact this
 have h8:Hid (W4=(w3.alloc (.cells #[.bool yh.inner,.slice x1 x2 x3,.slice y1 y2 y3,.int .i64 yh.least,.int .i64 yh.rows,.string yh.sl,.int .i64 yh.num] 60)).alloc (.cells #[.bool yh.inner,.slice x1 x2 x3,.slice y1 y2 y3,.int .i64 yh.least,.int .i64 yh.rows,.string yh.sl,.int .i64 yh.num] 60)):=by show _=_;rw[hW4,hC]
 rw[hC] at hk4;have hQ:=hd hb4;have Hd:=hd hk4;have h9:=hd hs4;clear hW4 hb4 hs4 hk4 hl4 hC h0;go_wp2_with fail;rw[<-h8.o];refine(jQav n l _ _ _ a 1 _ (N3.o.below hQ.o) N4.o (by omega) (by simp) (by omega) (by omega)).mono ?_;rintro e w5 ⟨v5,rfl,hn5,hb5⟩;obtain⟨vo,vcap,rfl⟩:=jQa hn5.own;have ho:=hQ.o.trans (hb5.mono hQ.o.size);have hR:=(hb5.block w3.heap.size (by rw[h9.o];omega)).trans Hd.o;obtain⟨n0,n1,n2,n3,n4,n5,n6⟩:=SevenAt.blk (h:=yh) hR;simp only[Nat.zero_add] at n1 n2 n3 n4 n5 n6;have Hn:=jQf hR;have T5:=hd (T3.o.below ho);have F5:Hid (TFrm tb w w5):=F3.o.trans (TFrm.of ho (by have:=T3.o.lt;omega));have hw:Hid (w5.heap[w.heap.size+1]?=some (.cells node0 60)):=(ho.block _ (jQf hB.o)).trans hB.o;have h3:(exch l a 1 [(c',Value.slice x1 x2 x3,Value.slice y1 y2 y3)]).map Prod.fst=exch (l.map Prod.fst) a 1 [c']:=by rw[Sq.jQgJ];rfl
 obtain⟨k5,hk5e⟩:∃k5,k5=exch l a 1 [(c',Value.slice x1 x2 x3,Value.slice y1 y2 y3)]:=⟨_,rfl⟩;rw[<-hk5e] at hn5 h3;have Hc:=hd hn5;have h7:=hd h3;have Hu:=ho.size;rw[<-hk5e];clear hn5 hb5 ho hR h3 hk5e e2 Hh T3 N3 F3 hN hB HC hQ Hd N4 h8 h9;go_wp2_with fail;refine(jQg4 yh x1 x2 x3 y1 y2 y3 w5).mono ?_;rintro e w6 ⟨rfl,hb6⟩;rw[h6.o];have T6:=hd (T5.o.below hb6);have F6:Hid (TFrm tb w w6):=F5.o.trans (TFrm.of hb6 (by have:=T5.o.lt;omega));have N6:=hd (Hc.o.below hb6);have Ht:=hb6.size;have he:Hid (w6.heap[w.heap.size+1]?=some (.cells node0 60)):=(hb6.block _ (jQf hw.o)).trans hw.o;obtain⟨q,hq⟩:∃q,q=Sq.sizeN n c':=⟨_,rfl⟩;have h2:=HJ.o;have hU:=Hf.o;rw[<-hq] at h2 hU ⊢;have hY:=hd h2;have hK:=hd hU;have Hp:w.heap.size+2<=w6.heap.size:=by have:=jQf he.o;omega
 clear hb6 hq h2 hU HJ Hf n0 n1 n2 n3 n4 n5 n6 T5 F5 Hc hw h6 h1
 by_cases hq2:q<2
 ·have i3:decide ((q:Int)<2)=true:=by simp;omega
  have Ha:=hY.o hq2 w6 (.slice vo k5.length vcap) k5 (fun g hg=>HZ.o g (by omega)) h7.o (N6.o.base (zR)) T6.o;have Hb:=hd Ha;clear Ha;go_wp2_with fail;refine Hb.o.mono ?_;rintro e w7 ⟨v7,k7,rfl,hD,hn7,ht7,hf7⟩;obtain⟨uo,ucap,rfl⟩:=jQa hn7.own;simp only at hD ht7;have hO:k7.length<=400:=by rw[<-hD,List.length_map] at hcl;exact hcl
  have hp:smallRows n k7:=fun c hc=>He.o c.1 (by rw[<-hD];exact List.mem_map.2 ⟨c,hc,rfl⟩)
  have T7:=hd ht7;have F7:Hid (TFrm tb w w7):=F6.o.trans hf7;have N7:=hd hn7;have hP:=hd hD;have hL:=hd hp;have Hr:=hf7.below_lt;have hF:Hid (w7.heap[w.heap.size+1]?=some (.cells node0 60)):=(hf7.keep _ _ _ _ he.o (by decide) (by decide)).trans he.o;clear hD hn7 ht7 hf7 hp Hb hY hK;go_wp2_with fail;refine(jQca n k7 _ _ N7.o.rd (by omega) hL.o).mono ?_;rintro e w8 ⟨cv8,rfl,hn8,hb8⟩;obtain⟨ko,kcap,rfl⟩:=jQa hn8.own;have hb:=(hb8.block (w.heap.size+1) (jQf hF.o)).trans hF.o;obtain⟨b0,b1,b2,b3,b4,b5,b6⟩:=jQw hb;obtain⟨f0,f1,f2,f3,f4,f5,f6⟩:=jQk hb;have Hm:=jQf hb;have hf:=hd hb;have T8:=hd (T7.o.below hb8);have F8:Hid (TFrm tb w w8):=F7.o.trans (TFrm.of hb8 (by have:=T7.o.lt;omega));have hM:=hd hn8;obtain⟨zh,hzh⟩:∃x,x=(innerF (headN n) (k7.map Prod.fst)).hd:=⟨_,rfl⟩;rw[<-hzh,jQc];have hX:Hid ((innerF (headN n) cs).hd=zh):=by show _=_;rw[hzh,hP.o]
  obtain⟨w9,hh⟩:∃w9,w9=set7 w8 (w.heap.size+1) (.bool zh.inner) (.slice none 0 0) (.slice ko k7.length kcap) (.int .i64 zh.least) (.int .i64 zh.rows) (.string zh.sl) (.int .i64 zh.num):=⟨_,rfl⟩
  have N9:Hid (NodeAt Z w9 (n+1) (innerF (headN n) cs) (.slice none 0 0) (.slice ko k7.length kcap)):=by
   rw[hh];exact(NodeAt.skip (b:=w.heap.size+1) (NodeAt.mk (EntsAt.nil _) hP.o.symm (hM.o.base (zR)) (jQbW hM.o (fun g hg=>HZ.o g (by omega)))) (Or.inr rfl) hf.o fun g hg=>jQl _ _ _ _ _ _ _ _ _ hg).less fun g hg=>Or.inl hg
  have T9:Hid (TrAt tb w9 tr3):=by
   rw[hh];exact T8.o.keeps (jQaO hf.o _ _ _ _ _ _ _) (by decide) (by decide)
  have F9:Hid (TFrm tb w w9):=by
   rw[hh];exact F8.o.set7 (by omega) (by omega) _ _ _ _ _ _ _
  have hT:=hd hh;clear hb hn8 hb8 hzh hh;go_wp2;refine bodyPost_ret (v:=.agg (headCells zh (.slice none 0 0) (.slice ko k7.length kcap)).toArray) (by simp[results,Tryz.results169,go_sem,headCells, *]) rfl ?_;have hh:=hT.o;subst hh;exact⟨_,_,by rw[<-hX.o];rfl,N9.o,T9.o,F9.o⟩
 ·have i3:decide ((q:Int)<2)=false:=by simp;omega
  obtain⟨hcs,htr⟩:=hK.o hq2;have hD:k5.map Prod.fst=cs:=by rw[hcs];exact h7.o
  have hO:k5.length<=400:=by rw[<-hD,List.length_map] at hcl;exact hcl
  have hp:smallRows n k5:=fun c hc=>He.o c.1 (by rw[<-hD];exact List.mem_map.2 ⟨c,hc,rfl⟩)
  have hP:=hd hD;have hL:=hd hp;have Hj:=hd htr;clear hD hp hcs htr hY hK;go_wp2_with fail;refine(jQca n k5 _ _ N6.o.rd (by omega) hL.o).mono ?_;rintro e w8 ⟨cv8,rfl,hn8,hb8⟩;obtain⟨ko,kcap,rfl⟩:=jQa hn8.own;have hb:=(hb8.block (w.heap.size+1) (jQf he.o)).trans he.o;obtain⟨b0,b1,b2,b3,b4,b5,b6⟩:=jQw hb;obtain⟨f0,f1,f2,f3,f4,f5,f6⟩:=jQk hb;have Hm:=jQf hb;have hf:=hd hb;have T8:=hd (T6.o.below hb8);have F8:Hid (TFrm tb w w8):=F6.o.trans (TFrm.of hb8 (by have:=T6.o.lt;omega));have hM:=hd hn8;obtain⟨zh,hzh⟩:∃x,x=(innerF (headN n) (k5.map Prod.fst)).hd:=⟨_,rfl⟩;rw[<-hzh,jQc];have hX:Hid ((innerF (headN n) cs).hd=zh):=by show _=_;rw[hzh,hP.o]
  obtain⟨w9,hh⟩:∃w9,w9=set7 w8 (w.heap.size+1) (.bool zh.inner) (.slice none 0 0) (.slice ko k5.length kcap) (.int .i64 zh.least) (.int .i64 zh.rows) (.string zh.sl) (.int .i64 zh.num):=⟨_,rfl⟩
  have N9:Hid (NodeAt Z w9 (n+1) (innerF (headN n) cs) (.slice none 0 0) (.slice ko k5.length kcap)):=by
   rw[hh];exact(NodeAt.skip (b:=w.heap.size+1) (NodeAt.mk (EntsAt.nil _) hP.o.symm (hM.o.base (zR)) (jQbW hM.o (fun g hg=>HZ.o g (by omega)))) (Or.inr rfl) hf.o fun g hg=>jQl _ _ _ _ _ _ _ _ _ hg).less fun g hg=>Or.inl hg
  have T9:Hid (TrAt tb w9 tr3):=by
   rw[hh];rw[Hj.o];exact T8.o.keeps (jQaO hf.o _ _ _ _ _ _ _) (by decide) (by decide)
  have F9:Hid (TFrm tb w w9):=by
   rw[hh];exact F8.o.set7 (by omega) (by omega) _ _ _ _ _ _ _
  have hT:=hd hh;clear hb hn8 hb8 hzh hh;go_wp2;refine bodyPost_ret (v:=.agg (headCells zh (.slice none 0 0) (.slice ko k5.length kcap)).toArray) (by simp[results,Tryz.results169,go_sem,headCells, *]) rfl ?_;have hh:=hT.o;subst hh;exact⟨_,_,by rw[<-hX.o];rfl,N9.o,T9.o,F9.o⟩
end
section
open Go.RowKit
variable {Z:Nat->Prop}
theorem jQio (n:Nat)(t:NodeF (Nd n))(ev cv:Value)(p:Int)(tb:Nat)(tr:Trl)(w:World)(hin:t.hd.inner=true)(hk:t.kids=[])(hn:NodeAt Z w (n+1) t ev cv)(ht:TrAt tb w tr)(hroom:tr.nums.length+1<=100000) :
  Calls Tryz.prog 169 #[.agg (headCells t.hd ev cv).toArray,.int .i64 p,.pointer (some ⟨tb,0,none⟩)] w (NodeSays Z tb (n+1) (t,touchR tr t.hd) w):=by
 obtain⟨h1,l,h2,h3⟩:=hn.inner;have hy:l=[]:=by rw[hk] at h2;exact List.map_eq_nil_iff.1 h2.symm
 subst hy;obtain⟨⟨eo,el,ecap,rfl⟩,-⟩:=hn.slices;obtain⟨co,ccap,hcv⟩:=jQa h3.own;have hs:cv=.slice co 0 ccap:=hcv;clear hcv;subst hs;obtain⟨h,hh⟩:∃h,h=t.hd:=⟨_,rfl⟩;rw[<-hh] at hin ⊢;rw[jQc];have hz:=ht.lt;have hw:=hd hin;have HH:=hd hh;obtain⟨W,hWW,hW,hWs,hblk,hres⟩:=jQbQ w #[.bool h.inner,.slice eo el ecap,.slice co 0 ccap,.int .i64 h.least,.int .i64 h.rows,.string h.sl,.int .i64 h.num];have HT:=hd (ht.below hW);have HF:Hid (TFrm tb w W):=TFrm.of hW (by omega);have hl:=hd hblk;have hm:=hd hres;have HN:=hd ((hn.more (b:=w.heap.size+1) (Nat.le_succ _)).below hW);have HK:=hd (h3.below hW);obtain⟨a0,a1,a2,a3,a4,a5,a6⟩:=SevenAt.blk (h:=h) hblk;simp only[Nat.zero_add] at a1 a2 a3 a4 a5 a6;have hv:=jQf hblk;clear ht hW hblk hres hn hWs hin hh h1 h2 h3 hk;go_enter Tryz.func169,Tryz.ntmps169;go_wp2_with fail;rw[<-show node0=#[.bool false,.slice none 0 0,.slice none 0 0,.int .i64 0,.int .i64 0,.string ⟨#[]⟩,.int .i64 0] from rfl,<-hWW];clear hWW;refine(jQag tb tr h _ _ W ⟨_,_,_,rfl⟩ ⟨_,_,_,rfl⟩ HT.o hroom).mono ?_;rintro e w1 ⟨rfl,ht1,hf1⟩;have hb:=(hf1.keep w.heap.size _ _ _ hl.o (by decide) (by decide)).trans hl.o;have hc:=(hf1.keep (w.heap.size+1) _ _ _ hm.o (by decide) (by decide)).trans hm.o;have T1:=hd ht1;have F1:Hid (TFrm tb w w1):=HF.o.trans hf1;have N1:=hd (HN.o.tfrm hf1);have K1:=hd (HK.o.tfrm hf1);obtain⟨n0,n1,n2,n3,n4,n5,n6⟩:=SevenAt.blk (h:=h) hb;simp only[Nat.zero_add] at n1 n2 n3 n4 n5 n6;rw[hw.o] at n0;have hr:=jQf hb;have hq:=jQf hc;have hf:=hd hc;have hi:=hd hb;clear a0 a1 a2 a3 a4 a5 a6 hv HT HF hl hm HN HK ht1 hf1 hb hc;go_wp2_with fail;refine(jQhb n [] p ⟨true,h.least,h.rows,h.sl,h.num⟩ _ _ w1 ⟨_,_,_,rfl⟩ K1.o (zR)).mono ?_;rintro e w2 ⟨rfl,hb2⟩;have hp:(Sq.wayF (headN n) (([]:List (Nd n×Value×Value)).map Prod.fst) p:Nat)=0:=rfl;rw[hp];have he:=(hb2.block w.heap.size hr).trans hi.o;have ha:=(hb2.block (w.heap.size+1) hq).trans hf.o;obtain⟨c0,c1,c2,c3,c4,c5,c6⟩:=SevenAt.blk (h:=h) he
 simp only[Nat.zero_add] at c1 c2 c3 c4 c5 c6;obtain⟨b0,b1,b2,b3,b4,b5,b6⟩:=jQw ha;obtain⟨f0,f1,f2,f3,f4,f5,f6⟩:=jQk ha;have hA:=jQf ha;have hu:=jQf he;have hj:=hd ha;have T2:=hd (T1.o.below hb2);have F2:Hid (TFrm tb w w2):=F1.o.trans (TFrm.of hb2 (by have:=T1.o.lt;omega));have N2:=hd (N1.o.below hb2);obtain⟨w9,ho⟩:∃w9,w9=set7 w2 (w.heap.size+1) (.bool h.inner) (.slice eo el ecap) (.slice co 0 ccap) (.int .i64 h.least) (.int .i64 h.rows) (.string h.sl) (.int .i64 h.num):=⟨_,rfl⟩
 have N9:Hid (NodeAt Z w9 (n+1) t (.slice eo el ecap) (.slice co 0 ccap)):=by
  rw[ho];exact(NodeAt.skip (b:=w.heap.size+1) N2.o (Or.inr rfl) hj.o fun g hg=>jQl _ _ _ _ _ _ _ _ _ hg).less fun g hg=>Or.inl hg
 have T9:Hid (TrAt tb w9 (touchR tr h)):=by
  rw[ho];exact T2.o.keeps (jQaO hj.o _ _ _ _ _ _ _) (by decide) (by decide)
 have F9:Hid (TFrm tb w w9):=by
  rw[ho];exact F2.o.set7 (by omega) (by omega) _ _ _ _ _ _ _
 have hx:=hd ho;clear hb2 he ha n0 n1 n2 n3 n4 n5 n6 hf hi T1 F1 N1 K1 hp ho;go_wp2;refine bodyPost_ret (v:=.agg (headCells h (.slice eo el ecap) (.slice co 0 ccap)).toArray) (by simp[results,Tryz.results169,go_sem,headCells, *]) rfl ?_;have ho:=hx.o;subst ho;exact⟨_,_,by rw[HH.o];rfl,N9.o,T9.o,F9.o⟩
theorem jQh9 {α:Type}(f:α->Sq.Head)(sz:α->Nat)(tg:α->α->List α)(g:α->Int->Trl->α×Trl)(t:NodeF α)(p:Int)(tr:Trl)(h:t.hd.inner=false):Sq.delF f sz tg g t p tr=(leafF (t.ents.filter fun e=>e.place != p),touchR tr t.hd):=by
 unfold Sq.delF;rw[h];rfl
theorem jQpz {α:Type}(f:α->Sq.Head)(sz:α->Nat)(tg:α->α->List α)(g:α->Int->Trl->α×Trl)(t:NodeF α)(p:Int)(tr:Trl)(h:t.hd.inner=true)(hk:t.kids=[]):Sq.delF f sz tg g t p tr=(t,touchR tr t.hd):=by
 unfold Sq.delF;rw[h,hk];rfl
theorem jQpy {α:Type}(f:α->Sq.Head)(sz:α->Nat)(tg:α->α->List α)(g:α->Int->Trl->α×Trl)(t:NodeF α)(p:Int)(tr:Trl)(h:t.hd.inner=true)(a:Nat)(haw:a=Sq.wayF f t.kids p)(ha:a<t.kids.length)(c:α×Trl)(hc:c=g t.kids[a] p (touchR tr t.hd)) :
  Sq.delF f sz tg g t p tr=if sz c.1<2 then(innerF f (Sq.joinedF f tg (exch t.kids a 1 [c.1]) a c.2).1,(Sq.joinedF f tg (exch t.kids a 1 [c.1]) a c.2).2) else(innerF f (exch t.kids a 1 [c.1]),c.2):=by
 subst haw hc;unfold Sq.delF;rw[h];simp only[if_true,List.getElem?_eq_getElem ha]
theorem exch_at {α:Type}{l:List α}{a:Nat}{c:α}(ha:a<l.length):∃h:a<(exch l a 1 [c]).length,(exch l a 1 [c])[a]=c:=by
 have hl:(exch l a 1 [c]).length=l.length:=by rw[Sq.jQbJ _ _ _ _ (by omega),List.length_singleton];omega
 refine⟨by omega,?_⟩;have hb:min a l.length=a:=by omega
 simp[exch,List.getElem_append,hb]
theorem jQfw (K:Int)(hK0:0<=K)(hK:K<=99998)(p:Int)(tb:Nat):∀(n:Nat) (Z:Nat->Prop) (t:Nd n) (ev cv:Value) (tr:Trl) (w:World),NodeAt Z w n t ev cv->tameN K n t->(headN n t).rows<=900000000->TrAt tb w tr->Sq.TameR K tr->(∀g,w.heap.size<=g->¬Z g) ->
  Calls Tryz.prog 169 #[.agg (headCells (headN n t) ev cv).toArray,.int .i64 p,.pointer (some ⟨tb,0,none⟩)] w (NodeSays Z tb n (Sq.delN n t p tr) w)
 | 0,Z,t,ev,cv,tr,w,h,hf,_,ht,hr,_=>by
  obtain⟨h1,_⟩:=h.leaf;have hu:=hr.len;have hF:=hf.at0.ents;have e:Sq.delN 0 t p tr=(leafM 0 ((Sq.NodeF.ents t).filter fun e=>e.place != p),touchR tr (Sq.NodeF.hd t)):=jQh9 _ _ _ _ t p tr hf.leaf0;rw[e];exact jQd1 0 (Sq.NodeF.hd t) (Sq.NodeF.ents t) ev cv p tb tr w hf.leaf0 h1 (NodeAt.slices h).2 (by omega) ht (by omega)
 | n+1,Z,t,ev,cv,tr,w,h,hf,hrows,ht,hr,hZ=>by
  obtain⟨h1,l,h2,h3⟩:=h.inner;have hu:=hr.len;have hb:=hf.at1;have hF:=hb.ents;have hz:=hb.kids;have hv:∀c∈Sq.NodeF.kids t,0<=(headN n c).rows:=fun c hc=>(hb.each c hc).head.2.1
  have hh:(headN (n+1) t).rows=(Sq.NodeF.hd t).rows:=rfl;cases hin:(Sq.NodeF.hd t).inner with
  | false =>
   have e:Sq.delN (n+1) t p tr=(leafM (n+1) ((Sq.NodeF.ents t).filter fun e=>e.place != p),touchR tr (Sq.NodeF.hd t)):=jQh9 _ _ _ _ t p tr hin;rw[e];exact jQd1 (n+1) (Sq.NodeF.hd t) (Sq.NodeF.ents t) ev cv p tb tr w hin h1 (NodeAt.slices h).2 (by omega) ht (by omega)
  | true =>
   by_cases hk:Sq.NodeF.kids t=[]
   ·have e:Sq.delN (n+1) t p tr=(t,touchR tr (Sq.NodeF.hd t)):=jQpz _ _ _ _ t p tr hin hk;rw[e];exact jQio n t ev cv p tb tr w hin hk h ht (by omega)
   ·have ha:=Sq.jQjr (headN n) (Sq.NodeF.kids t) p hk;obtain⟨a,haw⟩:∃a,a=Sq.wayF (headN n) (Sq.NodeF.kids t) p:=⟨_,rfl⟩;rw[<-haw] at ha;have he:(Sq.NodeF.kids t)[a]∈Sq.NodeF.kids t:=List.getElem_mem _;have hc:=hb.each _ he;have hp:=(hb.inn hin).1;have hE:=Sq.jQaZ (headN n) hv he;obtain⟨q,hq⟩:∃q,q=Sq.delN n (Sq.NodeF.kids t)[a] p (touchR tr (Sq.NodeF.hd t)):=⟨_,rfl⟩;have hi:=Sq.jQgM hK0 n (Sq.NodeF.kids t)[a] p (touchR tr (Sq.NodeF.hd t)) hc (hr.touch hb.num);rw[<-hq] at hi;have e:=jQpy (headN n) (Sq.sizeN n) (Sq.togetherN n) (Sq.delN n) t p tr hin a haw ha q hq
    have hm:∀x∈exch (Sq.NodeF.kids t) a 1 [q.1],tameN K n x:=fun x hx=>by
     rcases Sq.jQci hx with hx | hx
     ·exact hb.each x hx
     ·rw[List.mem_singleton] at hx;subst hx;exact hi.1
    have hA:(exch (Sq.NodeF.kids t) a 1 [q.1]).length=(Sq.NodeF.kids t).length:=by rw[Sq.jQbJ _ _ _ _ (by omega),List.length_singleton];omega
    have hw:Sq.sumRows2 (headN n) (exch (Sq.NodeF.kids t) a 1 [q.1])<=(Sq.NodeF.hd t).rows:=by
     rw[Sq.jQef (headN n) _ _ _ ha,Sq.jQY,Sq.jQc2,hp]
     have:=hi.2.1
     omega
    have hB:a<l.length:=by rw[h2,List.length_map] at ha;exact ha
    have hD:(Sq.NodeF.kids t)[a]=l[a].1:=by simp only[h2,List.getElem_map]
    obtain⟨cs,tr3,hcs,hno,hcm,hcl,hcsum⟩:∃cs tr3,(Sq.sizeN n q.1<2->(cs,tr3)=Sq.joinedF (headN n) (Sq.togetherN n) (exch (Sq.NodeF.kids t) a 1 [q.1]) a q.2)/\(¬Sq.sizeN n q.1<2->cs=exch (Sq.NodeF.kids t) a 1 [q.1]/\tr3=q.2)/\(∀x∈cs,tameN K n x)/\cs.length<=4/\Sq.sumRows2 (headN n) cs<=(Sq.NodeF.hd t).rows:=by
     by_cases h5:Sq.sizeN n q.1<2
     ·obtain⟨hn,hx2⟩:=exch_at (c:=q.1) ha;have hj:=Sq.jQeL (f:=headN n) (sz:=Sq.sizeN n) (tg:=Sq.togetherN n) (K:=K) (G:=tameN K n) (fun c hc=>⟨hc.head.1,hc.head.2.1,Sq.jQmk hc⟩) (fun l r hl hr h5=>Sq.jQcr hK0 n l r hl hr h5) (cs:=exch (Sq.NodeF.kids t) a 1 [q.1]) (by omega) hm hn (by rw[hx2];exact h5) hi.2.2;exact⟨_,_,fun _=>rfl,fun h=>absurd h5 h,hj.2.1,hj.1,Int.le_trans hj.2.2.1 hw⟩
     ·exact⟨_,_,fun h=>absurd h h5,fun _=>⟨rfl,rfl⟩,hm,by omega,hw⟩
    have e2:Sq.delN (n+1) t p tr=(innerF (headN n) cs,tr3):=by
     show Sq.delF _ _ _ _ t p tr=_;rw[e]
     by_cases h5:Sq.sizeN n q.1<2
     ·rw[if_pos h5,<-hcs h5]
     ·rw[if_neg h5,(hno h5).1,(hno h5).2]
    rw[e2]
    have hC:∀c∈cs,0<=(headN n c).rows/\(headN n c).rows<=1000000000:=fun c hc=>by
     have:=Sq.jQaZ (headN n) (fun d hd=>(hcm d hd).head.2.1) hc
     exact⟨(hcm c hc).head.2.1,by omega⟩
    rw[hD] at hq hc hE;rw[h2] at haw hno hcs hz hA hm hw;rw[List.length_map] at hz;refine jQg8 n (Sq.NodeF.hd t) l ev cv p tb tr q.2 tr3 q.1 cs w hin (NodeAt.slices h).1 h3 (by omega) ht (by omega) hZ a hB haw hno hC (by omega) (fun w' hZ' hn' ht'=>?_) (fun h5 w' v k hZ' hm' hn' ht'=>?_)
    ·have:=jQfw K hK0 hK p tb n _ l[a].1 l[a].2.1 l[a].2.2 (touchR tr (Sq.NodeF.hd t)) w' hn' hc (by omega) ht' (hr.touch hb.num) hZ'
     rw[<-hq] at this;exact this
    ·rw[hcs h5,<-hm'];have hI:k.length=l.length:=by have:=congrArg List.length hm';rw[List.length_map,hA,List.length_map] at this;exact this
     have hH:=hi.2.2.len
     have ho:∀x∈k,tameN K n x.1/\(headN n x.1).rows<=900000000:=fun x hx=>by
      have hn:x.1∈exch (l.map Prod.fst) a 1 [q.1]:=by rw[<-hm'];exact List.mem_map.2 ⟨x,hx,rfl⟩
      have:=Sq.jQaZ (headN n) (fun d hd=>(hm d hd).head.2.1) hn
      exact⟨hm _ hn,by omega⟩
     by_cases hone:k.length=1
     ·have hG:a=0:=by omega
      subst hG;exact jQnx n k v tb q.2 w' hn' hone ht'
     ·refine jQnv n k v a tb q.2 w' hn' (by omega) (by omega) (by omega) ht' (by omega) (fun x hx y hy=>?_) (fun x hx y hy w'' hnx hny hs=>?_)
      ·cases n with
       | zero=>show(Sq.togetherF _ x.1 y.1).length<=2;unfold Sq.togetherF;split<;>(first | (unfold Sq.innersF;rw[List.length_map];exact(Sq.jQdb _).1) | (unfold Sq.leavesF;rw[List.length_map];exact(Sq.jQdb _).1))
       | succ m=>show(Sq.togetherF _ x.1 y.1).length<=2;unfold Sq.togetherF;split<;>(first | (unfold Sq.innersF;rw[List.length_map];exact(Sq.jQdb _).1) | (unfold Sq.leavesF;rw[List.length_map];exact(Sq.jQdb _).1))
      ·exact jQix K n x.1 y.1 x.2.1 x.2.2 y.2.1 y.2.2 w'' hnx hny (ho x hx).1 (ho y hy).1 (ho x hx).2 (ho y hy).2 (fun g hg=>hZ' g (by omega))
end
section
open Go.RowKit
variable {Z:Nat->Prop}
theorem end7 {tb n b:Nat}{w w1:World}{t:Nd n}{ev cv:Value}{tr:Trl}{c:Array Value}(hn:NodeAt (fun g=>Z g\/g=b) w1 n t ev cv)(ht:TrAt tb w1 tr)(hf:TFrm tb w w1)(hb:w1.heap[b]?=some (.cells c 60))(h1:w.heap.size<=b)(h2:tb<=b)(x0 x1 x2 x3 x4 x5 x6:Value)(o:Obj) :
  NodeAt Z ((set7 w1 b x0 x1 x2 x3 x4 x5 x6).alloc o) n t ev cv/\TrAt tb ((set7 w1 b x0 x1 x2 x3 x4 x5 x6).alloc o) tr/\TFrm tb w ((set7 w1 b x0 x1 x2 x3 x4 x5 x6).alloc o):=by
 have hA:Below (set7 w1 b x0 x1 x2 x3 x4 x5 x6).heap.size (set7 w1 b x0 x1 x2 x3 x4 x5 x6) ((set7 w1 b x0 x1 x2 x3 x4 x5 x6).alloc o):=(bR).alloc (nR) _;have ha:=ht.keeps (jQaO hb x0 x1 x2 x3 x4 x5 x6) (by decide) (by decide);exact⟨((NodeAt.skip (b:=b) hn (Or.inr rfl) hb fun g hg=>jQl _ _ _ _ _ _ _ _ _ hg).less fun g hg=>Or.inl hg).below hA,ha.below hA,(hf.set7 h1 h2 x0 x1 x2 x3 x4 x5 x6).trans (TFrm.of hA (by have:=ha.lt;omega))⟩
theorem jQpx (n:Nat)(t:Nd n)(h:¬((headN n t).inner=true/\Sq.sizeN n t=1)):Sq.downN n t=⟨n,t⟩:=by
 cases n with
 | zero=>rfl
 | succ m =>
  show(if(Sq.NodeF.hd t).inner then(match Sq.NodeF.kids t with | [c]=>(⟨m,c⟩:NTree) | _=>⟨m+1,t⟩) else⟨m+1,t⟩)=_
  split
  ·next hi =>
   split
   ·next c hc =>
    exfalso
    refine h ⟨hi,?_⟩;show Sq.sizeF t=1;unfold Sq.sizeF;rw[if_pos hi,hc];rfl
   ·rfl
  ·rfl
theorem jQqV (n:Nat)(t:Nd (n+1))(hi:(Sq.NodeF.hd t).inner=true)(c:Nd n)(hc:Sq.NodeF.kids t=[c]):Sq.downN (n+1) t=⟨n,c⟩:=by
 show(if(Sq.NodeF.hd t).inner then(match Sq.NodeF.kids t with | [c]=>(⟨n,c⟩:NTree) | _=>⟨n+1,t⟩) else⟨n+1,t⟩)=_
 rw[if_pos hi,hc]
theorem jQou (K:Int)(hK0:0<=K)(hK:K<=99998)(X:NTree)(ev cv:Value)(p:Int)(tb:Nat)(tr:Trl)(w:World)(h:NodeAt Z w X.d X.t ev cv)(hf:Sq.TameT K 900000000 X)(ht:TrAt tb w tr)(hr:Sq.TameR K tr)(hZ:∀g,w.heap.size<=g->¬Z g) :
  Calls Tryz.prog 128 #[.agg (headCells X.head ev cv).toArray,.int .i64 p,.pointer (some ⟨tb,0,none⟩)] w (TreeSays Z tb (X.del p tr) w):=by
 obtain⟨n,t⟩:=X;obtain⟨⟨e1,e2,e3,hev⟩,c1,c2,c3,hcv⟩:=h.slices;subst hev hcv;obtain⟨hX,hrows⟩:=hf;simp only[Sq.NTree.head] at h hX hrows ⊢;have hb:=jQfw K hK0 hK p tb n (fun g=>Z g\/g=w.heap.size+1) t (.slice e1 e2 e3) (.slice c1 c2 c3) tr;have hE:Sq.NTree.del ⟨n,t⟩ p tr=(Sq.downN n (Sq.delN n t p tr).1,(Sq.delN n t p tr).2):=rfl;rw[hE];clear hE;obtain⟨pt,hpe⟩:∃x,x=Sq.delN n t p tr:=⟨_,rfl⟩;rw[<-hpe] at hb ⊢;obtain⟨hh,hhe⟩:∃x,x=headN n t:=⟨_,rfl⟩;rw[<-hhe] at hb hrows ⊢;rw[jQc] at hb ⊢;have hx:=ht.lt;obtain⟨W,hWW,hW,hWs,-,hres⟩:=jQbQ w #[.bool hh.inner,.slice e1 e2 e3,.slice c1 c2 c3,.int .i64 hh.least,.int .i64 hh.rows,.string hh.sl,.int .i64 hh.num]
 have hj:=hb W ((h.more (Nat.le_succ _)).below hW) hX hrows (ht.below hW) hr (fun g hg=>by
  rw[hWs] at hg;rintro(hz | hz)
  ·exact hZ g (by omega) hz
  ·omega)
 have HC:=hd hj;have HF:Hid (TFrm tb w W):=TFrm.of hW (by omega);have hm:=hd hres;clear h ht hX hrows hb hW hWs hres hj hpe hhe hZ hr;go_enter Tryz.func128,Tryz.ntmps128;go_wp2_with fail;rw[<-show node0=#[.bool false,.slice none 0 0,.slice none 0 0,.int .i64 0,.int .i64 0,.string ⟨#[]⟩,.int .i64 0] from rfl,<-hWW];clear hWW;refine HC.o.mono ?_;rintro e w1 ⟨ev1,cv1,rfl,hn,ht1,hf1⟩;obtain⟨⟨x1,x2,x3,rfl⟩,y1,y2,y3,rfl⟩:=hn.slices;have hk:=jQj0 hn;have hc:=(hf1.keep (w.heap.size+1) _ _ _ hm.o (by decide) (by decide)).trans hm.o;obtain⟨r,tr2⟩:=pt;simp only at hn ht1 hk ⊢;obtain⟨yh,hyh⟩:∃x,x=headN n r:=⟨_,rfl⟩;rw[<-hyh] at hk ⊢;rw[jQc];obtain⟨b0,b1,b2,b3,b4,b5,b6⟩:=jQw hc;obtain⟨f0,f1,f2,f3,f4,f5,f6⟩:=jQk hc;have hy:=jQf hc;have hp:=hd hn;have hq:=hd hyh;have T1:=hd ht1;have F1:Hid (TFrm tb w w1):=HF.o.trans hf1;have hl:=hd hc;have ho:=hd hk;clear hn ht1 hf1 hc hyh HC HF hm hk
 by_cases hdo:yh.inner=true/\Sq.sizeN n r=1
 ·obtain⟨hi,hs1⟩:=hdo;have hk:=ho.o;rw[hi] at hk;simp only[if_true] at hk;cases n with
  | zero =>
   exfalso
   have h5:=hp.o.leaf.2;simp only[Value.slice.injEq] at h5;omega
  | succ m =>
   obtain⟨g1,l,g2,g3⟩:=hp.o.inner;obtain⟨lo',lc,hlv⟩:=jQa g3.own;simp only[Value.slice.injEq] at hlv;have hu:l.length=1:=by omega
   obtain⟨y,rfl⟩:=List.length_eq_one_iff.1 hu;have hs:(Sq.NodeF.hd r).inner=true:=by have:=hq.o;rw[show(Sq.NodeF.hd r)=headN (m+1) r from rfl,<-this,hi]
   have he:=hd (jQqV m r hs y.1 g2);obtain⟨g,cap',ea,el,ec,ca,cl,cc,hv,hg,⟨d0,d1,d2,d3,d4,dsl,dnu⟩,d5,d6⟩:=g3.at 0 (by simp);simp only[Value.slice.injEq] at hv;obtain⟨rfl,rfl,rfl⟩:=hv;obtain⟨yt,yev,ycv⟩:=y;simp only[List.getElem_cons_zero,Prod.mk.injEq,Nat.zero_mul,Nat.zero_add] at d0 d1 d2 d3 d4 dsl dnu d5 d6;obtain⟨rfl,rfl⟩:=d5;obtain⟨zh,hzh⟩:∃x,x=headN m yt:=⟨_,rfl⟩;rw[<-hzh] at d0 d3 d4 dsl dnu;have hw:=hd hzh;have ha:=hd (end7 d6 T1.o F1.o hl.o (by omega) (by omega) (.bool zh.inner) (.slice ea el ec) (.slice ca cl cc) (.int .i64 zh.least) (.int .i64 zh.rows) (.string zh.sl) (.int .i64 zh.num) (.cells #[.bool true,.slice x1 x2 x3,.slice (some ⟨g,0,none⟩) 1 y3,.int .i64 yh.least,.int .i64 yh.rows,.string yh.sl,.int .i64 yh.num] 60));have h1:([(yt,Value.slice ea el ec,Value.slice ca cl cc)]:List (Nd m×Value×Value)).length=1:=rfl;rw[h1,hi];clear hk hs1 hi hzh d6 g1 g2 g3 hlv hu hs hp hq h1 ho;go_wp2;refine bodyPost_ret (v:=.agg (headCells zh (.slice ea el ec) (.slice ca cl cc)).toArray) (by simp[results,Tryz.results128,go_sem,headCells, *]) rfl ?_;show TreeSays Z tb (Sq.downN (m+1) r,tr2) w _ _;rw[he.o];exact⟨_,_,by rw[show Sq.NTree.head (⟨m,yt⟩:NTree)=zh from hw.o.symm],ha.o.1,ha.o.2.1,ha.o.2.2⟩
 ·have he:=hd (jQpx n r (by rw[<-hq.o];exact hdo));have ha:=hd (end7 hp.o T1.o F1.o hl.o (by omega) (by omega) (.bool yh.inner) (.slice x1 x2 x3) (.slice y1 y2 y3) (.int .i64 yh.least) (.int .i64 yh.rows) (.string yh.sl) (.int .i64 yh.num) (.cells #[.bool yh.inner,.slice x1 x2 x3,.slice y1 y2 y3,.int .i64 yh.least,.int .i64 yh.rows,.string yh.sl,.int .i64 yh.num] 60));obtain⟨hi2,hle,hro,hsl,hnu⟩:=yh;simp only at ha ho hq hdo ⊢;cases hi2 with
  | false =>
   clear ho hdo hp;go_wp2;refine bodyPost_ret (v:=.agg (headCells ⟨false,hle,hro,hsl,hnu⟩ (.slice x1 x2 x3) (.slice y1 y2 y3)).toArray) (by simp[results,Tryz.results128,go_sem,headCells, *]) rfl ?_;show TreeSays Z tb (Sq.downN n r,tr2) w _ _;rw[he.o];exact⟨_,_,by rw[show Sq.NTree.head (⟨n,r⟩:NTree)=_ from hq.o.symm],ha.o.1,ha.o.2.1,ha.o.2.2⟩
  | true =>
   have hA:((y2:Int)==1)=false:=by
    have h5:=ho.o;simp only[if_true] at h5;have h6:y2≠1:=fun e=>hdo ⟨rfl,by rw[<-h5];exact e⟩
    simp;omega
   clear ho hdo hp;go_wp2;refine bodyPost_ret (v:=.agg (headCells ⟨true,hle,hro,hsl,hnu⟩ (.slice x1 x2 x3) (.slice y1 y2 y3)).toArray) (by simp[results,Tryz.results128,go_sem,headCells, *]) rfl ?_;show TreeSays Z tb (Sq.downN n r,tr2) w _ _;rw[he.o];exact⟨_,_,by rw[show Sq.NTree.head (⟨n,r⟩:NTree)=_ from hq.o.symm],ha.o.1,ha.o.2.1,ha.o.2.2⟩
end
section
open Go.RowKit
variable {Z:Nat->Prop}
def manyN:(n:Nat)->Sq.Nd n->Nat
 | 0,_=>1
 | n+1,t=>1+((Sq.NodeF.kids t).map (manyN n)).sum
theorem jQjY {α:Type}{g:α->Int->α×Int}{m:α->Nat}:∀(l:List α) (k:Int),(∀c∈l,∀k,(g c k).2=k+(m c:Int))->(Sq.numbL g l k).2=k+((l.map m).sum:Nat)
 | [],k,_=>by simp[Sq.numbL]
 | c::r,k,h=>by
  have h1:=h c (List.mem_cons_self ..) k;have h2:=jQjY r (g c k).2 fun d hd=>h d (List.mem_cons_of_mem _ hd)
  show(Sq.numbL g r (g c k).2).2=_
  rw[h2,h1,List.map_cons,List.sum_cons];omega
theorem jQiN:∀(n:Nat) (t:Nd n) (k:Int),(Sq.numN n t k).2=k+(manyN n t:Int)
 | 0,t,k=>by
  have hk:(t:NodeF Empty).kids=[]:=by
   cases hq:(t:NodeF Empty).kids with
   | nil=>rfl
   | cons c _=>exact c.elim
  show(Sq.numbL _ (t:NodeF Empty).kids (k+1)).2=_
  rw[hk];rfl
 | n+1,t,k=>by
  show(Sq.numbL (Sq.numN n) (Sq.NodeF.kids t) (k+1)).2=_
  rw[jQjY (m:=manyN n) _ _ fun c _ k=>jQiN n c k];show _=k+((1+((Sq.NodeF.kids t).map (manyN n)).sum:Nat):Int);omega
theorem jQmX {α:Type}(g:α->Int->α×Int)(cs:List α)(k:Nat)(h:k<cs.length)(x:Int):Sq.numbL g (cs.drop k) x=((g cs[k] x).1::(Sq.numbL g (cs.drop (k+1)) (g cs[k] x).2).1,(Sq.numbL g (cs.drop (k+1)) (g cs[k] x).2).2):=by
 rw[List.drop_eq_getElem_cons h,Sq.numbL]
theorem NodeAt.move:∀{n:Nat} {w w':World} {t:Nd n} {ev cv:Value},NodeAt Z w n t ev cv->(∀(q:Nat) (c:Array Value) (e:TypeId) (fr:Nat×Nat),w.heap[q]?=some (Obj.cells c e fr)->(e=141\/(e=60/\¬Z q))->w'.heap[q]?=w.heap[q]?)->NodeAt Z w' n t ev cv
 | 0,_,_,_,_,_,h,hs=>by
  refine⟨⟨h.1.1,?_⟩,h.2⟩;rcases h.1.2 with h0 | ⟨g,cap,cur,hv,hbg,hh,hn,hm,hc,ht⟩
  ·exact Or.inl h0
  ·exact Or.inr ⟨g,cap,cur,hv,hbg,(hs g _ _ _ hh (Or.inl rfl)).trans hh,hn,hm,hc,ht⟩
 | _+1,_,_,_,_,_,h,hs=>by
  obtain⟨h1,l,h2,h3,hz,h4⟩:=h;refine⟨⟨h1.1,?_⟩,l,h2,⟨h3.1,?_⟩,hz,fun x hx=>(h4 x hx).move hs⟩
  ·rcases h1.2 with h0 | ⟨g,cap,cur,hv,hbg,hh,hn,hm,hc,ht⟩
   ·exact Or.inl h0
   ·exact Or.inr ⟨g,cap,cur,hv,hbg,(hs g _ _ _ hh (Or.inl rfl)).trans hh,hn,hm,hc,ht⟩
  ·rcases h3.2 with h0 | ⟨g,cap,cur,hv,hbg,hh,hn,hm,hc,ht⟩
   ·exact Or.inl h0
   ·exact Or.inr ⟨g,cap,cur,hv,hbg,(hs g _ _ _ hh (Or.inr ⟨rfl,hz g 0 none _ _ hv⟩)).trans hh,hn,hm,hc,ht⟩
structure NodesOwn (Y:Nat->Prop)(B:Nat)(w:World)(v:Value)(n:Nat)(l:List (Nd n×Value×Value)):Prop where
 own:w.ownsRow B 60 7 v l.length (l.flatMap (nodeCells n))
 each:∀x∈l,NodeAt (fun g=>Y g\/v.ownBlock=some g) w n x.1 x.2.1 x.2.2
theorem NodesOwn.at {Y:Nat->Prop}{B n:Nat}{w:World}{v:Value}{l:List (Nd n×Value×Value)}(h:NodesOwn Y B w v n l):NodesAt Y 0 w v n l:=⟨jQj h.own (zR),fun x hx=>(h.each x hx).less fun g hg=>Or.inl hg⟩
theorem NodesOwn.below {Y:Nat->Prop}{B n:Nat}{w w':World}{v:Value}{l:List (Nd n×Value×Value)}(h:NodesOwn Y B w v n l)(hb:Below w.heap.size w w'):NodesOwn Y B w' v n l:=⟨jQh h.own hb,fun x hx=>(h.each x hx).below hb⟩
theorem NodesOwn.nil (Y:Nat->Prop)(B:Nat)(w:World)(n:Nat):NodesOwn Y B w (.slice none 0 0) n []:=⟨World.ownsRow_nil _ _ _ _,fun x hx=>by cases hx⟩
theorem jQH {ops:Array Oper}{rest:List Oper}{o:Oper}{a:Act}{Q:Exit->Act->World->Prop}{w:World}(hgd:o.guard=none)(sl x:Operand)
  (ho:o.op=.call { callee:=.builtin .append,args:=#[sl,x],argTypes:=#[58,58] }) (Y:Nat->Prop) (B:Nat) (v:Value) (n:Nat) (l:List (Nd n×Value×Value)) (hs:a.eval sl=v) (hb:NodesOwn Y B w v n l)
  (m:Nd n×Value×Value) (sv:Value) (hx:a.eval x=sv) (hrd:Reads w sv 1 7 ([m].flatMap (nodeCells n))) (hm:NodeAt (fun g=>Y g\/v.ownBlock=some g) w n m.1 m.2.1 m.2.2) (h1:l.length+1<=1000000) (hB:B<=w.heap.size)
  (h:∀v' w',NodesOwn Y B w' v' n (l++[m])->Below B w w'->Keeps 60 w w'->(∀g,v'.ownBlock=some g->g<w'.heap.size)->wpList Tryz.prog ops Q rest (a.put o.dst v') w'):wpList Tryz.prog ops Q (o::rest) a w:=by
 obtain⟨i0,hi,hz0,hz1,hz2⟩:=info_parts Tryz.infoNode;rcases hrd.2 with⟨_,h0⟩ | ⟨g,off,cap,rfl,_,hc⟩
 ·omega
 refine wpList_append_lies _ hgd sl x 58 ho B 60 i0 _ 7 96 Tryz.underlying58 hi hz0 hz1 hz2 rfl (by decide) v l.length _ hs hb.own ⟨g,off,none⟩ 1 cap ([m].flatMap (nodeCells n)) hx hrd.1 (by
  intro j u hu;rw[jQaQ];exact hc j u hu) (jQeC hm) (by decide) (by unfold maxLen;omega) (by omega) hB _ rfl ?_
 intro g' cap w' ho' hg' hat hlt
 have ha:∀(q:Nat) (c:Array Value) (e:TypeId) (fr:Nat×Nat),w.heap[q]?=some (Obj.cells c e fr)->(e≠60\/v.ownBlock≠some q)->w'.heap[q]?=w.heap[q]?:=fun q c e fr hq he=>hg'.block q (jQf hq) (by
  rcases he with he | he
  ·exact fun e2=>jQn hb.own hq (fun e3=>he e3.symm) e2.symm
  ·exact fun e2=>he e2.symm)
 refine h _ w' ⟨by rw[List.length_append,List.flatMap_append];exact ho',fun y hy=>?_⟩ (Tch.of_grown hg' (fun k hk=>(World.ownsRow.lt hb.own k hk).1) hB) (fun q c e fr hq he=>ha q c e fr hq (Or.inl he)) (fun q hq=>by
  have:g'=q:=by simpa[Value.ownBlock] using hq
  omega)
 have hh:NodeAt (fun g=>Y g\/v.ownBlock=some g) w n y.1 y.2.1 y.2.2:=by
  rcases List.mem_append.1 hy with hy | hy
  ·exact hb.each y hy
  ·rw[List.mem_singleton.1 hy];exact hm
 have hf:NodeAt (fun g=>(Y g\/v.ownBlock=some g)\/g=w.heap.size) w n y.1 y.2.1 y.2.2:=hh.more (nR)
 have hg:=hf.move (w':=w') (fun q c e fr hq he=>ha q c e fr hq (by
  rcases he with rfl | ⟨_,he⟩
  ·exact Or.inl (by decide)
  ·exact Or.inr fun e2=>he (Or.inl (Or.inr e2))))
 refine hg.less fun q hq=>?_
 rcases hq with hq | hq
 ·exact Or.inl (Or.inl hq)
 ·have e1:g'=q:=by simpa[Value.ownBlock] using hq
  rcases hat with hat | hat
  ·exact Or.inl (Or.inr (by rw[hat,e1]))
  ·exact Or.inr (by omega)
def NumSays (Z:Nat->Prop)(n:Nat)(x:Nd n×Int)(w:World)(e:Ending)(w':World):Prop:=∃ev cv,e=.returned (.tuple #[.agg (headCells (headN n x.1) ev cv).toArray,.int .i64 x.2])/\NodeAt Z w' n x.1 ev cv/\Below w.heap.size w w'
def NumPost (Z:Nat->Prop)(n:Nat)(h:Sq.Head)(es:List Ent)(cs:List (Nd n))(k0:Int)(ev:Value)(w:World)(e:Ending)(w':World):Prop:=∃v k,e=.returned (.tuple #[.agg (headCells { h with num:=k0 } ev v).toArray,.int .i64 (Sq.numbL (Sq.numN n) cs (k0+1)).2])/\k.map Prod.fst=(Sq.numbL (Sq.numN n) cs (k0+1)).1/\EntsAt 0 w' ev es/\NodesAt Z 0 w' v n k/\offV Z v/\(k=[]->v=.slice none 0 0)/\Below w.heap.size w w'
theorem jQez (n:Nat)(h:Sq.Head)(es:List Ent)(l:List (Nd n×Value×Value))(ev cv:Value)(k0:Int)(w:World)(hes:EntsAt 0 w ev es)(hn:NodesAt Z 0 w cv n l)(hl:l.length<=100)(hZ:∀g,w.heap.size<=g->¬Z g)(h0:0<=k0)
  (hb2:k0+1+(((l.map Prod.fst).map (manyN n)).sum:Nat)<=1000000)
  (ih:∀x∈l,∀w' (k:Int) (Y:Nat->Prop),(∀g,w'.heap.size<=g->¬Y g)->NodeAt Y w' n x.1 x.2.1 x.2.2->0<=k->k+(manyN n x.1:Int)<=1000000->Calls Tryz.prog 52 #[.agg (nodeCells n x).toArray,.int .i64 k] w' (NumSays Y n (Sq.numN n x.1 k) w')) :
  Calls Tryz.prog 52 #[.agg (headCells h ev cv).toArray,.int .i64 k0] w (NumPost Z n h es (l.map Prod.fst) k0 ev w):=by
 obtain⟨eo,ecap,rfl⟩:=jQa hes;obtain⟨co,ccap,rfl⟩:=jQa hn.own;rw[jQc];obtain⟨Y,hY⟩:∃Y:Nat->Prop,Y=fun g=>(Z g\/g=w.heap.size)\/g=w.heap.size+1:=⟨_,rfl⟩
 obtain⟨W,hWW,hW,hWs,hblk,hres⟩:=jQbQ w #[.bool h.inner,.slice eo es.length ecap,.slice co l.length ccap,.int .i64 h.least,.int .i64 h.rows,.string h.sl,.int .i64 h.num]
 have HN:Hid (NodesAt Y 0 W (.slice co l.length ccap) n l):=by
  rw[hY];exact(show NodesAt (fun g=>(Z g\/g=w.heap.size)\/g=w.heap.size+1) 0 w (.slice co l.length ccap) n l from⟨hn.own,fun x hx=>((hn.each x hx).more (nR)).more (Nat.le_succ _)⟩).below hW
 have hL:Hid (∀g,w.heap.size+2<=g->¬Y g):=by
  intro g hg;rw[hY];rintro((hz | hz) | hz)
  ·exact hZ g (by omega) hz
  ·omega
  ·omega
 have hM:Hid (∀g,Z g->Y g):=by intro g hg;rw[hY];exact Or.inl (Or.inl hg)
 have hR:Hid (Y w.heap.size):=by show Y _;rw[hY];exact Or.inl (Or.inr rfl)
 have He:Hid (Y (w.heap.size+1)):=by show Y _;rw[hY];exact Or.inr rfl
 have hK:=hd (hes.below hW);have HW:=hd hW;have hs:=hd hWs;have hG:=hd hblk;have hI:=hd hres;have IH:=hd ih;have Hc:=hd hb2;have Hh:k0<=999999:=by omega
 clear hW hWs hblk hres hn hes hZ ih hb2 hY;go_enter Tryz.func52,Tryz.ntmps52;go_wp2;rw[<-show node0=#[.bool false,.slice none 0 0,.slice none 0 0,.int .i64 0,.int .i64 0,.string ⟨#[]⟩,.int .i64 0] from rfl,<-hWW];clear hWW
 go_loopw [6,7,8] (fun v nx i wr=>∃(k:Nat) (x:Int) (acc:List (Nd n×Value×Value)),k<=l.length/\i=.int .i64 k/\nx=.int .i64 x/\Hid (NodesOwn Y (w.heap.size+2) wr v n acc)/\Hid (acc=[]->v=.slice none 0 0)/\acc.length<=k/\0<=x/\Hid (x+((((l.map Prod.fst).drop k).map (manyN n)).sum:Nat)<=1000000)/\Hid (Sq.numbL (Sq.numN n) (l.map Prod.fst) (k0+1)=(acc.map Prod.fst++(Sq.numbL (Sq.numN n) ((l.map Prod.fst).drop k) x).1,(Sq.numbL (Sq.numN n) ((l.map Prod.fst).drop k) x).2))/\Hid (Below W.heap.size W wr)) (fun _ _ i _=>l.length-(intOf i).toNat)
 case atStart=>exact⟨0,k0+1,[],zR,rfl,by go_num,NodesOwn.nil _ _ _ _,fun _=>rfl,nR,by omega,Hc,rfl,bR⟩
 case round =>
  obtain⟨k,x,acc,hk,rfl,rfl,hac,hnil,hacl,hx0,hxs,hq,hb⟩:=hrel;obtain⟨wo,rfl⟩:∃wo:World,wo=wr:=⟨_,rfl⟩;obtain⟨yo,ycap,rfl⟩:=jQa hac.o.own;have hf:=(hb.o.block w.heap.size (by rw[hs.o];omega)).trans hG.o;have hj:=(hb.o.block (w.heap.size+1) (by rw[hs.o];omega)).trans hI.o;obtain⟨m0,m1,m2,m3,m4,m5,m6⟩:=SevenAt.blk (h:=h) hf;simp only[Nat.zero_add] at m1 m2 m3 m4 m5 m6;have Hf:=jQf hf;have Hi:=jQf hj;have h7:=hb.o.size;rw[hs.o] at h7;have ho:=hd hf;have hi:=hd hj;clear hf hj
  by_cases hkt:k<l.length
  ·obtain⟨g,cap',ea,el,ec,ca,cl,cc,hv,hg,⟨d0,d1,d2,d3,d4,dsl,dnu⟩,d5,d6⟩:=(HN.o.below hb.o).at k hkt;simp only[Value.slice.injEq] at hv;obtain⟨rfl,-,rfl⟩:=hv;have hu:=List.getElem_mem hkt;have hw:=jQmX (Sq.numN n) (l.map Prod.fst) k (by simpa using hkt) x;rw[List.getElem_map] at hw
   have hE:((((l.map Prod.fst).drop k).map (manyN n)).sum:Nat)=manyN n l[k].1+(((l.map Prod.fst).drop (k+1)).map (manyN n)).sum:=by
    rw[List.drop_eq_getElem_cons (by simpa using hkt),List.map_cons,List.sum_cons,List.getElem_map]
   have hp:=hxs.o;rw[hE] at hp;have hr:=jQiN n l[k].1 x;have hH:=(HN.o.each _ hu)
   have d7:NodeAt (fun g=>Y g\/(Value.slice yo acc.length ycap).ownBlock=some g) wo n l[k].1 l[k].2.1 l[k].2.2:=by
    have h9:NodeAt (fun g=>Y g\/(Value.slice yo acc.length ycap).ownBlock=some g) W n l[k].1 l[k].2.1 l[k].2.2:=by
     cases hob:(Value.slice yo acc.length ycap).ownBlock with
     | none=>exact hH.less fun g hg=>by rcases hg with hg | hg;exact hg;cases hg
     | some q =>
      have hq:=(World.ownsRow.lt hac.o.own q hob).1
      exact(hH.more (b:=q) (by rw[hs.o];exact hq)).less fun g hg=>by
       rcases hg with hg | hg
       ·exact Or.inl hg
       ·exact Or.inr (by simpa using hg.symm)
    exact h9.below hb.o
   have ha:=IH.o _ hu wo x (fun g=>Y g\/(Value.slice yo acc.length ycap).ownBlock=some g) (fun g hg=>by
    rintro(h9 | h9)
    ·exact hL.o g (by omega) h9
    ·have:=(World.ownsRow.lt hac.o.own g h9).2
     omega) d7 hx0 (by omega)
   clear d7 hH;obtain⟨y,hy⟩:∃y,y=l[k]:=⟨_,rfl⟩;rw[<-hy] at hw hp hr ha d0 d3 d4 dsl dnu d5;obtain⟨t,evx,cvx⟩:=y;simp only[Prod.mk.injEq] at d5;obtain⟨rfl,rfl⟩:=d5;simp only at hw hp hr ha;obtain⟨nt,hnt⟩:∃y,y=Sq.numN n t x:=⟨_,rfl⟩;rw[<-hnt] at hw hr ha;obtain⟨xh,hxh⟩:∃y,y=headN n t:=⟨_,rfl⟩;rw[<-hxh] at d0 d3 d4 dsl dnu;have hJ:nodeCells n (t,.slice ea el ec,.slice ca cl cc)=headCells xh (.slice ea el ec) (.slice ca cl cc):=by rw[hxh];rfl
   rw[hJ,jQc] at ha;have hD:Hid (Sq.numbL (Sq.numN n) (l.map Prod.fst) (k0+1)=(acc.map Prod.fst++nt.1::(Sq.numbL (Sq.numN n) ((l.map Prod.fst).drop (k+1)) nt.2).1,(Sq.numbL (Sq.numN n) ((l.map Prod.fst).drop (k+1)) nt.2).2)):=by show _=_;rw[hq.o,hw]
   have hO:Hid (nt.2+(((((l.map Prod.fst).drop (k+1)).map (manyN n)).sum:Nat):Int)<=1000000):=by show _<=_;omega
   have hC:0<=nt.2:=by omega
   have HC:=hd ha;have i1:¬((l.length:Int)<=(k:Int)):=by omega
   clear hw hE hp hr ha hnt hxh hJ hu hy d6 hq hxs;go_wp2_with fail;refine HC.o.mono ?_;rintro e w1 ⟨ev1,cv1,rfl,hn1,hb1⟩;obtain⟨⟨x1,x2,x3,rfl⟩,y1,y2,y3,rfl⟩:=hn1.slices;obtain⟨n1,n2⟩:=nt;simp only at hn1 hC hO hD ⊢;obtain⟨yh,hyh⟩:∃x,x=headN n n1:=⟨_,rfl⟩;rw[<-hyh,jQc];obtain⟨V,hV,hbV,hsV,hkV,hlV⟩:=jQjy w1 #[.bool yh.inner,.slice x1 x2 x3,.slice y1 y2 y3,.int .i64 yh.least,.int .i64 yh.rows,.string yh.sl,.int .i64 yh.num] #[.bool yh.inner,.slice x1 x2 x3,.slice y1 y2 y3,.int .i64 yh.least,.int .i64 yh.rows,.string yh.sl,.int .i64 yh.num];have h3:=hd ((hac.o.below hb1).below hbV);have hP:=hn1.below hbV;have h6:=hd hP
   have Ha:Hid (Reads V (.slice (some ⟨w1.heap.size+1,0,none⟩) 1 1) 1 7 ([(n1,Value.slice x1 x2 x3,Value.slice y1 y2 y3)].flatMap (nodeCells n))):=by
    have:=jQaA (w1.alloc (.cells #[.bool yh.inner,.slice x1 x2 x3,.slice y1 y2 y3,.int .i64 yh.least,.int .i64 yh.rows,.string yh.sl,.int .i64 yh.num] 60)) 60 #[.bool yh.inner,.slice x1 x2 x3,.slice y1 y2 y3,.int .i64 yh.least,.int .i64 yh.rows,.string yh.sl,.int .i64 yh.num] ([(n1,Value.slice x1 x2 x3,Value.slice y1 y2 y3)].flatMap (nodeCells n)) 1 7 (by rw[hyh];rfl) rfl
    rw[jQr] at this;rw[hV];exact this
   have h5:=hd hbV;have h4:=hd hb1;have Hg:=hb1.size;have Hb:=hd hsV;have hS:=hd hV;clear hn1 hb1 hV hbV hsV hkV hlV hP hyh HC;go_wp2_with (at_builtin;rw[<-hS.o];refine jQH rfl (.tmp 30) (.tmp 32) rfl Y (w.heap.size+2) _ n acc rfl h3.o (n1,Value.slice x1 x2 x3,Value.slice y1 y2 y3) _ rfl Ha.o h6.o (by omega) (by rw[Hb.o];omega) ?_;intro v5 w5 hown5 hb5 _ _;have hT:=hd hown5;have Hd:=hd hb5;clear hown5 hb5);go_roundw
   case rel=>exact⟨k+1,n2,acc++[(n1,Value.slice x1 x2 x3,Value.slice y1 y2 y3)],by omega,by go_num,rfl,hT,fun e=>by simp at e,by rw[List.length_append];simp;omega,hC,hO,by show _=_;rw[hD.o,List.map_append,List.append_assoc];rfl,hb.o.trans ((h4.o.mono (by rw[hs.o];omega)).trans ((h5.o.mono (by rw[hs.o];omega)).trans (by rw[hs.o];exact Hd.o)))⟩
   case measure=>simp[intOf];omega
  ·have hQ:k=l.length:=by omega
   have hD:Hid (Sq.numbL (Sq.numN n) (l.map Prod.fst) (k0+1)=(acc.map Prod.fst,x)):=by
    show _=_;rw[hq.o,hQ,List.drop_eq_nil_of_le (by simp)];simp[Sq.numbL]
   have i1:¬((k:Int)<(l.length:Int)):=by omega
   obtain⟨b0,b1,b2,b3,b4,b5,b6⟩:=jQw hi.o;obtain⟨f0,f1,f2,f3,f4,f5,f6⟩:=jQk hi.o;obtain⟨g0,g1,g2,g3,g4,g5,g6⟩:=jQk ho.o;obtain⟨wa,hB⟩:∃wa,wa=(wo.setCell ⟨w.heap.size,2,none⟩ (.slice yo acc.length ycap)).setCell ⟨w.heap.size,6,none⟩ (.int .i64 k0):=⟨_,rfl⟩;have hN:∀g,g≠w.heap.size->wa.heap[g]?=wo.heap[g]?:=fun g hg=>by rw[hB,jQg hg,jQg hg]
   obtain⟨wz,hA⟩:∃wz,wz=set7 wa (w.heap.size+1) (.bool h.inner) (.slice eo es.length ecap) (.slice yo acc.length ycap) (.int .i64 h.least) (.int .i64 h.rows) (.string h.sl) (.int .i64 k0):=⟨_,rfl⟩;have hF:∀g,g≠w.heap.size->g≠w.heap.size+1->wz.heap[g]?=wo.heap[g]?:=fun g h1 h2=>by rw[hA,jQl _ _ _ _ _ _ _ _ _ h2];exact hN g h1
   have NA:Hid (NodesAt Z 0 wz (.slice yo acc.length ycap) n acc):=by
    refine⟨?_,fun y hy=>?_⟩
    ·refine jQj (jQq hac.o.own fun q hq=>?_) (zR)
     have:=(World.ownsRow.lt hac.o.own q hq).1
     exact hF q (by omega) (by omega)
    ·refine((hac.o.at.each y hy).move (fun q c e fr hq he=>?_)).less hM.o;refine hF q ?_ ?_
     ·rintro rfl;rcases he with rfl | ⟨_,he⟩
      ·rw[ho.o] at hq;simp at hq
      ·exact he hR.o
     ·rintro rfl;rcases he with rfl | ⟨_,he⟩
      ·rw[hi.o] at hq;simp at hq
      ·exact he He.o
   have EA:Hid (EntsAt 0 wz (.slice eo es.length ecap) es):=by
    refine⟨(hK.o.below hb.o).1,?_⟩;rcases(hK.o.below hb.o).2 with h0 | ⟨g,cap,cur,hv,hbg,hh,hn,hm,hc,ht⟩
    ·exact Or.inl h0
    ·refine Or.inr ⟨g,cap,cur,hv,hbg,(hF g ?_ ?_).trans hh,hn,hm,hc,ht⟩
     ·rintro rfl;rw[ho.o] at hh;simp at hh
     ·rintro rfl;rw[hi.o] at hh;simp at hh
   have OV:Hid (offV Z (.slice yo acc.length ycap)):=by
    intro g o p kk c hv hz;have hX:(Value.slice yo acc.length ycap).ownBlock=some g:=by rw[hv];rfl
    exact hL.o g (World.ownsRow.lt hac.o.own g hX).1 (hM.o g hz)
   have BZ:Hid (Below w.heap.size w wz):=by
    show Below _ _ _;rw[hA];refine jQu ?_ (Nat.le_succ _) _ _ _ _ _ _ _;rw[hB];exact Below.setCell (B:=w.heap.size) (Below.setCell (B:=w.heap.size) (HW.o.trans (hb.o.mono (by rw[hs.o];omega))) (nR) _) (nR) _
   have h8:=hd hA;have hU:=hd hB;clear hA hB hN hF hQ hq;go_wp2;refine bodyPost_ret (v:=.tuple #[.agg (headCells { h with num:=k0 } (.slice eo es.length ecap) (.slice yo acc.length ycap)).toArray,.int .i64 x]) (by simp[results,Tryz.results52,go_sem,headCells, *]) rfl ?_;have hA:=h8.o;have hB:=hU.o;subst hB;subst hA;exact⟨_,acc,by rw[hD.o],by rw[hD.o],EA.o,NA.o,OV.o,hnil.o,BZ.o⟩
theorem jQeA:∀(n:Nat) (Z:Nat->Prop) (t:Nd n) (ev cv:Value) (k:Int) (K:Int) (w:World),NodeAt Z w n t ev cv->tameN K n t->(∀g,w.heap.size<=g->¬Z g)->0<=k->k+(manyN n t:Int)<=1000000 ->
  Calls Tryz.prog 52 #[.agg (headCells (headN n t) ev cv).toArray,.int .i64 k] w (NumSays Z n (Sq.numN n t k) w)
 | 0,Z,t,ev,cv,k,K,w,h,hf,hZ,h0,hb=>by
  obtain⟨h1,rfl⟩:=h.leaf
  have hk:(t:NodeF Empty).kids=[]:=by
   cases hq:(t:NodeF Empty).kids with
   | nil=>rfl
   | cons c _=>exact c.elim
  refine(jQez (Z:=Z) 0 (headN 0 t) (Sq.NodeF.ents t) [] ev (.slice none 0 0) k w h1 ⟨World.ownsRow_nil _ _ _ _,fun x hx=>by cases hx⟩ (zR) hZ h0 (by simp;have:manyN 0 t=1:=rfl;omega) (fun x hx=>by cases hx)).mono ?_;rintro e w' ⟨v,l,rfl,hm,he,hn,ho,hnil,hb'⟩
  have hh:l=[]:=by
   have:l.map Prod.fst=[]:=hm
   exact List.map_eq_nil_iff.1 this
  have hv:=hnil hh;subst hv
  have e0:Sq.numN 0 t k=((⟨{ (Sq.NodeF.hd t) with num:=k },Sq.NodeF.ents t,[]⟩:NodeF Empty),k+1):=by
   show Sq.numF _ t k=_;unfold Sq.numF;rw[hk];rfl
  rw[e0];exact⟨ev,_,rfl,⟨he,rfl⟩,hb'⟩
 | n+1,Z,t,ev,cv,k,K,w,h,hf,hZ,h0,hb=>by
  obtain⟨h1,l,h2,h3⟩:=h.inner;have hg:=hf.at1.kids;have ha:=hf.at1.each
  have hc:(manyN (n+1) t:Int)=1+(((l.map Prod.fst).map (manyN n)).sum:Nat):=by
   show((1+((Sq.NodeF.kids t).map (manyN n)).sum:Nat):Int)=_
   rw[h2];omega
  have hi:l.length<=4:=by rw[h2,List.length_map] at hg;exact hg
  refine(jQez (Z:=Z) n (headN (n+1) t) (Sq.NodeF.ents t) l ev cv k w h1 h3 (by omega) hZ h0 (by omega) (fun x hx w' k' Y hY hn' hk0 hkb=>jQeA n Y x.1 x.2.1 x.2.2 k' K w' hn' (ha x.1 (by rw[h2];exact List.mem_map.2 ⟨x,hx,rfl⟩)) hY hk0 hkb)).mono ?_;rintro e w' ⟨v,l',rfl,hm,he,hn,ho,-,hb'⟩
  have e0:Sq.numN (n+1) t k=((⟨{ (Sq.NodeF.hd t) with num:=k },Sq.NodeF.ents t,l'.map Prod.fst⟩:NodeF (Nd n)),(Sq.numbL (Sq.numN n) (l.map Prod.fst) (k+1)).2):=by
   show Sq.numF _ t k=_;unfold Sq.numF;rw[hm,h2]
  rw[e0];exact⟨ev,v,rfl,NodeAt.mk he rfl hn ho,hb'⟩
theorem jQjn (X:NTree)(ev cv:Value)(K:Int)(w:World)(h:NodeAt Z w X.d X.t ev cv)(hf:tameN K X.d X.t)(hZ:∀g,w.heap.size<=g->¬Z g)(hm:manyN X.d X.t<=900000) :
  Calls Tryz.prog 42 #[.agg (headCells X.head ev cv).toArray] w fun e w'=>∃ev' cv',e=.returned (.agg (headCells X.numbered.head ev' cv').toArray)/\NodeAt Z w' X.numbered.d X.numbered.t ev' cv'/\Below w.heap.size w w':=by
 obtain⟨n,t⟩:=X;obtain⟨⟨e1,e2,e3,hev⟩,c1,c2,c3,hcv⟩:=h.slices;subst hev hcv;simp only[Sq.NTree.head,Sq.NTree.numbered] at h hf hm ⊢;have ha:=jQeA n (fun g=>Z g\/g=w.heap.size+1) t (.slice e1 e2 e3) (.slice c1 c2 c3) 1 K;obtain⟨pt,hpe⟩:∃x,x=Sq.numN n t 1:=⟨_,rfl⟩;rw[<-hpe] at ha ⊢;obtain⟨hh,hhe⟩:∃x,x=headN n t:=⟨_,rfl⟩;rw[<-hhe] at ha ⊢;rw[jQc] at ha ⊢;obtain⟨W,hWW,hW,hWs,-,hres⟩:=jQbQ w #[.bool hh.inner,.slice e1 e2 e3,.slice c1 c2 c3,.int .i64 hh.least,.int .i64 hh.rows,.string hh.sl,.int .i64 hh.num]
 have hc:=ha W ((h.more (Nat.le_succ _)).below hW) hf (fun g hg=>by
  rw[hWs] at hg;rintro(hz | hz)
  ·exact hZ g (by omega) hz
  ·omega) (by omega) (by omega)
 have HC:=hd hc;have HW:=hd hW;have hk:=hd hres;have hl:=hd hWs;clear h hf ha hW hWs hres hc hpe hhe hZ;go_enter Tryz.func42,Tryz.ntmps42;go_wp2_with fail;rw[<-show node0=#[.bool false,.slice none 0 0,.slice none 0 0,.int .i64 0,.int .i64 0,.string ⟨#[]⟩,.int .i64 0] from rfl,<-hWW];clear hWW;refine HC.o.mono ?_;rintro e w1 ⟨ev1,cv1,rfl,hn,hb1⟩;obtain⟨⟨x1,x2,x3,rfl⟩,y1,y2,y3,rfl⟩:=hn.slices;have hb:=(hb1.block (w.heap.size+1) (by rw[hl.o];omega)).trans hk.o;obtain⟨r,k2⟩:=pt;simp only at hn ⊢;obtain⟨yh,hyh⟩:∃x,x=headN n r:=⟨_,rfl⟩;rw[<-hyh,jQc];obtain⟨b0,b1,b2,b3,b4,b5,b6⟩:=jQw hb;obtain⟨f0,f1,f2,f3,f4,f5,f6⟩:=jQk hb;have hr:=jQf hb;obtain⟨ws,he⟩:∃ws,ws=set7 w1 (w.heap.size+1) (.bool yh.inner) (.slice x1 x2 x3) (.slice y1 y2 y3) (.int .i64 yh.least) (.int .i64 yh.rows) (.string yh.sl) (.int .i64 yh.num):=⟨_,rfl⟩
 have ho:NodeAt Z ws n r (.slice x1 x2 x3) (.slice y1 y2 y3):=by
  rw[he];exact(NodeAt.skip (b:=w.heap.size+1) hn (Or.inr rfl) hb fun g hg=>jQl _ _ _ _ _ _ _ _ _ hg).less fun g hg=>Or.inl hg
 have hj:Below w.heap.size w ws:=by
  rw[he];exact jQu (HW.o.trans (hb1.mono (by rw[hl.o];omega))) (Nat.le_succ _) _ _ _ _ _ _ _
 have hi:Hid (NodeAt Z (ws.alloc (.cells #[.bool yh.inner,.slice x1 x2 x3,.slice y1 y2 y3,.int .i64 yh.least,.int .i64 yh.rows,.string yh.sl,.int .i64 yh.num] 60)) n r (.slice x1 x2 x3) (.slice y1 y2 y3)/\Below w.heap.size w (ws.alloc (.cells #[.bool yh.inner,.slice x1 x2 x3,.slice y1 y2 y3,.int .i64 yh.least,.int .i64 yh.rows,.string yh.sl,.int .i64 yh.num] 60))):=⟨ho.below ((bR).alloc (nR) _),hj.alloc hj.size _⟩;have hp:=hd he;have hq:=hd hyh;clear hn hb1 hb he ho hj hyh HC;go_wp2;refine bodyPost_ret (v:=.agg (headCells yh (.slice x1 x2 x3) (.slice y1 y2 y3)).toArray) (by simp[results,Tryz.results42,go_sem,headCells, *]) rfl ?_;have he:=hp.o;subst he;exact⟨_,_,by rw[hq.o],hi.o.1,hi.o.2⟩
end
section
open Go.RowKit
variable {Z:Nat->Prop}
def RNodeSays (Z:Nat->Prop)(b n:Nat)(x:Nd n×Rd)(w:World)(e:Ending)(w':World):Prop :=
 ∃ev cv,e=.returned (.agg (headCells (headN n x.1) ev cv).toArray)/\NodeAt Z w' n x.1 ev cv/\RdAt b w' x.2/\Rf b w w'
def RInnerSays (Z:Nat->Prop)(b n:Nat)(x:List (Nd n)×Rd)(w:World)(e:Ending)(w':World):Prop :=
 ∃cv,e=.returned (.agg (headCells (innerF (headN n) x.1).hd (.slice none 0 0) cv).toArray)/\(∃l,l.map Prod.fst=x.1/\NodesAt Z 0 w' cv n l/\offV Z cv)/\RdAt b w' x.2/\Rf b w w'
theorem jQei:∀(n:Nat) (s:ByteArray) (l q:Int),headN n (shutN n s l q)=⟨false,l,q,s,0⟩
 | 0,_,_,_=>rfl
 | _+1,_,_,_=>rfl
theorem jQgl (Z:Nat->Prop)(w:World):∀(n:Nat) (s:ByteArray) (l q:Int),NodeAt Z w n (shutN n s l q) (.slice none 0 0) (.slice none 0 0)
 | 0,_,_,_=>⟨EntsAt.nil w,rfl⟩
 | _+1,_,_,_=>⟨EntsAt.nil w,[],rfl,World.ownsRow_nil _ _ _ _,fun g o p k c hv=>(by cases hv),fun x hx=>(by cases hx)⟩
theorem jQcK {α:Type}(f:α->Sq.Head)(mk:ByteArray->Int->Int->α)(rd:Rd->α×Rd)(k:Nat)(r:Rd):kidsR f mk rd (k+1) r=((Sq.kidFix f mk (numV r 5) (numV (takeN r 5) 1) (rd (takeN (takeN r 5) 1))).1::(kidsR f mk rd k (Sq.kidFix f mk (numV r 5) (numV (takeN r 5) 1) (rd (takeN (takeN r 5) 1))).2).1,(kidsR f mk rd k (Sq.kidFix f mk (numV r 5) (numV (takeN r 5) 1) (rd (takeN (takeN r 5) 1))).2).2):=rfl
theorem NodesOwn.rf {Y:Nat->Prop}{b B n:Nat}{w w':World}{r:Rd}{v:Value}{l:List (Nd n×Value×Value)}(h:NodesOwn Y B w v n l)(hr:RdAt b w r)(hf:Rf b w w'):NodesOwn Y B w' v n l:=⟨jQhF h.own hr (by decide) hf,fun x hx=>(h.each x hx).rf hr hf⟩
theorem Sq.fits.kid {n:Nat}{r:Rd}(wide:Nat)(h:Sq.fits n r)(l q:Int):Sq.fits n (Sq.kidFix (headN n) (shutN n) l q (readN wide n r)).2:=by
 have h1:=h.read (n:=n) wide;unfold Sq.kidFix
 split
 ·exact h1
 ·split
  ·exact h1
  ·exact Or.inr rfl
theorem Sq.jQk8 {n:Nat}(wide:Nat)(r:Rd)(l q:Int):(Sq.kidFix (headN n) (shutN n) l q (readN wide n r)).2.rest.size<=r.rest.size:=by
 have h1:=(Sq.jQai wide n r).1;unfold Sq.kidFix
 split
 ·exact h1
 ·split
  ·exact h1
  ·exact h1
theorem jQhv (n wide b:Nat)(r:Rd)(w:World)(h:RdAt b w r)(hs:r.rest.size<=100000)(hf:Sq.fits n (takeN r 1))(hZ:∀g,w.heap.size<=g->¬Z g)
  (ih:∀(r:Rd) (w':World) (Y:Nat->Prop),(∀g,w'.heap.size<=g->¬Y g)->RdAt b w' r->r.rest.size<=100000->Sq.fits n r->Calls Tryz.prog 60 #[.pointer (some ⟨b,0,none⟩),.int .i64 wide] w' (RNodeSays Y b n (readN wide n r) w')) :
  Calls Tryz.prog 92 #[.pointer (some ⟨b,0,none⟩),.int .i64 wide] w (RInnerSays Z b n (kidsR (headN n) (shutN n) (readN wide n) (numV r 1).toNat (takeN r 1)) w):=by
 have HJ:=Sq.jQc5 r;have hs1:=Nat.le_trans (Sq.jQp r 1) hs;obtain⟨c,hc⟩:=Int.eq_ofNat_of_zero_le HJ.1;have HH:c<=255:=by omega
 have HI:=Sq.jQa9 (f:=headN n) (mk:=shutN n) (Sq.jQcC n) (fun r=>Sq.jQai wide n r) c (takeN r 1);obtain⟨x,hx⟩:∃x,x=kidsR (headN n) (shutN n) (readN wide n) c (takeN r 1):=⟨_,rfl⟩;rw[hc,Int.toNat_natCast,<-hx];rw[<-hx] at HI;obtain⟨hl1,-,-,hl4,-,-⟩:=HI;have H3:Hid (∀c∈x.1,0<=(headN n c).rows/\(headN n c).rows<=1000000000):=fun c hc=>by have:=hl4 c hc;omega
 have HX:=hd hx;have HC:=hd hc;have HF:=hd hf;have IH:=hd ih;have hzb:=jQf h;have H:=hd h;obtain⟨Y,hY⟩:∃Y:Nat->Prop,Y=fun g=>Z g\/g=w.heap.size:=⟨_,rfl⟩
 have HV:Hid (∀g,w.heap.size+1<=g->¬Y g):=by
  intro g hg;rw[hY];rintro(hz | hz)
  ·exact hZ g (by omega) hz
  ·omega
 have HW:Hid (∀g,Z g->Y g):=by intro g hg;rw[hY];exact Or.inl hg
 have HY:Hid (Y w.heap.size):=by show Y _;rw[hY];exact Or.inr rfl
 clear h hx hc HJ hl4 hf ih hZ hY;obtain⟨W,hW⟩:∃W:World,W=w.alloc (.cells node0 60):=⟨_,rfl⟩;have HB:Below w.heap.size w W:=by rw[hW];exact(bR).alloc (nR) _
 have h0:W.heap[w.heap.size]?=some (.cells node0 60):=by rw[hW];exact jQi _ _
 have hzW:=jQf h0;have HT:=hd (H.o.below HB);have HN:=hd HB;have Hd:=hd h0;clear HB h0;go_enter Tryz.func92,Tryz.ntmps92;go_wp2_with fail;rw[<-show node0=#[.bool false,.slice none 0 0,.slice none 0 0,.int .i64 0,.int .i64 0,.string ⟨#[]⟩,.int .i64 0] from rfl,<-hW];clear hW;refine(jQcU b r _ HT.o (by omega)).mono ?_;rintro e w1 ⟨rfl,hr1,ho1⟩;rw[HC.o];have hw:=(ho1.other w.heap.size (by omega)).trans Hd.o;have HA:Hid (Rf b w w1):=(Rf.of_below HN.o).trans (Rf.of_only ho1);have HR1:=hd hr1;have Hc:=hd hw;have hz1:=jQf hw;clear ho1 hr1 hw HT HN Hd H;go_wp2
 go_loopw [5,7] (fun v i wr=>∃(k:Nat) (acc:List (Nd n×Value×Value)) (rr:Rd),k<=c/\i=.int .i64 k/\Hid (NodesOwn Y (w.heap.size+1) wr v n acc)/\Hid (acc.length=k)/\rr.rest.size<=100000/\Hid (Sq.fits n rr)/\Hid (RdAt b wr rr)/\Hid (x=(acc.map Prod.fst++(kidsR (headN n) (shutN n) (readN wide n) (c-k) rr).1,(kidsR (headN n) (shutN n) (readN wide n) (c-k) rr).2))/\Hid (Rf b w wr)/\Hid (wr.heap[w.heap.size]?=some (.cells node0 60))) (fun _ i _=>c-(intOf i).toNat)
 case atStart=>exact⟨0,[],takeN r 1,zR,rfl,NodesOwn.nil _ _ _ _,rfl,hs1,HF,HR1,by show _=_;rw[HX.o];rfl,HA,Hc⟩
 case round =>
  obtain⟨k,acc,rr,hk,rfl,hac,hacl,hrs,hfi,hrd,hq,hrf,hre⟩:=hrel;have hal:acc.length<=255:=by have:=hacl.o;omega
  obtain⟨wo,rfl⟩:∃wo:World,wo=wr:=⟨_,rfl⟩;obtain⟨yo,ycap,rfl⟩:=jQa hac.o.own;have hzo:=jQf hre.o;have hzr:=jQf hrd.o
  by_cases hkt:k<c
  ·have i1:(k:Int)<(c:Int):=by omega
   obtain⟨m,hm⟩:∃m,c-k=m+1:=⟨c-k-1,by omega⟩;have h4:=hq.o;rw[hm,jQcK] at h4;simp only at h4;have HR:c-(k+1)=m:=by omega
   have H5:=Nat.le_trans (Sq.jQp rr 5) hrs;have hs3:=Nat.le_trans (Sq.jQp (takeN rr 5) 1) H5;have H7:0<=numV rr 5/\numV rr 5<1099511627776:=Sq.jQm0 rr 5 (by decide);have H9:=Sq.jQm1 (takeN rr 5);have hN:=(hfi.o.take 5).take 1;have hn:=hN.kid wide (numV rr 5) (numV (takeN rr 5) 1);have hC:=Nat.le_trans (Sq.jQk8 (n:=n) wide (takeN (takeN rr 5) 1) (numV rr 5) (numV (takeN rr 5) 1)) hs3;have Hz:∀c,Sq.kidFix (headN n) (shutN n) (numV rr 5) (numV (takeN rr 5) 1) c=if Sq.isShut (headN n c.1) then(shutN n (headN n c.1).sl (numV rr 5) (numV (takeN rr 5) 1),c.2) else if(headN n c.1).least=numV rr 5/\(headN n c.1).rows=numV (takeN rr 5) 1 then c else(c.1,Sq.failR c.2):=fun c=>rfl
   have hA:=IH.o (takeN (takeN rr 5) 1);obtain⟨ls,hls⟩:∃x,x=numV rr 5:=⟨_,rfl⟩;obtain⟨rs,hrs9⟩:∃x,x=numV (takeN rr 5) 1:=⟨_,rfl⟩;have HK:=Sq.jQai wide n (takeN (takeN rr 5) 1);obtain⟨cx,hcx⟩:∃x,x=readN wide n (takeN (takeN rr 5) 1):=⟨_,rfl⟩;rw[<-hls] at H7;rw[<-hrs9] at H9;rw[<-hls,<-hrs9,<-hcx] at h4 hn hC;rw[<-hls,<-hrs9] at Hz;rw[<-hcx] at hA;rw[<-hcx] at HK;obtain⟨-,-,hrw0,hrw1⟩:=HK;have h3:=Hz cx;obtain⟨kf,hkfe⟩:∃x,x=Sq.kidFix (headN n) (shutN n) ls rs cx:=⟨_,rfl⟩;rw[<-hkfe] at h4 hn hC h3;have H0:=hd hls;have H2:=hd hrs9;have hS:=hd h4;have Ho:=hd HR;have HQ:=hd h3;have Hm:=hd hn;have hJ:=hd hA;have HG:=hd hN;have Hb:(headN n cx.1).rows<=1000000000:=by omega
   clear hq h4 hm HR hls hrs9 Hz h3 hkfe hn hA hN hcx hrw1;go_wp2_with fail;refine(jQil b rr _ hrd.o (by omega)).mono ?_;rintro e w2 ⟨rfl,hr2,ho2⟩;rw[<-H0.o];have Hu:=hd hr2;have h6:=hd (hac.o.rf hrd.o (Rf.of_only ho2));have hl:=hd (hrf.o.trans (Rf.of_only ho2));have hH:=hd ((ho2.other w.heap.size (by omega)).trans hre.o);clear hr2 ho2 hac hrd hrf hre;go_wp2_with fail;refine(jQcU b _ _ Hu.o (by omega)).mono ?_;rintro e w3 ⟨rfl,hr3,ho3⟩;rw[<-H2.o];have HE:=hd hr3;have Hl:=h6.o.rf Hu.o (Rf.of_only ho3);have hQ:=hd Hl;have Hf:=hd (hl.o.trans (Rf.of_only ho3));have hX:=(ho3.other w.heap.size (by omega)).trans hH.o;have Hi:=hd hX;have hz3:=jQf hX;clear hr3 ho3 Hl hX Hu h6 hl hH;go_wp2_with fail
   refine(hJ.o w3 (fun g=>Y g\/(Value.slice yo acc.length ycap).ownBlock=some g) (fun g hg=>by
    rintro(h9 | h9)
    ·exact HV.o g (by omega) h9
    ·have:=(World.ownsRow.lt hQ.o.own g h9).2
     omega) HE.o (by omega) HG.o).mono ?_
   rintro e w4 ⟨ev4,cv4,rfl,hn4,hr4,hf4⟩;obtain⟨⟨x1,x2,x3,hev⟩,y1,y2,y3,hcv⟩:=hn4.slices;subst hev hcv;obtain⟨yh,hyh⟩:∃x,x=headN n cx.1:=⟨_,rfl⟩;rw[<-hyh,jQc];have He:=hQ.o.rf HE.o hf4;have h2:=(hf4.block w.heap.size hz3 (by omega)).trans Hi.o;obtain⟨V,hV⟩:∃V:World,V=w4.alloc (.cells #[.bool yh.inner,.slice x1 x2 x3,.slice y1 y2 y3,.int .i64 yh.least,.int .i64 yh.rows,.string yh.sl,.int .i64 yh.num] 60):=⟨_,rfl⟩;have HL:Below w4.heap.size w4 V:=by rw[hV];exact(bR).alloc (nR) _
   have Hq:V.heap[w4.heap.size]?=some (.cells #[.bool yh.inner,.slice x1 x2 x3,.slice y1 y2 y3,.int .i64 yh.least,.int .i64 yh.rows,.string yh.sl,.int .i64 yh.num] 60):=by rw[hV];exact jQi _ _
   have HO:=jQf h2;have H1:=hf4.size;have h7:=hd He;have Hv:=hd hn4;have hE:=hd hr4;have h8:=hd (Hf.o.trans hf4);have Ha:=hd h2;have HP:=hd Hq;have HM:=hd HL;have H8:=jQf Hq;have H6:=jQf hr4;obtain⟨m0,m1,m2,m3,m4,m5,m6⟩:=SevenAt.blk (h:=yh) Hq;simp only[Nat.zero_add] at m1 m2 m3 m4 m5 m6;have hyr:yh.rows<=1000000000:=by rw[hyh];exact Hb
   have hyr0:0<=yh.rows:=by rw[hyh];exact hrw0
   have h3:=HQ.o;rw[<-hyh] at h3;have hP:=hd h3;have HYH:=hd hyh;clear hn4 hr4 hf4 He h2 HL Hq hyh h3 hQ HE Hf Hi hJ HQ Hb hrw0;go_wp2_with fail;rw[<-hV];clear hV;refine(jQbf yh _ _ _ ⟨_,_,_,rfl⟩ ⟨_,_,_,rfl⟩).mono ?_;rintro e w5 ⟨rfl,hb5⟩;have ht:Hid (Below w4.heap.size w4 w5):=HM.o.trans (hb5.mono (by omega));have hI:=(hb5.block _ H8).trans HP.o;have hT:=hd hI;have Hw:=jQf hI;have HD:=ht.o.size;clear m0 m1 m2 m3 m4 m5 m6;obtain⟨m0,m1,m2,m3,m4,m5,m6⟩:=SevenAt.blk (h:=yh) hI;simp only[Nat.zero_add] at m1 m2 m3 m4 m5 m6;clear hb5 hI HM HP
   -- how a round ends: a node is put behind
   have Hj:∀(V9:World) (kid:Nd n) (kr:Rd) (ev cv:Value),kf=(kid,kr)->Below w4.heap.size w4 V9\/(∃V8,Below w4.heap.size w4 V8/\Rf b V8 V9/\RdAt b V8 cx.2)->RdAt b V9 kr->NodeAt (fun g=>Y g\/(Value.slice yo acc.length ycap).ownBlock=some g) V9 n kid ev cv ->
     NodesOwn Y (w.heap.size+1) V9 (.slice yo acc.length ycap) n acc/\Rf b w V9/\V9.heap[w.heap.size]?=some (.cells node0 60):=by
    intro V9 kid kr ev cv _ hb9 _ _;rcases hb9 with hb9 | ⟨V8,hb8,hf9,hr8⟩
    ·exact⟨h7.o.below hb9,h8.o.trans (Rf.of_below hb9),(hb9.block _ HO).trans Ha.o⟩
    ·exact⟨(h7.o.below hb8).rf hr8 hf9,(h8.o.trans (Rf.of_below hb8)).trans hf9,(hf9.block _ (by have:=hb8.size;omega) (by omega)).trans ((hb8.block _ HO).trans Ha.o)⟩
   have hG:=hd Hj;clear Hj;cases hsh:Sq.isShut yh
   case true =>
    have hD:Hid (kf=(shutN n yh.sl ls rs,cx.2)):=by show _=_;rw[hP.o,hsh];rfl
    go_wp2_with fail;refine(jQor yh.sl ls rs _).mono ?_;rintro e w6 ⟨rfl,hb6⟩;rw[jQc];have he:=(hb6.block _ Hw).trans hT.o;obtain⟨f0,f1,f2,f3,f4,f5,f6⟩:=jQk he;obtain⟨p0,p1,p2,p3,p4,p5,p6⟩:=SevenAt.blk (h:=yh) he;simp only[Nat.zero_add] at p1 p2 p3 p4 p5 p6;have h5:=jQf he;have Hh:Below w4.heap.size w4 w6:=ht.o.trans (hb6.mono (by omega));obtain⟨A6,hA6⟩:∃A6,A6=set7 w6 w4.heap.size (.bool false) (.slice none 0 0) (.slice none 0 0) (.int .i64 ls) (.int .i64 rs) (.string yh.sl) (.int .i64 0):=⟨_,rfl⟩;have hR:Below w4.heap.size w4 A6:=by rw[hA6];exact jQu Hh (nR) _ _ _ _ _ _ _
    have Hg:A6.heap.size=w6.heap.size:=by rw[hA6];simp[set7]
    obtain⟨VV,hVV⟩:∃VV,VV=A6.alloc (.cells #[.bool false,.slice none 0 0,.slice none 0 0,.int .i64 ls,.int .i64 rs,.string yh.sl,.int .i64 0] 60):=⟨_,rfl⟩;have hh:Below w4.heap.size w4 VV:=by rw[hVV];exact hR.alloc hR.size _
    have hr:Hid (Reads VV (.slice (some ⟨w6.heap.size,0,none⟩) 1 1) 1 7 ([(shutN n yh.sl ls rs,Value.slice none 0 0,Value.slice none 0 0)].flatMap (nodeCells n))):=by
     have:=jQaA A6 60 #[.bool false,.slice none 0 0,.slice none 0 0,.int .i64 ls,.int .i64 rs,.string yh.sl,.int .i64 0] ([(shutN n yh.sl ls rs,Value.slice none 0 0,Value.slice none 0 0)].flatMap (nodeCells n)) 1 7 (by simp[nodeCells,headCells,jQei]) rfl
     rw[Hg] at this;rw[hVV];exact this
    have hU:Hid (VV=(set7 w6 w4.heap.size (.bool false) (.slice none 0 0) (.slice none 0 0) (.int .i64 ls) (.int .i64 rs) (.string yh.sl) (.int .i64 0)).alloc (.cells #[.bool false,.slice none 0 0,.slice none 0 0,.int .i64 ls,.int .i64 rs,.string yh.sl,.int .i64 0] 60)):=by show _=_;rw[hVV,hA6]
    have hi:=hG.o VV (shutN n yh.sl ls rs) cx.2 (.slice none 0 0) (.slice none 0 0) hD.o (Or.inl hh) (hE.o.below hh) (jQgl _ _ _ _ _ _);have ha:=hd hi;have hF:=hd (hE.o.below hh);have hM:=hh.size;clear hb6 he Hh hA6 hR Hg hVV hh hi;go_wp2_with (at_builtin;have Hy:=hU.o;unfold set7 at Hy;rw[<-Hy];clear Hy;refine jQH rfl (.tmp 44) (.tmp 46) rfl Y (w.heap.size+1) _ n acc rfl ha.o.1 (shutN n yh.sl ls rs,Value.slice none 0 0,Value.slice none 0 0) _ rfl hr.o (jQgl _ _ _ _ _ _) (by omega) (by omega) ?_;intro v9 w9 hown9 hb9 _ _;have hL:=hd hown9;have hb:=hd hb9;clear hown9 hb9);have h1:RdAt b w9 cx.2:=(hb.o.block b (by omega)).trans hF.o;have hp:w9.heap[w.heap.size]?=some (.cells node0 60):=(hb.o.block _ (by omega)).trans ha.o.2.2;have ho:Rf b w w9:=⟨hb.o.os.trans ha.o.2.1.os,hb.o.tape.trans ha.o.2.1.tape,hb.o.output.trans ha.o.2.1.output,Nat.le_trans ha.o.2.1.size hb.o.size,fun g hg hgb=>(hb.o.block g (by omega)).trans (ha.o.2.1.block g hg hgb)⟩;have hn:=Hm.o;have hB:=hS.o;rw[hD.o] at hn hB hC;go_roundw
    case rel=>exact⟨k+1,acc++[(shutN n yh.sl ls rs,Value.slice none 0 0,Value.slice none 0 0)],cx.2,by omega,by go_num,hL,by show _=_;rw[List.length_append,hacl.o];rfl,hC,hn,h1,by show _=_;rw[hB,Ho.o];simp,ho,hp⟩
    case measure=>simp[intOf];omega
   case false =>
    obtain⟨VV,hVV⟩:∃VV,VV=w5.alloc (.cells #[.bool yh.inner,.slice x1 x2 x3,.slice y1 y2 y3,.int .i64 yh.least,.int .i64 yh.rows,.string yh.sl,.int .i64 yh.num] 60):=⟨_,rfl⟩;have Hk:nodeCells n (cx.1,Value.slice x1 x2 x3,Value.slice y1 y2 y3)=headCells yh (.slice x1 x2 x3) (.slice y1 y2 y3):=by rw[HYH.o];rfl
    by_cases heq:yh.least=ls/\yh.rows=rs
    ·have hD:Hid (kf=(cx.1,cx.2)):=by show _=_;rw[hP.o,hsh,if_neg (by decide),if_pos heq]
     obtain⟨hq5,Hr⟩:=heq;have hh:Below w4.heap.size w4 VV:=by rw[hVV];exact ht.o.alloc HD _
     have hr:Hid (Reads VV (.slice (some ⟨w5.heap.size,0,none⟩) 1 1) 1 7 ([(cx.1,Value.slice x1 x2 x3,Value.slice y1 y2 y3)].flatMap (nodeCells n))):=by
      have:=jQaA w5 60 #[.bool yh.inner,.slice x1 x2 x3,.slice y1 y2 y3,.int .i64 yh.least,.int .i64 yh.rows,.string yh.sl,.int .i64 yh.num] ([(cx.1,Value.slice x1 x2 x3,Value.slice y1 y2 y3)].flatMap (nodeCells n)) 1 7 (by rw[List.flatMap_cons,List.flatMap_nil,List.append_nil,Hk];rfl) (by rw[List.flatMap_cons,List.flatMap_nil,List.append_nil,Hk];rfl)
      rw[hVV];exact this
     have hK:=hd (Hv.o.below hh);have hi:=hG.o VV cx.1 cx.2 _ _ hD.o (Or.inl hh) (hE.o.below hh) hK.o;have ha:=hd hi;have hF:=hd (hE.o.below hh);have hU:=hd hVV;have hM:=hh.size;have j1:(yh.least==ls)=true:=by simpa using hq5
     have j2:(yh.rows==rs)=true:=by simpa using Hr
     have HQ5:=hd hq5;have HQ6:=hd Hr;clear hh hi hVV Hk;subst hq5 Hr;go_wp2_with (at_builtin;rw[<-hU.o];refine jQH rfl (.tmp 44) (.tmp 46) rfl Y (w.heap.size+1) _ n acc rfl ha.o.1 (cx.1,Value.slice x1 x2 x3,Value.slice y1 y2 y3) _ rfl hr.o hK.o (by omega) (by omega) ?_;intro v9 w9 hown9 hb9 _ _;have hL:=hd hown9;have hb:=hd hb9;clear hown9 hb9);have h1:RdAt b w9 cx.2:=(hb.o.block b (by omega)).trans hF.o;have hp:w9.heap[w.heap.size]?=some (.cells node0 60):=(hb.o.block _ (by omega)).trans ha.o.2.2;have ho:Rf b w w9:=⟨hb.o.os.trans ha.o.2.1.os,hb.o.tape.trans ha.o.2.1.tape,hb.o.output.trans ha.o.2.1.output,Nat.le_trans ha.o.2.1.size hb.o.size,fun g hg hgb=>(hb.o.block g (by omega)).trans (ha.o.2.1.block g hg hgb)⟩;have hn:=Hm.o;have hB:=hS.o;rw[hD.o] at hn hB hC;go_roundw
     case rel=>exact⟨k+1,acc++[(cx.1,Value.slice x1 x2 x3,Value.slice y1 y2 y3)],cx.2,by omega,by go_num,hL,by show _=_;rw[List.length_append,hacl.o];rfl,hC,hn,h1,by show _=_;rw[hB,Ho.o];simp,ho,hp⟩
     case measure=>simp[intOf];omega
    ·have hD:Hid (kf=(cx.1,Sq.failR cx.2)):=by show _=_;rw[hP.o,hsh,if_neg (by decide),if_neg heq]
     have Hn:=hd Hk;clear hVV Hk;clear VV
     by_cases hq5:yh.least=ls
     ·have Hr:¬(yh.rows=rs):=fun e=>heq ⟨hq5,e⟩
      clear heq;subst hq5;go_wp2_with fail;refine(jQjo b cx.2 _ (hE.o.below ht.o)).mono ?_;rintro e w6 ⟨rfl,hr6,ho6⟩;have he:=(ho6.other w4.heap.size (by omega)).trans hT.o;clear m0 m1 m2 m3 m4 m5 m6;obtain⟨m0,m1,m2,m3,m4,m5,m6⟩:=SevenAt.blk (h:=yh) he;simp only[Nat.zero_add] at m1 m2 m3 m4 m5 m6;have h5:=jQf he;obtain⟨VV,hVV⟩:∃VV,VV=w6.alloc (.cells #[.bool yh.inner,.slice x1 x2 x3,.slice y1 y2 y3,.int .i64 yh.least,.int .i64 yh.rows,.string yh.sl,.int .i64 yh.num] 60):=⟨_,rfl⟩;have hO:Below w6.heap.size w6 VV:=by rw[hVV];exact(bR).alloc (nR) _
      have hj:Rf b w5 VV:=(Rf.of_only ho6).trans (Rf.of_below hO)
      have hr:Hid (Reads VV (.slice (some ⟨w6.heap.size,0,none⟩) 1 1) 1 7 ([(cx.1,Value.slice x1 x2 x3,Value.slice y1 y2 y3)].flatMap (nodeCells n))):=by
       have:=jQaA w6 60 #[.bool yh.inner,.slice x1 x2 x3,.slice y1 y2 y3,.int .i64 yh.least,.int .i64 yh.rows,.string yh.sl,.int .i64 yh.num] ([(cx.1,Value.slice x1 x2 x3,Value.slice y1 y2 y3)].flatMap (nodeCells n)) 1 7 (by rw[List.flatMap_cons,List.flatMap_nil,List.append_nil,Hn.o];rfl) (by rw[List.flatMap_cons,List.flatMap_nil,List.append_nil,Hn.o];rfl)
       rw[hVV];exact this
      have hK:=hd ((Hv.o.below ht.o).rf (hE.o.below ht.o) hj);have hF:Hid (RdAt b VV (Sq.failR cx.2)):=hr6.below hO;have hi:=hG.o VV cx.1 (Sq.failR cx.2) _ _ hD.o (Or.inr ⟨w5,ht.o,hj,hE.o.below ht.o⟩) hF.o hK.o;have ha:=hd hi;have hU:=hd hVV;have hM:=Nat.le_trans HD hj.size;clear hO hi hVV hj hr6 ho6 he;go_wp2_with (at_builtin;rw[<-hU.o];refine jQH rfl (.tmp 44) (.tmp 46) rfl Y (w.heap.size+1) _ n acc rfl ha.o.1 (cx.1,Value.slice x1 x2 x3,Value.slice y1 y2 y3) _ rfl hr.o hK.o (by omega) (by omega) ?_;intro v9 w9 hown9 hb9 _ _;have hL:=hd hown9;have hb:=hd hb9;clear hown9 hb9);have h1:RdAt b w9 (Sq.failR cx.2):=(hb.o.block b (by omega)).trans hF.o;have hp:w9.heap[w.heap.size]?=some (.cells node0 60):=(hb.o.block _ (by omega)).trans ha.o.2.2;have ho:Rf b w w9:=⟨hb.o.os.trans ha.o.2.1.os,hb.o.tape.trans ha.o.2.1.tape,hb.o.output.trans ha.o.2.1.output,Nat.le_trans ha.o.2.1.size hb.o.size,fun g hg hgb=>(hb.o.block g (by omega)).trans (ha.o.2.1.block g hg hgb)⟩;have hn:=Hm.o;have hB:=hS.o;rw[hD.o] at hn hB hC;go_roundw
      case rel=>exact⟨k+1,acc++[(cx.1,Value.slice x1 x2 x3,Value.slice y1 y2 y3)],Sq.failR cx.2,by omega,by go_num,hL,by show _=_;rw[List.length_append,hacl.o];rfl,hC,hn,h1,by show _=_;rw[hB,Ho.o];simp,ho,hp⟩
      case measure=>simp[intOf];omega
     ·clear heq;go_wp2_with fail;refine(jQjo b cx.2 _ (hE.o.below ht.o)).mono ?_;rintro e w6 ⟨rfl,hr6,ho6⟩;have he:=(ho6.other w4.heap.size (by omega)).trans hT.o;clear m0 m1 m2 m3 m4 m5 m6;obtain⟨m0,m1,m2,m3,m4,m5,m6⟩:=SevenAt.blk (h:=yh) he;simp only[Nat.zero_add] at m1 m2 m3 m4 m5 m6;have h5:=jQf he;obtain⟨VV,hVV⟩:∃VV,VV=w6.alloc (.cells #[.bool yh.inner,.slice x1 x2 x3,.slice y1 y2 y3,.int .i64 yh.least,.int .i64 yh.rows,.string yh.sl,.int .i64 yh.num] 60):=⟨_,rfl⟩;have hO:Below w6.heap.size w6 VV:=by rw[hVV];exact(bR).alloc (nR) _
      have hj:Rf b w5 VV:=(Rf.of_only ho6).trans (Rf.of_below hO)
      have hr:Hid (Reads VV (.slice (some ⟨w6.heap.size,0,none⟩) 1 1) 1 7 ([(cx.1,Value.slice x1 x2 x3,Value.slice y1 y2 y3)].flatMap (nodeCells n))):=by
       have:=jQaA w6 60 #[.bool yh.inner,.slice x1 x2 x3,.slice y1 y2 y3,.int .i64 yh.least,.int .i64 yh.rows,.string yh.sl,.int .i64 yh.num] ([(cx.1,Value.slice x1 x2 x3,Value.slice y1 y2 y3)].flatMap (nodeCells n)) 1 7 (by rw[List.flatMap_cons,List.flatMap_nil,List.append_nil,Hn.o];rfl) (by rw[List.flatMap_cons,List.flatMap_nil,List.append_nil,Hn.o];rfl)
       rw[hVV];exact this
      have hK:=hd ((Hv.o.below ht.o).rf (hE.o.below ht.o) hj);have hF:Hid (RdAt b VV (Sq.failR cx.2)):=hr6.below hO;have hi:=hG.o VV cx.1 (Sq.failR cx.2) _ _ hD.o (Or.inr ⟨w5,ht.o,hj,hE.o.below ht.o⟩) hF.o hK.o;have ha:=hd hi;have hU:=hd hVV;have hM:=Nat.le_trans HD hj.size;clear hO hi hVV hj hr6 ho6 he;go_wp2_with (at_builtin;rw[<-hU.o];refine jQH rfl (.tmp 44) (.tmp 46) rfl Y (w.heap.size+1) _ n acc rfl ha.o.1 (cx.1,Value.slice x1 x2 x3,Value.slice y1 y2 y3) _ rfl hr.o hK.o (by omega) (by omega) ?_;intro v9 w9 hown9 hb9 _ _;have hL:=hd hown9;have hb:=hd hb9;clear hown9 hb9);have h1:RdAt b w9 (Sq.failR cx.2):=(hb.o.block b (by omega)).trans hF.o;have hp:w9.heap[w.heap.size]?=some (.cells node0 60):=(hb.o.block _ (by omega)).trans ha.o.2.2;have ho:Rf b w w9:=⟨hb.o.os.trans ha.o.2.1.os,hb.o.tape.trans ha.o.2.1.tape,hb.o.output.trans ha.o.2.1.output,Nat.le_trans ha.o.2.1.size hb.o.size,fun g hg hgb=>(hb.o.block g (by omega)).trans (ha.o.2.1.block g hg hgb)⟩;have hn:=Hm.o;have hB:=hS.o;rw[hD.o] at hn hB hC;go_roundw
      case rel=>exact⟨k+1,acc++[(cx.1,Value.slice x1 x2 x3,Value.slice y1 y2 y3)],Sq.failR cx.2,by omega,by go_num,hL,by show _=_;rw[List.length_append,hacl.o];rfl,hC,hn,h1,by show _=_;rw[hB,Ho.o];simp,ho,hp⟩
      case measure=>simp[intOf];omega
  ·have HU:k=c:=by omega
   have i1:¬((k:Int)<(c:Int)):=by omega
   have hS:Hid (x=(acc.map Prod.fst,rr)):=by show _=_;rw[hq.o,HU,Nat.sub_self];simp[kidsR]
   have Ht:acc.length<=1000:=by omega
   have HZ:smallRows n acc:=fun y hy=>H3.o y.1 (by rw[hS.o];exact List.mem_map_of_mem hy)
   clear hq HU;go_wp2_with fail;refine(jQca (Z:=Y) n acc _ _ hac.o.at.rd Ht HZ).mono ?_;rintro e w2 ⟨cv2,rfl,hcv2,hb2⟩;obtain⟨xo,xcap,rfl⟩:=jQa hcv2.own;obtain⟨lh,hlh⟩:∃y,y=(innerF (headN n) (acc.map Prod.fst)).hd:=⟨_,rfl⟩;rw[<-hlh,jQc];have hu:=(hb2.block w.heap.size hzo).trans hre.o;obtain⟨b0,b1,b2,b3,b4,b5,b6⟩:=jQw hu;obtain⟨f0,f1,f2,f3,f4,f5,f6⟩:=jQk hu;have hz2:=jQf hu;have hH:=hd hu;have Hx:=hd (hrd.o.below hb2);have hl:=hd (hrf.o.trans (Rf.of_below hb2));have Hp:=hd hcv2;have HLH:=hd hlh;clear hcv2 hb2 hu hrd hrf hre hac hlh;go_wp2;refine bodyPost_ret (v:=.agg #[.bool lh.inner,.slice none 0 0,.slice xo acc.length xcap,.int .i64 lh.least,.int .i64 lh.rows,.string lh.sl,.int .i64 lh.num]) (by simp[results,Tryz.results92,go_sem, *]) rfl ?_;rw[hS.o];refine⟨.slice xo acc.length xcap,by rw[<-HLH.o,jQc],⟨acc,rfl,⟨?_,fun y hy=>?_⟩,?_⟩,?_,?_⟩
   ·refine jQj (jQq Hp.o.own fun q hq=>jQl _ _ _ _ _ _ _ _ _ ?_) (zR)
    have:=(World.ownsRow.lt Hp.o.own q hq).1
    omega
   ·exact((Hp.o.each y hy).skip HY.o hH.o (fun g hg=>jQl _ _ _ _ _ _ _ _ _ hg)).less HW.o
   ·intro g o p kk c hv hz;have H4:(Value.slice xo acc.length xcap).ownBlock=some g:=by rw[hv];rfl
    exact HV.o g (by have:=(World.ownsRow.lt Hp.o.own g H4).1;omega) (HW.o g hz)
   ·exact(jQl _ _ _ _ _ _ _ _ _ (by omega)).trans Hx.o
   ·have Hs:=jQu (b:=w.heap.size) (Below.refl 0 w2) (zR) (.bool lh.inner) (.slice none 0 0) (.slice xo acc.length xcap) (.int .i64 lh.least) (.int .i64 lh.rows) (.string lh.sl) (.int .i64 lh.num);exact⟨Hs.os.trans hl.o.os,Hs.tape.trans hl.o.tape,Hs.output.trans hl.o.output,Nat.le_trans hl.o.size Hs.size,fun g hg hgb=>(jQl _ _ _ _ _ _ _ _ _ (by omega)).trans (hl.o.block g hg hgb)⟩
end
section
open Go.RowKit
variable {Z:Nat->Prop}
theorem jQpP {Z Y:Nat->Prop}{b n:Nat}{w w3:World}{x:Nd n×Rd}{e1 c1:Option Addr}{e2 e3 c2 c3:Nat}(hYZ:∀g,Z g->Y g)(hY0:Y w.heap.size)(hb:b<w.heap.size)(hre:w3.heap[w.heap.size]?=some (.cells node0 60))(hn:NodeAt Y w3 n x.1 (.slice e1 e2 e3) (.slice c1 c2 c3))(hr:RdAt b w3 x.2)(hf:Rf b w w3) :
  RNodeSays Z b n x w (.returned (.agg #[.bool (headN n x.1).inner,.slice e1 e2 e3,.slice c1 c2 c3,.int .i64 (headN n x.1).least,.int .i64 (headN n x.1).rows,.string (headN n x.1).sl,.int .i64 (headN n x.1).num])) (set7 w3 w.heap.size (.bool (headN n x.1).inner) (.slice e1 e2 e3) (.slice c1 c2 c3) (.int .i64 (headN n x.1).least) (.int .i64 (headN n x.1).rows) (.string (headN n x.1).sl) (.int .i64 (headN n x.1).num)):=by
 refine⟨.slice e1 e2 e3,.slice c1 c2 c3,by rw[jQc],(hn.skip hY0 hre (fun g hg=>jQl _ _ _ _ _ _ _ _ _ hg)).less hYZ,(jQl _ _ _ _ _ _ _ _ _ (by omega)).trans hr,?_⟩;have ha:=jQu (b:=w.heap.size) (Below.refl 0 w3) (zR) (.bool (headN n x.1).inner) (.slice e1 e2 e3) (.slice c1 c2 c3) (.int .i64 (headN n x.1).least) (.int .i64 (headN n x.1).rows) (.string (headN n x.1).sl) (.int .i64 (headN n x.1).num);exact⟨ha.os.trans hf.os,ha.tape.trans hf.tape,ha.output.trans hf.output,Nat.le_trans hf.size ha.size,fun g hg hgb=>(jQl _ _ _ _ _ _ _ _ _ (by omega)).trans (hf.block g hg hgb)⟩
theorem jQel (n wide b:Nat)(hw:wide<=32)(r:Rd)(x:Nd n×Rd)(w:World)(h:RdAt b w r)(hs:r.rest.size<=100000)(hZ:∀g,w.heap.size<=g->¬Z g)
  (h0:numV r 1=0->x=(shutN n (Sq.takeV (takeN r 1) wide) 0 0,takeN (takeN r 1) wide))
  (h1:numV r 1=1->∀(w':World) (Y:Nat->Prop),(∀g,w'.heap.size<=g->¬Y g)->RdAt b w' (takeN r 1)->Calls Tryz.prog 91 #[.pointer (some ⟨b,0,none⟩)] w' (RNodeSays Y b n x w'))
  (h2:numV r 1=2->∀(w':World) (Y:Nat->Prop),(∀g,w'.heap.size<=g->¬Y g)->RdAt b w' (takeN r 1)->Calls Tryz.prog 92 #[.pointer (some ⟨b,0,none⟩),.int .i64 wide] w' (RNodeSays Y b n x w'))
  (h3:numV r 1≠0->numV r 1≠1->numV r 1≠2->x=(shutN n Sq.nobytes 0 0,Sq.failR (takeN r 1))) :
  Calls Tryz.prog 60 #[.pointer (some ⟨b,0,none⟩),.int .i64 wide] w (RNodeSays Z b n x w):=by
 have hH:=Nat.le_trans (Sq.jQp r 1) hs;have hD:=jQf h;obtain⟨Y,hY⟩:∃Y:Nat->Prop,Y=fun g=>Z g\/g=w.heap.size:=⟨_,rfl⟩
 have hv:Hid (∀g,w.heap.size+1<=g->¬Y g):=by
  intro g hg;rw[hY];rintro(hz | hz)
  ·exact hZ g (by omega) hz
  ·omega
 have hE:Hid (∀g,Z g->Y g):=by intro g hg;rw[hY];exact Or.inl hg
 have hC:Hid (Y w.heap.size):=by show Y _;rw[hY];exact Or.inr rfl
 have hj:Hid (∀(w3:World) (e1 c1:Option Addr) (e2 e3 c2 c3:Nat),w3.heap[w.heap.size]?=some (.cells node0 60)->NodeAt Y w3 n x.1 (.slice e1 e2 e3) (.slice c1 c2 c3)->RdAt b w3 x.2->Rf b w w3->RNodeSays Z b n x w (.returned (.agg #[.bool (headN n x.1).inner,.slice e1 e2 e3,.slice c1 c2 c3,.int .i64 (headN n x.1).least,.int .i64 (headN n x.1).rows,.string (headN n x.1).sl,.int .i64 (headN n x.1).num])) (set7 w3 w.heap.size (.bool (headN n x.1).inner) (.slice e1 e2 e3) (.slice c1 c2 c3) (.int .i64 (headN n x.1).least) (.int .i64 (headN n x.1).rows) (.string (headN n x.1).sl) (.int .i64 (headN n x.1).num))) :=
  fun w3 e1 c1 e2 e3 c2 c3 a1 a2 a3 a4=>jQpP hE.o hC.o hD a1 a2 a3 a4
 have H:=hd h;have H0:=hd h0;have H1:=hd h1;have H2:=hd h2;have H3:=hd h3;clear h h0 h1 h2 h3 hZ hY;obtain⟨W,hW⟩:∃W:World,W=w.alloc (.cells node0 60):=⟨_,rfl⟩;have hr:Below w.heap.size w W:=by rw[hW];exact(bR).alloc (nR) _
 have hm:W.heap[w.heap.size]?=some (.cells node0 60):=by rw[hW];exact jQi _ _
 have hI:=jQf hm;have hA:=hd (H.o.below hr);have hy:=hd hr;have hn:=hd hm;clear hr hm;go_enter Tryz.func60,Tryz.ntmps60;go_wp2_with fail;rw[<-show node0=#[.bool false,.slice none 0 0,.slice none 0 0,.int .i64 0,.int .i64 0,.string ⟨#[]⟩,.int .i64 0] from rfl,<-hW];clear hW;refine(jQcU b r _ hA.o (by omega)).mono ?_;rintro e w1 ⟨rfl,hr1,ho1⟩;have hi:=(ho1.other w.heap.size (by omega)).trans hn.o;have hl:Hid (Rf b w w1):=(Rf.of_below hy.o).trans (Rf.of_only ho1);have hp:=hd hr1;have he:=hd hi;have hB:=jQf hi;clear ho1 hr1 hi hA hy hn H;obtain⟨kd,hkd⟩:∃y,y=numV r 1:=⟨_,rfl⟩;have h0:=H0.o;have h1:=H1.o;have h2:=H2.o;have h3:=H3.o;rw[<-hkd] at h0 h1 h2 h3 ⊢;have H0:=hd h0;have H1:=hd h1;have H2:=hd h2;have H3:=hd h3;clear h0 h1 h2 h3 hkd
 by_cases k0:kd=0
 ·have HX:=hd (H0.o k0);subst k0;go_wp2_with fail;refine(jQg3 b _ wide _ hp.o (by omega)).mono ?_;rintro e w2 ⟨rfl,hr2,ho2⟩;have hf:=(ho2.other w.heap.size (by omega)).trans he.o;have ht:=hd (hl.o.trans (Rf.of_only ho2));have hF:=hd hr2;have ho:=hd hf;have hG:=jQf hf;clear hr2 ho2 hf;obtain⟨sl,hsl⟩:∃y,y=Sq.takeV (takeN r 1) wide:=⟨_,rfl⟩;have hx:=HX.o;rw[<-hsl] at hx ⊢;have hu:=hd hx;clear hx hsl HX;go_wp2_with fail;refine(jQor sl 0 0 _).mono ?_;rintro e w3 ⟨rfl,hb3⟩;rw[jQc];have ha:=(hb3.block w.heap.size hG).trans ho.o;obtain⟨b0,b1,b2,b3,b4,b5,b6⟩:=jQw ha;obtain⟨f0,f1,f2,f3,f4,f5,f6⟩:=jQk ha;have hq:=jQf ha;have hb:=hj.o w3 none none 0 0 0 0 ha (by rw[hu.o];exact jQgl _ _ _ _ _ _) (by rw[hu.o];exact hF.o.below hb3) (ht.o.trans (Rf.of_below hb3));have hh:headN n x.1=⟨false,0,0,sl,0⟩:=by rw[hu.o];exact jQei _ _ _ _
  rw[hh] at hb;have hc:=hd hb;clear hb3 ha hb hh;go_wp2;exact bodyPost_ret (v:=.agg #[.bool false,.slice none 0 0,.slice none 0 0,.int .i64 0,.int .i64 0,.string sl,.int .i64 0]) (by simp[results,Tryz.results60,go_sem, *]) rfl hc.o
 ·by_cases k1:kd=1
  ·have hk:=H1.o k1 w1 Y (fun g hg=>hv.o g (by omega)) hp.o;have HK:=hd hk;subst k1;clear hk k0;go_wp2_with fail;refine HK.o.mono ?_;rintro e w3 ⟨ev,cv,rfl,hn3,hr3,hf3⟩;obtain⟨⟨x1,x2,x3,hev⟩,y1,y2,y3,hcv⟩:=hn3.slices;subst hev hcv;have ha:=(hf3.block w.heap.size hB (by omega)).trans he.o;have hb:=hj.o w3 _ _ _ _ _ _ ha hn3 hr3 (hl.o.trans hf3);obtain⟨yh,hyh⟩:∃y,y=headN n x.1:=⟨_,rfl⟩;rw[<-hyh] at hb ⊢;rw[jQc];obtain⟨b0,b1,b2,b3,b4,b5,b6⟩:=jQw ha;obtain⟨f0,f1,f2,f3,f4,f5,f6⟩:=jQk ha;have hq:=jQf ha;have hc:=hd hb;clear hn3 hr3 hf3 ha hb hyh HK;go_wp2;exact bodyPost_ret (v:=.agg #[.bool yh.inner,.slice x1 x2 x3,.slice y1 y2 y3,.int .i64 yh.least,.int .i64 yh.rows,.string yh.sl,.int .i64 yh.num]) (by simp[results,Tryz.results60,go_sem, *]) rfl hc.o
  ·by_cases k2:kd=2
   ·have hk:=H2.o k2 w1 Y (fun g hg=>hv.o g (by omega)) hp.o;have HK:=hd hk;subst k2;clear hk k0 k1;go_wp2_with fail;refine HK.o.mono ?_;rintro e w3 ⟨ev,cv,rfl,hn3,hr3,hf3⟩;obtain⟨⟨x1,x2,x3,hev⟩,y1,y2,y3,hcv⟩:=hn3.slices;subst hev hcv;have ha:=(hf3.block w.heap.size hB (by omega)).trans he.o;have hb:=hj.o w3 _ _ _ _ _ _ ha hn3 hr3 (hl.o.trans hf3);obtain⟨yh,hyh⟩:∃y,y=headN n x.1:=⟨_,rfl⟩;rw[<-hyh] at hb ⊢;rw[jQc];obtain⟨b0,b1,b2,b3,b4,b5,b6⟩:=jQw ha;obtain⟨f0,f1,f2,f3,f4,f5,f6⟩:=jQk ha;have hq:=jQf ha;have hc:=hd hb;clear hn3 hr3 hf3 ha hb hyh HK;go_wp2;exact bodyPost_ret (v:=.agg #[.bool yh.inner,.slice x1 x2 x3,.slice y1 y2 y3,.int .i64 yh.least,.int .i64 yh.rows,.string yh.sl,.int .i64 yh.num]) (by simp[results,Tryz.results60,go_sem, *]) rfl hc.o
   ·have HX:=hd (H3.o k0 k1 k2);go_wp2_with fail;refine(jQjo b _ _ hp.o).mono ?_;rintro e w3 ⟨rfl,hr3,ho3⟩;have ha:=(ho3.other w.heap.size (by omega)).trans he.o;obtain⟨b0,b1,b2,b3,b4,b5,b6⟩:=jQw ha;obtain⟨f0,f1,f2,f3,f4,f5,f6⟩:=jQk ha;have hq:=jQf ha;have hb:=hj.o w3 none none 0 0 0 0 ha (by rw[HX.o];exact jQgl _ _ _ _ _ _) (by rw[HX.o];exact hr3) (hl.o.trans (Rf.of_only ho3));have hh:headN n x.1=⟨false,0,0,Sq.nobytes,0⟩:=by rw[HX.o];exact jQei _ _ _ _
    rw[hh] at hb;have hc:=hd hb;clear hr3 ho3 ha hb hh;go_wp2;exact bodyPost_ret (v:=.agg #[.bool false,.slice none 0 0,.slice none 0 0,.int .i64 0,.int .i64 0,.string ⟨#[]⟩,.int .i64 0]) (by simp[results,Tryz.results60,go_sem, *]) rfl hc.o
theorem jQem (wide b:Nat)(hw:wide<=32):∀(n:Nat) (r:Rd) (w:World) (Z:Nat->Prop),(∀g,w.heap.size<=g->¬Z g)->RdAt b w r->r.rest.size<=100000->Sq.fits n r->Calls Tryz.prog 60 #[.pointer (some ⟨b,0,none⟩),.int .i64 wide] w (RNodeSays Z b n (readN wide n r) w)
 | 0,r,w,Z,hZ,h,hs,hf=>by
  have hz:numV r 1=0:=by
   apply Sq.jQmY;unfold Sq.takeBad;rcases hf with hf | hf
   ·have:((r.rest.size:Int)<1):=by omega
    simp[this]
   ·simp[hf]
  exact jQel 0 wide b hw r _ w h hs hZ (fun _=>rfl) (fun e=>by rw[hz] at e;cases e) (fun e=>by rw[hz] at e;cases e) (fun e=>absurd hz e)
 | n+1,r,w,Z,hZ,h,hs,hf=>by
  have ha:=Nat.le_trans (Sq.jQp r 1) hs;refine jQel (n+1) wide b hw r _ w h hs hZ ?_ ?_ ?_ ?_
  ·intro e;show Sq.readF _ _ _ _ _=_;unfold Sq.readF;rw[if_pos e];rfl
  ·intro e w' Y hY hr
   have ex:readN wide (n+1) r=(leafF (Sq.entsR (numV (takeN r 1) 1).toNat (takeN (takeN r 1) 1)).1,(Sq.entsR (numV (takeN r 1) 1).toNat (takeN (takeN r 1) 1)).2):=by
    show Sq.readF _ _ _ _ _=_;unfold Sq.readF;rw[if_neg (by rw[e];decide),if_pos e]
   rw[ex];refine(jQiK b _ w' hr (by omega)).mono ?_;rintro e2 w2 ⟨ev,rfl,hev,hr2,hf2⟩;exact⟨ev,.slice none 0 0,rfl,⟨hev,[],rfl,World.ownsRow_nil _ _ _ _,fun g o p k c hv=>(by cases hv),fun x hx=>(by cases hx)⟩,hr2,hf2⟩
  ·intro e w' Y hY hr
   have ex:readN wide (n+1) r=(innerF (headN n) (kidsR (headN n) (shutN n) (readN wide n) (numV (takeN r 1) 1).toNat (takeN (takeN r 1) 1)).1,(kidsR (headN n) (shutN n) (readN wide n) (numV (takeN r 1) 1).toNat (takeN (takeN r 1) 1)).2):=by
    show Sq.readF _ _ _ _ _=_;unfold Sq.readF;rw[if_neg (by rw[e];decide),if_neg (by rw[e];decide),if_pos e]
   rw[ex];refine(jQhv n wide b _ w' hr ha ((hf.one (by rw[e];decide)).take 1) hY (fun r w' Y hY hr hs hf=>jQem wide b hw n r w' Y hY hr hs hf)).mono ?_;rintro e2 w2 ⟨cv,rfl,⟨l,hl,hn,ho⟩,hr2,hf2⟩;exact⟨.slice none 0 0,cv,rfl,NodeAt.mk (EntsAt.nil w2) hl.symm hn ho,hr2,hf2⟩
  ·intro e0 e1 e2;show Sq.readF _ _ _ _ _=_;unfold Sq.readF;rw[if_neg e0,if_neg e1,if_neg e2];rfl
end
end Go.Proofs.YtahpihjialbanaaGreatDoor
