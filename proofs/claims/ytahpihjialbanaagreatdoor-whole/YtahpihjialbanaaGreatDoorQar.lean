import Derived.Test.YtahpihjialbanaaGreatDoorQaq
set_option linter.unusedVariables false
set_option linter.unusedSimpArgs false
set_option maxRecDepth 100000
set_option maxHeartbeats 4000000
namespace Go.Proofs.YtahpihjialbanaaGreatDoor
open Sq (headN NodeF Nd Trl Ent touchR leafF exch)
section
open Go.RowKit
variable {Z:Nat->Prop}
def leafM:(m:Nat)->List Ent->Nd m
 | 0,es=>leafF es
 | _+1,es=>leafF es
def leavesM (m:Nat)(es:List Ent):List (Nd m):=(Sq.halve es).map (leafM m)
theorem jQh1:∀(m:Nat) (es:List Ent),headN m (leafM m es)=(leafF (α:=Empty) es).hd
 | 0,_=>rfl
 | _+1,_=>rfl
theorem jQhN {w:World}:∀(m:Nat) {es:List Ent} {ev cv:Value},NodeAt Z w 0 (leafF es) ev cv->NodeAt Z w m (leafM m es) ev cv
 | 0,_,_,_,h=>h
 | _+1,_,_,_,h=>by
  obtain⟨h1,rfl⟩:=h.leaf;exact⟨h1,[],rfl,World.ownsRow_nil _ _ _ _,fun g o p k c hv=>by simp at hv,fun x hx=>by cases hx⟩
theorem jQc7 (m:Nat){B:Nat}{w:World}{v:Value}{hs:List (List Ent)}{l:List (Nd 0×Value×Value)}(h:l.map Prod.fst=hs.map leafF)(hn:NodesAt Z B w v 0 l) :
  ∃l':List (Nd m×Value×Value),l'.map Prod.fst=hs.map (leafM m)/\NodesAt Z B w v m l':=by
 have hx:∀x∈l,∃es,x.1=leafF es:=fun x hx=>by
  have h1:x.1∈l.map Prod.fst:=List.mem_map.2 ⟨x,hx,rfl⟩;rw[h] at h1;obtain⟨es,_,he⟩:=List.mem_map.1 h1;exact⟨es,he.symm⟩
 have ha:(l.map fun x=>(leafM m (Sq.NodeF.ents x.1),x.2)).flatMap (nodeCells m)=l.flatMap (nodeCells 0):=by
  rw[List.flatMap_map]
  have:∀k:List (Nd 0×Value×Value),(∀x∈k,∃es,x.1=leafF es)->k.flatMap (fun x=>nodeCells m (leafM m (Sq.NodeF.ents x.1),x.2))=k.flatMap (nodeCells 0):=by
   intro k
   induction k with
   | nil=>intro _;rfl
   | cons a r ih =>
    intro hk;rw[List.flatMap_cons,List.flatMap_cons,ih fun x hx=>hk x (List.mem_cons_of_mem _ hx)];obtain⟨es,he⟩:=hk a (List.mem_cons_self ..)
    congr 1
    unfold nodeCells;rw[jQh1,he];rfl
  exact this l hx
 refine⟨l.map fun x=>(leafM m (Sq.NodeF.ents x.1),x.2),?_,⟨?_,fun y hy=>?_⟩⟩
 ·have e1:(l.map fun x=>(leafM m (Sq.NodeF.ents x.1),x.2)).map Prod.fst=(l.map Prod.fst).map fun t=>leafM m (Sq.NodeF.ents t):=by rw[List.map_map,List.map_map];rfl
  rw[e1,h,List.map_map];rfl
 ·rw[ha,List.length_map];exact hn.own
 ·obtain⟨x,hxl,rfl⟩:=List.mem_map.1 hy;obtain⟨es,he⟩:=hx x hxl;have h2:=hn.each x hxl;rw[he] at h2;simp only[he];exact jQhN m h2
def PutSays (Z:Nat->Prop)(tb m:Nat)(x:List (Nd m)×Trl)(w:World)(e:Ending)(w':World):Prop:=∃v l,e=.returned v/\l.map Prod.fst=x.1/\NodesAt Z w.heap.size w' v m l/\TrAt tb w' x.2/\TFrm tb w w'
theorem TFrm.below_lt {tb:Nat}{w w':World}(h:TFrm tb w w'):w.heap.size<=w'.heap.size:=h.below.size
theorem jQmD (m:Nat)(h:Sq.Head)(es:List Ent)(ev cv:Value)(x:Ent)(tb:Nat)(tr:Trl)(w:World)(hin:h.inner=false)(hes:EntsAt 0 w ev es)(hcv:∃a k c,cv=.slice a k c)(hel:es.length<=900)(ht:TrAt tb w tr)(hroom:tr.nums.length+1<=100000) :
  Calls Tryz.prog 168 #[.agg (headCells h ev cv).toArray,.agg #[.int .i64 x.place,.string x.row],.pointer (some ⟨tb,0,none⟩)] w (PutSays Z tb m (leavesM m (Sq.withE es x),touchR tr h) w):=by
 obtain⟨eo,ecap,rfl⟩:=jQa hes;obtain⟨co,cl,ccap,rfl⟩:=hcv;rw[jQc];have hu:=ht.lt;have ho:=hd hin;clear hin;obtain⟨W,hWW⟩:∃W,W=(w.alloc (.cells #[.bool h.inner,.slice eo es.length ecap,.slice co cl ccap,.int .i64 h.least,.int .i64 h.rows,.string h.sl,.int .i64 h.num] 60)).alloc (.cells #[.int .i64 x.place,.string x.row] 141):=⟨_,rfl⟩;have hW:Below w.heap.size w W:=by rw[hWW];exact((bR).alloc (nR) _).alloc (by simp) _
 have hb:W.heap[w.heap.size]?=some (.cells #[.bool h.inner,.slice eo es.length ecap,.slice co cl ccap,.int .i64 h.least,.int .i64 h.rows,.string h.sl,.int .i64 h.num] 60):=by
  rw[hWW];exact(((bR).alloc (nR) _).block w.heap.size (by simp)).trans (jQi w _)
 have hg:W.heap[w.heap.size+1]?=some (.cells #[.int .i64 x.place,.string x.row] 141):=by
  rw[hWW,<-jQr w (.cells #[.bool h.inner,.slice eo es.length ecap,.slice co cl ccap,.int .i64 h.least,.int .i64 h.rows,.string h.sl,.int .i64 h.num] 60)];exact jQi _ _
 have HT:=hd (ht.below hW);have HF:Hid (TFrm tb w W):=TFrm.of hW (by omega);have he:=hd hb;have hf:=hd hg;have hh:=hd (hes.below hW);obtain⟨a0,a1,a2,a3,a4,a5,a6⟩:=SevenAt.blk (h:=h) hb;simp only[Nat.zero_add] at a1 a2 a3 a4 a5 a6;have hl:=jQf hb;clear ht hW hb hg hes;go_enter Tryz.func168,Tryz.ntmps168;go_wp2_with fail;rw[<-hWW];clear hWW;refine(jQag tb tr h _ _ W ⟨_,_,_,rfl⟩ ⟨_,_,_,rfl⟩ HT.o hroom).mono ?_;rintro e w1 ⟨rfl,ht1,hf1⟩;have ha:=(hf1.keep w.heap.size _ _ _ he.o (by decide) (by decide)).trans he.o;have hc:=(hf1.keep (w.heap.size+1) _ _ _ hf.o (by decide) (by decide)).trans hf.o;have T1:=hd ht1;have F1:Hid (TFrm tb w w1):=HF.o.trans hf1;have ES1:=hd (hh.o.tfrm hf1);obtain⟨n0,n1,n2,n3,n4,n5,n6⟩:=SevenAt.blk (h:=h) ha;simp only[Nat.zero_add] at n1 n2 n3 n4 n5 n6;rw[ho.o] at n0;have hq:=jQf ha;have hs:=jQf hc;have b0:w1.cell? ⟨w.heap.size+1,0,none⟩=some (.int .i64 x.place):=by rw[jQb hc];rfl
 have b1:w1.cell? ⟨w.heap.size+1,1,none⟩=some (.string x.row):=by rw[jQb hc];rfl
 have hi:=Sq.jQf6 es x;have hv:=F1.o.below_lt;have hk:=hd hi;clear a0 a1 a2 a3 a4 a5 a6 hl HT HF he hf hh ht1 hf1 ha hc hi n2 n3 n4 n5 n6;go_wp2_with fail;refine(jQqf es x _ _ ES1.o (by omega)).mono ?_;rintro e w2 ⟨v2,rfl,ho2,hb2⟩;have T2:=hd (T1.o.below hb2);have F2:Hid (TFrm tb w w2):=F1.o.trans (TFrm.of hb2 (by have:=T1.o.lt;omega));have hw:=hb2.size;have hj:=hd ho2;clear hb2 ho2;go_wp2_with fail;refine(jQeG (Z:=Z) _ _ _ (hj.o.base (zR)) (by have:=hk.o;omega)).mono ?_;rintro e w3 ⟨v3,l,rfl,hm,hn,hb3⟩;obtain⟨l',hm',hn'⟩:=jQc7 m hm hn;have T3:=hd (T2.o.below hb3);have F3:Hid (TFrm tb w w3):=F2.o.trans (TFrm.of hb3 (by have:=T2.o.lt;omega));have hr:=hd (hn'.base (B':=w.heap.size) (by omega));have hp:=hd hm';clear hm hn hb3 hm' hn';go_wp2;go_ret;exact⟨_,l',rfl,hp.o,hr.o,T3.o,F3.o⟩
theorem jQmB (m:Nat)(h:Sq.Head)(ev cv:Value)(x:Ent)(tb:Nat)(tr:Trl)(w:World)(hin:h.inner=true)(hev:∃a k c,ev=.slice a k c)(hn:NodesAt Z 0 w cv 0 [])(ht:TrAt tb w tr)(hroom:tr.nums.length+1<=100000) :
  Calls Tryz.prog 168 #[.agg (headCells h ev cv).toArray,.agg #[.int .i64 x.place,.string x.row],.pointer (some ⟨tb,0,none⟩)] w (PutSays Z tb m (leavesM m [x],touchR tr h) w):=by
 obtain⟨eo,el,ecap,rfl⟩:=hev;obtain⟨co,ccap,hcv⟩:=jQa hn.own;have hl:cv=.slice co 0 ccap:=hcv;clear hcv;subst hl;rw[jQc];have hx:=ht.lt;have hs:=hd hin;clear hin;obtain⟨W,hWW⟩:∃W,W=(w.alloc (.cells #[.bool h.inner,.slice eo el ecap,.slice co 0 ccap,.int .i64 h.least,.int .i64 h.rows,.string h.sl,.int .i64 h.num] 60)).alloc (.cells #[.int .i64 x.place,.string x.row] 141):=⟨_,rfl⟩;have hW:Below w.heap.size w W:=by rw[hWW];exact((bR).alloc (nR) _).alloc (by simp) _
 have hb:W.heap[w.heap.size]?=some (.cells #[.bool h.inner,.slice eo el ecap,.slice co 0 ccap,.int .i64 h.least,.int .i64 h.rows,.string h.sl,.int .i64 h.num] 60):=by
  rw[hWW];exact(((bR).alloc (nR) _).block w.heap.size (by simp)).trans (jQi w _)
 have hp:W.heap[w.heap.size+1]?=some (.cells #[.int .i64 x.place,.string x.row] 141):=by
  rw[hWW,<-jQr w (.cells #[.bool h.inner,.slice eo el ecap,.slice co 0 ccap,.int .i64 h.least,.int .i64 h.rows,.string h.sl,.int .i64 h.num] 60)];exact jQi _ _
 have HT:=hd (ht.below hW);have HF:Hid (TFrm tb w W):=TFrm.of hW (by omega);have hf:=hd hb;have hi:=hd hp;have HN:=hd (hn.below hW);obtain⟨a0,a1,a2,a3,a4,a5,a6⟩:=SevenAt.blk (h:=h) hb;simp only[Nat.zero_add] at a1 a2 a3 a4 a5 a6;have hr:=jQf hb;clear ht hW hb hp hn;go_enter Tryz.func168,Tryz.ntmps168;go_wp2_with fail;rw[<-hWW];clear hWW;refine(jQag tb tr h _ _ W ⟨_,_,_,rfl⟩ ⟨_,_,_,rfl⟩ HT.o hroom).mono ?_;rintro e w1 ⟨rfl,ht1,hf1⟩;have ha:=(hf1.keep w.heap.size _ _ _ hf.o (by decide) (by decide)).trans hf.o;have he:=(hf1.keep (w.heap.size+1) _ _ _ hi.o (by decide) (by decide)).trans hi.o;have T1:=hd ht1;have F1:Hid (TFrm tb w w1):=HF.o.trans hf1;have N1:=hd (HN.o.tfrm hf1);obtain⟨n0,n1,n2,n3,n4,n5,n6⟩:=SevenAt.blk (h:=h) ha;simp only[Nat.zero_add] at n1 n2 n3 n4 n5 n6;rw[hs.o] at n0;have hk:=jQf ha;have ho:=jQf he;have b0:w1.cell? ⟨w.heap.size+1,0,none⟩=some (.int .i64 x.place):=by rw[jQb he];rfl
 have hy:=F1.o.below_lt;have hg:=hd he;clear a0 a1 a2 a3 a4 a5 a6 hr HT HF hf hi HN ht1 hf1 ha he;go_wp2_with fail;refine(jQhb 0 [] x.place ⟨true,h.least,h.rows,h.sl,h.num⟩ _ _ w1 ⟨_,_,_,rfl⟩ N1.o (zR)).mono ?_;rintro e w2 ⟨rfl,hb2⟩;have hh:(Sq.wayF (headN 0) (([]:List (Nd 0×Value×Value)).map Prod.fst) x.place:Nat)=0:=rfl;rw[hh];have hc:=(hb2.block (w.heap.size+1) ho).trans hg.o;have c0:w2.cell? ⟨w.heap.size+1,0,none⟩=some (.int .i64 x.place):=by rw[jQb hc];rfl
 have c1:w2.cell? ⟨w.heap.size+1,1,none⟩=some (.string x.row):=by rw[jQb hc];rfl
 have c2:=(hb2.cell (p:=⟨w.heap.size,2,none⟩) hk).trans n2;have hz:=hb2.size;have hv:=jQf hc;have hB:w.heap.size<w2.heap.size:=by omega
 have T2:=hd (T1.o.below hb2);have F2:Hid (TFrm tb w w2):=F1.o.trans (TFrm.of hb2 (by have:=T1.o.lt;omega));clear hb2 hc n0 n1 n2 n3 n4 n5 n6 b0 hg hh;have hA:Below w2.heap.size w2 (w2.alloc (.cells #[.int .i64 x.place,.string x.row] 141)):=(bR).alloc (nR) _;have hq:Hid (EntsAt 0 (w2.alloc (.cells #[.int .i64 x.place,.string x.row] 141)) (.slice (some ⟨w2.heap.size,0,none⟩) 1 1) [x]):=jQes w2 141 _ _ 1 2 0 rfl rfl (by decide) (zR);have HA:=hd hA;clear hA;go_wp2_with fail;refine(jQeG (Z:=Z) [x] _ _ hq.o (by simp)).mono ?_;rintro e w3 ⟨v3,l,rfl,hm,hn,hb3⟩;obtain⟨l',hm',hn'⟩:=jQc7 m hm hn;have hj:Below w2.heap.size w2 w3:=HA.o.trans (hb3.mono HA.o.size);have T3:=hd (T2.o.below hj);have F3:Hid (TFrm tb w w3):=F2.o.trans (TFrm.of hj (by have:=T2.o.lt;omega));have hw:=hd (hn'.base (B':=w.heap.size) (by have:=HA.o.size;omega));have hu:=hd hm';clear hm hn hb3 hm' hn' hj;go_wp2;go_ret;exact⟨_,l',rfl,hu.o,hw.o,T3.o,F3.o⟩
theorem jQo3 (n:Nat)(h:Sq.Head)(l:List (Nd n×Value×Value))(ev cv:Value)(x:Ent)(tb:Nat)(tr tr2:Trl)(parts:List (Nd n))(w:World)(hin:h.inner=true)(hev:∃a k c,ev=.slice a k c)(hn:NodesAt Z 0 w cv n l)(hl:l.length<=900)(ht:TrAt tb w tr)(hroom:tr.nums.length+1<=100000)(hZ:∀g,w.heap.size<=g->¬Z g)
  (a:Nat) (ha:a<l.length) (haw:a=Sq.wayF (headN n) (l.map Prod.fst) x.place) (hsmall:∀c∈exch (l.map Prod.fst) a 1 parts,0<=(headN n c).rows/\(headN n c).rows<=1000000000) (hp2:parts.length<=2)
  (ih:∀w',(∀g,w'.heap.size<=g->¬Z g)->NodeAt Z w' n l[a].1 l[a].2.1 l[a].2.2->TrAt tb w' (touchR tr h)->Calls Tryz.prog 168 #[.agg (nodeCells n l[a]).toArray,.agg #[.int .i64 x.place,.string x.row],.pointer (some ⟨tb,0,none⟩)] w' (PutSays Z tb n (parts,tr2) w')) :
  Calls Tryz.prog 168 #[.agg (headCells h ev cv).toArray,.agg #[.int .i64 x.place,.string x.row],.pointer (some ⟨tb,0,none⟩)] w (PutSays Z tb (n+1) (Sq.innersF (headN n) (exch (l.map Prod.fst) a 1 parts),tr2) w):=by
 obtain⟨eo,el,ecap,rfl⟩:=hev;obtain⟨co,ccap,rfl⟩:=jQa hn.own;rw[jQc];have hN:=ht.lt;have hD:=hd hin;clear hin;obtain⟨W,hWW⟩:∃W,W=(w.alloc (.cells #[.bool h.inner,.slice eo el ecap,.slice co l.length ccap,.int .i64 h.least,.int .i64 h.rows,.string h.sl,.int .i64 h.num] 60)).alloc (.cells #[.int .i64 x.place,.string x.row] 141):=⟨_,rfl⟩;have hW:Below w.heap.size w W:=by rw[hWW];exact((bR).alloc (nR) _).alloc (by simp) _
 have hi:W.heap[w.heap.size]?=some (.cells #[.bool h.inner,.slice eo el ecap,.slice co l.length ccap,.int .i64 h.least,.int .i64 h.rows,.string h.sl,.int .i64 h.num] 60):=by
  rw[hWW];exact(((bR).alloc (nR) _).block w.heap.size (by simp)).trans (jQi w _)
 have hx:W.heap[w.heap.size+1]?=some (.cells #[.int .i64 x.place,.string x.row] 141):=by
  rw[hWW,<-jQr w (.cells #[.bool h.inner,.slice eo el ecap,.slice co l.length ccap,.int .i64 h.least,.int .i64 h.rows,.string h.sl,.int .i64 h.num] 60)];exact jQi _ _
 have HT:=hd (ht.below hW);have HF:Hid (TFrm tb w W):=TFrm.of hW (by omega);have hp:=hd hi;have hr:=hd hx;have HN:=hd (hn.below hW);have HZ:=hd hZ;have IH:=hd ih;have hH:=hd haw;have hK:=hd hsmall;obtain⟨a0,a1,a2,a3,a4,a5,a6⟩:=SevenAt.blk (h:=h) hi;simp only[Nat.zero_add] at a1 a2 a3 a4 a5 a6;have hB:=jQf hi;clear ht hW hi hx hn hZ ih haw hsmall;go_enter Tryz.func168,Tryz.ntmps168;go_wp2_with fail;rw[<-hWW];clear hWW;refine(jQag tb tr h _ _ W ⟨_,_,_,rfl⟩ ⟨_,_,_,rfl⟩ HT.o hroom).mono ?_;rintro e w1 ⟨rfl,ht1,hf1⟩;have hb:=(hf1.keep w.heap.size _ _ _ hp.o (by decide) (by decide)).trans hp.o;have hk:=(hf1.keep (w.heap.size+1) _ _ _ hr.o (by decide) (by decide)).trans hr.o;have T1:=hd ht1;have F1:Hid (TFrm tb w w1):=HF.o.trans hf1;have N1:=hd (HN.o.tfrm hf1);obtain⟨n0,n1,n2,n3,n4,n5,n6⟩:=SevenAt.blk (h:=h) hb;simp only[Nat.zero_add] at n1 n2 n3 n4 n5 n6;rw[hD.o] at n0;have hs:=jQf hb;have hu:=jQf hk;have b0:w1.cell? ⟨w.heap.size+1,0,none⟩=some (.int .i64 x.place):=by rw[jQb hk];rfl
 have hO:=F1.o.below_lt;have hq:=hd hk;have ho:=hd hb;clear a0 a1 a2 a3 a4 a5 a6 hB HT HF hp hr HN ht1 hf1 hb hk;go_wp2_with fail;refine(jQhb n l x.place ⟨true,h.least,h.rows,h.sl,h.num⟩ _ _ w1 ⟨_,_,_,rfl⟩ N1.o (by omega)).mono ?_;rintro e w2 ⟨rfl,hb2⟩;rw[<-hH.o];have hj:=(hb2.block (w.heap.size+1) hu).trans hq.o;have he:=(hb2.block w.heap.size hs).trans ho.o;have c0:w2.cell? ⟨w.heap.size+1,0,none⟩=some (.int .i64 x.place):=by rw[jQb hj];rfl
 have c1:w2.cell? ⟨w.heap.size+1,1,none⟩=some (.string x.row):=by rw[jQb hj];rfl
 have c2:w2.cell? ⟨w.heap.size,2,none⟩=some (.slice co l.length ccap):=by rw[jQb he];rfl
 have hQ:=hb2.size;have hG:=jQf hj;have hP:w.heap.size<w2.heap.size:=by omega
 have T2:=hd (T1.o.below hb2);have N2:=hd (N1.o.below hb2);have F2:Hid (TFrm tb w w2):=F1.o.trans (TFrm.of hb2 (by have:=T1.o.lt;omega));have hm:=hd he;clear hb2 hj he n0 n1 n2 n3 n4 n5 n6 b0 hq ho T1 N1 F1;obtain⟨g,cap',ea,el2,ec,ca,cl,cc,hv,hg,⟨d0,d1,d2,d3,d4,dsl,dnu⟩,d5,d6⟩:=N2.o.at a ha;simp only[Value.slice.injEq] at hv;obtain⟨rfl,-,rfl⟩:=hv;have ih:=IH.o;obtain⟨y,hy⟩:∃y,y=l[a]:=⟨_,rfl⟩;rw[<-hy] at d0 d3 d4 dsl dnu d5 d6 ih;obtain⟨t,evx,cvx⟩:=y;simp only[Prod.mk.injEq] at d5;obtain⟨rfl,rfl⟩:=d5;have IH2:=hd ih;have hA:=hd d6;have i1:¬((l.length:Int)<=(a:Int)):=by omega
 have i2:decide ((l.length:Int)<=(a:Int))=false:=by simpa using ha
 have hC:Hid (∀g,w2.heap.size<=g->¬Z g):=fun g hg=>HZ.o g (by omega)
 clear ih hy IH d6;go_wp2
 go_region_with (go_at_call 168;refine(IH2.o w2.drew hC.o (hA.o.below (Below.drew (bR))) (T2.o.below (Below.drew (bR)))).mono ?_;rintro e w3 ⟨v3,k,rfl,hm3,hn3,ht3,hf3⟩;obtain⟨ko,kcap,rfl⟩:=jQa hn3.own;have hh:TFrm tb w2 w3:=(TFrm.of (Below.drew (bR)) (by have:=T2.o.lt;omega)).trans hf3;have hf:=(hh.keep w.heap.size _ _ _ hm.o (by decide) (by decide)).trans hm.o;have e2:w3.cell? ⟨w.heap.size,2,none⟩=some (.slice (some ⟨g,0,none⟩) l.length ccap):=(by rw[jQb hf];rfl);have hM:=jQf hf;have T3:=hd ht3;have F3:Hid (TFrm tb w w3):=F2.o.trans hh;have N3:=hd (N2.o.tfrm hh);have HK:=hd hn3;have HM:=hd hm3;clear ht3 hf3 hh hn3 hm3 hf)
 all_goals
  have hT:k.length<=2:=by
   have h1:=congrArg List.length HM.o;rw[List.length_map] at h1;omega
  go_wp2_with fail;refine(jQav n l k _ _ a 1 _ N3.o (HK.o.base (zR)) (by omega) (by omega) (by omega) (by omega)).mono ?_;rintro e w4 ⟨v4,rfl,hn4,hb4⟩;have hR:(exch l a 1 k).length<=1000:=by unfold exch;simp;omega
  have hw:(exch l a 1 k).map Prod.fst=exch (l.map Prod.fst) a 1 parts:=by rw[Sq.jQgJ,HM.o]
  have hz:smallRows n (exch l a 1 k):=fun c hc=>hK.o c.1 (by rw[<-hw];exact List.mem_map.2 ⟨c,hc,rfl⟩)
  have hL:=hb4.size;have hS:=F3.o.below_lt;have T4:=hd (T3.o.below hb4);have F4:Hid (TFrm tb w w4):=F3.o.trans (TFrm.of hb4 (by have:=T3.o.lt;omega));have hJ:=hd hn4;have hE:=hd hw;have HS:=hd hz;clear hn4 hb4 hw hz;go_wp2_with fail;refine(jQhY n (exch l a 1 k) _ _ (hJ.o.base (zR)) (by omega) HS.o (fun g hg=>HZ.o g (by omega))).mono ?_;rintro e w5 ⟨v5,k5,rfl,hm5,hn5,hb5⟩;have T5:=hd (T4.o.below hb5);have F5:Hid (TFrm tb w w5):=F4.o.trans (TFrm.of hb5 (by have:=T4.o.lt;omega));have hI:=hd (hn5.base (B':=w.heap.size) (by omega));have hF:=hd hm5;clear hm5 hn5 hb5;go_wp2;go_ret;exact⟨_,k5,rfl,by rw[hF.o,hE.o],hI.o,T5.o,F5.o⟩
theorem jQhy {α:Type}(f:α->Sq.Head)(g:α->Ent->Trl->List α×Trl)(t:NodeF α)(e:Ent)(tr:Trl)(h:t.hd.inner=false):Sq.putF f g t e tr=(Sq.leavesF (Sq.withE t.ents e),touchR tr t.hd):=by
 unfold Sq.putF;rw[h];rfl
theorem jQjR {α:Type}(f:α->Sq.Head)(g:α->Ent->Trl->List α×Trl)(t:NodeF α)(e:Ent)(tr:Trl)(h:t.hd.inner=true)(hk:t.kids=[]):Sq.putF f g t e tr=(Sq.leavesF [e],touchR tr t.hd):=by
 unfold Sq.putF;rw[h,hk];rfl
theorem jQo4 {α:Type}(f:α->Sq.Head)(g:α->Ent->Trl->List α×Trl)(t:NodeF α)(e:Ent)(tr:Trl)(h:t.hd.inner=true)(ha:Sq.wayF f t.kids e.place<t.kids.length):Sq.putF f g t e tr=(Sq.innersF f (exch t.kids (Sq.wayF f t.kids e.place) 1 (g t.kids[Sq.wayF f t.kids e.place] e (touchR tr t.hd)).1),(g t.kids[Sq.wayF f t.kids e.place] e (touchR tr t.hd)).2):=by
 unfold Sq.putF;rw[h];simp only[if_true,List.getElem?_eq_getElem ha]
theorem jQpW (K:Int)(hK0:0<=K)(hK:K<=99999)(x:Ent)(hx:x.row.size<=300)(tb:Nat):∀(n:Nat) (t:Nd n) (ev cv:Value) (tr:Trl) (w:World),NodeAt Z w n t ev cv->Sq.tameN K n t->(headN n t).rows<=900000000->TrAt tb w tr->Sq.TameR K tr->(∀g,w.heap.size<=g->¬Z g) ->
  Calls Tryz.prog 168 #[.agg (headCells (headN n t) ev cv).toArray,.agg #[.int .i64 x.place,.string x.row],.pointer (some ⟨tb,0,none⟩)] w (PutSays Z tb n (Sq.putN n t x tr) w)
 | 0,t,ev,cv,tr,w,h,hf,_,ht,hr,_=>by
  obtain⟨h1,rfl⟩:=h.leaf;have hn:=hr.len;have hy:=hf.at0.ents;cases hin:(Sq.NodeF.hd t).inner with
  | false =>
   have hg:=jQmD (Z:=Z) 0 (Sq.NodeF.hd t) (Sq.NodeF.ents t) ev (.slice none 0 0) x tb tr w hin h1 ⟨_,_,_,rfl⟩ (by omega) ht (by omega);have e:Sq.putN 0 t x tr=(leavesM 0 (Sq.withE (Sq.NodeF.ents t) x),touchR tr (Sq.NodeF.hd t)):=jQhy _ _ t x tr hin;rw[e];exact hg
  | true =>
   have hg:=jQmB (Z:=Z) 0 (Sq.NodeF.hd t) ev (.slice none 0 0) x tb tr w hin (NodeAt.slices h).1 ⟨World.ownsRow_nil _ _ _ _,fun x hx=>by cases hx⟩ ht (by omega)
   have hk:(t:NodeF Empty).kids=[]:=by
    cases hq:(t:NodeF Empty).kids with
    | nil=>rfl
    | cons c _=>exact c.elim
   have e:Sq.putN 0 t x tr=(leavesM 0 [x],touchR tr (Sq.NodeF.hd t)):=jQjR _ _ t x tr hin hk;rw[e];exact hg
 | n+1,t,ev,cv,tr,w,h,hf,hrows,ht,hr,hZ=>by
  obtain⟨h1,l,h2,h3⟩:=h.inner;have hn:=hr.len;have hi:=hf.at1;have hy:=hi.ents;have hs:=hi.kids;have hj:∀c∈Sq.NodeF.kids t,0<=(headN n c).rows:=fun c hc=>(hi.each c hc).head.2.1
  cases hin:(Sq.NodeF.hd t).inner with
  | false =>
   have hg:=jQmD (Z:=Z) (n+1) (Sq.NodeF.hd t) (Sq.NodeF.ents t) ev cv x tb tr w hin h1 (NodeAt.slices h).2 (by omega) ht (by omega);have e:Sq.putN (n+1) t x tr=(leavesM (n+1) (Sq.withE (Sq.NodeF.ents t) x),touchR tr (Sq.NodeF.hd t)):=jQhy _ _ t x tr hin;rw[e];exact hg
  | true =>
   by_cases hk:Sq.NodeF.kids t=[]
   ·have hv:l=[]:=by rw[hk] at h2;exact List.map_eq_nil_iff.1 h2.symm
    subst hv;have hg:=jQmB (Z:=Z) (n+1) (Sq.NodeF.hd t) ev cv x tb tr w hin (NodeAt.slices h).1 ⟨h3.own,fun x hx=>by cases hx⟩ ht (by omega);have e:Sq.putN (n+1) t x tr=(leavesM (n+1) [x],touchR tr (Sq.NodeF.hd t)):=jQjR _ _ t x tr hin hk;rw[e];exact hg
   ·have hb:=Sq.jQjr (headN n) (Sq.NodeF.kids t) x.place hk;have e:=jQo4 (headN n) (Sq.putN n) t x tr hin hb;have hl:(Sq.NodeF.kids t)[Sq.wayF (headN n) (Sq.NodeF.kids t) x.place]∈Sq.NodeF.kids t:=List.getElem_mem _;have hc:=hi.each _ hl;have hu:=(hi.inn hin).1;have hw:=Sq.jQaZ (headN n) hj hl;have hh:(headN (n+1) t).rows=(Sq.NodeF.hd t).rows:=rfl;have hm:=Sq.jQdI hK0 n _ x (touchR tr (Sq.NodeF.hd t)) hc hx (hr.touch hi.num);have ihc:=jQpW K hK0 hK x hx tb n (Sq.NodeF.kids t)[Sq.wayF (headN n) (Sq.NodeF.kids t) x.place];obtain⟨a,ha⟩:∃a,a=Sq.wayF (headN n) (Sq.NodeF.kids t) x.place:=⟨_,rfl⟩
    have e2:Sq.putN (n+1) t x tr=(Sq.innersF (headN n) (exch (Sq.NodeF.kids t) a 1 (Sq.putN n ((Sq.NodeF.kids t)[a]'(by rw[ha];exact hb)) x (touchR tr (Sq.NodeF.hd t))).1),(Sq.putN n ((Sq.NodeF.kids t)[a]'(by rw[ha];exact hb)) x (touchR tr (Sq.NodeF.hd t))).2):=by
     subst ha;exact e
    clear e;have hz:a<l.length:=by rw[h2,List.length_map] at hb;rw[ha,h2];exact hb
    have hp:(Sq.NodeF.kids t)[a]'(by rw[ha];exact hb)=l[a].1:=by
     simp only[h2,List.getElem_map]
    have ho:(Sq.NodeF.kids t)[Sq.wayF (headN n) (Sq.NodeF.kids t) x.place]=l[a].1:=by rw[<-hp];subst ha;rfl
    rw[ho] at hc hw hm ihc;rw[hp] at e2;rw[e2]
    have he:∀c∈exch (Sq.NodeF.kids t) a 1 (Sq.putN n l[a].1 x (touchR tr (Sq.NodeF.hd t))).1,0<=(headN n c).rows/\(headN n c).rows<=1000000000:=by
     intro c hcm;rcases jQiT hcm with hcm | hcm
     ·have:=Sq.jQaZ (headN n) hj hcm
      exact⟨hj c hcm,by omega⟩
     ·have h5:=hm.1.each c hcm;have h6:=Sq.jQaZ (headN n) (fun d hd=>(hm.1.each d hd).head.2.1) hcm;have h7:=hm.1.rows;exact⟨h5.head.2.1,by omega⟩
    rw[h2] at he ha hs ⊢;rw[List.length_map] at hs;exact jQo3 n (Sq.NodeF.hd t) l ev cv x tb tr _ _ w hin (NodeAt.slices h).1 h3 (by omega) ht (by omega) hZ a hz ha he hm.1.two (fun w' hZ' hn' ht'=>ihc _ _ _ w' hn' hc (by omega) ht' (hr.touch hi.num) hZ')
end
section
open Go.RowKit
variable {Z:Nat->Prop}
theorem jQaO {w:World}{b:Nat}{c:Array Value}(hb:w.heap[b]?=some (.cells c 60))(x0 x1 x2 x3 x4 x5 x6:Value):Keeps 60 w (set7 w b x0 x1 x2 x3 x4 x5 x6):=by
 intro q cq e fr hq he;refine jQl _ _ _ _ _ _ _ _ _ fun e2=>?_
 subst e2;rw[hb] at hq;simp only[Option.some.injEq,Obj.cells.injEq] at hq;exact he hq.2.1.symm
theorem TFrm.set7 {tb b:Nat}{w w1:World}(h:TFrm tb w w1)(hb:w.heap.size<=b)(ht:tb<=b)(x0 x1 x2 x3 x4 x5 x6:Value):TFrm tb w (set7 w1 b x0 x1 x2 x3 x4 x5 x6) :=
 ⟨jQu h.below ht _ _ _ _ _ _ _,fun g c e fr hg h1 h2=>(jQl _ _ _ _ _ _ _ _ _ (by have:=jQf hg;omega)).trans (h.keep g c e fr hg h1 h2)⟩
def TreeSays (Z:Nat->Prop)(tb:Nat)(Y:Sq.NTree×Trl)(w:World)(e:Ending)(w':World):Prop:=∃ev cv,e=.returned (.agg (headCells Y.1.head ev cv).toArray)/\NodeAt Z w' Y.1.d Y.1.t ev cv/\TrAt tb w' Y.2/\TFrm tb w w'
theorem jQqc (K:Int)(hK0:0<=K)(hK:K<=99999)(X:Sq.NTree)(ev cv:Value)(p:Int)(row:ByteArray)(hx:row.size<=300)(tb:Nat)(tr:Trl)(w:World)(h:NodeAt Z w X.d X.t ev cv)(hf:Sq.TameT K 900000000 X)(ht:TrAt tb w tr)(hr:Sq.TameR K tr)(hZ:∀g,w.heap.size<=g->¬Z g) :
  Calls Tryz.prog 125 #[.agg (headCells X.head ev cv).toArray,.int .i64 p,.string row,.pointer (some ⟨tb,0,none⟩)] w (TreeSays Z tb (X.put ⟨p,row⟩ tr) w):=by
 obtain⟨n,t⟩:=X;obtain⟨⟨e1,e2,e3,hev⟩,c1,c2,c3,hcv⟩:=h.slices;subst hev hcv;obtain⟨hX,hrows⟩:=hf;simp only[Sq.NTree.head] at h hX hrows ⊢;have hC:=Sq.jQdI hK0 n t ⟨p,row⟩ tr hX hx hr;have hi:=jQpW (Z:=fun g=>Z g\/g=w.heap.size+1) K hK0 hK ⟨p,row⟩ hx tb n t (.slice e1 e2 e3) (.slice c1 c2 c3) tr;have hE:Sq.NTree.put ⟨n,t⟩ ⟨p,row⟩ tr=(Sq.upN n (Sq.putN n t ⟨p,row⟩ tr).1,(Sq.putN n t ⟨p,row⟩ tr).2):=rfl;rw[hE];clear hE;obtain⟨pt,hB⟩:∃x,x=Sq.putN n t ⟨p,row⟩ tr:=⟨_,rfl⟩;rw[<-hB] at hC hi ⊢;obtain⟨hh,hhe⟩:∃x,x=headN n t:=⟨_,rfl⟩;rw[<-hhe] at hi hrows hC ⊢;rw[jQc] at hi ⊢;have hT:=ht.lt;obtain⟨W,hWW⟩:∃W,W=(w.alloc (.cells #[.bool hh.inner,.slice e1 e2 e3,.slice c1 c2 c3,.int .i64 hh.least,.int .i64 hh.rows,.string hh.sl,.int .i64 hh.num] 60)).alloc (.cells node0 60):=⟨_,rfl⟩;have hW:Below w.heap.size w W:=by rw[hWW];exact((bR).alloc (nR) _).alloc (by simp) _
 have hD:W.heap.size=w.heap.size+2:=by rw[hWW,jQr,jQr]
 have hw:W.heap[w.heap.size+1]?=some (.cells node0 60):=by
  rw[hWW,<-jQr w (.cells #[.bool hh.inner,.slice e1 e2 e3,.slice c1 c2 c3,.int .i64 hh.least,.int .i64 hh.rows,.string hh.sl,.int .i64 hh.num] 60)];exact jQi _ _
 have hj:=hi W ((h.more (Nat.le_succ _)).below hW) hX hrows (ht.below hW) hr (fun g hg=>by
  rw[hD] at hg;rintro(hz | hz)
  ·exact hZ g (by omega) hz
  ·omega)
 have HC:=hd hj;have HF:Hid (TFrm tb w W):=TFrm.of hW (by omega);have hk:=hd hw;have hq:=hd hC;have HZ:=hd hZ;have hS:=hd hD;have hA:=hd hrows;clear h ht hX hrows hC hi hW hD hw hj hB hhe hZ hr;go_enter Tryz.func125,Tryz.ntmps125;go_wp2_with fail;rw[<-show node0=#[.bool false,.slice none 0 0,.slice none 0 0,.int .i64 0,.int .i64 0,.string ⟨#[]⟩,.int .i64 0] from rfl,<-hWW];clear hWW;refine HC.o.mono ?_;rintro e w1 ⟨v1,l,rfl,hm,hn,ht1,hf1⟩;obtain⟨lo,lcap,rfl⟩:=jQa hn.own;have ho:l.length=pt.1.length:=by rw[<-hm];simp
 have hb:=(hf1.keep (w.heap.size+1) _ _ _ hk.o (by decide) (by decide)).trans hk.o;have T1:=hd ht1;have F1:Hid (TFrm tb w w1):=HF.o.trans hf1;have hQ:w.heap.size+1<w1.heap.size:=jQf hb;have HN:=hd hn;have HM:=hd hm;have hu:=hd hb;have hs:=hq.o.1.two;have hp:=hq.o.1.one;clear hm hn ht1 hf1 hb HC HF hk
 match l,ho,HN,HM with
 | [],ho,_,_=>exfalso;simp at ho;omega
 | [y],ho,HN,HM =>
  obtain⟨g,cap',ea,el,ec,ca,cl,cc,hv,hg,⟨d0,d1,d2,d3,d4,dsl,dnu⟩,d5,d6⟩:=HN.o.at 0 (by simp);simp only[Value.slice.injEq] at hv;obtain⟨rfl,-,rfl⟩:=hv;obtain⟨yt,yev,ycv⟩:=y;simp only[List.getElem_cons_zero,Prod.mk.injEq,Nat.zero_mul,Nat.zero_add] at d0 d1 d2 d3 d4 dsl dnu d5 d6;obtain⟨rfl,rfl⟩:=d5;have hB:pt.1=[yt]:=HM.o.symm;have HE:Hid (Sq.upN n pt.1=⟨n,yt⟩):=by show _=_;rw[hB];rfl
  obtain⟨b0,b1,b2,b3,b4,b5,b6⟩:=jQw hu.o;obtain⟨f0,f1,f2,f3,f4,f5,f6⟩:=jQk hu.o;have hH:=hd d6;obtain⟨yh,hyh⟩:∃x,x=headN n yt:=⟨_,rfl⟩;rw[<-hyh] at d0 d3 d4 dsl dnu;have hI:=hd hyh;clear d6 HM ho hs hp hB hyh HN;go_wp2;rw[HE.o];refine bodyPost_ret (v:=.agg (headCells yh (.slice ea el ec) (.slice ca cl cc)).toArray) (by simp[results,Tryz.results125,go_sem,headCells, *]) rfl ⟨_,_,by rw[hI.o];rfl,?_,?_,?_⟩
  ·exact(NodeAt.skip (b:=w.heap.size+1) hH.o (Or.inr rfl) hu.o fun g hg=>jQl _ _ _ _ _ _ _ _ _ hg).less fun g hg=>Or.inl hg
  ·exact T1.o.keeps (jQaO hu.o _ _ _ _ _ _ _) (by decide) (by decide)
  ·exact F1.o.set7 (by omega) (by omega) _ _ _ _ _ _ _
 | y::z::r,ho,HN,HM =>
  have hy:(y::z::r).length<=2:=by omega
  have hO:(((y::z::r).length:Int)==1)=false:=by simp;omega
  have HE:Hid (Sq.upN n pt.1=⟨n+1,Sq.innerF (headN n) ((y::z::r).map Prod.fst)⟩):=by show _=_;rw[<-HM.o];rfl
  have hF:smallRows n (y::z::r):=fun c hc=>by
   have hL:c.1∈pt.1:=by rw[<-HM.o];exact List.mem_map.2 ⟨c,hc,rfl⟩
   have h1:=hq.o.1.each c.1 hL;have h2:=Sq.jQaZ (headN n) (fun d hd=>(hq.o.1.each d hd).head.2.1) hL;have h3:=hq.o.1.rows;have h4:=hA.o;exact⟨h1.head.2.1,by omega⟩
  obtain⟨l,hl⟩:∃l,l=y::z::r:=⟨_,rfl⟩;have he:=HE.o;have hG:=HN.o;rw[<-hl] at hy hO he hG hF ⊢;have hN:=hd he;have hH:=hd hG;have hR:=hd hF;clear hl he hG HE HN HM ho hs hp hF;go_wp2_with fail;refine(jQca n l _ _ hH.o.rd (by omega) hR.o).mono ?_;rintro e w2 ⟨cv2,rfl,hn2,hb2⟩;obtain⟨ko,kcap,rfl⟩:=jQa hn2.own;have ha:=(hb2.block (w.heap.size+1) hQ).trans hu.o;obtain⟨b0,b1,b2,b3,b4,b5,b6⟩:=jQw ha;obtain⟨f0,f1,f2,f3,f4,f5,f6⟩:=jQk ha;have hU:=jQf ha;have hM:=hd ha;have T2:=hd (T1.o.below hb2);have F2:Hid (TFrm tb w w2):=F1.o.trans (TFrm.of hb2 (by have:=T1.o.lt;omega));have hJ:=hd hn2
  have hP:Hid (∀g,w1.heap.size<=g->¬(Z g\/g=w.heap.size+1)):=fun g hg=>by
   rintro(hz | hz)
   ·exact HZ.o g (by omega) hz
   ·omega
  obtain⟨yh,hyh⟩:∃x,x=(Sq.innerF (headN n) (l.map Prod.fst)).hd:=⟨_,rfl⟩;rw[<-hyh,jQc];have hI:=hd hyh;clear ha hn2 hb2 hyh;go_wp2;rw[hN.o];refine bodyPost_ret (v:=.agg (headCells yh (.slice none 0 0) (.slice ko l.length kcap)).toArray) (by simp[results,Tryz.results125,go_sem,headCells, *]) rfl ⟨_,_,by rw[hI.o];rfl,?_,?_,?_⟩
  ·exact(NodeAt.skip (b:=w.heap.size+1) (NodeAt.mk (EntsAt.nil _) rfl (hJ.o.base (zR)) (jQbW hJ.o hP.o)) (Or.inr rfl) hM.o fun g hg=>jQl _ _ _ _ _ _ _ _ _ hg).less fun g hg=>Or.inl hg
  ·exact T2.o.keeps (jQaO hM.o _ _ _ _ _ _ _) (by decide) (by decide)
  ·exact F2.o.set7 (by omega) (by omega) _ _ _ _ _ _ _
end
section
open Go.RowKit
variable {Z:Nat->Prop}
theorem jQaS {ops:Array Oper}{rest:List Oper}{o:Oper}{a:Act}{Q:Exit->Act->World->Prop}{w:World}(hgd:o.guard=none)(sl x:Operand)
  (ho:o.op=.call { callee:=.builtin .append,args:=#[sl,x],argTypes:=#[57,57] }) (B:Nat) (v:Value) (es:List Ent) (hs:a.eval sl=v) (hb:EntsAt B w v es)
  (m:List Ent) (sv:Value) (hx:a.eval x=sv) (hm:EntsAt 0 w sv m) (h1:es.length+m.length<=1000000) (hB:B<=w.heap.size)
  (h:∀v' w',EntsAt B w' v' (es++m)->Below B w w'->wpList Tryz.prog ops Q rest (a.put o.dst v') w'):wpList Tryz.prog ops Q (o::rest) a w:=by
 rcases Nat.eq_zero_or_pos m.length with h0 | h0
 ·have ha:m=[]:=by simpa using h0
  subst ha;obtain⟨ao,cap,rfl⟩:=jQa hm;obtain⟨i0,hi,hz0,hz1,hz2⟩:=info_parts Tryz.infoEnt;obtain⟨yo,ycap,rfl⟩:=jQa hb;refine jQa1 hgd sl x 57 ho B 141 i0 2 Tryz.underlying57 hi (.slice yo es.length ycap) es.length _ hs hb ao cap hx ?_;refine h _ w ?_ (bR);rw[List.append_nil];exact hb
 ·exact jQaT hgd sl x ho B v es hs hb m sv hx (Reads.of_own hm) h0 h1 hB fun v' w' h1 h2 _=>h v' w' h1 h2
theorem jQdn (m:Nat)(ha hb:Sq.Head)(es fs:List Ent)(ea ca eb cb:Value)(w:World)(hin:ha.inner=false)(hes:EntsAt 0 w ea es)(hfs:EntsAt 0 w eb fs)(hca:∃a k c,ca=.slice a k c)(hcb:∃a k c,cb=.slice a k c)(hel:es.length<=400)(hfl:fs.length<=400) :
  Calls Tryz.prog 225 #[.agg (headCells ha ea ca).toArray,.agg (headCells hb eb cb).toArray] w fun e w'=>∃v l,e=.returned v/\l.map Prod.fst=leavesM m (es++fs)/\NodesAt Z w.heap.size w' v m l/\Below w.heap.size w w':=by
 obtain⟨ao,acap,rfl⟩:=jQa hes;obtain⟨bo,bcap,rfl⟩:=jQa hfs;obtain⟨x1,x2,x3,rfl⟩:=hca;obtain⟨y1,y2,y3,rfl⟩:=hcb;rw[jQc,jQc,hin];have hW:∀o o2,Below w.heap.size w ((w.alloc o).alloc o2):=fun o o2=>((bR).alloc (nR) _).alloc (by simp) _
 have HW:=hd hW;have HA:=hd hes;have HB:=hd hfs;clear hes hfs hW hin;go_enter Tryz.func225,Tryz.ntmps225
 go_wp2_with (at_builtin;(first
  | (have hx:=hc;clear hx;refine jQaS rfl (.tmp 21) (.tmp 23) rfl (w.heap.size+1+1) _ es rfl he.o fs _ rfl ((HB.o.below (HW.o _ _)).below (hc.o.mono (by simp))) (by omega) (by omega) ?_;intro v2 w2 ho2 hb2;have hf:=hd ho2;have hg:=hd hb2;clear ho2 hb2)
  | (refine jQaS rfl (.tmp 17) (.tmp 19) rfl (w.heap.size+1+1) _ [] rfl (World.ownsRow_nil _ _ _ _) es _ rfl (HA.o.below (HW.o _ _)) (by simp;omega) (by simp) ?_;intro v1 w1 ho1 hb1;rw[List.nil_append] at ho1;obtain⟨xo,xcap,rfl⟩:=jQa ho1;have k2:=hb1.cell (p:=⟨w.heap.size+1,1,none⟩) (by simp);simp[go_sem] at k2;have hi:w.heap.size+1+1<=w1.heap.size:=(by have:=hb1.size;simp at this;omega);have hh:w.heap.size+1<w1.heap.size:=(by omega);have he:=hd ho1;have hc:=hd hb1;clear ho1 hb1)))
 go_wp2_with fail;refine(jQeG (Z:=Z) (es++fs) _ _ (hf.o.base (zR)) (by rw[List.length_append];omega)).mono ?_;rintro e w3 ⟨v3,l,rfl,hm,hn,hb3⟩;obtain⟨l',hm',hn'⟩:=jQc7 m hm hn;go_wp2;go_ret;have hB:Below w.heap.size w w2:=(HW.o _ _).trans ((hc.o.trans hg.o).mono (by omega));exact⟨_,l',rfl,hm',hn'.base hB.size,hB.trans (hb3.mono hB.size)⟩
theorem jQge (n:Nat)(ha hb:Sq.Head)(la lb:List (Nd n×Value×Value))(ea ca eb cb:Value)(w:World)(hin:ha.inner=true)(hna:NodesAt Z 0 w ca n la)(hnb:NodesAt Z 0 w cb n lb)(hea:∃a k c,ea=.slice a k c)(heb:∃a k c,eb=.slice a k c)(hla:la.length<=400)(hlb:lb.length<=400)(hsm:smallRows n (la++lb))(hZ:∀g,w.heap.size<=g->¬Z g) :
  Calls Tryz.prog 225 #[.agg (headCells ha ea ca).toArray,.agg (headCells hb eb cb).toArray] w fun e w'=>∃v l,e=.returned v/\l.map Prod.fst=Sq.innersF (headN n) ((la++lb).map Prod.fst)/\NodesAt Z w.heap.size w' v (n+1) l/\Below w.heap.size w w':=by
 obtain⟨ao,acap,rfl⟩:=jQa hna.own;obtain⟨bo,bcap,rfl⟩:=jQa hnb.own;obtain⟨x1,x2,x3,rfl⟩:=hea;obtain⟨y1,y2,y3,rfl⟩:=heb;rw[jQc,jQc,hin];have he:exch la la.length 0 lb=la++lb:=by unfold exch;simp
 have hW:∀o o2,Below w.heap.size w ((w.alloc o).alloc o2):=fun o o2=>((bR).alloc (nR) _).alloc (by simp) _
 have HW:=hd hW;have HA:=hd hna;have HB:=hd hnb;have hf:=hd he;have hi:=hd hsm;have HZ:=hd hZ;clear hna hnb hW hin he hsm hZ;go_enter Tryz.func225,Tryz.ntmps225;go_wp2_with fail;refine(jQav n la lb _ _ la.length 0 _ (HA.o.below (HW.o _ _)) (HB.o.below (HW.o _ _)) (by omega) (by omega) (by omega) (by omega)).mono ?_;rintro e w3 ⟨v3,rfl,hn3,hb3⟩;rw[hf.o] at hn3;have hh:=hd hn3;have hc:=hd ((HW.o _ _).trans (hb3.mono (by simp;omega)));clear hn3 hb3;go_wp2_with fail;refine(jQhY n (la++lb) _ _ (hh.o.base (zR)) (by rw[List.length_append];omega) hi.o (fun g hg=>HZ.o g (by have:=hc.o.size;omega))).mono ?_;rintro e w4 ⟨v4,k4,rfl,hm4,hn4,hb4⟩;go_wp2;go_ret;exact⟨_,k4,rfl,hm4,hn4.base hc.o.size,hc.o.trans (hb4.mono hc.o.size)⟩
theorem jQix (K:Int):∀(n:Nat) (a b:Nd n) (ea ca eb cb:Value) (w:World),NodeAt Z w n a ea ca->NodeAt Z w n b eb cb->Sq.tameN K n a->Sq.tameN K n b->(headN n a).rows<=900000000->(headN n b).rows<=900000000->(∀g,w.heap.size<=g->¬Z g) ->
  Calls Tryz.prog 225 #[.agg (headCells (headN n a) ea ca).toArray,.agg (headCells (headN n b) eb cb).toArray] w fun e w'=>∃v l,e=.returned v/\l.map Prod.fst=Sq.togetherN n a b/\NodesAt Z w.heap.size w' v n l/\Below w.heap.size w w'
 | 0,a,b,ea,ca,eb,cb,w,ha,hb,ta,tb,_,_,_=>by
  obtain⟨h1,h2⟩:=ha.leaf;obtain⟨h3,h4⟩:=hb.leaf;have e1:=ta.at0.ents;have e2:=tb.at0.ents;cases hin:(Sq.NodeF.hd a).inner with
  | false =>
   have e:Sq.togetherN 0 a b=leavesM 0 (Sq.NodeF.ents a++Sq.NodeF.ents b):=by
    show Sq.togetherF _ a b=_;unfold Sq.togetherF;rw[hin];rfl
   rw[e];exact jQdn 0 (Sq.NodeF.hd a) (Sq.NodeF.hd b) _ _ ea ca eb cb w hin h1 h3 (NodeAt.slices ha).2 (NodeAt.slices hb).2 (by omega) (by omega)
  | true=>rw[ta.leaf0] at hin;cases hin
 | n+1,a,b,ea,ca,eb,cb,w,ha,hb,ta,tb,ra,rb,hZ=>by
  obtain⟨h1,la,h2,h3⟩:=ha.inner;obtain⟨g1,lb,g2,g3⟩:=hb.inner;have e1:=ta.at1.ents;have e2:=tb.at1.ents;have k1:=ta.at1.kids;have k2:=tb.at1.kids;cases hin:(Sq.NodeF.hd a).inner with
  | false =>
   have e:Sq.togetherN (n+1) a b=leavesM (n+1) (Sq.NodeF.ents a++Sq.NodeF.ents b):=by
    show Sq.togetherF _ a b=_;unfold Sq.togetherF;rw[hin];rfl
   rw[e];exact jQdn (n+1) (Sq.NodeF.hd a) (Sq.NodeF.hd b) _ _ ea ca eb cb w hin h1 g1 (NodeAt.slices ha).2 (NodeAt.slices hb).2 (by omega) (by omega)
  | true =>
   have e:Sq.togetherN (n+1) a b=Sq.innersF (headN n) ((la++lb).map Prod.fst):=by
    show Sq.togetherF _ a b=_;unfold Sq.togetherF;rw[hin,h2,g2,List.map_append];rfl
   rw[e]
   have he:smallRows n (la++lb):=by
    intro x hx;rcases List.mem_append.1 hx with hx | hx
    ·have hm:x.1∈Sq.NodeF.kids a:=by rw[h2];exact List.mem_map.2 ⟨x,hx,rfl⟩
     have p1:=Sq.jQaZ (headN n) (fun c hc=>(ta.at1.each c hc).head.2.1) hm;have p2:=(ta.at1.inn hin).1;have p3:(headN (n+1) a).rows=(Sq.NodeF.hd a).rows:=rfl;exact⟨(ta.at1.each _ hm).head.2.1,by omega⟩
    ·have hm:x.1∈Sq.NodeF.kids b:=by rw[g2];exact List.mem_map.2 ⟨x,hx,rfl⟩
     have p1:=Sq.jQaZ (headN n) (fun c hc=>(tb.at1.each c hc).head.2.1) hm;cases hib:(Sq.NodeF.hd b).inner with
     | true =>
      have p2:=(tb.at1.inn hib).1;have p3:(headN (n+1) b).rows=(Sq.NodeF.hd b).rows:=rfl;exact⟨(tb.at1.each _ hm).head.2.1,by omega⟩
     | false =>
      rw[(tb.at1.lf hib).2] at hm;cases hm
   rw[h2,List.length_map] at k1;rw[g2,List.length_map] at k2;exact jQge n (Sq.NodeF.hd a) (Sq.NodeF.hd b) la lb ea ca eb cb w hin h3 g3 (NodeAt.slices ha).1 (NodeAt.slices hb).1 (by omega) (by omega) he hZ
end
end Go.Proofs.YtahpihjialbanaaGreatDoor
