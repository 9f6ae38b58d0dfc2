import Derived.Test.YtahpihjialbanaaGreatDoorQar
set_option linter.unusedVariables false
set_option linter.unusedSimpArgs false
set_option maxRecDepth 100000
set_option maxHeartbeats 4000000
namespace Go.Proofs.YtahpihjialbanaaGreatDoor
open Sq (headN Nd Trl touchR exch)
section
open Go.RowKit
variable {Z:Nat->Prop}
def ListSays (Z:Nat->Prop)(tb n:Nat)(x:List (Nd n)×Trl)(w:World)(e:Ending)(w':World):Prop:=∃v k,e=.returned v/\k.map Prod.fst=x.1/\NodesAt Z 0 w' v n k/\TrAt tb w' x.2/\TFrm tb w w'
theorem jQnz {α:Type}(f:α->Sq.Head)(tg:α->α->List α)(cs:List α)(a b:Nat)(tr:Trl)(h2:b+1<cs.length)(hb:b=Sq.joinAt cs.length a)(hne:¬(a+1=cs.length/\a=0)):Sq.joinedF f tg cs a tr=(exch cs b 2 (tg cs[b] cs[b+1]),touchR (touchR tr (f cs[b])) (f cs[b+1])):=by
 unfold Sq.joinedF;rw[<-hb,if_neg (by simpa using hne),List.getElem?_eq_getElem (by omega),List.getElem?_eq_getElem (by omega)]
theorem jQnv (n:Nat)(l:List (Nd n×Value×Value))(v:Value)(a:Nat)(tb:Nat)(tr:Trl)(w:World)(h:NodesAt Z 0 w v n l)(hl:l.length<=400)(h2:2<=l.length)(ha:a<l.length)(ht:TrAt tb w tr)(hroom:tr.nums.length+2<=100000)(htl:∀x∈l,∀y∈l,(Sq.togetherN n x.1 y.1).length<=2)
  (htog:∀x∈l,∀y∈l,∀w',NodeAt Z w' n x.1 x.2.1 x.2.2->NodeAt Z w' n y.1 y.2.1 y.2.2->w.heap.size<=w'.heap.size->Calls Tryz.prog 225 #[.agg (nodeCells n x).toArray,.agg (nodeCells n y).toArray] w' fun e w''=>∃v l,e=.returned v/\l.map Prod.fst=Sq.togetherN n x.1 y.1/\NodesAt Z w'.heap.size w'' v n l/\Below w'.heap.size w' w'') :
  Calls Tryz.prog 212 #[v,.int .i64 a,.pointer (some ⟨tb,0,none⟩)] w (ListSays Z tb n (Sq.joinedF (headN n) (Sq.togetherN n) (l.map Prod.fst) a tr) w):=by
 obtain⟨ao,acap,rfl⟩:=jQa h.own;obtain⟨b,hb⟩:∃b,b=(if a+1==l.length then a-1 else a):=⟨_,rfl⟩
 have hA:b+1<l.length:=by
  rw[hb]
  by_cases h:a+1=l.length
  ·simp[h];omega
  ·simp[h];omega
 have HE:Hid (Sq.joinedF (headN n) (Sq.togetherN n) (l.map Prod.fst) a tr=(exch (l.map Prod.fst) b 2 (Sq.togetherN n l[b].1 l[b+1].1),touchR (touchR tr (headN n l[b].1)) (headN n l[b+1].1))):=by
  show _=_;rw[jQnz (headN n) (Sq.togetherN n) (l.map Prod.fst) a b tr (by simpa using hA) (by unfold Sq.joinAt;simpa using hb) (by rw[List.length_map];omega),List.getElem_map,List.getElem_map]
 obtain⟨g,cap',ea,el,ec,ca,cl,cc,hv,hg,⟨d0,d1,d2,d3,d4,dsl,dnu⟩,d5,d6⟩:=h.at b (by omega);simp only[Value.slice.injEq] at hv;obtain⟨rfl,-,rfl⟩:=hv;obtain⟨g2,cap2,ea2,el2,ec2,ca2,cl2,cc2,hv2,hg2,⟨e0,e1,e2,e3,e4,esl,enu⟩,e5,e6⟩:=h.at (b+1) hA;simp only[Value.slice.injEq,Option.some.injEq,Addr.mk.injEq] at hv2;obtain⟨⟨rfl,-,-⟩,-,rfl⟩:=hv2;have hz:=List.getElem_mem (l:=l) (n:=b) (by omega);have hD:=List.getElem_mem hA;have ho:=htl _ hz _ hD;have hk:=htog _ hz _ hD;obtain⟨t1,ht1⟩:∃x,x=l[b]:=⟨_,rfl⟩;obtain⟨t2,ht2⟩:∃x,x=l[b+1]:=⟨_,rfl⟩;have he:=HE.o;rw[<-ht1] at he d0 d3 d4 dsl dnu d5 d6 ho hk;rw[<-ht2] at he e0 e3 e4 esl enu e5 e6 ho hk;obtain⟨t1,evx,cvx⟩:=t1;obtain⟨t2,evy,cvy⟩:=t2;simp only[Prod.mk.injEq] at d5 e5;obtain⟨rfl,rfl⟩:=d5;obtain⟨rfl,rfl⟩:=e5;simp only at he d0 d3 d4 dsl dnu d6 e0 e3 e4 esl enu e6 ho hk;have hO:=jQo5 h.own
 obtain⟨cur,hcur⟩:∃cur:Array Value,w.heap[g]?=some (.cells cur 60):=by
  rcases h.own.2 with⟨h0,_⟩ | ⟨g',cap,cur,hv,hbg,hh,_⟩
  ·simp at h0
  ·simp only[Value.slice.injEq,Option.some.injEq,Addr.mk.injEq] at hv;rw[hv.1.1];exact⟨cur,hh⟩
 have hH:=hd he;have H:=hd h;have hx:=hd d6;have hw:=hd e6;have hI:=hd ho;have hK:=hd hk;have HT:=hd ht;have hc:=hd hcur;have hP:=ht.lt;have i1:¬((l.length:Int)<=(b:Int)):=by omega
 have i2:¬((l.length:Int)<=(b:Int)+1):=by omega
 have i3:¬((b:Int)<0):=by omega
 have i4:decide ((b:Int)<0)=false:=by simp
 have i6:IntKind.i64.wrap ((b:Int)+1)=((b+1:Nat):Int):=by simp[IntKind.wrap,IntKind.bits,IntKind.signed];omega
 have i5:decide ((l.length:Int)<=(b:Int)+1)=false:=by simp;omega
 obtain⟨h1,hh1⟩:∃x,x=headN n t1:=⟨_,rfl⟩;obtain⟨h2',hh2⟩:∃x,x=headN n t2:=⟨_,rfl⟩;rw[<-hh1] at d0 d3 d4 dsl dnu;rw[<-hh2] at e0 e3 e4 esl enu;have hF:=hH.o;have hn:nodeCells n (t1,.slice ea el ec,.slice ca cl cc)=headCells h1 (.slice ea el ec) (.slice ca cl cc):=by rw[hh1];rfl
 have hm:nodeCells n (t2,.slice ea2 el2 ec2,.slice ca2 cl2 cc2)=headCells h2' (.slice ea2 el2 ec2) (.slice ca2 cl2 cc2):=by rw[hh2];rfl
 rw[<-hh1,<-hh2] at hF;have hG:=hK.o;rw[hn,hm,jQc,jQc] at hG;have hu:=hd hF;have hs:=hd hG;have hJ:=jQoI tr h1;clear h he hF HE hH ht1 ht2 d6 e6 ho hk htog htl hz hD ht hcur hK hh1 hh2 hn hm hG
 by_cases hal:a+1=l.length
 ·have hB:b=a-1:=by rw[hb];simp[hal]
  have j1:((a:Int)==(l.length:Int)-1)=true:=by simp;omega
  have j2:(a:Int)-1=(b:Int):=by omega
  clear hb hB;go_enter Tryz.func212,Tryz.ntmps212;go_wp2_with fail;refine(jQag tb tr h1 _ _ w ⟨_,_,_,rfl⟩ ⟨_,_,_,rfl⟩ HT.o (by omega)).mono ?_;rintro e w1 ⟨rfl,ht1,hf1⟩;have hi:=(hf1.keep g _ _ _ hc.o (by decide) (by decide)).trans hc.o;obtain⟨a0,a1,a2,a3,a4,a5,a6⟩:SevenAt w1 g ((b+1)*7) h2' (.slice ea2 el2 ec2) (.slice ca2 cl2 cc2):=⟨by rw[jQb hi,<-jQb hc.o];exact e0,by rw[jQb hi,<-jQb hc.o];exact e1,by rw[jQb hi,<-jQb hc.o];exact e2,by rw[jQb hi,<-jQb hc.o];exact e3,by rw[jQb hi,<-jQb hc.o];exact e4,by rw[jQb hi,<-jQb hc.o];exact esl,by rw[jQb hi,<-jQb hc.o];exact enu⟩;have hM:=jQf hi;have T1:=hd ht1;have F1:=hd hf1;clear hi ht1 hf1;go_wp2_with fail;refine(jQag tb (touchR tr h1) h2' _ _ w1 ⟨_,_,_,rfl⟩ ⟨_,_,_,rfl⟩ T1.o (by omega)).mono ?_;rintro e w2 ⟨rfl,ht2,hf2⟩;have hj:=F1.o.trans hf2;have hf:=(hj.keep g _ _ _ hc.o (by decide) (by decide)).trans hc.o;obtain⟨b0,b1,b2,b3,b4,b5,b6⟩:SevenAt w2 g ((b+1)*7) h2' (.slice ea2 el2 ec2) (.slice ca2 cl2 cc2):=⟨by rw[jQb hf,<-jQb hc.o];exact e0,by rw[jQb hf,<-jQb hc.o];exact e1,by rw[jQb hf,<-jQb hc.o];exact e2,by rw[jQb hf,<-jQb hc.o];exact e3,by rw[jQb hf,<-jQb hc.o];exact e4,by rw[jQb hf,<-jQb hc.o];exact esl,by rw[jQb hf,<-jQb hc.o];exact enu⟩;obtain⟨c0,c1,c2,c3,c4,c5,c6⟩:SevenAt w2 g (b*7) h1 (.slice ea el ec) (.slice ca cl cc):=⟨by rw[jQb hf,<-jQb hc.o];exact d0,by rw[jQb hf,<-jQb hc.o];exact d1,by rw[jQb hf,<-jQb hc.o];exact d2,by rw[jQb hf,<-jQb hc.o];exact d3,by rw[jQb hf,<-jQb hc.o];exact d4,by rw[jQb hf,<-jQb hc.o];exact dsl,by rw[jQb hf,<-jQb hc.o];exact dnu⟩;have hN:=jQf hf;have T2:=hd ht2;have F2:=hd hj;have H2:=hd (H.o.tfrm hj);have N1:=hd (hx.o.tfrm hj);have N2:=hd (hw.o.tfrm hj);have hE:=hj.below_lt;clear hf ht2 hf2 hj a0 a1 a2 a3 a4 a5 a6 d0 d1 d2 d3 d4 dsl dnu e0 e1 e2 e3 e4 esl enu HT T1 F1 H hx hw;go_wp2
  go_region_with (first
   | (go_at_call 225;refine(hs.o w2.drew (N1.o.below (Below.drew (bR))) (N2.o.below (Below.drew (bR))) hE).mono ?_;rintro e w3 ⟨v3,k,rfl,hm3,hn3,hb3⟩;obtain⟨ko,kcap,rfl⟩:=jQa hn3.own;have hq:Below w2.heap.size w2 w3:=(Below.drew (bR)).trans hb3;have hL:k.length<=2:=(by have h1:=congrArg List.length hm3;rw[List.length_map] at h1;have h2:=hI.o;omega);have hr:=hd hq;have hC:=hd hn3;have hy:=hd hm3;clear hb3 hq hn3 hm3)
   | (go_at_call 210;refine(jQav n l k _ _ b 2 _ (H2.o.below hr.o) (hC.o.base (zR)) (by omega) (by omega) (by omega) (by omega)).mono ?_;rintro e w4 ⟨v4,rfl,hn4,hb4⟩))
  all_goals
   go_wp2;go_ret;have hp:=hr.o.trans (hb4.mono hr.o.size);exact⟨_,exch l b 2 k,rfl,by rw[hu.o,Sq.jQgJ,hy.o],hn4.base (zR),by rw[hu.o];exact T2.o.below hp,F2.o.trans (TFrm.of hp (by have:=T2.o.lt;omega))⟩
 ·have hB:b=a:=by rw[hb];simp[hal]
  subst hB;have j1:((b:Int)==(l.length:Int)-1)=false:=by simp;omega
  clear hb;go_enter Tryz.func212,Tryz.ntmps212;go_wp2_with fail;refine(jQag tb tr h1 _ _ w ⟨_,_,_,rfl⟩ ⟨_,_,_,rfl⟩ HT.o (by omega)).mono ?_;rintro e w1 ⟨rfl,ht1,hf1⟩;have hi:=(hf1.keep g _ _ _ hc.o (by decide) (by decide)).trans hc.o;obtain⟨a0,a1,a2,a3,a4,a5,a6⟩:SevenAt w1 g ((b+1)*7) h2' (.slice ea2 el2 ec2) (.slice ca2 cl2 cc2):=⟨by rw[jQb hi,<-jQb hc.o];exact e0,by rw[jQb hi,<-jQb hc.o];exact e1,by rw[jQb hi,<-jQb hc.o];exact e2,by rw[jQb hi,<-jQb hc.o];exact e3,by rw[jQb hi,<-jQb hc.o];exact e4,by rw[jQb hi,<-jQb hc.o];exact esl,by rw[jQb hi,<-jQb hc.o];exact enu⟩;have hM:=jQf hi;have T1:=hd ht1;have F1:=hd hf1;clear hi ht1 hf1;go_wp2_with fail;refine(jQag tb (touchR tr h1) h2' _ _ w1 ⟨_,_,_,rfl⟩ ⟨_,_,_,rfl⟩ T1.o (by omega)).mono ?_;rintro e w2 ⟨rfl,ht2,hf2⟩;have hj:=F1.o.trans hf2;have hf:=(hj.keep g _ _ _ hc.o (by decide) (by decide)).trans hc.o;obtain⟨b0,b1,b2,b3,b4,b5,b6⟩:SevenAt w2 g ((b+1)*7) h2' (.slice ea2 el2 ec2) (.slice ca2 cl2 cc2):=⟨by rw[jQb hf,<-jQb hc.o];exact e0,by rw[jQb hf,<-jQb hc.o];exact e1,by rw[jQb hf,<-jQb hc.o];exact e2,by rw[jQb hf,<-jQb hc.o];exact e3,by rw[jQb hf,<-jQb hc.o];exact e4,by rw[jQb hf,<-jQb hc.o];exact esl,by rw[jQb hf,<-jQb hc.o];exact enu⟩;obtain⟨c0,c1,c2,c3,c4,c5,c6⟩:SevenAt w2 g (b*7) h1 (.slice ea el ec) (.slice ca cl cc):=⟨by rw[jQb hf,<-jQb hc.o];exact d0,by rw[jQb hf,<-jQb hc.o];exact d1,by rw[jQb hf,<-jQb hc.o];exact d2,by rw[jQb hf,<-jQb hc.o];exact d3,by rw[jQb hf,<-jQb hc.o];exact d4,by rw[jQb hf,<-jQb hc.o];exact dsl,by rw[jQb hf,<-jQb hc.o];exact dnu⟩;have hN:=jQf hf;have T2:=hd ht2;have F2:=hd hj;have H2:=hd (H.o.tfrm hj);have N1:=hd (hx.o.tfrm hj);have N2:=hd (hw.o.tfrm hj);have hE:=hj.below_lt;clear hf ht2 hf2 hj a0 a1 a2 a3 a4 a5 a6 d0 d1 d2 d3 d4 dsl dnu e0 e1 e2 e3 e4 esl enu HT T1 F1 H hx hw;go_wp2
  go_region_with (first
   | (go_at_call 225;refine(hs.o w2.drew (N1.o.below (Below.drew (bR))) (N2.o.below (Below.drew (bR))) hE).mono ?_;rintro e w3 ⟨v3,k,rfl,hm3,hn3,hb3⟩;obtain⟨ko,kcap,rfl⟩:=jQa hn3.own;have hq:Below w2.heap.size w2 w3:=(Below.drew (bR)).trans hb3;have hL:k.length<=2:=(by have h1:=congrArg List.length hm3;rw[List.length_map] at h1;have h2:=hI.o;omega);have hr:=hd hq;have hC:=hd hn3;have hy:=hd hm3;clear hb3 hq hn3 hm3)
   | (go_at_call 210;refine(jQav n l k _ _ b 2 _ (H2.o.below hr.o) (hC.o.base (zR)) (by omega) (by omega) (by omega) (by omega)).mono ?_;rintro e w4 ⟨v4,rfl,hn4,hb4⟩))
  all_goals
   go_wp2;go_ret;have hp:=hr.o.trans (hb4.mono hr.o.size);exact⟨_,exch l b 2 k,rfl,by rw[hu.o,Sq.jQgJ,hy.o],hn4.base (zR),by rw[hu.o];exact T2.o.below hp,F2.o.trans (TFrm.of hp (by have:=T2.o.lt;omega))⟩
theorem jQnx (n:Nat)(l:List (Nd n×Value×Value))(v:Value)(tb:Nat)(tr:Trl)(w:World)(h:NodesAt Z 0 w v n l)(hl:l.length=1)(ht:TrAt tb w tr) :
  Calls Tryz.prog 212 #[v,.int .i64 (0:Nat),.pointer (some ⟨tb,0,none⟩)] w (ListSays Z tb n (Sq.joinedF (headN n) (Sq.togetherN n) (l.map Prod.fst) 0 tr) w):=by
 obtain⟨ao,acap,rfl⟩:=jQa h.own
 have HE:Hid (Sq.joinedF (headN n) (Sq.togetherN n) (l.map Prod.fst) 0 tr=(l.map Prod.fst,tr)):=by
  show _=_;unfold Sq.joinedF;rw[List.length_map,hl];rfl
 have H:=hd h;have HT:=hd ht;rw[hl] at h ⊢;have ha:=ht.lt;have HL:=hd hl;clear h ht hl;go_enter Tryz.func212,Tryz.ntmps212;go_wp2;go_ret;exact⟨_,l,rfl,by rw[HE.o],by have:=H.o;rw[HL.o] at this;exact this,by rw[HE.o];exact HT.o,TFrm.refl _ _⟩
end
end Go.Proofs.YtahpihjialbanaaGreatDoor
