import Derived.Test.YtahpihjialbanaaGreatDoorQag
set_option linter.all false
set_option maxRecDepth 100000
set_option maxHeartbeats 8000000
namespace Go.Proofs.YtahpihjialbanaaGreatDoor
open Sq (aa af Nd Trl Ent takeN aj aF aC Rd aT aV bB aw bg aN bD bm aH aS ar bG bL bN bU br cf jAD jAI jAK jAT jAk jAq jBc jC0 jC5 jCb jCj jDP jDs jDu jEO jEZ jGw jHq jHx jJf jLP jQo)
variable {B b n tb:Nat}{a:Act}{c:Array Value}{cv ev v:Value}{o:Oper}{w w' w1:World}{α:Type}
section
open Go.RowKit
variable {Z:Nat->Prop}
def jGd (Z:Nat->Prop)(tb n:Nat)(x:List (Nd n)×Trl)(w:World)(e:Ending)(w':World):Prop:=∃v k,e=.returned v/\k.map Prod.fst=x.1/\aB Z 0 w' v n k/\bk tb w' x.2/\aA tb w w'
theorem jZd (f:α->Sq.Head)(tg:α->α->List α)(cs:List α)(a b:Nat)(tr:Trl)(h2:b+1<cs.length)(hb:b=jDs cs.length a)(ha:¬(a+1=cs.length/\a=0)):jAI f tg cs a tr=(bm cs b 2 (tg cs[b] cs[b+1]),aC (aC tr (f cs[b])) (f cs[b+1])):=by
 unfold jAI;rw[<-hb,cy (by simpa using ha),cz (by omega),cz (by omega)]
theorem jY9 (n:Nat)(l:List (Nd n×Value×Value))(v:Value)(a:Nat)(tb:Nat)(tr:Trl)(w:World)(h:aB Z 0 w v n l)(hl:l.length<=400)(h2:2<=l.length)(ha:a<l.length)(ht:bk tb w tr)(Hi:tr.bc.length+2<=100000)(Hj:∀x∈l,∀y∈l,(jAk n x.1 y.1).length<=2)
  (Hc:∀x∈l,∀y∈l,∀w',ag Z w' n x.1 x.2.1 x.2.2->ag Z w' n y.1 y.2.1 y.2.2->w.heap.size<=w'.heap.size->Calls Tryz.prog 225 #[.agg (au n x).toArray,.agg (au n y).toArray] w' fun e Hl=>∃v l,e=.returned v/\l.map Prod.fst=jAk n x.1 y.1/\aB Z w'.heap.size Hl v n l/\Below w'.heap.size w' Hl) :
  Calls Tryz.prog 212 #[v,.int .i64 a,.pointer (some ⟨tb,0,none⟩)] w (jGd Z tb n (jAI (aa n) (jAk n) (l.map Prod.fst) a tr) w):=by
 obtain⟨ao,Hm,rfl⟩:=jQa h.own;obtain⟨b,hb⟩:∃b,b=(if a+1==l.length then a-1 else a):=⟨_,rfl⟩
 have hA:b+1<l.length:=by
  rw[hb]
  by_cases h:a+1=l.length
  ·simp[h];omega
  simp[h];omega
 have HE:Hid (jAI (aa n) (jAk n) (l.map Prod.fst) a tr=(bm (l.map Prod.fst) b 2 (jAk n l[b].1 l[b+1].1),aC (aC tr (aa n l[b].1)) (aa n l[b+1].1))):=by
  show _=_;rw[jZd (aa n) (jAk n) (l.map Prod.fst) a b tr (by simpa using hA) (by unfold jDs;simpa using hb) (by rw[cF];omega),da,da]
 obtain⟨g,Hn,ea,el,ec,ca,cl,cc,hv,hg,⟨d0,d1,d2,d3,d4,hV,hU⟩,d5,d6⟩:=h.at b (by omega);obtain⟨rfl,-,rfl⟩:=sI hv;obtain⟨g2,Ho,h6,h8,h7,h3,h5,h4,Hk,Ht,⟨e0,e1,e2,e3,e4,hR,hQ⟩,e5,e6⟩:=h.at (b+1) hA;simp only[Value.slice.injEq,Option.some.injEq,Addr.mk.injEq] at Hk;obtain⟨⟨rfl,-,-⟩,-,rfl⟩:=Hk;have hD:=cJ (l:=l) (n:=b) (by omega);have hE:=cJ hA;have hq:=Hj _ hD _ hE;have hk:=Hc _ hD _ hE;obtain⟨t1,hS⟩:∃x,x=l[b]:=⟨_,rfl⟩;obtain⟨t2,hT⟩:∃x,x=l[b+1]:=⟨_,rfl⟩;have he:=HE.o;rw[<-hS] at he d0 d3 d4 hV hU d5 d6 hq hk;rw[<-hT] at he e0 e3 e4 hR hQ e5 e6 hq hk;obtain⟨t1,Hr,Hp⟩:=t1;obtain⟨t2,Hs,Hq⟩:=t2;simp only[Prod.mk.injEq] at d5 e5;obtain⟨rfl,rfl⟩:=d5;obtain⟨rfl,rfl⟩:=e5;simp only at he d0 d3 d4 hV hU d6 e0 e3 e4 hR hQ e6 hq hk;have hO:=jL9 h.own
 obtain⟨cur,Ha⟩:∃cur:Array Value,w.heap[g]?=some (.cells cur 60):=by
  rcases h.own.2 with⟨h0,_⟩ | ⟨g',cap,cur,hv,hbg,hh,_⟩
  ·simp at h0
  simp only[Value.slice.injEq,Option.some.injEq,Addr.mk.injEq] at hv;rw[hv.1.1];exact⟨cur,hh⟩
 have hH:=hd he;have H:=hd h;have hw:=hd d6;have hx:=hd e6;have hJ:=hd hq;have hI:=hd hk;have HT:=hd ht;have hc:=hd Ha;have hP:=ht.lt;have i1:¬((l.length:Int)<=(b:Int)):=by omega
 have i2:¬((l.length:Int)<=(b:Int)+1):=by omega
 have i3:¬((b:Int)<0):=by omega
 have i4:decide ((b:Int)<0)=false:=by simp
 have i6:IntKind.i64.wrap ((b:Int)+1)=((b+1:Nat):Int):=by simp[IntKind.wrap,IntKind.bits,IntKind.signed];omega
 have i5:decide ((l.length:Int)<=(b:Int)+1)=false:=by simp;omega
 obtain⟨h1,Hd⟩:∃x,x=aa n t1:=⟨_,rfl⟩;obtain⟨hW,He⟩:∃x,x=aa n t2:=⟨_,rfl⟩;rw[<-Hd] at d0 d3 d4 hV hU;rw[<-He] at e0 e3 e4 hR hQ;have hC:=hH.o;have ho:au n (t1,.slice ea el ec,.slice ca cl cc)=ae h1 (.slice ea el ec) (.slice ca cl cc):=by rw[Hd];rfl
 have hp:au n (t2,.slice h6 h8 h7,.slice h3 h5 h4)=ae hW (.slice h6 h8 h7) (.slice h3 h5 h4):=by rw[He];rfl
 rw[<-Hd,<-He] at hC;have hG:=hI.o;rw[ho,hp,jQc,jQc] at hG;have hu:=hd hC;have hs:=hd hG;have hK:=jZA tr h1;clear h he hC HE hH hS hT d6 e6 hq hk Hc Hj hD hE ht Ha hI Hd He ho hp hG
 by_cases hal:a+1=l.length
 ·have hB:b=a-1:=by rw[hb];simp[hal]
  have j1:((a:Int)==(l.length:Int)-1)=true:=by simp;omega
  have j2:(a:Int)-1=(b:Int):=by omega
  clear hb hB;go_enter Tryz.func212,Tryz.ntmps212;go_wp2_with fail;refine(jF2 tb tr h1 _ _ w ⟨_,_,_,rfl⟩ ⟨_,_,_,rfl⟩ HT.o (by omega)).mono ?_;rintro e w1 ⟨rfl,hS,hX⟩;have hi:=(hX.bC g _ _ _ hc.o (by decide) (by decide)).trans hc.o;obtain⟨a0,a1,a2,a3,a4,a5,a6⟩:aP w1 g ((b+1)*7) hW (.slice h6 h8 h7) (.slice h3 h5 h4):=⟨by rw[jQb hi,<-jQb hc.o];exact e0,by rw[jQb hi,<-jQb hc.o];exact e1,by rw[jQb hi,<-jQb hc.o];exact e2,by rw[jQb hi,<-jQb hc.o];exact e3,by rw[jQb hi,<-jQb hc.o];exact e4,by rw[jQb hi,<-jQb hc.o];exact hR,by rw[jQb hi,<-jQb hc.o];exact hQ⟩;have hM:=jQe hi;have T1:=hd hS;have F1:=hd hX;clear hi hS hX;go_wp2_with fail;refine(jF2 tb (aC tr h1) hW _ _ w1 ⟨_,_,_,rfl⟩ ⟨_,_,_,rfl⟩ T1.o (by omega)).mono ?_;rintro e w2 ⟨rfl,hT,Hb⟩;have hj:=F1.o.trans Hb;have hf:=(hj.bC g _ _ _ hc.o (by decide) (by decide)).trans hc.o;obtain⟨b0,b1,b2,b3,b4,b5,b6⟩:aP w2 g ((b+1)*7) hW (.slice h6 h8 h7) (.slice h3 h5 h4):=⟨by rw[jQb hf,<-jQb hc.o];exact e0,by rw[jQb hf,<-jQb hc.o];exact e1,by rw[jQb hf,<-jQb hc.o];exact e2,by rw[jQb hf,<-jQb hc.o];exact e3,by rw[jQb hf,<-jQb hc.o];exact e4,by rw[jQb hf,<-jQb hc.o];exact hR,by rw[jQb hf,<-jQb hc.o];exact hQ⟩;obtain⟨c0,c1,c2,c3,c4,c5,c6⟩:aP w2 g (b*7) h1 (.slice ea el ec) (.slice ca cl cc):=⟨by rw[jQb hf,<-jQb hc.o];exact d0,by rw[jQb hf,<-jQb hc.o];exact d1,by rw[jQb hf,<-jQb hc.o];exact d2,by rw[jQb hf,<-jQb hc.o];exact d3,by rw[jQb hf,<-jQb hc.o];exact d4,by rw[jQb hf,<-jQb hc.o];exact hV,by rw[jQb hf,<-jQb hc.o];exact hU⟩;have hN:=jQe hf;have T2:=hd hT;have F2:=hd hj;have H2:=hd (H.o.bX hj);have N1:=hd (hw.o.bX hj);have N2:=hd (hx.o.bX hj);have hF:=hj.jBC;clear hf hT Hb hj a0 a1 a2 a3 a4 a5 a6 d0 d1 d2 d3 d4 hV hU e0 e1 e2 e3 e4 hR hQ HT T1 F1 H hw hx;go_wp2
  go_region_with (first
   | (go_at_call 225;refine(hs.o w2.drew (N1.o.below (cB bR)) (N2.o.below (cB bR)) hF).mono ?_;rintro e w3 ⟨v3,k,rfl,hY,hZ,h9⟩;obtain⟨ko,Hh,rfl⟩:=jQa hZ.own;have hm:Below w2.heap.size w2 w3:=(cB bR).trans h9;have hL:k.length<=2:=(by have h1:=congrArg List.length hY;rw[cF] at h1;have h2:=hJ.o;omega);have hr:=hd hm;have hz:=hd hZ;have hy:=hd hY;clear h9 hm hZ hY)
   | (go_at_call 210;refine(jJP n l k _ _ b 2 _ (H2.o.below hr.o) (hz.o.base zR) (by omega) (by omega) (by omega) (by omega)).mono ?_;rintro e w4 ⟨v4,rfl,Hg,Hf⟩))
  all_goals
   go_wp2;go_ret;have hn:=hr.o.trans (Hf.mono hr.o.size);exact⟨_,bm l b 2 k,rfl,by rw[hu.o,jLP,hy.o],Hg.base zR,by rw[hu.o];exact T2.o.below hn,F2.o.trans (aA.of hn (by have:=T2.o.lt;omega))⟩
 have hB:b=a:=by rw[hb];simp[hal]
 subst hB;have j1:((b:Int)==(l.length:Int)-1)=false:=by simp;omega
 clear hb;go_enter Tryz.func212,Tryz.ntmps212;go_wp2_with fail;refine(jF2 tb tr h1 _ _ w ⟨_,_,_,rfl⟩ ⟨_,_,_,rfl⟩ HT.o (by omega)).mono ?_;rintro e w1 ⟨rfl,hS,hX⟩;have hi:=(hX.bC g _ _ _ hc.o (by decide) (by decide)).trans hc.o;obtain⟨a0,a1,a2,a3,a4,a5,a6⟩:aP w1 g ((b+1)*7) hW (.slice h6 h8 h7) (.slice h3 h5 h4):=⟨by rw[jQb hi,<-jQb hc.o];exact e0,by rw[jQb hi,<-jQb hc.o];exact e1,by rw[jQb hi,<-jQb hc.o];exact e2,by rw[jQb hi,<-jQb hc.o];exact e3,by rw[jQb hi,<-jQb hc.o];exact e4,by rw[jQb hi,<-jQb hc.o];exact hR,by rw[jQb hi,<-jQb hc.o];exact hQ⟩;have hM:=jQe hi;have T1:=hd hS;have F1:=hd hX;clear hi hS hX;go_wp2_with fail;refine(jF2 tb (aC tr h1) hW _ _ w1 ⟨_,_,_,rfl⟩ ⟨_,_,_,rfl⟩ T1.o (by omega)).mono ?_;rintro e w2 ⟨rfl,hT,Hb⟩;have hj:=F1.o.trans Hb;have hf:=(hj.bC g _ _ _ hc.o (by decide) (by decide)).trans hc.o;obtain⟨b0,b1,b2,b3,b4,b5,b6⟩:aP w2 g ((b+1)*7) hW (.slice h6 h8 h7) (.slice h3 h5 h4):=⟨by rw[jQb hf,<-jQb hc.o];exact e0,by rw[jQb hf,<-jQb hc.o];exact e1,by rw[jQb hf,<-jQb hc.o];exact e2,by rw[jQb hf,<-jQb hc.o];exact e3,by rw[jQb hf,<-jQb hc.o];exact e4,by rw[jQb hf,<-jQb hc.o];exact hR,by rw[jQb hf,<-jQb hc.o];exact hQ⟩;obtain⟨c0,c1,c2,c3,c4,c5,c6⟩:aP w2 g (b*7) h1 (.slice ea el ec) (.slice ca cl cc):=⟨by rw[jQb hf,<-jQb hc.o];exact d0,by rw[jQb hf,<-jQb hc.o];exact d1,by rw[jQb hf,<-jQb hc.o];exact d2,by rw[jQb hf,<-jQb hc.o];exact d3,by rw[jQb hf,<-jQb hc.o];exact d4,by rw[jQb hf,<-jQb hc.o];exact hV,by rw[jQb hf,<-jQb hc.o];exact hU⟩;have hN:=jQe hf;have T2:=hd hT;have F2:=hd hj;have H2:=hd (H.o.bX hj);have N1:=hd (hw.o.bX hj);have N2:=hd (hx.o.bX hj);have hF:=hj.jBC;clear hf hT Hb hj a0 a1 a2 a3 a4 a5 a6 d0 d1 d2 d3 d4 hV hU e0 e1 e2 e3 e4 hR hQ HT T1 F1 H hw hx;go_wp2
 go_region_with (first
  | (go_at_call 225;refine(hs.o w2.drew (N1.o.below (cB bR)) (N2.o.below (cB bR)) hF).mono ?_;rintro e w3 ⟨v3,k,rfl,hY,hZ,h9⟩;obtain⟨ko,Hh,rfl⟩:=jQa hZ.own;have hm:Below w2.heap.size w2 w3:=(cB bR).trans h9;have hL:k.length<=2:=(by have h1:=congrArg List.length hY;rw[cF] at h1;have h2:=hJ.o;omega);have hr:=hd hm;have hz:=hd hZ;have hy:=hd hY;clear h9 hm hZ hY)
  | (go_at_call 210;refine(jJP n l k _ _ b 2 _ (H2.o.below hr.o) (hz.o.base zR) (by omega) (by omega) (by omega) (by omega)).mono ?_;rintro e w4 ⟨v4,rfl,Hg,Hf⟩))
 all_goals
  go_wp2;go_ret;have hn:=hr.o.trans (Hf.mono hr.o.size);exact⟨_,bm l b 2 k,rfl,by rw[hu.o,jLP,hy.o],Hg.base zR,by rw[hu.o];exact T2.o.below hn,F2.o.trans (aA.of hn (by have:=T2.o.lt;omega))⟩
theorem jZb (n:Nat)(l:List (Nd n×Value×Value))(v:Value)(tb:Nat)(tr:Trl)(w:World)(h:aB Z 0 w v n l)(hl:l.length=1)(ht:bk tb w tr) :
  Calls Tryz.prog 212 #[v,.int .i64 (0:Nat),.pointer (some ⟨tb,0,none⟩)] w (jGd Z tb n (jAI (aa n) (jAk n) (l.map Prod.fst) 0 tr) w):=by
 obtain⟨ao,hb,rfl⟩:=jQa h.own
 have HE:Hid (jAI (aa n) (jAk n) (l.map Prod.fst) 0 tr=(l.map Prod.fst,tr)):=by
  show _=_;unfold jAI;rw[cF,hl];rfl
 have H:=hd h;have HT:=hd ht;rw[hl] at h ⊢;have ha:=ht.lt;have HL:=hd hl;clear h ht hl;go_enter Tryz.func212,Tryz.ntmps212;go_wp2;go_ret;exact⟨_,l,rfl,by rw[HE.o],by have:=H.o;rw[HL.o] at this;exact this,by rw[HE.o];exact HT.o,aA.refl _ _⟩
def jER (Z:Nat->Prop)(tb n:Nat)(x:Nd n×Trl)(w:World)(e:Ending)(w':World):Prop:=∃ev cv,e=.returned (.agg (ae (aa n x.1) ev cv).toArray)/\ag Z w' n x.1 ev cv/\bk tb w' x.2/\aA tb w w'
theorem jSE (w:World)(x y:Array Value):∃W,W=(w.alloc (.cells x 60)).alloc (.cells y 60)/\Below w.heap.size w W/\W.heap.size=w.heap.size+2/\W.heap[w.heap.size]?=some (.cells x 60)/\W.heap[w.heap.size+1]?=some (.cells y 60):=by
 refine⟨_,rfl,(bA).alloc (by simp) _,by rw[jQr,jQr],?_,?_⟩
 ·exact((bA).block w.heap.size (by simp)).trans (jQi w _)
 rw[<-jQr w (.cells x 60)];exact jQi _ _
theorem jTc:∀{n:Nat} {w:World} {t:Nd n} {a b:Option Addr} {ek ec ck cc:Nat},ag Z w n t (.slice a ek ec) (.slice b ck cc)->(if(aa n t).inner then ck else ek:Nat)=jCj n t
 | 0,w,t,a,b,ek,ec,ck,cc,h=>by
  obtain⟨h1,h2⟩:=h.leaf;obtain⟨_,_,h3⟩:=jQa h1;simp only[Value.slice.injEq] at h2 h3
  have hk:(t:af Empty).kids.length=0:=by
   cases hq:(t:af Empty).kids with
   | nil=>rfl
   | cons c _=>exact c.elim
  show _=bG t;unfold bG;rw[h2.2.1,h3.2.1,hk];rfl
 | n+1,w,t,a,b,ek,ec,ck,cc,h=>by
  obtain⟨h1,l,h4,h5⟩:=h.inner;obtain⟨_,_,h3⟩:=jQa h1;obtain⟨_,_,h2⟩:=jQa h5.own;simp only[Value.slice.injEq] at h2 h3;show _=bG t;unfold bG;rw[h2.2.1,h3.2.1,h4,cF];rfl
theorem jIM (w:World)(x:Array Value):∃W,W=(w.alloc (.cells x 60)).alloc (.cells jAR 60)/\Below w.heap.size w W/\W.heap.size=w.heap.size+2/\W.heap[w.heap.size]?=some (.cells x 60)/\W.heap[w.heap.size+1]?=some (.cells jAR 60):=by
 refine⟨_,rfl,(bA).alloc (by simp) _,by rw[jQr,jQr],?_,?_⟩
 ·exact((bA).block w.heap.size (by simp)).trans (jQi w _)
 rw[<-jQr w (.cells x 60)];exact jQi _ _
theorem jPD (m:Nat)(h:Sq.Head)(es:List Ent)(ev cv:Value)(p:Int)(tb:Nat)(tr:Trl)(w:World)(hO:h.inner=false)(hI:aM 0 w ev es)(hT:∃a k c,cv=.slice a k c)(hU:es.length<=900)(ht:bk tb w tr)(hE:tr.bc.length+1<=100000) :
  Calls Tryz.prog 169 #[.agg (ae h ev cv).toArray,.int .i64 p,.pointer (some ⟨tb,0,none⟩)] w (jER Z tb m (jD6 m (es.filter fun x=>x.place != p),aC tr h) w):=by
 obtain⟨eo,hH,rfl⟩:=jQa hI;obtain⟨co,cl,hG,rfl⟩:=hT;rw[jQc];have hx:=ht.lt;have hq:=hd hO;clear hO;obtain⟨W,hN,hW,hS,hA,hD⟩:=jIM w #[.bool h.inner,.slice eo es.length hH,.slice co cl hG,.int .i64 h.least,.int .i64 h.rows,.string h.sl,.int .i64 h.num];have HT:=hd (ht.below hW);have HF:Hid (aA tb w W):=aA.of hW (by omega);have hf:=hd hA;have hh:=hd hD;have hn:=hd (hI.below hW);obtain⟨a0,a1,a2,a3,a4,a5,a6⟩:=aP.jCq (h:=h) hA;have hw:=jQe hA;clear ht hW hA hI hD hS;go_enter Tryz.func169,Tryz.ntmps169;go_wp2_with fail;rw[<-show jAR=#[.bool false,.slice none 0 0,.slice none 0 0,.int .i64 0,.int .i64 0,.string ⟨#[]⟩,.int .i64 0] from rfl,<-hN];clear hN;refine(jF2 tb tr h _ _ W ⟨_,_,_,rfl⟩ ⟨_,_,_,rfl⟩ HT.o hE).mono ?_;rintro e w1 ⟨rfl,hQ,hC⟩;have hb:=(hC.bC w.heap.size _ _ _ hf.o (by decide) (by decide)).trans hf.o;have hc:=(hC.bC (w.heap.size+1) _ _ _ hh.o (by decide) (by decide)).trans hh.o;have T1:=hd hQ;have F1:Hid (aA tb w w1):=HF.o.trans hC;have hR:=hd (hn.o.bX hC);obtain⟨n0,n1,n2,n3,n4,n5,n6⟩:=aP.jCq (h:=h) hb;rw[hq.o] at n0;have hv:=jQe hb;have hm:=jQe hc;have hj:=hd hc;clear a0 a1 a2 a3 a4 a5 a6 hw HT HF hf hh hn hQ hC hb hc n2 n3 n4 n5 n6;go_wp2_with fail;refine(jXE es p _ _ hR.o (by omega)).mono ?_;rintro e w2 ⟨v2,rfl,hP,hB⟩;have T2:=hd (T1.o.below hB);have F2:Hid (aA tb w w2):=F1.o.trans (aA.of hB (by have:=T1.o.lt;omega));have hy:=hB.size;have hu:=dE (fun x:Ent=>x.place != p) es;have hp:=hd hP;have hk:Hid (w2.heap[w.heap.size+1]?=_):=(hB.block _ hm).trans hj.o;obtain⟨fs,hJ⟩:∃fs,fs=es.filter fun x=>x.place != p:=⟨_,rfl⟩
 have hi:=hp.o;rw[<-hJ] at hi hu;have hl:=hd hi;have ho:=hd hJ;clear hB hP hi n0 n1 hJ hp;go_wp2_with fail;refine(jL1 fs _ _ (Reads.jEC hl.o) (by omega)).mono ?_;rintro e w3 ⟨v3,rfl,hK,hF⟩;obtain⟨vo,hM,rfl⟩:=jQa hK;have T3:=hd (T2.o.below hF);have F3:Hid (aA tb w w3):=F2.o.trans (aA.of hF (by have:=T2.o.lt;omega));have ha:=(hF.block (w.heap.size+1) (by omega)).trans hk.o;obtain⟨b0,b1,b2,b3,b4,b5,b6⟩:=jQw ha;obtain⟨f0,f1,f2,f3,f4,f5,f6⟩:=jQk ha;have hz:=jQe ha;have he:=hd ha;have hr:=hd hK;obtain⟨yh,hL⟩:∃x,x=(bB (α:=Empty) fs).hd:=⟨_,rfl⟩;rw[<-hL,jQc];have hs:Hid (aa m (jD6 m (es.filter fun x=>x.place != p))=yh):=by show _=_;rw[<-ho.o,jSb,hL]
 clear ha hK hF hL;go_wp2;refine cp (v:=.agg (ae yh (.slice vo fs.length hM) (.slice none 0 0)).toArray) (by simp[results,Tryz.results169,go_sem,ae, *]) rfl ⟨_,_,by rw[hs.o],?_,?_,?_⟩
 ·show ag Z _ m (jD6 m (es.filter fun x=>x.place != p)) _ _;rw[<-ho.o];exact(ag.skip (Z:=fun g=>Z g\/g=w.heap.size+1) (b:=w.heap.size+1) (jRu m (show ag _ _ 0 (bB fs) _ _ from⟨hr.o.base zR,rfl⟩)) (Or.inr rfl) he.o fun g hg=>jQl _ _ _ _ _ _ _ _ _ hg).less fun g hg=>Or.inl hg
 ·exact T3.o.keeps (jH1 he.o _ _ _ _ _ _ _) (by decide) (by decide)
 exact F3.o.bT (by omega) (by omega) _ _ _ _ _ _ _
theorem jWs (n:Nat)(h:Sq.Head)(l:List (Nd n×Value×Value))(ev cv:Value)(p:Int)(tb:Nat)(tr H3 HL:Trl)(c':Nd n)(cs:List (Nd n))(w:World)(kc:h.inner=true)(kl:∃a k c,ev=.slice a k c)(hn:aB Z 0 w cv n l)(hl:l.length<=400)(ht:bk tb w tr)(HK:tr.bc.length+1<=100000)(hZ:∀g,w.heap.size<=g->¬Z g)
  (a:Nat) (ha:a<l.length) (ka:a=bU (aa n) (l.map Prod.fst) p)
  (kd:¬jCj n c'<2->cs=bm (l.map Prod.fst) a 1 [c']/\HL=H3) (kf:∀c∈cs,0<=(aa n c).rows/\(aa n c).rows<=1000000000) (HM:cs.length<=400)
  (ih:∀w',(∀g,w'.heap.size<=g->¬(Z g\/g=w.heap.size+1))->ag (fun g=>Z g\/g=w.heap.size+1) w' n l[a].1 l[a].2.1 l[a].2.2->bk tb w' (aC tr h)->Calls Tryz.prog 169 #[.agg (au n l[a]).toArray,.int .i64 p,.pointer (some ⟨tb,0,none⟩)] w' (jER (fun g=>Z g\/g=w.heap.size+1) tb n (c',H3) w'))
  (hj:jCj n c'<2->∀w' v k,(∀g,w'.heap.size<=g->¬(Z g\/g=w.heap.size+1))->k.map Prod.fst=bm (l.map Prod.fst) a 1 [c']->aB (fun g=>Z g\/g=w.heap.size+1) 0 w' v n k->bk tb w' H3->Calls Tryz.prog 212 #[v,.int .i64 a,.pointer (some ⟨tb,0,none⟩)] w' (jGd (fun g=>Z g\/g=w.heap.size+1) tb n (cs,HL) w')) :
  Calls Tryz.prog 169 #[.agg (ae h ev cv).toArray,.int .i64 p,.pointer (some ⟨tb,0,none⟩)] w (jER Z tb (n+1) (aV (aa n) cs,HL) w):=by
 obtain⟨eo,el,HQ,rfl⟩:=kl;obtain⟨co,Hw,rfl⟩:=jQa hn.own;rw[jQc];have Ho:=ht.lt;have Hh:=hd kc;clear kc;obtain⟨W,H8,hW,H9,Hy,HI⟩:=jIM w #[.bool h.inner,.slice eo el HQ,.slice co l.length Hw,.int .i64 h.least,.int .i64 h.rows,.string h.sl,.int .i64 h.num];have HT:=hd (ht.below hW);have HF:Hid (aA tb w W):=aA.of hW (by omega);have hI:=hd Hy;have hK:=hd HI;have HN:Hid (aB (fun g=>Z g\/g=w.heap.size+1) 0 W (.slice co l.length Hw) n l):=(show aB (fun g=>Z g\/g=w.heap.size+1) 0 w (.slice co l.length Hw) n l from⟨hn.own,fun x hx=>(hn.each x hx).more (eB _)⟩).below hW
 have HZ:Hid (∀g,w.heap.size+2<=g->¬(Z g\/g=w.heap.size+1)):=fun g hg=>by
  rintro(hz | hz)
  ·exact hZ g (by omega) hz
  omega
 have IH:=hd ih;have HJ:=hd hj;have h8:=hd kd;have Hb:=hd kf;have Hg:=hd ka;have Hn:=hd H9;obtain⟨a0,a1,a2,a3,a4,a5,a6⟩:=aP.jCq (h:=h) Hy;have Hm:=jQe Hy;clear ht hW Hy HI hn hZ ih ka H9 hj kd kf;go_enter Tryz.func169,Tryz.ntmps169;go_wp2_with fail;rw[<-show jAR=#[.bool false,.slice none 0 0,.slice none 0 0,.int .i64 0,.int .i64 0,.string ⟨#[]⟩,.int .i64 0] from rfl,<-H8];clear H8;refine(jF2 tb tr h _ _ W ⟨_,_,_,rfl⟩ ⟨_,_,_,rfl⟩ HT.o HK).mono ?_;rintro e w1 ⟨rfl,kg,HG⟩;have hi:=(HG.bC w.heap.size _ _ _ hI.o (by decide) (by decide)).trans hI.o;have hw:=(HG.bC (w.heap.size+1) _ _ _ hK.o (by decide) (by decide)).trans hK.o;have T1:=hd kg;have F1:Hid (aA tb w w1):=HF.o.trans HG;have N1:=hd (HN.o.bX HG);obtain⟨n0,n1,n2,n3,n4,n5,n6⟩:=aP.jCq (h:=h) hi;rw[Hh.o] at n0;have h3:=jQe hi;have h2:=jQe hw;have hF:=hd hw;have hE:=hd hi;clear a0 a1 a2 a3 a4 a5 a6 Hm HT HF hI hK HN kg HG hi hw;go_wp2_with fail;refine(jKj n l p ⟨true,h.least,h.rows,h.sl,h.num⟩ _ _ w1 ⟨_,_,_,rfl⟩ N1.o (by omega)).mono ?_;rintro e w2 ⟨rfl,Hz⟩;rw[<-Hg.o];have hk:=(Hz.block w.heap.size h3).trans hE.o;have hA:=(Hz.block (w.heap.size+1) h2).trans hF.o;have c2:w2.cell? ⟨w.heap.size,2,none⟩=some (.slice co l.length Hw):=by rw[jQb hk];rfl
 have Hp:=Hz.size;have h4:=jQe hA;have Hj:=jQe hk;have T2:=hd (T1.o.below Hz);have N2:=hd (N1.o.below Hz);have F2:Hid (aA tb w w2):=F1.o.trans (aA.of Hz (by have:=T1.o.lt;omega));have ho:=hd hk;have hp:=hd hA;clear Hz hk hA n0 n1 n2 n3 n4 n5 n6 hF hE T1 N1 F1;obtain⟨g,kj,ea,kr,ec,ca,cl,cc,hv,hg,⟨d0,d1,d2,d3,d4,H7,H6⟩,d5,d6⟩:=N2.o.at a ha;obtain⟨rfl,-,rfl⟩:=sI hv;have ih:=IH.o;obtain⟨y,hy⟩:∃y,y=l[a]:=⟨_,rfl⟩;rw[<-hy] at d0 d3 d4 H7 H6 d5 d6 ih;obtain⟨t,kt,kq⟩:=y;simp only[Prod.mk.injEq] at d5;obtain⟨rfl,rfl⟩:=d5;have H5:=hd ih;have h9:=hd d6;have i1:¬((l.length:Int)<=(a:Int)):=by omega
 have i2:decide ((l.length:Int)<=(a:Int))=false:=by simpa using ha
 clear ih hy IH d6;go_wp2_with fail;refine(H5.o w2 (fun g hg=>HZ.o g (by omega)) h9.o T2.o).mono ?_;rintro e w3 ⟨ks,kp,rfl,HX,kh,HH⟩;obtain⟨⟨x1,x2,x3,rfl⟩,y1,y2,y3,rfl⟩:=HX.aG;have hm:=(HH.bC w.heap.size _ _ _ ho.o (by decide) (by decide)).trans ho.o;have hH:=(HH.bC (w.heap.size+1) _ _ _ hp.o (by decide) (by decide)).trans hp.o;have e2:w3.cell? ⟨w.heap.size,2,none⟩=some (.slice (some ⟨g,0,none⟩) l.length Hw):=by rw[jQb hm];rfl
 have Hk:=jQe hm;have T3:=hd kh;have F3:Hid (aA tb w w3):=F2.o.trans HH;have N3:=hd (N2.o.bX HH);have HC:=hd HX;have hM:=hd hm;have hr:=hd hH;obtain⟨yh,H2⟩:∃x,x=aa n c':=⟨_,rfl⟩;rw[<-H2,jQc];have hT:=hd H2;clear kh HH HX hm hH H2 c2 h4 Hj T2 N2 F2 ho hp d0 d1 d2 d3 d4 H7 H6 h9 H5;have h0:=jTc HC.o;rw[hT.o.symm] at h0;have Hc:=hd h0;obtain⟨C,hC⟩:∃C:Array Value,C=#[.bool yh.inner,.slice x1 x2 x3,.slice y1 y2 y3,.int .i64 yh.least,.int .i64 yh.rows,.string yh.sl,.int .i64 yh.num]:=⟨_,rfl⟩;obtain⟨W4,HR,HU,ke,HW,km⟩:=jSE w3 C C
 have N4:Hid (aB (fun g=>Z g\/g=w.heap.size+1) 0 W4 (.slice (some ⟨w3.heap.size+1,0,none⟩) 1 1) n [(c',.slice x1 x2 x3,.slice y1 y2 y3)]):=by
  refine⟨?_,fun x hx=>by rw[List.mem_singleton.1 hx];exact HC.o.below HU⟩
  have:=jIb (w3.alloc (.cells C 60)) 60 C ([(c',Value.slice x1 x2 x3,Value.slice y1 y2 y3)].flatMap (au n)) 1 7 0 (by rw[hC,hT.o];rfl) rfl (by decide) zR
  rw[jQr] at this;rw[HR];exact this
 have Hd:Hid (W4=(w3.alloc (.cells #[.bool yh.inner,.slice x1 x2 x3,.slice y1 y2 y3,.int .i64 yh.least,.int .i64 yh.rows,.string yh.sl,.int .i64 yh.num] 60)).alloc (.cells #[.bool yh.inner,.slice x1 x2 x3,.slice y1 y2 y3,.int .i64 yh.least,.int .i64 yh.rows,.string yh.sl,.int .i64 yh.num] 60)):=by show _=_;rw[HR,hC]
 rw[hC] at HW;have hQ:=hd HU;have h6:=hd HW;have Ha:=hd ke;clear HR HU ke HW km hC h0;go_wp2_with fail;rw[<-Hd.o];refine(jJP n l _ _ _ a 1 _ (N3.o.below hQ.o) N4.o (by omega) (by simp) (by omega) (by omega)).mono ?_;rintro e w5 ⟨v5,rfl,HP,HV⟩;obtain⟨vo,H4,rfl⟩:=jQa HP.own;have hu:=hQ.o.trans (HV.mono hQ.o.size);have hX:=(HV.block w3.heap.size (by rw[Ha.o];omega)).trans h6.o;obtain⟨n0,n1,n2,n3,n4,n5,n6⟩:=aP.blk (h:=yh) hX;simp only[df] at n1 n2 n3 n4 n5 n6;have Ht:=jQe hX;have T5:=hd (T3.o.below hu);have F5:Hid (aA tb w w5):=F3.o.trans (aA.of hu (by have:=T3.o.lt;omega));have hs:Hid (w5.heap[w.heap.size+1]?=some (.cells jAR 60)):=(hu.block _ (jQe hr.o)).trans hr.o;have h1:(bm l a 1 [(c',Value.slice x1 x2 x3,Value.slice y1 y2 y3)]).map Prod.fst=bm (l.map Prod.fst) a 1 [c']:=by rw[jLP];rfl
 obtain⟨k5,HA⟩:∃k5,k5=bm l a 1 [(c',Value.slice x1 x2 x3,Value.slice y1 y2 y3)]:=⟨_,rfl⟩;rw[<-HA] at HP h1;have h7:=hd HP;have He:=hd h1;have Hq:=hu.size;rw[<-HA];clear HP HV hu hX h1 HA e2 Hk T3 N3 F3 hM hr HC hQ h6 N4 Hd Ha;go_wp2_with fail;refine(jL0 yh x1 x2 x3 y1 y2 y3 w5).mono ?_;rintro e w6 ⟨rfl,HE⟩;rw[Hc.o];have T6:=hd (T5.o.below HE);have F6:Hid (aA tb w w6):=F5.o.trans (aA.of HE (by have:=T5.o.lt;omega));have N6:=hd (h7.o.below HE);have Hr:=HE.size;have he:Hid (w6.heap[w.heap.size+1]?=some (.cells jAR 60)):=(HE.block _ (jQe hs.o)).trans hs.o;obtain⟨q,hq⟩:∃q,q=jCj n c':=⟨_,rfl⟩;have hV:=HJ.o;have hY:=h8.o;rw[<-hq] at hV hY ⊢;have hR:=hd hV;have hJ:=hd hY;have Hu:w.heap.size+2<=w6.heap.size:=by have:=jQe he.o;omega
 clear HE hq hV hY HJ h8 n0 n1 n2 n3 n4 n5 n6 T5 F5 h7 hs Hc hT
 by_cases hq2:q<2
 ·have i3:decide ((q:Int)<2)=true:=by simp;omega
  have Hf:=hR.o hq2 w6 (.slice vo k5.length H4) k5 (fun g hg=>HZ.o g (by omega)) He.o (N6.o.base zR) T6.o;have h5:=hd Hf;clear Hf;go_wp2_with fail;refine h5.o.mono ?_;rintro e w7 ⟨v7,k7,rfl,hD,HY,H0,HO⟩;obtain⟨uo,kn,rfl⟩:=jQa HY.own;simp only at hD H0;have hP:k7.length<=400:=by rw[<-hD,cF] at HM;exact HM
  have hB:jBH n k7:=fun c hc=>Hb.o c.1 (by rw[<-hD];exact List.mem_map.2 ⟨c,hc,rfl⟩)
  have T7:=hd H0;have F7:Hid (aA tb w w7):=F6.o.trans HO;have N7:=hd HY;have hN:=hd hD;have hL:=hd hB;have Hs:=HO.jBC;have hG:Hid (w7.heap[w.heap.size+1]?=some (.cells jAR 60)):=(HO.bC _ _ _ _ he.o (by decide) (by decide)).trans he.o;clear hD HY H0 HO hB h5 hR hJ;go_wp2_with fail;refine(jJa n k7 _ _ N7.o.rd (by omega) hL.o).mono ?_;rintro e w8 ⟨kk,rfl,HB,Hx⟩;obtain⟨ko,Hv,rfl⟩:=jQa HB.own;have hb:=(Hx.block (w.heap.size+1) (jQe hG.o)).trans hG.o;obtain⟨b0,b1,b2,b3,b4,b5,b6⟩:=jQw hb;obtain⟨f0,f1,f2,f3,f4,f5,f6⟩:=jQk hb;have Hl:=jQe hb;have hf:=hd hb;have T8:=hd (T7.o.below Hx);have F8:Hid (aA tb w w8):=F7.o.trans (aA.of Hx (by have:=T7.o.lt;omega));have hO:=hd HB;obtain⟨zh,HD⟩:∃x,x=(aV (aa n) (k7.map Prod.fst)).hd:=⟨_,rfl⟩;rw[<-HD,jQc];have hU:Hid ((aV (aa n) cs).hd=zh):=by show _=_;rw[HD,hN.o]
  obtain⟨w9,hh⟩:∃w9,w9=bT w8 (w.heap.size+1) (.bool zh.inner) (.slice none 0 0) (.slice ko k7.length Hv) (.int .i64 zh.least) (.int .i64 zh.rows) (.string zh.sl) (.int .i64 zh.num):=⟨_,rfl⟩
  have N9:Hid (ag Z w9 (n+1) (aV (aa n) cs) (.slice none 0 0) (.slice ko k7.length Hv)):=by
   rw[hh];exact(ag.skip (b:=w.heap.size+1) (ag.mk (aM.nil _) hN.o.symm (hO.o.base zR) (jIO hO.o (fun g hg=>HZ.o g (by omega)))) (Or.inr rfl) hf.o fun g hg=>jQl _ _ _ _ _ _ _ _ _ hg).less fun g hg=>Or.inl hg
  have T9:Hid (bk tb w9 HL):=by
   rw[hh];exact T8.o.keeps (jH1 hf.o _ _ _ _ _ _ _) (by decide) (by decide)
  have F9:Hid (aA tb w w9):=by
   rw[hh];exact F8.o.bT (by omega) (by omega) _ _ _ _ _ _ _
  have hS:=hd hh;clear hb HB Hx HD hh;go_wp2;refine cp (v:=.agg (ae zh (.slice none 0 0) (.slice ko k7.length Hv)).toArray) (by simp[results,Tryz.results169,go_sem,ae, *]) rfl ?_;have hh:=hS.o;subst hh;exact⟨_,_,by rw[<-hU.o];rfl,N9.o,T9.o,F9.o⟩
 have i3:decide ((q:Int)<2)=false:=by simp;omega
 obtain⟨kb,ki⟩:=hJ.o hq2;have hD:k5.map Prod.fst=cs:=by rw[kb];exact He.o
 have hP:k5.length<=400:=by rw[<-hD,cF] at HM;exact HM
 have hB:jBH n k5:=fun c hc=>Hb.o c.1 (by rw[<-hD];exact List.mem_map.2 ⟨c,hc,rfl⟩)
 have hN:=hd hD;have hL:=hd hB;have Hi:=hd ki;clear hD hB kb ki hR hJ;go_wp2_with fail;refine(jJa n k5 _ _ N6.o.rd (by omega) hL.o).mono ?_;rintro e w8 ⟨kk,rfl,HB,Hx⟩;obtain⟨ko,Hv,rfl⟩:=jQa HB.own;have hb:=(Hx.block (w.heap.size+1) (jQe he.o)).trans he.o;obtain⟨b0,b1,b2,b3,b4,b5,b6⟩:=jQw hb;obtain⟨f0,f1,f2,f3,f4,f5,f6⟩:=jQk hb;have Hl:=jQe hb;have hf:=hd hb;have T8:=hd (T6.o.below Hx);have F8:Hid (aA tb w w8):=F6.o.trans (aA.of Hx (by have:=T6.o.lt;omega));have hO:=hd HB;obtain⟨zh,HD⟩:∃x,x=(aV (aa n) (k5.map Prod.fst)).hd:=⟨_,rfl⟩;rw[<-HD,jQc];have hU:Hid ((aV (aa n) cs).hd=zh):=by show _=_;rw[HD,hN.o]
 obtain⟨w9,hh⟩:∃w9,w9=bT w8 (w.heap.size+1) (.bool zh.inner) (.slice none 0 0) (.slice ko k5.length Hv) (.int .i64 zh.least) (.int .i64 zh.rows) (.string zh.sl) (.int .i64 zh.num):=⟨_,rfl⟩
 have N9:Hid (ag Z w9 (n+1) (aV (aa n) cs) (.slice none 0 0) (.slice ko k5.length Hv)):=by
  rw[hh];exact(ag.skip (b:=w.heap.size+1) (ag.mk (aM.nil _) hN.o.symm (hO.o.base zR) (jIO hO.o (fun g hg=>HZ.o g (by omega)))) (Or.inr rfl) hf.o fun g hg=>jQl _ _ _ _ _ _ _ _ _ hg).less fun g hg=>Or.inl hg
 have T9:Hid (bk tb w9 HL):=by
  rw[hh];rw[Hi.o];exact T8.o.keeps (jH1 hf.o _ _ _ _ _ _ _) (by decide) (by decide)
 have F9:Hid (aA tb w w9):=by
  rw[hh];exact F8.o.bT (by omega) (by omega) _ _ _ _ _ _ _
 have hS:=hd hh;clear hb HB Hx HD hh;go_wp2;refine cp (v:=.agg (ae zh (.slice none 0 0) (.slice ko k5.length Hv)).toArray) (by simp[results,Tryz.results169,go_sem,ae, *]) rfl ?_;have hh:=hS.o;subst hh;exact⟨_,_,by rw[<-hU.o];rfl,N9.o,T9.o,F9.o⟩
theorem jWz (n:Nat)(t:af (Nd n))(ev cv:Value)(p:Int)(tb:Nat)(tr:Trl)(w:World)(hI:t.hd.inner=true)(hk:t.kids=[])(hn:ag Z w (n+1) t ev cv)(ht:bk tb w tr)(hH:tr.bc.length+1<=100000) :
  Calls Tryz.prog 169 #[.agg (ae t.hd ev cv).toArray,.int .i64 p,.pointer (some ⟨tb,0,none⟩)] w (jER Z tb (n+1) (t,aC tr t.hd) w):=by
 obtain⟨h1,l,h2,h3⟩:=hn.inner;have hw:l=[]:=by rw[hk] at h2;exact List.map_eq_nil_iff.1 h2.symm
 subst hw;obtain⟨⟨eo,el,hC,rfl⟩,-⟩:=hn.aG;obtain⟨co,hB,hK⟩:=jQa h3.own;have hq:cv=.slice co 0 hB:=hK;clear hK;subst hq;obtain⟨h,hh⟩:∃h,h=t.hd:=⟨_,rfl⟩;rw[<-hh] at hI ⊢;rw[jQc];have hz:=ht.lt;have hu:=hd hI;have HH:=hd hh;obtain⟨W,hJ,hW,hM,hD,hG⟩:=jIM w #[.bool h.inner,.slice eo el hC,.slice co 0 hB,.int .i64 h.least,.int .i64 h.rows,.string h.sl,.int .i64 h.num];have HT:=hd (ht.below hW);have HF:Hid (aA tb w W):=aA.of hW (by omega);have hl:=hd hD;have hm:=hd hG;have HN:=hd ((hn.more (b:=w.heap.size+1) (eB _)).below hW);have HK:=hd (h3.below hW);obtain⟨a0,a1,a2,a3,a4,a5,a6⟩:=aP.jCq (h:=h) hD;have hy:=jQe hD;clear ht hW hD hG hn hM hI hh h1 h2 h3 hk;go_enter Tryz.func169,Tryz.ntmps169;go_wp2_with fail;rw[<-show jAR=#[.bool false,.slice none 0 0,.slice none 0 0,.int .i64 0,.int .i64 0,.string ⟨#[]⟩,.int .i64 0] from rfl,<-hJ];clear hJ;refine(jF2 tb tr h _ _ W ⟨_,_,_,rfl⟩ ⟨_,_,_,rfl⟩ HT.o hH).mono ?_;rintro e w1 ⟨rfl,hL,hF⟩;have hb:=(hF.bC w.heap.size _ _ _ hl.o (by decide) (by decide)).trans hl.o;have he:=(hF.bC (w.heap.size+1) _ _ _ hm.o (by decide) (by decide)).trans hm.o;have T1:=hd hL;have F1:Hid (aA tb w w1):=HF.o.trans hF;have N1:=hd (HN.o.bX hF);have K1:=hd (HK.o.bX hF);obtain⟨n0,n1,n2,n3,n4,n5,n6⟩:=aP.jCq (h:=h) hb;rw[hu.o] at n0;have hs:=jQe hb;have hr:=jQe he;have hi:=hd he;have hf:=hd hb;clear a0 a1 a2 a3 a4 a5 a6 hy HT HF hl hm HN HK hL hF hb he;go_wp2_with fail;refine(jKj n [] p ⟨true,h.least,h.rows,h.sl,h.num⟩ _ _ w1 ⟨_,_,_,rfl⟩ K1.o zR).mono ?_;rintro e w2 ⟨rfl,hE⟩;have hp:(bU (aa n) (([]:List (Nd n×Value×Value)).map Prod.fst) p:Nat)=0:=rfl;rw[hp];have hc:=(hE.block w.heap.size hs).trans hf.o;have ha:=(hE.block (w.heap.size+1) hr).trans hi.o;obtain⟨c0,c1,c2,c3,c4,c5,c6⟩:=aP.blk (h:=h) hc
 simp only[df] at c1 c2 c3 c4 c5 c6;obtain⟨b0,b1,b2,b3,b4,b5,b6⟩:=jQw ha;obtain⟨f0,f1,f2,f3,f4,f5,f6⟩:=jQk ha;have hA:=jQe ha;have hx:=jQe hc;have hj:=hd ha;have T2:=hd (T1.o.below hE);have F2:Hid (aA tb w w2):=F1.o.trans (aA.of hE (by have:=T1.o.lt;omega));have N2:=hd (N1.o.below hE);obtain⟨w9,ho⟩:∃w9,w9=bT w2 (w.heap.size+1) (.bool h.inner) (.slice eo el hC) (.slice co 0 hB) (.int .i64 h.least) (.int .i64 h.rows) (.string h.sl) (.int .i64 h.num):=⟨_,rfl⟩
 have N9:Hid (ag Z w9 (n+1) t (.slice eo el hC) (.slice co 0 hB)):=by
  rw[ho];exact(ag.skip (b:=w.heap.size+1) N2.o (Or.inr rfl) hj.o fun g hg=>jQl _ _ _ _ _ _ _ _ _ hg).less fun g hg=>Or.inl hg
 have T9:Hid (bk tb w9 (aC tr h)):=by
  rw[ho];exact T2.o.keeps (jH1 hj.o _ _ _ _ _ _ _) (by decide) (by decide)
 have F9:Hid (aA tb w w9):=by
  rw[ho];exact F2.o.bT (by omega) (by omega) _ _ _ _ _ _ _
 have hv:=hd ho;clear hE hc ha n0 n1 n2 n3 n4 n5 n6 hi hf T1 F1 N1 K1 hp ho;go_wp2;refine cp (v:=.agg (ae h (.slice eo el hC) (.slice co 0 hB)).toArray) (by simp[results,Tryz.results169,go_sem,ae, *]) rfl ?_;have ho:=hv.o;subst ho;exact⟨_,_,by rw[HH.o];rfl,N9.o,T9.o,F9.o⟩
theorem jSf (f:α->Sq.Head)(sz:α->Nat)(tg:α->α->List α)(g:α->Int->Trl->α×Trl)(t:af α)(p:Int)(tr:Trl)(h:t.hd.inner=false):jC5 f sz tg g t p tr=(bB (t.av.filter fun e=>e.place != p),aC tr t.hd):=by
 unfold jC5;rw[h];rfl
theorem qAw (f:α->Sq.Head)(sz:α->Nat)(tg:α->α->List α)(g:α->Int->Trl->α×Trl)(t:af α)(p:Int)(tr:Trl)(h:t.hd.inner=true)(hk:t.kids=[]):jC5 f sz tg g t p tr=(t,aC tr t.hd):=by
 unfold jC5;rw[h,hk];rfl
theorem qAv (f:α->Sq.Head)(sz:α->Nat)(tg:α->α->List α)(g:α->Int->Trl->α×Trl)(t:af α)(p:Int)(tr:Trl)(h:t.hd.inner=true)(a:Nat)(hb:a=bU f t.kids p)(ha:a<t.kids.length)(c:α×Trl)(hc:c=g t.kids[a] p (aC tr t.hd)) :
  jC5 f sz tg g t p tr=if sz c.1<2 then(aV f (jAI f tg (bm t.kids a 1 [c.1]) a c.2).1,(jAI f tg (bm t.kids a 1 [c.1]) a c.2).2) else(aV f (bm t.kids a 1 [c.1]),c.2):=by
 subst hb hc;unfold jC5;rw[h];simp only[dT,cz ha]
theorem jE8 {l:List α}{a:Nat}{c:α}(ha:a<l.length):∃h:a<(bm l a 1 [c]).length,(bm l a 1 [c])[a]=c:=by
 have hl:(bm l a 1 [c]).length=l.length:=by rw[jHx _ _ _ _ (by omega),dc];omega
 refine⟨by omega,?_⟩;have hb:min a l.length=a:=by omega
 simp[bm,List.getElem_append,hb]
theorem jPY (K:Int)(hP:0<=K)(hK:K<=99998)(p:Int)(tb:Nat):∀(n:Nat) (Z:Nat->Prop) (t:Nd n) (ev cv:Value) (tr:Trl) (w:World),ag Z w n t ev cv->aT K n t->(aa n t).rows<=900000000->bk tb w tr->aS K tr->(∀g,w.heap.size<=g->¬Z g) ->
  Calls Tryz.prog 169 #[.agg (ae (aa n t) ev cv).toArray,.int .i64 p,.pointer (some ⟨tb,0,none⟩)] w (jER Z tb n (jC0 n t p tr) w)
 | 0,Z,t,ev,cv,tr,w,h,hf,_,ht,hr,_=>by
  obtain⟨h1,_⟩:=h.leaf;have hp:=hr.len;have hE:=hf.at0.av;have e:jC0 0 t p tr=(jD6 0 ((af.av t).filter fun e=>e.place != p),aC tr (af.hd t)):=jSf _ _ _ _ t p tr hf.jE0;rw[e];exact jPD 0 (af.hd t) (af.av t) ev cv p tb tr w hf.jE0 h1 (ag.aG h).2 (by omega) ht (by omega)
 | n+1,Z,t,ev,cv,tr,w,h,hf,hrows,ht,hr,hZ=>by
  obtain⟨h1,l,h2,h3⟩:=h.inner;have hp:=hr.len;have hb:=hf.at1;have hE:=hb.av;have hz:=hb.kids;have hu:∀c∈af.kids t,0<=(aa n c).rows:=fun c hc=>(hb.each c hc).head.2.1
  have hh:(aa (n+1) t).rows=(af.hd t).rows:=rfl;cases hin:(af.hd t).inner with
  | false =>
   have e:jC0 (n+1) t p tr=(jD6 (n+1) ((af.av t).filter fun e=>e.place != p),aC tr (af.hd t)):=jSf _ _ _ _ t p tr hin;rw[e];exact jPD (n+1) (af.hd t) (af.av t) ev cv p tb tr w hin h1 (ag.aG h).2 (by omega) ht (by omega)
  | true =>
   by_cases hk:af.kids t=[]
   ·have e:jC0 (n+1) t p tr=(t,aC tr (af.hd t)):=qAw _ _ _ _ t p tr hin hk;rw[e];exact jWz n t ev cv p tb tr w hin hk h ht (by omega)
   ·have ha:=Sq.jL3 (aa n) (af.kids t) p hk;obtain⟨a,hL⟩:∃a,a=bU (aa n) (af.kids t) p:=⟨_,rfl⟩;rw[<-hL] at ha;have hi:(af.kids t)[a]∈af.kids t:=cJ _;have hc:=hb.each _ hi;have hv:=(hb.inn hin).1;have hD:=jGw (aa n) hu hi;obtain⟨q,hq⟩:∃q,q=jC0 n (af.kids t)[a] p (aC tr (af.hd t)):=⟨_,rfl⟩;have he:=Sq.jNG hP n (af.kids t)[a] p (aC tr (af.hd t)) hc (hr.jB3 hb.num);rw[<-hq] at he;have e:=qAv (aa n) (jCj n) (jAk n) (jC0 n) t p tr hin a hL ha q hq
    have hm:∀x∈bm (af.kids t) a 1 [q.1],aT K n x:=fun x hx=>by
     rcases Sq.jH9 hx with hx | hx
     ·exact hb.each x hx
     ·rw[dD] at hx;subst hx;exact he.1
    have hA:(bm (af.kids t) a 1 [q.1]).length=(af.kids t).length:=by rw[jHx _ _ _ _ (by omega),dc];omega
    have hw:aH (aa n) (bm (af.kids t) a 1 [q.1])<=(af.hd t).rows:=by
     rw[Sq.jNh (aa n) _ _ _ ha,Sq.jQY,Sq.jJb,hv]
     have:=he.2.1
     omega
    have hC:a<l.length:=by rw[h2,cF] at ha;exact ha
    have hF:(af.kids t)[a]=l[a].1:=by simp only[h2,da]
    obtain⟨cs,hJ,hR,hN,hT,h0,hU⟩:∃cs hJ,(jCj n q.1<2->(cs,hJ)=jAI (aa n) (jAk n) (bm (af.kids t) a 1 [q.1]) a q.2)/\(¬jCj n q.1<2->cs=bm (af.kids t) a 1 [q.1]/\hJ=q.2)/\(∀x∈cs,aT K n x)/\cs.length<=4/\aH (aa n) cs<=(af.hd t).rows:=by
     by_cases h5:jCj n q.1<2
     ·obtain⟨ho,hX⟩:=jE8 (c:=q.1) ha;have hj:=Sq.jPA (f:=aa n) (sz:=jCj n) (tg:=jAk n) (K:=K) (G:=aT K n) (fun c hc=>⟨hc.head.1,hc.head.2.1,Sq.jTW hc⟩) (fun l r hl hr h5=>Sq.jO6 hP n l r hl hr h5) (cs:=bm (af.kids t) a 1 [q.1]) (by omega) hm ho (by rw[hX];exact h5) he.2.2;exact⟨_,_,fun _=>rfl,fun h=>absurd h5 h,hj.2.1,hj.1,dF hj.2.2.1 hw⟩
     ·exact⟨_,_,fun h=>absurd h h5,fun _=>⟨rfl,rfl⟩,hm,by omega,hw⟩
    have e2:jC0 (n+1) t p tr=(aV (aa n) cs,hJ):=by
     show jC5 _ _ _ _ t p tr=_;rw[e]
     by_cases h5:jCj n q.1<2
     ·rw[cE h5,<-hR h5]
     ·rw[cy h5,(hN h5).1,(hN h5).2]
    rw[e2]
    have hG:∀c∈cs,0<=(aa n c).rows/\(aa n c).rows<=1000000000:=fun c hc=>by
     have:=jGw (aa n) (fun d hd=>(hT d hd).head.2.1) hc
     exact⟨(hT c hc).head.2.1,by omega⟩
    rw[hF] at hq hc hD;rw[h2] at hL hN hR hz hA hm hw;rw[cF] at hz;refine jWs n (af.hd t) l ev cv p tb tr q.2 hJ q.1 cs w hin (ag.aG h).1 h3 (by omega) ht (by omega) hZ a hC hL hN hG (by omega) (fun w' hQ hM hO=>?_) (fun h5 w' v k hQ hS hM hO=>?_)
    ·have:=jPY K hP hK p tb n _ l[a].1 l[a].2.1 l[a].2.2 (aC tr (af.hd t)) w' hM hc (by omega) hO (hr.jB3 hb.num) hQ
     rw[<-hq] at this;exact this
    ·rw[hR h5,<-hS];have hH:k.length=l.length:=by have:=congrArg List.length hS;rw[cF,hA,cF] at this;exact this
     have hI:=he.2.2.len
     have hn:∀x∈k,aT K n x.1/\(aa n x.1).rows<=900000000:=fun x hx=>by
      have ho:x.1∈bm (l.map Prod.fst) a 1 [q.1]:=by rw[<-hS];exact List.mem_map.2 ⟨x,hx,rfl⟩
      have:=jGw (aa n) (fun d hd=>(hm d hd).head.2.1) ho
      exact⟨hm _ ho,by omega⟩
     by_cases hone:k.length=1
     ·have hB:a=0:=by omega
      subst hB;exact jZb n k v tb q.2 w' hM hone hO
     ·refine jY9 n k v a tb q.2 w' hM (by omega) (by omega) (by omega) hO (by omega) (fun x hx y hy=>?_) (fun x hx y hy hY hV hW hs=>?_)
      ·cases n with
       | zero=>show(jAq _ x.1 y.1).length<=2;unfold jAq;split<;>(first | (unfold jAK;rw[cF];exact(jJf _).1) | (unfold jAT;rw[cF];exact(jJf _).1))
       | succ m=>show(jAq _ x.1 y.1).length<=2;unfold jAq;split<;>(first | (unfold jAK;rw[cF];exact(jJf _).1) | (unfold jAT;rw[cF];exact(jJf _).1))
      ·exact jWF K n x.1 y.1 x.2.1 x.2.2 y.2.1 y.2.2 hY hV hW (hn x hx).1 (hn y hy).1 (hn x hx).2 (hn y hy).2 (fun g hg=>hQ g (by omega))
theorem jOR {t:Nd n}{tr:Trl}(hn:ag (fun g=>Z g\/g=b) w1 n t ev cv)(ht:bk tb w1 tr)(hf:aA tb w w1)(hb:w1.heap[b]?=some (.cells c 60))(h1:w.heap.size<=b)(h2:tb<=b)(x0 x1 x2 x3 x4 x5 x6:Value)(o:Obj) :
  ag Z ((bT w1 b x0 x1 x2 x3 x4 x5 x6).alloc o) n t ev cv/\bk tb ((bT w1 b x0 x1 x2 x3 x4 x5 x6).alloc o) tr/\aA tb w ((bT w1 b x0 x1 x2 x3 x4 x5 x6).alloc o):=by
 have hA:Below (bT w1 b x0 x1 x2 x3 x4 x5 x6).heap.size (bT w1 b x0 x1 x2 x3 x4 x5 x6) ((bT w1 b x0 x1 x2 x3 x4 x5 x6).alloc o):=bA;have ha:=ht.keeps (jH1 hb x0 x1 x2 x3 x4 x5 x6) (by decide) (by decide);exact⟨((ag.skip (b:=b) hn (Or.inr rfl) hb fun g hg=>jQl _ _ _ _ _ _ _ _ _ hg).less fun g hg=>Or.inl hg).below hA,ha.below hA,(hf.bT h1 h2 x0 x1 x2 x3 x4 x5 x6).trans (aA.of hA (by have:=ha.lt;omega))⟩
theorem qAu (n:Nat)(t:Nd n)(h:¬((aa n t).inner=true/\jCj n t=1)):jEZ n t=⟨n,t⟩:=by
 cases n with
 | zero=>rfl
 | succ m =>
  show(if(af.hd t).inner then(match af.kids t with | [c]=>(⟨m,c⟩:aj) | _=>⟨m+1,t⟩) else⟨m+1,t⟩)=_
  split
  ·next hi =>
   split
   ·next c hc =>
    exfalso
    refine h ⟨hi,?_⟩;show bG t=1;unfold bG;rw[cE hi,hc];rfl
   rfl
  rfl
theorem qBF (n:Nat)(t:Nd (n+1))(hi:(af.hd t).inner=true)(c:Nd n)(hc:af.kids t=[c]):jEZ (n+1) t=⟨n,c⟩:=by
 show(if(af.hd t).inner then(match af.kids t with | [c]=>(⟨n,c⟩:aj) | _=>⟨n+1,t⟩) else⟨n+1,t⟩)=_
 rw[cE hi,hc]
theorem jZJ (K:Int)(hV:0<=K)(hK:K<=99998)(X:aj)(ev cv:Value)(p:Int)(tb:Nat)(tr:Trl)(w:World)(h:ag Z w X.d X.t ev cv)(hf:Sq.jBb K 900000000 X)(ht:bk tb w tr)(hr:aS K tr)(hZ:∀g,w.heap.size<=g->¬Z g) :
  Calls Tryz.prog 128 #[.agg (ae X.head ev cv).toArray,.int .i64 p,.pointer (some ⟨tb,0,none⟩)] w (jA7 Z tb (X.del p tr) w):=by
 obtain⟨n,t⟩:=X;obtain⟨⟨e1,e2,e3,h0⟩,c1,c2,c3,hY⟩:=h.aG;subst h0 hY;obtain⟨hX,hB⟩:=hf;simp only[aj.head] at h hX hB ⊢;have hb:=jPY K hV hK p tb n (fun g=>Z g\/g=w.heap.size+1) t (.slice e1 e2 e3) (.slice c1 c2 c3) tr;have hE:aj.del ⟨n,t⟩ p tr=(jEZ n (jC0 n t p tr).1,(jC0 n t p tr).2):=rfl;rw[hE];clear hE;obtain⟨pt,hR⟩:∃x,x=jC0 n t p tr:=⟨_,rfl⟩;rw[<-hR] at hb ⊢;obtain⟨hh,hO⟩:∃x,x=aa n t:=⟨_,rfl⟩;rw[<-hO] at hb hB ⊢;rw[jQc] at hb ⊢;have hx:=ht.lt;obtain⟨W,hM,hW,hN,-,hC⟩:=jIM w #[.bool hh.inner,.slice e1 e2 e3,.slice c1 c2 c3,.int .i64 hh.least,.int .i64 hh.rows,.string hh.sl,.int .i64 hh.num]
 have hk:=hb W ((h.more (eB _)).below hW) hX hB (ht.below hW) hr (fun g hg=>by
  rw[hN] at hg;rintro(hz | hz)
  ·exact hZ g (by omega) hz
  omega)
 have HC:=hd hk;have HF:Hid (aA tb w W):=aA.of hW (by omega);have hm:=hd hC;clear h ht hX hB hb hW hN hC hk hR hO hZ hr;go_enter Tryz.func128,Tryz.ntmps128;go_wp2_with fail;rw[<-show jAR=#[.bool false,.slice none 0 0,.slice none 0 0,.int .i64 0,.int .i64 0,.string ⟨#[]⟩,.int .i64 0] from rfl,<-hM];clear hM;refine HC.o.mono ?_;rintro e w1 ⟨h7,h4,rfl,hn,hF,hD⟩;obtain⟨⟨x1,x2,x3,rfl⟩,y1,y2,y3,rfl⟩:=hn.aG;have hl:=jTc hn;have hc:=(hD.bC (w.heap.size+1) _ _ _ hm.o (by decide) (by decide)).trans hm.o;obtain⟨r,hI⟩:=pt;simp only at hn hF hl ⊢;obtain⟨yh,hG⟩:∃x,x=aa n r:=⟨_,rfl⟩;rw[<-hG] at hl ⊢;rw[jQc];obtain⟨b0,b1,b2,b3,b4,b5,b6⟩:=jQw hc;obtain⟨f0,f1,f2,f3,f4,f5,f6⟩:=jQk hc;have hA:=jQe hc;have ho:=hd hn;have hq:=hd hG;have T1:=hd hF;have F1:Hid (aA tb w w1):=HF.o.trans hD;have hj:=hd hc;have hp:=hd hl;clear hn hF hD hc hG HC HF hm hl
 by_cases hdo:yh.inner=true/\jCj n r=1
 ·obtain⟨hi,h3⟩:=hdo;have hl:=hp.o;rw[hi] at hl;simp only[dT] at hl;cases n with
  | zero =>
   exfalso
   have h5:=ho.o.leaf.2;simp only[Value.slice.injEq] at h5;omega
  | succ m =>
   obtain⟨g1,l,g2,g3⟩:=ho.o.inner;obtain⟨h8,lc,hP⟩:=jQa g3.own;simp only[Value.slice.injEq] at hP;have hs:l.length=1:=by omega
   obtain⟨y,rfl⟩:=List.length_eq_one_iff.1 hs;have hu:(af.hd r).inner=true:=by have:=hq.o;rw[show(af.hd r)=aa (m+1) r from rfl,<-this,hi]
   have he:=hd (qBF m r hu y.1 g2);obtain⟨g,hU,ea,el,ec,ca,cl,cc,hv,hg,⟨d0,d1,d2,d3,d4,hL,hJ⟩,d5,d6⟩:=g3.at 0 (by simp);simp only[Value.slice.injEq] at hv;obtain⟨rfl,rfl,rfl⟩:=hv;obtain⟨yt,Ha,h9⟩:=y;simp only[List.getElem_cons_zero,Prod.mk.injEq,Nat.zero_mul,df] at d0 d1 d2 d3 d4 hL hJ d5 d6;obtain⟨rfl,rfl⟩:=d5;obtain⟨zh,hH⟩:∃x,x=aa m yt:=⟨_,rfl⟩;rw[<-hH] at d0 d3 d4 hL hJ;have hw:=hd hH;have ha:=hd (jOR d6 T1.o F1.o hj.o (by omega) (by omega) (.bool zh.inner) (.slice ea el ec) (.slice ca cl cc) (.int .i64 zh.least) (.int .i64 zh.rows) (.string zh.sl) (.int .i64 zh.num) (.cells #[.bool true,.slice x1 x2 x3,.slice (some ⟨g,0,none⟩) 1 y3,.int .i64 yh.least,.int .i64 yh.rows,.string yh.sl,.int .i64 yh.num] 60));have h1:([(yt,Value.slice ea el ec,Value.slice ca cl cc)]:List (Nd m×Value×Value)).length=1:=rfl;rw[h1,hi];clear hl h3 hi hH d6 g1 g2 g3 hP hs hu ho hq h1 hp;go_wp2;refine cp (v:=.agg (ae zh (.slice ea el ec) (.slice ca cl cc)).toArray) (by simp[results,Tryz.results128,go_sem,ae, *]) rfl ?_;show jA7 Z tb (jEZ (m+1) r,hI) w _ _;rw[he.o];exact⟨_,_,by rw[show aj.head (⟨m,yt⟩:aj)=zh from hw.o.symm],ha.o.1,ha.o.2.1,ha.o.2.2⟩
 have he:=hd (qAu n r (by rw[<-hq.o];exact hdo));have ha:=hd (jOR ho.o T1.o F1.o hj.o (by omega) (by omega) (.bool yh.inner) (.slice x1 x2 x3) (.slice y1 y2 y3) (.int .i64 yh.least) (.int .i64 yh.rows) (.string yh.sl) (.int .i64 yh.num) (.cells #[.bool yh.inner,.slice x1 x2 x3,.slice y1 y2 y3,.int .i64 yh.least,.int .i64 yh.rows,.string yh.sl,.int .i64 yh.num] 60));obtain⟨h2,hle,hS,hT,hQ⟩:=yh;simp only at ha hp hq hdo ⊢;cases h2 with
 | false =>
  clear hp hdo ho;go_wp2;refine cp (v:=.agg (ae ⟨false,hle,hS,hT,hQ⟩ (.slice x1 x2 x3) (.slice y1 y2 y3)).toArray) (by simp[results,Tryz.results128,go_sem,ae, *]) rfl ?_;show jA7 Z tb (jEZ n r,hI) w _ _;rw[he.o];exact⟨_,_,by rw[show aj.head (⟨n,r⟩:aj)=_ from hq.o.symm],ha.o.1,ha.o.2.1,ha.o.2.2⟩
 | true =>
  have hy:((y2:Int)==1)=false:=by
   have h5:=hp.o;simp only[dT] at h5;have h6:y2≠1:=fun e=>hdo ⟨rfl,by rw[<-h5];exact e⟩
   simp;omega
  clear hp hdo ho;go_wp2;refine cp (v:=.agg (ae ⟨true,hle,hS,hT,hQ⟩ (.slice x1 x2 x3) (.slice y1 y2 y3)).toArray) (by simp[results,Tryz.results128,go_sem,ae, *]) rfl ?_;show jA7 Z tb (jEZ n r,hI) w _ _;rw[he.o];exact⟨_,_,by rw[show aj.head (⟨n,r⟩:aj)=_ from hq.o.symm],ha.o.1,ha.o.2.1,ha.o.2.2⟩
def manyN:(n:Nat)->Sq.Nd n->Nat
 | 0,_=>1
 | n+1,t=>1+((af.kids t).map (manyN n)).sum
theorem jS9 {g:α->Int->α×Int}{m:α->Nat}:∀(l:List α) (k:Int),(∀c∈l,∀k,(g c k).2=k+(m c:Int))->(bL g l k).2=k+((l.map m).sum:Nat)
 | [],k,_=>by simp[bL]
 | c::r,k,h=>by
  have h1:=h c (dh ..) k;have h2:=jS9 r (g c k).2 fun d hd=>h d (cY _ hd)
  show(bL g r (g c k).2).2=_
  rw[h2,h1,cM,dN];omega
theorem jN2:∀(n:Nat) (t:Nd n) (k:Int),(cf n t k).2=k+(manyN n t:Int)
 | 0,t,k=>by
  have hk:(t:af Empty).kids=[]:=by
   cases hq:(t:af Empty).kids with
   | nil=>rfl
   | cons c _=>exact c.elim
  show(bL _ (t:af Empty).kids (k+1)).2=_
  rw[hk];rfl
 | n+1,t,k=>by
  show(bL (cf n) (af.kids t) (k+1)).2=_
  rw[jS9 (m:=manyN n) _ _ fun c _ k=>jN2 n c k];show _=k+((1+((af.kids t).map (manyN n)).sum:Nat):Int);omega
theorem jYy (g:α->Int->α×Int)(cs:List α)(k:Nat)(h:k<cs.length)(x:Int):bL g (cs.drop k) x=((g cs[k] x).1::(bL g (cs.drop (k+1)) (g cs[k] x).2).1,(bL g (cs.drop (k+1)) (g cs[k] x).2).2):=by
 rw[cr h,bL]
theorem ag.move:∀{n:Nat} {w w':World} {t:Nd n} {ev cv:Value},ag Z w n t ev cv->(∀(q:Nat) (c:Array Value) (e:TypeId) (fr:Nat×Nat),w.heap[q]?=some (Obj.cells c e fr)->(e=141\/(e=60/\¬Z q))->w'.heap[q]?=w.heap[q]?)->ag Z w' n t ev cv
 | 0,_,_,_,_,_,h,hs=>by
  refine⟨⟨h.1.1,?_⟩,h.2⟩;rcases h.1.2 with h0 | ⟨g,cap,cur,hv,hbg,hh,hn,hm,hc,ht⟩
  ·exact Or.inl h0
  ·exact Or.inr ⟨g,cap,cur,hv,hbg,(hs g _ _ _ hh (Or.inl rfl)).trans hh,hn,hm,hc,ht⟩
 | _+1,_,_,_,_,_,h,hs=>by
  obtain⟨h1,l,h2,h3,hz,h4⟩:=h;refine⟨⟨h1.1,?_⟩,l,h2,⟨h3.1,?_⟩,hz,fun x hx=>(h4 x hx).move hs⟩
  ·rcases h1.2 with h0 | ⟨g,cap,cur,hv,hbg,hh,hn,hm,hc,ht⟩
   ·exact Or.inl h0
   ·exact Or.inr ⟨g,cap,cur,hv,hbg,(hs g _ _ _ hh (Or.inl rfl)).trans hh,hn,hm,hc,ht⟩
  ·rcases h3.2 with h0 | ⟨g,cap,cur,hv,hbg,hh,hn,hm,hc,ht⟩
   ·exact Or.inl h0
   ·exact Or.inr ⟨g,cap,cur,hv,hbg,(hs g _ _ _ hh (Or.inr ⟨rfl,hz g 0 none _ _ hv⟩)).trans hh,hn,hm,hc,ht⟩
structure jAZ (Y:Nat->Prop)(B:Nat)(w:World)(v:Value)(n:Nat)(l:List (Nd n×Value×Value)):Prop where
 own:w.ownsRow B 60 7 v l.length (l.flatMap (au n))
 each:∀x∈l,ag (fun g=>Y g\/v.ownBlock=some g) w n x.1 x.2.1 x.2.2
theorem jAZ.at {Y:Nat->Prop}{l:List (Nd n×Value×Value)}(h:jAZ Y B w v n l):aB Y 0 w v n l:=⟨jQj h.own zR,fun x hx=>(h.each x hx).less fun g hg=>Or.inl hg⟩
theorem jAZ.below {Y:Nat->Prop}{l:List (Nd n×Value×Value)}(h:jAZ Y B w v n l)(hb:Below w.heap.size w w'):jAZ Y B w' v n l:=⟨jQh h.own hb,fun x hx=>(h.each x hx).below hb⟩
theorem jAZ.nil (Y:Nat->Prop)(B:Nat)(w:World)(n:Nat):jAZ Y B w (.slice none 0 0) n []:=⟨cu _ _ _ _,fun x hx=>by cases hx⟩
theorem jQJ {ops:Array Oper}{rest:List Oper}{Q:Exit->Act->World->Prop}(hr:o.guard=none)(sl x:Operand)
  (ho:o.op=.call { callee:=.builtin .append,args:=#[sl,x],argTypes:=#[58,58] }) (Y:Nat->Prop) (B:Nat) (v:Value) (n:Nat) (l:List (Nd n×Value×Value)) (hs:a.eval sl=v) (hb:jAZ Y B w v n l)
  (m:Nd n×Value×Value) (sv:Value) (hx:a.eval x=sv) (hp:Reads w sv 1 7 ([m].flatMap (au n))) (hm:ag (fun g=>Y g\/v.ownBlock=some g) w n m.1 m.2.1 m.2.2) (h1:l.length+1<=1000000) (hB:B<=w.heap.size)
  (h:∀v' w',jAZ Y B w' v' n (l++[m])->Below B w w'->jDL 60 w w'->(∀g,v'.ownBlock=some g->g<w'.heap.size)->wpList Tryz.prog ops Q rest (a.put o.dst v') w'):wpList Tryz.prog ops Q (o::rest) a w:=by
 obtain⟨i0,hi,hv,hz,hA⟩:=cV Tryz.jFC;rcases hp.2 with⟨_,h0⟩ | ⟨g,off,cap,rfl,_,hc⟩
 ·omega
 refine cT _ hr sl x 58 ho B 60 i0 _ 7 96 Tryz.underlying58 hi hv hz hA rfl (by decide) v l.length _ hs hb.own ⟨g,off,none⟩ 1 cap ([m].flatMap (au n)) hx hp.1 (by
  intro j u hu;rw[jFp];exact hc j u hu) (jKg hm) (by decide) (by unfold maxLen;omega) (by omega) hB _ rfl ?_
 intro g' cap w' ht hn hj hC
 have ha:∀(q:Nat) (c:Array Value) (e:TypeId) (fr:Nat×Nat),w.heap[q]?=some (Obj.cells c e fr)->(e≠60\/v.ownBlock≠some q)->w'.heap[q]?=w.heap[q]?:=fun q c e fr hq he=>hn.block q (jQe hq) (by
  rcases he with he | he
  ·exact fun e2=>jQm hb.own hq (fun e3=>he e3.symm) e2.symm
  exact fun e2=>he e2.symm)
 refine h _ w' ⟨by rw[cg,cN];exact ht,fun y hy=>?_⟩ (Tch.aO hn (fun k hk=>(World.ownsRow.lt hb.own k hk).1) hB) (fun q c e fr hq he=>ha q c e fr hq (Or.inl he)) (fun q hq=>by
  have:g'=q:=by simpa[Value.ownBlock] using hq
  omega)
 have hf:ag (fun g=>Y g\/v.ownBlock=some g) w n y.1 y.2.1 y.2.2:=by
  rcases List.mem_append.1 hy with hy | hy
  ·exact hb.each y hy
  rw[List.mem_singleton.1 hy];exact hm
 have hg:ag (fun g=>(Y g\/v.ownBlock=some g)\/g=w.heap.size) w n y.1 y.2.1 y.2.2:=hf.more nR
 have hh:=hg.move (w':=w') (fun q c e fr hq he=>ha q c e fr hq (by
  rcases he with rfl | ⟨_,he⟩
  ·exact Or.inl (by decide)
  exact Or.inr fun e2=>he (Or.inl (Or.inr e2))))
 refine hh.less fun q hq=>?_
 rcases hq with hq | hq
 ·exact Or.inl (Or.inl hq)
 have e1:g'=q:=by simpa[Value.ownBlock] using hq
 rcases hj with hj | hj
 ·exact Or.inl (Or.inr (by rw[hj,e1]))
 exact Or.inr (by omega)
def jIk (Z:Nat->Prop)(n:Nat)(x:Nd n×Int)(w:World)(e:Ending)(w':World):Prop:=∃ev cv,e=.returned (.tuple #[.agg (ae (aa n x.1) ev cv).toArray,.int .i64 x.2])/\ag Z w' n x.1 ev cv/\Below w.heap.size w w'
def jKu (Z:Nat->Prop)(n:Nat)(h:Sq.Head)(es:List Ent)(cs:List (Nd n))(k0:Int)(ev:Value)(w:World)(e:Ending)(w':World):Prop:=∃v k,e=.returned (.tuple #[.agg (ae { h with num:=k0 } ev v).toArray,.int .i64 (bL (cf n) cs (k0+1)).2])/\k.map Prod.fst=(bL (cf n) cs (k0+1)).1/\aM 0 w' ev es/\aB Z 0 w' v n k/\jJp Z v/\(k=[]->v=.slice none 0 0)/\Below w.heap.size w w'
theorem jPu (n:Nat)(h:Sq.Head)(es:List Ent)(l:List (Nd n×Value×Value))(ev cv:Value)(k0:Int)(w:World)(Ht:aM 0 w ev es)(hn:aB Z 0 w cv n l)(hl:l.length<=100)(hZ:∀g,w.heap.size<=g->¬Z g)(h0:0<=k0)
  (HB:k0+1+(((l.map Prod.fst).map (manyN n)).sum:Nat)<=1000000)
  (ih:∀x∈l,∀w' (k:Int) (Y:Nat->Prop),(∀g,w'.heap.size<=g->¬Y g)->ag Y w' n x.1 x.2.1 x.2.2->0<=k->k+(manyN n x.1:Int)<=1000000->Calls Tryz.prog 52 #[.agg (au n x).toArray,.int .i64 k] w' (jIk Y n (cf n x.1 k) w')) :
  Calls Tryz.prog 52 #[.agg (ae h ev cv).toArray,.int .i64 k0] w (jKu Z n h es (l.map Prod.fst) k0 ev w):=by
 obtain⟨eo,Hk,rfl⟩:=jQa Ht;obtain⟨co,Hn,rfl⟩:=jQa hn.own;rw[jQc];obtain⟨Y,hY⟩:∃Y:Nat->Prop,Y=fun g=>(Z g\/g=w.heap.size)\/g=w.heap.size+1:=⟨_,rfl⟩
 obtain⟨W,Hz,hW,HA,Ho,Hp⟩:=jIM w #[.bool h.inner,.slice eo es.length Hk,.slice co l.length Hn,.int .i64 h.least,.int .i64 h.rows,.string h.sl,.int .i64 h.num]
 have HN:Hid (aB Y 0 W (.slice co l.length Hn) n l):=by
  rw[hY];exact(show aB (fun g=>(Z g\/g=w.heap.size)\/g=w.heap.size+1) 0 w (.slice co l.length Hn) n l from⟨hn.own,fun x hx=>((hn.each x hx).more nR).more (eB _)⟩).below hW
 have hL:Hid (∀g,w.heap.size+2<=g->¬Y g):=by
  intro g hg;rw[hY];rintro((hz | hz) | hz)
  ·exact hZ g (by omega) hz
  ·omega
  omega
 have hM:Hid (∀g,Z g->Y g):=by intro g hg;rw[hY];exact Or.inl (Or.inl hg)
 have Hb:Hid (Y w.heap.size):=by show Y _;rw[hY];exact Or.inl (Or.inr rfl)
 have Hc:Hid (Y (w.heap.size+1)):=by show Y _;rw[hY];exact Or.inr rfl
 have hJ:=hd (Ht.below hW);have HW:=hd hW;have hs:=hd HA;have hG:=hd Ho;have hH:=hd Hp;have IH:=hd ih;have hT:=hd HB;have Hf:k0<=999999:=by omega
 clear hW HA Ho Hp hn Ht hZ ih HB hY;go_enter Tryz.func52,Tryz.ntmps52;go_wp2;rw[<-show jAR=#[.bool false,.slice none 0 0,.slice none 0 0,.int .i64 0,.int .i64 0,.string ⟨#[]⟩,.int .i64 0] from rfl,<-Hz];clear Hz
 go_loopw [6,7,8] (fun v nx i wr=>∃(k:Nat) (x:Int) (acc:List (Nd n×Value×Value)),k<=l.length/\i=.int .i64 k/\nx=.int .i64 x/\Hid (jAZ Y (w.heap.size+2) wr v n acc)/\Hid (acc=[]->v=.slice none 0 0)/\acc.length<=k/\0<=x/\Hid (x+((((l.map Prod.fst).drop k).map (manyN n)).sum:Nat)<=1000000)/\Hid (bL (cf n) (l.map Prod.fst) (k0+1)=(acc.map Prod.fst++(bL (cf n) ((l.map Prod.fst).drop k) x).1,(bL (cf n) ((l.map Prod.fst).drop k) x).2))/\Hid (Below W.heap.size W wr)) (fun _ _ i _=>l.length-(intOf i).toNat)
 case atStart=>exact⟨0,k0+1,[],zR,rfl,by go_num,jAZ.nil _ _ _ _,fun _=>rfl,nR,by omega,hT,rfl,bR⟩
 case round =>
  obtain⟨k,x,acc,hk,rfl,rfl,Hl,Hu,HI,HL,HG,hq,hb⟩:=hrel;obtain⟨wo,rfl⟩:∃wo:World,wo=wr:=⟨_,rfl⟩;obtain⟨yo,Hj,rfl⟩:=jQa Hl.o.own;have hi:=(hb.o.block w.heap.size (by rw[hs.o];omega)).trans hG.o;have ho:=(hb.o.block (w.heap.size+1) (by rw[hs.o];omega)).trans hH.o;obtain⟨m0,m1,m2,m3,m4,m5,m6⟩:=aP.jCq (h:=h) hi;have Hh:=jQe hi;have Hi:=jQe ho;have Hd:=hb.o.size;rw[hs.o] at Hd;have hj:=hd hi;have hf:=hd ho;clear hi ho
  by_cases hkt:k<l.length
  ·obtain⟨g,HH,ea,el,ec,ca,cl,cc,hv,hg,⟨d0,d1,d2,d3,d4,Hy,Hx⟩,d5,d6⟩:=(HN.o.below hb.o).at k hkt;obtain⟨rfl,-,rfl⟩:=sI hv;have hu:=cJ hkt;have hw:=jYy (cf n) (l.map Prod.fst) k (by simpa using hkt) x;rw[da] at hw
   have hE:((((l.map Prod.fst).drop k).map (manyN n)).sum:Nat)=manyN n l[k].1+(((l.map Prod.fst).drop (k+1)).map (manyN n)).sum:=by
    rw[cr (by simpa using hkt),cM,dN,da]
   have hr:=HG.o;rw[hE] at hr;have hp:=jN2 n l[k].1 x;have hI:=(HN.o.each _ hu)
   have d7:ag (fun g=>Y g\/(Value.slice yo acc.length Hj).ownBlock=some g) wo n l[k].1 l[k].2.1 l[k].2.2:=by
    have h9:ag (fun g=>Y g\/(Value.slice yo acc.length Hj).ownBlock=some g) W n l[k].1 l[k].2.1 l[k].2.2:=by
     cases hob:(Value.slice yo acc.length Hj).ownBlock with
     | none=>exact hI.less fun g hg=>by rcases hg with hg | hg;exact hg;cases hg
     | some q =>
      have hq:=(World.ownsRow.lt Hl.o.own q hob).1
      exact(hI.more (b:=q) (by rw[hs.o];exact hq)).less fun g hg=>by
       rcases hg with hg | hg
       ·exact Or.inl hg
       exact Or.inr (by simpa using hg.symm)
    exact h9.below hb.o
   have ha:=IH.o _ hu wo x (fun g=>Y g\/(Value.slice yo acc.length Hj).ownBlock=some g) (fun g hg=>by
    rintro(h9 | h9)
    ·exact hL.o g (by omega) h9
    have:=(World.ownsRow.lt Hl.o.own g h9).2
    omega) d7 HL (by omega)
   clear d7 hI;obtain⟨y,hy⟩:∃y,y=l[k]:=⟨_,rfl⟩;rw[<-hy] at hw hr hp ha d0 d3 d4 Hy Hx d5;obtain⟨t,HQ,HO⟩:=y;simp only[Prod.mk.injEq] at d5;obtain⟨rfl,rfl⟩:=d5;simp only at hw hr hp ha;obtain⟨nt,HE⟩:∃y,y=cf n t x:=⟨_,rfl⟩;rw[<-HE] at hw hp ha;obtain⟨xh,Hv⟩:∃y,y=aa n t:=⟨_,rfl⟩;rw[<-Hv] at d0 d3 d4 Hy Hx;have hP:au n (t,.slice ea el ec,.slice ca cl cc)=ae xh (.slice ea el ec) (.slice ca cl cc):=by rw[Hv];rfl
   rw[hP,jQc] at ha;have hC:Hid (bL (cf n) (l.map Prod.fst) (k0+1)=(acc.map Prod.fst++nt.1::(bL (cf n) ((l.map Prod.fst).drop (k+1)) nt.2).1,(bL (cf n) ((l.map Prod.fst).drop (k+1)) nt.2).2)):=by show _=_;rw[hq.o,hw]
   have hK:Hid (nt.2+(((((l.map Prod.fst).drop (k+1)).map (manyN n)).sum:Nat):Int)<=1000000):=by show _<=_;omega
   have hD:0<=nt.2:=by omega
   have HC:=hd ha;have i1:¬((l.length:Int)<=(k:Int)):=by omega
   clear hw hE hr hp ha HE Hv hP hu hy d6 hq HG;go_wp2_with fail;refine HC.o.mono ?_;rintro e w1 ⟨HP,HM,rfl,Hs,Hq⟩;obtain⟨⟨x1,x2,x3,rfl⟩,y1,y2,y3,rfl⟩:=Hs.aG;obtain⟨n1,n2⟩:=nt;simp only at Hs hD hK hC ⊢;obtain⟨yh,Hw⟩:∃x,x=aa n n1:=⟨_,rfl⟩;rw[<-Hw,jQc];obtain⟨V,hV,Hr,HF,HJ,HK⟩:=jSE w1 #[.bool yh.inner,.slice x1 x2 x3,.slice y1 y2 y3,.int .i64 yh.least,.int .i64 yh.rows,.string yh.sl,.int .i64 yh.num] #[.bool yh.inner,.slice x1 x2 x3,.slice y1 y2 y3,.int .i64 yh.least,.int .i64 yh.rows,.string yh.sl,.int .i64 yh.num];have hR:=hd ((Hl.o.below Hq).below Hr);have hO:=Hs.below Hr;have h3:=hd hO
   have h5:Hid (Reads V (.slice (some ⟨w1.heap.size+1,0,none⟩) 1 1) 1 7 ([(n1,Value.slice x1 x2 x3,Value.slice y1 y2 y3)].flatMap (au n))):=by
    have:=jGX (w1.alloc (.cells #[.bool yh.inner,.slice x1 x2 x3,.slice y1 y2 y3,.int .i64 yh.least,.int .i64 yh.rows,.string yh.sl,.int .i64 yh.num] 60)) 60 #[.bool yh.inner,.slice x1 x2 x3,.slice y1 y2 y3,.int .i64 yh.least,.int .i64 yh.rows,.string yh.sl,.int .i64 yh.num] ([(n1,Value.slice x1 x2 x3,Value.slice y1 y2 y3)].flatMap (au n)) 1 7 (by rw[Hw];rfl) rfl
    rw[jQr] at this;rw[hV];exact this
   have hX:=hd Hr;have hS:=hd Hq;have Hg:=Hq.size;have h6:=hd HF;have h7:=hd hV;clear Hs Hq hV Hr HF HJ HK hO Hw HC;go_wp2_with (at_builtin;rw[<-h7.o];refine jQJ rfl (.tmp 30) (.tmp 32) rfl Y (w.heap.size+2) _ n acc rfl hR.o (n1,Value.slice x1 x2 x3,Value.slice y1 y2 y3) _ rfl h5.o h3.o (by omega) (by rw[h6.o];omega) ?_;intro v5 w5 Hm HD _ _;have h4:=hd Hm;have hU:=hd HD;clear Hm HD);go_roundw;exact⟨k+1,n2,acc++[(n1,Value.slice x1 x2 x3,Value.slice y1 y2 y3)],by omega,by go_num,rfl,h4,fun e=>by simp at e,by rw[cg];simp;omega,hD,hK,by show _=_;rw[hC.o,cR,dm];rfl,hb.o.trans ((hS.o.mono (by rw[hs.o];omega)).trans ((hX.o.mono (by rw[hs.o];omega)).trans (by rw[hs.o];exact hU.o)))⟩;simp[intOf];omega
  have hN:k=l.length:=by omega
  have hC:Hid (bL (cf n) (l.map Prod.fst) (k0+1)=(acc.map Prod.fst,x)):=by
   show _=_;rw[hq.o,hN,cD (by simp)];simp[bL]
  have i1:¬((k:Int)<(l.length:Int)):=by omega
  obtain⟨b0,b1,b2,b3,b4,b5,b6⟩:=jQw hf.o;obtain⟨f0,f1,f2,f3,f4,f5,f6⟩:=jQk hf.o;obtain⟨g0,g1,g2,g3,g4,g5,g6⟩:=jQk hj.o;obtain⟨wa,hA⟩:∃wa,wa=(wo.setCell ⟨w.heap.size,2,none⟩ (.slice yo acc.length Hj)).setCell ⟨w.heap.size,6,none⟩ (.int .i64 k0):=⟨_,rfl⟩;have hQ:∀g,g≠w.heap.size->wa.heap[g]?=wo.heap[g]?:=fun g hg=>by rw[hA,jQg hg,jQg hg]
  obtain⟨wz,hB⟩:∃wz,wz=bT wa (w.heap.size+1) (.bool h.inner) (.slice eo es.length Hk) (.slice yo acc.length Hj) (.int .i64 h.least) (.int .i64 h.rows) (.string h.sl) (.int .i64 k0):=⟨_,rfl⟩;have hF:∀g,g≠w.heap.size->g≠w.heap.size+1->wz.heap[g]?=wo.heap[g]?:=fun g h1 h2=>by rw[hB,jQl _ _ _ _ _ _ _ _ _ h2];exact hQ g h1
  have NA:Hid (aB Z 0 wz (.slice yo acc.length Hj) n acc):=by
   refine⟨?_,fun y hy=>?_⟩
   ·refine jQj (jQp Hl.o.own fun q hq=>?_) zR
    have:=(World.ownsRow.lt Hl.o.own q hq).1
    exact hF q (by omega) (by omega)
   refine((Hl.o.at.each y hy).move (fun q c e fr hq he=>?_)).less hM.o;refine hF q ?_ ?_
   ·rintro rfl;rcases he with rfl | ⟨_,he⟩
    ·rw[hj.o] at hq;simp at hq
    exact he Hb.o
   rintro rfl;rcases he with rfl | ⟨_,he⟩
   ·rw[hf.o] at hq;simp at hq
   exact he Hc.o
  have EA:Hid (aM 0 wz (.slice eo es.length Hk) es):=by
   refine⟨(hJ.o.below hb.o).1,?_⟩;rcases(hJ.o.below hb.o).2 with h0 | ⟨g,cap,cur,hv,hbg,hh,hn,hm,hc,ht⟩
   ·exact Or.inl h0
   refine Or.inr ⟨g,cap,cur,hv,hbg,(hF g ?_ ?_).trans hh,hn,hm,hc,ht⟩
   ·rintro rfl;rw[hj.o] at hh;simp at hh
   rintro rfl;rw[hf.o] at hh;simp at hh
  have OV:Hid (jJp Z (.slice yo acc.length Hj)):=by
   intro g o p kk c hv hz;have He:(Value.slice yo acc.length Hj).ownBlock=some g:=by rw[hv];rfl
   exact hL.o g (World.ownsRow.lt Hl.o.own g He).1 (hM.o g hz)
  have BZ:Hid (Below w.heap.size w wz):=by
   show Below _ _ _;rw[hB];refine jQu ?_ (eB _) _ _ _ _ _ _ _;rw[hA];exact cj (B:=w.heap.size) (cj (B:=w.heap.size) (HW.o.trans (hb.o.mono (by rw[hs.o];omega))) nR _) nR _
  have Ha:=hd hB;have h8:=hd hA;clear hB hA hQ hF hN hq;go_wp2;refine cp (v:=.tuple #[.agg (ae { h with num:=k0 } (.slice eo es.length Hk) (.slice yo acc.length Hj)).toArray,.int .i64 x]) (by simp[results,Tryz.results52,go_sem,ae, *]) rfl ?_;have hB:=Ha.o;have hA:=h8.o;subst hA;subst hB;exact⟨_,acc,by rw[hC.o],by rw[hC.o],EA.o,NA.o,OV.o,Hu.o,BZ.o⟩
theorem jPv:∀(n:Nat) (Z:Nat->Prop) (t:Nd n) (ev cv:Value) (k:Int) (K:Int) (w:World),ag Z w n t ev cv->aT K n t->(∀g,w.heap.size<=g->¬Z g)->0<=k->k+(manyN n t:Int)<=1000000 ->
  Calls Tryz.prog 52 #[.agg (ae (aa n t) ev cv).toArray,.int .i64 k] w (jIk Z n (cf n t k) w)
 | 0,Z,t,ev,cv,k,K,w,h,hf,hZ,h0,hb=>by
  obtain⟨h1,rfl⟩:=h.leaf
  have hk:(t:af Empty).kids=[]:=by
   cases hq:(t:af Empty).kids with
   | nil=>rfl
   | cons c _=>exact c.elim
  refine(jPu (Z:=Z) 0 (aa 0 t) (af.av t) [] ev (.slice none 0 0) k w h1 ⟨cu _ _ _ _,fun x hx=>by cases hx⟩ zR hZ h0 (by simp;have:manyN 0 t=1:=rfl;omega) (fun x hx=>by cases hx)).mono ?_;rintro e w' ⟨v,l,rfl,hm,he,hn,ho,hp,hj⟩
  have hh:l=[]:=by
   have:l.map Prod.fst=[]:=hm
   exact List.map_eq_nil_iff.1 this
  have hv:=hp hh;subst hv
  have e0:cf 0 t k=((⟨{ (af.hd t) with num:=k },af.av t,[]⟩:af Empty),k+1):=by
   show jEO _ t k=_;unfold jEO;rw[hk];rfl
  rw[e0];exact⟨ev,_,rfl,⟨he,rfl⟩,hj⟩
 | n+1,Z,t,ev,cv,k,K,w,h,hf,hZ,h0,hb=>by
  obtain⟨h1,l,h2,h3⟩:=h.inner;have hc:=hf.at1.kids;have ha:=hf.at1.each
  have hg:(manyN (n+1) t:Int)=1+(((l.map Prod.fst).map (manyN n)).sum:Nat):=by
   show((1+((af.kids t).map (manyN n)).sum:Nat):Int)=_
   rw[h2];omega
  have hi:l.length<=4:=by rw[h2,cF] at hc;exact hc
  refine(jPu (Z:=Z) n (aa (n+1) t) (af.av t) l ev cv k w h1 h3 (by omega) hZ h0 (by omega) (fun x hx w' k' Y hY ht hr hs=>jPv n Y x.1 x.2.1 x.2.2 k' K w' ht (ha x.1 (by rw[h2];exact List.mem_map.2 ⟨x,hx,rfl⟩)) hY hr hs)).mono ?_;rintro e w' ⟨v,l',rfl,hm,he,hn,ho,-,hj⟩
  have e0:cf (n+1) t k=((⟨{ (af.hd t) with num:=k },af.av t,l'.map Prod.fst⟩:af (Nd n)),(bL (cf n) (l.map Prod.fst) (k+1)).2):=by
   show jEO _ t k=_;unfold jEO;rw[hm,h2]
  rw[e0];exact⟨ev,v,rfl,ag.mk he rfl hn ho,hj⟩
theorem jWZ (X:aj)(ev cv:Value)(K:Int)(w:World)(h:ag Z w X.d X.t ev cv)(hf:aT K X.d X.t)(hZ:∀g,w.heap.size<=g->¬Z g)(hm:manyN X.d X.t<=900000) :
  Calls Tryz.prog 42 #[.agg (ae X.head ev cv).toArray] w fun e w'=>∃ev' cv',e=.returned (.agg (ae X.ay.head ev' cv').toArray)/\ag Z w' X.ay.d X.ay.t ev' cv'/\Below w.heap.size w w':=by
 obtain⟨n,t⟩:=X;obtain⟨⟨e1,e2,e3,hD⟩,c1,c2,c3,hC⟩:=h.aG;subst hD hC;simp only[aj.head,aj.ay] at h hf hm ⊢;have ha:=jPv n (fun g=>Z g\/g=w.heap.size+1) t (.slice e1 e2 e3) (.slice c1 c2 c3) 1 K;obtain⟨pt,hB⟩:∃x,x=cf n t 1:=⟨_,rfl⟩;rw[<-hB] at ha ⊢;obtain⟨hh,hA⟩:∃x,x=aa n t:=⟨_,rfl⟩;rw[<-hA] at ha ⊢;rw[jQc] at ha ⊢;obtain⟨W,hy,hW,ht,-,hs⟩:=jIM w #[.bool hh.inner,.slice e1 e2 e3,.slice c1 c2 c3,.int .i64 hh.least,.int .i64 hh.rows,.string hh.sl,.int .i64 hh.num]
 have hc:=ha W ((h.more (eB _)).below hW) hf (fun g hg=>by
  rw[ht] at hg;rintro(hz | hz)
  ·exact hZ g (by omega) hz
  omega) (by omega) (by omega)
 have HC:=hd hc;have HW:=hd hW;have hj:=hd hs;have hl:=hd ht;clear h hf ha hW ht hs hc hB hA hZ;go_enter Tryz.func42,Tryz.ntmps42;go_wp2_with fail;rw[<-show jAR=#[.bool false,.slice none 0 0,.slice none 0 0,.int .i64 0,.int .i64 0,.string ⟨#[]⟩,.int .i64 0] from rfl,<-hy];clear hy;refine HC.o.mono ?_;rintro e w1 ⟨hF,hE,rfl,hn,hv⟩;obtain⟨⟨x1,x2,x3,rfl⟩,y1,y2,y3,rfl⟩:=hn.aG;have hb:=(hv.block (w.heap.size+1) (by rw[hl.o];omega)).trans hj.o;obtain⟨r,k2⟩:=pt;simp only at hn ⊢;obtain⟨yh,hx⟩:∃x,x=aa n r:=⟨_,rfl⟩;rw[<-hx,jQc];obtain⟨b0,b1,b2,b3,b4,b5,b6⟩:=jQw hb;obtain⟨f0,f1,f2,f3,f4,f5,f6⟩:=jQk hb;have hr:=jQe hb;obtain⟨ws,he⟩:∃ws,ws=bT w1 (w.heap.size+1) (.bool yh.inner) (.slice x1 x2 x3) (.slice y1 y2 y3) (.int .i64 yh.least) (.int .i64 yh.rows) (.string yh.sl) (.int .i64 yh.num):=⟨_,rfl⟩
 have ho:ag Z ws n r (.slice x1 x2 x3) (.slice y1 y2 y3):=by
  rw[he];exact(ag.skip (b:=w.heap.size+1) hn (Or.inr rfl) hb fun g hg=>jQl _ _ _ _ _ _ _ _ _ hg).less fun g hg=>Or.inl hg
 have hk:Below w.heap.size w ws:=by
  rw[he];exact jQu (HW.o.trans (hv.mono (by rw[hl.o];omega))) (eB _) _ _ _ _ _ _ _
 have hi:Hid (ag Z (ws.alloc (.cells #[.bool yh.inner,.slice x1 x2 x3,.slice y1 y2 y3,.int .i64 yh.least,.int .i64 yh.rows,.string yh.sl,.int .i64 yh.num] 60)) n r (.slice x1 x2 x3) (.slice y1 y2 y3)/\Below w.heap.size w (ws.alloc (.cells #[.bool yh.inner,.slice x1 x2 x3,.slice y1 y2 y3,.int .i64 yh.least,.int .i64 yh.rows,.string yh.sl,.int .i64 yh.num] 60))):=⟨ho.below (bA),hk.alloc hk.size _⟩;have hp:=hd he;have hq:=hd hx;clear hn hv hb he ho hk hx HC;go_wp2;refine cp (v:=.agg (ae yh (.slice x1 x2 x3) (.slice y1 y2 y3)).toArray) (by simp[results,Tryz.results42,go_sem,ae, *]) rfl ?_;have he:=hp.o;subst he;exact⟨_,_,by rw[hq.o],hi.o.1,hi.o.2⟩
def jC2 (Z:Nat->Prop)(b n:Nat)(x:Nd n×Rd)(w:World)(e:Ending)(w':World):Prop :=
 ∃ev cv,e=.returned (.agg (ae (aa n x.1) ev cv).toArray)/\ag Z w' n x.1 ev cv/\bJ b w' x.2/\Rf b w w'
def jHO (Z:Nat->Prop)(b n:Nat)(x:List (Nd n)×Rd)(w:World)(e:Ending)(w':World):Prop :=
 ∃cv,e=.returned (.agg (ae (aV (aa n) x.1).hd (.slice none 0 0) cv).toArray)/\(∃l,l.map Prod.fst=x.1/\aB Z 0 w' cv n l/\jJp Z cv)/\bJ b w' x.2/\Rf b w w'
theorem jNj:∀(n:Nat) (s:BA) (l q:Int),aa n (bg n s l q)=⟨false,l,q,s,0⟩
 | 0,_,_,_=>rfl
 | _+1,_,_,_=>rfl
theorem jLV (Z:Nat->Prop)(w:World):∀(n:Nat) (s:BA) (l q:Int),ag Z w n (bg n s l q) (.slice none 0 0) (.slice none 0 0)
 | 0,_,_,_=>⟨aM.nil w,rfl⟩
 | _+1,_,_,_=>⟨aM.nil w,[],rfl,cu _ _ _ _,fun g o p k c hv=>(by cases hv),fun x hx=>(by cases hx)⟩
theorem jK2 (f:α->Sq.Head)(mk:BA->Int->Int->α)(rd:Rd->α×Rd)(k:Nat)(r:Rd):bD f mk rd (k+1) r=((jAD f mk (aF r 5) (aF (takeN r 5) 1) (rd (takeN (takeN r 5) 1))).1::(bD f mk rd k (jAD f mk (aF r 5) (aF (takeN r 5) 1) (rd (takeN (takeN r 5) 1))).2).1,(bD f mk rd k (jAD f mk (aF r 5) (aF (takeN r 5) 1) (rd (takeN (takeN r 5) 1))).2).2):=rfl
theorem jAZ.rf {Y:Nat->Prop}{r:Rd}{l:List (Nd n×Value×Value)}(h:jAZ Y B w v n l)(hr:bJ b w r)(hf:Rf b w w'):jAZ Y B w' v n l:=⟨jRQ h.own hr (by decide) hf,fun x hx=>(h.each x hx).rf hr hf⟩
theorem Sq.fits.kid {r:Rd}(wide:Nat)(h:Sq.fits n r)(l q:Int):Sq.fits n (jAD (aa n) (bg n) l q (aN wide n r)).2:=by
 have h1:=h.read (n:=n) wide;unfold jAD
 split
 ·exact h1
 split
 ·exact h1
 exact Or.inr rfl
theorem Sq.jYd (wide:Nat)(r:Rd)(l q:Int):(jAD (aa n) (bg n) l q (aN wide n r)).2.rest.size<=r.rest.size:=by
 have h1:=(jHq wide n r).1;unfold jAD
 split
 ·exact h1
 split
 ·exact h1
 exact h1
theorem jWp (n wide b:Nat)(r:Rd)(w:World)(h:bJ b w r)(hs:r.rest.size<=100000)(hf:Sq.fits n (takeN r 1))(hZ:∀g,w.heap.size<=g->¬Z g)
  (ih:∀(r:Rd) (w':World) (Y:Nat->Prop),(∀g,w'.heap.size<=g->¬Y g)->bJ b w' r->r.rest.size<=100000->Sq.fits n r->Calls Tryz.prog 60 #[.pointer (some ⟨b,0,none⟩),.int .i64 wide] w' (jC2 Y b n (aN wide n r) w')) :
  Calls Tryz.prog 92 #[.pointer (some ⟨b,0,none⟩),.int .i64 wide] w (jHO Z b n (bD (aa n) (bg n) (aN wide n) (aF r 1).toNat (takeN r 1)) w):=by
 have HQ:=Sq.jJd r;have H7:=cm (jQo r 1) hs;obtain⟨c,hc⟩:=cU HQ.1;have HP:c<=255:=by omega
 have HT:=Sq.jJ2 (f:=aa n) (mk:=bg n) (Sq.jKY n) (fun r=>jHq wide n r) c (takeN r 1);obtain⟨x,hx⟩:∃x,x=bD (aa n) (bg n) (aN wide n) c (takeN r 1):=⟨_,rfl⟩;rw[hc,cC,<-hx];rw[<-hx] at HT;obtain⟨k8,-,-,kM,-,-⟩:=HT;have HY:Hid (∀c∈x.1,0<=(aa n c).rows/\(aa n c).rows<=1000000000):=fun c hc=>by have:=kM c hc;omega
 have HX:=hd hx;have HC:=hd hc;have HF:=hd hf;have IH:=hd ih;have Kd:=jQe h;have H:=hd h;obtain⟨Y,hY⟩:∃Y:Nat->Prop,Y=fun g=>Z g\/g=w.heap.size:=⟨_,rfl⟩
 have HM:Hid (∀g,w.heap.size+1<=g->¬Y g):=by
  intro g hg;rw[hY];rintro(hz | hz)
  ·exact hZ g (by omega) hz
  omega
 have HN:Hid (∀g,Z g->Y g):=by intro g hg;rw[hY];exact Or.inl hg
 have H3:Hid (Y w.heap.size):=by show Y _;rw[hY];exact Or.inr rfl
 clear h hx hc HQ kM hf ih hZ hY;obtain⟨W,hW⟩:∃W:World,W=w.alloc (.cells jAR 60):=⟨_,rfl⟩;have HA:Below w.heap.size w W:=by rw[hW];exact bA
 have h2:W.heap[w.heap.size]?=some (.cells jAR 60):=by rw[hW];exact jQi _ _
 have Kc:=jQe h2;have HK:=hd (H.o.below HA);have HI:=hd HA;have Ha:=hd h2;clear HA h2;go_enter Tryz.func92,Tryz.ntmps92;go_wp2_with fail;rw[<-show jAR=#[.bool false,.slice none 0 0,.slice none 0 0,.int .i64 0,.int .i64 0,.string ⟨#[]⟩,.int .i64 0] from rfl,<-hW];clear hW;refine(jKS b r _ HK.o (by omega)).mono ?_;rintro e w1 ⟨rfl,kN,kJ⟩;rw[HC.o];have hB:=(kJ.other w.heap.size (by omega)).trans Ha.o;have Hy:Hid (Rf b w w1):=(Rf.jBF HI.o).trans (Rf.jBA kJ);have H1:=hd kN;have Hb:=hd hB;have Ka:=jQe hB;clear kJ kN hB HK HI Ha H;go_wp2
 go_loopw [5,7] (fun v i wr=>∃(k:Nat) (acc:List (Nd n×Value×Value)) (rr:Rd),k<=c/\i=.int .i64 k/\Hid (jAZ Y (w.heap.size+1) wr v n acc)/\Hid (acc.length=k)/\rr.rest.size<=100000/\Hid (Sq.fits n rr)/\Hid (bJ b wr rr)/\Hid (x=(acc.map Prod.fst++(bD (aa n) (bg n) (aN wide n) (c-k) rr).1,(bD (aa n) (bg n) (aN wide n) (c-k) rr).2))/\Hid (Rf b w wr)/\Hid (wr.heap[w.heap.size]?=some (.cells jAR 60))) (fun _ i _=>c-(intOf i).toNat)
 case atStart=>exact⟨0,[],takeN r 1,zR,rfl,jAZ.nil _ _ _ _,rfl,H7,HF,H1,by show _=_;rw[HX.o];rfl,Hy,Hb⟩
 case round =>
  obtain⟨k,acc,rr,hk,rfl,kp,kd,kT,kS,kn,hq,kE,kx⟩:=hrel;have k7:acc.length<=255:=by have:=kd.o;omega
  obtain⟨wo,rfl⟩:∃wo:World,wo=wr:=⟨_,rfl⟩;obtain⟨yo,kl,rfl⟩:=jQa kp.o.own;have kZ:=jQe kx.o;have Ke:=jQe kn.o
  by_cases hkt:k<c
  ·have i1:(k:Int)<(c:Int):=by omega
   obtain⟨m,hm⟩:∃m,c-k=m+1:=⟨c-k-1,by omega⟩;have h4:=hq.o;rw[hm,jK2] at h4;simp only at h4;have HU:c-(k+1)=m:=by omega
   have H8:=cm (jQo rr 5) kT;have H9:=cm (jQo (takeN rr 5) 1) H8;have H5:0<=aF rr 5/\aF rr 5<1099511627776:=Sq.jUb rr 5 (by decide);have H6:=Sq.jUc (takeN rr 5);have hT:=(kS.o.take 5).take 1;have hn:=hT.kid wide (aF rr 5) (aF (takeN rr 5) 1);have hE:=cm (Sq.jYd (n:=n) wide (takeN (takeN rr 5) 1) (aF rr 5) (aF (takeN rr 5) 1)) H9;have HB:∀c,jAD (aa n) (bg n) (aF rr 5) (aF (takeN rr 5) 1) c=if aw (aa n c.1) then(bg n (aa n c.1).sl (aF rr 5) (aF (takeN rr 5) 1),c.2) else if(aa n c.1).least=aF rr 5/\(aa n c.1).rows=aF (takeN rr 5) 1 then c else(c.1,jDP c.2):=fun c=>rfl
   have hA:=IH.o (takeN (takeN rr 5) 1);obtain⟨ls,kt⟩:∃x,x=aF rr 5:=⟨_,rfl⟩;obtain⟨rs,ke⟩:∃x,x=aF (takeN rr 5) 1:=⟨_,rfl⟩;have HV:=jHq wide n (takeN (takeN rr 5) 1);obtain⟨cx,kB⟩:∃x,x=aN wide n (takeN (takeN rr 5) 1):=⟨_,rfl⟩;rw[<-kt] at H5;rw[<-ke] at H6;rw[<-kt,<-ke,<-kB] at h4 hn hE;rw[<-kt,<-ke] at HB;rw[<-kB] at hA;rw[<-kB] at HV;obtain⟨-,-,ky,kL⟩:=HV;have hU:=HB cx;obtain⟨kf,ks⟩:∃x,x=jAD (aa n) (bg n) ls rs cx:=⟨_,rfl⟩;rw[<-ks] at h4 hn hE hU;have H0:=hd kt;have H2:=hd ke;have hO:=hd h4;have Ho:=hd HU;have HJ:=hd hU;have Hn:=hd hn;have hK:=hd hA;have Ht:=hd hT;have Hj:(aa n cx.1).rows<=1000000000:=by omega
   clear hq h4 hm HU kt ke HB hU ks hn hA hT kB kL;go_wp2_with fail;refine(jR3 b rr _ kn.o (by omega)).mono ?_;rintro e w2 ⟨rfl,kO,kC⟩;rw[<-H0.o];have Hv:=hd kO;have h5:=hd (kp.o.rf kn.o (Rf.jBA kC));have hl:=hd (kE.o.trans (Rf.jBA kC));have hG:=hd ((kC.other w.heap.size (by omega)).trans kx.o);clear kO kC kp kn kE kx;go_wp2_with fail;refine(jKS b _ _ Hv.o (by omega)).mono ?_;rintro e w3 ⟨rfl,kP,kD⟩;rw[<-H2.o];have Hw:=hd kP;have He:=h5.o.rf Hv.o (Rf.jBA kD);have hL:=hd He;have Hc:=hd (hl.o.trans (Rf.jBA kD));have h0:=(kD.other w.heap.size (by omega)).trans hG.o;have h7:=hd h0;have kY:=jQe h0;clear kP kD He h0 Hv h5 hl hG;go_wp2_with fail
   refine(hK.o w3 (fun g=>Y g\/(Value.slice yo acc.length kl).ownBlock=some g) (fun g hg=>by
    rintro(h9 | h9)
    ·exact HM.o g (by omega) h9
    have:=(World.ownsRow.lt hL.o.own g h9).2
    omega) Hw.o (by omega) Ht.o).mono ?_
   rintro e w4 ⟨k6,k5,rfl,kI,kK,kq⟩;obtain⟨⟨x1,x2,x3,kR⟩,y1,y2,y3,kQ⟩:=kI.aG;subst kR kQ;obtain⟨yh,ko⟩:∃x,x=aa n cx.1:=⟨_,rfl⟩;rw[<-ko,jQc];have Hf:=hL.o.rf Hw.o kq;have h1:=(kq.block w.heap.size kY (by omega)).trans h7.o;obtain⟨V,hV⟩:∃V:World,V=w4.alloc (.cells #[.bool yh.inner,.slice x1 x2 x3,.slice y1 y2 y3,.int .i64 yh.least,.int .i64 yh.rows,.string yh.sl,.int .i64 yh.num] 60):=⟨_,rfl⟩;have HO:Below w4.heap.size w4 V:=by rw[hV];exact bA
   have Hs:V.heap[w4.heap.size]?=some (.cells #[.bool yh.inner,.slice x1 x2 x3,.slice y1 y2 y3,.int .i64 yh.least,.int .i64 yh.rows,.string yh.sl,.int .i64 yh.num] 60):=by rw[hV];exact jQi _ _
   have HW:=jQe h1;have kV:=kq.size;have h6:=hd Hf;have Hu:=hd kI;have hD:=hd kK;have Hd:=hd (Hc.o.trans kq);have h8:=hd h1;have HL:=hd Hs;have HH:=hd HO;have k1:=jQe Hs;have k0:=jQe kK;obtain⟨m0,m1,m2,m3,m4,m5,m6⟩:=aP.blk (h:=yh) Hs;simp only[df] at m1 m2 m3 m4 m5 m6;have k9:yh.rows<=1000000000:=by rw[ko];exact Hj
   have kX:0<=yh.rows:=by rw[ko];exact ky
   have hU:=HJ.o;rw[<-ko] at hU;have hM:=hd hU;have H4:=hd ko;clear kI kK kq Hf h1 HO Hs ko hU hL Hw Hc h7 hK HJ Hj ky;go_wp2_with fail;rw[<-hV];clear hV;refine(jH2 yh _ _ _ ⟨_,_,_,rfl⟩ ⟨_,_,_,rfl⟩).mono ?_;rintro e w5 ⟨rfl,kF⟩;have ht:Hid (Below w4.heap.size w4 w5):=HH.o.trans (kF.mono (by omega));have hI:=(kF.block _ k1).trans HL.o;have hP:=hd hI;have HG:=jQe hI;have HE:=ht.o.size;clear m0 m1 m2 m3 m4 m5 m6;obtain⟨m0,m1,m2,m3,m4,m5,m6⟩:=aP.blk (h:=yh) hI;simp only[df] at m1 m2 m3 m4 m5 m6;clear kF hI HH HL
   -- how a round ends: a node is put behind
   have Hh:∀(V9:World) (kid:Nd n) (kr:Rd) (ev cv:Value),kf=(kid,kr)->Below w4.heap.size w4 V9\/(∃V8,Below w4.heap.size w4 V8/\Rf b V8 V9/\bJ b V8 cx.2)->bJ b V9 kr->ag (fun g=>Y g\/(Value.slice yo acc.length kl).ownBlock=some g) V9 n kid ev cv ->
     jAZ Y (w.heap.size+1) V9 (.slice yo acc.length kl) n acc/\Rf b w V9/\V9.heap[w.heap.size]?=some (.cells jAR 60):=by
    intro V9 kid kr ev cv _ kc _ _;rcases kc with kc | ⟨V8,hb8,hf9,hr8⟩
    ·exact⟨h6.o.below kc,Hd.o.trans (Rf.jBF kc),(kc.block _ HW).trans h8.o⟩
    ·exact⟨(h6.o.below hb8).rf hr8 hf9,(Hd.o.trans (Rf.jBF hb8)).trans hf9,(hf9.block _ (by have:=hb8.size;omega) (by omega)).trans ((hb8.block _ HW).trans h8.o)⟩
   have hF:=hd Hh;clear Hh;cases hsh:aw yh
   case true =>
    have hC:Hid (kf=(bg n yh.sl ls rs,cx.2)):=by show _=_;rw[hM.o,hsh];rfl
    go_wp2_with fail;refine(jUB yh.sl ls rs _).mono ?_;rintro e w6 ⟨rfl,kG⟩;rw[jQc];have hh:=(kG.block _ HG).trans hP.o;obtain⟨f0,f1,f2,f3,f4,f5,f6⟩:=jQk hh;obtain⟨p0,p1,p2,p3,p4,p5,p6⟩:=aP.blk (h:=yh) hh;simp only[df] at p1 p2 p3 p4 p5 p6;have Hl:=jQe hh;have Hg:Below w4.heap.size w4 w6:=ht.o.trans (kG.mono (by omega));obtain⟨A6,kz⟩:∃A6,A6=bT w6 w4.heap.size (.bool false) (.slice none 0 0) (.slice none 0 0) (.int .i64 ls) (.int .i64 rs) (.string yh.sl) (.int .i64 0):=⟨_,rfl⟩;have hS:Below w4.heap.size w4 A6:=by rw[kz];exact jQu Hg nR _ _ _ _ _ _ _
    have Hk:A6.heap.size=w6.heap.size:=by rw[kz];simp[bT]
    obtain⟨VV,kb⟩:∃VV,VV=A6.alloc (.cells #[.bool false,.slice none 0 0,.slice none 0 0,.int .i64 ls,.int .i64 rs,.string yh.sl,.int .i64 0] 60):=⟨_,rfl⟩;have he:Below w4.heap.size w4 VV:=by rw[kb];exact hS.alloc hS.size _
    have ho:Hid (Reads VV (.slice (some ⟨w6.heap.size,0,none⟩) 1 1) 1 7 ([(bg n yh.sl ls rs,Value.slice none 0 0,Value.slice none 0 0)].flatMap (au n))):=by
     have:=jGX A6 60 #[.bool false,.slice none 0 0,.slice none 0 0,.int .i64 ls,.int .i64 rs,.string yh.sl,.int .i64 0] ([(bg n yh.sl ls rs,Value.slice none 0 0,Value.slice none 0 0)].flatMap (au n)) 1 7 (by simp[au,ae,jNj]) rfl
     rw[Hk] at this;rw[kb];exact this
    have hQ:Hid (VV=(bT w6 w4.heap.size (.bool false) (.slice none 0 0) (.slice none 0 0) (.int .i64 ls) (.int .i64 rs) (.string yh.sl) (.int .i64 0)).alloc (.cells #[.bool false,.slice none 0 0,.slice none 0 0,.int .i64 ls,.int .i64 rs,.string yh.sl,.int .i64 0] 60)):=by show _=_;rw[kb,kz]
    have hi:=hF.o VV (bg n yh.sl ls rs) cx.2 (.slice none 0 0) (.slice none 0 0) hC.o (Or.inl he) (hD.o.below he) (jLV _ _ _ _ _ _);have ha:=hd hi;have hH:=hd (hD.o.below he);have h3:=he.size;clear kG hh Hg kz hS Hk kb he hi;go_wp2_with (at_builtin;have HD:=hQ.o;unfold bT at HD;rw[<-HD];clear HD;refine jQJ rfl (.tmp 44) (.tmp 46) rfl Y (w.heap.size+1) _ n acc rfl ha.o.1 (bg n yh.sl ls rs,Value.slice none 0 0,Value.slice none 0 0) _ rfl ho.o (jLV _ _ _ _ _ _) (by omega) (by omega) ?_;intro v9 w9 ka kc _ _;have hN:=hd ka;have hb:=hd kc;clear ka kc);have hX:bJ b w9 cx.2:=(hb.o.block b (by omega)).trans hH.o;have hp:w9.heap[w.heap.size]?=some (.cells jAR 60):=(hb.o.block _ (by omega)).trans ha.o.2.2;have hr:Rf b w w9:=⟨hb.o.os.trans ha.o.2.1.os,hb.o.tape.trans ha.o.2.1.tape,hb.o.output.trans ha.o.2.1.output,cm ha.o.2.1.size hb.o.size,fun g hg kg=>(hb.o.block g (by omega)).trans (ha.o.2.1.block g hg kg)⟩;have hn:=Hn.o;have hu:=hO.o;rw[hC.o] at hn hu hE;go_roundw;exact⟨k+1,acc++[(bg n yh.sl ls rs,Value.slice none 0 0,Value.slice none 0 0)],cx.2,by omega,by go_num,hN,by show _=_;rw[cg,kd.o];rfl,hE,hn,hX,by show _=_;rw[hu,Ho.o];simp,hr,hp⟩;simp[intOf];omega
   case false =>
    obtain⟨VV,kb⟩:∃VV,VV=w5.alloc (.cells #[.bool yh.inner,.slice x1 x2 x3,.slice y1 y2 y3,.int .i64 yh.least,.int .i64 yh.rows,.string yh.sl,.int .i64 yh.num] 60):=⟨_,rfl⟩;have Hi:au n (cx.1,Value.slice x1 x2 x3,Value.slice y1 y2 y3)=ae yh (.slice x1 x2 x3) (.slice y1 y2 y3):=by rw[H4.o];rfl
    by_cases heq:yh.least=ls/\yh.rows=rs
    ·have hC:Hid (kf=(cx.1,cx.2)):=by show _=_;rw[hM.o,hsh,cy (by decide),cE heq]
     obtain⟨km,Hr⟩:=heq;have he:Below w4.heap.size w4 VV:=by rw[kb];exact ht.o.alloc HE _
     have ho:Hid (Reads VV (.slice (some ⟨w5.heap.size,0,none⟩) 1 1) 1 7 ([(cx.1,Value.slice x1 x2 x3,Value.slice y1 y2 y3)].flatMap (au n))):=by
      have:=jGX w5 60 #[.bool yh.inner,.slice x1 x2 x3,.slice y1 y2 y3,.int .i64 yh.least,.int .i64 yh.rows,.string yh.sl,.int .i64 yh.num] ([(cx.1,Value.slice x1 x2 x3,Value.slice y1 y2 y3)].flatMap (au n)) 1 7 (by rw[cK,eA,cW,Hi];rfl) (by rw[cK,eA,cW,Hi];rfl)
      rw[kb];exact this
     have hJ:=hd (Hu.o.below he);have hi:=hF.o VV cx.1 cx.2 _ _ hC.o (Or.inl he) (hD.o.below he) hJ.o;have ha:=hd hi;have hH:=hd (hD.o.below he);have hQ:=hd kb;have h3:=he.size;have j1:(yh.least==ls)=true:=by simpa using km
     have j2:(yh.rows==rs)=true:=by simpa using Hr
     have k2:=hd km;have k3:=hd Hr;clear he hi kb Hi;subst km Hr;go_wp2_with (at_builtin;rw[<-hQ.o];refine jQJ rfl (.tmp 44) (.tmp 46) rfl Y (w.heap.size+1) _ n acc rfl ha.o.1 (cx.1,Value.slice x1 x2 x3,Value.slice y1 y2 y3) _ rfl ho.o hJ.o (by omega) (by omega) ?_;intro v9 w9 ka kc _ _;have hN:=hd ka;have hb:=hd kc;clear ka kc);have hX:bJ b w9 cx.2:=(hb.o.block b (by omega)).trans hH.o;have hp:w9.heap[w.heap.size]?=some (.cells jAR 60):=(hb.o.block _ (by omega)).trans ha.o.2.2;have hr:Rf b w w9:=⟨hb.o.os.trans ha.o.2.1.os,hb.o.tape.trans ha.o.2.1.tape,hb.o.output.trans ha.o.2.1.output,cm ha.o.2.1.size hb.o.size,fun g hg kg=>(hb.o.block g (by omega)).trans (ha.o.2.1.block g hg kg)⟩;have hn:=Hn.o;have hu:=hO.o;rw[hC.o] at hn hu hE;go_roundw;exact⟨k+1,acc++[(cx.1,Value.slice x1 x2 x3,Value.slice y1 y2 y3)],cx.2,by omega,by go_num,hN,by show _=_;rw[cg,kd.o];rfl,hE,hn,hX,by show _=_;rw[hu,Ho.o];simp,hr,hp⟩;simp[intOf];omega
    have hC:Hid (kf=(cx.1,jDP cx.2)):=by show _=_;rw[hM.o,hsh,cy (by decide),cy heq]
    have Hp:=hd Hi;clear kb Hi;clear VV
    by_cases km:yh.least=ls
    ·have Hr:¬(yh.rows=rs):=fun e=>heq ⟨km,e⟩
     clear heq;subst km;go_wp2_with fail;refine(jOc b cx.2 _ (hD.o.below ht.o)).mono ?_;rintro e w6 ⟨rfl,ku,kj⟩;have hh:=(kj.other w4.heap.size (by omega)).trans hP.o;clear m0 m1 m2 m3 m4 m5 m6;obtain⟨m0,m1,m2,m3,m4,m5,m6⟩:=aP.blk (h:=yh) hh;simp only[df] at m1 m2 m3 m4 m5 m6;have Hl:=jQe hh;obtain⟨VV,kb⟩:∃VV,VV=w6.alloc (.cells #[.bool yh.inner,.slice x1 x2 x3,.slice y1 y2 y3,.int .i64 yh.least,.int .i64 yh.rows,.string yh.sl,.int .i64 yh.num] 60):=⟨_,rfl⟩;have hR:Below w6.heap.size w6 VV:=by rw[kb];exact bA
     have hj:Rf b w5 VV:=(Rf.jBA kj).trans (Rf.jBF hR)
     have ho:Hid (Reads VV (.slice (some ⟨w6.heap.size,0,none⟩) 1 1) 1 7 ([(cx.1,Value.slice x1 x2 x3,Value.slice y1 y2 y3)].flatMap (au n))):=by
      have:=jGX w6 60 #[.bool yh.inner,.slice x1 x2 x3,.slice y1 y2 y3,.int .i64 yh.least,.int .i64 yh.rows,.string yh.sl,.int .i64 yh.num] ([(cx.1,Value.slice x1 x2 x3,Value.slice y1 y2 y3)].flatMap (au n)) 1 7 (by rw[cK,eA,cW,Hp.o];rfl) (by rw[cK,eA,cW,Hp.o];rfl)
      rw[kb];exact this
     have hJ:=hd ((Hu.o.below ht.o).rf (hD.o.below ht.o) hj);have hH:Hid (bJ b VV (jDP cx.2)):=ku.below hR;have hi:=hF.o VV cx.1 (jDP cx.2) _ _ hC.o (Or.inr ⟨w5,ht.o,hj,hD.o.below ht.o⟩) hH.o hJ.o;have ha:=hd hi;have hQ:=hd kb;have h3:=cm HE hj.size;clear hR hi kb hj ku kj hh;go_wp2_with (at_builtin;rw[<-hQ.o];refine jQJ rfl (.tmp 44) (.tmp 46) rfl Y (w.heap.size+1) _ n acc rfl ha.o.1 (cx.1,Value.slice x1 x2 x3,Value.slice y1 y2 y3) _ rfl ho.o hJ.o (by omega) (by omega) ?_;intro v9 w9 ka kc _ _;have hN:=hd ka;have hb:=hd kc;clear ka kc);have hX:bJ b w9 (jDP cx.2):=(hb.o.block b (by omega)).trans hH.o;have hp:w9.heap[w.heap.size]?=some (.cells jAR 60):=(hb.o.block _ (by omega)).trans ha.o.2.2;have hr:Rf b w w9:=⟨hb.o.os.trans ha.o.2.1.os,hb.o.tape.trans ha.o.2.1.tape,hb.o.output.trans ha.o.2.1.output,cm ha.o.2.1.size hb.o.size,fun g hg kg=>(hb.o.block g (by omega)).trans (ha.o.2.1.block g hg kg)⟩;have hn:=Hn.o;have hu:=hO.o;rw[hC.o] at hn hu hE;go_roundw;exact⟨k+1,acc++[(cx.1,Value.slice x1 x2 x3,Value.slice y1 y2 y3)],jDP cx.2,by omega,by go_num,hN,by show _=_;rw[cg,kd.o];rfl,hE,hn,hX,by show _=_;rw[hu,Ho.o];simp,hr,hp⟩;simp[intOf];omega
    clear heq;go_wp2_with fail;refine(jOc b cx.2 _ (hD.o.below ht.o)).mono ?_;rintro e w6 ⟨rfl,ku,kj⟩;have hh:=(kj.other w4.heap.size (by omega)).trans hP.o;clear m0 m1 m2 m3 m4 m5 m6;obtain⟨m0,m1,m2,m3,m4,m5,m6⟩:=aP.blk (h:=yh) hh;simp only[df] at m1 m2 m3 m4 m5 m6;have Hl:=jQe hh;obtain⟨VV,kb⟩:∃VV,VV=w6.alloc (.cells #[.bool yh.inner,.slice x1 x2 x3,.slice y1 y2 y3,.int .i64 yh.least,.int .i64 yh.rows,.string yh.sl,.int .i64 yh.num] 60):=⟨_,rfl⟩;have hR:Below w6.heap.size w6 VV:=by rw[kb];exact bA
    have hj:Rf b w5 VV:=(Rf.jBA kj).trans (Rf.jBF hR)
    have ho:Hid (Reads VV (.slice (some ⟨w6.heap.size,0,none⟩) 1 1) 1 7 ([(cx.1,Value.slice x1 x2 x3,Value.slice y1 y2 y3)].flatMap (au n))):=by
     have:=jGX w6 60 #[.bool yh.inner,.slice x1 x2 x3,.slice y1 y2 y3,.int .i64 yh.least,.int .i64 yh.rows,.string yh.sl,.int .i64 yh.num] ([(cx.1,Value.slice x1 x2 x3,Value.slice y1 y2 y3)].flatMap (au n)) 1 7 (by rw[cK,eA,cW,Hp.o];rfl) (by rw[cK,eA,cW,Hp.o];rfl)
     rw[kb];exact this
    have hJ:=hd ((Hu.o.below ht.o).rf (hD.o.below ht.o) hj);have hH:Hid (bJ b VV (jDP cx.2)):=ku.below hR;have hi:=hF.o VV cx.1 (jDP cx.2) _ _ hC.o (Or.inr ⟨w5,ht.o,hj,hD.o.below ht.o⟩) hH.o hJ.o;have ha:=hd hi;have hQ:=hd kb;have h3:=cm HE hj.size;clear hR hi kb hj ku kj hh;go_wp2_with (at_builtin;rw[<-hQ.o];refine jQJ rfl (.tmp 44) (.tmp 46) rfl Y (w.heap.size+1) _ n acc rfl ha.o.1 (cx.1,Value.slice x1 x2 x3,Value.slice y1 y2 y3) _ rfl ho.o hJ.o (by omega) (by omega) ?_;intro v9 w9 ka kc _ _;have hN:=hd ka;have hb:=hd kc;clear ka kc);have hX:bJ b w9 (jDP cx.2):=(hb.o.block b (by omega)).trans hH.o;have hp:w9.heap[w.heap.size]?=some (.cells jAR 60):=(hb.o.block _ (by omega)).trans ha.o.2.2;have hr:Rf b w w9:=⟨hb.o.os.trans ha.o.2.1.os,hb.o.tape.trans ha.o.2.1.tape,hb.o.output.trans ha.o.2.1.output,cm ha.o.2.1.size hb.o.size,fun g hg kg=>(hb.o.block g (by omega)).trans (ha.o.2.1.block g hg kg)⟩;have hn:=Hn.o;have hu:=hO.o;rw[hC.o] at hn hu hE;go_roundw;exact⟨k+1,acc++[(cx.1,Value.slice x1 x2 x3,Value.slice y1 y2 y3)],jDP cx.2,by omega,by go_num,hN,by show _=_;rw[cg,kd.o];rfl,hE,hn,hX,by show _=_;rw[hu,Ho.o];simp,hr,hp⟩;simp[intOf];omega
  have HR:k=c:=by omega
  have i1:¬((k:Int)<(c:Int)):=by omega
  have hO:Hid (x=(acc.map Prod.fst,rr)):=by show _=_;rw[hq.o,HR,Nat.sub_self];simp[bD]
  have Hz:acc.length<=1000:=by omega
  have kU:jBH n acc:=fun y hy=>HY.o y.1 (by rw[hO.o];exact dX hy)
  clear hq HR;go_wp2_with fail;refine(jJa (Z:=Y) n acc _ _ kp.o.at.rd Hz kU).mono ?_;rintro e w2 ⟨k4,rfl,ki,kA⟩;obtain⟨xo,kh,rfl⟩:=jQa ki.own;obtain⟨lh,kH⟩:∃y,y=(aV (aa n) (acc.map Prod.fst)).hd:=⟨_,rfl⟩;rw[<-kH,jQc];have hw:=(kA.block w.heap.size kZ).trans kx.o;obtain⟨b0,b1,b2,b3,b4,b5,b6⟩:=jQw hw;obtain⟨f0,f1,f2,f3,f4,f5,f6⟩:=jQk hw;have Kb:=jQe hw;have hG:=hd hw;have Hx:=hd (kn.o.below kA);have hl:=hd (kE.o.trans (Rf.jBF kA));have Hm:=hd ki;have HZ:=hd kH;clear ki kA hw kn kE kx kp kH;go_wp2;refine cp (v:=.agg #[.bool lh.inner,.slice none 0 0,.slice xo acc.length kh,.int .i64 lh.least,.int .i64 lh.rows,.string lh.sl,.int .i64 lh.num]) (by simp[results,Tryz.results92,go_sem, *]) rfl ?_;rw[hO.o];refine⟨.slice xo acc.length kh,by rw[<-HZ.o,jQc],⟨acc,rfl,⟨?_,fun y hy=>?_⟩,?_⟩,?_,?_⟩
  ·refine jQj (jQp Hm.o.own fun q hq=>jQl _ _ _ _ _ _ _ _ _ ?_) zR
   have:=(World.ownsRow.lt Hm.o.own q hq).1
   omega
  ·exact((Hm.o.each y hy).skip H3.o hG.o (fun g hg=>jQl _ _ _ _ _ _ _ _ _ hg)).less HN.o
  ·intro g o p kk c hv hz;have kW:(Value.slice xo acc.length kh).ownBlock=some g:=by rw[hv];rfl
   exact HM.o g (by have:=(World.ownsRow.lt Hm.o.own g kW).1;omega) (HN.o g hz)
  ·exact(jQl _ _ _ _ _ _ _ _ _ (by omega)).trans Hx.o
  have Hq:=jQu (b:=w.heap.size) (Below.refl 0 w2) zR (.bool lh.inner) (.slice none 0 0) (.slice xo acc.length kh) (.int .i64 lh.least) (.int .i64 lh.rows) (.string lh.sl) (.int .i64 lh.num);exact⟨Hq.os.trans hl.o.os,Hq.tape.trans hl.o.tape,Hq.output.trans hl.o.output,cm hl.o.size Hq.size,fun g hg kg=>(jQl _ _ _ _ _ _ _ _ _ (by omega)).trans (hl.o.block g hg kg)⟩
theorem qBs {Z Y:Nat->Prop}{w3:World}{x:Nd n×Rd}{e1 c1:Option Addr}{e2 e3 c2 c3:Nat}(hh:∀g,Z g->Y g)(hc:Y w.heap.size)(hb:b<w.heap.size)(hk:w3.heap[w.heap.size]?=some (.cells jAR 60))(hn:ag Y w3 n x.1 (.slice e1 e2 e3) (.slice c1 c2 c3))(hr:bJ b w3 x.2)(hf:Rf b w w3) :
  jC2 Z b n x w (.returned (.agg #[.bool (aa n x.1).inner,.slice e1 e2 e3,.slice c1 c2 c3,.int .i64 (aa n x.1).least,.int .i64 (aa n x.1).rows,.string (aa n x.1).sl,.int .i64 (aa n x.1).num])) (bT w3 w.heap.size (.bool (aa n x.1).inner) (.slice e1 e2 e3) (.slice c1 c2 c3) (.int .i64 (aa n x.1).least) (.int .i64 (aa n x.1).rows) (.string (aa n x.1).sl) (.int .i64 (aa n x.1).num)):=by
 refine⟨.slice e1 e2 e3,.slice c1 c2 c3,by rw[jQc],(hn.skip hc hk (fun g hg=>jQl _ _ _ _ _ _ _ _ _ hg)).less hh,(jQl _ _ _ _ _ _ _ _ _ (by omega)).trans hr,?_⟩;have ha:=jQu (b:=w.heap.size) (Below.refl 0 w3) zR (.bool (aa n x.1).inner) (.slice e1 e2 e3) (.slice c1 c2 c3) (.int .i64 (aa n x.1).least) (.int .i64 (aa n x.1).rows) (.string (aa n x.1).sl) (.int .i64 (aa n x.1).num);exact⟨ha.os.trans hf.os,ha.tape.trans hf.tape,ha.output.trans hf.output,cm hf.size ha.size,fun g hg hj=>(jQl _ _ _ _ _ _ _ _ _ (by omega)).trans (hf.block g hg hj)⟩
theorem jPJ (n wide b:Nat)(hw:wide<=32)(r:Rd)(x:Nd n×Rd)(w:World)(h:bJ b w r)(hs:r.rest.size<=100000)(hZ:∀g,w.heap.size<=g->¬Z g)
  (h0:aF r 1=0->x=(bg n (br (takeN r 1) wide) 0 0,takeN (takeN r 1) wide))
  (h1:aF r 1=1->∀(w':World) (Y:Nat->Prop),(∀g,w'.heap.size<=g->¬Y g)->bJ b w' (takeN r 1)->Calls Tryz.prog 91 #[.pointer (some ⟨b,0,none⟩)] w' (jC2 Y b n x w'))
  (h2:aF r 1=2->∀(w':World) (Y:Nat->Prop),(∀g,w'.heap.size<=g->¬Y g)->bJ b w' (takeN r 1)->Calls Tryz.prog 92 #[.pointer (some ⟨b,0,none⟩),.int .i64 wide] w' (jC2 Y b n x w'))
  (h3:aF r 1≠0->aF r 1≠1->aF r 1≠2->x=(bg n ar 0 0,jDP (takeN r 1))) :
  Calls Tryz.prog 60 #[.pointer (some ⟨b,0,none⟩),.int .i64 wide] w (jC2 Z b n x w):=by
 have hH:=cm (jQo r 1) hs;have hG:=jQe h;obtain⟨Y,hY⟩:∃Y:Nat->Prop,Y=fun g=>Z g\/g=w.heap.size:=⟨_,rfl⟩
 have hA:Hid (∀g,w.heap.size+1<=g->¬Y g):=by
  intro g hg;rw[hY];rintro(hz | hz)
  ·exact hZ g (by omega) hz
  omega
 have hE:Hid (∀g,Z g->Y g):=by intro g hg;rw[hY];exact Or.inl hg
 have hD:Hid (Y w.heap.size):=by show Y _;rw[hY];exact Or.inr rfl
 have hl:Hid (∀(w3:World) (e1 c1:Option Addr) (e2 e3 c2 c3:Nat),w3.heap[w.heap.size]?=some (.cells jAR 60)->ag Y w3 n x.1 (.slice e1 e2 e3) (.slice c1 c2 c3)->bJ b w3 x.2->Rf b w w3->jC2 Z b n x w (.returned (.agg #[.bool (aa n x.1).inner,.slice e1 e2 e3,.slice c1 c2 c3,.int .i64 (aa n x.1).least,.int .i64 (aa n x.1).rows,.string (aa n x.1).sl,.int .i64 (aa n x.1).num])) (bT w3 w.heap.size (.bool (aa n x.1).inner) (.slice e1 e2 e3) (.slice c1 c2 c3) (.int .i64 (aa n x.1).least) (.int .i64 (aa n x.1).rows) (.string (aa n x.1).sl) (.int .i64 (aa n x.1).num))) :=
  fun w3 e1 c1 e2 e3 c2 c3 a1 a2 a3 a4=>qBs hE.o hD.o hG a1 a2 a3 a4
 have H:=hd h;have H0:=hd h0;have H1:=hd h1;have H2:=hd h2;have H3:=hd h3;clear h h0 h1 h2 h3 hZ hY;obtain⟨W,hW⟩:∃W:World,W=w.alloc (.cells jAR 60):=⟨_,rfl⟩;have ht:Below w.heap.size w W:=by rw[hW];exact bA
 have hm:W.heap[w.heap.size]?=some (.cells jAR 60):=by rw[hW];exact jQi _ _
 have hI:=jQe hm;have hy:=hd (H.o.below ht);have hv:=hd ht;have hn:=hd hm;clear ht hm;go_enter Tryz.func60,Tryz.ntmps60;go_wp2_with fail;rw[<-show jAR=#[.bool false,.slice none 0 0,.slice none 0 0,.int .i64 0,.int .i64 0,.string ⟨#[]⟩,.int .i64 0] from rfl,<-hW];clear hW;refine(jKS b r _ hy.o (by omega)).mono ?_;rintro e w1 ⟨rfl,hU,hQ⟩;have hf:=(hQ.other w.heap.size (by omega)).trans hn.o;have hj:Hid (Rf b w w1):=(Rf.jBF hv.o).trans (Rf.jBA hQ);have hp:=hd hU;have he:=hd hf;have hB:=jQe hf;clear hQ hU hf hy hv hn H;obtain⟨kd,hT⟩:∃y,y=aF r 1:=⟨_,rfl⟩;have h0:=H0.o;have h1:=H1.o;have h2:=H2.o;have h3:=H3.o;rw[<-hT] at h0 h1 h2 h3 ⊢;have H0:=hd h0;have H1:=hd h1;have H2:=hd h2;have H3:=hd h3;clear h0 h1 h2 h3 hT
 by_cases k0:kd=0
 ·have HX:=hd (H0.o k0);subst k0;go_wp2_with fail;refine(jLZ b _ wide _ hp.o (by omega)).mono ?_;rintro e w2 ⟨rfl,hV,hR⟩;have hi:=(hR.other w.heap.size (by omega)).trans he.o;have hq:=hd (hj.o.trans (Rf.jBA hR));have hC:=hd hV;have ho:=hd hi;have hF:=jQe hi;clear hV hR hi;obtain⟨sl,hX⟩:∃y,y=br (takeN r 1) wide:=⟨_,rfl⟩;have hx:=HX.o;rw[<-hX] at hx ⊢;have hr:=hd hx;clear hx hX HX;go_wp2_with fail;refine(jUB sl 0 0 _).mono ?_;rintro e w3 ⟨rfl,hN⟩;rw[jQc];have ha:=(hN.block w.heap.size hF).trans ho.o;obtain⟨b0,b1,b2,b3,b4,b5,b6⟩:=jQw ha;obtain⟨f0,f1,f2,f3,f4,f5,f6⟩:=jQk ha;have hu:=jQe ha;have hb:=hl.o w3 none none 0 0 0 0 ha (by rw[hr.o];exact jLV _ _ _ _ _ _) (by rw[hr.o];exact hC.o.below hN) (hq.o.trans (Rf.jBF hN));have hh:aa n x.1=⟨false,0,0,sl,0⟩:=by rw[hr.o];exact jNj _ _ _ _
  rw[hh] at hb;have hc:=hd hb;clear hN ha hb hh;go_wp2;exact cp (v:=.agg #[.bool false,.slice none 0 0,.slice none 0 0,.int .i64 0,.int .i64 0,.string sl,.int .i64 0]) (by simp[results,Tryz.results60,go_sem, *]) rfl hc.o
 by_cases k1:kd=1
 ·have hk:=H1.o k1 w1 Y (fun g hg=>hA.o g (by omega)) hp.o;have HK:=hd hk;subst k1;clear hk k0;go_wp2_with fail;refine HK.o.mono ?_;rintro e w3 ⟨ev,cv,rfl,hL,hJ,hK⟩;obtain⟨⟨x1,x2,x3,hP⟩,y1,y2,y3,hO⟩:=hL.aG;subst hP hO;have ha:=(hK.block w.heap.size hB (by omega)).trans he.o;have hb:=hl.o w3 _ _ _ _ _ _ ha hL hJ (hj.o.trans hK);obtain⟨yh,hM⟩:∃y,y=aa n x.1:=⟨_,rfl⟩;rw[<-hM] at hb ⊢;rw[jQc];obtain⟨b0,b1,b2,b3,b4,b5,b6⟩:=jQw ha;obtain⟨f0,f1,f2,f3,f4,f5,f6⟩:=jQk ha;have hu:=jQe ha;have hc:=hd hb;clear hL hJ hK ha hb hM HK;go_wp2;exact cp (v:=.agg #[.bool yh.inner,.slice x1 x2 x3,.slice y1 y2 y3,.int .i64 yh.least,.int .i64 yh.rows,.string yh.sl,.int .i64 yh.num]) (by simp[results,Tryz.results60,go_sem, *]) rfl hc.o
 by_cases k2:kd=2
 ·have hk:=H2.o k2 w1 Y (fun g hg=>hA.o g (by omega)) hp.o;have HK:=hd hk;subst k2;clear hk k0 k1;go_wp2_with fail;refine HK.o.mono ?_;rintro e w3 ⟨ev,cv,rfl,hL,hJ,hK⟩;obtain⟨⟨x1,x2,x3,hP⟩,y1,y2,y3,hO⟩:=hL.aG;subst hP hO;have ha:=(hK.block w.heap.size hB (by omega)).trans he.o;have hb:=hl.o w3 _ _ _ _ _ _ ha hL hJ (hj.o.trans hK);obtain⟨yh,hM⟩:∃y,y=aa n x.1:=⟨_,rfl⟩;rw[<-hM] at hb ⊢;rw[jQc];obtain⟨b0,b1,b2,b3,b4,b5,b6⟩:=jQw ha;obtain⟨f0,f1,f2,f3,f4,f5,f6⟩:=jQk ha;have hu:=jQe ha;have hc:=hd hb;clear hL hJ hK ha hb hM HK;go_wp2;exact cp (v:=.agg #[.bool yh.inner,.slice x1 x2 x3,.slice y1 y2 y3,.int .i64 yh.least,.int .i64 yh.rows,.string yh.sl,.int .i64 yh.num]) (by simp[results,Tryz.results60,go_sem, *]) rfl hc.o
 have HX:=hd (H3.o k0 k1 k2);go_wp2_with fail;refine(jOc b _ _ hp.o).mono ?_;rintro e w3 ⟨rfl,hJ,hS⟩;have ha:=(hS.other w.heap.size (by omega)).trans he.o;obtain⟨b0,b1,b2,b3,b4,b5,b6⟩:=jQw ha;obtain⟨f0,f1,f2,f3,f4,f5,f6⟩:=jQk ha;have hu:=jQe ha;have hb:=hl.o w3 none none 0 0 0 0 ha (by rw[HX.o];exact jLV _ _ _ _ _ _) (by rw[HX.o];exact hJ) (hj.o.trans (Rf.jBA hS));have hh:aa n x.1=⟨false,0,0,ar,0⟩:=by rw[HX.o];exact jNj _ _ _ _
 rw[hh] at hb;have hc:=hd hb;clear hJ hS ha hb hh;go_wp2;exact cp (v:=.agg #[.bool false,.slice none 0 0,.slice none 0 0,.int .i64 0,.int .i64 0,.string ⟨#[]⟩,.int .i64 0]) (by simp[results,Tryz.results60,go_sem, *]) rfl hc.o
theorem jPK (wide b:Nat)(hw:wide<=32):∀(n:Nat) (r:Rd) (w:World) (Z:Nat->Prop),(∀g,w.heap.size<=g->¬Z g)->bJ b w r->r.rest.size<=100000->Sq.fits n r->Calls Tryz.prog 60 #[.pointer (some ⟨b,0,none⟩),.int .i64 wide] w (jC2 Z b n (aN wide n r) w)
 | 0,r,w,Z,hZ,h,hs,hf=>by
  have hz:aF r 1=0:=by
   apply Sq.jTC;unfold Sq.jBa;rcases hf with hf | hf
   ·have:((r.rest.size:Int)<1):=by omega
    simp[this]
   ·simp[hf]
  exact jPJ 0 wide b hw r _ w h hs hZ (fun _=>rfl) (fun e=>by rw[hz] at e;cases e) (fun e=>by rw[hz] at e;cases e) (fun e=>absurd hz e)
 | n+1,r,w,Z,hZ,h,hs,hf=>by
  have ha:=cm (jQo r 1) hs;refine jPJ (n+1) wide b hw r _ w h hs hZ ?_ ?_ ?_ ?_
  ·intro e;show jBc _ _ _ _ _=_;unfold jBc;rw[cE e];rfl
  ·intro e w' Y hY hr
   have ex:aN wide (n+1) r=(bB (bN (aF (takeN r 1) 1).toNat (takeN (takeN r 1) 1)).1,(bN (aF (takeN r 1) 1).toNat (takeN (takeN r 1) 1)).2):=by
    show jBc _ _ _ _ _=_;unfold jBc;rw[cy (by rw[e];decide),cE e]
   rw[ex];refine(jWv b _ w' hr (by omega)).mono ?_;rintro e2 w2 ⟨ev,rfl,hg,hc,hb⟩;exact⟨ev,.slice none 0 0,rfl,⟨hg,[],rfl,cu _ _ _ _,fun g o p k c hv=>(by cases hv),fun x hx=>(by cases hx)⟩,hc,hb⟩
  ·intro e w' Y hY hr
   have ex:aN wide (n+1) r=(aV (aa n) (bD (aa n) (bg n) (aN wide n) (aF (takeN r 1) 1).toNat (takeN (takeN r 1) 1)).1,(bD (aa n) (bg n) (aN wide n) (aF (takeN r 1) 1).toNat (takeN (takeN r 1) 1)).2):=by
    show jBc _ _ _ _ _=_;unfold jBc;rw[cy (by rw[e];decide),cy (by rw[e];decide),cE e]
   rw[ex];refine(jWp n wide b _ w' hr ha ((hf.one (by rw[e];decide)).take 1) hY (fun r w' Y hY hr hs hf=>jPK wide b hw n r w' Y hY hr hs hf)).mono ?_;rintro e2 w2 ⟨cv,rfl,⟨l,hl,hn,ho⟩,hc,hb⟩;exact⟨.slice none 0 0,cv,rfl,ag.mk (aM.nil w2) hl.symm hn ho,hc,hb⟩
  ·intro e0 e1 e2;show jBc _ _ _ _ _=_;unfold jBc;rw[cy e0,cy e1,cy e2];rfl
namespace Sq
def jE5:(n:Nat)->Nd n->Prop
 | 0,t=>(af.av t).length<=255
 | n+1,t=>(af.av t).length<=255/\(af.kids t).length<=255/\∀c∈af.kids t,jE5 n c
theorem jXA:∀(n:Nat) (s:BA) (l q:Int),jE5 n (bg n s l q)
 | 0,_,_,_=>zR
 | _+1,_,_,_=>⟨zR,zR,fun c hc=>by cases hc⟩
theorem jRz {wide:Nat}(hr:∀r,jE5 n (aN wide n r).1):∀(k:Nat) (r:Rd),∀c∈(bD (aa n) (bg n) (aN wide n) k r).1,jE5 n c
 | 0,_,c,hc=>by cases hc
 | k+1,r,c,hc=>by
  rw[bD] at hc;simp only at hc;rcases List.mem_cons.1 hc with rfl | hc
  ·unfold jAD
   split
   ·exact jXA _ _ _ _
   split
   ·exact hr _
   exact hr _
  exact jRz hr k _ c hc
theorem jRH (wide:Nat):∀(n:Nat) (r:Rd),jE5 n (aN wide n r).1
 | 0,_=>zR
 | n+1,r=>by
  show jE5 (n+1) (jBc wide (aa n) (bg n) (aN wide n) r).1;have h5:=jJd (takeN r 1);unfold jBc
  split
  ·exact⟨zR,zR,fun c hc=>by cases hc⟩
  split
  ·refine⟨?_,zR,fun c hc=>by cases hc⟩
   show(bN _ _).1.length<=255
   rw[(jI7 _ _).1];omega
  split
  ·refine⟨zR,?_,jRz (fun r=>jRH wide n r) _ _⟩
   show(bD _ _ _ _ _).1.length<=255
   rw[(jJ2 (f:=aa n) (mk:=bg n) (jKY n) (fun r=>jHq wide n r) _ _).1];omega
  exact⟨zR,zR,fun c hc=>by cases hc⟩
end Sq
theorem qBY (g:α->Bool)(l:List α)(k:Nat)(h:k<l.length):(l.drop k).all g=(g l[k]&&(l.drop (k+1)).all g):=by
 rw[cr h];rfl
theorem jSN (n:Nat)(h:Sq.Head)(es:List Ent)(l:List (Nd n×Value×Value))(ev cv:Value)(least:Nat)(g:Nd n->Bool)(w:World)(hX:aM 0 w ev es)(hn:aB Z 0 w cv n l)(hl:l.length<=255)(h2:es.length<=255)(hle:least<=2)
  (ih:∀x∈l,∀w',ag Z w' n x.1 x.2.1 x.2.2->Calls Tryz.prog 94 #[.agg (au n x).toArray,.int .i64 2] w' fun e hZ=>e=.returned (.bool (g x.1))/\Below w'.heap.size w' hZ) :
  Calls Tryz.prog 94 #[.agg (ae h ev cv).toArray,.int .i64 least] w fun e w'=>e=.returned (.bool (if aw h then true else Decidable.decide (least<=(if h.inner then l.length else es.length))&&Decidable.decide ((if h.inner then l.length else es.length)<=4)&&(l.map Prod.fst).all g))/\Below w.heap.size w w':=by
 obtain⟨eo,hO,rfl⟩:=jQa hX;obtain⟨co,hN,rfl⟩:=jQa hn.own;rw[jQc];obtain⟨W,hW⟩:∃W:World,W=w.alloc (.cells #[.bool h.inner,.slice eo es.length hO,.slice co l.length hN,.int .i64 h.least,.int .i64 h.rows,.string h.sl,.int .i64 h.num] 60):=⟨_,rfl⟩;have hB:Below w.heap.size w W:=by rw[hW];exact bA
 have hj:W.heap[w.heap.size]?=some (.cells #[.bool h.inner,.slice eo es.length hO,.slice co l.length hN,.int .i64 h.least,.int .i64 h.rows,.string h.sl,.int .i64 h.num] 60):=by rw[hW];exact jQi _ _
 have hz:=jQe hj;obtain⟨m0,m1,m2,m3,m4,m5,m6⟩:=aP.jCq (h:=h) hj;have HN:=hd (hn.below hB);have hC:=hd hB;have hq:=hd hj;have IH:=hd ih;obtain⟨sz,hS⟩:∃y,y=(if h.inner then l.length else es.length):=⟨_,rfl⟩;have hJ:sz<=255:=by rw[hS];split<;>omega
 rw[<-hS];have hG:=hd hS;obtain⟨res,hM⟩:∃y,y=(if aw h then true else Decidable.decide (least<=sz)&&Decidable.decide (sz<=4)&&(l.map Prod.fst).all g):=⟨_,rfl⟩;rw[<-hM];have hh:=hd hM;clear hM;clear hn hX hB hj ih hS;go_enter Tryz.func94,Tryz.ntmps94;go_wp2_with fail;rw[<-hW];clear hW;refine(jH2 h _ _ _ ⟨_,_,_,rfl⟩ ⟨_,_,_,rfl⟩).mono ?_;rintro e w1 ⟨rfl,hQ⟩;have he:=(hQ.block _ hz).trans hq.o;have hm:=hd he;have hI:=jQe he;clear m0 m1 m2 m3 m4 m5 m6;obtain⟨m0,m1,m2,m3,m4,m5,m6⟩:=aP.jCq (h:=h) he;have hD:=hd (HN.o.below hQ);have hu:=hC.t hQ;clear hQ he HN hC hq hz;cases hsh:aw h
 case true =>
  have HR:Hid (res=true):=by show _=_;rw[hh.o,hsh];rfl
  go_wp2;go_ret;exact⟨by rw[HR.o];rfl,hu.o⟩
 case false =>
  have hc:Hid (res=(Decidable.decide (least<=sz)&&Decidable.decide (sz<=4)&&(l.map Prod.fst).all g)):=by show _=_;rw[hh.o,hsh];rfl
  clear hh;go_wp2_with fail;refine(jL0 h _ _ _ _ _ _ _).mono ?_;rintro e w2 ⟨rfl,hR⟩;rw[<-hG.o];have hf:=(hR.block _ hI).trans hm.o;have hs:=hd hf;have hK:=jQe hf;clear m0 m1 m2 m3 m4 m5 m6;obtain⟨m0,m1,m2,m3,m4,m5,m6⟩:=aP.jCq (h:=h) hf;have hE:=hd (hD.o.below hR);have hp:=hu.t hR;clear hR hf hD hu hm hI hG
  by_cases hs1:least<=sz
  ·have i1:¬((sz:Int)<(least:Int)):=by omega
   by_cases hs2:sz<=4
   ·have i2:¬((4:Int)<(sz:Int)):=by omega
    have hA:Hid (res=(l.map Prod.fst).all g):=by show _=_;rw[hc.o];simp[hs1,hs2]
    have j1:Decidable.decide (sz<least)=false:=by simpa using hs1
    have j2:Decidable.decide ((4:Int)<(sz:Int))=false:=by simp;omega
    clear hc hs1 hs2;go_wp2
    go_loopw [6] (fun i wr=>∃k:Nat,k<=l.length/\i=.int .i64 k/\Hid (res=((l.map Prod.fst).drop k).all g)/\Hid (Below w2.heap.size w2 wr)) (fun i _=>l.length-(intOf i).toNat)
    case atStart=>exact⟨0,zR,rfl,hA,bR⟩
    case round =>
     obtain⟨k,hk,rfl,hr,hb⟩:=hrel;have hi:=(hb.o.block _ hK).trans hs.o;have hL:=jQe hi;clear m0 m1 m2 m3 m4 m5 m6;obtain⟨m0,m1,m2,m3,m4,m5,m6⟩:=aP.jCq (h:=h) hi;clear hi
     by_cases hkt:k<l.length
     ·obtain⟨q,hY,ea,el,ec,ca,cl,cc,hv,hg,⟨d0,d1,d2,d3,d4,hV,hU⟩,d5,d6⟩:=(hE.o.below hb.o).at k hkt;obtain⟨rfl,-,rfl⟩:=sI hv;have ht:=qBY g (l.map Prod.fst) k (by simpa using hkt);rw[da] at ht;have ha:=IH.o _ (cJ hkt) wr ((hE.o.below hb.o).each _ (cJ hkt));obtain⟨y,hy⟩:∃y,y=l[k]:=⟨_,rfl⟩;rw[<-hy] at ht ha d0 d3 d4 hV hU d5;obtain⟨t,h1,h0⟩:=y;simp only[Prod.mk.injEq] at d5;obtain⟨rfl,rfl⟩:=d5;simp only at ht ha;obtain⟨xh,hT⟩:∃y,y=aa n t:=⟨_,rfl⟩;rw[<-hT] at d0 d3 d4 hV hU;have hH:au n (t,.slice ea el ec,.slice ca cl cc)=ae xh (.slice ea el ec) (.slice ca cl cc):=by rw[hT];rfl
      rw[hH,jQc] at ha;have HC:=hd ha;have i3:¬((l.length:Int)<=(k:Int)):=by omega
      have hF:=hd ht;clear ht ha hT hH hy d6;cases hgt:g t
      case true =>
       have ho:=HC.o;rw[hgt] at ho;have hx:=hd ho;have HR:Hid (res=((l.map Prod.fst).drop (k+1)).all g):=by show _=_;rw[hr.o,hF.o,hgt];rfl
       clear ho HC;go_wp2_with fail;refine hx.o.mono ?_;rintro e w3 ⟨rfl,hP⟩;have hw:=hb.t hP;clear hP;go_wp2;go_roundw;exact⟨k+1,by omega,by go_num,HR,hw⟩;simp[intOf];omega
      case false =>
       have ho:=HC.o;rw[hgt] at ho;have hx:=hd ho;have HR:Hid (res=false):=by show _=_;rw[hr.o,hF.o,hgt];rfl
       clear ho HC;go_wp2_with fail;refine hx.o.mono ?_;rintro e w3 ⟨rfl,hP⟩;have hw:=hd (hp.o.trans ((hb.t hP).o.mono hp.o.size));clear hP;go_wp2;go_ret;exact⟨by rw[HR.o];rfl,hw.o⟩
     have HR:Hid (res=true):=by show _=_;rw[hr.o,cD (by simp;omega)];rfl
     have i3:¬((k:Int)<(l.length:Int)):=by omega
     clear hr;go_wp2;go_ret;exact⟨by rw[HR.o];rfl,hp.o.trans (hb.o.mono hp.o.size)⟩
   have i2:(4:Int)<(sz:Int):=by omega
   have HR:Hid (res=false):=by show _=_;rw[hc.o];simp[hs2]
   go_wp2;go_ret;exact⟨by rw[HR.o];rfl,hp.o⟩
  have i1:(sz:Int)<(least:Int):=by omega
  have HR:Hid (res=false):=by show _=_;rw[hc.o];simp[hs1]
  go_wp2;go_ret;exact⟨by rw[HR.o];rfl,hp.o⟩
theorem jSp:∀(n:Nat) (t:Nd n) (ev cv:Value) (least:Nat) (w:World),ag Z w n t ev cv->Sq.jE5 n t->least<=2->Calls Tryz.prog 94 #[.agg (ae (aa n t) ev cv).toArray,.int .i64 least] w fun e w'=>e=.returned (.bool (jCb n least t))/\Below w.heap.size w w'
 | 0,t,ev,cv,least,w,h,hw,hle=>by
  obtain⟨h1,rfl⟩:=h.leaf
  have hk:af.kids t=[]:=by
   cases hq:af.kids t with
   | nil=>rfl
   | cons c _=>exact c.elim
  have:=jSN (Z:=Z) 0 (aa 0 t) (af.av t) [] ev (.slice none 0 0) least (fun _=>true) w h1 ⟨cu _ _ _ _,fun x hx=>by cases hx⟩ (by simp) hw hle (fun x hx=>by cases hx)
  refine this.mono fun e w' hh=>⟨?_,hh.2⟩
  rw[hh.1]
  congr 2
  show _=jDu _ _ t;unfold jDu bG;rw[hk];rfl
 | n+1,t,ev,cv,least,w,h,hw,hle=>by
  obtain⟨h1,l,h2,h3⟩:=h.inner;have ha:l.length<=255:=by have:=hw.2.1;rw[h2,cF] at this;exact this
  have:=jSN (Z:=Z) n (aa (n+1) t) (af.av t) l ev cv least (jCb n 2) w h1 h3 ha hw.1 hle (fun x hx w' hn=>jSp n x.1 x.2.1 x.2.2 2 w' hn (hw.2.2 x.1 (by rw[h2];exact dX hx)) (by decide))
  refine this.mono fun e w' hh=>⟨?_,hh.2⟩
  rw[hh.1]
  congr 2
  show _=jDu _ _ t;unfold jDu bG;rw[h2,cF];rfl
end
end Go.Proofs.YtahpihjialbanaaGreatDoor
