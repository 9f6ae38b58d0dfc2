import Derived.Test.YtahpihjialbanaaGreatDoorQax
set_option linter.all false
set_option maxRecDepth 100000
set_option maxHeartbeats 16000000
namespace Go.Proofs.YtahpihjialbanaaGreatDoor
open Sq (aa Nd aj aT bj af aw bq jAM jAo jBl jBu)
variable {α β γ:Type}
section
open Go.RowKit
variable {Z:Nat->Prop}
def jCA:Option (BA×BA)->Value
 | none=>.tuple #[.string ⟨#[]⟩,.string ⟨#[]⟩,.bool false]
 | some p=>.tuple #[.string p.1,.string p.2,.bool true]
theorem jW3 (f:α->β->Option γ)(l:List α)(r:List β)(k:Nat)(h:k<l.length)(h':k<r.length):jBl f (l.drop k) (r.drop k)=match f l[k] r[k] with
  | some x=>some x
  | none=>jBl f (l.drop (k+1)) (r.drop (k+1)):=by
 rw[cr h,cr h'];rfl
theorem jYm (f:α->β->Option γ)(l:List α)(r:List β)(k:Nat)(h:l.length<=k\/r.length<=k):jBl f (l.drop k) (r.drop k)=none:=by
 rcases h with h | h
 ·rw[cD h];rfl
 rw[show r.drop k=[] from cD h];cases l.drop k<;>rfl
theorem jLE (wide n m:Nat)(h h':Sq.Head)(l:List (Nd n×Value×Value))(l':List (Nd m×Value×Value))(ev cv Hl Hk:Value)(w:World)(HO:∃a k c,ev=.slice a k c)(Ho:∃a k c,Hl=.slice a k c)(hn:aB Z 0 w cv n l)(Hq:aB Z 0 w Hk m l')(hl:l.length<=255)(HV:l'.length<=255)(bo bt:BA)(g:Nd n->Nd m->Option (BA×BA))
  (Hm:∀w',Below w.heap.size w w'->Calls Tryz.prog 47 #[.agg (ae h ev cv).toArray,.int .i64 wide] w' fun e Hf=>e=.returned (.string bo)/\Below w'.heap.size w' Hf)
  (Hn:∀w',Below w.heap.size w w'->Calls Tryz.prog 47 #[.agg (ae h' Hl Hk).toArray,.int .i64 wide] w' fun e Hf=>e=.returned (.string bt)/\Below w'.heap.size w' Hf)
  (ih:∀x∈l,∀y∈l',∀w',Below w.heap.size w w'->Calls Tryz.prog 49 #[.agg (au n x).toArray,.agg (au m y).toArray,.int .i64 wide] w' fun e Hf=>e=.returned (jCA (g x.1 y.1))/\Below w'.heap.size w' Hf) :
  Calls Tryz.prog 49 #[.agg (ae h ev cv).toArray,.agg (ae h' Hl Hk).toArray,.int .i64 wide] w fun e w'=>e=.returned (jCA (if aw h' then none else if bo=bt then jBl g (l.map Prod.fst) (l'.map Prod.fst) else some (bo,bt)))/\Below w.heap.size w w':=by
 obtain⟨eo,el,Hd,rfl⟩:=HO;obtain⟨HE,HD,h9,rfl⟩:=Ho;obtain⟨co,Hc,rfl⟩:=jQa hn.own;obtain⟨Hw,h8,rfl⟩:=jQa Hq.own;rw[jQc] at Hm Hn;rw[jQc,jQc];obtain⟨W,hW⟩:∃W:World,W=(w.alloc (.cells #[.bool h.inner,.slice eo el Hd,.slice co l.length Hc,.int .i64 h.least,.int .i64 h.rows,.string h.sl,.int .i64 h.num] 60)).alloc (.cells #[.bool h'.inner,.slice HE HD h9,.slice Hw l'.length h8,.int .i64 h'.least,.int .i64 h'.rows,.string h'.sl,.int .i64 h'.num] 60):=⟨_,rfl⟩;have hY:Below w.heap.size w W:=by rw[hW];exact(bA).alloc (by simp) _
 have hE:W.heap[w.heap.size]?=some (.cells #[.bool h.inner,.slice eo el Hd,.slice co l.length Hc,.int .i64 h.least,.int .i64 h.rows,.string h.sl,.int .i64 h.num] 60):=by rw[hW];exact(ej _ _ _ (by simp)).trans (dJ w _)
 have hm:W.heap[w.heap.size+1]?=some (.cells #[.bool h'.inner,.slice HE HD h9,.slice Hw l'.length h8,.int .i64 h'.least,.int .i64 h'.rows,.string h'.sl,.int .i64 h'.num] 60):=by rw[hW];exact heap_alloc2_new w _ _
 have hz:=jQe hE;have h0:=jQe hm;obtain⟨p0,p1,p2,p3,p4,p5,p6⟩:=aP.blk (h:=h') hm;simp only[df] at p1 p2 p3 p4 p5 p6;have HN:=hd hn;have h3:=hd Hq;have hX:=hd hY;have hG:=hd hE;have hx:=hd hm;have hU:=hd Hm;have hV:=hd Hn;have IH:=hd ih;obtain⟨res,Ha⟩:∃y,y=(if aw h' then none else if bo=bt then jBl g (l.map Prod.fst) (l'.map Prod.fst) else some (bo,bt)):=⟨_,rfl⟩;rw[<-Ha];have hi:=hd Ha;clear Ha hn Hq hY hE hm Hm Hn ih;go_enter Tryz.func49,Tryz.ntmps49;go_wp2_with fail;rw[<-hW];clear hW;refine(jH2 h' _ _ _ ⟨_,_,_,rfl⟩ ⟨_,_,_,rfl⟩).mono ?_;rintro e w1 ⟨rfl,Hg⟩;have ho:=(Hg.block _ hz).trans hG.o;have he:=(Hg.block _ h0).trans hx.o;have hA:=hd ho;have hp:=hd he;have h1:=jQe ho;have hK:=jQe he;have hM:=hX.t Hg;clear p0 p1 p2 p3 p4 p5 p6;obtain⟨m0,m1,m2,m3,m4,m5,m6⟩:=aP.jCq (h:=h) ho;clear Hg ho he hX hG hx hz h0;cases hsh:aw h'
 case true =>
  have HR:Hid (res=none):=by show _=_;rw[hi.o,hsh];rfl
  clear hi;go_wp2;go_ret3;exact⟨by rw[HR.o];rfl,hM.o⟩
 case false =>
  have hj:Hid (res=if bo=bt then jBl g (l.map Prod.fst) (l'.map Prod.fst) else some (bo,bt)):=by show _=_;rw[hi.o,hsh];rfl
  clear hi;go_wp2_with fail;refine(hU.o _ hM.o).mono ?_;rintro e w2 ⟨rfl,Hh⟩;have hs:=(Hh.block _ h1).trans hA.o;have ha:=(Hh.block _ hK).trans hp.o;have hB:=hd hs;have hq:=hd ha;have h2:=jQe hs;have hL:=jQe ha;have hO:=hM.t Hh;clear m0 m1 m2 m3 m4 m5 m6;obtain⟨p0,p1,p2,p3,p4,p5,p6⟩:=aP.blk (h:=h') ha;simp only[df] at p1 p2 p3 p4 p5 p6;clear Hh hs ha hM hA hp h1 hK;go_wp2_with fail;refine(hV.o _ hO.o).mono ?_;rintro e w3 ⟨rfl,Hi⟩;have ht:=(Hi.block _ h2).trans hB.o;have hf:=(Hi.block _ hL).trans hq.o;have hH:=hd ht;have hD:=hd hf;have h4:=jQe ht;have hT:=jQe hf;have hP:=hO.t Hi;clear p0 p1 p2 p3 p4 p5 p6;clear Hi ht hf hO hB hq h2 hL hU hV
  by_cases hbb:bo=bt
  ·subst hbb;have hS:Hid (res=jBl g (l.map Prod.fst) (l'.map Prod.fst)):=by show _=_;rw[hj.o,cE rfl]
   clear hj;go_wp2
   go_loopw [11] (fun i wr=>∃k:Nat,k<=l.length/\i=.int .i64 k/\Hid (res=jBl g ((l.map Prod.fst).drop k) ((l'.map Prod.fst).drop k))/\Hid (Below w3.heap.size w3 wr)) (fun i _=>l.length-(intOf i).toNat)
   case atStart=>exact⟨0,zR,rfl,hS,bR⟩
   case round =>
    obtain⟨k,hk,rfl,hr,hb⟩:=hrel;have hu:=(hb.o.block _ h4).trans hH.o;have hh:=(hb.o.block _ hT).trans hD.o;have h7:=jQe hu;have h5:=jQe hh;have hC:=hP.o.trans (hb.o.mono hP.o.size);obtain⟨m0,m1,m2,m3,m4,m5,m6⟩:=aP.jCq (h:=h) hu;obtain⟨p0,p1,p2,p3,p4,p5,p6⟩:=aP.blk (h:=h') hh;simp only[df] at p1 p2 p3 p4 p5 p6;clear hu hh m0 m1 m3 m4 m5 m6 p0 p1 p3 p4 p5 p6
    by_cases hkt:k<l.length/\k<l'.length
    ·obtain⟨Hj,Hp⟩:=hkt;obtain⟨q,HJ,ea,ex,ec,ca,cx,cc,hv,hg,⟨d0,d1,d2,d3,d4,Hz,Hy⟩,d5,d6⟩:=(HN.o.below hC).at k Hj;obtain⟨q',Hu,HA,HF,HB,Ht,Hx,Hv,HI,HU,⟨f0,f1,f2,f3,f4,HH,HG⟩,f5,f6⟩:=(h3.o.below hC).at k Hp;simp only[Value.slice.injEq] at hv HI;obtain⟨rfl,-,rfl⟩:=hv;obtain⟨rfl,-,rfl⟩:=HI;have hF:=jW3 g (l.map Prod.fst) (l'.map Prod.fst) k (by simpa using Hj) (by simpa using Hp);rw[da,da] at hF;have hc:∀w',Below wr.heap.size wr w'->_:=fun w' HM=>IH.o _ (cJ Hj) _ (cJ Hp) w' (hC.trans (HM.mono hC.size))
     obtain⟨y,hy⟩:∃y,y=l[k]:=⟨_,rfl⟩;obtain⟨y',Hs⟩:∃y,y=l'[k]:=⟨_,rfl⟩;rw[<-hy] at hF d0 d3 d4 Hz Hy d5;rw[<-Hs] at hF f0 f3 f4 HH HG f5;rw[<-hy,<-Hs] at hc;obtain⟨t,HT,HQ⟩:=y;obtain⟨t',HL,HK⟩:=y';simp only[Prod.mk.injEq] at d5 f5;obtain⟨rfl,rfl⟩:=d5;obtain⟨rfl,rfl⟩:=f5;simp only at hF hc;obtain⟨xh,Hr⟩:∃y,y=aa n t:=⟨_,rfl⟩;obtain⟨HP,Hb⟩:∃y,y=aa m t':=⟨_,rfl⟩;rw[<-Hr] at d0 d3 d4 Hz Hy;rw[<-Hb] at f0 f3 f4 HH HG;have hZ:au n (t,.slice ea ex ec,.slice ca cx cc)=ae xh (.slice ea ex ec) (.slice ca cx cc):=by rw[Hr];rfl
     have hJ:au m (t',.slice HA HF HB,.slice Ht Hx Hv)=ae HP (.slice HA HF HB) (.slice Ht Hx Hv):=by rw[Hb];rfl
     rw[hZ,hJ,jQc,jQc] at hc;have HC:=hd hc;have i1:(k:Int)<(l.length:Int):=by omega
     have i2:(k:Int)<(l'.length:Int):=by omega
     have i3:¬((l.length:Int)<=(k:Int)):=by omega
     have i4:¬((l'.length:Int)<=(k:Int)):=by omega
     have i5:¬((k:Int)<0):=by omega
     have hN:=hd hF;have hI:=hd hC;clear hF hc Hr Hb hZ hJ hy Hs d6 f6 hC;cases hgt:g t t' with
     | none =>
      have hw:=HC.o;rw[hgt] at hw;unfold jCA at hw;have hR:=hd hw;have HR:Hid (res=jBl g ((l.map Prod.fst).drop (k+1)) ((l'.map Prod.fst).drop (k+1))):=by show _=_;rw[hr.o,hN.o,hgt]
      clear hw HC hN hr;go_wp2
      go_region_with (go_at_call 49;refine(hR.o _ (cB bR)).mono ?_;rintro e w4 ⟨rfl,He⟩;have hQ:Hid (Below w3.heap.size w3 w4):=hb.o.trans (((cB bR).trans He).mono hb.o.size);clear He)
      all_goals(try go_wp2)
      all_goals
       go_roundw;exact⟨k+1,by omega,by go_num,HR,hQ⟩;simp[intOf];omega
     | some x =>
      obtain⟨xa,xb⟩:=x;have hw:=HC.o;rw[hgt] at hw;unfold jCA at hw;simp only at hw;have hR:=hd hw;have HR:Hid (res=some (xa,xb)):=by show _=_;rw[hr.o,hN.o,hgt]
      clear hw HC hN hr;go_wp2
      go_region_with (go_at_call 49;refine(hR.o _ (cB bR)).mono ?_;rintro e w4 ⟨rfl,He⟩;have hQ:Hid (Below w.heap.size w w4):=hI.o.trans (((cB bR).trans He).mono hI.o.size);clear He)
      all_goals(try go_wp2)
      all_goals
       go_ret3;exact⟨by rw[HR.o];rfl,hQ.o⟩
    have HR:Hid (res=none):=by show _=_;rw[hr.o];exact jYm _ _ _ _ (by simp only[cF];omega)
    have hI:=hd hC;clear hr hC
    by_cases Hj:k<l.length
    ·have i1:(k:Int)<(l.length:Int):=by omega
     have i2:¬((k:Int)<(l'.length:Int)):=by omega
     go_wp2;go_ret3;exact⟨by rw[HR.o];rfl,hI.o⟩
    have i1:¬((k:Int)<(l.length:Int)):=by omega
    go_wp2;go_ret3;exact⟨by rw[HR.o];rfl,hI.o⟩
  have HR:Hid (res=some (bo,bt)):=by show _=_;rw[hj.o,cy hbb]
  have h6:(bo.toList==bt.toList)=false:=by
   simp only[beq_eq_false_iff_ne,ne_eq];intro e;apply hbb;rw[du,du] at e;exact ey (Array.toList_inj.1 e)
  clear hj;go_wp2;go_ret3;exact⟨by rw[HR.o];rfl,hP.o⟩
theorem jVz (t:af Empty):t.kids=[]:=by
 cases hq:t.kids with
 | nil=>rfl
 | cons c _=>exact c.elim
theorem qBu (wide:Nat)(hw:wide<=32)(K:Int):∀(n m:Nat) (t:Nd n) (p:Nd m) (ev cv hc hj:Value) (w:World),ag Z w n t ev cv->ag Z w m p hc hj->aT K n t->aT K m p->Rnd w ->
  Calls Tryz.prog 49 #[.agg (ae (aa n t) ev cv).toArray,.agg (ae (aa m p) hc hj).toArray,.int .i64 wide] w fun e w'=>e=.returned (jCA (jBu (HS wide) n m t p))/\Below w.heap.size w w':=by
 have hg:∀(n:Nat) (t:Nd n) (ev cv:Value) (w:World),ag Z w n t ev cv->aT K n t->Rnd w->∀w',Below w.heap.size w w'->Calls Tryz.prog 47 #[.agg (ae (aa n t) ev cv).toArray,.int .i64 wide] w' fun e hq=>e=.returned (.string (bq (HS wide) n t))/\Below w'.heap.size w' hq:=fun n t ev cv w h hf hR w' hb=>(jG3 wide hw K n t ev cv w' (h.below hb) hf (hR.below hb)).1
 intro n
 induction n with
 | zero =>
  intro m t p ev cv hc hj w h h' hf hk hR;obtain⟨h1,rfl⟩:=h.leaf;cases m with
  | zero =>
   obtain⟨hp,rfl⟩:=h'.leaf
   have:=jLE (Z:=Z) wide 0 0 (aa 0 t) (aa 0 p) [] [] ev (.slice none 0 0) hc (.slice none 0 0) w h.aG.1 h'.aG.1 ⟨cu _ _ _ _,fun x hx=>by cases hx⟩ ⟨cu _ _ _ _,fun x hx=>by cases hx⟩ (by simp) (by simp) _ _ (fun _ _=>none) (hg 0 t ev _ w h hf hR) (hg 0 p hc _ w h' hk hR) (fun x hx=>by cases hx)
   exact this
  | succ m =>
   obtain⟨hp,l',hn,ho⟩:=h'.inner;have ha:l'.length<=4:=by have:=hk.at1.kids;rw[hn,cF] at this;exact this
   have:=jLE (Z:=Z) wide 0 m (aa 0 t) (aa (m+1) p) [] l' ev (.slice none 0 0) hc hj w h.aG.1 h'.aG.1 ⟨cu _ _ _ _,fun x hx=>by cases hx⟩ ho (by simp) (by omega) _ _ (fun _ _=>none) (hg 0 t ev _ w h hf hR) (hg (m+1) p hc hj w h' hk hR) (fun x hx=>by cases hx)
   exact this
 | succ n ih =>
  intro m t p ev cv hc hj w h h' hf hk hR;obtain⟨h1,l,h2,h3⟩:=h.inner;have hl:l.length<=4:=by have:=hf.at1.kids;rw[h2,cF] at this;exact this
  cases m with
  | zero =>
   obtain⟨hp,rfl⟩:=h'.leaf
   have:=jLE (Z:=Z) wide n 0 (aa (n+1) t) (aa 0 p) l [] ev cv hc (.slice none 0 0) w h.aG.1 h'.aG.1 h3 ⟨cu _ _ _ _,fun x hx=>by cases hx⟩ (by omega) (by simp) _ _ (fun _ _=>none) (hg (n+1) t ev cv w h hf hR) (hg 0 p hc _ w h' hk hR) (fun x hx y hy=>by cases hy)
   refine this.mono fun e w' hh=>⟨?_,hh.2⟩
   rw[hh.1];have e:jBl (fun(_:Nd n) (_:Nd 0)=>(none:Option (BA×BA))) (l.map Prod.fst) (([]:List (Nd 0×Value×Value)).map Prod.fst)=none:=by cases l<;>rfl
   rw[e];rfl
  | succ m =>
   obtain⟨hp,l',hn,ho⟩:=h'.inner;have ha:l'.length<=4:=by have:=hk.at1.kids;rw[hn,cF] at this;exact this
   have:=jLE (Z:=Z) wide n m (aa (n+1) t) (aa (m+1) p) l l' ev cv hc hj w h.aG.1 h'.aG.1 h3 ho (by omega) (by omega) _ _ (jBu (HS wide) n m) (hg (n+1) t ev cv w h hf hR) (hg (m+1) p hc hj w h' hk hR) (fun x hx y hy w' hb=>ih m x.1 y.1 x.2.1 x.2.2 y.2.1 y.2.2 w' ((h3.each x hx).below hb) ((ho.each y hy).below hb) (hf.at1.each x.1 (by rw[h2];exact dX hx)) (hk.at1.each y.1 (by rw[hn];exact dX hy)) (hR.below hb))
   refine this.mono fun e w' hh=>⟨?_,hh.2⟩
   rw[hh.1,<-h2,<-hn];rfl
theorem jIJ (wide:Nat)(hw:wide<=32)(K:Int):∀(n:Nat) (t:Nd n),aT K n t->(bq (HS wide) n t).size<=1000000
 | 0,t,hf=>by
  show(jAo (fun e:Empty=>e.elim) t ((t:af Empty).kids.map _)).size<=_
  rw[jVz]
  have:=jKF hf.at0 [] 0 (fun b hb=>by cases hb)
  rw[dO];omega
 | n+1,t,hf=>by
  have ha:∀b∈(af.kids t).map (bj (HS wide) n),b.size<=32:=fun b hb=>by
   obtain⟨c,hc,rfl⟩:=List.mem_map.1 hb;exact jLQ wide hw K n c (hf.at1.each c hc)
  have:=jKF hf.at1 ((af.kids t).map (bj (HS wide) n)) 32 ha
  show(jAo _ t _).size<=_
  omega
theorem jPT (wide:Nat)(hw:wide<=32)(K:Int):∀(n m:Nat) (t:Nd n) (p:Nd m),aT K n t->aT K m p->∀a b,jBu (HS wide) n m t p=some (a,b)->a.size<=1000000/\b.size<=1000000
 | 0,m,t,p,hf,hf',a,b,h=>by
  unfold jBu at h
  split at h
  ·cases h
  ·split at h
   ·cases h
   ·cases h;exact⟨jIJ wide hw K _ t hf,jIJ wide hw K _ p hf'⟩
 | n+1,0,t,p,hf,hf',a,b,h=>by
  unfold jBu at h
  split at h
  ·cases h
  ·split at h
   ·cases h
   ·cases h;exact⟨jIJ wide hw K _ t hf,jIJ wide hw K _ p hf'⟩
 | n+1,m+1,t,p,hf,hf',a,b,h=>by
  unfold jBu at h
  split at h
  ·cases h
  ·split at h
   ·obtain⟨i,u,v,h1,h2,h3⟩:=Sq.jMK h;exact jPT wide hw K n m u v (hf.at1.each u (cA h1)) (hf'.at1.each v (cA h2)) a b h3
   ·cases h;exact⟨jIJ wide hw K _ t hf,jIJ wide hw K _ p hf'⟩
end
section
open Go.RowKit
def Sq.jEk (H:BA->BA)(wide:Nat)(X:aj)(proof:BA):Option (BA×BA) :=
 match jAM wide proof with
 | none=>none
 | some P=>if bj H P.d P.t=bj H X.d X.t then jBu H X.d P.d X.t P.t else none
theorem jXX (sb wide:Nat)(h1:1<=wide)(h2:wide<=32)(proof:BA)(X:aj)(w:World)(hn:jAM wide proof=none)(hS:jBB sb w wide X)(hX:aT 99998 X.d X.t)(hR:Rnd w) :
  Calls Tryz.prog 39 #[.pointer (some ⟨sb,0,none⟩),.string proof] w fun e w'=>e=.returned (jCA none)/\Below w.heap.size w w':=by
 have hk:∀w',Calls Tryz.prog 48 #[.string proof,.int .i64 wide] w' fun e ho=>e=.returned (.tuple #[.agg #[.bool false,.slice none 0 0,.slice none 0 0,.int .i64 0,.int .i64 0,.string ⟨#[]⟩,.int .i64 0],.bool false])/\Below w'.heap.size w' ho:=fun w'=>by
  have:=jK8 (Z:=fun _=>False) wide h1 h2 proof w' (fun _ _ h=>h)
  rw[hn] at this;exact this.mono fun e ho hh=>⟨hh.2,hh.1⟩
 have ha:∀w',Below w.heap.size w w'->Calls Tryz.prog 29 #[.pointer (some ⟨sb,0,none⟩)] w' fun e ho=>e=.returned (.string (bj (HS wide) X.d X.t))/\Below w'.heap.size w' ho:=fun w' hb=>jK7 sb wide X 99998 w' h2 (hS.below hb) hX (hR.below hb)
 obtain⟨ev,cv,hj,hq⟩:=hS;obtain⟨⟨x1,x2,x3,hs⟩,y1,y2,y3,hr⟩:=hq.aG;subst hs hr;rw[jQc] at hj;have hc:w.heap[sb]?=some (.cells #[.int .i64 wide,.bool X.head.inner,.slice x1 x2 x3,.slice y1 y2 y3,.int .i64 X.head.least,.int .i64 X.head.rows,.string X.head.sl,.int .i64 X.head.num] 62):=hj;obtain⟨c0,c1,c2,c3,c4,c5,c6,c7⟩:=jGl hc;have hz:=jQe hc;have HK:=hd hk;have hf:=hd ha;clear hk hn ha hj hc hq hX hR c1 c2 c3 c4 c5 c6 c7;generalize bj (HS wide) X.d X.t=dg at *;unfold jCA;go_enter Tryz.func39,Tryz.ntmps39;go_wp2_with fail;refine(HK.o _).mono ?_;rintro e w1 ⟨rfl,hp⟩;have he:=hd (hp.alloc (Nat.le_of_lt_succ (Nat.lt_succ_of_le hp.size)) (.cells #[.bool false,.slice none 0 0,.slice none 0 0,.int .i64 0,.int .i64 0,.string ⟨#[]⟩,.int .i64 0] 60));clear hp HK;go_wp2_with fail;refine(hf.o _ he.o).mono ?_;rintro e w2 ⟨rfl,hc⟩;have hg:=he.t hc;clear hc hf;go_wp2
 go_region
 all_goals(try go_wp2)
 all_goals
  go_ret3;exact⟨rfl,hg.o.drew⟩
theorem jXW (sb wide:Nat)(h1:1<=wide)(h2:wide<=32)(proof:BA)(X P:aj)(w:World)(hn:jAM wide proof=some P)(hS:jBB sb w wide X)(hX:aT 99998 X.d X.t)(hR:Rnd w) :
  Calls Tryz.prog 39 #[.pointer (some ⟨sb,0,none⟩),.string proof] w fun e w'=>e=.returned (jCA (if bj (HS wide) P.d P.t=bj (HS wide) X.d X.t then jBu (HS wide) X.d P.d X.t P.t else none))/\Below w.heap.size w w':=by
 have hE:=(Sq.jNl h2 hn).1.t;have hu:aT 99998 P.d P.t:=hE.mono (by decide)
 have hk:∀w',Calls Tryz.prog 48 #[.string proof,.int .i64 wide] w' (jIm (fun w a b=>ag (fun _=>False) w P.d P.t a b) P.head w'):=fun w'=>by
  have:=jK8 (Z:=fun _=>False) wide h1 h2 proof w' (fun _ _ h=>h)
  rw[hn] at this;refine this.mono fun e h5 hh=>?_
  obtain⟨hb,ev,cv,rfl,h0⟩:=hh;obtain⟨⟨a1,a2,a3,rfl⟩,b1,b2,b3,rfl⟩:=h0.aG;exact⟨a1,a2,a3,b1,b2,b3,by rw[jQc],h0,hb⟩
 have ht:∀ev cv w',ag (fun _=>False) w' P.d P.t ev cv->Rnd w'->Calls Tryz.prog 37 #[.agg (ae P.head ev cv).toArray,.int .i64 wide] w' fun e h5=>e=.returned (.string (bj (HS wide) P.d P.t))/\Below w'.heap.size w' h5:=fun ev cv w' Hb He=>(jG3 wide h2 100 _ _ ev cv w' Hb hE He).2
 have ho:∀w',Below w.heap.size w w'->Calls Tryz.prog 29 #[.pointer (some ⟨sb,0,none⟩)] w' fun e h5=>e=.returned (.string (bj (HS wide) X.d X.t))/\Below w'.heap.size w' h5:=fun w' hb=>jK7 sb wide X 99998 w' h2 (hS.below hb) hX (hR.below hb)
 obtain⟨ev,cv,h3,Hc⟩:=hS;have hG:∀h9 h8 w',Below w.heap.size w w'->ag (fun _=>False) w' P.d P.t h9 h8->Calls Tryz.prog 49 #[.agg (ae X.head ev cv).toArray,.agg (ae P.head h9 h8).toArray,.int .i64 wide] w' fun e h5=>e=.returned (jCA (jBu (HS wide) X.d P.d X.t P.t))/\Below w'.heap.size w' h5:=fun h9 h8 w' hb Hb=>qBu wide h2 99998 X.d P.d X.t P.t ev cv h9 h8 w' (Hc.below hb) Hb hX hu (hR.below hb)
 obtain⟨⟨x1,x2,x3,Hg⟩,y1,y2,y3,Hf⟩:=Hc.aG;subst Hg Hf;rw[jQc] at h3 hG;have hi:w.heap[sb]?=some (.cells #[.int .i64 wide,.bool X.head.inner,.slice x1 x2 x3,.slice y1 y2 y3,.int .i64 X.head.least,.int .i64 X.head.rows,.string X.head.sl,.int .i64 X.head.num] 62):=h3;obtain⟨c0,c1,c2,c3,c4,c5,c6,c7⟩:=jGl hi;have hz:=jQe hi;have hY:=hd hi;have HK:=hd hk;have hN:=hd ho;have hK:=hd ht;have hJ:=hd hG;have HR:=hd hR;clear hk hn ho h3 hi Hc hX hR ht hG hE hu c1 c2 c3 c4 c5 c6 c7;obtain⟨res,h4⟩:∃y,y=(if bj (HS wide) P.d P.t=bj (HS wide) X.d X.t then jBu (HS wide) X.d P.d X.t P.t else none):=⟨_,rfl⟩;rw[<-h4];generalize jBu (HS wide) X.d P.d X.t P.t=cl at *;generalize bj (HS wide) X.d X.t=dx at *;generalize bj (HS wide) P.d P.t=dp at *;generalize X.head=xh at *;generalize hph:P.head=ph at *;have hg:=hd h4;clear h4;go_enter Tryz.func39,Tryz.ntmps39;go_wp2_with fail;refine(HK.o _).mono ?_;rintro e w1 ⟨e1,e2,e3,k1,k2,k3,rfl,Hd,Ha⟩;obtain⟨V,hV⟩:∃V:World,V=w1.alloc (.cells #[.bool ph.inner,.slice e1 e2 e3,.slice k1 k2 k3,.int .i64 ph.least,.int .i64 ph.rows,.string ph.sl,.int .i64 ph.num] 60):=⟨_,rfl⟩;have hF:Below w1.heap.size w1 V:=by rw[hV];exact bA
 have hH:V.heap[w1.heap.size]?=some (.cells #[.bool ph.inner,.slice e1 e2 e3,.slice k1 k2 k3,.int .i64 ph.least,.int .i64 ph.rows,.string ph.sl,.int .i64 ph.num] 60):=by rw[hV];exact jQi _ _
 have hA:=hd (Ha.trans (hF.mono Ha.size));have hL:=hd (Hd.below hF);have hP:=hd hH;have hT:=jQe hH;clear Hd Ha hF hH HK c0;go_wp2_with fail;rw[<-hV];clear hV;refine(hN.o _ hA.o).mono ?_;rintro e w2 ⟨rfl,hi⟩;have hy:=(hi.block _ hT).trans hP.o;have hf:=hA.t hi;have hM:=hd (hL.o.below hi);have hQ:=hd hy;have hU:=jQe hy;obtain⟨s0,s1,s2,s3,s4,s5,s6⟩:=jQq hy;have hx:=(hf.o.block _ hz).trans hY.o;obtain⟨c0,c1,c2,c3,c4,c5,c6,c7⟩:=jGl hx;have hW:=jQe hx;have hO:=hd hx;have ht:=fun w' (hb:Below w2.heap.size w2 w')=>hK.o (.slice e1 e2 e3) (.slice k1 k2 k3) w' (hM.o.below hb) (HR.o.below (hf.t hb).o)
 rw[jQc] at ht;have hp:=hd ht;clear hi hy hA hL hP hN hx ht hK hT c1 c2 c3 c4 c5 c6 c7
 by_cases hdd:dp=dx
 ·subst hdd;have HE:Hid (res=cl):=by show _=_;rw[hg.o,cE rfl]
  clear hg;go_wp2
  go_region_held3 (fun w'=>(w'.cell? ⟨w1.heap.size,0,none⟩=some (.bool ph.inner)/\w'.cell? ⟨w1.heap.size,1,none⟩=some (.slice e1 e2 e3)/\w'.cell? ⟨w1.heap.size,2,none⟩=some (.slice k1 k2 k3)/\w'.cell? ⟨w1.heap.size,3,none⟩=some (.int .i64 ph.least)/\w'.cell? ⟨w1.heap.size,4,none⟩=some (.int .i64 ph.rows)/\w'.cell? ⟨w1.heap.size,5,none⟩=some (.string ph.sl)/\w'.cell? ⟨w1.heap.size,6,none⟩=some (.int .i64 ph.num))/\w'.cell? ⟨sb,0,none⟩=some (.int .i64 wide)) (go_keep) (first
   | (go_at_call 37;refine(hp.o _ (cB bR)).mono ?_;rintro e w3 ⟨rfl,h6⟩;have ha:Below w2.heap.size w2 w3:=(cB bR).trans h6;have hl:=(ha.block _ hU).trans hQ.o;have hj:=(ha.block _ hW).trans hO.o;obtain⟨n0,n1,n2,n3,n4,n5,n6⟩:=jQq hl;obtain⟨d0,d1,d2,d3,d4,d5,d6,d7⟩:=jGl hj;have hI:=jQe hl;have hr:=jQe hj;have hD:=hd hl;have hC:=hd hj;have hs:=hd ha;clear h6 ha hl hj))
  have hq:=fun w' (hb:Below w3.heap.size w3 w')=>hJ.o (.slice e1 e2 e3) (.slice k1 k2 k3) w' (hf.o.trans ((hs.t hb).o.mono hf.o.size)) ((hM.o.below hs.o).below hb)
  rw[jQc] at hq;have he:=hd hq;clear hq hJ hp s0 s1 s2 s3 s4 s5 s6 c0;cases cl with
  | none =>
   have hm:=he.o;unfold jCA at hm;have he:=hd hm;clear hm;go_wp2
   go_region_held3 (fun w'=>(w'.cell? ⟨w1.heap.size,0,none⟩=some (.bool ph.inner)/\w'.cell? ⟨w1.heap.size,1,none⟩=some (.slice e1 e2 e3)/\w'.cell? ⟨w1.heap.size,2,none⟩=some (.slice k1 k2 k3)/\w'.cell? ⟨w1.heap.size,3,none⟩=some (.int .i64 ph.least)/\w'.cell? ⟨w1.heap.size,4,none⟩=some (.int .i64 ph.rows)/\w'.cell? ⟨w1.heap.size,5,none⟩=some (.string ph.sl)/\w'.cell? ⟨w1.heap.size,6,none⟩=some (.int .i64 ph.num))/\w'.cell? ⟨sb,0,none⟩=some (.int .i64 wide)/\w'.cell? ⟨sb,1,none⟩=some (.bool xh.inner)/\w'.cell? ⟨sb,2,none⟩=some (.slice x1 x2 x3)/\w'.cell? ⟨sb,3,none⟩=some (.slice y1 y2 y3)/\w'.cell? ⟨sb,4,none⟩=some (.int .i64 xh.least)/\w'.cell? ⟨sb,5,none⟩=some (.int .i64 xh.rows)/\w'.cell? ⟨sb,6,none⟩=some (.string xh.sl)/\w'.cell? ⟨sb,7,none⟩=some (.int .i64 xh.num)) (go_keep) (first
   | (go_at_call 49;refine(he.o _ (cB bR)).mono ?_;rintro e w4 ⟨rfl,h7⟩;have hc:Below w3.heap.size w3 w4:=(cB bR).trans h7;have hw:=(hc.block _ hI).trans hD.o;have hv:=(hc.block _ hr).trans hC.o;obtain⟨p0,p1,p2,p3,p4,p5,p6⟩:=jQq hw;obtain⟨f0,f1,f2,f3,f4,f5,f6,f7⟩:=jGl hv;have hB:=hd hc;clear h7 hc hw hv))
   all_goals(try go_wp2)
   all_goals
    go_ret3;exact⟨by rw[HE.o];rfl,hf.o.trans ((hs.t hB.o).o.mono hf.o.size)⟩
  | some xy =>
   obtain⟨xa,xb⟩:=xy;have hm:=he.o;unfold jCA at hm;simp only at hm;have he:=hd hm;clear hm;go_wp2
   go_region_held3 (fun w'=>(w'.cell? ⟨w1.heap.size,0,none⟩=some (.bool ph.inner)/\w'.cell? ⟨w1.heap.size,1,none⟩=some (.slice e1 e2 e3)/\w'.cell? ⟨w1.heap.size,2,none⟩=some (.slice k1 k2 k3)/\w'.cell? ⟨w1.heap.size,3,none⟩=some (.int .i64 ph.least)/\w'.cell? ⟨w1.heap.size,4,none⟩=some (.int .i64 ph.rows)/\w'.cell? ⟨w1.heap.size,5,none⟩=some (.string ph.sl)/\w'.cell? ⟨w1.heap.size,6,none⟩=some (.int .i64 ph.num))/\w'.cell? ⟨sb,0,none⟩=some (.int .i64 wide)/\w'.cell? ⟨sb,1,none⟩=some (.bool xh.inner)/\w'.cell? ⟨sb,2,none⟩=some (.slice x1 x2 x3)/\w'.cell? ⟨sb,3,none⟩=some (.slice y1 y2 y3)/\w'.cell? ⟨sb,4,none⟩=some (.int .i64 xh.least)/\w'.cell? ⟨sb,5,none⟩=some (.int .i64 xh.rows)/\w'.cell? ⟨sb,6,none⟩=some (.string xh.sl)/\w'.cell? ⟨sb,7,none⟩=some (.int .i64 xh.num)) (go_keep) (first
   | (go_at_call 49;refine(he.o _ (cB bR)).mono ?_;rintro e w4 ⟨rfl,h7⟩;have hc:Below w3.heap.size w3 w4:=(cB bR).trans h7;have hw:=(hc.block _ hI).trans hD.o;have hv:=(hc.block _ hr).trans hC.o;obtain⟨p0,p1,p2,p3,p4,p5,p6⟩:=jQq hw;obtain⟨f0,f1,f2,f3,f4,f5,f6,f7⟩:=jGl hv;have hB:=hd hc;clear h7 hc hw hv))
   all_goals(try go_wp2)
   all_goals
    go_ret3;exact⟨by rw[HE.o];rfl,hf.o.trans ((hs.t hB.o).o.mono hf.o.size)⟩
 have HE:Hid (res=none):=by show _=_;rw[hg.o,cy hdd]
 have hZ:(dp.toList==dx.toList)=false:=by
  simp only[beq_eq_false_iff_ne,ne_eq];intro e;exact hdd (jJS e)
 clear hg;go_wp2
 go_region_held3 (fun w'=>(w'.cell? ⟨w1.heap.size,0,none⟩=some (.bool ph.inner)/\w'.cell? ⟨w1.heap.size,1,none⟩=some (.slice e1 e2 e3)/\w'.cell? ⟨w1.heap.size,2,none⟩=some (.slice k1 k2 k3)/\w'.cell? ⟨w1.heap.size,3,none⟩=some (.int .i64 ph.least)/\w'.cell? ⟨w1.heap.size,4,none⟩=some (.int .i64 ph.rows)/\w'.cell? ⟨w1.heap.size,5,none⟩=some (.string ph.sl)/\w'.cell? ⟨w1.heap.size,6,none⟩=some (.int .i64 ph.num))/\w'.cell? ⟨sb,0,none⟩=some (.int .i64 wide)) (go_keep) (first
  | (go_at_call 37;refine(hp.o _ (cB bR)).mono ?_;rintro e w3 ⟨rfl,h6⟩;have ha:Below w2.heap.size w2 w3:=(cB bR).trans h6;have hl:=(ha.block _ hU).trans hQ.o;have hj:=(ha.block _ hW).trans hO.o;obtain⟨n0,n1,n2,n3,n4,n5,n6⟩:=jQq hl;obtain⟨d0,d1,d2,d3,d4,d5,d6,d7⟩:=jGl hj;have hI:=jQe hl;have hr:=jQe hj;have hD:=hd hl;have hC:=hd hj;have hs:=hd ha;clear h6 ha hl hj))
 all_goals(try go_wp2)
 all_goals
  go_ret3;exact⟨by rw[HE.o];rfl,hf.o.trans (hs.o.mono hf.o.size)⟩
theorem jZI (sb wide:Nat)(h1:1<=wide)(h2:wide<=32)(proof:BA)(X:aj)(w:World)(hS:jBB sb w wide X)(hX:aT 99998 X.d X.t)(hR:Rnd w) :
  Calls Tryz.prog 39 #[.pointer (some ⟨sb,0,none⟩),.string proof] w fun e w'=>e=.returned (jCA (Sq.jEk (HS wide) wide X proof))/\Below w.heap.size w w':=by
 unfold Sq.jEk;cases hn:jAM wide proof with
 | none=>exact jXX sb wide h1 h2 proof X w hn hS hX hR
 | some P=>exact jXW sb wide h1 h2 proof X P w hn hS hX hR
end
end Go.Proofs.YtahpihjialbanaaGreatDoor
