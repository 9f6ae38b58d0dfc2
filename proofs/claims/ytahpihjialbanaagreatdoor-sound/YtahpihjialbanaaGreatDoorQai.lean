import Derived.BigRegion
import Derived.Test.YtahpihjialbanaaGreatDoorQah
set_option linter.all false
set_option maxRecDepth 100000
set_option maxHeartbeats 4000000
namespace Go.Proofs.YtahpihjialbanaaGreatDoor
open Sq (aa Nd takeN aF Rd bz br aw Col Ent Lv Val af jAC jAJ jAL jAs jAu jB1 jB5 jBT jBs jBt jCG jCT jCV jCb jCg jCu jD8 jDA jDD jDm jE5 jEA jEJ jEM jEc jEm jEo jFJ jFb jFl jFq jFr jGE jGt jGu jHj jHt jIW jKd jQo jQt txt)
variable {B b n:Nat}{a:Act}{c:Array Value}{cv ev v:Value}{e:TypeId}{o:Oper}{w w':World}{xs:List Value}{α:Type}
section
open Go.RowKit
variable {Z:Nat->Prop}
def jDv (B:Nat)(w:World)(v:Value)(l:List Int):Prop:=w.ownsRow B 2 1 v l.length (l.map (Value.int .i64))
theorem jDv.at {l:List Int}(h:jDv B w v l)(k:Nat)(hk:k<l.length):∃g cap,v=.slice (some ⟨g,0,none⟩) l.length cap/\g<w.heap.size/\w.cell? ⟨g,k,none⟩=some (.int .i64 l[k]):=by
 obtain⟨g,cap,rfl,_,ha⟩:=h.form (by omega);refine⟨g,cap,rfl,ha,?_⟩
 have:=h.cells (g:=g) rfl k (.int .i64 l[k]) (by rw[dy,cz hk];rfl)
 rwa [show(⟨g,0,none⟩:Addr).add k=⟨g,k,none⟩ from by unfold Addr.add;split<;>simp_all] at this
theorem jXp (l:List Int)(k:Nat)(h:k+1<l.length):jCV (l.drop k)=(Decidable.decide (l[k]<l[k+1])&&jCV (l.drop (k+1))):=by
 rw[cr (by omega:k<l.length),cr h];rfl
theorem jYE (l:List Int)(k:Nat)(h:¬k+1<l.length):jCV (l.drop k)=true:=by
 have:(l.drop k).length<=1:=by rw[ef];omega
 cases hd:l.drop k with
 | nil=>rfl
 | cons a r =>
  cases r with
  | nil=>rfl
  | cons b q=>rw[hd] at this;simp at this
theorem jYF (l:List Int)(v:Value)(B:Nat)(w:World)(h:jDv B w v l)(hl:l.length<=1000000000) :
  Calls Tryz.prog 95 #[v] w fun e w'=>e=.returned (.bool (jCV l))/\Below w.heap.size w w':=by
 obtain⟨ao,cap,rfl⟩:=jQa h;have H:=hd h;obtain⟨res,hj⟩:∃y,y=jCV l:=⟨_,rfl⟩;rw[<-hj];have he:=hd hj;clear h hj;go_enter Tryz.func95,Tryz.ntmps95;go_wp2
 go_loopw [3] (fun i wr=>∃k:Nat,i=.int .i64 ((k:Int)+1)/\k<=1000000000/\Hid (res=jCV (l.drop k))/\Hid (Below w.heap.size w wr)) (fun i _=>l.length+1-(intOf i).toNat)
 case atStart=>exact⟨0,rfl,by omega,he,bR⟩
 case round =>
  obtain⟨k,rfl,hs,hr,hb⟩:=hrel
  by_cases hkt:k+1<l.length
  ·obtain⟨g,hp,hv,hg,c0⟩:=H.o.at k (by omega);obtain⟨g',hn,ho,hq,c1⟩:=H.o.at (k+1) hkt;obtain⟨rfl,-,rfl⟩:=sI hv;simp only[Value.slice.injEq,Option.some.injEq,Addr.mk.injEq,and_true,true_and] at ho;obtain⟨rfl,rfl⟩:=ho;have hf:=jXp l k hkt;obtain⟨a,ha⟩:∃y,y=l[k]:=⟨_,rfl⟩;obtain⟨bb,hk⟩:∃y,y=l[k+1]:=⟨_,rfl⟩;rw[<-ha,<-hk] at hf;rw[<-ha] at c0;rw[<-hk] at c1;have d0:=((aD hb.o).1 g k hg).trans c0;have d1:=((aD hb.o).1 g (k+1) hg).trans c1;have hh:g<wr.heap.size:=by have:=hb.o.size;omega
   have hc:=hd hf;have i1:(k:Int)+1<(l.length:Int):=by omega
   have i2:¬((l.length:Int)<=(k:Int)+1):=by omega
   have i3:¬((l.length:Int)<=(k:Int)):=by omega
   have i4:¬((k:Int)<0):=by omega
   clear hf ha hk c0 c1
   by_cases hlt:a<bb
   ·have HR:Hid (res=jCV (l.drop (k+1))):=by show _=_;rw[hr.o,hc.o];simp[hlt]
    have i5:¬(bb<=a):=by omega
    clear hr hc;go_wp2
    go_region
    all_goals(try go_wp2)
    all_goals
     go_roundw;exact⟨k+1,by go_num,by omega,HR,by first | exact hb | exact hb.o.drew⟩;simp[intOf];omega
   have HR:Hid (res=false):=by show _=_;rw[hr.o,hc.o];simp[hlt]
   have i5:bb<=a:=by omega
   clear hr hc;go_wp2
   go_region
   all_goals(try go_wp2)
   all_goals
    go_ret;exact⟨by rw[HR.o];rfl,by first | exact hb.o | exact hb.o.drew⟩
  have HR:Hid (res=true):=by show _=_;rw[hr.o];exact jYE l k hkt
  have i1:¬((k:Int)+1<(l.length:Int)):=by omega
  clear hr;go_wp2;go_ret;exact⟨by rw[HR.o];rfl,hb.o⟩
def jCJ (b:Nat)(w:World)(l:Lv):Prop:=w.heap[b]?=some (.cells #[.int .i64 l.hl,.int .i64 l.dl,.int .i64 l.di] 192)
theorem jCJ.below {l:Lv}(h:jCJ b w l)(hb:Below w.heap.size w w'):jCJ b w' l:=(hb.block b (jQe h)).trans h
theorem jWj (b:Nat)(l:Lv)(d:Int)(w:World)(h:jCJ b w l) :
  Calls Tryz.prog 170 #[.pointer (some ⟨b,0,none⟩),.int .i64 d] w fun e w'=>e=.returned (.tuple #[])/\jCJ b w' (jEM d l)/\jB4 b w w':=by
 obtain⟨hl,dl,di⟩:=l;have c2:w.cell? ⟨b,2,none⟩=some (.int .i64 di):=by rw[jQb h];rfl
 have f2:=jQd h 2;have hz:=jQe h;have H:=hd h;clear h
 by_cases hd':di<d
 ·have HE:Hid (jEM d ⟨hl,dl,di⟩=⟨hl,dl,d⟩):=by show _=_;unfold jEM;simp only;rw[cE hd']
  go_enter Tryz.func170,Tryz.ntmps170;go_wp2;go_end0;refine⟨rfl,?_,jB4.set _ _⟩;rw[HE.o];unfold jCJ;rw[jQf H.o];rfl
 have HE:Hid (jEM d ⟨hl,dl,di⟩=⟨hl,dl,di⟩):=by show _=_;unfold jEM;simp only;rw[cy hd']
 go_enter Tryz.func170,Tryz.ntmps170;go_wp2;go_end0;exact⟨rfl,by rw[HE.o];exact H.o,jB4.refl _ _⟩
theorem jWw (b:Nat)(l:Lv)(d:Int)(w:World)(h:jCJ b w l) :
  Calls Tryz.prog 171 #[.pointer (some ⟨b,0,none⟩),.int .i64 d] w fun e w'=>e=.returned (.tuple #[])/\jCJ b w' (jFJ d l)/\jB4 b w w':=by
 obtain⟨hl,dl,di⟩:=l;have c0:w.cell? ⟨b,0,none⟩=some (.int .i64 hl):=by rw[jQb h];rfl
 have c1:w.cell? ⟨b,1,none⟩=some (.int .i64 dl):=by rw[jQb h];rfl
 have f0:=jQd h 0;have f1:=jQd h 1;have hz:=jQe h;have H:=hd h;have key:∀(x y:Int),(x=if hl<0\/d<hl then d else hl)->(y=if dl<d then d else dl)->jFJ d ⟨hl,dl,di⟩=⟨x,y,di⟩:=fun x y hx hy=>by rw[hx,hy];rfl
 have ha:=hd key;clear h key
 by_cases h1:hl<0
 ·by_cases h2:dl<d
  ·have HE:=hd (ha.o d d (by rw[cE (Or.inl h1)]) (by rw[cE h2]));go_enter Tryz.func171,Tryz.ntmps171;go_wp2;go_end0;refine⟨rfl,?_,(jB4.set _ _).trans (jB4.set _ _)⟩;rw[HE.o];unfold jCJ;rw[jQf (jQf H.o _)];rfl
  have HE:=hd (ha.o d dl (by rw[cE (Or.inl h1)]) (by rw[cy h2]));go_enter Tryz.func171,Tryz.ntmps171;go_wp2;go_end0;refine⟨rfl,?_,jB4.set _ _⟩;rw[HE.o];unfold jCJ;rw[jQf H.o];rfl
 by_cases h3:d<hl
 ·by_cases h2:dl<d
  ·have HE:=hd (ha.o d d (by rw[cE (Or.inr h3)]) (by rw[cE h2]));go_enter Tryz.func171,Tryz.ntmps171;go_wp2;go_end0;refine⟨rfl,?_,(jB4.set _ _).trans (jB4.set _ _)⟩;rw[HE.o];unfold jCJ;rw[jQf (jQf H.o _)];rfl
  have HE:=hd (ha.o d dl (by rw[cE (Or.inr h3)]) (by rw[cy h2]));go_enter Tryz.func171,Tryz.ntmps171;go_wp2;go_end0;refine⟨rfl,?_,jB4.set _ _⟩;rw[HE.o];unfold jCJ;rw[jQf H.o];rfl
 by_cases h2:dl<d
 ·have HE:=hd (ha.o hl d (by rw[cy (by omega)]) (by rw[cE h2]));go_enter Tryz.func171,Tryz.ntmps171;go_wp2;go_end0;refine⟨rfl,?_,jB4.set _ _⟩;rw[HE.o];unfold jCJ;rw[jQf H.o];rfl
 have HE:=hd (ha.o hl dl (by rw[cy (by omega)]) (by rw[cy h2]));go_enter Tryz.func171,Tryz.ntmps171;go_wp2;go_end0;exact⟨rfl,by rw[HE.o];exact H.o,jB4.refl _ _⟩
theorem jYu {r:Lv}{size:Nat}(h:w.ownsRow B e size v n xs)(hr:jCJ b w r)(ha:e≠192)(hf:Rf b w w'):w'.ownsRow B e size v n xs:=by
 refine⟨h.1,?_⟩;rcases h.2 with h0 | ⟨g,cap,cur,hv,hbg,hh,hn,hm,hc,ht⟩
 ·exact Or.inl h0
 refine Or.inr ⟨g,cap,cur,hv,hbg,(hf.block g (jQe hh) fun e2=>?_).trans hh,hn,hm,hc,ht⟩;subst e2;unfold jCJ at hr;rw[hr] at hh;simp only[Option.some.injEq,Obj.cells.injEq] at hh;exact ha hh.2.1.symm
theorem ag.lv {r:Lv}{t:Nd n}(h:ag Z w n t ev cv)(hr:jCJ b w r)(hf:Rf b w w'):ag Z w' n t ev cv :=
 h.same fun g c e fr hg he=>hf.block g (jQe hg) fun e2=>by
  subst e2;unfold jCJ at hr;rw[hr] at hg;simp only[Option.some.injEq,Obj.cells.injEq] at hg;rcases he with rfl | rfl
  ·exact absurd hg.2.1 (by decide)
  exact absurd hg.2.1 (by decide)
theorem aB.lv {r:Lv}{l:List (Nd n×Value×Value)}(h:aB Z B w v n l)(hr:jCJ b w r)(hf:Rf b w w'):aB Z B w' v n l:=⟨jYu h.own hr (by decide) hf,fun x hx=>(h.each x hx).lv hr hf⟩
theorem qAW (g:α->Int->Lv->Lv)(d:Int)(l:List α)(k:Nat)(h:k<l.length)(v:Lv):jD8 g d (l.drop k) v=jD8 g d (l.drop (k+1)) (g l[k] d v):=by
 rw[cr h];rfl
def jFv (b:Nat)(l:Lv)(w:World)(e:Ending)(w':World):Prop:=e=.returned (.tuple #[])/\jCJ b w' l/\Rf b w w'
theorem jUe (n:Nat)(h:Sq.Head)(hS:Nat)(eo:Option Addr)(hR:Nat)(l:List (Nd n×Value×Value))(cv:Value)(b:Nat)(lv:Lv)(d:Int)(g:Nd n->Int->Lv->Lv)(w:World)(hn:aB Z 0 w cv n l)(hl:l.length<=255)(Hb:0<=d)(Hc:d<=1000000)(h2:jCJ b w lv)
  (ih:∀x∈l,∀w' lv',ag Z w' n x.1 x.2.1 x.2.2->jCJ b w' lv'->Calls Tryz.prog 134 #[.pointer (some ⟨b,0,none⟩),.agg (au n x).toArray,.int .i64 (d+1)] w' (jFv b (g x.1 (d+1) lv') w')) :
  Calls Tryz.prog 134 #[.pointer (some ⟨b,0,none⟩),.agg (ae h (.slice eo hS hR) cv).toArray,.int .i64 d] w (jFv b (if aw h then lv else jD8 g (d+1) (l.map Prod.fst) (if h.inner then jEM d lv else jFJ d lv)) w):=by
 obtain⟨co,hX,rfl⟩:=jQa hn.own;rw[jQc];obtain⟨W,hW⟩:∃W:World,W=w.alloc (.cells #[.bool h.inner,.slice eo hS hR,.slice co l.length hX,.int .i64 h.least,.int .i64 h.rows,.string h.sl,.int .i64 h.num] 60):=⟨_,rfl⟩;have hy:Below w.heap.size w W:=by rw[hW];exact bA
 have hm:W.heap[w.heap.size]?=some (.cells #[.bool h.inner,.slice eo hS hR,.slice co l.length hX,.int .i64 h.least,.int .i64 h.rows,.string h.sl,.int .i64 h.num] 60):=by rw[hW];exact jQi _ _
 have hz:=jQe hm;have hP:=jQe h2;have hu:w.heap.size≠b:=by omega
 obtain⟨m0,m1,m2,m3,m4,m5,m6⟩:=aP.jCq (h:=h) hm;have HN:=hd (hn.below hy);have hC:=hd (h2.below hy);have hF:Hid (Rf b w W):=Rf.jBF hy;have hs:=hd hm;have IH:=hd ih;obtain⟨res,hU⟩:∃y,y=(if aw h then lv else jD8 g (d+1) (l.map Prod.fst) (if h.inner then jEM d lv else jFJ d lv)):=⟨_,rfl⟩;rw[<-hU];have hi:=hd hU;clear hU;clear hn hy hm ih h2;go_enter Tryz.func134,Tryz.ntmps134;go_wp2_with fail;rw[<-hW];clear hW;refine(jH2 h _ _ _ ⟨_,_,_,rfl⟩ ⟨_,_,_,rfl⟩).mono ?_;rintro e w1 ⟨rfl,hY⟩;have he:=(hY.block _ hz).trans hs.o;have hp:=hd he;have hJ:=jQe he;clear m0 m1 m2 m3 m4 m5 m6;obtain⟨m0,m1,m2,m3,m4,m5,m6⟩:=aP.jCq (h:=h) he;have hD:=hd (HN.o.below hY);have hh:=hd (hC.o.below hY);have hB:=hd (hF.o.trans (Rf.jBF hY));clear hY he HN hC hF hs hz;cases hsh:aw h
 case true =>
  have HR:Hid (res=lv):=by show _=_;rw[hi.o,hsh];rfl
  go_wp2;go_end0;exact⟨rfl,by rw[HR.o];exact hh.o,hB.o⟩
 case false =>
  have hc:Hid (res=jD8 g (d+1) (l.map Prod.fst) (if h.inner then jEM d lv else jFJ d lv)):=by show _=_;rw[hi.o,hsh];rfl
  clear hi;cases hin:h.inner
  all_goals
   rw[hin] at m0
   first
    | (
      have hx:h.inner=true:=hin;have hq:Hid (res=jD8 g (d+1) (l.map Prod.fst) (jEM d lv)):=by show _=_;rw[hc.o,hin];rfl
      clear hc hx;go_wp2_with fail;refine(jWj b lv d _ hh.o).mono ?_)
    | (
      have hq:Hid (res=jD8 g (d+1) (l.map Prod.fst) (jFJ d lv)):=by show _=_;rw[hc.o,hin];rfl
      clear hc;go_wp2_with fail;refine(jWw b lv d _ hh.o).mono ?_)
   rintro e w2 ⟨rfl,hT,h6⟩;have ho:=Rf.jBA h6;have hf:=(ho.block _ hJ hu).trans hp.o;have ht:=hd hf;have hO:=jQe hf;clear m0 m1 m2 m3 m4 m5 m6;obtain⟨m0,m1,m2,m3,m4,m5,m6⟩:=aP.jCq (h:=h) hf;have hL:=hd (hD.o.lv hh.o ho);have hA:=hd hT;have hM:=hd (hB.o.trans ho);have hH:Hid (∃y:Lv,jCJ b w2 y/\res=jD8 g (d+1) (l.map Prod.fst) y):=⟨_,hT,hq.o⟩;clear hf ho h6 hT hD hB hh hp hJ hq hA;go_wp2
   go_loopw [6] (fun i wr=>∃k:Nat,k<=l.length/\i=.int .i64 k/\Hid (∃y:Lv,jCJ b wr y/\res=jD8 g (d+1) ((l.map Prod.fst).drop k) y)/\Hid (Rf b w2 wr)) (fun i _=>l.length-(intOf i).toNat)
   case atStart=>exact⟨0,zR,rfl,hH,Rf.refl _ _⟩
   case round =>
    obtain⟨k,hk,rfl,hr,hb⟩:=hrel;have hj:=(hb.o.block _ hO hu).trans ht.o;have hQ:=jQe hj;clear m0 m1 m2 m3 m4 m5 m6;obtain⟨m0,m1,m2,m3,m4,m5,m6⟩:=aP.jCq (h:=h) hj;clear hj;obtain⟨y2,h7,-⟩:=hH.o;have hE:=hd (hL.o.lv h7 hb.o);clear h7
    by_cases hkt:k<l.length
    ·obtain⟨q,h8,ea,el,ec,ca,cl,cc,hv,hg,⟨d0,d1,d2,d3,d4,h5,h4⟩,d5,d6⟩:=hE.o.at k hkt;obtain⟨rfl,-,rfl⟩:=sI hv;obtain⟨y,h1,hV⟩:=hr.o;have hw:=qAW g (d+1) (l.map Prod.fst) k (by simpa using hkt) y;rw[da] at hw;have ha:=IH.o _ (cJ hkt) wr y (hE.o.each _ (cJ hkt)) h1;obtain⟨x,hx⟩:∃x,x=l[k]:=⟨_,rfl⟩;rw[<-hx] at hw ha d0 d3 d4 h5 h4 d5;obtain⟨t,Ha,h9⟩:=x;simp only[Prod.mk.injEq] at d5;obtain⟨rfl,rfl⟩:=d5;simp only at hw ha;obtain⟨xh,h3⟩:∃y,y=aa n t:=⟨_,rfl⟩;rw[<-h3] at d0 d3 d4 h5 h4;have hI:au n (t,.slice ea el ec,.slice ca cl cc)=ae xh (.slice ea el ec) (.slice ca cl cc):=by rw[h3];rfl
     rw[hI,jQc] at ha;rw[hw] at hV;have hG:=hd hV;have HC:=hd ha;have i3:¬((l.length:Int)<=(k:Int)):=by omega
     clear hw ha h3 hI hx d6 h1 hV hr;go_wp2_with fail;refine HC.o.mono ?_;rintro e w3 ⟨rfl,hZ,h0⟩;have hK:=hd (hb.o.trans h0);have hN:Hid (∃y:Lv,jCJ b w3 y/\res=jD8 g (d+1) ((l.map Prod.fst).drop (k+1)) y):=⟨_,hZ,hG.o⟩;clear hZ h0 hG;go_wp2;go_roundw;exact⟨k+1,by omega,by go_num,hN,hK⟩;simp[intOf];omega
    have i3:¬((k:Int)<(l.length:Int)):=by omega
    have HE:Hid (jCJ b wr res):=by
     obtain⟨y,h1,hV⟩:=hr.o;rw[cD (by simp;omega)] at hV;show jCJ b wr res;rw[hV];exact h1
    clear hr;go_wp2;go_end0;exact⟨rfl,HE.o,hM.o.trans hb.o⟩
theorem jUf (b:Nat):∀(n:Nat) (t:Nd n) (ev cv:Value) (d:Int) (lv:Lv) (w:World),ag Z w n t ev cv->jE5 n t->0<=d->d+n<=1000000->jCJ b w lv->Calls Tryz.prog 134 #[.pointer (some ⟨b,0,none⟩),.agg (ae (aa n t) ev cv).toArray,.int .i64 d] w (jFv b (jEo n t d lv) w)
 | 0,t,ev,cv,d,lv,w,h,hw,h0,h1,hlv=>by
  obtain⟨hc,rfl⟩:=h.leaf;obtain⟨eo,hb,rfl⟩:=jQa hc
  have hk:af.kids t=[]:=by
   cases hq:af.kids t with
   | nil=>rfl
   | cons c _=>exact c.elim
  have:=jUe (Z:=Z) 0 (aa 0 t) (af.av t).length eo hb [] (.slice none 0 0) b lv d (fun _ _ y=>y) w ⟨cu _ _ _ _,fun x hx=>by cases hx⟩ (by simp) h0 (by omega) hlv (fun x hx=>by cases hx)
  refine this.mono fun e w' hh=>?_
  have he:(if aw (aa 0 t) then lv else jD8 (fun _ _ y=>y) (d+1) (([]:List (Nd 0×Value×Value)).map Prod.fst) (if(aa 0 t).inner then jEM d lv else jFJ d lv))=jEo 0 t d lv:=by
   show _=jGE _ t d lv;unfold jGE;rw[hk];rfl
  rw[he] at hh;exact hh
 | n+1,t,ev,cv,d,lv,w,h,hw,h0,h1,hlv=>by
  obtain⟨hc,l,h2,h3⟩:=h.inner;obtain⟨eo,hb,rfl⟩:=jQa hc;have ha:l.length<=255:=by have:=hw.2.1;rw[h2,cF] at this;exact this
  have:=jUe (Z:=Z) n (aa (n+1) t) (af.av t).length eo hb l cv b lv d (jEo n) w h3 ha h0 (by omega) hlv (fun x hx w' hg hn hf=>jUf b n x.1 x.2.1 x.2.2 (d+1) hg w' hn (hw.2.2 x.1 (by rw[h2];exact dX hx)) (by omega) (by omega) hf)
  refine this.mono fun e w' hh=>?_
  have he:(if aw (aa (n+1) t) then lv else jD8 (jEo n) (d+1) (l.map Prod.fst) (if(aa (n+1) t).inner then jEM d lv else jFJ d lv))=jEo (n+1) t d lv:=by
   show _=jGE _ t d lv;unfold jGE;rw[h2];rfl
  rw[he] at hh;exact hh
theorem jYg (n:Nat)(t:Nd n)(ev cv:Value)(w:World)(ht:ag Z w n t ev cv)(hw:jE5 n t)(hn:n<=1000000) :
  Calls Tryz.prog 97 #[.agg (ae (aa n t) ev cv).toArray] w fun e w'=>e=.returned (.bool (jEA (jEo n t 0 ⟨-1,-1,-1⟩)))/\Below w.heap.size w w':=by
 obtain⟨⟨ea,el,ec,rfl⟩,ca,cl,cc,rfl⟩:=ht.aG;have ha:∀(b:Nat) (w':World),Below w.heap.size w w'->jCJ b w' ⟨-1,-1,-1⟩->Calls Tryz.prog 134 #[.pointer (some ⟨b,0,none⟩),.agg (ae (aa n t) (.slice ea el ec) (.slice ca cl cc)).toArray,.int .i64 0] w' (jFv b (jEo n t 0 ⟨-1,-1,-1⟩) w'):=fun b w' hb hl=>jUf b n t _ _ 0 _ w' (ht.below hb) hw (by omega) (by omega) hl
 obtain⟨h,hh⟩:∃h,h=aa n t:=⟨_,rfl⟩;rw[<-hh] at ha ⊢;rw[jQc] at ha ⊢;obtain⟨res,hp⟩:∃y,y=jEo n t 0 ⟨-1,-1,-1⟩:=⟨_,rfl⟩;rw[<-hp] at ha ⊢;have hc:=hd ha;clear ha hp ht hh hw hn;obtain⟨hl,dl,di⟩:=res;go_enter Tryz.func97,Tryz.ntmps97;go_wp2_with fail;obtain⟨V,hV⟩:∃V:World,V=w.alloc (.cells #[.bool h.inner,.slice ea el ec,.slice ca cl cc,.int .i64 h.least,.int .i64 h.rows,.string h.sl,.int .i64 h.num] 60):=⟨_,rfl⟩;have hg:V.heap.size=w.heap.size+1:=by rw[hV];simp
 have hi:Below w.heap.size w V:=by rw[hV];exact bA
 rw[<-hV];clear hV;have hf:=hi.alloc (by omega) (.cells #[.int .i64 (-1),.int .i64 (-1),.int .i64 (-1)] 192)
 have hj:jCJ (w.heap.size+1) (V.alloc (.cells #[.int .i64 (-1),.int .i64 (-1),.int .i64 (-1)] 192)) ⟨-1,-1,-1⟩:=by
  unfold jCJ;rw[<-hg];exact jQi _ _
 generalize V.alloc (.cells #[.int .i64 (-1),.int .i64 (-1),.int .i64 (-1)] 192)=X at *;have hk:=hf.size;clear hg hi;refine(hc.o _ _ hf hj).mono ?_;rintro e w1 ⟨rfl,ho,hq⟩;have he:=hd (hf.trans ((hq.below (B:=w.heap.size) (by omega) hk)));have c0:w1.cell? ⟨w.heap.size+1,0,none⟩=some (.int .i64 hl):=by rw[jQb ho];rfl
 have c1:w1.cell? ⟨w.heap.size+1,1,none⟩=some (.int .i64 dl):=by rw[jQb ho];rfl
 have c2:w1.cell? ⟨w.heap.size+1,2,none⟩=some (.int .i64 di):=by rw[jQb ho];rfl
 have hm:=jQe ho;clear ho hq hf hj hc
 by_cases h1:dl<0
 ·go_wp2;go_ret;exact⟨by simp[jEA,h1],he.o⟩
 by_cases h2:hl=dl
 ·subst h2
  by_cases h3:di<hl
  ·go_wp2;go_ret;exact⟨by simp[jEA,h1,h3]<;>(intros;omega),he.o⟩
  go_wp2;go_ret;exact⟨by simp[jEA,h1,h3]<;>(intros;omega),he.o⟩
 go_wp2;go_ret;exact⟨by simp[jEA,h1,h2],he.o⟩
theorem Tryz.jFR:(Tryz.prog.info? 2).map (fun i=>(i.zero,i.size,i.bytes))=some (some (.int .i64 0),1,8):=by kernel_rfl
theorem jDv.below {l:List Int}(h:jDv B w v l)(hb:Below w.heap.size w w'):jDv B w' v l:=jQh h hb
theorem qCM (l:List Int):∀u∈l.map (Value.int .i64),u.oneCell'=true:=by
 intro u hu;obtain⟨x,_,rfl⟩:=List.mem_map.1 hu;rfl
theorem jOY {ops:Array Oper}{rest:List Oper}{Q:Exit->Act->World->Prop}(hf:o.guard=none)(sl x:Operand)
  (ho:o.op=.call { callee:=.builtin .append,args:=#[sl,x],argTypes:=#[96,96] }) (B:Nat) (v:Value) (l:List Int) (hs:a.eval sl=v) (hb:jDv B w v l)
  (e:Int) (g c:Nat) (hx:a.eval x=.slice (some ⟨g,0,none⟩) 1 c) (ha:w.cell? ⟨g,0,none⟩=some (.int .i64 e)) (h1:l.length+1<=1000000001) (hB:B<=w.heap.size)
  (h:∀v' w',jDv B w' v' (l++[e])->Below B w w'->wpList Tryz.prog ops Q rest (a.put o.dst v') w'):wpList Tryz.prog ops Q (o::rest) a w:=by
 obtain⟨i0,hi,hh,hj,hn⟩:=cV Tryz.jFR
 refine cT _ hf sl x 96 ho B 2 i0 _ 1 8 Tryz.underlying96 hi hh hj hn rfl (by decide) v l.length _ hs hb ⟨g,0,none⟩ 1 c [.int .i64 e] hx rfl (by
  intro j u hu;rw[jFp]
  match j,hu with
  | 0,hu=>simp at hu;subst hu;exact ha
  | j+1,hu=>simp at hu) (by intro u hu;simp at hu;subst hu;rfl) (by decide) (by unfold maxLen;omega) (by omega) hB _ rfl ?_
 intro g' cap w' hg hc _ _;refine h _ w' ?_ (Tch.aO hc (fun k hk=>(World.ownsRow.lt hb k hk).1) hB);unfold jDv;rw[cg,cR];simpa using hg
theorem jVP {ops:Array Oper}{rest:List Oper}{Q:Exit->Act->World->Prop}(hg:o.guard=none)(sl x:Operand)
  (ho:o.op=.call { callee:=.builtin .append,args:=#[sl,x],argTypes:=#[96,96] }) (B:Nat) (v:Value) (l:List Int) (hs:a.eval sl=v) (hb:jDv B w v l)
  (m:List Int) (sv:Value) (hx:a.eval x=sv) (ha:Reads w sv m.length 1 (m.map (Value.int .i64))) (hm:0<m.length) (h1:l.length+m.length<=1000000001) (hB:B<=w.heap.size)
  (h:∀v' w',jDv B w' v' (l++m)->Below B w w'->wpList Tryz.prog ops Q rest (a.put o.dst v') w'):wpList Tryz.prog ops Q (o::rest) a w:=by
 obtain⟨i0,hi,hj,hn,hp⟩:=cV Tryz.jFR;rcases ha.2 with⟨_,h0⟩ | ⟨g,off,cap,rfl,_,hc⟩
 ·omega
 refine cT _ hg sl x 96 ho B 2 i0 _ 1 8 Tryz.underlying96 hi hj hn hp rfl (by decide) v l.length _ hs hb ⟨g,off,none⟩ m.length cap (m.map (Value.int .i64)) hx ha.1 (by
  intro j u hu;rw[jFp];exact hc j u hu) (qCM m) hm (by unfold maxLen;omega) (by omega) hB _ rfl ?_
 intro g' cap w' hh hf _ _;refine h _ w' ?_ (Tch.aO hf (fun k hk=>(World.ownsRow.lt hb k hk).1) hB);unfold jDv;rw[cg,cR];exact hh
def jF9 (l:List Int)(w:World)(e:Ending)(w':World):Prop:=∃v,e=.returned v/\jDv w.heap.size w' v l/\(l=[]->v=.slice none 0 0)/\Below w.heap.size w w'
theorem jRM (n:Nat)(h:Sq.Head)(es:List Ent)(l:List (Nd n×Value×Value))(ev cv:Value)(g:Nd n->List Int)(Hh:List Int)(w:World)(Hs:aM 0 w ev es)(hn:aB Z 0 w cv n l)(hl:l.length<=255)(HG:es.length<=255)
  (Ho:Hh=es.map Ent.place++(l.map Prod.fst).flatMap fun c=>if aw (aa n c) then[(aa n c).least] else g c) (hlen:Hh.length<=1000000000)
  (ih:∀x∈l,∀w',ag Z w' n x.1 x.2.1 x.2.2->aw (aa n x.1)=false->Calls Tryz.prog 96 #[.agg (au n x).toArray] w' (jF9 (g x.1) w')) :
  Calls Tryz.prog 96 #[.agg (ae h ev cv).toArray] w (jF9 Hh w):=by
 obtain⟨eo,Hm,rfl⟩:=jQa Hs;obtain⟨co,Hj,rfl⟩:=jQa hn.own;rw[jQc];obtain⟨W,Hn⟩:∃W,W=w.alloc (.cells #[.bool h.inner,.slice eo es.length Hm,.slice co l.length Hj,.int .i64 h.least,.int .i64 h.rows,.string h.sl,.int .i64 h.num] 60):=⟨_,rfl⟩;have hW:Below w.heap.size w W:=by rw[Hn];exact bA
 have hV:W.heap.size=w.heap.size+1:=by rw[Hn];exact jQr w _
 have hi:W.heap[w.heap.size]?=some (.cells #[.bool h.inner,.slice eo es.length Hm,.slice co l.length Hj,.int .i64 h.least,.int .i64 h.rows,.string h.sl,.int .i64 h.num] 60):=by rw[Hn];exact jQi w _
 have HW:=hd hW;have hh:=hd hi;have h0:=hd (Hs.below hW);have HN:=hd (hn.below hW);have IH:=hd ih;have hI:=hd hV;have hF:=hd Ho;obtain⟨a0,a1,a2,a3,a4,a5,a6⟩:=aP.jCq (h:=h) hi;have hz:=jQe hi;clear hW hi Hs hn ih hV Ho;go_enter Tryz.func96,Tryz.ntmps96;go_wp2;rw[<-Hn];clear Hn
 go_loopw [3,4] (fun v i wr=>∃k:Nat,∃acc:List Int,k<=es.length/\i=.int .i64 k/\jDv (w.heap.size+1) wr v acc/\(acc=[]->v=.slice none 0 0)/\acc.length<=k/\Hid (es.map Ent.place=acc++(es.map Ent.place).drop k)/\Below W.heap.size W wr) (fun _ i _=>es.length-(intOf i).toNat)
 case atStart=>exact⟨0,[],zR,rfl,cu _ _ _ _,fun _=>rfl,nR,rfl,bR⟩
 case round =>
  clear a0 a1 a2 a3 a4 a5 a6 hz;obtain⟨j,ac,hj,rfl,Hi,He,Hr,Hf,Hd⟩:=hrel;obtain⟨wo,rfl⟩:∃wo:World,wo=wr:=⟨_,rfl⟩;obtain⟨yo,HB,rfl⟩:=jQa Hi;have hO:=Hd.size;have ha:=(Hd.block w.heap.size (jQe hh.o)).trans hh.o;obtain⟨n0,n1,n2,n3,n4,n5,n6⟩:=aP.jCq (h:=h) ha;have hz:=jQe ha;have hp:=hd Hi;have hc:=hd He;have hs:=hd Hd;have hD:=hd (h0.o.below Hd);clear Hi He Hd ha n0 n3 n4 n5 n6 hO
  by_cases hjt:j<es.length
  ·obtain⟨g4,Hx,hv,HH,c0,c1⟩:=hD.o.at j hjt;obtain⟨rfl,-,rfl⟩:=sI hv;have hM:(es.map Ent.place).drop j=es[j].place::(es.map Ent.place).drop (j+1):=by rw[cr (by simpa using hjt),da]
   obtain⟨y,hy⟩:∃x,x=es[j]:=⟨_,rfl⟩;rw[<-hy] at c0 c1 hM;have h2:Hid (es.map Ent.place=(ac++[y.place])++(es.map Ent.place).drop (j+1)):=by have:=Hf.o;rw[hM] at this;show _=_;rw[dm];exact this
   have i1:¬((es.length:Int)<=(j:Int)):=by omega
   have hA:Below wo.heap.size wo (wo.alloc (.cells #[.int .i64 y.place] 2)):=bA;have hJ:=hd (hp.o.below hA);have HA:=hd hA;clear hM hy n2 Hf hA c1;go_wp2_with (at_builtin;refine jOY rfl (.tmp 13) (.tmp 20) rfl (w.heap.size+1) _ ac rfl hJ.o y.place wo.heap.size 1 rfl (by simp[go_sem]) (by omega) (by simp;omega) ?_;intro v5 w5 Ha Hg;have hE:=hd Ha;have hB:=hd Hg;clear Ha Hg);go_roundw;exact⟨j+1,ac++[y.place],by omega,by go_num,hE.o,fun h=>by simp at h,by rw[cg];simp;omega,h2,(hs.t HA.o).o.trans (by rw[hI.o];exact hB.o)⟩;simp[intOf];omega
  have hU:es.map Ent.place=ac:=by rw[Hf.o,cD (by simp;omega)];simp
  have he:=hF.o;rw[hU] at he;have hC:=hd he;have i1:¬((j:Int)<(es.length:Int)):=by omega
  clear Hf hU he hF;go_wp2
  go_loopw [3,5] (fun v i wr=>∃k:Nat,∃acc:List Int,k<=l.length/\i=.int .i64 k/\jDv (w.heap.size+1) wr v acc/\(acc=[]->v=.slice none 0 0)/\Hid (Hh=acc++((l.map Prod.fst).drop k).flatMap fun c=>if aw (aa n c) then[(aa n c).least] else g c)/\Below W.heap.size W wr) (fun _ i _=>l.length-(intOf i).toNat)
  case atStart=>exact⟨0,ac,zR,rfl,hp.o,hc.o,hC,hs.o⟩
  case round =>
   clear hp hc hs hD n1 n2 hz hjt hj Hr hC i1;obtain⟨k,Hb,hk,rfl,Hi,He,Hf,Hd⟩:=hrel;obtain⟨wq,rfl⟩:∃wo:World,wo=wr:=⟨_,rfl⟩;obtain⟨zo,HD,rfl⟩:=jQa Hi;have hO:=Hd.size;have ha:=(Hd.block w.heap.size (jQe hh.o)).trans hh.o;obtain⟨n0,n1,n2,n3,n4,n5,n6⟩:=aP.jCq (h:=h) ha;have hz:=jQe ha;have hp:=hd Hi;have hc:=hd He;have hs:=hd Hd;have hT:=hd (HN.o.below Hd);have hQ:=hd ha;clear Hi He Hd ha hO
   by_cases hkt:k<l.length
   ·have hZ:(l.map Prod.fst).drop k=l[k].1::(l.map Prod.fst).drop (k+1):=by rw[cr (by simpa using hkt),da]
    have hw:=Hf.o;rw[hZ,cK] at hw;obtain⟨q,Hw,ea,el,ec,ca,cl,cc,hv,hg,⟨d0,d1,d2,d3,d4,Hl,Hk⟩,d5,d6⟩:=hT.o.at k hkt;obtain⟨rfl,-,rfl⟩:=sI hv;have hu:=cJ hkt;obtain⟨x,hx⟩:∃x,x=l[k]:=⟨_,rfl⟩;rw[<-hx] at hw d0 d3 d4 Hl Hk d5 d6 hu;obtain⟨t,HF,HE⟩:=x;simp only[Prod.mk.injEq] at d5;obtain⟨rfl,rfl⟩:=d5;simp only at hw d6 d0 d3 d4 Hl Hk;have hb:=fun w'=>IH.o _ hu w'
    simp only at hb;obtain⟨xh,Hu⟩:∃y,y=aa n t:=⟨_,rfl⟩;have hX:au n (t,.slice ea el ec,.slice ca cl cc)=ae xh (.slice ea el ec) (.slice ca cl cc):=by rw[Hu];rfl
    rw[<-Hu] at d0 d3 d4 Hl Hk hw hb;rw[hX,jQc] at hb;have HC:=hd hb;have hH:=hd hw;have D6:=hd d6;have ho:q<wq.heap.size:=hg;have i1:¬((l.length:Int)<=(k:Int)):=by omega
    clear hZ hw hb Hu hX hx d6 hu Hf hg;go_wp2_with fail;refine(jH2 xh _ _ _ ⟨_,_,_,rfl⟩ ⟨_,_,_,rfl⟩).mono ?_;rintro e w3 ⟨rfl,Hc⟩;have h8:=Hc.size;have hf:=(Hc.block _ hz).trans hQ.o;have hP:=jQe hf;clear n0 n1 n2 n3 n4 n5 n6;obtain⟨n0,n1,n2,n3,n4,n5,n6⟩:=aP.jCq (h:=h) hf;have e0:=((aD Hc).1 q _ ho).trans d0;have e1:=((aD Hc).1 q _ ho).trans d1;have e2:=((aD Hc).1 q _ ho).trans d2;have e3:=((aD Hc).1 q _ ho).trans d3;have e4:=((aD Hc).1 q _ ho).trans d4;have e5:=((aD Hc).1 q _ ho).trans Hl;have e6:=((aD Hc).1 q _ ho).trans Hk;have hN:q<w3.heap.size:=by omega
    have hq:=hd (hp.o.below Hc);have hG:=hs.t Hc;have Hv:=hd (D6.o.below Hc);have h6:=hG.o.size;rw[hI.o] at h6;clear Hc hf d0 d1 d2 d3 d4 Hl Hk hp hs D6 hQ hT ho h8 hz;cases hsh:aw xh
    case true =>
     have ht:Hid (Hh=(Hb++[xh.least])++((l.map Prod.fst).drop (k+1)).flatMap fun c=>if aw (aa n c) then[(aa n c).least] else g c):=by have:=hH.o;rw[hsh,cE rfl] at this;show _=_;rw[dm];exact this
     have hK:Hb.length<=1000000000:=by have:=congrArg List.length ht.o;simp only[cg] at this;omega
     have hA:Below w3.heap.size w3 (w3.alloc (.cells #[.int .i64 xh.least] 2)):=bA;have hJ:=hd (hq.o.below hA);have HA:=hd hA;clear hH hA HC;go_wp2_with (at_builtin;refine jOY rfl (.tmp 35) (.tmp 42) rfl (w.heap.size+1) _ Hb rfl hJ.o xh.least w3.heap.size 1 rfl (by simp[go_sem]) (by omega) (by simp;omega) ?_;intro v5 w5 Ha Hg;have hE:=hd Ha;have hB:=hd Hg;clear Ha Hg);go_roundw;exact⟨k+1,Hb++[xh.least],by omega,by go_num,hE.o,fun h=>by simp at h,ht,(hG.t HA.o).o.trans (by rw[hI.o];exact hB.o)⟩;simp[intOf];omega
    case false =>
     obtain⟨m,hm⟩:∃y,y=g t:=⟨_,rfl⟩;have ht:Hid (Hh=(Hb++m)++((l.map Prod.fst).drop (k+1)).flatMap fun c=>if aw (aa n c) then[(aa n c).least] else g c):=by have:=hH.o;rw[hsh,cy (by simp),<-hm] at this;show _=_;rw[dm];exact this
     have hK:Hb.length+m.length<=1000000000:=by have:=congrArg List.length ht.o;simp only[cg] at this;omega
     have hL:=HC.o w3 Hv.o hsh;rw[<-hm] at hL;have hS:=hd hL;clear hH HC hL hm Hv;go_wp2_with fail;refine hS.o.mono ?_;rintro e w4 ⟨v4,rfl,Hq,Ht,Hp⟩;have h9:=Hp.size;have hr:=hd (hq.o.below Hp);have hR:=hG.t Hp;clear Hp hS hq hG e0 e1 e2 e3 e4 e5 e6 n0 n1 n2 n3 n4 n5 n6 hN hP
     by_cases hm0:m=[]
     ·have h7:=Ht hm0;subst h7;subst hm0;have h3:Hid (Hh=Hb++((l.map Prod.fst).drop (k+1)).flatMap fun c=>if aw (aa n c) then[(aa n c).least] else g c):=by have:=ht.o;rw[cW] at this;exact this
      obtain⟨i0,Hy,HI,HJ,HK⟩:=cV Tryz.jFR;clear ht Hq Ht;go_wp2_with (at_builtin;refine wpList_append_own_none rfl (.tmp 44) (.tmp 50) 96 rfl (w.heap.size+1) 2 i0 1 Tryz.underlying96 Hy _ Hb.length _ rfl hr.o rfl ?_);go_roundw;exact⟨k+1,Hb,by omega,by go_num,hr.o,hc.o,h3,hR.o⟩;simp[intOf];omega
     have h5:0<m.length:=by cases m with | nil=>exact absurd rfl hm0 | cons x r=>simp
     obtain⟨qo,Hz,rfl⟩:=jQa Hq;have h4:=hd (Reads.jEC Hq);have hY:Hb++m≠[]:=by simp[hm0]
     have h1:=hd hY;clear Hq Ht hY;go_wp2_with (at_builtin;refine jVP rfl (.tmp 44) (.tmp 50) rfl (w.heap.size+1) _ Hb rfl hr.o m _ rfl h4.o h5 (by omega) (by omega) ?_;intro v5 w5 Ha Hg;have hE:=hd Ha;have hB:=hd Hg;clear Ha Hg);go_roundw;exact⟨k+1,Hb++m,by omega,by go_num,hE.o,fun h=>absurd h h1.o,ht,hR.o.trans (by rw[hI.o];exact hB.o)⟩;simp[intOf];omega
   have hC:Hid (Hh=Hb):=by show _=_;rw[Hf.o,cD (by simp;omega)];simp
   have i1:¬((k:Int)<(l.length:Int)):=by omega
   clear Hf;go_wp2;go_ret;exact⟨_,rfl,by rw[hC.o];exact jQj hp.o (by omega),by rw[hC.o];exact hc.o,HW.o.trans (hs.o.mono HW.o.size)⟩
theorem jTY (f:α->List Int):∀(l:List α) (c:α),c∈l->(f c).length<=(l.flatMap f).length
 | x::r,c,h=>by
  rw[cK,cg];rcases List.mem_cons.1 h with rfl | h
  ·omega
  have:=jTY f r c h;omega
theorem jRN:∀(n:Nat) (t:Nd n) (ev cv:Value) (w:World),ag Z w n t ev cv->jE5 n t->(jAC n t).length<=1000000000->Calls Tryz.prog 96 #[.agg (ae (aa n t) ev cv).toArray] w (jF9 (jAC n t) w)
 | 0,t,ev,cv,w,h,hw,hle=>by
  obtain⟨h1,rfl⟩:=h.leaf
  have hk:af.kids t=[]:=by
   cases hq:af.kids t with
   | nil=>rfl
   | cons c _=>exact c.elim
  refine jRM (Z:=Z) 0 (aa 0 t) (af.av t) [] ev (.slice none 0 0) (fun _=>[]) (jAC 0 t) w h1 ⟨cu _ _ _ _,fun x hx=>by cases hx⟩ (by simp) hw ?_ hle (fun x hx=>by cases hx);show jFb _ _ t=_;unfold jFb;rw[hk];rfl
 | n+1,t,ev,cv,w,h,hw,hle=>by
  obtain⟨h1,l,h2,h3⟩:=h.inner;have ha:l.length<=255:=by have:=hw.2.1;rw[h2,cF] at this;exact this
  have he:jAC (n+1) t=(af.av t).map Ent.place++(l.map Prod.fst).flatMap fun c=>if aw (aa n c) then[(aa n c).least] else jAC n c:=by
   show jFb _ _ t=_;unfold jFb;rw[h2]
  refine jRM (Z:=Z) n (aa (n+1) t) (af.av t) l ev cv (jAC n) (jAC (n+1) t) w h1 h3 ha hw.1 he hle (fun x hx w' hn hs=>jRN n x.1 x.2.1 x.2.2 w' hn (hw.2.2 x.1 (by rw[h2];exact dX hx)) ?_)
  have:=jTY (fun c=>if aw (aa n c) then[(aa n c).least] else jAC n c) (l.map Prod.fst) x.1 (dX hx)
  rw[he,cg] at hle;simp only[hs] at this;simp at this hle;omega
namespace Sq
theorem jX4:∀(n:Nat) (s:BA) (l q:Int),jAC n (bg n s l q)=[]
 | 0,_,_,_=>rfl
 | _+1,_,_,_=>rfl
theorem jPy {wide:Nat}(hr:∀r,(jAC n (aN wide n r).1).length+255*(aN wide n r).2.rest.size<=255*r.rest.size) :
  ∀(k:Nat) (r:Rd),((bD (aa n) (bg n) (aN wide n) k r).1.flatMap fun c=>if aw (aa n c) then[(aa n c).least] else jAC n c).length+255*(bD (aa n) (bg n) (aN wide n) k r).2.rest.size<=k+255*r.rest.size
 | 0,r=>by show 0+_<=_;simp[bD]
 | k+1,r=>by
  have h1:=jQo r 5;have h2:=jQo (takeN r 5) 1;have h3:=hr (takeN (takeN r 5) 1)
  have h4:(jAC n (jAD (aa n) (bg n) (aF r 5) (aF (takeN r 5) 1) (aN wide n (takeN (takeN r 5) 1))).1).length+255*(jAD (aa n) (bg n) (aF r 5) (aF (takeN r 5) 1) (aN wide n (takeN (takeN r 5) 1))).2.rest.size<=255*r.rest.size:=by
   unfold jAD
   split
   ·show(jAC n (bg n _ _ _)).length+_<=_
    rw[jX4];simp only[List.length_nil];show 0+255*(aN wide n (takeN (takeN r 5) 1)).2.rest.size<=_;omega
   split
   ·omega
   show(jAC n (aN wide n (takeN (takeN r 5) 1)).1).length+255*(aN wide n (takeN (takeN r 5) 1)).2.rest.size<=_
   omega
  have h5:=jPy hr k (jAD (aa n) (bg n) (aF r 5) (aF (takeN r 5) 1) (aN wide n (takeN (takeN r 5) 1))).2;rw[jK2];simp only[cK,cg]
  have h6:∀c:Nd n,(if aw (aa n c) then[(aa n c).least] else jAC n c).length<=1+(jAC n c).length:=fun c=>by
   split
   ·simp
   omega
  have h7:=h6 (jAD (aa n) (bg n) (aF r 5) (aF (takeN r 5) 1) (aN wide n (takeN (takeN r 5) 1))).1;omega
theorem jPL (wide:Nat):∀(n:Nat) (r:Rd),(jAC n (aN wide n r).1).length+255*(aN wide n r).2.rest.size<=255*r.rest.size
 | 0,r=>by
  have h1:=jQo r 1;have h2:=jQo (takeN r 1) wide;show 0+255*(takeN (takeN r 1) wide).rest.size<=_;omega
 | n+1,r=>by
  have h1:=jQo r 1
  show(jAC (n+1) (jBc wide (aa n) (bg n) (aN wide n) r).1).length+255*(jBc wide (aa n) (bg n) (aN wide n) r).2.rest.size<=_
  unfold jBc
  split
  ·have h2:=jQo (takeN r 1) wide;show 0+255*(takeN (takeN r 1) wide).rest.size<=_;omega
  ·rename_i hk;have h4:=jQo (takeN r 1) 1;have h5:=jJd (takeN r 1)
   split
   ·obtain⟨e1,e2,e3⟩:=jI7 (aF (takeN r 1) 1).toNat (takeN (takeN r 1) 1)
    show((bN (aF (takeN r 1) 1).toNat (takeN (takeN r 1) 1)).1.map Ent.place++[]).length+255*(bN (aF (takeN r 1) 1).toNat (takeN (takeN r 1) 1)).2.rest.size<=_
    rw[cW,cF,e1];omega
   ·split
    ·have h6:=jPy (wide:=wide) (fun r=>jPL wide n r) (aF (takeN r 1) 1).toNat (takeN (takeN r 1) 1)
     show([]++(bD (aa n) (bg n) (aN wide n) (aF (takeN r 1) 1).toNat (takeN (takeN r 1) 1)).1.flatMap fun c=>if aw (aa n c) then[(aa n c).least] else jAC n c).length+255*(bD (aa n) (bg n) (aN wide n) (aF (takeN r 1) 1).toNat (takeN (takeN r 1) 1)).2.rest.size<=_
     rw[List.nil_append];omega
    ·show 0+255*(takeN r 1).rest.size<=_;omega
end Sq
theorem jZ7 (n:Nat)(t:Nd n)(ev cv:Value)(w:World)(ht:ag Z w n t ev cv)(hw:jE5 n t)(hn:n<=1000000)(hp:(jAC n t).length<=1000000000) :
  Calls Tryz.prog 62 #[.agg (ae (aa n t) ev cv).toArray] w fun e w'=>e=.returned (.bool (jFl n t))/\Below w.heap.size w w':=by
 obtain⟨⟨ea,el,ec,rfl⟩,ca,cl,cc,rfl⟩:=ht.aG;obtain⟨h,hh⟩:∃h,h=aa n t:=⟨_,rfl⟩;have c1:∀(w':World),Below w.heap.size w w'->Calls Tryz.prog 94 #[.agg (ae h (.slice ea el ec) (.slice ca cl cc)).toArray,.int .i64 ((if h.inner then 2 else 0:Nat):Int)] w' fun e hH=>e=.returned (.bool (jCb n (if h.inner then 2 else 0) t))/\Below w'.heap.size w' hH:=fun w' hb=>by rw[hh];exact jSp n t _ _ _ w' (ht.below hb) hw (by split<;>omega)
 have c2:∀(w':World),Below w.heap.size w w'->Calls Tryz.prog 96 #[.agg (ae h (.slice ea el ec) (.slice ca cl cc)).toArray] w' (jF9 (jAC n t) w'):=fun w' hb=>by rw[hh];exact jRN n t _ _ w' (ht.below hb) hw hp
 have c3:∀(w':World),Below w.heap.size w w'->Calls Tryz.prog 97 #[.agg (ae h (.slice ea el ec) (.slice ca cl cc)).toArray] w' fun e hH=>e=.returned (.bool (jEA (jEo n t 0 ⟨-1,-1,-1⟩)))/\Below w'.heap.size w' hH:=fun w' hb=>by rw[hh];exact jYg n t _ _ w' (ht.below hb) hw hn
 have hi:jFl n t=(jCb n (if h.inner then 2 else 0) t&&jCV (jAC n t)&&jEA (jEo n t 0 ⟨-1,-1,-1⟩)):=by rw[hh];rfl
 rw[<-hh,hi];obtain⟨pl,hM⟩:∃y,y=jAC n t:=⟨_,rfl⟩;rw[<-hM] at c2 hp ⊢;obtain⟨b1,hE⟩:∃y,y=jCb n (if h.inner then 2 else 0) t:=⟨_,rfl⟩;rw[<-hE] at c1 ⊢;obtain⟨b3,hF⟩:∃y,y=jEA (jEo n t 0 ⟨-1,-1,-1⟩):=⟨_,rfl⟩;rw[<-hF] at c3 ⊢;obtain⟨b2,hD⟩:∃y,y=jCV pl:=⟨_,rfl⟩;rw[<-hD];have c4:∀(v:Value) (B:Nat) (w':World),jDv B w' v pl->Calls Tryz.prog 95 #[v] w' fun e hH=>e=.returned (.bool b2)/\Below w'.heap.size w' hH:=fun v B w' hv=>by rw[hD];exact jYF pl v B w' hv hp
 rw[jQc] at c1 c2 c3 ⊢;have C1:=hd c1;have C2:=hd c2;have C3:=hd c3;have C4:=hd c4;clear c1 c2 c3 c4 hi hE hD hF hM ht hh hw hn;obtain⟨W,hG⟩:∃W,W=w.alloc (.cells #[.bool h.inner,.slice ea el ec,.slice ca cl cc,.int .i64 h.least,.int .i64 h.rows,.string h.sl,.int .i64 h.num] 60):=⟨_,rfl⟩;have hW:Below w.heap.size w W:=by rw[hG];exact bA
 have hf:W.heap[w.heap.size]?=some (.cells #[.bool h.inner,.slice ea el ec,.slice ca cl cc,.int .i64 h.least,.int .i64 h.rows,.string h.sl,.int .i64 h.num] 60):=by rw[hG];exact jQi w _
 have hg:=hd hf;have HB:=hd hW;have hz:=jQe hf;clear hW hf;cases hin:h.inner
 all_goals
  rw[hin] at hG;have hj:=C1.o;rw[hin] at hj;simp only[dT,eD,dr] at hj;have hJ:=hd hj;have hk:=hg.o;rw[hin] at hk;have HK:=hd hk;have ho:=C2.o;have hq:=C3.o;rw[hin] at ho hq;have hK:=hd ho;have hN:=hd hq;clear hj C1 hk hg ho hq C2 C3;go_enter Tryz.func62,Tryz.ntmps62;go_wp2_with fail;rw[<-hG];clear hG;refine(hJ.o W HB.o).mono ?_;rintro e w1 ⟨rfl,hE⟩;have ha:=(hE.block _ hz).trans HK.o;have hx:=hd ha;have hA:=jQe ha;have hl:=HB.t hE;have m0:=jQb ha 0;have m1:=jQb ha 1;have m2:=jQb ha 2;have m3:=jQb ha 3;have m4:=jQb ha 4;have m5:=jQb ha 5;have m6:=jQb ha 6;simp at m0 m1 m2 m3 m4 m5 m6;clear hE ha hJ;cases b1
  ·go_wp2;go_ret;exact⟨rfl,hl.o⟩
  go_wp2_with fail;refine(hK.o w1 hl.o).mono ?_;rintro e w2 ⟨v2,rfl,hI,-,hD⟩;obtain⟨po,hO,rfl⟩:=jQa hI;have hr:=hd hI;have he:=(hD.block _ hA).trans hx.o;have hy:=hd he;have hB:=jQe he;have hs:=hl.t hD;clear hD he m0 m1 m2 m3 m4 m5 m6 hK hI;go_wp2_with fail;refine(C4.o _ _ w2 hr.o).mono ?_;rintro e w3 ⟨rfl,hF⟩;have hc:=(hF.block _ hB).trans hy.o;have hC:=jQe hc;have hm:=hs.t hF;have m0:=jQb hc 0;have m1:=jQb hc 1;have m2:=jQb hc 2;have m3:=jQb hc 3;have m4:=jQb hc 4;have m5:=jQb hc 5;have m6:=jQb hc 6;simp at m0 m1 m2 m3 m4 m5 m6;clear hF hc C4 hr;cases b2
  ·go_wp2;go_ret;exact⟨rfl,hm.o⟩
  go_wp2_with fail;refine(hN.o w3 hm.o).mono ?_;rintro e w4 ⟨rfl,hL⟩;have hu:=hm.t hL;clear hL m0 m1 m2 m3 m4 m5 m6;go_wp2;go_ret;exact⟨by simp,hu.o⟩
end
namespace Sq
theorem bM.mem {l:List (Nd n)}{cs:List (List (Kid n))}(h:bM n l cs){c:Nd n}(hc:c∈l):∃x∈cs,rep n c x:=by
 obtain⟨i,hi⟩:=List.getElem?_of_mem hc;obtain⟨x,hx,hr⟩:=h.at hi;exact⟨x,cA hx,hr⟩
theorem jTs:∀(n:Nat) (x:List (Kid n)),okT n x->x≠[]->∃e r,av n x=e::r/\e.place=least n x
 | 0,[],_,h=>absurd rfl h
 | 0,e::r,_,_=>⟨e,r,rfl,rfl⟩
 | n+1,[],_,h=>absurd rfl h
 | n+1,c::cs,ho,_=>by
  have h1:=jQ0 (n:=n) (cs:=c::cs) ho (c:=c) (by simp);obtain⟨e,r,he,hl⟩:=jTs n c h1.2 (jF3 h1.1);refine⟨e,r++List.flatMap (av n) cs,?_,hl⟩;show List.flatMap (av n) (c::cs)=_;rw[cK,he];rfl
structure jDp (n:Nat)(x:List (Kid n)):Prop where
 kids:okT n x
 full:jCs n x
 rows:∀e∈av n x,jGF e/\e.row.size<=50
 few:(av n x).length<=60
theorem jDp.kid {cs:List (List (Kid n))}(h:jDp (n+1) cs){c:List (Kid n)}(hc:c∈cs):jDp n c/\2<=c.length:=by
 have h1:=jQ0 h.kids hc;have h2:∀e∈av n c,e∈av (n+1) cs:=fun e he=>List.mem_flatMap.2 ⟨c,hc,he⟩
 have h3:(av n c).length<=(av (n+1) cs).length:=by
  obtain⟨l1,l2,rfl⟩:=List.append_of_mem hc;show _<=(List.flatMap (av n) (l1++c::l2)).length;rw[cN,cK];simp only[cg];omega
 exact⟨⟨h1.2,h.full.2 c hc,fun e he=>h.rows e (h2 e he),cm h3 h.few⟩,h1.1⟩
theorem qBA {c:Nd n}{x:List (Kid n)}(h:rep n c x)(hf:jDp n x)(h2:2<=x.length):0<=(aa n c).least/\(aa n c).least<1099511627776/\0<=(aa n c).rows/\(aa n c).rows<256:=by
 obtain⟨-,h3,h4,-⟩:=h.head;obtain⟨e,r,he,hl⟩:=jTs n x hf.kids (jF3 h2);have h5:=(hf.rows e (by rw[he];simp)).1;have h6:=hf.few;rw[h3,h4,<-hl];exact⟨h5.1,h5.2.1,by omega,by omega⟩
end Sq
namespace Sq
theorem jT0 (e:Ent):(jA3 e).size=e.row.size+6:=by
 unfold jA3 txt;rw[jQs,jQs,jQt,jQt];omega
theorem jOf (h:Head)(b:BA):(jAl h b).size=b.size+6:=by
 unfold jAl;rw[jQs,jQs,jQt,jQt];omega
theorem jNE:∀es:List Ent,(∀e∈es,e.row.size<=50)->(bW (es.map jA3)).size<=56*es.length
 | [],_=>by show(0:Nat)<=_;omega
 | e::es,h=>by
  have h1:=jNE es fun x hx=>h x (by simp[hx])
  have h2:=h e (by simp);rw[cM,jIa,jQs,jT0,cG];omega
theorem qAg {H:BA->BA}{wide:Nat}(hH:∀b,(H b).size=wide)(hw:wide<=32)(tr:Trl)(t:Nd 0)(x:List (Kid 0))(h:rep 0 t x)(hf:jDp 0 x):(jBj H tr 0 t).size<=33+56*(av 0 x).length:=by
 obtain⟨h1,h2,h3⟩:=rep.leaf h
 show(jCY _ _ _ tr t).size<=_
 unfold jCY
 split
 ·rw[jJN,jQs,jQs,jQs,jQt,jQt,h2,h3];have h4:=jNE x fun e he=>(hf.rows e he).2
  have h5:List.length (α:=Ent) x=(av 0 x).length:=rfl;have h6:(bW ([]:List BA)).size=0:=rfl;rw[dO,h6];omega
 rw[jQs,jQt,jLh hH h.open];omega
theorem jTB:∀{n:Nat} {t:List (Kid n)},okT n t->t.length<=(av n t).length
 | 0,_,_=>nR
 | n+1,cs,h=>by
  show List.length cs<=(List.flatMap (av n) cs).length
  have:∀l:List (List (Kid n)),(∀c∈l,c∈(show List (List (Kid n)) from cs))->l.length<=(l.flatMap (av n)).length:=by
   intro l
   induction l with
   | nil=>intro _;simp
   | cons c r ih =>
    intro hl;have h2:=jQ0 h (hl c (by simp));have h3:=jTB h2.2;have h4:=ih fun x hx=>hl x (by simp[hx])
    rw[cK,cg,cG];omega
  exact this cs fun c hc=>hc
theorem jRV {H:BA->BA}{wide:Nat}(hH:∀b,(H b).size=wide)(hw:wide<=32)(tr:Trl):∀(n:Nat) (t:Nd n) (x:List (Kid n)),rep n t x->jDp n x->2<=x.length->(jBj H tr n t).size+14<=64*(av n x).length
 | 0,t,x,h,hf,h2=>by
  have h5:List.length (α:=Ent) x=(av 0 x).length:=rfl;obtain⟨g1,g2,g3⟩:=rep.leaf h
  show(jCY _ _ _ tr t).size+14<=_
  unfold jCY
  split
  ·rw[jJN,jQs,jQs,jQs,jQt,jQt,g2,g3];have h4:=jNE x fun e he=>(hf.rows e he).2
   have h6:(bW ([]:List BA)).size=0:=rfl;rw[dO,h6];omega
  ·rw[jQs,jQt,jLh hH h.open];omega
 | n+1,t,x,h,hf,h2=>by
  obtain⟨g1,g2,g3⟩:=rep.inner h;have ha:=jTB hf.kids
  show(jCY (aa n) (jBj H tr n) _ tr t).size+14<=_
  unfold jCY
  split
  ·rw[jJN,jQs,jQs,jQs,jQt,jQt,g2];have h6:(bW ([]:List BA)).size=0:=rfl;rw[dO,h6]
   have hl:∀(l:List (Nd n)) (cs:List (List (Kid n))),bM n l cs->(∀c∈cs,jDp n c/\2<=c.length)->(bW (l.map fun c=>jAl (aa n c) (jBj H tr n c))).size+8*cs.length<=64*(cs.flatMap (av n)).length:=by
    intro l
    induction l with
    | nil =>
     intro cs hr hc;cases cs with
     | nil=>show(0:Nat)+0<=_;omega
     | cons y cs=>have:=hr.len;simp at this
    | cons c l ih =>
     intro cs hr hc;cases cs with
     | nil=>have:=hr.len;simp at this
     | cons y cs =>
      obtain⟨k1,k2⟩:=bM.cons.1 hr;have h7:=ih cs k2 fun z hz=>hc z (by simp[hz])
      have h8:=hc y (by simp);have h9:=jRV hH hw tr n c y k1 h8.1 h8.2;rw[cM,jIa,jQs,jOf,cG,cK,cg];omega
   have h7:=hl (af.kids t) x g3 fun c hc=>hf.kid hc
   have h8:(List.flatMap (av n) (show List (List (Kid n)) from x)).length=(av (n+1) x).length:=rfl;have h9:List.length (α:=List (Kid n)) x=x.length:=rfl;have hb:(List.flatMap (av n) x).length=(av (n+1) x).length:=rfl;omega
  ·rw[jQs,jQt,jLh hH h.open];have h9:List.length (α:=List (Kid n)) x=x.length:=rfl;omega
theorem jRL {H:BA->BA}{wide:Nat}(hH:∀b,(H b).size=wide)(hw:wide<=32)(tr:Trl)(n:Nat)(t:Nd n)(x:List (Kid n))(h:rep n t x)(hf:jDp n x)(h2:n=0\/2<=x.length):(jBj H tr n t).size<=6000:=by
 have h3:=hf.few;rcases h2 with rfl | h2
 ·have:=qAg hH hw tr t x h hf
  omega
 have:=jRV hH hw tr n t x h hf h2
 omega
def jAM (wide:Nat)(text:BA):Option aj :=
 if 1<=wide/\wide<=32/\text.size<=6000 then
  (if jDA (aN wide text.size ⟨text,false⟩).2&&jFl text.size (aN wide text.size ⟨text,false⟩).1 then some ⟨text.size,(aN wide text.size ⟨text,false⟩).1⟩ else none)
 else none
def jBW (H:BA->BA)(wide:Nat)(root ha jAP proof:BA):BA×Bool :=
 match jAM wide proof with
 | none=>(ar,false)
 | some P =>
  if bj H P.d P.t≠root then(ar,false)
  else if(bI P ha ⟨false,[]⟩).2.2.lost=true\/(bI P ha ⟨false,[]⟩).1≠jAP then(ar,false)
  else(bj H (bI P ha ⟨false,[]⟩).2.1.d (bI P ha ⟨false,[]⟩).2.1.t,true)
theorem qCC (b:BA):b++ar=b:=by
 apply ey;simp[ar]
theorem jU0 {X:aj}{ha:BA}{tr:Trl}(h:(parse ha).1≠0):bI X ha tr=(jGS (parse ha).1,X,tr):=by
 unfold bI aL;rw[cE (by simpa using h)];rfl
end Sq
section
open Go.RowKit
theorem Tryz.jJJ:(Tryz.prog.info? 205).map (fun i=>(i.zero,i.size,i.bytes))=some (some (.agg #[.string ⟨#[]⟩,.int .i64 0]),2,24):=by kernel_rfl
def jCv (B:Nat)(w:World)(v:Value)(l:List Col):Prop:=w.ownsRow B 205 2 v l.length (l.flatMap Col.cells)
theorem jQ4 {ops:Array Oper}{rest:List Oper}{Q:Exit->Act->World->Prop}(hg:o.guard=none)(sl x:Operand)
  (ho:o.op=.call { callee:=.builtin .append,args:=#[sl,x],argTypes:=#[92,92] }) (B:Nat) (v:Value) (l:List Col) (hs:a.eval sl=v) (hb:jCv B w v l)
  (c:Col) (g cc:Nat) (hx:a.eval x=.slice (some ⟨g,0,none⟩) 1 cc) (ha:w.cell? ⟨g,0,none⟩=some (.string c.name)) (hc:w.cell? ⟨g,1,none⟩=some (.int .i64 c.kind)) (h1:l.length+1<=1000000) (hB:B<=w.heap.size)
  (h:∀v' w',jCv B w' v' (l++[c])->w.grownBy w' v.ownBlock->wpList Tryz.prog ops Q rest (a.put o.dst v') w'):wpList Tryz.prog ops Q (o::rest) a w:=by
 obtain⟨i0,hi,hj,hk,hn⟩:=cV Tryz.jJJ
 refine cT _ hg sl x 92 ho B 205 i0 _ 2 24 Tryz.underlying92 hi hj hk hn rfl (by decide) v l.length _ hs hb ⟨g,0,none⟩ 1 cc c.cells hx rfl (by
  intro j u hu;have ea:(⟨g,0,none⟩:Addr).add j=⟨g,j,none⟩:=by unfold Addr.add;split<;>simp_all
  rw[ea]
  match j,hu with
  | 0,hu=>simp[Col.cells] at hu;subst hu;exact ha
  | 1,hu=>simp[Col.cells] at hu;subst hu;exact hc
  | j+2,hu=>simp[Col.cells] at hu) (by intro u hu;simp[Col.cells] at hu;rcases hu with rfl | rfl<;>rfl) (by decide) (by unfold maxLen;omega) (by omega) hB _ rfl ?_
 intro g' cap w' hh hf _ _;refine h _ w' ?_ hf;unfold jCv;rw[cg,cN];simpa using hh
theorem jCv.jEj {l:List Col}(h:jCv B w v l)(hB:B<=b)(hb:Below w.heap.size w w'):jCv B w' v l :=
 jQp h fun g hg=>hb.block g (World.ownsRow.lt h g hg).2
theorem jGk {r:Rd}(h:bJ b w r)(hb:Below w.heap.size w w'):bJ b w' r:=(hb.block b (jQe h)).trans h
theorem bJ.grown {l:List Col}{r:Rd}(h:bJ b w r)(ho:jCv B w v l)(hg:w.grownBy w' v.ownBlock):bJ b w' r :=
 (hg.block b (jQe h) (fun e=>jQm ho h (by decide) e.symm)).trans h
theorem jCv.only {l:List Col}(h:jCv B w v l)(hb:w.heap[b]?=some (.cells c 105))(ho:jB4 b w w'):jCv B w' v l :=
 jQp h fun g hg=>ho.other g fun e=>jQm h hb (by decide) (by rw[hg,e])
theorem jOb (s:BA)(w:World) :
  Calls Tryz.prog 59 #[.string s] w fun e w'=>e=.returned (.agg #[.string s,.bool false])/\Below w.heap.size w w':=by
 go_enter Tryz.func59,Tryz.ntmps59;go_wp2;refine cp (v:=.agg #[.string s,.bool false]) (by simp[results,Tryz.results59,go_sem]) rfl ⟨rfl,?_⟩
 first
  | exact bA
  | exact cj (B:=w.heap.size) (cj (B:=w.heap.size) (bA) nR _) nR _
def jKv (w:World)(row:BA)(e:Ending)(w':World):Prop :=
 ∃cv,e=.returned (.tuple #[.string (match jBt row with | some x=>x.1 | none=>⟨#[]⟩),cv,.bool (jBt row).isSome])/\jCv w.heap.size w' cv (match jBt row with | some x=>x.2 | none=>[])/\Below w.heap.size w w'
theorem jXU (row:BA)(w:World)(hs:row.size<=1000):Calls Tryz.prog 106 #[.string row] w (jKv w row):=by
 have H1:Hid ((jAs row).1=jEm ⟨row,false⟩):=rfl;have H2:Hid ((jAs row).2.1=aF (jCG ⟨row,false⟩) 1):=rfl;have H3:Hid ((jAs row).2.2=takeN (jCG ⟨row,false⟩) 1):=rfl;go_enter Tryz.func106,Tryz.ntmps106;go_wp2_with fail;refine(jOb row _).mono ?_;rintro e w0 ⟨rfl,h7⟩;have hH:=h7.size;have hU:=hd h7;clear h7;have hS:bJ w0.heap.size (w0.alloc (.cells #[.string row,.bool false] 105)) ⟨row,false⟩:=dJ w0 _;have hL:=hd hS;clear hS;go_wp2_with fail;refine(jKR w0.heap.size ⟨row,false⟩ _ hL.o (by show row.size<=_;omega)).mono ?_;rintro e w1 ⟨rfl,He,Hb⟩;have hr:=jIW ⟨row,false⟩;have hM:=hd He;have hK:=hd Hb;clear He Hb;go_wp2_with fail;refine(jK9 w0.heap.size (jCG ⟨row,false⟩) 1 _ hM.o (cm hr (by show row.size<=_;omega)) (by decide)).mono ?_;rintro e w2 ⟨rfl,hu,Hc⟩;rw[show aF (jCG ⟨row,false⟩) ((1:Nat):Int)=(jAs row).2.1 from rfl,show jEm ⟨row,false⟩=(jAs row).1 from rfl];have hz:bJ w0.heap.size w2 (jAs row).2.2:=hu;have hw:=hd hz;have hV:=hd (hK.o.trans Hc);clear hu hz Hc hM hK hL;have hG:(jAs row).2.2.rest.size<=1000:=cm (jQo _ _) (cm hr hs);have hY:(jAs row).1.size<=1000:=cm (jKd _) hs;have HG:Hid (jEc row=(jGu (jAs row).1&&Decidable.decide (1<=(jAs row).2.1)&&Decidable.decide ((jAs row).2.1<=4))):=rfl;have HC:Hid (jCg row=if jEc row then jEJ (jAs row).2.1.toNat 0 (jAs row).2.2 [] else⟨[],(jAs row).2.2,false⟩):=rfl;have HT:Hid (jBt row=if(jCg row).bV&&jDA (jCg row).rd then some ((jAs row).1,(jCg row).cols) else none):=rfl;have hg:=HG.o;have hc:=HC.o;have ht:=HT.o;have hu:=hw.o;clear HG HC HT hw hr H1 H2 H3;generalize (jAs row).1=nm at *;generalize (jAs row).2.1=cnt at *;generalize (jAs row).2.2=rd at *;have HG:=hd hg;have HC:=hd hc
 have HT:=hd ht;have hw:=hd hu;have hZ:=jQe hu;have HZ:Hid (Below w.heap.size w w2):=hU.o.trans (((Below.refl w0.heap.size w0).alloc nR _).mono hH |>.trans (hV.o.below.mono hH));clear hg hc ht hu;go_wp2_with fail;refine(jT6 nm _ (by omega)).mono ?_;rintro e w3 ⟨rfl,Hh⟩;rw[Hh];clear Hh w3;have hg:=HG.o;obtain⟨b1,h6⟩:∃b,b=jGu nm:=⟨_,rfl⟩;rw[<-h6] at hg ⊢;clear h6 HG
 by_cases hgood:b1=true/\1<=cnt/\cnt<=4
 ·obtain⟨rfl,h1,h2⟩:=hgood
  have hJ:Hid (jCg row=jEJ cnt.toNat 0 rd []):=by
   show _=_;have hf:jEc row=true:=by rw[hg];simp[h1,h2]
   have hc:=HC.o;rw[hf] at hc;exact hc
  clear hg HC;have i1:decide (1<=cnt)=true:=by simpa using h1
  have i2:decide (cnt<=4)=true:=by simpa using h2
  go_wp2
  go_loopw [8,9,10] (fun gv cv i wr=>∃(g:Bool) (j:Nat) (acc:List Col) (r:Rd),gv=.bool g/\i=.int .i64 j/\j<=4/\acc.length<=j/\(g=true->(j:Int)<=cnt)/\r.rest.size<=1000/\jCv w.heap.size wr cv acc/\bJ w0.heap.size wr r/\Below w.heap.size w wr/\Hid (jCg row=if g then jEJ (cnt.toNat-j) j r acc else⟨acc,r,false⟩)) (fun _ _ i _=>5-(intOf i).toNat)
  case atStart=>exact⟨true,0,[],rd,rfl,rfl,by decide,nR,fun _=>by show(0:Int)<=cnt;omega,hG,cu _ _ _ _,hw.o,HZ.o,hJ.o⟩
  case round =>
   obtain⟨g,j,acc,r,rfl,rfl,Hn,Hl,h8,Hm,he,Ha,hb,HQ⟩:=hrel;clear hJ hw HZ hZ i1 i2;obtain⟨ao,Hk,rfl⟩:=jQa he;have h3:=jQe Ha;have hh:=hd he;have hB:=hd Ha;have HB:=hd hb;clear he Ha hb;cases g
   case false =>
    have HN:Hid (jBt row=none):=by
     show _=_;have hq:=HQ.o;simp only[dr,eD] at hq;rw[HT.o,hq];rfl
    clear HQ HT h8;go_wp2;go_ret3;exact⟨.slice none 0 0,by rw[HN.o];rfl,by rw[HN.o];exact cu _ _ _ _,HB.o⟩
   case true =>
    have hX:=h8 rfl;clear h8;have hq:=HQ.o;simp only[dT] at hq;clear HQ
    by_cases hjt:(j:Int)<cnt
    ·obtain⟨f,hf⟩:∃f,cnt.toNat-j=f+1:=⟨cnt.toNat-j-1,by omega⟩;have hR:cnt.toNat-(j+1)=f:=by omega
     rw[hf,jEJ] at hq;have HQ:=hd hq;have HF:=hd hR;have hD:=cm (jQo r 1) Hm;have hP:=cm (jIW (takeN r 1)) hD;have hQ:=cm (jKd (takeN r 1)) hD;have i3:decide ((j:Int)<cnt)=true:=by simpa using hjt
     clear hq hf hR;go_wp2_with fail;refine(jK9 w0.heap.size r 1 _ hB.o (by omega) (by decide)).mono ?_;rintro e w4 ⟨rfl,Hf,Hd⟩;have hN:=hd Hf;have hC:=hd Hd;clear Hf Hd;go_wp2_with fail;refine(jKR w0.heap.size (takeN r 1) _ hN.o (by omega)).mono ?_;rintro e w5 ⟨rfl,Hg,h9⟩;have he:=hh.o.only hB.o (hC.o.trans h9);have hb:=HB.o.trans ((hC.o.trans h9).below.mono hH);have hp:bJ w0.heap.size w5 (jHj r):=Hg;have hj:(jHj r).rest.size<=1000:=hP;have hE:(jGt r).name.size<=1000:=hQ;rw[show aF r 1=(jGt r).kind from rfl,show jEm (takeN r 1)=(jGt r).name from rfl];have hq:=HQ.o;clear HQ hh hB HB hN hC Hg h9 hD hP hQ;generalize jGt r=c at *;generalize jHj r=r' at *;obtain⟨cn,ck⟩:=c;simp only at hE ⊢;have hh:=hd he;have HB:=hd hb;have hW:=hd hp;have HQ:=hd hq;have h0:=jQe hp;have hI:Hid (jDD ⟨cn,ck⟩ j=(jGu cn&&(ck==0 || (ck==1&&Decidable.decide (0<j))))):=rfl;clear he hb hp hq;go_wp2_with fail;refine(jT6 cn _ (by omega)).mono ?_;rintro e w6 ⟨rfl,Hj⟩;rw[Hj];clear Hj w6;have hi:=hI.o;obtain⟨b1,h6⟩:∃b,b=jGu cn:=⟨_,rfl⟩;rw[<-h6] at hi ⊢;have hF:b1=false\/(b1=true/\ck=0)\/(b1=true/\ck=1/\0<j)\/(b1=true/\ck=1/\j=0)\/(b1=true/\ck≠0/\ck≠1):=by cases b1<;>simp<;>omega
     clear h6 hI;have ha:=hd (hh.o.jEj (by omega) ((Below.refl w5.heap.size w5).alloc nR (.cells #[.string cn,.int .i64 ck] 205)));have hx:Hid (bJ w0.heap.size (w5.alloc (.cells #[.string cn,.int .i64 ck] 205)) r'):=jGk hW.o ((Below.refl w5.heap.size w5).alloc nR _);rcases hF with rfl | ⟨rfl,rfl⟩ | ⟨rfl,rfl,hj0⟩ | ⟨rfl,rfl,rfl⟩ | ⟨rfl,hk0,hk1⟩
     ·have hm:Hid (jDD ⟨cn,ck⟩ j=false):=by show _=_;rw[hi];simp
      clear hi;go_wp2_with (at_builtin;refine jQ4 rfl (.tmp 51) (.tmp 55) rfl w.heap.size _ acc rfl ha.o ⟨cn,ck⟩ w5.heap.size 1 rfl (by simp[go_sem]) (by simp[go_sem]) (by omega) (by simp;omega) ?_;intro v7 w7 h4 h5;have hn:=hd h4;have hl:=hd (Tch.aO (pb:=w.heap.size) h5 (fun k hk=>(World.ownsRow.lt ha.o k hk).1) (by simp;omega));have ho:=hd (hx.o.grown ha.o h5);clear h4 h5);go_roundw
      case rel =>
       refine⟨false,j+1,acc++[⟨cn,ck⟩],r',rfl,by go_num,by omega,by rw[cg];show acc.length+1<=_;omega,(fun h=>by cases h),hj,hn.o,ho.o,HB.o.trans ((cS (B':=w.heap.size) (bA) (by omega)).trans hl.o),?_⟩;show _=_;rw[HQ.o,hm.o]
       try rfl
      case measure=>(simp[intOf];try omega)
     ·have hm:Hid (jDD ⟨cn,0⟩ j=true):=by show _=_;rw[hi];simp
      clear hi;go_wp2_with (at_builtin;refine jQ4 rfl (.tmp 51) (.tmp 55) rfl w.heap.size _ acc rfl ha.o ⟨cn,0⟩ w5.heap.size 1 rfl (by simp[go_sem]) (by simp[go_sem]) (by omega) (by simp;omega) ?_;intro v7 w7 h4 h5;have hn:=hd h4;have hl:=hd (Tch.aO (pb:=w.heap.size) h5 (fun k hk=>(World.ownsRow.lt ha.o k hk).1) (by simp;omega));have ho:=hd (hx.o.grown ha.o h5);clear h4 h5);go_roundw
      case rel =>
       refine⟨true,j+1,acc++[⟨cn,0⟩],r',rfl,by go_num,by omega,by rw[cg];show acc.length+1<=_;omega,(fun h=>by omega),hj,hn.o,ho.o,HB.o.trans ((cS (B':=w.heap.size) (bA) (by omega)).trans hl.o),?_⟩;show _=_;rw[HQ.o,hm.o,HF.o]
       try rfl
      case measure=>(simp[intOf];try omega)
     ·have hm:Hid (jDD ⟨cn,1⟩ j=true):=by show _=_;rw[hi];simp[hj0]
      clear hi;have i4:decide ((0:Int)<(j:Int))=true:=by simpa using hj0
      go_wp2_with (at_builtin;refine jQ4 rfl (.tmp 51) (.tmp 55) rfl w.heap.size _ acc rfl ha.o ⟨cn,1⟩ w5.heap.size 1 rfl (by simp[go_sem]) (by simp[go_sem]) (by omega) (by simp;omega) ?_;intro v7 w7 h4 h5;have hn:=hd h4;have hl:=hd (Tch.aO (pb:=w.heap.size) h5 (fun k hk=>(World.ownsRow.lt ha.o k hk).1) (by simp;omega));have ho:=hd (hx.o.grown ha.o h5);clear h4 h5);go_roundw
      case rel =>
       refine⟨true,j+1,acc++[⟨cn,1⟩],r',rfl,by go_num,by omega,by rw[cg];show acc.length+1<=_;omega,(fun h=>by omega),hj,hn.o,ho.o,HB.o.trans ((cS (B':=w.heap.size) (bA) (by omega)).trans hl.o),?_⟩;show _=_;rw[HQ.o,hm.o,HF.o]
       try rfl
      case measure=>(simp[intOf];try omega)
     ·have hm:Hid (jDD ⟨cn,1⟩ 0=false):=by show _=_;rw[hi];simp
      clear hi;go_wp2_with (at_builtin;refine jQ4 rfl (.tmp 51) (.tmp 55) rfl w.heap.size _ acc rfl ha.o ⟨cn,1⟩ w5.heap.size 1 rfl (by simp[go_sem]) (by simp[go_sem]) (by omega) (by simp;omega) ?_;intro v7 w7 h4 h5;have hn:=hd h4;have hl:=hd (Tch.aO (pb:=w.heap.size) h5 (fun k hk=>(World.ownsRow.lt ha.o k hk).1) (by simp;omega));have ho:=hd (hx.o.grown ha.o h5);clear h4 h5);go_roundw
      case rel =>
       refine⟨false,0+1,acc++[⟨cn,1⟩],r',rfl,by go_num,by omega,by rw[cg];show acc.length+1<=_;omega,(fun h=>by cases h),hj,hn.o,ho.o,HB.o.trans ((cS (B':=w.heap.size) (bA) (by omega)).trans hl.o),?_⟩;show _=_;rw[HQ.o,hm.o]
       try rfl
      case measure=>(simp[intOf];try omega)
     have hm:Hid (jDD ⟨cn,ck⟩ j=false):=by show _=_;rw[hi];simp[hk0,hk1]
     clear hi;have i4:(ck==0)=false:=by simpa using hk0
     have i5:(ck==1)=false:=by simpa using hk1
     go_wp2_with (at_builtin;refine jQ4 rfl (.tmp 51) (.tmp 55) rfl w.heap.size _ acc rfl ha.o ⟨cn,ck⟩ w5.heap.size 1 rfl (by simp[go_sem]) (by simp[go_sem]) (by omega) (by simp;omega) ?_;intro v7 w7 h4 h5;have hn:=hd h4;have hl:=hd (Tch.aO (pb:=w.heap.size) h5 (fun k hk=>(World.ownsRow.lt ha.o k hk).1) (by simp;omega));have ho:=hd (hx.o.grown ha.o h5);clear h4 h5);go_roundw
     case rel =>
      refine⟨false,j+1,acc++[⟨cn,ck⟩],r',rfl,by go_num,by omega,by rw[cg];show acc.length+1<=_;omega,(fun h=>by cases h),hj,hn.o,ho.o,HB.o.trans ((cS (B':=w.heap.size) (bA) (by omega)).trans hl.o),?_⟩;show _=_;rw[HQ.o,hm.o]
      try rfl
     case measure=>(simp[intOf];try omega)
    have hy:cnt.toNat-j=0:=by omega
    rw[hy,jEJ] at hq;have hT:=HT.o;rw[hq] at hT;simp only[Bool.true_and] at hT;have hO:=hd hT;have i3:decide ((j:Int)<cnt)=false:=by simpa using hjt
    clear HT hq hT hy;go_wp2_with fail;refine(jOd w0.heap.size r _ hB.o).mono ?_;rintro e w4 ⟨rfl,Hi⟩;rw[Hi];clear Hi w4;obtain⟨b1,h6⟩:∃b,b=jDA r:=⟨_,rfl⟩;have hA:=hO.o;rw[<-h6] at hA ⊢;clear h6 hO;cases b1
    case false =>
     have HN:Hid (jBt row=none):=hA;clear hA;go_wp2;go_ret3;exact⟨.slice none 0 0,by rw[HN.o];rfl,by rw[HN.o];exact cu _ _ _ _,HB.o⟩
    case true =>
     have HN:Hid (jBt row=some (nm,acc)):=hA;clear hA;go_wp2;go_ret3;exact⟨_,by rw[HN.o];rfl,by rw[HN.o];exact hh.o,HB.o⟩
 have hv:Hid (jBt row=none):=by
  show _=_;have hf:jEc row=false:=by rw[hg];cases b1<;>simp at hgood ⊢;intro h;have:=hgood h;omega
  have hc:=HC.o;rw[hf] at hc;rw[HT.o,hc];rfl
 clear hg HC HT;have hF:b1=false\/(b1=true/\¬1<=cnt)\/(b1=true/\1<=cnt/\¬cnt<=4):=by cases b1<;>simp at hgood ⊢;omega
 clear hgood;rcases hF with rfl | ⟨rfl,h1⟩ | ⟨rfl,h1,h2⟩
 all_goals
  first
   | have i1:decide (1<=cnt)=false:=by simpa using h1
   | (
     have i1:decide (1<=cnt)=true:=by simpa using h1
     have i2:decide (cnt<=4)=false:=by simpa using h2)
   | skip
  go_wp2
  go_loopw [8,9,10,11,12] (fun gv _ _ _ _ wr=>gv=.bool false/\wr=w2) (fun _ _ _ _ _ _=>0)
  case atStart=>exact⟨rfl,rfl⟩
  case round =>
   obtain⟨rfl,rfl⟩:=hrel;go_wp2;go_ret3;exact⟨.slice none 0 0,by rw[hv.o];rfl,by rw[hv.o];exact cu _ _ _ _,HZ.o⟩
theorem Tryz.jJL:(Tryz.prog.info? 208).map (fun i=>(i.zero,i.size,i.bytes))=some (some (.agg #[.int .i64 0,.int .i64 0,.string ⟨#[]⟩]),3,32):=by kernel_rfl
def jBN (B:Nat)(w:World)(v:Value)(l:List Val):Prop:=w.ownsRow B 208 3 v l.length (l.flatMap Val.cells)
theorem jKH {ops:Array Oper}{rest:List Oper}{Q:Exit->Act->World->Prop}(hh:o.guard=none)(sl x:Operand)
  (ho:o.op=.call { callee:=.builtin .append,args:=#[sl,x],argTypes:=#[113,113] }) (B:Nat) (v:Value) (l:List Val) (hs:a.eval sl=v) (hb:jBN B w v l)
  (c:Val) (g cc:Nat) (hx:a.eval x=.slice (some ⟨g,0,none⟩) 1 cc) (ha:w.cell? ⟨g,0,none⟩=some (.int .i64 c.kind)) (hc:w.cell? ⟨g,1,none⟩=some (.int .i64 c.number)) (hf:w.cell? ⟨g,2,none⟩=some (.string c.text)) (h1:l.length+1<=1000000) (hB:B<=w.heap.size)
  (h:∀v' w',jBN B w' v' (l++[c])->w.grownBy w' v.ownBlock->wpList Tryz.prog ops Q rest (a.put o.dst v') w'):wpList Tryz.prog ops Q (o::rest) a w:=by
 obtain⟨i0,hi,hk,hn,hp⟩:=cV Tryz.jJL
 refine cT _ hh sl x 113 ho B 208 i0 _ 3 32 Tryz.underlying113 hi hk hn hp rfl (by decide) v l.length _ hs hb ⟨g,0,none⟩ 1 cc c.cells hx rfl (by
  intro j u hu;have ea:(⟨g,0,none⟩:Addr).add j=⟨g,j,none⟩:=by unfold Addr.add;split<;>simp_all
  rw[ea]
  match j,hu with
  | 0,hu=>simp[Val.cells] at hu;subst hu;exact ha
  | 1,hu=>simp[Val.cells] at hu;subst hu;exact hc
  | 2,hu=>simp[Val.cells] at hu;subst hu;exact hf
  | j+3,hu=>simp[Val.cells] at hu) (by intro u hu;simp[Val.cells] at hu;rcases hu with rfl | rfl | rfl<;>rfl) (by decide) (by unfold maxLen;omega) (by omega) hB _ rfl ?_
 intro g' cap w' hj hg _ _;refine h _ w' ?_ hg;unfold jBN;rw[cg,cN];simpa using hj
theorem jBN.only {l:List Val}(h:jBN B w v l)(hb:w.heap[b]?=some (.cells c 105))(ho:jB4 b w w'):jBN B w' v l :=
 jQp h fun g hg=>ho.other g fun e=>jQm h hb (by decide) (by rw[hg,e])
theorem jBN.jEj {l:List Val}(h:jBN B w v l)(hb:Below w.heap.size w w'):jBN B w' v l :=
 jQp h fun g hg=>hb.block g (World.ownsRow.lt h g hg).2
theorem bJ.jGT {l:List Val}{r:Rd}(h:bJ b w r)(ho:jBN B w v l)(hg:w.grownBy w' v.ownBlock):bJ b w' r :=
 (hg.block b (jQe h) (fun e=>jQm ho h (by decide) e.symm)).trans h
theorem Sq.jXN (cols:List Col)(k:Nat)(h:k<cols.length)(x:jDm):jB5 (cols.drop k) x=jB5 (cols.drop (k+1)) (jAJ cols[k] x):=by
 unfold jB5;rw[cr h,de]
theorem Sq.qCQ (r:Rd):0<=aF r 4/\aF r 4<4294967296:=by
 unfold aF;have h1:=Sq.jJn (br r 4).data.toList;have h2:(br r 4).data.toList.length<=4:=(Sq.jHW r 4).2
 have h3:(256:Int)^(br r 4).data.toList.length<=4294967296:=by
  have:=dH (n:=256) (by decide) h2
  have e:(256:Int)^(br r 4).data.toList.length=((256^(br r 4).data.toList.length:Nat):Int):=by simp
  rw[e];exact Int.ofNat_le.2 (cm this (by decide))
 omega
def jGz (w:World)(r:Option (List Val))(e:Ending)(w':World):Prop :=
 ∃v,e=.returned (.tuple #[v,.bool r.isSome])/\jBN w.heap.size w' v (r.getD [])/\Below w.heap.size w w'
theorem jXV (cols:List Col)(cv:Value)(key:Int)(row:BA)(w:World)(hc:aX w cv cols)(hn:cols.length<=1000)(hs:row.size<=1000):Calls Tryz.prog 158 #[cv,.int .i64 key,.string row] w (jGz w (jBs cols key row)):=by
 obtain⟨co,Hc,rfl⟩:=jQa hc.1;have HC:=hd hc;clear hc;have HT:Hid (jBs cols key row=if(jBT cols key row).bV&&jDA (jBT cols key row).rd then some (jBT cols key row).cells else none):=rfl;have HR:Hid (jBT cols key row=jB5 (cols.drop 1) ⟨[⟨0,key,⟨#[]⟩⟩],⟨row,false⟩,true⟩):=rfl;go_enter Tryz.func158,Tryz.ntmps158;go_wp2_with fail;refine(jOb row _).mono ?_;rintro e w0 ⟨rfl,h7⟩;have hE:=h7.size;have hQ:=hd h7;clear h7;have hO:bJ w0.heap.size (w0.alloc (.cells #[.string row,.bool false] 105)) ⟨row,false⟩:=dJ w0 _;have hI:=hd hO;clear hO;go_wp2_with fail;refine(jIL key _).mono ?_;rintro e w1 ⟨rfl,h4⟩;have hD:=jGk hI.o h4;have hX:=jQe hD;have hz:Below w.heap.size w w1:=hQ.o.trans ((((Below.refl w0.heap.size w0).alloc nR _).trans (h4.mono (by simp))).mono hE);have hP:=jGk hD ((Below.refl w1.heap.size w1).alloc nR (.cells #[.int .i64 0,.int .i64 key,.string ⟨#[]⟩] 208));have hM:=hz.trans (cS (B':=w.heap.size) ((Below.refl w1.heap.size w1).alloc nR (.cells #[.int .i64 0,.int .i64 key,.string ⟨#[]⟩] 208)) (by omega));have hN:jBN w.heap.size (w1.alloc (.cells #[.int .i64 0,.int .i64 key,.string ⟨#[]⟩] 208)) (.slice (some ⟨w1.heap.size,0,none⟩) 1 1) [⟨0,key,⟨#[]⟩⟩]:=jIb w1 _ _ _ 1 3 _ rfl rfl (by decide) (by omega);have hJ:=hd hP;have hG:=hd hM;have hH:=hd hN;clear h4 hD hz hP hM hN hI;go_wp2
 go_loopw [9,10,11] (fun gv v i wr=>∃(k:Nat) (x:jDm),gv=.bool x.bV/\i=.int .i64 k/\k<=1001/\1<=k/\x.cells.length<=k/\x.rd.rest.size<=1000/\jBN w.heap.size wr v x.cells/\bJ w0.heap.size wr x.rd/\Below w.heap.size w wr/\Hid (jBT cols key row=jB5 (cols.drop k) x)) (fun _ _ i _=>1002-(intOf i).toNat)
 case atStart=>exact⟨1,_,rfl,rfl,by decide,by decide,nR,hs,hH.o,hJ.o,hG.o,HR.o⟩
 case round =>
  obtain⟨k,x,rfl,rfl,hk,He,Hd,h6,h1,h5,hb,HQ⟩:=hrel;obtain⟨xc,xr,xg⟩:=x;simp only at Hd h6 h1 h5 ⊢;clear HR hJ hG hH;obtain⟨ao,Ha,rfl⟩:=jQa h1;have hW:=jQe h5;have hh:=hd h1;have hu:=hd h5;have HB:=hd hb;clear h1 h5
  by_cases hkt:k<cols.length
  ·obtain⟨g,Hb,hv,hg,h8⟩:=jCc (f:=Col.cells) (fun _=>rfl) (HC.o.below hb).1 k hkt;obtain⟨rfl,-,rfl⟩:=sI hv;have c1:=h8 1 (.int .i64 cols[k].kind) (by decide) rfl;have hq:=HQ.o;rw[Sq.jXN cols k hkt] at hq;clear h8 HQ hb;generalize cols[k]=c at *;obtain⟨cn,ck⟩:=c;simp only at c1;have HQ:=hd hq;have i1:(k:Int)<(cols.length:Int):=by omega
   have i2:¬((cols.length:Int)<=(k:Int)):=by omega
   have i0:¬((k:Int)<0):=by omega
   clear hq
   by_cases hk2:ck=1
   ·subst hk2;have hf:Hid (jAJ ⟨cn,1⟩ ⟨xc,xr,xg⟩=⟨xc++[⟨1,0,jEm xr⟩],jCG xr,xg&&Decidable.decide ((jEm xr).size<=12)⟩):=rfl;have hA:=cm (jIW xr) h6;have hV:=cm (jKd xr) h6;go_wp2_with fail;refine(jKR w0.heap.size xr _ hu.o (by omega)).mono ?_;rintro e w4 ⟨rfl,h2,h3⟩;have ho:=hh.o.only hu.o h3;have hb:=HB.o.trans (h3.below.mono hE);have hB:=hf.o;clear hf hh hu HB h3;generalize jEm xr=tv at *;generalize jCG xr=tr at *;have hf:=hd hB;have hy:=hd h2;have hx:=hd ho;have hw:=hd hb;have hU:=jQe h2;clear hB h2 ho hb;have hS:xg=false\/(xg=true/\tv.size<=12)\/(xg=true/\¬tv.size<=12):=by cases xg<;>simp;omega
    rcases hS with rfl | ⟨rfl,h12⟩ | ⟨rfl,h12⟩
    ·have he:Hid (jAJ ⟨cn,1⟩ ⟨xc,xr,false⟩=⟨xc++[⟨1,0,tv⟩],tr,false⟩):=by show _=_;rw[hf.o];rfl
     clear hf;go_wp2_with fail;refine(jKT tv _).mono ?_;rintro e w5 ⟨rfl,hZ⟩;have hj:=jGk (jGk hy.o hZ) ((Below.refl w5.heap.size w5).alloc nR (.cells #[.int .i64 1,.int .i64 0,.string tv] 208));have hi:=(hx.o.jEj hZ).jEj ((Below.refl w5.heap.size w5).alloc nR (.cells #[.int .i64 1,.int .i64 0,.string tv] 208));have hF:=hZ.size;have hl:=hd (hw.o.trans ((hZ.mono (B':=w.heap.size) (by omega)).trans (cS (B':=w.heap.size) ((Below.refl w5.heap.size w5).alloc nR (.cells #[.int .i64 1,.int .i64 0,.string tv] 208)) (by omega))));have hr:=hd hj;have ha:=hd hi;clear hZ hj hi;go_wp2_with (at_builtin;refine jKH rfl (.tmp 38) (.tmp 41) rfl w.heap.size _ xc rfl ha.o ⟨1,0,tv⟩ w5.heap.size 1 rfl (by simp[go_sem]) (by simp[go_sem]) (by simp[go_sem]) (by omega) (by simp;omega) ?_;intro v7 w7 hY h0;have hp:=hd hY;have hm:=hd (Tch.aO (pb:=w.heap.size) h0 (fun k hk=>(World.ownsRow.lt ha.o k hk).1) (by simp;omega));have ht:=hd (hr.o.jGT ha.o h0);clear hY h0);go_roundw
     case rel =>
      exact⟨k+1,⟨xc++[⟨1,0,tv⟩],tr,false⟩,rfl,by go_num,by omega,by omega,by rw[cg];show xc.length+1<=_;omega,hA,hp.o,ht.o,hl.o.trans hm.o,by show _=_;rw[HQ.o,he.o]⟩
     case measure=>(simp[intOf];try omega)
    ·have he:Hid (jAJ ⟨cn,1⟩ ⟨xc,xr,true⟩=⟨xc++[⟨1,0,tv⟩],tr,true⟩):=by show _=_;rw[hf.o];simp[h12]
     have i3:decide ((tv.size:Int)<=12)=true:=by simp;omega
     clear hf;go_wp2_with fail;refine(jKT tv _).mono ?_;rintro e w5 ⟨rfl,hZ⟩;have hj:=jGk (jGk hy.o hZ) ((Below.refl w5.heap.size w5).alloc nR (.cells #[.int .i64 1,.int .i64 0,.string tv] 208));have hi:=(hx.o.jEj hZ).jEj ((Below.refl w5.heap.size w5).alloc nR (.cells #[.int .i64 1,.int .i64 0,.string tv] 208));have hF:=hZ.size;have hl:=hd (hw.o.trans ((hZ.mono (B':=w.heap.size) (by omega)).trans (cS (B':=w.heap.size) ((Below.refl w5.heap.size w5).alloc nR (.cells #[.int .i64 1,.int .i64 0,.string tv] 208)) (by omega))));have hr:=hd hj;have ha:=hd hi;clear hZ hj hi;go_wp2_with (at_builtin;refine jKH rfl (.tmp 38) (.tmp 41) rfl w.heap.size _ xc rfl ha.o ⟨1,0,tv⟩ w5.heap.size 1 rfl (by simp[go_sem]) (by simp[go_sem]) (by simp[go_sem]) (by omega) (by simp;omega) ?_;intro v7 w7 hY h0;have hp:=hd hY;have hm:=hd (Tch.aO (pb:=w.heap.size) h0 (fun k hk=>(World.ownsRow.lt ha.o k hk).1) (by simp;omega));have ht:=hd (hr.o.jGT ha.o h0);clear hY h0);go_roundw
     case rel =>
      exact⟨k+1,⟨xc++[⟨1,0,tv⟩],tr,true⟩,rfl,by go_num,by omega,by omega,by rw[cg];show xc.length+1<=_;omega,hA,hp.o,ht.o,hl.o.trans hm.o,by show _=_;rw[HQ.o,he.o]⟩
     case measure=>(simp[intOf];try omega)
    have he:Hid (jAJ ⟨cn,1⟩ ⟨xc,xr,true⟩=⟨xc++[⟨1,0,tv⟩],tr,false⟩):=by show _=_;rw[hf.o];simp;omega
    have i3:decide ((tv.size:Int)<=12)=false:=by simp;omega
    clear hf;go_wp2_with fail;refine(jKT tv _).mono ?_;rintro e w5 ⟨rfl,hZ⟩;have hj:=jGk (jGk hy.o hZ) ((Below.refl w5.heap.size w5).alloc nR (.cells #[.int .i64 1,.int .i64 0,.string tv] 208));have hi:=(hx.o.jEj hZ).jEj ((Below.refl w5.heap.size w5).alloc nR (.cells #[.int .i64 1,.int .i64 0,.string tv] 208));have hF:=hZ.size;have hl:=hd (hw.o.trans ((hZ.mono (B':=w.heap.size) (by omega)).trans (cS (B':=w.heap.size) ((Below.refl w5.heap.size w5).alloc nR (.cells #[.int .i64 1,.int .i64 0,.string tv] 208)) (by omega))));have hr:=hd hj;have ha:=hd hi;clear hZ hj hi;go_wp2_with (at_builtin;refine jKH rfl (.tmp 38) (.tmp 41) rfl w.heap.size _ xc rfl ha.o ⟨1,0,tv⟩ w5.heap.size 1 rfl (by simp[go_sem]) (by simp[go_sem]) (by simp[go_sem]) (by omega) (by simp;omega) ?_;intro v7 w7 hY h0;have hp:=hd hY;have hm:=hd (Tch.aO (pb:=w.heap.size) h0 (fun k hk=>(World.ownsRow.lt ha.o k hk).1) (by simp;omega));have ht:=hd (hr.o.jGT ha.o h0);clear hY h0);go_roundw
    case rel =>
     exact⟨k+1,⟨xc++[⟨1,0,tv⟩],tr,false⟩,rfl,by go_num,by omega,by omega,by rw[cg];show xc.length+1<=_;omega,hA,hp.o,ht.o,hl.o.trans hm.o,by show _=_;rw[HQ.o,he.o]⟩
    case measure=>(simp[intOf];try omega)
   have hf:Hid (jAJ ⟨cn,ck⟩ ⟨xc,xr,xg⟩=⟨xc++[⟨0,aF xr 4-2147483648,⟨#[]⟩⟩],takeN xr 4,xg⟩):=by
    show _=_;unfold jAJ;rw[cy (by simpa using hk2)];rfl
   have hA:=cm (jQo xr 4) h6;have hR:=Sq.qCQ xr;have i3:(ck==1)=false:=by simpa using hk2
   go_wp2_with fail;refine(jK9 w0.heap.size xr 4 _ hu.o (by omega) (by decide)).mono ?_;rintro e w4 ⟨rfl,h2,h3⟩;have ho:=hh.o.only hu.o h3;have hb:=HB.o.trans (h3.below.mono hE);have hB:=hf.o;rw[show aF xr ((4:Nat):Int)=aF xr 4 from rfl];rw[show takeN xr ((4:Nat):Int)=takeN xr 4 from rfl] at h2;clear hf hh hu HB h3;generalize aF xr 4=nv at *;generalize takeN xr 4=tr at *;obtain⟨Hf,Hg⟩:=hR;have he:=hd hB;have hy:=hd h2;have hx:=hd ho;have hw:=hd hb;have hU:=jQe h2;clear hB h2 ho hb
   go_wp2_with fail;refine(jIL (nv-2147483648) _).mono ?_;rintro e w5 ⟨rfl,hZ⟩;have hj:=jGk (jGk hy.o hZ) ((Below.refl w5.heap.size w5).alloc nR (.cells #[.int .i64 0,.int .i64 (nv-2147483648),.string ⟨#[]⟩] 208));have hi:=(hx.o.jEj hZ).jEj ((Below.refl w5.heap.size w5).alloc nR (.cells #[.int .i64 0,.int .i64 (nv-2147483648),.string ⟨#[]⟩] 208));have hF:=hZ.size;have hl:=hd (hw.o.trans ((hZ.mono (B':=w.heap.size) (by omega)).trans (cS (B':=w.heap.size) ((Below.refl w5.heap.size w5).alloc nR (.cells #[.int .i64 0,.int .i64 (nv-2147483648),.string ⟨#[]⟩] 208)) (by omega))));have hr:=hd hj;have ha:=hd hi;clear hZ hj hi;go_wp2_with (at_builtin;refine jKH rfl (.tmp 44) (.tmp 48) rfl w.heap.size _ xc rfl ha.o ⟨0,(nv-2147483648),⟨#[]⟩⟩ w5.heap.size 1 rfl (by simp[go_sem]) (by simp[go_sem]) (by simp[go_sem]) (by omega) (by simp;omega) ?_;intro v7 w7 hY h0;have hp:=hd hY;have hm:=hd (Tch.aO (pb:=w.heap.size) h0 (fun k hk=>(World.ownsRow.lt ha.o k hk).1) (by simp;omega));have ht:=hd (hr.o.jGT ha.o h0);clear hY h0);go_roundw
   case rel =>
    exact⟨k+1,⟨xc++[⟨0,(nv-2147483648),⟨#[]⟩⟩],tr,xg⟩,rfl,by go_num,by omega,by omega,by rw[cg];show xc.length+1<=_;omega,hA,hp.o,ht.o,hl.o.trans hm.o,by show _=_;rw[HQ.o,he.o]⟩
   case measure=>(simp[intOf];try omega)
  have hq:=HQ.o;rw[cD (by omega)] at hq;have hT:=HT.o;rw[hq] at hT;have i1:¬((k:Int)<(cols.length:Int)):=by omega
  clear HQ hq HT hb;cases xg
  case false =>
   have HN:Hid (jBs cols key row=none):=hT;clear hT;go_wp2;go_ret2;exact⟨.slice none 0 0,by rw[HN.o];rfl,by rw[HN.o];exact cu _ _ _ _,HB.o⟩
  case true =>
   have hL:jBs cols key row=if jDA xr then some xc else none:=hT
   have hK:=hd hL;clear hT hL;go_wp2_with fail;refine(jOd w0.heap.size xr _ hu.o).mono ?_;rintro e w4 ⟨rfl,h9⟩;rw[h9];clear h9 w4;obtain⟨b1,h4⟩:∃b,b=jDA xr:=⟨_,rfl⟩;have hC:=hK.o;rw[<-h4] at hC ⊢;clear h4 hK;cases b1
   case false =>
    have HN:Hid (jBs cols key row=none):=hC;clear hC;go_wp2;go_ret2;exact⟨.slice none 0 0,by rw[HN.o];rfl,by rw[HN.o];exact cu _ _ _ _,HB.o⟩
   case true =>
    have HN:Hid (jBs cols key row=some xc):=hC;clear hC;go_wp2;go_ret2;exact⟨_,by rw[HN.o];rfl,by rw[HN.o];exact hh.o,HB.o⟩
theorem jI9 (t k:Int)(w:World)(hc:0<=t)(hf:t<=100000)(ha:-100000000000<=k)(hb:k<=100000000000) :
  Calls Tryz.prog 104 #[.int .i64 t,.int .i64 k] w fun e w'=>e=.returned (.int .i64 (Sq.placeOf t k))/\w'=w:=by
 have HE:Hid (Sq.placeOf t k=t*4294967296+k+2147483648):=rfl;go_enter Tryz.func104,Tryz.ntmps104;go_wp2;go_ret;exact⟨by rw[HE.o];go_num,rfl⟩
theorem jR4 (p:Int)(w:World)(hp:0<=p) :
  Calls Tryz.prog 105 #[.int .i64 p] w fun e w'=>e=.returned (.int .i64 (jCu p))/\w'=w:=by
 have HE:Hid (jCu p=HMod.hMod p 4294967296-2147483648):=rfl;go_enter Tryz.func105,Tryz.ntmps105;go_wp2;go_ret;exact⟨by rw[HE.o];go_num,rfl⟩
theorem Sq.jX6 (l:List Val)(k:Nat)(h:k<l.length)(b:BA):jFr b (l.drop k)=jFr (b++jB1 l[k]) (l.drop (k+1)):=by
 unfold jFr;rw[cr h,de]
theorem Sq.jX7 (l:List Col)(k:Nat)(h:k<l.length)(b:BA):jFq b (l.drop k)=jFq (b++jCT l[k]) (l.drop (k+1)):=by
 unfold jFq;rw[cr h,de]
theorem jXZ (l:List Val)(lv:Value)(w:World)(h:w.ownsRow 0 208 3 lv l.length (l.flatMap Val.cells))(hl:l.length<=1000)(hs:∀v∈l,v.text.size<=1000/\-100000000000<=v.number/\v.number<=100000000000) :
  Calls Tryz.prog 127 #[lv] w fun e w'=>e=.returned (.string (jAu l))/\Below w.heap.size w w':=by
 obtain⟨ao,hr,rfl⟩:=jQa h;have H:=hd h;have HS:=hd hs;have HE:Hid (jAu l=jFr ⟨#[]⟩ (l.drop 1)):=rfl;clear h hs;go_enter Tryz.func127,Tryz.ntmps127;go_wp2
 go_loopw [3,4] (fun bv i wr=>∃(k:Nat) (b:BA),bv=.string b/\i=.int .i64 k/\k<=1001/\b.size<=2000*k/\Below w.heap.size w wr/\Hid (jAu l=jFr b (l.drop k))) (fun _ i _=>1002-(intOf i).toNat)
 case atStart=>exact⟨1,⟨#[]⟩,rfl,rfl,by decide,by decide,bR,HE⟩
 case round =>
  obtain⟨k,b,rfl,rfl,hk,hx,hb,HQ⟩:=hrel;have hn:=hb.size;have HB:=hd hb
  by_cases hkt:k<l.length
  ·obtain⟨g,ht,hv,hg,hp⟩:=jCc (f:=Val.cells) (fun _=>rfl) (jQh H.o hb) k hkt;obtain⟨rfl,-,rfl⟩:=sI hv;have c0:=hp 0 (.int .i64 l[k].kind) (by decide) rfl;have c1:=hp 1 (.int .i64 l[k].number) (by decide) rfl;have c2:=hp 2 (.string l[k].text) (by decide) rfl;have hm:=HS.o l[k] (cJ hkt);have hq:=HQ.o;rw[Sq.jX6 l k hkt] at hq;clear hp HQ hb;generalize l[k]=x at *;obtain⟨xk,xn,xt⟩:=x;simp only[dB] at c0 c1 c2 hm;obtain⟨hy,hz,hA⟩:=hm;have HQ:=hd hq;have i1:(k:Int)<(l.length:Int):=by omega
   have i2:¬((l.length:Int)<=(k:Int)):=by omega
   have i0:¬((k:Int)<0):=by omega
   clear hq
   by_cases hk2:xk=1
   ·subst hk2;have hf:=jHt xt;have ha:Hid (jB1 ⟨1,xn,xt⟩=txt xt):=rfl;have hc:Hid ((txt xt).size<=1001):=by show _<=_;omega
    clear hf;go_wp2_with fail;refine(jJh xt _ (by omega)).mono ?_;rintro e w4 ⟨rfl,ho⟩;have he:=ha.o;have hf:=hc.o;clear ha hc;generalize txt xt=p at *;have ha:=hd he;have hi:=hd (HB.o.trans (ho.mono hn));have hj:(b++p).size=b.size+p.size:=cO;have hh:Hid ((b++p).size<=2000*(k+1)):=by show _<=_;omega
    clear he ho hj;go_wp2;go_roundw;exact⟨k+1,b++p,rfl,by go_num,by omega,hh.o,hi.o,by show _=_;rw[HQ.o,ha.o]⟩;simp[intOf];omega
   have hf:=jQt (xn+2147483648) 4;have i3:(xk==1)=false:=by simpa using hk2
   have ha:Hid (jB1 ⟨xk,xn,xt⟩=bz (xn+2147483648) 4):=by show _=_;unfold jB1;rw[cy (by simpa using hk2)]
   have hc:Hid ((bz (xn+2147483648) 4).size<=1001):=by show _<=_;omega
   clear hf;go_wp2_with fail;refine(jQ6 (xn+2147483648) 4 _ (by omega)).mono ?_;rintro e w4 ⟨rfl,ho⟩;have he:=ha.o;have hf:=hc.o;clear ha hc;generalize bz (xn+2147483648) 4=p at *;have ha:=hd he;have hi:=hd (HB.o.trans (ho.mono hn));have hj:(b++p).size=b.size+p.size:=cO;have hh:Hid ((b++p).size<=2000*(k+1)):=by show _<=_;omega
   clear he ho hj;go_wp2;go_roundw;exact⟨k+1,b++p,rfl,by go_num,by omega,hh.o,hi.o,by show _=_;rw[HQ.o,ha.o]⟩;simp[intOf];omega
  have i1:¬((k:Int)<(l.length:Int)):=by omega
  have HN:Hid (jAu l=b):=by show _=_;rw[HQ.o,cD (by omega)];rfl
  clear hb HQ;go_wp2;go_ret;exact⟨by rw[HN.o];rfl,HB.o⟩
theorem jXY (name:BA)(l:List Col)(lv:Value)(w:World)(h:aX w lv l)(hl:l.length<=1000)(hV:name.size<=1000)(hs:∀v∈l,v.name.size<=1000) :
  Calls Tryz.prog 126 #[.string name,lv] w fun e w'=>e=.returned (.string (jAL name l))/\Below w.heap.size w w':=by
 obtain⟨ao,hS,rfl⟩:=jQa h.1;have H:=hd h;have HS:=hd hs;have HE:Hid (jAL name l=jFq (txt name++bz l.length 1) l):=rfl;have hB:=jHt name;have hC:=jQt l.length 1;have he:=HE.o;have hy:Hid ((txt name).size<=1001):=by show _<=_;omega
 have hz:Hid ((bz l.length 1).size<=1):=by show _<=_;omega
 clear h hs hB hC HE;go_enter Tryz.func126,Tryz.ntmps126;go_wp2_with fail;refine(jJh name _ (by omega)).mono ?_;rintro e w1 ⟨rfl,hP⟩;have ho:=hd hP;have hI:=hP.size;clear hP;have hB:=hy.o;clear hy;generalize txt name=tn at *;go_wp2_with fail;refine(jQ6 l.length 1 _ (by omega)).mono ?_;rintro e w2 ⟨rfl,hR⟩;have hp:=hd (ho.o.trans (hR.mono hI));clear hR ho;have hC:=hz.o;clear hz;generalize bz (l.length:Int) 1=pn at *;have HE:=hd he;have hE:(tn++pn).size=tn.size+pn.size:=cO;have hf:Hid ((tn++pn).size<=2000):=by show _<=_;omega
 clear he hE;go_wp2
 go_loopw [5,6] (fun bv i wr=>∃(k:Nat) (b:BA),bv=.string b/\i=.int .i64 k/\k<=l.length/\b.size<=2000*(k+1)/\Below w.heap.size w wr/\Hid (jAL name l=jFq b (l.drop k))) (fun _ i _=>l.length-(intOf i).toNat)
 case atStart=>exact⟨0,tn++pn,rfl,rfl,zR,hf.o,hp.o,HE⟩
 case round =>
  obtain⟨k,b,rfl,rfl,hk,hU,hb,HQ⟩:=hrel;clear hf hp HE;obtain⟨wo,rfl⟩:∃wo:World,wo=wr:=⟨_,rfl⟩;have hK:=hb.size;have HB:=hd hb
  by_cases hkt:k<l.length
  ·obtain⟨g,hT,hv,hg,hQ⟩:=jCc (f:=Col.cells) (fun _=>rfl) (H.o.below hb).1 k hkt;obtain⟨rfl,-,rfl⟩:=sI hv;have c0:=hQ 0 (.string l[k].name) (by decide) rfl;have c1:=hQ 1 (.int .i64 l[k].kind) (by decide) rfl;have hm:=HS.o l[k] (cJ hkt);have hq:=HQ.o;rw[Sq.jX7 l k hkt] at hq;clear hQ HQ hb;generalize l[k]=x at *;obtain⟨xn,xk⟩:=x;simp only[dB] at c0 c1 hm;have HQ:=hd hq;have hw:Hid (jCT ⟨xn,xk⟩=bz xk 1++txt xn):=rfl;have hD:=jHt xn;have hA:=jQt xk 1;obtain⟨q1,hN⟩:∃x,x=bz xk 1:=⟨_,rfl⟩;obtain⟨q2,hO⟩:∃x,x=txt xn:=⟨_,rfl⟩;have hn:=hw.o;rw[<-hN,<-hO] at hn;rw[<-hO] at hD;rw[<-hN] at hA;have hG:q1.size<=1:=by omega
   have hH:q2.size<=1001:=by omega
   have hi:(q1++q2).size=q1.size+q2.size:=cO;have hj:(b++(q1++q2)).size=b.size+(q1++q2).size:=cO;have hf:Hid ((b++(q1++q2)).size<=2000*(k+1+1)):=by show _<=_;omega
   have hF:(q1++q2).size<=1002:=by omega
   have hh:=hd hn;have ht:=hd hN;have hu:=hd hO;have i1:(k:Int)<(l.length:Int):=by omega
   have i2:¬((l.length:Int)<=(k:Int)):=by omega
   have i0:¬((k:Int)<0):=by omega
   clear hq hw hD hA hN hO hn hi hj;go_wp2
   go_region_with (first
    | (have hx:=hc;clear hx;go_at_call 56;refine(jQ6 xk 1 _ (by omega)).mono ?_;rintro e w6 ⟨rfl,hM⟩;rw[<-ht.o];have hr:=hd (hc.o.trans (hM.mono (by omega)));clear hM)
    | (have hx:=hc;clear hx;go_at_call 84;refine(jJh xn _ (by omega)).mono ?_;rintro e w6 ⟨rfl,hM⟩;rw[<-hu.o];have hr:=hd (hc.o.trans (hM.mono (by omega)));clear hM)
    | (go_at_call 56;refine(jQ6 xk 1 _ (by omega)).mono ?_;rintro e w5 ⟨rfl,hL⟩;rw[<-ht.o];have ha:Below wo.heap.size wo w5:=(cB bR).trans hL;have k0:=((aD ha).1 g (k*2) hg).trans c0;have k1:=((aD ha).1 g (k*2+1) hg).trans c1;have hJ:=ha.size;have hc:=hd ha;clear hL ha)
    | (go_at_call 84;refine(jJh xn _ (by omega)).mono ?_;rintro e w5 ⟨rfl,hL⟩;rw[<-hu.o];have ha:Below wo.heap.size wo w5:=(cB bR).trans hL;have k0:=((aD ha).1 g (k*2) hg).trans c0;have k1:=((aD ha).1 g (k*2+1) hg).trans c1;have hJ:=ha.size;have hc:=hd ha;clear hL ha))
   all_goals(try go_wp2)
   all_goals
    go_roundw;exact⟨k+1,b++(q1++q2),rfl,by go_num,by omega,hf.o,HB.o.trans (hr.o.mono hK),by show _=_;rw[HQ.o,hh.o]⟩;simp[intOf];omega
  have i1:¬((k:Int)<(l.length:Int)):=by omega
  have HN:Hid (jAL name l=b):=by show _=_;rw[HQ.o,cD (by omega)];rfl
  clear hb HQ;go_wp2;go_ret;exact⟨by rw[HN.o];rfl,HB.o⟩
end
end Go.Proofs.YtahpihjialbanaaGreatDoor
