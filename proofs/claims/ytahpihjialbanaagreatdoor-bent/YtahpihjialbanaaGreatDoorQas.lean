import Derived.Test.YtahpihjialbanaaGreatDoorQar
set_option linter.all false
set_option maxRecDepth 100000
set_option maxHeartbeats 8000000
namespace Go.Proofs.YtahpihjialbanaaGreatDoor
open Sq (Trl aj placeOf bY aS jAu jB0 jBU jBb jCU jDz)
variable {K:Int}{W w:World}{cv kv pv v:Value}{tb:Nat}
section
open Go.RowKit
variable {Z:Nat->Prop}
theorem App.start {X:aj}{tr:Trl}{e1 c1:Option Addr}{e2 e3 c2 c3:Nat}{o:bY}(h:ag Z w X.d X.t (.slice e1 e2 e3) (.slice c1 c2 c3))(ht:bk tb w tr)(ho:jBx w o cv pv kv)
  (hW:W=((w.alloc (.cells #[.bool X.head.inner,.slice e1 e2 e3,.slice c1 c2 c3,.int .i64 X.head.least,.int .i64 X.head.rows,.string X.head.sl,.int .i64 X.head.num] 91)).alloc (.cells #[.string o.jAP,.bool o.makes,.int .i64 o.tab.number,.string o.tab.name,cv,pv,kv] 98)).alloc (.cells #[.bool false,.slice none 0 0,.slice none 0 0,.int .i64 0,.int .i64 0,.string ⟨#[]⟩,.int .i64 0] 91)) :
  App Z tb w.heap.size o cv pv kv w W (X,tr):=by
 obtain⟨h1,h2,h3,h4⟩:=jQU hW;exact⟨⟨⟨e1,e2,e3,c1,c2,c3,h2,h.below h1⟩,ht.below h1⟩,ho.below h1,h3,h4,aA.of h1 (cQ ht.lt)⟩
def jIi (Z:Nat->Prop)(K m:Int)(tb b:Nat)(o:bY)(cv pv kv:Value)(w:World)(f:aj×Trl->aj×Trl)(P:aj×Trl)(w':World):Prop :=
 ∃Y,App Z tb b o cv pv kv w w' Y/\jBb K m Y.1/\aS K Y.2/\f Y=P
theorem Sq.jBb.jMm {m m':Int}{X:aj}(h:jBb K m X)(hm:m<=m'):jBb K m' X:=⟨h.t,dF h.rows hm⟩
theorem qCI {l:List Int}(h:w.ownsRow 0 2 1 v l.length (l.map (Value.int .i64)))(k:Nat)(hk:k<l.length):∃g cap,v=.slice (some ⟨g,0,none⟩) l.length cap/\g<w.heap.size/\w.cell? ⟨g,k,none⟩=some (.int .i64 l[k]):=by
 obtain⟨g,cap,rfl,_,ha⟩:=h.form (by omega);refine⟨g,cap,rfl,ha,?_⟩
 have:=h.cells (g:=g) rfl k (.int .i64 l[k]) (by rw[dy,cz hk];rfl)
 rwa [show(⟨g,0,none⟩:Addr).add k=⟨g,k,none⟩ from by unfold Addr.add;split<;>simp_all] at this
theorem jZ9 (K:Int)(Hh:0<=K)(hK:K<=99998)(X:aj)(ev Hm:Value)(o:bY)(cv pv kv:Value)(tb:Nat)(tr:Trl)(w:World)(h:ag Z w X.d X.t ev Hm)(hf:jBb K 800000000 X)(ht:bk tb w tr)(hr:aS K tr)(hZ:∀g,w.heap.size<=g->¬Z g)(ho:jBx w o cv pv kv)(Hg:jGA o) :
  Calls Tryz.prog 54 #[.agg (ae X.head ev Hm).toArray,.agg (az o cv pv kv),.pointer (some ⟨tb,0,none⟩)] w (jA7 Z tb (jBU o (X,tr)) w):=by
 obtain⟨⟨e1,e2,e3,Hf⟩,c1,c2,c3,He⟩:=h.aG;subst Hf He;have hC:=ht.lt;obtain⟨co,h0,rfl⟩:=jQa ho.cols.1;obtain⟨po,h9,rfl⟩:=ho.puts.slice;obtain⟨ko,h8,rfl⟩:=jQa ho.cuts;obtain⟨W,hW⟩:∃W:World,W=((w.alloc (.cells #[.bool X.head.inner,.slice e1 e2 e3,.slice c1 c2 c3,.int .i64 X.head.least,.int .i64 X.head.rows,.string X.head.sl,.int .i64 X.head.num] 91)).alloc (.cells #[.string o.jAP,.bool o.makes,.int .i64 o.tab.number,.string o.tab.name,.slice co o.tab.cols.length h0,.slice po o.puts.length h9,.slice ko o.cuts.length h8] 98)).alloc (.cells #[.bool false,.slice none 0 0,.slice none 0 0,.int .i64 0,.int .i64 0,.string ⟨#[]⟩,.int .i64 0] 91):=⟨_,rfl⟩;have hA:=App.start h ht ho hW;have hS:=ho.jIr;have hR:=ho.jIq;have hM:=Hg.few;have hG:=Hg.n0;have hH:=Hg.n1;have hD:=hd Hg;have HZ:=hd hZ;have HA:=hd hA;have HF:=hd hf;have HR:=hd hr;obtain⟨k0,k1,k2,k3,k4,k5,k6⟩:=jQq (by obtain⟨h1,h2,h3,h4⟩:=jQU hW;exact h2);obtain⟨d0,d1,d2,d3,d4,d5,d6⟩:=jQq hA.ob;have hU:=jQe hA.res;obtain⟨P,hP⟩:∃P,P=jCU o.tab.number o.puts (jB0 o (X,tr)):=⟨_,rfl⟩;have HP:=hd hP;have hE:jBU o (X,tr)=jDz o.tab.number o.cuts P:=by rw[hP];rfl
 obtain⟨Q,hQ⟩:∃Q,Q=jDz o.tab.number o.cuts P:=⟨_,rfl⟩;have hF:=hd hQ;rw[hE,<-hQ,jQc,az]
 have hw:Hid (∀w',Below W.heap.size W w'->o.makes=true->Calls Tryz.prog 80 #[.agg #[.bool X.head.inner,.slice e1 e2 e3,.slice c1 c2 c3,.int .i64 X.head.least,.int .i64 X.head.rows,.string X.head.sl,.int .i64 X.head.num],.agg #[.int .i64 o.tab.number,.string o.tab.name,.slice co o.tab.cols.length h0],.pointer (some ⟨tb,0,none⟩)] w' (jA7 Z tb (jB0 o (X,tr)) w')):=by
  intro w' hb hm;have hc:=Hg.make hm
  have:=jWW (Z:=Z) K Hh hK X (.slice e1 e2 e3) (.slice c1 c2 c3) o.tab.number o.tab.name o.tab.cols (.slice co o.tab.cols.length h0) tb tr w' (((h.below (jQU hW).1)).below hb) ⟨hf.t,by have:=hf.rows;omega⟩ ((ht.below (jQU hW).1).below hb) hr (fun g hg=>hZ g (by have:=hb.size;have:=(jQU hW).1.size;omega)) (by omega) (by omega) ((ho.cols.below (jQU hW).1).below hb) hc.1 hc.2.1 hc.2.2.1 hc.2.2.2
  rw[jQc] at this;rw[jB0,cE hm];exact this
 have hx:Hid (jBb K 800000001 (jB0 o (X,tr)).1/\aS K (jB0 o (X,tr)).2):=by
  show _/\_;unfold jB0
  split
  ·next hm=>exact hf.put Hh (Hg.make hm).2.2.2 hr
  exact⟨⟨hf.t,by have:=hf.rows;simp only;omega⟩,hr⟩
 clear hP hE hQ hA ho Hg hZ hf hr h ht;obtain⟨hX,Hp⟩:∃x,x=X.head:=⟨_,rfl⟩;rw[<-Hp] at k0 k3 k4 k5 k6 hW hw ⊢;clear Hp;go_enter Tryz.func54,Tryz.ntmps54;cases hc:o.makes
 case' false =>
  rw[hc] at hW d1;have HI:Hid (jIi Z K 800000001 tb w.heap.size o (.slice co o.tab.cols.length h0) (.slice po o.puts.length h9) (.slice ko o.cuts.length h8) w (fun Y=>jCU o.tab.number (o.puts.drop 0) Y) P W):=⟨_,HA.o,HF.o.jMm (by decide),HR.o,by rw[HP.o];unfold jB0;rw[hc];rfl⟩;go_wp2;rw[<-hW];clear hW HA k0 k1 k2 k3 k4 k5 k6 d0 d1 d2 d3 d4 d5 d6 hw hx HF HR HP hc
 case' true =>
  rw[hc] at hW d1;go_wp2_with fail;rw[<-hW];clear hW;refine(hw.o _ bR hc).mono ?_;rintro e w5 ⟨Ho,Hn,rfl,h7,Hd,Hc⟩;obtain⟨⟨x1,x2,x3,Hf⟩,y1,y2,y3,He⟩:=h7.aG;subst Hf He;have hh:=HA.o.next nR hC h7 Hd Hc;have HI:Hid (jIi Z K 800000001 tb w.heap.size o (.slice co o.tab.cols.length h0) (.slice po o.puts.length h9) (.slice ko o.cuts.length h8) w (fun Y=>jCU o.tab.number (o.puts.drop 0) Y) P _):=⟨_,hh,hx.o.1,hx.o.2,by rw[HP.o];rfl⟩;obtain⟨q1,q2,q3,q4,q5,q6,hV,-⟩:=HA.o.box.box;have ha:=(Hc.bC w.heap.size _ _ _ hV (by decide) (by decide)).trans hV;obtain⟨b0,b1,b2,b3,b4,b5,b6⟩:=jQq ha;have z0:=jQd ha 0;have z1:=jQd ha 1;have z2:=jQd ha 2;have z3:=jQd ha 3;have z4:=jQd ha 4;have z5:=jQd ha 5;have z6:=jQd ha 6;have hJ:=jQe ha;clear Hc Hd h7 ha hV hh HA hw hx HF HR HP hc k0 k1 k2 k3 k4 k5 k6 d0 d1 d2 d3 d4 d5 d6;obtain⟨yh,h5⟩:∃x,x=(jB0 o (X,tr)).1.head:=⟨_,rfl⟩;have hI:=HI.o;rw[<-h5] at hI;rw[<-h5,jQc];have HI:=hd hI;clear h5 hI;go_wp2
 all_goals
  go_loopw [7] (fun i wr=>∃k:Nat,i=.int .i64 k/\k<=o.puts.length/\jIi Z K (800000001+(k:Int)) tb w.heap.size o (.slice co o.tab.cols.length h0) (.slice po o.puts.length h9) (.slice ko o.cuts.length h8) w (fun Y=>jCU o.tab.number (o.puts.drop k) Y) P wr) (fun i _=>o.puts.length-(intOf i).toNat)
  case atStart=>exact⟨0,rfl,zR,HI.o⟩
  case round =>
   obtain⟨k,rfl,hk,Y,hA,h6,Ha,Hb⟩:=hrel;obtain⟨wo,rfl⟩:∃wo:World,wo=wr:=⟨_,rfl⟩;obtain⟨f1,f2,f3,g1,g2,g3,hV,hY⟩:=hA.box.box;obtain⟨l0,l1,l2,l3,l4,l5,l6⟩:=jQq hV;obtain⟨m0,m1,m2,m3,m4,m5,m6⟩:=jQq hA.ob;have hN:=jQe hA.res;have hO:=hA.frm.jBC
   by_cases hkt:k<o.puts.length
   ·obtain⟨rg,Hl,ra,rc,hv,Hq,r0,Hk⟩:=hA.otp.puts.at k hkt;obtain⟨rfl,-,rfl⟩:=sI hv;have hi:=hD.o.puts o.puts[k] (cJ hkt);have HS:Hid (∀w',Below wo.heap.size wo w'->Calls Tryz.prog 81 #[.agg (ae Y.1.head (.slice f1 f2 f3) (.slice g1 g2 g3)).toArray,.int .i64 o.tab.number,.agg #[.slice ra o.puts[k].length rc],.pointer (some ⟨tb,0,none⟩)] w' (jA7 Z tb (Y.1.put ⟨placeOf o.tab.number (Sq.keyOf o.puts[k]),jAu o.puts[k]⟩ Y.2) w')):=fun w' hb=>jXh K Hh hK Y.1 _ _ _ _ _ tb Y.2 w' (hY.below hb) ⟨h6.t,by have:=h6.rows;omega⟩ (hA.box.tr.below hb) Ha (fun g hg=>HZ.o g (by have:=hb.size;omega)) hG hH (Hk.below hb) hi.len hi.ax hi.size
    have hT:=h6.put Hh (e:=⟨placeOf o.tab.number (Sq.keyOf o.puts[k]),jAu o.puts[k]⟩) hi.size Ha;have hq:jCU o.tab.number (o.puts.drop (k+1)) (Y.1.put ⟨placeOf o.tab.number (Sq.keyOf o.puts[k]),jAu o.puts[k]⟩ Y.2)=P:=by rw[<-jYH _ _ _ hkt];exact Hb
    have hs:=HS.o;obtain⟨Y',Hi⟩:∃Y',Y'=Y.1.put ⟨placeOf o.tab.number (Sq.keyOf o.puts[k]),jAu o.puts[k]⟩ Y.2:=⟨_,rfl⟩;rw[<-Hi] at hs hT hq;obtain⟨hy,Hj⟩:∃x,x=Y.1.head:=⟨_,rfl⟩;rw[jQc] at hs;rw[<-Hj] at hs l0 l3 l4 l5 l6;have hz:=hd hs;have HT:=hd hT;have HQ:=hd hq;have hj:=hd hA;have i1:(k:Int)<(o.puts.length:Int):=by omega
    have i2:¬((o.puts.length:Int)<=(k:Int)):=by omega
    have i0:¬((k:Int)<0):=by omega
    clear hs hT hq hA Hi Hj HS hi Hk hV hY h6 Ha Hb;go_wp2
    go_region_with (go_at_call 81;refine(hz.o _ (cB bR)).mono ?_;rintro e w5 ⟨Ho,Hn,rfl,h7,Hd,Hc⟩;obtain⟨⟨x1,x2,x3,Hf⟩,y1,y2,y3,He⟩:=h7.aG;subst Hf He;have hp:aA tb wo w5:=(aA.of (cB bR) (by omega)).trans Hc;have hu:=hd (hj.o.next nR hC h7 Hd hp);obtain⟨q1,q2,q3,q4,q5,q6,hV,-⟩:=hj.o.box.box;have ha:=(hp.bC w.heap.size _ _ _ hV (by decide) (by decide)).trans hV;obtain⟨b0,b1,b2,b3,b4,b5,b6⟩:=jQq ha;have z0:=jQd ha 0;have z1:=jQd ha 1;have z2:=jQd ha 2;have z3:=jQd ha 3;have z4:=jQd ha 4;have z5:=jQd ha 5;have z6:=jQd ha 6;have hJ:=jQe ha;clear Hc hp Hd h7 ha hV;obtain⟨yh,h5⟩:∃x,x=Y'.1.head:=⟨_,rfl⟩;have hh:=hu.o;rw[<-h5] at hh;rw[<-h5,jQc];have hl:=hd hh;clear h5 hh hu)
    all_goals(try go_wp2)
    all_goals
     go_roundw;exact⟨k+1,by go_num,by omega,Y',hl.o,by have:=HT.o.1;rw[show(800000001+((k+1:Nat):Int))=800000001+(k:Int)+1 by omega];exact this,HT.o.2,HQ.o⟩;simp[intOf];omega
   have i1:¬((k:Int)<(o.puts.length:Int)):=by omega
   have hB:k=o.puts.length:=by omega
   subst hB;have hn:Y=P:=by rw[<-Hb];simp[jCU]
   subst hn;have hj:=hd hA;clear hV hY Hb;go_wp2
   go_loopw [8] (fun i wr=>∃k:Nat,i=.int .i64 k/\k<=o.cuts.length/\jIi Z K 810000001 tb w.heap.size o (.slice co o.tab.cols.length h0) (.slice po o.puts.length h9) (.slice ko o.cuts.length h8) w (fun Y'=>jDz o.tab.number (o.cuts.drop k) Y') Q wr) (fun i _=>o.cuts.length-(intOf i).toNat)
   case atStart=>exact⟨0,rfl,zR,Y,hj.o,h6.jMm (by omega),Ha,hF.o.symm⟩
   case round =>
    clear h6 Ha hF;clear hj m0 m1 m2 m3 m4 m5 m6 l0 l1 l2 l3 l4 l5 l6;obtain⟨k,rfl,hk,Y,hA,h6,Ha,Hb⟩:=hrel;obtain⟨wo,rfl⟩:∃wo:World,wo=wr:=⟨_,rfl⟩;obtain⟨f1,f2,f3,g1,g2,g3,hV,hY⟩:=hA.box.box;obtain⟨l0,l1,l2,l3,l4,l5,l6⟩:=jQq hV;obtain⟨m0,m1,m2,m3,m4,m5,m6⟩:=jQq hA.ob;have hN:=jQe hA.res;have hO:=hA.frm.jBC
    by_cases hkt:k<o.cuts.length
    ·obtain⟨rg,Hl,hv,Hq,r0⟩:=qCI hA.otp.cuts k hkt;obtain⟨rfl,-,rfl⟩:=sI hv;have hi:=hD.o.cuts o.cuts[k] (cJ hkt);have HS:Hid (∀w',Below wo.heap.size wo w'->Calls Tryz.prog 82 #[.agg (ae Y.1.head (.slice f1 f2 f3) (.slice g1 g2 g3)).toArray,.int .i64 o.tab.number,.int .i64 o.cuts[k],.pointer (some ⟨tb,0,none⟩)] w' (jA7 Z tb (Y.1.del (placeOf o.tab.number o.cuts[k]) Y.2) w')):=fun w' hb=>jWY K Hh hK Y.1 _ _ _ _ tb Y.2 w' (hY.below hb) ⟨h6.t,by have:=h6.rows;omega⟩ (hA.box.tr.below hb) Ha (fun g hg=>HZ.o g (by have:=hb.size;omega)) hG hH hi.1 hi.2
     have hT:=h6.del Hh (placeOf o.tab.number o.cuts[k]) Ha;have hq:jDz o.tab.number (o.cuts.drop (k+1)) (Y.1.del (placeOf o.tab.number o.cuts[k]) Y.2)=Q:=by rw[<-jZR _ _ _ hkt];exact Hb
     have hs:=HS.o;obtain⟨Y',Hi⟩:∃Y',Y'=Y.1.del (placeOf o.tab.number o.cuts[k]) Y.2:=⟨_,rfl⟩;rw[<-Hi] at hs hT hq;obtain⟨hy,Hj⟩:∃x,x=Y.1.head:=⟨_,rfl⟩;rw[jQc] at hs;rw[<-Hj] at hs l0 l3 l4 l5 l6;have hz:=hd hs;have HT:=hd hT;have HQ:=hd hq;have hj:=hd hA;have i1:(k:Int)<(o.cuts.length:Int):=by omega
     have i2:¬((o.cuts.length:Int)<=(k:Int)):=by omega
     have i0:¬((k:Int)<0):=by omega
     clear hs hT hq hA Hi Hj HS hi hV hY h6 Ha Hb;go_wp2
     go_region_with (go_at_call 82;refine(hz.o _ (cB bR)).mono ?_;rintro e w5 ⟨Ho,Hn,rfl,h7,Hd,Hc⟩;obtain⟨⟨x1,x2,x3,Hf⟩,y1,y2,y3,He⟩:=h7.aG;subst Hf He;have hp:aA tb wo w5:=(aA.of (cB bR) (by omega)).trans Hc;have hu:=hd (hj.o.next nR hC h7 Hd hp);obtain⟨q1,q2,q3,q4,q5,q6,hV,-⟩:=hj.o.box.box;have ha:=(hp.bC w.heap.size _ _ _ hV (by decide) (by decide)).trans hV;obtain⟨b0,b1,b2,b3,b4,b5,b6⟩:=jQq ha;have z0:=jQd ha 0;have z1:=jQd ha 1;have z2:=jQd ha 2;have z3:=jQd ha 3;have z4:=jQd ha 4;have z5:=jQd ha 5;have z6:=jQd ha 6;have hJ:=jQe ha;clear Hc hp Hd h7 ha hV;obtain⟨yh,h5⟩:∃x,x=Y'.1.head:=⟨_,rfl⟩;have hh:=hu.o;rw[<-h5] at hh;rw[<-h5,jQc];have hl:=hd hh;clear h5 hh hu)
     all_goals(try go_wp2)
     all_goals
      go_roundw;exact⟨k+1,by go_num,by omega,Y',hl.o,HT.o.1,HT.o.2,HQ.o⟩;simp[intOf];omega
    have i1:¬((k:Int)<(o.cuts.length:Int)):=by omega
    have hB:k=o.cuts.length:=by omega
    subst hB;have hn:Y=Q:=by rw[<-Hb];simp[jDz]
    subst hn;have he:=jJG hY hA.box.tr hA.frm hA.res (by omega) (by omega) (.bool Y.1.head.inner) (.slice f1 f2 f3) (.slice g1 g2 g3) (.int .i64 Y.1.head.least) (.int .i64 Y.1.head.rows) (.string Y.1.head.sl) (.int .i64 Y.1.head.num);obtain⟨b0,b1,b2,b3,b4,b5,b6⟩:=jQq hA.res;have z0:=jQd hA.res 0;have z1:=jQd hA.res 1;have z2:=jQd hA.res 2;have z3:=jQd hA.res 3;have z4:=jQd hA.res 4;have z5:=jQd hA.res 5;have z6:=jQd hA.res 6;obtain⟨yh,h5⟩:∃x,x=Y.1.head:=⟨_,rfl⟩;rw[<-h5] at he l0 l3 l4 l5 l6;have HE:=hd he;have hL:=hd h5;clear hV hY Hb hA h6 Ha he h5;go_wp2;refine cp (v:=.agg (ae yh (.slice f1 f2 f3) (.slice g1 g2 g3)).toArray) (by simp[results,Tryz.results54,go_sem,ae, *]) rfl ?_;exact⟨_,_,by rw[hL.o],HE.o.1,HE.o.2.1,HE.o.2.2⟩
end
end Go.Proofs.YtahpihjialbanaaGreatDoor
