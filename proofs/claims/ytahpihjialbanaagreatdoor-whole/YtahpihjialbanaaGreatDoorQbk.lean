import Derived.Test.YtahpihjialbanaaGreatDoorQbj
set_option linter.unusedVariables false
set_option linter.unusedSimpArgs false
set_option maxRecDepth 100000
set_option maxHeartbeats 8000000
namespace Go.Proofs.YtahpihjialbanaaGreatDoor
open Sq (Trl NTree placeOf OutR)
section
open Go.RowKit
variable {Z:Nat->Prop}
theorem App.start {tb:Nat}{X:NTree}{tr:Trl}{e1 c1:Option Addr}{e2 e3 c2 c3:Nat}{o:OutR}{cv pv kv:Value}{w W:World}(h:NodeAt Z w X.d X.t (.slice e1 e2 e3) (.slice c1 c2 c3))(ht:TrAt tb w tr)(ho:OutAt w o cv pv kv)
  (hW:W=((w.alloc (.cells #[.bool X.head.inner,.slice e1 e2 e3,.slice c1 c2 c3,.int .i64 X.head.least,.int .i64 X.head.rows,.string X.head.sl,.int .i64 X.head.num] 91)).alloc (.cells #[.string o.reply,.bool o.makes,.int .i64 o.tab.number,.string o.tab.name,cv,pv,kv] 98)).alloc (.cells #[.bool false,.slice none 0 0,.slice none 0 0,.int .i64 0,.int .i64 0,.string ⟨#[]⟩,.int .i64 0] 91)) :
  App Z tb w.heap.size o cv pv kv w W (X,tr):=by
 obtain⟨h1,h2,h3,h4⟩:=jQT hW;exact⟨⟨⟨e1,e2,e3,c1,c2,c3,h2,h.below h1⟩,ht.below h1⟩,ho.below h1,h3,h4,TFrm.of h1 (Nat.le_of_lt ht.lt)⟩
def AppIn (Z:Nat->Prop)(K m:Int)(tb b:Nat)(o:OutR)(cv pv kv:Value)(w:World)(f:NTree×Trl->NTree×Trl)(P:NTree×Trl)(w':World):Prop :=
 ∃Y,App Z tb b o cv pv kv w w' Y/\Sq.TameT K m Y.1/\Sq.TameR K Y.2/\f Y=P
theorem Sq.TameT.mono' {K m m':Int}{X:NTree}(h:Sq.TameT K m X)(hm:m<=m'):Sq.TameT K m' X:=⟨h.t,Int.le_trans h.rows hm⟩
theorem jQr0 {w:World}{v:Value}{l:List Int}(h:w.ownsRow 0 2 1 v l.length (l.map (Value.int .i64)))(k:Nat)(hk:k<l.length):∃g cap,v=.slice (some ⟨g,0,none⟩) l.length cap/\g<w.heap.size/\w.cell? ⟨g,k,none⟩=some (.int .i64 l[k]):=by
 obtain⟨g,cap,rfl,_,hlt⟩:=h.form (by omega);refine⟨g,cap,rfl,hlt,?_⟩
 have:=h.cells (g:=g) rfl k (.int .i64 l[k]) (by rw[List.getElem?_map,List.getElem?_eq_getElem hk];rfl)
 rwa [show(⟨g,0,none⟩:Addr).add k=⟨g,k,none⟩ from by unfold Addr.add;split<;>simp_all] at this
theorem jQpL (K:Int)(hK0:0<=K)(hK:K<=99998)(X:NTree)(ev cv':Value)(o:OutR)(cv pv kv:Value)(tb:Nat)(tr:Trl)(w:World)(h:NodeAt Z w X.d X.t ev cv')(hf:Sq.TameT K 800000000 X)(ht:TrAt tb w tr)(hr:Sq.TameR K tr)(hZ:∀g,w.heap.size<=g->¬Z g)(ho:OutAt w o cv pv kv)(hok:OkOut o) :
  Calls Tryz.prog 54 #[.agg (headCells X.head ev cv').toArray,.agg (outCells o cv pv kv),.pointer (some ⟨tb,0,none⟩)] w (TreeSays Z tb (Sq.applyR o (X,tr)) w):=by
 obtain⟨⟨e1,e2,e3,hev⟩,c1,c2,c3,hcv⟩:=h.slices;subst hev hcv;have hB:=ht.lt;obtain⟨co,ccap,rfl⟩:=jQa ho.cols.1;obtain⟨po,pcap,rfl⟩:=ho.puts.slice;obtain⟨ko,kcap,rfl⟩:=jQa ho.cuts;obtain⟨W,hW⟩:∃W:World,W=((w.alloc (.cells #[.bool X.head.inner,.slice e1 e2 e3,.slice c1 c2 c3,.int .i64 X.head.least,.int .i64 X.head.rows,.string X.head.sl,.int .i64 X.head.num] 91)).alloc (.cells #[.string o.reply,.bool o.makes,.int .i64 o.tab.number,.string o.tab.name,.slice co o.tab.cols.length ccap,.slice po o.puts.length pcap,.slice ko o.cuts.length kcap] 98)).alloc (.cells #[.bool false,.slice none 0 0,.slice none 0 0,.int .i64 0,.int .i64 0,.string ⟨#[]⟩,.int .i64 0] 91):=⟨_,rfl⟩;have hA:=App.start h ht ho hW;have hS:=ho.nputs;have hR:=ho.ncuts;have hM:=hok.few;have hJ:=hok.n0;have hF:=hok.n1;have hH:=hd hok;have HZ:=hd hZ;have HA:=hd hA;have HF:=hd hf;have HR:=hd hr;obtain⟨k0,k1,k2,k3,k4,k5,k6⟩:=jQs (by obtain⟨h1,h2,h3,h4⟩:=jQT hW;exact h2);obtain⟨d0,d1,d2,d3,d4,d5,d6⟩:=jQs hA.ob;have hU:=jQf hA.res;obtain⟨P,hP⟩:∃P,P=Sq.putsR o.tab.number o.puts (Sq.madeR o (X,tr)):=⟨_,rfl⟩;have HP:=hd hP;have hE:Sq.applyR o (X,tr)=Sq.cutsR o.tab.number o.cuts P:=by rw[hP];rfl
 obtain⟨Q,hQ⟩:∃Q,Q=Sq.cutsR o.tab.number o.cuts P:=⟨_,rfl⟩;have hG:=hd hQ;rw[hE,<-hQ,jQc,outCells]
 have hx:Hid (∀w',Below W.heap.size W w'->o.makes=true->Calls Tryz.prog 80 #[.agg #[.bool X.head.inner,.slice e1 e2 e3,.slice c1 c2 c3,.int .i64 X.head.least,.int .i64 X.head.rows,.string X.head.sl,.int .i64 X.head.num],.agg #[.int .i64 o.tab.number,.string o.tab.name,.slice co o.tab.cols.length ccap],.pointer (some ⟨tb,0,none⟩)] w' (TreeSays Z tb (Sq.madeR o (X,tr)) w')):=by
  intro w' hb hm;have hc:=hok.make hm
  have:=jQik (Z:=Z) K hK0 hK X (.slice e1 e2 e3) (.slice c1 c2 c3) o.tab.number o.tab.name o.tab.cols (.slice co o.tab.cols.length ccap) tb tr w' (((h.below (jQT hW).1)).below hb) ⟨hf.t,by have:=hf.rows;omega⟩ ((ht.below (jQT hW).1).below hb) hr (fun g hg=>hZ g (by have:=hb.size;have:=(jQT hW).1.size;omega)) (by omega) (by omega) ((ho.cols.below (jQT hW).1).below hb) hc.1 hc.2.1 hc.2.2.1 hc.2.2.2
  rw[jQc] at this;rw[Sq.madeR,if_pos hm];exact this
 have hw:Hid (Sq.TameT K 800000001 (Sq.madeR o (X,tr)).1/\Sq.TameR K (Sq.madeR o (X,tr)).2):=by
  show _/\_;unfold Sq.madeR
  split
  ·next hm=>exact hf.put hK0 (hok.make hm).2.2.2 hr
  ·exact⟨⟨hf.t,by have:=hf.rows;simp only;omega⟩,hr⟩
 clear hP hE hQ hA ho hok hZ hf hr h ht;obtain⟨hX,hhX⟩:∃x,x=X.head:=⟨_,rfl⟩;rw[<-hhX] at k0 k3 k4 k5 k6 hW hx ⊢;clear hhX;go_enter Tryz.func54,Tryz.ntmps54;cases hc:o.makes
 case' false =>
  rw[hc] at hW d1;have HI:Hid (AppIn Z K 800000001 tb w.heap.size o (.slice co o.tab.cols.length ccap) (.slice po o.puts.length pcap) (.slice ko o.cuts.length kcap) w (fun Y=>Sq.putsR o.tab.number (o.puts.drop 0) Y) P W):=⟨_,HA.o,HF.o.mono' (by decide),HR.o,by rw[HP.o];unfold Sq.madeR;rw[hc];rfl⟩;go_wp2;rw[<-hW];clear hW HA k0 k1 k2 k3 k4 k5 k6 d0 d1 d2 d3 d4 d5 d6 hx hw HF HR HP hc
 case' true =>
  rw[hc] at hW d1;go_wp2_with fail;rw[<-hW];clear hW;refine(hx.o _ (bR) hc).mono ?_;rintro e w5 ⟨ev5,cv5,rfl,hn5,ht5,hf5⟩;obtain⟨⟨x1,x2,x3,hev⟩,y1,y2,y3,hcv⟩:=hn5.slices;subst hev hcv;have hh:=HA.o.next (nR) hB hn5 ht5 hf5;have HI:Hid (AppIn Z K 800000001 tb w.heap.size o (.slice co o.tab.cols.length ccap) (.slice po o.puts.length pcap) (.slice ko o.cuts.length kcap) w (fun Y=>Sq.putsR o.tab.number (o.puts.drop 0) Y) P _):=⟨_,hh,hw.o.1,hw.o.2,by rw[HP.o];rfl⟩;obtain⟨q1,q2,q3,q4,q5,q6,hbox,-⟩:=HA.o.box.box;have ha:=(hf5.keep w.heap.size _ _ _ hbox (by decide) (by decide)).trans hbox;obtain⟨b0,b1,b2,b3,b4,b5,b6⟩:=jQs ha;have z0:=jQd ha 0;have z1:=jQd ha 1;have z2:=jQd ha 2;have z3:=jQd ha 3;have z4:=jQd ha 4;have z5:=jQd ha 5;have z6:=jQd ha 6;have hD:=jQf ha;clear hf5 ht5 hn5 ha hbox hh HA hx hw HF HR HP hc k0 k1 k2 k3 k4 k5 k6 d0 d1 d2 d3 d4 d5 d6;obtain⟨yh,hyh⟩:∃x,x=(Sq.madeR o (X,tr)).1.head:=⟨_,rfl⟩;have hI:=HI.o;rw[<-hyh] at hI;rw[<-hyh,jQc];have HI:=hd hI;clear hyh hI;go_wp2
 all_goals
  go_loopw [7] (fun i wr=>∃k:Nat,i=.int .i64 k/\k<=o.puts.length/\AppIn Z K (800000001+(k:Int)) tb w.heap.size o (.slice co o.tab.cols.length ccap) (.slice po o.puts.length pcap) (.slice ko o.cuts.length kcap) w (fun Y=>Sq.putsR o.tab.number (o.puts.drop k) Y) P wr) (fun i _=>o.puts.length-(intOf i).toNat)
  case atStart=>exact⟨0,rfl,zR,HI.o⟩
  case round =>
   obtain⟨k,rfl,hk,Y,hA,hY1,hY2,hYP⟩:=hrel;obtain⟨wo,rfl⟩:∃wo:World,wo=wr:=⟨_,rfl⟩;obtain⟨f1,f2,f3,g1,g2,g3,hbox,hnode⟩:=hA.box.box;obtain⟨l0,l1,l2,l3,l4,l5,l6⟩:=jQs hbox;obtain⟨m0,m1,m2,m3,m4,m5,m6⟩:=jQs hA.ob;have hN:=jQf hA.res;have hL:=hA.frm.below_lt
   by_cases hkt:k<o.puts.length
   ·obtain⟨rg,rcap,ra,rc,hv,hrg,r0,hrow⟩:=hA.ot.puts.at k hkt;simp only[Value.slice.injEq] at hv;obtain⟨rfl,-,rfl⟩:=hv;have hi:=hH.o.puts o.puts[k] (List.getElem_mem hkt);have HS:Hid (∀w',Below wo.heap.size wo w'->Calls Tryz.prog 81 #[.agg (headCells Y.1.head (.slice f1 f2 f3) (.slice g1 g2 g3)).toArray,.int .i64 o.tab.number,.agg #[.slice ra o.puts[k].length rc],.pointer (some ⟨tb,0,none⟩)] w' (TreeSays Z tb (Y.1.put ⟨placeOf o.tab.number (Sq.keyOf o.puts[k]),Sq.ofCells o.puts[k]⟩ Y.2) w')):=fun w' hb=>jQjj K hK0 hK Y.1 _ _ _ _ _ tb Y.2 w' (hnode.below hb) ⟨hY1.t,by have:=hY1.rows;omega⟩ (hA.box.tr.below hb) hY2 (fun g hg=>HZ.o g (by have:=hb.size;omega)) hJ hF (hrow.below hb) hi.len hi.vals hi.size
    have hT:=hY1.put hK0 (e:=⟨placeOf o.tab.number (Sq.keyOf o.puts[k]),Sq.ofCells o.puts[k]⟩) hi.size hY2;have hq:Sq.putsR o.tab.number (o.puts.drop (k+1)) (Y.1.put ⟨placeOf o.tab.number (Sq.keyOf o.puts[k]),Sq.ofCells o.puts[k]⟩ Y.2)=P:=by rw[<-jQmA _ _ _ hkt];exact hYP
    have hs:=HS.o;obtain⟨Y',hY'⟩:∃Y',Y'=Y.1.put ⟨placeOf o.tab.number (Sq.keyOf o.puts[k]),Sq.ofCells o.puts[k]⟩ Y.2:=⟨_,rfl⟩;rw[<-hY'] at hs hT hq;obtain⟨hy,hhy⟩:∃x,x=Y.1.head:=⟨_,rfl⟩;rw[jQc] at hs;rw[<-hhy] at hs l0 l3 l4 l5 l6;have hC:=hd hs;have HT:=hd hT;have HQ:=hd hq;have hj:=hd hA;have i1:(k:Int)<(o.puts.length:Int):=by omega
    have i2:¬((o.puts.length:Int)<=(k:Int)):=by omega
    have i0:¬((k:Int)<0):=by omega
    clear hs hT hq hA hY' hhy HS hi hrow hbox hnode hY1 hY2 hYP;go_wp2
    go_region_with (go_at_call 81;refine(hC.o _ (Below.drew (bR))).mono ?_;rintro e w5 ⟨ev5,cv5,rfl,hn5,ht5,hf5⟩;obtain⟨⟨x1,x2,x3,hev⟩,y1,y2,y3,hcv⟩:=hn5.slices;subst hev hcv;have hp:TFrm tb wo w5:=(TFrm.of (Below.drew (bR)) (by omega)).trans hf5;have hu:=hd (hj.o.next (nR) hB hn5 ht5 hp);obtain⟨q1,q2,q3,q4,q5,q6,hbox,-⟩:=hj.o.box.box;have ha:=(hp.keep w.heap.size _ _ _ hbox (by decide) (by decide)).trans hbox;obtain⟨b0,b1,b2,b3,b4,b5,b6⟩:=jQs ha;have z0:=jQd ha 0;have z1:=jQd ha 1;have z2:=jQd ha 2;have z3:=jQd ha 3;have z4:=jQd ha 4;have z5:=jQd ha 5;have z6:=jQd ha 6;have hD:=jQf ha;clear hf5 hp ht5 hn5 ha hbox;obtain⟨yh,hyh⟩:∃x,x=Y'.1.head:=⟨_,rfl⟩;have hh:=hu.o;rw[<-hyh] at hh;rw[<-hyh,jQc];have hl:=hd hh;clear hyh hh hu)
    all_goals(try go_wp2)
    all_goals
     go_roundw
     case rel=>exact⟨k+1,by go_num,by omega,Y',hl.o,by have:=HT.o.1;rw[show(800000001+((k+1:Nat):Int))=800000001+(k:Int)+1 by omega];exact this,HT.o.2,HQ.o⟩
     case measure=>simp[intOf];omega
   ·have i1:¬((k:Int)<(o.puts.length:Int)):=by omega
    have hz:k=o.puts.length:=by omega
    subst hz;have hn:Y=P:=by rw[<-hYP];simp[Sq.putsR]
    subst hn;have hj:=hd hA;clear hbox hnode hYP;go_wp2
    go_loopw [8] (fun i wr=>∃k:Nat,i=.int .i64 k/\k<=o.cuts.length/\AppIn Z K 810000001 tb w.heap.size o (.slice co o.tab.cols.length ccap) (.slice po o.puts.length pcap) (.slice ko o.cuts.length kcap) w (fun Y'=>Sq.cutsR o.tab.number (o.cuts.drop k) Y') Q wr) (fun i _=>o.cuts.length-(intOf i).toNat)
    case atStart=>exact⟨0,rfl,zR,Y,hj.o,hY1.mono' (by omega),hY2,hG.o.symm⟩
    case round =>
     clear hY1 hY2 hG;clear hj m0 m1 m2 m3 m4 m5 m6 l0 l1 l2 l3 l4 l5 l6;obtain⟨k,rfl,hk,Y,hA,hY1,hY2,hYP⟩:=hrel;obtain⟨wo,rfl⟩:∃wo:World,wo=wr:=⟨_,rfl⟩;obtain⟨f1,f2,f3,g1,g2,g3,hbox,hnode⟩:=hA.box.box;obtain⟨l0,l1,l2,l3,l4,l5,l6⟩:=jQs hbox;obtain⟨m0,m1,m2,m3,m4,m5,m6⟩:=jQs hA.ob;have hN:=jQf hA.res;have hL:=hA.frm.below_lt
     by_cases hkt:k<o.cuts.length
     ·obtain⟨rg,rcap,hv,hrg,r0⟩:=jQr0 hA.ot.cuts k hkt;simp only[Value.slice.injEq] at hv;obtain⟨rfl,-,rfl⟩:=hv;have hi:=hH.o.cuts o.cuts[k] (List.getElem_mem hkt);have HS:Hid (∀w',Below wo.heap.size wo w'->Calls Tryz.prog 82 #[.agg (headCells Y.1.head (.slice f1 f2 f3) (.slice g1 g2 g3)).toArray,.int .i64 o.tab.number,.int .i64 o.cuts[k],.pointer (some ⟨tb,0,none⟩)] w' (TreeSays Z tb (Y.1.del (placeOf o.tab.number o.cuts[k]) Y.2) w')):=fun w' hb=>jQjl K hK0 hK Y.1 _ _ _ _ tb Y.2 w' (hnode.below hb) ⟨hY1.t,by have:=hY1.rows;omega⟩ (hA.box.tr.below hb) hY2 (fun g hg=>HZ.o g (by have:=hb.size;omega)) hJ hF hi.1 hi.2
      have hT:=hY1.del hK0 (placeOf o.tab.number o.cuts[k]) hY2;have hq:Sq.cutsR o.tab.number (o.cuts.drop (k+1)) (Y.1.del (placeOf o.tab.number o.cuts[k]) Y.2)=Q:=by rw[<-jQn2 _ _ _ hkt];exact hYP
      have hs:=HS.o;obtain⟨Y',hY'⟩:∃Y',Y'=Y.1.del (placeOf o.tab.number o.cuts[k]) Y.2:=⟨_,rfl⟩;rw[<-hY'] at hs hT hq;obtain⟨hy,hhy⟩:∃x,x=Y.1.head:=⟨_,rfl⟩;rw[jQc] at hs;rw[<-hhy] at hs l0 l3 l4 l5 l6;have hC:=hd hs;have HT:=hd hT;have HQ:=hd hq;have hj:=hd hA;have i1:(k:Int)<(o.cuts.length:Int):=by omega
      have i2:¬((o.cuts.length:Int)<=(k:Int)):=by omega
      have i0:¬((k:Int)<0):=by omega
      clear hs hT hq hA hY' hhy HS hi hbox hnode hY1 hY2 hYP;go_wp2
      go_region_with (go_at_call 82;refine(hC.o _ (Below.drew (bR))).mono ?_;rintro e w5 ⟨ev5,cv5,rfl,hn5,ht5,hf5⟩;obtain⟨⟨x1,x2,x3,hev⟩,y1,y2,y3,hcv⟩:=hn5.slices;subst hev hcv;have hp:TFrm tb wo w5:=(TFrm.of (Below.drew (bR)) (by omega)).trans hf5;have hu:=hd (hj.o.next (nR) hB hn5 ht5 hp);obtain⟨q1,q2,q3,q4,q5,q6,hbox,-⟩:=hj.o.box.box;have ha:=(hp.keep w.heap.size _ _ _ hbox (by decide) (by decide)).trans hbox;obtain⟨b0,b1,b2,b3,b4,b5,b6⟩:=jQs ha;have z0:=jQd ha 0;have z1:=jQd ha 1;have z2:=jQd ha 2;have z3:=jQd ha 3;have z4:=jQd ha 4;have z5:=jQd ha 5;have z6:=jQd ha 6;have hD:=jQf ha;clear hf5 hp ht5 hn5 ha hbox;obtain⟨yh,hyh⟩:∃x,x=Y'.1.head:=⟨_,rfl⟩;have hh:=hu.o;rw[<-hyh] at hh;rw[<-hyh,jQc];have hl:=hd hh;clear hyh hh hu)
      all_goals(try go_wp2)
      all_goals
       go_roundw
       case rel=>exact⟨k+1,by go_num,by omega,Y',hl.o,HT.o.1,HT.o.2,HQ.o⟩
       case measure=>simp[intOf];omega
     ·have i1:¬((k:Int)<(o.cuts.length:Int)):=by omega
      have hz:k=o.cuts.length:=by omega
      subst hz;have hn:Y=Q:=by rw[<-hYP];simp[Sq.cutsR]
      subst hn;have he:=endS hnode hA.box.tr hA.frm hA.res (by omega) (by omega) (.bool Y.1.head.inner) (.slice f1 f2 f3) (.slice g1 g2 g3) (.int .i64 Y.1.head.least) (.int .i64 Y.1.head.rows) (.string Y.1.head.sl) (.int .i64 Y.1.head.num);obtain⟨b0,b1,b2,b3,b4,b5,b6⟩:=jQs hA.res;have z0:=jQd hA.res 0;have z1:=jQd hA.res 1;have z2:=jQd hA.res 2;have z3:=jQd hA.res 3;have z4:=jQd hA.res 4;have z5:=jQd hA.res 5;have z6:=jQd hA.res 6;obtain⟨yh,hyh⟩:∃x,x=Y.1.head:=⟨_,rfl⟩;rw[<-hyh] at he l0 l3 l4 l5 l6;have HE:=hd he;have hO:=hd hyh;clear hbox hnode hYP hA hY1 hY2 he hyh;go_wp2;refine bodyPost_ret (v:=.agg (headCells yh (.slice f1 f2 f3) (.slice g1 g2 g3)).toArray) (by simp[results,Tryz.results54,go_sem,headCells, *]) rfl ?_;exact⟨_,_,by rw[hO.o],HE.o.1,HE.o.2.1,HE.o.2.2⟩
end
end Go.Proofs.YtahpihjialbanaaGreatDoor
