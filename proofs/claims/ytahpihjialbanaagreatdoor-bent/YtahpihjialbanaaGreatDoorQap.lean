import Derived.Test.YtahpihjialbanaaGreatDoorQao
set_option linter.all false
set_option maxRecDepth 100000
set_option maxHeartbeats 40000000
namespace Go.Proofs.YtahpihjialbanaaGreatDoor
open Sq (bd bS jAf jBP jBn jD2 jDC jDh jEH jEb)
variable {pb:Nat}{w:World}
section
open Go.RowKit
variable {A:Nat->Prop}
theorem Sq.jSQ (l:List bS):l.dropLast.length<=l.length:=by simp
theorem qAl {l:List bS}(op:BA)(h:SP A pb w l)(hn:l.length+1<=100000)(hA:∀q,A q->q<w.heap.size) :
  Calls Tryz.prog 156 #[.pointer (some ⟨pb,0,none⟩),.string op] w fun e w'=>e=.returned (.tuple #[])/\SP A pb w' (jDC l op)/\Below pb w w':=by
 have hM:=h.lt;have H:=hd h;have hs:=hd hA;clear hA;have hK:=Sq.jSQ l;have hL:=Sq.jSQ l.dropLast;clear h;go_enter Tryz.func156,Tryz.ntmps156;go_wp2_with fail;refine(jN0 H.o).mono ?_;rintro e w1 ⟨rfl,hX,hZ,-⟩;have hD:=hd hX;obtain⟨x,hx⟩:∃x,x=jD2 l:=⟨_,rfl⟩;rw[<-hx];have HX:=hd hx;have hO:=hX.lt;have hu:=hd hZ;clear hX hx hZ;obtain⟨⟨xl,xh⟩,⟨nl,nh⟩⟩:=x;unfold jAy;simp only;obtain⟨V,hV⟩:∃V,V=w1.alloc (.cells #[.int .i64 xl,.int .i64 xh,.int .i64 nl,.int .i64 nh] 224):=⟨_,rfl⟩;have hi:Below w1.heap.size w1 V:=by rw[hV];exact bA
 have hr:V.heap[w1.heap.size]?=some (.cells #[.int .i64 xl,.int .i64 xh,.int .i64 nl,.int .i64 nh] 224):=by rw[hV];exact jQi _ _
 have hG:=hu.o.size;have hz:=hd ((hD.o.more (b:=w1.heap.size) nR).below hi);have hJ:=hd hi;have hB:=hd hr;have hg:Hid (Below pb w V):=hu.o.trans (hi.mono (by omega));have hI:=jQe hr;clear hi hr;cases h1:op.toList==[110,111,116]
 case true =>
  have HE:Hid (jDC l op=l.dropLast++[⟨⟨nl,nh⟩,⟨xl,xh⟩⟩]):=by show _=_;unfold jDC;rw[h1,<-HX.o];rfl
  go_wp2_with fail;rw[<-hV]
  refine(jLx ⟨⟨nl,nh⟩,⟨xl,xh⟩⟩ hz.o (by omega) (fun q hq=>by
   rcases hq with hq | hq
   ·have:=hs.o q hq;omega
   omega)).mono ?_
  rintro e w2 ⟨rfl,hR,hS,-⟩;have hE:=hd (hR.less fun q hq=>Or.inl hq);clear hR;go_wp2;exact cp (v:=.tuple #[]) (by simp[results,Tryz.results156,go_sem]) rfl ⟨rfl,by rw[HE.o];exact hE.o,hg.o.trans hS⟩
 case false =>
  go_wp2_with fail;rw[<-hV];clear hV;refine(jN0 hz.o).mono ?_;rintro e w2 ⟨rfl,hR,hS,h0⟩;have hp:w2.heap[w1.heap.size]?=some (.cells #[.int .i64 xl,.int .i64 xh,.int .i64 nl,.int .i64 nh] 224):=(h0 _ hI (by omega)).trans hB.o;obtain⟨y,hy⟩:∃x,x=jD2 l.dropLast:=⟨_,rfl⟩;rw[<-hy];have HY:=hd hy;obtain⟨⟨yl,yh⟩,⟨zl,zh⟩⟩:=y;unfold jAy;simp only;obtain⟨U,hU⟩:∃U,U=w2.alloc (.cells #[.int .i64 yl,.int .i64 yh,.int .i64 zl,.int .i64 zh] 224):=⟨_,rfl⟩;have hh:Below w2.heap.size w2 U:=by rw[hU];exact bA
  have hj:U.heap[w2.heap.size]?=some (.cells #[.int .i64 yl,.int .i64 yh,.int .i64 zl,.int .i64 zh] 224):=by rw[hU];exact jQi _ _
  have hf:=(hh.block _ (jQe hp)).trans hp;have ho:=hd ((hR.more (b:=w2.heap.size) nR).below hh);have hH:=hS.size;have hN:=jQe hj
  have ht:Hid (∀w':World,U.heap.size<=w'.heap.size->∀q,(A q\/q=w1.heap.size)\/q=w2.heap.size->q<w'.heap.size):=fun w' hw q hq=>by
   rcases hq with(hq | hq) | hq
   ·have:=hs.o q hq;omega
   ·omega
   omega
  have hv:Hid (Below pb w U):=hg.o.trans (hS.trans (hh.mono (by have:=hR.lt;omega)));have hc:Hid (∀w',Below U.heap.size U w'->w'.heap[w1.heap.size]?=some (.cells #[.int .i64 xl,.int .i64 xh,.int .i64 nl,.int .i64 nh] 224)/\w'.heap[w2.heap.size]?=some (.cells #[.int .i64 yl,.int .i64 yh,.int .i64 zl,.int .i64 zh] 224)):=fun w' hY=>⟨(hY.block _ (jQe hf)).trans hf,(hY.block _ (jQe hj)).trans hj⟩
  have hF:=ho.o.lt;clear hR hS h0 hp hy hh hj hf;cases h2:op.toList==[97,110,100]
  case true =>
   have HE:Hid (jDC l op=l.dropLast.dropLast++[⟨jEH ⟨yl,yh⟩ ⟨xl,xh⟩,jBP ⟨zl,zh⟩ ⟨nl,nh⟩⟩]):=by show _=_;unfold jDC;rw[h1,h2,<-HX.o,<-HY.o];rfl
   obtain⟨A,hA⟩:∃A,A=jEH ⟨yl,yh⟩ ⟨xl,xh⟩:=⟨_,rfl⟩;obtain⟨C,hC⟩:∃A,A=jBP ⟨zl,zh⟩ ⟨nl,nh⟩:=⟨_,rfl⟩;have he:=HE.o;rw[<-hA,<-hC] at he;have hl:=hd he;have HA:=hd hA;have HC:=hd hC;obtain⟨al,ah⟩:=A;obtain⟨cl,ch⟩:=C;clear hA hC he HE;go_wp2;rw[<-hU];clear hU;obtain⟨x0,x1⟩:=hc.o U bR;obtain⟨⟨a0,a1,a2,a3⟩,-,a4⟩:=jQH x0;obtain⟨⟨b0,b1,b2,b3⟩,-,b4⟩:=jQH x1;have ha:Hid (Below U.heap.size U U):=bR;clear x0 x1
   go_region_held3 (fun w'=>(w'.cell? ⟨w1.heap.size,0,none⟩=some (.int .i64 xl)/\w'.cell? ⟨w1.heap.size,1,none⟩=some (.int .i64 xh)/\w'.cell? ⟨w1.heap.size,2,none⟩=some (.int .i64 nl)/\w'.cell? ⟨w1.heap.size,3,none⟩=some (.int .i64 nh))/\w'.cell? ⟨w2.heap.size,0,none⟩=some (.int .i64 yl)/\w'.cell? ⟨w2.heap.size,1,none⟩=some (.int .i64 yh)/\w'.cell? ⟨w2.heap.size,2,none⟩=some (.int .i64 zl)/\w'.cell? ⟨w2.heap.size,3,none⟩=some (.int .i64 zh)) (go_keep) (first
    | (go_at_call 201;refine(jUs ⟨yl,yh⟩ ⟨xl,xh⟩ _).mono ?_;rintro e w5 ⟨rfl,hP⟩;rw[<-HA.o];have hb:Below U.heap.size U w5:=(by first | exact ha.o.trans (hP.mono ha.o.size) | exact(ha.o.drew).trans (hP.mono (by first | (simp;done) | (have:=ha.o.size;simp;omega))));obtain⟨x0,x1⟩:=hc.o w5 hb;obtain⟨⟨c0,c1,c2,c3⟩,-,c4⟩:=jQH x0;obtain⟨⟨d0,d1,d2,d3⟩,-,d4⟩:=jQH x1;clear ha;have ha:=hd hb;clear hP hb x0 x1;unfold jAh;simp only)
    | (go_at_call 202;refine(jSe ⟨zl,zh⟩ ⟨nl,nh⟩ _).mono ?_;rintro e w5 ⟨rfl,hP⟩;rw[<-HC.o];have hb:Below U.heap.size U w5:=(by first | exact ha.o.trans (hP.mono ha.o.size) | exact(ha.o.drew).trans (hP.mono (by first | (simp;done) | (have:=ha.o.size;simp;omega))));obtain⟨x0,x1⟩:=hc.o w5 hb;obtain⟨⟨c0,c1,c2,c3⟩,-,c4⟩:=jQH x0;obtain⟨⟨d0,d1,d2,d3⟩,-,d4⟩:=jQH x1;clear ha;have ha:=hd hb;clear hP hb x0 x1;unfold jAh;simp only)
    | (go_at_call 155;refine(jLx ⟨⟨al,ah⟩,⟨cl,ch⟩⟩ (ho.o.below ha.o) (by omega) (ht.o _ ha.o.size)).mono ?_;rintro e w6 ⟨rfl,hW,hT,hQ⟩;obtain⟨x0,x1⟩:=hc.o _ ha.o;have x2:=(hQ w1.heap.size (Or.inl (Or.inr rfl)) (by omega)).trans x0;have x3:=(hQ w2.heap.size (Or.inr rfl) (by omega)).trans x1;obtain⟨⟨n0,n1,n2,n3⟩,-,n4⟩:=jQH x2;obtain⟨⟨p0,p1,p2,p3⟩,-,p4⟩:=jQH x3;have hm:=hd (hW.less fun q hq=>Or.inl (Or.inl hq));have hk:Hid (Below pb w w6):=hv.o.trans ((ha.o.mono (by omega)).trans hT);clear hW hT hQ x0 x1 x2 x3))
   all_goals(try go_wp2)
   all_goals
    go_end0;exact⟨rfl,by rw[hl.o];exact hm.o,hk.o⟩
  case false =>
   have HE:Hid (jDC l op=l.dropLast.dropLast++[⟨jBP ⟨yl,yh⟩ ⟨xl,xh⟩,jEH ⟨zl,zh⟩ ⟨nl,nh⟩⟩]):=by show _=_;unfold jDC;rw[h1,h2,<-HX.o,<-HY.o];rfl
   obtain⟨A,hA⟩:∃A,A=jBP ⟨yl,yh⟩ ⟨xl,xh⟩:=⟨_,rfl⟩;obtain⟨C,hC⟩:∃A,A=jEH ⟨zl,zh⟩ ⟨nl,nh⟩:=⟨_,rfl⟩;have he:=HE.o;rw[<-hA,<-hC] at he;have hl:=hd he;have HA:=hd hA;have HC:=hd hC;obtain⟨al,ah⟩:=A;obtain⟨cl,ch⟩:=C;clear hA hC he HE;go_wp2;rw[<-hU];clear hU;obtain⟨x0,x1⟩:=hc.o U bR;obtain⟨⟨a0,a1,a2,a3⟩,-,a4⟩:=jQH x0;obtain⟨⟨b0,b1,b2,b3⟩,-,b4⟩:=jQH x1;have ha:Hid (Below U.heap.size U U):=bR;clear x0 x1
   go_region_held3 (fun w'=>(w'.cell? ⟨w1.heap.size,0,none⟩=some (.int .i64 xl)/\w'.cell? ⟨w1.heap.size,1,none⟩=some (.int .i64 xh)/\w'.cell? ⟨w1.heap.size,2,none⟩=some (.int .i64 nl)/\w'.cell? ⟨w1.heap.size,3,none⟩=some (.int .i64 nh))/\w'.cell? ⟨w2.heap.size,0,none⟩=some (.int .i64 yl)/\w'.cell? ⟨w2.heap.size,1,none⟩=some (.int .i64 yh)/\w'.cell? ⟨w2.heap.size,2,none⟩=some (.int .i64 zl)/\w'.cell? ⟨w2.heap.size,3,none⟩=some (.int .i64 zh)) (go_keep) (first
    | (go_at_call 202;refine(jSe ⟨yl,yh⟩ ⟨xl,xh⟩ _).mono ?_;rintro e w5 ⟨rfl,hP⟩;rw[<-HA.o];have hb:Below U.heap.size U w5:=(by first | exact ha.o.trans (hP.mono ha.o.size) | exact(ha.o.drew).trans (hP.mono (by first | (simp;done) | (have:=ha.o.size;simp;omega))));obtain⟨x0,x1⟩:=hc.o w5 hb;obtain⟨⟨c0,c1,c2,c3⟩,-,c4⟩:=jQH x0;obtain⟨⟨d0,d1,d2,d3⟩,-,d4⟩:=jQH x1;clear ha;have ha:=hd hb;clear hP hb x0 x1;unfold jAh;simp only)
    | (go_at_call 201;refine(jUs ⟨zl,zh⟩ ⟨nl,nh⟩ _).mono ?_;rintro e w5 ⟨rfl,hP⟩;rw[<-HC.o];have hb:Below U.heap.size U w5:=(by first | exact ha.o.trans (hP.mono ha.o.size) | exact(ha.o.drew).trans (hP.mono (by first | (simp;done) | (have:=ha.o.size;simp;omega))));obtain⟨x0,x1⟩:=hc.o w5 hb;obtain⟨⟨c0,c1,c2,c3⟩,-,c4⟩:=jQH x0;obtain⟨⟨d0,d1,d2,d3⟩,-,d4⟩:=jQH x1;clear ha;have ha:=hd hb;clear hP hb x0 x1;unfold jAh;simp only)
    | (go_at_call 155;refine(jLx ⟨⟨al,ah⟩,⟨cl,ch⟩⟩ (ho.o.below ha.o) (by omega) (ht.o _ ha.o.size)).mono ?_;rintro e w6 ⟨rfl,hW,hT,hQ⟩;obtain⟨x0,x1⟩:=hc.o _ ha.o;have x2:=(hQ w1.heap.size (Or.inl (Or.inr rfl)) (by omega)).trans x0;have x3:=(hQ w2.heap.size (Or.inr rfl) (by omega)).trans x1;obtain⟨⟨n0,n1,n2,n3⟩,-,n4⟩:=jQH x2;obtain⟨⟨p0,p1,p2,p3⟩,-,p4⟩:=jQH x3;have hm:=hd (hW.less fun q hq=>Or.inl (Or.inl hq));have hk:Hid (Below pb w w6):=hv.o.trans ((ha.o.mono (by omega)).trans hT);clear hW hT hQ x0 x1 x2 x3))
   all_goals(try go_wp2)
   all_goals
    go_end0;exact⟨rfl,by rw[hl.o];exact hm.o,hk.o⟩
end
section
open Go.RowKit
theorem Sq.qAk (l:List bS)(op:BA):(jDC l op).length<=l.length+1:=by
 unfold jDC
 split
 ·simp
 split<;>simp<;>omega
theorem Sq.jY2 (f:List bS->bd->List bS)(l:List bd)(k:Nat)(h:k<l.length):(l.take (k+1)).foldl f []=f ((l.take k).foldl f []) l[k]:=by
 rw[cI h,List.foldl_append];rfl
theorem jYp (a b c d:Value)(w:World):(Instr.field 224 (.agg #[a,b,c,d]) 0).run Tryz.prog w=.ok (.agg #[a,b]) w:=by
 simp[Instr.field,go_sem,asAgg]
def jKr (s:bd):Prop:=(-100000000000<=s.left.lit.number/\s.left.lit.number<=100000000000)/\-100000000000<=s.right.lit.number/\s.right.lit.number<=100000000000
theorem jYZ (cols:List Sq.Col)(l:List bd)(cv sv:Value)(w:World)(h:aX w cv cols)(hs:jCL w sv l)(hl:l.length<=50000)(h3:∀s∈l,jKr s) :
  Calls Tryz.prog 116 #[cv,sv] w fun e w'=>e=.returned (.agg (jAh (jBn cols l)))/\Below w.heap.size w w':=by
 obtain⟨bo,h7,rfl⟩:=jQa hs.1;have H:=hd h;have HS:=hd hs;have hK:=hd h3;clear h hs h3;have HE:Hid (jBn cols l=(jD2 (l.foldl (jEb cols) [])).yes):=rfl;obtain⟨W,hW,h0,k0,k1⟩:=jKU w (.cells #[.int .i64 0,.int .i64 0] 174) (.cells #[.slice none 0 0] 222);have hF:W.heap.size=w.heap.size+2:=by rw[hW];simp
 have hE:SP (fun _=>False) (w.heap.size+1) W []:=⟨⟨.slice none 0 0,k1,cu _ _ _ _,fun _ _ h=>h⟩,by simp⟩;have hL:=hd hE;have HW:=hd h0;have hJ:=hd k0;have hN:=hd hF;clear h0 k0 k1 hE hF;go_enter Tryz.func116,Tryz.ntmps116;go_wp2;rw[<-hW];clear hW
 go_loopw [6] (fun i wr=>∃k:Nat,k<=l.length/\i=.int .i64 k/\SP (fun _=>False) (w.heap.size+1) wr ((l.take k).foldl (jEb cols) [])/\((l.take k).foldl (jEb cols) []).length<=k/\Below (w.heap.size+1) W wr) (fun i _=>l.length-(intOf i).toNat)
 case atStart=>exact⟨0,zR,rfl,hL.o,by simp,bR⟩
 case round =>
  obtain⟨k,hk,rfl,ha,hlen,hb⟩:=hrel;obtain⟨wo,rfl⟩:∃wo:World,wo=wr:=⟨_,rfl⟩;have hr:Below w.heap.size w wo:=HW.o.trans (hb.mono (by omega));have hR:=ha.lt;have hq:=hd ha;have HB:=hd hb;clear ha hb
  by_cases hlt:k<l.length
  ·obtain⟨x,hx⟩:∃x,x=l[k]:=⟨_,rfl⟩;have hi:=hK.o l[k] (cJ hlt);rw[<-hx] at hi
   have cells:∀W',Below w.heap.size w W'->∃g,bo=some ⟨g,0,none⟩/\g<W'.heap.size/\∀j u,j<9->x.cells[j]?=some u->W'.cell? ⟨g,k*9+j,none⟩=some u:=by
    intro W' h5;obtain⟨g,h4,hv,hg,hc⟩:=jCc (f:=Sq.bd.cells) (fun _=>rfl) (HS.o.below h5).1 k hlt;simp only[Value.slice.injEq] at hv;exact⟨g,hv.1,hg,by rw[hx];exact hc⟩
   have HC:=hd cells;obtain⟨ls,hY⟩:∃x,x=(l.take k).foldl (jEb cols) []:=⟨_,rfl⟩;have hz:=Sq.jY2 (jEb cols) l k hlt;rw[<-hY,<-hx] at hz;rw[<-hY] at hlen;have ha:=hq.o;rw[<-hY] at ha;have hf:=hd ha;have hp:=hd hz;clear cells hx hY hz ha hq;obtain⟨g,h6,hg,hc⟩:=HC.o wo hr;subst h6;have hh:Hid (jEb cols ls x=if jAf x.op then ls++[jDh cols x] else jDC ls x.op):=rfl;have hG:=fun w1 hc=>jXm cols cv x w1 hc hi.1.1 hi.1.2 hi.2.1 hi.2.2
   have hB:=hd hG;clear hG hi;obtain⟨op,⟨lc,⟨lk,ln,lt⟩⟩,⟨rc,⟨rk,rn,rt⟩⟩⟩:=x;have c0:=hc 0 _ (by decide) rfl;have c1:=hc 1 _ (by decide) rfl;have c2:=hc 2 _ (by decide) rfl;have c3:=hc 3 _ (by decide) rfl;have c4:=hc 4 _ (by decide) rfl;have c5:=hc 5 _ (by decide) rfl;have c6:=hc 6 _ (by decide) rfl;have c7:=hc 7 _ (by decide) rfl;have c8:=hc 8 _ (by decide) rfl;simp only[dB] at c0;clear hc;go_wp2_with fail;refine(jMM ⟨op,⟨lc,⟨lk,ln,lt⟩⟩,⟨rc,⟨rk,rn,rt⟩⟩⟩ _).mono ?_;rintro e w1 ⟨rfl,hX⟩;have hn:Below w.heap.size w w1:=hr.trans (hX.mono hr.size);have hA:=hd (HB.o.trans (hX.mono (by omega)));have hm:=hd (hf.o.below hX);have hQ:=hX.size;clear c0 c1 c2 c3 c4 c5 c6 c7 c8 hX hf HB;obtain⟨g',h1,h8,hc⟩:=HC.o w1 hn;have hM:g=g':=by simpa using h1
   subst hM;have c0:=hc 0 _ (by decide) rfl;have c1:=hc 1 _ (by decide) rfl;have c2:=hc 2 _ (by decide) rfl;have c3:=hc 3 _ (by decide) rfl;have c4:=hc 4 _ (by decide) rfl;have c5:=hc 5 _ (by decide) rfl;have c6:=hc 6 _ (by decide) rfl;have c7:=hc 7 _ (by decide) rfl;have c8:=hc 8 _ (by decide) rfl;simp only[dB] at c0;clear hc h1;cases hcmp:jAf op
   case true =>
    have hj:Hid ((l.take (k+1)).foldl (jEb cols) []=ls++[jDh cols ⟨op,⟨lc,⟨lk,ln,lt⟩⟩,⟨rc,⟨rk,rn,rt⟩⟩⟩]):=by show _=_;rw[hp.o,hh.o,hcmp];rfl
    obtain⟨sd,hT⟩:∃sd,sd=jDh cols ⟨op,⟨lc,⟨lk,ln,lt⟩⟩,⟨rc,⟨rk,rn,rt⟩⟩⟩:=⟨_,rfl⟩;have he:=hj.o;rw[<-hT] at he;have ho:=hd he;have hw:=hd hT;clear hp hh hj he hT;go_wp2_with fail;refine(hB.o w1 (H.o.below hn)).mono ?_;rintro e w2 ⟨rfl,hZ⟩;rw[<-hw.o];obtain⟨⟨s0,s1⟩,⟨s2,s3⟩⟩:=sd;unfold jAy;simp only;obtain⟨V,hV⟩:∃V,V=w2.alloc (.cells #[.int .i64 s0,.int .i64 s1,.int .i64 s2,.int .i64 s3] 224):=⟨_,rfl⟩;have hy:Below w1.heap.size w1 V:=by rw[hV];exact hZ.alloc hZ.size _
    have hu:=hd (hm.o.below hy);have hH:=hd (hA.o.trans (hy.mono (by omega)));clear hZ hy c0 c1 c2 c3 c4 c5 c6 c7 c8;go_wp2_with fail;rw[<-hV];clear hV;refine(jLx ⟨⟨s0,s1⟩,⟨s2,s3⟩⟩ hu.o (by omega) (fun _ h=>h.elim)).mono ?_;rintro e w3 ⟨rfl,hS,hU,-⟩;have ht:=hd hS;clear hS;go_wp2;go_roundw;exact⟨k+1,by omega,by go_num,by rw[ho.o];exact ht.o,by rw[ho.o];simp;omega,hH.o.trans hU⟩;simp[intOf];omega
   case false =>
    have hj:Hid ((l.take (k+1)).foldl (jEb cols) []=jDC ls op):=by show _=_;rw[hp.o,hh.o,hcmp];rfl
    have hP:=Sq.qAk ls op;clear hp hh hB;go_wp2_with fail;refine(qAl op hm.o (by omega) (fun _ h=>h.elim)).mono ?_;rintro e w3 ⟨rfl,hS,hU⟩;have ht:=hd hS;clear hS;go_wp2;go_roundw;exact⟨k+1,by omega,by go_num,by rw[hj.o];exact ht.o,by rw[hj.o];omega,hA.o.trans hU⟩;simp[intOf];omega
  have hD:l.take k=l:=cL (by omega);have ha:=hq.o;rw[hD] at ha;have hf:=hd ha;obtain⟨sd,hT⟩:∃sd,sd=jD2 (l.foldl (jEb cols) []):=⟨_,rfl⟩;have he:=HE.o;rw[<-hT] at he;have ho:=hd he;have hw:=hd hT;clear ha hD hq he hT;go_wp2_with fail;refine(jN0 hf.o).mono ?_;rintro e w3 ⟨rfl,hS,hU,h2⟩;rw[<-hw.o];obtain⟨⟨s0,s1⟩,⟨s2,s3⟩⟩:=sd;have hC:w3.heap[w.heap.size]?=some (.cells #[.int .i64 0,.int .i64 0] 174):=(h2 _ (by omega) (by omega)).trans ((HB.o.block _ (by omega)).trans hJ.o);obtain⟨j0,j1,j2,j3,j4⟩:=jF4 hC;have hI:=hd (hr.trans (hU.mono (by omega)));have hO:=jYp (.int .i64 s0) (.int .i64 s1) (.int .i64 s2) (.int .i64 s3) w3;clear hS hU h2 hC;unfold jAy;simp only;go_wp2;refine cp (v:=.agg #[.int .i64 s0,.int .i64 s1]) (by simp[results,Tryz.results116,go_sem, *]) rfl ⟨by rw[ho.o];rfl,?_⟩
  repeat (first | exact hI.o | refine cj (B:=w.heap.size) ?_ (by simp) _)
end
end Go.Proofs.YtahpihjialbanaaGreatDoor
