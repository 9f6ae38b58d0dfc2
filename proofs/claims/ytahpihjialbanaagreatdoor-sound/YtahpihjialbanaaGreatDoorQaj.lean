import Derived.Test.YtahpihjialbanaaGreatDoorQai
set_option linter.all false
set_option maxRecDepth 100000
set_option maxHeartbeats 2000000
namespace Go.Proofs.YtahpihjialbanaaGreatDoor
open Sq (Trl aj placeOf aS Val jAL jAu jBb)
variable {W w w1:World}{a0 a1 a2 a3 a4 a5 a6 cv ev:Value}{b n tb:Nat}{c:Array Value}{t:TypeId}
section
open Go.RowKit
variable {Z:Nat->Prop}
theorem jQq (h:w.heap[b]?=some (.cells #[a0,a1,a2,a3,a4,a5,a6] t)) :
  w.cell? ⟨b,0,none⟩=some a0/\w.cell? ⟨b,1,none⟩=some a1/\w.cell? ⟨b,2,none⟩=some a2/\w.cell? ⟨b,3,none⟩=some a3/\w.cell? ⟨b,4,none⟩=some a4/\w.cell? ⟨b,5,none⟩=some a5/\w.cell? ⟨b,6,none⟩=some a6 :=
 ⟨by rw[jQb h];rfl,by rw[jQb h];rfl,by rw[jQb h];rfl,by rw[jQb h];rfl,by rw[jQb h];rfl,by rw[jQb h];rfl,by rw[jQb h];rfl⟩
theorem jIY {a b:Obj}(h:W=(w.alloc a).alloc b):Below w.heap.size w W/\W.heap[w.heap.size]?=some a/\W.heap[w.heap.size+1]?=some b:=by
 subst h;refine⟨(bA).alloc (by simp) _,?_,?_⟩
 ·exact((Below.refl (w.alloc a).heap.size (w.alloc a)).alloc nR b).block w.heap.size (by simp) |>.trans (jQi _ _)
 rw[<-jQr w a];exact jQi _ _
theorem jQU {a b c:Obj}(h:W=((w.alloc a).alloc b).alloc c):Below w.heap.size w W/\W.heap[w.heap.size]?=some a/\W.heap[w.heap.size+1]?=some b/\W.heap[w.heap.size+1+1]?=some c:=by
 subst h;obtain⟨h1,h2,h3⟩:=jIY (W:=(w.alloc a).alloc b) rfl;have hs:((w.alloc a).alloc b).heap.size=w.heap.size+1+1:=by simp
 have hb:=(Below.refl ((w.alloc a).alloc b).heap.size ((w.alloc a).alloc b)).alloc nR c;refine⟨h1.trans (hb.mono (by omega)),(hb.block _ (by omega)).trans h2,(hb.block _ (by omega)).trans h3,?_⟩;rw[<-hs];exact jQi _ _
theorem Sq.jT4 {row:List Val}(h:∀v∈row,v.text.size<=1000/\-100000000000<=v.number/\v.number<=100000000000):-100000000000<=Sq.keyOf row/\Sq.keyOf row<=100000000000:=by
 cases row with
 | nil=>exact⟨by decide,by decide⟩
 | cons v r=>exact(h v (by simp)).2
theorem jJG {t:Sq.Nd n}{tr:Trl}(hn:ag Z w1 n t ev cv)(ht:bk tb w1 tr)(hf:aA tb w w1)(hb:w1.heap[b]?=some (.cells c 91))(h1:w.heap.size<=b)(h2:tb<=b)(x0 x1 x2 x3 x4 x5 x6:Value) :
  ag Z (bT w1 b x0 x1 x2 x3 x4 x5 x6) n t ev cv/\bk tb (bT w1 b x0 x1 x2 x3 x4 x5 x6) tr/\aA tb w (bT w1 b x0 x1 x2 x3 x4 x5 x6):=by
 have hk:jDL 91 w1 (bT w1 b x0 x1 x2 x3 x4 x5 x6):=by
  intro q cq e fr hq he;refine jQl _ _ _ _ _ _ _ _ _ fun e2=>?_
  subst e2;rw[hb] at hq;simp only[Option.some.injEq,Obj.cells.injEq] at hq;exact he hq.2.1.symm
 exact⟨hn.same fun g c e fr hg he=>hk g c e fr hg (by rcases he with rfl | rfl<;>decide),ht.keeps hk (by decide) (by decide),hf.bT h1 h2 x0 x1 x2 x3 x4 x5 x6⟩
theorem jWY (K:Int)(hH:0<=K)(hK:K<=99998)(X:aj)(ev cv:Value)(n k:Int)(tb:Nat)(tr:Trl)(w:World)(h:ag Z w X.d X.t ev cv)(hf:jBb K 900000000 X)(ht:bk tb w tr)(hr:aS K tr)(hZ:∀g,w.heap.size<=g->¬Z g)(hN:0<=n)(hO:n<=100000)(hL:-100000000000<=k)(hM:k<=100000000000) :
  Calls Tryz.prog 82 #[.agg (ae X.head ev cv).toArray,.int .i64 n,.int .i64 k,.pointer (some ⟨tb,0,none⟩)] w (jA7 Z tb (X.del (placeOf n k) tr) w):=by
 obtain⟨⟨e1,e2,e3,hz⟩,c1,c2,c3,hy⟩:=h.aG;subst hz hy;have HK:Hid (∀w',Below w.heap.size w w'->Calls Tryz.prog 128 #[.agg (ae X.head (.slice e1 e2 e3) (.slice c1 c2 c3)).toArray,.int .i64 (placeOf n k),.pointer (some ⟨tb,0,none⟩)] w' (jA7 Z tb (X.del (placeOf n k) tr) w')):=fun w' hb=>jZJ K hH hK X _ _ _ tb tr w' (h.below hb) hf (ht.below hb) hr (fun g hg=>hZ g (cm hb.size hg))
 have hk:=HK.o;have hs:=ht.lt;obtain⟨Y,hY⟩:∃Y,Y=X.del (placeOf n k) tr:=⟨_,rfl⟩;obtain⟨hh,hE⟩:∃x,x=X.head:=⟨_,rfl⟩;rw[<-hY,<-hE] at hk ⊢;rw[jQc] at hk ⊢;have hn:=hd hk;clear h hf ht hr hZ HK hk hY hE;go_enter Tryz.func82,Tryz.ntmps82;go_wp2;obtain⟨W,hW⟩:∃W:World,W=(w.alloc (.cells #[.bool hh.inner,.slice e1 e2 e3,.slice c1 c2 c3,.int .i64 hh.least,.int .i64 hh.rows,.string hh.sl,.int .i64 hh.num] 91)).alloc (.cells #[.bool false,.slice none 0 0,.slice none 0 0,.int .i64 0,.int .i64 0,.string ⟨#[]⟩,.int .i64 0] 91):=⟨_,rfl⟩;rw[<-hW];obtain⟨hC,hx,ha⟩:=jIY hW;obtain⟨k0,k1,k2,k3,k4,k5,k6⟩:=jQq hx;have hw:=jQe ha;have hv:=jQe hx;have hi:=hd hC;have hc:=hd ha;clear hC ha hx hW
 go_region_with (first
  | (go_at_call 104;refine(jI9 _ _ _ (by omega) (by omega) (by omega) (by omega)).mono ?_;rintro e w5 ⟨rfl,hG⟩;rw[hG];clear hG w5)
  | (go_at_call 128;refine(hn.o _ hi.o.drew).mono ?_;rintro e w5 ⟨hJ,hI,rfl,hA,hF,hD⟩;obtain⟨⟨g1,g2,g3,hz⟩,j1,j2,j3,hy⟩:=hA.aG;subst hz hy;have hj:aA tb W w5:=(aA.of (cB bR) (by have:=hi.o.size;omega)).trans hD;have ha:=(hj.bC (w.heap.size+1) _ _ _ hc.o (by decide) (by decide)).trans hc.o;obtain⟨b0,b1,b2,b3,b4,b5,b6⟩:=jQq ha;have f0:=jQd ha 0;have f1:=jQd ha 1;have f2:=jQd ha 2;have f3:=jQd ha 3;have f4:=jQd ha 4;have f5:=jQd ha 5;have f6:=jQd ha 6;have hu:=jQe ha;have hm:Hid (aA tb w w5):=(aA.of hi.o (by omega)).trans hj;have ho:=hd hA;have hp:=hd hF;have hl:=hd ha;clear hD hj hF hA ha;obtain⟨yh,hB⟩:∃x,x=Y.1.head:=⟨_,rfl⟩;rw[<-hB,jQc];have hq:=hd hB;clear hB))
 all_goals(try go_wp2)
 all_goals
  refine cp (v:=.agg (ae yh (.slice g1 g2 g3) (.slice j1 j2 j3)).toArray) (by simp[results,Tryz.results82,go_sem,ae, *]) rfl ?_;have he:=jJG ho.o hp.o hm.o hl.o (eB _) (by omega) (.bool yh.inner) (.slice g1 g2 g3) (.slice j1 j2 j3) (.int .i64 yh.least) (.int .i64 yh.rows) (.string yh.sl) (.int .i64 yh.num);exact⟨_,_,by rw[hq.o],he.1,he.2.1,he.2.2⟩
theorem jXh (K:Int)(h6:0<=K)(hK:K<=99998)(X:aj)(ev cv:Value)(n:Int)(row:List Val)(rv:Value)(tb:Nat)(tr:Trl)(w:World)(h:ag Z w X.d X.t ev cv)(hf:jBb K 900000000 X)(ht:bk tb w tr)(hr:aS K tr)(hZ:∀g,w.heap.size<=g->¬Z g)(Hd:0<=n)(He:n<=100000)
  (hX:jA0 w rv row) (h9:row.length<=1000) (hV:∀v∈row,v.text.size<=1000/\-100000000000<=v.number/\v.number<=100000000000) (Ha:(jAu row).size<=300) :
  Calls Tryz.prog 81 #[.agg (ae X.head ev cv).toArray,.int .i64 n,.agg #[rv],.pointer (some ⟨tb,0,none⟩)] w (jA7 Z tb (X.put ⟨placeOf n (Sq.keyOf row),jAu row⟩ tr) w):=by
 obtain⟨⟨e1,e2,e3,hS⟩,c1,c2,c3,hR⟩:=h.aG;subst hS hR;obtain⟨ro,hQ,rfl⟩:=jQa hX.1;have HR:=hd hX;have hC:=hd hV;have hx:=Sq.jT4 hV;have HK:Hid (∀w',Below w.heap.size w w'->Calls Tryz.prog 125 #[.agg (ae X.head (.slice e1 e2 e3) (.slice c1 c2 c3)).toArray,.int .i64 (placeOf n (Sq.keyOf row)),.string (jAu row),.pointer (some ⟨tb,0,none⟩)] w' (jA7 Z tb (X.put ⟨placeOf n (Sq.keyOf row),jAu row⟩ tr) w')):=fun w' hb=>jUS K h6 (by omega) X _ _ _ _ Ha tb tr w' (h.below hb) hf (ht.below hb) hr (fun g hg=>hZ g (cm hb.size hg))
 have hk:=HK.o;have hG:=ht.lt;obtain⟨Y,hY⟩:∃Y,Y=X.put ⟨placeOf n (Sq.keyOf row),jAu row⟩ tr:=⟨_,rfl⟩;obtain⟨hh,h3⟩:∃x,x=X.head:=⟨_,rfl⟩;rw[<-hY,<-h3] at hk ⊢;rw[jQc] at hk ⊢;obtain⟨key,hM⟩:∃k,k=Sq.keyOf row:=⟨_,rfl⟩;rw[<-hM] at hx hk;obtain⟨h7,h8⟩:=hx;have hv:=hd hM;have hA:=hd hk;clear h hf ht hr hZ HK hk hY h3 hX hV hM;obtain⟨W,hW⟩:∃W:World,W=((w.alloc (.cells #[.bool hh.inner,.slice e1 e2 e3,.slice c1 c2 c3,.int .i64 hh.least,.int .i64 hh.rows,.string hh.sl,.int .i64 hh.num] 91)).alloc (.cells #[.slice ro row.length hQ] 138)).alloc (.cells #[.bool false,.slice none 0 0,.slice none 0 0,.int .i64 0,.int .i64 0,.string ⟨#[]⟩,.int .i64 0] 91):=⟨_,rfl⟩;obtain⟨h2,hO,hP,ha⟩:=jQU hW;have hL:=jQe ha;have hw:=hd h2;have hn:=hd hO;have hp:=hd hP;have hm:=hd ha;clear h2 ha hO hP;go_enter Tryz.func81,Tryz.ntmps81;go_wp2_with fail;rw[<-hW];clear hW;refine(jOw row _ _ (HR.o.below hw.o)).mono ?_;rintro e w1 ⟨rfl,hN⟩;rw[<-hv.o];have hi:=(hN.block w.heap.size (by omega)).trans hn.o;have hq:=(hN.block (w.heap.size+1) (by omega)).trans hp.o;have hc:=(hN.block (w.heap.size+1+1) (by omega)).trans hm.o;have hu:=hd (hw.o.trans (hN.mono (by omega)));have hH:=jQe hc;have c0:w1.cell? ⟨w.heap.size+1,0,none⟩=some (.slice ro row.length hQ):=by rw[jQb hq];rfl
 obtain⟨k0,k1,k2,k3,k4,k5,k6⟩:=jQq hi;have ho:=hd hi;have hl:=hd hc;clear hN hi hq hc hn hp hm;go_wp2_with fail;refine(jI9 _ _ _ (by omega) (by omega) (by omega) (by omega)).mono ?_;rintro e w5 ⟨rfl,h5⟩;rw[h5];clear h5 w5;go_wp2
 go_region_with (first
  | (go_at_call 127;refine(jXZ row _ _ ((HR.o.below hu.o).below (cB bR)).1 h9 hC.o).mono ?_;rintro e w2 ⟨rfl,h1⟩;have hj:Below w1.heap.size w1 w2:=(cB bR).trans h1;obtain⟨m0,m1,m2,m3,m4,m5,m6⟩:=jQq ((hj.block w.heap.size (by omega)).trans ho.o);have hI:=hj.size;have hF:w.heap.size<w2.heap.size:=(by omega);have hs:=hd hj;clear h1 hj)
  | (go_at_call 125;refine(hA.o _ (hu.o.trans (hs.o.mono (by omega)))).mono ?_;rintro e w5 ⟨Hc,Hb,rfl,hU,h4,hT⟩;obtain⟨⟨g1,g2,g3,hS⟩,j1,j2,j3,hR⟩:=hU.aG;subst hS hR;have ha:=(hT.bC (w.heap.size+1+1) _ _ _ ((hs.o.block (w.heap.size+1+1) (by omega)).trans hl.o) (by decide) (by decide)).trans ((hs.o.block (w.heap.size+1+1) (by omega)).trans hl.o);obtain⟨b0,b1,b2,b3,b4,b5,b6⟩:=jQq ha;have f0:=jQd ha 0;have f1:=jQd ha 1;have f2:=jQd ha 2;have f3:=jQd ha 3;have f4:=jQd ha 4;have f5:=jQd ha 5;have f6:=jQd ha 6;have hJ:=jQe ha;have hz:Hid (aA tb w w5):=(aA.of (hu.o.trans (hs.o.mono (by omega))) (by omega)).trans hT;have hB:=hd hU;have hD:=hd h4;have hy:=hd ha;clear hT h4 hU ha;obtain⟨yh,h0⟩:∃x,x=Y.1.head:=⟨_,rfl⟩;rw[<-h0,jQc];have hE:=hd h0;clear h0))
 all_goals(try go_wp2)
 all_goals
  refine cp (v:=.agg (ae yh (.slice g1 g2 g3) (.slice j1 j2 j3)).toArray) (by simp[results,Tryz.results81,go_sem,ae, *]) rfl ?_;have he:=jJG hB.o hD.o hz.o hy.o (by omega) (by omega) (.bool yh.inner) (.slice g1 g2 g3) (.slice j1 j2 j3) (.int .i64 yh.least) (.int .i64 yh.rows) (.string yh.sl) (.int .i64 yh.num);exact⟨_,_,by rw[hE.o],he.1,he.2.1,he.2.2⟩
theorem jWW (K:Int)(hS:0<=K)(hK:K<=99998)(X:aj)(ev cv:Value)(n:Int)(name:BA)(cols:List Sq.Col)(tv:Value)(tb:Nat)(tr:Trl)(w:World)(h:ag Z w X.d X.t ev cv)(hf:jBb K 900000000 X)(ht:bk tb w tr)(hr:aS K tr)(hZ:∀g,w.heap.size<=g->¬Z g)(h3:-100000000000<=n)(h4:n<=100000000000)
  (hJ:aX w tv cols) (hV:cols.length<=1000) (hT:name.size<=1000) (hO:∀c∈cols,c.name.size<=1000) (hU:(jAL name cols).size<=300) :
  Calls Tryz.prog 80 #[.agg (ae X.head ev cv).toArray,.agg #[.int .i64 n,.string name,tv],.pointer (some ⟨tb,0,none⟩)] w (jA7 Z tb (X.put ⟨placeOf 0 n,jAL name cols⟩ tr) w):=by
 obtain⟨⟨e1,e2,e3,hG⟩,c1,c2,c3,hF⟩:=h.aG;subst hG hF;obtain⟨ro,hE,rfl⟩:=jQa hJ.1;have HR:=hd hJ;have ho:=hd hO;have HK:Hid (∀w',Below w.heap.size w w'->Calls Tryz.prog 125 #[.agg (ae X.head (.slice e1 e2 e3) (.slice c1 c2 c3)).toArray,.int .i64 (placeOf 0 n),.string (jAL name cols),.pointer (some ⟨tb,0,none⟩)] w' (jA7 Z tb (X.put ⟨placeOf 0 n,jAL name cols⟩ tr) w')):=fun w' hb=>jUS K hS (by omega) X _ _ _ _ hU tb tr w' (h.below hb) hf (ht.below hb) hr (fun g hg=>hZ g (cm hb.size hg))
 have hk:=HK.o;have hx:=ht.lt;obtain⟨Y,hY⟩:∃Y,Y=X.put ⟨placeOf 0 n,jAL name cols⟩ tr:=⟨_,rfl⟩;obtain⟨hh,hP⟩:∃x,x=X.head:=⟨_,rfl⟩;rw[<-hY,<-hP] at hk ⊢;rw[jQc] at hk ⊢;have hq:=hd hk;clear h hf ht hr hZ HK hk hY hP hJ hO;obtain⟨W,hW⟩:∃W:World,W=((w.alloc (.cells #[.bool hh.inner,.slice e1 e2 e3,.slice c1 c2 c3,.int .i64 hh.least,.int .i64 hh.rows,.string hh.sl,.int .i64 hh.num] 91)).alloc (.cells #[.int .i64 n,.string name,.slice ro cols.length hE] 94)).alloc (.cells #[.bool false,.slice none 0 0,.slice none 0 0,.int .i64 0,.int .i64 0,.string ⟨#[]⟩,.int .i64 0] 91):=⟨_,rfl⟩;obtain⟨hN,hC,hD,ha⟩:=jQU hW;have hB:=jQe ha;have c0:W.cell? ⟨w.heap.size+1,0,none⟩=some (.int .i64 n):=by rw[jQb hD];rfl
 have hX:W.cell? ⟨w.heap.size+1,1,none⟩=some (.string name):=by rw[jQb hD];rfl
 have h0:W.cell? ⟨w.heap.size+1,2,none⟩=some (.slice ro cols.length hE):=by rw[jQb hD];rfl
 obtain⟨k0,k1,k2,k3,k4,k5,k6⟩:=jQq hC;have hA:=jQe hC;have hm:=hd hN;have hl:=hd hC;have hi:=hd ha;clear hN ha hC hD;go_enter Tryz.func80,Tryz.ntmps80;go_wp2_with fail;rw[<-hW];clear hW;refine(jI9 _ _ _ (by omega) (by omega) (by omega) (by omega)).mono ?_;rintro e w5 ⟨rfl,hR⟩;rw[hR];clear hR w5;go_wp2
 go_region_with (first
  | (go_at_call 126;refine(jXY name cols _ _ ((HR.o.below hm.o).below (cB bR)) hV hT ho.o).mono ?_;rintro e w2 ⟨rfl,hM⟩;have hc:Below W.heap.size W w2:=(cB bR).trans hM;obtain⟨m0,m1,m2,m3,m4,m5,m6⟩:=jQq ((hc.block w.heap.size (by omega)).trans hl.o);have hy:=hc.size;have hw:w.heap.size<w2.heap.size:=(by omega);have hj:=hd hc;clear hM hc)
  | (go_at_call 125;refine(hq.o _ (hm.o.trans (hj.o.mono (by omega)))).mono ?_;rintro e w5 ⟨h2,h1,rfl,hI,hQ,hH⟩;obtain⟨⟨g1,g2,g3,hG⟩,j1,j2,j3,hF⟩:=hI.aG;subst hG hF;have ha:=(hH.bC (w.heap.size+1+1) _ _ _ ((hj.o.block (w.heap.size+1+1) (by omega)).trans hi.o) (by decide) (by decide)).trans ((hj.o.block (w.heap.size+1+1) (by omega)).trans hi.o);obtain⟨b0,b1,b2,b3,b4,b5,b6⟩:=jQq ha;have f0:=jQd ha 0;have f1:=jQd ha 1;have f2:=jQd ha 2;have f3:=jQd ha 3;have f4:=jQd ha 4;have f5:=jQd ha 5;have f6:=jQd ha 6;have hz:=jQe ha;have hp:Hid (aA tb w w5):=(aA.of (hm.o.trans (hj.o.mono (by omega))) (by omega)).trans hH;have hs:=hd hI;have hu:=hd hQ;have hn:=hd ha;clear hH hQ hI ha;obtain⟨yh,hL⟩:∃x,x=Y.1.head:=⟨_,rfl⟩;rw[<-hL,jQc];have hv:=hd hL;clear hL))
 all_goals(try go_wp2)
 all_goals
  refine cp (v:=.agg (ae yh (.slice g1 g2 g3) (.slice j1 j2 j3)).toArray) (by simp[results,Tryz.results80,go_sem,ae, *]) rfl ?_;have he:=jJG hs.o hu.o hp.o hn.o (by omega) (by omega) (.bool yh.inner) (.slice g1 g2 g3) (.slice j1 j2 j3) (.int .i64 yh.least) (.int .i64 yh.rows) (.string yh.sl) (.int .i64 yh.num);exact⟨_,_,by rw[hv.o],he.1,he.2.1,he.2.2⟩
theorem jWX (K:Int)(hK:K<=99999)(X:aj)(ev cv:Value)(n k:Int)(tb:Nat)(tr:Trl)(w:World)(h:ag Z w X.d X.t ev cv)(hf:Sq.aT K X.d X.t)(ht:bk tb w tr)(hr:aS K tr)(hA:0<=n)(hB:n<=100000)(hy:-100000000000<=k)(hz:k<=100000000000) :
  Calls Tryz.prog 114 #[.agg (ae X.head ev cv).toArray,.int .i64 n,.int .i64 k,.pointer (some ⟨tb,0,none⟩)] w fun e w'=>e=.returned (.bool (X.has (placeOf n k) tr).1)/\bk tb w' (X.has (placeOf n k) tr).2/\aA tb w w':=by
 obtain⟨⟨e1,e2,e3,hx⟩,c1,c2,c3,hv⟩:=h.aG;subst hx hv;have HK:Hid (∀w',Below w.heap.size w w'->Calls Tryz.prog 153 #[.agg (ae X.head (.slice e1 e2 e3) (.slice c1 c2 c3)).toArray,.int .i64 (placeOf n k),.pointer (some ⟨tb,0,none⟩)] w' (fun e hs=>e=.returned (.bool (X.has (placeOf n k) tr).1)/\bk tb hs (X.has (placeOf n k) tr).2/\aA tb w' hs)):=fun w' hb=>jUV K hK _ tb X.d X.t _ _ tr w' (h.below hb) hf (ht.below hb) hr
 have hk:=HK.o;have hl:=ht.lt;obtain⟨Y,hY⟩:∃Y,Y=X.has (placeOf n k) tr:=⟨_,rfl⟩;obtain⟨hh,ho⟩:∃x,x=X.head:=⟨_,rfl⟩;rw[<-hY,<-ho] at hk ⊢;rw[jQc] at hk ⊢;have hi:=hd hk;clear h hf ht hr HK hk hY ho;go_enter Tryz.func114,Tryz.ntmps114;go_wp2;obtain⟨W,hW⟩:∃W:World,W=w.alloc (.cells #[.bool hh.inner,.slice e1 e2 e3,.slice c1 c2 c3,.int .i64 hh.least,.int .i64 hh.rows,.string hh.sl,.int .i64 hh.num] 91):=⟨_,rfl⟩;rw[<-hW];have he:Below w.heap.size w W:=by rw[hW];exact bA
 have ha:W.heap[w.heap.size]?=some (.cells #[.bool hh.inner,.slice e1 e2 e3,.slice c1 c2 c3,.int .i64 hh.least,.int .i64 hh.rows,.string hh.sl,.int .i64 hh.num] 91):=by rw[hW];exact jQi w _
 obtain⟨k0,k1,k2,k3,k4,k5,k6⟩:=jQq ha;have hm:=jQe ha;have hc:=hd he;clear he ha hW
 go_region_with (first
  | (go_at_call 104;refine(jI9 _ _ _ (by omega) (by omega) (by omega) (by omega)).mono ?_;rintro e w5 ⟨rfl,hq⟩;rw[hq];clear hq w5)
  | (go_at_call 153;refine(hi.o _ hc.o.drew).mono ?_;rintro e w5 ⟨rfl,hp,hn⟩;have hg:Hid (aA tb w w5):=(aA.of hc.o.drew (by omega)).trans hn;have hj:=hd hp;clear hn hp))
 all_goals(try go_wp2)
 all_goals
  go_ret;exact⟨rfl,hj.o,hg.o⟩
theorem jPh (h:Sq.Head)(ev cv:Value)(w:World)(hb:∃a k c,ev=.slice a k c)(ha:∃a k c,cv=.slice a k c) :
  Calls Tryz.prog 71 #[.agg (ae h ev cv).toArray] w fun e w'=>e=.returned (.int .i64 h.rows)/\Below w.heap.size w w':=by
 obtain⟨ea,ek,ec,rfl⟩:=hb;obtain⟨ca,ck,cc,rfl⟩:=ha;rw[jQc];have hW:∀o,Below w.heap.size w (w.alloc o):=fun o=>bA
 have HW:=hd hW;clear hW;go_enter Tryz.func71,Tryz.ntmps71;go_wp2;go_ret;exact⟨rfl,HW.o _⟩
end
end Go.Proofs.YtahpihjialbanaaGreatDoor
