import Derived.Laws.AppendOwnNone
import Derived.Test.YtahpihjialbanaaGreatDoorQaf
set_option linter.all false
set_option maxRecDepth 100000
set_option maxHeartbeats 4000000
namespace Go.Proofs.YtahpihjialbanaaGreatDoor
open Sq (aa af Nd Trl Ent takeN aF aC Rd aS aT bB jAW bm Col Val aV aj bN bU bd jA8 jAE jAG jAK jAT jAX jAk jAq jAx jB9 jBJ jBQ jBd jC7 jCG jCK jCa jCn jDU jDh jDq jDr jEF jEm jFn jGw jL3 jLv jQo upN)
variable {B b k n tb:Nat}{W w w' w1 w2:World}{a:Act}{a0 a1 a2 cv ev v:Value}{c:Array Value}{cs xs:List Value}{e e' t:TypeId}{fr:Nat×Nat}{α:Type}
section
open Go.RowKit
theorem jJx {x0 x1 x2 x3 x4 x5 x6 x7 x8:Value}(h:w.heap[b]?=some (.cells #[x0,x1,x2,x3,x4,x5,x6,x7,x8] t)) :
  (w.cell? ⟨b,0,none⟩=some x0/\w.cell? ⟨b,1,none⟩=some x1/\w.cell? ⟨b,2,none⟩=some x2/\w.cell? ⟨b,3,none⟩=some x3/\w.cell? ⟨b,4,none⟩=some x4/\w.cell? ⟨b,5,none⟩=some x5/\w.cell? ⟨b,6,none⟩=some x6/\w.cell? ⟨b,7,none⟩=some x7/\w.cell? ⟨b,8,none⟩=some x8)/\b<w.heap.size :=
 ⟨⟨by rw[jQb h];rfl,by rw[jQb h];rfl,by rw[jQb h];rfl,by rw[jQb h];rfl,by rw[jQb h];rfl,by rw[jQb h];rfl,by rw[jQb h];rfl,by rw[jQb h];rfl,by rw[jQb h];rfl⟩,jQe h⟩
theorem jKU (w:World)(a b:Obj):∃W,W=(w.alloc a).alloc b/\Below w.heap.size w W/\W.heap[w.heap.size]?=some a/\W.heap[w.heap.size+1]?=some b:=by
 refine⟨_,rfl,(bA).alloc (by simp) _,?_,?_⟩
 ·exact(((Below.refl (w.alloc a).heap.size (w.alloc a)).alloc nR b).block w.heap.size (by simp)).trans (jQi _ _)
 rw[<-jQr w a];exact jQi _ _
theorem jXm (cols:List Col)(cv:Value)(s:bd)(w:World)(h:aX w cv cols)(hC:-100000000000<=s.left.lit.number)(hD:s.left.lit.number<=100000000000)(hE:-100000000000<=s.right.lit.number)(hF:s.right.lit.number<=100000000000) :
  Calls Tryz.prog 154 #[cv,.agg s.cells.toArray] w fun e w'=>e=.returned (.agg (jAy (jDh cols s)))/\Below w.heap.size w w':=by
 obtain⟨op,⟨lc,⟨lk,ln,lt⟩⟩,⟨rc,⟨rk,rn,rt⟩⟩⟩:=s;simp only at hC hD hE hF;obtain⟨R,hR⟩:∃R,R=jDh cols ⟨op,⟨lc,⟨lk,ln,lt⟩⟩,⟨rc,⟨rk,rn,rt⟩⟩⟩:=⟨_,rfl⟩;rw[<-hR];have hr:=hd hR;have H:=hd h;have ht:=fun o n w h0 h1=>jW2 o n w h0 h1
 have hs:=fun t w hc=>qAn cols cv t w hc
 unfold bd.cells;simp only;obtain⟨W,hW,hB,k0,k1⟩:=jKU w (.cells #[.string op,.string lc,.int .i64 lk,.int .i64 ln,.string lt,.string rc,.int .i64 rk,.int .i64 rn,.string rt] 217) (.cells #[.int .i64 0,.int .i64 0,.int .i64 0,.int .i64 0] 224);obtain⟨⟨a0,a1,a2,a3,a4,a5,a6,a7,a8⟩,a9⟩:=jJx k0;have hg:Hid (∀w',Below W.heap.size W w'->w'.heap[w.heap.size]?=some (.cells #[.string op,.string lc,.int .i64 lk,.int .i64 ln,.string lt,.string rc,.int .i64 rk,.int .i64 rn,.string rt] 217)/\w'.heap[w.heap.size+1]?=some (.cells #[.int .i64 0,.int .i64 0,.int .i64 0,.int .i64 0] 224)):=fun w' hb=>⟨(hb.block _ (jQe k0)).trans k0,(hb.block _ (jQe k1)).trans k1⟩
 have HW:=hd hB;clear hR h k0 k1 hB;have hq:=hd ht;have hp:=hd hs;clear ht hs;go_enter Tryz.func154,Tryz.ntmps154;go_wp2_with fail;rw[<-hW];clear hW;refine(hp.o ⟨lc,⟨lk,ln,lt⟩⟩ W (H.o.below HW.o)).mono ?_;rintro e w1 ⟨rfl,hA⟩;obtain⟨x0,x1⟩:=hg.o w1 hA;obtain⟨⟨b0,b1,b2,b3,b4,b5,b6,b7,b8⟩,b9⟩:=jJx x0;obtain⟨⟨d0,d1,d2,d3⟩,⟨e0,e1,e2,e3⟩,d4⟩:=jQH x1;have hn:=hd hA;have HS:Hid (R=if jDr cols ⟨lc,⟨lk,ln,lt⟩⟩&&jC7 ⟨rc,⟨rk,rn,rt⟩⟩ then jB9 op rn else if jC7 ⟨lc,⟨lk,ln,lt⟩⟩&&jDr cols ⟨rc,⟨rk,rn,rt⟩⟩ then jB9 (jAE op) ln else jA8):=hr.o;clear hA a0 a1 a2 a3 a4 a5 a6 a7 a8 x0 x1 hr;have tail:∀w2,Below W.heap.size W w2->(jDr cols ⟨lc,⟨lk,ln,lt⟩⟩&&jC7 ⟨rc,⟨rk,rn,rt⟩⟩)=false->True:=fun _ _ _=>trivial
 clear tail;cases q1:jDr cols ⟨lc,⟨lk,ln,lt⟩⟩
 ·have ho:Hid (R=if jC7 ⟨lc,⟨lk,ln,lt⟩⟩&&jDr cols ⟨rc,⟨rk,rn,rt⟩⟩ then jB9 (jAE op) ln else jA8):=by show _=_;rw[HS.o,q1];rfl
  clear HS;go_wp2_with fail;refine(jMH ⟨lc,⟨lk,ln,lt⟩⟩ w1).mono ?_;rintro e w2 ⟨rfl,hz⟩;have ha:=hn.o.trans (hz.mono hn.o.size);obtain⟨x0,x1⟩:=hg.o w2 ha;obtain⟨⟨f0,f1,f2,f3,f4,f5,f6,f7,f8⟩,f9⟩:=jJx x0;obtain⟨⟨g0,g1,g2,g3⟩,⟨i0,i1,i2,i3⟩,g4⟩:=jQH x1;have hi:=hd ha;clear hz ha b0 b1 b2 b3 b4 b5 b6 b7 b8 x0 x1 d0 d1 d2 d3 e0 e1 e2 e3;cases q2:jC7 ⟨lc,⟨lk,ln,lt⟩⟩
  ·have hh:Hid (R=jA8):=by show _=_;rw[ho.o,q2];rfl
   go_wp2_with fail;refine(jG1 w2).mono ?_;rintro e w3 ⟨rfl,hx⟩;have hj:=hi.t hx;clear hx;go_wp2_with fail;refine(jG1 w3).mono ?_;rintro e w4 ⟨rfl,hy⟩;have hf:=hj.o.trans (hy.mono hj.o.size);obtain⟨⟨j0,j1,j2,j3⟩,⟨l0,l1,l2,l3⟩,j4⟩:=jQH (hg.o w4 hf).2;have hv:=hd (HW.o.trans (hf.mono (by omega)));clear hy hf;unfold jAh jAG;go_wp2;refine cp (v:=.agg (jAy jA8)) (by simp[results,Tryz.results154,go_sem,jAy,jA8,jAG, *]) rfl ⟨by rw[hh.o],?_⟩
   repeat (first | exact hv.o | refine cj (B:=w.heap.size) ?_ (by simp<;>omega) _ | refine cH (B:=w.heap.size) ?_ (by simp<;>omega) _)
  go_wp2_with fail;refine(hp.o ⟨rc,⟨rk,rn,rt⟩⟩ w2 (H.o.below (HW.o.trans (hi.o.mono (by omega))))).mono ?_;rintro e w3 ⟨rfl,hx⟩;have hl:=hi.o.trans (hx.mono hi.o.size);obtain⟨x0,x1⟩:=hg.o w3 hl;obtain⟨⟨m0,m1,m2,m3,m4,m5,m6,m7,m8⟩,m9⟩:=jJx x0;have hj:=hd hl;clear hx hl f0 f1 f2 f3 f4 f5 f6 f7 f8 x0 x1 g0 g1 g2 g3 i0 i1 i2 i3;cases q3:jDr cols ⟨rc,⟨rk,rn,rt⟩⟩
  ·have hh:Hid (R=jA8):=by show _=_;rw[ho.o,q2,q3];rfl
   go_wp2_with fail;refine(jG1 w3).mono ?_;rintro e w4 ⟨rfl,hy⟩;have hm:=hj.t hy;clear hy;go_wp2_with fail;refine(jG1 w4).mono ?_;rintro e w5 ⟨rfl,hf⟩;have he:=hm.o.trans (hf.mono hm.o.size);obtain⟨⟨j0,j1,j2,j3⟩,⟨l0,l1,l2,l3⟩,j4⟩:=jQH (hg.o w5 he).2;have hk:=hd (HW.o.trans (he.mono (by omega)));clear hf he;unfold jAh jAG;go_wp2;refine cp (v:=.agg (jAy jA8)) (by simp[results,Tryz.results154,go_sem,jAy,jA8,jAG, *]) rfl ⟨by rw[hh.o],?_⟩
   repeat (first | exact hk.o | refine cj (B:=w.heap.size) ?_ (by simp<;>omega) _ | refine cH (B:=w.heap.size) ?_ (by simp<;>omega) _)
  have hh:Hid (R=jB9 (jAE op) ln):=by show _=_;rw[ho.o,q2,q3];rfl
  obtain⟨⟨rl,rh⟩,⟨nl,nh⟩⟩:=R;go_wp2
  go_region_with (first
   | (go_at_call 199;refine(jWy op _).mono ?_;rintro e w4 ⟨rfl,hG⟩;rw[hG];clear hG w4)
   | (go_at_call 198;refine(hq.o (jAE op) ln _ hC hD).mono ?_;rintro e w5 ⟨rfl,hf⟩;rw[<-hh.o];have he:Below W.heap.size W w5:=hj.o.trans (((cB (Below.refl w3.heap.size w3)).trans hf).mono hj.o.size);obtain⟨⟨j0,j1,j2,j3⟩,⟨l0,l1,l2,l3⟩,j4⟩:=jQH (hg.o w5 he).2;have hk:=hd (HW.o.trans (he.mono (by omega)));clear hf he;unfold jAy))
  all_goals(try go_wp2)
  all_goals
   refine cp (v:=.agg #[.int .i64 rl,.int .i64 rh,.int .i64 nl,.int .i64 nh]) (by simp[results,Tryz.results154,go_sem, *]) rfl ⟨rfl,?_⟩
   repeat (first | exact hk.o | refine cj (B:=w.heap.size) ?_ (by simp<;>omega) _ | refine cH (B:=w.heap.size) ?_ (by simp<;>omega) _)
 go_wp2_with fail;refine(jMH ⟨rc,⟨rk,rn,rt⟩⟩ w1).mono ?_;rintro e w2 ⟨rfl,hz⟩;have ha:=hn.o.trans (hz.mono hn.o.size);obtain⟨x0,x1⟩:=hg.o w2 ha;obtain⟨⟨f0,f1,f2,f3,f4,f5,f6,f7,f8⟩,f9⟩:=jJx x0;obtain⟨⟨g0,g1,g2,g3⟩,⟨i0,i1,i2,i3⟩,g4⟩:=jQH x1;have hi:=hd ha;clear hz ha b0 b1 b2 b3 b4 b5 b6 b7 b8 x0 x1 d0 d1 d2 d3 e0 e1 e2 e3;cases q2:jC7 ⟨rc,⟨rk,rn,rt⟩⟩
 ·have hu:jC7 ⟨lc,⟨lk,ln,lt⟩⟩=false:=by
   have h1:(!lc.toList.isEmpty&&(Sq.find cols lc==0))=true:=q1
   show(lc.toList.isEmpty&&(lk==0))=false
   cases hle:lc.toList.isEmpty
   ·rfl
   rw[hle] at h1;simp at h1
  have hh:Hid (R=jA8):=by show _=_;rw[HS.o,q1,q2,hu];rfl
  go_wp2_with fail;refine(jMH ⟨lc,⟨lk,ln,lt⟩⟩ w2).mono ?_;rintro e w3 ⟨rfl,hx⟩;rw[hu];have hj:=hi.t hx;clear hx;go_wp2_with fail;refine(jG1 w3).mono ?_;rintro e w4 ⟨rfl,hy⟩;have hm:=hj.t hy;clear hy;go_wp2_with fail;refine(jG1 w4).mono ?_;rintro e w5 ⟨rfl,hf⟩;have he:=hm.o.trans (hf.mono hm.o.size);obtain⟨⟨j0,j1,j2,j3⟩,⟨l0,l1,l2,l3⟩,j4⟩:=jQH (hg.o w5 he).2;have hk:=hd (HW.o.trans (he.mono (by omega)));clear hf he;unfold jAh jAG;go_wp2;refine cp (v:=.agg (jAy jA8)) (by simp[results,Tryz.results154,go_sem,jAy,jA8,jAG, *]) rfl ⟨by rw[hh.o],?_⟩
  repeat (first | exact hk.o | refine cj (B:=w.heap.size) ?_ (by simp<;>omega) _ | refine cH (B:=w.heap.size) ?_ (by simp<;>omega) _)
 have hh:Hid (R=jB9 op rn):=by show _=_;rw[HS.o,q1,q2];rfl
 obtain⟨⟨rl,rh⟩,⟨nl,nh⟩⟩:=R;go_wp2_with fail;refine(hq.o op rn w2 hE hF).mono ?_;rintro e w3 ⟨rfl,hx⟩;rw[<-hh.o];have he:=hi.o.trans (hx.mono hi.o.size);obtain⟨⟨j0,j1,j2,j3⟩,⟨l0,l1,l2,l3⟩,j4⟩:=jQH (hg.o w3 he).2;have hk:=hd (HW.o.trans (he.mono (by omega)));clear hx he;unfold jAy;go_wp2;refine cp (v:=.agg #[.int .i64 rl,.int .i64 rh,.int .i64 nl,.int .i64 nh]) (by simp[results,Tryz.results154,go_sem, *]) rfl ⟨rfl,?_⟩
 repeat (first | exact hk.o | refine cj (B:=w.heap.size) ?_ (by simp<;>omega) _ | refine cH (B:=w.heap.size) ?_ (by simp<;>omega) _)
def jFV:Array Value:=#[.string ⟨#[]⟩,.bool false,.int .i64 0,.string ⟨#[]⟩,.slice none 0 0,.slice none 0 0,.slice none 0 0]
theorem jFE (w:World)(o:Obj):(w.alloc o).heap[w.heap.size]?=some o:=by show(w.heap.push o)[w.heap.size]?=some o;simp
theorem jHy (h:k<w.heap.size)(o:Obj):(w.alloc o).heap[k]?=w.heap[k]?:=by show(w.heap.push o)[k]?=w.heap[k]?;rw[Array.getElem?_push,cy (Nat.ne_of_lt h)]
theorem jQI (h:w.heap[b]?=some (.cells jFV 98)) :
  w.cell? ⟨b,0,none⟩=some (.string ⟨#[]⟩)/\w.cell? ⟨b,1,none⟩=some (.bool false)/\w.cell? ⟨b,2,none⟩=some (.int .i64 0)/\w.cell? ⟨b,3,none⟩=some (.string ⟨#[]⟩)/\w.cell? ⟨b,4,none⟩=some (.slice none 0 0)/\w.cell? ⟨b,5,none⟩=some (.slice none 0 0)/\w.cell? ⟨b,6,none⟩=some (.slice none 0 0) :=
 ⟨by rw[jQb h];rfl,by rw[jQb h];rfl,by rw[jQb h];rfl,by rw[jQb h];rfl,by rw[jQb h];rfl,by rw[jQb h];rfl,by rw[jQb h];rfl⟩
theorem jQy (h:w.heap[b]?=some (.cells jFV 98)) :
  w.frozen? ⟨b,0,none⟩=false/\w.frozen? ⟨b,1,none⟩=false/\w.frozen? ⟨b,2,none⟩=false/\w.frozen? ⟨b,3,none⟩=false/\w.frozen? ⟨b,4,none⟩=false/\w.frozen? ⟨b,5,none⟩=false/\w.frozen? ⟨b,6,none⟩=false :=
 ⟨jQd h _,jQd h _,jQd h _,jQd h _,jQd h _,jQd h _,jQd h _⟩
theorem jIF {rb:Nat}{size:Nat}(h:w.ownsRow B e size v n xs)(hb:w.heap[rb]?=some (.cells c e' fr))(ha:e≠e')(ho:∀g,g≠rb->w'.heap[g]?=w.heap[g]?):w'.ownsRow B e size v n xs :=
 jQp h fun g hg=>ho g fun e=>jQm h hb ha (e ▸ hg)
theorem jA0.o {rb:Nat}{row:List Val}(h:jA0 w v row)(hb:w.heap[rb]?=some (.cells c e' fr))(ha:208≠e')(ho:∀g,g≠rb->w'.heap[g]?=w.heap[g]?):jA0 w' v row:=⟨jIF h.1 hb ha ho,h.2⟩
theorem aQ.o {rb:Nat}{rows:List (List Val)}(h:aQ B w v rows)(hb:w.heap[rb]?=some (.cells c e' fr))(h1:208≠e')(h2:138≠e')(ho:∀g,g≠rb->w'.heap[g]?=w.heap[g]?):aQ B w' v rows:=by
 obtain⟨ha,h3,h4⟩:=h;exact⟨ha,jIF h3 hb h2 ho,fun i row hi=>let ⟨rv,h5,h6⟩:=h4 i row hi;⟨rv,h5,h6.o hb h1 ho⟩⟩
theorem aX.o {rb:Nat}{l:List Col}(h:aX w v l)(hb:w.heap[rb]?=some (.cells c e' fr))(ha:205≠e')(ho:∀g,g≠rb->w'.heap[g]?=w.heap[g]?):aX w' v l:=⟨jIF h.1 hb ha ho,h.2⟩
def jF8 (w:World)(o:Sq.bY)(e:Ending)(w':World):Prop:=∃cv pv kv,e=.returned (.agg (az o cv pv kv))/\jBx w' o cv pv kv/\Below w.heap.size w w'
theorem Tryz.jKz:(Tryz.prog.info? 2).map (fun i=>(i.zero,i.size,i.bytes))=some (some (.int .i64 0),1,8):=by kernel_rfl
theorem qAj (rows:List (List Val))(k:Nat)(h:k<rows.length):(rows.take (k+1)).map Sq.keyOf=(rows.take k).map Sq.keyOf++[Sq.keyOf rows[k]]:=by
 rw[cI h,cR];rfl
theorem jFd (h:w.heap[b]?=some (.cells #[a0,a1,a2] 94)):w.cell? ⟨b,0,none⟩=some a0/\w.cell? ⟨b,1,none⟩=some a1/\w.cell? ⟨b,2,none⟩=some a2/\w.frozen? ⟨b,0,none⟩=false/\w.frozen? ⟨b,1,none⟩=false/\w.frozen? ⟨b,2,none⟩=false :=
 ⟨by rw[jQb h];rfl,by rw[jQb h];rfl,by rw[jQb h];rfl,jQd h _,jQd h _,jQd h _⟩
theorem jYG (t:Sq.bQ)(tv:Value)(rows:List (List Val))(rv:Value)(w:World)(h2:aX w tv t.cols)(h:aQ 0 w rv rows)(hT:Tbl w)(hn:rows.length<=1000) :
  Calls Tryz.prog 78 #[.agg #[.int .i64 t.number,.string t.name,tv],rv] w (jF8 w (jEF t rows)):=by
 obtain⟨i0,hi,Hd,He,Hf⟩:=cV Tryz.jKz;obtain⟨vo,vc,rfl⟩:=h.slice;obtain⟨h4,hY,rfl⟩:=jQa h2.1;obtain⟨tn,h0,cols⟩:=t;simp only at h2 ⊢;have hB:Hid (jEF ⟨tn,h0,cols⟩ rows=⟨Sq.jAH rows.length,false,⟨tn,h0,cols⟩,[],rows.map Sq.keyOf⟩):=rfl;have HT:=hd hT;obtain⟨w1,h9,h6,hZ,hV⟩:=jKU w (.cells #[.int .i64 tn,.string h0,.slice h4 cols.length hY] 94) (.cells jFV 98);have hz:=jQe hV;have hK:=hd (h.below h6);have hL:=hd h2;have hs:=hd hV;have ht:=hd hZ;clear h hT hV hZ h2;go_enter Tryz.func78,Tryz.ntmps78;go_wp2;rw[show(w.alloc (.cells #[.int .i64 tn,.string h0,.slice h4 cols.length hY] 94)).alloc (.cells #[.string ⟨#[]⟩,.bool false,.int .i64 0,.string ⟨#[]⟩,.slice none 0 0,.slice none 0 0,.slice none 0 0] 98)=w1 from h9.symm];clear h9
 go_loopw [5,6] (fun v i wr=>∃k:Nat,k<=rows.length/\i=.int .i64 k/\wr.ownsRow w1.heap.size 2 1 v k (((rows.take k).map Sq.keyOf).map (Value.int .i64))/\Below w1.heap.size w1 wr) (fun _ i _=>rows.length-(intOf i).toNat)
 case atStart=>exact⟨0,zR,rfl,cu _ _ _ _,bR⟩
 case round =>
  obtain⟨k,hk,rfl,hW,hb⟩:=hrel;obtain⟨xo,xc,rfl⟩:=jQa hW;have hO:=hb.size;have HB:=hd hb;have HO:=hd hW;clear hb hW
  by_cases hlt:k<rows.length
  ·obtain⟨g,Ha,ra,rc,hv,hg,c0,hX⟩:=(hK.o.below HB.o).at k hlt;obtain⟨rfl,-,rfl⟩:=sI hv;have hD:=hd (qAj rows k hlt);obtain⟨row,h8⟩:∃x,x=rows[k]:=⟨_,rfl⟩;have hA:=hD.o;rw[<-h8] at hA c0 hX;have hw:=hd hA;have hx:=hd hX;clear hA hX hD h8;obtain⟨kx,h7⟩:∃y,y=Sq.keyOf row:=⟨_,rfl⟩;have hE:=hd h7;clear h7;go_wp2_with (first | (go_at_call 115;refine(jOw row _ _ hx.o).mono ?_;rintro e w2 ⟨rfl,h1⟩;rw[<-hE.o];have hH:=hd h1;have hM:=h1.size;have hq:=hd ((jQh HO.o h1).alloc (.cells #[.int .i64 kx] 2));clear h1) | (at_builtin;refine cT _ rfl (.tmp 13) (.tmp 19) 96 rfl w1.heap.size 2 i0 _ 1 8 Tryz.underlying96 hi Hd He Hf rfl (by decide) _ k _ rfl hq.o ⟨w2.heap.size,0,none⟩ 1 1 [.int .i64 kx] rfl rfl (by exact jQN w2 _ _ _ rfl rfl) (by intro u hu;simp at hu;subst hu;rfl) (by decide) (by unfold maxLen;omega) (by omega) (by simp;omega) _ rfl ?_;intro gg Hb w3 hU hS h3 Hc;have hJ:=hd hU;have hI:=hd hS;clear hU hS h3));have hy:Below w1.heap.size w1 w3:=(cH (B:=w1.heap.size) (HB.o.trans (hH.o.mono hO)) (by omega) _).trans (Tch.aO hI.o (fun k hk=>(hq.o.lt k hk).1) (by simp;omega));go_roundw;exact⟨k+1,by omega,by go_num,by rw[hw.o,<-hE.o,cR];exact hJ.o,hy⟩;simp[intOf];omega
  have hF:k=rows.length:=by omega
  have hG:rows.take k=rows:=cL (by omega);have ho:=HO.o;rw[hG] at ho;have hq:=hd ho;obtain⟨wo,rfl⟩:∃wo:World,wo=wr:=⟨_,rfl⟩;have hh:=(HB.o.block (w.heap.size+1) (by omega)).trans hs.o;have he:=(HB.o.block (w.heap.size) (by omega)).trans ht.o;obtain⟨q0,q1,q2,-,-,-⟩:=jFd he;have hl:=hd hh;have hm:=hd he;have hp:Below w.heap.size w wo:=h6.trans (HB.o.mono (by omega));have hj:=hd hp;have hC:=hd hF;have hN:w.heap.size<wo.heap.size:=by omega
  clear hG ho HO hh hp hF he;go_wp2
  go_region_with (go_at_call 109;refine(jII k _ (by omega) (by omega) (HT.o.below hj.o.drew)).mono ?_;rintro e w3 ⟨rfl,h5⟩;have hc:Below wo.heap.size wo w3:=(cB bR).trans h5;have ha:=(hc.block (w.heap.size+1) (by omega)).trans hl.o;obtain⟨d0,d1,d2,d3,d4,d5,d6⟩:=jQI ha;obtain⟨f0,f1,f2,f3,f4,f5,f6⟩:=jQy ha;obtain⟨p0,p1,p2,-,-,-⟩:=jFd ((hc.block w.heap.size hN).trans hm.o);have hP:=hc.size;have hr:=hd hc;have hf:=hd ha;have hQ:w.heap.size+1<w3.heap.size:=(by omega);have hR:w.heap.size<w3.heap.size:=(by omega);clear h5 hc ha)
  all_goals(try go_wp2)
  all_goals
   refine cp (v:=.agg (az (jEF ⟨tn,h0,cols⟩ rows) (.slice h4 cols.length hY) (.slice none 0 0) (.slice xo k xc))) (by rw[hB.o,<-hC.o];simp[results,Tryz.results78,go_sem,az,Sq.ar, *]) rfl ⟨_,_,_,rfl,?_,?_⟩
   ·rw[hB.o];refine⟨aX.o ((hL.o.below hj.o).below hr.o) hf.o (by decide) (fun g hg=>jQl _ _ _ _ _ _ _ _ _ hg),aQ.nil _ _,?_,by simp,by simp;omega⟩;show World.ownsRow _ 0 2 1 _ (rows.map Sq.keyOf).length _;rw[cF,<-hC.o];exact jQj (jIF (jQh hq.o hr.o) hf.o (by decide) (fun g hg=>jQl _ _ _ _ _ _ _ _ _ hg)) zR
   exact jQu (hj.o.trans (hr.o.mono (by omega))) (by omega) _ _ _ _ _ _ _
structure Rf (b:Nat)(w w':World):Prop where
 os:w'.os=w.os
 tape:w'.tape=w.tape
 output:w'.output=w.output
 size:w.heap.size<=w'.heap.size
 block:∀k,k<w.heap.size->k≠b->w'.heap[k]?=w.heap[k]?
theorem Rf.refl (b:Nat)(w:World):Rf b w w:=⟨rfl,rfl,rfl,nR,fun _ _ _=>rfl⟩
theorem Rf.trans (h:Rf b w w1)(k:Rf b w1 w2):Rf b w w2 :=
 ⟨k.os.trans h.os,k.tape.trans h.tape,k.output.trans h.output,cm h.size k.size,fun g hg hb=>(k.block g (dz hg h.size) hb).trans (h.block g hg hb)⟩
theorem Rf.jBA (h:jB4 b w w'):Rf b w w':=⟨h.below.os,h.below.tape,h.below.output,h.below.size,fun g _ hb=>h.other g hb⟩
theorem Rf.jBF (h:Below w.heap.size w w'):Rf b w w':=⟨h.os,h.tape,h.output,h.size,fun g hg _=>h.block g hg⟩
theorem Rf.below (h:Rf b w w')(h1:B<=b)(h2:B<=w.heap.size):Below B w w':=⟨h.os,h.tape,h.output,h.size,fun k hk=>h.block k (by omega) (by omega)⟩
theorem bJ.below {r:Rd}(h:bJ b w r)(hb:Below w.heap.size w w'):bJ b w' r:=(hb.block b (jQe h)).trans h
theorem jRQ {r:Rd}{size:Nat}(h:w.ownsRow B e size v n xs)(hr:bJ b w r)(ha:e≠105)(hf:Rf b w w'):w'.ownsRow B e size v n xs:=by
 refine⟨h.1,?_⟩;rcases h.2 with h0 | ⟨g,cap,cur,hv,hbg,hh,hn,hm,hc,ht⟩
 ·exact Or.inl h0
 refine Or.inr ⟨g,cap,cur,hv,hbg,(hf.block g (jQe hh) fun e2=>?_).trans hh,hn,hm,hc,ht⟩;subst e2;unfold bJ at hr;rw[hr] at hh;simp only[Option.some.injEq,Obj.cells.injEq] at hh;exact ha hh.2.1.symm
theorem aM.rf {r:Rd}{es:List Ent}(h:aM B w v es)(hr:bJ b w r)(hf:Rf b w w'):aM B w' v es:=jRQ h hr (by decide) hf
theorem ag.rf {Z:Nat->Prop}{r:Rd}{t:Nd n}(h:ag Z w n t ev cv)(hr:bJ b w r)(hf:Rf b w w'):ag Z w' n t ev cv :=
 h.same fun g c e fr hg he=>hf.block g (jQe hg) fun e2=>by
  subst e2;unfold bJ at hr;rw[hr] at hg;simp only[Option.some.injEq,Obj.cells.injEq] at hg;rcases he with rfl | rfl
  ·exact absurd hg.2.1 (by decide)
  exact absurd hg.2.1 (by decide)
theorem jKS (b:Nat)(r:Rd)(w:World)(h:bJ b w r)(hs:r.rest.size<=1000000) :
  Calls Tryz.prog 88 #[.pointer (some ⟨b,0,none⟩),.int .i64 1] w fun e w'=>e=.returned (.int .i64 (aF r 1))/\bJ b w' (takeN r 1)/\jB4 b w w':=jRp b r 1 w h hs (by decide)
theorem jR3 (b:Nat)(r:Rd)(w:World)(h:bJ b w r)(hs:r.rest.size<=1000000) :
  Calls Tryz.prog 88 #[.pointer (some ⟨b,0,none⟩),.int .i64 5] w fun e w'=>e=.returned (.int .i64 (aF r 5))/\bJ b w' (takeN r 5)/\jB4 b w w':=jRp b r 5 w h hs (by decide)
theorem jY5 (k:Nat)(r:Rd):bN (k+1) r=(⟨aF r 5,jEm (takeN r 5)⟩::(bN k (jCG (takeN r 5))).1,(bN k (jCG (takeN r 5))).2):=rfl
def jJt (b:Nat)(x:List Ent×Rd)(w:World)(e:Ending)(w':World):Prop :=
 ∃ev,e=.returned (.agg (ae (bB (α:=Empty) x.1).hd ev (.slice none 0 0)).toArray)/\aM 0 w' ev x.1/\bJ b w' x.2/\Rf b w w'
theorem jWv (b:Nat)(r:Rd)(w:World)(h:bJ b w r)(hs:r.rest.size<=1000000) :
  Calls Tryz.prog 91 #[.pointer (some ⟨b,0,none⟩)] w (jJt b (bN (aF r 1).toNat (takeN r 1)) w):=by
 have hM:=Sq.jJd r;have h1:=cm (jQo r 1) hs;obtain⟨c,hc⟩:=cU hM.1;have hL:c<=255:=by omega
 have hO:=Sq.jI7 c (takeN r 1);obtain⟨x,hx⟩:∃x,x=bN c (takeN r 1):=⟨_,rfl⟩;rw[hc,cC,<-hx];rw[<-hx] at hO;have HX:=hd hx;have HC:=hd hc;have Hb:=jQe h;have H:=hd h;have h7:x.1.length<=1000:=by omega
 clear h hx hc hM hO;obtain⟨W,hW⟩:∃W:World,W=w.alloc (.cells jAR 60):=⟨_,rfl⟩;have hF:Below w.heap.size w W:=by rw[hW];exact bA
 have hl:W.heap[w.heap.size]?=some (.cells jAR 60):=by rw[hW];exact jQi _ _
 have Ha:=jQe hl;have hK:=hd (H.o.below hF);have hJ:=hd hF;have ho:=hd hl;clear hF hl;go_enter Tryz.func91,Tryz.ntmps91;go_wp2_with fail;rw[<-show jAR=#[.bool false,.slice none 0 0,.slice none 0 0,.int .i64 0,.int .i64 0,.string ⟨#[]⟩,.int .i64 0] from rfl,<-hW];clear hW;refine(jKS b r _ hK.o hs).mono ?_;rintro e w1 ⟨rfl,Hu,Hr⟩;rw[HC.o];have hf:=(Hr.other w.heap.size (by omega)).trans ho.o;have hD:Hid (Rf b w w1):=(Rf.jBF hJ.o).trans (Rf.jBA Hr);have hV:=hd Hu;have hp:=hd hf;have h8:=jQe hf;clear Hr Hu hf hK hJ ho H;go_wp2
 go_loopw [3,5] (fun v i wr=>∃(k:Nat) (acc:List Ent) (rr:Rd),k<=c/\i=.int .i64 k/\Hid (aM (w.heap.size+1) wr v acc)/\Hid (acc.length=k)/\rr.rest.size<=1000000/\Hid (bJ b wr rr)/\Hid (x=(acc++(bN (c-k) rr).1,(bN (c-k) rr).2))/\Hid (Rf b w wr)/\Hid (wr.heap[w.heap.size]?=some (.cells jAR 60))) (fun _ i _=>c-(intOf i).toNat)
 case atStart=>exact⟨0,[],takeN r 1,zR,rfl,cu _ _ _ _,rfl,h1,hV,by show _=_;rw[HX.o];rfl,hD,hp⟩
 case round =>
  obtain⟨k,acc,rr,hk,rfl,Hg,Hh,Hx,Hf,hq,Hm,Hi⟩:=hrel;have h6:acc.length<=255:=by have:=Hh.o;omega
  obtain⟨wo,rfl⟩:∃wo:World,wo=wr:=⟨_,rfl⟩;obtain⟨yo,Hy,rfl⟩:=jQa Hg.o;have h5:=jQe Hi.o;have Hc:=jQe Hf.o
  by_cases hkt:k<c
  ·have i1:(k:Int)<(c:Int):=by omega
   obtain⟨m,hm⟩:∃m,c-k=m+1:=⟨c-k-1,by omega⟩;have hu:=hq.o;rw[hm,jY5] at hu;simp only at hu;have hP:c-(k+1)=m:=by omega
   have hI:=cm (jQo rr 5) Hx;have h2:=cm (Sq.jIW (takeN rr 5)) hI;have hZ:=Sq.jUb rr 5 (by decide);have h3:=cm (Sq.jKd (takeN rr 5)) hI;obtain⟨pl,Hs⟩:∃x,x=aF rr 5:=⟨_,rfl⟩;obtain⟨tx,Hn⟩:∃x,x=jEm (takeN rr 5):=⟨_,rfl⟩;rw[<-Hs,<-Hn] at hu;rw[<-Hn] at h3;have hU:=hd Hs;have hY:=hd Hn;have hz:=hd hu;have hS:=hd hP;clear hq hu hm hP Hs Hn hZ;go_wp2_with fail;refine(jR3 b rr _ Hf.o Hx).mono ?_;rintro e w2 ⟨rfl,Hv,Hk⟩;rw[<-hU.o];have hA:=hd Hv;have hn:=hd (Hg.o.rf Hf.o (Rf.jBA Hk));have ha:=hd (Hm.o.trans (Rf.jBA Hk));have hh:=hd ((Hk.other w.heap.size (by omega)).trans Hi.o);clear Hv Hk Hg Hf Hm Hi;go_wp2_with fail;refine(jKR b _ _ hA.o hI).mono ?_;rintro e w3 ⟨rfl,Hw,Hl⟩;rw[<-hY.o];have hr:=hn.o.rf hA.o (Rf.jBA Hl);have hv:=ha.o.trans (Rf.jBA Hl);have hj:=(Hl.other w.heap.size (by omega)).trans hh.o;have h4:=jQe hj;have ht:Below w3.heap.size w3 (w3.alloc (.cells #[.int .i64 pl,.string tx] 141)):=bA;have hy:=hd (hr.below ht);have hX:=hd (Hw.below ht);have hb:=hd (hv.trans (Rf.jBF ht));have hC:=hd ((ht.block _ h4).trans hj);clear Hw Hl hr hv hj ht hA hn ha hh;go_wp2_with (at_builtin;refine jQP rfl (.tmp 19) (.tmp 23) rfl (w.heap.size+1) _ acc rfl hy.o ⟨pl,tx⟩ w3.heap.size 1 rfl (by simp[go_sem]) (by simp[go_sem]) (by omega) (by simp;omega) ?_;intro v5 w5 Hd Ht;have hT:=hd Hd;have hi:=hd Ht;clear Hd Ht);have h0:bJ b w5 (jCG (takeN rr 5)):=(hi.o.block b (by omega)).trans hX.o;have hG:w5.heap[w.heap.size]?=some (.cells jAR 60):=(hi.o.block _ (by omega)).trans hC.o;have hH:Rf b w w5:=⟨hi.o.os.trans hb.o.os,hi.o.tape.trans hb.o.tape,hi.o.output.trans hb.o.output,cm hb.o.size hi.o.size,fun g hg Hp=>(hi.o.block g (by omega)).trans (hb.o.block g hg Hp)⟩
   go_roundw;exact⟨k+1,acc++[⟨pl,tx⟩],jCG (takeN rr 5),by omega,by go_num,hT,by show _=_;rw[cg,Hh.o];rfl,h2,h0,by show _=_;rw[hz.o,hS.o];simp,hH,hG⟩;simp[intOf];omega
  have hN:k=c:=by omega
  have i1:¬((k:Int)<(c:Int)):=by omega
  have hz:Hid (x=(acc,rr)):=by show _=_;rw[hq.o,hN,Nat.sub_self];simp[bN]
  have hE:acc.length<=1000:=by omega
  clear hq hN;go_wp2_with fail;refine(jL1 acc _ _ (Reads.jEC Hg.o) hE).mono ?_;rintro e w2 ⟨ev,rfl,Ho,Hj⟩;obtain⟨xo,He,rfl⟩:=jQa Ho;obtain⟨lh,Hq⟩:∃y,y=(bB (α:=Empty) acc).hd:=⟨_,rfl⟩;rw[<-Hq,jQc];have he:=(Hj.block w.heap.size h5).trans Hi.o;obtain⟨b0,b1,b2,b3,b4,b5,b6⟩:=jQw he;obtain⟨f0,f1,f2,f3,f4,f5,f6⟩:=jQk he;have h9:=jQe he;have hh:=hd he;have hB:=hd (Hf.o.below Hj);have ha:=hd (Hm.o.trans (Rf.jBF Hj));have hQ:=hd (jQj Ho zR);have hR:=hd Hq;clear Ho Hj he Hf Hm Hi Hg Hq;go_wp2;refine cp (v:=.agg #[.bool lh.inner,.slice xo acc.length He,.slice none 0 0,.int .i64 lh.least,.int .i64 lh.rows,.string lh.sl,.int .i64 lh.num]) (by simp[results,Tryz.results91,go_sem, *]) rfl ?_;rw[hz.o];refine⟨.slice xo acc.length He,by rw[<-hR.o,jQc],?_,?_,?_⟩
  ·exact jIF hQ.o hh.o (by decide) (fun g hg=>jQl _ _ _ _ _ _ _ _ _ hg)
  ·exact(jQl _ _ _ _ _ _ _ _ _ (by omega)).trans hB.o
  have hw:=jQu (b:=w.heap.size) (Below.refl 0 w2) zR (.bool lh.inner) (.slice xo acc.length He) (.slice none 0 0) (.int .i64 lh.least) (.int .i64 lh.rows) (.string lh.sl) (.int .i64 lh.num);exact⟨hw.os.trans ha.o.os,hw.tape.trans ha.o.tape,hw.output.trans ha.o.output,cm ha.o.size hw.size,fun g hg Hp=>(jQl _ _ _ _ _ _ _ _ _ (by omega)).trans (ha.o.block g hg Hp)⟩
end
section
open Go.RowKit
variable {Z:Nat->Prop}
theorem jZA (tr:Trl)(h:Sq.Head):(aC tr h).bc.length<=tr.bc.length+1:=by
 unfold aC;simp only
 split
 ·simp
 omega
theorem qBW (es:List Ent)(p:Int)(k:Nat)(h:k<es.length):(es.drop k).any (fun x=>x.place==p)=(es[k].place==p || (es.drop (k+1)).any fun x=>x.place==p):=by
 rw[cr h];rfl
theorem qBv (f:α->Sq.Head)(l:List α)(p:Int):bU f l p<=l.length:=by
 rcases dP l.length with h | h
 ·have:l=[]:=by simpa using h
  subst this;exact nR
 exact cQ (jL3 f l p (by intro e;subst e;simp at h))
def jIj (tb:Nat)(n:Nat)(t:Nd n)(p:Int)(tr:Trl)(w:World)(e:Ending)(w':World):Prop:=e=.returned (.bool (jDq n t p tr).1)/\bk tb w' (jDq n t p tr).2/\aA tb w w'
theorem jUU (n:Nat)(h:Sq.Head)(es:List Ent)(l:List (Nd n×Value×Value))(ev cv:Value)(p:Int)(tb:Nat)(tr:Trl)(w:World)(hU:aM 0 w ev es)(hn:aB Z 0 w cv n l)(h5:es.length<=1000)(hl:l.length<=1000)(ht:bk tb w tr)(hM:tr.bc.length+1<=100000)
  (ih:∀x∈l,∀w',ag Z w' n x.1 x.2.1 x.2.2->bk tb w' (aC tr h)->Calls Tryz.prog 153 #[.agg (au n x).toArray,.int .i64 p,.pointer (some ⟨tb,0,none⟩)] w' (jIj tb n x.1 p (aC tr h) w')) :
  Calls Tryz.prog 153 #[.agg (ae h ev cv).toArray,.int .i64 p,.pointer (some ⟨tb,0,none⟩)] w fun e w'=>e=.returned (.bool (jCK (aa n) (jDq n) ⟨h,es,l.map Prod.fst⟩ p tr).1)/\bk tb w' (jCK (aa n) (jDq n) ⟨h,es,l.map Prod.fst⟩ p tr).2/\aA tb w w':=by
 obtain⟨eo,hL,rfl⟩:=jQa hU;obtain⟨co,hK,rfl⟩:=jQa hn.own;rw[jQc];have hF:=ht.lt;obtain⟨W,hP⟩:∃W,W=w.alloc (.cells #[.bool h.inner,.slice eo es.length hL,.slice co l.length hK,.int .i64 h.least,.int .i64 h.rows,.string h.sl,.int .i64 h.num] 60):=⟨_,rfl⟩;have hW:Below w.heap.size w W:=by rw[hP];exact bA
 have hc:W.heap[w.heap.size]?=some (.cells #[.bool h.inner,.slice eo es.length hL,.slice co l.length hK,.int .i64 h.least,.int .i64 h.rows,.string h.sl,.int .i64 h.num] 60):=by rw[hP];exact jQi w _
 have HT:=hd (ht.below hW);have HF:Hid (aA tb w W):=aA.of hW (by omega);have hb:=hd hc;have hm:=hd (hU.below hW);have HN:=hd (hn.below hW);have IH:=hd ih;obtain⟨a0,a1,a2,a3,a4,a5,a6⟩:=aP.jCq (h:=h) hc;have hA:=jQe hc;clear ht hW hc hU hn ih;go_enter Tryz.func153,Tryz.ntmps153;go_wp2_with fail;rw[<-hP];clear hP;refine(jF2 tb tr h _ _ W ⟨_,_,_,rfl⟩ ⟨_,_,_,rfl⟩ HT.o hM).mono ?_;rintro e w1 ⟨rfl,hQ,hJ⟩;have ha:=(hJ.bC w.heap.size _ _ _ hb.o (by decide) (by decide)).trans hb.o;have T1:=hd hQ;have F1:Hid (aA tb w w1):=HF.o.trans hJ;have hV:=hd (hm.o.bX hJ);have hO:=hd (HN.o.bX hJ);obtain⟨n0,n1,n2,n3,n4,n5,n6⟩:=aP.jCq (h:=h) ha;have hu:=jQe ha;have hE:=hQ.lt;have hh:=hd ha;obtain⟨hN,hH⟩:∃x,x=aC tr h:=⟨_,rfl⟩;have t1:=T1.o;have hR:=IH.o;rw[<-hH] at t1 hR;have T2:=hd t1;have hX:=hd hR;cases hin:h.inner
 ·have HE:Hid (jCK (aa n) (jDq n) ⟨h,es,l.map Prod.fst⟩ p tr=(es.any (fun x=>x.place==p),hN)):=by
   show _=_;unfold jCK;rw[hH];simp only[hin];rfl
  have hC:=hd hin;rw[hin] at n0;clear a0 a1 a2 a3 a4 a5 a6 hA HT HF hb hm HN IH hQ hJ ha T1 t1 hR hX hH hO n2 n3 n4 n5 n6 hin;go_wp2
  go_loop [8] (fun i=>∃k:Nat,k<=es.length/\i=.int .i64 k/\Hid (es.any (fun x=>x.place==p)=(es.drop k).any fun x=>x.place==p)) (fun i=>es.length-(intOf i).toNat)
  case atStart=>exact⟨0,zR,rfl,rfl⟩
  case round =>
   obtain⟨k,hk,rfl,hr⟩:=hrel
   by_cases hltk:k<es.length
   ·obtain⟨g,hS,hv,hg,c0,c1⟩:=hV.o.at k hltk;obtain⟨rfl,-,rfl⟩:=sI hv;have hs:=qBW es p k hltk;obtain⟨q,hq⟩:∃x,x=es[k].place:=⟨_,rfl⟩;rw[<-hq] at hs c0;have hj:=hd hs;have i1:¬((es.length:Int)<=(k:Int)):=by omega
    clear hs hq c1;cases he:q==p
    ·have HR:Hid (es.any (fun x=>x.place==p)=(es.drop (k+1)).any fun x=>x.place==p):=by show _=_;rw[hr.o,hj.o,he];rfl
     clear hr hj;go_wp2;go_round
     case rel=>exact⟨k+1,by omega,by go_num,HR⟩
     case measure=>simp[intOf];omega
    have HR:Hid (es.any (fun x=>x.place==p)=true):=by show _=_;rw[hr.o,hj.o,he];rfl
    clear hr hj;go_wp2;go_ret;exact⟨by rw[HE.o,HR.o];rfl,by rw[HE.o];exact T2.o,F1.o⟩
   have HR:Hid (es.any (fun x=>x.place==p)=false):=by show _=_;rw[hr.o,cD (by omega)];rfl
   clear hr;go_wp2;go_ret;exact⟨by rw[HE.o,HR.o];rfl,by rw[HE.o];exact T2.o,F1.o⟩
 have HE:Hid (jCK (aa n) (jDq n) ⟨h,es,l.map Prod.fst⟩ p tr=match (l.map Prod.fst)[bU (aa n) (l.map Prod.fst) p]? with | some c=>jDq n c p hN | none=>(false,hN)):=by
  show _=_;unfold jCK;rw[hH];simp only[hin,dT];cases (l.map Prod.fst)[bU (aa n) (l.map Prod.fst) p]? <;> rfl
 rw[hin] at n0;have hz:=qBv (aa n) (l.map Prod.fst) p;rw[cF] at hz;obtain⟨a,hT⟩:∃x,x=bU (aa n) (l.map Prod.fst) p:=⟨_,rfl⟩;have he:=HE.o;rw[<-hT] at he hz;have hw:=hd he;have hB:=hd hT;have hC:=hd hin;clear a0 a1 a2 a3 a4 a5 a6 hA HT HF hb hm HN IH hQ hJ ha T1 t1 hR hH hV HE he hT;go_wp2_with fail;refine(jKj n l p ⟨true,h.least,h.rows,h.sl,h.num⟩ _ _ w1 ⟨_,_,_,rfl⟩ hO.o hl).mono ?_;rintro e w2 ⟨rfl,hI⟩;rw[<-hB.o];have c2:=(hI.cell (p:=⟨w.heap.size,2,none⟩) hu).trans n2;have hG:w.heap.size<w2.heap.size:=by have:=hI.size;omega
 have h0:=hd (hO.o.below hI);have T3:=hd (T2.o.below hI);have F2:Hid (aA tb w w2):=F1.o.trans (aA.of hI (by omega));clear hI hin n0 n1 n2 n3 n4 n5 n6 hO T2 F1 hh
 by_cases hlta:a<l.length
 ·obtain⟨g,hS,ea,el,ec,ca,cl,cc,hv,hg,⟨d0,d1,d2,d3,d4,h2,h1⟩,d5,d6⟩:=h0.o.at a hlta;obtain⟨rfl,-,rfl⟩:=sI hv;have hi:Hid (jCK (aa n) (jDq n) ⟨h,es,l.map Prod.fst⟩ p tr=jDq n l[a].1 p hN):=by show _=_;rw[hw.o,dy,cz hlta];rfl
  have hf:=cJ hlta;obtain⟨x,hx⟩:∃x,x=l[a]:=⟨_,rfl⟩;have hp:=hi.o;rw[<-hx] at hp d0 d3 d4 h2 h1 d5 d6 hf;obtain⟨t,h4,h3⟩:=x;simp only[Prod.mk.injEq] at d5;obtain⟨rfl,rfl⟩:=d5;have hy:=hd hp;have hD:=hd d6;have ho:=hd hf;have i1:¬((l.length:Int)<=(a:Int)):=by omega
  have i2:Decidable.decide ((a:Int)<(l.length:Int))=true:=by simpa using hlta
  clear hp hx hf hi d6;go_wp2_with fail;refine(hX.o _ ho.o _ hD.o T3.o).mono ?_;rintro e w3 ⟨rfl,hZ,hY⟩;have T4:=hd hZ;have F3:Hid (aA tb w w3):=F2.o.trans hY;clear hZ hY;go_wp2;go_ret;exact⟨by rw[hy.o];rfl,by rw[hy.o];exact T4.o,F3.o⟩
 have hi:Hid (jCK (aa n) (jDq n) ⟨h,es,l.map Prod.fst⟩ p tr=(false,hN)):=by show _=_;rw[hw.o,dt (by simpa using hlta)]
 have i2:Decidable.decide ((a:Int)<(l.length:Int))=false:=by simpa using hlta
 go_wp2;go_ret;exact⟨by rw[hi.o];rfl,by rw[hi.o];exact T3.o,F2.o⟩
theorem qCk (t:af Empty)(p:Int)(tr:Trl):jCK (aa 0) (jDq 0) ⟨t.hd,t.av,[]⟩ p tr=jDq 0 t p tr:=by
 obtain⟨h,es,ks⟩:=t;cases ks with
 | nil =>
  show jCK _ _ _ _ _=jCK _ _ _ _ _;unfold jCK;simp only
  split
  ·rfl
  rfl
 | cons e _=>exact e.elim
def jHE {α:Type}(f:α->Sq.Head)(lo hi:Int):List α->Bool
 | []=>false
 | c::r=>Decidable.decide ((f c).least<=hi)&&jCa f lo r
theorem jYQ (f:α->Sq.Head)(g:α->Trl->List Ent×Trl)(lo hi:Int)(cs:List α)(k:Nat)(h:k<cs.length)(x:List Ent×Trl):jBd f g lo hi (cs.drop k) x=if jHE f lo hi (cs.drop k) then jBd f g lo hi (cs.drop (k+1)) (x.1++(g cs[k] x.2).1,(g cs[k] x.2).2) else jBd f g lo hi (cs.drop (k+1)) x:=by
 rw[cr h,jBd];rfl
theorem jYb (n:Nat)(l:List (Nd n×Value×Value))(k:Nat)(lo hi:Int)(h0:Sq.Head)(ev cv:Value)(w:World)(hy:∃a k c,ev=.slice a k c)(h:aB Z 0 w cv n l)(hl:l.length<=1000)(hk:k<l.length) :
  Calls Tryz.prog 146 #[.agg (ae h0 ev cv).toArray,.int .i64 k,.int .i64 lo,.int .i64 hi] w fun e w'=>e=.returned (.bool (jHE (aa n) lo hi ((l.map Prod.fst).drop k)))/\Below w.heap.size w w':=by
 obtain⟨ao,hf,rfl⟩:=jQa h.own;obtain⟨eo,en,hh,rfl⟩:=hy;rw[jQc];obtain⟨zi,zl,zr,zs,zn⟩:=h0;have hW:Below w.heap.size w (w.alloc (.cells #[.bool zi,.slice eo en hh,.slice ao l.length hf,.int .i64 zl,.int .i64 zr,.string zs,.int .i64 zn] 60)):=bA;have HW:=hd hW;have H:=hd h;clear h hW;obtain⟨g,ho,ea,el,ec,ca,cl,cc,hv,hg,⟨d0,d1,d2,d3,d4,hs,hr⟩,d5,d6⟩:=(H.o.below HW.o).at k hk;obtain⟨rfl,-,rfl⟩:=sI hv
 have HE:Hid (jHE (aa n) lo hi ((l.map Prod.fst).drop k)=(Decidable.decide ((aa n l[k].1).least<=hi)&&jCa (aa n) lo ((l.map Prod.fst).drop (k+1)))):=by
  show _=_;rw[cr (by simpa using hk),jHE,da]
 obtain⟨q,hq⟩:∃x,x=(aa n l[k].1).least:=⟨_,rfl⟩;have he:=HE.o;rw[<-hq] at d3 he;have ha:=hd he;have i1:¬((l.length:Int)<=(k:Int)):=by omega
 have i2:¬((k:Int)<0):=by omega
 have i3:decide ((k:Int)<0)=false:=by simp
 have i4:decide ((l.length:Int)<=(k:Int))=false:=by simpa using hk
 clear hq he HE d0 d1 d2 d4 d5 d6 hs hr
 by_cases hle:q<=hi
 ·have i5:decide (hi<q)=false:=by simpa using hle
  by_cases hk2:k+1<l.length
  ·obtain⟨g2,hp,hC,hE,hD,hz,hB,hA,hn,hF,⟨e0,e1,e2,e3,e4,hx,ht⟩,e5,e6⟩:=(H.o.below HW.o).at (k+1) hk2;simp only[Value.slice.injEq,Option.some.injEq,Addr.mk.injEq] at hn;obtain⟨⟨rfl,-,-⟩,-,rfl⟩:=hn
   have hb:Hid (jHE (aa n) lo hi ((l.map Prod.fst).drop k)=Decidable.decide (lo<(aa n l[k+1].1).least)):=by
    show _=_;rw[ha.o,cr (by simpa using hk2),jCa,da];simp[hle]
   obtain⟨q2,hj⟩:∃x,x=(aa n l[k+1].1).least:=⟨_,rfl⟩;have he:=hb.o;rw[<-hj] at e3 he;have hc:=hd he;have j1:¬((l.length:Int)<=(k:Int)+1):=by omega
   have j2:¬((k:Int)+1<0):=by omega
   have j3:((k:Int)+1==(l.length:Int))=false:=by simp;omega
   clear he hb hj e0 e1 e2 e4 e5 e6 hx ht ha;go_enter Tryz.func146,Tryz.ntmps146;go_wp2;go_ret;exact⟨by rw[hc.o];rfl,HW.o⟩
  have hb:Hid (jHE (aa n) lo hi ((l.map Prod.fst).drop k)=true):=by
   show _=_;rw[ha.o,cD (by simp;omega),jCa];simp[hle]
  have j3:((k:Int)+1==(l.length:Int))=true:=by simp;omega
  clear ha;go_enter Tryz.func146,Tryz.ntmps146;go_wp2;go_ret;exact⟨by rw[hb.o];rfl,HW.o⟩
 have i5:decide (hi<q)=true:=by simpa using hle
 have hb:Hid (jHE (aa n) lo hi ((l.map Prod.fst).drop k)=false):=by show _=_;rw[ha.o];simp[hle]
 clear ha;go_enter Tryz.func146,Tryz.ntmps146;go_wp2;go_ret;exact⟨by rw[hb.o];rfl,HW.o⟩
theorem aA.grow {wo w5:World}(h:aA tb W wo)(k:Below W.heap.size wo w5)(ht:tb<=W.heap.size):aA tb W w5 :=
 ⟨h.below.trans (k.mono ht),fun g c e fr hg h1 h2=>(k.block g (jQe hg)).trans (h.bC g c e fr hg h1 h2)⟩
def jDL (e0:TypeId)(w w':World):Prop:=∀(q:Nat) (c:Array Value) (e:TypeId) (fr:Nat×Nat),w.heap[q]?=some (Obj.cells c e fr)->e≠e0->w'.heap[q]?=w.heap[q]?
theorem jQ1 {e0:TypeId}(k:jDL e0 w w'){size:Nat}(he:e≠e0)(h:w.ownsRow B e size v n cs):w'.ownsRow B e size v n cs:=by
 refine⟨h.1,?_⟩;rcases h.2 with h0 | ⟨g,cap,cur,hv,hbg,hh,hn,hm,hc,ht⟩
 ·exact Or.inl h0
 exact Or.inr ⟨g,cap,cur,hv,hbg,(k g _ _ _ hh he).trans hh,hn,hm,hc,ht⟩
theorem bk.keeps {e0:TypeId}{tr:Trl}(h:bk tb w tr)(k:jDL e0 w w')(h1:3≠e0)(h2:74≠e0):bk tb w' tr:=by
 obtain⟨v,hb,ha⟩:=h.row;exact⟨⟨v,(k tb _ _ _ hb h2).trans hb,jQ1 k h1 ha⟩,h.few⟩
theorem jVL {ops:Array Oper}{rest:List Oper}{o:Oper}{Q:Exit->Act->World->Prop}(hg:o.guard=none)(sl x:Operand)
  (ho:o.op=.call { callee:=.builtin .append,args:=#[sl,x],argTypes:=#[57,57] }) (B:Nat) (v:Value) (es:List Ent) (hs:a.eval sl=v) (hb:aM B w v es)
  (e:Ent) (g c:Nat) (hx:a.eval x=.slice (some ⟨g,0,none⟩) 1 c) (hc:w.cell? ⟨g,0,none⟩=some (.int .i64 e.place)) (hf:w.cell? ⟨g,1,none⟩=some (.string e.row)) (h1:es.length+1<=1000000) (hB:B<=w.heap.size)
  (h:∀v' w',aM B w' v' (es++[e])->Below B w w'->jDL 141 w w'->wpList Tryz.prog ops Q rest (a.put o.dst v') w'):wpList Tryz.prog ops Q (o::rest) a w:=by
 obtain⟨i0,hi,hj,hn,hp⟩:=cV Tryz.jE9
 refine cT _ hg sl x 57 ho B 141 i0 _ 2 24 Tryz.underlying57 hi hj hn hp rfl (by decide) v es.length _ hs hb ⟨g,0,none⟩ 1 c (jAw e) hx rfl (by
  intro j u hu;rw[jFp]
  match j,hu with
  | 0,hu=>simp[jAw] at hu;subst hu;exact hc
  | 1,hu=>simp[jAw] at hu;subst hu;exact hf
  | j+2,hu=>simp[jAw] at hu) (by intro u hu;simp[jAw] at hu;rcases hu with rfl | rfl<;>rfl) (by decide) (by unfold maxLen;omega) (by omega) hB _ rfl ?_
 intro g' cap w' hh ha _ _;refine h _ w' ?_ (Tch.aO ha (fun k hk=>(World.ownsRow.lt hb k hk).1) hB) (fun q c e fr hq he=>ha.block q (jQe hq) (fun e2=>jQm hb hq (fun e3=>he e3.symm) e2.symm));unfold aM;rw[cg,cN];simpa using hh
theorem jOU {ops:Array Oper}{rest:List Oper}{o:Oper}{Q:Exit->Act->World->Prop}(hg:o.guard=none)(sl x:Operand)
  (ho:o.op=.call { callee:=.builtin .append,args:=#[sl,x],argTypes:=#[57,57] }) (B:Nat) (v:Value) (es:List Ent) (hs:a.eval sl=v) (hb:aM B w v es)
  (m:List Ent) (sv:Value) (hx:a.eval x=sv) (hf:Reads w sv m.length 2 (m.flatMap jAw)) (hm:0<m.length) (h1:es.length+m.length<=1000000) (hB:B<=w.heap.size)
  (h:∀v' w',aM B w' v' (es++m)->Below B w w'->jDL 141 w w'->wpList Tryz.prog ops Q rest (a.put o.dst v') w'):wpList Tryz.prog ops Q (o::rest) a w:=by
 obtain⟨i0,hi,hj,hn,hp⟩:=cV Tryz.jE9;rcases hf.2 with⟨_,h0⟩ | ⟨g,off,cap,rfl,_,hc⟩
 ·omega
 refine cT _ hg sl x 57 ho B 141 i0 _ 2 24 Tryz.underlying57 hi hj hn hp rfl (by decide) v es.length _ hs hb ⟨g,off,none⟩ m.length cap (m.flatMap jAw) hx hf.1 (by
  intro j u hu;rw[jFp];exact hc j u hu) (jPn m) hm (by unfold maxLen;omega) (by omega) hB _ rfl ?_
 intro g' cap w' hh ha _ _;refine h _ w' ?_ (Tch.aO ha (fun k hk=>(World.ownsRow.lt hb k hk).1) hB) (fun q c e fr hq he=>ha.block q (jQe hq) (fun e2=>jQm hb hq (fun e3=>he e3.symm) e2.symm));unfold aM;rw[cg,cN];exact hh
def jEU (tb:Nat)(x:List Ent×Trl)(w:World)(e:Ending)(w':World):Prop:=∃v,e=.returned v/\aM w.heap.size w' v x.1/\(x.1=[]->v=.slice none 0 0)/\bk tb w' x.2/\aA tb w w'
theorem jRs (n:Nat)(h:Sq.Head)(es:List Ent)(l:List (Nd n×Value×Value))(ev cv:Value)(lo hi:Int)(tb:Nat)(tr:Trl)(w:World)(G:Trl->Prop)(Ht:aM 0 w ev es)(hn:aB Z 0 w cv n l)(HR:es.length<=1000)(hl:l.length<=1000)(ht:bk tb w tr)(He:tr.bc.length+1<=100000)(hG:G (aC tr h))
  (ih:∀x∈l,∀w' tr',ag Z w' n x.1 x.2.1 x.2.2->bk tb w' tr'->G tr'->((jAW n x.1 lo hi tr').1.length<=900/\G (jAW n x.1 lo hi tr').2)/\Calls Tryz.prog 103 #[.agg (au n x).toArray,.int .i64 lo,.int .i64 hi,.pointer (some ⟨tb,0,none⟩)] w' (jEU tb (jAW n x.1 lo hi tr') w')) :
  Calls Tryz.prog 103 #[.agg (ae h ev cv).toArray,.int .i64 lo,.int .i64 hi,.pointer (some ⟨tb,0,none⟩)] w (jEU tb (jBJ (aa n) (jAW n) ⟨h,es,l.map Prod.fst⟩ lo hi tr) w):=by
 obtain⟨eo,Hj,rfl⟩:=jQa Ht;obtain⟨co,Hf,rfl⟩:=jQa hn.own;rw[jQc];have h5:=ht.lt;obtain⟨W,Hk⟩:∃W,W=w.alloc (.cells #[.bool h.inner,.slice eo es.length Hj,.slice co l.length Hf,.int .i64 h.least,.int .i64 h.rows,.string h.sl,.int .i64 h.num] 60):=⟨_,rfl⟩;have hW:Below w.heap.size w W:=by rw[Hk];exact bA
 have hT:W.heap.size=w.heap.size+1:=by rw[Hk];exact jQr w _
 have hr:W.heap[w.heap.size]?=some (.cells #[.bool h.inner,.slice eo es.length Hj,.slice co l.length Hf,.int .i64 h.least,.int .i64 h.rows,.string h.sl,.int .i64 h.num] 60):=by rw[Hk];exact jQi w _
 have HT:=hd (ht.below hW);have HF:Hid (aA tb w W):=aA.of hW (by omega);have hq:=hd hr;have hX:=hd (Ht.below hW);have HN:=hd (hn.below hW);have IH:=hd ih;have HG:=hd hG;have hw:=hd hT;obtain⟨a0,a1,a2,a3,a4,a5,a6⟩:=aP.jCq (h:=h) hr;have hC:=jQe hr;have HE:Hid (jBJ (aa n) (jAW n) ⟨h,es,l.map Prod.fst⟩ lo hi tr=jBd (aa n) (fun c=>jAW n c lo hi) lo hi (l.map Prod.fst) (es.filter (jBQ lo hi),aC tr h)):=rfl;clear ht hW hr Ht hn ih hG hT;go_enter Tryz.func103,Tryz.ntmps103;go_wp2_with fail;rw[<-Hk];clear Hk;refine(jF2 tb tr h _ _ W ⟨_,_,_,rfl⟩ ⟨_,_,_,rfl⟩ HT.o He).mono ?_;rintro e w1 ⟨rfl,Hv,Hz⟩;obtain⟨HH,Ho⟩:∃x,x=aC tr h:=⟨_,rfl⟩;have he:=HE.o;have hg:=HG.o;rw[<-Ho] at Hv he hg;have T1:=hd Hv;have F1:=hd Hz;have G1:=hd hg;have hO:=hd he;clear a0 a1 a2 a3 a4 a5 a6 hC HT Hv Hz Ho he hg HE HG He;go_wp2
 go_loopw [9,10] (fun v i wr=>∃k:Nat,∃acc:List Ent,k<=es.length/\i=.int .i64 k/\aM (w.heap.size+1) wr v acc/\(acc=[]->v=.slice none 0 0)/\acc.length<=k/\Hid (es.filter (jBQ lo hi)=acc++(es.drop k).filter (jBQ lo hi))/\bk tb wr HH/\aA tb W wr) (fun _ i _=>es.length-(intOf i).toNat)
 case atStart=>exact⟨0,[],zR,rfl,cu _ _ _ _,fun _=>rfl,nR,rfl,T1.o,F1.o⟩
 case round =>
  obtain⟨j,ac,hj,rfl,Hg,Hb,Hs,h8,Hh,Hc⟩:=hrel;obtain⟨wo,rfl⟩:∃wo:World,wo=wr:=⟨_,rfl⟩;obtain⟨yo,HM,rfl⟩:=jQa Hg;have ha:=(Hc.bC w.heap.size _ _ _ hq.o (by decide) (by decide)).trans hq.o;obtain⟨n0,n1,n2,n3,n4,n5,n6⟩:=aP.jCq (h:=h) ha;have hC:=jQe ha;have hL:=Hh.lt;have hp:=hd Hg;have hb:=hd Hb;have T2:=hd Hh;have F2:=hd Hc;have hD:=hd (hX.o.bX Hc);clear Hg Hb Hh Hc ha n0 n3 n4 n5 n6
  by_cases hjt:j<es.length
  ·obtain⟨g4,HJ,hv,HU,c0,c1⟩:=hD.o.at j hjt;obtain⟨rfl,-,rfl⟩:=sI hv;have hP:=hd (Sq.jLf (jBQ lo hi) es j hjt);obtain⟨y,hy⟩:∃x,x=es[j]:=⟨_,rfl⟩;have hK:=hP.o;rw[<-hy] at c0 c1 hK;have hc:=hd hK;have i1:¬((es.length:Int)<=(j:Int)):=by omega
   clear hK hP hy n2
   by_cases hlo:lo<=y.place
   ·have i2:decide (lo<=y.place)=true:=by simpa using hlo
    by_cases hhi:y.place<=hi
    ·have i3:decide (y.place<=hi)=true:=by simpa using hhi
     have hf:Hid (es.filter (jBQ lo hi)=(ac++[y])++(es.drop (j+1)).filter (jBQ lo hi)):=by show _=_;rw[h8.o,hc.o];simp[jBQ,hlo,hhi]
     have hA:Below wo.heap.size wo (wo.alloc (.cells #[.int .i64 y.place,.string y.row] 141)):=bA;have hV:=hd (hp.o.below hA);have HA:=hd hA;clear h8 hc hA;go_wp2_with (at_builtin;refine jVL rfl (.tmp 41) (.tmp 47) rfl (w.heap.size+1) _ ac rfl hV.o y wo.heap.size 1 rfl (by simp[go_sem]) (by simp[go_sem]) (by omega) (by simp;omega) ?_;intro v5 w5 h7 Hl Hm;have hJ:=hd h7;have hF:=hd Hl;have hH:=hd Hm;clear h7 Hl Hm);go_roundw;exact⟨j+1,ac++[y],by omega,by go_num,hJ.o,fun h=>by simp at h,by rw[cg];simp;omega,hf,(T2.o.below HA.o).keeps hH.o (by decide) (by decide),(F2.o.grow (HA.o.mono (by rw[hw.o];omega)) (by rw[hw.o];omega)).grow (by rw[hw.o];exact hF.o) (by rw[hw.o];omega)⟩;simp[intOf];omega
    have i3:decide (y.place<=hi)=false:=by simpa using hhi
    have hf:Hid (es.filter (jBQ lo hi)=ac++(es.drop (j+1)).filter (jBQ lo hi)):=by show _=_;rw[h8.o,hc.o];simp[jBQ,hlo,hhi]
    clear h8 hc;go_wp2;go_roundw;exact⟨j+1,ac,by omega,by go_num,hp.o,hb.o,by omega,hf,T2.o,F2.o⟩;simp[intOf];omega
   have i2:decide (lo<=y.place)=false:=by simpa using hlo
   have hf:Hid (es.filter (jBQ lo hi)=ac++(es.drop (j+1)).filter (jBQ lo hi)):=by show _=_;rw[h8.o,hc.o];simp[jBQ,hlo]
   clear h8 hc;go_wp2;go_roundw;exact⟨j+1,ac,by omega,by go_num,hp.o,hb.o,by omega,hf,T2.o,F2.o⟩;simp[intOf];omega
  have hS:es.filter (jBQ lo hi)=ac:=by rw[h8.o,cD (by omega)];simp
  have he:=hO.o;rw[hS] at he;have hB:=hd he;clear h8 hS he hO;go_wp2
  go_loopw [9,11] (fun v i wr=>∃k:Nat,∃acc:List Ent,∃Hd:Trl,k<=l.length/\i=.int .i64 k/\aM (w.heap.size+1) wr v acc/\(acc=[]->v=.slice none 0 0)/\acc.length<=1000+900*k/\Hid (jBJ (aa n) (jAW n) ⟨h,es,l.map Prod.fst⟩ lo hi tr=jBd (aa n) (fun c=>jAW n c lo hi) lo hi ((l.map Prod.fst).drop k) (acc,Hd))/\bk tb wr Hd/\aA tb W wr/\Hid (G Hd)) (fun _ i _=>l.length-(intOf i).toNat)
  case atStart=>exact⟨0,ac,HH,zR,rfl,hp.o,hb.o,by omega,hB,T2.o,F2.o,G1⟩
  case round =>
   clear hp hb T2 F2 hD n1 n2 hC hL hjt hj Hs hB T1 F1 G1;obtain⟨k,Ha,Hd,hk,rfl,Hg,Hb,Hy,h8,Hh,Hc,HB⟩:=hrel;obtain⟨wq,rfl⟩:∃wo:World,wo=wr:=⟨_,rfl⟩;obtain⟨zo,HO,rfl⟩:=jQa Hg;have ha:=(Hc.bC w.heap.size _ _ _ hq.o (by decide) (by decide)).trans hq.o;obtain⟨n0,n1,n2,n3,n4,n5,n6⟩:=aP.jCq (h:=h) ha;have hC:=jQe ha;have hL:=Hh.lt;have hp:=hd Hg;have hb:=hd Hb;have T2:=hd Hh;have F2:=hd Hc;have hI:=hd (HN.o.bX Hc);have hN:=hd ha;clear Hg Hb Hh Hc ha
   by_cases hkt:k<l.length
   ·have ho:=jYQ (aa n) (fun c=>jAW n c lo hi) lo hi (l.map Prod.fst) k (by simpa using hkt) (Ha,Hd);rw[da] at ho;obtain⟨mb,Hu⟩:∃x,x=jHE (aa n) lo hi ((l.map Prod.fst).drop k):=⟨_,rfl⟩;rw[<-Hu] at ho;have hE:=hd ho;have hY:=hd Hu;clear ho Hu;go_wp2_with fail;refine(jYb n l k lo hi h _ _ _ ⟨_,_,_,rfl⟩ hI.o hl hkt).mono ?_;rintro e w2 ⟨rfl,Hi⟩;rw[<-hY.o];have hh:=(Hi.block w.heap.size hC).trans hN.o;have b2:w2.cell? ⟨w.heap.size,2,none⟩=some (.slice co l.length Hf):=by rw[jQb hh];rfl
    have hM:=jQe hh;have T3:=hd (T2.o.below Hi);have F3:Hid (aA tb W w2):=F2.o.trans (aA.of Hi (by omega));have hs:=hd (hp.o.below Hi);have hR:=hd (hI.o.below Hi);clear Hi hh n0 n1 n2 n3 n4 n5 n6 hN T2 F2 hp hI hC hL;cases mb
    case false =>
     have hf:Hid (jBJ (aa n) (jAW n) ⟨h,es,l.map Prod.fst⟩ lo hi tr=jBd (aa n) (fun c=>jAW n c lo hi) lo hi ((l.map Prod.fst).drop (k+1)) (Ha,Hd)):=by show _=_;rw[h8.o,hE.o];simp
     clear h8 hE;go_wp2;go_roundw;exact⟨k+1,Ha,Hd,by omega,by go_num,hs.o,hb.o,by omega,hf,T3.o,F3.o,HB⟩;simp[intOf];omega
    case true =>
     obtain⟨g,HI,ea,el,ec,ca,cl,cc,hv,hg,⟨d0,d1,d2,d3,d4,Hx,Hw⟩,d5,d6⟩:=hR.o.at k hkt;obtain⟨rfl,-,rfl⟩:=sI hv;have hz:=cJ hkt;have ho:=hE.o;obtain⟨x,hx⟩:∃x,x=l[k]:=⟨_,rfl⟩;rw[<-hx] at ho d0 d3 d4 Hx Hw d5 d6 hz;obtain⟨t,HQ,HP⟩:=x;simp only[Prod.mk.injEq] at d5;obtain⟨rfl,rfl⟩:=d5;obtain⟨⟨hlen,Hq⟩,h9⟩:=IH.o _ hz _ _ d6 T3.o HB.o;simp only at hlen Hq h9;obtain⟨m,hm⟩:∃x,x=jAW n t lo hi Hd:=⟨_,rfl⟩;simp only[dT] at ho;rw[<-hm] at ho hlen Hq h9;have hf:Hid (jBJ (aa n) (jAW n) ⟨h,es,l.map Prod.fst⟩ lo hi tr=jBd (aa n) (fun c=>jAW n c lo hi) lo hi ((l.map Prod.fst).drop (k+1)) (Ha++m.1,m.2)):=by show _=_;rw[h8.o,ho]
     have HC:=hd h9;have hQ:=hd Hq;have i1:¬((l.length:Int)<=(k:Int)):=by omega
     clear ho hm hz hE d6 h8 h9 Hq hx;go_wp2_with fail;refine HC.o.mono ?_;rintro e w3 ⟨v3,rfl,Hn,Hr,HD,Hp⟩;have h6:=Hp.below.size;have hu:=hd (hs.o.bX Hp);have T4:=hd HD;have F4:Hid (aA tb W w3):=F3.o.trans Hp;have h3:=F4.o.below.size;rw[hw.o] at h3;obtain⟨m1,m2⟩:=m;simp only at hlen Hn Hr;clear HD Hp HC T3 F3 hs hR d0 d1 d2 d3 d4 Hx Hw b2 hM
     by_cases hm0:m1=[]
     ·have h4:=Hr hm0;subst h4;subst hm0;have h0:Hid (jBJ (aa n) (jAW n) ⟨h,es,l.map Prod.fst⟩ lo hi tr=jBd (aa n) (fun c=>jAW n c lo hi) lo hi ((l.map Prod.fst).drop (k+1)) (Ha,m2)):=by have:=hf.o;simp only[cW] at this;exact this
      obtain⟨i0,HK,HV,HW,HX⟩:=cV Tryz.jE9;clear hf Hn Hr;go_wp2_with (at_builtin;refine wpList_append_own_none rfl (.tmp 70) (.tmp 71) 57 rfl (w.heap.size+1) 141 i0 2 Tryz.underlying57 HK _ Ha.length _ rfl hu.o rfl ?_);go_roundw;exact⟨k+1,Ha,m2,by omega,by go_num,hu.o,hb.o,by omega,h0,T4.o,F4.o,hQ⟩;simp[intOf];omega
     have h2:0<m1.length:=by cases m1 with | nil=>exact absurd rfl hm0 | cons x r=>simp
     obtain⟨qo,HL,rfl⟩:=jQa Hn;have h1:=hd (Reads.jEC Hn);have hU:Ha++m1≠[]:=by simp[hm0]
     have hZ:=hd hU;clear Hn Hr hU;go_wp2_with (at_builtin;refine jOU rfl (.tmp 70) (.tmp 71) rfl (w.heap.size+1) _ Ha rfl hu.o m1 _ rfl h1.o h2 (by omega) (by omega) ?_;intro v5 w5 h7 Hl Hm;have hJ:=hd h7;have hF:=hd Hl;have hH:=hd Hm;clear h7 Hl Hm);go_roundw;exact⟨k+1,Ha++m1,m2,by omega,by go_num,hJ.o,fun h=>absurd h hZ.o,by rw[cg];omega,hf,T4.o.keeps hH.o (by decide) (by decide),F4.o.grow (by rw[hw.o];exact hF.o) (by rw[hw.o];omega),hQ⟩;simp[intOf];omega
   have hB:Hid (jBJ (aa n) (jAW n) ⟨h,es,l.map Prod.fst⟩ lo hi tr=(Ha,Hd)):=by show _=_;rw[h8.o,cD (by simp;omega)];rfl
   clear h8;go_wp2;go_ret;exact⟨_,rfl,by rw[hB.o];exact hp.o.base (by omega),by rw[hB.o];exact hb.o,by rw[hB.o];exact T2.o,HF.o.trans F2.o⟩
theorem jZB (t:af Empty)(lo hi:Int)(tr:Trl):jBJ (aa 0) (jAW 0) ⟨t.hd,t.av,[]⟩ lo hi tr=jAW 0 t lo hi tr:=by
 obtain⟨h,es,ks⟩:=t;cases ks with
 | nil=>rfl
 | cons e _=>exact e.elim
theorem qAx {t:af (Nd n)}{c:Nd n}(hc:c∈t.kids):jAx n c<=jAx (n+1) t:=by
 show _<=jFn (jAx n) t;unfold jFn
 have:=Sq.jUX (jAx n) hc
 omega
theorem jMW (K:Int)(hK:K<=99999)(lo hi:Int)(tb:Nat):∀(n:Nat) (t:Nd n) (ev cv:Value) (tr:Trl) (w:World),ag Z w n t ev cv->aT K n t->jAx n t<=900->bk tb w tr->aS K tr ->
  Calls Tryz.prog 103 #[.agg (ae (aa n t) ev cv).toArray,.int .i64 lo,.int .i64 hi,.pointer (some ⟨tb,0,none⟩)] w (jEU tb (jAW n t lo hi tr) w)
 | 0,t,ev,cv,tr,w,h,hf,hc,ht,hr=>by
  obtain⟨h1,rfl⟩:=h.leaf;have hj:=hr.len;have hl:=hf.at0.av;have hg:=jRs (Z:=Z) 0 (af.hd t) (af.av t) [] ev (.slice none 0 0) lo hi tb tr w (fun _=>True) h1 ⟨cu _ _ _ _,fun x hx=>by cases hx⟩ (by omega) zR ht (by omega) trivial (fun x hx=>by cases hx);have e:=jZB t lo hi tr;simp only[dO] at hg;rw[e] at hg;exact hg
 | n+1,t,ev,cv,tr,w,h,hf,hc,ht,hr=>by
  obtain⟨h1,l,h2,h3⟩:=h.inner;have hj:=hr.len;have he:=hf.at1;have hl:=he.av;have hk:=he.kids;have hb:=he.each;have ha:∀c∈af.kids t,jAx n c<=900:=fun c hp=>cm (qAx hp) hc
  rw[h2] at hk hb ha;rw[cF] at hk
  have hg:=jRs (Z:=Z) n (af.hd t) (af.av t) l ev cv lo hi tb tr w (aS K) h1 h3 (by omega) (by omega) ht (by omega) (hr.jB3 he.num) (fun x hx w' ho hq hs hn=>by
   have hh:x.1∈l.map Prod.fst:=List.mem_map.2 ⟨x,hx,rfl⟩;have h5:=Sq.jHU n x.1 lo hi ho (hb x.1 hh) hn;exact⟨⟨cm h5.2 (ha x.1 hh),h5.1⟩,jMW K hK lo hi tb n x.1 x.2.1 x.2.2 ho w' hq (hb x.1 hh) (ha x.1 hh) hs hn⟩)
  rw[<-h2] at hg;exact hg
theorem jUV (K:Int)(hK:K<=99999)(p:Int)(tb:Nat):∀(n:Nat) (t:Nd n) (ev cv:Value) (tr:Trl) (w:World),ag Z w n t ev cv->aT K n t->bk tb w tr->aS K tr ->
  Calls Tryz.prog 153 #[.agg (ae (aa n t) ev cv).toArray,.int .i64 p,.pointer (some ⟨tb,0,none⟩)] w (jIj tb n t p tr w)
 | 0,t,ev,cv,tr,w,h,hf,ht,hr=>by
  obtain⟨h1,rfl⟩:=h.leaf;have hc:=hr.len;have hh:=hf.at0.av;have hg:=jUU (Z:=Z) 0 (af.hd t) (af.av t) [] ev (.slice none 0 0) p tb tr w h1 ⟨cu _ _ _ _,fun x hx=>by cases hx⟩ (by omega) zR ht (by omega) (fun x hx=>by cases hx);have e:=qCk t p tr;simp only[dO] at hg;rw[e] at hg;exact hg
 | n+1,t,ev,cv,tr,w,h,hf,ht,hr=>by
  obtain⟨h1,l,h2,h3⟩:=h.inner;have hc:=hr.len;have hb:=hf.at1;have hh:=hb.av;have he:=hb.kids;have ha:=hb.each;rw[h2] at he ha;rw[cF] at he;have hg:=jUU (Z:=Z) n (af.hd t) (af.av t) l ev cv p tb tr w h1 h3 (by omega) (by omega) ht (by omega) (fun x hx w' hj hk=>jUV K hK p tb n x.1 x.2.1 x.2.2 _ w' hj (ha x.1 (List.mem_map.2 ⟨x,hx,rfl⟩)) hk (hr.jB3 hb.num));rw[<-h2] at hg;exact hg
def jD6:(m:Nat)->List Ent->Nd m
 | 0,es=>bB es
 | _+1,es=>bB es
def jDF (m:Nat)(es:List Ent):List (Nd m):=(Sq.bF es).map (jD6 m)
theorem jSb:∀(m:Nat) (es:List Ent),aa m (jD6 m es)=(bB (α:=Empty) es).hd
 | 0,_=>rfl
 | _+1,_=>rfl
theorem jRu:∀(m:Nat) {es:List Ent} {ev cv:Value},ag Z w 0 (bB es) ev cv->ag Z w m (jD6 m es) ev cv
 | 0,_,_,_,h=>h
 | _+1,_,_,_,h=>by
  obtain⟨h1,rfl⟩:=h.leaf;exact⟨h1,[],rfl,cu _ _ _ _,fun g o p k c hv=>by simp at hv,fun x hx=>by cases hx⟩
theorem jMQ (m:Nat){hs:List (List Ent)}{l:List (Nd 0×Value×Value)}(h:l.map Prod.fst=hs.map bB)(hn:aB Z B w v 0 l) :
  ∃l':List (Nd m×Value×Value),l'.map Prod.fst=hs.map (jD6 m)/\aB Z B w v m l':=by
 have hx:∀x∈l,∃es,x.1=bB es:=fun x hx=>by
  have h1:x.1∈l.map Prod.fst:=List.mem_map.2 ⟨x,hx,rfl⟩;rw[h] at h1;obtain⟨es,_,he⟩:=List.mem_map.1 h1;exact⟨es,he.symm⟩
 have ha:(l.map fun x=>(jD6 m (af.av x.1),x.2)).flatMap (au m)=l.flatMap (au 0):=by
  rw[List.flatMap_map]
  have:∀k:List (Nd 0×Value×Value),(∀x∈k,∃es,x.1=bB es)->k.flatMap (fun x=>au m (jD6 m (af.av x.1),x.2))=k.flatMap (au 0):=by
   intro k
   induction k with
   | nil=>intro _;rfl
   | cons a r ih =>
    intro hk;rw[cK,cK,ih fun x hx=>hk x (cY _ hx)];obtain⟨es,he⟩:=hk a (dh ..)
    congr 1
    unfold au;rw[jSb,he];rfl
  exact this l hx
 refine⟨l.map fun x=>(jD6 m (af.av x.1),x.2),?_,⟨?_,fun y hy=>?_⟩⟩
 ·have e1:(l.map fun x=>(jD6 m (af.av x.1),x.2)).map Prod.fst=(l.map Prod.fst).map fun t=>jD6 m (af.av t):=by rw[dG,dG];rfl
  rw[e1,h,dG];rfl
 ·rw[ha,cF];exact hn.own
 obtain⟨x,hb,rfl⟩:=List.mem_map.1 hy;obtain⟨es,he⟩:=hx x hb;have h2:=hn.each x hb;rw[he] at h2;simp only[he];exact jRu m h2
def jFw (Z:Nat->Prop)(tb m:Nat)(x:List (Nd m)×Trl)(w:World)(e:Ending)(w':World):Prop:=∃v l,e=.returned v/\l.map Prod.fst=x.1/\aB Z w.heap.size w' v m l/\bk tb w' x.2/\aA tb w w'
theorem aA.jBC (h:aA tb w w'):w.heap.size<=w'.heap.size:=h.below.size
theorem jTJ (m:Nat)(h:Sq.Head)(es:List Ent)(ev cv:Value)(x:Ent)(tb:Nat)(tr:Trl)(w:World)(hF:h.inner=false)(hE:aM 0 w ev es)(hL:∃a k c,cv=.slice a k c)(hM:es.length<=900)(ht:bk tb w tr)(hB:tr.bc.length+1<=100000) :
  Calls Tryz.prog 168 #[.agg (ae h ev cv).toArray,.agg #[.int .i64 x.place,.string x.row],.pointer (some ⟨tb,0,none⟩)] w (jFw Z tb m (jDF m (jAX es x),aC tr h) w):=by
 obtain⟨eo,hy,rfl⟩:=jQa hE;obtain⟨co,cl,hx,rfl⟩:=hL;rw[jQc];have hu:=ht.lt;have hj:=hd hF;clear hF;obtain⟨W,hz⟩:∃W,W=(w.alloc (.cells #[.bool h.inner,.slice eo es.length hy,.slice co cl hx,.int .i64 h.least,.int .i64 h.rows,.string h.sl,.int .i64 h.num] 60)).alloc (.cells #[.int .i64 x.place,.string x.row] 141):=⟨_,rfl⟩;have hW:Below w.heap.size w W:=by rw[hz];exact(bA).alloc (by simp) _
 have hc:W.heap[w.heap.size]?=some (.cells #[.bool h.inner,.slice eo es.length hy,.slice co cl hx,.int .i64 h.least,.int .i64 h.rows,.string h.sl,.int .i64 h.num] 60):=by
  rw[hz];exact((bA).block w.heap.size (by simp)).trans (jQi w _)
 have hh:W.heap[w.heap.size+1]?=some (.cells #[.int .i64 x.place,.string x.row] 141):=by
  rw[hz,<-jQr w (.cells #[.bool h.inner,.slice eo es.length hy,.slice co cl hx,.int .i64 h.least,.int .i64 h.rows,.string h.sl,.int .i64 h.num] 60)];exact jQi _ _
 have HT:=hd (ht.below hW);have HF:Hid (aA tb w W):=aA.of hW (by omega);have he:=hd hc;have hf:=hd hh;have hg:=hd (hE.below hW);obtain⟨a0,a1,a2,a3,a4,a5,a6⟩:=aP.jCq (h:=h) hc;have hs:=jQe hc;clear ht hW hc hh hE;go_enter Tryz.func168,Tryz.ntmps168;go_wp2_with fail;rw[<-hz];clear hz;refine(jF2 tb tr h _ _ W ⟨_,_,_,rfl⟩ ⟨_,_,_,rfl⟩ HT.o hB).mono ?_;rintro e w1 ⟨rfl,hJ,hA⟩;have ha:=(hA.bC w.heap.size _ _ _ he.o (by decide) (by decide)).trans he.o;have hb:=(hA.bC (w.heap.size+1) _ _ _ hf.o (by decide) (by decide)).trans hf.o;have T1:=hd hJ;have F1:Hid (aA tb w w1):=HF.o.trans hA;have hK:=hd (hg.o.bX hA);obtain⟨n0,n1,n2,n3,n4,n5,n6⟩:=aP.jCq (h:=h) ha;rw[hj.o] at n0;have hr:=jQe ha;have hq:=jQe hb;have b0:w1.cell? ⟨w.heap.size+1,0,none⟩=some (.int .i64 x.place):=by rw[jQb hb];rfl
 have b1:w1.cell? ⟨w.heap.size+1,1,none⟩=some (.string x.row):=by rw[jQb hb];rfl
 have hi:=Sq.jNH es x;have hv:=F1.o.jBC;have hp:=hd hi;clear a0 a1 a2 a3 a4 a5 a6 hs HT HF he hf hg hJ hA ha hb hi n2 n3 n4 n5 n6;go_wp2_with fail;refine(qBa es x _ _ hK.o (by omega)).mono ?_;rintro e w2 ⟨v2,rfl,hI,hC⟩;have T2:=hd (T1.o.below hC);have F2:Hid (aA tb w w2):=F1.o.trans (aA.of hC (by have:=T1.o.lt;omega));have hw:=hC.size;have ho:=hd hI;clear hC hI;go_wp2_with fail;refine(jM5 (Z:=Z) _ _ _ (ho.o.base zR) (by have:=hp.o;omega)).mono ?_;rintro e w3 ⟨v3,l,rfl,hm,hn,hD⟩;obtain⟨l',hG,hH⟩:=jMQ m hm hn;have T3:=hd (T2.o.below hD);have F3:Hid (aA tb w w3):=F2.o.trans (aA.of hD (by have:=T2.o.lt;omega));have hl:=hd (hH.base (B':=w.heap.size) (by omega));have hk:=hd hG;clear hm hn hD hG hH;go_wp2;go_ret;exact⟨_,l',rfl,hk.o,hl.o,T3.o,F3.o⟩
theorem jTH (m:Nat)(h:Sq.Head)(ev cv:Value)(x:Ent)(tb:Nat)(tr:Trl)(w:World)(hK:h.inner=true)(hO:∃a k c,ev=.slice a k c)(hn:aB Z 0 w cv 0 [])(ht:bk tb w tr)(hH:tr.bc.length+1<=100000) :
  Calls Tryz.prog 168 #[.agg (ae h ev cv).toArray,.agg #[.int .i64 x.place,.string x.row],.pointer (some ⟨tb,0,none⟩)] w (jFw Z tb m (jDF m [x],aC tr h) w):=by
 obtain⟨eo,el,hD,rfl⟩:=hO;obtain⟨co,hC,hJ⟩:=jQa hn.own;have hk:cv=.slice co 0 hC:=hJ;clear hJ;subst hk;rw[jQc];have hx:=ht.lt;have hq:=hd hK;clear hK;obtain⟨W,hF⟩:∃W,W=(w.alloc (.cells #[.bool h.inner,.slice eo el hD,.slice co 0 hC,.int .i64 h.least,.int .i64 h.rows,.string h.sl,.int .i64 h.num] 60)).alloc (.cells #[.int .i64 x.place,.string x.row] 141):=⟨_,rfl⟩;have hW:Below w.heap.size w W:=by rw[hF];exact(bA).alloc (by simp) _
 have he:W.heap[w.heap.size]?=some (.cells #[.bool h.inner,.slice eo el hD,.slice co 0 hC,.int .i64 h.least,.int .i64 h.rows,.string h.sl,.int .i64 h.num] 60):=by
  rw[hF];exact((bA).block w.heap.size (by simp)).trans (jQi w _)
 have hp:W.heap[w.heap.size+1]?=some (.cells #[.int .i64 x.place,.string x.row] 141):=by
  rw[hF,<-jQr w (.cells #[.bool h.inner,.slice eo el hD,.slice co 0 hC,.int .i64 h.least,.int .i64 h.rows,.string h.sl,.int .i64 h.num] 60)];exact jQi _ _
 have HT:=hd (ht.below hW);have HF:Hid (aA tb w W):=aA.of hW (by omega);have hf:=hd he;have hi:=hd hp;have HN:=hd (hn.below hW);obtain⟨a0,a1,a2,a3,a4,a5,a6⟩:=aP.jCq (h:=h) he;have hw:=jQe he;clear ht hW he hp hn;go_enter Tryz.func168,Tryz.ntmps168;go_wp2_with fail;rw[<-hF];clear hF;refine(jF2 tb tr h _ _ W ⟨_,_,_,rfl⟩ ⟨_,_,_,rfl⟩ HT.o hH).mono ?_;rintro e w1 ⟨rfl,hN,hG⟩;have ha:=(hG.bC w.heap.size _ _ _ hf.o (by decide) (by decide)).trans hf.o;have hb:=(hG.bC (w.heap.size+1) _ _ _ hi.o (by decide) (by decide)).trans hi.o;have T1:=hd hN;have F1:Hid (aA tb w w1):=HF.o.trans hG;have N1:=hd (HN.o.bX hG);obtain⟨n0,n1,n2,n3,n4,n5,n6⟩:=aP.jCq (h:=h) ha;rw[hq.o] at n0;have ho:=jQe ha;have hl:=jQe hb;have b0:w1.cell? ⟨w.heap.size+1,0,none⟩=some (.int .i64 x.place):=by rw[jQb hb];rfl
 have hy:=F1.o.jBC;have hg:=hd hb;clear a0 a1 a2 a3 a4 a5 a6 hw HT HF hf hi HN hN hG ha hb;go_wp2_with fail;refine(jKj 0 [] x.place ⟨true,h.least,h.rows,h.sl,h.num⟩ _ _ w1 ⟨_,_,_,rfl⟩ N1.o zR).mono ?_;rintro e w2 ⟨rfl,hE⟩;have hh:(bU (aa 0) (([]:List (Nd 0×Value×Value)).map Prod.fst) x.place:Nat)=0:=rfl;rw[hh];have hc:=(hE.block (w.heap.size+1) hl).trans hg.o;have c0:w2.cell? ⟨w.heap.size+1,0,none⟩=some (.int .i64 x.place):=by rw[jQb hc];rfl
 have c1:w2.cell? ⟨w.heap.size+1,1,none⟩=some (.string x.row):=by rw[jQb hc];rfl
 have c2:=(hE.cell (p:=⟨w.heap.size,2,none⟩) ho).trans n2;have hz:=hE.size;have hv:=jQe hc;have hB:w.heap.size<w2.heap.size:=by omega
 have T2:=hd (T1.o.below hE);have F2:Hid (aA tb w w2):=F1.o.trans (aA.of hE (by have:=T1.o.lt;omega));clear hE hc n0 n1 n2 n3 n4 n5 n6 b0 hg hh;have hA:Below w2.heap.size w2 (w2.alloc (.cells #[.int .i64 x.place,.string x.row] 141)):=bA;have hu:Hid (aM 0 (w2.alloc (.cells #[.int .i64 x.place,.string x.row] 141)) (.slice (some ⟨w2.heap.size,0,none⟩) 1 1) [x]):=jIb w2 141 _ _ 1 2 0 rfl rfl (by decide) zR;have HA:=hd hA;clear hA;go_wp2_with fail;refine(jM5 (Z:=Z) [x] _ _ hu.o (by simp)).mono ?_;rintro e w3 ⟨v3,l,rfl,hm,hn,hI⟩;obtain⟨l',hL,hM⟩:=jMQ m hm hn;have hj:Below w2.heap.size w2 w3:=HA.o.trans (hI.mono HA.o.size);have T3:=hd (T2.o.below hj);have F3:Hid (aA tb w w3):=F2.o.trans (aA.of hj (by have:=T2.o.lt;omega));have hs:=hd (hM.base (B':=w.heap.size) (by have:=HA.o.size;omega));have hr:=hd hL;clear hm hn hI hL hM hj;go_wp2;go_ret;exact⟨_,l',rfl,hr.o,hs.o,T3.o,F3.o⟩
theorem qAQ (n:Nat)(h:Sq.Head)(l:List (Nd n×Value×Value))(ev cv:Value)(x:Ent)(tb:Nat)(tr Hg:Trl)(parts:List (Nd n))(w:World)(h9:h.inner=true)(Hl:∃a k c,ev=.slice a k c)(hn:aB Z 0 w cv n l)(hl:l.length<=900)(ht:bk tb w tr)(h3:tr.bc.length+1<=100000)(hZ:∀g,w.heap.size<=g->¬Z g)
  (a:Nat) (ha:a<l.length) (h7:a=bU (aa n) (l.map Prod.fst) x.place) (hV:∀c∈bm (l.map Prod.fst) a 1 parts,0<=(aa n c).rows/\(aa n c).rows<=1000000000) (Hq:parts.length<=2)
  (ih:∀w',(∀g,w'.heap.size<=g->¬Z g)->ag Z w' n l[a].1 l[a].2.1 l[a].2.2->bk tb w' (aC tr h)->Calls Tryz.prog 168 #[.agg (au n l[a]).toArray,.agg #[.int .i64 x.place,.string x.row],.pointer (some ⟨tb,0,none⟩)] w' (jFw Z tb n (parts,Hg) w')) :
  Calls Tryz.prog 168 #[.agg (ae h ev cv).toArray,.agg #[.int .i64 x.place,.string x.row],.pointer (some ⟨tb,0,none⟩)] w (jFw Z tb (n+1) (jAK (aa n) (bm (l.map Prod.fst) a 1 parts),Hg) w):=by
 obtain⟨eo,el,hX,rfl⟩:=Hl;obtain⟨co,hU,rfl⟩:=jQa hn.own;rw[jQc];have hM:=ht.lt;have hB:=hd h9;clear h9;obtain⟨W,h0⟩:∃W,W=(w.alloc (.cells #[.bool h.inner,.slice eo el hX,.slice co l.length hU,.int .i64 h.least,.int .i64 h.rows,.string h.sl,.int .i64 h.num] 60)).alloc (.cells #[.int .i64 x.place,.string x.row] 141):=⟨_,rfl⟩;have hW:Below w.heap.size w W:=by rw[h0];exact(bA).alloc (by simp) _
 have hj:W.heap[w.heap.size]?=some (.cells #[.bool h.inner,.slice eo el hX,.slice co l.length hU,.int .i64 h.least,.int .i64 h.rows,.string h.sl,.int .i64 h.num] 60):=by
  rw[h0];exact((bA).block w.heap.size (by simp)).trans (jQi w _)
 have hx:W.heap[w.heap.size+1]?=some (.cells #[.int .i64 x.place,.string x.row] 141):=by
  rw[h0,<-jQr w (.cells #[.bool h.inner,.slice eo el hX,.slice co l.length hU,.int .i64 h.least,.int .i64 h.rows,.string h.sl,.int .i64 h.num] 60)];exact jQi _ _
 have HT:=hd (ht.below hW);have HF:Hid (aA tb w W):=aA.of hW (by omega);have hp:=hd hj;have hr:=hd hx;have HN:=hd (hn.below hW);have HZ:=hd hZ;have IH:=hd ih;have hA:=hd h7;have hG:=hd hV;obtain⟨a0,a1,a2,a3,a4,a5,a6⟩:=aP.jCq (h:=h) hj;have hK:=jQe hj;clear ht hW hj hx hn hZ ih h7 hV;go_enter Tryz.func168,Tryz.ntmps168;go_wp2_with fail;rw[<-h0];clear h0;refine(jF2 tb tr h _ _ W ⟨_,_,_,rfl⟩ ⟨_,_,_,rfl⟩ HT.o h3).mono ?_;rintro e w1 ⟨rfl,He,h2⟩;have hb:=(h2.bC w.heap.size _ _ _ hp.o (by decide) (by decide)).trans hp.o;have hh:=(h2.bC (w.heap.size+1) _ _ _ hr.o (by decide) (by decide)).trans hr.o;have T1:=hd He;have F1:Hid (aA tb w w1):=HF.o.trans h2;have N1:=hd (HN.o.bX h2);obtain⟨n0,n1,n2,n3,n4,n5,n6⟩:=aP.jCq (h:=h) hb;rw[hB.o] at n0;have hw:=jQe hb;have hu:=jQe hh;have b0:w1.cell? ⟨w.heap.size+1,0,none⟩=some (.int .i64 x.place):=by rw[jQb hh];rfl
 have hN:=F1.o.jBC;have hq:=hd hh;have hm:=hd hb;clear a0 a1 a2 a3 a4 a5 a6 hK HT HF hp hr HN He h2 hb hh;go_wp2_with fail;refine(jKj n l x.place ⟨true,h.least,h.rows,h.sl,h.num⟩ _ _ w1 ⟨_,_,_,rfl⟩ N1.o (by omega)).mono ?_;rintro e w2 ⟨rfl,hY⟩;rw[<-hA.o];have hi:=(hY.block (w.heap.size+1) hu).trans hq.o;have he:=(hY.block w.heap.size hw).trans hm.o;have c0:w2.cell? ⟨w.heap.size+1,0,none⟩=some (.int .i64 x.place):=by rw[jQb hi];rfl
 have c1:w2.cell? ⟨w.heap.size+1,1,none⟩=some (.string x.row):=by rw[jQb hi];rfl
 have c2:w2.cell? ⟨w.heap.size,2,none⟩=some (.slice co l.length hU):=by rw[jQb he];rfl
 have hO:=hY.size;have hJ:=jQe hi;have hS:w.heap.size<w2.heap.size:=by omega
 have T2:=hd (T1.o.below hY);have N2:=hd (N1.o.below hY);have F2:Hid (aA tb w w2):=F1.o.trans (aA.of hY (by have:=T1.o.lt;omega));have ho:=hd he;clear hY hi he n0 n1 n2 n3 n4 n5 n6 b0 hq hm T1 N1 F1;obtain⟨g,Hi,ea,Ho,ec,ca,cl,cc,hv,hg,⟨d0,d1,d2,d3,d4,Hk,Hj⟩,d5,d6⟩:=N2.o.at a ha;obtain⟨rfl,-,rfl⟩:=sI hv;have ih:=IH.o;obtain⟨y,hy⟩:∃y,y=l[a]:=⟨_,rfl⟩;rw[<-hy] at d0 d3 d4 Hk Hj d5 d6 ih;obtain⟨t,Hp,Hn⟩:=y;simp only[Prod.mk.injEq] at d5;obtain⟨rfl,rfl⟩:=d5;have Hh:=hd ih;have hF:=hd d6;have i1:¬((l.length:Int)<=(a:Int)):=by omega
 have i2:decide ((l.length:Int)<=(a:Int))=false:=by simpa using ha
 have hI:Hid (∀g,w2.heap.size<=g->¬Z g):=fun g hg=>HZ.o g (by omega)
 clear ih hy IH d6;go_wp2
 go_region_with (go_at_call 168;refine(Hh.o w2.drew hI.o (hF.o.below (cB bR)) (T2.o.below (cB bR))).mono ?_;rintro e w3 ⟨v3,k,rfl,Ha,h6,Hf,h8⟩;obtain⟨ko,Hm,rfl⟩:=jQa h6.own;have hk:aA tb w2 w3:=(aA.of (cB bR) (by have:=T2.o.lt;omega)).trans h8;have hf:=(hk.bC w.heap.size _ _ _ ho.o (by decide) (by decide)).trans ho.o;have e2:w3.cell? ⟨w.heap.size,2,none⟩=some (.slice (some ⟨g,0,none⟩) l.length hU):=(by rw[jQb hf];rfl);have hT:=jQe hf;have T3:=hd Hf;have F3:Hid (aA tb w w3):=F2.o.trans hk;have N3:=hd (N2.o.bX hk);have HK:=hd h6;have HM:=hd Ha;clear Hf h8 hk h6 Ha hf)
 all_goals
  have hL:k.length<=2:=by
   have h1:=congrArg List.length HM.o;rw[cF] at h1;omega
  go_wp2_with fail;refine(jJP n l k _ _ a 1 _ N3.o (HK.o.base zR) (by omega) (by omega) (by omega) (by omega)).mono ?_;rintro e w4 ⟨v4,rfl,Hc,h4⟩;have hR:(bm l a 1 k).length<=1000:=by unfold bm;simp;omega
  have hs:(bm l a 1 k).map Prod.fst=bm (l.map Prod.fst) a 1 parts:=by rw[Sq.jLP,HM.o]
  have hz:jBH n (bm l a 1 k):=fun c hc=>hG.o c.1 (by rw[<-hs];exact List.mem_map.2 ⟨c,hc,rfl⟩)
  have hQ:=h4.size;have hP:=F3.o.jBC;have T4:=hd (T3.o.below h4);have F4:Hid (aA tb w w4):=F3.o.trans (aA.of h4 (by have:=T3.o.lt;omega));have hD:=hd Hc;have hH:=hd hs;have HS:=hd hz;clear Hc h4 hs hz;go_wp2_with fail;refine(jR7 n (bm l a 1 k) _ _ (hD.o.base zR) (by omega) HS.o (fun g hg=>HZ.o g (by omega))).mono ?_;rintro e w5 ⟨v5,k5,rfl,Hb,Hd,h5⟩;have T5:=hd (T4.o.below h5);have F5:Hid (aA tb w w5):=F4.o.trans (aA.of h5 (by have:=T4.o.lt;omega));have hE:=hd (Hd.base (B':=w.heap.size) (by omega));have hC:=hd Hb;clear Hb Hd h5;go_wp2;go_ret;exact⟨_,k5,rfl,by rw[hC.o,hH.o],hE.o,T5.o,F5.o⟩
theorem jRJ (f:α->Sq.Head)(g:α->Ent->Trl->List α×Trl)(t:af α)(e:Ent)(tr:Trl)(h:t.hd.inner=false):jDU f g t e tr=(jAT (jAX t.av e),aC tr t.hd):=by
 unfold jDU;rw[h];rfl
theorem jSv (f:α->Sq.Head)(g:α->Ent->Trl->List α×Trl)(t:af α)(e:Ent)(tr:Trl)(h:t.hd.inner=true)(hk:t.kids=[]):jDU f g t e tr=(jAT [e],aC tr t.hd):=by
 unfold jDU;rw[h,hk];rfl
theorem qAR (f:α->Sq.Head)(g:α->Ent->Trl->List α×Trl)(t:af α)(e:Ent)(tr:Trl)(h:t.hd.inner=true)(ha:bU f t.kids e.place<t.kids.length):jDU f g t e tr=(jAK f (bm t.kids (bU f t.kids e.place) 1 (g t.kids[bU f t.kids e.place] e (aC tr t.hd)).1),(g t.kids[bU f t.kids e.place] e (aC tr t.hd)).2):=by
 unfold jDU;rw[h];simp only[dT,cz ha]
theorem jU2 (K:Int)(hB:0<=K)(hK:K<=99999)(x:Ent)(hx:x.row.size<=300)(tb:Nat):∀(n:Nat) (t:Nd n) (ev cv:Value) (tr:Trl) (w:World),ag Z w n t ev cv->aT K n t->(aa n t).rows<=900000000->bk tb w tr->aS K tr->(∀g,w.heap.size<=g->¬Z g) ->
  Calls Tryz.prog 168 #[.agg (ae (aa n t) ev cv).toArray,.agg #[.int .i64 x.place,.string x.row],.pointer (some ⟨tb,0,none⟩)] w (jFw Z tb n (jCn n t x tr) w)
 | 0,t,ev,cv,tr,w,h,hf,_,ht,hr,_=>by
  obtain⟨h1,rfl⟩:=h.leaf;have ho:=hr.len;have hw:=hf.at0.av;cases hin:(af.hd t).inner with
  | false =>
   have hg:=jTJ (Z:=Z) 0 (af.hd t) (af.av t) ev (.slice none 0 0) x tb tr w hin h1 ⟨_,_,_,rfl⟩ (by omega) ht (by omega);have e:jCn 0 t x tr=(jDF 0 (jAX (af.av t) x),aC tr (af.hd t)):=jRJ _ _ t x tr hin;rw[e];exact hg
  | true =>
   have hg:=jTH (Z:=Z) 0 (af.hd t) ev (.slice none 0 0) x tb tr w hin (ag.aG h).1 ⟨cu _ _ _ _,fun x hx=>by cases hx⟩ ht (by omega)
   have hk:(t:af Empty).kids=[]:=by
    cases hq:(t:af Empty).kids with
    | nil=>rfl
    | cons c _=>exact c.elim
   have e:jCn 0 t x tr=(jDF 0 [x],aC tr (af.hd t)):=jSv _ _ t x tr hin hk;rw[e];exact hg
 | n+1,t,ev,cv,tr,w,h,hf,hrows,ht,hr,hZ=>by
  obtain⟨h1,l,h2,h3⟩:=h.inner;have ho:=hr.len;have hi:=hf.at1;have hw:=hi.av;have hp:=hi.kids;have hj:∀c∈af.kids t,0<=(aa n c).rows:=fun c hc=>(hi.each c hc).head.2.1
  cases hin:(af.hd t).inner with
  | false =>
   have hg:=jTJ (Z:=Z) (n+1) (af.hd t) (af.av t) ev cv x tb tr w hin h1 (ag.aG h).2 (by omega) ht (by omega);have e:jCn (n+1) t x tr=(jDF (n+1) (jAX (af.av t) x),aC tr (af.hd t)):=jRJ _ _ t x tr hin;rw[e];exact hg
  | true =>
   by_cases hk:af.kids t=[]
   ·have hy:l=[]:=by rw[hk] at h2;exact List.map_eq_nil_iff.1 h2.symm
    subst hy;have hg:=jTH (Z:=Z) (n+1) (af.hd t) ev cv x tb tr w hin (ag.aG h).1 ⟨h3.own,fun x hx=>by cases hx⟩ ht (by omega);have e:jCn (n+1) t x tr=(jDF (n+1) [x],aC tr (af.hd t)):=jSv _ _ t x tr hin hk;rw[e];exact hg
   ·have hb:=jL3 (aa n) (af.kids t) x.place hk;have e:=qAR (aa n) (jCn n) t x tr hin hb;have hl:(af.kids t)[bU (aa n) (af.kids t) x.place]∈af.kids t:=cJ _;have hc:=hi.each _ hl;have hz:=(hi.inn hin).1;have hv:=jGw (aa n) hj hl;have hh:(aa (n+1) t).rows=(af.hd t).rows:=rfl;have hm:=jLv hB n _ x (aC tr (af.hd t)) hc hx (hr.jB3 hi.num);have hC:=jU2 K hB hK x hx tb n (af.kids t)[bU (aa n) (af.kids t) x.place];obtain⟨a,ha⟩:∃a,a=bU (aa n) (af.kids t) x.place:=⟨_,rfl⟩
    have e2:jCn (n+1) t x tr=(jAK (aa n) (bm (af.kids t) a 1 (jCn n ((af.kids t)[a]'(by rw[ha];exact hb)) x (aC tr (af.hd t))).1),(jCn n ((af.kids t)[a]'(by rw[ha];exact hb)) x (aC tr (af.hd t))).2):=by
     subst ha;exact e
    clear e;have hu:a<l.length:=by rw[h2,cF] at hb;rw[ha,h2];exact hb
    have hs:(af.kids t)[a]'(by rw[ha];exact hb)=l[a].1:=by
     simp only[h2,da]
    have hn:(af.kids t)[bU (aa n) (af.kids t) x.place]=l[a].1:=by rw[<-hs];subst ha;rfl
    rw[hn] at hc hv hm hC;rw[hs] at e2;rw[e2]
    have he:∀c∈bm (af.kids t) a 1 (jCn n l[a].1 x (aC tr (af.hd t))).1,0<=(aa n c).rows/\(aa n c).rows<=1000000000:=by
     intro c hA;rcases jOe hA with hA | hA
     ·have:=jGw (aa n) hj hA
      exact⟨hj c hA,by omega⟩
     ·have h5:=hm.1.each c hA;have h6:=jGw (aa n) (fun d hd=>(hm.1.each d hd).head.2.1) hA;have h7:=hm.1.rows;exact⟨h5.head.2.1,by omega⟩
    rw[h2] at he ha hp ⊢;rw[cF] at hp;exact qAQ n (af.hd t) l ev cv x tb tr _ _ w hin (ag.aG h).1 h3 (by omega) ht (by omega) hZ a hu ha he hm.1.two (fun w' hD hE hF=>hC _ _ _ w' hE hc (by omega) hF (hr.jB3 hi.num) hD)
theorem jH1 (hb:w.heap[b]?=some (.cells c 60))(x0 x1 x2 x3 x4 x5 x6:Value):jDL 60 w (bT w b x0 x1 x2 x3 x4 x5 x6):=by
 intro q cq e fr hq he;refine jQl _ _ _ _ _ _ _ _ _ fun e2=>?_
 subst e2;rw[hb] at hq;simp only[Option.some.injEq,Obj.cells.injEq] at hq;exact he hq.2.1.symm
theorem aA.bT (h:aA tb w w1)(hb:w.heap.size<=b)(ht:tb<=b)(x0 x1 x2 x3 x4 x5 x6:Value):aA tb w (bT w1 b x0 x1 x2 x3 x4 x5 x6) :=
 ⟨jQu h.below ht _ _ _ _ _ _ _,fun g c e fr hg h1 h2=>(jQl _ _ _ _ _ _ _ _ _ (by have:=jQe hg;omega)).trans (h.bC g c e fr hg h1 h2)⟩
def jA7 (Z:Nat->Prop)(tb:Nat)(Y:aj×Trl)(w:World)(e:Ending)(w':World):Prop:=∃ev cv,e=.returned (.agg (ae Y.1.head ev cv).toArray)/\ag Z w' Y.1.d Y.1.t ev cv/\bk tb w' Y.2/\aA tb w w'
theorem jUS (K:Int)(Hb:0<=K)(hK:K<=99999)(X:aj)(ev cv:Value)(p:Int)(row:BA)(hx:row.size<=300)(tb:Nat)(tr:Trl)(w:World)(h:ag Z w X.d X.t ev cv)(hf:Sq.jBb K 900000000 X)(ht:bk tb w tr)(hr:aS K tr)(hZ:∀g,w.heap.size<=g->¬Z g) :
  Calls Tryz.prog 125 #[.agg (ae X.head ev cv).toArray,.int .i64 p,.string row,.pointer (some ⟨tb,0,none⟩)] w (jA7 Z tb (X.put ⟨p,row⟩ tr) w):=by
 obtain⟨n,t⟩:=X;obtain⟨⟨e1,e2,e3,Hg⟩,c1,c2,c3,Hf⟩:=h.aG;subst Hg Hf;obtain⟨hX,hV⟩:=hf;simp only[aj.head] at h hX hV ⊢;have hC:=jLv Hb n t ⟨p,row⟩ tr hX hx hr;have hi:=jU2 (Z:=fun g=>Z g\/g=w.heap.size+1) K Hb hK ⟨p,row⟩ hx tb n t (.slice e1 e2 e3) (.slice c1 c2 c3) tr;have hE:aj.put ⟨n,t⟩ ⟨p,row⟩ tr=(upN n (jCn n t ⟨p,row⟩ tr).1,(jCn n t ⟨p,row⟩ tr).2):=rfl;rw[hE];clear hE;obtain⟨pt,hA⟩:∃x,x=jCn n t ⟨p,row⟩ tr:=⟨_,rfl⟩;rw[<-hA] at hC hi ⊢;obtain⟨hh,Hc⟩:∃x,x=aa n t:=⟨_,rfl⟩;rw[<-Hc] at hi hV hC ⊢;rw[jQc] at hi ⊢;have hT:=ht.lt;obtain⟨W,h0⟩:∃W,W=(w.alloc (.cells #[.bool hh.inner,.slice e1 e2 e3,.slice c1 c2 c3,.int .i64 hh.least,.int .i64 hh.rows,.string hh.sl,.int .i64 hh.num] 60)).alloc (.cells jAR 60):=⟨_,rfl⟩;have hW:Below w.heap.size w W:=by rw[h0];exact(bA).alloc (by simp) _
 have hG:W.heap.size=w.heap.size+2:=by rw[h0,jQr,jQr]
 have hu:W.heap[w.heap.size+1]?=some (.cells jAR 60):=by
  rw[h0,<-jQr w (.cells #[.bool hh.inner,.slice e1 e2 e3,.slice c1 c2 c3,.int .i64 hh.least,.int .i64 hh.rows,.string hh.sl,.int .i64 hh.num] 60)];exact jQi _ _
 have hj:=hi W ((h.more (eB _)).below hW) hX hV (ht.below hW) hr (fun g hg=>by
  rw[hG] at hg;rintro(hz | hz)
  ·exact hZ g (by omega) hz
  omega)
 have HC:=hd hj;have HF:Hid (aA tb w W):=aA.of hW (by omega);have hk:=hd hu;have hq:=hd hC;have HZ:=hd hZ;have hS:=hd hG;have hs:=hd hV;clear h ht hX hV hC hi hW hG hu hj hA Hc hZ hr;go_enter Tryz.func125,Tryz.ntmps125;go_wp2_with fail;rw[<-show jAR=#[.bool false,.slice none 0 0,.slice none 0 0,.int .i64 0,.int .i64 0,.string ⟨#[]⟩,.int .i64 0] from rfl,<-h0];clear h0;refine HC.o.mono ?_;rintro e w1 ⟨v1,l,rfl,hm,hn,Hd,h6⟩;obtain⟨lo,Hh,rfl⟩:=jQa hn.own;have ho:l.length=pt.1.length:=by rw[<-hm];simp
 have hb:=(h6.bC (w.heap.size+1) _ _ _ hk.o (by decide) (by decide)).trans hk.o;have T1:=hd Hd;have F1:Hid (aA tb w w1):=HF.o.trans h6;have hR:w.heap.size+1<w1.heap.size:=jQe hb;have HN:=hd hn;have HM:=hd hm;have hp:=hd hb;have hB:=hq.o.1.two;have hy:=hq.o.1.one;clear hm hn Hd h6 hb HC HF hk
 match l,ho,HN,HM with
 | [],ho,_,_=>exfalso;simp at ho;omega
 | [y],ho,HN,HM =>
  obtain⟨g,He,ea,el,ec,ca,cl,cc,hv,hg,⟨d0,d1,d2,d3,d4,Ha,h9⟩,d5,d6⟩:=HN.o.at 0 (by simp);obtain⟨rfl,-,rfl⟩:=sI hv;obtain⟨yt,Hk,Hj⟩:=y;simp only[List.getElem_cons_zero,Prod.mk.injEq,Nat.zero_mul,df] at d0 d1 d2 d3 d4 Ha h9 d5 d6;obtain⟨rfl,rfl⟩:=d5;have hA:pt.1=[yt]:=HM.o.symm;have HE:Hid (upN n pt.1=⟨n,yt⟩):=by show _=_;rw[hA];rfl
  obtain⟨b0,b1,b2,b3,b4,b5,b6⟩:=jQw hp.o;obtain⟨f0,f1,f2,f3,f4,f5,f6⟩:=jQk hp.o;have hD:=hd d6;obtain⟨yh,hY⟩:∃x,x=aa n yt:=⟨_,rfl⟩;rw[<-hY] at d0 d3 d4 Ha h9;have hF:=hd hY;clear d6 HM ho hB hy hA hY HN;go_wp2;rw[HE.o];refine cp (v:=.agg (ae yh (.slice ea el ec) (.slice ca cl cc)).toArray) (by simp[results,Tryz.results125,go_sem,ae, *]) rfl ⟨_,_,by rw[hF.o];rfl,?_,?_,?_⟩
  ·exact(ag.skip (b:=w.heap.size+1) hD.o (Or.inr rfl) hp.o fun g hg=>jQl _ _ _ _ _ _ _ _ _ hg).less fun g hg=>Or.inl hg
  ·exact T1.o.keeps (jH1 hp.o _ _ _ _ _ _ _) (by decide) (by decide)
  exact F1.o.bT (by omega) (by omega) _ _ _ _ _ _ _
 | y::z::r,ho,HN,HM =>
  have hw:(y::z::r).length<=2:=by omega
  have hQ:(((y::z::r).length:Int)==1)=false:=by simp;omega
  have HE:Hid (upN n pt.1=⟨n+1,aV (aa n) ((y::z::r).map Prod.fst)⟩):=by show _=_;rw[<-HM.o];rfl
  have hI:jBH n (y::z::r):=fun c hc=>by
   have hM:c.1∈pt.1:=by rw[<-HM.o];exact List.mem_map.2 ⟨c,hc,rfl⟩
   have h1:=hq.o.1.each c.1 hM;have h2:=jGw (aa n) (fun d hd=>(hq.o.1.each d hd).head.2.1) hM;have h3:=hq.o.1.rows;have h4:=hs.o;exact⟨h1.head.2.1,by omega⟩
  obtain⟨l,hl⟩:∃l,l=y::z::r:=⟨_,rfl⟩;have he:=HE.o;have hH:=HN.o;rw[<-hl] at hw hQ he hH hI ⊢;have hN:=hd he;have hD:=hd hH;have hO:=hd hI;clear hl he hH HE HN HM ho hB hy hI;go_wp2_with fail;refine(jJa n l _ _ hD.o.rd (by omega) hO.o).mono ?_;rintro e w2 ⟨Hi,rfl,h7,h5⟩;obtain⟨ko,h8,rfl⟩:=jQa h7.own;have ha:=(h5.block (w.heap.size+1) hR).trans hp.o;obtain⟨b0,b1,b2,b3,b4,b5,b6⟩:=jQw ha;obtain⟨f0,f1,f2,f3,f4,f5,f6⟩:=jQk ha;have hU:=jQe ha;have hJ:=hd ha;have T2:=hd (T1.o.below h5);have F2:Hid (aA tb w w2):=F1.o.trans (aA.of h5 (by have:=T1.o.lt;omega));have hL:=hd h7
  have hP:Hid (∀g,w1.heap.size<=g->¬(Z g\/g=w.heap.size+1)):=fun g hg=>by
   rintro(hz | hz)
   ·exact HZ.o g (by omega) hz
   omega
  obtain⟨yh,hY⟩:∃x,x=(aV (aa n) (l.map Prod.fst)).hd:=⟨_,rfl⟩;rw[<-hY,jQc];have hF:=hd hY;clear ha h7 h5 hY;go_wp2;rw[hN.o];refine cp (v:=.agg (ae yh (.slice none 0 0) (.slice ko l.length h8)).toArray) (by simp[results,Tryz.results125,go_sem,ae, *]) rfl ⟨_,_,by rw[hF.o];rfl,?_,?_,?_⟩
  ·exact(ag.skip (b:=w.heap.size+1) (ag.mk (aM.nil _) rfl (hL.o.base zR) (jIO hL.o hP.o)) (Or.inr rfl) hJ.o fun g hg=>jQl _ _ _ _ _ _ _ _ _ hg).less fun g hg=>Or.inl hg
  ·exact T2.o.keeps (jH1 hJ.o _ _ _ _ _ _ _) (by decide) (by decide)
  exact F2.o.bT (by omega) (by omega) _ _ _ _ _ _ _
theorem jOW {ops:Array Oper}{rest:List Oper}{o:Oper}{Q:Exit->Act->World->Prop}(hf:o.guard=none)(sl x:Operand)
  (ho:o.op=.call { callee:=.builtin .append,args:=#[sl,x],argTypes:=#[57,57] }) (B:Nat) (v:Value) (es:List Ent) (hs:a.eval sl=v) (hb:aM B w v es)
  (m:List Ent) (sv:Value) (hx:a.eval x=sv) (hm:aM 0 w sv m) (h1:es.length+m.length<=1000000) (hB:B<=w.heap.size)
  (h:∀v' w',aM B w' v' (es++m)->Below B w w'->wpList Tryz.prog ops Q rest (a.put o.dst v') w'):wpList Tryz.prog ops Q (o::rest) a w:=by
 rcases dP m.length with h0 | h0
 ·have ha:m=[]:=by simpa using h0
  subst ha;obtain⟨ao,cap,rfl⟩:=jQa hm;obtain⟨i0,hi,hg,hh,hj⟩:=cV Tryz.jE9;obtain⟨yo,hc,rfl⟩:=jQa hb;refine jOV hf sl x 57 ho B 141 i0 2 Tryz.underlying57 hi (.slice yo es.length hc) es.length _ hs hb ao cap hx ?_;refine h _ w ?_ bR;rw[cW];exact hb
 exact jOU hf sl x ho B v es hs hb m sv hx (Reads.jEC hm) h0 h1 hB fun v' w' h1 h2 _=>h v' w' h1 h2
theorem jPk (m:Nat)(ha hb:Sq.Head)(es fs:List Ent)(ea ca eb cb:Value)(w:World)(hr:ha.inner=false)(ho:aM 0 w ea es)(hp:aM 0 w eb fs)(hz:∃a k c,ca=.slice a k c)(hA:∃a k c,cb=.slice a k c)(hF:es.length<=400)(hG:fs.length<=400) :
  Calls Tryz.prog 225 #[.agg (ae ha ea ca).toArray,.agg (ae hb eb cb).toArray] w fun e w'=>∃v l,e=.returned v/\l.map Prod.fst=jDF m (es++fs)/\aB Z w.heap.size w' v m l/\Below w.heap.size w w':=by
 obtain⟨ao,ht,rfl⟩:=jQa ho;obtain⟨bo,hv,rfl⟩:=jQa hp;obtain⟨x1,x2,x3,rfl⟩:=hz;obtain⟨y1,y2,y3,rfl⟩:=hA;rw[jQc,jQc,hr];have hW:∀o o2,Below w.heap.size w ((w.alloc o).alloc o2):=fun o o2=>(bA).alloc (by simp) _
 have HW:=hd hW;have HA:=hd ho;have HB:=hd hp;clear ho hp hW hr;go_enter Tryz.func225,Tryz.ntmps225
 go_wp2_with (at_builtin;(first
  | (have hx:=hc;clear hx;refine jOW rfl (.tmp 21) (.tmp 23) rfl (w.heap.size+1+1) _ es rfl hf.o fs _ rfl ((HB.o.below (HW.o _ _)).below (hc.o.mono (by simp))) (by omega) (by omega) ?_;intro v2 w2 hs hq;have hg:=hd hs;have he:=hd hq;clear hs hq)
  | (refine jOW rfl (.tmp 17) (.tmp 19) rfl (w.heap.size+1+1) _ [] rfl (cu _ _ _ _) es _ rfl (HA.o.below (HW.o _ _)) (by simp;omega) (by simp) ?_;intro v1 w1 hk hj;rw[List.nil_append] at hk;obtain⟨xo,hE,rfl⟩:=jQa hk;have k2:=hj.cell (p:=⟨w.heap.size+1,1,none⟩) (by simp);simp[go_sem] at k2;have hi:w.heap.size+1+1<=w1.heap.size:=(by have:=hj.size;simp at this;omega);have hh:w.heap.size+1<w1.heap.size:=(by omega);have hf:=hd hk;have hc:=hd hj;clear hk hj)))
 go_wp2_with fail;refine(jM5 (Z:=Z) (es++fs) _ _ (hg.o.base zR) (by rw[cg];omega)).mono ?_;rintro e w3 ⟨v3,l,rfl,hm,hn,hy⟩;obtain⟨l',hC,hD⟩:=jMQ m hm hn;go_wp2;go_ret;have hB:Below w.heap.size w w2:=(HW.o _ _).trans ((hc.o.trans he.o).mono (by omega));exact⟨_,l',rfl,hC,hD.base hB.size,hB.trans (hy.mono hB.size)⟩
theorem jWf (n:Nat)(ha hb:Sq.Head)(la lb:List (Nd n×Value×Value))(ea ca eb cb:Value)(w:World)(hp:ha.inner=true)(hk:aB Z 0 w ca n la)(hn:aB Z 0 w cb n lb)(hv:∃a k c,ea=.slice a k c)(hx:∃a k c,eb=.slice a k c)(hA:la.length<=400)(hB:lb.length<=400)(hq:jBH n (la++lb))(hZ:∀g,w.heap.size<=g->¬Z g) :
  Calls Tryz.prog 225 #[.agg (ae ha ea ca).toArray,.agg (ae hb eb cb).toArray] w fun e w'=>∃v l,e=.returned v/\l.map Prod.fst=jAK (aa n) ((la++lb).map Prod.fst)/\aB Z w.heap.size w' v (n+1) l/\Below w.heap.size w w':=by
 obtain⟨ao,hr,rfl⟩:=jQa hk.own;obtain⟨bo,hs,rfl⟩:=jQa hn.own;obtain⟨x1,x2,x3,rfl⟩:=hv;obtain⟨y1,y2,y3,rfl⟩:=hx;rw[jQc,jQc,hp];have he:bm la la.length 0 lb=la++lb:=by unfold bm;simp
 have hW:∀o o2,Below w.heap.size w ((w.alloc o).alloc o2):=fun o o2=>(bA).alloc (by simp) _
 have HW:=hd hW;have HA:=hd hk;have HB:=hd hn;have hf:=hd he;have hi:=hd hq;have HZ:=hd hZ;clear hk hn hW hp he hq hZ;go_enter Tryz.func225,Tryz.ntmps225;go_wp2_with fail;refine(jJP n la lb _ _ la.length 0 _ (HA.o.below (HW.o _ _)) (HB.o.below (HW.o _ _)) (by omega) (by omega) (by omega) (by omega)).mono ?_;rintro e w3 ⟨v3,rfl,hj,ho⟩;rw[hf.o] at hj;have hh:=hd hj;have hc:=hd ((HW.o _ _).trans (ho.mono (by simp;omega)));clear hj ho;go_wp2_with fail;refine(jR7 n (la++lb) _ _ (hh.o.base zR) (by rw[cg];omega) hi.o (fun g hg=>HZ.o g (by have:=hc.o.size;omega))).mono ?_;rintro e w4 ⟨v4,k4,rfl,hy,hz,ht⟩;go_wp2;go_ret;exact⟨_,k4,rfl,hy,hz.base hc.o.size,hc.o.trans (ht.mono hc.o.size)⟩
theorem jWF (K:Int):∀(n:Nat) (a b:Nd n) (ea ca eb cb:Value) (w:World),ag Z w n a ea ca->ag Z w n b eb cb->aT K n a->aT K n b->(aa n a).rows<=900000000->(aa n b).rows<=900000000->(∀g,w.heap.size<=g->¬Z g) ->
  Calls Tryz.prog 225 #[.agg (ae (aa n a) ea ca).toArray,.agg (ae (aa n b) eb cb).toArray] w fun e w'=>∃v l,e=.returned v/\l.map Prod.fst=jAk n a b/\aB Z w.heap.size w' v n l/\Below w.heap.size w w'
 | 0,a,b,ea,ca,eb,cb,w,ha,hb,ta,tb,_,_,_=>by
  obtain⟨h1,h2⟩:=ha.leaf;obtain⟨h3,h4⟩:=hb.leaf;have e1:=ta.at0.av;have e2:=tb.at0.av;cases hin:(af.hd a).inner with
  | false =>
   have e:jAk 0 a b=jDF 0 (af.av a++af.av b):=by
    show jAq _ a b=_;unfold jAq;rw[hin];rfl
   rw[e];exact jPk 0 (af.hd a) (af.hd b) _ _ ea ca eb cb w hin h1 h3 (ag.aG ha).2 (ag.aG hb).2 (by omega) (by omega)
  | true=>rw[ta.jE0] at hin;cases hin
 | n+1,a,b,ea,ca,eb,cb,w,ha,hb,ta,tb,ra,rb,hZ=>by
  obtain⟨h1,la,h2,h3⟩:=ha.inner;obtain⟨g1,lb,g2,g3⟩:=hb.inner;have e1:=ta.at1.av;have e2:=tb.at1.av;have k1:=ta.at1.kids;have k2:=tb.at1.kids;cases hin:(af.hd a).inner with
  | false =>
   have e:jAk (n+1) a b=jDF (n+1) (af.av a++af.av b):=by
    show jAq _ a b=_;unfold jAq;rw[hin];rfl
   rw[e];exact jPk (n+1) (af.hd a) (af.hd b) _ _ ea ca eb cb w hin h1 g1 (ag.aG ha).2 (ag.aG hb).2 (by omega) (by omega)
  | true =>
   have e:jAk (n+1) a b=jAK (aa n) ((la++lb).map Prod.fst):=by
    show jAq _ a b=_;unfold jAq;rw[hin,h2,g2,cR];rfl
   rw[e]
   have he:jBH n (la++lb):=by
    intro x hx;rcases List.mem_append.1 hx with hx | hx
    ·have hm:x.1∈af.kids a:=by rw[h2];exact List.mem_map.2 ⟨x,hx,rfl⟩
     have p1:=jGw (aa n) (fun c hc=>(ta.at1.each c hc).head.2.1) hm;have p2:=(ta.at1.inn hin).1;have p3:(aa (n+1) a).rows=(af.hd a).rows:=rfl;exact⟨(ta.at1.each _ hm).head.2.1,by omega⟩
    ·have hm:x.1∈af.kids b:=by rw[g2];exact List.mem_map.2 ⟨x,hx,rfl⟩
     have p1:=jGw (aa n) (fun c hc=>(tb.at1.each c hc).head.2.1) hm;cases hib:(af.hd b).inner with
     | true =>
      have p2:=(tb.at1.inn hib).1;have p3:(aa (n+1) b).rows=(af.hd b).rows:=rfl;exact⟨(tb.at1.each _ hm).head.2.1,by omega⟩
     | false =>
      rw[(tb.at1.lf hib).2] at hm;cases hm
   rw[h2,cF] at k1;rw[g2,cF] at k2;exact jWf n (af.hd a) (af.hd b) la lb ea ca eb cb w hin h3 g3 (ag.aG ha).1 (ag.aG hb).1 (by omega) (by omega) he hZ
end
end Go.Proofs.YtahpihjialbanaaGreatDoor
