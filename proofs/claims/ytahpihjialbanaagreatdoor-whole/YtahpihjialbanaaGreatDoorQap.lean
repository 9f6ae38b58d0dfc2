import Derived.Test.YtahpihjialbanaaGreatDoorQao
set_option linter.unusedVariables false
set_option linter.unusedSimpArgs false
set_option maxRecDepth 100000
set_option maxHeartbeats 4000000
namespace Go.Proofs.YtahpihjialbanaaGreatDoor
section
open Go.RowKit
theorem box9 {w:World}{b:Nat}{t:TypeId}{x0 x1 x2 x3 x4 x5 x6 x7 x8:Value}(h:w.heap[b]?=some (.cells #[x0,x1,x2,x3,x4,x5,x6,x7,x8] t)) :
  (w.cell? ⟨b,0,none⟩=some x0/\w.cell? ⟨b,1,none⟩=some x1/\w.cell? ⟨b,2,none⟩=some x2/\w.cell? ⟨b,3,none⟩=some x3/\w.cell? ⟨b,4,none⟩=some x4/\w.cell? ⟨b,5,none⟩=some x5/\w.cell? ⟨b,6,none⟩=some x6/\w.cell? ⟨b,7,none⟩=some x7/\w.cell? ⟨b,8,none⟩=some x8)/\b<w.heap.size :=
 ⟨⟨by rw[jQb h];rfl,by rw[jQb h];rfl,by rw[jQb h];rfl,by rw[jQb h];rfl,by rw[jQb h];rfl,by rw[jQb h];rfl,by rw[jQb h];rfl,by rw[jQb h];rfl,by rw[jQb h];rfl⟩,jQf h⟩
theorem jQcp (w:World)(a b:Obj):∃W,W=(w.alloc a).alloc b/\Below w.heap.size w W/\W.heap[w.heap.size]?=some a/\W.heap[w.heap.size+1]?=some b:=by
 refine⟨_,rfl,((bR).alloc (nR) _).alloc (by simp) _,?_,?_⟩
 ·exact(((Below.refl (w.alloc a).heap.size (w.alloc a)).alloc (nR) b).block w.heap.size (by simp)).trans (jQi _ _)
 ·rw[<-jQr w a];exact jQi _ _
theorem jQkR (cols:List Sq.Col)(cv:Value)(s:Sq.StepS)(w:World)(h:ColsAt w cv cols)(hl0:-100000000000<=s.left.lit.number)(hl1:s.left.lit.number<=100000000000)(hr0:-100000000000<=s.right.lit.number)(hr1:s.right.lit.number<=100000000000) :
  Calls Tryz.prog 154 #[cv,.agg s.cells.toArray] w fun e w'=>e=.returned (.agg (sideCells (Sq.sidesOf cols s)))/\Below w.heap.size w w':=by
 obtain⟨op,⟨lc,⟨lk,ln,lt⟩⟩,⟨rc,⟨rk,rn,rt⟩⟩⟩:=s;simp only at hl0 hl1 hr0 hr1;obtain⟨R,hR⟩:∃R,R=Sq.sidesOf cols ⟨op,⟨lc,⟨lk,ln,lt⟩⟩,⟨rc,⟨rk,rn,rt⟩⟩⟩:=⟨_,rfl⟩;rw[<-hR];have hr:=hd hR;have H:=hd h;have hs:=fun o n w h0 h1=>jQiX o n w h0 h1
 have hu:=fun t w hc=>jQpq cols cv t w hc
 unfold Sq.StepS.cells;simp only;obtain⟨W,hW,hbW,k0,k1⟩:=jQcp w (.cells #[.string op,.string lc,.int .i64 lk,.int .i64 ln,.string lt,.string rc,.int .i64 rk,.int .i64 rn,.string rt] 217) (.cells #[.int .i64 0,.int .i64 0,.int .i64 0,.int .i64 0] 224);obtain⟨⟨a0,a1,a2,a3,a4,a5,a6,a7,a8⟩,a9⟩:=box9 k0;have hj:Hid (∀w',Below W.heap.size W w'->w'.heap[w.heap.size]?=some (.cells #[.string op,.string lc,.int .i64 lk,.int .i64 ln,.string lt,.string rc,.int .i64 rk,.int .i64 rn,.string rt] 217)/\w'.heap[w.heap.size+1]?=some (.cells #[.int .i64 0,.int .i64 0,.int .i64 0,.int .i64 0] 224)):=fun w' hb=>⟨(hb.block _ (jQf k0)).trans k0,(hb.block _ (jQf k1)).trans k1⟩
 have HW:=hd hbW;clear hR h k0 k1 hbW;have ht:=hd hs;have hp:=hd hu;clear hs hu;go_enter Tryz.func154,Tryz.ntmps154;go_wp2_with fail;rw[<-hW];clear hW;refine(hp.o ⟨lc,⟨lk,ln,lt⟩⟩ W (H.o.below HW.o)).mono ?_;rintro e w1 ⟨rfl,hb1⟩;obtain⟨x0,x1⟩:=hj.o w1 hb1;obtain⟨⟨b0,b1,b2,b3,b4,b5,b6,b7,b8⟩,b9⟩:=box9 x0;obtain⟨⟨d0,d1,d2,d3⟩,⟨e0,e1,e2,e3⟩,d4⟩:=jQF x1;have hn:=hd hb1;have HS:Hid (R=if Sq.isKeyT cols ⟨lc,⟨lk,ln,lt⟩⟩&&Sq.isNumT ⟨rc,⟨rk,rn,rt⟩⟩ then Sq.keySides op rn else if Sq.isNumT ⟨lc,⟨lk,ln,lt⟩⟩&&Sq.isKeyT cols ⟨rc,⟨rk,rn,rt⟩⟩ then Sq.keySides (Sq.mirrored op) ln else Sq.allSides):=hr.o;clear hb1 a0 a1 a2 a3 a4 a5 a6 a7 a8 x0 x1 hr;have tail:∀w2,Below W.heap.size W w2->(Sq.isKeyT cols ⟨lc,⟨lk,ln,lt⟩⟩&&Sq.isNumT ⟨rc,⟨rk,rn,rt⟩⟩)=false->True:=fun _ _ _=>trivial
 clear tail;cases q1:Sq.isKeyT cols ⟨lc,⟨lk,ln,lt⟩⟩
 ·have ho:Hid (R=if Sq.isNumT ⟨lc,⟨lk,ln,lt⟩⟩&&Sq.isKeyT cols ⟨rc,⟨rk,rn,rt⟩⟩ then Sq.keySides (Sq.mirrored op) ln else Sq.allSides):=by show _=_;rw[HS.o,q1];rfl
  clear HS;go_wp2_with fail;refine(jQcf ⟨lc,⟨lk,ln,lt⟩⟩ w1).mono ?_;rintro e w2 ⟨rfl,hb2⟩;have ha:=hn.o.trans (hb2.mono hn.o.size);obtain⟨x0,x1⟩:=hj.o w2 ha;obtain⟨⟨f0,f1,f2,f3,f4,f5,f6,f7,f8⟩,f9⟩:=box9 x0;obtain⟨⟨g0,g1,g2,g3⟩,⟨i0,i1,i2,i3⟩,g4⟩:=jQF x1;have hh:=hd ha;clear hb2 ha b0 b1 b2 b3 b4 b5 b6 b7 b8 x0 x1 d0 d1 d2 d3 e0 e1 e2 e3;cases q2:Sq.isNumT ⟨lc,⟨lk,ln,lt⟩⟩
  ·have hi:Hid (R=Sq.allSides):=by show _=_;rw[ho.o,q2];rfl
   go_wp2_with fail;refine(jQae w2).mono ?_;rintro e w3 ⟨rfl,hb3⟩;have hg:=hd (hh.o.trans (hb3.mono hh.o.size));clear hb3;go_wp2_with fail;refine(jQae w3).mono ?_;rintro e w4 ⟨rfl,hb4⟩;have hf:=hg.o.trans (hb4.mono hg.o.size);obtain⟨⟨j0,j1,j2,j3⟩,⟨l0,l1,l2,l3⟩,j4⟩:=jQF (hj.o w4 hf).2;have hv:=hd (HW.o.trans (hf.mono (by omega)));clear hb4 hf;unfold spanCells Sq.allKeys;go_wp2;refine bodyPost_ret (v:=.agg (sideCells Sq.allSides)) (by simp[results,Tryz.results154,go_sem,sideCells,Sq.allSides,Sq.allKeys, *]) rfl ⟨by rw[hi.o],?_⟩
   repeat (first | exact hv.o | refine Below.setCell (B:=w.heap.size) ?_ (by simp<;>omega) _ | refine Below.alloc (B:=w.heap.size) ?_ (by simp<;>omega) _)
  ·go_wp2_with fail;refine(hp.o ⟨rc,⟨rk,rn,rt⟩⟩ w2 (H.o.below (HW.o.trans (hh.o.mono (by omega))))).mono ?_;rintro e w3 ⟨rfl,hb3⟩;have hk:=hh.o.trans (hb3.mono hh.o.size);obtain⟨x0,x1⟩:=hj.o w3 hk;obtain⟨⟨m0,m1,m2,m3,m4,m5,m6,m7,m8⟩,m9⟩:=box9 x0;have hg:=hd hk;clear hb3 hk f0 f1 f2 f3 f4 f5 f6 f7 f8 x0 x1 g0 g1 g2 g3 i0 i1 i2 i3;cases q3:Sq.isKeyT cols ⟨rc,⟨rk,rn,rt⟩⟩
   ·have hi:Hid (R=Sq.allSides):=by show _=_;rw[ho.o,q2,q3];rfl
    go_wp2_with fail;refine(jQae w3).mono ?_;rintro e w4 ⟨rfl,hb4⟩;have hm:=hd (hg.o.trans (hb4.mono hg.o.size));clear hb4;go_wp2_with fail;refine(jQae w4).mono ?_;rintro e w5 ⟨rfl,hf⟩;have he:=hm.o.trans (hf.mono hm.o.size);obtain⟨⟨j0,j1,j2,j3⟩,⟨l0,l1,l2,l3⟩,j4⟩:=jQF (hj.o w5 he).2;have hl:=hd (HW.o.trans (he.mono (by omega)));clear hf he;unfold spanCells Sq.allKeys;go_wp2;refine bodyPost_ret (v:=.agg (sideCells Sq.allSides)) (by simp[results,Tryz.results154,go_sem,sideCells,Sq.allSides,Sq.allKeys, *]) rfl ⟨by rw[hi.o],?_⟩
    repeat (first | exact hl.o | refine Below.setCell (B:=w.heap.size) ?_ (by simp<;>omega) _ | refine Below.alloc (B:=w.heap.size) ?_ (by simp<;>omega) _)
   ·have hi:Hid (R=Sq.keySides (Sq.mirrored op) ln):=by show _=_;rw[ho.o,q2,q3];rfl
    obtain⟨⟨rl,rh⟩,⟨nl,nh⟩⟩:=R;go_wp2
    go_region_with (first
     | (go_at_call 199;refine(jQiS op _).mono ?_;rintro e w4 ⟨rfl,hw4⟩;rw[hw4];clear hw4 w4)
     | (go_at_call 198;refine(ht.o (Sq.mirrored op) ln _ hl0 hl1).mono ?_;rintro e w5 ⟨rfl,hf⟩;rw[<-hi.o];have he:Below W.heap.size W w5:=hg.o.trans (((Below.drew (Below.refl w3.heap.size w3)).trans hf).mono hg.o.size);obtain⟨⟨j0,j1,j2,j3⟩,⟨l0,l1,l2,l3⟩,j4⟩:=jQF (hj.o w5 he).2;have hl:=hd (HW.o.trans (he.mono (by omega)));clear hf he;unfold sideCells))
    all_goals(try go_wp2)
    all_goals
     refine bodyPost_ret (v:=.agg #[.int .i64 rl,.int .i64 rh,.int .i64 nl,.int .i64 nh]) (by simp[results,Tryz.results154,go_sem, *]) rfl ⟨rfl,?_⟩
     repeat (first | exact hl.o | refine Below.setCell (B:=w.heap.size) ?_ (by simp<;>omega) _ | refine Below.alloc (B:=w.heap.size) ?_ (by simp<;>omega) _)
 ·go_wp2_with fail;refine(jQcf ⟨rc,⟨rk,rn,rt⟩⟩ w1).mono ?_;rintro e w2 ⟨rfl,hb2⟩;have ha:=hn.o.trans (hb2.mono hn.o.size);obtain⟨x0,x1⟩:=hj.o w2 ha;obtain⟨⟨f0,f1,f2,f3,f4,f5,f6,f7,f8⟩,f9⟩:=box9 x0;obtain⟨⟨g0,g1,g2,g3⟩,⟨i0,i1,i2,i3⟩,g4⟩:=jQF x1;have hh:=hd ha;clear hb2 ha b0 b1 b2 b3 b4 b5 b6 b7 b8 x0 x1 d0 d1 d2 d3 e0 e1 e2 e3;cases q2:Sq.isNumT ⟨rc,⟨rk,rn,rt⟩⟩
  ·have hq:Sq.isNumT ⟨lc,⟨lk,ln,lt⟩⟩=false:=by
    have h1:(!lc.toList.isEmpty&&(Sq.find cols lc==0))=true:=q1
    show(lc.toList.isEmpty&&(lk==0))=false
    cases hle:lc.toList.isEmpty
    ·rfl
    ·rw[hle] at h1;simp at h1
   have hi:Hid (R=Sq.allSides):=by show _=_;rw[HS.o,q1,q2,hq];rfl
   go_wp2_with fail;refine(jQcf ⟨lc,⟨lk,ln,lt⟩⟩ w2).mono ?_;rintro e w3 ⟨rfl,hb3⟩;rw[hq];have hg:=hd (hh.o.trans (hb3.mono hh.o.size));clear hb3;go_wp2_with fail;refine(jQae w3).mono ?_;rintro e w4 ⟨rfl,hb4⟩;have hm:=hd (hg.o.trans (hb4.mono hg.o.size));clear hb4;go_wp2_with fail;refine(jQae w4).mono ?_;rintro e w5 ⟨rfl,hf⟩;have he:=hm.o.trans (hf.mono hm.o.size);obtain⟨⟨j0,j1,j2,j3⟩,⟨l0,l1,l2,l3⟩,j4⟩:=jQF (hj.o w5 he).2;have hl:=hd (HW.o.trans (he.mono (by omega)));clear hf he;unfold spanCells Sq.allKeys;go_wp2;refine bodyPost_ret (v:=.agg (sideCells Sq.allSides)) (by simp[results,Tryz.results154,go_sem,sideCells,Sq.allSides,Sq.allKeys, *]) rfl ⟨by rw[hi.o],?_⟩
   repeat (first | exact hl.o | refine Below.setCell (B:=w.heap.size) ?_ (by simp<;>omega) _ | refine Below.alloc (B:=w.heap.size) ?_ (by simp<;>omega) _)
  ·have hi:Hid (R=Sq.keySides op rn):=by show _=_;rw[HS.o,q1,q2];rfl
   obtain⟨⟨rl,rh⟩,⟨nl,nh⟩⟩:=R;go_wp2_with fail;refine(ht.o op rn w2 hr0 hr1).mono ?_;rintro e w3 ⟨rfl,hb3⟩;rw[<-hi.o];have he:=hh.o.trans (hb3.mono hh.o.size);obtain⟨⟨j0,j1,j2,j3⟩,⟨l0,l1,l2,l3⟩,j4⟩:=jQF (hj.o w3 he).2;have hl:=hd (HW.o.trans (he.mono (by omega)));clear hb3 he;unfold sideCells;go_wp2;refine bodyPost_ret (v:=.agg #[.int .i64 rl,.int .i64 rh,.int .i64 nl,.int .i64 nh]) (by simp[results,Tryz.results154,go_sem, *]) rfl ⟨rfl,?_⟩
   repeat (first | exact hl.o | refine Below.setCell (B:=w.heap.size) ?_ (by simp<;>omega) _ | refine Below.alloc (B:=w.heap.size) ?_ (by simp<;>omega) _)
end
end Go.Proofs.YtahpihjialbanaaGreatDoor
