import Derived.Test.YtahpihjialbanaaGreatDoorQak
set_option linter.unusedVariables false
set_option linter.unusedSimpArgs false
set_option maxRecDepth 100000
set_option maxHeartbeats 2000000
namespace Go.Proofs.YtahpihjialbanaaGreatDoor
section
open Go.RowKit
def spanCells (s:Sq.Span):Array Value:=#[.int .i64 s.lo,.int .i64 s.hi]
def sideCells (s:Sq.Sides):Array Value:=#[.int .i64 s.yes.lo,.int .i64 s.yes.hi,.int .i64 s.no.lo,.int .i64 s.no.hi]
theorem jQae (w:World):Calls Tryz.prog 200 #[] w fun e w'=>e=.returned (.agg (spanCells Sq.allKeys))/\Below w.heap.size w w':=by
 go_enter Tryz.func200,Tryz.ntmps200;go_wp2;refine bodyPost_ret (v:=.agg (spanCells Sq.allKeys)) (by simp[results,Tryz.results200,go_sem,spanCells,Sq.allKeys]) rfl ⟨rfl,?_⟩
 repeat (first | exact bR | refine Below.setCell (B:=w.heap.size) ?_ (by simp) _ | refine Below.alloc (B:=w.heap.size) ?_ (by simp) _)
theorem jQda (s:Sq.Span)(w:World):Calls Tryz.prog 117 #[.agg (spanCells s)] w fun e w'=>e=.returned (.bool (Sq.hasKeys s))/\Below w.heap.size w w':=by
 obtain⟨lo,hi⟩:=s;unfold spanCells;go_enter Tryz.func117,Tryz.ntmps117;go_wp2;go_ret;exact⟨rfl,(bR).alloc (nR) _⟩
theorem jQof (a b:Sq.Span)(w:World):Calls Tryz.prog 201 #[.agg (spanCells a),.agg (spanCells b)] w fun e w'=>e=.returned (.agg (spanCells (Sq.bothS a b)))/\Below w.heap.size w w':=by
 obtain⟨al,ah⟩:=a;obtain⟨bl,bh⟩:=b;have HE:Hid (spanCells (Sq.bothS ⟨al,ah⟩ ⟨bl,bh⟩)=#[.int .i64 (if al<bl then bl else al),.int .i64 (if bh<ah then bh else ah)]):=rfl;rw[HE.o];unfold spanCells
 by_cases h1:al<bl
 ·have i1:decide (al<bl)=true:=by simpa using h1
  by_cases h2:bh<ah
  ·have i2:decide (bh<ah)=true:=by simpa using h2
   rw[if_pos h1,if_pos h2];go_enter Tryz.func201,Tryz.ntmps201;go_wp2;refine bodyPost_ret (v:=.agg #[.int .i64 bl,.int .i64 bh]) (by simp[results,Tryz.results201,go_sem]) rfl ⟨rfl,?_⟩
   repeat (first | exact bR | refine Below.setCell (B:=w.heap.size) ?_ (by simp<;>omega) _ | refine Below.alloc (B:=w.heap.size) ?_ (by simp<;>omega) _)
  ·have i2:decide (bh<ah)=false:=by simpa using h2
   rw[if_pos h1,if_neg h2];go_enter Tryz.func201,Tryz.ntmps201;go_wp2;refine bodyPost_ret (v:=.agg #[.int .i64 bl,.int .i64 ah]) (by simp[results,Tryz.results201,go_sem]) rfl ⟨rfl,?_⟩
   repeat (first | exact bR | refine Below.setCell (B:=w.heap.size) ?_ (by simp<;>omega) _ | refine Below.alloc (B:=w.heap.size) ?_ (by simp<;>omega) _)
 ·have i1:decide (al<bl)=false:=by simpa using h1
  by_cases h2:bh<ah
  ·have i2:decide (bh<ah)=true:=by simpa using h2
   rw[if_neg h1,if_pos h2];go_enter Tryz.func201,Tryz.ntmps201;go_wp2;refine bodyPost_ret (v:=.agg #[.int .i64 al,.int .i64 bh]) (by simp[results,Tryz.results201,go_sem]) rfl ⟨rfl,?_⟩
   repeat (first | exact bR | refine Below.setCell (B:=w.heap.size) ?_ (by simp<;>omega) _ | refine Below.alloc (B:=w.heap.size) ?_ (by simp<;>omega) _)
  ·have i2:decide (bh<ah)=false:=by simpa using h2
   rw[if_neg h1,if_neg h2];go_enter Tryz.func201,Tryz.ntmps201;go_wp2;refine bodyPost_ret (v:=.agg #[.int .i64 al,.int .i64 ah]) (by simp[results,Tryz.results201,go_sem]) rfl ⟨rfl,?_⟩
   repeat (first | exact bR | refine Below.setCell (B:=w.heap.size) ?_ (by simp<;>omega) _ | refine Below.alloc (B:=w.heap.size) ?_ (by simp<;>omega) _)
theorem jQiS (op:ByteArray)(w:World):Calls Tryz.prog 199 #[.string op] w fun e w'=>e=.returned (.string (Sq.mirrored op))/\w'=w:=by
 have HE:Hid (Sq.mirrored op=if op.toList==[60] then Sq.opGt else if op.toList==[60,61] then Sq.opGe else if op.toList==[62] then Sq.opLt else if op.toList==[62,61] then Sq.opLe else op):=rfl;rw[HE.o];cases h1:op.toList==[60]
 ·cases h2:op.toList==[60,61]
  ·cases h3:op.toList==[62]
   ·cases h4:op.toList==[62,61]
    all_goals
     go_enter Tryz.func199,Tryz.ntmps199;go_wp2;go_ret;exact⟨rfl,rfl⟩
   ·go_enter Tryz.func199,Tryz.ntmps199;go_wp2;go_ret;exact⟨rfl,rfl⟩
  ·go_enter Tryz.func199,Tryz.ntmps199;go_wp2;go_ret;exact⟨rfl,rfl⟩
 ·go_enter Tryz.func199,Tryz.ntmps199;go_wp2;go_ret;exact⟨rfl,rfl⟩
theorem jQi7 (op:ByteArray)(w:World):Calls Tryz.prog 223 #[.string op] w fun e w'=>e=.returned (.string (Sq.contrary op))/\w'=w:=by
 have HE:Hid (Sq.contrary op=if op.toList==[61] then Sq.opNe else if op.toList==[60,62] then Sq.opEq else if op.toList==[60] then Sq.opGe else if op.toList==[60,61] then Sq.opGt else if op.toList==[62] then Sq.opLe else Sq.opLt):=rfl;rw[HE.o];cases h0:op.toList==[61]
 ·cases h1:op.toList==[60,62]
  ·cases h2:op.toList==[60]
   ·cases h3:op.toList==[60,61]
    ·cases h4:op.toList==[62]
     all_goals
      go_enter Tryz.func223,Tryz.ntmps223;go_wp2;go_ret;exact⟨rfl,rfl⟩
    ·go_enter Tryz.func223,Tryz.ntmps223;go_wp2;go_ret;exact⟨rfl,rfl⟩
   ·go_enter Tryz.func223,Tryz.ntmps223;go_wp2;go_ret;exact⟨rfl,rfl⟩
  ·go_enter Tryz.func223,Tryz.ntmps223;go_wp2;go_ret;exact⟨rfl,rfl⟩
 ·go_enter Tryz.func223,Tryz.ntmps223;go_wp2;go_ret;exact⟨rfl,rfl⟩
theorem jQcf (t:Sq.Term)(w:World):Calls Tryz.prog 197 #[.agg t.cells.toArray] w fun e w'=>e=.returned (.bool (Sq.isNumT t))/\Below w.heap.size w w':=by
 obtain⟨tc,⟨tk,tn,tt⟩⟩:=t;have HE:Hid (Sq.isNumT ⟨tc,⟨tk,tn,tt⟩⟩=(tc.toList.isEmpty&&(tk==0))):=rfl;rw[HE.o];unfold Sq.Term.cells;cases h:tc.toList.isEmpty
 ·go_enter Tryz.func197,Tryz.ntmps197;go_wp2;go_ret;exact⟨rfl,(bR).alloc (nR) _⟩
 ·go_enter Tryz.func197,Tryz.ntmps197;go_wp2;go_ret;exact⟨rfl,(bR).alloc (nR) _⟩
theorem jQpq (cols:List Sq.Col)(cv:Value)(t:Sq.Term)(w:World)(h:ColsAt w cv cols):Calls Tryz.prog 196 #[cv,.agg t.cells.toArray] w fun e w'=>e=.returned (.bool (Sq.isKeyT cols t))/\Below w.heap.size w w':=by
 obtain⟨tc,⟨tk,tn,tt⟩⟩:=t;have HE:Hid (Sq.isKeyT cols ⟨tc,⟨tk,tn,tt⟩⟩=(!tc.toList.isEmpty&&(Sq.find cols tc==0))):=rfl;rw[HE.o];unfold Sq.Term.cells;have hl:=h.2;have H:=hd h;have hW:∀o,Below w.heap.size w (w.alloc o):=fun o=>(bR).alloc (nR) _
 have HW:=hd hW;clear h hW;cases h:tc.toList.isEmpty
 ·go_enter Tryz.func196,Tryz.ntmps196;go_wp2_with (go_at_call 148;refine(jQas cols _ tc _ (H.o.below (HW.o _)).1 hl).mono ?_;rintro e w' ⟨rfl,rfl⟩);go_ret;exact⟨rfl,HW.o _⟩
 ·go_enter Tryz.func196,Tryz.ntmps196;go_wp2;go_ret;exact⟨rfl,HW.o _⟩
end
section
open Go.RowKit
theorem jQaw {w:World}{b:Nat}{x y:Value}{t:TypeId}(h:w.heap[b]?=some (.cells #[x,y] t)):w.cell? ⟨b,0,none⟩=some x/\w.cell? ⟨b,1,none⟩=some y/\w.frozen? ⟨b,0,none⟩=false/\w.frozen? ⟨b,1,none⟩=false/\b<w.heap.size :=
 ⟨by rw[jQb h];rfl,by rw[jQb h];rfl,jQd h _,jQd h _,jQf h⟩
theorem jQiy (w:World)(a b c:Obj):∃W,W=((w.alloc a).alloc b).alloc c/\Below w.heap.size w W/\W.heap[w.heap.size]?=some a/\W.heap[w.heap.size+1]?=some b/\W.heap[w.heap.size+1+1]?=some c:=by
 refine⟨_,rfl,?_,?_,?_,?_⟩
 ·exact(((bR).alloc (nR) _).alloc (by simp) _).alloc (by simp;omega) _
 ·exact((((Below.refl (w.alloc a).heap.size (w.alloc a)).alloc (nR) b).alloc (by simp) c).block w.heap.size (by simp)).trans (jQi _ _)
 ·have hs:(w.alloc a).heap.size=w.heap.size+1:=by simp
  rw[<-hs];exact(((Below.refl ((w.alloc a).alloc b).heap.size ((w.alloc a).alloc b)).alloc (nR) c).block _ (by simp)).trans (jQi _ _)
 ·have hs:((w.alloc a).alloc b).heap.size=w.heap.size+1+1:=by simp
  rw[<-hs];exact jQi _ _
theorem jQh8 (a b:Sq.Span)(w:World):Calls Tryz.prog 202 #[.agg (spanCells a),.agg (spanCells b)] w fun e w'=>e=.returned (.agg (spanCells (Sq.eitherS a b)))/\Below w.heap.size w w':=by
 obtain⟨al,ah⟩:=a;obtain⟨bl,bh⟩:=b;obtain⟨R,hR⟩:∃R,R=Sq.eitherS ⟨al,ah⟩ ⟨bl,bh⟩:=⟨_,rfl⟩;rw[<-hR];have he:=hd hR;clear hR;obtain⟨W,hW,hbW,k0,k1,k2⟩:=jQiy w (.cells #[.int .i64 al,.int .i64 ah] 174) (.cells #[.int .i64 bl,.int .i64 bh] 174) (.cells #[.int .i64 0,.int .i64 0] 174);obtain⟨a0,a1,a2,a3,a4⟩:=jQaw k0;obtain⟨b0,b1,b2,b3,b4⟩:=jQaw k1;obtain⟨c0,c1,c2,c3,c4⟩:=jQaw k2;have HW:=hd hbW;have K0:=hd k0;have K1:=hd k1;have K2:=hd k2;clear hbW k0 k1 k2;unfold spanCells;go_enter Tryz.func202,Tryz.ntmps202;go_wp2_with fail;rw[<-hW];clear hW;refine(jQda ⟨al,ah⟩ W).mono ?_;rintro e w1 ⟨rfl,hb1⟩;obtain⟨d0,d1,d2,d3,d4⟩:=jQaw ((hb1.block _ a4).trans K0.o);obtain⟨e0,e1,e2,e3,e4⟩:=jQaw ((hb1.block _ b4).trans K1.o);obtain⟨f0,f1,f2,f3,f4⟩:=jQaw ((hb1.block _ c4).trans K2.o);have hf:=hd (HW.o.trans (hb1.mono (by omega)));have ha:=hd hb1;clear hb1 a0 a1 a2 a3 b0 b1 b2 b3 c0 c1 c2 c3;cases h1:Sq.hasKeys ⟨al,ah⟩
 ·have HE:Hid (R=⟨bl,bh⟩):=by show _=_;rw[he.o];unfold Sq.eitherS;rw[h1];rfl
  go_wp2;refine bodyPost_ret (v:=.agg #[.int .i64 bl,.int .i64 bh]) (by simp[results,Tryz.results202,go_sem, *]) rfl ⟨by rw[HE.o]<;>rfl,?_⟩;exact Below.setCell (B:=w.heap.size) (Below.setCell (B:=w.heap.size) hf.o (by simp;omega) _) (by simp;omega) _
 ·go_wp2_with fail;refine(jQda ⟨bl,bh⟩ w1).mono ?_;rintro e w2 ⟨rfl,hb2⟩;obtain⟨g0,g1,g2,g3,g4⟩:=jQaw ((hb2.block _ d4).trans ((ha.o.block _ a4).trans K0.o));obtain⟨i0,i1,i2,i3,i4⟩:=jQaw ((hb2.block _ e4).trans ((ha.o.block _ b4).trans K1.o));obtain⟨j0,j1,j2,j3,j4⟩:=jQaw ((hb2.block _ f4).trans ((ha.o.block _ c4).trans K2.o));have hc:=hd (hf.o.trans (hb2.mono (by omega)));clear hb2 d0 d1 d2 d3 e0 e1 e2 e3 f0 f1 f2 f3;cases h2:Sq.hasKeys ⟨bl,bh⟩
  ·have HE:Hid (R=⟨al,ah⟩):=by show _=_;rw[he.o];unfold Sq.eitherS;rw[h1,h2];rfl
   go_wp2;refine bodyPost_ret (v:=.agg #[.int .i64 al,.int .i64 ah]) (by simp[results,Tryz.results202,go_sem, *]) rfl ⟨by rw[HE.o]<;>rfl,?_⟩;exact Below.setCell (B:=w.heap.size) (Below.setCell (B:=w.heap.size) hc.o (by simp;omega) _) (by simp;omega) _
  ·have HE:Hid (R=⟨if bl<al then bl else al,if ah<bh then bh else ah⟩):=by show _=_;rw[he.o];unfold Sq.eitherS;rw[h1,h2];rfl
   by_cases h3:bl<al
   ·have n3:decide (bl<al)=true:=by simpa using h3
    by_cases h4:ah<bh
    ·have n4:decide (ah<bh)=true:=by simpa using h4
     have hb:Hid (R=⟨bl,bh⟩):=by show _=_;rw[HE.o,if_pos h3,if_pos h4]
     clear HE;go_wp2;refine bodyPost_ret (v:=.agg #[.int .i64 bl,.int .i64 bh]) (by simp[results,Tryz.results202,go_sem, *]) rfl ⟨by rw[hb.o]<;>rfl,?_⟩
     repeat (first | exact hc.o | refine Below.setCell (B:=w.heap.size) ?_ (by simp<;>omega) _)
    ·have n4:decide (ah<bh)=false:=by simpa using h4
     have hb:Hid (R=⟨bl,ah⟩):=by show _=_;rw[HE.o,if_pos h3,if_neg h4]
     clear HE;go_wp2;refine bodyPost_ret (v:=.agg #[.int .i64 bl,.int .i64 ah]) (by simp[results,Tryz.results202,go_sem, *]) rfl ⟨by rw[hb.o]<;>rfl,?_⟩
     repeat (first | exact hc.o | refine Below.setCell (B:=w.heap.size) ?_ (by simp<;>omega) _)
   ·have n3:decide (bl<al)=false:=by simpa using h3
    by_cases h4:ah<bh
    ·have n4:decide (ah<bh)=true:=by simpa using h4
     have hb:Hid (R=⟨al,bh⟩):=by show _=_;rw[HE.o,if_neg h3,if_pos h4]
     clear HE;go_wp2;refine bodyPost_ret (v:=.agg #[.int .i64 al,.int .i64 bh]) (by simp[results,Tryz.results202,go_sem, *]) rfl ⟨by rw[hb.o]<;>rfl,?_⟩
     repeat (first | exact hc.o | refine Below.setCell (B:=w.heap.size) ?_ (by simp<;>omega) _)
    ·have n4:decide (ah<bh)=false:=by simpa using h4
     have hb:Hid (R=⟨al,ah⟩):=by show _=_;rw[HE.o,if_neg h3,if_neg h4]
     clear HE;go_wp2;refine bodyPost_ret (v:=.agg #[.int .i64 al,.int .i64 ah]) (by simp[results,Tryz.results202,go_sem, *]) rfl ⟨by rw[hb.o]<;>rfl,?_⟩
     repeat (first | exact hc.o | refine Below.setCell (B:=w.heap.size) ?_ (by simp<;>omega) _)
theorem jQeK (op:ByteArray)(n:Int)(w:World)(h0:-100000000000<=n)(h1:n<=100000000000):Calls Tryz.prog 222 #[.string op,.int .i64 n] w fun e w'=>e=.returned (.agg (spanCells (Sq.keysThat op n)))/\Below w.heap.size w w':=by
 obtain⟨R,hR⟩:∃R,R=Sq.keysThat op n:=⟨_,rfl⟩;rw[<-hR];have hb:=hd hR;clear hR;obtain⟨W,hW⟩:∃W,W=w.alloc (.cells #[.int .i64 0,.int .i64 0] 174):=⟨_,rfl⟩;have hc:Below w.heap.size w W:=by rw[hW];exact(bR).alloc (nR) _
 have k0:W.heap[w.heap.size]?=some (.cells #[.int .i64 0,.int .i64 0] 174):=by rw[hW];exact jQi _ _
 have HW:=hd hc;have K0:=hd k0;have hz:=jQf k0;clear hc k0;go_enter Tryz.func222,Tryz.ntmps222;go_wp2_with fail;rw[<-hW];clear hW;refine(jQae W).mono ?_;rintro e w1 ⟨rfl,hb1⟩;obtain⟨d0,d1,d2,d3,d4⟩:=jQaw ((hb1.block _ hz).trans K0.o);have ha:=hd (HW.o.trans (hb1.mono (by omega)));clear hb1;unfold spanCells Sq.allKeys;cases g1:op.toList==[61]
 ·cases g2:op.toList==[60]
  ·cases g3:op.toList==[60,61]
   ·cases g4:op.toList==[62]
    ·cases g5:op.toList==[62,61]
     ·have HE:Hid (R=⟨-2147483648,2147483647⟩):=by show _=_;rw[hb.o];unfold Sq.keysThat;rw[g1,g2,g3,g4,g5];rfl
      go_wp2;refine bodyPost_ret (v:=.agg #[.int .i64 (-2147483648),.int .i64 2147483647]) (by simp[results,Tryz.results222,go_sem, *]) rfl ⟨by rw[HE.o]<;>rfl,?_⟩
      repeat (first | exact ha.o | refine Below.setCell (B:=w.heap.size) ?_ (by simp<;>omega) _ | refine Below.alloc (B:=w.heap.size) ?_ (by simp<;>omega) _)
     ·have HE:Hid (R=⟨n,2147483647⟩):=by show _=_;rw[hb.o];unfold Sq.keysThat;rw[g1,g2,g3,g4,g5];rfl
      go_wp2;refine bodyPost_ret (v:=.agg #[.int .i64 n,.int .i64 2147483647]) (by simp[results,Tryz.results222,go_sem, *]) rfl ⟨by rw[HE.o]<;>rfl,?_⟩
      repeat (first | exact ha.o | refine Below.setCell (B:=w.heap.size) ?_ (by simp<;>omega) _ | refine Below.alloc (B:=w.heap.size) ?_ (by simp<;>omega) _)
    ·have HE:Hid (R=⟨n+1,2147483647⟩):=by show _=_;rw[hb.o];unfold Sq.keysThat;rw[g1,g2,g3,g4];rfl
     go_wp2;refine bodyPost_ret (v:=.agg #[.int .i64 (n+1),.int .i64 2147483647]) (by simp[results,Tryz.results222,go_sem, *]) rfl ⟨by rw[HE.o]<;>rfl,?_⟩
     repeat (first | exact ha.o | refine Below.setCell (B:=w.heap.size) ?_ (by simp<;>omega) _ | refine Below.alloc (B:=w.heap.size) ?_ (by simp<;>omega) _)
   ·have HE:Hid (R=⟨-2147483648,n⟩):=by show _=_;rw[hb.o];unfold Sq.keysThat;rw[g1,g2,g3];rfl
    go_wp2;refine bodyPost_ret (v:=.agg #[.int .i64 (-2147483648),.int .i64 n]) (by simp[results,Tryz.results222,go_sem, *]) rfl ⟨by rw[HE.o]<;>rfl,?_⟩
    repeat (first | exact ha.o | refine Below.setCell (B:=w.heap.size) ?_ (by simp<;>omega) _ | refine Below.alloc (B:=w.heap.size) ?_ (by simp<;>omega) _)
  ·have HE:Hid (R=⟨-2147483648,n-1⟩):=by show _=_;rw[hb.o];unfold Sq.keysThat;rw[g1,g2];rfl
   go_wp2;refine bodyPost_ret (v:=.agg #[.int .i64 (-2147483648),.int .i64 (n-1)]) (by simp[results,Tryz.results222,go_sem, *]) rfl ⟨by rw[HE.o]<;>rfl,?_⟩
   repeat (first | exact ha.o | refine Below.setCell (B:=w.heap.size) ?_ (by simp<;>omega) _ | refine Below.alloc (B:=w.heap.size) ?_ (by simp<;>omega) _)
 ·have HE:Hid (R=⟨n,n⟩):=by show _=_;rw[hb.o];unfold Sq.keysThat;rw[g1];rfl
  go_wp2;refine bodyPost_ret (v:=.agg #[.int .i64 n,.int .i64 n]) (by simp[results,Tryz.results222,go_sem, *]) rfl ⟨by rw[HE.o]<;>rfl,?_⟩
  repeat (first | exact ha.o | refine Below.setCell (B:=w.heap.size) ?_ (by simp<;>omega) _ | refine Below.alloc (B:=w.heap.size) ?_ (by simp<;>omega) _)
theorem jQF {w:World}{b:Nat}{x y z u:Value}{t:TypeId}(h:w.heap[b]?=some (.cells #[x,y,z,u] t)):(w.cell? ⟨b,0,none⟩=some x/\w.cell? ⟨b,1,none⟩=some y/\w.cell? ⟨b,2,none⟩=some z/\w.cell? ⟨b,3,none⟩=some u)/\(w.frozen? ⟨b,0,none⟩=false/\w.frozen? ⟨b,1,none⟩=false/\w.frozen? ⟨b,2,none⟩=false/\w.frozen? ⟨b,3,none⟩=false)/\b<w.heap.size :=
 ⟨⟨by rw[jQb h];rfl,by rw[jQb h];rfl,by rw[jQb h];rfl,by rw[jQb h];rfl⟩,⟨jQd h _,jQd h _,jQd h _,jQd h _⟩,jQf h⟩
theorem jQiX (op:ByteArray)(n:Int)(w:World)(h0:-100000000000<=n)(h1:n<=100000000000):Calls Tryz.prog 198 #[.string op,.int .i64 n] w fun e w'=>e=.returned (.agg (sideCells (Sq.keySides op n)))/\Below w.heap.size w w':=by
 obtain⟨W,hW⟩:∃W,W=w.alloc (.cells #[.int .i64 0,.int .i64 0,.int .i64 0,.int .i64 0] 224):=⟨_,rfl⟩;have he:Below w.heap.size w W:=by rw[hW];exact(bR).alloc (nR) _
 have k0:W.heap[w.heap.size]?=some (.cells #[.int .i64 0,.int .i64 0,.int .i64 0,.int .i64 0] 224):=by rw[hW];exact jQi _ _
 have HW:=hd he;have K0:=hd k0;have hz:=jQf k0;have HE:Hid (Sq.keySides op n=⟨Sq.keysThat op n,Sq.keysThat (Sq.contrary op) n⟩):=rfl;rw[HE.o];have hb:=fun w=>jQeK op n w h0 h1
 have hc:=fun w=>jQeK (Sq.contrary op) n w h0 h1
 obtain⟨A,hA⟩:∃A,A=Sq.keysThat op n:=⟨_,rfl⟩;obtain⟨B,hB⟩:∃A,A=Sq.keysThat (Sq.contrary op) n:=⟨_,rfl⟩;rw[<-hA] at hb ⊢;rw[<-hB] at hc ⊢;have hh:=hd hb;have hi:=hd hc;obtain⟨al,ah⟩:=A;obtain⟨bl,bh⟩:=B;clear he k0 hb hc hA hB HE;go_enter Tryz.func198,Tryz.ntmps198;go_wp2_with fail;rw[<-hW];clear hW;refine(hh.o W).mono ?_;rintro e w1 ⟨rfl,hb1⟩;have hf:=hd hb1;clear hb1;go_wp2_with fail;refine(jQi7 op w1).mono ?_;rintro e w2 ⟨rfl,hw2⟩;rw[hw2];clear hw2 w2;go_wp2_with fail;refine(hi.o w1).mono ?_;rintro e w2 ⟨rfl,hb2⟩;have ha:=hf.o.trans (hb2.mono hf.o.size);obtain⟨⟨d0,d1,d2,d3⟩,⟨e0,e1,e2,e3⟩,d4⟩:=jQF ((ha.block _ hz).trans K0.o);have hg:=hd (HW.o.trans (ha.mono (by omega)));clear hb2 ha;unfold spanCells;go_wp2;refine bodyPost_ret (v:=.agg #[.int .i64 al,.int .i64 ah,.int .i64 bl,.int .i64 bh]) (by simp[results,Tryz.results198,go_sem, *]) rfl ⟨rfl,?_⟩
 repeat (first | exact hg.o | refine Below.setCell (B:=w.heap.size) ?_ (by simp<;>omega) _ | refine Below.alloc (B:=w.heap.size) ?_ (by simp<;>omega) _)
end
end Go.Proofs.YtahpihjialbanaaGreatDoor
