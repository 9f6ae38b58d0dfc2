import Derived.Test.YtahpihjialbanaaGreatDoorQaf
set_option linter.unusedVariables false
set_option linter.unusedSimpArgs false
set_option maxRecDepth 100000
set_option maxHeartbeats 2000000
namespace Go.Proofs.YtahpihjialbanaaGreatDoor
section
open Go.RowKit
def spanCells (s:Sq.Span):Array Value:=#[.int .i64 s.lo,.int .i64 s.hi]
def sideCells (s:Sq.Sides):Array Value:=#[.int .i64 s.yes.lo,.int .i64 s.yes.hi,.int .i64 s.no.lo,.int .i64 s.no.hi]
theorem jQak (w:World):Calls Tryz.prog 200 #[] w fun e w'=>e=.returned (.agg (spanCells Sq.allKeys))∧Below w.heap.size w w':=by
 go_enter Tryz.func200,Tryz.ntmps200
 go_wp2
 refine bodyPost_ret (v:=.agg (spanCells Sq.allKeys)) (by simp[results,Tryz.results200,go_sem,spanCells,Sq.allKeys]) rfl ⟨rfl,?_⟩
 repeat (first | exact Below.refl _ _ | refine Below.setCell (B:=w.heap.size) ?_ (by simp) _ | refine Below.alloc (B:=w.heap.size) ?_ (by simp) _)
theorem jQdm (s:Sq.Span)(w:World):Calls Tryz.prog 117 #[.agg (spanCells s)] w fun e w'=>e=.returned (.bool (Sq.hasKeys s))∧Below w.heap.size w w':=by
 obtain⟨lo,hi⟩:=s
 unfold spanCells
 go_enter Tryz.func117,Tryz.ntmps117
 go_wp2
 go_ret
 exact⟨rfl,(Below.refl _ _).alloc (Nat.le_refl _) _⟩
theorem jQnL (a b:Sq.Span)(w:World):Calls Tryz.prog 201 #[.agg (spanCells a),.agg (spanCells b)] w fun e w'=>e=.returned (.agg (spanCells (Sq.bothS a b)))∧Below w.heap.size w w':=by
 obtain⟨al,ah⟩:=a
 obtain⟨bl,bh⟩:=b
 have HE:Hid (spanCells (Sq.bothS ⟨al,ah⟩ ⟨bl,bh⟩)=#[.int .i64 (if al < bl then bl else al),.int .i64 (if bh < ah then bh else ah)]):=rfl
 rw[HE.out]
 unfold spanCells
 by_cases h1:al < bl
 ·have i1:decide (al < bl)=true:=by simpa using h1
  by_cases h2:bh < ah
  ·have i2:decide (bh < ah)=true:=by simpa using h2
   rw[if_pos h1,if_pos h2]
   go_enter Tryz.func201,Tryz.ntmps201
   go_wp2
   refine bodyPost_ret (v:=.agg #[.int .i64 bl,.int .i64 bh]) (by simp[results,Tryz.results201,go_sem]) rfl ⟨rfl,?_⟩
   repeat (first | exact Below.refl _ _ | refine Below.setCell (B:=w.heap.size) ?_ (by simp <;> omega) _ | refine Below.alloc (B:=w.heap.size) ?_ (by simp <;> omega) _)
  ·have i2:decide (bh < ah)=false:=by simpa using h2
   rw[if_pos h1,if_neg h2]
   go_enter Tryz.func201,Tryz.ntmps201
   go_wp2
   refine bodyPost_ret (v:=.agg #[.int .i64 bl,.int .i64 ah]) (by simp[results,Tryz.results201,go_sem]) rfl ⟨rfl,?_⟩
   repeat (first | exact Below.refl _ _ | refine Below.setCell (B:=w.heap.size) ?_ (by simp <;> omega) _ | refine Below.alloc (B:=w.heap.size) ?_ (by simp <;> omega) _)
 ·have i1:decide (al < bl)=false:=by simpa using h1
  by_cases h2:bh < ah
  ·have i2:decide (bh < ah)=true:=by simpa using h2
   rw[if_neg h1,if_pos h2]
   go_enter Tryz.func201,Tryz.ntmps201
   go_wp2
   refine bodyPost_ret (v:=.agg #[.int .i64 al,.int .i64 bh]) (by simp[results,Tryz.results201,go_sem]) rfl ⟨rfl,?_⟩
   repeat (first | exact Below.refl _ _ | refine Below.setCell (B:=w.heap.size) ?_ (by simp <;> omega) _ | refine Below.alloc (B:=w.heap.size) ?_ (by simp <;> omega) _)
  ·have i2:decide (bh < ah)=false:=by simpa using h2
   rw[if_neg h1,if_neg h2]
   go_enter Tryz.func201,Tryz.ntmps201
   go_wp2
   refine bodyPost_ret (v:=.agg #[.int .i64 al,.int .i64 ah]) (by simp[results,Tryz.results201,go_sem]) rfl ⟨rfl,?_⟩
   repeat (first | exact Below.refl _ _ | refine Below.setCell (B:=w.heap.size) ?_ (by simp <;> omega) _ | refine Below.alloc (B:=w.heap.size) ?_ (by simp <;> omega) _)
theorem jQiv (op:ByteArray)(w:World):Calls Tryz.prog 199 #[.string op] w fun e w'=>e=.returned (.string (Sq.mirrored op))∧w'=w:=by
 have HE:Hid (Sq.mirrored op=if op.toList==[60] then Sq.opGt else if op.toList==[60,61] then Sq.opGe else if op.toList==[62] then Sq.opLt else if op.toList==[62,61] then Sq.opLe else op):=rfl
 rw[HE.out]
 cases h1:op.toList==[60]
 ·cases h2:op.toList==[60,61]
  ·cases h3:op.toList==[62]
   ·cases h4:op.toList==[62,61]
    all_goals
     go_enter Tryz.func199,Tryz.ntmps199
     go_wp2
     go_ret
     exact⟨rfl,rfl⟩
   ·go_enter Tryz.func199,Tryz.ntmps199
    go_wp2
    go_ret
    exact⟨rfl,rfl⟩
  ·go_enter Tryz.func199,Tryz.ntmps199
   go_wp2
   go_ret
   exact⟨rfl,rfl⟩
 ·go_enter Tryz.func199,Tryz.ntmps199
  go_wp2
  go_ret
  exact⟨rfl,rfl⟩
theorem jQiI (op:ByteArray)(w:World):Calls Tryz.prog 223 #[.string op] w fun e w'=>e=.returned (.string (Sq.contrary op))∧w'=w:=by
 have HE:Hid (Sq.contrary op=if op.toList==[61] then Sq.opNe else if op.toList==[60,62] then Sq.opEq else if op.toList==[60] then Sq.opGe else if op.toList==[60,61] then Sq.opGt else if op.toList==[62] then Sq.opLe else Sq.opLt):=rfl
 rw[HE.out]
 cases h0:op.toList==[61]
 ·cases h1:op.toList==[60,62]
  ·cases h2:op.toList==[60]
   ·cases h3:op.toList==[60,61]
    ·cases h4:op.toList==[62]
     all_goals
      go_enter Tryz.func223,Tryz.ntmps223
      go_wp2
      go_ret
      exact⟨rfl,rfl⟩
    ·go_enter Tryz.func223,Tryz.ntmps223
     go_wp2
     go_ret
     exact⟨rfl,rfl⟩
   ·go_enter Tryz.func223,Tryz.ntmps223
    go_wp2
    go_ret
    exact⟨rfl,rfl⟩
  ·go_enter Tryz.func223,Tryz.ntmps223
   go_wp2
   go_ret
   exact⟨rfl,rfl⟩
 ·go_enter Tryz.func223,Tryz.ntmps223
  go_wp2
  go_ret
  exact⟨rfl,rfl⟩
theorem jQcy (t:Sq.Term)(w:World):Calls Tryz.prog 197 #[.agg t.cells.toArray] w fun e w'=>e=.returned (.bool (Sq.isNumT t))∧Below w.heap.size w w':=by
 obtain⟨tc,⟨tk,tn,tt⟩⟩:=t
 have HE:Hid (Sq.isNumT ⟨tc,⟨tk,tn,tt⟩⟩=(tc.toList.isEmpty && (tk==0))):=rfl
 rw[HE.out]
 unfold Sq.Term.cells
 cases h:tc.toList.isEmpty
 ·go_enter Tryz.func197,Tryz.ntmps197
  go_wp2
  go_ret
  exact⟨rfl,(Below.refl _ _).alloc (Nat.le_refl _) _⟩
 ·go_enter Tryz.func197,Tryz.ntmps197
  go_wp2
  go_ret
  exact⟨rfl,(Below.refl _ _).alloc (Nat.le_refl _) _⟩
theorem jQpd (cols:List Sq.Col)(cv:Value)(t:Sq.Term)(w:World)(h:ColsAt w cv cols):Calls Tryz.prog 196 #[cv,.agg t.cells.toArray] w fun e w'=>e=.returned (.bool (Sq.isKeyT cols t))∧Below w.heap.size w w':=by
 obtain⟨tc,⟨tk,tn,tt⟩⟩:=t
 have HE:Hid (Sq.isKeyT cols ⟨tc,⟨tk,tn,tt⟩⟩=(!tc.toList.isEmpty && (Sq.find cols tc==0))):=rfl
 rw[HE.out]
 unfold Sq.Term.cells
 have hl:=h.2
 have H:=hd h
 have hW:∀o,Below w.heap.size w (w.alloc o):=fun o=>(Below.refl _ _).alloc (Nat.le_refl _) _
 have HW:=hd hW
 clear h hW
 cases h:tc.toList.isEmpty
 ·go_enter Tryz.func196,Tryz.ntmps196
  go_wp2_with (go_at_call 148;refine(jQaD cols _ tc _ (H.out.below (HW.out _)).1 hl).mono ?_;rintro e w' ⟨rfl,rfl⟩)
  go_ret
  exact⟨rfl,HW.out _⟩
 ·go_enter Tryz.func196,Tryz.ntmps196
  go_wp2
  go_ret
  exact⟨rfl,HW.out _⟩
end
section
open Go.RowKit
theorem jQaL {w:World}{b:Nat}{x y:Value}{t:TypeId}(h:w.heap[b]?=some (.cells #[x,y] t)):w.cell? ⟨b,0,none⟩=some x∧w.cell? ⟨b,1,none⟩=some y∧w.frozen? ⟨b,0,none⟩=false∧w.frozen? ⟨b,1,none⟩=false∧b < w.heap.size :=
 ⟨by rw[jQb h];rfl,by rw[jQb h];rfl,jQd h _,jQd h _,jQg h⟩
theorem jQib (w:World)(a b c:Obj):∃W,W=((w.alloc a).alloc b).alloc c∧Below w.heap.size w W∧W.heap[w.heap.size]?=some a∧W.heap[w.heap.size+1]?=some b∧W.heap[w.heap.size+1+1]?=some c:=by
 refine⟨_,rfl,?_,?_,?_,?_⟩
 ·exact(((Below.refl _ _).alloc (Nat.le_refl _) _).alloc (by simp) _).alloc (by simp;omega) _
 ·exact((((Below.refl (w.alloc a).heap.size (w.alloc a)).alloc (Nat.le_refl _) b).alloc (by simp) c).block w.heap.size (by simp)).trans (jQk _ _)
 ·have hs:(w.alloc a).heap.size=w.heap.size+1:=by simp
  rw[←hs]
  exact(((Below.refl ((w.alloc a).alloc b).heap.size ((w.alloc a).alloc b)).alloc (Nat.le_refl _) c).block _ (by simp)).trans (jQk _ _)
 ·have hs:((w.alloc a).alloc b).heap.size=w.heap.size+1+1:=by simp
  rw[←hs]
  exact jQk _ _
theorem jQhK (a b:Sq.Span)(w:World):Calls Tryz.prog 202 #[.agg (spanCells a),.agg (spanCells b)] w fun e w'=>e=.returned (.agg (spanCells (Sq.eitherS a b)))∧Below w.heap.size w w':=by
 obtain⟨al,ah⟩:=a
 obtain⟨bl,bh⟩:=b
 obtain⟨R,hR⟩:∃R,R=Sq.eitherS ⟨al,ah⟩ ⟨bl,bh⟩:=⟨_,rfl⟩
 rw[←hR]
 have HRe:=hd hR
 clear hR
 obtain⟨W,hW,hbW,k0,k1,k2⟩:=jQib w (.cells #[.int .i64 al,.int .i64 ah] 174) (.cells #[.int .i64 bl,.int .i64 bh] 174) (.cells #[.int .i64 0,.int .i64 0] 174)
 obtain⟨a0,a1,a2,a3,a4⟩:=jQaL k0
 obtain⟨b0,b1,b2,b3,b4⟩:=jQaL k1
 obtain⟨c0,c1,c2,c3,c4⟩:=jQaL k2
 have HW:=hd hbW
 have K0:=hd k0
 have K1:=hd k1
 have K2:=hd k2
 clear hbW k0 k1 k2
 unfold spanCells
 go_enter Tryz.func202,Tryz.ntmps202
 go_wp2_with fail
 rw[←hW]
 clear hW
 refine(jQdm ⟨al,ah⟩ W).mono ?_
 rintro e w1 ⟨rfl,hb1⟩
 obtain⟨d0,d1,d2,d3,d4⟩:=jQaL ((hb1.block _ a4).trans K0.out)
 obtain⟨e0,e1,e2,e3,e4⟩:=jQaL ((hb1.block _ b4).trans K1.out)
 obtain⟨f0,f1,f2,f3,f4⟩:=jQaL ((hb1.block _ c4).trans K2.out)
 have HB1:=hd (HW.out.trans (hb1.mono (by omega)))
 have HB1':=hd hb1
 clear hb1 a0 a1 a2 a3 b0 b1 b2 b3 c0 c1 c2 c3
 cases h1:Sq.hasKeys ⟨al,ah⟩
 ·have HE:Hid (R=⟨bl,bh⟩):=by show _=_;rw[HRe.out];unfold Sq.eitherS;rw[h1];rfl
  go_wp2
  refine bodyPost_ret (v:=.agg #[.int .i64 bl,.int .i64 bh]) (by simp[results,Tryz.results202,go_sem, *]) rfl ⟨by rw[HE.out] <;> rfl,?_⟩
  exact Below.setCell (B:=w.heap.size) (Below.setCell (B:=w.heap.size) HB1.out (by simp;omega) _) (by simp;omega) _
 ·go_wp2_with fail
  refine(jQdm ⟨bl,bh⟩ w1).mono ?_
  rintro e w2 ⟨rfl,hb2⟩
  obtain⟨g0,g1,g2,g3,g4⟩:=jQaL ((hb2.block _ d4).trans ((HB1'.out.block _ a4).trans K0.out))
  obtain⟨i0,i1,i2,i3,i4⟩:=jQaL ((hb2.block _ e4).trans ((HB1'.out.block _ b4).trans K1.out))
  obtain⟨j0,j1,j2,j3,j4⟩:=jQaL ((hb2.block _ f4).trans ((HB1'.out.block _ c4).trans K2.out))
  have HB2:=hd (HB1.out.trans (hb2.mono (by omega)))
  clear hb2 d0 d1 d2 d3 e0 e1 e2 e3 f0 f1 f2 f3
  cases h2:Sq.hasKeys ⟨bl,bh⟩
  ·have HE:Hid (R=⟨al,ah⟩):=by show _=_;rw[HRe.out];unfold Sq.eitherS;rw[h1,h2];rfl
   go_wp2
   refine bodyPost_ret (v:=.agg #[.int .i64 al,.int .i64 ah]) (by simp[results,Tryz.results202,go_sem, *]) rfl ⟨by rw[HE.out] <;> rfl,?_⟩
   exact Below.setCell (B:=w.heap.size) (Below.setCell (B:=w.heap.size) HB2.out (by simp;omega) _) (by simp;omega) _
  ·have HE:Hid (R=⟨if bl < al then bl else al,if ah < bh then bh else ah⟩):=by show _=_;rw[HRe.out];unfold Sq.eitherS;rw[h1,h2];rfl
   by_cases h3:bl < al
   ·have n3:decide (bl < al)=true:=by simpa using h3
    by_cases h4:ah < bh
    ·have n4:decide (ah < bh)=true:=by simpa using h4
     have HE2:Hid (R=⟨bl,bh⟩):=by show _=_;rw[HE.out,if_pos h3,if_pos h4]
     clear HE
     go_wp2
     refine bodyPost_ret (v:=.agg #[.int .i64 bl,.int .i64 bh]) (by simp[results,Tryz.results202,go_sem, *]) rfl ⟨by rw[HE2.out] <;> rfl,?_⟩
     repeat (first | exact HB2.out | refine Below.setCell (B:=w.heap.size) ?_ (by simp <;> omega) _)
    ·have n4:decide (ah < bh)=false:=by simpa using h4
     have HE2:Hid (R=⟨bl,ah⟩):=by show _=_;rw[HE.out,if_pos h3,if_neg h4]
     clear HE
     go_wp2
     refine bodyPost_ret (v:=.agg #[.int .i64 bl,.int .i64 ah]) (by simp[results,Tryz.results202,go_sem, *]) rfl ⟨by rw[HE2.out] <;> rfl,?_⟩
     repeat (first | exact HB2.out | refine Below.setCell (B:=w.heap.size) ?_ (by simp <;> omega) _)
   ·have n3:decide (bl < al)=false:=by simpa using h3
    by_cases h4:ah < bh
    ·have n4:decide (ah < bh)=true:=by simpa using h4
     have HE2:Hid (R=⟨al,bh⟩):=by show _=_;rw[HE.out,if_neg h3,if_pos h4]
     clear HE
     go_wp2
     refine bodyPost_ret (v:=.agg #[.int .i64 al,.int .i64 bh]) (by simp[results,Tryz.results202,go_sem, *]) rfl ⟨by rw[HE2.out] <;> rfl,?_⟩
     repeat (first | exact HB2.out | refine Below.setCell (B:=w.heap.size) ?_ (by simp <;> omega) _)
    ·have n4:decide (ah < bh)=false:=by simpa using h4
     have HE2:Hid (R=⟨al,ah⟩):=by show _=_;rw[HE.out,if_neg h3,if_neg h4]
     clear HE
     go_wp2
     refine bodyPost_ret (v:=.agg #[.int .i64 al,.int .i64 ah]) (by simp[results,Tryz.results202,go_sem, *]) rfl ⟨by rw[HE2.out] <;> rfl,?_⟩
     repeat (first | exact HB2.out | refine Below.setCell (B:=w.heap.size) ?_ (by simp <;> omega) _)
theorem jQeJ (op:ByteArray)(n:Int)(w:World)(h0:-100000000000≤n)(h1:n≤100000000000):Calls Tryz.prog 222 #[.string op,.int .i64 n] w fun e w'=>e=.returned (.agg (spanCells (Sq.keysThat op n)))∧Below w.heap.size w w':=by
 obtain⟨R,hR⟩:∃R,R=Sq.keysThat op n:=⟨_,rfl⟩
 rw[←hR]
 have HRe:=hd hR
 clear hR
 obtain⟨W,hW⟩:∃W,W=w.alloc (.cells #[.int .i64 0,.int .i64 0] 174):=⟨_,rfl⟩
 have hbW:Below w.heap.size w W:=by rw[hW];exact(Below.refl _ _).alloc (Nat.le_refl _) _
 have k0:W.heap[w.heap.size]?=some (.cells #[.int .i64 0,.int .i64 0] 174):=by rw[hW];exact jQk _ _
 have HW:=hd hbW
 have K0:=hd k0
 have hz:=jQg k0
 clear hbW k0
 go_enter Tryz.func222,Tryz.ntmps222
 go_wp2_with fail
 rw[←hW]
 clear hW
 refine(jQak W).mono ?_
 rintro e w1 ⟨rfl,hb1⟩
 obtain⟨d0,d1,d2,d3,d4⟩:=jQaL ((hb1.block _ hz).trans K0.out)
 have HB1:=hd (HW.out.trans (hb1.mono (by omega)))
 clear hb1
 unfold spanCells Sq.allKeys
 cases g1:op.toList==[61]
 ·cases g2:op.toList==[60]
  ·cases g3:op.toList==[60,61]
   ·cases g4:op.toList==[62]
    ·cases g5:op.toList==[62,61]
     ·have HE:Hid (R=⟨-2147483648,2147483647⟩):=by show _=_;rw[HRe.out];unfold Sq.keysThat;rw[g1,g2,g3,g4,g5];rfl
      go_wp2
      refine bodyPost_ret (v:=.agg #[.int .i64 (-2147483648),.int .i64 2147483647]) (by simp[results,Tryz.results222,go_sem, *]) rfl ⟨by rw[HE.out] <;> rfl,?_⟩
      repeat (first | exact HB1.out | refine Below.setCell (B:=w.heap.size) ?_ (by simp <;> omega) _ | refine Below.alloc (B:=w.heap.size) ?_ (by simp <;> omega) _)
     ·have HE:Hid (R=⟨n,2147483647⟩):=by show _=_;rw[HRe.out];unfold Sq.keysThat;rw[g1,g2,g3,g4,g5];rfl
      go_wp2
      refine bodyPost_ret (v:=.agg #[.int .i64 n,.int .i64 2147483647]) (by simp[results,Tryz.results222,go_sem, *]) rfl ⟨by rw[HE.out] <;> rfl,?_⟩
      repeat (first | exact HB1.out | refine Below.setCell (B:=w.heap.size) ?_ (by simp <;> omega) _ | refine Below.alloc (B:=w.heap.size) ?_ (by simp <;> omega) _)
    ·have HE:Hid (R=⟨n+1,2147483647⟩):=by show _=_;rw[HRe.out];unfold Sq.keysThat;rw[g1,g2,g3,g4];rfl
     go_wp2
     refine bodyPost_ret (v:=.agg #[.int .i64 (n+1),.int .i64 2147483647]) (by simp[results,Tryz.results222,go_sem, *]) rfl ⟨by rw[HE.out] <;> rfl,?_⟩
     repeat (first | exact HB1.out | refine Below.setCell (B:=w.heap.size) ?_ (by simp <;> omega) _ | refine Below.alloc (B:=w.heap.size) ?_ (by simp <;> omega) _)
   ·have HE:Hid (R=⟨-2147483648,n⟩):=by show _=_;rw[HRe.out];unfold Sq.keysThat;rw[g1,g2,g3];rfl
    go_wp2
    refine bodyPost_ret (v:=.agg #[.int .i64 (-2147483648),.int .i64 n]) (by simp[results,Tryz.results222,go_sem, *]) rfl ⟨by rw[HE.out] <;> rfl,?_⟩
    repeat (first | exact HB1.out | refine Below.setCell (B:=w.heap.size) ?_ (by simp <;> omega) _ | refine Below.alloc (B:=w.heap.size) ?_ (by simp <;> omega) _)
  ·have HE:Hid (R=⟨-2147483648,n - 1⟩):=by show _=_;rw[HRe.out];unfold Sq.keysThat;rw[g1,g2];rfl
   go_wp2
   refine bodyPost_ret (v:=.agg #[.int .i64 (-2147483648),.int .i64 (n - 1)]) (by simp[results,Tryz.results222,go_sem, *]) rfl ⟨by rw[HE.out] <;> rfl,?_⟩
   repeat (first | exact HB1.out | refine Below.setCell (B:=w.heap.size) ?_ (by simp <;> omega) _ | refine Below.alloc (B:=w.heap.size) ?_ (by simp <;> omega) _)
 ·have HE:Hid (R=⟨n,n⟩):=by show _=_;rw[HRe.out];unfold Sq.keysThat;rw[g1];rfl
  go_wp2
  refine bodyPost_ret (v:=.agg #[.int .i64 n,.int .i64 n]) (by simp[results,Tryz.results222,go_sem, *]) rfl ⟨by rw[HE.out] <;> rfl,?_⟩
  repeat (first | exact HB1.out | refine Below.setCell (B:=w.heap.size) ?_ (by simp <;> omega) _ | refine Below.alloc (B:=w.heap.size) ?_ (by simp <;> omega) _)
theorem jQJ {w:World}{b:Nat}{x y z u:Value}{t:TypeId}(h:w.heap[b]?=some (.cells #[x,y,z,u] t)):(w.cell? ⟨b,0,none⟩=some x∧w.cell? ⟨b,1,none⟩=some y∧w.cell? ⟨b,2,none⟩=some z∧w.cell? ⟨b,3,none⟩=some u)∧(w.frozen? ⟨b,0,none⟩=false∧w.frozen? ⟨b,1,none⟩=false∧w.frozen? ⟨b,2,none⟩=false∧w.frozen? ⟨b,3,none⟩=false)∧b < w.heap.size :=
 ⟨⟨by rw[jQb h];rfl,by rw[jQb h];rfl,by rw[jQb h];rfl,by rw[jQb h];rfl⟩,⟨jQd h _,jQd h _,jQd h _,jQd h _⟩,jQg h⟩
theorem jQiA (op:ByteArray)(n:Int)(w:World)(h0:-100000000000≤n)(h1:n≤100000000000):Calls Tryz.prog 198 #[.string op,.int .i64 n] w fun e w'=>e=.returned (.agg (sideCells (Sq.keySides op n)))∧Below w.heap.size w w':=by
 obtain⟨W,hW⟩:∃W,W=w.alloc (.cells #[.int .i64 0,.int .i64 0,.int .i64 0,.int .i64 0] 224):=⟨_,rfl⟩
 have hbW:Below w.heap.size w W:=by rw[hW];exact(Below.refl _ _).alloc (Nat.le_refl _) _
 have k0:W.heap[w.heap.size]?=some (.cells #[.int .i64 0,.int .i64 0,.int .i64 0,.int .i64 0] 224):=by rw[hW];exact jQk _ _
 have HW:=hd hbW
 have K0:=hd k0
 have hz:=jQg k0
 have HE:Hid (Sq.keySides op n=⟨Sq.keysThat op n,Sq.keysThat (Sq.contrary op) n⟩):=rfl
 rw[HE.out]
 have hc1:=fun w=>jQeJ op n w h0 h1
 have hc2:=fun w=>jQeJ (Sq.contrary op) n w h0 h1
 obtain⟨A,hA⟩:∃A,A=Sq.keysThat op n:=⟨_,rfl⟩
 obtain⟨B,hB⟩:∃A,A=Sq.keysThat (Sq.contrary op) n:=⟨_,rfl⟩
 rw[←hA] at hc1 ⊢
 rw[←hB] at hc2 ⊢
 have HC1:=hd hc1
 have HC2:=hd hc2
 obtain⟨al,ah⟩:=A
 obtain⟨bl,bh⟩:=B
 clear hbW k0 hc1 hc2 hA hB HE
 go_enter Tryz.func198,Tryz.ntmps198
 go_wp2_with fail
 rw[←hW]
 clear hW
 refine(HC1.out W).mono ?_
 rintro e w1 ⟨rfl,hb1⟩
 have HB1:=hd hb1
 clear hb1
 go_wp2_with fail
 refine(jQiI op w1).mono ?_
 rintro e w2 ⟨rfl,hw2⟩
 rw[hw2]
 clear hw2 w2
 go_wp2_with fail
 refine(HC2.out w1).mono ?_
 rintro e w2 ⟨rfl,hb2⟩
 have hb12:=HB1.out.trans (hb2.mono HB1.out.size)
 obtain⟨⟨d0,d1,d2,d3⟩,⟨e0,e1,e2,e3⟩,d4⟩:=jQJ ((hb12.block _ hz).trans K0.out)
 have HB2:=hd (HW.out.trans (hb12.mono (by omega)))
 clear hb2 hb12
 unfold spanCells
 go_wp2
 refine bodyPost_ret (v:=.agg #[.int .i64 al,.int .i64 ah,.int .i64 bl,.int .i64 bh]) (by simp[results,Tryz.results198,go_sem, *]) rfl ⟨rfl,?_⟩
 repeat (first | exact HB2.out | refine Below.setCell (B:=w.heap.size) ?_ (by simp <;> omega) _ | refine Below.alloc (B:=w.heap.size) ?_ (by simp <;> omega) _)
end
end Go.Proofs.YtahpihjialbanaaGreatDoor
