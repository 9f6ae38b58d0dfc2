import Derived.Test.YtahpihjialbanaaGreatDoorQah
import Derived.Test.YtahpihjialbanaaGreatDoorQai
set_option linter.unusedVariables false
set_option linter.unusedSimpArgs false
set_option maxRecDepth 100000
set_option maxHeartbeats 4000000
namespace Go.Proofs.YtahpihjialbanaaGreatDoor
section
open Go.RowKit
theorem box9 {w:World}{b:Nat}{t:TypeId}{x0 x1 x2 x3 x4 x5 x6 x7 x8:Value}(h:w.heap[b]?=some (.cells #[x0,x1,x2,x3,x4,x5,x6,x7,x8] t)) :
  (w.cell? ⟨b,0,none⟩=some x0∧w.cell? ⟨b,1,none⟩=some x1∧w.cell? ⟨b,2,none⟩=some x2∧w.cell? ⟨b,3,none⟩=some x3∧w.cell? ⟨b,4,none⟩=some x4∧w.cell? ⟨b,5,none⟩=some x5∧w.cell? ⟨b,6,none⟩=some x6∧w.cell? ⟨b,7,none⟩=some x7∧w.cell? ⟨b,8,none⟩=some x8)∧b < w.heap.size :=
 ⟨⟨by rw[jQb h];rfl,by rw[jQb h];rfl,by rw[jQb h];rfl,by rw[jQb h];rfl,by rw[jQb h];rfl,by rw[jQb h];rfl,by rw[jQb h];rfl,by rw[jQb h];rfl,by rw[jQb h];rfl⟩,jQg h⟩
theorem jQcK (w:World)(a b:Obj):∃W,W=(w.alloc a).alloc b∧Below w.heap.size w W∧W.heap[w.heap.size]?=some a∧W.heap[w.heap.size+1]?=some b:=by
 refine⟨_,rfl,((Below.refl _ _).alloc (Nat.le_refl _) _).alloc (by simp) _,?_,?_⟩
 ·exact(((Below.refl (w.alloc a).heap.size (w.alloc a)).alloc (Nat.le_refl _) b).block w.heap.size (by simp)).trans (jQk _ _)
 ·rw[←jQo w a]
  exact jQk _ _
theorem jQkw (cols:List Sq.Col)(cv:Value)(s:Sq.StepS)(w:World)(h:ColsAt w cv cols)(hl0:-100000000000≤s.left.lit.number)(hl1:s.left.lit.number≤100000000000)(hr0:-100000000000≤s.right.lit.number)(hr1:s.right.lit.number≤100000000000) :
  Calls Tryz.prog 154 #[cv,.agg s.cells.toArray] w fun e w'=>e=.returned (.agg (sideCells (Sq.sidesOf cols s)))∧Below w.heap.size w w':=by
 obtain⟨op,⟨lc,⟨lk,ln,lt⟩⟩,⟨rc,⟨rk,rn,rt⟩⟩⟩:=s
 simp only at hl0 hl1 hr0 hr1
 obtain⟨R,hR⟩:∃R,R=Sq.sidesOf cols ⟨op,⟨lc,⟨lk,ln,lt⟩⟩,⟨rc,⟨rk,rn,rt⟩⟩⟩:=⟨_,rfl⟩
 rw[←hR]
 have HRe:=hd hR
 have H:=hd h
 have hks:=fun o n w h0 h1=>jQiA o n w h0 h1
 have hik:=fun t w hc=>jQpd cols cv t w hc
 unfold Sq.StepS.cells
 simp only
 obtain⟨W,hW,hbW,k0,k1⟩:=jQcK w (.cells #[.string op,.string lc,.int .i64 lk,.int .i64 ln,.string lt,.string rc,.int .i64 rk,.int .i64 rn,.string rt] 217) (.cells #[.int .i64 0,.int .i64 0,.int .i64 0,.int .i64 0] 224)
 obtain⟨⟨a0,a1,a2,a3,a4,a5,a6,a7,a8⟩,a9⟩:=box9 k0
 have HBX:Hid (∀w',Below W.heap.size W w'→w'.heap[w.heap.size]?=some (.cells #[.string op,.string lc,.int .i64 lk,.int .i64 ln,.string lt,.string rc,.int .i64 rk,.int .i64 rn,.string rt] 217)∧w'.heap[w.heap.size+1]?=some (.cells #[.int .i64 0,.int .i64 0,.int .i64 0,.int .i64 0] 224)):=fun w' hb=>⟨(hb.block _ (jQg k0)).trans k0,(hb.block _ (jQg k1)).trans k1⟩
 have HW:=hd hbW
 clear hR h k0 k1 hbW
 have HKS:=hd hks
 have HIK:=hd hik
 clear hks hik
 go_enter Tryz.func154,Tryz.ntmps154
 go_wp2_with fail
 rw[←hW]
 clear hW
 refine(HIK.out ⟨lc,⟨lk,ln,lt⟩⟩ W (H.out.below HW.out)).mono ?_
 rintro e w1 ⟨rfl,hb1⟩
 obtain⟨x0,x1⟩:=HBX.out w1 hb1
 obtain⟨⟨b0,b1,b2,b3,b4,b5,b6,b7,b8⟩,b9⟩:=box9 x0
 obtain⟨⟨d0,d1,d2,d3⟩,⟨e0,e1,e2,e3⟩,d4⟩:=jQJ x1
 have HB1:=hd hb1
 have HS:Hid (R=if Sq.isKeyT cols ⟨lc,⟨lk,ln,lt⟩⟩ && Sq.isNumT ⟨rc,⟨rk,rn,rt⟩⟩ then Sq.keySides op rn else if Sq.isNumT ⟨lc,⟨lk,ln,lt⟩⟩ && Sq.isKeyT cols ⟨rc,⟨rk,rn,rt⟩⟩ then Sq.keySides (Sq.mirrored op) ln else Sq.allSides):=HRe.out
 clear hb1 a0 a1 a2 a3 a4 a5 a6 a7 a8 x0 x1 HRe
 have tail:∀w2,Below W.heap.size W w2→(Sq.isKeyT cols ⟨lc,⟨lk,ln,lt⟩⟩ && Sq.isNumT ⟨rc,⟨rk,rn,rt⟩⟩)=false→True:=fun _ _ _=>trivial
 clear tail
 cases q1:Sq.isKeyT cols ⟨lc,⟨lk,ln,lt⟩⟩
 ·have HS2:Hid (R=if Sq.isNumT ⟨lc,⟨lk,ln,lt⟩⟩ && Sq.isKeyT cols ⟨rc,⟨rk,rn,rt⟩⟩ then Sq.keySides (Sq.mirrored op) ln else Sq.allSides):=by show _=_;rw[HS.out,q1];rfl
  clear HS
  go_wp2_with fail
  refine(jQcy ⟨lc,⟨lk,ln,lt⟩⟩ w1).mono ?_
  rintro e w2 ⟨rfl,hb2⟩
  have hb12:=HB1.out.trans (hb2.mono HB1.out.size)
  obtain⟨x0,x1⟩:=HBX.out w2 hb12
  obtain⟨⟨f0,f1,f2,f3,f4,f5,f6,f7,f8⟩,f9⟩:=box9 x0
  obtain⟨⟨g0,g1,g2,g3⟩,⟨i0,i1,i2,i3⟩,g4⟩:=jQJ x1
  have HB2:=hd hb12
  clear hb2 hb12 b0 b1 b2 b3 b4 b5 b6 b7 b8 x0 x1 d0 d1 d2 d3 e0 e1 e2 e3
  cases q2:Sq.isNumT ⟨lc,⟨lk,ln,lt⟩⟩
  ·have HS3:Hid (R=Sq.allSides):=by show _=_;rw[HS2.out,q2];rfl
   go_wp2_with fail
   refine(jQak w2).mono ?_
   rintro e w3 ⟨rfl,hb3⟩
   have HB3:=hd (HB2.out.trans (hb3.mono HB2.out.size))
   clear hb3
   go_wp2_with fail
   refine(jQak w3).mono ?_
   rintro e w4 ⟨rfl,hb4⟩
   have hb5:=HB3.out.trans (hb4.mono HB3.out.size)
   obtain⟨⟨j0,j1,j2,j3⟩,⟨l0,l1,l2,l3⟩,j4⟩:=jQJ (HBX.out w4 hb5).2
   have HB5:=hd (HW.out.trans (hb5.mono (by omega)))
   clear hb4 hb5
   unfold spanCells Sq.allKeys
   go_wp2
   refine bodyPost_ret (v:=.agg (sideCells Sq.allSides)) (by simp[results,Tryz.results154,go_sem,sideCells,Sq.allSides,Sq.allKeys, *]) rfl ⟨by rw[HS3.out],?_⟩
   repeat (first | exact HB5.out | refine Below.setCell (B:=w.heap.size) ?_ (by simp <;> omega) _ | refine Below.alloc (B:=w.heap.size) ?_ (by simp <;> omega) _)
  ·go_wp2_with fail
   refine(HIK.out ⟨rc,⟨rk,rn,rt⟩⟩ w2 (H.out.below (HW.out.trans (HB2.out.mono (by omega))))).mono ?_
   rintro e w3 ⟨rfl,hb3⟩
   have hb13:=HB2.out.trans (hb3.mono HB2.out.size)
   obtain⟨x0,x1⟩:=HBX.out w3 hb13
   obtain⟨⟨m0,m1,m2,m3,m4,m5,m6,m7,m8⟩,m9⟩:=box9 x0
   have HB3:=hd hb13
   clear hb3 hb13 f0 f1 f2 f3 f4 f5 f6 f7 f8 x0 x1 g0 g1 g2 g3 i0 i1 i2 i3
   cases q3:Sq.isKeyT cols ⟨rc,⟨rk,rn,rt⟩⟩
   ·have HS3:Hid (R=Sq.allSides):=by show _=_;rw[HS2.out,q2,q3];rfl
    go_wp2_with fail
    refine(jQak w3).mono ?_
    rintro e w4 ⟨rfl,hb4⟩
    have HB4:=hd (HB3.out.trans (hb4.mono HB3.out.size))
    clear hb4
    go_wp2_with fail
    refine(jQak w4).mono ?_
    rintro e w5 ⟨rfl,hb5⟩
    have hb6:=HB4.out.trans (hb5.mono HB4.out.size)
    obtain⟨⟨j0,j1,j2,j3⟩,⟨l0,l1,l2,l3⟩,j4⟩:=jQJ (HBX.out w5 hb6).2
    have HB6:=hd (HW.out.trans (hb6.mono (by omega)))
    clear hb5 hb6
    unfold spanCells Sq.allKeys
    go_wp2
    refine bodyPost_ret (v:=.agg (sideCells Sq.allSides)) (by simp[results,Tryz.results154,go_sem,sideCells,Sq.allSides,Sq.allKeys, *]) rfl ⟨by rw[HS3.out],?_⟩
    repeat (first | exact HB6.out | refine Below.setCell (B:=w.heap.size) ?_ (by simp <;> omega) _ | refine Below.alloc (B:=w.heap.size) ?_ (by simp <;> omega) _)
   ·have HS3:Hid (R=Sq.keySides (Sq.mirrored op) ln):=by show _=_;rw[HS2.out,q2,q3];rfl
    obtain⟨⟨rl,rh⟩,⟨nl,nh⟩⟩:=R
    go_wp2
    go_region_with (first
     | (go_at_call 199;refine(jQiv op _).mono ?_;rintro e w4 ⟨rfl,hw4⟩;rw[hw4];clear hw4 w4)
     | (go_at_call 198;refine(HKS.out (Sq.mirrored op) ln _ hl0 hl1).mono ?_;rintro e w5 ⟨rfl,hb5⟩;rw[←HS3.out];have hb6:Below W.heap.size W w5:=HB3.out.trans (((Below.drew (Below.refl w3.heap.size w3)).trans hb5).mono HB3.out.size);obtain⟨⟨j0,j1,j2,j3⟩,⟨l0,l1,l2,l3⟩,j4⟩:=jQJ (HBX.out w5 hb6).2;have HB6:=hd (HW.out.trans (hb6.mono (by omega)));clear hb5 hb6;unfold sideCells))
    all_goals(try go_wp2)
    all_goals
     refine bodyPost_ret (v:=.agg #[.int .i64 rl,.int .i64 rh,.int .i64 nl,.int .i64 nh]) (by simp[results,Tryz.results154,go_sem, *]) rfl ⟨rfl,?_⟩
     repeat (first | exact HB6.out | refine Below.setCell (B:=w.heap.size) ?_ (by simp <;> omega) _ | refine Below.alloc (B:=w.heap.size) ?_ (by simp <;> omega) _)
 ·go_wp2_with fail
  refine(jQcy ⟨rc,⟨rk,rn,rt⟩⟩ w1).mono ?_
  rintro e w2 ⟨rfl,hb2⟩
  have hb12:=HB1.out.trans (hb2.mono HB1.out.size)
  obtain⟨x0,x1⟩:=HBX.out w2 hb12
  obtain⟨⟨f0,f1,f2,f3,f4,f5,f6,f7,f8⟩,f9⟩:=box9 x0
  obtain⟨⟨g0,g1,g2,g3⟩,⟨i0,i1,i2,i3⟩,g4⟩:=jQJ x1
  have HB2:=hd hb12
  clear hb2 hb12 b0 b1 b2 b3 b4 b5 b6 b7 b8 x0 x1 d0 d1 d2 d3 e0 e1 e2 e3
  cases q2:Sq.isNumT ⟨rc,⟨rk,rn,rt⟩⟩
  ·have hln:Sq.isNumT ⟨lc,⟨lk,ln,lt⟩⟩=false:=by
    have h1:(!lc.toList.isEmpty && (Sq.find cols lc==0))=true:=q1
    show(lc.toList.isEmpty && (lk==0))=false
    cases hle:lc.toList.isEmpty
    ·rfl
    ·rw[hle] at h1;simp at h1
   have HS3:Hid (R=Sq.allSides):=by show _=_;rw[HS.out,q1,q2,hln];rfl
   go_wp2_with fail
   refine(jQcy ⟨lc,⟨lk,ln,lt⟩⟩ w2).mono ?_
   rintro e w3 ⟨rfl,hb3⟩
   rw[hln]
   have HB3:=hd (HB2.out.trans (hb3.mono HB2.out.size))
   clear hb3
   go_wp2_with fail
   refine(jQak w3).mono ?_
   rintro e w4 ⟨rfl,hb4⟩
   have HB4:=hd (HB3.out.trans (hb4.mono HB3.out.size))
   clear hb4
   go_wp2_with fail
   refine(jQak w4).mono ?_
   rintro e w5 ⟨rfl,hb5⟩
   have hb6:=HB4.out.trans (hb5.mono HB4.out.size)
   obtain⟨⟨j0,j1,j2,j3⟩,⟨l0,l1,l2,l3⟩,j4⟩:=jQJ (HBX.out w5 hb6).2
   have HB6:=hd (HW.out.trans (hb6.mono (by omega)))
   clear hb5 hb6
   unfold spanCells Sq.allKeys
   go_wp2
   refine bodyPost_ret (v:=.agg (sideCells Sq.allSides)) (by simp[results,Tryz.results154,go_sem,sideCells,Sq.allSides,Sq.allKeys, *]) rfl ⟨by rw[HS3.out],?_⟩
   repeat (first | exact HB6.out | refine Below.setCell (B:=w.heap.size) ?_ (by simp <;> omega) _ | refine Below.alloc (B:=w.heap.size) ?_ (by simp <;> omega) _)
  ·have HS3:Hid (R=Sq.keySides op rn):=by show _=_;rw[HS.out,q1,q2];rfl
   obtain⟨⟨rl,rh⟩,⟨nl,nh⟩⟩:=R
   go_wp2_with fail
   refine(HKS.out op rn w2 hr0 hr1).mono ?_
   rintro e w3 ⟨rfl,hb3⟩
   rw[←HS3.out]
   have hb6:=HB2.out.trans (hb3.mono HB2.out.size)
   obtain⟨⟨j0,j1,j2,j3⟩,⟨l0,l1,l2,l3⟩,j4⟩:=jQJ (HBX.out w3 hb6).2
   have HB6:=hd (HW.out.trans (hb6.mono (by omega)))
   clear hb3 hb6
   unfold sideCells
   go_wp2
   refine bodyPost_ret (v:=.agg #[.int .i64 rl,.int .i64 rh,.int .i64 nl,.int .i64 nh]) (by simp[results,Tryz.results154,go_sem, *]) rfl ⟨rfl,?_⟩
   repeat (first | exact HB6.out | refine Below.setCell (B:=w.heap.size) ?_ (by simp <;> omega) _ | refine Below.alloc (B:=w.heap.size) ?_ (by simp <;> omega) _)
end
section
open Go.RowKit
def out0:Array Value:=#[.string ⟨#[]⟩,.bool false,.int .i64 0,.string ⟨#[]⟩,.slice none 0 0,.slice none 0 0,.slice none 0 0]
theorem jQaB (w:World)(o:Obj):(w.alloc o).heap[w.heap.size]?=some o:=by show(w.heap.push o)[w.heap.size]?=some o;simp
theorem jQax {w:World}{k:Nat}(h:k < w.heap.size)(o:Obj):(w.alloc o).heap[k]?=w.heap[k]?:=by show(w.heap.push o)[k]?=w.heap[k]?;rw[Array.getElem?_push,if_neg (Nat.ne_of_lt h)]
theorem jQK {w:World}{b:Nat}(h:w.heap[b]?=some (.cells out0 98)) :
  w.cell? ⟨b,0,none⟩=some (.string ⟨#[]⟩)∧w.cell? ⟨b,1,none⟩=some (.bool false)∧w.cell? ⟨b,2,none⟩=some (.int .i64 0)∧w.cell? ⟨b,3,none⟩=some (.string ⟨#[]⟩)∧w.cell? ⟨b,4,none⟩=some (.slice none 0 0)∧w.cell? ⟨b,5,none⟩=some (.slice none 0 0)∧w.cell? ⟨b,6,none⟩=some (.slice none 0 0) :=
 ⟨by rw[jQb h];rfl,by rw[jQb h];rfl,by rw[jQb h];rfl,by rw[jQb h];rfl,by rw[jQb h];rfl,by rw[jQb h];rfl,by rw[jQb h];rfl⟩
theorem jQw {w:World}{b:Nat}(h:w.heap[b]?=some (.cells out0 98)) :
  w.frozen? ⟨b,0,none⟩=false∧w.frozen? ⟨b,1,none⟩=false∧w.frozen? ⟨b,2,none⟩=false∧w.frozen? ⟨b,3,none⟩=false∧w.frozen? ⟨b,4,none⟩=false∧w.frozen? ⟨b,5,none⟩=false∧w.frozen? ⟨b,6,none⟩=false :=
 ⟨jQd h _,jQd h _,jQd h _,jQd h _,jQd h _,jQd h _,jQd h _⟩
theorem jQbk {w w':World}{rb B:Nat}{e e':TypeId}{size:Nat}{v:Value}{n:Nat}{xs:List Value}{c:Array Value}{fr:Nat×Nat}(h:w.ownsRow B e size v n xs)(hb:w.heap[rb]?=some (.cells c e' fr))(hne:e≠e')(ho:∀g,g≠rb→w'.heap[g]?=w.heap[g]?):w'.ownsRow B e size v n xs :=
 jQn h fun g hg=>ho g fun e=>jQl h hb hne (e ▸ hg)
theorem RowAt.out {w w':World}{rb:Nat}{v:Value}{row:List Sq.Val}{e':TypeId}{c:Array Value}{fr:Nat×Nat}(h:RowAt w v row)(hb:w.heap[rb]?=some (.cells c e' fr))(hne:208≠e')(ho:∀g,g≠rb→w'.heap[g]?=w.heap[g]?):RowAt w' v row:=⟨jQbk h.1 hb hne ho,h.2⟩
theorem RowsOwn.out {w w':World}{rb B:Nat}{v:Value}{rows:List (List Sq.Val)}{e':TypeId}{c:Array Value}{fr:Nat×Nat}(h:RowsOwn B w v rows)(hb:w.heap[rb]?=some (.cells c e' fr))(h1:208≠e')(h2:138≠e')(ho:∀g,g≠rb→w'.heap[g]?=w.heap[g]?):RowsOwn B w' v rows:=by
 obtain⟨rvs,h3,h4⟩:=h
 exact⟨rvs,jQbk h3 hb h2 ho,fun i row hi=>let ⟨rv,h5,h6⟩:=h4 i row hi;⟨rv,h5,h6.out hb h1 ho⟩⟩
theorem ColsAt.out {w w':World}{rb:Nat}{v:Value}{l:List Sq.Col}{e':TypeId}{c:Array Value}{fr:Nat×Nat}(h:ColsAt w v l)(hb:w.heap[rb]?=some (.cells c e' fr))(hne:205≠e')(ho:∀g,g≠rb→w'.heap[g]?=w.heap[g]?):ColsAt w' v l:=⟨jQbk h.1 hb hne ho,h.2⟩
def OutPost (w:World)(o:Sq.OutR)(e:Ending)(w':World):Prop:=∃cv pv kv,e=.returned (.agg (outCells o cv pv kv))∧OutAt w' o cv pv kv∧Below w.heap.size w w'
theorem Tryz.infoI64:(Tryz.prog.info? 2).map (fun i=>(i.zero,i.size,i.bytes))=some (some (.int .i64 0),1,8):=by kernel_rfl
theorem jQo5 (rows:List (List Sq.Val))(k:Nat)(h:k < rows.length):(rows.take (k+1)).map Sq.keyOf=(rows.take k).map Sq.keyOf++[Sq.keyOf rows[k]]:=by
 rw[List.take_succ_eq_append_getElem h,List.map_append];rfl
theorem tab3 {w:World}{b:Nat}{a0 a1 a2:Value}(h:w.heap[b]?=some (.cells #[a0,a1,a2] 94)):w.cell? ⟨b,0,none⟩=some a0∧w.cell? ⟨b,1,none⟩=some a1∧w.cell? ⟨b,2,none⟩=some a2∧w.frozen? ⟨b,0,none⟩=false∧w.frozen? ⟨b,1,none⟩=false∧w.frozen? ⟨b,2,none⟩=false :=
 ⟨by rw[jQb h];rfl,by rw[jQb h];rfl,by rw[jQb h];rfl,jQd h _,jQd h _,jQd h _⟩
theorem jQmd (t:Sq.TabN)(tv:Value)(rows:List (List Sq.Val))(rv:Value)(w:World)(htc:ColsAt w tv t.cols)(h:RowsOwn 0 w rv rows)(hT:Tbl w)(hn:rows.length≤1000) :
  Calls Tryz.prog 78 #[.agg #[.int .i64 t.number,.string t.name,tv],rv] w (OutPost w (Sq.removeR t rows)):=by
 obtain⟨i0,hi,hz0,hz1,hz2⟩:=info_parts Tryz.infoI64
 obtain⟨vo,vc,rfl⟩:=h.slice
 obtain⟨to',tcap,rfl⟩:=jQa htc.1
 obtain⟨tn,tnm,cols⟩:=t
 simp only at htc ⊢
 have HE2:Hid (Sq.removeR ⟨tn,tnm,cols⟩ rows=⟨Sq.counted rows.length,false,⟨tn,tnm,cols⟩,[],rows.map Sq.keyOf⟩):=rfl
 have HT:=hd hT
 obtain⟨w1,hw1,hbw,hbox,hblk⟩:=jQcK w (.cells #[.int .i64 tn,.string tnm,.slice to' cols.length tcap] 94) (.cells out0 98)
 have hz:=jQg hblk
 have HRO:=hd (h.below hbw)
 have HTC:=hd htc
 have HBLK:=hd hblk
 have HBOX:=hd hbox
 clear h hT hblk hbox htc
 go_enter Tryz.func78,Tryz.ntmps78
 go_wp2
 rw[show(w.alloc (.cells #[.int .i64 tn,.string tnm,.slice to' cols.length tcap] 94)).alloc (.cells #[.string ⟨#[]⟩,.bool false,.int .i64 0,.string ⟨#[]⟩,.slice none 0 0,.slice none 0 0,.slice none 0 0] 98)=w1 from hw1.symm]
 clear hw1
 go_loopw [5,6] (fun v i wr=>∃k:Nat,k≤rows.length∧i=.int .i64 k∧wr.ownsRow w1.heap.size 2 1 v k (((rows.take k).map Sq.keyOf).map (Value.int .i64))∧Below w1.heap.size w1 wr) (fun _ i _=>rows.length - (intOf i).toNat)
 case atStart=>exact⟨0,Nat.zero_le _,rfl,World.ownsRow_nil _ _ _ _,Below.refl _ _⟩
 case round =>
  obtain⟨k,hk,rfl,hown,hb⟩:=hrel
  obtain⟨xo,xc,rfl⟩:=jQa hown
  have hzw:=hb.size
  have HB:=hd hb
  have HO:=hd hown
  clear hb hown
  by_cases hlt:k < rows.length
  ·obtain⟨g,cap',ra,rc,hv,hg,c0,hrow⟩:=(HRO.out.below HB.out).at k hlt
   simp only[Value.slice.injEq] at hv
   obtain⟨rfl,-,rfl⟩:=hv
   have HKT:=hd (jQo5 rows k hlt)
   obtain⟨row,hrw⟩:∃x,x=rows[k]:=⟨_,rfl⟩
   have hkt:=HKT.out
   rw[←hrw] at hkt c0 hrow
   have HKT2:=hd hkt
   have HROW:=hd hrow
   clear hkt hrow HKT hrw
   obtain⟨kx,hkx⟩:∃y,y=Sq.keyOf row:=⟨_,rfl⟩
   have HKX:=hd hkx
   clear hkx
   go_wp2_with (first | (go_at_call 115;refine(jQn0 row _ _ HROW.out).mono ?_;rintro e w2 ⟨rfl,hb2⟩;rw[←HKX.out];have HB2:=hd hb2;have hz2':=hb2.size;have HO2:=hd ((jQh HO.out hb2).alloc (.cells #[.int .i64 kx] 2));clear hb2) | (at_builtin;refine wpList_append_lies _ rfl (.tmp 13) (.tmp 19) 96 rfl w1.heap.size 2 i0 _ 1 8 Tryz.underlying96 hi hz0 hz1 hz2 rfl (by decide) _ k _ rfl HO2.out ⟨w2.heap.size,0,none⟩ 1 1 [.int .i64 kx] rfl rfl (by exact jQB w2 _ _ _ rfl rfl) (by intro u hu;simp at hu;subst hu;rfl) (by decide) (by unfold maxLen;omega) (by omega) (by simp;omega) _ rfl ?_;intro gg cap3 w3 hown3 hgrow3 hat3 hlt3;have HO3:=hd hown3;have HG3:=hd hgrow3;clear hown3 hgrow3 hat3))
   have hbel:Below w1.heap.size w1 w3:=(Below.alloc (B:=w1.heap.size) (HB.out.trans (HB2.out.mono hzw)) (by omega) _).trans (Tch.of_grown HG3.out (fun k hk=>(HO2.out.lt k hk).1) (by simp;omega))
   go_roundw
   case rel=>exact⟨k+1,by omega,by go_num,by rw[HKT2.out,←HKX.out,List.map_append];exact HO3.out,hbel⟩
   case measure=>simp[intOf];omega
  ·have hkk:k=rows.length:=by omega
   have hkl:rows.take k=rows:=List.take_of_length_le (by omega)
   have ho:=HO.out
   rw[hkl] at ho
   have HO2:=hd ho
   obtain⟨wo,rfl⟩:∃wo:World,wo=wr:=⟨_,rfl⟩
   have hblk2:=(HB.out.block (w.heap.size+1) (by omega)).trans HBLK.out
   have hbox2:=(HB.out.block (w.heap.size) (by omega)).trans HBOX.out
   obtain⟨q0,q1,q2,-,-,-⟩:=tab3 hbox2
   have HBLK2:=hd hblk2
   have HBOX2:=hd hbox2
   have hbw2:Below w.heap.size w wo:=hbw.trans (HB.out.mono (by omega))
   have HBW2:=hd hbw2
   have HKK:=hd hkk
   have hzA:w.heap.size < wo.heap.size:=by omega
   clear hkl ho HO hblk2 hbw2 hkk hbox2
   go_wp2
   go_region_with (go_at_call 109;refine(jQaT k _ (by omega) (by omega) (HT.out.below HBW2.out.drew)).mono ?_;rintro e w3 ⟨rfl,hb3⟩;have hb3':Below wo.heap.size wo w3:=(Below.drew (Below.refl _ _)).trans hb3;have hblk3:=(hb3'.block (w.heap.size+1) (by omega)).trans HBLK2.out;obtain⟨d0,d1,d2,d3,d4,d5,d6⟩:=jQK hblk3;obtain⟨f0,f1,f2,f3,f4,f5,f6⟩:=jQw hblk3;obtain⟨p0,p1,p2,-,-,-⟩:=tab3 ((hb3'.block w.heap.size hzA).trans HBOX2.out);have hz3:=hb3'.size;have HB3:=hd hb3';have HBLK3:=hd hblk3;have hz4:w.heap.size+1 < w3.heap.size:=(by omega);have hz5:w.heap.size < w3.heap.size:=(by omega);clear hb3 hb3' hblk3)
   all_goals(try go_wp2)
   all_goals
    refine bodyPost_ret (v:=.agg (outCells (Sq.removeR ⟨tn,tnm,cols⟩ rows) (.slice to' cols.length tcap) (.slice none 0 0) (.slice xo k xc))) (by rw[HE2.out,←HKK.out];simp[results,Tryz.results78,go_sem,outCells,Sq.nobytes, *]) rfl ⟨_,_,_,rfl,?_,?_⟩
    ·rw[HE2.out]
     refine⟨ColsAt.out ((HTC.out.below HBW2.out).below HB3.out) HBLK3.out (by decide) (fun g hg=>jQq _ _ _ _ _ _ _ _ _ hg),RowsOwn.nil _ _,?_,by simp,by simp;omega⟩
     show World.ownsRow _ 0 2 1 _ (rows.map Sq.keyOf).length _
     rw[List.length_map,←HKK.out]
     exact jQi (jQbk (jQh HO2.out HB3.out) HBLK3.out (by decide) (fun g hg=>jQq _ _ _ _ _ _ _ _ _ hg)) (Nat.zero_le _)
    ·exact jQA (HBW2.out.trans (HB3.out.mono (by omega))) (by omega) _ _ _ _ _ _ _
end
end Go.Proofs.YtahpihjialbanaaGreatDoor
