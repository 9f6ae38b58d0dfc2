import Derived.Test.YtahpihjialbanaaGreatDoorQah
set_option linter.unusedVariables false
set_option linter.unusedSimpArgs false
set_option maxRecDepth 100000
set_option maxHeartbeats 1000000
namespace Go.Proofs.YtahpihjialbanaaGreatDoor
section
open Go.RowKit
def RowAt (w:World)(v:Value)(row:List Sq.Val):Prop:=w.ownsRow 0 208 3 v row.length (row.flatMap Sq.Val.cells)/\row.length<=100000
theorem RowAt.below {w w':World}{v:Value}{l:List Sq.Val}(h:RowAt w v l)(hb:Below w.heap.size w w'):RowAt w' v l:=⟨jQh h.1 hb,h.2⟩
theorem jQbd (row:List Sq.Val)(rv:Value)(k:Int)(w:World)(hr:RowAt w rv row) :
  Calls Tryz.prog 165 #[.agg #[rv],.int .i64 k] w fun e w'=>e=.returned (.agg (Sq.cellNo row k).cells.toArray)/\Below w.heap.size w w':=by
 obtain⟨ao,cap,rfl⟩:=jQa hr.1;have ha:=hr.2;have HR:=hd hr;have hW:∀o o2,Below w.heap.size w ((w.alloc o).alloc o2):=fun o o2=>((bR).alloc (nR) _).alloc (by simp) _
 have HW:=hd hW;clear hr hW
 by_cases hk0:k<0
 ·have HE:Hid (Sq.cellNo row k=Sq.val0):=by show _=_;unfold Sq.cellNo;rw[if_pos hk0]
  go_enter Tryz.func165,Tryz.ntmps165;go_wp2;exact bodyPost_ret (v:=.agg #[.int .i64 0,.int .i64 0,.string ⟨#[]⟩]) (by simp[results,Tryz.results165,go_sem]) rfl ⟨by rw[HE.o];rfl,HW.o _ _⟩
 ·obtain⟨k,rfl⟩:∃n:Nat,k=n:=⟨k.toNat,by omega⟩;have i0:¬((k:Int)<0):=by omega
  by_cases hkr:k<row.length
  ·have HE:Hid (Sq.cellNo row k=row[k]):=by show _=_;unfold Sq.cellNo;rw[if_neg (by omega),Int.toNat_natCast,List.getElem?_eq_getElem hkr];rfl
   obtain⟨g,cap',hv,hg,hc⟩:=sl_at (f:=Sq.Val.cells) (fun _=>rfl) HR.o.1 k hkr;simp only[Value.slice.injEq] at hv;obtain⟨rfl,-,rfl⟩:=hv;have c0:=hc 0 (.int .i64 row[k].kind) (by decide) rfl;have c1:=hc 1 (.int .i64 row[k].number) (by decide) rfl;have c2:=hc 2 (.string row[k].text) (by decide) rfl;simp only[Nat.add_zero] at c0;have i1:¬((row.length:Int)<=(k:Int)):=by omega
   clear hc;go_enter Tryz.func165,Tryz.ntmps165;go_wp2;exact bodyPost_ret (v:=.agg #[.int .i64 row[k].kind,.int .i64 row[k].number,.string row[k].text]) (by simp[results,Tryz.results165,go_sem]) rfl ⟨by rw[HE.o];rfl,HW.o _ _⟩
  ·have HE:Hid (Sq.cellNo row k=Sq.val0):=by show _=_;unfold Sq.cellNo;rw[if_neg (by omega),Int.toNat_natCast,List.getElem?_eq_none (by omega)];rfl
   have i1:(row.length:Int)<=(k:Int):=by omega
   go_enter Tryz.func165,Tryz.ntmps165;go_wp2;exact bodyPost_ret (v:=.agg #[.int .i64 0,.int .i64 0,.string ⟨#[]⟩]) (by simp[results,Tryz.results165,go_sem]) rfl ⟨by rw[HE.o];rfl,HW.o _ _⟩
theorem jQbO (cols:List Sq.Col)(row:List Sq.Val)(cv rv:Value)(t:Sq.Term)(w:World)(h:ColsAt w cv cols)(hr:RowAt w rv row) :
  Calls Tryz.prog 205 #[cv,.agg #[rv],.agg t.cells.toArray] w fun e w'=>e=.returned (.agg (Sq.valueOf cols row t).cells.toArray)/\Below w.heap.size w w':=by
 obtain⟨ao,cap,rfl⟩:=jQa hr.1;obtain⟨tc,⟨tk,tn,tt⟩⟩:=t;unfold Sq.Term.cells;have H:=hd h;have HR:=hd hr;have hW:∀o o2 o3,Below w.heap.size w (((w.alloc o).alloc o2).alloc o3):=fun o o2 o3=>(((bR).alloc (nR) _).alloc (by simp) _).alloc (by simp;omega) _
 have HW:=hd hW;clear h hr hW;cases he:tc.toList.isEmpty
 case true =>
  have HE:Hid (Sq.valueOf cols row ⟨tc,⟨tk,tn,tt⟩⟩=⟨tk,tn,tt⟩):=by show _=_;unfold Sq.valueOf;simp only;rw[he];rfl
  go_enter Tryz.func205,Tryz.ntmps205;go_wp2;exact bodyPost_ret (v:=.agg #[.int .i64 tk,.int .i64 tn,.string tt]) (by simp[results,Tryz.results205,go_sem]) rfl ⟨by rw[HE.o];rfl,HW.o _ _ _⟩
 case false =>
  have HE:Hid (Sq.valueOf cols row ⟨tc,⟨tk,tn,tt⟩⟩=Sq.cellOf cols row tc):=by show _=_;unfold Sq.valueOf;simp only;rw[he];rfl
  obtain⟨x,hx⟩:∃x,x=Sq.cellOf cols row tc:=⟨_,rfl⟩;have HX:=hd hx;clear hx;have hl:=H.o.2;have hj:Sq.cellOf cols row tc=Sq.cellNo row (Sq.find cols tc):=rfl;have hn:=hd hj;clear hj;go_enter Tryz.func205,Tryz.ntmps205;go_wp2;obtain⟨W,hWW⟩:∃W:World,W=((w.alloc (.cells #[.slice ao row.length cap] 138)).alloc (.cells #[.string tc,.int .i64 tk,.int .i64 tn,.string tt] 211)).alloc (.cells #[.int .i64 0,.int .i64 0,.string ⟨#[]⟩] 208):=⟨_,rfl⟩;rw[<-hWW];have hk:Below w.heap.size w W:=by rw[hWW];exact HW.o _ _ _
  have hm:((w.alloc (.cells #[.slice ao row.length cap] 138)).alloc (.cells #[.string tc,.int .i64 tk,.int .i64 tn,.string tt] 211)).heap.size=w.heap.size+2:=by simp
  have hi:(w.alloc (.cells #[.slice ao row.length cap] 138)).heap.size=w.heap.size+1:=by simp
  have hf:W.heap[w.heap.size+1+1]?=some (.cells #[.int .i64 0,.int .i64 0,.string ⟨#[]⟩] 208):=by
   rw[hWW,show w.heap.size+1+1=w.heap.size+2 from rfl,<-hm];exact jQi _ _
  have ha:W.heap[w.heap.size+1]?=some (.cells #[.string tc,.int .i64 tk,.int .i64 tn,.string tt] 211):=by
   rw[hWW,<-hi];exact(((bR).alloc (nR) _).block _ (by simp)).trans (jQi _ _)
  have hb:W.heap[w.heap.size]?=some (.cells #[.slice ao row.length cap] 138):=by
   rw[hWW];exact(((Below.refl (w.alloc (.cells #[.slice ao row.length cap] 138)).heap.size (w.alloc (.cells #[.slice ao row.length cap] 138))).alloc (nR) _).alloc (by simp) _ |>.block _ (by simp)).trans (jQi _ _)
  have p0:W.cell? ⟨w.heap.size,0,none⟩=some (.slice ao row.length cap):=by rw[jQb hb];rfl
  have p1:W.cell? ⟨w.heap.size+1,0,none⟩=some (.string tc):=by rw[jQb ha];rfl
  have hp:=jQf hb;have hq:=jQf ha;have hg:=hd hk;have hc:=hd hf;clear hWW hk hm hi hf hb ha
  go_region_with (first
   | (go_at_call 148;refine(jQas cols _ tc _ (H.o.below (hg.o.drew)).1 hl).mono ?_;rintro e w' ⟨rfl,rfl⟩)
   | (go_at_call 165;refine(jQbd row _ _ _ (HR.o.below (hg.o.drew))).mono ?_;rintro e w1 ⟨rfl,hb1⟩;rw[<-hn.o,<-HX.o];have hh:Below W.heap.size W w1:=(Below.drew (bR)).trans hb1;have ha:=(hh.block (w.heap.size+1+1) (jQf hc.o)).trans hc.o;have a0:w1.cell? ⟨w.heap.size+1+1,0,none⟩=some (.int .i64 0):=(by rw[jQb ha];rfl);have a1:w1.cell? ⟨w.heap.size+1+1,1,none⟩=some (.int .i64 0):=(by rw[jQb ha];rfl);have a2:w1.cell? ⟨w.heap.size+1+1,2,none⟩=some (.string ⟨#[]⟩):=(by rw[jQb ha];rfl);have b0:=jQd ha 0;have b1:=jQd ha 1;have b2:=jQd ha 2;have hz:=jQf ha;have ho:=hd (hg.o.trans (hh.mono hg.o.size));clear hb1 hh ha;obtain⟨xk,xn,xt⟩:=x;unfold Sq.Val.cells))
  all_goals(try go_wp2)
  all_goals
   refine bodyPost_ret (v:=.agg #[.int .i64 xk,.int .i64 xn,.string xt]) (by simp[results,Tryz.results205,go_sem, *]) rfl ⟨by rw[HE.o,<-HX.o];rfl,?_⟩;exact Below.setCell (B:=w.heap.size) (Below.setCell (B:=w.heap.size) (Below.setCell (B:=w.heap.size) ho.o (by simp;omega) _) (by simp;omega) _) (by simp;omega) _
end
section
open Go.RowKit
theorem jQi8 (cols:List Sq.Col)(row:List Sq.Val)(cv rv:Value)(s:Sq.StepS)(w:World)(h:ColsAt w cv cols)(hr:RowAt w rv row) :
  Calls Tryz.prog 159 #[cv,.agg #[rv],.agg s.cells.toArray] w fun e w'=>e=.returned (.bool (Sq.compared cols row s))/\Below w.heap.size w w':=by
 obtain⟨ao,cap,rfl⟩:=jQa hr.1;have HE:Hid (Sq.compared cols row s=Sq.holds s.op (Sq.compare (Sq.valueOf cols row s.left) (Sq.valueOf cols row s.right))):=rfl;obtain⟨op,⟨lc,⟨lk,ln,lt⟩⟩,⟨rc,⟨rk,rn,rt⟩⟩⟩:=s;obtain⟨x,hx⟩:∃x,x=Sq.valueOf cols row ⟨lc,⟨lk,ln,lt⟩⟩:=⟨_,rfl⟩;obtain⟨y,hy⟩:∃x,x=Sq.valueOf cols row ⟨rc,⟨rk,rn,rt⟩⟩:=⟨_,rfl⟩;have hE:=HE.o;simp only[<-hx,<-hy] at hE;have hg:=hd hE;have HX:=hd hx;have HY:=hd hy;clear hE HE hx hy;unfold Sq.StepS.cells;have H:=hd h;have HR:=hd hr;have hW:∀o o2,Below w.heap.size w ((w.alloc o).alloc o2):=fun o o2=>((bR).alloc (nR) _).alloc (by simp) _
 have HW:=hd hW;clear h hr hW;go_enter Tryz.func159,Tryz.ntmps159;go_wp2_with fail;refine(jQbO cols row cv _ ⟨lc,⟨lk,ln,lt⟩⟩ _ (H.o.below (HW.o _ _)) (HR.o.below (HW.o _ _))).mono ?_;rintro e w1 ⟨rfl,hb1⟩;rw[<-HX.o];have hi:Below w.heap.size w w1:=(HW.o _ _).trans (hb1.mono (by simp;omega));obtain⟨k1,k2⟩:=bcell hb1;have a0:=k1 w.heap.size 0 (by simp;omega);have b0:=k1 (w.heap.size+1) 0 (by simp);have b5:=k1 (w.heap.size+1) 5 (by simp);have b6:=k1 (w.heap.size+1) 6 (by simp);have b7:=k1 (w.heap.size+1) 7 (by simp);have b8:=k1 (w.heap.size+1) 8 (by simp);simp[go_sem] at a0 b0 b5 b6 b7 b8;have hz:w.heap.size+1<w1.heap.size:=by have:=hb1.size;simp at this;omega
 have hk:w.heap.size<w1.heap.size:=by omega
 clear k1 k2 hb1;obtain⟨xk,xn,xt⟩:=x;unfold Sq.Val.cells;have hf:Below w.heap.size w (w1.alloc (.cells #[.int .i64 xk,.int .i64 xn,.string xt] 208)):=Below.alloc (B:=w.heap.size) hi (by omega) _;have hc:=hd hf;clear hf;go_wp2_with fail;refine(jQbO cols row cv _ ⟨rc,⟨rk,rn,rt⟩⟩ _ (H.o.below hc.o) (HR.o.below hc.o)).mono ?_;rintro e w2 ⟨rfl,hb2⟩;rw[<-HY.o];have he:Below w.heap.size w w2:=hc.o.trans (hb2.mono (by simp;omega));obtain⟨k1,k2⟩:=bcell hb2;have d0:=k1 w1.heap.size 0 (by simp);have d1:=k1 w1.heap.size 1 (by simp);have d2:=k1 w1.heap.size 2 (by simp);have b0':=(k1 (w.heap.size+1) 0 (by simp;omega)).trans ((World.cell?_alloc_past _ _ _ hz).trans b0);simp[go_sem] at d0 d1 d2;have hl:w1.heap.size<w2.heap.size:=by have:=hb2.size;simp at this;omega
 have hj:w.heap.size+1<w2.heap.size:=by omega
 clear k1 k2 hb2 a0 b0 b5 b6 b7 b8;obtain⟨yk,yn,yt⟩:=y;unfold Sq.Val.cells;have hh:Below w.heap.size w (w2.alloc (.cells #[.int .i64 yk,.int .i64 yn,.string yt] 208)):=Below.alloc (B:=w.heap.size) he (by omega) _;go_wp2_with fail;refine(jQlG ⟨xk,xn,xt⟩ ⟨yk,yn,yt⟩ _).mono ?_;rintro e w3 ⟨rfl,hb3⟩;have ha:Below w.heap.size w w3:=hh.trans (hb3.mono (by simp;omega));obtain⟨k1,k2⟩:=bcell hb3;have b0'':=(k1 (w.heap.size+1) 0 (by simp;omega)).trans ((World.cell?_alloc_past _ _ _ hj).trans b0');obtain⟨sd,hsd⟩:∃x,x=Sq.compare ⟨xk,xn,xt⟩ ⟨yk,yn,yt⟩:=⟨_,rfl⟩;have hE:=hg.o;rw[<-hsd] at hE ⊢;have hb:Hid (Sq.compared cols row ⟨op,⟨lc,⟨lk,ln,lt⟩⟩,⟨rc,⟨rk,rn,rt⟩⟩⟩=Sq.holds op sd):=hE;clear k1 k2 hb3 d0 d1 d2 b0' hh hE hsd hg;cases h1:op.toList==[61]
 case true =>
  go_wp2;go_ret;exact⟨by rw[hb.o];unfold Sq.holds;rw[h1];rfl,ha⟩
 cases h2:op.toList==[60,62]
 case true =>
  go_wp2;go_ret;exact⟨by rw[hb.o];unfold Sq.holds;rw[h1,h2];rfl,ha⟩
 cases h3:op.toList==[60]
 case true =>
  go_wp2;go_ret;exact⟨by rw[hb.o];unfold Sq.holds;rw[h1,h2,h3];rfl,ha⟩
 cases h4:op.toList==[60,61]
 case true =>
  go_wp2;go_ret;exact⟨by rw[hb.o];unfold Sq.holds;rw[h1,h2,h3,h4];rfl,ha⟩
 cases h5:op.toList==[62]
 case true =>
  go_wp2;go_ret;exact⟨by rw[hb.o];unfold Sq.holds;rw[h1,h2,h3,h4,h5];rfl,ha⟩
 case false =>
  go_wp2;go_ret;exact⟨by rw[hb.o];unfold Sq.holds;rw[h1,h2,h3,h4,h5];rfl,ha⟩
structure PL (pb:Nat)(w:World)(l:List Bool):Prop where
 row:∃v,w.heap[pb]?=some (.cells #[v] 233)/\w.ownsRow (pb+1) 4 1 v l.length (l.map Value.bool)
 few:l.length<=100000
theorem PL.lt {pb:Nat}{w:World}{l:List Bool}(h:PL pb w l):pb<w.heap.size:=by obtain⟨v,h1,_⟩:=h.row;exact jQf h1
theorem PL.below {pb:Nat}{w w':World}{l:List Bool}(h:PL pb w l)(hb:Below w.heap.size w w'):PL pb w' l:=by
 have ha:=h.lt;obtain⟨v,h1,h2⟩:=h.row;exact⟨⟨v,by rw[hb.block pb ha];exact h1,jQh h2 hb⟩,h.few⟩
theorem Tryz.infoBool:(Tryz.prog.info? 4).map (fun i=>(i.zero,i.size,i.bytes))=some (some (.bool false),1,1):=by kernel_rfl
theorem jQgv {pb:Nat}{w:World}{l:List Bool}(b:Bool)(h:PL pb w l)(hn:l.length+1<=100000) :
  Calls Tryz.prog 160 #[.pointer (some ⟨pb,0,none⟩),.bool b] w fun e w'=>e=.returned (.tuple #[])/\PL pb w' (l++[b])/\Below pb w w':=by
 obtain⟨i0,hi,hz0,hz1,hz2⟩:=info_parts Tryz.infoBool;have he:=h.lt;obtain⟨v,hb,hown⟩:=h.row;have c0:w.cell? ⟨pb,0,none⟩=some v:=by rw[jQb hb];rfl
 have hW:Below w.heap.size w (w.alloc (.cells #[.bool b] 4)):=(bR).alloc (nR) _;have HO:=hd (jQh hown hW);have HB:Hid ((w.alloc (.cells #[.bool b] 4)).heap[pb]?=some (.cells #[v] 233)):=(hW.block pb he).trans hb;have HW:=hd hW;clear hb hown hW h;go_enter Tryz.func160,Tryz.ntmps160;go_wp2_with (at_builtin;refine wpList_append_lies _ rfl (.tmp 8) (.tmp 10) 231 rfl (pb+1) 4 i0 _ 1 1 Tryz.underlying231 hi hz0 hz1 hz2 rfl (by decide) v l.length (l.map Value.bool) rfl HO.o ⟨w.heap.size,0,none⟩ 1 1 [.bool b] rfl rfl (by exact jQL w _ _ _ rfl rfl) (by intro u hu;simp at hu;subst hu;rfl) (by decide) (by unfold maxLen;omega) (by omega) (by simp;omega) _ rfl ?_;intro g cap w1 hown1 hgrow hat hltg;have ha:=(hgrow.block pb (by simp;omega) (fun e=>jQn HO.o HB.o (by decide) e.symm)).trans HB.o;have k0:w1.cell? ⟨pb,0,none⟩=some v:=(by rw[jQb ha];rfl);have f0:=jQd ha 0;have hg:=jQf ha;have hf:=hd hown1;have HG:=hd hgrow;have hc:=hd ha;clear hown1 hgrow hat ha);go_end0;refine⟨rfl,⟨⟨.slice (some ⟨g,0,none⟩) (l.length+1) cap,by rw[jQe hc.o];rfl,?_⟩,by simpa using hn⟩,?_⟩
 ·have:=hf.o
  rw[List.length_append,List.length_singleton,List.map_append];exact jQq this fun k hk=>jQg (fun e=>jQn this hc.o (by decide) (by rw[hk,e]))
 ·refine Below.setCell (B:=pb) (Below.trans (Below.mono (B':=pb) HW.o (by omega)) (Tch.of_grown HG.o (fun k hk=>?_) (by simp;omega))) (nR) _;exact Nat.le_of_succ_le (HO.o.lt k hk).1
end
end Go.Proofs.YtahpihjialbanaaGreatDoor
