import Derived.Deep.CutRange
import Derived.Test.YtahpihjialbanaaGreatDoorQam
set_option linter.unusedVariables false
set_option linter.unusedSimpArgs false
set_option maxRecDepth 100000
set_option maxHeartbeats 2000000
namespace Go.Proofs.YtahpihjialbanaaGreatDoor
section
open Go.RowKit
theorem Sq.jQgZ (cols:List Sq.Col)(old row:List Sq.Val)(s:Sq.SetS):(Sq.assignStep cols old row s).length=row.length:=by
 unfold Sq.assignStep;split<;>simp
theorem jQe8 (cols:List Sq.Col)(old:List Sq.Val)(sets:List Sq.SetS)(cv rv sv:Value)(w:World)(h:ColsAt w cv cols)(hr:RowAt w rv old)(hs:SetsAt w sv sets)(hok:Sq.okRow old)(hoks:∀s∈sets,Sq.okSet s) :
  Calls Tryz.prog 120 #[cv,.agg #[rv],sv] w fun e w'=>∃v,e=.returned (.tuple #[.agg #[v],.bool (Sq.assigned cols old sets).2])/\RowNew w.heap.size w' v (Sq.assigned cols old sets).1/\Below w.heap.size w w':=by
 obtain⟨ao,acap,rfl⟩:=jQa hr.1;obtain⟨bo,bap,rfl⟩:=jQa hs.1;have hl:=h.2;have hS:=hr.2;have h3:=hs.2;have H:=hd h;have HR:=hd hr;have HS:=hd hs;have hP:=hd hok;have hK:=hd hoks;have hW:∀o o2,Below w.heap.size w ((w.alloc o).alloc o2):=fun o o2=>((bR).alloc (nR) _).alloc (by simp) _
 have HW:=hd hW;clear h hr hs hok hoks hW;go_enter Tryz.func120,Tryz.ntmps120;go_wp2_with fail;refine(jQri old _ _ (HR.o.below (HW.o _ _))).mono ?_;rintro e w1 ⟨g,gcap,rfl,hnew,hb1⟩;rw[jQc9] at hnew hb1;have hL:g<w1.heap.size/\w.heap.size+1+1<=g:=⟨(World.ownsRow.lt hnew.1 g rfl).2,(World.ownsRow.lt hnew.1 g rfl).1⟩;obtain⟨hL,hg2⟩:=hL;have hI:=hd hnew;have hV:=hd hb1;have hZ:=hb1.size;rw[jQc9] at hZ;clear hnew hb1;go_wp2
 go_loopw [9] (fun i wr=>∃k:Nat,∃row:List Sq.Val,k<=sets.length/\i=.int .i64 k/\row.length=old.length/\w1.heap.size<wr.heap.size/\wr.cell? ⟨w1.heap.size,0,none⟩=some (.slice (some ⟨g,0,none⟩) old.length gcap)/\RowNew (w.heap.size+1+1) wr (.slice (some ⟨g,0,none⟩) old.length gcap) row/\Hid (Sq.assigned cols old sets=Sq.assignFrom cols old (sets.drop k) row)/\Below (w.heap.size+1+1) ((w.alloc (.cells #[.slice ao old.length acap] 138)).alloc (.cells #[.slice none 0 0] 138)) wr) (fun i _=>sets.length-(intOf i).toNat)
 case atStart=>exact⟨0,old,zR,rfl,rfl,by simp,by simp[go_sem],⟨jQh hI.o.1 ((bR).alloc (nR) _),hS⟩,rfl,Below.alloc (B:=w.heap.size+1+1) hV.o (by omega) _⟩
 case round =>
  obtain⟨k,row,hk,rfl,hrl,hzr,r0,hnew,hr,hb⟩:=hrel;have hg:Below w.heap.size w wr:=(HW.o _ _).trans (hb.mono (by omega));have a0:=hb.cell (p:=⟨w.heap.size,0,none⟩) (by simp;omega);have b0:=hb.cell (p:=⟨w.heap.size+1,0,none⟩) (by simp);have bf:=hb.frozen (p:=⟨w.heap.size+1,0,none⟩) (by simp);simp[go_sem] at a0 b0 bf;have HB:=hd hb;have HN:=hd hnew;have hh:=hd hrl;have h1:w.heap.size<wr.heap.size:=by omega
  have hR:w.heap.size+1<wr.heap.size:=by omega
  have h2:g<wr.heap.size:=by omega
  clear hb hnew hrl
  by_cases hlt:k<sets.length
  ·obtain⟨q,qcap,hv,hq,hc⟩:=sl_at (f:=Sq.SetS.cells) (fun _=>rfl) (HS.o.below hg).1 k hlt;simp only[Value.slice.injEq] at hv;obtain⟨rfl,-,rfl⟩:=hv;have hF:=Sq.jQfs cols old row sets k hlt;have hH:=hK.o sets[k] (List.getElem_mem hlt);have hD:=Sq.jQgZ cols old row sets[k];obtain⟨s,hse⟩:∃x,x=sets[k]:=⟨_,rfl⟩;rw[<-hse] at hF hH hc hD;have hN:Hid (Sq.assigned cols old sets=if(Sq.result cols old s).2 then Sq.assignFrom cols old (sets.drop (k+1)) (Sq.assignStep cols old row s) else([],false)):=hr.o.trans hF;have hO:Hid (Sq.assignStep cols old row s=if Sq.find cols s.column<0 then row else row.set (Sq.find cols s.column).toNat (Sq.result cols old s).1):=rfl;have hw:=hd hH;have h0:=hd hD;clear hF hH hse hr hD;obtain⟨p,hp⟩:∃x,x=Sq.result cols old s:=⟨_,rfl⟩;have hy:=hN.o;have has:=hO.o;rw[<-hp] at hy has;have hE:=hd hy;have hj:=hd has;have HP:=hd hp;obtain⟨⟨vk,vn,vt⟩,ok⟩:=p;obtain⟨cn,⟨lc,⟨lk,ln,lt⟩⟩,sg,⟨rc,⟨rk,rn,rt⟩⟩⟩:=s;have c0:=hc 0 _ (by decide) rfl;have c1:=hc 1 _ (by decide) rfl;have c2:=hc 2 _ (by decide) rfl;have c3:=hc 3 _ (by decide) rfl;have c4:=hc 4 _ (by decide) rfl;have c5:=hc 5 _ (by decide) rfl;have c6:=hc 6 _ (by decide) rfl;have c7:=hc 7 _ (by decide) rfl;have c8:=hc 8 _ (by decide) rfl;have c9:=hc 9 _ (by decide) rfl;simp only[Nat.add_zero] at c0;clear hc hy has hp hN hO;go_wp2
   go_cut [10,11] from 15 to 54 (fun pv ov wx=>∃vb,pv=.pointer (some ⟨vb,0,none⟩)/\ov=.bool ok/\Below wr.heap.size wr wx/\wr.heap.size<=vb/\vb<wx.heap.size/\wx.cell? ⟨vb,0,none⟩=some (.int .i64 vk)/\wx.cell? ⟨vb,1,none⟩=some (.int .i64 vn)/\wx.cell? ⟨vb,2,none⟩=some (.string vt))
   case first =>
    go_region_with (go_at_call 164;first | (refine(jQht cols old cv _ ⟨cn,⟨lc,⟨lk,ln,lt⟩⟩,sg,⟨rc,⟨rk,rn,rt⟩⟩⟩ wr.drew (H.o.below hg.drew) (HR.o.below hg.drew) hP.o hw.o.1 hw.o.2).mono ?_;rintro e w2 ⟨rfl,hb2⟩;rw[<-HP.o];unfold Sq.Val.cells;have ha:Below wr.heap.size wr w2:=(Below.drew (bR)).trans hb2;clear hb2) | (refine(jQht cols old cv _ ⟨cn,⟨lc,⟨lk,ln,lt⟩⟩,sg,⟨rc,⟨rk,rn,rt⟩⟩⟩ (wr.drew.alloc _) (H.o.below (Below.alloc (B:=w.heap.size) hg.drew (by simp;omega) _)) (HR.o.below (Below.alloc (B:=w.heap.size) hg.drew (by simp;omega) _)) hP.o hw.o.1 hw.o.2).mono ?_;rintro e w2 ⟨rfl,hb2⟩;rw[<-HP.o];unfold Sq.Val.cells;obtain⟨k1,k2⟩:=bcell hb2;have e0:=k1 wr.heap.size 0 (by simp);have e1:=k1 wr.heap.size 1 (by simp);have e2:=k1 wr.heap.size 2 (by simp);have g0:=k2 wr.heap.size 0 (by simp);have g1:=k2 wr.heap.size 1 (by simp);have g2:=k2 wr.heap.size 2 (by simp);simp[go_sem] at e0 e1 e2 g0 g1 g2;have hz:wr.heap.size<w2.heap.size:=(by have:=hb2.size;simp at this;omega);have ha:Below wr.heap.size wr w2:=(Below.alloc (B:=wr.heap.size) (Below.drew (bR)) (nR) _).trans (hb2.mono (by simp));clear hb2 k1 k2))
    all_goals(try go_wp2_with fail)
    all_goals go_meet
    all_goals exact⟨_,rfl,rfl,(by first | exact Below.alloc (B:=wr.heap.size) ha ha.size _ | exact jQaV (b:=wr.heap.size) ha (nR) _ _ _),(by first | exact nR | exact ha.size),(by simp[*]),(by simp[go_sem, *]),(by simp[go_sem, *]),(by simp[go_sem, *])⟩
   case rest =>
    obtain⟨vb,rfl,rfl,ha,hvb1,hvb2,v0,v1,v2⟩:=hcut;have h6:=ha.size;have c0':=((bcell ha).1 q (k*10) hq).trans c0;have b0':=((bcell ha).1 (w.heap.size+1) 0 hR).trans b0;have bf':=((bcell ha).2 (w.heap.size+1) 0 hR).trans bf;have r0':=((bcell ha).1 w1.heap.size 0 hzr).trans r0;have hx:Hid (RowNew (w.heap.size+1+1) wc (.slice (some ⟨g,0,none⟩) old.length gcap) row):=⟨jQh HN.o.1 ha,HN.o.2⟩;have hB:=hd (HB.o.trans (ha.mono (by omega)));have ht:Below w.heap.size w wc:=hg.trans (ha.mono (by omega));have he:=hd ht;have hu:w1.heap.size<wc.heap.size:=by omega
    have hY:w.heap.size+1<wc.heap.size:=by omega
    have h5:q<wc.heap.size:=by omega
    have h4:g<wc.heap.size:=by omega
    clear c0 c1 c2 c3 c4 c5 c6 c7 c8 c9 a0 b0 bf r0 ha ht hg HN HB;cases ok
    case false =>
     have HE:Hid (Sq.assigned cols old sets=([],false)):=hE.o;go_wp2;refine bodyPost_ret (v:=.tuple #[.agg #[.slice none 0 0],.bool false]) (by simp[results,Tryz.results120,go_sem, *]) rfl ⟨_,by rw[HE.o],by rw[HE.o];exact⟨World.ownsRow_nil _ _ _ _,by simp⟩,?_⟩;exact Below.setCell (B:=w.heap.size) he.o (by simp) _
    case true =>
     have hJ:Hid (Sq.assigned cols old sets=Sq.assignFrom cols old (sets.drop (k+1)) (Sq.assignStep cols old row ⟨cn,⟨lc,⟨lk,ln,lt⟩⟩,sg,⟨rc,⟨rk,rn,rt⟩⟩⟩)):=hE.o;have hG:Hid (Sq.assignStep cols old row ⟨cn,⟨lc,⟨lk,ln,lt⟩⟩,sg,⟨rc,⟨rk,rn,rt⟩⟩⟩=if Sq.find cols cn<0 then row else row.set (Sq.find cols cn).toNat ⟨vk,vn,vt⟩):=hj.o;clear hE hj;rcases Sq.jQcN cols cn with hf | ⟨m,hm,hf⟩
     ·have ho:Hid (Sq.assignStep cols old row ⟨cn,⟨lc,⟨lk,ln,lt⟩⟩,sg,⟨rc,⟨rk,rn,rt⟩⟩⟩=row):=by show _=_;rw[hG.o,hf];rfl
      have HF:=hd hf;clear hf;go_wp2_with (go_at_call 148;refine(jQas cols _ cn _ (H.o.below he.o).1 hl).mono ?_;rintro e w' ⟨rfl,hw'⟩;rw[HF.o,hw'];clear hw' w');go_roundw
      case rel =>
       have CL:k+1<=sets.length/\Value.int .i64 ((k:Int)+1)=.int .i64 ((k+1:Nat):Int)/\row.length=old.length/\w1.heap.size<wc.heap.size/\wc.cell? ⟨w1.heap.size,0,none⟩=some (.slice (some ⟨g,0,none⟩) old.length gcap)/\RowNew (w.heap.size+1+1) wc (.slice (some ⟨g,0,none⟩) old.length gcap) row/\Hid (Sq.assigned cols old sets=Sq.assignFrom cols old (sets.drop (k+1)) row)/\Below (w.heap.size+1+1) ((w.alloc (.cells #[.slice ao old.length acap] 138)).alloc (.cells #[.slice none 0 0] 138)) wc :=
        ⟨by omega,by go_num,hh.o,hu,r0',hx.o,by have:=hJ.o;rw[ho.o] at this;exact this,hB.o⟩
       first
        | exact⟨k+1,row,CL⟩
        | ((repeat apply Exists.intro);exact⟨⟨k+1,row,CL⟩,rfl⟩)
      case measure=>simp[intOf];omega
     ·have HF:=hd hf
      by_cases hmo:m<old.length
      ·have hQ:m<row.length:=by rw[hh.o];exact hmo
       have ho:Hid (Sq.assignStep cols old row ⟨cn,⟨lc,⟨lk,ln,lt⟩⟩,sg,⟨rc,⟨rk,rn,rt⟩⟩⟩=row.set m ⟨vk,vn,vt⟩):=by show _=_;rw[hG.o,hf,if_neg (by omega),Int.toNat_natCast]
       have hi:=hx.o.1;rw[hh.o] at hi;have hT:=jQet hi (m*3);have hX:=jQet hi (m*3+1);have hU:=jQet hi (m*3+2);have hn:=jQqz hi ⟨vk,vn,vt⟩ m hQ;obtain⟨g',gc',hv,hg',hcc⟩:=sl_at (f:=Sq.Val.cells) (fun _=>rfl) hx.o.1 m hQ;rw[hh.o] at hv;simp only[Value.slice.injEq,Option.some.injEq,Addr.mk.injEq] at hv;obtain⟨⟨rfl,-,-⟩,-,rfl⟩:=hv;have y0:=hcc 0 (.int .i64 row[m].kind) (by decide) rfl;have y1:=hcc 1 (.int .i64 row[m].number) (by decide) rfl;have y2:=hcc 2 (.string row[m].text) (by decide) rfl;simp only[Nat.add_zero] at y0;have hA:=hd hn;have r1':=(jQpG (jQK (w1:=wc) (b:=g) (c:=w1.heap.size) (by omega) (m*3) (m*3+1) (m*3+2) (.int .i64 vk) (.int .i64 vn) (.string vt)) 0).trans r0';have R1:=hd r1';have hM:(row.set m ⟨vk,vn,vt⟩).length=old.length:=by rw[List.length_set];exact hh.o
       have hC:=hd hM;clear hf hi hn hcc r1' hM;go_wp2_with (go_at_call 148;refine(jQas cols _ cn _ (H.o.below he.o).1 hl).mono ?_;rintro e w' ⟨rfl,hw'⟩;rw[HF.o,hw'];clear hw' w');go_roundw
       case rel =>
        have CL:k+1<=sets.length/\Value.int .i64 ((k:Int)+1)=.int .i64 ((k+1:Nat):Int)/\(row.set m ⟨vk,vn,vt⟩).length=old.length/\w1.heap.size<(((wc.setCell ⟨g,m*3,none⟩ (.int .i64 vk)).setCell ⟨g,m*3+1,none⟩ (.int .i64 vn)).setCell ⟨g,m*3+2,none⟩ (.string vt)).heap.size/\(((wc.setCell ⟨g,m*3,none⟩ (.int .i64 vk)).setCell ⟨g,m*3+1,none⟩ (.int .i64 vn)).setCell ⟨g,m*3+2,none⟩ (.string vt)).cell? ⟨w1.heap.size,0,none⟩=some (.slice (some ⟨g,0,none⟩) old.length gcap)/\RowNew (w.heap.size+1+1) (((wc.setCell ⟨g,m*3,none⟩ (.int .i64 vk)).setCell ⟨g,m*3+1,none⟩ (.int .i64 vn)).setCell ⟨g,m*3+2,none⟩ (.string vt)) (.slice (some ⟨g,0,none⟩) old.length gcap) (row.set m ⟨vk,vn,vt⟩)/\Hid (Sq.assigned cols old sets=Sq.assignFrom cols old (sets.drop (k+1)) (row.set m ⟨vk,vn,vt⟩))/\Below (w.heap.size+1+1) ((w.alloc (.cells #[.slice ao old.length acap] 138)).alloc (.cells #[.slice none 0 0] 138)) (((wc.setCell ⟨g,m*3,none⟩ (.int .i64 vk)).setCell ⟨g,m*3+1,none⟩ (.int .i64 vn)).setCell ⟨g,m*3+2,none⟩ (.string vt)) :=
         ⟨by omega,by go_num,hC.o,by simp;omega,R1.o,⟨by rw[hC.o];exact hA.o,by rw[hC.o];exact hS⟩,by have:=hJ.o;rw[ho.o] at this;exact this,jQkL hB.o hg2 _ _ _ _ _ _⟩
        first
         | exact⟨k+1,row.set m ⟨vk,vn,vt⟩,CL⟩
         | ((repeat apply Exists.intro);exact⟨⟨k+1,row.set m ⟨vk,vn,vt⟩,CL⟩,rfl⟩)
       case measure=>simp[intOf];omega
      ·have ho:Hid (Sq.assignStep cols old row ⟨cn,⟨lc,⟨lk,ln,lt⟩⟩,sg,⟨rc,⟨rk,rn,rt⟩⟩⟩=row):=by show _=_;rw[hG.o,hf,if_neg (by omega),Int.toNat_natCast,List.set_eq_of_length_le (by rw[hh.o];omega)]
       clear hf;go_wp2_with (go_at_call 148;refine(jQas cols _ cn _ (H.o.below he.o).1 hl).mono ?_;rintro e w' ⟨rfl,hw'⟩;rw[HF.o,hw'];clear hw' w');go_roundw
       case rel =>
        have CL:k+1<=sets.length/\Value.int .i64 ((k:Int)+1)=.int .i64 ((k+1:Nat):Int)/\row.length=old.length/\w1.heap.size<wc.heap.size/\wc.cell? ⟨w1.heap.size,0,none⟩=some (.slice (some ⟨g,0,none⟩) old.length gcap)/\RowNew (w.heap.size+1+1) wc (.slice (some ⟨g,0,none⟩) old.length gcap) row/\Hid (Sq.assigned cols old sets=Sq.assignFrom cols old (sets.drop (k+1)) row)/\Below (w.heap.size+1+1) ((w.alloc (.cells #[.slice ao old.length acap] 138)).alloc (.cells #[.slice none 0 0] 138)) wc :=
         ⟨by omega,by go_num,hh.o,hu,r0',hx.o,by have:=hJ.o;rw[ho.o] at this;exact this,hB.o⟩
        first
         | exact⟨k+1,row,CL⟩
         | ((repeat apply Exists.intro);exact⟨⟨k+1,row,CL⟩,rfl⟩)
       case measure=>simp[intOf];omega
  ·have HE:Hid (Sq.assigned cols old sets=(row,true)):=by show _=_;rw[hr.o,List.drop_eq_nil_of_le (by omega)];rfl
   clear hr;go_wp2;refine bodyPost_ret (v:=.tuple #[.agg #[.slice (some ⟨g,0,none⟩) old.length gcap],.bool true]) (by simp[results,Tryz.results120,go_sem, *]) rfl ⟨_,by rw[HE.o],?_,?_⟩
   ·rw[HE.o];refine⟨?_,HN.o.2⟩;exact jQj (jQq HN.o.1 fun k hk=>jQg (fun e=>by have:=(World.ownsRow.lt HN.o.1 k hk).1;omega)) (by omega)
   ·exact Below.setCell (B:=w.heap.size) hg (by simp) _
end
end Go.Proofs.YtahpihjialbanaaGreatDoor
