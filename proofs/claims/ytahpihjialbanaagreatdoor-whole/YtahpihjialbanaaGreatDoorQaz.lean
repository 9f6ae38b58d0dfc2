import Derived.Test.YtahpihjialbanaaGreatDoorQaq
set_option linter.unusedVariables false
set_option linter.unusedSimpArgs false
set_option maxRecDepth 100000
set_option maxHeartbeats 4000000
namespace Go.Proofs.YtahpihjialbanaaGreatDoor
section
open Go.RowKit
theorem Sq.jQfe (cols:List Sq.Col)(sets:List Sq.SetS)(rows acc:List (List Sq.Val))(k:Nat)(h:k<rows.length) :
  Sq.updateFrom cols sets (rows.drop k) acc=if(Sq.assigned cols rows[k] sets).2 then Sq.updateFrom cols sets (rows.drop (k+1)) (acc++[(Sq.assigned cols rows[k] sets).1]) else none:=by
 rw[List.drop_eq_getElem_cons h,Sq.updateFrom]
theorem jQli (a:Int)(tnm:ByteArray)(cols:List Sq.Col)(rows:List (List Sq.Val))(sets:List Sq.SetS)(cv rv sv:Value)(w:World)(hc:ColsAt w cv cols)(hr:RowsOwn 0 w rv rows)(hs:SetsAt w sv sets)(hT:Tbl w)(hok:∀r∈rows,Sq.okRow r)(hoks:∀s∈sets,Sq.okSet s)(hml:rows.length<=1000) :
  Calls Tryz.prog 77 #[.agg #[.int .i64 a,.string tnm,cv],rv,sv] w (OutPost w (Sq.updateR ⟨a,tnm,cols⟩ rows sets)):=by
 obtain⟨i0,hi,hz0,hz1,hz2⟩:=info_parts Tryz.infoRow;obtain⟨q1,c1,rfl⟩:=jQa hc.1;obtain⟨vo,vc,rfl⟩:=hr.slice;obtain⟨q7,c7,rfl⟩:=jQa hs.1;have h0:Hid (Sq.updateR ⟨a,tnm,cols⟩ rows sets=Sq.updatedR ⟨a,tnm,cols⟩ (Sq.updateFrom cols sets rows [])):=rfl;have hS:=hd hok;have hL:=hd hoks;have HC:=hd hc;have HS:=hd hs;have HT:=hd hT;obtain⟨w1,hw1⟩:∃w1:World,w1=(w.alloc (.cells #[.int .i64 a,.string tnm,.slice q1 cols.length c1] 94)).alloc (.cells out0 98):=⟨_,rfl⟩;have hX:Below w.heap.size w w1:=by rw[hw1];exact((bR).alloc (nR) _).alloc (by simp) _
 have hA:w1.heap[w.heap.size+1]?=some (.cells out0 98):=by rw[hw1,show w.heap.size+1=(w.alloc (.cells #[.int .i64 a,.string tnm,.slice q1 cols.length c1] 94)).heap.size from by simp];exact jQap _ _
 have hn:w1.heap[w.heap.size]?=some (.cells #[.int .i64 a,.string tnm,.slice q1 cols.length c1] 94):=by rw[hw1,jQbM (by simp)];exact jQap _ _
 have a1:w1.cell? ⟨w.heap.size,2,none⟩=some (.slice q1 cols.length c1):=by rw[jQb hn];rfl
 have a0:w1.cell? ⟨w.heap.size,0,none⟩=some (.int .i64 a):=by rw[jQb hn];rfl
 have hz:=jQf hA;have He:=hd (hr.below hX);have hF:=hd hA;have hY:=hd hn;clear hok hoks hc hs hT hr hA hn;go_enter Tryz.func77,Tryz.ntmps77;go_wp2;rw[show(w.alloc (.cells #[.int .i64 a,.string tnm,.slice q1 cols.length c1] 94)).alloc (.cells #[.string ⟨#[]⟩,.bool false,.int .i64 0,.string ⟨#[]⟩,.slice none 0 0,.slice none 0 0,.slice none 0 0] 98)=w1 from hw1.symm];clear hw1
 go_loopw [7,8] (fun v i wr=>∃k:Nat,∃acc:List (List Sq.Val),k<=rows.length/\i=.int .i64 k/\acc.length=k/\RowsOwn w1.heap.size wr v acc/\Hid (Sq.updateFrom cols sets rows []=Sq.updateFrom cols sets (rows.drop k) acc)/\Below w1.heap.size w1 wr) (fun _ i _=>rows.length-(intOf i).toNat)
 case atStart=>exact⟨0,[],zR,rfl,rfl,RowsOwn.nil _ _,rfl,bR⟩
 case round =>
  obtain⟨k,acc,hk,rfl,hal,hacc,hr,hb⟩:=hrel;obtain⟨xo,xc,rfl⟩:=hacc.slice;have h9:=hb.size;have HB:=hd hb;have hB:=hd hacc;have h3:=hd hal;have h7:acc.length<=1000:=by omega
  have Hg:acc.length<=rows.length:=by omega
  clear hb hacc hal
  by_cases hlt:k<rows.length
  ·obtain⟨g,cap',ra,rc,hv,hg,c0,hrow⟩:=(He.o.below HB.o).at k hlt;simp only[Value.slice.injEq] at hv;obtain⟨rfl,-,rfl⟩:=hv;have hN:=Sq.jQfe cols sets rows acc k hlt;have hy:=hS.o rows[k] (List.getElem_mem hlt);obtain⟨row,hrw⟩:∃x,x=rows[k]:=⟨_,rfl⟩;rw[<-hrw] at hN c0 hrow hy;obtain⟨p,hp⟩:∃x,x=Sq.assigned cols row sets:=⟨_,rfl⟩;rw[<-hp] at hN;obtain⟨nrow,ok⟩:=p;have hW:Hid (Sq.updateFrom cols sets rows []=if ok then Sq.updateFrom cols sets (rows.drop (k+1)) (acc++[nrow]) else none):=hr.o.trans hN;have HP:=hd hp;have hD:=hd hrow;have hJ:=hd hy;have a1':=(HB.o.cell (p:=⟨w.heap.size,2,none⟩) (by show w.heap.size<_;omega)).trans a1;have hh:Below w.heap.size w wr:=hX.trans (HB.o.mono (by omega));have h1:w.heap.size<wr.heap.size:=by omega
   have Hj:w.heap.size+1<wr.heap.size:=by omega
   clear hN hrow hrw hp hy hr;go_wp2
   go_cut [9,10] from 11 to 34 (fun pv ov wx=>∃vb x,pv=.pointer (some ⟨vb,0,none⟩)/\ov=.bool ok/\Below wr.heap.size wr wx/\wr.heap.size<=vb/\vb<wx.heap.size/\wx.cell? ⟨vb,0,none⟩=some x/\RowNew wr.heap.size wx x nrow)
   case first =>
    go_region_with (go_at_call 120;first | (refine(jQe8 cols row sets _ _ _ wr.drew (HC.o.below hh.drew) (hD.o.below (Below.drew (bR))) (HS.o.below hh.drew) hJ.o hL.o).mono ?_;rintro e w2 ⟨nv,rfl,hnr,hb2⟩;rw[<-HP.o] at hnr;rw[<-HP.o];obtain⟨no,ncap,rfl⟩:=jQa hnr.1;have ha:Below wr.heap.size wr w2:=(Below.drew (bR)).trans hb2;have hq:=hd hnr;have hU:=ha.size;clear hb2 hnr) | (refine(jQe8 cols row sets _ _ _ (wr.drew.alloc _) (HC.o.below (Below.alloc (B:=w.heap.size) hh.drew (by simp;omega) _)) (hD.o.below (Below.alloc (B:=wr.heap.size) (Below.drew (bR)) (nR) _)) (HS.o.below (Below.alloc (B:=w.heap.size) hh.drew (by simp;omega) _)) hJ.o hL.o).mono ?_;rintro e w2 ⟨nv,rfl,hnr,hb2⟩;rw[<-HP.o] at hnr;rw[<-HP.o];obtain⟨no,ncap,rfl⟩:=jQa hnr.1;obtain⟨k1,k2⟩:=bcell hb2;have e0:=k1 wr.heap.size 0 (by simp);have g0:=k2 wr.heap.size 0 (by simp);have e9:=hb2.block wr.heap.size (by simp);simp[go_sem] at e0 g0;have hz:wr.heap.size<w2.heap.size:=(by have:=hb2.size;simp at this;omega);have ha:Below wr.heap.size wr w2:=(Below.alloc (B:=wr.heap.size) (Below.drew (bR)) (nR) _).trans (hb2.mono (by simp));have hU:=ha.size;have hq:=hd hnr;have Hi:=hd e9;clear hb2 k1 k2 hnr e9))
    all_goals(try go_wp2_with fail)
    all_goals go_meet
    all_goals exact⟨_,_,rfl,rfl,(by first | exact Below.alloc (B:=wr.heap.size) ha ha.size _ | exact Below.setCell (B:=wr.heap.size) ha (nR) _),(by first | exact nR | exact ha.size),(by simp[*]),(by simp[go_sem, *];rfl),(by first | exact⟨jQh (jQj hq.o.1 (by simp)) ((bR).alloc (nR) _),hq.o.2⟩ | exact⟨jQq (jQj hq.o.1 (by simp)) (fun k hk=>jQg (fun e=>by have:=(World.ownsRow.lt hq.o.1 k hk).1;simp at this;omega)),hq.o.2⟩)⟩
   case rest =>
    obtain⟨vb,x,rfl,rfl,ha,hvb1,hvb2,v0,hnr⟩:=hcut;obtain⟨no,ncap,rfl⟩:=jQa hnr.1;have Hd:=ha.size;have hZ:=hd ha;have hq:=hd hnr;have hf:=(ha.block (w.heap.size+1) (by omega)).trans ((HB.o.block (w.heap.size+1) (by omega)).trans hF.o);have hj:=hd hf;have hH:Below w.heap.size w wc:=hh.trans (ha.mono (by omega));have hI:=hd hH;clear ha hnr hf hh c0 a1' hH;cases ok
    case false =>
     have hE:Hid (Sq.updateR ⟨a,tnm,cols⟩ rows sets=Sq.refusedR 9):=by show _=_;rw[h0.o,hW.o];rfl
     go_wp2_with fail;refine(jQac 9 _ (by omega) (by omega) (HT.o.below hI.o)).mono ?_;rintro e w3 ⟨rfl,hb3⟩;have he:=(hb3.block (w.heap.size+1) (by omega)).trans hj.o;obtain⟨d0,d1,d2,d3,d4,d5,d6⟩:=jQG he;obtain⟨f0,f1,f2,f3,f4,f5,f6⟩:=jQy he;have Ha:=hb3.size;have hK:=hd hb3;have Hc:w.heap.size+1<w3.heap.size:=by omega
     clear hb3 he;unfold outCells;go_wp2;refine bodyPost_ret (v:=.agg (outCells (Sq.refusedR 9) (.slice none 0 0) (.slice none 0 0) (.slice none 0 0))) (by simp[results,Tryz.results77,go_sem,outCells, *]) rfl ⟨_,_,_,by rw[hE.o],by rw[hE.o];exact OutAt.none _ _ rfl rfl rfl,?_⟩;exact jQu (hI.o.trans (hK.o.mono (by omega))) (by omega) _ _ _ _ _ _ _
    case true =>
     have Hf:Hid (Sq.updateFrom cols sets rows []=Sq.updateFrom cols sets (rows.drop (k+1)) (acc++[nrow])):=hW.o;obtain⟨rvs,ho,hrs⟩:=hB.o.below hZ.o;have h2:rvs.length=acc.length:=by have:=ho.1;omega
     have Hb:=hd h2;have hP:=hd (ho.alloc (.cells #[.slice no nrow.length ncap] 138));have h6:=hd hrs;clear ho hrs h2 hW;go_wp2_with (at_builtin;refine wpList_append_lies _ rfl (.tmp 31) (.tmp 33) 95 rfl w1.heap.size 138 i0 _ 1 24 Tryz.underlying95 hi hz0 hz1 hz2 rfl (by decide) _ acc.length rvs rfl hP.o ⟨wc.heap.size,0,none⟩ 1 1 [.slice no nrow.length ncap] rfl rfl (by exact jQL wc _ _ _ rfl rfl) (by intro u hu;simp at hu;subst hu;rfl) (by decide) (by unfold maxLen;omega) (by omega) (by simp;omega) _ rfl ?_;intro gg cap3 w3 hown3 hgrow3 hat3 hlt3;have h8:=hd hown3;have hQ:=hd hgrow3;clear hown3 hgrow3 hat3);have hO:Below wc.heap.size wc (wc.alloc (.cells #[.slice no nrow.length ncap] 138)):=(bR).alloc (nR) _
     have hw:RowsOwn w1.heap.size w3 (.slice (some ⟨gg,0,none⟩) (acc.length+1) cap3) (acc++[nrow]) :=
      RowsOwn.snoc h8.o Hb.o (fun i r hi=>let ⟨x,h4,h5⟩:=h6.o i r hi;⟨x,h4,(h5.below hO).grown hP.o hQ.o⟩) ((hq.o.row.below hO).grown hP.o hQ.o)
     have hG:Below w1.heap.size w1 w3 :=
      (HB.o.trans (hZ.o.mono h9)).trans ((Below.mono (B':=w1.heap.size) hO (by omega)).trans (Tch.of_grown hQ.o (fun k hk=>(hP.o.lt k hk).1) (by simp;omega)))
     have hR:=hd hw;have hV:=hd hG;clear hO hw hG;go_roundw
     case rel =>
      have CL:k+1<=rows.length/\Value.int .i64 ((k:Int)+1)=.int .i64 ((k+1:Nat):Int)/\(acc++[nrow]).length=k+1/\RowsOwn w1.heap.size w3 (.slice (some ⟨gg,0,none⟩) (acc.length+1) cap3) (acc++[nrow])/\Hid (Sq.updateFrom cols sets rows []=Sq.updateFrom cols sets (rows.drop (k+1)) (acc++[nrow]))/\Below w1.heap.size w1 w3 :=
       ⟨by omega,by go_num,by rw[List.length_append,List.length_singleton,h3.o],hR.o,Hf,hV.o⟩
      first
       | exact⟨k+1,acc++[nrow],CL⟩
       | ((repeat apply Exists.intro);exact⟨⟨k+1,acc++[nrow],CL⟩,rfl⟩)
     case measure=>simp[intOf];omega
  ·have hE:Hid (Sq.updateR ⟨a,tnm,cols⟩ rows sets=⟨Sq.counted acc.length,false,⟨a,tnm,cols⟩,acc,[]⟩):=by show _=_;rw[h0.o,hr.o,List.drop_eq_nil_of_le (by omega)];rfl
   have hf:=(HB.o.block (w.heap.size+1) (by omega)).trans hF.o;have hj:=hd hf;have hM:Below w.heap.size w wr:=hX.trans (HB.o.mono (by omega));have hx:=hd hM;clear hr hf hM;have hl:=(HB.o.block (w.heap.size) (by omega)).trans hY.o;obtain⟨q0',q1',q2',-,-,-⟩:=tab3 hl;have hC:=hd hl;have h1:w.heap.size<wr.heap.size:=by omega
   obtain⟨wo,rfl⟩:∃wo:World,wo=wr:=⟨_,rfl⟩;clear hl a0 a1;go_wp2
   go_region_with (go_at_call 109;refine(jQaG acc.length _ (by omega) (by omega) (HT.o.below hx.o.drew)).mono ?_;rintro e w3 ⟨rfl,hb3⟩;have hm:Below wo.heap.size wo w3:=(Below.drew (bR)).trans hb3;have he:=(hm.block (w.heap.size+1) (by omega)).trans hj.o;obtain⟨d0,d1,d2,d3,d4,d5,d6⟩:=jQG he;obtain⟨f0,f1,f2,f3,f4,f5,f6⟩:=jQy he;obtain⟨p0,p1,p2,-,-,-⟩:=tab3 ((hm.block w.heap.size h1).trans hC.o);have Ha:=hm.size;have hK:=hd hm;have ht:=hd he;have Hc:w.heap.size+1<w3.heap.size:=(by omega);have Hh:w.heap.size<w3.heap.size:=(by omega);clear hb3 hm he)
   all_goals(try go_wp2)
   all_goals
    refine bodyPost_ret (v:=.agg (outCells ⟨Sq.counted acc.length,false,⟨a,tnm,cols⟩,acc,[]⟩ (.slice q1 cols.length c1) (.slice xo acc.length xc) (.slice none 0 0))) (by simp[results,Tryz.results77,go_sem,outCells,Sq.nobytes, *]) rfl ⟨_,_,_,by rw[hE.o],?_,?_⟩
    ·rw[hE.o];refine⟨ColsAt.o ((HC.o.below hx.o).below hK.o) ht.o (by decide) (fun g hg=>jQl _ _ _ _ _ _ _ _ _ hg),?_,World.ownsRow_nil _ _ _ _,by show acc.length<=_;omega,by simp⟩;exact RowsOwn.base (RowsOwn.o (hB.o.below hK.o) ht.o (by decide) (by decide) (fun g hg=>jQl _ _ _ _ _ _ _ _ _ hg)) (zR)
    ·exact jQu (hx.o.trans (hK.o.mono (by omega))) (by omega) _ _ _ _ _ _ _
end
end Go.Proofs.YtahpihjialbanaaGreatDoor
