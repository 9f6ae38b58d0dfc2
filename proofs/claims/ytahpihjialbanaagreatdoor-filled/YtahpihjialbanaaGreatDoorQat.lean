import Derived.Test.YtahpihjialbanaaGreatDoorQaj
set_option linter.unusedVariables false
set_option linter.unusedSimpArgs false
set_option maxRecDepth 100000
set_option maxHeartbeats 4000000
namespace Go.Proofs.YtahpihjialbanaaGreatDoor
section
open Go.RowKit
theorem Sq.jQfb (cols:List Sq.Col)(sets:List Sq.SetS)(rows acc:List (List Sq.Val))(k:Nat)(h:k < rows.length) :
  Sq.updateFrom cols sets (rows.drop k) acc=if(Sq.assigned cols rows[k] sets).2 then Sq.updateFrom cols sets (rows.drop (k+1)) (acc++[(Sq.assigned cols rows[k] sets).1]) else none:=by
 rw[List.drop_eq_getElem_cons h,Sq.updateFrom]
theorem jQkX (a:Int)(tnm:ByteArray)(cols:List Sq.Col)(rows:List (List Sq.Val))(sets:List Sq.SetS)(cv rv sv:Value)(w:World)(hc:ColsAt w cv cols)(hr:RowsOwn 0 w rv rows)(hs:SetsAt w sv sets)(hT:Tbl w)(hok:∀r∈rows,Sq.okRow r)(hoks:∀s∈sets,Sq.okSet s)(hml:rows.length≤1000) :
  Calls Tryz.prog 77 #[.agg #[.int .i64 a,.string tnm,cv],rv,sv] w (OutPost w (Sq.updateR ⟨a,tnm,cols⟩ rows sets)):=by
 obtain⟨i0,hi,hz0,hz1,hz2⟩:=info_parts Tryz.infoRow
 obtain⟨q1,c1,rfl⟩:=jQa hc.1
 obtain⟨vo,vc,rfl⟩:=hr.slice
 obtain⟨q7,c7,rfl⟩:=jQa hs.1
 have HE2:Hid (Sq.updateR ⟨a,tnm,cols⟩ rows sets=Sq.updatedR ⟨a,tnm,cols⟩ (Sq.updateFrom cols sets rows [])):=rfl
 have HMOK:=hd hok
 have HOKS:=hd hoks
 have HC:=hd hc
 have HS:=hd hs
 have HT:=hd hT
 obtain⟨w1,hw1⟩:∃w1:World,w1=(w.alloc (.cells #[.int .i64 a,.string tnm,.slice q1 cols.length c1] 94)).alloc (.cells out0 98):=⟨_,rfl⟩
 have hbw:Below w.heap.size w w1:=by rw[hw1];exact((Below.refl _ _).alloc (Nat.le_refl _) _).alloc (by simp) _
 have hblk:w1.heap[w.heap.size+1]?=some (.cells out0 98):=by rw[hw1,show w.heap.size+1=(w.alloc (.cells #[.int .i64 a,.string tnm,.slice q1 cols.length c1] 94)).heap.size from by simp];exact jQaB _ _
 have hbox:w1.heap[w.heap.size]?=some (.cells #[.int .i64 a,.string tnm,.slice q1 cols.length c1] 94):=by rw[hw1,jQax (by simp)];exact jQaB _ _
 have a1:w1.cell? ⟨w.heap.size,2,none⟩=some (.slice q1 cols.length c1):=by rw[jQb hbox];rfl
 have a0:w1.cell? ⟨w.heap.size,0,none⟩=some (.int .i64 a):=by rw[jQb hbox];rfl
 have hz:=jQg hblk
 have HRO:=hd (hr.below hbw)
 have HBLK:=hd hblk
 have HBOX:=hd hbox
 clear hok hoks hc hs hT hr hblk hbox
 go_enter Tryz.func77,Tryz.ntmps77
 go_wp2
 rw[show(w.alloc (.cells #[.int .i64 a,.string tnm,.slice q1 cols.length c1] 94)).alloc (.cells #[.string ⟨#[]⟩,.bool false,.int .i64 0,.string ⟨#[]⟩,.slice none 0 0,.slice none 0 0,.slice none 0 0] 98)=w1 from hw1.symm]
 clear hw1
 go_loopw [7,8] (fun v i wr=>∃k:Nat,∃acc:List (List Sq.Val),k≤rows.length∧i=.int .i64 k∧acc.length=k∧RowsOwn w1.heap.size wr v acc∧Hid (Sq.updateFrom cols sets rows []=Sq.updateFrom cols sets (rows.drop k) acc)∧Below w1.heap.size w1 wr) (fun _ i _=>rows.length - (intOf i).toNat)
 case atStart=>exact⟨0,[],Nat.zero_le _,rfl,rfl,RowsOwn.nil _ _,rfl,Below.refl _ _⟩
 case round =>
  obtain⟨k,acc,hk,rfl,hal,hacc,hr,hb⟩:=hrel
  obtain⟨xo,xc,rfl⟩:=hacc.slice
  have hzw:=hb.size
  have HB:=hd hb
  have HACC:=hd hacc
  have HAL:=hd hal
  have hal2:acc.length≤1000:=by omega
  have hal3:acc.length≤rows.length:=by omega
  clear hb hacc hal
  by_cases hlt:k < rows.length
  ·obtain⟨g,cap',ra,rc,hv,hg,c0,hrow⟩:=(HRO.out.below HB.out).at k hlt
   simp only[Value.slice.injEq] at hv
   obtain⟨rfl,-,rfl⟩:=hv
   have hst:=Sq.jQfb cols sets rows acc k hlt
   have hrok:=HMOK.out rows[k] (List.getElem_mem hlt)
   obtain⟨row,hrw⟩:∃x,x=rows[k]:=⟨_,rfl⟩
   rw[←hrw] at hst c0 hrow hrok
   obtain⟨p,hp⟩:∃x,x=Sq.assigned cols row sets:=⟨_,rfl⟩
   rw[←hp] at hst
   obtain⟨nrow,ok⟩:=p
   have HR2:Hid (Sq.updateFrom cols sets rows []=if ok then Sq.updateFrom cols sets (rows.drop (k+1)) (acc++[nrow]) else none):=hr.out.trans hst
   have HP:=hd hp
   have HROW:=hd hrow
   have HROK:=hd hrok
   have a1':=(HB.out.cell (p:=⟨w.heap.size,2,none⟩) (by show w.heap.size < _;omega)).trans a1
   have hbwr:Below w.heap.size w wr:=hbw.trans (HB.out.mono (by omega))
   have hzA:w.heap.size < wr.heap.size:=by omega
   have hzB:w.heap.size+1 < wr.heap.size:=by omega
   clear hst hrow hrw hp hrok hr
   go_wp2
   go_cut [9,10] from 11 to 34 (fun pv ov wx=>∃vb x,pv=.pointer (some ⟨vb,0,none⟩)∧ov=.bool ok∧Below wr.heap.size wr wx∧wr.heap.size≤vb∧vb < wx.heap.size∧wx.cell? ⟨vb,0,none⟩=some x∧RowNew wr.heap.size wx x nrow)
   case first =>
    go_region_with (go_at_call 120;first | (refine(jQe6 cols row sets _ _ _ wr.drew (HC.out.below hbwr.drew) (HROW.out.below (Below.drew (Below.refl _ _))) (HS.out.below hbwr.drew) HROK.out HOKS.out).mono ?_;rintro e w2 ⟨nv,rfl,hnr,hb2⟩;rw[←HP.out] at hnr;rw[←HP.out];obtain⟨no,ncap,rfl⟩:=jQa hnr.1;have hb2':Below wr.heap.size wr w2:=(Below.drew (Below.refl _ _)).trans hb2;have HNR:=hd hnr;have hb2s:=hb2'.size;clear hb2 hnr) | (refine(jQe6 cols row sets _ _ _ (wr.drew.alloc _) (HC.out.below (Below.alloc (B:=w.heap.size) hbwr.drew (by simp;omega) _)) (HROW.out.below (Below.alloc (B:=wr.heap.size) (Below.drew (Below.refl _ _)) (Nat.le_refl _) _)) (HS.out.below (Below.alloc (B:=w.heap.size) hbwr.drew (by simp;omega) _)) HROK.out HOKS.out).mono ?_;rintro e w2 ⟨nv,rfl,hnr,hb2⟩;rw[←HP.out] at hnr;rw[←HP.out];obtain⟨no,ncap,rfl⟩:=jQa hnr.1;obtain⟨k1,k2⟩:=bcell hb2;have e0:=k1 wr.heap.size 0 (by simp);have g0:=k2 wr.heap.size 0 (by simp);have e9:=hb2.block wr.heap.size (by simp);simp[go_sem] at e0 g0;have hz:wr.heap.size < w2.heap.size:=(by have:=hb2.size;simp at this;omega);have hb2':Below wr.heap.size wr w2:=(Below.alloc (B:=wr.heap.size) (Below.drew (Below.refl _ _)) (Nat.le_refl _) _).trans (hb2.mono (by simp));have hb2s:=hb2'.size;have HNR:=hd hnr;have HE9:=hd e9;clear hb2 k1 k2 hnr e9))
    all_goals(try go_wp2_with fail)
    all_goals go_meet
    all_goals exact⟨_,_,rfl,rfl,(by first | exact Below.alloc (B:=wr.heap.size) hb2' hb2'.size _ | exact Below.setCell (B:=wr.heap.size) hb2' (Nat.le_refl _) _),(by first | exact Nat.le_refl _ | exact hb2'.size),(by simp[*]),(by simp[go_sem, *];rfl),(by first | exact⟨jQh (jQi HNR.out.1 (by simp)) ((Below.refl _ _).alloc (Nat.le_refl _) _),HNR.out.2⟩ | exact⟨jQn (jQi HNR.out.1 (by simp)) (fun k hk=>jQe (fun e=>by have:=(World.ownsRow.lt HNR.out.1 k hk).1;simp at this;omega)),HNR.out.2⟩)⟩
   case rest =>
    obtain⟨vb,x,rfl,rfl,hb2',hvb1,hvb2,v0,hnr⟩:=hcut
    obtain⟨no,ncap,rfl⟩:=jQa hnr.1
    have hz2':=hb2'.size
    have HBC:=hd hb2'
    have HNR:=hd hnr
    have hblk2:=(hb2'.block (w.heap.size+1) (by omega)).trans ((HB.out.block (w.heap.size+1) (by omega)).trans HBLK.out)
    have HBLK2:=hd hblk2
    have hbwc:Below w.heap.size w wc:=hbwr.trans (hb2'.mono (by omega))
    have HBWC:=hd hbwc
    clear hb2' hnr hblk2 hbwr c0 a1' hbwc
    cases ok
    case false =>
     have HE3:Hid (Sq.updateR ⟨a,tnm,cols⟩ rows sets=Sq.refusedR 9):=by show _=_;rw[HE2.out,HR2.out];rfl
     go_wp2_with fail
     refine(jQaj 9 _ (by omega) (by omega) (HT.out.below HBWC.out)).mono ?_
     rintro e w3 ⟨rfl,hb3⟩
     have hblk3:=(hb3.block (w.heap.size+1) (by omega)).trans HBLK2.out
     obtain⟨d0,d1,d2,d3,d4,d5,d6⟩:=jQK hblk3
     obtain⟨f0,f1,f2,f3,f4,f5,f6⟩:=jQw hblk3
     have hz3:=hb3.size
     have HB3:=hd hb3
     have hz4:w.heap.size+1 < w3.heap.size:=by omega
     clear hb3 hblk3
     unfold outCells
     go_wp2
     refine bodyPost_ret (v:=.agg (outCells (Sq.refusedR 9) (.slice none 0 0) (.slice none 0 0) (.slice none 0 0))) (by simp[results,Tryz.results77,go_sem,outCells, *]) rfl ⟨_,_,_,by rw[HE3.out],by rw[HE3.out];exact OutAt.none _ _ rfl rfl rfl,?_⟩
     exact jQA (HBWC.out.trans (HB3.out.mono (by omega))) (by omega) _ _ _ _ _ _ _
    case true =>
     have HR4:Hid (Sq.updateFrom cols sets rows []=Sq.updateFrom cols sets (rows.drop (k+1)) (acc++[nrow])):=HR2.out
     obtain⟨rvs,ho,hrs⟩:=HACC.out.below HBC.out
     have hlr:rvs.length=acc.length:=by have:=ho.1;omega
     have HLR:=hd hlr
     have HOA:=hd (ho.alloc (.cells #[.slice no nrow.length ncap] 138))
     have HRS:=hd hrs
     clear ho hrs hlr HR2
     go_wp2_with (at_builtin;refine wpList_append_lies _ rfl (.tmp 31) (.tmp 33) 95 rfl w1.heap.size 138 i0 _ 1 24 Tryz.underlying95 hi hz0 hz1 hz2 rfl (by decide) _ acc.length rvs rfl HOA.out ⟨wc.heap.size,0,none⟩ 1 1 [.slice no nrow.length ncap] rfl rfl (by exact jQB wc _ _ _ rfl rfl) (by intro u hu;simp at hu;subst hu;rfl) (by decide) (by unfold maxLen;omega) (by omega) (by simp;omega) _ rfl ?_;intro gg cap3 w3 hown3 hgrow3 hat3 hlt3;have HO3:=hd hown3;have HG3:=hd hgrow3;clear hown3 hgrow3 hat3)
     have hW2:Below wc.heap.size wc (wc.alloc (.cells #[.slice no nrow.length ncap] 138)):=(Below.refl _ _).alloc (Nat.le_refl _) _
     have hrel':RowsOwn w1.heap.size w3 (.slice (some ⟨gg,0,none⟩) (acc.length+1) cap3) (acc++[nrow]) :=
      RowsOwn.snoc HO3.out HLR.out (fun i r hi=>let ⟨x,h4,h5⟩:=HRS.out i r hi;⟨x,h4,(h5.below hW2).grown HOA.out HG3.out⟩) ((HNR.out.row.below hW2).grown HOA.out HG3.out)
     have hbel:Below w1.heap.size w1 w3 :=
      (HB.out.trans (HBC.out.mono hzw)).trans ((Below.mono (B':=w1.heap.size) hW2 (by omega)).trans (Tch.of_grown HG3.out (fun k hk=>(HOA.out.lt k hk).1) (by simp;omega)))
     have HREL:=hd hrel'
     have HBEL:=hd hbel
     clear hW2 hrel' hbel
     go_roundw
     case rel =>
      have CL:k+1≤rows.length∧Value.int .i64 ((k:Int)+1)=.int .i64 ((k+1:Nat):Int)∧(acc++[nrow]).length=k+1∧RowsOwn w1.heap.size w3 (.slice (some ⟨gg,0,none⟩) (acc.length+1) cap3) (acc++[nrow])∧Hid (Sq.updateFrom cols sets rows []=Sq.updateFrom cols sets (rows.drop (k+1)) (acc++[nrow]))∧Below w1.heap.size w1 w3 :=
       ⟨by omega,by go_num,by rw[List.length_append,List.length_singleton,HAL.out],HREL.out,HR4,HBEL.out⟩
      first
       | exact⟨k+1,acc++[nrow],CL⟩
       | ((repeat apply Exists.intro);exact⟨⟨k+1,acc++[nrow],CL⟩,rfl⟩)
     case measure=>simp[intOf];omega
  ·have HE3:Hid (Sq.updateR ⟨a,tnm,cols⟩ rows sets=⟨Sq.counted acc.length,false,⟨a,tnm,cols⟩,acc,[]⟩):=by show _=_;rw[HE2.out,hr.out,List.drop_eq_nil_of_le (by omega)];rfl
   have hblk2:=(HB.out.block (w.heap.size+1) (by omega)).trans HBLK.out
   have HBLK2:=hd hblk2
   have hbw2:Below w.heap.size w wr:=hbw.trans (HB.out.mono (by omega))
   have HBW2:=hd hbw2
   clear hr hblk2 hbw2
   have hbox2:=(HB.out.block (w.heap.size) (by omega)).trans HBOX.out
   obtain⟨q0',q1',q2',-,-,-⟩:=tab3 hbox2
   have HBOX2:=hd hbox2
   have hzA:w.heap.size < wr.heap.size:=by omega
   obtain⟨wo,rfl⟩:∃wo:World,wo=wr:=⟨_,rfl⟩
   clear hbox2 a0 a1
   go_wp2
   go_region_with (go_at_call 109;refine(jQaT acc.length _ (by omega) (by omega) (HT.out.below HBW2.out.drew)).mono ?_;rintro e w3 ⟨rfl,hb3⟩;have hb3':Below wo.heap.size wo w3:=(Below.drew (Below.refl _ _)).trans hb3;have hblk3:=(hb3'.block (w.heap.size+1) (by omega)).trans HBLK2.out;obtain⟨d0,d1,d2,d3,d4,d5,d6⟩:=jQK hblk3;obtain⟨f0,f1,f2,f3,f4,f5,f6⟩:=jQw hblk3;obtain⟨p0,p1,p2,-,-,-⟩:=tab3 ((hb3'.block w.heap.size hzA).trans HBOX2.out);have hz3:=hb3'.size;have HB3:=hd hb3';have HBLK3:=hd hblk3;have hz4:w.heap.size+1 < w3.heap.size:=(by omega);have hz5:w.heap.size < w3.heap.size:=(by omega);clear hb3 hb3' hblk3)
   all_goals(try go_wp2)
   all_goals
    refine bodyPost_ret (v:=.agg (outCells ⟨Sq.counted acc.length,false,⟨a,tnm,cols⟩,acc,[]⟩ (.slice q1 cols.length c1) (.slice xo acc.length xc) (.slice none 0 0))) (by simp[results,Tryz.results77,go_sem,outCells,Sq.nobytes, *]) rfl ⟨_,_,_,by rw[HE3.out],?_,?_⟩
    ·rw[HE3.out]
     refine⟨ColsAt.out ((HC.out.below HBW2.out).below HB3.out) HBLK3.out (by decide) (fun g hg=>jQq _ _ _ _ _ _ _ _ _ hg),?_,World.ownsRow_nil _ _ _ _,by show acc.length≤_;omega,by simp⟩
     exact RowsOwn.base (RowsOwn.out (HACC.out.below HB3.out) HBLK3.out (by decide) (by decide) (fun g hg=>jQq _ _ _ _ _ _ _ _ _ hg)) (Nat.zero_le _)
    ·exact jQA (HBW2.out.trans (HB3.out.mono (by omega))) (by omega) _ _ _ _ _ _ _
end
end Go.Proofs.YtahpihjialbanaaGreatDoor
