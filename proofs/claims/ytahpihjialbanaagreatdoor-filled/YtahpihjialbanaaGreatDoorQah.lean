import Derived.Deep.CutRange
import Derived.Test.YtahpihjialbanaaGreatDoorQag
set_option linter.unusedVariables false
set_option linter.unusedSimpArgs false
set_option maxRecDepth 100000
set_option maxHeartbeats 2000000
namespace Go.Proofs.YtahpihjialbanaaGreatDoor
section
open Go.RowKit
theorem Sq.jQgP (cols:List Sq.Col)(old row:List Sq.Val)(s:Sq.SetS):(Sq.assignStep cols old row s).length=row.length:=by
 unfold Sq.assignStep;split <;> simp
theorem jQe6 (cols:List Sq.Col)(old:List Sq.Val)(sets:List Sq.SetS)(cv rv sv:Value)(w:World)(h:ColsAt w cv cols)(hr:RowAt w rv old)(hs:SetsAt w sv sets)(hok:Sq.okRow old)(hoks:∀s∈sets,Sq.okSet s) :
  Calls Tryz.prog 120 #[cv,.agg #[rv],sv] w fun e w'=>∃v,e=.returned (.tuple #[.agg #[v],.bool (Sq.assigned cols old sets).2])∧RowNew w.heap.size w' v (Sq.assigned cols old sets).1∧Below w.heap.size w w':=by
 obtain⟨ao,acap,rfl⟩:=jQa hr.1
 obtain⟨bo,bap,rfl⟩:=jQa hs.1
 have hl:=h.2
 have hl2:=hr.2
 have hl3:=hs.2
 have H:=hd h
 have HR:=hd hr
 have HS:=hd hs
 have HOK:=hd hok
 have HOKS:=hd hoks
 have hW:∀o o2,Below w.heap.size w ((w.alloc o).alloc o2):=fun o o2=>((Below.refl _ _).alloc (Nat.le_refl _) _).alloc (by simp) _
 have HW:=hd hW
 clear h hr hs hok hoks hW
 go_enter Tryz.func120,Tryz.ntmps120
 go_wp2_with fail
 refine(jQrA old _ _ (HR.out.below (HW.out _ _))).mono ?_
 rintro e w1 ⟨g,gcap,rfl,hnew,hb1⟩
 rw[jQdl] at hnew hb1
 have hg1:g < w1.heap.size∧w.heap.size+1+1≤g:=⟨(World.ownsRow.lt hnew.1 g rfl).2,(World.ownsRow.lt hnew.1 g rfl).1⟩
 obtain⟨hg1,hg2⟩:=hg1
 have HNEW:=hd hnew
 have HB1:=hd hb1
 have hz1:=hb1.size
 rw[jQdl] at hz1
 clear hnew hb1
 go_wp2
 go_loopw [9] (fun i wr=>∃k:Nat,∃row:List Sq.Val,k≤sets.length∧i=.int .i64 k∧row.length=old.length∧w1.heap.size < wr.heap.size∧wr.cell? ⟨w1.heap.size,0,none⟩=some (.slice (some ⟨g,0,none⟩) old.length gcap)∧RowNew (w.heap.size+1+1) wr (.slice (some ⟨g,0,none⟩) old.length gcap) row∧Hid (Sq.assigned cols old sets=Sq.assignFrom cols old (sets.drop k) row)∧Below (w.heap.size+1+1) ((w.alloc (.cells #[.slice ao old.length acap] 138)).alloc (.cells #[.slice none 0 0] 138)) wr) (fun i _=>sets.length - (intOf i).toNat)
 case atStart=>exact⟨0,old,Nat.zero_le _,rfl,rfl,by simp,by simp[go_sem],⟨jQh HNEW.out.1 ((Below.refl _ _).alloc (Nat.le_refl _) _),hl2⟩,rfl,Below.alloc (B:=w.heap.size+1+1) HB1.out (by omega) _⟩
 case round =>
  obtain⟨k,row,hk,rfl,hrl,hzr,r0,hnew,hr,hb⟩:=hrel
  have hbw:Below w.heap.size w wr:=(HW.out _ _).trans (hb.mono (by omega))
  have a0:=hb.cell (p:=⟨w.heap.size,0,none⟩) (by simp;omega)
  have b0:=hb.cell (p:=⟨w.heap.size+1,0,none⟩) (by simp)
  have bf:=hb.frozen (p:=⟨w.heap.size+1,0,none⟩) (by simp)
  simp[go_sem] at a0 b0 bf
  have HB:=hd hb
  have HN:=hd hnew
  have HRL:=hd hrl
  have hzA:w.heap.size < wr.heap.size:=by omega
  have hzB:w.heap.size+1 < wr.heap.size:=by omega
  have hgr:g < wr.heap.size:=by omega
  clear hb hnew hrl
  by_cases hlt:k < sets.length
  ·obtain⟨q,qcap,hv,hq,hc⟩:=sl_at (f:=Sq.SetS.cells) (fun _=>rfl) (HS.out.below hbw).1 k hlt
   simp only[Value.slice.injEq] at hv
   obtain⟨rfl,-,rfl⟩:=hv
   have hst:=Sq.jQfn cols old row sets k hlt
   have hsk:=HOKS.out sets[k] (List.getElem_mem hlt)
   have HAL:=Sq.jQgP cols old row sets[k]
   obtain⟨s,hse⟩:∃x,x=sets[k]:=⟨_,rfl⟩
   rw[←hse] at hst hsk hc HAL
   have HR2:Hid (Sq.assigned cols old sets=if(Sq.result cols old s).2 then Sq.assignFrom cols old (sets.drop (k+1)) (Sq.assignStep cols old row s) else([],false)):=hr.out.trans hst
   have HAS:Hid (Sq.assignStep cols old row s=if Sq.find cols s.column < 0 then row else row.set (Sq.find cols s.column).toNat (Sq.result cols old s).1):=rfl
   have HSK:=hd hsk
   have HALN:=hd HAL
   clear hst hsk hse hr HAL
   obtain⟨p,hp⟩:∃x,x=Sq.result cols old s:=⟨_,rfl⟩
   have hr2:=HR2.out
   have has:=HAS.out
   rw[←hp] at hr2 has
   have HR3:=hd hr2
   have HAS2:=hd has
   have HP:=hd hp
   obtain⟨⟨vk,vn,vt⟩,ok⟩:=p
   obtain⟨cn,⟨lc,⟨lk,ln,lt⟩⟩,sg,⟨rc,⟨rk,rn,rt⟩⟩⟩:=s
   have c0:=hc 0 _ (by decide) rfl
   have c1:=hc 1 _ (by decide) rfl
   have c2:=hc 2 _ (by decide) rfl
   have c3:=hc 3 _ (by decide) rfl
   have c4:=hc 4 _ (by decide) rfl
   have c5:=hc 5 _ (by decide) rfl
   have c6:=hc 6 _ (by decide) rfl
   have c7:=hc 7 _ (by decide) rfl
   have c8:=hc 8 _ (by decide) rfl
   have c9:=hc 9 _ (by decide) rfl
   simp only[Nat.add_zero] at c0
   clear hc hr2 has hp HR2 HAS
   go_wp2
   go_cut [10,11] from 15 to 54 (fun pv ov wx=>∃vb,pv=.pointer (some ⟨vb,0,none⟩)∧ov=.bool ok∧Below wr.heap.size wr wx∧wr.heap.size≤vb∧vb < wx.heap.size∧wx.cell? ⟨vb,0,none⟩=some (.int .i64 vk)∧wx.cell? ⟨vb,1,none⟩=some (.int .i64 vn)∧wx.cell? ⟨vb,2,none⟩=some (.string vt))
   case first =>
    go_region_with (go_at_call 164;first | (refine(jQhk cols old cv _ ⟨cn,⟨lc,⟨lk,ln,lt⟩⟩,sg,⟨rc,⟨rk,rn,rt⟩⟩⟩ wr.drew (H.out.below hbw.drew) (HR.out.below hbw.drew) HOK.out HSK.out.1 HSK.out.2).mono ?_;rintro e w2 ⟨rfl,hb2⟩;rw[←HP.out];unfold Sq.Val.cells;have hb2':Below wr.heap.size wr w2:=(Below.drew (Below.refl _ _)).trans hb2;clear hb2) | (refine(jQhk cols old cv _ ⟨cn,⟨lc,⟨lk,ln,lt⟩⟩,sg,⟨rc,⟨rk,rn,rt⟩⟩⟩ (wr.drew.alloc _) (H.out.below (Below.alloc (B:=w.heap.size) hbw.drew (by simp;omega) _)) (HR.out.below (Below.alloc (B:=w.heap.size) hbw.drew (by simp;omega) _)) HOK.out HSK.out.1 HSK.out.2).mono ?_;rintro e w2 ⟨rfl,hb2⟩;rw[←HP.out];unfold Sq.Val.cells;obtain⟨k1,k2⟩:=bcell hb2;have e0:=k1 wr.heap.size 0 (by simp);have e1:=k1 wr.heap.size 1 (by simp);have e2:=k1 wr.heap.size 2 (by simp);have g0:=k2 wr.heap.size 0 (by simp);have g1:=k2 wr.heap.size 1 (by simp);have g2:=k2 wr.heap.size 2 (by simp);simp[go_sem] at e0 e1 e2 g0 g1 g2;have hz:wr.heap.size < w2.heap.size:=(by have:=hb2.size;simp at this;omega);have hb2':Below wr.heap.size wr w2:=(Below.alloc (B:=wr.heap.size) (Below.drew (Below.refl _ _)) (Nat.le_refl _) _).trans (hb2.mono (by simp));clear hb2 k1 k2))
    all_goals(try go_wp2_with fail)
    all_goals go_meet
    all_goals exact⟨_,rfl,rfl,(by first | exact Below.alloc (B:=wr.heap.size) hb2' hb2'.size _ | exact jQaE (b:=wr.heap.size) hb2' (Nat.le_refl _) _ _ _),(by first | exact Nat.le_refl _ | exact hb2'.size),(by simp[*]),(by simp[go_sem, *]),(by simp[go_sem, *]),(by simp[go_sem, *])⟩
   case rest =>
    obtain⟨vb,rfl,rfl,hb2',hvb1,hvb2,v0,v1,v2⟩:=hcut
    have hz2:=hb2'.size
    have c0':=((bcell hb2').1 q (k * 10) hq).trans c0
    have b0':=((bcell hb2').1 (w.heap.size+1) 0 hzB).trans b0
    have bf':=((bcell hb2').2 (w.heap.size+1) 0 hzB).trans bf
    have r0':=((bcell hb2').1 w1.heap.size 0 hzr).trans r0
    have HNC:Hid (RowNew (w.heap.size+1+1) wc (.slice (some ⟨g,0,none⟩) old.length gcap) row):=⟨jQh HN.out.1 hb2',HN.out.2⟩
    have HBC:=hd (HB.out.trans (hb2'.mono (by omega)))
    have hbwc:Below w.heap.size w wc:=hbw.trans (hb2'.mono (by omega))
    have HBWC:=hd hbwc
    have hzr':w1.heap.size < wc.heap.size:=by omega
    have hzB':w.heap.size+1 < wc.heap.size:=by omega
    have hq':q < wc.heap.size:=by omega
    have hgc:g < wc.heap.size:=by omega
    clear c0 c1 c2 c3 c4 c5 c6 c7 c8 c9 a0 b0 bf r0 hb2' hbwc hbw HN HB
    cases ok
    case false =>
     have HE:Hid (Sq.assigned cols old sets=([],false)):=HR3.out
     go_wp2
     refine bodyPost_ret (v:=.tuple #[.agg #[.slice none 0 0],.bool false]) (by simp[results,Tryz.results120,go_sem, *]) rfl ⟨_,by rw[HE.out],by rw[HE.out];exact⟨World.ownsRow_nil _ _ _ _,by simp⟩,?_⟩
     exact Below.setCell (B:=w.heap.size) HBWC.out (by simp) _
    case true =>
     have HR4:Hid (Sq.assigned cols old sets=Sq.assignFrom cols old (sets.drop (k+1)) (Sq.assignStep cols old row ⟨cn,⟨lc,⟨lk,ln,lt⟩⟩,sg,⟨rc,⟨rk,rn,rt⟩⟩⟩)):=HR3.out
     have HA5:Hid (Sq.assignStep cols old row ⟨cn,⟨lc,⟨lk,ln,lt⟩⟩,sg,⟨rc,⟨rk,rn,rt⟩⟩⟩=if Sq.find cols cn < 0 then row else row.set (Sq.find cols cn).toNat ⟨vk,vn,vt⟩):=HAS2.out
     clear HR3 HAS2
     rcases Sq.jQc0 cols cn with hf | ⟨m,hm,hf⟩
     ·have HST:Hid (Sq.assignStep cols old row ⟨cn,⟨lc,⟨lk,ln,lt⟩⟩,sg,⟨rc,⟨rk,rn,rt⟩⟩⟩=row):=by show _=_;rw[HA5.out,hf];rfl
      have HF:=hd hf
      clear hf
      go_wp2_with (go_at_call 148;refine(jQaD cols _ cn _ (H.out.below HBWC.out).1 hl).mono ?_;rintro e w' ⟨rfl,hw'⟩;rw[HF.out,hw'];clear hw' w')
      go_roundw
      case rel =>
       have CL:k+1≤sets.length∧Value.int .i64 ((k:Int)+1)=.int .i64 ((k+1:Nat):Int)∧row.length=old.length∧w1.heap.size < wc.heap.size∧wc.cell? ⟨w1.heap.size,0,none⟩=some (.slice (some ⟨g,0,none⟩) old.length gcap)∧RowNew (w.heap.size+1+1) wc (.slice (some ⟨g,0,none⟩) old.length gcap) row∧Hid (Sq.assigned cols old sets=Sq.assignFrom cols old (sets.drop (k+1)) row)∧Below (w.heap.size+1+1) ((w.alloc (.cells #[.slice ao old.length acap] 138)).alloc (.cells #[.slice none 0 0] 138)) wc :=
        ⟨by omega,by go_num,HRL.out,hzr',r0',HNC.out,by have:=HR4.out;rw[HST.out] at this;exact this,HBC.out⟩
       first
        | exact⟨k+1,row,CL⟩
        | ((repeat apply Exists.intro);exact⟨⟨k+1,row,CL⟩,rfl⟩)
      case measure=>simp[intOf];omega
     ·have HF:=hd hf
      by_cases hmo:m < old.length
      ·have hmr:m < row.length:=by rw[HRL.out];exact hmo
       have HST:Hid (Sq.assignStep cols old row ⟨cn,⟨lc,⟨lk,ln,lt⟩⟩,sg,⟨rc,⟨rk,rn,rt⟩⟩⟩=row.set m ⟨vk,vn,vt⟩):=by show _=_;rw[HA5.out,hf,if_neg (by omega),Int.toNat_natCast]
       have hnw:=HNC.out.1
       rw[HRL.out] at hnw
       have hfr0:=jQet hnw (m * 3)
       have hfr1:=jQet hnw (m * 3+1)
       have hfr2:=jQet hnw (m * 3+2)
       have hset:=jQqF hnw ⟨vk,vn,vt⟩ m hmr
       obtain⟨g',gc',hv,hg',hcc⟩:=sl_at (f:=Sq.Val.cells) (fun _=>rfl) HNC.out.1 m hmr
       rw[HRL.out] at hv
       simp only[Value.slice.injEq,Option.some.injEq,Addr.mk.injEq] at hv
       obtain⟨⟨rfl,-,-⟩,-,rfl⟩:=hv
       have y0:=hcc 0 (.int .i64 row[m].kind) (by decide) rfl
       have y1:=hcc 1 (.int .i64 row[m].number) (by decide) rfl
       have y2:=hcc 2 (.string row[m].text) (by decide) rfl
       simp only[Nat.add_zero] at y0
       have HSET:=hd hset
       have r1':=(jQpw (jQD (w1:=wc) (b:=g) (c:=w1.heap.size) (by omega) (m * 3) (m * 3+1) (m * 3+2) (.int .i64 vk) (.int .i64 vn) (.string vt)) 0).trans r0'
       have R1:=hd r1'
       have hsl:(row.set m ⟨vk,vn,vt⟩).length=old.length:=by rw[List.length_set];exact HRL.out
       have HSL:=hd hsl
       clear hf hnw hset hcc r1' hsl
       go_wp2_with (go_at_call 148;refine(jQaD cols _ cn _ (H.out.below HBWC.out).1 hl).mono ?_;rintro e w' ⟨rfl,hw'⟩;rw[HF.out,hw'];clear hw' w')
       go_roundw
       case rel =>
        have CL:k+1≤sets.length∧Value.int .i64 ((k:Int)+1)=.int .i64 ((k+1:Nat):Int)∧(row.set m ⟨vk,vn,vt⟩).length=old.length∧w1.heap.size < (((wc.setCell ⟨g,m * 3,none⟩ (.int .i64 vk)).setCell ⟨g,m * 3+1,none⟩ (.int .i64 vn)).setCell ⟨g,m * 3+2,none⟩ (.string vt)).heap.size∧(((wc.setCell ⟨g,m * 3,none⟩ (.int .i64 vk)).setCell ⟨g,m * 3+1,none⟩ (.int .i64 vn)).setCell ⟨g,m * 3+2,none⟩ (.string vt)).cell? ⟨w1.heap.size,0,none⟩=some (.slice (some ⟨g,0,none⟩) old.length gcap)∧RowNew (w.heap.size+1+1) (((wc.setCell ⟨g,m * 3,none⟩ (.int .i64 vk)).setCell ⟨g,m * 3+1,none⟩ (.int .i64 vn)).setCell ⟨g,m * 3+2,none⟩ (.string vt)) (.slice (some ⟨g,0,none⟩) old.length gcap) (row.set m ⟨vk,vn,vt⟩)∧Hid (Sq.assigned cols old sets=Sq.assignFrom cols old (sets.drop (k+1)) (row.set m ⟨vk,vn,vt⟩))∧Below (w.heap.size+1+1) ((w.alloc (.cells #[.slice ao old.length acap] 138)).alloc (.cells #[.slice none 0 0] 138)) (((wc.setCell ⟨g,m * 3,none⟩ (.int .i64 vk)).setCell ⟨g,m * 3+1,none⟩ (.int .i64 vn)).setCell ⟨g,m * 3+2,none⟩ (.string vt)) :=
         ⟨by omega,by go_num,HSL.out,by simp;omega,R1.out,⟨by rw[HSL.out];exact HSET.out,by rw[HSL.out];exact hl2⟩,by have:=HR4.out;rw[HST.out] at this;exact this,jQkp HBC.out hg2 _ _ _ _ _ _⟩
        first
         | exact⟨k+1,row.set m ⟨vk,vn,vt⟩,CL⟩
         | ((repeat apply Exists.intro);exact⟨⟨k+1,row.set m ⟨vk,vn,vt⟩,CL⟩,rfl⟩)
       case measure=>simp[intOf];omega
      ·have HST:Hid (Sq.assignStep cols old row ⟨cn,⟨lc,⟨lk,ln,lt⟩⟩,sg,⟨rc,⟨rk,rn,rt⟩⟩⟩=row):=by show _=_;rw[HA5.out,hf,if_neg (by omega),Int.toNat_natCast,List.set_eq_of_length_le (by rw[HRL.out];omega)]
       clear hf
       go_wp2_with (go_at_call 148;refine(jQaD cols _ cn _ (H.out.below HBWC.out).1 hl).mono ?_;rintro e w' ⟨rfl,hw'⟩;rw[HF.out,hw'];clear hw' w')
       go_roundw
       case rel =>
        have CL:k+1≤sets.length∧Value.int .i64 ((k:Int)+1)=.int .i64 ((k+1:Nat):Int)∧row.length=old.length∧w1.heap.size < wc.heap.size∧wc.cell? ⟨w1.heap.size,0,none⟩=some (.slice (some ⟨g,0,none⟩) old.length gcap)∧RowNew (w.heap.size+1+1) wc (.slice (some ⟨g,0,none⟩) old.length gcap) row∧Hid (Sq.assigned cols old sets=Sq.assignFrom cols old (sets.drop (k+1)) row)∧Below (w.heap.size+1+1) ((w.alloc (.cells #[.slice ao old.length acap] 138)).alloc (.cells #[.slice none 0 0] 138)) wc :=
         ⟨by omega,by go_num,HRL.out,hzr',r0',HNC.out,by have:=HR4.out;rw[HST.out] at this;exact this,HBC.out⟩
        first
         | exact⟨k+1,row,CL⟩
         | ((repeat apply Exists.intro);exact⟨⟨k+1,row,CL⟩,rfl⟩)
       case measure=>simp[intOf];omega
  ·have HE:Hid (Sq.assigned cols old sets=(row,true)):=by show _=_;rw[hr.out,List.drop_eq_nil_of_le (by omega)];rfl
   clear hr
   go_wp2
   refine bodyPost_ret (v:=.tuple #[.agg #[.slice (some ⟨g,0,none⟩) old.length gcap],.bool true]) (by simp[results,Tryz.results120,go_sem, *]) rfl ⟨_,by rw[HE.out],?_,?_⟩
   ·rw[HE.out]
    refine⟨?_,HN.out.2⟩
    exact jQi (jQn HN.out.1 fun k hk=>jQe (fun e=>by have:=(World.ownsRow.lt HN.out.1 k hk).1;omega)) (by omega)
   ·exact Below.setCell (B:=w.heap.size) hbw (by simp) _
end
end Go.Proofs.YtahpihjialbanaaGreatDoor
