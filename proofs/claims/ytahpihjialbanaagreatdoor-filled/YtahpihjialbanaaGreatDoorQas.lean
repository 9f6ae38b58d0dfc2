import Derived.Test.YtahpihjialbanaaGreatDoorQar
set_option linter.unusedVariables false
set_option linter.unusedSimpArgs false
set_option maxRecDepth 100000
set_option maxHeartbeats 4000000
namespace Go.Proofs.YtahpihjialbanaaGreatDoor
section
open Go.RowKit
variable {Z:Nat→Prop}
theorem jQox (w:World)(b:Nat)(x0 x1 x2 x3 x4 x5 x6:Value):(set7 w b x0 x1 x2 x3 x4 x5 x6).heap.size=w.heap.size:=by simp[set7]
theorem jQd5 {w:World}{k:Nat}(h:k=w.heap.size)(o:Obj):(w.alloc o).heap[k]?=some o:=by rw[h];exact jQaB w o
theorem jQbR {tb b:Nat}{w w1 w2:World}(h:TFrm tb w w1)(k:Below w1.heap.size w1 w2)(hs:w.heap.size≤w1.heap.size)(ht:tb≤w.heap.size)(hb:w.heap.size≤b)(x0 x1 x2 x3 x4 x5 x6:Value):TFrm tb w (set7 w2 b x0 x1 x2 x3 x4 x5 x6) :=
 (h.trans (TFrm.of k (by omega))).set7 hb (by omega) _ _ _ _ _ _ _
theorem jQbP {tb b:Nat}{w:World}{tr:Sq.Trl}{c:Array Value}(h:TrAt tb w tr)(hb:w.heap[b]?=some (.cells c 98))(x0 x1 x2 x3 x4 x5 x6:Value):TrAt tb (set7 w b x0 x1 x2 x3 x4 x5 x6) tr:=by
 refine h.keeps (e0:=98) ?_ (by decide) (by decide)
 intro q cq e fr hq he
 refine jQq _ _ _ _ _ _ _ _ _ fun e2=>?_
 subst e2
 rw[hb] at hq
 simp only[Option.some.injEq,Obj.cells.injEq] at hq
 exact he hq.2.1.symm
theorem jQkY (K:Int)(hK:K≤99999)(X:Sq.NTree)(ev cv':Value)(t:Sq.TabN)(tv vv:Value)(vals:List Sq.Val)(tb:Nat)(tr:Sq.Trl)(w:World)(h:NodeAt Z w X.d X.t ev cv')(hf:Sq.TameT K 800000000 X)(ht:TrAt tb w tr)(hr:Sq.TameR K tr)(hn0:0≤t.number)(hn1:t.number≤100000)(htc:ColsAt w tv t.cols)
  (hv:RowAt w vv vals) (hvs:∀v∈vals,v.text.size≤1000∧-100000000000≤v.number∧v.number≤100000000000) (hT:Tbl w) (hL:Low tb) :
  Calls Tryz.prog 74 #[.agg (headCells X.head ev cv').toArray,.agg #[.int .i64 t.number,.string t.name,tv],vv,.pointer (some ⟨tb,0,none⟩)] w (OutSays tb (Sq.insertR X t vals tr) w):=by
 obtain⟨⟨e1,e2,e3,hev⟩,c1,c2,c3,hcv⟩:=h.slices
 subst hev hcv
 obtain⟨vo,vcap,rfl⟩:=jQa hv.1
 obtain⟨to',tcap,rfl⟩:=jQa htc.1
 have hkb:=Sq.jQm1 hvs
 have hlt:=ht.lt
 have hE:Sq.insertR X t vals tr=(Sq.insertO (X.has (Sq.placeOf t.number (Sq.keyOf vals)) tr).1 X.head.rows t vals,(X.has (Sq.placeOf t.number (Sq.keyOf vals)) tr).2):=rfl
 have hkh:∀w',Below w.heap.size w w'→Calls Tryz.prog 114 #[.agg (headCells X.head (.slice e1 e2 e3) (.slice c1 c2 c3)).toArray,.int .i64 t.number,.int .i64 (Sq.keyOf vals),.pointer (some ⟨tb,0,none⟩)] w' fun e w''=>e=.returned (.bool (X.has (Sq.placeOf t.number (Sq.keyOf vals)) tr).1)∧TrAt tb w'' (X.has (Sq.placeOf t.number (Sq.keyOf vals)) tr).2∧TFrm tb w' w'':=fun w' hb=>jQiY K hK X _ _ t.number (Sq.keyOf vals) tb tr w' (h.below hb) hf.t (ht.below hb) hr hn0 hn1 hkb.1 hkb.2
 have hks:∀w',Calls Tryz.prog 71 #[.agg (headCells X.head (.slice e1 e2 e3) (.slice c1 c2 c3)).toArray] w' fun e w''=>e=.returned (.int .i64 X.head.rows)∧Below w'.heap.size w' w'':=fun w'=>jQdH X.head _ _ w' ⟨_,_,_,rfl⟩ ⟨_,_,_,rfl⟩
 have hrows:X.head.rows≤800000000:=hf.rows
 have hrows0:0≤X.head.rows:=(hf.t).head.2.1
 obtain⟨has,hhas⟩:∃x,x=(X.has (Sq.placeOf t.number (Sq.keyOf vals)) tr).1:=⟨_,rfl⟩
 obtain⟨tr1,htr1⟩:∃x,x=(X.has (Sq.placeOf t.number (Sq.keyOf vals)) tr).2:=⟨_,rfl⟩
 obtain⟨hh,hhe⟩:∃x,x=X.head:=⟨_,rfl⟩
 obtain⟨out,hout⟩:∃x,x=Sq.insertO has hh.rows t vals:=⟨_,rfl⟩
 rw[hE,←hhas,←htr1,←hhe,←hout]
 rw[←hhas,←htr1,←hhe] at hkh
 rw[←hhe] at hks hrows hrows0
 rw[jQc] at hkh hks ⊢
 have HE2:=hd hout
 have HKH:=hd hkh
 have HKS:=hd hks
 have HV:=hd hv
 have HT:=hd hT
 have HL:=hd hL
 have HTC:=hd htc
 clear hE hkh hks hv hT hL htc hhas htr1 hhe hout h hf ht hr hkb hvs
 obtain⟨tn,tnm,cols⟩:=t
 simp only at *
 obtain⟨W,hW⟩:∃W:World,W=(((w.alloc (.cells #[.bool hh.inner,.slice e1 e2 e3,.slice c1 c2 c3,.int .i64 hh.least,.int .i64 hh.rows,.string hh.sl,.int .i64 hh.num] 91)).alloc (.cells #[.int .i64 tn,.string tnm,.slice to' cols.length tcap] 94)).alloc (.cells #[.string ⟨#[]⟩,.bool false,.int .i64 0,.string ⟨#[]⟩,.slice none 0 0,.slice none 0 0,.slice none 0 0] 98)).alloc (.cells #[.slice vo vals.length vcap] 138):=⟨_,rfl⟩
 obtain⟨hbW,hbox,hbt,hbo,hbr⟩:=jQpi hW
 obtain⟨s0,s1,s2,s3,s4,s5,s6⟩:=jQr hbox
 obtain⟨t0,t1,t2,-,-,-⟩:=tab3 hbt
 have r0':W.cell? ⟨w.heap.size+1+1+1,0,none⟩=some (.slice vo vals.length vcap):=by rw[jQb hbr];rfl
 have hzR:=jQg hbr
 have HBW0:=hd hbW
 have HBOX:=hd hbox
 have HBT:=hd hbt
 have HBO:Hid (W.heap[w.heap.size+1+1]?=some (.cells out0 98)):=hbo
 have HBR:=hd hbr
 clear hbW hbox hbt hbo hbr
 go_enter Tryz.func74,Tryz.ntmps74
 go_wp2
 rw[←hW]
 clear hW
 go_cut [18] from 12 (fun bv wx=>bv=.bool has∧TrAt tb wx tr1∧TFrm tb W wx)
 case first =>
  go_region_with (first
   | (go_at_call 115;refine(jQn0 vals _ _ (HV.out.below HBW0.out.drew)).mono ?_;rintro e w2 ⟨rfl,hb2⟩;have hb2':Below W.heap.size W w2:=(Below.drew (Below.refl _ _)).trans hb2;obtain⟨m0,m1,m2,m3,m4,m5,m6⟩:=jQr ((hb2'.block w.heap.size (by omega)).trans HBOX.out);obtain⟨n0,n1,n2,-,-,-⟩:=tab3 ((hb2'.block (w.heap.size+1) (by omega)).trans HBT.out);have hz2:=hb2'.size;have hz2':w.heap.size+1 < w2.heap.size:=(by omega);have hz2'':w.heap.size < w2.heap.size:=(by omega);have HB2:=hd hb2';clear hb2 hb2')
   | (go_at_call 114;refine(HKH.out _ (HBW0.out.trans (HB2.out.mono (by omega)))).mono ?_;rintro e w3 ⟨rfl,ht3,hf3⟩;have HT3:=hd ht3;have HF3:Hid (TFrm tb W w3):=(TFrm.of HB2.out (by omega)).trans hf3;clear ht3 hf3))
  all_goals(try go_wp2_with fail)
  all_goals go_meet
  all_goals exact⟨rfl,HT3.out,HF3.out⟩
 case rest =>
  obtain⟨rfl,ht1,hf1⟩:=hcut
  have hblk:wc.heap[w.heap.size+1+1]?=some (.cells out0 98):=(hf1.keep _ _ _ _ HBO.out (by decide) (by decide)).trans HBO.out
  have hbr:=(hf1.keep _ _ _ _ HBR.out (by decide) (by decide)).trans HBR.out
  have hbt:=(hf1.keep _ _ _ _ HBT.out (by decide) (by decide)).trans HBT.out
  have hbx:=(hf1.keep _ _ _ _ HBOX.out (by decide) (by decide)).trans HBOX.out
  have HFR:Hid (TFrm tb w wc):=(TFrm.of HBW0.out (by omega)).trans hf1
  have HTR:=hd ht1
  have HTw:=hd (HT.out.tfrm HL.out HFR.out)
  have HVw:=hd (HV.out.tfrm HFR.out)
  have HTCw:=hd (HTC.out.tfrm HFR.out)
  have r0:wc.cell? ⟨w.heap.size+1+1+1,0,none⟩=some (.slice vo vals.length vcap):=by rw[jQb hbr];rfl
  clear s0 s1 s2 s3 s4 s5 s6 t0 t1 t2 r0'
  obtain⟨s0,s1,s2,s3,s4,s5,s6⟩:=jQr hbx
  obtain⟨t0,t1,t2,-,-,-⟩:=tab3 hbt
  have hz9:=jQg hbr
  have hz8:w.heap.size < wc.heap.size:=by omega
  have hz7:w.heap.size+1 < wc.heap.size:=by omega
  have hz6:w.heap.size+1+1 < wc.heap.size:=by omega
  have HBLK:=hd hblk
  have HBRw:=hd hbr
  have HBTw:=hd hbt
  clear hblk hbr hbt hbx ht1 hf1 HBO HBR HBT HBOX HT HV HTC HL HBW0 HKH
  cases has
  case true =>
   have HE3:Hid (out=Sq.refusedR 8):=by show _=_;rw[HE2.out];unfold Sq.insertO;rw[if_pos rfl]
   go_wp2_with fail
   refine(jQaj 8 _ (by omega) (by omega) HTw.out).mono ?_
   rintro e w3 ⟨rfl,hb3⟩
   have hblk3:=(hb3.block (w.heap.size+1+1) (by omega)).trans HBLK.out
   obtain⟨d0,d1,d2,d3,d4,d5,d6⟩:=jQK hblk3
   obtain⟨f0,f1,f2,f3,f4,f5,f6⟩:=jQw hblk3
   have hz3:=hb3.size
   have HB3:=hd hb3
   have HBL3:=hd hblk3
   have hz4:w.heap.size+1+1 < w3.heap.size:=by omega
   clear hb3 hblk3
   unfold outCells
   go_wp2
   refine bodyPost_ret (v:=.agg (outCells (Sq.refusedR 8) (.slice none 0 0) (.slice none 0 0) (.slice none 0 0))) (by simp[results,Tryz.results74,go_sem,outCells, *]) rfl ⟨.slice none 0 0,.slice none 0 0,.slice none 0 0,by rw[HE3.out],by rw[HE3.out];exact OutAt.none _ _ rfl rfl rfl,jQbP (HTR.out.below HB3.out) HBL3.out _ _ _ _ _ _ _,jQbR HFR.out HB3.out (by omega) (by omega) (by omega) _ _ _ _ _ _ _⟩
  case false =>
   go_wp2_with fail
   refine(HKS.out _).mono ?_
   rintro e wd ⟨rfl,hbd⟩
   have HBLKd:=hd ((hbd.block (w.heap.size+1+1) (by omega)).trans HBLK.out)
   have hbtd:=(hbd.block (w.heap.size+1) (by omega)).trans HBTw.out
   have hbrd:=(hbd.block (w.heap.size+1+1+1) (by omega)).trans HBRw.out
   have HFRd:Hid (TFrm tb w wd):=HFR.out.trans (TFrm.of hbd (by omega))
   have HTRd:=hd (HTR.out.below hbd)
   have HTwd:=hd (HTw.out.below hbd)
   have HVwd:=hd (HVw.out.below hbd)
   have HTCwd:=hd (HTCw.out.below hbd)
   clear hbd r0 t0 t1 t2 s0 s1 s2 s3 s4 s5 s6 HFR HTR HTw HVw HTCw HBLK HBRw HBTw hz9 hz8 hz7 hz6
   have r0:wd.cell? ⟨w.heap.size+1+1+1,0,none⟩=some (.slice vo vals.length vcap):=by rw[jQb hbrd];rfl
   obtain⟨t0,t1,t2,-,-,-⟩:=tab3 hbtd
   have hz9:=jQg hbrd
   have hz7:w.heap.size+1 < wd.heap.size:=by omega
   have hz6:w.heap.size+1+1 < wd.heap.size:=by omega
   have HBT:=hd hbtd
   have HBR:=hd hbrd
   have HFR:=hd HFRd.out
   have HTR:=hd HTRd.out
   have HTw:=hd HTwd.out
   have HBLK:=hd HBLKd.out
   clear hbtd hbrd HFRd HTRd HTwd HBLKd HKS
   by_cases hfull:60≤hh.rows
   ·have HE3:Hid (out=Sq.refusedR 10):=by show _=_;rw[HE2.out];unfold Sq.insertO;rw[if_neg (by decide),if_pos hfull]
    go_wp2_with fail
    refine(jQaj 10 _ (by omega) (by omega) HTw.out).mono ?_
    rintro e w3 ⟨rfl,hb3⟩
    have hblk3:=(hb3.block (w.heap.size+1+1) (by omega)).trans HBLK.out
    obtain⟨d0,d1,d2,d3,d4,d5,d6⟩:=jQK hblk3
    obtain⟨f0,f1,f2,f3,f4,f5,f6⟩:=jQw hblk3
    have hz3:=hb3.size
    have HB3:=hd hb3
    have HBL3:=hd hblk3
    have hz4:w.heap.size+1+1 < w3.heap.size:=by omega
    clear hb3 hblk3
    unfold outCells
    go_wp2
    refine bodyPost_ret (v:=.agg (outCells (Sq.refusedR 10) (.slice none 0 0) (.slice none 0 0) (.slice none 0 0))) (by simp[results,Tryz.results74,go_sem,outCells, *]) rfl ⟨.slice none 0 0,.slice none 0 0,.slice none 0 0,by rw[HE3.out],by rw[HE3.out];exact OutAt.none _ _ rfl rfl rfl,jQbP (HTR.out.below HB3.out) HBL3.out _ _ _ _ _ _ _,jQbR HFR.out HB3.out (by omega) (by omega) (by omega) _ _ _ _ _ _ _⟩
   ·have HE3:Hid (out=⟨Sq.counted 1,false,⟨tn,tnm,cols⟩,[vals],[]⟩):=by show _=_;rw[HE2.out];unfold Sq.insertO;rw[if_neg (by decide),if_neg hfull]
    go_wp2
    go_region_with (go_at_call 109;first
     | (refine(jQaT 1 wd.drew (by omega) (by omega) (HTw.out.below (Below.drew (Below.refl _ _)))).mono ?_;rintro e w3 ⟨rfl,hb3⟩;have hb3':Below wd.heap.size wd w3:=(Below.drew (Below.refl _ _)).trans hb3;have hblk3:=(hb3'.block (w.heap.size+1+1) (by omega)).trans HBLK.out;obtain⟨d0,d1,d2,d3,d4,d5,d6⟩:=jQK hblk3;obtain⟨f0,f1,f2,f3,f4,f5,f6⟩:=jQw hblk3;have r1:=(hb3'.cell (p:=⟨w.heap.size+1+1+1,0,none⟩) (by simp;omega)).trans r0;obtain⟨n0,n1,n2,-,-,-⟩:=tab3 ((hb3'.block (w.heap.size+1) (by omega)).trans HBT.out);have hz3:=hb3'.size;have hy1:w.heap.size+1 < w3.heap.size:=(by omega);have hy2:w.heap.size+1+1 < w3.heap.size:=(by omega);have hy3:w.heap.size+1+1+1 < w3.heap.size:=(by omega);have HB3:=hd hb3';have HBLK3:=hd hblk3;clear hb3 hb3' hblk3)
     | (refine(jQaT 1 (wd.drew.alloc _) (by omega) (by omega) (HTw.out.below (Below.alloc (B:=wd.heap.size) (Below.drew (Below.refl _ _)) (Nat.le_refl _) _))).mono ?_;rintro e w3 ⟨rfl,hb3⟩;have hb3':Below wd.heap.size wd w3:=(Below.alloc (B:=wd.heap.size) (Below.drew (Below.refl _ _)) (Nat.le_refl _) _).trans (hb3.mono (by simp));have hblk3:=(hb3'.block (w.heap.size+1+1) (by omega)).trans HBLK.out;obtain⟨d0,d1,d2,d3,d4,d5,d6⟩:=jQK hblk3;obtain⟨f0,f1,f2,f3,f4,f5,f6⟩:=jQw hblk3;have e9:=(hb3.block wd.heap.size (by simp)).trans (jQaB wd.drew _);obtain⟨n0,n1,n2,-,-,-⟩:=tab3 ((hb3'.block (w.heap.size+1) (by omega)).trans HBT.out);have hz3:=hb3'.size;have hy1:w.heap.size+1 < w3.heap.size:=(by omega);have hy2:w.heap.size+1+1 < w3.heap.size:=(by omega);have HB3:=hd hb3';have HBLK3:=hd hblk3;have HE9:=hd e9;clear hb3 hb3' hblk3 e9))
    all_goals(try go_wp2_with fail)
    all_goals first
     | (
       have hmark:=HE9.out
       refine bodyPost_ret (v:=.agg (outCells ⟨Sq.counted 1,false,⟨tn,tnm,cols⟩,[vals],[]⟩ (.slice to' cols.length tcap) (.slice (some ⟨wd.heap.size,0,none⟩) 1 1) (.slice none 0 0))) (by simp[results,Tryz.results74,go_sem,outCells, *]) rfl ⟨.slice to' cols.length tcap,_,_,by rw[HE3.out],?_,jQbP (HTR.out.below HB3.out) HBLK3.out _ _ _ _ _ _ _,jQbR HFR.out HB3.out (by omega) (by omega) (by omega) _ _ _ _ _ _ _⟩
       rw[HE3.out]
       have ho:∀g,g≠w.heap.size+1+1→(set7 w3 (w.heap.size+1+1) (.string (Sq.counted 1)) (.bool false) (.int .i64 tn) (.string tnm) (.slice to' cols.length tcap) (.slice (some ⟨wd.heap.size,0,none⟩) 1 1) (.slice none 0 0)).heap[g]?=w3.heap[g]?:=fun g hg=>jQq _ _ _ _ _ _ _ _ _ hg
       exact⟨(HTCwd.out.below HB3.out).out HBLK3.out (by decide) ho,RowsOwn.one ((ho _ (by omega)).trans HE9.out) ((HVwd.out.below HB3.out).out HBLK3.out (by decide) ho),World.ownsRow_nil _ _ _ _,by simp,by simp⟩)
     | (
       obtain⟨wz,hwz⟩:∃wz,wz=set7 w3 (w.heap.size+1+1) (.string (Sq.counted 1)) (.bool false) (.int .i64 tn) (.string tnm) (.slice to' cols.length tcap) (.slice (some ⟨w3.heap.size,0,none⟩) 1 1) (.slice none 0 0):=⟨_,rfl⟩
       have ho:∀g,g≠w.heap.size+1+1→wz.heap[g]?=w3.heap[g]?:=fun g hg=>by rw[hwz];exact jQq _ _ _ _ _ _ _ _ _ hg
       have h1:TrAt tb wz tr1:=by rw[hwz];exact jQbP (HTR.out.below HB3.out) HBLK3.out _ _ _ _ _ _ _
       have h2:TFrm tb w wz:=by rw[hwz];exact jQbR HFR.out HB3.out (by omega) (by omega) (by omega) _ _ _ _ _ _ _
       have h3:ColsAt wz (.slice to' cols.length tcap) cols:=(HTCwd.out.below HB3.out).out HBLK3.out (by decide) ho
       have h4:RowAt wz (.slice vo vals.length vcap) vals:=(HVwd.out.below HB3.out).out HBLK3.out (by decide) ho
       have h5:wz.heap.size=w3.heap.size:=by rw[hwz];exact jQox _ _ _ _ _ _ _ _ _
       have h6:Below wz.heap.size wz (wz.alloc (.cells #[.slice vo vals.length vcap] 138)):=(Below.refl _ _).alloc (Nat.le_refl _) _
       have h7:OutSays tb (out,tr1) w (.returned (.agg (outCells ⟨Sq.counted 1,false,⟨tn,tnm,cols⟩,[vals],[]⟩ (.slice to' cols.length tcap) (.slice (some ⟨w3.heap.size,0,none⟩) 1 1) (.slice none 0 0)))) (wz.alloc (.cells #[.slice vo vals.length vcap] 138)):=by
        refine⟨.slice to' cols.length tcap,.slice (some ⟨w3.heap.size,0,none⟩) 1 1,.slice none 0 0,by rw[HE3.out],?_,h1.below h6,h2.trans (TFrm.of h6 (by omega))⟩
        rw[HE3.out]
        exact⟨h3.below h6,RowsOwn.one (jQd5 h5.symm _) (h4.below h6),World.ownsRow_nil _ _ _ _,by simp,by simp⟩
       rw[hwz] at h7
       clear hwz h1 h2 h3 h4 h5 h6 ho
       exact bodyPost_ret (v:=.agg (outCells ⟨Sq.counted 1,false,⟨tn,tnm,cols⟩,[vals],[]⟩ (.slice to' cols.length tcap) (.slice (some ⟨w3.heap.size,0,none⟩) 1 1) (.slice none 0 0))) (by simp[results,Tryz.results74,go_sem,outCells, *]) rfl h7)
end
end Go.Proofs.YtahpihjialbanaaGreatDoor
