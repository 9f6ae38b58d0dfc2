import Derived.Test.YtahpihjialbanaaGreatDoorQax
set_option linter.unusedVariables false
set_option linter.unusedSimpArgs false
set_option maxRecDepth 100000
set_option maxHeartbeats 4000000
namespace Go.Proofs.YtahpihjialbanaaGreatDoor
open Sq (placeOf)
section
open Go.RowKit
variable {Z:Nat->Prop}
theorem jQoX (w:World)(b:Nat)(x0 x1 x2 x3 x4 x5 x6:Value):(set7 w b x0 x1 x2 x3 x4 x5 x6).heap.size=w.heap.size:=by simp[set7]
theorem jQdY {w:World}{k:Nat}(h:k=w.heap.size)(o:Obj):(w.alloc o).heap[k]?=some o:=by rw[h];exact jQap w o
theorem jQbz {tb b:Nat}{w w1 w2:World}(h:TFrm tb w w1)(k:Below w1.heap.size w1 w2)(hs:w.heap.size<=w1.heap.size)(ht:tb<=w.heap.size)(hb:w.heap.size<=b)(x0 x1 x2 x3 x4 x5 x6:Value):TFrm tb w (set7 w2 b x0 x1 x2 x3 x4 x5 x6) :=
 (h.trans (TFrm.of k (by omega))).set7 hb (by omega) _ _ _ _ _ _ _
theorem jQby {tb b:Nat}{w:World}{tr:Sq.Trl}{c:Array Value}(h:TrAt tb w tr)(hb:w.heap[b]?=some (.cells c 98))(x0 x1 x2 x3 x4 x5 x6:Value):TrAt tb (set7 w b x0 x1 x2 x3 x4 x5 x6) tr:=by
 refine h.keeps (e0:=98) ?_ (by decide) (by decide);intro q cq e fr hq he;refine jQl _ _ _ _ _ _ _ _ _ fun e2=>?_
 subst e2;rw[hb] at hq;simp only[Option.some.injEq,Obj.cells.injEq] at hq;exact he hq.2.1.symm
theorem jQlj (K:Int)(hK:K<=99999)(X:Sq.NTree)(ev cv':Value)(t:Sq.TabN)(tv vv:Value)(vals:List Sq.Val)(tb:Nat)(tr:Sq.Trl)(w:World)(h:NodeAt Z w X.d X.t ev cv')(hf:Sq.TameT K 800000000 X)(ht:TrAt tb w tr)(hr:Sq.TameR K tr)(hn0:0<=t.number)(hn1:t.number<=100000)(htc:ColsAt w tv t.cols)
  (hv:RowAt w vv vals) (hvs:∀v∈vals,v.text.size<=1000/\-100000000000<=v.number/\v.number<=100000000000) (hT:Tbl w) (hL:Low tb) :
  Calls Tryz.prog 74 #[.agg (headCells X.head ev cv').toArray,.agg #[.int .i64 t.number,.string t.name,tv],vv,.pointer (some ⟨tb,0,none⟩)] w (OutSays tb (Sq.insertR X t vals tr) w):=by
 obtain⟨⟨e1,e2,e3,hev⟩,c1,c2,c3,hcv⟩:=h.slices;subst hev hcv;obtain⟨vo,vcap,rfl⟩:=jQa hv.1;obtain⟨to',tcap,rfl⟩:=jQa htc.1;have hY:=Sq.jQnu hvs;have Hp:=ht.lt;have hE:Sq.insertR X t vals tr=(Sq.insertO (X.has (placeOf t.number (Sq.keyOf vals)) tr).1 X.head.rows t vals,(X.has (placeOf t.number (Sq.keyOf vals)) tr).2):=rfl;have hQ:∀w',Below w.heap.size w w'->Calls Tryz.prog 114 #[.agg (headCells X.head (.slice e1 e2 e3) (.slice c1 c2 c3)).toArray,.int .i64 t.number,.int .i64 (Sq.keyOf vals),.pointer (some ⟨tb,0,none⟩)] w' fun e w''=>e=.returned (.bool (X.has (placeOf t.number (Sq.keyOf vals)) tr).1)/\TrAt tb w'' (X.has (placeOf t.number (Sq.keyOf vals)) tr).2/\TFrm tb w' w'':=fun w' hb=>jQjk K hK X _ _ t.number (Sq.keyOf vals) tb tr w' (h.below hb) hf.t (ht.below hb) hr hn0 hn1 hY.1 hY.2
 have hR:∀w',Calls Tryz.prog 71 #[.agg (headCells X.head (.slice e1 e2 e3) (.slice c1 c2 c3)).toArray] w' fun e w''=>e=.returned (.int .i64 X.head.rows)/\Below w'.heap.size w' w'':=fun w'=>jQdw X.head _ _ w' ⟨_,_,_,rfl⟩ ⟨_,_,_,rfl⟩
 have hI:X.head.rows<=800000000:=hf.rows;have hA:0<=X.head.rows:=(hf.t).head.2.1;obtain⟨has,hhas⟩:∃x,x=(X.has (placeOf t.number (Sq.keyOf vals)) tr).1:=⟨_,rfl⟩;obtain⟨tr1,htr1⟩:∃x,x=(X.has (placeOf t.number (Sq.keyOf vals)) tr).2:=⟨_,rfl⟩;obtain⟨hh,hhe⟩:∃x,x=X.head:=⟨_,rfl⟩;obtain⟨out,hout⟩:∃x,x=Sq.insertO has hh.rows t vals:=⟨_,rfl⟩;rw[hE,<-hhas,<-htr1,<-hhe,<-hout];rw[<-hhas,<-htr1,<-hhe] at hQ;rw[<-hhe] at hR hI hA;rw[jQc] at hQ hR ⊢;have hU:=hd hout;have Hb:=hd hQ;have Hf:=hd hR;have HV:=hd hv;have HT:=hd hT;have HL:=hd hL;have hZ:=hd htc;clear hE hQ hR hv hT hL htc hhas htr1 hhe hout h hf ht hr hY hvs;obtain⟨tn,tnm,cols⟩:=t;simp only at *;obtain⟨W,hW⟩:∃W:World,W=(((w.alloc (.cells #[.bool hh.inner,.slice e1 e2 e3,.slice c1 c2 c3,.int .i64 hh.least,.int .i64 hh.rows,.string hh.sl,.int .i64 hh.num] 91)).alloc (.cells #[.int .i64 tn,.string tnm,.slice to' cols.length tcap] 94)).alloc (.cells #[.string ⟨#[]⟩,.bool false,.int .i64 0,.string ⟨#[]⟩,.slice none 0 0,.slice none 0 0,.slice none 0 0] 98)).alloc (.cells #[.slice vo vals.length vcap] 138):=⟨_,rfl⟩;obtain⟨hbW,hbox,hz,hbo,hn⟩:=jQpv hW;obtain⟨s0,s1,s2,s3,s4,s5,s6⟩:=jQs hbox;obtain⟨t0,t1,t2,-,-,-⟩:=tab3 hz;have r0':W.cell? ⟨w.heap.size+1+1+1,0,none⟩=some (.slice vo vals.length vcap):=by rw[jQb hn];rfl
 have Hq:=jQf hn;have hq:=hd hbW;have hs:=hd hbox;have hC:=hd hz;have hV:Hid (W.heap[w.heap.size+1+1]?=some (.cells out0 98)):=hbo;have hS:=hd hn;clear hbW hbox hz hbo hn;go_enter Tryz.func74,Tryz.ntmps74;go_wp2;rw[<-hW];clear hW
 go_cut [18] from 12 (fun bv wx=>bv=.bool has/\TrAt tb wx tr1/\TFrm tb W wx)
 case first =>
  go_region_with (first
   | (go_at_call 115;refine(jQot vals _ _ (HV.o.below hq.o.drew)).mono ?_;rintro e w2 ⟨rfl,hb2⟩;have hk:Below W.heap.size W w2:=(Below.drew (bR)).trans hb2;obtain⟨m0,m1,m2,m3,m4,m5,m6⟩:=jQs ((hk.block w.heap.size (by omega)).trans hs.o);obtain⟨n0,n1,n2,-,-,-⟩:=tab3 ((hk.block (w.heap.size+1) (by omega)).trans hC.o);have Hs:=hk.size;have Hm:w.heap.size+1<w2.heap.size:=(by omega);have Hd:w.heap.size<w2.heap.size:=(by omega);have Hh:=hd hk;clear hb2 hk)
   | (go_at_call 114;refine(Hb.o _ (hq.o.trans (Hh.o.mono (by omega)))).mono ?_;rintro e w3 ⟨rfl,ht3,hf3⟩;have Hj:=hd ht3;have Hi:Hid (TFrm tb W w3):=(TFrm.of Hh.o (by omega)).trans hf3;clear ht3 hf3))
  all_goals(try go_wp2_with fail)
  all_goals go_meet
  all_goals exact⟨rfl,Hj.o,Hi.o⟩
 case rest =>
  obtain⟨rfl,ht1,hf1⟩:=hcut;have hJ:wc.heap[w.heap.size+1+1]?=some (.cells out0 98):=(hf1.keep _ _ _ _ hV.o (by decide) (by decide)).trans hV.o;have hn:=(hf1.keep _ _ _ _ hS.o (by decide) (by decide)).trans hS.o;have hz:=(hf1.keep _ _ _ _ hC.o (by decide) (by decide)).trans hC.o;have Hc:=(hf1.keep _ _ _ _ hs.o (by decide) (by decide)).trans hs.o;have hm:Hid (TFrm tb w wc):=(TFrm.of hq.o (by omega)).trans hf1;have hB:=hd ht1;have hD:=hd (HT.o.tfrm HL.o hm.o);have h0:=hd (HV.o.tfrm hm.o);have hH:=hd (hZ.o.tfrm hm.o);have r0:wc.cell? ⟨w.heap.size+1+1+1,0,none⟩=some (.slice vo vals.length vcap):=by rw[jQb hn];rfl
  clear s0 s1 s2 s3 s4 s5 s6 t0 t1 t2 r0';obtain⟨s0,s1,s2,s3,s4,s5,s6⟩:=jQs Hc;obtain⟨t0,t1,t2,-,-,-⟩:=tab3 hz;have h9:=jQf hn;have Hn:w.heap.size<wc.heap.size:=by omega
  have h8:w.heap.size+1<wc.heap.size:=by omega
  have He:w.heap.size+1+1<wc.heap.size:=by omega
  have hi:=hd hJ;have hM:=hd hn;have hN:=hd hz;clear hJ hn hz Hc ht1 hf1 hV hS hC hs HT HV hZ HL hq Hb;cases has
  case true =>
   have hl:Hid (out=Sq.refusedR 8):=by show _=_;rw[hU.o];unfold Sq.insertO;rw[if_pos rfl]
   go_wp2_with fail;refine(jQac 8 _ (by omega) (by omega) hD.o).mono ?_;rintro e w3 ⟨rfl,hb3⟩;have ha:=(hb3.block (w.heap.size+1+1) (by omega)).trans hi.o;obtain⟨d0,d1,d2,d3,d4,d5,d6⟩:=jQG ha;obtain⟨f0,f1,f2,f3,f4,f5,f6⟩:=jQy ha;have hX:=hb3.size;have hj:=hd hb3;have hy:=hd ha;have Hl:w.heap.size+1+1<w3.heap.size:=by omega
   clear hb3 ha;unfold outCells;go_wp2;refine bodyPost_ret (v:=.agg (outCells (Sq.refusedR 8) (.slice none 0 0) (.slice none 0 0) (.slice none 0 0))) (by simp[results,Tryz.results74,go_sem,outCells, *]) rfl ⟨.slice none 0 0,.slice none 0 0,.slice none 0 0,by rw[hl.o],by rw[hl.o];exact OutAt.none _ _ rfl rfl rfl,jQby (hB.o.below hj.o) hy.o _ _ _ _ _ _ _,jQbz hm.o hj.o (by omega) (by omega) (by omega) _ _ _ _ _ _ _⟩
  case false =>
   go_wp2_with fail;refine(Hf.o _).mono ?_;rintro e wd ⟨rfl,hbd⟩;have hw:=hd ((hbd.block (w.heap.size+1+1) (by omega)).trans hi.o);have hx:=(hbd.block (w.heap.size+1) (by omega)).trans hN.o;have hp:=(hbd.block (w.heap.size+1+1+1) (by omega)).trans hM.o;have hO:Hid (TFrm tb w wd):=hm.o.trans (TFrm.of hbd (by omega));have hF:=hd (hB.o.below hbd);have hP:=hd (hD.o.below hbd);have hG:=hd (h0.o.below hbd);have hu:=hd (hH.o.below hbd);clear hbd r0 t0 t1 t2 s0 s1 s2 s3 s4 s5 s6 hm hB hD h0 hH hi hM hN h9 Hn h8 He;have r0:wd.cell? ⟨w.heap.size+1+1+1,0,none⟩=some (.slice vo vals.length vcap):=by rw[jQb hp];rfl
   obtain⟨t0,t1,t2,-,-,-⟩:=tab3 hx;have h9:=jQf hp;have h8:w.heap.size+1<wd.heap.size:=by omega
   have He:w.heap.size+1+1<wd.heap.size:=by omega
   have hC:=hd hx;have hS:=hd hp;have hm:=hd hO.o;have hB:=hd hF.o;have hD:=hd hP.o;have hi:=hd hw.o;clear hx hp hO hF hP hw Hf
   by_cases hfull:60<=hh.rows
   ·have hl:Hid (out=Sq.refusedR 10):=by show _=_;rw[hU.o];unfold Sq.insertO;rw[if_neg (by decide),if_pos hfull]
    go_wp2_with fail;refine(jQac 10 _ (by omega) (by omega) hD.o).mono ?_;rintro e w3 ⟨rfl,hb3⟩;have ha:=(hb3.block (w.heap.size+1+1) (by omega)).trans hi.o;obtain⟨d0,d1,d2,d3,d4,d5,d6⟩:=jQG ha;obtain⟨f0,f1,f2,f3,f4,f5,f6⟩:=jQy ha;have hX:=hb3.size;have hj:=hd hb3;have hy:=hd ha;have Hl:w.heap.size+1+1<w3.heap.size:=by omega
    clear hb3 ha;unfold outCells;go_wp2;refine bodyPost_ret (v:=.agg (outCells (Sq.refusedR 10) (.slice none 0 0) (.slice none 0 0) (.slice none 0 0))) (by simp[results,Tryz.results74,go_sem,outCells, *]) rfl ⟨.slice none 0 0,.slice none 0 0,.slice none 0 0,by rw[hl.o],by rw[hl.o];exact OutAt.none _ _ rfl rfl rfl,jQby (hB.o.below hj.o) hy.o _ _ _ _ _ _ _,jQbz hm.o hj.o (by omega) (by omega) (by omega) _ _ _ _ _ _ _⟩
   ·have hl:Hid (out=⟨Sq.counted 1,false,⟨tn,tnm,cols⟩,[vals],[]⟩):=by show _=_;rw[hU.o];unfold Sq.insertO;rw[if_neg (by decide),if_neg hfull]
    go_wp2
    go_region_with (go_at_call 109;first
     | (refine(jQaG 1 wd.drew (by omega) (by omega) (hD.o.below (Below.drew (bR)))).mono ?_;rintro e w3 ⟨rfl,hb3⟩;have hc:Below wd.heap.size wd w3:=(Below.drew (bR)).trans hb3;have ha:=(hc.block (w.heap.size+1+1) (by omega)).trans hi.o;obtain⟨d0,d1,d2,d3,d4,d5,d6⟩:=jQG ha;obtain⟨f0,f1,f2,f3,f4,f5,f6⟩:=jQy ha;have r1:=(hc.cell (p:=⟨w.heap.size+1+1+1,0,none⟩) (by simp;omega)).trans r0;obtain⟨n0,n1,n2,-,-,-⟩:=tab3 ((hc.block (w.heap.size+1) (by omega)).trans hC.o);have hX:=hc.size;have Ho:w.heap.size+1<w3.heap.size:=(by omega);have Hk:w.heap.size+1+1<w3.heap.size:=(by omega);have Hr:w.heap.size+1+1+1<w3.heap.size:=(by omega);have hj:=hd hc;have he:=hd ha;clear hb3 hc ha)
     | (refine(jQaG 1 (wd.drew.alloc _) (by omega) (by omega) (hD.o.below (Below.alloc (B:=wd.heap.size) (Below.drew (bR)) (nR) _))).mono ?_;rintro e w3 ⟨rfl,hb3⟩;have hc:Below wd.heap.size wd w3:=(Below.alloc (B:=wd.heap.size) (Below.drew (bR)) (nR) _).trans (hb3.mono (by simp));have ha:=(hc.block (w.heap.size+1+1) (by omega)).trans hi.o;obtain⟨d0,d1,d2,d3,d4,d5,d6⟩:=jQG ha;obtain⟨f0,f1,f2,f3,f4,f5,f6⟩:=jQy ha;have e9:=(hb3.block wd.heap.size (by simp)).trans (jQap wd.drew _);obtain⟨n0,n1,n2,-,-,-⟩:=tab3 ((hc.block (w.heap.size+1) (by omega)).trans hC.o);have hX:=hc.size;have Ho:w.heap.size+1<w3.heap.size:=(by omega);have Hk:w.heap.size+1+1<w3.heap.size:=(by omega);have hj:=hd hc;have he:=hd ha;have Hg:=hd e9;clear hb3 hc ha e9))
    all_goals(try go_wp2_with fail)
    all_goals first
     | (
       have Ha:=Hg.o;refine bodyPost_ret (v:=.agg (outCells ⟨Sq.counted 1,false,⟨tn,tnm,cols⟩,[vals],[]⟩ (.slice to' cols.length tcap) (.slice (some ⟨wd.heap.size,0,none⟩) 1 1) (.slice none 0 0))) (by simp[results,Tryz.results74,go_sem,outCells, *]) rfl ⟨.slice to' cols.length tcap,_,_,by rw[hl.o],?_,jQby (hB.o.below hj.o) he.o _ _ _ _ _ _ _,jQbz hm.o hj.o (by omega) (by omega) (by omega) _ _ _ _ _ _ _⟩;rw[hl.o];have ho:∀g,g≠w.heap.size+1+1->(set7 w3 (w.heap.size+1+1) (.string (Sq.counted 1)) (.bool false) (.int .i64 tn) (.string tnm) (.slice to' cols.length tcap) (.slice (some ⟨wd.heap.size,0,none⟩) 1 1) (.slice none 0 0)).heap[g]?=w3.heap[g]?:=fun g hg=>jQl _ _ _ _ _ _ _ _ _ hg
       exact⟨(hu.o.below hj.o).o he.o (by decide) ho,RowsOwn.one ((ho _ (by omega)).trans Hg.o) ((hG.o.below hj.o).o he.o (by decide) ho),World.ownsRow_nil _ _ _ _,by simp,by simp⟩)
     | (
       obtain⟨wz,hwz⟩:∃wz,wz=set7 w3 (w.heap.size+1+1) (.string (Sq.counted 1)) (.bool false) (.int .i64 tn) (.string tnm) (.slice to' cols.length tcap) (.slice (some ⟨w3.heap.size,0,none⟩) 1 1) (.slice none 0 0):=⟨_,rfl⟩;have ho:∀g,g≠w.heap.size+1+1->wz.heap[g]?=w3.heap[g]?:=fun g hg=>by rw[hwz];exact jQl _ _ _ _ _ _ _ _ _ hg
       have h1:TrAt tb wz tr1:=by rw[hwz];exact jQby (hB.o.below hj.o) he.o _ _ _ _ _ _ _
       have h2:TFrm tb w wz:=by rw[hwz];exact jQbz hm.o hj.o (by omega) (by omega) (by omega) _ _ _ _ _ _ _
       have h3:ColsAt wz (.slice to' cols.length tcap) cols:=(hu.o.below hj.o).o he.o (by decide) ho;have h4:RowAt wz (.slice vo vals.length vcap) vals:=(hG.o.below hj.o).o he.o (by decide) ho;have h5:wz.heap.size=w3.heap.size:=by rw[hwz];exact jQoX _ _ _ _ _ _ _ _ _
       have h6:Below wz.heap.size wz (wz.alloc (.cells #[.slice vo vals.length vcap] 138)):=(bR).alloc (nR) _
       have h7:OutSays tb (out,tr1) w (.returned (.agg (outCells ⟨Sq.counted 1,false,⟨tn,tnm,cols⟩,[vals],[]⟩ (.slice to' cols.length tcap) (.slice (some ⟨w3.heap.size,0,none⟩) 1 1) (.slice none 0 0)))) (wz.alloc (.cells #[.slice vo vals.length vcap] 138)):=by
        refine⟨.slice to' cols.length tcap,.slice (some ⟨w3.heap.size,0,none⟩) 1 1,.slice none 0 0,by rw[hl.o],?_,h1.below h6,h2.trans (TFrm.of h6 (by omega))⟩;rw[hl.o];exact⟨h3.below h6,RowsOwn.one (jQdY h5.symm _) (h4.below h6),World.ownsRow_nil _ _ _ _,by simp,by simp⟩
       rw[hwz] at h7;clear hwz h1 h2 h3 h4 h5 h6 ho;exact bodyPost_ret (v:=.agg (outCells ⟨Sq.counted 1,false,⟨tn,tnm,cols⟩,[vals],[]⟩ (.slice to' cols.length tcap) (.slice (some ⟨w3.heap.size,0,none⟩) 1 1) (.slice none 0 0))) (by simp[results,Tryz.results74,go_sem,outCells, *]) rfl h7)
end
end Go.Proofs.YtahpihjialbanaaGreatDoor
