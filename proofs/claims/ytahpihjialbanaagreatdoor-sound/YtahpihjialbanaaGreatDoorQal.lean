import Derived.Test.YtahpihjialbanaaGreatDoorQak
set_option linter.all false
set_option maxRecDepth 100000
set_option maxHeartbeats 4000000
namespace Go.Proofs.YtahpihjialbanaaGreatDoor
open Sq (placeOf Trl aE jAH jCR jDe)
variable {b k tb:Nat}{c:Array Value}{w w1 w2:World}
section
open Go.RowKit
variable {Z:Nat->Prop}
theorem qAL (w:World)(b:Nat)(x0 x1 x2 x3 x4 x5 x6:Value):(bT w b x0 x1 x2 x3 x4 x5 x6).heap.size=w.heap.size:=by simp[bT]
theorem jLD (h:k=w.heap.size)(o:Obj):(w.alloc o).heap[k]?=some o:=by rw[h];exact jFE w o
theorem jJV (h:aA tb w w1)(k:Below w1.heap.size w1 w2)(hs:w.heap.size<=w1.heap.size)(ht:tb<=w.heap.size)(hb:w.heap.size<=b)(x0 x1 x2 x3 x4 x5 x6:Value):aA tb w (bT w2 b x0 x1 x2 x3 x4 x5 x6) :=
 (h.trans (aA.of k (by omega))).bT hb (by omega) _ _ _ _ _ _ _
theorem jJQ {tr:Trl}(h:bk tb w tr)(hb:w.heap[b]?=some (.cells c 98))(x0 x1 x2 x3 x4 x5 x6:Value):bk tb (bT w b x0 x1 x2 x3 x4 x5 x6) tr:=by
 refine h.keeps (e0:=98) ?_ (by decide) (by decide);intro q cq e fr hq he;refine jQl _ _ _ _ _ _ _ _ _ fun e2=>?_
 subst e2;rw[hb] at hq;simp only[Option.some.injEq,Obj.cells.injEq] at hq;exact he hq.2.1.symm
theorem jYr (K:Int)(hK:K<=99999)(X:Sq.aj)(ev HJ:Value)(t:Sq.bQ)(tv vv:Value)(ax:List Sq.Val)(tb:Nat)(tr:Trl)(w:World)(h:ag Z w X.d X.t ev HJ)(hf:Sq.jBb K 800000000 X)(ht:bk tb w tr)(hr:Sq.aS K tr)(HX:0<=t.number)(HY:t.number<=100000)(HH:aX w tv t.cols)
  (hv:jA0 w vv ax) (HR:∀v∈ax,v.text.size<=1000/\-100000000000<=v.number/\v.number<=100000000000) (hT:Tbl w) (hL:Low tb) :
  Calls Tryz.prog 74 #[.agg (ae X.head ev HJ).toArray,.agg #[.int .i64 t.number,.string t.name,tv],vv,.pointer (some ⟨tb,0,none⟩)] w (jE6 tb (jCR X t ax tr) w):=by
 obtain⟨⟨e1,e2,e3,HW⟩,c1,c2,c3,HU⟩:=h.aG;subst HW HU;obtain⟨vo,Hv,rfl⟩:=jQa hv.1;obtain⟨Hx,Ht,rfl⟩:=jQa HH.1;have hX:=Sq.jT4 HR;have Hp:=ht.lt;have hE:jCR X t ax tr=(jDe (X.has (placeOf t.number (Sq.keyOf ax)) tr).1 X.head.rows t ax,(X.has (placeOf t.number (Sq.keyOf ax)) tr).2):=rfl;have hR:∀w',Below w.heap.size w w'->Calls Tryz.prog 114 #[.agg (ae X.head (.slice e1 e2 e3) (.slice c1 c2 c3)).toArray,.int .i64 t.number,.int .i64 (Sq.keyOf ax),.pointer (some ⟨tb,0,none⟩)] w' fun e HG=>e=.returned (.bool (X.has (placeOf t.number (Sq.keyOf ax)) tr).1)/\bk tb HG (X.has (placeOf t.number (Sq.keyOf ax)) tr).2/\aA tb w' HG:=fun w' hb=>jWX K hK X _ _ t.number (Sq.keyOf ax) tb tr w' (h.below hb) hf.t (ht.below hb) hr HX HY hX.1 hX.2
 have hS:∀w',Calls Tryz.prog 71 #[.agg (ae X.head (.slice e1 e2 e3) (.slice c1 c2 c3)).toArray] w' fun e HG=>e=.returned (.int .i64 X.head.rows)/\Below w'.heap.size w' HG:=fun w'=>jPh X.head _ _ w' ⟨_,_,_,rfl⟩ ⟨_,_,_,rfl⟩
 have hP:X.head.rows<=800000000:=hf.rows;have hD:0<=X.head.rows:=(hf.t).head.2.1;obtain⟨has,Hz⟩:∃x,x=(X.has (placeOf t.number (Sq.keyOf ax)) tr).1:=⟨_,rfl⟩;obtain⟨HI,HB⟩:∃x,x=(X.has (placeOf t.number (Sq.keyOf ax)) tr).2:=⟨_,rfl⟩;obtain⟨hh,HF⟩:∃x,x=X.head:=⟨_,rfl⟩;obtain⟨out,HA⟩:∃x,x=jDe has hh.rows t ax:=⟨_,rfl⟩;rw[hE,<-Hz,<-HB,<-HF,<-HA];rw[<-Hz,<-HB,<-HF] at hR;rw[<-HF] at hS hP hD;rw[jQc] at hR hS ⊢;have hV:=hd HA;have h8:=hd hR;have h9:=hd hS;have HV:=hd hv;have HT:=hd hT;have HL:=hd hL;have Ha:=hd HH;clear hE hR hS hv hT hL HH Hz HB HF HA h hf ht hr hX HR;obtain⟨tn,HC,cols⟩:=t;simp only at *;obtain⟨W,hW⟩:∃W:World,W=(((w.alloc (.cells #[.bool hh.inner,.slice e1 e2 e3,.slice c1 c2 c3,.int .i64 hh.least,.int .i64 hh.rows,.string hh.sl,.int .i64 hh.num] 91)).alloc (.cells #[.int .i64 tn,.string HC,.slice Hx cols.length Ht] 94)).alloc (.cells #[.string ⟨#[]⟩,.bool false,.int .i64 0,.string ⟨#[]⟩,.slice none 0 0,.slice none 0 0,.slice none 0 0] 98)).alloc (.cells #[.slice vo ax.length Hv] 138):=⟨_,rfl⟩;obtain⟨HM,Hy,hB,HN,hq⟩:=qAr hW;obtain⟨s0,s1,s2,s3,s4,s5,s6⟩:=jQq Hy;obtain⟨t0,t1,t2,-,-,-⟩:=jFd hB;have HZ:W.cell? ⟨w.heap.size+1+1+1,0,none⟩=some (.slice vo ax.length Hv):=by rw[jQb hq];rfl
 have Hs:=jQe hq;have hp:=hd HM;have hn:=hd Hy;have hy:=hd hB;have hU:Hid (W.heap[w.heap.size+1+1]?=some (.cells jFV 98)):=HN;have hQ:=hd hq;clear HM Hy hB HN hq;go_enter Tryz.func74,Tryz.ntmps74;go_wp2;rw[<-hW];clear hW
 go_cut [18] from 12 (fun bv wx=>bv=.bool has/\bk tb wx HI/\aA tb W wx)
 case first =>
  go_region_with (first
   | (go_at_call 115;refine(jOw ax _ _ (HV.o.below hp.o.drew)).mono ?_;rintro e w2 ⟨rfl,HK⟩;have hk:Below W.heap.size W w2:=(cB bR).trans HK;obtain⟨m0,m1,m2,m3,m4,m5,m6⟩:=jQq ((hk.block w.heap.size (by omega)).trans hn.o);obtain⟨n0,n1,n2,-,-,-⟩:=jFd ((hk.block (w.heap.size+1) (by omega)).trans hy.o);have Hr:=hk.size;have Hm:w.heap.size+1<w2.heap.size:=(by omega);have He:w.heap.size<w2.heap.size:=(by omega);have hZ:=hd hk;clear HK hk)
   | (go_at_call 114;refine(h8.o _ (hp.o.trans (hZ.o.mono (by omega)))).mono ?_;rintro e w3 ⟨rfl,HQ,HO⟩;have Hj:=hd HQ;have Hi:Hid (aA tb W w3):=(aA.of hZ.o (by omega)).trans HO;clear HQ HO))
  all_goals(try go_wp2_with fail)
  all_goals go_meet
  all_goals exact⟨rfl,Hj.o,Hi.o⟩
 case rest =>
  obtain⟨rfl,HP,HD⟩:=hcut;have hO:wc.heap[w.heap.size+1+1]?=some (.cells jFV 98):=(HD.bC _ _ _ _ hU.o (by decide) (by decide)).trans hU.o;have hq:=(HD.bC _ _ _ _ hQ.o (by decide) (by decide)).trans hQ.o;have hB:=(HD.bC _ _ _ _ hy.o (by decide) (by decide)).trans hy.o;have Hc:=(HD.bC _ _ _ _ hn.o (by decide) (by decide)).trans hn.o;have hm:Hid (aA tb w wc):=(aA.of hp.o (by omega)).trans HD;have hz:=hd HP;have hA:=hd (HT.o.bX HL.o hm.o);have Hb:=hd (HV.o.bX hm.o);have hI:=hd (Ha.o.bX hm.o);have r0:wc.cell? ⟨w.heap.size+1+1+1,0,none⟩=some (.slice vo ax.length Hv):=by rw[jQb hq];rfl
  clear s0 s1 s2 s3 s4 s5 s6 t0 t1 t2 HZ;obtain⟨s0,s1,s2,s3,s4,s5,s6⟩:=jQq Hc;obtain⟨t0,t1,t2,-,-,-⟩:=jFd hB;have Hh:=jQe hq;have Ho:w.heap.size<wc.heap.size:=by omega
  have Hg:w.heap.size+1<wc.heap.size:=by omega
  have Hf:w.heap.size+1+1<wc.heap.size:=by omega
  have hj:=hd hO;have hF:=hd hq;have hG:=hd hB;clear hO hq hB Hc HP HD hU hQ hy hn HT HV Ha HL hp h8;cases has
  case true =>
   have hl:Hid (out=aE 8):=by show _=_;rw[hV.o];unfold jDe;rw[cE rfl]
   go_wp2_with fail;refine(jG0 8 _ (by omega) (by omega) hA.o).mono ?_;rintro e w3 ⟨rfl,Hu⟩;have ha:=(Hu.block (w.heap.size+1+1) (by omega)).trans hj.o;obtain⟨d0,d1,d2,d3,d4,d5,d6⟩:=jQI ha;obtain⟨f0,f1,f2,f3,f4,f5,f6⟩:=jQy ha;have hY:=Hu.size;have hi:=hd Hu;have hx:=hd ha;have Hn:w.heap.size+1+1<w3.heap.size:=by omega
   clear Hu ha;unfold az;go_wp2;refine cp (v:=.agg (az (aE 8) (.slice none 0 0) (.slice none 0 0) (.slice none 0 0))) (by simp[results,Tryz.results74,go_sem,az, *]) rfl ⟨.slice none 0 0,.slice none 0 0,.slice none 0 0,by rw[hl.o],by rw[hl.o];exact jBx.none _ _ rfl rfl rfl,jJQ (hz.o.below hi.o) hx.o _ _ _ _ _ _ _,jJV hm.o hi.o (by omega) (by omega) (by omega) _ _ _ _ _ _ _⟩
  case false =>
   go_wp2_with fail;refine(h9.o _).mono ?_;rintro e wd ⟨rfl,Hw⟩;have hu:=hd ((Hw.block (w.heap.size+1+1) (by omega)).trans hj.o);have hC:=(Hw.block (w.heap.size+1) (by omega)).trans hG.o;have hs:=(Hw.block (w.heap.size+1+1+1) (by omega)).trans hF.o;have hH:Hid (aA tb w wd):=hm.o.trans (aA.of Hw (by omega));have hJ:=hd (hz.o.below Hw);have hM:=hd (hA.o.below Hw);have hN:=hd (Hb.o.below Hw);have hw:=hd (hI.o.below Hw);clear Hw r0 t0 t1 t2 s0 s1 s2 s3 s4 s5 s6 hm hz hA Hb hI hj hF hG Hh Ho Hg Hf;have r0:wd.cell? ⟨w.heap.size+1+1+1,0,none⟩=some (.slice vo ax.length Hv):=by rw[jQb hs];rfl
   obtain⟨t0,t1,t2,-,-,-⟩:=jFd hC;have Hh:=jQe hs;have Hg:w.heap.size+1<wd.heap.size:=by omega
   have Hf:w.heap.size+1+1<wd.heap.size:=by omega
   have hy:=hd hC;have hQ:=hd hs;have hm:=hd hH.o;have hz:=hd hJ.o;have hA:=hd hM.o;have hj:=hd hu.o;clear hC hs hH hJ hM hu h9
   by_cases hfull:60<=hh.rows
   ·have hl:Hid (out=aE 10):=by show _=_;rw[hV.o];unfold jDe;rw[cy (by decide),cE hfull]
    go_wp2_with fail;refine(jG0 10 _ (by omega) (by omega) hA.o).mono ?_;rintro e w3 ⟨rfl,Hu⟩;have ha:=(Hu.block (w.heap.size+1+1) (by omega)).trans hj.o;obtain⟨d0,d1,d2,d3,d4,d5,d6⟩:=jQI ha;obtain⟨f0,f1,f2,f3,f4,f5,f6⟩:=jQy ha;have hY:=Hu.size;have hi:=hd Hu;have hx:=hd ha;have Hn:w.heap.size+1+1<w3.heap.size:=by omega
    clear Hu ha;unfold az;go_wp2;refine cp (v:=.agg (az (aE 10) (.slice none 0 0) (.slice none 0 0) (.slice none 0 0))) (by simp[results,Tryz.results74,go_sem,az, *]) rfl ⟨.slice none 0 0,.slice none 0 0,.slice none 0 0,by rw[hl.o],by rw[hl.o];exact jBx.none _ _ rfl rfl rfl,jJQ (hz.o.below hi.o) hx.o _ _ _ _ _ _ _,jJV hm.o hi.o (by omega) (by omega) (by omega) _ _ _ _ _ _ _⟩
   have hl:Hid (out=⟨jAH 1,false,⟨tn,HC,cols⟩,[ax],[]⟩):=by show _=_;rw[hV.o];unfold jDe;rw[cy (by decide),cy hfull]
   go_wp2
   go_region_with (go_at_call 109;first
    | (refine(jII 1 wd.drew (by omega) (by omega) (hA.o.below (cB bR))).mono ?_;rintro e w3 ⟨rfl,Hu⟩;have hc:Below wd.heap.size wd w3:=(cB bR).trans Hu;have ha:=(hc.block (w.heap.size+1+1) (by omega)).trans hj.o;obtain⟨d0,d1,d2,d3,d4,d5,d6⟩:=jQI ha;obtain⟨f0,f1,f2,f3,f4,f5,f6⟩:=jQy ha;have r1:=(hc.cell (p:=⟨w.heap.size+1+1+1,0,none⟩) (by simp;omega)).trans r0;obtain⟨n0,n1,n2,-,-,-⟩:=jFd ((hc.block (w.heap.size+1) (by omega)).trans hy.o);have hY:=hc.size;have Hk:w.heap.size+1<w3.heap.size:=(by omega);have Hl:w.heap.size+1+1<w3.heap.size:=(by omega);have Hq:w.heap.size+1+1+1<w3.heap.size:=(by omega);have hi:=hd hc;have he:=hd ha;clear Hu hc ha)
    | (refine(jII 1 (wd.drew.alloc _) (by omega) (by omega) (hA.o.below (cH (B:=wd.heap.size) (cB bR) nR _))).mono ?_;rintro e w3 ⟨rfl,Hu⟩;have hc:Below wd.heap.size wd w3:=(cH (B:=wd.heap.size) (cB bR) nR _).trans (Hu.mono (by simp));have ha:=(hc.block (w.heap.size+1+1) (by omega)).trans hj.o;obtain⟨d0,d1,d2,d3,d4,d5,d6⟩:=jQI ha;obtain⟨f0,f1,f2,f3,f4,f5,f6⟩:=jQy ha;have e9:=(Hu.block wd.heap.size (by simp)).trans (jFE wd.drew _);obtain⟨n0,n1,n2,-,-,-⟩:=jFd ((hc.block (w.heap.size+1) (by omega)).trans hy.o);have hY:=hc.size;have Hk:w.heap.size+1<w3.heap.size:=(by omega);have Hl:w.heap.size+1+1<w3.heap.size:=(by omega);have hi:=hd hc;have he:=hd ha;have h0:=hd e9;clear Hu hc ha e9))
   all_goals(try go_wp2_with fail)
   all_goals first
    | (
      have Hd:=h0.o;refine cp (v:=.agg (az ⟨jAH 1,false,⟨tn,HC,cols⟩,[ax],[]⟩ (.slice Hx cols.length Ht) (.slice (some ⟨wd.heap.size,0,none⟩) 1 1) (.slice none 0 0))) (by simp[results,Tryz.results74,go_sem,az, *]) rfl ⟨.slice Hx cols.length Ht,_,_,by rw[hl.o],?_,jJQ (hz.o.below hi.o) he.o _ _ _ _ _ _ _,jJV hm.o hi.o (by omega) (by omega) (by omega) _ _ _ _ _ _ _⟩;rw[hl.o];have ho:∀g,g≠w.heap.size+1+1->(bT w3 (w.heap.size+1+1) (.string (jAH 1)) (.bool false) (.int .i64 tn) (.string HC) (.slice Hx cols.length Ht) (.slice (some ⟨wd.heap.size,0,none⟩) 1 1) (.slice none 0 0)).heap[g]?=w3.heap[g]?:=fun g hg=>jQl _ _ _ _ _ _ _ _ _ hg
      exact⟨(hw.o.below hi.o).o he.o (by decide) ho,aQ.one ((ho _ (by omega)).trans h0.o) ((hN.o.below hi.o).o he.o (by decide) ho),cu _ _ _ _,by simp,by simp⟩)
    | (
      obtain⟨wz,HE⟩:∃wz,wz=bT w3 (w.heap.size+1+1) (.string (jAH 1)) (.bool false) (.int .i64 tn) (.string HC) (.slice Hx cols.length Ht) (.slice (some ⟨w3.heap.size,0,none⟩) 1 1) (.slice none 0 0):=⟨_,rfl⟩;have ho:∀g,g≠w.heap.size+1+1->wz.heap[g]?=w3.heap[g]?:=fun g hg=>by rw[HE];exact jQl _ _ _ _ _ _ _ _ _ hg
      have h1:bk tb wz HI:=by rw[HE];exact jJQ (hz.o.below hi.o) he.o _ _ _ _ _ _ _
      have h2:aA tb w wz:=by rw[HE];exact jJV hm.o hi.o (by omega) (by omega) (by omega) _ _ _ _ _ _ _
      have h3:aX wz (.slice Hx cols.length Ht) cols:=(hw.o.below hi.o).o he.o (by decide) ho;have h4:jA0 wz (.slice vo ax.length Hv) ax:=(hN.o.below hi.o).o he.o (by decide) ho;have h5:wz.heap.size=w3.heap.size:=by rw[HE];exact qAL _ _ _ _ _ _ _ _ _
      have h6:Below wz.heap.size wz (wz.alloc (.cells #[.slice vo ax.length Hv] 138)):=bA
      have h7:jE6 tb (out,HI) w (.returned (.agg (az ⟨jAH 1,false,⟨tn,HC,cols⟩,[ax],[]⟩ (.slice Hx cols.length Ht) (.slice (some ⟨w3.heap.size,0,none⟩) 1 1) (.slice none 0 0)))) (wz.alloc (.cells #[.slice vo ax.length Hv] 138)):=by
       refine⟨.slice Hx cols.length Ht,.slice (some ⟨w3.heap.size,0,none⟩) 1 1,.slice none 0 0,by rw[hl.o],?_,h1.below h6,h2.trans (aA.of h6 (by omega))⟩;rw[hl.o];exact⟨h3.below h6,aQ.one (jLD h5.symm _) (h4.below h6),cu _ _ _ _,by simp,by simp⟩
      rw[HE] at h7;clear HE h1 h2 h3 h4 h5 h6 ho;exact cp (v:=.agg (az ⟨jAH 1,false,⟨tn,HC,cols⟩,[ax],[]⟩ (.slice Hx cols.length Ht) (.slice (some ⟨w3.heap.size,0,none⟩) 1 1) (.slice none 0 0))) (by simp[results,Tryz.results74,go_sem,az, *]) rfl h7)
end
end Go.Proofs.YtahpihjialbanaaGreatDoor
