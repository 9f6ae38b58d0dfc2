import Derived.Test.YtahpihjialbanaaGreatDoorQam
set_option linter.all false
set_option maxRecDepth 100000
set_option maxHeartbeats 8000000
namespace Go.Proofs.YtahpihjialbanaaGreatDoor
open Sq (Trl Ent placeOf Col Val bQ jBs jCu)
variable {B:Nat}{a:Act}{o:Oper}{v:Value}{w w':World}
section
open Go.RowKit
variable {Z:Nat->Prop}
theorem aQ.keeps {e0:TypeId}{rows:List (List Val)}(h:aQ B w v rows)(k:jDL e0 w w')(h1:138≠e0)(h2:208≠e0):aQ B w' v rows:=by
 obtain⟨hc,hb,ha⟩:=h;exact⟨hc,jQ1 k h1 hb,fun i r hi=>let ⟨y,h4,h5⟩:=ha i r hi;⟨y,h4,⟨jQ1 k h2 h5.1,h5.2⟩⟩⟩
theorem jVO {ops:Array Oper}{rest:List Oper}{Q:Exit->Act->World->Prop}(hj:o.guard=none)(sl x:Operand)
  (ho:o.op=.call { callee:=.builtin .append,args:=#[sl,x],argTypes:=#[95,95] }) (B:Nat) (v:Value) (rows:List (List Val)) (hs:a.eval sl=v) (hb:aQ B w v rows)
  (row:List Val) (rv:Value) (g cc:Nat) (hx:a.eval x=.slice (some ⟨g,0,none⟩) 1 cc) (hh:w.cell? ⟨g,0,none⟩=some rv) (hf:jA0 w rv row) (h1:rows.length+1<=1000000) (hB:B<=w.heap.size)
  (h:∀v' w',aQ B w' v' (rows++[row])->Below B w w'->jDL 138 w w'->wpList Tryz.prog ops Q rest (a.put o.dst v') w'):wpList Tryz.prog ops Q (o::rest) a w:=by
 obtain⟨i0,hi,hp,hr,ht⟩:=cV Tryz.jGU;obtain⟨hv,ha,hc⟩:=hb
 refine cT _ hj sl x 95 ho B 138 i0 _ 1 24 Tryz.underlying95 hi hp hr ht rfl (by decide) v rows.length _ hs ha ⟨g,0,none⟩ 1 cc [rv] hx rfl (by
  intro j u hu;rw[jFp]
  match j,hu with
  | 0,hu=>simp at hu;subst hu;exact hh
  | j+1,hu=>simp at hu) (by intro u hu;simp at hu;subst hu;exact hf.one) (by decide) (by unfold maxLen;omega) (by omega) hB _ rfl ?_
 intro g' cap w' hn hg _ _;exact h _ w' (aQ.snoc hn (by simpa using ha.1) (fun i r hi=>let ⟨y,h4,h5⟩:=hc i r hi;⟨y,h4,h5.grown ha hg⟩) (hf.grown ha hg)) (Tch.aO hg (fun k hk=>(ha.lt k hk).1) hB) (fun q c e fr hq he=>hg.block q (jQe hq) (fun e2=>jQm ha hq (fun e3=>he e3.symm) e2.symm))
theorem Sq.qAN (cols:List Col)(es:List Ent)(k:Nat)(h:k<es.length):(es.take (k+1)).filterMap (Sq.rowOf cols)=(es.take k).filterMap (Sq.rowOf cols)++(Sq.rowOf cols es[k]).toList:=by
 rw[cI h,List.filterMap_append];cases h2:Sq.rowOf cols es[k]<;>simp[h2]
theorem Sq.qA1 (cols:List Col)(es:List Ent)(k:Nat):((es.take k).filterMap (Sq.rowOf cols)).length<=k:=cm (List.length_filterMap_le _ _) (dW _ _)
theorem Sq.jXw {cols:List Col}{key:Int}{row:BA}{l:List Val}(h:jBs cols key row=some l):l.length<=cols.length+1:=by
 unfold jBs at h
 split at h
 ·cases h;unfold Sq.jBT;rw[Sq.jNn];simp;omega
 cases h
def jET (tb:Nat)(x:List (List Val)×Trl)(w:World)(e:Ending)(w':World):Prop:=∃v,e=.returned v/\aQ 0 w' v x.1/\bk tb w' x.2/\aA tb w w'
theorem qBZ (hh:Sq.Head)(ev cv:Value)(t:bQ)(tv:Value)(low high:Int)(es:List Ent)(tb:Nat)(Hp:Trl)(w:World)(HX:∃a k c,ev=.slice a k c)(HW:∃a k c,cv=.slice a k c)(ka:tb<w.heap.size)(H2:es.length<=900)(Hv:∀e∈es,e.row.size<=1000/\0<=e.place)
  (H8:0<=t.number) (H9:t.number<=100000) (H5:-100000000000<=low) (Hz:low<=100000000000) (H3:-100000000000<=high) (H4:high<=100000000000) (Hr:aX w tv t.cols) (H0:t.cols.length<=1000)
  (Hl:∀w',Below w.heap.size w w'->Calls Tryz.prog 103 #[.agg (ae hh ev cv).toArray,.int .i64 (placeOf t.number low),.int .i64 (placeOf t.number high),.pointer (some ⟨tb,0,none⟩)] w' (jEU tb (es,Hp) w')) :
  Calls Tryz.prog 118 #[.agg (ae hh ev cv).toArray,.agg #[.int .i64 t.number,.string t.name,tv],.int .i64 low,.int .i64 high,.pointer (some ⟨tb,0,none⟩)] w (jET tb (es.filterMap (Sq.rowOf t.cols),Sq.jBh (es.any fun e=>(Sq.rowOf t.cols e).isNone) Hp) w):=by
 obtain⟨e1,e2,e3,rfl⟩:=HX;obtain⟨c1,c2,c3,rfl⟩:=HW;obtain⟨Hs,Hk,rfl⟩:=jQa Hr.1;obtain⟨tn,HP,cols⟩:=t;simp only at *;rw[jQc] at Hl ⊢;have HK:=hd Hl;have h5:=hd Hv;have hO:=hd Hr;obtain⟨W,hW⟩:∃W:World,W=(w.alloc (.cells #[.bool hh.inner,.slice e1 e2 e3,.slice c1 c2 c3,.int .i64 hh.least,.int .i64 hh.rows,.string hh.sl,.int .i64 hh.num] 91)).alloc (.cells #[.int .i64 tn,.string HP,.slice Hs cols.length Hk] 94):=⟨_,rfl⟩;obtain⟨HE,Hq,Hn⟩:=jIY hW;obtain⟨k0,k1,k2,k3,k4,k5,k6⟩:=jQq Hq;have t0:W.cell? ⟨w.heap.size+1,0,none⟩=some (.int .i64 tn):=by rw[jQb Hn];rfl
 have Hf:=jQe Hq;have Hg:=jQe Hn;have hz:=hd HE;have hp:=hd Hn;clear HE Hq Hl Hv Hn Hr;go_enter Tryz.func118,Tryz.ntmps118;go_wp2;rw[<-hW];clear hW
 go_cut [11] from 16 (fun v wx=>aM 0 wx v es/\bk tb wx Hp/\aA tb W wx)
 case first =>
  go_region_with (first
   | (go_at_call 104;refine(jI9 _ _ _ (by omega) (by omega) (by omega) (by omega)).mono ?_;rintro e w5 ⟨rfl,Hw⟩;rw[Hw];clear Hw w5)
   | (go_at_call 103;refine(HK.o _ hz.o.drew).mono ?_;rintro e w5 ⟨v5,rfl,HG,-,HO,HH⟩;have hB:Hid (aA tb W w5):=(aA.of (cB bR) (by omega)).trans HH;have hE:=hd HO;have hX:=hd (HG.base zR);clear HH HO HG))
  all_goals(try go_wp2_with fail)
  all_goals go_meet
  all_goals exact⟨hX.o,hE.o,hB.o⟩
 case rest =>
  obtain⟨Hx,Hy,Hu⟩:=hcut;obtain⟨ao,HR,rfl⟩:=jQa Hx;obtain⟨w1,rfl⟩:∃w1:World,w1=wc:=⟨_,rfl⟩;have hY:=hd Hx;have h6:=hd Hy;have hZ:Hid (aA tb w w1):=(aA.of hz.o (by omega)).trans Hu;have hi:Hid (w1.heap[w.heap.size+1]?=some (.cells #[.int .i64 tn,.string HP,.slice Hs cols.length Hk] 94)):=(Hu.bC _ _ _ _ hp.o (by decide) (by decide)).trans hp.o
  have hF:Hid (aX w1 (.slice Hs cols.length Hk) cols):=⟨by
   have h0:=(hO.o.below hz.o).1;refine⟨h0.1,?_⟩;rcases h0.2 with h1 | ⟨g,cap,cur,hv,hbg,hh,hn,hm,hc,ht⟩
   ·exact Or.inl h1
   exact Or.inr ⟨g,cap,cur,hv,hbg,(Hu.bC g _ _ _ hh (by decide) (by decide)).trans hh,hn,hm,hc,ht⟩,hO.o.2⟩
  have Hd:=Hu.jBC;have h9:=Hy.lt;clear Hx Hy Hu k0 k1 k2 k3 k4 k5 k6 HK t0;go_wp2
  go_loopw [12,13] (fun v i wr=>∃k:Nat,i=.int .i64 k/\k<=es.length/\aQ w1.heap.size wr v ((es.take k).filterMap (Sq.rowOf cols))/\bk tb wr (Sq.jBh ((es.take k).any fun e=>(Sq.rowOf cols e).isNone) Hp)/\aA tb w1 wr/\Hid (aX wr (.slice Hs cols.length Hk) cols)) (fun _ i _=>es.length-(intOf i).toNat)
  case atStart=>exact⟨0,rfl,zR,aQ.nil _ _,by rw[show Sq.jBh ((es.take 0).any fun e=>(Sq.rowOf cols e).isNone) Hp=Hp by simp[Sq.jBh]];exact h6.o,aA.refl _ _,hF⟩
  case round =>
   obtain⟨k,rfl,hk,hT,ht,hf,Ht⟩:=hrel;obtain⟨wo,rfl⟩:∃wo:World,wo=wr:=⟨_,rfl⟩;have hQ:=Sq.qA1 cols es k;have hu:=hd ht;have HF:=hd hf;have Hh:=hf.jBC;have Hi:=ht.lt
   by_cases hkt:k<es.length
   ·have hq:=Sq.qAN cols es k hkt;have ha:=jUA es (fun e=>(Sq.rowOf cols e).isNone) k hkt;obtain⟨l,hl⟩:∃l,l=(es.take k).filterMap (Sq.rowOf cols):=⟨_,rfl⟩;rw[<-hl] at hT hQ hq;obtain⟨lb,HN⟩:∃lb,lb=(es.take k).any fun e=>(Sq.rowOf cols e).isNone:=⟨_,rfl⟩
    rw[<-HN] at ha hu;obtain⟨lo,HB,rfl⟩:=hT.slice;obtain⟨g,HU,hv,hg,d0,d1⟩:=(hY.o.bX hf).at k hkt;obtain⟨rfl,-,rfl⟩:=sI hv;have hm:=h5.o es[k] (cJ hkt);have HT:=hd hT;have he:=(hf.bC (w.heap.size+1) _ _ _ hi.o (by decide) (by decide)).trans hi.o;have d2:wo.cell? ⟨w.heap.size+1,2,none⟩=some (.slice Hs cols.length Hk):=by rw[jQb he];rfl
    have Hb:=jQe he;have hR:Sq.rowOf cols es[k]=jBs cols (jCu es[k].place) es[k].row:=rfl;rw[hR] at hq ha;clear hl HN hT ht hf he hR;generalize es[k]=x at *;obtain⟨xp,xr⟩:=x;simp only at d0 d1 hm hq ha;obtain⟨HY,HZ⟩:=hm;have hw:∀y,jBs cols (jCu xp) xr=some y->y.length<=cols.length+1:=fun y hy=>Sq.jXw hy
    have hL:Hid (∀w',Below wo.heap.size wo w'->Calls Tryz.prog 158 #[.slice Hs cols.length Hk,.int .i64 (jCu xp),.string xr] w' (jGz w' (jBs cols (jCu xp) xr))):=fun w' HV=>jXV cols _ _ xr w' (Ht.o.below HV) H0 HY
    obtain⟨tc,Hr⟩:∃x,x=jBs cols (jCu xp) xr:=⟨_,rfl⟩;have hH:=hL.o;rw[<-Hr] at hq ha hw hH;have hC:=hd hH;have HQ:=hd hq;have HA:=hd ha;have i1:(k:Int)<(es.length:Int):=by omega
    have i2:¬((es.length:Int)<=(k:Int)):=by omega
    have i0:¬((k:Int)<0):=by omega
    have hj:(⟨true,(Sq.jBh lb Hp).bc⟩:Trl)=Sq.jBh (lb || true) Hp:=by simp[Sq.jBh]
    have hr:=hd hj;clear Hr hL hH hq ha hj;go_wp2
    go_cut [14,15] from 34 to 51 (fun v8 v9 wx=>∃yo Hj,v8=.slice yo (tc.getD []).length Hj/\v9=.bool tc.isSome/\jBN wo.heap.size wx (.slice yo (tc.getD []).length Hj) (tc.getD [])/\Below wo.heap.size wo wx)
    case first =>
     go_region_with (first
      | (go_at_call 105;refine(jR4 xp _ HZ).mono ?_;rintro e w5 ⟨rfl,Hw⟩;rw[Hw];clear Hw w5)
      | (go_at_call 158;refine(hC.o _ (cB bR)).mono ?_;rintro e w5 ⟨v5,rfl,Ho,Hm⟩;obtain⟨yo,Hj,rfl⟩:=jQa Ho;have hP:Below wo.heap.size wo w5:=(cB bR).trans Hm;have h4:Hid (jBN wo.heap.size w5 (.slice yo (tc.getD []).length Hj) (tc.getD [])):=Ho;have hU:=hd hP;clear Ho Hm hP))
     all_goals(try go_wp2_with fail)
     all_goals go_meet
     all_goals exact⟨yo,Hj,rfl,rfl,h4.o,hU.o⟩
    case rest =>
     obtain⟨yo,Hj,rfl,rfl,Ho,Hm⟩:=hcut;obtain⟨wd,rfl⟩:∃wd:World,wd=wc:=⟨_,rfl⟩;have He:=Hm.size;have hN:=hd (HT.o.below Hm);have hb:=hd (hu.o.below Hm);have hJ:Hid (aA tb w1 wd):=HF.o.trans (aA.of Hm (by omega));have ho:=hd (Ht.o.below Hm);cases tc with
     | none =>
      have hD:Hid ((es.take (k+1)).filterMap (Sq.rowOf cols)=l):=by show _=_;rw[HQ.o];simp
      have hx:Hid (((es.take (k+1)).any fun e=>(Sq.rowOf cols e).isNone)=(lb || true)):=by show _=_;rw[HA.o];rfl
      obtain⟨Hz,HJ,HM,H6,H7⟩:=hb.o.jVA;have h2:=hd Hz;have h3:=hd HJ;have hM:=hd HM;have Ha:=hb.o.lt;clear Hz HJ HM hw Ho Hm;simp only[Option.isSome_none];go_wp2;go_roundw;exact⟨k+1,by go_num,by omega,by rw[hD.o];exact hN.o.keeps hM.o (by decide) (by decide),by rw[hx.o,<-hr.o];exact h2.o,hJ.o.trans h3.o,⟨jQ1 hM.o (by decide) ho.o.1,ho.o.2⟩⟩;simp[intOf];omega
     | some y =>
      have hD:Hid ((es.take (k+1)).filterMap (Sq.rowOf cols)=l++[y]):=by show _=_;rw[HQ.o];simp
      have hx:Hid (((es.take (k+1)).any fun e=>(Sq.rowOf cols e).isNone)=lb):=by show _=_;rw[HA.o];simp
      have Hc:=hw y rfl;simp only[Option.isSome_some,Option.getD_some] at Ho ⊢;have hA:Below wd.heap.size wd (wd.alloc (.cells #[.slice yo y.length Hj] 138)):=bA;have hE:=hd (hN.o.below hA);have h8:Hid (jA0 (wd.alloc (.cells #[.slice yo y.length Hj] 138)) (.slice yo y.length Hj) y):=jA0.below (w:=wd) ⟨jQj Ho zR,(by omega)⟩ hA;have hG:=hd (hb.o.below hA);have hB:Hid (aA tb w1 (wd.alloc (.cells #[.slice yo y.length Hj] 138))):=hJ.o.trans (aA.of hA (by omega));have hs:=hd (ho.o.below hA);clear hw Ho Hm hA;go_wp2_with (at_builtin;refine jVO rfl (.tmp 56) (.tmp 59) rfl w1.heap.size _ l rfl hE.o y (.slice yo y.length Hj) wd.heap.size 1 rfl (by simp[go_sem]) h8.o (by omega) (by simp;omega) ?_;intro v7 w7 HC HD HI;have h7:=hd HC;have hV:=hd HD;have hK:=hd HI;clear HC HD HI);go_roundw;exact⟨k+1,by go_num,by omega,by rw[hD.o];exact h7.o,by rw[hx.o];exact hG.o.keeps hK.o (by decide) (by decide),hB.o.grow hV.o (by omega),⟨jQ1 hK.o (by decide) hs.o.1,hs.o.2⟩⟩;simp[intOf];omega
   have i1:¬((k:Int)<(es.length:Int)):=by omega
   have hS:es.take k=es:=cL (by omega);have hI:=hu.o;rw[hS] at hT hI;obtain⟨l,hl⟩:∃l,l=es.filterMap (Sq.rowOf cols):=⟨_,rfl⟩;rw[<-hl] at hT;obtain⟨lo,HB,rfl⟩:=hT.slice;have HL:=hd hl;have HT:=hd hT;have hb:=hd hI;clear hT ht hf hS hI hu hl hQ;go_wp2;go_ret;exact⟨_,rfl,by rw[<-HL.o];exact HT.o.base zR,hb.o,hZ.o.trans HF.o⟩
theorem qB0 (K:Int)(hK:K<=99999)(X:Sq.aj)(ev cv:Value)(t:bQ)(tv:Value)(low high:Int)(tb:Nat)(tr:Trl)(w:World)(h:ag Z w X.d X.t ev cv)(hf:Sq.aT K X.d X.t)(hc:Sq.jAx X.d X.t<=900)(ht:bk tb w tr)(hr:Sq.aS K tr)
  (hk:0<=t.number) (hn:t.number<=100000) (hq:-2147483648<=low) (hj:low<=100000000000) (hg:-100000000000<=high) (hh:high<=100000000000) (ho:aX w tv t.cols) (hp:t.cols.length<=1000) :
  Calls Tryz.prog 118 #[.agg (ae X.head ev cv).toArray,.agg #[.int .i64 t.number,.string t.name,tv],.int .i64 low,.int .i64 high,.pointer (some ⟨tb,0,none⟩)] w (jET tb (Sq.jFh X t low high tr) w):=by
 have h1:=jLm (K:=K) (placeOf t.number low) (placeOf t.number high) X.d X.t tr hf;have h2:=Sq.jHU X.d X.t (placeOf t.number low) (placeOf t.number high) tr hf hr;refine qBZ X.head ev cv t tv low high _ tb _ w (ag.aG h).1 (ag.aG h).2 ht.lt (cm h2.2 hc) (fun e he=>⟨by have:=(h1 e he).2.2;omega,?_⟩) hk hn (by omega) hj hg hh ho hp (fun w' hb=>jMW K hK _ _ tb X.d X.t ev cv tr w' (h.below hb) hf hc (ht.below hb) hr);have ha:=(h1 e he).1;have hb:placeOf t.number low=t.number*4294967296+low+2147483648:=rfl;omega
end
end Go.Proofs.YtahpihjialbanaaGreatDoor
