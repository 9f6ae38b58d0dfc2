import Derived.Test.YtahpihjialbanaaGreatDoorQba
set_option linter.unusedVariables false
set_option linter.unusedSimpArgs false
set_option maxRecDepth 100000
set_option maxHeartbeats 8000000
namespace Go.Proofs.YtahpihjialbanaaGreatDoor
open Sq (Trl Ent placeOf)
section
open Go.RowKit
variable {Z:Nat->Prop}
theorem RowsOwn.keeps {e0:TypeId}{B:Nat}{w w':World}{v:Value}{rows:List (List Sq.Val)}(h:RowsOwn B w v rows)(k:Keeps e0 w w')(h1:138≠e0)(h2:208≠e0):RowsOwn B w' v rows:=by
 obtain⟨rvs,hown,heach⟩:=h;exact⟨rvs,jQ2 k h1 hown,fun i r hi=>let ⟨y,h4,h5⟩:=heach i r hi;⟨y,h4,⟨jQ2 k h2 h5.1,h5.2⟩⟩⟩
theorem jQdy {ops:Array Oper}{rest:List Oper}{o:Oper}{a:Act}{Q:Exit->Act->World->Prop}{w:World}(hgd:o.guard=none)(sl x:Operand)
  (ho:o.op=.call { callee:=.builtin .append,args:=#[sl,x],argTypes:=#[95,95] }) (B:Nat) (v:Value) (rows:List (List Sq.Val)) (hs:a.eval sl=v) (hb:RowsOwn B w v rows)
  (row:List Sq.Val) (rv:Value) (g cc:Nat) (hx:a.eval x=.slice (some ⟨g,0,none⟩) 1 cc) (hc0:w.cell? ⟨g,0,none⟩=some rv) (hrow:RowAt w rv row) (h1:rows.length+1<=1000000) (hB:B<=w.heap.size)
  (h:∀v' w',RowsOwn B w' v' (rows++[row])->Below B w w'->Keeps 138 w w'->wpList Tryz.prog ops Q rest (a.put o.dst v') w'):wpList Tryz.prog ops Q (o::rest) a w:=by
 obtain⟨i0,hi,hz0,hz1,hz2⟩:=info_parts Tryz.infoRow;obtain⟨rvs,hown,heach⟩:=hb
 refine wpList_append_lies _ hgd sl x 95 ho B 138 i0 _ 1 24 Tryz.underlying95 hi hz0 hz1 hz2 rfl (by decide) v rows.length _ hs hown ⟨g,0,none⟩ 1 cc [rv] hx rfl (by
  intro j u hu;rw[jQaQ]
  match j,hu with
  | 0,hu=>simp at hu;subst hu;exact hc0
  | j+1,hu=>simp at hu) (by intro u hu;simp at hu;subst hu;exact hrow.one) (by decide) (by unfold maxLen;omega) (by omega) hB _ rfl ?_
 intro g' cap w' ho' hg' _ _;exact h _ w' (RowsOwn.snoc ho' (by simpa using hown.1) (fun i r hi=>let ⟨y,h4,h5⟩:=heach i r hi;⟨y,h4,h5.grown hown hg'⟩) (hrow.grown hown hg')) (Tch.of_grown hg' (fun k hk=>(hown.lt k hk).1) hB) (fun q c e fr hq he=>hg'.block q (jQf hq) (fun e2=>jQn hown hq (fun e3=>he e3.symm) e2.symm))
theorem Sq.jQoZ (cols:List Sq.Col)(es:List Ent)(k:Nat)(h:k<es.length):(es.take (k+1)).filterMap (Sq.rowOf cols)=(es.take k).filterMap (Sq.rowOf cols)++(Sq.rowOf cols es[k]).toList:=by
 rw[List.take_succ_eq_append_getElem h,List.filterMap_append];cases h2:Sq.rowOf cols es[k]<;>simp[h2]
theorem Sq.jQqq (cols:List Sq.Col)(es:List Ent)(k:Nat):((es.take k).filterMap (Sq.rowOf cols)).length<=k:=Nat.le_trans (List.length_filterMap_le _ _) (List.length_take_le _ _)
theorem Sq.jQkK {cols:List Sq.Col}{key:Int}{row:ByteArray}{l:List Sq.Val}(h:Sq.toCells cols key row=some l):l.length<=cols.length+1:=by
 unfold Sq.toCells at h
 split at h
 ·cases h;unfold Sq.rowCells;rw[Sq.jQif];simp;omega
 ·cases h
def RowsSays (tb:Nat)(x:List (List Sq.Val)×Trl)(w:World)(e:Ending)(w':World):Prop:=∃v,e=.returned v/\RowsOwn 0 w' v x.1/\TrAt tb w' x.2/\TFrm tb w w'
theorem jQre (hh:Sq.Head)(ev cv:Value)(t:Sq.TabN)(tv:Value)(low high:Int)(es:List Ent)(tb:Nat)(tr1:Trl)(w:World)(hev:∃a k c,ev=.slice a k c)(hcv:∃a k c,cv=.slice a k c)(htb:tb<w.heap.size)(hel:es.length<=900)(hrow:∀e∈es,e.row.size<=1000/\0<=e.place)
  (hn0:0<=t.number) (hn1:t.number<=100000) (hl0:-100000000000<=low) (hl1:low<=100000000000) (hh0:-100000000000<=high) (hh1:high<=100000000000) (htc:ColsAt w tv t.cols) (htl:t.cols.length<=1000)
  (hthru:∀w',Below w.heap.size w w'->Calls Tryz.prog 103 #[.agg (headCells hh ev cv).toArray,.int .i64 (placeOf t.number low),.int .i64 (placeOf t.number high),.pointer (some ⟨tb,0,none⟩)] w' (ThruSays tb (es,tr1) w')) :
  Calls Tryz.prog 118 #[.agg (headCells hh ev cv).toArray,.agg #[.int .i64 t.number,.string t.name,tv],.int .i64 low,.int .i64 high,.pointer (some ⟨tb,0,none⟩)] w (RowsSays tb (es.filterMap (Sq.rowOf t.cols),Sq.loseIf (es.any fun e=>(Sq.rowOf t.cols e).isNone) tr1) w):=by
 obtain⟨e1,e2,e3,rfl⟩:=hev;obtain⟨c1,c2,c3,rfl⟩:=hcv;obtain⟨to',tcap,rfl⟩:=jQa htc.1;obtain⟨tn,tnm,cols⟩:=t;simp only at *;rw[jQc] at hthru ⊢;have HK:=hd hthru;have h7:=hd hrow;have hJ:=hd htc;obtain⟨W,hW⟩:∃W:World,W=(w.alloc (.cells #[.bool hh.inner,.slice e1 e2 e3,.slice c1 c2 c3,.int .i64 hh.least,.int .i64 hh.rows,.string hh.sl,.int .i64 hh.num] 91)).alloc (.cells #[.int .i64 tn,.string tnm,.slice to' cols.length tcap] 94):=⟨_,rfl⟩;obtain⟨hbW,hbox,hblk⟩:=jQa4 hW;obtain⟨k0,k1,k2,k3,k4,k5,k6⟩:=jQs hbox;have t0:W.cell? ⟨w.heap.size+1,0,none⟩=some (.int .i64 tn):=by rw[jQb hblk];rfl
 have Hg:=jQf hbox;have Hf:=jQf hblk;have hB:=hd hbW;have hr:=hd hblk;clear hbW hbox hthru hrow hblk htc;go_enter Tryz.func118,Tryz.ntmps118;go_wp2;rw[<-hW];clear hW
 go_cut [11] from 16 (fun v wx=>EntsAt 0 wx v es/\TrAt tb wx tr1/\TFrm tb W wx)
 case first =>
  go_region_with (first
   | (go_at_call 104;refine(jQb9 _ _ _ (by omega) (by omega) (by omega) (by omega)).mono ?_;rintro e w5 ⟨rfl,hw5⟩;rw[hw5];clear hw5 w5)
   | (go_at_call 103;refine(HK.o _ hB.o.drew).mono ?_;rintro e w5 ⟨v5,rfl,he5,-,ht5,hf5⟩;have hD:Hid (TFrm tb W w5):=(TFrm.of (Below.drew (bR)) (by omega)).trans hf5;have hz:=hd ht5;have hV:=hd (he5.base (zR));clear hf5 ht5 he5))
  all_goals(try go_wp2_with fail)
  all_goals go_meet
  all_goals exact⟨hV.o,hz.o,hD.o⟩
 case rest =>
  obtain⟨hce,hct,hcf⟩:=hcut;obtain⟨ao,acap,rfl⟩:=jQa hce;obtain⟨w1,rfl⟩:∃w1:World,w1=wc:=⟨_,rfl⟩;have h4:=hd hce;have hU:=hd hct;have h5:Hid (TFrm tb w w1):=(TFrm.of hB.o (by omega)).trans hcf;have hj:Hid (w1.heap[w.heap.size+1]?=some (.cells #[.int .i64 tn,.string tnm,.slice to' cols.length tcap] 94)):=(hcf.keep _ _ _ _ hr.o (by decide) (by decide)).trans hr.o
  have hI:Hid (ColsAt w1 (.slice to' cols.length tcap) cols):=⟨by
   have h0:=(hJ.o.below hB.o).1;refine⟨h0.1,?_⟩;rcases h0.2 with h1 | ⟨g,cap,cur,hv,hbg,hh,hn,hm,hc,ht⟩
   ·exact Or.inl h1
   ·exact Or.inr ⟨g,cap,cur,hv,hbg,(hcf.keep g _ _ _ hh (by decide) (by decide)).trans hh,hn,hm,hc,ht⟩,hJ.o.2⟩
  have Hh:=hcf.below_lt;have h8:=hct.lt;clear hce hct hcf k0 k1 k2 k3 k4 k5 k6 HK t0;go_wp2
  go_loopw [12,13] (fun v i wr=>∃k:Nat,i=.int .i64 k/\k<=es.length/\RowsOwn w1.heap.size wr v ((es.take k).filterMap (Sq.rowOf cols))/\TrAt tb wr (Sq.loseIf ((es.take k).any fun e=>(Sq.rowOf cols e).isNone) tr1)/\TFrm tb w1 wr/\Hid (ColsAt wr (.slice to' cols.length tcap) cols)) (fun _ i _=>es.length-(intOf i).toNat)
  case atStart=>exact⟨0,rfl,zR,RowsOwn.nil _ _,by rw[show Sq.loseIf ((es.take 0).any fun e=>(Sq.rowOf cols e).isNone) tr1=tr1 by simp[Sq.loseIf]];exact hU.o,TFrm.refl _ _,hI⟩
  case round =>
   obtain⟨k,rfl,hk,hT,ht,hf,HTCr⟩:=hrel;obtain⟨wo,rfl⟩:∃wo:World,wo=wr:=⟨_,rfl⟩;have hK:=Sq.jQqq cols es k;have hu:=hd ht;have HF:=hd hf;have Hi:=hf.below_lt;have Hd:=ht.lt
   by_cases hkt:k<es.length
   ·have hq:=Sq.jQoZ cols es k hkt;have ha:=jQoo es (fun e=>(Sq.rowOf cols e).isNone) k hkt;obtain⟨l,hl⟩:∃l,l=(es.take k).filterMap (Sq.rowOf cols):=⟨_,rfl⟩;rw[<-hl] at hT hK hq;obtain⟨lb,hlb⟩:∃lb,lb=(es.take k).any fun e=>(Sq.rowOf cols e).isNone:=⟨_,rfl⟩
    rw[<-hlb] at ha hu;obtain⟨lo,lcap,rfl⟩:=hT.slice;obtain⟨g,cap',hv,hg,d0,d1⟩:=(h4.o.tfrm hf).at k hkt;simp only[Value.slice.injEq] at hv;obtain⟨rfl,-,rfl⟩:=hv;have hm:=h7.o es[k] (List.getElem_mem hkt);have HT:=hd hT;have hb:=(hf.keep (w.heap.size+1) _ _ _ hj.o (by decide) (by decide)).trans hj.o;have d2:wo.cell? ⟨w.heap.size+1,2,none⟩=some (.slice to' cols.length tcap):=by rw[jQb hb];rfl
    have Ha:=jQf hb;have hL:Sq.rowOf cols es[k]=Sq.toCells cols (Sq.keyAt es[k].place) es[k].row:=rfl;rw[hL] at hq ha;clear hl hlb hT ht hf hb hL;generalize es[k]=x at *;obtain⟨xp,xr⟩:=x;simp only at d0 d1 hm hq ha;obtain⟨hm0,hm1⟩:=hm;have hw:∀y,Sq.toCells cols (Sq.keyAt xp) xr=some y->y.length<=cols.length+1:=fun y hy=>Sq.jQkK hy
    have hQ:Hid (∀w',Below wo.heap.size wo w'->Calls Tryz.prog 158 #[.slice to' cols.length tcap,.int .i64 (Sq.keyAt xp),.string xr] w' (CellsPost w' (Sq.toCells cols (Sq.keyAt xp) xr))):=fun w' hb'=>jQlB cols _ _ xr w' (HTCr.o.below hb') htl hm0
    obtain⟨tc,htc⟩:∃x,x=Sq.toCells cols (Sq.keyAt xp) xr:=⟨_,rfl⟩;have hG:=hQ.o;rw[<-htc] at hq ha hw hG;have hH:=hd hG;have HQ:=hd hq;have HA:=hd ha;have i1:(k:Int)<(es.length:Int):=by omega
    have i2:¬((es.length:Int)<=(k:Int)):=by omega
    have i0:¬((k:Int)<0):=by omega
    have hi:(⟨true,(Sq.loseIf lb tr1).nums⟩:Trl)=Sq.loseIf (lb || true) tr1:=by simp[Sq.loseIf]
    have hp:=hd hi;clear htc hQ hG hq ha hi;go_wp2
    go_cut [14,15] from 34 to 51 (fun v8 v9 wx=>∃yo ycap,v8=.slice yo (tc.getD []).length ycap/\v9=.bool tc.isSome/\ValsNew wo.heap.size wx (.slice yo (tc.getD []).length ycap) (tc.getD [])/\Below wo.heap.size wo wx)
    case first =>
     go_region_with (first
      | (go_at_call 105;refine(jQim xp _ hm1).mono ?_;rintro e w5 ⟨rfl,hw5⟩;rw[hw5];clear hw5 w5)
      | (go_at_call 158;refine(hH.o _ (Below.drew (bR))).mono ?_;rintro e w5 ⟨v5,rfl,ho5,hb5⟩;obtain⟨yo,ycap,rfl⟩:=jQa ho5;have hS:Below wo.heap.size wo w5:=(Below.drew (bR)).trans hb5;have h2:Hid (ValsNew wo.heap.size w5 (.slice yo (tc.getD []).length ycap) (tc.getD [])):=ho5;have Hb:=hd hS;clear ho5 hb5 hS))
     all_goals(try go_wp2_with fail)
     all_goals go_meet
     all_goals exact⟨yo,ycap,rfl,rfl,h2.o,Hb.o⟩
    case rest =>
     obtain⟨yo,ycap,rfl,rfl,ho5,hb5⟩:=hcut;obtain⟨wd,rfl⟩:∃wd:World,wd=wc:=⟨_,rfl⟩;have Hc:=hb5.size;have hO:=hd (HT.o.below hb5);have he:=hd (hu.o.below hb5);have hN:Hid (TFrm tb w1 wd):=HF.o.trans (TFrm.of hb5 (by omega));have ho:=hd (HTCr.o.below hb5);cases tc with
     | none =>
      have hx:Hid ((es.take (k+1)).filterMap (Sq.rowOf cols)=l):=by show _=_;rw[HQ.o];simp
      have hF:Hid (((es.take (k+1)).any fun e=>(Sq.rowOf cols e).isNone)=(lb || true)):=by show _=_;rw[HA.o];rfl
      obtain⟨hl1,hl2,hl3,hl4,hl5⟩:=he.o.lose;have h6:=hd hl1;have h9:=hd hl2;have hM:=hd hl3;have hZ:=he.o.lt;clear hl1 hl2 hl3 hw ho5 hb5;simp only[Option.isSome_none];go_wp2;go_roundw
      case rel=>exact⟨k+1,by go_num,by omega,by rw[hx.o];exact hO.o.keeps hM.o (by decide) (by decide),by rw[hF.o,<-hp.o];exact h6.o,hN.o.trans h9.o,⟨jQ2 hM.o (by decide) ho.o.1,ho.o.2⟩⟩
      case measure=>simp[intOf];omega
     | some y =>
      have hx:Hid ((es.take (k+1)).filterMap (Sq.rowOf cols)=l++[y]):=by show _=_;rw[HQ.o];simp
      have hF:Hid (((es.take (k+1)).any fun e=>(Sq.rowOf cols e).isNone)=lb):=by show _=_;rw[HA.o];simp
      have He:=hw y rfl;simp only[Option.isSome_some,Option.getD_some] at ho5 ⊢;have hA:Below wd.heap.size wd (wd.alloc (.cells #[.slice yo y.length ycap] 138)):=(bR).alloc (nR) _;have hz:=hd (hO.o.below hA);have hX:Hid (RowAt (wd.alloc (.cells #[.slice yo y.length ycap] 138)) (.slice yo y.length ycap) y):=RowAt.below (w:=wd) ⟨jQj ho5 (zR),(by omega)⟩ hA;have hC:=hd (he.o.below hA);have hD:Hid (TFrm tb w1 (wd.alloc (.cells #[.slice yo y.length ycap] 138))):=hN.o.trans (TFrm.of hA (by omega));have hs:=hd (ho.o.below hA);clear hw ho5 hb5 hA;go_wp2_with (at_builtin;refine jQdy rfl (.tmp 56) (.tmp 59) rfl w1.heap.size _ l rfl hz.o y (.slice yo y.length ycap) wd.heap.size 1 rfl (by simp[go_sem]) hX.o (by omega) (by simp;omega) ?_;intro v7 w7 hT7 hb7 hk7;have h3:=hd hT7;have hY:=hd hb7;have hR:=hd hk7;clear hT7 hb7 hk7);go_roundw
      case rel=>exact⟨k+1,by go_num,by omega,by rw[hx.o];exact h3.o,by rw[hF.o];exact hC.o.keeps hR.o (by decide) (by decide),hD.o.grow hY.o (by omega),⟨jQ2 hR.o (by decide) hs.o.1,hs.o.2⟩⟩
      case measure=>simp[intOf];omega
   ·have i1:¬((k:Int)<(es.length:Int)):=by omega
    have hP:es.take k=es:=List.take_of_length_le (by omega);have hE:=hu.o;rw[hP] at hT hE;obtain⟨l,hl⟩:∃l,l=es.filterMap (Sq.rowOf cols):=⟨_,rfl⟩;rw[<-hl] at hT;obtain⟨lo,lcap,rfl⟩:=hT.slice;have HL:=hd hl;have HT:=hd hT;have he:=hd hE;clear hT ht hf hP hE hu hl hK;go_wp2;go_ret;exact⟨_,rfl,by rw[<-HL.o];exact HT.o.base (zR),he.o,h5.o.trans HF.o⟩
theorem jQrf (K:Int)(hK:K<=99999)(X:Sq.NTree)(ev cv:Value)(t:Sq.TabN)(tv:Value)(low high:Int)(tb:Nat)(tr:Trl)(w:World)(h:NodeAt Z w X.d X.t ev cv)(hf:Sq.tameN K X.d X.t)(hc:Sq.countN X.d X.t<=900)(ht:TrAt tb w tr)(hr:Sq.TameR K tr)
  (hn0:0<=t.number) (hn1:t.number<=100000) (hl0:-2147483648<=low) (hl1:low<=100000000000) (hh0:-100000000000<=high) (hh1:high<=100000000000) (htc:ColsAt w tv t.cols) (htl:t.cols.length<=1000) :
  Calls Tryz.prog 118 #[.agg (headCells X.head ev cv).toArray,.agg #[.int .i64 t.number,.string t.name,tv],.int .i64 low,.int .i64 high,.pointer (some ⟨tb,0,none⟩)] w (RowsSays tb (Sq.rowsR X t low high tr) w):=by
 have h1:=jQdA (K:=K) (placeOf t.number low) (placeOf t.number high) X.d X.t tr hf;have h2:=Sq.jQaI X.d X.t (placeOf t.number low) (placeOf t.number high) tr hf hr;refine jQre X.head ev cv t tv low high _ tb _ w (NodeAt.slices h).1 (NodeAt.slices h).2 ht.lt (Nat.le_trans h2.2 hc) (fun e he=>⟨by have:=(h1 e he).2.2;omega,?_⟩) hn0 hn1 (by omega) hl1 hh0 hh1 htc htl (fun w' hb=>jQdh K hK _ _ tb X.d X.t ev cv tr w' (h.below hb) hf hc (ht.below hb) hr);have ha:=(h1 e he).1;have hb:placeOf t.number low=t.number*4294967296+low+2147483648:=rfl;omega
end
end Go.Proofs.YtahpihjialbanaaGreatDoor
