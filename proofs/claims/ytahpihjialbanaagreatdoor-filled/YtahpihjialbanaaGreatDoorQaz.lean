import Derived.Test.YtahpihjialbanaaGreatDoorQau
set_option linter.unusedVariables false
set_option linter.unusedSimpArgs false
set_option maxRecDepth 100000
set_option maxHeartbeats 8000000
namespace Go.Proofs.YtahpihjialbanaaGreatDoor
section
open Go.RowKit
variable {Z:Nat→Prop}
theorem RowsOwn.keeps {e0:TypeId}{B:Nat}{w w':World}{v:Value}{rows:List (List Sq.Val)}(h:RowsOwn B w v rows)(k:Keeps e0 w w')(h1:138≠e0)(h2:208≠e0):RowsOwn B w' v rows:=by
 obtain⟨rvs,hown,heach⟩:=h
 exact⟨rvs,jQZ k h1 hown,fun i r hi=>let ⟨y,h4,h5⟩:=heach i r hi;⟨y,h4,⟨jQZ k h2 h5.1,h5.2⟩⟩⟩
theorem jQdJ {ops:Array Oper}{rest:List Oper}{o:Oper}{a:Act}{Q:Exit→Act→World→Prop}{w:World}(hgd:o.guard=none)(sl x:Operand)
  (ho:o.op=.call { callee:=.builtin .append,args:=#[sl,x],argTypes:=#[95,95] }) (B:Nat) (v:Value) (rows:List (List Sq.Val)) (hs:a.eval sl=v) (hb:RowsOwn B w v rows)
  (row:List Sq.Val) (rv:Value) (g cc:Nat) (hx:a.eval x=.slice (some ⟨g,0,none⟩) 1 cc) (hc0:w.cell? ⟨g,0,none⟩=some rv) (hrow:RowAt w rv row) (h1:rows.length+1≤1000000) (hB:B≤w.heap.size)
  (h:∀v' w',RowsOwn B w' v' (rows++[row])→Below B w w'→Keeps 138 w w'→wpList Tryz.prog ops Q rest (a.put o.dst v') w'):wpList Tryz.prog ops Q (o :: rest) a w:=by
 obtain⟨i0,hi,hz0,hz1,hz2⟩:=info_parts Tryz.infoRow
 obtain⟨rvs,hown,heach⟩:=hb
 refine wpList_append_lies _ hgd sl x 95 ho B 138 i0 _ 1 24 Tryz.underlying95 hi hz0 hz1 hz2 rfl (by decide) v rows.length _ hs hown ⟨g,0,none⟩ 1 cc [rv] hx rfl (by
  intro j u hu
  rw[jQbt]
  match j,hu with
  | 0,hu=>simp at hu;subst hu;exact hc0
  | j+1,hu=>simp at hu) (by intro u hu;simp at hu;subst hu;exact hrow.one) (by decide) (by unfold maxLen;omega) (by omega) hB _ rfl ?_
 intro g' cap w' ho' hg' _ _
 exact h _ w' (RowsOwn.snoc ho' (by simpa using hown.1) (fun i r hi=>let ⟨y,h4,h5⟩:=heach i r hi;⟨y,h4,h5.grown hown hg'⟩) (hrow.grown hown hg')) (Tch.of_grown hg' (fun k hk=>(hown.lt k hk).1) hB) (fun q c e fr hq he=>hg'.block q (jQg hq) (fun e2=>jQl hown hq (fun e3=>he e3.symm) e2.symm))
theorem Sq.jQoy (cols:List Sq.Col)(es:List Sq.Ent)(k:Nat)(h:k < es.length):(es.take (k+1)).filterMap (Sq.rowOf cols)=(es.take k).filterMap (Sq.rowOf cols)++(Sq.rowOf cols es[k]).toList:=by
 rw[List.take_succ_eq_append_getElem h,List.filterMap_append]
 cases h2:Sq.rowOf cols es[k] <;> simp[h2]
theorem Sq.jQqq (cols:List Sq.Col)(es:List Sq.Ent)(k:Nat):((es.take k).filterMap (Sq.rowOf cols)).length≤k:=Nat.le_trans (List.length_filterMap_le _ _) (List.length_take_le _ _)
theorem Sq.jQko {cols:List Sq.Col}{key:Int}{row:ByteArray}{l:List Sq.Val}(h:Sq.toCells cols key row=some l):l.length≤cols.length+1:=by
 unfold Sq.toCells at h
 split at h
 ·cases h
  unfold Sq.rowCells
  rw[Sq.jQhS]
  simp;omega
 ·cases h
def RowsSays (tb:Nat)(x:List (List Sq.Val)×Sq.Trl)(w:World)(e:Ending)(w':World):Prop:=∃v,e=.returned v∧RowsOwn 0 w' v x.1∧TrAt tb w' x.2∧TFrm tb w w'
theorem jQrw (hh:Sq.Head)(ev cv:Value)(t:Sq.TabN)(tv:Value)(low high:Int)(es:List Sq.Ent)(tb:Nat)(tr1:Sq.Trl)(w:World)(hev:∃a k c,ev=.slice a k c)(hcv:∃a k c,cv=.slice a k c)(htb:tb < w.heap.size)(hel:es.length≤900)(hrow:∀e∈es,e.row.size≤1000∧0≤e.place)
  (hn0:0≤t.number) (hn1:t.number≤100000) (hl0:-100000000000≤low) (hl1:low≤100000000000) (hh0:-100000000000≤high) (hh1:high≤100000000000) (htc:ColsAt w tv t.cols) (htl:t.cols.length≤1000)
  (hthru:∀w',Below w.heap.size w w'→Calls Tryz.prog 103 #[.agg (headCells hh ev cv).toArray,.int .i64 (Sq.placeOf t.number low),.int .i64 (Sq.placeOf t.number high),.pointer (some ⟨tb,0,none⟩)] w' (ThruSays tb (es,tr1) w')) :
  Calls Tryz.prog 118 #[.agg (headCells hh ev cv).toArray,.agg #[.int .i64 t.number,.string t.name,tv],.int .i64 low,.int .i64 high,.pointer (some ⟨tb,0,none⟩)] w (RowsSays tb (es.filterMap (Sq.rowOf t.cols),Sq.loseIf (es.any fun e=>(Sq.rowOf t.cols e).isNone) tr1) w):=by
 obtain⟨e1,e2,e3,rfl⟩:=hev
 obtain⟨c1,c2,c3,rfl⟩:=hcv
 obtain⟨to',tcap,rfl⟩:=jQa htc.1
 obtain⟨tn,tnm,cols⟩:=t
 simp only at *
 rw[jQc] at hthru ⊢
 have HK:=hd hthru
 have HRW:=hd hrow
 have HTC:=hd htc
 obtain⟨W,hW⟩:∃W:World,W=(w.alloc (.cells #[.bool hh.inner,.slice e1 e2 e3,.slice c1 c2 c3,.int .i64 hh.least,.int .i64 hh.rows,.string hh.sl,.int .i64 hh.num] 91)).alloc (.cells #[.int .i64 tn,.string tnm,.slice to' cols.length tcap] 94):=⟨_,rfl⟩
 obtain⟨hbW,hbox,hblk⟩:=jQbg hW
 obtain⟨k0,k1,k2,k3,k4,k5,k6⟩:=jQr hbox
 have t0:W.cell? ⟨w.heap.size+1,0,none⟩=some (.int .i64 tn):=by rw[jQb hblk];rfl
 have hzB:=jQg hbox
 have hzW:=jQg hblk
 have HBW:=hd hbW
 have HBLK:=hd hblk
 clear hbW hbox hthru hrow hblk htc
 go_enter Tryz.func118,Tryz.ntmps118
 go_wp2
 rw[←hW]
 clear hW
 go_cut [11] from 16 (fun v wx=>EntsAt 0 wx v es∧TrAt tb wx tr1∧TFrm tb W wx)
 case first =>
  go_region_with (first
   | (go_at_call 104;refine(jQcs _ _ _ (by omega) (by omega) (by omega) (by omega)).mono ?_;rintro e w5 ⟨rfl,hw5⟩;rw[hw5];clear hw5 w5)
   | (go_at_call 103;refine(HK.out _ HBW.out.drew).mono ?_;rintro e w5 ⟨v5,rfl,he5,-,ht5,hf5⟩;have HF5:Hid (TFrm tb W w5):=(TFrm.of (Below.drew (Below.refl _ _)) (by omega)).trans hf5;have HT5:=hd ht5;have HE5:=hd (he5.base (Nat.zero_le _));clear hf5 ht5 he5))
  all_goals(try go_wp2_with fail)
  all_goals go_meet
  all_goals exact⟨HE5.out,HT5.out,HF5.out⟩
 case rest =>
  obtain⟨hce,hct,hcf⟩:=hcut
  obtain⟨ao,acap,rfl⟩:=jQa hce
  obtain⟨w1,rfl⟩:∃w1:World,w1=wc:=⟨_,rfl⟩
  have HES:=hd hce
  have HT1:=hd hct
  have HF1:Hid (TFrm tb w w1):=(TFrm.of HBW.out (by omega)).trans hcf
  have HBLK1:Hid (w1.heap[w.heap.size+1]?=some (.cells #[.int .i64 tn,.string tnm,.slice to' cols.length tcap] 94)):=(hcf.keep _ _ _ _ HBLK.out (by decide) (by decide)).trans HBLK.out
  have HTC1:Hid (ColsAt w1 (.slice to' cols.length tcap) cols):=⟨by
   have h0:=(HTC.out.below HBW.out).1
   refine⟨h0.1,?_⟩
   rcases h0.2 with h1 | ⟨g,cap,cur,hv,hbg,hh,hn,hm,hc,ht⟩
   ·exact Or.inl h1
   ·exact Or.inr ⟨g,cap,cur,hv,hbg,(hcf.keep g _ _ _ hh (by decide) (by decide)).trans hh,hn,hm,hc,ht⟩,HTC.out.2⟩
  have hz1:=hcf.below_lt
  have hzt1:=hct.lt
  clear hce hct hcf k0 k1 k2 k3 k4 k5 k6 HK t0
  go_wp2
  go_loopw [12,13] (fun v i wr=>∃k:Nat,i=.int .i64 k∧k≤es.length∧RowsOwn w1.heap.size wr v ((es.take k).filterMap (Sq.rowOf cols))∧TrAt tb wr (Sq.loseIf ((es.take k).any fun e=>(Sq.rowOf cols e).isNone) tr1)∧TFrm tb w1 wr∧Hid (ColsAt wr (.slice to' cols.length tcap) cols)) (fun _ i _=>es.length - (intOf i).toNat)
  case atStart=>exact⟨0,rfl,Nat.zero_le _,RowsOwn.nil _ _,by rw[show Sq.loseIf ((es.take 0).any fun e=>(Sq.rowOf cols e).isNone) tr1=tr1 by simp[Sq.loseIf]];exact HT1.out,TFrm.refl _ _,HTC1⟩
  case round =>
   obtain⟨k,rfl,hk,hT,ht,hf,HTCr⟩:=hrel
   obtain⟨wo,rfl⟩:∃wo:World,wo=wr:=⟨_,rfl⟩
   have hrl:=Sq.jQqq cols es k
   have HTR:=hd ht
   have HF:=hd hf
   have hzr:=hf.below_lt
   have hzt:=ht.lt
   by_cases hkt:k < es.length
   ·have hq:=Sq.jQoy cols es k hkt
    have ha:=jQnT es (fun e=>(Sq.rowOf cols e).isNone) k hkt
    obtain⟨l,hl⟩:∃l,l=(es.take k).filterMap (Sq.rowOf cols):=⟨_,rfl⟩
    rw[←hl] at hT hrl hq
    obtain⟨lb,hlb⟩:∃lb,lb=(es.take k).any fun e=>(Sq.rowOf cols e).isNone:=⟨_,rfl⟩
    rw[←hlb] at ha HTR
    obtain⟨lo,lcap,rfl⟩:=hT.slice
    obtain⟨g,cap',hv,hg,d0,d1⟩:=(HES.out.tfrm hf).at k hkt
    simp only[Value.slice.injEq] at hv
    obtain⟨rfl,-,rfl⟩:=hv
    have hm:=HRW.out es[k] (List.getElem_mem hkt)
    have HT:=hd hT
    have hblkr:=(hf.keep (w.heap.size+1) _ _ _ HBLK1.out (by decide) (by decide)).trans HBLK1.out
    have d2:wo.cell? ⟨w.heap.size+1,2,none⟩=some (.slice to' cols.length tcap):=by rw[jQb hblkr];rfl
    have hztr:=jQg hblkr
    have hro:Sq.rowOf cols es[k]=Sq.toCells cols (Sq.keyAt es[k].place) es[k].row:=rfl
    rw[hro] at hq ha
    clear hl hlb hT ht hf hblkr hro
    generalize es[k]=x at *
    obtain⟨xp,xr⟩:=x
    simp only at d0 d1 hm hq ha
    obtain⟨hm0,hm1⟩:=hm
    have hcl:∀y,Sq.toCells cols (Sq.keyAt xp) xr=some y→y.length≤cols.length+1:=fun y hy=>Sq.jQko hy
    have HKC:Hid (∀w',Below wo.heap.size wo w'→Calls Tryz.prog 158 #[.slice to' cols.length tcap,.int .i64 (Sq.keyAt xp),.string xr] w' (CellsPost w' (Sq.toCells cols (Sq.keyAt xp) xr))):=fun w' hb'=>jQlm cols _ _ xr w' (HTCr.out.below hb') htl hm0
    obtain⟨tc,htc⟩:∃x,x=Sq.toCells cols (Sq.keyAt xp) xr:=⟨_,rfl⟩
    have hkc:=HKC.out
    rw[←htc] at hq ha hcl hkc
    have HKC2:=hd hkc
    have HQ:=hd hq
    have HA:=hd ha
    have i1:(k:Int) < (es.length:Int):=by omega
    have i2:¬((es.length:Int)≤(k:Int)):=by omega
    have i0:¬((k:Int) < 0):=by omega
    have hlost:(⟨true,(Sq.loseIf lb tr1).nums⟩:Sq.Trl)=Sq.loseIf (lb || true) tr1:=by simp[Sq.loseIf]
    have HLOST:=hd hlost
    clear htc HKC hkc hq ha hlost
    go_wp2
    go_cut [14,15] from 34 to 51 (fun v8 v9 wx=>∃yo ycap,v8=.slice yo (tc.getD []).length ycap∧v9=.bool tc.isSome∧ValsNew wo.heap.size wx (.slice yo (tc.getD []).length ycap) (tc.getD [])∧Below wo.heap.size wo wx)
    case first =>
     go_region_with (first
      | (go_at_call 105;refine(jQh0 xp _ hm1).mono ?_;rintro e w5 ⟨rfl,hw5⟩;rw[hw5];clear hw5 w5)
      | (go_at_call 158;refine(HKC2.out _ (Below.drew (Below.refl _ _))).mono ?_;rintro e w5 ⟨v5,rfl,ho5,hb5⟩;obtain⟨yo,ycap,rfl⟩:=jQa ho5;have hb6:Below wo.heap.size wo w5:=(Below.drew (Below.refl _ _)).trans hb5;have HO5:Hid (ValsNew wo.heap.size w5 (.slice yo (tc.getD []).length ycap) (tc.getD [])):=ho5;have HB5:=hd hb6;clear ho5 hb5 hb6))
     all_goals(try go_wp2_with fail)
     all_goals go_meet
     all_goals exact⟨yo,ycap,rfl,rfl,HO5.out,HB5.out⟩
    case rest =>
     obtain⟨yo,ycap,rfl,rfl,ho5,hb5⟩:=hcut
     obtain⟨wd,rfl⟩:∃wd:World,wd=wc:=⟨_,rfl⟩
     have hz5:=hb5.size
     have HT2:=hd (HT.out.below hb5)
     have HTR2:=hd (HTR.out.below hb5)
     have HF2:Hid (TFrm tb w1 wd):=HF.out.trans (TFrm.of hb5 (by omega))
     have HTC2:=hd (HTCr.out.below hb5)
     cases tc with
     | none =>
      have HQ2:Hid ((es.take (k+1)).filterMap (Sq.rowOf cols)=l):=by show _=_;rw[HQ.out];simp
      have HA2:Hid (((es.take (k+1)).any fun e=>(Sq.rowOf cols e).isNone)=(lb || true)):=by show _=_;rw[HA.out];rfl
      obtain⟨hl1,hl2,hl3,hl4,hl5⟩:=HTR2.out.lose
      have HL1:=hd hl1
      have HL2:=hd hl2
      have HL3:=hd hl3
      have hzt2:=HTR2.out.lt
      clear hl1 hl2 hl3 hcl ho5 hb5
      simp only[Option.isSome_none]
      go_wp2
      go_roundw
      case rel=>exact⟨k+1,by go_num,by omega,by rw[HQ2.out];exact HT2.out.keeps HL3.out (by decide) (by decide),by rw[HA2.out,←HLOST.out];exact HL1.out,HF2.out.trans HL2.out,⟨jQZ HL3.out (by decide) HTC2.out.1,HTC2.out.2⟩⟩
      case measure=>simp[intOf];omega
     | some y =>
      have HQ2:Hid ((es.take (k+1)).filterMap (Sq.rowOf cols)=l++[y]):=by show _=_;rw[HQ.out];simp
      have HA2:Hid (((es.take (k+1)).any fun e=>(Sq.rowOf cols e).isNone)=lb):=by show _=_;rw[HA.out];simp
      have hyl:=hcl y rfl
      simp only[Option.isSome_some,Option.getD_some] at ho5 ⊢
      have hA:Below wd.heap.size wd (wd.alloc (.cells #[.slice yo y.length ycap] 138)):=(Below.refl _ _).alloc (Nat.le_refl _) _
      have HT5:=hd (HT2.out.below hA)
      have HY5:Hid (RowAt (wd.alloc (.cells #[.slice yo y.length ycap] 138)) (.slice yo y.length ycap) y):=RowAt.below (w:=wd) ⟨jQi ho5 (Nat.zero_le _),(by omega)⟩ hA
      have HTR5:=hd (HTR2.out.below hA)
      have HF5:Hid (TFrm tb w1 (wd.alloc (.cells #[.slice yo y.length ycap] 138))):=HF2.out.trans (TFrm.of hA (by omega))
      have HTC5:=hd (HTC2.out.below hA)
      clear hcl ho5 hb5 hA
      go_wp2_with (at_builtin;refine jQdJ rfl (.tmp 56) (.tmp 59) rfl w1.heap.size _ l rfl HT5.out y (.slice yo y.length ycap) wd.heap.size 1 rfl (by simp[go_sem]) HY5.out (by omega) (by simp;omega) ?_;intro v7 w7 hT7 hb7 hk7;have HT7:=hd hT7;have HB7:=hd hb7;have HK7:=hd hk7;clear hT7 hb7 hk7)
      go_roundw
      case rel=>exact⟨k+1,by go_num,by omega,by rw[HQ2.out];exact HT7.out,by rw[HA2.out];exact HTR5.out.keeps HK7.out (by decide) (by decide),HF5.out.grow HB7.out (by omega),⟨jQZ HK7.out (by decide) HTC5.out.1,HTC5.out.2⟩⟩
      case measure=>simp[intOf];omega
   ·have i1:¬((k:Int) < (es.length:Int)):=by omega
    have htk:es.take k=es:=List.take_of_length_le (by omega)
    have htr:=HTR.out
    rw[htk] at hT htr
    obtain⟨l,hl⟩:∃l,l=es.filterMap (Sq.rowOf cols):=⟨_,rfl⟩
    rw[←hl] at hT
    obtain⟨lo,lcap,rfl⟩:=hT.slice
    have HL:=hd hl
    have HT:=hd hT
    have HTR2:=hd htr
    clear hT ht hf htk htr HTR hl hrl
    go_wp2
    go_ret
    exact⟨_,rfl,by rw[←HL.out];exact HT.out.base (Nat.zero_le _),HTR2.out,HF1.out.trans HF.out⟩
theorem jQrx (K:Int)(hK:K≤99999)(X:Sq.NTree)(ev cv:Value)(t:Sq.TabN)(tv:Value)(low high:Int)(tb:Nat)(tr:Sq.Trl)(w:World)(h:NodeAt Z w X.d X.t ev cv)(hf:Sq.tameN K X.d X.t)(hc:Sq.countN X.d X.t≤900)(ht:TrAt tb w tr)(hr:Sq.TameR K tr)
  (hn0:0≤t.number) (hn1:t.number≤100000) (hl0:-2147483648≤low) (hl1:low≤100000000000) (hh0:-100000000000≤high) (hh1:high≤100000000000) (htc:ColsAt w tv t.cols) (htl:t.cols.length≤1000) :
  Calls Tryz.prog 118 #[.agg (headCells X.head ev cv).toArray,.agg #[.int .i64 t.number,.string t.name,tv],.int .i64 low,.int .i64 high,.pointer (some ⟨tb,0,none⟩)] w (RowsSays tb (Sq.rowsR X t low high tr) w):=by
 have h1:=jQdN (K:=K) (Sq.placeOf t.number low) (Sq.placeOf t.number high) X.d X.t tr hf
 have h2:=Sq.jQaW X.d X.t (Sq.placeOf t.number low) (Sq.placeOf t.number high) tr hf hr
 refine jQrw X.head ev cv t tv low high _ tb _ w (NodeAt.slices h).1 (NodeAt.slices h).2 ht.lt (Nat.le_trans h2.2 hc) (fun e he=>⟨by have:=(h1 e he).2.2;omega,?_⟩) hn0 hn1 (by omega) hl1 hh0 hh1 htc htl (fun w' hb=>jQds K hK _ _ tb X.d X.t ev cv tr w' (h.below hb) hf hc (ht.below hb) hr)
 have ha:=(h1 e he).1
 have hb:Sq.placeOf t.number low=t.number * 4294967296+low+2147483648:=rfl
 omega
end
end Go.Proofs.YtahpihjialbanaaGreatDoor
