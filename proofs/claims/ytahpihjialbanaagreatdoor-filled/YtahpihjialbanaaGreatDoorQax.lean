import Derived.Test.YtahpihjialbanaaGreatDoorQaw
set_option linter.unusedVariables false
set_option linter.unusedSimpArgs false
set_option maxRecDepth 100000
set_option maxHeartbeats 2000000
namespace Go.Proofs.YtahpihjialbanaaGreatDoor
section
open Go.RowKit
theorem Sq.jQkP (l:List (List UInt8))(x:List UInt8):Sq.joined (l++[x])=Sq.joined l++((if l.isEmpty then[] else[44])++x):=by
 cases l with
 | nil=>simp[Sq.joined]
 | cons y r=>simp[Sq.joined]
theorem Sq.jQhj (row:List Sq.Val)(items:List Int)(k:Nat)(h:k < items.length) :
  Sq.rowTextR row (items.take (k+1))=Sq.rowTextR row (items.take k)++((if k=0 then[] else[44])++(Sq.written (Sq.cellNo row items[k])).data.toList):=by
 unfold Sq.rowTextR
 rw[List.take_succ_eq_append_getElem h,List.map_append,List.map_singleton,Sq.jQkP]
 cases k with
 | zero=>simp
 | succ k =>
  have:((items.take (k+1)).map fun n=>(Sq.written (Sq.cellNo row n)).data.toList).isEmpty=false:=by
   cases items with
   | nil=>simp at h
   | cons a r=>rfl
  rw[this];simp
theorem Sq.jQix (items:List Int)(rows:List (List Sq.Val))(k:Nat)(h:k < rows.length) :
  Sq.listedR items (rows.take (k+1))=Sq.listedR items (rows.take k)++(Sq.rowTextR rows[k] items++[59]):=by
 unfold Sq.listedR
 rw[List.take_succ_eq_append_getElem h,List.flatMap_append];simp
theorem Sq.jQd7 (v:Sq.Val)(h:Sq.okVal v):(Sq.written v).data.toList.length≤1002:=by
 obtain⟨h0,h1,h2⟩:=h
 unfold Sq.written
 split
 ·have e:(Sq.bQuote++v.text++Sq.bQuote).size=1+v.text.size+1:=by rw[ByteArray.size_append,ByteArray.size_append];rfl
  have e2:(Sq.bQuote++v.text++Sq.bQuote).data.toList.length=(Sq.bQuote++v.text++Sq.bQuote).size:=Array.length_toList
  omega
 ·have:=jQbE v.number (by omega) (by omega)
  have e2:(Sq.itoa v.number).data.toList.length=(Sq.itoa v.number).size:=Array.length_toList
  omega
theorem Sq.jQm5 (l:List (List UInt8))(h:∀x∈l,x.length≤1002):(Sq.joined l).length≤1003 * l.length:=by
 cases l with
 | nil=>simp[Sq.joined]
 | cons y r =>
  have hy:=h y (List.mem_cons_self ..)
  have hr:∀q:List (List UInt8),(∀x∈q,x.length≤1002)→(q.flatMap fun y=>44 :: y).length≤1003 * q.length:=by
   intro q
   induction q with
   | nil=>intro _;simp
   | cons z t ih =>
    intro hq
    have:=ih fun x hx=>hq x (List.mem_cons_of_mem _ hx)
    have hz:=hq z (List.mem_cons_self ..)
    rw[List.flatMap_cons,List.length_append,List.length_cons,List.length_cons]
    omega
  have:=hr r fun x hx=>h x (List.mem_cons_of_mem _ hx)
  rw[Sq.joined,List.length_append,List.length_cons]
  omega
theorem Sq.jQen (row:List Sq.Val)(items:List Int)(h:Sq.okRow row):(Sq.rowTextR row items).length≤1003 * items.length:=by
 have:=Sq.jQm5 (items.map fun n=>(Sq.written (Sq.cellNo row n)).data.toList) (by
  intro x hx
  obtain⟨n,_,rfl⟩:=List.mem_map.1 hx
  exact Sq.jQd7 _ (Sq.jQgK row n h))
 simpa[Sq.rowTextR] using this
theorem jQhy (rows:List (List Sq.Val))(items:List Int)(rv iv:Value)(w:World)(hr:RowsOwn 0 w rv rows)(hs:NumsAt w iv items)(hok:∀r∈rows,Sq.okRow r)(hT:Tbl w)(hn:rows.length≤1000)(hm:items.length≤1000) :
  Calls Tryz.prog 123 #[rv,iv] w fun e w'=>e=.returned (.string ⟨(Sq.listedR items rows).toArray⟩)∧Below w.heap.size w w':=by
 obtain⟨i0,hi,hz0,hz1,hz2⟩:=info_parts Tryz.infoU8
 obtain⟨ao,cap,rfl⟩:=hr.slice
 obtain⟨bo,bap,rfl⟩:=jQa hs.1
 have HR:=hd hr
 have HS:=hd hs
 have HT:=hd hT
 have HOK:=hd hok
 clear hr hs hT hok
 go_enter Tryz.func123,Tryz.ntmps123
 go_wp2
 go_loopw [5,6] (fun v i wr=>∃k:Nat,∃l:List UInt8,k≤rows.length∧i=.int .i64 k∧BufAt w.heap.size wr v l∧Hid (l=Sq.listedR items (rows.take k))∧l.length≤1010000 * k∧Below w.heap.size w wr) (fun _ i _=>rows.length - (intOf i).toNat)
 case atStart=>exact⟨0,[],Nat.zero_le _,rfl,World.ownsRow_nil _ _ _ _,rfl,by decide,Below.refl _ _⟩
 case round =>
  obtain⟨k,l,hk,rfl,hbuf,HLL,hl0,hb⟩:=hrel
  obtain⟨wo,rfl⟩:∃wo:World,wo=wr:=⟨_,rfl⟩
  have hzw:=hb.size
  have HB:=hd hb
  have HBUF:=hd hbuf
  obtain⟨vo,vcap,rfl⟩:=hbuf.slice
  clear hb hbuf
  by_cases hlt:k < rows.length
  ·have HST:=hd (Sq.jQix items rows k hlt)
   have hrok:=HOK.out rows[k] (List.getElem_mem hlt)
   obtain⟨row,hrw⟩:∃x,x=rows[k]:=⟨_,rfl⟩
   have hst:=HST.out
   rw[←hrw] at hst hrok
   have HST2:=hd hst
   have HRW:=hd hrw
   have HROK:=hd hrok
   clear hst HST hrw hrok
   go_wp2
   go_loopw [5,7] (fun v i wr=>∃j:Nat,∃m:List UInt8,j≤items.length∧i=.int .i64 j∧BufAt w.heap.size wr v (l++m)∧Hid (m=Sq.rowTextR row (items.take j))∧m.length≤1003 * j∧Below w.heap.size w wr) (fun _ i _=>items.length - (intOf i).toNat)
   case atStart=>exact⟨0,[],Nat.zero_le _,rfl,by rw[List.append_nil];exact HBUF.out,rfl,by decide,HB.out⟩
   case round =>
    obtain⟨j,m,hj,rfl,hbuf2,HMM,hm0,hb2⟩:=hrel
    obtain⟨v2o,v2cap,rfl⟩:=hbuf2.slice
    have hzr:=hb2.size
    have hlm:(l++m).length≤1010000 * k+1003 * j:=by rw[List.length_append];omega
    have HB2:=hd hb2
    have HBUF2:=hd hbuf2
    clear hb2 hbuf2
    by_cases hjt:j < items.length
    ·have hst:=Sq.jQhj row items j hjt
     obtain⟨nm,hnm⟩:∃x,x=items[j]:=⟨_,rfl⟩
     rw[←hnm] at hst
     have hcok:=Sq.jQgK row nm HROK.out
     obtain⟨cx,hcx⟩:∃x,x=Sq.cellNo row nm:=⟨_,rfl⟩
     rw[←hcx] at hst hcok
     have hws:=Sq.jQd7 cx hcok
     have HCX:=hd hcx
     have HNM:=hd hnm
     have HCOK:=hd hcok
     have HWS:=hd hws
     clear hnm hcx hcok hws
     have HLN:Hid ((Sq.rowTextR row (items.take (j+1))).length≤1003 * (j+1)):=Nat.le_trans (Sq.jQen row _ HROK.out) (Nat.mul_le_mul_left _ (List.length_take_le _ _))
     by_cases hj0:j=0
     ·obtain⟨wa,hwa⟩:∃wa:World,wa=wr:=⟨_,rfl⟩
      have HWA:Hid (Below w.heap.size w wa):=by rw[hwa];exact HB2.out
      obtain⟨lm,hlme⟩:∃x,x=l++m:=⟨_,rfl⟩
      have HBUFA:Hid (BufAt w.heap.size wa (.slice v2o lm.length v2cap) lm):=by rw[hwa,hlme];exact HBUF2.out
      have hla:lm.length≤1010000 * k+1003 * j+1:=by rw[hlme];omega
      have HN:Hid (lm++(Sq.written cx).data.toList=l++Sq.rowTextR row (items.take (j+1))):=by show _=_;rw[hst,←HMM.out,if_pos hj0,hlme];simp
      rw[←hwa]
      rw[←hlme]
      have hj1:¬(0:Int) < (j:Int):=by omega
      clear hst hwa hlme HB2 HBUF2 hlm hj0
      obtain⟨g,cap',ra,rc,hv,hg,c0,hrow⟩:=(HR.out.below HWA.out).at k hlt
      simp only[Value.slice.injEq] at hv
      obtain⟨rfl,-,rfl⟩:=hv
      obtain⟨q,cap'',hv,hq,d0⟩:=(HS.out.below HWA.out).at j hjt
      simp only[Value.slice.injEq] at hv
      obtain⟨rfl,-,rfl⟩:=hv
      rw[←HNM.out] at d0
      rw[←HRW.out] at c0 hrow
      have HROW:=hd hrow
      clear hrow
      have hza:=HWA.out.size
      obtain⟨ck,cn,ct⟩:=cx
      try go_wp2
      go_region_with (go_at_call 165;first | (refine(jQbs row _ nm wa.drew (HROW.out.below (Below.drew (Below.refl _ _)))).mono ?_;rintro e w2 ⟨rfl,hb3⟩;rw[←HCX.out];unfold Sq.Val.cells;have hb3':Below wa.heap.size wa w2:=(Below.drew (Below.refl _ _)).trans hb3;clear hb3) | (refine(jQbs row _ nm (wa.drew.alloc _) (HROW.out.below (Below.alloc (B:=wa.heap.size) (Below.drew (Below.refl _ _)) (Nat.le_refl _) _))).mono ?_;rintro e w2 ⟨rfl,hb3⟩;rw[←HCX.out];unfold Sq.Val.cells;obtain⟨k1,k2⟩:=bcell hb3;have a0:=k1 wa.heap.size 0 (by simp);have a1:=k1 wa.heap.size 1 (by simp);have a2:=k1 wa.heap.size 2 (by simp);have b0:=k2 wa.heap.size 0 (by simp);have b1:=k2 wa.heap.size 1 (by simp);have b2:=k2 wa.heap.size 2 (by simp);simp[go_sem] at a0 a1 a2 b0 b1 b2;have hz:wa.heap.size < w2.heap.size:=(by have:=hb3.size;simp at this;omega);have hb3':Below wa.heap.size wa w2:=(Below.alloc (B:=wa.heap.size) (Below.drew (Below.refl _ _)) (Nat.le_refl _) _).trans (hb3.mono (by simp));clear hb3 k1 k2))
      all_goals
       have hzb:=hb3'.size
       have HWS2:=HWS.out
       have HC:=HCOK.out
       obtain⟨hc0,hc1,hc2⟩:=HC
       dsimp only at hc0 hc1 hc2
       have HB3:=hd hb3'
       clear hb3'
       go_wp2_with fail
       refine(jQfY ⟨ck,cn,ct⟩ _ (by show _≤cn;omega) (by show cn≤_;omega) hc2 (HT.out.below (HWA.out.trans (Below.mono (B:=wa.heap.size) (by first | exact Below.alloc (B:=wa.heap.size) HB3.out hzb _ | exact Below.setCell (B:=wa.heap.size) (Below.setCell (B:=wa.heap.size) (Below.setCell (B:=wa.heap.size) HB3.out (Nat.le_refl _) _) (Nat.le_refl _) _) (Nat.le_refl _) _) hza)))).mono ?_
       rintro e w4 ⟨rfl,hb4⟩
       have hbx:Below wa.heap.size wa w4:=Below.trans (by first | exact Below.alloc (B:=wa.heap.size) HB3.out hzb _ | exact Below.setCell (B:=wa.heap.size) (Below.setCell (B:=wa.heap.size) (Below.setCell (B:=wa.heap.size) HB3.out (Nat.le_refl _) _) (Nat.le_refl _) _) (Nat.le_refl _) _) (hb4.mono (by simp;omega))
       have HO4:=hd (HBUFA.out.below hbx)
       have hz4:=hbx.size
       have HBX:=hd (HWA.out.trans (hbx.mono hza))
       obtain⟨wt,hwt⟩:∃x,x=Sq.written ⟨ck,cn,ct⟩:=⟨_,rfl⟩
       have hwl:wt.size≤1002:=by rw[hwt];have e2:(Sq.written ⟨ck,cn,ct⟩).data.toList.length=(Sq.written ⟨ck,cn,ct⟩).size:=Array.length_toList;omega
       rw[←hwt]
       have hn:=HN.out
       rw[←hwt] at hn
       have HN2:=hd hn
       clear hn hwt hbx hb4 HWS2
       have hlw:lm.length+wt.size≤100000000000:=by omega
       go_wp2_with (at_builtin;refine jQbL rfl (.tmp 35) (.tmp 37) rfl w.heap.size _ lm rfl HO4.out wt rfl hlw (by omega) ?_;intro v5 w5 hbuf5 hb5;have HBUF5:=hd hbuf5;have HB5:=hd hb5;clear hbuf5 hb5)
       have hbel:Below w.heap.size w w5:=HBX.out.trans HB5.out
       have hbuf5:=HBUF5.out
       have hjn:=HN2.out
       have hln:(Sq.rowTextR row (items.take (j+1))).length≤1003 * (j+1):=HLN.out
       go_roundw
       case rel=>exact⟨j+1,Sq.rowTextR row (items.take (j+1)),by omega,by go_num,by rw[←HN2.out];exact hbuf5,rfl,hln,hbel⟩
       case measure=>simp[intOf];omega
     ·have HBA:=hd (HBUF2.out.below ((Below.refl _ _).alloc (Nat.le_refl _) (.cells #[.int .u8 44] 5)))
      have HN:Hid ((l++m++[44])++(Sq.written cx).data.toList=l++Sq.rowTextR row (items.take (j+1))):=by show _=_;rw[hst,←HMM.out,if_neg hj0];simp
      have hj1:(0:Int) < (j:Int):=by omega
      have HBX0:=hd (Below.alloc (B:=w.heap.size) HB2.out hzr (.cells #[.int .u8 44] 5))
      have hlm1:(l++m).length+1≤100000000000:=by omega
      have hlm2:(l++m++[44]).length≤1010000 * k+1003 * j+1:=by rw[List.length_append,List.length_singleton];omega
      obtain⟨lm0,hlme0⟩:∃x,x=l++m:=⟨_,rfl⟩
      rw[←hlme0] at hlm1 hlm2
      have hba:=HBA.out
      have hn':=HN.out
      rw[←hlme0] at hba hn'
      rw[←hlme0]
      have HBA2:=hd hba
      have HN2:=hd hn'
      clear hst hlm hj0 hba hn' HBA HN hlme0 HBUF2 HB2
      have HN:=hd HN2.out
      obtain⟨lm,hlme⟩:∃x,x=lm0++[44]:=⟨_,rfl⟩
      have hn':=HN.out
      rw[←hlme] at hn' hlm2
      clear HN
      have HN:=hd hn'
      have hla:=hlm2
      have HLME:=hd hlme
      clear hlme hn' hlm2 HN2
      go_wp2_with (at_builtin;refine jQag rfl (.tmp 23) (.tmp 24) rfl w.heap.size _ lm0 rfl HBA2.out 44 ⟨wr.heap.size,0,none⟩ 1 rfl (by simp[go_sem]) hlm1 (by simp;omega) ?_;intro v5 wa hbuf5 hb5;rw[←HLME.out] at hbuf5;obtain⟨v6o,v6cap,rfl⟩:=hbuf5.slice;have HBUFA:=hd hbuf5;have HB5:=hd hb5;clear hbuf5 hb5)
      have HWA:Hid (Below w.heap.size w wa):=HBX0.out.trans HB5.out
      clear HB5 HBA2
      obtain⟨g,cap',ra,rc,hv,hg,c0,hrow⟩:=(HR.out.below HWA.out).at k hlt
      simp only[Value.slice.injEq] at hv
      obtain⟨rfl,-,rfl⟩:=hv
      obtain⟨q,cap'',hv,hq,d0⟩:=(HS.out.below HWA.out).at j hjt
      simp only[Value.slice.injEq] at hv
      obtain⟨rfl,-,rfl⟩:=hv
      rw[←HNM.out] at d0
      rw[←HRW.out] at c0 hrow
      have HROW:=hd hrow
      clear hrow
      have hza:=HWA.out.size
      obtain⟨ck,cn,ct⟩:=cx
      try go_wp2
      go_region_with (go_at_call 165;first | (refine(jQbs row _ nm wa.drew (HROW.out.below (Below.drew (Below.refl _ _)))).mono ?_;rintro e w2 ⟨rfl,hb3⟩;rw[←HCX.out];unfold Sq.Val.cells;have hb3':Below wa.heap.size wa w2:=(Below.drew (Below.refl _ _)).trans hb3;clear hb3) | (refine(jQbs row _ nm (wa.drew.alloc _) (HROW.out.below (Below.alloc (B:=wa.heap.size) (Below.drew (Below.refl _ _)) (Nat.le_refl _) _))).mono ?_;rintro e w2 ⟨rfl,hb3⟩;rw[←HCX.out];unfold Sq.Val.cells;obtain⟨k1,k2⟩:=bcell hb3;have a0:=k1 wa.heap.size 0 (by simp);have a1:=k1 wa.heap.size 1 (by simp);have a2:=k1 wa.heap.size 2 (by simp);have b0:=k2 wa.heap.size 0 (by simp);have b1:=k2 wa.heap.size 1 (by simp);have b2:=k2 wa.heap.size 2 (by simp);simp[go_sem] at a0 a1 a2 b0 b1 b2;have hz:wa.heap.size < w2.heap.size:=(by have:=hb3.size;simp at this;omega);have hb3':Below wa.heap.size wa w2:=(Below.alloc (B:=wa.heap.size) (Below.drew (Below.refl _ _)) (Nat.le_refl _) _).trans (hb3.mono (by simp));clear hb3 k1 k2))
      all_goals
       have hzb:=hb3'.size
       have HWS2:=HWS.out
       have HC:=HCOK.out
       obtain⟨hc0,hc1,hc2⟩:=HC
       dsimp only at hc0 hc1 hc2
       have HB3:=hd hb3'
       clear hb3'
       go_wp2_with fail
       refine(jQfY ⟨ck,cn,ct⟩ _ (by show _≤cn;omega) (by show cn≤_;omega) hc2 (HT.out.below (HWA.out.trans (Below.mono (B:=wa.heap.size) (by first | exact Below.alloc (B:=wa.heap.size) HB3.out hzb _ | exact Below.setCell (B:=wa.heap.size) (Below.setCell (B:=wa.heap.size) (Below.setCell (B:=wa.heap.size) HB3.out (Nat.le_refl _) _) (Nat.le_refl _) _) (Nat.le_refl _) _) hza)))).mono ?_
       rintro e w4 ⟨rfl,hb4⟩
       have hbx:Below wa.heap.size wa w4:=Below.trans (by first | exact Below.alloc (B:=wa.heap.size) HB3.out hzb _ | exact Below.setCell (B:=wa.heap.size) (Below.setCell (B:=wa.heap.size) (Below.setCell (B:=wa.heap.size) HB3.out (Nat.le_refl _) _) (Nat.le_refl _) _) (Nat.le_refl _) _) (hb4.mono (by simp;omega))
       have HO4:=hd (HBUFA.out.below hbx)
       have hz4:=hbx.size
       have HBX:=hd (HWA.out.trans (hbx.mono hza))
       obtain⟨wt,hwt⟩:∃x,x=Sq.written ⟨ck,cn,ct⟩:=⟨_,rfl⟩
       have hwl:wt.size≤1002:=by rw[hwt];have e2:(Sq.written ⟨ck,cn,ct⟩).data.toList.length=(Sq.written ⟨ck,cn,ct⟩).size:=Array.length_toList;omega
       rw[←hwt]
       have hn:=HN.out
       rw[←hwt] at hn
       have HN2:=hd hn
       clear hn hwt hbx hb4 HWS2
       have hlw:lm.length+wt.size≤100000000000:=by omega
       go_wp2_with (at_builtin;refine jQbL rfl (.tmp 35) (.tmp 37) rfl w.heap.size _ lm rfl HO4.out wt rfl hlw (by omega) ?_;intro v5 w5 hbuf5 hb5;have HBUF5:=hd hbuf5;have HB5:=hd hb5;clear hbuf5 hb5)
       have hbel:Below w.heap.size w w5:=HBX.out.trans HB5.out
       have hbuf5:=HBUF5.out
       have hjn:=HN2.out
       have hln:(Sq.rowTextR row (items.take (j+1))).length≤1003 * (j+1):=HLN.out
       go_roundw
       case rel=>exact⟨j+1,Sq.rowTextR row (items.take (j+1)),by omega,by go_num,by rw[←HN2.out];exact hbuf5,rfl,hln,hbel⟩
       case measure=>simp[intOf];omega
    ·have hjl:items.take j=items:=List.take_of_length_le (by omega)
     have HE:Hid ((l++m)++[59]=Sq.listedR items (rows.take (k+1))):=by show _=_;rw[HST2.out,←HLL.out,HMM.out,hjl];simp
     have HBA:=hd (HBUF2.out.below ((Below.refl _ _).alloc (Nat.le_refl _) (.cells #[.int .u8 59] 5)))
     have HBX0:=hd (Below.alloc (B:=w.heap.size) HB2.out hzr (.cells #[.int .u8 59] 5))
     have hlm1:(l++m).length+1≤100000000000:=by omega
     clear hjl
     obtain⟨lm0,hlme0⟩:∃x,x=l++m:=⟨_,rfl⟩
     rw[←hlme0] at hlm1 hlm
     have hba:=HBA.out
     have he:=HE.out
     rw[←hlme0] at hba he
     rw[←hlme0]
     have HBA2:=hd hba
     have HE2:=hd he
     clear hba HBA HE hlme0 HBUF2 HB2 he
     obtain⟨lm,hlme⟩:∃x,x=lm0++[59]:=⟨_,rfl⟩
     have he:=HE2.out
     have hll:lm.length=lm0.length+1:=by rw[hlme];simp
     rw[←hlme] at he
     have HE:=hd he
     have HLME:=hd hlme
     have HLEN:=hd hll
     clear hlme he HE2 hll
     go_wp2_with (at_builtin;refine jQag rfl (.tmp 39) (.tmp 40) rfl w.heap.size _ lm0 rfl HBA2.out 59 ⟨wr.heap.size,0,none⟩ 1 rfl (by simp[go_sem]) hlm1 (by simp;omega) ?_;intro v5 wa hbuf5 hb5;rw[←HLME.out] at hbuf5;obtain⟨v6o,v6cap,rfl⟩:=hbuf5.slice;have HBUF5:=hd hbuf5;have HB5:=hd hb5;clear hbuf5 hb5)
     go_roundw
     case rel=>exact⟨k+1,lm,by omega,by go_num,HBUF5.out,HE,by rw[HLEN.out];omega,HBX0.out.trans HB5.out⟩
     case measure=>simp[intOf];omega
  ·have hkl:rows.take k=rows:=List.take_of_length_le (by omega)
   have HE:Hid (l=Sq.listedR items rows):=by show _=_;rw[HLL.out,hkl]
   have hcv:=jQb5 wo _ l _ HBUF.out
   clear hkl
   go_wp2
   go_ret
   exact⟨by rw[←HE.out];rfl,HB.out⟩
end
end Go.Proofs.YtahpihjialbanaaGreatDoor
