import Derived.Test.YtahpihjialbanaaGreatDoorQbd
set_option linter.unusedVariables false
set_option linter.unusedSimpArgs false
set_option maxRecDepth 100000
set_option maxHeartbeats 2000000
namespace Go.Proofs.YtahpihjialbanaaGreatDoor
section
open Go.RowKit
theorem Sq.jQk9 (l:List (List UInt8))(x:List UInt8):Sq.joined (l++[x])=Sq.joined l++((if l.isEmpty then[] else[44])++x):=by
 cases l with
 | nil=>simp[Sq.joined]
 | cons y r=>simp[Sq.joined]
theorem Sq.jQhs (row:List Sq.Val)(items:List Int)(k:Nat)(h:k<items.length) :
  Sq.rowTextR row (items.take (k+1))=Sq.rowTextR row (items.take k)++((if k=0 then[] else[44])++(Sq.written (Sq.cellNo row items[k])).data.toList):=by
 unfold Sq.rowTextR;rw[List.take_succ_eq_append_getElem h,List.map_append,List.map_singleton,Sq.jQk9];cases k with
 | zero=>simp
 | succ k =>
  have:((items.take (k+1)).map fun n=>(Sq.written (Sq.cellNo row n)).data.toList).isEmpty=false:=by
   cases items with
   | nil=>simp at h
   | cons a r=>rfl
  rw[this];simp
theorem Sq.jQiU (items:List Int)(rows:List (List Sq.Val))(k:Nat)(h:k<rows.length) :
  Sq.listedR items (rows.take (k+1))=Sq.listedR items (rows.take k)++(Sq.rowTextR rows[k] items++[59]):=by
 unfold Sq.listedR;rw[List.take_succ_eq_append_getElem h,List.flatMap_append];simp
theorem Sq.jQdZ (v:Sq.Val)(h:Sq.okVal v):(Sq.written v).data.toList.length<=1002:=by
 obtain⟨h0,h1,h2⟩:=h;unfold Sq.written
 split
 ·have e:(Sq.bQuote++v.text++Sq.bQuote).size=1+v.text.size+1:=by rw[ByteArray.size_append,ByteArray.size_append];rfl
  have e2:(Sq.bQuote++v.text++Sq.bQuote).data.toList.length=(Sq.bQuote++v.text++Sq.bQuote).size:=Array.length_toList;omega
 ·have:=jQdO v.number (by omega) (by omega)
  have e2:(Sq.itoa v.number).data.toList.length=(Sq.itoa v.number).size:=Array.length_toList;omega
theorem Sq.jQny (l:List (List UInt8))(h:∀x∈l,x.length<=1002):(Sq.joined l).length<=1003*l.length:=by
 cases l with
 | nil=>simp[Sq.joined]
 | cons y r =>
  have hy:=h y (List.mem_cons_self ..)
  have hr:∀q:List (List UInt8),(∀x∈q,x.length<=1002)->(q.flatMap fun y=>44::y).length<=1003*q.length:=by
   intro q
   induction q with
   | nil=>intro _;simp
   | cons z t ih =>
    intro hq
    have:=ih fun x hx=>hq x (List.mem_cons_of_mem _ hx)
    have hz:=hq z (List.mem_cons_self ..);rw[List.flatMap_cons,List.length_append,List.length_cons,List.length_cons];omega
  have:=hr r fun x hx=>h x (List.mem_cons_of_mem _ hx)
  rw[Sq.joined,List.length_append,List.length_cons];omega
theorem Sq.jQiI (row:List Sq.Val)(items:List Int)(h:Sq.okRow row):(Sq.rowTextR row items).length<=1003*items.length:=by
 have:=Sq.jQny (items.map fun n=>(Sq.written (Sq.cellNo row n)).data.toList) (by
  intro x hx;obtain⟨n,_,rfl⟩:=List.mem_map.1 hx;exact Sq.jQdZ _ (Sq.jQgW row n h))
 simpa[Sq.rowTextR] using this
theorem jQhQ (rows:List (List Sq.Val))(items:List Int)(rv iv:Value)(w:World)(hr:RowsOwn 0 w rv rows)(hs:NumsAt w iv items)(hok:∀r∈rows,Sq.okRow r)(hT:Tbl w)(hn:rows.length<=1000)(hm:items.length<=1000) :
  Calls Tryz.prog 123 #[rv,iv] w fun e w'=>e=.returned (.string ⟨(Sq.listedR items rows).toArray⟩)/\Below w.heap.size w w':=by
 obtain⟨i0,hi,hz0,hz1,hz2⟩:=info_parts Tryz.infoU8;obtain⟨ao,cap,rfl⟩:=hr.slice;obtain⟨bo,bap,rfl⟩:=jQa hs.1;have HR:=hd hr;have HS:=hd hs;have HT:=hd hT;have He:=hd hok;clear hr hs hT hok;go_enter Tryz.func123,Tryz.ntmps123;go_wp2
 go_loopw [5,6] (fun v i wr=>∃k:Nat,∃l:List UInt8,k<=rows.length/\i=.int .i64 k/\BufAt w.heap.size wr v l/\Hid (l=Sq.listedR items (rows.take k))/\l.length<=1010000*k/\Below w.heap.size w wr) (fun _ i _=>rows.length-(intOf i).toNat)
 case atStart=>exact⟨0,[],zR,rfl,World.ownsRow_nil _ _ _ _,rfl,by decide,bR⟩
 case round =>
  obtain⟨k,l,hk,rfl,hbuf,HLL,hl0,hb⟩:=hrel;obtain⟨wo,rfl⟩:∃wo:World,wo=wr:=⟨_,rfl⟩;have Hj:=hb.size;have HB:=hd hb;have hM:=hd hbuf;obtain⟨vo,vcap,rfl⟩:=hbuf.slice;clear hb hbuf
  by_cases hlt:k<rows.length
  ·have h4:=hd (Sq.jQiU items rows k hlt);have hE:=He.o rows[k] (List.getElem_mem hlt);obtain⟨row,hrw⟩:∃x,x=rows[k]:=⟨_,rfl⟩;have hu:=h4.o;rw[<-hrw] at hu hE;have hZ:=hd hu;have h8:=hd hrw;have hP:=hd hE;clear hu h4 hrw hE;go_wp2
   go_loopw [5,7] (fun v i wr=>∃j:Nat,∃m:List UInt8,j<=items.length/\i=.int .i64 j/\BufAt w.heap.size wr v (l++m)/\Hid (m=Sq.rowTextR row (items.take j))/\m.length<=1003*j/\Below w.heap.size w wr) (fun _ i _=>items.length-(intOf i).toNat)
   case atStart=>exact⟨0,[],zR,rfl,by rw[List.append_nil];exact hM.o,rfl,by decide,HB.o⟩
   case round =>
    obtain⟨j,m,hj,rfl,hbuf2,HMM,hm0,hb2⟩:=hrel;obtain⟨v2o,v2cap,rfl⟩:=hbuf2.slice;have Ha:=hb2.size;have hY:(l++m).length<=1010000*k+1003*j:=by rw[List.length_append];omega
    have hL:=hd hb2;have hc:=hd hbuf2;clear hb2 hbuf2
    by_cases hjt:j<items.length
    ·have hu:=Sq.jQhs row items j hjt;obtain⟨nm,hnm⟩:∃x,x=items[j]:=⟨_,rfl⟩;rw[<-hnm] at hu;have hB:=Sq.jQgW row nm hP.o;obtain⟨cx,hcx⟩:∃x,x=Sq.cellNo row nm:=⟨_,rfl⟩;rw[<-hcx] at hu hB;have h6:=Sq.jQdZ cx hB;have hS:=hd hcx;have h7:=hd hnm;have hQ:=hd hB;have h1:=hd h6;clear hnm hcx hB h6;have h3:Hid ((Sq.rowTextR row (items.take (j+1))).length<=1003*(j+1)):=Nat.le_trans (Sq.jQiI row _ hP.o) (Nat.mul_le_mul_left _ (List.length_take_le _ _))
     by_cases hj0:j=0
     ·obtain⟨wa,hwa⟩:∃wa:World,wa=wr:=⟨_,rfl⟩;have ho:Hid (Below w.heap.size w wa):=by rw[hwa];exact hL.o
      obtain⟨lm,hlme⟩:∃x,x=l++m:=⟨_,rfl⟩;have ht:Hid (BufAt w.heap.size wa (.slice v2o lm.length v2cap) lm):=by rw[hwa,hlme];exact hc.o
      have Hc:lm.length<=1010000*k+1003*j+1:=by rw[hlme];omega
      have HN:Hid (lm++(Sq.written cx).data.toList=l++Sq.rowTextR row (items.take (j+1))):=by show _=_;rw[hu,<-HMM.o,if_pos hj0,hlme];simp
      rw[<-hwa];rw[<-hlme];have Hg:¬(0:Int)<(j:Int):=by omega
      clear hu hwa hlme hL hc hY hj0;obtain⟨g,cap',ra,rc,hv,hg,c0,hrow⟩:=(HR.o.below ho.o).at k hlt;simp only[Value.slice.injEq] at hv;obtain⟨rfl,-,rfl⟩:=hv;obtain⟨q,cap'',hv,hq,d0⟩:=(HS.o.below ho.o).at j hjt;simp only[Value.slice.injEq] at hv;obtain⟨rfl,-,rfl⟩:=hv;rw[<-h7.o] at d0;rw[<-h8.o] at c0 hrow;have hp:=hd hrow;clear hrow;have hR:=ho.o.size;obtain⟨ck,cn,ct⟩:=cx
      try go_wp2
      go_region_with (go_at_call 165;first | (refine(jQbd row _ nm wa.drew (hp.o.below (Below.drew (bR)))).mono ?_;rintro e w2 ⟨rfl,hb3⟩;rw[<-hS.o];unfold Sq.Val.cells;have hf:Below wa.heap.size wa w2:=(Below.drew (bR)).trans hb3;clear hb3) | (refine(jQbd row _ nm (wa.drew.alloc _) (hp.o.below (Below.alloc (B:=wa.heap.size) (Below.drew (bR)) (nR) _))).mono ?_;rintro e w2 ⟨rfl,hb3⟩;rw[<-hS.o];unfold Sq.Val.cells;obtain⟨k1,k2⟩:=bcell hb3;have a0:=k1 wa.heap.size 0 (by simp);have a1:=k1 wa.heap.size 1 (by simp);have a2:=k1 wa.heap.size 2 (by simp);have b0:=k2 wa.heap.size 0 (by simp);have b1:=k2 wa.heap.size 1 (by simp);have b2:=k2 wa.heap.size 2 (by simp);simp[go_sem] at a0 a1 a2 b0 b1 b2;have hz:wa.heap.size<w2.heap.size:=(by have:=hb3.size;simp at this;omega);have hf:Below wa.heap.size wa w2:=(Below.alloc (B:=wa.heap.size) (Below.drew (bR)) (nR) _).trans (hb3.mono (by simp));clear hb3 k1 k2))
      all_goals
       have hN:=hf.size;have hG:=h1.o;have HC:=hQ.o;obtain⟨hc0,hc1,hc2⟩:=HC
       dsimp only at hc0 hc1 hc2
       have hA:=hd hf;clear hf;go_wp2_with fail;refine(jQf0 ⟨ck,cn,ct⟩ _ (by show _<=cn;omega) (by show cn<=_;omega) hc2 (HT.o.below (ho.o.trans (Below.mono (B:=wa.heap.size) (by first | exact Below.alloc (B:=wa.heap.size) hA.o hN _ | exact Below.setCell (B:=wa.heap.size) (Below.setCell (B:=wa.heap.size) (Below.setCell (B:=wa.heap.size) hA.o (nR) _) (nR) _) (nR) _) hR)))).mono ?_;rintro e w4 ⟨rfl,hb4⟩;have hx:Below wa.heap.size wa w4:=Below.trans (by first | exact Below.alloc (B:=wa.heap.size) hA.o hN _ | exact Below.setCell (B:=wa.heap.size) (Below.setCell (B:=wa.heap.size) (Below.setCell (B:=wa.heap.size) hA.o (nR) _) (nR) _) (nR) _) (hb4.mono (by simp;omega));have h0:=hd (ht.o.below hx);have Hd:=hx.size;have hU:=hd (ho.o.trans (hx.mono hR));obtain⟨wt,hwt⟩:∃x,x=Sq.written ⟨ck,cn,ct⟩:=⟨_,rfl⟩;have Hh:wt.size<=1002:=by rw[hwt];have e2:(Sq.written ⟨ck,cn,ct⟩).data.toList.length=(Sq.written ⟨ck,cn,ct⟩).size:=Array.length_toList;omega
       rw[<-hwt];have hn:=HN.o;rw[<-hwt] at hn;have hC:=hd hn;clear hn hwt hx hb4 hG;have hW:lm.length+wt.size<=100000000000:=by omega
       go_wp2_with (at_builtin;refine jQbt rfl (.tmp 35) (.tmp 37) rfl w.heap.size _ lm rfl h0.o wt rfl hW (by omega) ?_;intro v5 w5 ha hb5;have hh:=hd ha;have hD:=hd hb5;clear ha hb5);have hI:Below w.heap.size w w5:=hU.o.trans hD.o;have ha:=hh.o;have Hf:=hC.o;have hX:(Sq.rowTextR row (items.take (j+1))).length<=1003*(j+1):=h3.o;go_roundw
       case rel=>exact⟨j+1,Sq.rowTextR row (items.take (j+1)),by omega,by go_num,by rw[<-hC.o];exact ha,rfl,hX,hI⟩
       case measure=>simp[intOf];omega
     ·have hO:=hd (hc.o.below ((bR).alloc (nR) (.cells #[.int .u8 44] 5)));have HN:Hid ((l++m++[44])++(Sq.written cx).data.toList=l++Sq.rowTextR row (items.take (j+1))):=by show _=_;rw[hu,<-HMM.o,if_neg hj0];simp
      have Hg:(0:Int)<(j:Int):=by omega
      have hH:=hd (Below.alloc (B:=w.heap.size) hL.o Ha (.cells #[.int .u8 44] 5));have hl:(l++m).length+1<=100000000000:=by omega
      have hw:(l++m++[44]).length<=1010000*k+1003*j+1:=by rw[List.length_append,List.length_singleton];omega
      obtain⟨lm0,hlme0⟩:∃x,x=l++m:=⟨_,rfl⟩;rw[<-hlme0] at hl hw;have hF:=hO.o;have hK:=HN.o;rw[<-hlme0] at hF hK;rw[<-hlme0];have hy:=hd hF;have hC:=hd hK;clear hu hY hj0 hF hK hO HN hlme0 hc hL;have HN:=hd hC.o;obtain⟨lm,hlme⟩:∃x,x=lm0++[44]:=⟨_,rfl⟩;have hK:=HN.o;rw[<-hlme] at hK hw;clear HN;have HN:=hd hK;have Hc:=hw;have hJ:=hd hlme;clear hlme hK hw hC;go_wp2_with (at_builtin;refine jQaa rfl (.tmp 23) (.tmp 24) rfl w.heap.size _ lm0 rfl hy.o 44 ⟨wr.heap.size,0,none⟩ 1 rfl (by simp[go_sem]) hl (by simp;omega) ?_;intro v5 wa ha hb5;rw[<-hJ.o] at ha;obtain⟨v6o,v6cap,rfl⟩:=ha.slice;have ht:=hd ha;have hD:=hd hb5;clear ha hb5);have ho:Hid (Below w.heap.size w wa):=hH.o.trans hD.o;clear hD hy;obtain⟨g,cap',ra,rc,hv,hg,c0,hrow⟩:=(HR.o.below ho.o).at k hlt;simp only[Value.slice.injEq] at hv;obtain⟨rfl,-,rfl⟩:=hv;obtain⟨q,cap'',hv,hq,d0⟩:=(HS.o.below ho.o).at j hjt;simp only[Value.slice.injEq] at hv;obtain⟨rfl,-,rfl⟩:=hv;rw[<-h7.o] at d0;rw[<-h8.o] at c0 hrow;have hp:=hd hrow;clear hrow;have hR:=ho.o.size;obtain⟨ck,cn,ct⟩:=cx
      try go_wp2
      go_region_with (go_at_call 165;first | (refine(jQbd row _ nm wa.drew (hp.o.below (Below.drew (bR)))).mono ?_;rintro e w2 ⟨rfl,hb3⟩;rw[<-hS.o];unfold Sq.Val.cells;have hf:Below wa.heap.size wa w2:=(Below.drew (bR)).trans hb3;clear hb3) | (refine(jQbd row _ nm (wa.drew.alloc _) (hp.o.below (Below.alloc (B:=wa.heap.size) (Below.drew (bR)) (nR) _))).mono ?_;rintro e w2 ⟨rfl,hb3⟩;rw[<-hS.o];unfold Sq.Val.cells;obtain⟨k1,k2⟩:=bcell hb3;have a0:=k1 wa.heap.size 0 (by simp);have a1:=k1 wa.heap.size 1 (by simp);have a2:=k1 wa.heap.size 2 (by simp);have b0:=k2 wa.heap.size 0 (by simp);have b1:=k2 wa.heap.size 1 (by simp);have b2:=k2 wa.heap.size 2 (by simp);simp[go_sem] at a0 a1 a2 b0 b1 b2;have hz:wa.heap.size<w2.heap.size:=(by have:=hb3.size;simp at this;omega);have hf:Below wa.heap.size wa w2:=(Below.alloc (B:=wa.heap.size) (Below.drew (bR)) (nR) _).trans (hb3.mono (by simp));clear hb3 k1 k2))
      all_goals
       have hN:=hf.size;have hG:=h1.o;have HC:=hQ.o;obtain⟨hc0,hc1,hc2⟩:=HC
       dsimp only at hc0 hc1 hc2
       have hA:=hd hf;clear hf;go_wp2_with fail;refine(jQf0 ⟨ck,cn,ct⟩ _ (by show _<=cn;omega) (by show cn<=_;omega) hc2 (HT.o.below (ho.o.trans (Below.mono (B:=wa.heap.size) (by first | exact Below.alloc (B:=wa.heap.size) hA.o hN _ | exact Below.setCell (B:=wa.heap.size) (Below.setCell (B:=wa.heap.size) (Below.setCell (B:=wa.heap.size) hA.o (nR) _) (nR) _) (nR) _) hR)))).mono ?_;rintro e w4 ⟨rfl,hb4⟩;have hx:Below wa.heap.size wa w4:=Below.trans (by first | exact Below.alloc (B:=wa.heap.size) hA.o hN _ | exact Below.setCell (B:=wa.heap.size) (Below.setCell (B:=wa.heap.size) (Below.setCell (B:=wa.heap.size) hA.o (nR) _) (nR) _) (nR) _) (hb4.mono (by simp;omega));have h0:=hd (ht.o.below hx);have Hd:=hx.size;have hU:=hd (ho.o.trans (hx.mono hR));obtain⟨wt,hwt⟩:∃x,x=Sq.written ⟨ck,cn,ct⟩:=⟨_,rfl⟩;have Hh:wt.size<=1002:=by rw[hwt];have e2:(Sq.written ⟨ck,cn,ct⟩).data.toList.length=(Sq.written ⟨ck,cn,ct⟩).size:=Array.length_toList;omega
       rw[<-hwt];have hn:=HN.o;rw[<-hwt] at hn;have hC:=hd hn;clear hn hwt hx hb4 hG;have hW:lm.length+wt.size<=100000000000:=by omega
       go_wp2_with (at_builtin;refine jQbt rfl (.tmp 35) (.tmp 37) rfl w.heap.size _ lm rfl h0.o wt rfl hW (by omega) ?_;intro v5 w5 ha hb5;have hh:=hd ha;have hD:=hd hb5;clear ha hb5);have hI:Below w.heap.size w w5:=hU.o.trans hD.o;have ha:=hh.o;have Hf:=hC.o;have hX:(Sq.rowTextR row (items.take (j+1))).length<=1003*(j+1):=h3.o;go_roundw
       case rel=>exact⟨j+1,Sq.rowTextR row (items.take (j+1)),by omega,by go_num,by rw[<-hC.o];exact ha,rfl,hX,hI⟩
       case measure=>simp[intOf];omega
    ·have h9:items.take j=items:=List.take_of_length_le (by omega);have HE:Hid ((l++m)++[59]=Sq.listedR items (rows.take (k+1))):=by show _=_;rw[hZ.o,<-HLL.o,HMM.o,h9];simp
     have hO:=hd (hc.o.below ((bR).alloc (nR) (.cells #[.int .u8 59] 5)));have hH:=hd (Below.alloc (B:=w.heap.size) hL.o Ha (.cells #[.int .u8 59] 5));have hl:(l++m).length+1<=100000000000:=by omega
     clear h9;obtain⟨lm0,hlme0⟩:∃x,x=l++m:=⟨_,rfl⟩;rw[<-hlme0] at hl hY;have hF:=hO.o;have he:=HE.o;rw[<-hlme0] at hF he;rw[<-hlme0];have hy:=hd hF;have h2:=hd he;clear hF hO HE hlme0 hc hL he;obtain⟨lm,hlme⟩:∃x,x=lm0++[59]:=⟨_,rfl⟩;have he:=h2.o;have h5:lm.length=lm0.length+1:=by rw[hlme];simp
     rw[<-hlme] at he;have HE:=hd he;have hJ:=hd hlme;have hV:=hd h5;clear hlme he h2 h5;go_wp2_with (at_builtin;refine jQaa rfl (.tmp 39) (.tmp 40) rfl w.heap.size _ lm0 rfl hy.o 59 ⟨wr.heap.size,0,none⟩ 1 rfl (by simp[go_sem]) hl (by simp;omega) ?_;intro v5 wa ha hb5;rw[<-hJ.o] at ha;obtain⟨v6o,v6cap,rfl⟩:=ha.slice;have hh:=hd ha;have hD:=hd hb5;clear ha hb5);go_roundw
     case rel=>exact⟨k+1,lm,by omega,by go_num,hh.o,HE,by rw[hV.o];omega,hH.o.trans hD.o⟩
     case measure=>simp[intOf];omega
  ·have Hb:rows.take k=rows:=List.take_of_length_le (by omega);have HE:Hid (l=Sq.listedR items rows):=by show _=_;rw[HLL.o,Hb]
   have Hi:=jQe6 wo _ l _ hM.o;clear Hb;go_wp2;go_ret;exact⟨by rw[<-HE.o];rfl,HB.o⟩
end
end Go.Proofs.YtahpihjialbanaaGreatDoor
