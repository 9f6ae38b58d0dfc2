import Derived.Lib.AppendStr
import Derived.Test.YtahpihjialbanaaGreatDoorQba
set_option linter.unusedVariables false
set_option linter.unusedSimpArgs false
set_option maxRecDepth 100000
set_option maxHeartbeats 1000000
namespace Go.Proofs.YtahpihjialbanaaGreatDoor
section
open Go.RowKit
def NumsAt (w:World)(v:Value)(l:List Int):Prop:=w.ownsRow 0 3 1 v l.length (l.map (Value.int .i64))/\l.length<=100000
theorem NumsAt.below {w w':World}{v:Value}{l:List Int}(h:NumsAt w v l)(hb:Below w.heap.size w w'):NumsAt w' v l:=⟨jQh h.1 hb,h.2⟩
theorem NumsAt.at {w:World}{v:Value}{l:List Int}(h:NumsAt w v l)(k:Nat)(hk:k<l.length):∃g cap,v=.slice (some ⟨g,0,none⟩) l.length cap/\g<w.heap.size/\w.cell? ⟨g,k,none⟩=some (.int .i64 l[k]):=by
 obtain⟨g,cap,rfl,_,hlt⟩:=h.1.form (by omega);refine⟨g,cap,rfl,hlt,?_⟩
 have:=h.1.cells (g:=g) rfl k (.int .i64 l[k]) (by rw[List.getElem?_map,List.getElem?_eq_getElem hk];rfl)
 rwa [show(⟨g,0,none⟩:Addr).add k=⟨g,k,none⟩ from by unfold Addr.add;split<;>simp_all] at this
theorem jQk0 (cols:List Sq.Col)(items:List ByteArray)(k:Nat)(h:k<items.length):(items.take (k+1)).map (Sq.find cols)=(items.take k).map (Sq.find cols)++[Sq.find cols items[k]]:=by
 rw[List.take_succ_eq_append_getElem h,List.map_append];rfl
theorem jQoD (k:Nat):Sq.upToR (k+1)=Sq.upToR k++[(k:Int)]:=by unfold Sq.upToR;rw[List.range_succ,List.map_append];rfl
theorem jQmK (cols:List Sq.Col)(cv:Value)(items:List ByteArray)(iv:Value)(w:World)(h:ColsAt w cv cols)(h2:StrsAt w iv items) :
  Calls Tryz.prog 122 #[cv,iv] w fun e w'=>∃v,e=.returned v/\NumsAt w' v (Sq.placedR cols items)/\Below w.heap.size w w':=by
 obtain⟨i0,hi,hz0,hz1,hz2⟩:=info_parts Tryz.infoInt;obtain⟨ao,cap,rfl⟩:=jQa h.1;obtain⟨bo,bcap,rfl⟩:=jQa h2.1;have hl:=h.2;have hs:=h2.2;have H:=hd h;have H2:=hd h2;clear h h2;go_enter Tryz.func122,Tryz.ntmps122;go_wp2
 go_loopw [5,6] (fun v i wr=>∃k:Nat,k<=items.length/\i=.int .i64 k/\wr.ownsRow w.heap.size 3 1 v k (((items.take k).map (Sq.find cols)).map (Value.int .i64))/\Below w.heap.size w wr) (fun _ i _=>items.length-(intOf i).toNat)
 case atStart=>exact⟨0,zR,rfl,World.ownsRow_nil _ _ _ _,bR⟩
 case round =>
  obtain⟨k,hk,rfl,hown,hb⟩:=hrel;have hp:=hb.size
  by_cases hlt:k<items.length
  ·obtain⟨g,cap',hv,hg,c0⟩:=(H2.o.below hb).at k hlt;simp only[Value.slice.injEq] at hv;obtain⟨rfl,-,rfl⟩:=hv;have hj:=hd (jQk0 cols items k hlt);have hf:Hid (Calls Tryz.prog 148 #[.slice ao cols.length cap,.string items[k]] wr fun e w'=>e=.returned (.int .i64 (Sq.find cols items[k]))/\w'=wr):=jQas cols _ _ wr (H.o.below hb).1 hl;obtain⟨fv,hfv⟩:∃x,x=Sq.find cols items[k]:=⟨_,rfl⟩;obtain⟨nm,hnm⟩:∃x,x=items[k]:=⟨_,rfl⟩;have hc:=hf.o;rw[<-hfv,<-hnm] at hc;rw[<-hnm] at c0;have ha:=hd hc;have hm:=hd hfv;have HO:=hd (hown.alloc (.cells #[.int .i64 fv] 3));obtain⟨lo,lcap,rfl⟩:=jQa hown;have i1:(k:Int)<(items.length:Int):=by omega
   have i2:¬((items.length:Int)<=(k:Int)):=by omega
   have i3:¬((k:Int)<0):=by omega
   have ho:=hd hb;clear hnm hown hfv hc hf hb;go_wp2_with fail;refine ha.o.mono ?_;rintro e w2 ⟨rfl,hw2⟩;rw[hw2];clear hw2 w2;go_wp2_with (at_builtin;refine wpList_append_lies _ rfl (.tmp 13) (.tmp 20) 54 rfl w.heap.size 3 i0 _ 1 8 Tryz.underlying54 hi hz0 hz1 hz2 rfl (by decide) _ k _ rfl HO.o ⟨wr.heap.size,0,none⟩ 1 1 [.int .i64 fv] rfl rfl (by exact jQL wr _ _ _ rfl rfl) (by intro u hu;simp at hu;subst hu;rfl) (by decide) (by unfold maxLen;omega) (by omega) (by simp;omega) _ rfl ?_;intro gg cap3 w3 hown3 hgrow3 hat3 hlt3;have hn:=hd hown3;have hr:=hd hgrow3;clear hown3 hgrow3 hat3);have he:Below w.heap.size w w3:=(Below.alloc (B:=w.heap.size) ho.o hp _).trans (Tch.of_grown hr.o (fun k hk=>(HO.o.lt k hk).1) (by simp;omega));go_roundw
   case rel=>exact⟨k+1,by omega,by go_num,by rw[hj.o,<-hm.o,List.map_append];exact hn.o,he⟩
   case measure=>simp[intOf];omega
  ·have hh:items.take k=items:=List.take_of_length_le (by omega);have hq:Hid (k=items.length):=by show _=_;omega
   have i1:¬((k:Int)<(items.length:Int)):=by omega
   rw[hh] at hown;obtain⟨lo,lcap,rfl⟩:=jQa hown;have HO:=hd hown;clear hown hh;go_wp2;go_ret;refine⟨_,rfl,⟨?_,by simp[Sq.placedR];omega⟩,hb⟩
   have:=HO.o
   rw[hq.o] at this ⊢;unfold Sq.placedR;rw[List.length_map];exact jQj this (zR)
theorem jQqh (n:Nat)(hn:n<=100000)(w:World) :
  Calls Tryz.prog 124 #[.int .i64 n] w fun e w'=>∃v,e=.returned v/\NumsAt w' v (Sq.upToR n)/\Below w.heap.size w w':=by
 obtain⟨i0,hi,hz0,hz1,hz2⟩:=info_parts Tryz.infoInt;go_enter Tryz.func124,Tryz.ntmps124;go_wp2
 go_loopw [3,4] (fun v i wr=>∃k:Nat,k<=n/\i=.int .i64 k/\wr.ownsRow w.heap.size 3 1 v k ((Sq.upToR k).map (Value.int .i64))/\Below w.heap.size w wr) (fun _ i _=>n-(intOf i).toNat)
 case atStart=>exact⟨0,zR,rfl,World.ownsRow_nil _ _ _ _,bR⟩
 case round =>
  obtain⟨k,hk,rfl,hown,hb⟩:=hrel;have hg:=hb.size
  by_cases hlt:k<n
  ·have hc:=hd (jQoD k);have HO:=hd (hown.alloc (.cells #[.int .i64 k] 3));obtain⟨lo,lcap,rfl⟩:=jQa hown;have i1:(k:Int)<(n:Int):=by omega
   have hf:=hd hb;clear hown hb;go_wp2_with (at_builtin;refine wpList_append_lies _ rfl (.tmp 10) (.tmp 12) 54 rfl w.heap.size 3 i0 _ 1 8 Tryz.underlying54 hi hz0 hz1 hz2 rfl (by decide) _ k _ rfl HO.o ⟨wr.heap.size,0,none⟩ 1 1 [.int .i64 k] rfl rfl (by exact jQL wr _ _ _ rfl rfl) (by intro u hu;simp at hu;subst hu;rfl) (by decide) (by unfold maxLen;omega) (by omega) (by simp;omega) _ rfl ?_;intro gg cap3 w3 hown3 hgrow3 hat3 hlt3;have he:=hd hown3;have hj:=hd hgrow3;clear hown3 hgrow3 hat3);have ha:Below w.heap.size w w3:=(Below.alloc (B:=w.heap.size) hf.o hg _).trans (Tch.of_grown hj.o (fun k hk=>(HO.o.lt k hk).1) (by simp;omega));go_roundw
   case rel=>exact⟨k+1,by omega,by go_num,by rw[hc.o,List.map_append];exact he.o,ha⟩
   case measure=>simp[intOf];omega
  ·have hh:k=n:=by omega
   subst hh;have i1:¬((k:Int)<(k:Int)):=by omega
   obtain⟨lo,lcap,rfl⟩:=jQa hown;have HO:=hd hown;clear hown;go_wp2;go_ret;refine⟨_,rfl,⟨?_,by simp[Sq.upToR];omega⟩,hb⟩
   have:=HO.o
   rw[show(Sq.upToR k).length=k by simp[Sq.upToR]];exact jQj this (zR)
end
section
open Go.RowKit
theorem Sq.jQgW (row:List Sq.Val)(k:Int)(h:Sq.okRow row):Sq.okVal (Sq.cellNo row k):=by
 unfold Sq.cellNo
 split
 ·exact Sq.okVal0
 ·cases hx:row[k.toNat]? with
  | none=>exact Sq.okVal0
  | some v=>exact h v (List.mem_of_getElem? hx)
theorem Sq.jQkO (row:List Sq.Val)(nums:List Int)(k:Nat)(h:k<nums.length):Sq.sumRow (nums.take (k+1)) row=Sq.sumRow (nums.take k) row+(Sq.cellNo row nums[k]).number:=by
 unfold Sq.sumRow;rw[List.take_succ_eq_append_getElem h,List.map_append,List.sum_append];simp
theorem Sq.jQiA (nums:List Int)(rows:List (List Sq.Val))(k:Nat)(h:k<rows.length):Sq.summedR nums (rows.take (k+1))=Sq.summedR nums (rows.take k)+Sq.sumRow nums rows[k]:=by
 unfold Sq.summedR;rw[List.take_succ_eq_append_getElem h,List.map_append,List.sum_append];simp
theorem jQhr (k n:Int)(t:ByteArray)(w:World):Sem.run Tryz.prog (Instr.field 208 (.agg #[.int .i64 k,.int .i64 n,.string t]) 1) w=.ok (.int .i64 n) w:=by
 simp[Instr.field,go_sem,Tryz.underlying208,asAgg]
theorem jQl7 (rows:List (List Sq.Val))(nums:List Int)(rv iv:Value)(w:World)(hr:RowsOwn 0 w rv rows)(hs:NumsAt w iv nums)(hok:∀r∈rows,Sq.okRow r)(hT:Tbl w)(hn:rows.length<=1000)(hm:nums.length<=1000) :
  Calls Tryz.prog 121 #[rv,iv] w fun e w'=>e=.returned (.string (Sq.itoa (Sq.summedR nums rows)++Sq.bSemi))/\Below w.heap.size w w':=by
 obtain⟨ao,cap,rfl⟩:=hr.slice;obtain⟨bo,bap,rfl⟩:=jQa hs.1;have HR:=hd hr;have HS:=hd hs;have HT:=hd hT;have hy:=hd hok;clear hr hs hT hok;go_enter Tryz.func121,Tryz.ntmps121;go_wp2
 go_loopw [5,6] (fun t i wr=>∃k:Nat,∃T:Int,k<=rows.length/\i=.int .i64 k/\t=.int .i64 T/\Hid (T=Sq.summedR nums (rows.take k))/\-(100000000000000*(k:Int))<=T/\T<=100000000000000*(k:Int)/\Below w.heap.size w wr) (fun _ i _=>rows.length-(intOf i).toNat)
 case atStart=>exact⟨0,0,zR,rfl,rfl,rfl,by decide,by decide,bR⟩
 case round =>
  obtain⟨k,T,hk,rfl,rfl,HTT,hT0,hT1,hb⟩:=hrel;obtain⟨wo,rfl⟩:∃wo:World,wo=wr:=⟨_,rfl⟩;have ho:=hb.size
  by_cases hlt:k<rows.length
  ·obtain⟨g,cap',ra,rc,hv,hg,c0,hrow⟩:=(HR.o.below hb).at k hlt;simp only[Value.slice.injEq] at hv;obtain⟨rfl,-,rfl⟩:=hv;have hp:=hd (Sq.jQiA nums rows k hlt);have hc:=hy.o rows[k] (List.getElem_mem hlt);obtain⟨row,hrw⟩:∃x,x=rows[k]:=⟨_,rfl⟩;have ha:=hp.o;rw[<-hrw] at ha c0 hrow hc;have hl:=hd ha;have hh:=hd hrow;have hi:=hd hc;clear ha hrow hp hrw hc;go_wp2
   go_loopw [5,7] (fun t i wr=>∃j:Nat,∃S:Int,j<=nums.length/\i=.int .i64 j/\t=.int .i64 (T+S)/\Hid (S=Sq.sumRow (nums.take j) row)/\-(100000000000*(j:Int))<=S/\S<=100000000000*(j:Int)/\Below wo.heap.size wo wr) (fun _ i _=>nums.length-(intOf i).toNat)
   case atStart=>exact⟨0,0,zR,rfl,by simp,rfl,by decide,by decide,bR⟩
   case round =>
    obtain⟨j,S,hj,rfl,rfl,HSS,hS0,hS1,hb2⟩:=hrel;have ht:Below w.heap.size w wr:=hb.trans (hb2.mono ho);have hB:=hb2.size;have c0':=((bcell hb2).1 g k hg).trans c0
    by_cases hjt:j<nums.length
    ·obtain⟨q,cap'',hv,hq,d0⟩:=(HS.o.below ht).at j hjt;simp only[Value.slice.injEq] at hv;obtain⟨rfl,-,rfl⟩:=hv;have ha:=Sq.jQkO row nums j hjt;obtain⟨nm,hnm⟩:∃x,x=nums[j]:=⟨_,rfl⟩;rw[<-hnm] at ha d0;have he:=Sq.jQgW row nm hi.o;obtain⟨cx,hcx⟩:∃x,x=Sq.cellNo row nm:=⟨_,rfl⟩;rw[<-hcx] at ha he;have hA:=hd hcx;have hx:=hd ha;obtain⟨ck,cn,ct⟩:=cx;obtain⟨hc1,hc2,-⟩:=he
     dsimp only at hc1 hc2
     have i1:(j:Int)<(nums.length:Int):=by omega
     have i2:¬((nums.length:Int)<=(j:Int)):=by omega
     have i3:¬((j:Int)<0):=by omega
     have i4:¬((rows.length:Int)<=(k:Int)):=by omega
     have i5:¬((k:Int)<0):=by omega
     clear ha hnm hcx;go_wp2
     go_region_with (go_at_call 165;refine(jQbd row _ nm _ ((hh.o.below hb2).below (Below.drew (bR)))).mono ?_;rintro e w2 ⟨rfl,hb3⟩;rw[<-hA.o];unfold Sq.Val.cells;have hC:=jQhr ck cn ct w2)
     all_goals
      have hf:Below wr.heap.size wr w2:=(Below.drew (bR)).trans hb3;have hz:=hd (hb2.trans (hf.mono hB));clear hb3 hf;go_wp2;go_roundw
      case rel=>exact⟨j+1,S+cn,by omega,by go_num,by go_num,by show _=_;rw[hx.o,<-HSS.o],by omega,by omega,hz.o⟩
      case measure=>simp[intOf];omega
    ·have hu:nums.take j=nums:=List.take_of_length_le (by omega);have HE:Hid (T+S=Sq.summedR nums (rows.take (k+1))):=by show _=_;rw[hl.o,<-HTT.o,HSS.o,hu]
     clear hu;go_wp2;go_roundw
     case rel=>exact⟨k+1,T+S,by omega,by go_num,rfl,HE,by omega,by omega,ht⟩
     case measure=>simp[intOf];omega
  ·have hw:rows.take k=rows:=List.take_of_length_le (by omega);have HE:Hid (T=Sq.summedR nums rows):=by show _=_;rw[HTT.o,hw]
   have hD:=jQdO T (by omega) (by omega);clear hw;go_wp2_with fail;refine(jQds T _ (by omega) (by omega) (HT.o.below hb)).mono ?_;rintro e w1 ⟨rfl,hb1⟩;go_wp2;go_ret;exact⟨by rw[<-HE.o];rfl,hb.trans (hb1.mono ho)⟩
end
end Go.Proofs.YtahpihjialbanaaGreatDoor
