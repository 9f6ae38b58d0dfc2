import Derived.BigRegion
import Derived.Test.YtahpihjialbanaaGreatDoorQau
set_option linter.unusedVariables false
set_option linter.unusedSimpArgs false
set_option maxRecDepth 100000
set_option maxHeartbeats 2000000
namespace Go.Proofs.YtahpihjialbanaaGreatDoor
open Sq (takeN numV pnum takeV)
section
open Go.RowKit
theorem Tryz.infoValR:(Tryz.prog.info? 208).map (fun i=>(i.zero,i.size,i.bytes))=some (some (.agg #[.int .i64 0,.int .i64 0,.string ⟨#[]⟩]),3,32):=by kernel_rfl
def ValsNew (B:Nat)(w:World)(v:Value)(l:List Sq.Val):Prop:=w.ownsRow B 208 3 v l.length (l.flatMap Sq.Val.cells)
theorem jQaf {ops:Array Oper}{rest:List Oper}{o:Oper}{a:Act}{Q:Exit->Act->World->Prop}{w:World}(hgd:o.guard=none)(sl x:Operand)
  (ho:o.op=.call { callee:=.builtin .append,args:=#[sl,x],argTypes:=#[113,113] }) (B:Nat) (v:Value) (l:List Sq.Val) (hs:a.eval sl=v) (hb:ValsNew B w v l)
  (c:Sq.Val) (g cc:Nat) (hx:a.eval x=.slice (some ⟨g,0,none⟩) 1 cc) (hc0:w.cell? ⟨g,0,none⟩=some (.int .i64 c.kind)) (hc1:w.cell? ⟨g,1,none⟩=some (.int .i64 c.number)) (hc2:w.cell? ⟨g,2,none⟩=some (.string c.text)) (h1:l.length+1<=1000000) (hB:B<=w.heap.size)
  (h:∀v' w',ValsNew B w' v' (l++[c])->w.grownBy w' v.ownBlock->wpList Tryz.prog ops Q rest (a.put o.dst v') w'):wpList Tryz.prog ops Q (o::rest) a w:=by
 obtain⟨i0,hi,hz0,hz1,hz2⟩:=info_parts Tryz.infoValR
 refine wpList_append_lies _ hgd sl x 113 ho B 208 i0 _ 3 32 Tryz.underlying113 hi hz0 hz1 hz2 rfl (by decide) v l.length _ hs hb ⟨g,0,none⟩ 1 cc c.cells hx rfl (by
  intro j u hu;have ea:(⟨g,0,none⟩:Addr).add j=⟨g,j,none⟩:=by unfold Addr.add;split<;>simp_all
  rw[ea]
  match j,hu with
  | 0,hu=>simp[Sq.Val.cells] at hu;subst hu;exact hc0
  | 1,hu=>simp[Sq.Val.cells] at hu;subst hu;exact hc1
  | 2,hu=>simp[Sq.Val.cells] at hu;subst hu;exact hc2
  | j+3,hu=>simp[Sq.Val.cells] at hu) (by intro u hu;simp[Sq.Val.cells] at hu;rcases hu with rfl | rfl | rfl<;>rfl) (by decide) (by unfold maxLen;omega) (by omega) hB _ rfl ?_
 intro g' cap w' ho' hg' _ _;refine h _ w' ?_ hg';unfold ValsNew;rw[List.length_append,List.flatMap_append];simpa using ho'
theorem ValsNew.only {B b:Nat}{w w':World}{v:Value}{l:List Sq.Val}{c:Array Value}(h:ValsNew B w v l)(hb:w.heap[b]?=some (.cells c 105))(ho:Only b w w'):ValsNew B w' v l :=
 jQq h fun g hg=>ho.other g fun e=>jQn h hb (by decide) (by rw[hg,e])
theorem ValsNew.below2 {B:Nat}{w w':World}{v:Value}{l:List Sq.Val}(h:ValsNew B w v l)(hb:Below w.heap.size w w'):ValsNew B w' v l :=
 jQq h fun g hg=>hb.block g (World.ownsRow.lt h g hg).2
theorem RdAt.grownV {B b:Nat}{w w':World}{v:Value}{l:List Sq.Val}{r:Sq.Rd}(h:RdAt b w r)(ho:ValsNew B w v l)(hg:w.grownBy w' v.ownBlock):RdAt b w' r :=
 (hg.block b (jQf h) (fun e=>jQn ho h (by decide) e.symm)).trans h
theorem Sq.jQlv (cols:List Sq.Col)(k:Nat)(h:k<cols.length)(x:Sq.CellsR):Sq.cellsR (cols.drop k) x=Sq.cellsR (cols.drop (k+1)) (Sq.cellStep cols[k] x):=by
 unfold Sq.cellsR;rw[List.drop_eq_getElem_cons h,List.foldl_cons]
theorem Sq.jQrF (r:Sq.Rd):0<=numV r 4/\numV r 4<4294967296:=by
 unfold numV;have h1:=Sq.jQly (takeV r 4).data.toList;have h2:(takeV r 4).data.toList.length<=4:=(Sq.jQaK r 4).2
 have h3:(256:Int)^(takeV r 4).data.toList.length<=4294967296:=by
  have:=Nat.pow_le_pow_right (n:=256) (by decide) h2
  have e:(256:Int)^(takeV r 4).data.toList.length=((256^(takeV r 4).data.toList.length:Nat):Int):=by simp
  rw[e];exact Int.ofNat_le.2 (Nat.le_trans this (by decide))
 omega
def CellsPost (w:World)(r:Option (List Sq.Val))(e:Ending)(w':World):Prop :=
 ∃v,e=.returned (.tuple #[v,.bool r.isSome])/\ValsNew w.heap.size w' v (r.getD [])/\Below w.heap.size w w'
theorem jQlB (cols:List Sq.Col)(cv:Value)(key:Int)(row:ByteArray)(w:World)(hc:ColsAt w cv cols)(hn:cols.length<=1000)(hs:row.size<=1000):Calls Tryz.prog 158 #[cv,.int .i64 key,.string row] w (CellsPost w (Sq.toCells cols key row)):=by
 obtain⟨co,ccap,rfl⟩:=jQa hc.1;have HC:=hd hc;clear hc;have HT:Hid (Sq.toCells cols key row=if(Sq.rowCells cols key row).good&&Sq.doneR (Sq.rowCells cols key row).rd then some (Sq.rowCells cols key row).cells else none):=rfl;have HR:Hid (Sq.rowCells cols key row=Sq.cellsR (cols.drop 1) ⟨[⟨0,key,⟨#[]⟩⟩],⟨row,false⟩,true⟩):=rfl;go_enter Tryz.func158,Tryz.ntmps158;go_wp2_with fail;refine(jQjm row _).mono ?_;rintro e w0 ⟨rfl,hb0⟩;have hE:=hb0.size;have hQ:=hd hb0;clear hb0;have hK:RdAt w0.heap.size (w0.alloc (.cells #[.string row,.bool false] 105)) ⟨row,false⟩:=heap_alloc_new w0 _;have hI:=hd hK;clear hK;go_wp2_with fail;refine(jQar key _).mono ?_;rintro e w1 ⟨rfl,hb1⟩;have hF:=jQaN hI.o hb1;have hV:=jQf hF;have hz:Below w.heap.size w w1:=hQ.o.trans ((((Below.refl w0.heap.size w0).alloc (nR) _).trans (hb1.mono (by simp))).mono hE);have hG:=jQaN hF ((Below.refl w1.heap.size w1).alloc (nR) (.cells #[.int .i64 0,.int .i64 key,.string ⟨#[]⟩] 208));have hO:=hz.trans (Below.mono (B':=w.heap.size) ((Below.refl w1.heap.size w1).alloc (nR) (.cells #[.int .i64 0,.int .i64 key,.string ⟨#[]⟩] 208)) (by omega));have hM:ValsNew w.heap.size (w1.alloc (.cells #[.int .i64 0,.int .i64 key,.string ⟨#[]⟩] 208)) (.slice (some ⟨w1.heap.size,0,none⟩) 1 1) [⟨0,key,⟨#[]⟩⟩]:=jQes w1 _ _ _ 1 3 _ rfl rfl (by decide) (by omega);have hJ:=hd hG;have hP:=hd hO;have hH:=hd hM;clear hb1 hF hz hG hO hM hI;go_wp2
 go_loopw [9,10,11] (fun gv v i wr=>∃(k:Nat) (x:Sq.CellsR),gv=.bool x.good/\i=.int .i64 k/\k<=1001/\1<=k/\x.cells.length<=k/\x.rd.rest.size<=1000/\ValsNew w.heap.size wr v x.cells/\RdAt w0.heap.size wr x.rd/\Below w.heap.size w wr/\Hid (Sq.rowCells cols key row=Sq.cellsR (cols.drop k) x)) (fun _ _ i _=>1002-(intOf i).toNat)
 case atStart=>exact⟨1,_,rfl,rfl,by decide,by decide,nR,hs,hH.o,hJ.o,hP.o,HR.o⟩
 case round =>
  obtain⟨k,x,rfl,rfl,hk,hk1,hxl,hxs,hown,hrd,hb,HQ⟩:=hrel;obtain⟨xc,xr,xg⟩:=x;simp only at hxl hxs hown hrd ⊢;clear HR hJ hP hH;obtain⟨ao,acap,rfl⟩:=jQa hown;have hX:=jQf hrd;have hh:=hd hown;have hu:=hd hrd;have HB:=hd hb;clear hown hrd
  by_cases hkt:k<cols.length
  ·obtain⟨g,cap',hv,hg,hce⟩:=sl_at (f:=Sq.Col.cells) (fun _=>rfl) (HC.o.below hb).1 k hkt;simp only[Value.slice.injEq] at hv;obtain⟨rfl,-,rfl⟩:=hv;have c1:=hce 1 (.int .i64 cols[k].kind) (by decide) rfl;have hq:=HQ.o;rw[Sq.jQlv cols k hkt] at hq;clear hce HQ hb;generalize cols[k]=c at *;obtain⟨cn,ck⟩:=c;simp only at c1;have HQ:=hd hq;have i1:(k:Int)<(cols.length:Int):=by omega
   have i2:¬((cols.length:Int)<=(k:Int)):=by omega
   have i0:¬((k:Int)<0):=by omega
   clear hq
   by_cases hk2:ck=1
   ·subst hk2;have hf:Hid (Sq.cellStep ⟨cn,1⟩ ⟨xc,xr,xg⟩=⟨xc++[⟨1,0,Sq.txtV xr⟩],Sq.txtN xr,xg&&Decidable.decide ((Sq.txtV xr).size<=12)⟩):=rfl;have hA:=Nat.le_trans (Sq.jQbP xr) hxs;have hW:=Nat.le_trans (Sq.jQco xr) hxs;go_wp2_with fail;refine(jQbr w0.heap.size xr _ hu.o (by omega)).mono ?_;rintro e w4 ⟨rfl,hr4,ho4⟩;have ho:=hh.o.only hu.o ho4;have hb:=HB.o.trans (ho4.below.mono hE);have hx:=hf.o;clear hf hh hu HB ho4;generalize Sq.txtV xr=tv at *;generalize Sq.txtN xr=tr at *;have hf:=hd hx;have hB:=hd hr4;have hC:=hd ho;have hw:=hd hb;have hU:=jQf hr4;clear hx hr4 ho hb;have hS:xg=false\/(xg=true/\tv.size<=12)\/(xg=true/\¬tv.size<=12):=by cases xg<;>simp;omega
    rcases hS with rfl | ⟨rfl,h12⟩ | ⟨rfl,h12⟩
    ·have he:Hid (Sq.cellStep ⟨cn,1⟩ ⟨xc,xr,false⟩=⟨xc++[⟨1,0,tv⟩],tr,false⟩):=by show _=_;rw[hf.o];rfl
     clear hf;go_wp2_with fail;refine(jQcV tv _).mono ?_;rintro e w5 ⟨rfl,hb5⟩;have hi:=jQaN (jQaN hB.o hb5) ((Below.refl w5.heap.size w5).alloc (nR) (.cells #[.int .i64 1,.int .i64 0,.string tv] 208));have hj:=(hC.o.below2 hb5).below2 ((Below.refl w5.heap.size w5).alloc (nR) (.cells #[.int .i64 1,.int .i64 0,.string tv] 208));have hD:=hb5.size;have hr:=hd (hw.o.trans ((hb5.mono (B':=w.heap.size) (by omega)).trans (Below.mono (B':=w.heap.size) ((Below.refl w5.heap.size w5).alloc (nR) (.cells #[.int .i64 1,.int .i64 0,.string tv] 208)) (by omega))));have hm:=hd hi;have ha:=hd hj;clear hb5 hi hj;go_wp2_with (at_builtin;refine jQaf rfl (.tmp 38) (.tmp 41) rfl w.heap.size _ xc rfl ha.o ⟨1,0,tv⟩ w5.heap.size 1 rfl (by simp[go_sem]) (by simp[go_sem]) (by simp[go_sem]) (by omega) (by simp;omega) ?_;intro v7 w7 hown7 hg7;have hp:=hd hown7;have hl:=hd (Tch.of_grown (pb:=w.heap.size) hg7 (fun k hk=>(World.ownsRow.lt ha.o k hk).1) (by simp;omega));have ht:=hd (hm.o.grownV ha.o hg7);clear hown7 hg7);go_roundw
     case rel =>
      exact⟨k+1,⟨xc++[⟨1,0,tv⟩],tr,false⟩,rfl,by go_num,by omega,by omega,by rw[List.length_append];show xc.length+1<=_;omega,hA,hp.o,ht.o,hr.o.trans hl.o,by show _=_;rw[HQ.o,he.o]⟩
     case measure=>(simp[intOf];try omega)
    ·have he:Hid (Sq.cellStep ⟨cn,1⟩ ⟨xc,xr,true⟩=⟨xc++[⟨1,0,tv⟩],tr,true⟩):=by show _=_;rw[hf.o];simp[h12]
     have i3:decide ((tv.size:Int)<=12)=true:=by simp;omega
     clear hf;go_wp2_with fail;refine(jQcV tv _).mono ?_;rintro e w5 ⟨rfl,hb5⟩;have hi:=jQaN (jQaN hB.o hb5) ((Below.refl w5.heap.size w5).alloc (nR) (.cells #[.int .i64 1,.int .i64 0,.string tv] 208));have hj:=(hC.o.below2 hb5).below2 ((Below.refl w5.heap.size w5).alloc (nR) (.cells #[.int .i64 1,.int .i64 0,.string tv] 208));have hD:=hb5.size;have hr:=hd (hw.o.trans ((hb5.mono (B':=w.heap.size) (by omega)).trans (Below.mono (B':=w.heap.size) ((Below.refl w5.heap.size w5).alloc (nR) (.cells #[.int .i64 1,.int .i64 0,.string tv] 208)) (by omega))));have hm:=hd hi;have ha:=hd hj;clear hb5 hi hj;go_wp2_with (at_builtin;refine jQaf rfl (.tmp 38) (.tmp 41) rfl w.heap.size _ xc rfl ha.o ⟨1,0,tv⟩ w5.heap.size 1 rfl (by simp[go_sem]) (by simp[go_sem]) (by simp[go_sem]) (by omega) (by simp;omega) ?_;intro v7 w7 hown7 hg7;have hp:=hd hown7;have hl:=hd (Tch.of_grown (pb:=w.heap.size) hg7 (fun k hk=>(World.ownsRow.lt ha.o k hk).1) (by simp;omega));have ht:=hd (hm.o.grownV ha.o hg7);clear hown7 hg7);go_roundw
     case rel =>
      exact⟨k+1,⟨xc++[⟨1,0,tv⟩],tr,true⟩,rfl,by go_num,by omega,by omega,by rw[List.length_append];show xc.length+1<=_;omega,hA,hp.o,ht.o,hr.o.trans hl.o,by show _=_;rw[HQ.o,he.o]⟩
     case measure=>(simp[intOf];try omega)
    ·have he:Hid (Sq.cellStep ⟨cn,1⟩ ⟨xc,xr,true⟩=⟨xc++[⟨1,0,tv⟩],tr,false⟩):=by show _=_;rw[hf.o];simp;omega
     have i3:decide ((tv.size:Int)<=12)=false:=by simp;omega
     clear hf;go_wp2_with fail;refine(jQcV tv _).mono ?_;rintro e w5 ⟨rfl,hb5⟩;have hi:=jQaN (jQaN hB.o hb5) ((Below.refl w5.heap.size w5).alloc (nR) (.cells #[.int .i64 1,.int .i64 0,.string tv] 208));have hj:=(hC.o.below2 hb5).below2 ((Below.refl w5.heap.size w5).alloc (nR) (.cells #[.int .i64 1,.int .i64 0,.string tv] 208));have hD:=hb5.size;have hr:=hd (hw.o.trans ((hb5.mono (B':=w.heap.size) (by omega)).trans (Below.mono (B':=w.heap.size) ((Below.refl w5.heap.size w5).alloc (nR) (.cells #[.int .i64 1,.int .i64 0,.string tv] 208)) (by omega))));have hm:=hd hi;have ha:=hd hj;clear hb5 hi hj;go_wp2_with (at_builtin;refine jQaf rfl (.tmp 38) (.tmp 41) rfl w.heap.size _ xc rfl ha.o ⟨1,0,tv⟩ w5.heap.size 1 rfl (by simp[go_sem]) (by simp[go_sem]) (by simp[go_sem]) (by omega) (by simp;omega) ?_;intro v7 w7 hown7 hg7;have hp:=hd hown7;have hl:=hd (Tch.of_grown (pb:=w.heap.size) hg7 (fun k hk=>(World.ownsRow.lt ha.o k hk).1) (by simp;omega));have ht:=hd (hm.o.grownV ha.o hg7);clear hown7 hg7);go_roundw
     case rel =>
      exact⟨k+1,⟨xc++[⟨1,0,tv⟩],tr,false⟩,rfl,by go_num,by omega,by omega,by rw[List.length_append];show xc.length+1<=_;omega,hA,hp.o,ht.o,hr.o.trans hl.o,by show _=_;rw[HQ.o,he.o]⟩
     case measure=>(simp[intOf];try omega)
   ·have hf:Hid (Sq.cellStep ⟨cn,ck⟩ ⟨xc,xr,xg⟩=⟨xc++[⟨0,numV xr 4-2147483648,⟨#[]⟩⟩],takeN xr 4,xg⟩):=by
     show _=_;unfold Sq.cellStep;rw[if_neg (by simpa using hk2)];rfl
    have hA:=Nat.le_trans (Sq.jQp xr 4) hxs;have hR:=Sq.jQrF xr;have i3:(ck==1)=false:=by simpa using hk2
    go_wp2_with fail;refine(jQb8 w0.heap.size xr 4 _ hu.o (by omega) (by decide)).mono ?_;rintro e w4 ⟨rfl,hr4,ho4⟩;have ho:=hh.o.only hu.o ho4;have hb:=HB.o.trans (ho4.below.mono hE);have hx:=hf.o;rw[show numV xr ((4:Nat):Int)=numV xr 4 from rfl];rw[show takeN xr ((4:Nat):Int)=takeN xr 4 from rfl] at hr4;clear hf hh hu HB ho4;generalize numV xr 4=nv at *;generalize takeN xr 4=tr at *;obtain⟨nb0,nb1⟩:=hR;have he:=hd hx;have hB:=hd hr4;have hC:=hd ho;have hw:=hd hb;have hU:=jQf hr4;clear hx hr4 ho hb
    ·go_wp2_with fail;refine(jQar (nv-2147483648) _).mono ?_;rintro e w5 ⟨rfl,hb5⟩;have hi:=jQaN (jQaN hB.o hb5) ((Below.refl w5.heap.size w5).alloc (nR) (.cells #[.int .i64 0,.int .i64 (nv-2147483648),.string ⟨#[]⟩] 208));have hj:=(hC.o.below2 hb5).below2 ((Below.refl w5.heap.size w5).alloc (nR) (.cells #[.int .i64 0,.int .i64 (nv-2147483648),.string ⟨#[]⟩] 208));have hD:=hb5.size;have hr:=hd (hw.o.trans ((hb5.mono (B':=w.heap.size) (by omega)).trans (Below.mono (B':=w.heap.size) ((Below.refl w5.heap.size w5).alloc (nR) (.cells #[.int .i64 0,.int .i64 (nv-2147483648),.string ⟨#[]⟩] 208)) (by omega))));have hm:=hd hi;have ha:=hd hj;clear hb5 hi hj;go_wp2_with (at_builtin;refine jQaf rfl (.tmp 44) (.tmp 48) rfl w.heap.size _ xc rfl ha.o ⟨0,(nv-2147483648),⟨#[]⟩⟩ w5.heap.size 1 rfl (by simp[go_sem]) (by simp[go_sem]) (by simp[go_sem]) (by omega) (by simp;omega) ?_;intro v7 w7 hown7 hg7;have hp:=hd hown7;have hl:=hd (Tch.of_grown (pb:=w.heap.size) hg7 (fun k hk=>(World.ownsRow.lt ha.o k hk).1) (by simp;omega));have ht:=hd (hm.o.grownV ha.o hg7);clear hown7 hg7);go_roundw
     case rel =>
      exact⟨k+1,⟨xc++[⟨0,(nv-2147483648),⟨#[]⟩⟩],tr,xg⟩,rfl,by go_num,by omega,by omega,by rw[List.length_append];show xc.length+1<=_;omega,hA,hp.o,ht.o,hr.o.trans hl.o,by show _=_;rw[HQ.o,he.o]⟩
     case measure=>(simp[intOf];try omega)
  ·have hq:=HQ.o;rw[List.drop_eq_nil_of_le (by omega)] at hq;have hT:=HT.o;rw[hq] at hT;have i1:¬((k:Int)<(cols.length:Int)):=by omega
   clear HQ hq HT hb;cases xg
   case false =>
    have HN:Hid (Sq.toCells cols key row=none):=hT;clear hT;go_wp2;go_ret2;exact⟨.slice none 0 0,by rw[HN.o];rfl,by rw[HN.o];exact World.ownsRow_nil _ _ _ _,HB.o⟩
   case true =>
    have hN:Sq.toCells cols key row=if Sq.doneR xr then some xc else none:=hT
    have hL:=hd hN;clear hT hN;go_wp2_with fail;refine(jQjp w0.heap.size xr _ hu.o).mono ?_;rintro e w4 ⟨rfl,hw4⟩;rw[hw4];clear hw4 w4;obtain⟨b1,hb1⟩:∃b,b=Sq.doneR xr:=⟨_,rfl⟩;have hy:=hL.o;rw[<-hb1] at hy ⊢;clear hb1 hL;cases b1
    case false =>
     have HN:Hid (Sq.toCells cols key row=none):=hy;clear hy;go_wp2;go_ret2;exact⟨.slice none 0 0,by rw[HN.o];rfl,by rw[HN.o];exact World.ownsRow_nil _ _ _ _,HB.o⟩
    case true =>
     have HN:Hid (Sq.toCells cols key row=some xc):=hy;clear hy;go_wp2;go_ret2;exact⟨_,by rw[HN.o];rfl,by rw[HN.o];exact hh.o,HB.o⟩
end
section
open Go.RowKit
theorem jQb9 (t k:Int)(w:World)(ht0:0<=t)(ht1:t<=100000)(hk0:-100000000000<=k)(hk1:k<=100000000000) :
  Calls Tryz.prog 104 #[.int .i64 t,.int .i64 k] w fun e w'=>e=.returned (.int .i64 (Sq.placeOf t k))/\w'=w:=by
 have HE:Hid (Sq.placeOf t k=t*4294967296+k+2147483648):=rfl;go_enter Tryz.func104,Tryz.ntmps104;go_wp2;go_ret;exact⟨by rw[HE.o];go_num,rfl⟩
theorem jQim (p:Int)(w:World)(hp:0<=p) :
  Calls Tryz.prog 105 #[.int .i64 p] w fun e w'=>e=.returned (.int .i64 (Sq.keyAt p))/\w'=w:=by
 have HE:Hid (Sq.keyAt p=HMod.hMod p 4294967296-2147483648):=rfl;go_enter Tryz.func105,Tryz.ntmps105;go_wp2;go_ret;exact⟨by rw[HE.o];go_num,rfl⟩
theorem Sq.jQk1 (l:List Sq.Val)(k:Nat)(h:k<l.length)(b:ByteArray):Sq.ofVals b (l.drop k)=Sq.ofVals (b++Sq.ofVal l[k]) (l.drop (k+1)):=by
 unfold Sq.ofVals;rw[List.drop_eq_getElem_cons h,List.foldl_cons]
theorem Sq.jQk2 (l:List Sq.Col)(k:Nat)(h:k<l.length)(b:ByteArray):Sq.ofCols b (l.drop k)=Sq.ofCols (b++Sq.ofCol l[k]) (l.drop (k+1)):=by
 unfold Sq.ofCols;rw[List.drop_eq_getElem_cons h,List.foldl_cons]
theorem jQlF (l:List Sq.Val)(lv:Value)(w:World)(h:w.ownsRow 0 208 3 lv l.length (l.flatMap Sq.Val.cells))(hl:l.length<=1000)(hs:∀v∈l,v.text.size<=1000/\-100000000000<=v.number/\v.number<=100000000000) :
  Calls Tryz.prog 127 #[lv] w fun e w'=>e=.returned (.string (Sq.ofCells l))/\Below w.heap.size w w':=by
 obtain⟨ao,acap,rfl⟩:=jQa h;have H:=hd h;have HS:=hd hs;have HE:Hid (Sq.ofCells l=Sq.ofVals ⟨#[]⟩ (l.drop 1)):=rfl;clear h hs;go_enter Tryz.func127,Tryz.ntmps127;go_wp2
 go_loopw [3,4] (fun bv i wr=>∃(k:Nat) (b:ByteArray),bv=.string b/\i=.int .i64 k/\k<=1001/\b.size<=2000*k/\Below w.heap.size w wr/\Hid (Sq.ofCells l=Sq.ofVals b (l.drop k))) (fun _ i _=>1002-(intOf i).toNat)
 case atStart=>exact⟨1,⟨#[]⟩,rfl,rfl,by decide,by decide,bR,HE⟩
 case round =>
  obtain⟨k,b,rfl,rfl,hk,hbs,hb,HQ⟩:=hrel;have hn:=hb.size;have HB:=hd hb
  by_cases hkt:k<l.length
  ·obtain⟨g,cap',hv,hg,hce⟩:=sl_at (f:=Sq.Val.cells) (fun _=>rfl) (jQh H.o hb) k hkt;simp only[Value.slice.injEq] at hv;obtain⟨rfl,-,rfl⟩:=hv;have c0:=hce 0 (.int .i64 l[k].kind) (by decide) rfl;have c1:=hce 1 (.int .i64 l[k].number) (by decide) rfl;have c2:=hce 2 (.string l[k].text) (by decide) rfl;have hm:=HS.o l[k] (List.getElem_mem hkt);have hq:=HQ.o;rw[Sq.jQk1 l k hkt] at hq;clear hce HQ hb;generalize l[k]=x at *;obtain⟨xk,xn,xt⟩:=x;simp only[Nat.add_zero] at c0 c1 c2 hm;obtain⟨hm0,hm1,hm2⟩:=hm;have HQ:=hd hq;have i1:(k:Int)<(l.length:Int):=by omega
   have i2:¬((l.length:Int)<=(k:Int)):=by omega
   have i0:¬((k:Int)<0):=by omega
   clear hq
   by_cases hk2:xk=1
   ·subst hk2;have hf:=Sq.jQcc xt;have ha:Hid (Sq.ofVal ⟨1,xn,xt⟩=Sq.txt xt):=rfl;have he:Hid ((Sq.txt xt).size<=1001):=by show _<=_;omega
    clear hf;go_wp2_with fail;refine(jQdi xt _ (by omega)).mono ?_;rintro e w4 ⟨rfl,hb4⟩;have hc:=ha.o;have hf:=he.o;clear ha he;generalize Sq.txt xt=p at *;have ha:=hd hc;have hh:=hd (HB.o.trans (hb4.mono hn));have hj:(b++p).size=b.size+p.size:=ByteArray.size_append;have hi:Hid ((b++p).size<=2000*(k+1)):=by show _<=_;omega
    clear hc hb4 hj;go_wp2;go_roundw
    case rel=>exact⟨k+1,b++p,rfl,by go_num,by omega,hi.o,hh.o,by show _=_;rw[HQ.o,ha.o]⟩
    case measure=>simp[intOf];omega
   ·have hf:=Sq.jQt (xn+2147483648) 4;have i3:(xk==1)=false:=by simpa using hk2
    have ha:Hid (Sq.ofVal ⟨xk,xn,xt⟩=pnum (xn+2147483648) 4):=by show _=_;unfold Sq.ofVal;rw[if_neg (by simpa using hk2)]
    have he:Hid ((pnum (xn+2147483648) 4).size<=1001):=by show _<=_;omega
    clear hf;go_wp2_with fail;refine(jQ7 (xn+2147483648) 4 _ (by omega)).mono ?_;rintro e w4 ⟨rfl,hb4⟩;have hc:=ha.o;have hf:=he.o;clear ha he;generalize pnum (xn+2147483648) 4=p at *;have ha:=hd hc;have hh:=hd (HB.o.trans (hb4.mono hn));have hj:(b++p).size=b.size+p.size:=ByteArray.size_append;have hi:Hid ((b++p).size<=2000*(k+1)):=by show _<=_;omega
    clear hc hb4 hj;go_wp2;go_roundw
    case rel=>exact⟨k+1,b++p,rfl,by go_num,by omega,hi.o,hh.o,by show _=_;rw[HQ.o,ha.o]⟩
    case measure=>simp[intOf];omega
  ·have i1:¬((k:Int)<(l.length:Int)):=by omega
   have HN:Hid (Sq.ofCells l=b):=by show _=_;rw[HQ.o,List.drop_eq_nil_of_le (by omega)];rfl
   clear hb HQ;go_wp2;go_ret;exact⟨by rw[HN.o];rfl,HB.o⟩
theorem jQlE (name:ByteArray)(l:List Sq.Col)(lv:Value)(w:World)(h:ColsAt w lv l)(hl:l.length<=1000)(hnm:name.size<=1000)(hs:∀v∈l,v.name.size<=1000) :
  Calls Tryz.prog 126 #[.string name,lv] w fun e w'=>e=.returned (.string (Sq.ofTable name l))/\Below w.heap.size w w':=by
 obtain⟨ao,acap,rfl⟩:=jQa h.1;have H:=hd h;have HS:=hd hs;have HE:Hid (Sq.ofTable name l=Sq.ofCols (Sq.txt name++pnum l.length 1) l):=rfl;have hz:=Sq.jQcc name;have hp:=Sq.jQt l.length 1;have he:=HE.o;have ho:Hid ((Sq.txt name).size<=1001):=by show _<=_;omega
 have hw:Hid ((pnum l.length 1).size<=1):=by show _<=_;omega
 clear h hs hz hp HE;go_enter Tryz.func126,Tryz.ntmps126;go_wp2_with fail;refine(jQdi name _ (by omega)).mono ?_;rintro e w1 ⟨rfl,hb1⟩;have ht:=hd hb1;have hJ:=hb1.size;clear hb1;have hz:=ho.o;clear ho;generalize Sq.txt name=tn at *;go_wp2_with fail;refine(jQ7 l.length 1 _ (by omega)).mono ?_;rintro e w2 ⟨rfl,hb2⟩;have hB:=hd (ht.o.trans (hb2.mono hJ));clear hb2 ht;have hp:=hw.o;clear hw;generalize pnum (l.length:Int) 1=pn at *;have HE:=hd he;have hI:(tn++pn).size=tn.size+pn.size:=ByteArray.size_append;have hf:Hid ((tn++pn).size<=2000):=by show _<=_;omega
 clear he hI;go_wp2
 go_loopw [5,6] (fun bv i wr=>∃(k:Nat) (b:ByteArray),bv=.string b/\i=.int .i64 k/\k<=l.length/\b.size<=2000*(k+1)/\Below w.heap.size w wr/\Hid (Sq.ofTable name l=Sq.ofCols b (l.drop k))) (fun _ i _=>l.length-(intOf i).toNat)
 case atStart=>exact⟨0,tn++pn,rfl,rfl,zR,hf.o,hB.o,HE⟩
 case round =>
  obtain⟨k,b,rfl,rfl,hk,hbs,hb,HQ⟩:=hrel;clear hf hB HE;obtain⟨wo,rfl⟩:∃wo:World,wo=wr:=⟨_,rfl⟩;have hK:=hb.size;have HB:=hd hb
  by_cases hkt:k<l.length
  ·obtain⟨g,cap',hv,hg,hce⟩:=sl_at (f:=Sq.Col.cells) (fun _=>rfl) (H.o.below hb).1 k hkt;simp only[Value.slice.injEq] at hv;obtain⟨rfl,-,rfl⟩:=hv;have c0:=hce 0 (.string l[k].name) (by decide) rfl;have c1:=hce 1 (.int .i64 l[k].kind) (by decide) rfl;have hm:=HS.o l[k] (List.getElem_mem hkt);have hq:=HQ.o;rw[Sq.jQk2 l k hkt] at hq;clear hce HQ hb;generalize l[k]=x at *;obtain⟨xn,xk⟩:=x;simp only[Nat.add_zero] at c0 c1 hm;have HQ:=hd hq;have hu:Hid (Sq.ofCol ⟨xn,xk⟩=pnum xk 1++Sq.txt xn):=rfl;have hC:=Sq.jQcc xn;have hA:=Sq.jQt xk 1;obtain⟨q1,hq1⟩:∃x,x=pnum xk 1:=⟨_,rfl⟩;obtain⟨q2,hq2⟩:∃x,x=Sq.txt xn:=⟨_,rfl⟩;have hi:=hu.o;rw[<-hq1,<-hq2] at hi;rw[<-hq2] at hC;rw[<-hq1] at hA;have hG:q1.size<=1:=by omega
   have hH:q2.size<=1001:=by omega
   have hh:(q1++q2).size=q1.size+q2.size:=ByteArray.size_append;have hj:(b++(q1++q2)).size=b.size+(q1++q2).size:=ByteArray.size_append;have hf:Hid ((b++(q1++q2)).size<=2000*(k+1+1)):=by show _<=_;omega
   have hF:(q1++q2).size<=1002:=by omega
   have hn:=hd hi;have hD:=hd hq1;have hr:=hd hq2;have i1:(k:Int)<(l.length:Int):=by omega
   have i2:¬((l.length:Int)<=(k:Int)):=by omega
   have i0:¬((k:Int)<0):=by omega
   clear hq hu hC hA hq1 hq2 hi hh hj;go_wp2
   go_region_with (first
    | (have hx:=hc;clear hx;go_at_call 56;refine(jQ7 xk 1 _ (by omega)).mono ?_;rintro e w6 ⟨rfl,hb6⟩;rw[<-hD.o];have hy:=hd (hc.o.trans (hb6.mono (by omega)));clear hb6)
    | (have hx:=hc;clear hx;go_at_call 84;refine(jQdi xn _ (by omega)).mono ?_;rintro e w6 ⟨rfl,hb6⟩;rw[<-hr.o];have hy:=hd (hc.o.trans (hb6.mono (by omega)));clear hb6)
    | (go_at_call 56;refine(jQ7 xk 1 _ (by omega)).mono ?_;rintro e w5 ⟨rfl,hb5⟩;rw[<-hD.o];have ha:Below wo.heap.size wo w5:=(Below.drew (bR)).trans hb5;have k0:=((bcell ha).1 g (k*2) hg).trans c0;have k1:=((bcell ha).1 g (k*2+1) hg).trans c1;have hE:=ha.size;have hc:=hd ha;clear hb5 ha)
    | (go_at_call 84;refine(jQdi xn _ (by omega)).mono ?_;rintro e w5 ⟨rfl,hb5⟩;rw[<-hr.o];have ha:Below wo.heap.size wo w5:=(Below.drew (bR)).trans hb5;have k0:=((bcell ha).1 g (k*2) hg).trans c0;have k1:=((bcell ha).1 g (k*2+1) hg).trans c1;have hE:=ha.size;have hc:=hd ha;clear hb5 ha))
   all_goals(try go_wp2)
   all_goals
    go_roundw
    case rel=>exact⟨k+1,b++(q1++q2),rfl,by go_num,by omega,hf.o,HB.o.trans (hy.o.mono hK),by show _=_;rw[HQ.o,hn.o]⟩
    case measure=>simp[intOf];omega
  ·have i1:¬((k:Int)<(l.length:Int)):=by omega
   have HN:Hid (Sq.ofTable name l=b):=by show _=_;rw[HQ.o,List.drop_eq_nil_of_le (by omega)];rfl
   clear hb HQ;go_wp2;go_ret;exact⟨by rw[HN.o];rfl,HB.o⟩
end
end Go.Proofs.YtahpihjialbanaaGreatDoor
