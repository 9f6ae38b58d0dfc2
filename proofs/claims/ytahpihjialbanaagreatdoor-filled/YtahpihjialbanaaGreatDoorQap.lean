import Derived.BigRegion
import Derived.Test.YtahpihjialbanaaGreatDoorQao
set_option linter.unusedVariables false
set_option linter.unusedSimpArgs false
set_option maxRecDepth 100000
set_option maxHeartbeats 2000000
namespace Go.Proofs.YtahpihjialbanaaGreatDoor
section
open Go.RowKit
theorem Tryz.infoValR:(Tryz.prog.info? 208).map (fun i=>(i.zero,i.size,i.bytes))=some (some (.agg #[.int .i64 0,.int .i64 0,.string ⟨#[]⟩]),3,32):=by kernel_rfl
def ValsNew (B:Nat)(w:World)(v:Value)(l:List Sq.Val):Prop:=w.ownsRow B 208 3 v l.length (l.flatMap Sq.Val.cells)
theorem jQal {ops:Array Oper}{rest:List Oper}{o:Oper}{a:Act}{Q:Exit→Act→World→Prop}{w:World}(hgd:o.guard=none)(sl x:Operand)
  (ho:o.op=.call { callee:=.builtin .append,args:=#[sl,x],argTypes:=#[113,113] }) (B:Nat) (v:Value) (l:List Sq.Val) (hs:a.eval sl=v) (hb:ValsNew B w v l)
  (c:Sq.Val) (g cc:Nat) (hx:a.eval x=.slice (some ⟨g,0,none⟩) 1 cc) (hc0:w.cell? ⟨g,0,none⟩=some (.int .i64 c.kind)) (hc1:w.cell? ⟨g,1,none⟩=some (.int .i64 c.number)) (hc2:w.cell? ⟨g,2,none⟩=some (.string c.text)) (h1:l.length+1≤1000000) (hB:B≤w.heap.size)
  (h:∀v' w',ValsNew B w' v' (l++[c])→w.grownBy w' v.ownBlock→wpList Tryz.prog ops Q rest (a.put o.dst v') w'):wpList Tryz.prog ops Q (o :: rest) a w:=by
 obtain⟨i0,hi,hz0,hz1,hz2⟩:=info_parts Tryz.infoValR
 refine wpList_append_lies _ hgd sl x 113 ho B 208 i0 _ 3 32 Tryz.underlying113 hi hz0 hz1 hz2 rfl (by decide) v l.length _ hs hb ⟨g,0,none⟩ 1 cc c.cells hx rfl (by
  intro j u hu
  have ea:(⟨g,0,none⟩:Addr).add j=⟨g,j,none⟩:=by unfold Addr.add;split <;> simp_all
  rw[ea]
  match j,hu with
  | 0,hu=>simp[Sq.Val.cells] at hu;subst hu;exact hc0
  | 1,hu=>simp[Sq.Val.cells] at hu;subst hu;exact hc1
  | 2,hu=>simp[Sq.Val.cells] at hu;subst hu;exact hc2
  | j+3,hu=>simp[Sq.Val.cells] at hu) (by intro u hu;simp[Sq.Val.cells] at hu;rcases hu with rfl | rfl | rfl <;> rfl) (by decide) (by unfold maxLen;omega) (by omega) hB _ rfl ?_
 intro g' cap w' ho' hg' _ _
 refine h _ w' ?_ hg'
 unfold ValsNew
 rw[List.length_append,List.flatMap_append]
 simpa using ho'
theorem ValsNew.only {B b:Nat}{w w':World}{v:Value}{l:List Sq.Val}{c:Array Value}(h:ValsNew B w v l)(hb:w.heap[b]?=some (.cells c 105))(ho:Only b w w'):ValsNew B w' v l :=
 jQn h fun g hg=>ho.other g fun e=>jQl h hb (by decide) (by rw[hg,e])
theorem ValsNew.below2 {B:Nat}{w w':World}{v:Value}{l:List Sq.Val}(h:ValsNew B w v l)(hb:Below w.heap.size w w'):ValsNew B w' v l :=
 jQn h fun g hg=>hb.block g (World.ownsRow.lt h g hg).2
theorem RdAt.grownV {B b:Nat}{w w':World}{v:Value}{l:List Sq.Val}{r:Sq.Rd}(h:RdAt b w r)(ho:ValsNew B w v l)(hg:w.grownBy w' v.ownBlock):RdAt b w' r :=
 (hg.block b (jQg h) (fun e=>jQl ho h (by decide) e.symm)).trans h
theorem Sq.jQlf (cols:List Sq.Col)(k:Nat)(h:k < cols.length)(x:Sq.CellsR):Sq.cellsR (cols.drop k) x=Sq.cellsR (cols.drop (k+1)) (Sq.cellStep cols[k] x):=by
 unfold Sq.cellsR
 rw[List.drop_eq_getElem_cons h,List.foldl_cons]
theorem Sq.jQrX (r:Sq.Rd):0≤Sq.numV r 4∧Sq.numV r 4 < 4294967296:=by
 unfold Sq.numV
 have h1:=Sq.jQrm (Sq.takeV r 4).data.toList
 have h2:(Sq.takeV r 4).data.toList.length≤4:=(Sq.jQcO r 4).2
 have h3:(256:Int) ^ (Sq.takeV r 4).data.toList.length≤4294967296:=by
  have:=Nat.pow_le_pow_right (n:=256) (by decide) h2
  have e:(256:Int) ^ (Sq.takeV r 4).data.toList.length=((256 ^ (Sq.takeV r 4).data.toList.length:Nat):Int):=by simp
  rw[e]
  exact Int.ofNat_le.2 (Nat.le_trans this (by decide))
 omega
def CellsPost (w:World)(r:Option (List Sq.Val))(e:Ending)(w':World):Prop :=
 ∃v,e=.returned (.tuple #[v,.bool r.isSome])∧ValsNew w.heap.size w' v (r.getD [])∧Below w.heap.size w w'
theorem jQlm (cols:List Sq.Col)(cv:Value)(key:Int)(row:ByteArray)(w:World)(hc:ColsAt w cv cols)(hn:cols.length≤1000)(hs:row.size≤1000):Calls Tryz.prog 158 #[cv,.int .i64 key,.string row] w (CellsPost w (Sq.toCells cols key row)):=by
 obtain⟨co,ccap,rfl⟩:=jQa hc.1
 have HC:=hd hc
 clear hc
 have HT:Hid (Sq.toCells cols key row=if(Sq.rowCells cols key row).good && Sq.doneR (Sq.rowCells cols key row).rd then some (Sq.rowCells cols key row).cells else none):=rfl
 have HR:Hid (Sq.rowCells cols key row=Sq.cellsR (cols.drop 1) ⟨[⟨0,key,⟨#[]⟩⟩],⟨row,false⟩,true⟩):=rfl
 go_enter Tryz.func158,Tryz.ntmps158
 go_wp2_with fail
 refine(jQnY row _).mono ?_
 rintro e w0 ⟨rfl,hb0⟩
 have hz0:=hb0.size
 have HB0:=hd hb0
 clear hb0
 have hr0:RdAt w0.heap.size (w0.alloc (.cells #[.string row,.bool false] 105)) ⟨row,false⟩:=heap_alloc_new w0 _
 have HR0:=hd hr0
 clear hr0
 go_wp2_with fail
 refine(jQaC key _).mono ?_
 rintro e w1 ⟨rfl,hb1⟩
 have hr1:=jQa1 HR0.out hb1
 have hzz:=jQg hr1
 have hb1':Below w.heap.size w w1:=HB0.out.trans ((((Below.refl w0.heap.size w0).alloc (Nat.le_refl _) _).trans (hb1.mono (by simp))).mono hz0)
 have hr2:=jQa1 hr1 ((Below.refl w1.heap.size w1).alloc (Nat.le_refl _) (.cells #[.int .i64 0,.int .i64 key,.string ⟨#[]⟩] 208))
 have hb2:=hb1'.trans (Below.mono (B':=w.heap.size) ((Below.refl w1.heap.size w1).alloc (Nat.le_refl _) (.cells #[.int .i64 0,.int .i64 key,.string ⟨#[]⟩] 208)) (by omega))
 have ho2:ValsNew w.heap.size (w1.alloc (.cells #[.int .i64 0,.int .i64 key,.string ⟨#[]⟩] 208)) (.slice (some ⟨w1.heap.size,0,none⟩) 1 1) [⟨0,key,⟨#[]⟩⟩]:=jQes w1 _ _ _ 1 3 _ rfl rfl (by decide) (by omega)
 have HR2:=hd hr2
 have HB2:=hd hb2
 have HO2:=hd ho2
 clear hb1 hr1 hb1' hr2 hb2 ho2 HR0
 go_wp2
 go_loopw [9,10,11] (fun gv v i wr=>∃(k:Nat) (x:Sq.CellsR),gv=.bool x.good∧i=.int .i64 k∧k≤1001∧1≤k∧x.cells.length≤k∧x.rd.rest.size≤1000∧ValsNew w.heap.size wr v x.cells∧RdAt w0.heap.size wr x.rd∧Below w.heap.size w wr∧Hid (Sq.rowCells cols key row=Sq.cellsR (cols.drop k) x)) (fun _ _ i _=>1002 - (intOf i).toNat)
 case atStart=>exact⟨1,_,rfl,rfl,by decide,by decide,Nat.le_refl _,hs,HO2.out,HR2.out,HB2.out,HR.out⟩
 case round =>
  obtain⟨k,x,rfl,rfl,hk,hk1,hxl,hxs,hown,hrd,hb,HQ⟩:=hrel
  obtain⟨xc,xr,xg⟩:=x
  simp only at hxl hxs hown hrd ⊢
  clear HR HR2 HB2 HO2
  obtain⟨ao,acap,rfl⟩:=jQa hown
  have hzr:=jQg hrd
  have HOWN:=hd hown
  have HRD:=hd hrd
  have HB:=hd hb
  clear hown hrd
  by_cases hkt:k < cols.length
  ·obtain⟨g,cap',hv,hg,hce⟩:=sl_at (f:=Sq.Col.cells) (fun _=>rfl) (HC.out.below hb).1 k hkt
   simp only[Value.slice.injEq] at hv
   obtain⟨rfl,-,rfl⟩:=hv
   have c1:=hce 1 (.int .i64 cols[k].kind) (by decide) rfl
   have hq:=HQ.out
   rw[Sq.jQlf cols k hkt] at hq
   clear hce HQ hb
   generalize cols[k]=c at *
   obtain⟨cn,ck⟩:=c
   simp only at c1
   have HQ:=hd hq
   have i1:(k:Int) < (cols.length:Int):=by omega
   have i2:¬((cols.length:Int)≤(k:Int)):=by omega
   have i0:¬((k:Int) < 0):=by omega
   clear hq
   by_cases hk2:ck=1
   ·subst hk2
    have HST:Hid (Sq.cellStep ⟨cn,1⟩ ⟨xc,xr,xg⟩=⟨xc++[⟨1,0,Sq.txtV xr⟩],Sq.txtN xr,xg && Decidable.decide ((Sq.txtV xr).size≤12)⟩):=rfl
    have hs1:=Nat.le_trans (Sq.jQdM xr) hxs
    have hs2:=Nat.le_trans (Sq.jQdL xr) hxs
    go_wp2_with fail
    refine(jQcH w0.heap.size xr _ HRD.out (by omega)).mono ?_
    rintro e w4 ⟨rfl,hr4,ho4⟩
    have ho:=HOWN.out.only HRD.out ho4
    have hb:=HB.out.trans (ho4.below.mono hz0)
    have hst:=HST.out
    clear HST HOWN HRD HB ho4
    generalize Sq.txtV xr=tv at *
    generalize Sq.txtN xr=tr at *
    have HST:=hd hst
    have HR4:=hd hr4
    have HO4:=hd ho
    have HB4:=hd hb
    have hz4:=jQg hr4
    clear hst hr4 ho hb
    have hsp:xg=false∨(xg=true∧tv.size≤12)∨(xg=true∧¬tv.size≤12):=by cases xg <;> simp;omega
    rcases hsp with rfl | ⟨rfl,h12⟩ | ⟨rfl,h12⟩
    ·have HST2:Hid (Sq.cellStep ⟨cn,1⟩ ⟨xc,xr,false⟩=⟨xc++[⟨1,0,tv⟩],tr,false⟩):=by show _=_;rw[HST.out];rfl
     clear HST
     go_wp2_with fail
     refine(jQc5 tv _).mono ?_
     rintro e w5 ⟨rfl,hb5⟩
     have hr6:=jQa1 (jQa1 HR4.out hb5) ((Below.refl w5.heap.size w5).alloc (Nat.le_refl _) (.cells #[.int .i64 1,.int .i64 0,.string tv] 208))
     have ho6:=(HO4.out.below2 hb5).below2 ((Below.refl w5.heap.size w5).alloc (Nat.le_refl _) (.cells #[.int .i64 1,.int .i64 0,.string tv] 208))
     have hz5:=hb5.size
     have HB6:=hd (HB4.out.trans ((hb5.mono (B':=w.heap.size) (by omega)).trans (Below.mono (B':=w.heap.size) ((Below.refl w5.heap.size w5).alloc (Nat.le_refl _) (.cells #[.int .i64 1,.int .i64 0,.string tv] 208)) (by omega))))
     have HR6:=hd hr6
     have HO6:=hd ho6
     clear hb5 hr6 ho6
     go_wp2_with (at_builtin;refine jQal rfl (.tmp 38) (.tmp 41) rfl w.heap.size _ xc rfl HO6.out ⟨1,0,tv⟩ w5.heap.size 1 rfl (by simp[go_sem]) (by simp[go_sem]) (by simp[go_sem]) (by omega) (by simp;omega) ?_;intro v7 w7 hown7 hg7;have HO7:=hd hown7;have HB7:=hd (Tch.of_grown (pb:=w.heap.size) hg7 (fun k hk=>(World.ownsRow.lt HO6.out k hk).1) (by simp;omega));have HR7:=hd (HR6.out.grownV HO6.out hg7);clear hown7 hg7)
     go_roundw
     case rel =>
      exact⟨k+1,⟨xc++[⟨1,0,tv⟩],tr,false⟩,rfl,by go_num,by omega,by omega,by rw[List.length_append];show xc.length+1≤_;omega,hs1,HO7.out,HR7.out,HB6.out.trans HB7.out,by show _=_;rw[HQ.out,HST2.out]⟩
     case measure=>(simp[intOf];try omega)
    ·have HST2:Hid (Sq.cellStep ⟨cn,1⟩ ⟨xc,xr,true⟩=⟨xc++[⟨1,0,tv⟩],tr,true⟩):=by show _=_;rw[HST.out];simp[h12]
     have i3:decide ((tv.size:Int)≤12)=true:=by simp;omega
     clear HST
     go_wp2_with fail
     refine(jQc5 tv _).mono ?_
     rintro e w5 ⟨rfl,hb5⟩
     have hr6:=jQa1 (jQa1 HR4.out hb5) ((Below.refl w5.heap.size w5).alloc (Nat.le_refl _) (.cells #[.int .i64 1,.int .i64 0,.string tv] 208))
     have ho6:=(HO4.out.below2 hb5).below2 ((Below.refl w5.heap.size w5).alloc (Nat.le_refl _) (.cells #[.int .i64 1,.int .i64 0,.string tv] 208))
     have hz5:=hb5.size
     have HB6:=hd (HB4.out.trans ((hb5.mono (B':=w.heap.size) (by omega)).trans (Below.mono (B':=w.heap.size) ((Below.refl w5.heap.size w5).alloc (Nat.le_refl _) (.cells #[.int .i64 1,.int .i64 0,.string tv] 208)) (by omega))))
     have HR6:=hd hr6
     have HO6:=hd ho6
     clear hb5 hr6 ho6
     go_wp2_with (at_builtin;refine jQal rfl (.tmp 38) (.tmp 41) rfl w.heap.size _ xc rfl HO6.out ⟨1,0,tv⟩ w5.heap.size 1 rfl (by simp[go_sem]) (by simp[go_sem]) (by simp[go_sem]) (by omega) (by simp;omega) ?_;intro v7 w7 hown7 hg7;have HO7:=hd hown7;have HB7:=hd (Tch.of_grown (pb:=w.heap.size) hg7 (fun k hk=>(World.ownsRow.lt HO6.out k hk).1) (by simp;omega));have HR7:=hd (HR6.out.grownV HO6.out hg7);clear hown7 hg7)
     go_roundw
     case rel =>
      exact⟨k+1,⟨xc++[⟨1,0,tv⟩],tr,true⟩,rfl,by go_num,by omega,by omega,by rw[List.length_append];show xc.length+1≤_;omega,hs1,HO7.out,HR7.out,HB6.out.trans HB7.out,by show _=_;rw[HQ.out,HST2.out]⟩
     case measure=>(simp[intOf];try omega)
    ·have HST2:Hid (Sq.cellStep ⟨cn,1⟩ ⟨xc,xr,true⟩=⟨xc++[⟨1,0,tv⟩],tr,false⟩):=by show _=_;rw[HST.out];simp;omega
     have i3:decide ((tv.size:Int)≤12)=false:=by simp;omega
     clear HST
     go_wp2_with fail
     refine(jQc5 tv _).mono ?_
     rintro e w5 ⟨rfl,hb5⟩
     have hr6:=jQa1 (jQa1 HR4.out hb5) ((Below.refl w5.heap.size w5).alloc (Nat.le_refl _) (.cells #[.int .i64 1,.int .i64 0,.string tv] 208))
     have ho6:=(HO4.out.below2 hb5).below2 ((Below.refl w5.heap.size w5).alloc (Nat.le_refl _) (.cells #[.int .i64 1,.int .i64 0,.string tv] 208))
     have hz5:=hb5.size
     have HB6:=hd (HB4.out.trans ((hb5.mono (B':=w.heap.size) (by omega)).trans (Below.mono (B':=w.heap.size) ((Below.refl w5.heap.size w5).alloc (Nat.le_refl _) (.cells #[.int .i64 1,.int .i64 0,.string tv] 208)) (by omega))))
     have HR6:=hd hr6
     have HO6:=hd ho6
     clear hb5 hr6 ho6
     go_wp2_with (at_builtin;refine jQal rfl (.tmp 38) (.tmp 41) rfl w.heap.size _ xc rfl HO6.out ⟨1,0,tv⟩ w5.heap.size 1 rfl (by simp[go_sem]) (by simp[go_sem]) (by simp[go_sem]) (by omega) (by simp;omega) ?_;intro v7 w7 hown7 hg7;have HO7:=hd hown7;have HB7:=hd (Tch.of_grown (pb:=w.heap.size) hg7 (fun k hk=>(World.ownsRow.lt HO6.out k hk).1) (by simp;omega));have HR7:=hd (HR6.out.grownV HO6.out hg7);clear hown7 hg7)
     go_roundw
     case rel =>
      exact⟨k+1,⟨xc++[⟨1,0,tv⟩],tr,false⟩,rfl,by go_num,by omega,by omega,by rw[List.length_append];show xc.length+1≤_;omega,hs1,HO7.out,HR7.out,HB6.out.trans HB7.out,by show _=_;rw[HQ.out,HST2.out]⟩
     case measure=>(simp[intOf];try omega)
   ·have HST:Hid (Sq.cellStep ⟨cn,ck⟩ ⟨xc,xr,xg⟩=⟨xc++[⟨0,Sq.numV xr 4 - 2147483648,⟨#[]⟩⟩],Sq.takeN xr 4,xg⟩):=by
     show _=_
     unfold Sq.cellStep
     rw[if_neg (by simpa using hk2)]
     rfl
    have hs1:=Nat.le_trans (Sq.jQaJ xr 4) hxs
    have hnb:=Sq.jQrX xr
    have i3:(ck==1)=false:=by simpa using hk2
    go_wp2_with fail
    refine(jQcr w0.heap.size xr 4 _ HRD.out (by omega) (by decide)).mono ?_
    rintro e w4 ⟨rfl,hr4,ho4⟩
    have ho:=HOWN.out.only HRD.out ho4
    have hb:=HB.out.trans (ho4.below.mono hz0)
    have hst:=HST.out
    rw[show Sq.numV xr ((4:Nat):Int)=Sq.numV xr 4 from rfl]
    rw[show Sq.takeN xr ((4:Nat):Int)=Sq.takeN xr 4 from rfl] at hr4
    clear HST HOWN HRD HB ho4
    generalize Sq.numV xr 4=nv at *
    generalize Sq.takeN xr 4=tr at *
    obtain⟨nb0,nb1⟩:=hnb
    have HST2:=hd hst
    have HR4:=hd hr4
    have HO4:=hd ho
    have HB4:=hd hb
    have hz4:=jQg hr4
    clear hst hr4 ho hb
    ·go_wp2_with fail
     refine(jQaC (nv - 2147483648) _).mono ?_
     rintro e w5 ⟨rfl,hb5⟩
     have hr6:=jQa1 (jQa1 HR4.out hb5) ((Below.refl w5.heap.size w5).alloc (Nat.le_refl _) (.cells #[.int .i64 0,.int .i64 (nv - 2147483648),.string ⟨#[]⟩] 208))
     have ho6:=(HO4.out.below2 hb5).below2 ((Below.refl w5.heap.size w5).alloc (Nat.le_refl _) (.cells #[.int .i64 0,.int .i64 (nv - 2147483648),.string ⟨#[]⟩] 208))
     have hz5:=hb5.size
     have HB6:=hd (HB4.out.trans ((hb5.mono (B':=w.heap.size) (by omega)).trans (Below.mono (B':=w.heap.size) ((Below.refl w5.heap.size w5).alloc (Nat.le_refl _) (.cells #[.int .i64 0,.int .i64 (nv - 2147483648),.string ⟨#[]⟩] 208)) (by omega))))
     have HR6:=hd hr6
     have HO6:=hd ho6
     clear hb5 hr6 ho6
     go_wp2_with (at_builtin;refine jQal rfl (.tmp 44) (.tmp 48) rfl w.heap.size _ xc rfl HO6.out ⟨0,(nv - 2147483648),⟨#[]⟩⟩ w5.heap.size 1 rfl (by simp[go_sem]) (by simp[go_sem]) (by simp[go_sem]) (by omega) (by simp;omega) ?_;intro v7 w7 hown7 hg7;have HO7:=hd hown7;have HB7:=hd (Tch.of_grown (pb:=w.heap.size) hg7 (fun k hk=>(World.ownsRow.lt HO6.out k hk).1) (by simp;omega));have HR7:=hd (HR6.out.grownV HO6.out hg7);clear hown7 hg7)
     go_roundw
     case rel =>
      exact⟨k+1,⟨xc++[⟨0,(nv - 2147483648),⟨#[]⟩⟩],tr,xg⟩,rfl,by go_num,by omega,by omega,by rw[List.length_append];show xc.length+1≤_;omega,hs1,HO7.out,HR7.out,HB6.out.trans HB7.out,by show _=_;rw[HQ.out,HST2.out]⟩
     case measure=>(simp[intOf];try omega)
  ·have hq:=HQ.out
   rw[List.drop_eq_nil_of_le (by omega)] at hq
   have hT:=HT.out
   rw[hq] at hT
   have i1:¬((k:Int) < (cols.length:Int)):=by omega
   clear HQ hq HT hb
   cases xg
   case false =>
    have HN:Hid (Sq.toCells cols key row=none):=hT
    clear hT
    go_wp2
    go_ret2
    exact⟨.slice none 0 0,by rw[HN.out];rfl,by rw[HN.out];exact World.ownsRow_nil _ _ _ _,HB.out⟩
   case true =>
    have hT2:Sq.toCells cols key row=if Sq.doneR xr then some xc else none:=hT
    have HT2:=hd hT2
    clear hT hT2
    go_wp2_with fail
    refine(jQn2 w0.heap.size xr _ HRD.out).mono ?_
    rintro e w4 ⟨rfl,hw4⟩
    rw[hw4]
    clear hw4 w4
    obtain⟨b1,hb1⟩:∃b,b=Sq.doneR xr:=⟨_,rfl⟩
    have ht2:=HT2.out
    rw[←hb1] at ht2 ⊢
    clear hb1 HT2
    cases b1
    case false =>
     have HN:Hid (Sq.toCells cols key row=none):=ht2
     clear ht2
     go_wp2
     go_ret2
     exact⟨.slice none 0 0,by rw[HN.out];rfl,by rw[HN.out];exact World.ownsRow_nil _ _ _ _,HB.out⟩
    case true =>
     have HN:Hid (Sq.toCells cols key row=some xc):=ht2
     clear ht2
     go_wp2
     go_ret2
     exact⟨_,by rw[HN.out];rfl,by rw[HN.out];exact HOWN.out,HB.out⟩
end
section
open Go.RowKit
theorem jQcs (t k:Int)(w:World)(ht0:0≤t)(ht1:t≤100000)(hk0:-100000000000≤k)(hk1:k≤100000000000) :
  Calls Tryz.prog 104 #[.int .i64 t,.int .i64 k] w fun e w'=>e=.returned (.int .i64 (Sq.placeOf t k))∧w'=w:=by
 have HE:Hid (Sq.placeOf t k=t * 4294967296+k+2147483648):=rfl
 go_enter Tryz.func104,Tryz.ntmps104
 go_wp2
 go_ret
 exact⟨by rw[HE.out];go_num,rfl⟩
theorem jQh0 (p:Int)(w:World)(hp:0≤p) :
  Calls Tryz.prog 105 #[.int .i64 p] w fun e w'=>e=.returned (.int .i64 (Sq.keyAt p))∧w'=w:=by
 have HE:Hid (Sq.keyAt p=HMod.hMod p 4294967296 - 2147483648):=rfl
 go_enter Tryz.func105,Tryz.ntmps105
 go_wp2
 go_ret
 exact⟨by rw[HE.out];go_num,rfl⟩
theorem Sq.jQkG (l:List Sq.Val)(k:Nat)(h:k < l.length)(b:ByteArray):Sq.ofVals b (l.drop k)=Sq.ofVals (b++Sq.ofVal l[k]) (l.drop (k+1)):=by
 unfold Sq.ofVals
 rw[List.drop_eq_getElem_cons h,List.foldl_cons]
theorem Sq.jQkH (l:List Sq.Col)(k:Nat)(h:k < l.length)(b:ByteArray):Sq.ofCols b (l.drop k)=Sq.ofCols (b++Sq.ofCol l[k]) (l.drop (k+1)):=by
 unfold Sq.ofCols
 rw[List.drop_eq_getElem_cons h,List.foldl_cons]
theorem jQlo (l:List Sq.Val)(lv:Value)(w:World)(h:w.ownsRow 0 208 3 lv l.length (l.flatMap Sq.Val.cells))(hl:l.length≤1000)(hs:∀v∈l,v.text.size≤1000∧-100000000000≤v.number∧v.number≤100000000000) :
  Calls Tryz.prog 127 #[lv] w fun e w'=>e=.returned (.string (Sq.ofCells l))∧Below w.heap.size w w':=by
 obtain⟨ao,acap,rfl⟩:=jQa h
 have H:=hd h
 have HS:=hd hs
 have HE:Hid (Sq.ofCells l=Sq.ofVals ⟨#[]⟩ (l.drop 1)):=rfl
 clear h hs
 go_enter Tryz.func127,Tryz.ntmps127
 go_wp2
 go_loopw [3,4] (fun bv i wr=>∃(k:Nat) (b:ByteArray),bv=.string b∧i=.int .i64 k∧k≤1001∧b.size≤2000 * k∧Below w.heap.size w wr∧Hid (Sq.ofCells l=Sq.ofVals b (l.drop k))) (fun _ i _=>1002 - (intOf i).toNat)
 case atStart=>exact⟨1,⟨#[]⟩,rfl,rfl,by decide,by decide,Below.refl _ _,HE⟩
 case round =>
  obtain⟨k,b,rfl,rfl,hk,hbs,hb,HQ⟩:=hrel
  have hzr:=hb.size
  have HB:=hd hb
  by_cases hkt:k < l.length
  ·obtain⟨g,cap',hv,hg,hce⟩:=sl_at (f:=Sq.Val.cells) (fun _=>rfl) (jQh H.out hb) k hkt
   simp only[Value.slice.injEq] at hv
   obtain⟨rfl,-,rfl⟩:=hv
   have c0:=hce 0 (.int .i64 l[k].kind) (by decide) rfl
   have c1:=hce 1 (.int .i64 l[k].number) (by decide) rfl
   have c2:=hce 2 (.string l[k].text) (by decide) rfl
   have hm:=HS.out l[k] (List.getElem_mem hkt)
   have hq:=HQ.out
   rw[Sq.jQkG l k hkt] at hq
   clear hce HQ hb
   generalize l[k]=x at *
   obtain⟨xk,xn,xt⟩:=x
   simp only[Nat.add_zero] at c0 c1 c2 hm
   obtain⟨hm0,hm1,hm2⟩:=hm
   have HQ:=hd hq
   have i1:(k:Int) < (l.length:Int):=by omega
   have i2:¬((l.length:Int)≤(k:Int)):=by omega
   have i0:¬((k:Int) < 0):=by omega
   clear hq
   by_cases hk2:xk=1
   ·subst hk2
    have hts:=Sq.jQcu xt
    have HST:Hid (Sq.ofVal ⟨1,xn,xt⟩=Sq.txt xt):=rfl
    have HTS:Hid ((Sq.txt xt).size≤1001):=by show _≤_;omega
    clear hts
    go_wp2_with fail
    refine(jQdt xt _ (by omega)).mono ?_
    rintro e w4 ⟨rfl,hb4⟩
    have hst:=HST.out
    have hts:=HTS.out
    clear HST HTS
    generalize Sq.txt xt=p at *
    have HST:=hd hst
    have HB4:=hd (HB.out.trans (hb4.mono hzr))
    have hap:(b++p).size=b.size+p.size:=ByteArray.size_append
    have HAP:Hid ((b++p).size≤2000 * (k+1)):=by show _≤_;omega
    clear hst hb4 hap
    go_wp2
    go_roundw
    case rel=>exact⟨k+1,b++p,rfl,by go_num,by omega,HAP.out,HB4.out,by show _=_;rw[HQ.out,HST.out]⟩
    case measure=>simp[intOf];omega
   ·have hts:=Sq.jQt (xn+2147483648) 4
    have i3:(xk==1)=false:=by simpa using hk2
    have HST:Hid (Sq.ofVal ⟨xk,xn,xt⟩=Sq.pnum (xn+2147483648) 4):=by show _=_;unfold Sq.ofVal;rw[if_neg (by simpa using hk2)]
    have HTS:Hid ((Sq.pnum (xn+2147483648) 4).size≤1001):=by show _≤_;omega
    clear hts
    go_wp2_with fail
    refine(jQ8 (xn+2147483648) 4 _ (by omega)).mono ?_
    rintro e w4 ⟨rfl,hb4⟩
    have hst:=HST.out
    have hts:=HTS.out
    clear HST HTS
    generalize Sq.pnum (xn+2147483648) 4=p at *
    have HST:=hd hst
    have HB4:=hd (HB.out.trans (hb4.mono hzr))
    have hap:(b++p).size=b.size+p.size:=ByteArray.size_append
    have HAP:Hid ((b++p).size≤2000 * (k+1)):=by show _≤_;omega
    clear hst hb4 hap
    go_wp2
    go_roundw
    case rel=>exact⟨k+1,b++p,rfl,by go_num,by omega,HAP.out,HB4.out,by show _=_;rw[HQ.out,HST.out]⟩
    case measure=>simp[intOf];omega
  ·have i1:¬((k:Int) < (l.length:Int)):=by omega
   have HN:Hid (Sq.ofCells l=b):=by show _=_;rw[HQ.out,List.drop_eq_nil_of_le (by omega)];rfl
   clear hb HQ
   go_wp2
   go_ret
   exact⟨by rw[HN.out];rfl,HB.out⟩
theorem jQln (name:ByteArray)(l:List Sq.Col)(lv:Value)(w:World)(h:ColsAt w lv l)(hl:l.length≤1000)(hnm:name.size≤1000)(hs:∀v∈l,v.name.size≤1000) :
  Calls Tryz.prog 126 #[.string name,lv] w fun e w'=>e=.returned (.string (Sq.ofTable name l))∧Below w.heap.size w w':=by
 obtain⟨ao,acap,rfl⟩:=jQa h.1
 have H:=hd h
 have HS:=hd hs
 have HE:Hid (Sq.ofTable name l=Sq.ofCols (Sq.txt name++Sq.pnum l.length 1) l):=rfl
 have ht1:=Sq.jQcu name
 have ht2:=Sq.jQt l.length 1
 have he:=HE.out
 have HT1:Hid ((Sq.txt name).size≤1001):=by show _≤_;omega
 have HT2:Hid ((Sq.pnum l.length 1).size≤1):=by show _≤_;omega
 clear h hs ht1 ht2 HE
 go_enter Tryz.func126,Tryz.ntmps126
 go_wp2_with fail
 refine(jQdt name _ (by omega)).mono ?_
 rintro e w1 ⟨rfl,hb1⟩
 have HB1:=hd hb1
 have hz1:=hb1.size
 clear hb1
 have ht1:=HT1.out
 clear HT1
 generalize Sq.txt name=tn at *
 go_wp2_with fail
 refine(jQ8 l.length 1 _ (by omega)).mono ?_
 rintro e w2 ⟨rfl,hb2⟩
 have HB2:=hd (HB1.out.trans (hb2.mono hz1))
 clear hb2 HB1
 have ht2:=HT2.out
 clear HT2
 generalize Sq.pnum (l.length:Int) 1=pn at *
 have HE:=hd he
 have hap:(tn++pn).size=tn.size+pn.size:=ByteArray.size_append
 have HAP:Hid ((tn++pn).size≤2000):=by show _≤_;omega
 clear he hap
 go_wp2
 go_loopw [5,6] (fun bv i wr=>∃(k:Nat) (b:ByteArray),bv=.string b∧i=.int .i64 k∧k≤l.length∧b.size≤2000 * (k+1)∧Below w.heap.size w wr∧Hid (Sq.ofTable name l=Sq.ofCols b (l.drop k))) (fun _ i _=>l.length - (intOf i).toNat)
 case atStart=>exact⟨0,tn++pn,rfl,rfl,Nat.zero_le _,HAP.out,HB2.out,HE⟩
 case round =>
  obtain⟨k,b,rfl,rfl,hk,hbs,hb,HQ⟩:=hrel
  clear HAP HB2 HE
  obtain⟨wo,rfl⟩:∃wo:World,wo=wr:=⟨_,rfl⟩
  have hzr:=hb.size
  have HB:=hd hb
  by_cases hkt:k < l.length
  ·obtain⟨g,cap',hv,hg,hce⟩:=sl_at (f:=Sq.Col.cells) (fun _=>rfl) (H.out.below hb).1 k hkt
   simp only[Value.slice.injEq] at hv
   obtain⟨rfl,-,rfl⟩:=hv
   have c0:=hce 0 (.string l[k].name) (by decide) rfl
   have c1:=hce 1 (.int .i64 l[k].kind) (by decide) rfl
   have hm:=HS.out l[k] (List.getElem_mem hkt)
   have hq:=HQ.out
   rw[Sq.jQkH l k hkt] at hq
   clear hce HQ hb
   generalize l[k]=x at *
   obtain⟨xn,xk⟩:=x
   simp only[Nat.add_zero] at c0 c1 hm
   have HQ:=hd hq
   have HST:Hid (Sq.ofCol ⟨xn,xk⟩=Sq.pnum xk 1++Sq.txt xn):=rfl
   have hts:=Sq.jQcu xn
   have hps:=Sq.jQt xk 1
   obtain⟨q1,hq1⟩:∃x,x=Sq.pnum xk 1:=⟨_,rfl⟩
   obtain⟨q2,hq2⟩:∃x,x=Sq.txt xn:=⟨_,rfl⟩
   have hst:=HST.out
   rw[←hq1,←hq2] at hst
   rw[←hq2] at hts
   rw[←hq1] at hps
   have hps':q1.size≤1:=by omega
   have hts':q2.size≤1001:=by omega
   have hap1:(q1++q2).size=q1.size+q2.size:=ByteArray.size_append
   have hap2:(b++(q1++q2)).size=b.size+(q1++q2).size:=ByteArray.size_append
   have HAP:Hid ((b++(q1++q2)).size≤2000 * (k+1+1)):=by show _≤_;omega
   have hap3:(q1++q2).size≤1002:=by omega
   have HST2:=hd hst
   have HQ1:=hd hq1
   have HQ2:=hd hq2
   have i1:(k:Int) < (l.length:Int):=by omega
   have i2:¬((l.length:Int)≤(k:Int)):=by omega
   have i0:¬((k:Int) < 0):=by omega
   clear hq HST hts hps hq1 hq2 hst hap1 hap2
   go_wp2
   go_region_with (first
    | (have hx:=HB5;clear hx;go_at_call 56;refine(jQ8 xk 1 _ (by omega)).mono ?_;rintro e w6 ⟨rfl,hb6⟩;rw[←HQ1.out];have HB6:=hd (HB5.out.trans (hb6.mono (by omega)));clear hb6)
    | (have hx:=HB5;clear hx;go_at_call 84;refine(jQdt xn _ (by omega)).mono ?_;rintro e w6 ⟨rfl,hb6⟩;rw[←HQ2.out];have HB6:=hd (HB5.out.trans (hb6.mono (by omega)));clear hb6)
    | (go_at_call 56;refine(jQ8 xk 1 _ (by omega)).mono ?_;rintro e w5 ⟨rfl,hb5⟩;rw[←HQ1.out];have hb5':Below wo.heap.size wo w5:=(Below.drew (Below.refl _ _)).trans hb5;have k0:=((bcell hb5').1 g (k * 2) hg).trans c0;have k1:=((bcell hb5').1 g (k * 2+1) hg).trans c1;have hz5:=hb5'.size;have HB5:=hd hb5';clear hb5 hb5')
    | (go_at_call 84;refine(jQdt xn _ (by omega)).mono ?_;rintro e w5 ⟨rfl,hb5⟩;rw[←HQ2.out];have hb5':Below wo.heap.size wo w5:=(Below.drew (Below.refl _ _)).trans hb5;have k0:=((bcell hb5').1 g (k * 2) hg).trans c0;have k1:=((bcell hb5').1 g (k * 2+1) hg).trans c1;have hz5:=hb5'.size;have HB5:=hd hb5';clear hb5 hb5'))
   all_goals(try go_wp2)
   all_goals
    go_roundw
    case rel=>exact⟨k+1,b++(q1++q2),rfl,by go_num,by omega,HAP.out,HB.out.trans (HB6.out.mono hzr),by show _=_;rw[HQ.out,HST2.out]⟩
    case measure=>simp[intOf];omega
  ·have i1:¬((k:Int) < (l.length:Int)):=by omega
   have HN:Hid (Sq.ofTable name l=b):=by show _=_;rw[HQ.out,List.drop_eq_nil_of_le (by omega)];rfl
   clear hb HQ
   go_wp2
   go_ret
   exact⟨by rw[HN.out];rfl,HB.out⟩
end
end Go.Proofs.YtahpihjialbanaaGreatDoor
