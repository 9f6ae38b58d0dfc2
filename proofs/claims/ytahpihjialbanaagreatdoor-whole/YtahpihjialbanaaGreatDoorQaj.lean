import Derived.Test.YtahpihjialbanaaGreatDoorQai
set_option linter.unusedVariables false
set_option linter.unusedSimpArgs false
set_option maxRecDepth 100000
set_option maxHeartbeats 2000000
namespace Go.Proofs.YtahpihjialbanaaGreatDoor
open Sq (headN Nd innerF leafF exch)
section
open Go.RowKit
variable {Z:Nat->Prop}
theorem jQjC {α:Type}(l:List α)(k:Nat)(h:k<l.length):l.take (k+1)=l.take k++[l[k]]:=List.take_succ_eq_append_getElem h
theorem Sq.jQgJ {α β:Type}(f:α->β)(l o:List α)(a m:Nat):(exch l a m o).map f=exch (l.map f) a m (o.map f):=by
 unfold exch;simp
theorem jQiT {α:Type}{l o:List α}{a m:Nat}{x:α}(h:x∈exch l a m o):x∈l\/x∈o:=by
 unfold exch at h;rcases List.mem_append.1 h with h | h
 ·rcases List.mem_append.1 h with h | h
  ·exact Or.inl (List.mem_of_mem_take h)
  ·exact Or.inr h
 ·exact Or.inl (List.mem_of_mem_drop h)
theorem jQeC {n:Nat}{w:World}{x:Nd n×Value×Value}(h:NodeAt Z w n x.1 x.2.1 x.2.2):∀u∈[x].flatMap (nodeCells n),u.oneCell'=true :=
 NodesAt.one (l:=[x]) fun y hy=>by rw[List.mem_singleton.1 hy];exact h
theorem jQa1 {P:Program}{w:World}{ops:Array Oper}{rest:List Oper}{o:Oper}{a:Act}{Q:Exit->Act->World->Prop}(hgd:o.guard=none)(s x:Operand)(t:TypeId)
  (ho:o.op=.call { callee:=.builtin .append,args:=#[s,x],argTypes:=#[t,t] })
  (base:Nat) (e:TypeId) (i:TypeInfo) (size:Nat) (ht:P.underlying t=some (.slice e)) (hi:P.info? e=some i)
  (v:Value) (n:Nat) (xs:List Value) (hs:a.eval s=v) (hown:w.ownsRow base e size v n xs) (so:Option Addr) (sc:Nat) (hx:a.eval x=.slice so 0 sc)
  (h:wpList P ops Q rest (a.put o.dst v) w):wpList P ops Q (o::rest) a w:=by
 refine wpList_plain hgd fun K hK=>?_
 have ha:(Builtin.append_ #[t,t] o.type #[v,.slice so 0 sc]).run P w=.ok v w:=by
  cases so with
  | none =>
   rcases hown.2 with⟨rfl,rfl⟩ | ⟨g,cap,cur,rfl,_,_,hnc,_⟩
   ·simp[Builtin.append_,run_underlying ht,sizeOf,typeInfo,hi,Builtin.lenOf,Builtin.firstCells]
   ·simp[Builtin.append_,run_underlying ht,sizeOf,typeInfo,hi,Builtin.lenOf,Builtin.firstCells,hnc,storeCells]
  | some ad =>
   rcases hown.2 with⟨rfl,rfl⟩ | ⟨g,cap,cur,rfl,_,_,hnc,_⟩
   ·simp[Builtin.append_,run_underlying ht,sizeOf,typeInfo,hi,Builtin.lenOf,Builtin.firstCells,loadCells,loadCellsFrom,Result.andThen]
   ·simp[Builtin.append_,run_underlying ht,sizeOf,typeInfo,hi,Builtin.lenOf,Builtin.firstCells,hnc,storeCells,loadCells,loadCellsFrom,Result.andThen]
 unfold Oper.wp;simp[execOp,ho,resolve,invoke,builtin,hs,hx,ha,Result.andThen];exact hK _ _ h
theorem jQh5 (n:Nat)(l o:List (Nd n×Value×Value))(cv ov:Value)(a m:Nat)(w:World)(h:NodesAt Z 0 w cv n l)(ho:NodesAt Z 0 w ov n o)(h0:0<o.length)(hl:l.length<=1000)(hol:o.length<=1000)(ha:a<=1000)(hm:m<=1000) :
  Calls Tryz.prog 210 #[cv,.int .i64 a,.int .i64 m,ov] w fun r w'=>∃v',r=.returned v'/\NodesAt Z w.heap.size w' v' n (exch l a m o)/\Below w.heap.size w w':=by
 obtain⟨ao,acap,rfl⟩:=jQa h.own;obtain⟨bo,bcap,rfl⟩:=jQa ho.own;have hf:=NodesAt.one ho.each;have hy:=hd hf;have H:=hd h;have HO:=hd ho;clear h ho hf;go_enter Tryz.func210,Tryz.ntmps210;go_wp2
 go_loopw [9,10] (fun v i wr=>∃k:Nat,k<=l.length/\k<=a/\i=.int .i64 k/\wr.ownsRow w.heap.size 60 7 v (l.take k).length ((l.take k).flatMap (nodeCells n))/\Below w.heap.size w wr) (fun _ i _=>l.length-(intOf i).toNat)
 case atStart=>exact⟨0,zR,zR,rfl,World.ownsRow_nil _ _ _ _,bR⟩
 case round =>
  obtain⟨k,hk,hka,rfl,hac,hb⟩:=hrel;obtain⟨wo,rfl⟩:∃wo:World,wo=wr:=⟨_,rfl⟩;have hK:=hb.size;have HB:=hd hb;have hI:=hd (fun h=>jQjC l k h);have hL:(l.take k).length<=1000:=Nat.le_trans (List.length_take_le _ _) (by omega);obtain⟨acc,hacc⟩:∃x,x=l.take k:=⟨_,rfl⟩;have he:Hid (∀h:k<l.length,l.take (k+1)=acc++[l[k]]):=by rw[hacc];exact hI
  rw[<-hacc] at hac hL;obtain⟨xo,xcap,rfl⟩:=jQa hac;have hH:=hd hac;have hr:=hd hacc;clear hb hac hacc hI
  by_cases hlt:k<l.length/\k<a
  ·obtain⟨hlt,hlta⟩:=hlt;obtain⟨g,cap',ea,el,ec,ca,cl,cc,hv,hg,⟨d0,d1,d2,d3,d4,dsl,dnu⟩,d5,d6⟩:=(H.o.below HB.o).at k hlt;simp only[Value.slice.injEq] at hv;obtain⟨rfl,-,rfl⟩:=hv;have hE:=he.o hlt;obtain⟨x,hx⟩:∃x,x=l[k]:=⟨_,rfl⟩;rw[<-hx] at hE d0 d3 d4 dsl dnu d5 d6;obtain⟨t,evx,cvx⟩:=x;simp only[Prod.mk.injEq] at d5;obtain⟨rfl,rfl⟩:=d5;have hw:=hd hE;have i2:decide ((k:Int)<(l.length:Int))=true:=by simpa using hlt
   have i3:decide ((k:Int)<(a:Int))=true:=by simpa using hlta
   have i4:¬((l.length:Int)<=(k:Int)):=by omega
   have HN:=hd d6;have hD:=hd (jQh hH.o ((bR).alloc (nR) (.cells (nodeCells n (t,.slice ea el ec,.slice ca cl cc)).toArray 60)));have hB:=hd (jQaA wo 60 (nodeCells n (t,.slice ea el ec,.slice ca cl cc)).toArray (([(t,Value.slice ea el ec,Value.slice ca cl cc)]:List (Nd n×Value×Value)).flatMap (nodeCells n)) 1 7 rfl rfl);clear hE hx d6 he;go_wp2_with (at_builtin;refine jQV rfl (.tmp 23) (.tmp 28) rfl w.heap.size _ n acc rfl hD.o [(t,Value.slice ea el ec,Value.slice ca cl cc)] _ rfl hB.o (jQeC HN.o) (Nat.zero_lt_succ _) (by show acc.length+1<=1000000;omega) (by first | (rw[jQr];omega) | omega | (simp;done)) ?_;intro v3 w3 hown3 hb3;have hp:=hd hown3;have hA:=hd hb3;clear hown3 hb3);go_roundw
   case rel=>exact⟨k+1,by omega,by omega,by go_num,by rw[hw.o];exact hp.o,HB.o.trans ((Below.mono (B':=w.heap.size) ((bR).alloc (nR) _) hK).trans hA.o)⟩
   case measure=>simp[intOf];omega
  ·have HT:Hid (acc=l.take a):=by
    show _=_;rw[hr.o];rcases Nat.lt_or_ge k l.length with h | h
    ·rw[show k=a by omega]
    ·rw[List.take_of_length_le h,List.take_of_length_le (by omega)]
   have hN:=hd (Reads.of_own (jQh HO.o.own HB.o))
   have hs:(decide ((k:Int)<(l.length:Int))&&decide ((k:Int)<(a:Int)))=false:=by
    rcases Nat.lt_or_ge k l.length with h | h
    ·have:¬((k:Int)<(a:Int)):=by omega
     simp[this]
    ·have:¬((k:Int)<(l.length:Int)):=by omega
     simp[this]
   clear he;rcases Nat.lt_or_ge k l.length with hkl | hkl
   all_goals
    first
     | (have i2:decide ((k:Int)<(l.length:Int))=true:=(by simpa using hkl);have i3:decide ((k:Int)<(a:Int))=false:=(by simp;omega))
     | (have i2:decide ((k:Int)<(l.length:Int))=false:=(by simp;omega))
    clear hs;go_wp2_with (at_builtin;refine jQV rfl (.tmp 30) (.tmp 31) rfl w.heap.size _ n acc rfl hH.o o _ rfl hN.o hy.o h0 (by omega) (by omega) ?_;intro v3 w3 hown3 hb3;have hp:=hd hown3;have hA:=hd hb3;clear hown3 hb3);have hG:Hid (exch l a m o=(acc++o)++l.drop (a+m)):=by show _=_;unfold exch;rw[HT.o]
    have hi:(acc++o).length<=2000:=by rw[List.length_append];omega
    have hF:Hid (Below w.heap.size w w3):=HB.o.trans hA.o;obtain⟨ac0,hac0⟩:∃x,x=acc++o:=⟨_,rfl⟩;have hu:=hp.o;have hc:=hG.o;rw[<-hac0] at hu hc hi;have hO:=hd hu;have hz:=hd hc;clear hu hc hG hp hac0
    go_loopw [9,11] (fun v i wr=>∃j:Nat,∃ac:List (Nd n×Value×Value),j<=3000/\i=.int .i64 j/\wr.ownsRow w.heap.size 60 7 v ac.length (ac.flatMap (nodeCells n))/\ac.length<=2000+j/\Hid (exch l a m o=ac++l.drop j)/\Below w.heap.size w wr) (fun _ i _=>l.length-(intOf i).toNat)
    case atStart=>exact⟨a+m,ac0,by omega,by go_num,hO.o,by omega,hz,hF.o⟩
    case round =>
     obtain⟨j,ac,hj,rfl,hac,hacl,hc,hb4⟩:=hrel;obtain⟨yo,ycap,rfl⟩:=jQa hac;have hq:=hb4.size;have hh:=hd hb4;have hn:=hd hac;clear hb4 hac
     by_cases hjt:j<l.length
     ·obtain⟨g,cap',ea,el,ec,ca,cl,cc,hv,hg,⟨d0,d1,d2,d3,d4,dsl,dnu⟩,d5,d6⟩:=(H.o.below hh.o).at j hjt;simp only[Value.slice.injEq] at hv;obtain⟨rfl,-,rfl⟩:=hv;have ht:=List.drop_eq_getElem_cons hjt;obtain⟨x,hx⟩:∃x,x=l[j]:=⟨_,rfl⟩;rw[<-hx] at ht d0 d3 d4 dsl dnu d5 d6;obtain⟨t,evx,cvx⟩:=x;simp only[Prod.mk.injEq] at d5;obtain⟨rfl,rfl⟩:=d5;have hC:Hid (exch l a m o=(ac++[(t,Value.slice ea el ec,Value.slice ca cl cc)])++l.drop (j+1)):=by show _=_;rw[hc.o,ht,List.append_assoc];rfl
      have i4:¬((l.length:Int)<=(j:Int)):=by omega
      have HN:=hd d6;have hD:=hd (jQh hn.o ((bR).alloc (nR) (.cells (nodeCells n (t,.slice ea el ec,.slice ca cl cc)).toArray 60)));have hB:=hd (jQaA wr 60 (nodeCells n (t,.slice ea el ec,.slice ca cl cc)).toArray (([(t,Value.slice ea el ec,Value.slice ca cl cc)]:List (Nd n×Value×Value)).flatMap (nodeCells n)) 1 7 rfl rfl);clear ht hx d6 hc;go_wp2_with (at_builtin;refine jQV rfl (.tmp 42) (.tmp 47) rfl w.heap.size _ n ac rfl hD.o [(t,Value.slice ea el ec,Value.slice ca cl cc)] _ rfl hB.o (jQeC HN.o) (Nat.zero_lt_succ _) (by show ac.length+1<=1000000;omega) (by first | (rw[jQr];omega) | omega | (simp;done)) ?_;intro v5 w5 hown5 hb5;have hJ:=hd hown5;have hM:=hd hb5;clear hown5 hb5);go_roundw
      case rel=>exact⟨j+1,ac++[(t,Value.slice ea el ec,Value.slice ca cl cc)],by omega,by go_num,hJ.o,by rw[List.length_append];show ac.length+1<=_;omega,hC,hh.o.trans ((Below.mono (B':=w.heap.size) ((bR).alloc (nR) _) hq).trans hM.o)⟩
      case measure=>simp[intOf];omega
     ·have HE:Hid (exch l a m o=ac):=by show _=_;rw[hc.o,List.drop_eq_nil_of_le (by omega)];simp
      clear hc;go_wp2;go_ret;refine⟨_,rfl,⟨by rw[HE.o];exact hn.o,fun x hx=>?_⟩,hh.o⟩;rcases jQiT hx with h | h
      ·exact(H.o.each x h).below hh.o
      ·exact(HO.o.each x h).below hh.o
theorem jQgI (n:Nat)(l:List (Nd n×Value×Value))(cv:Value)(bo:Option Addr)(bcap:Nat)(a m:Nat)(w:World)(h:NodesAt Z 0 w cv n l)(hl:l.length<=1000)(ha:a<=1000)(hm:m<=1000) :
  Calls Tryz.prog 210 #[cv,.int .i64 a,.int .i64 m,.slice bo 0 bcap] w fun r w'=>∃v',r=.returned v'/\NodesAt Z w.heap.size w' v' n (exch l a m [])/\Below w.heap.size w w':=by
 obtain⟨ao,acap,rfl⟩:=jQa h.own;obtain⟨i0,hi,hz0,hz1,hz2⟩:=info_parts Tryz.infoNode;have H:=hd h;clear h;go_enter Tryz.func210,Tryz.ntmps210;go_wp2
 go_loopw [9,10] (fun v i wr=>∃k:Nat,k<=l.length/\k<=a/\i=.int .i64 k/\wr.ownsRow w.heap.size 60 7 v (l.take k).length ((l.take k).flatMap (nodeCells n))/\Below w.heap.size w wr) (fun _ i _=>l.length-(intOf i).toNat)
 case atStart=>exact⟨0,zR,zR,rfl,World.ownsRow_nil _ _ _ _,bR⟩
 case round =>
  obtain⟨k,hk,hka,rfl,hac,hb⟩:=hrel;obtain⟨wo,rfl⟩:∃wo:World,wo=wr:=⟨_,rfl⟩;have hE:=hb.size;have HB:=hd hb;have hA:=hd (fun h=>jQjC l k h);have hG:(l.take k).length<=1000:=Nat.le_trans (List.length_take_le _ _) (by omega);obtain⟨acc,hacc⟩:∃x,x=l.take k:=⟨_,rfl⟩;have hc:Hid (∀h:k<l.length,l.take (k+1)=acc++[l[k]]):=by rw[hacc];exact hA
  rw[<-hacc] at hac hG;obtain⟨xo,xcap,rfl⟩:=jQa hac;have hn:=hd hac;have ho:=hd hacc;clear hb hac hacc hA
  by_cases hlt:k<l.length/\k<a
  ·obtain⟨hlt,hlta⟩:=hlt;obtain⟨g,cap',ea,el,ec,ca,cl,cc,hv,hg,⟨d0,d1,d2,d3,d4,dsl,dnu⟩,d5,d6⟩:=(H.o.below HB.o).at k hlt;simp only[Value.slice.injEq] at hv;obtain⟨rfl,-,rfl⟩:=hv;have hy:=hc.o hlt;obtain⟨x,hx⟩:∃x,x=l[k]:=⟨_,rfl⟩;rw[<-hx] at hy d0 d3 d4 dsl dnu d5 d6;obtain⟨t,evx,cvx⟩:=x;simp only[Prod.mk.injEq] at d5;obtain⟨rfl,rfl⟩:=d5;have hr:=hd hy;have i2:decide ((k:Int)<(l.length:Int))=true:=by simpa using hlt
   have i3:decide ((k:Int)<(a:Int))=true:=by simpa using hlta
   have i4:¬((l.length:Int)<=(k:Int)):=by omega
   have HN:=hd d6;have hw:=hd (jQh hn.o ((bR).alloc (nR) (.cells (nodeCells n (t,.slice ea el ec,.slice ca cl cc)).toArray 60)));have ht:=hd (jQaA wo 60 (nodeCells n (t,.slice ea el ec,.slice ca cl cc)).toArray (([(t,Value.slice ea el ec,Value.slice ca cl cc)]:List (Nd n×Value×Value)).flatMap (nodeCells n)) 1 7 rfl rfl);clear hy hx d6 hc;go_wp2_with (at_builtin;refine jQV rfl (.tmp 23) (.tmp 28) rfl w.heap.size _ n acc rfl hw.o [(t,Value.slice ea el ec,Value.slice ca cl cc)] _ rfl ht.o (jQeC HN.o) (Nat.zero_lt_succ _) (by show acc.length+1<=1000000;omega) (by first | (rw[jQr];omega) | omega | (simp;done)) ?_;intro v3 w3 hown3 hb3;have hD:=hd hown3;have hF:=hd hb3;clear hown3 hb3);go_roundw
   case rel=>exact⟨k+1,by omega,by omega,by go_num,by rw[hr.o];exact hD.o,HB.o.trans ((Below.mono (B':=w.heap.size) ((bR).alloc (nR) _) hE).trans hF.o)⟩
   case measure=>simp[intOf];omega
  ·have HT:Hid (acc=l.take a):=by
    show _=_;rw[ho.o];rcases Nat.lt_or_ge k l.length with h | h
    ·rw[show k=a by omega]
    ·rw[List.take_of_length_le h,List.take_of_length_le (by omega)]
   have hp:(decide ((k:Int)<(l.length:Int))&&decide ((k:Int)<(a:Int)))=false:=by
    rcases Nat.lt_or_ge k l.length with h | h
    ·have:¬((k:Int)<(a:Int)):=by omega
     simp[this]
    ·have:¬((k:Int)<(l.length:Int)):=by omega
     simp[this]
   clear hc;rcases Nat.lt_or_ge k l.length with hkl | hkl
   all_goals
    first
     | (have i2:decide ((k:Int)<(l.length:Int))=true:=(by simpa using hkl);have i3:decide ((k:Int)<(a:Int))=false:=(by simp;omega))
     | (have i2:decide ((k:Int)<(l.length:Int))=false:=(by simp;omega))
    clear hp;go_wp2_with (at_builtin;refine jQa1 rfl (.tmp 30) (.tmp 31) 58 rfl w.heap.size 60 i0 7 Tryz.underlying58 hi _ acc.length _ rfl hn.o bo bcap rfl ?_);have hs:Hid (exch l a m []=acc++l.drop (a+m)):=by show _=_;unfold exch;rw[HT.o,List.append_nil]
    have hz:Hid (Below w.heap.size w wo):=HB;have hI:=hn;have hB:acc.length<=2000:=by omega
    go_loopw [9,11] (fun v i wr=>∃j:Nat,∃ac:List (Nd n×Value×Value),j<=3000/\i=.int .i64 j/\wr.ownsRow w.heap.size 60 7 v ac.length (ac.flatMap (nodeCells n))/\ac.length<=2000+j/\Hid (exch l a m []=ac++l.drop j)/\Below w.heap.size w wr) (fun _ i _=>l.length-(intOf i).toNat)
    case atStart=>exact⟨a+m,acc,by omega,by go_num,hI.o,by omega,hs,hz.o⟩
    case round =>
     obtain⟨j,ac,hj,rfl,hac,hacl,hex,hb4⟩:=hrel;obtain⟨yo,ycap,rfl⟩:=jQa hac;have hh:=hb4.size;have hf:=hd hb4;have he:=hd hac;clear hb4 hac
     by_cases hjt:j<l.length
     ·obtain⟨g,cap',ea,el,ec,ca,cl,cc,hv,hg,⟨d0,d1,d2,d3,d4,dsl,dnu⟩,d5,d6⟩:=(H.o.below hf.o).at j hjt;simp only[Value.slice.injEq] at hv;obtain⟨rfl,-,rfl⟩:=hv;have hq:=List.drop_eq_getElem_cons hjt;obtain⟨x,hx⟩:∃x,x=l[j]:=⟨_,rfl⟩;rw[<-hx] at hq d0 d3 d4 dsl dnu d5 d6;obtain⟨t,evx,cvx⟩:=x;simp only[Prod.mk.injEq] at d5;obtain⟨rfl,rfl⟩:=d5;have hu:Hid (exch l a m []=(ac++[(t,Value.slice ea el ec,Value.slice ca cl cc)])++l.drop (j+1)):=by show _=_;rw[hex.o,hq,List.append_assoc];rfl
      have i4:¬((l.length:Int)<=(j:Int)):=by omega
      have HN:=hd d6;have hw:=hd (jQh he.o ((bR).alloc (nR) (.cells (nodeCells n (t,.slice ea el ec,.slice ca cl cc)).toArray 60)));have ht:=hd (jQaA wr 60 (nodeCells n (t,.slice ea el ec,.slice ca cl cc)).toArray (([(t,Value.slice ea el ec,Value.slice ca cl cc)]:List (Nd n×Value×Value)).flatMap (nodeCells n)) 1 7 rfl rfl);clear hq hx d6 hex;go_wp2_with (at_builtin;refine jQV rfl (.tmp 42) (.tmp 47) rfl w.heap.size _ n ac rfl hw.o [(t,Value.slice ea el ec,Value.slice ca cl cc)] _ rfl ht.o (jQeC HN.o) (Nat.zero_lt_succ _) (by show ac.length+1<=1000000;omega) (by first | (rw[jQr];omega) | omega | (simp;done)) ?_;intro v5 w5 hown5 hb5;have hC:=hd hown5;have hH:=hd hb5;clear hown5 hb5);go_roundw
      case rel=>exact⟨j+1,ac++[(t,Value.slice ea el ec,Value.slice ca cl cc)],by omega,by go_num,hC.o,by rw[List.length_append];show ac.length+1<=_;omega,hu,hf.o.trans ((Below.mono (B':=w.heap.size) ((bR).alloc (nR) _) hh).trans hH.o)⟩
      case measure=>simp[intOf];omega
     ·have HE:Hid (exch l a m []=ac):=by show _=_;rw[hex.o,List.drop_eq_nil_of_le (by omega)];simp
      clear hex;go_wp2;go_ret;refine⟨_,rfl,⟨by rw[HE.o];exact he.o,fun x hx=>?_⟩,hf.o⟩;rcases jQiT hx with h | h
      ·exact(H.o.each x h).below hf.o
      ·cases h
theorem jQav (n:Nat)(l o:List (Nd n×Value×Value))(cv ov:Value)(a m:Nat)(w:World)(h:NodesAt Z 0 w cv n l)(ho:NodesAt Z 0 w ov n o)(hl:l.length<=1000)(hol:o.length<=1000)(ha:a<=1000)(hm:m<=1000) :
  Calls Tryz.prog 210 #[cv,.int .i64 a,.int .i64 m,ov] w fun r w'=>∃v',r=.returned v'/\NodesAt Z w.heap.size w' v' n (exch l a m o)/\Below w.heap.size w w':=by
 rcases Nat.eq_zero_or_pos o.length with h0 | h0
 ·have hb:o=[]:=by simpa using h0
  subst hb;obtain⟨bo,bcap,rfl⟩:=jQa ho.own;exact jQgI n l cv bo bcap a m w h hl ha hm
 ·exact jQh5 n l o cv ov a m w h ho h0 hl hol ha hm
end
section
open Go.RowKit
variable {Z:Nat->Prop}
theorem jQes (w:World)(e:TypeId)(cs:Array Value)(l:List Value)(n size B:Nat)(hl:cs.toList=l)(h:l.length=n*size)(hn:n<=1000)(hB:B<=w.heap.size):(w.alloc (.cells cs e)).ownsRow B e size (.slice (some ⟨w.heap.size,0,none⟩) n n) n l:=by
 subst hl;refine⟨h,Or.inr ⟨w.heap.size,n,cs,rfl,hB,jQi w _,nR,by unfold maxLen;omega,by simpa using h,?_⟩⟩;exact List.take_of_length_le (by rw[h];exact nR)
def part {α:Type}(off:Nat)(l:List α):List α:=if off=0 then l.take 3 else l.drop 3
theorem Reads.part {α:Type}{f:α->List Value}{size:Nat}(hs:0<size)(hf:∀x,(f x).length=size){w:World}{g cap:Nat}{l:List α}(h:Reads w (.slice (some ⟨g,0,none⟩) l.length cap) l.length size (l.flatMap f))(h3:3<=l.length)(off len c:Nat)(hp:(off=0/\len=3)\/(off=3*size/\len=l.length-3)) :
  Reads w (.slice (some ⟨g,off,none⟩) len c) (part off l).length size ((part off l).flatMap f)/\(part off l).length=len:=by
 have hb:∀m:List α,(m.flatMap f).length=m.length*size:=by
  intro m
  induction m with
  | nil=>simp
  | cons x r ih=>rw[List.flatMap_cons,List.length_append,ih,hf,List.length_cons,Nat.succ_mul];omega
 rcases h.2 with⟨h1,_⟩ | ⟨g',off',cap',hv,hg,hc⟩
 ·simp at h1
 simp only[Value.slice.injEq,Option.some.injEq,Addr.mk.injEq] at hv;obtain⟨⟨rfl,rfl,-⟩,-,rfl⟩:=hv;have ha:l.flatMap f=(l.take 3).flatMap f++(l.drop 3).flatMap f:=by rw[<-List.flatMap_append,List.take_append_drop]
 have ht:(l.take 3).length=3:=by simp;omega
 rcases hp with⟨rfl,rfl⟩ | ⟨rfl,rfl⟩
 ·have e:Go.Proofs.YtahpihjialbanaaGreatDoor.part 0 l=l.take 3:=rfl;rw[e];refine⟨⟨hb _,Or.inr ⟨g,0,c,by rw[ht],hg,fun j u hj=>?_⟩⟩,ht⟩;refine hc j u ?_;rw[ha,List.getElem?_append_left (by rcases Nat.lt_or_ge j ((l.take 3).flatMap f).length with h | h;exact h;rw[List.getElem?_eq_none h] at hj;cases hj)];exact hj
 ·have e:Go.Proofs.YtahpihjialbanaaGreatDoor.part (3*size) l=l.drop 3:=by unfold Go.Proofs.YtahpihjialbanaaGreatDoor.part;rw[if_neg (by omega)]
  rw[e];refine⟨⟨hb _,Or.inr ⟨g,3*size,c,by simp,hg,fun j u hj=>?_⟩⟩,by simp⟩
  have h5:=hc (3*size+j) u (by
   rw[ha,List.getElem?_append_right (by rw[hb,ht];omega),hb,ht,Nat.add_sub_cancel_left];exact hj)
  rwa [Nat.zero_add] at h5
theorem jQpX {w:World}{B:Nat}{e:TypeId}{size:Nat}{ao:Option Addr}{n cap:Nat}{cs:List Value}(h:w.ownsRow B e size (.slice ao n cap) n cs)(hn:0<n):∃g,ao=some ⟨g,0,none⟩/\g<w.heap.size/\n<=cap:=by
 rcases h.2 with⟨h1,h2⟩ | ⟨g',cap',cur,hv,hbg,hh,hn',hm,hc,ht⟩
 ·omega
 ·simp only[Value.slice.injEq] at hv;obtain⟨rfl,-,rfl⟩:=hv;exact⟨g',rfl,jQf hh,hn'⟩
theorem jQj7 (es:List Sq.Ent)(g cap:Nat)(off len c:Nat)(w:World)(h:Reads w (.slice (some ⟨g,0,none⟩) es.length cap) es.length 2 (es.flatMap entCells))(h3:3<=es.length)(hl:es.length<=1000)(hp:(off=0/\len=3)\/(off=6/\len=es.length-3)) :
  Calls Tryz.prog 132 #[.slice (some ⟨g,off,none⟩) len c] w fun e w'=>∃ev,e=.returned (.agg (headCells (leafF (α:=Empty) (part off es)).hd ev (.slice none 0 0)).toArray)/\EntsAt w.heap.size w' ev (part off es)/\Below w.heap.size w w':=by
 obtain⟨hr,_⟩:=Reads.part (f:=entCells) (by decide) (fun _=>rfl) h h3 off len c hp
 exact jQg5 _ _ w hr (by
  have:(part off es).length<=es.length:=by unfold part;split<;>simp<;>omega
  omega)
theorem jQeG (es:List Sq.Ent)(v:Value)(w:World)(h:EntsAt 0 w v es)(hl:es.length<=1000) :
  Calls Tryz.prog 207 #[v] w fun r w'=>∃v' l,r=.returned v'/\l.map Prod.fst=Sq.leavesF es/\NodesAt Z w.heap.size w' v' 0 l/\Below w.heap.size w w':=by
 obtain⟨ao,acap,rfl⟩:=jQa h
 by_cases h4:es.length<=4
 ·have HE:Hid (Sq.leavesF (α:=Empty) es=[leafF es]):=by show _=_;unfold Sq.leavesF Sq.halve;rw[if_pos h4];rfl
  have H:=hd (Reads.of_own h);clear h;go_enter Tryz.func207,Tryz.ntmps207;go_wp2_with fail;refine(jQg5 es _ _ H.o hl).mono ?_;rintro e w1 ⟨ev,rfl,he,hb⟩;obtain⟨xo,xc,rfl⟩:=jQa he;have hn:=hd he;have HB:=hd hb;have hz:=hb.size;clear he hb;rw[jQc];go_wp2;go_ret;refine⟨_,[(leafF es,.slice xo es.length xc,.slice none 0 0)],rfl,by rw[HE.o];rfl,⟨jQes w1 60 _ _ 1 7 w.heap.size rfl rfl (by decide) hz,fun x hx=>?_⟩,HB.o.alloc hz _⟩;rw[List.mem_singleton.1 hx];exact⟨jQj (jQh hn.o ((bR).alloc (nR) _)) (zR),rfl⟩
 ·have HE:Hid (Sq.leavesF (α:=Empty) es=[leafF (part 0 es),leafF (part 6 es)]):=by show _=_;unfold Sq.leavesF Sq.halve;rw[if_neg h4];rfl
  obtain⟨g,hao,hg,hcap⟩:=jQpX h (by omega);subst hao;have hm:∀w',Below w.heap.size w w'->Reads w' (.slice (some ⟨g,0,none⟩) es.length acap) es.length 2 (es.flatMap entCells):=fun w' hb=>(Reads.of_own h).below hb
  have hi:=hd hm;have i1:¬((es.length:Int)<=4):=by omega
  have i2:¬((es.length:Int)<3):=by omega
  clear h hm;go_enter Tryz.func207,Tryz.ntmps207;go_wp2
  go_region_with (go_at_call 132;(first | (have hx:=hf;clear hx;refine(jQj7 es g acap _ _ _ _ (hi.o _ ((Below.drew (bR)).trans (hf.o.mono (by simp)))) (by omega) hl (by first | exact Or.inl ⟨rfl,rfl⟩ | exact Or.inr ⟨rfl,rfl⟩)).mono ?_;rintro e w2 ⟨ev2,rfl,he2,hb2⟩;obtain⟨yo,yc,rfl⟩:=jQa he2;have hc:=hd he2;have hk:=hd hb2;have hp:=hb2.size;clear he2 hb2;rw[jQc]) | (refine(jQj7 es g acap _ _ _ _ (hi.o _ (Below.drew (bR))) (by omega) hl (by first | exact Or.inl ⟨rfl,rfl⟩ | exact Or.inr ⟨rfl,rfl⟩)).mono ?_;rintro e w1 ⟨ev1,rfl,he1,hb1⟩;obtain⟨xo,xc,rfl⟩:=jQa he1;have ha:=hd he1;have hf:=hd hb1;have ho:=hb1.size;clear he1 hb1;rw[jQc])))
  go_wp2;go_ret;have hh:Below w.heap.size w w2:=(Below.drew (bR)).trans ((hf.o.trans (hk.o.mono ho)).mono (by simp));have hj:w.heap.size<=w2.heap.size:=hh.size;refine⟨_,[(leafF (part 0 es),.slice xo (part 0 es).length xc,.slice none 0 0),(leafF (part 6 es),.slice yo (part 6 es).length yc,.slice none 0 0)],rfl,by rw[HE.o];rfl,⟨jQes w2 60 _ _ 2 7 w.heap.size rfl rfl (by decide) hj,fun x hx=>?_⟩,hh.alloc hj _⟩;simp only[List.mem_cons,List.not_mem_nil,or_false] at hx;rcases hx with rfl | rfl
  ·exact⟨jQj (jQh (jQh ha.o hk.o) ((bR).alloc (nR) _)) (zR),rfl⟩
  ·exact⟨jQj (jQh hc.o ((bR).alloc (nR) _)) (zR),rfl⟩
theorem jQmN {α:Type}{off:Nat}{l:List α}{x:α}(h:x∈part off l):x∈l:=by
 unfold part at h
 split at h
 ·exact List.mem_of_mem_take h
 ·exact List.mem_of_mem_drop h
theorem jQmO {α β:Type}(f:α->β)(off:Nat)(l:List α):(part off l).map f=part off (l.map f):=by
 unfold part;split<;>simp
theorem jQhZ (n:Nat)(l:List (Nd n×Value×Value))(g cap:Nat)(off len c:Nat)(w:World)(h:NodesRd Z w (.slice (some ⟨g,0,none⟩) l.length cap) n l)(h3:3<=l.length)(hl:l.length<=1000)(hr:smallRows n l)(hp:(off=0/\len=3)\/(off=21/\len=l.length-3)) :
  Calls Tryz.prog 133 #[.slice (some ⟨g,off,none⟩) len c] w fun e w'=>∃cv,e=.returned (.agg (headCells (innerF (headN n) ((part off l).map Prod.fst)).hd (.slice none 0 0) cv).toArray)/\NodesAt Z w.heap.size w' cv n (part off l)/\Below w.heap.size w w':=by
 obtain⟨hrd,_⟩:=Reads.part (f:=nodeCells n) (by decide) (fun _=>rfl) h.rd h3 off len c hp
 exact jQca n _ _ w ⟨hrd,fun x hx=>h.each x (jQmN hx)⟩ (by
  have:(part off l).length<=l.length:=by unfold part;split<;>simp<;>omega
  omega) (fun x hx=>hr x (jQmN hx))
theorem jQhY (n:Nat)(l:List (Nd n×Value×Value))(v:Value)(w:World)(h:NodesAt Z 0 w v n l)(hl:l.length<=1000)(hr:smallRows n l)(hZ:∀g,w.heap.size<=g->¬Z g) :
  Calls Tryz.prog 209 #[v] w fun r w'=>∃v' k,r=.returned v'/\k.map Prod.fst=Sq.innersF (headN n) (l.map Prod.fst)/\NodesAt Z w.heap.size w' v' (n+1) k/\Below w.heap.size w w':=by
 obtain⟨ao,acap,rfl⟩:=jQa h.own
 by_cases h4:l.length<=4
 ·have HE:Hid (Sq.innersF (headN n) (l.map Prod.fst)=[innerF (headN n) (l.map Prod.fst)]):=by show _=_;unfold Sq.innersF Sq.halve;rw[if_pos (by simpa using h4)];rfl
  have H:=hd h.rd;clear h;go_enter Tryz.func209,Tryz.ntmps209;go_wp2_with fail;refine(jQca n l _ _ H.o hl hr).mono ?_;rintro e w1 ⟨ev,rfl,he,hb⟩;obtain⟨xo,xc,rfl⟩:=jQa he.own;have hm:=hd he;have HB:=hd hb;have hz:=hb.size;clear he hb;rw[jQc];go_wp2;go_ret;refine⟨_,[(innerF (headN n) (l.map Prod.fst),.slice none 0 0,.slice xo l.length xc)],rfl,by rw[HE.o];rfl,⟨jQes w1 60 _ _ 1 7 w.heap.size rfl rfl (by decide) hz,fun x hx=>?_⟩,HB.o.alloc hz _⟩;rw[List.mem_singleton.1 hx];exact NodeAt.mk (EntsAt.nil _) rfl ((hm.o.below ((bR).alloc (nR) _)).base (zR)) (jQbW hm.o hZ)
 ·have HE:Hid (Sq.innersF (headN n) (l.map Prod.fst)=[innerF (headN n) ((part 0 l).map Prod.fst),innerF (headN n) ((part 21 l).map Prod.fst)]):=by show _=_;rw[jQmO,jQmO];unfold Sq.innersF Sq.halve;rw[if_neg (by simpa using h4)];rfl
  obtain⟨g,hao,hg,hcap⟩:=jQpX h.own (by omega);subst hao;have hn:∀w',Below w.heap.size w w'->NodesRd Z w' (.slice (some ⟨g,0,none⟩) l.length acap) n l:=fun w' hb=>h.rd.below hb
  have hi:=hd hn;have HR:=hd hr;have i1:¬((l.length:Int)<=4):=by omega
  have i2:¬((l.length:Int)<3):=by omega
  clear h hn hr;go_enter Tryz.func209,Tryz.ntmps209;go_wp2
  go_region_with (go_at_call 133;(first | (have hx:=hf;clear hx;refine(jQhZ n l g acap _ _ _ _ (hi.o _ ((Below.drew (bR)).trans (hf.o.mono (by simp)))) (by omega) hl HR.o (by first | exact Or.inl ⟨rfl,rfl⟩ | exact Or.inr ⟨rfl,rfl⟩)).mono ?_;rintro e w2 ⟨ev2,rfl,he2,hb2⟩;obtain⟨yo,yc,rfl⟩:=jQa he2.own;have hc:=hd he2;have hk:=hd hb2;have hp:=hb2.size;clear he2 hb2;rw[jQc]) | (refine(jQhZ n l g acap _ _ _ _ (hi.o _ (Below.drew (bR))) (by omega) hl HR.o (by first | exact Or.inl ⟨rfl,rfl⟩ | exact Or.inr ⟨rfl,rfl⟩)).mono ?_;rintro e w1 ⟨ev1,rfl,he1,hb1⟩;obtain⟨xo,xc,rfl⟩:=jQa he1.own;have ha:=hd he1;have hf:=hd hb1;have ho:=hb1.size;clear he1 hb1;rw[jQc])))
  go_wp2;go_ret;have hh:Below w.heap.size w w2:=(Below.drew (bR)).trans ((hf.o.trans (hk.o.mono ho)).mono (by simp));have hj:w.heap.size<=w2.heap.size:=hh.size;refine⟨_,[(innerF (headN n) ((part 0 l).map Prod.fst),.slice none 0 0,.slice xo (part 0 l).length xc),(innerF (headN n) ((part 21 l).map Prod.fst),.slice none 0 0,.slice yo (part 21 l).length yc)],rfl,by rw[HE.o];rfl,⟨jQes w2 60 _ _ 2 7 w.heap.size rfl rfl (by decide) hj,fun x hx=>?_⟩,hh.alloc hj _⟩;simp only[List.mem_cons,List.not_mem_nil,or_false] at hx;rcases hx with rfl | rfl
  ·exact NodeAt.mk (EntsAt.nil _) rfl (((ha.o.below hk.o).below ((bR).alloc (nR) _)).base (zR)) (jQbW ha.o hZ)
  ·exact NodeAt.mk (EntsAt.nil _) rfl ((hc.o.below ((bR).alloc (nR) _)).base (zR)) (jQbW hc.o (fun g hg=>hZ g (Nat.le_trans ho hg)))
end
end Go.Proofs.YtahpihjialbanaaGreatDoor
