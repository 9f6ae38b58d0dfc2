import Derived.Test.YtahpihjialbanaaGreatDoorQak
set_option linter.unusedVariables false
set_option linter.unusedSimpArgs false
set_option maxRecDepth 100000
set_option maxHeartbeats 2000000
namespace Go.Proofs.YtahpihjialbanaaGreatDoor
section
open Go.RowKit
variable {Z:Nat→Prop}
theorem jQjf {α:Type}(l:List α)(k:Nat)(h:k < l.length):l.take (k+1)=l.take k++[l[k]]:=List.take_succ_eq_append_getElem h
theorem Sq.jQgy {α β:Type}(f:α→β)(l o:List α)(a m:Nat):(Sq.exch l a m o).map f=Sq.exch (l.map f) a m (o.map f):=by
 unfold Sq.exch;simp
theorem jQiw {α:Type}{l o:List α}{a m:Nat}{x:α}(h:x∈Sq.exch l a m o):x∈l∨x∈o:=by
 unfold Sq.exch at h
 rcases List.mem_append.1 h with h | h
 ·rcases List.mem_append.1 h with h | h
  ·exact Or.inl (List.mem_of_mem_take h)
  ·exact Or.inr h
 ·exact Or.inl (List.mem_of_mem_drop h)
theorem jQeD {n:Nat}{w:World}{x:Sq.Nd n×Value×Value}(h:NodeAt Z w n x.1 x.2.1 x.2.2):∀u∈[x].flatMap (nodeCells n),u.oneCell'=true :=
 NodesAt.one (l:=[x]) fun y hy=>by rw[List.mem_singleton.1 hy];exact h
theorem jQbd {P:Program}{w:World}{ops:Array Oper}{rest:List Oper}{o:Oper}{a:Act}{Q:Exit→Act→World→Prop}(hgd:o.guard=none)(s x:Operand)(t:TypeId)
  (ho:o.op=.call { callee:=.builtin .append,args:=#[s,x],argTypes:=#[t,t] })
  (base:Nat) (e:TypeId) (i:TypeInfo) (size:Nat) (ht:P.underlying t=some (.slice e)) (hi:P.info? e=some i)
  (v:Value) (n:Nat) (xs:List Value) (hs:a.eval s=v) (hown:w.ownsRow base e size v n xs) (so:Option Addr) (sc:Nat) (hx:a.eval x=.slice so 0 sc)
  (h:wpList P ops Q rest (a.put o.dst v) w):wpList P ops Q (o :: rest) a w:=by
 refine wpList_plain hgd fun K hK=>?_
 have hrun:(Builtin.append_ #[t,t] o.type #[v,.slice so 0 sc]).run P w=.ok v w:=by
  cases so with
  | none =>
   rcases hown.2 with⟨rfl,rfl⟩ | ⟨g,cap,cur,rfl,_,_,hnc,_⟩
   ·simp[Builtin.append_,run_underlying ht,sizeOf,typeInfo,hi,Builtin.lenOf,Builtin.firstCells]
   ·simp[Builtin.append_,run_underlying ht,sizeOf,typeInfo,hi,Builtin.lenOf,Builtin.firstCells,hnc,storeCells]
  | some ad =>
   rcases hown.2 with⟨rfl,rfl⟩ | ⟨g,cap,cur,rfl,_,_,hnc,_⟩
   ·simp[Builtin.append_,run_underlying ht,sizeOf,typeInfo,hi,Builtin.lenOf,Builtin.firstCells,loadCells,loadCellsFrom,Result.andThen]
   ·simp[Builtin.append_,run_underlying ht,sizeOf,typeInfo,hi,Builtin.lenOf,Builtin.firstCells,hnc,storeCells,loadCells,loadCellsFrom,Result.andThen]
 unfold Oper.wp
 simp[execOp,ho,resolve,invoke,builtin,hs,hx,hrun,Result.andThen]
 exact hK _ _ h
theorem jQhI (n:Nat)(l o:List (Sq.Nd n×Value×Value))(cv ov:Value)(a m:Nat)(w:World)(h:NodesAt Z 0 w cv n l)(ho:NodesAt Z 0 w ov n o)(h0:0 < o.length)(hl:l.length≤1000)(hol:o.length≤1000)(ha:a≤1000)(hm:m≤1000) :
  Calls Tryz.prog 210 #[cv,.int .i64 a,.int .i64 m,ov] w fun r w'=>∃v',r=.returned v'∧NodesAt Z w.heap.size w' v' n (Sq.exch l a m o)∧Below w.heap.size w w':=by
 obtain⟨ao,acap,rfl⟩:=jQa h.own
 obtain⟨bo,bcap,rfl⟩:=jQa ho.own
 have hone:=NodesAt.one ho.each
 have HONE:=hd hone
 have H:=hd h
 have HO:=hd ho
 clear h ho hone
 go_enter Tryz.func210,Tryz.ntmps210
 go_wp2
 go_loopw [9,10] (fun v i wr=>∃k:Nat,k≤l.length∧k≤a∧i=.int .i64 k∧wr.ownsRow w.heap.size 60 7 v (l.take k).length ((l.take k).flatMap (nodeCells n))∧Below w.heap.size w wr) (fun _ i _=>l.length - (intOf i).toNat)
 case atStart=>exact⟨0,Nat.zero_le _,Nat.zero_le _,rfl,World.ownsRow_nil _ _ _ _,Below.refl _ _⟩
 case round =>
  obtain⟨k,hk,hka,rfl,hac,hb⟩:=hrel
  obtain⟨wo,rfl⟩:∃wo:World,wo=wr:=⟨_,rfl⟩
  have hzw:=hb.size
  have HB:=hd hb
  have HTK:=hd (fun h=>jQjf l k h)
  have htl:(l.take k).length≤1000:=Nat.le_trans (List.length_take_le _ _) (by omega)
  obtain⟨acc,hacc⟩:∃x,x=l.take k:=⟨_,rfl⟩
  have HTK2:Hid (∀h:k < l.length,l.take (k+1)=acc++[l[k]]):=by rw[hacc];exact HTK
  rw[←hacc] at hac htl
  obtain⟨xo,xcap,rfl⟩:=jQa hac
  have HAC:=hd hac
  have HACC:=hd hacc
  clear hb hac hacc HTK
  by_cases hlt:k < l.length∧k < a
  ·obtain⟨hlt,hlta⟩:=hlt
   obtain⟨g,cap',ea,el,ec,ca,cl,cc,hv,hg,⟨d0,d1,d2,d3,d4,dsl,dnu⟩,d5,d6⟩:=(H.out.below HB.out).at k hlt
   simp only[Value.slice.injEq] at hv
   obtain⟨rfl,-,rfl⟩:=hv
   have htk:=HTK2.out hlt
   obtain⟨x,hx⟩:∃x,x=l[k]:=⟨_,rfl⟩
   rw[←hx] at htk d0 d3 d4 dsl dnu d5 d6
   obtain⟨t,evx,cvx⟩:=x
   simp only[Prod.mk.injEq] at d5
   obtain⟨rfl,rfl⟩:=d5
   have HTK3:=hd htk
   have i2:decide ((k:Int) < (l.length:Int))=true:=by simpa using hlt
   have i3:decide ((k:Int) < (a:Int))=true:=by simpa using hlta
   have i4:¬((l.length:Int)≤(k:Int)):=by omega
   have HN:=hd d6
   have HA2:=hd (jQh HAC.out ((Below.refl _ _).alloc (Nat.le_refl _) (.cells (nodeCells n (t,.slice ea el ec,.slice ca cl cc)).toArray 60)))
   have HRD:=hd (jQcR wo 60 (nodeCells n (t,.slice ea el ec,.slice ca cl cc)).toArray (([(t,Value.slice ea el ec,Value.slice ca cl cc)]:List (Sq.Nd n×Value×Value)).flatMap (nodeCells n)) 1 7 rfl rfl)
   clear htk hx d6 HTK2
   go_wp2_with (at_builtin;refine jQS rfl (.tmp 23) (.tmp 28) rfl w.heap.size _ n acc rfl HA2.out [(t,Value.slice ea el ec,Value.slice ca cl cc)] _ rfl HRD.out (jQeD HN.out) (Nat.zero_lt_succ _) (by show acc.length+1≤1000000;omega) (by first | (rw[jQo];omega) | omega | (simp;done)) ?_;intro v3 w3 hown3 hb3;have HO3:=hd hown3;have HB3:=hd hb3;clear hown3 hb3)
   go_roundw
   case rel=>exact⟨k+1,by omega,by omega,by go_num,by rw[HTK3.out];exact HO3.out,HB.out.trans ((Below.mono (B':=w.heap.size) ((Below.refl _ _).alloc (Nat.le_refl _) _) hzw).trans HB3.out)⟩
   case measure=>simp[intOf];omega
  ·have HT:Hid (acc=l.take a):=by
    show _=_
    rw[HACC.out]
    rcases Nat.lt_or_ge k l.length with h | h
    ·rw[show k=a by omega]
    ·rw[List.take_of_length_le h,List.take_of_length_le (by omega)]
   have HRO:=hd (Reads.of_own (jQh HO.out.own HB.out))
   have hand:(decide ((k:Int) < (l.length:Int)) && decide ((k:Int) < (a:Int)))=false:=by
    rcases Nat.lt_or_ge k l.length with h | h
    ·have:¬((k:Int) < (a:Int)):=by omega
     simp[this]
    ·have:¬((k:Int) < (l.length:Int)):=by omega
     simp[this]
   clear HTK2
   rcases Nat.lt_or_ge k l.length with hkl | hkl
   all_goals
    first
     | (have i2:decide ((k:Int) < (l.length:Int))=true:=(by simpa using hkl);have i3:decide ((k:Int) < (a:Int))=false:=(by simp;omega))
     | (have i2:decide ((k:Int) < (l.length:Int))=false:=(by simp;omega))
    clear hand
    go_wp2_with (at_builtin;refine jQS rfl (.tmp 30) (.tmp 31) rfl w.heap.size _ n acc rfl HAC.out o _ rfl HRO.out HONE.out h0 (by omega) (by omega) ?_;intro v3 w3 hown3 hb3;have HO3:=hd hown3;have HB3:=hd hb3;clear hown3 hb3)
    have HEX:Hid (Sq.exch l a m o=(acc++o)++l.drop (a+m)):=by show _=_;unfold Sq.exch;rw[HT.out]
    have hlen3:(acc++o).length≤2000:=by rw[List.length_append];omega
    have HB13:Hid (Below w.heap.size w w3):=HB.out.trans HB3.out
    obtain⟨ac0,hac0⟩:∃x,x=acc++o:=⟨_,rfl⟩
    have ho3:=HO3.out
    have hex:=HEX.out
    rw[←hac0] at ho3 hex hlen3
    have HO4:=hd ho3
    have HEX2:=hd hex
    clear ho3 hex HEX HO3 hac0
    go_loopw [9,11] (fun v i wr=>∃j:Nat,∃ac:List (Sq.Nd n×Value×Value),j≤3000∧i=.int .i64 j∧wr.ownsRow w.heap.size 60 7 v ac.length (ac.flatMap (nodeCells n))∧ac.length≤2000+j∧Hid (Sq.exch l a m o=ac++l.drop j)∧Below w.heap.size w wr) (fun _ i _=>l.length - (intOf i).toNat)
    case atStart=>exact⟨a+m,ac0,by omega,by go_num,HO4.out,by omega,HEX2,HB13.out⟩
    case round =>
     obtain⟨j,ac,hj,rfl,hac,hacl,hex,hb4⟩:=hrel
     obtain⟨yo,ycap,rfl⟩:=jQa hac
     have hzw4:=hb4.size
     have HB4:=hd hb4
     have HAC4:=hd hac
     clear hb4 hac
     by_cases hjt:j < l.length
     ·obtain⟨g,cap',ea,el,ec,ca,cl,cc,hv,hg,⟨d0,d1,d2,d3,d4,dsl,dnu⟩,d5,d6⟩:=(H.out.below HB4.out).at j hjt
      simp only[Value.slice.injEq] at hv
      obtain⟨rfl,-,rfl⟩:=hv
      have hdr:=List.drop_eq_getElem_cons hjt
      obtain⟨x,hx⟩:∃x,x=l[j]:=⟨_,rfl⟩
      rw[←hx] at hdr d0 d3 d4 dsl dnu d5 d6
      obtain⟨t,evx,cvx⟩:=x
      simp only[Prod.mk.injEq] at d5
      obtain⟨rfl,rfl⟩:=d5
      have HEX3:Hid (Sq.exch l a m o=(ac++[(t,Value.slice ea el ec,Value.slice ca cl cc)])++l.drop (j+1)):=by show _=_;rw[hex.out,hdr,List.append_assoc];rfl
      have i4:¬((l.length:Int)≤(j:Int)):=by omega
      have HN:=hd d6
      have HA2:=hd (jQh HAC4.out ((Below.refl _ _).alloc (Nat.le_refl _) (.cells (nodeCells n (t,.slice ea el ec,.slice ca cl cc)).toArray 60)))
      have HRD:=hd (jQcR wr 60 (nodeCells n (t,.slice ea el ec,.slice ca cl cc)).toArray (([(t,Value.slice ea el ec,Value.slice ca cl cc)]:List (Sq.Nd n×Value×Value)).flatMap (nodeCells n)) 1 7 rfl rfl)
      clear hdr hx d6 hex
      go_wp2_with (at_builtin;refine jQS rfl (.tmp 42) (.tmp 47) rfl w.heap.size _ n ac rfl HA2.out [(t,Value.slice ea el ec,Value.slice ca cl cc)] _ rfl HRD.out (jQeD HN.out) (Nat.zero_lt_succ _) (by show ac.length+1≤1000000;omega) (by first | (rw[jQo];omega) | omega | (simp;done)) ?_;intro v5 w5 hown5 hb5;have HO5:=hd hown5;have HB5:=hd hb5;clear hown5 hb5)
      go_roundw
      case rel=>exact⟨j+1,ac++[(t,Value.slice ea el ec,Value.slice ca cl cc)],by omega,by go_num,HO5.out,by rw[List.length_append];show ac.length+1≤_;omega,HEX3,HB4.out.trans ((Below.mono (B':=w.heap.size) ((Below.refl _ _).alloc (Nat.le_refl _) _) hzw4).trans HB5.out)⟩
      case measure=>simp[intOf];omega
     ·have HE:Hid (Sq.exch l a m o=ac):=by show _=_;rw[hex.out,List.drop_eq_nil_of_le (by omega)];simp
      clear hex
      go_wp2
      go_ret
      refine⟨_,rfl,⟨by rw[HE.out];exact HAC4.out,fun x hx=>?_⟩,HB4.out⟩
      rcases jQiw hx with h | h
      ·exact(H.out.each x h).below HB4.out
      ·exact(HO.out.each x h).below HB4.out
theorem jQgx (n:Nat)(l:List (Sq.Nd n×Value×Value))(cv:Value)(bo:Option Addr)(bcap:Nat)(a m:Nat)(w:World)(h:NodesAt Z 0 w cv n l)(hl:l.length≤1000)(ha:a≤1000)(hm:m≤1000) :
  Calls Tryz.prog 210 #[cv,.int .i64 a,.int .i64 m,.slice bo 0 bcap] w fun r w'=>∃v',r=.returned v'∧NodesAt Z w.heap.size w' v' n (Sq.exch l a m [])∧Below w.heap.size w w':=by
 obtain⟨ao,acap,rfl⟩:=jQa h.own
 obtain⟨i0,hi,hz0,hz1,hz2⟩:=info_parts Tryz.infoNode
 have H:=hd h
 clear h
 go_enter Tryz.func210,Tryz.ntmps210
 go_wp2
 go_loopw [9,10] (fun v i wr=>∃k:Nat,k≤l.length∧k≤a∧i=.int .i64 k∧wr.ownsRow w.heap.size 60 7 v (l.take k).length ((l.take k).flatMap (nodeCells n))∧Below w.heap.size w wr) (fun _ i _=>l.length - (intOf i).toNat)
 case atStart=>exact⟨0,Nat.zero_le _,Nat.zero_le _,rfl,World.ownsRow_nil _ _ _ _,Below.refl _ _⟩
 case round =>
  obtain⟨k,hk,hka,rfl,hac,hb⟩:=hrel
  obtain⟨wo,rfl⟩:∃wo:World,wo=wr:=⟨_,rfl⟩
  have hzw:=hb.size
  have HB:=hd hb
  have HTK:=hd (fun h=>jQjf l k h)
  have htl:(l.take k).length≤1000:=Nat.le_trans (List.length_take_le _ _) (by omega)
  obtain⟨acc,hacc⟩:∃x,x=l.take k:=⟨_,rfl⟩
  have HTK2:Hid (∀h:k < l.length,l.take (k+1)=acc++[l[k]]):=by rw[hacc];exact HTK
  rw[←hacc] at hac htl
  obtain⟨xo,xcap,rfl⟩:=jQa hac
  have HAC:=hd hac
  have HACC:=hd hacc
  clear hb hac hacc HTK
  by_cases hlt:k < l.length∧k < a
  ·obtain⟨hlt,hlta⟩:=hlt
   obtain⟨g,cap',ea,el,ec,ca,cl,cc,hv,hg,⟨d0,d1,d2,d3,d4,dsl,dnu⟩,d5,d6⟩:=(H.out.below HB.out).at k hlt
   simp only[Value.slice.injEq] at hv
   obtain⟨rfl,-,rfl⟩:=hv
   have htk:=HTK2.out hlt
   obtain⟨x,hx⟩:∃x,x=l[k]:=⟨_,rfl⟩
   rw[←hx] at htk d0 d3 d4 dsl dnu d5 d6
   obtain⟨t,evx,cvx⟩:=x
   simp only[Prod.mk.injEq] at d5
   obtain⟨rfl,rfl⟩:=d5
   have HTK3:=hd htk
   have i2:decide ((k:Int) < (l.length:Int))=true:=by simpa using hlt
   have i3:decide ((k:Int) < (a:Int))=true:=by simpa using hlta
   have i4:¬((l.length:Int)≤(k:Int)):=by omega
   have HN:=hd d6
   have HA2:=hd (jQh HAC.out ((Below.refl _ _).alloc (Nat.le_refl _) (.cells (nodeCells n (t,.slice ea el ec,.slice ca cl cc)).toArray 60)))
   have HRD:=hd (jQcR wo 60 (nodeCells n (t,.slice ea el ec,.slice ca cl cc)).toArray (([(t,Value.slice ea el ec,Value.slice ca cl cc)]:List (Sq.Nd n×Value×Value)).flatMap (nodeCells n)) 1 7 rfl rfl)
   clear htk hx d6 HTK2
   go_wp2_with (at_builtin;refine jQS rfl (.tmp 23) (.tmp 28) rfl w.heap.size _ n acc rfl HA2.out [(t,Value.slice ea el ec,Value.slice ca cl cc)] _ rfl HRD.out (jQeD HN.out) (Nat.zero_lt_succ _) (by show acc.length+1≤1000000;omega) (by first | (rw[jQo];omega) | omega | (simp;done)) ?_;intro v3 w3 hown3 hb3;have HO3:=hd hown3;have HB3:=hd hb3;clear hown3 hb3)
   go_roundw
   case rel=>exact⟨k+1,by omega,by omega,by go_num,by rw[HTK3.out];exact HO3.out,HB.out.trans ((Below.mono (B':=w.heap.size) ((Below.refl _ _).alloc (Nat.le_refl _) _) hzw).trans HB3.out)⟩
   case measure=>simp[intOf];omega
  ·have HT:Hid (acc=l.take a):=by
    show _=_
    rw[HACC.out]
    rcases Nat.lt_or_ge k l.length with h | h
    ·rw[show k=a by omega]
    ·rw[List.take_of_length_le h,List.take_of_length_le (by omega)]
   have hand:(decide ((k:Int) < (l.length:Int)) && decide ((k:Int) < (a:Int)))=false:=by
    rcases Nat.lt_or_ge k l.length with h | h
    ·have:¬((k:Int) < (a:Int)):=by omega
     simp[this]
    ·have:¬((k:Int) < (l.length:Int)):=by omega
     simp[this]
   clear HTK2
   rcases Nat.lt_or_ge k l.length with hkl | hkl
   all_goals
    first
     | (have i2:decide ((k:Int) < (l.length:Int))=true:=(by simpa using hkl);have i3:decide ((k:Int) < (a:Int))=false:=(by simp;omega))
     | (have i2:decide ((k:Int) < (l.length:Int))=false:=(by simp;omega))
    clear hand
    go_wp2_with (at_builtin;refine jQbd rfl (.tmp 30) (.tmp 31) 58 rfl w.heap.size 60 i0 7 Tryz.underlying58 hi _ acc.length _ rfl HAC.out bo bcap rfl ?_)
    have HEX2:Hid (Sq.exch l a m []=acc++l.drop (a+m)):=by show _=_;unfold Sq.exch;rw[HT.out,List.append_nil]
    have HB13:Hid (Below w.heap.size w wo):=HB
    have HO4:=HAC
    have hlen3:acc.length≤2000:=by omega
    go_loopw [9,11] (fun v i wr=>∃j:Nat,∃ac:List (Sq.Nd n×Value×Value),j≤3000∧i=.int .i64 j∧wr.ownsRow w.heap.size 60 7 v ac.length (ac.flatMap (nodeCells n))∧ac.length≤2000+j∧Hid (Sq.exch l a m []=ac++l.drop j)∧Below w.heap.size w wr) (fun _ i _=>l.length - (intOf i).toNat)
    case atStart=>exact⟨a+m,acc,by omega,by go_num,HO4.out,by omega,HEX2,HB13.out⟩
    case round =>
     obtain⟨j,ac,hj,rfl,hac,hacl,hex,hb4⟩:=hrel
     obtain⟨yo,ycap,rfl⟩:=jQa hac
     have hzw4:=hb4.size
     have HB4:=hd hb4
     have HAC4:=hd hac
     clear hb4 hac
     by_cases hjt:j < l.length
     ·obtain⟨g,cap',ea,el,ec,ca,cl,cc,hv,hg,⟨d0,d1,d2,d3,d4,dsl,dnu⟩,d5,d6⟩:=(H.out.below HB4.out).at j hjt
      simp only[Value.slice.injEq] at hv
      obtain⟨rfl,-,rfl⟩:=hv
      have hdr:=List.drop_eq_getElem_cons hjt
      obtain⟨x,hx⟩:∃x,x=l[j]:=⟨_,rfl⟩
      rw[←hx] at hdr d0 d3 d4 dsl dnu d5 d6
      obtain⟨t,evx,cvx⟩:=x
      simp only[Prod.mk.injEq] at d5
      obtain⟨rfl,rfl⟩:=d5
      have HEX3:Hid (Sq.exch l a m []=(ac++[(t,Value.slice ea el ec,Value.slice ca cl cc)])++l.drop (j+1)):=by show _=_;rw[hex.out,hdr,List.append_assoc];rfl
      have i4:¬((l.length:Int)≤(j:Int)):=by omega
      have HN:=hd d6
      have HA2:=hd (jQh HAC4.out ((Below.refl _ _).alloc (Nat.le_refl _) (.cells (nodeCells n (t,.slice ea el ec,.slice ca cl cc)).toArray 60)))
      have HRD:=hd (jQcR wr 60 (nodeCells n (t,.slice ea el ec,.slice ca cl cc)).toArray (([(t,Value.slice ea el ec,Value.slice ca cl cc)]:List (Sq.Nd n×Value×Value)).flatMap (nodeCells n)) 1 7 rfl rfl)
      clear hdr hx d6 hex
      go_wp2_with (at_builtin;refine jQS rfl (.tmp 42) (.tmp 47) rfl w.heap.size _ n ac rfl HA2.out [(t,Value.slice ea el ec,Value.slice ca cl cc)] _ rfl HRD.out (jQeD HN.out) (Nat.zero_lt_succ _) (by show ac.length+1≤1000000;omega) (by first | (rw[jQo];omega) | omega | (simp;done)) ?_;intro v5 w5 hown5 hb5;have HO5:=hd hown5;have HB5:=hd hb5;clear hown5 hb5)
      go_roundw
      case rel=>exact⟨j+1,ac++[(t,Value.slice ea el ec,Value.slice ca cl cc)],by omega,by go_num,HO5.out,by rw[List.length_append];show ac.length+1≤_;omega,HEX3,HB4.out.trans ((Below.mono (B':=w.heap.size) ((Below.refl _ _).alloc (Nat.le_refl _) _) hzw4).trans HB5.out)⟩
      case measure=>simp[intOf];omega
     ·have HE:Hid (Sq.exch l a m []=ac):=by show _=_;rw[hex.out,List.drop_eq_nil_of_le (by omega)];simp
      clear hex
      go_wp2
      go_ret
      refine⟨_,rfl,⟨by rw[HE.out];exact HAC4.out,fun x hx=>?_⟩,HB4.out⟩
      rcases jQiw hx with h | h
      ·exact(H.out.each x h).below HB4.out
      ·cases h
theorem jQaK (n:Nat)(l o:List (Sq.Nd n×Value×Value))(cv ov:Value)(a m:Nat)(w:World)(h:NodesAt Z 0 w cv n l)(ho:NodesAt Z 0 w ov n o)(hl:l.length≤1000)(hol:o.length≤1000)(ha:a≤1000)(hm:m≤1000) :
  Calls Tryz.prog 210 #[cv,.int .i64 a,.int .i64 m,ov] w fun r w'=>∃v',r=.returned v'∧NodesAt Z w.heap.size w' v' n (Sq.exch l a m o)∧Below w.heap.size w w':=by
 rcases Nat.eq_zero_or_pos o.length with h0 | h0
 ·have h0':o=[]:=by simpa using h0
  subst h0'
  obtain⟨bo,bcap,rfl⟩:=jQa ho.own
  exact jQgx n l cv bo bcap a m w h hl ha hm
 ·exact jQhI n l o cv ov a m w h ho h0 hl hol ha hm
end
section
open Go.RowKit
variable {Z:Nat→Prop}
theorem jQes (w:World)(e:TypeId)(cs:Array Value)(l:List Value)(n size B:Nat)(hl:cs.toList=l)(h:l.length=n * size)(hn:n≤1000)(hB:B≤w.heap.size):(w.alloc (.cells cs e)).ownsRow B e size (.slice (some ⟨w.heap.size,0,none⟩) n n) n l:=by
 subst hl
 refine⟨h,Or.inr ⟨w.heap.size,n,cs,rfl,hB,jQk w _,Nat.le_refl _,by unfold maxLen;omega,by simpa using h,?_⟩⟩
 exact List.take_of_length_le (by rw[h];exact Nat.le_refl _)
def part {α:Type}(off:Nat)(l:List α):List α:=if off=0 then l.take 3 else l.drop 3
theorem Reads.part {α:Type}{f:α→List Value}{size:Nat}(hs:0 < size)(hf:∀x,(f x).length=size){w:World}{g cap:Nat}{l:List α}(h:Reads w (.slice (some ⟨g,0,none⟩) l.length cap) l.length size (l.flatMap f))(h3:3≤l.length)(off len c:Nat)(hp:(off=0∧len=3)∨(off=3 * size∧len=l.length - 3)) :
  Reads w (.slice (some ⟨g,off,none⟩) len c) (part off l).length size ((part off l).flatMap f)∧(part off l).length=len:=by
 have hlen:∀m:List α,(m.flatMap f).length=m.length * size:=by
  intro m
  induction m with
  | nil=>simp
  | cons x r ih=>rw[List.flatMap_cons,List.length_append,ih,hf,List.length_cons,Nat.succ_mul];omega
 rcases h.2 with⟨h1,_⟩ | ⟨g',off',cap',hv,hg,hc⟩
 ·simp at h1
 simp only[Value.slice.injEq,Option.some.injEq,Addr.mk.injEq] at hv
 obtain⟨⟨rfl,rfl,-⟩,-,rfl⟩:=hv
 have hsplit:l.flatMap f=(l.take 3).flatMap f++(l.drop 3).flatMap f:=by rw[←List.flatMap_append,List.take_append_drop]
 have ht:(l.take 3).length=3:=by simp;omega
 rcases hp with⟨rfl,rfl⟩ | ⟨rfl,rfl⟩
 ·have e:Go.Proofs.YtahpihjialbanaaGreatDoor.part 0 l=l.take 3:=rfl
  rw[e]
  refine⟨⟨hlen _,Or.inr ⟨g,0,c,by rw[ht],hg,fun j u hj=>?_⟩⟩,ht⟩
  refine hc j u ?_
  rw[hsplit,List.getElem?_append_left (by rcases Nat.lt_or_ge j ((l.take 3).flatMap f).length with h | h;exact h;rw[List.getElem?_eq_none h] at hj;cases hj)]
  exact hj
 ·have e:Go.Proofs.YtahpihjialbanaaGreatDoor.part (3 * size) l=l.drop 3:=by unfold Go.Proofs.YtahpihjialbanaaGreatDoor.part;rw[if_neg (by omega)]
  rw[e]
  refine⟨⟨hlen _,Or.inr ⟨g,3 * size,c,by simp,hg,fun j u hj=>?_⟩⟩,by simp⟩
  have h5:=hc (3 * size+j) u (by
   rw[hsplit,List.getElem?_append_right (by rw[hlen,ht];omega),hlen,ht,Nat.add_sub_cancel_left]
   exact hj)
  rwa [Nat.zero_add] at h5
theorem jQpN {w:World}{B:Nat}{e:TypeId}{size:Nat}{ao:Option Addr}{n cap:Nat}{cs:List Value}(h:w.ownsRow B e size (.slice ao n cap) n cs)(hn:0 < n):∃g,ao=some ⟨g,0,none⟩∧g < w.heap.size∧n≤cap:=by
 rcases h.2 with⟨h1,h2⟩ | ⟨g',cap',cur,hv,hbg,hh,hn',hm,hc,ht⟩
 ·omega
 ·simp only[Value.slice.injEq] at hv
  obtain⟨rfl,-,rfl⟩:=hv
  exact⟨g',rfl,jQg hh,hn'⟩
theorem jQjR (es:List Sq.Ent)(g cap:Nat)(off len c:Nat)(w:World)(h:Reads w (.slice (some ⟨g,0,none⟩) es.length cap) es.length 2 (es.flatMap entCells))(h3:3≤es.length)(hl:es.length≤1000)(hp:(off=0∧len=3)∨(off=6∧len=es.length - 3)) :
  Calls Tryz.prog 132 #[.slice (some ⟨g,off,none⟩) len c] w fun e w'=>∃ev,e=.returned (.agg (headCells (Sq.leafF (α:=Empty) (part off es)).hd ev (.slice none 0 0)).toArray)∧EntsAt w.heap.size w' ev (part off es)∧Below w.heap.size w w':=by
 obtain⟨hr,_⟩:=Reads.part (f:=entCells) (by decide) (fun _=>rfl) h h3 off len c hp
 exact jQi2 _ _ w hr (by
  have:(part off es).length≤es.length:=by unfold part;split <;> simp <;> omega
  omega)
theorem jQeG (es:List Sq.Ent)(v:Value)(w:World)(h:EntsAt 0 w v es)(hl:es.length≤1000) :
  Calls Tryz.prog 207 #[v] w fun r w'=>∃v' l,r=.returned v'∧l.map Prod.fst=Sq.leavesF es∧NodesAt Z w.heap.size w' v' 0 l∧Below w.heap.size w w':=by
 obtain⟨ao,acap,rfl⟩:=jQa h
 by_cases h4:es.length≤4
 ·have HE:Hid (Sq.leavesF (α:=Empty) es=[Sq.leafF es]):=by show _=_;unfold Sq.leavesF Sq.halve;rw[if_pos h4];rfl
  have H:=hd (Reads.of_own h)
  clear h
  go_enter Tryz.func207,Tryz.ntmps207
  go_wp2_with fail
  refine(jQi2 es _ _ H.out hl).mono ?_
  rintro e w1 ⟨ev,rfl,he,hb⟩
  obtain⟨xo,xc,rfl⟩:=jQa he
  have HEV:=hd he
  have HB:=hd hb
  have hz:=hb.size
  clear he hb
  rw[jQc]
  go_wp2
  go_ret
  refine⟨_,[(Sq.leafF es,.slice xo es.length xc,.slice none 0 0)],rfl,by rw[HE.out];rfl,⟨jQes w1 60 _ _ 1 7 w.heap.size rfl rfl (by decide) hz,fun x hx=>?_⟩,HB.out.alloc hz _⟩
  rw[List.mem_singleton.1 hx]
  exact⟨jQi (jQh HEV.out ((Below.refl _ _).alloc (Nat.le_refl _) _)) (Nat.zero_le _),rfl⟩
 ·have HE:Hid (Sq.leavesF (α:=Empty) es=[Sq.leafF (part 0 es),Sq.leafF (part 6 es)]):=by show _=_;unfold Sq.leavesF Sq.halve;rw[if_neg h4];rfl
  obtain⟨g,hao,hg,hcap⟩:=jQpN h (by omega)
  subst hao
  have hrb:∀w',Below w.heap.size w w'→Reads w' (.slice (some ⟨g,0,none⟩) es.length acap) es.length 2 (es.flatMap entCells):=fun w' hb=>(Reads.of_own h).below hb
  have HRB:=hd hrb
  have i1:¬((es.length:Int)≤4):=by omega
  have i2:¬((es.length:Int) < 3):=by omega
  clear h hrb
  go_enter Tryz.func207,Tryz.ntmps207
  go_wp2
  go_region_with (go_at_call 132;(first | (have hx:=HB1;clear hx;refine(jQjR es g acap _ _ _ _ (HRB.out _ ((Below.drew (Below.refl _ _)).trans (HB1.out.mono (by simp)))) (by omega) hl (by first | exact Or.inl ⟨rfl,rfl⟩ | exact Or.inr ⟨rfl,rfl⟩)).mono ?_;rintro e w2 ⟨ev2,rfl,he2,hb2⟩;obtain⟨yo,yc,rfl⟩:=jQa he2;have HEV2:=hd he2;have HB2:=hd hb2;have hz2:=hb2.size;clear he2 hb2;rw[jQc]) | (refine(jQjR es g acap _ _ _ _ (HRB.out _ (Below.drew (Below.refl _ _))) (by omega) hl (by first | exact Or.inl ⟨rfl,rfl⟩ | exact Or.inr ⟨rfl,rfl⟩)).mono ?_;rintro e w1 ⟨ev1,rfl,he1,hb1⟩;obtain⟨xo,xc,rfl⟩:=jQa he1;have HEV1:=hd he1;have HB1:=hd hb1;have hz1:=hb1.size;clear he1 hb1;rw[jQc])))
  go_wp2
  go_ret
  have hbw:Below w.heap.size w w2:=(Below.drew (Below.refl _ _)).trans ((HB1.out.trans (HB2.out.mono hz1)).mono (by simp))
  have hzw:w.heap.size≤w2.heap.size:=hbw.size
  refine⟨_,[(Sq.leafF (part 0 es),.slice xo (part 0 es).length xc,.slice none 0 0),(Sq.leafF (part 6 es),.slice yo (part 6 es).length yc,.slice none 0 0)],rfl,by rw[HE.out];rfl,⟨jQes w2 60 _ _ 2 7 w.heap.size rfl rfl (by decide) hzw,fun x hx=>?_⟩,hbw.alloc hzw _⟩
  simp only[List.mem_cons,List.not_mem_nil,or_false] at hx
  rcases hx with rfl | rfl
  ·exact⟨jQi (jQh (jQh HEV1.out HB2.out) ((Below.refl _ _).alloc (Nat.le_refl _) _)) (Nat.zero_le _),rfl⟩
  ·exact⟨jQi (jQh HEV2.out ((Below.refl _ _).alloc (Nat.le_refl _) _)) (Nat.zero_le _),rfl⟩
theorem jQmq {α:Type}{off:Nat}{l:List α}{x:α}(h:x∈part off l):x∈l:=by
 unfold part at h
 split at h
 ·exact List.mem_of_mem_take h
 ·exact List.mem_of_mem_drop h
theorem jQmr {α β:Type}(f:α→β)(off:Nat)(l:List α):(part off l).map f=part off (l.map f):=by
 unfold part;split <;> simp
theorem jQhE (n:Nat)(l:List (Sq.Nd n×Value×Value))(g cap:Nat)(off len c:Nat)(w:World)(h:NodesRd Z w (.slice (some ⟨g,0,none⟩) l.length cap) n l)(h3:3≤l.length)(hl:l.length≤1000)(hr:smallRows n l)(hp:(off=0∧len=3)∨(off=21∧len=l.length - 3)) :
  Calls Tryz.prog 133 #[.slice (some ⟨g,off,none⟩) len c] w fun e w'=>∃cv,e=.returned (.agg (headCells (Sq.innerF (Sq.headN n) ((part off l).map Prod.fst)).hd (.slice none 0 0) cv).toArray)∧NodesAt Z w.heap.size w' cv n (part off l)∧Below w.heap.size w w':=by
 obtain⟨hrd,_⟩:=Reads.part (f:=nodeCells n) (by decide) (fun _=>rfl) h.rd h3 off len c hp
 exact jQc6 n _ _ w ⟨hrd,fun x hx=>h.each x (jQmq hx)⟩ (by
  have:(part off l).length≤l.length:=by unfold part;split <;> simp <;> omega
  omega) (fun x hx=>hr x (jQmq hx))
theorem jQhD (n:Nat)(l:List (Sq.Nd n×Value×Value))(v:Value)(w:World)(h:NodesAt Z 0 w v n l)(hl:l.length≤1000)(hr:smallRows n l)(hZ:∀g,w.heap.size≤g→¬Z g) :
  Calls Tryz.prog 209 #[v] w fun r w'=>∃v' k,r=.returned v'∧k.map Prod.fst=Sq.innersF (Sq.headN n) (l.map Prod.fst)∧NodesAt Z w.heap.size w' v' (n+1) k∧Below w.heap.size w w':=by
 obtain⟨ao,acap,rfl⟩:=jQa h.own
 by_cases h4:l.length≤4
 ·have HE:Hid (Sq.innersF (Sq.headN n) (l.map Prod.fst)=[Sq.innerF (Sq.headN n) (l.map Prod.fst)]):=by show _=_;unfold Sq.innersF Sq.halve;rw[if_pos (by simpa using h4)];rfl
  have H:=hd h.rd
  clear h
  go_enter Tryz.func209,Tryz.ntmps209
  go_wp2_with fail
  refine(jQc6 n l _ _ H.out hl hr).mono ?_
  rintro e w1 ⟨ev,rfl,he,hb⟩
  obtain⟨xo,xc,rfl⟩:=jQa he.own
  have HEV:=hd he
  have HB:=hd hb
  have hz:=hb.size
  clear he hb
  rw[jQc]
  go_wp2
  go_ret
  refine⟨_,[(Sq.innerF (Sq.headN n) (l.map Prod.fst),.slice none 0 0,.slice xo l.length xc)],rfl,by rw[HE.out];rfl,⟨jQes w1 60 _ _ 1 7 w.heap.size rfl rfl (by decide) hz,fun x hx=>?_⟩,HB.out.alloc hz _⟩
  rw[List.mem_singleton.1 hx]
  exact NodeAt.mk (EntsAt.nil _) rfl ((HEV.out.below ((Below.refl _ _).alloc (Nat.le_refl _) _)).base (Nat.zero_le _)) (jQce HEV.out hZ)
 ·have HE:Hid (Sq.innersF (Sq.headN n) (l.map Prod.fst)=[Sq.innerF (Sq.headN n) ((part 0 l).map Prod.fst),Sq.innerF (Sq.headN n) ((part 21 l).map Prod.fst)]):=by show _=_;rw[jQmr,jQmr];unfold Sq.innersF Sq.halve;rw[if_neg (by simpa using h4)];rfl
  obtain⟨g,hao,hg,hcap⟩:=jQpN h.own (by omega)
  subst hao
  have hrb:∀w',Below w.heap.size w w'→NodesRd Z w' (.slice (some ⟨g,0,none⟩) l.length acap) n l:=fun w' hb=>h.rd.below hb
  have HRB:=hd hrb
  have HR:=hd hr
  have i1:¬((l.length:Int)≤4):=by omega
  have i2:¬((l.length:Int) < 3):=by omega
  clear h hrb hr
  go_enter Tryz.func209,Tryz.ntmps209
  go_wp2
  go_region_with (go_at_call 133;(first | (have hx:=HB1;clear hx;refine(jQhE n l g acap _ _ _ _ (HRB.out _ ((Below.drew (Below.refl _ _)).trans (HB1.out.mono (by simp)))) (by omega) hl HR.out (by first | exact Or.inl ⟨rfl,rfl⟩ | exact Or.inr ⟨rfl,rfl⟩)).mono ?_;rintro e w2 ⟨ev2,rfl,he2,hb2⟩;obtain⟨yo,yc,rfl⟩:=jQa he2.own;have HEV2:=hd he2;have HB2:=hd hb2;have hz2:=hb2.size;clear he2 hb2;rw[jQc]) | (refine(jQhE n l g acap _ _ _ _ (HRB.out _ (Below.drew (Below.refl _ _))) (by omega) hl HR.out (by first | exact Or.inl ⟨rfl,rfl⟩ | exact Or.inr ⟨rfl,rfl⟩)).mono ?_;rintro e w1 ⟨ev1,rfl,he1,hb1⟩;obtain⟨xo,xc,rfl⟩:=jQa he1.own;have HEV1:=hd he1;have HB1:=hd hb1;have hz1:=hb1.size;clear he1 hb1;rw[jQc])))
  go_wp2
  go_ret
  have hbw:Below w.heap.size w w2:=(Below.drew (Below.refl _ _)).trans ((HB1.out.trans (HB2.out.mono hz1)).mono (by simp))
  have hzw:w.heap.size≤w2.heap.size:=hbw.size
  refine⟨_,[(Sq.innerF (Sq.headN n) ((part 0 l).map Prod.fst),.slice none 0 0,.slice xo (part 0 l).length xc),(Sq.innerF (Sq.headN n) ((part 21 l).map Prod.fst),.slice none 0 0,.slice yo (part 21 l).length yc)],rfl,by rw[HE.out];rfl,⟨jQes w2 60 _ _ 2 7 w.heap.size rfl rfl (by decide) hzw,fun x hx=>?_⟩,hbw.alloc hzw _⟩
  simp only[List.mem_cons,List.not_mem_nil,or_false] at hx
  rcases hx with rfl | rfl
  ·exact NodeAt.mk (EntsAt.nil _) rfl (((HEV1.out.below HB2.out).below ((Below.refl _ _).alloc (Nat.le_refl _) _)).base (Nat.zero_le _)) (jQce HEV1.out hZ)
  ·exact NodeAt.mk (EntsAt.nil _) rfl ((HEV2.out.below ((Below.refl _ _).alloc (Nat.le_refl _) _)).base (Nat.zero_le _)) (jQce HEV2.out (fun g hg=>hZ g (Nat.le_trans hz1 hg)))
end
section
open Go.RowKit
variable {Z:Nat→Prop}
theorem jQoe (tr:Sq.Trl)(h:Sq.Head):(Sq.touchR tr h).nums.length≤tr.nums.length+1:=by
 unfold Sq.touchR
 simp only
 split
 ·simp
 ·omega
theorem jQrt (es:List Sq.Ent)(p:Int)(k:Nat)(h:k < es.length):(es.drop k).any (fun x=>x.place==p)=(es[k].place==p || (es.drop (k+1)).any fun x=>x.place==p):=by
 rw[List.drop_eq_getElem_cons h];rfl
theorem jQrD {α:Type}(f:α→Sq.Head)(l:List α)(p:Int):Sq.wayF f l p≤l.length:=by
 rcases Nat.eq_zero_or_pos l.length with h | h
 ·have:l=[]:=by simpa using h
  subst this;exact Nat.le_refl _
 ·exact Nat.le_of_lt (Sq.jQi4 f l p (by intro e;subst e;simp at h))
def HasSays (tb:Nat)(n:Nat)(t:Sq.Nd n)(p:Int)(tr:Sq.Trl)(w:World)(e:Ending)(w':World):Prop:=e=.returned (.bool (Sq.hasN n t p tr).1)∧TrAt tb w' (Sq.hasN n t p tr).2∧TFrm tb w w'
theorem jQp4 (n:Nat)(h:Sq.Head)(es:List Sq.Ent)(l:List (Sq.Nd n×Value×Value))(ev cv:Value)(p:Int)(tb:Nat)(tr:Sq.Trl)(w:World)(hes:EntsAt 0 w ev es)(hn:NodesAt Z 0 w cv n l)(hel:es.length≤1000)(hl:l.length≤1000)(ht:TrAt tb w tr)(hroom:tr.nums.length+1≤100000)
  (ih:∀x∈l,∀w',NodeAt Z w' n x.1 x.2.1 x.2.2→TrAt tb w' (Sq.touchR tr h)→Calls Tryz.prog 153 #[.agg (nodeCells n x).toArray,.int .i64 p,.pointer (some ⟨tb,0,none⟩)] w' (HasSays tb n x.1 p (Sq.touchR tr h) w')) :
  Calls Tryz.prog 153 #[.agg (headCells h ev cv).toArray,.int .i64 p,.pointer (some ⟨tb,0,none⟩)] w fun e w'=>e=.returned (.bool (Sq.hasF (Sq.headN n) (Sq.hasN n) ⟨h,es,l.map Prod.fst⟩ p tr).1)∧TrAt tb w' (Sq.hasF (Sq.headN n) (Sq.hasN n) ⟨h,es,l.map Prod.fst⟩ p tr).2∧TFrm tb w w':=by
 obtain⟨eo,ecap,rfl⟩:=jQa hes
 obtain⟨co,ccap,rfl⟩:=jQa hn.own
 rw[jQc]
 have hlt:=ht.lt
 obtain⟨W,hWW⟩:∃W,W=w.alloc (.cells #[.bool h.inner,.slice eo es.length ecap,.slice co l.length ccap,.int .i64 h.least,.int .i64 h.rows,.string h.sl,.int .i64 h.num] 60):=⟨_,rfl⟩
 have hW:Below w.heap.size w W:=by rw[hWW];exact(Below.refl _ _).alloc (Nat.le_refl _) _
 have hblk:W.heap[w.heap.size]?=some (.cells #[.bool h.inner,.slice eo es.length ecap,.slice co l.length ccap,.int .i64 h.least,.int .i64 h.rows,.string h.sl,.int .i64 h.num] 60):=by rw[hWW];exact jQk w _
 have HT:=hd (ht.below hW)
 have HF:Hid (TFrm tb w W):=TFrm.of hW (by omega)
 have HBLK:=hd hblk
 have HES:=hd (hes.below hW)
 have HN:=hd (hn.below hW)
 have IH:=hd ih
 obtain⟨a0,a1,a2,a3,a4,a5,a6⟩:=SevenAt.blk (h:=h) hblk
 simp only[Nat.zero_add] at a1 a2 a3 a4 a5 a6
 have hzw:=jQg hblk
 clear ht hW hblk hes hn ih
 go_enter Tryz.func153,Tryz.ntmps153
 go_wp2_with fail
 rw[←hWW]
 clear hWW
 refine(jQam tb tr h _ _ W ⟨_,_,_,rfl⟩ ⟨_,_,_,rfl⟩ HT.out hroom).mono ?_
 rintro e w1 ⟨rfl,ht1,hf1⟩
 have hblk1:=(hf1.keep w.heap.size _ _ _ HBLK.out (by decide) (by decide)).trans HBLK.out
 have T1:=hd ht1
 have F1:Hid (TFrm tb w w1):=HF.out.trans hf1
 have ES1:=hd (HES.out.tfrm hf1)
 have NS1:=hd (HN.out.tfrm hf1)
 obtain⟨n0,n1,n2,n3,n4,n5,n6⟩:=SevenAt.blk (h:=h) hblk1
 simp only[Nat.zero_add] at n1 n2 n3 n4 n5 n6
 have hz1w:=jQg hblk1
 have hz1t:=ht1.lt
 have HBLK1:=hd hblk1
 obtain⟨tr1,htr1⟩:∃x,x=Sq.touchR tr h:=⟨_,rfl⟩
 have t1:=T1.out
 have ih1:=IH.out
 rw[←htr1] at t1 ih1
 have T2:=hd t1
 have IH2:=hd ih1
 cases hin:h.inner
 ·have HE:Hid (Sq.hasF (Sq.headN n) (Sq.hasN n) ⟨h,es,l.map Prod.fst⟩ p tr=(es.any (fun x=>x.place==p),tr1)):=by
   show _=_
   unfold Sq.hasF
   rw[htr1]
   simp only[hin]
   rfl
  have HIN:=hd hin
  rw[hin] at n0
  clear a0 a1 a2 a3 a4 a5 a6 hzw HT HF HBLK HES HN IH ht1 hf1 hblk1 T1 t1 ih1 IH2 htr1 NS1 n2 n3 n4 n5 n6 hin
  go_wp2
  go_loop [8] (fun i=>∃k:Nat,k≤es.length∧i=.int .i64 k∧Hid (es.any (fun x=>x.place==p)=(es.drop k).any fun x=>x.place==p)) (fun i=>es.length - (intOf i).toNat)
  case atStart=>exact⟨0,Nat.zero_le _,rfl,rfl⟩
  case round =>
   obtain⟨k,hk,rfl,hr⟩:=hrel
   by_cases hltk:k < es.length
   ·obtain⟨g,cap',hv,hg,c0,c1⟩:=ES1.out.at k hltk
    simp only[Value.slice.injEq] at hv
    obtain⟨rfl,-,rfl⟩:=hv
    have hst:=jQrt es p k hltk
    obtain⟨q,hq⟩:∃x,x=es[k].place:=⟨_,rfl⟩
    rw[←hq] at hst c0
    have HST:=hd hst
    have i1:¬((es.length:Int)≤(k:Int)):=by omega
    clear hst hq c1
    cases he:q==p
    ·have HR:Hid (es.any (fun x=>x.place==p)=(es.drop (k+1)).any fun x=>x.place==p):=by show _=_;rw[hr.out,HST.out,he];rfl
     clear hr HST
     go_wp2
     go_round
     case rel=>exact⟨k+1,by omega,by go_num,HR⟩
     case measure=>simp[intOf];omega
    ·have HR:Hid (es.any (fun x=>x.place==p)=true):=by show _=_;rw[hr.out,HST.out,he];rfl
     clear hr HST
     go_wp2
     go_ret
     exact⟨by rw[HE.out,HR.out];rfl,by rw[HE.out];exact T2.out,F1.out⟩
   ·have HR:Hid (es.any (fun x=>x.place==p)=false):=by show _=_;rw[hr.out,List.drop_eq_nil_of_le (by omega)];rfl
    clear hr
    go_wp2
    go_ret
    exact⟨by rw[HE.out,HR.out];rfl,by rw[HE.out];exact T2.out,F1.out⟩
 ·have HE:Hid (Sq.hasF (Sq.headN n) (Sq.hasN n) ⟨h,es,l.map Prod.fst⟩ p tr=match (l.map Prod.fst)[Sq.wayF (Sq.headN n) (l.map Prod.fst) p]? with | some c=>Sq.hasN n c p tr1 | none=>(false,tr1)):=by
   show _=_
   unfold Sq.hasF
   rw[htr1]
   simp only[hin,if_true]
   cases (l.map Prod.fst)[Sq.wayF (Sq.headN n) (l.map Prod.fst) p]? <;> rfl
  rw[hin] at n0
  have hwl:=jQrD (Sq.headN n) (l.map Prod.fst) p
  rw[List.length_map] at hwl
  obtain⟨a,haw⟩:∃x,x=Sq.wayF (Sq.headN n) (l.map Prod.fst) p:=⟨_,rfl⟩
  have he:=HE.out
  rw[←haw] at he hwl
  have HE2:=hd he
  have HAW:=hd haw
  have HIN:=hd hin
  clear a0 a1 a2 a3 a4 a5 a6 hzw HT HF HBLK HES HN IH ht1 hf1 hblk1 T1 t1 ih1 htr1 ES1 HE he haw
  go_wp2_with fail
  refine(jQgY n l p ⟨true,h.least,h.rows,h.sl,h.num⟩ _ _ w1 ⟨_,_,_,rfl⟩ NS1.out hl).mono ?_
  rintro e w2 ⟨rfl,hb2⟩
  rw[←HAW.out]
  have c2:=(hb2.cell (p:=⟨w.heap.size,2,none⟩) hz1w).trans n2
  have hz2:w.heap.size < w2.heap.size:=by have:=hb2.size;omega
  have NS2:=hd (NS1.out.below hb2)
  have T3:=hd (T2.out.below hb2)
  have F2:Hid (TFrm tb w w2):=F1.out.trans (TFrm.of hb2 (by omega))
  clear hb2 hin n0 n1 n2 n3 n4 n5 n6 NS1 T2 F1 HBLK1
  by_cases hlta:a < l.length
  ·obtain⟨g,cap',ea,el,ec,ca,cl,cc,hv,hg,⟨d0,d1,d2,d3,d4,dsl,dnu⟩,d5,d6⟩:=NS2.out.at a hlta
   simp only[Value.slice.injEq] at hv
   obtain⟨rfl,-,rfl⟩:=hv
   have HE3:Hid (Sq.hasF (Sq.headN n) (Sq.hasN n) ⟨h,es,l.map Prod.fst⟩ p tr=Sq.hasN n l[a].1 p tr1):=by show _=_;rw[HE2.out,List.getElem?_map,List.getElem?_eq_getElem hlta];rfl
   have hmem:=List.getElem_mem hlta
   obtain⟨x,hx⟩:∃x,x=l[a]:=⟨_,rfl⟩
   have he3:=HE3.out
   rw[←hx] at he3 d0 d3 d4 dsl dnu d5 d6 hmem
   obtain⟨t,evx,cvx⟩:=x
   simp only[Prod.mk.injEq] at d5
   obtain⟨rfl,rfl⟩:=d5
   have HE4:=hd he3
   have HNX:=hd d6
   have HMEM:=hd hmem
   have i1:¬((l.length:Int)≤(a:Int)):=by omega
   have i2:Decidable.decide ((a:Int) < (l.length:Int))=true:=by simpa using hlta
   clear he3 hx hmem HE3 d6
   go_wp2_with fail
   refine(IH2.out _ HMEM.out _ HNX.out T3.out).mono ?_
   rintro e w3 ⟨rfl,ht3,hf3⟩
   have T4:=hd ht3
   have F3:Hid (TFrm tb w w3):=F2.out.trans hf3
   clear ht3 hf3
   go_wp2
   go_ret
   exact⟨by rw[HE4.out];rfl,by rw[HE4.out];exact T4.out,F3.out⟩
  ·have HE3:Hid (Sq.hasF (Sq.headN n) (Sq.hasN n) ⟨h,es,l.map Prod.fst⟩ p tr=(false,tr1)):=by show _=_;rw[HE2.out,List.getElem?_eq_none (by simpa using hlta)]
   have i2:Decidable.decide ((a:Int) < (l.length:Int))=false:=by simpa using hlta
   go_wp2
   go_ret
   exact⟨by rw[HE3.out];rfl,by rw[HE3.out];exact T3.out,F2.out⟩
theorem jQqY (t:Sq.NodeF Empty)(p:Int)(tr:Sq.Trl):Sq.hasF (Sq.headN 0) (Sq.hasN 0) ⟨t.hd,t.ents,[]⟩ p tr=Sq.hasN 0 t p tr:=by
 obtain⟨h,es,ks⟩:=t
 cases ks with
 | nil =>
  show Sq.hasF _ _ _ _ _=Sq.hasF _ _ _ _ _
  unfold Sq.hasF
  simp only
  split
  ·rfl
  ·rfl
 | cons e _=>exact e.elim
end
section
open Go.RowKit
variable {Z:Nat→Prop}
def mayF {α:Type}(f:α→Sq.Head)(lo hi:Int):List α→Bool
 | []=>false
 | c :: r=>Decidable.decide ((f c).least≤hi) && Sq.nextLowF f lo r
theorem jQlI {α:Type}(f:α→Sq.Head)(g:α→Sq.Trl→List Sq.Ent×Sq.Trl)(lo hi:Int)(cs:List α)(k:Nat)(h:k < cs.length)(x:List Sq.Ent×Sq.Trl):Sq.thruL f g lo hi (cs.drop k) x=if mayF f lo hi (cs.drop k) then Sq.thruL f g lo hi (cs.drop (k+1)) (x.1++(g cs[k] x.2).1,(g cs[k] x.2).2) else Sq.thruL f g lo hi (cs.drop (k+1)) x:=by
 rw[List.drop_eq_getElem_cons h,Sq.thruL];rfl
theorem jQkK (n:Nat)(l:List (Sq.Nd n×Value×Value))(k:Nat)(lo hi:Int)(h0:Sq.Head)(ev cv:Value)(w:World)(hev:∃a k c,ev=.slice a k c)(h:NodesAt Z 0 w cv n l)(hl:l.length≤1000)(hk:k < l.length) :
  Calls Tryz.prog 146 #[.agg (headCells h0 ev cv).toArray,.int .i64 k,.int .i64 lo,.int .i64 hi] w fun e w'=>e=.returned (.bool (mayF (Sq.headN n) lo hi ((l.map Prod.fst).drop k)))∧Below w.heap.size w w':=by
 obtain⟨ao,acap,rfl⟩:=jQa h.own
 obtain⟨eo,en,ecap,rfl⟩:=hev
 rw[jQc]
 obtain⟨zi,zl,zr,zs,zn⟩:=h0
 have hW:Below w.heap.size w (w.alloc (.cells #[.bool zi,.slice eo en ecap,.slice ao l.length acap,.int .i64 zl,.int .i64 zr,.string zs,.int .i64 zn] 60)):=(Below.refl _ _).alloc (Nat.le_refl _) _
 have HW:=hd hW
 have H:=hd h
 clear h hW
 obtain⟨g,cap',ea,el,ec,ca,cl,cc,hv,hg,⟨d0,d1,d2,d3,d4,dsl,dnu⟩,d5,d6⟩:=(H.out.below HW.out).at k hk
 simp only[Value.slice.injEq] at hv
 obtain⟨rfl,-,rfl⟩:=hv
 have HE:Hid (mayF (Sq.headN n) lo hi ((l.map Prod.fst).drop k)=(Decidable.decide ((Sq.headN n l[k].1).least≤hi) && Sq.nextLowF (Sq.headN n) lo ((l.map Prod.fst).drop (k+1)))):=by
  show _=_
  rw[List.drop_eq_getElem_cons (by simpa using hk),mayF,List.getElem_map]
 obtain⟨q,hq⟩:∃x,x=(Sq.headN n l[k].1).least:=⟨_,rfl⟩
 have he:=HE.out
 rw[←hq] at d3 he
 have HE2:=hd he
 have i1:¬((l.length:Int)≤(k:Int)):=by omega
 have i2:¬((k:Int) < 0):=by omega
 have i3:decide ((k:Int) < 0)=false:=by simp
 have i4:decide ((l.length:Int)≤(k:Int))=false:=by simpa using hk
 clear hq he HE d0 d1 d2 d4 d5 d6 dsl dnu
 by_cases hle:q≤hi
 ·have i5:decide (hi < q)=false:=by simpa using hle
  by_cases hk2:k+1 < l.length
  ·obtain⟨g2,cap2,ea2,el2,ec2,ca2,cl2,cc2,hv2,hg2,⟨e0,e1,e2,e3,e4,esl,enu⟩,e5,e6⟩:=(H.out.below HW.out).at (k+1) hk2
   simp only[Value.slice.injEq,Option.some.injEq,Addr.mk.injEq] at hv2
   obtain⟨⟨rfl,-,-⟩,-,rfl⟩:=hv2
   have HE3:Hid (mayF (Sq.headN n) lo hi ((l.map Prod.fst).drop k)=Decidable.decide (lo < (Sq.headN n l[k+1].1).least)):=by
    show _=_
    rw[HE2.out,List.drop_eq_getElem_cons (by simpa using hk2),Sq.nextLowF,List.getElem_map]
    simp[hle]
   obtain⟨q2,hq2⟩:∃x,x=(Sq.headN n l[k+1].1).least:=⟨_,rfl⟩
   have he:=HE3.out
   rw[←hq2] at e3 he
   have HE4:=hd he
   have j1:¬((l.length:Int)≤(k:Int)+1):=by omega
   have j2:¬((k:Int)+1 < 0):=by omega
   have j3:((k:Int)+1==(l.length:Int))=false:=by simp;omega
   clear he HE3 hq2 e0 e1 e2 e4 e5 e6 esl enu HE2
   go_enter Tryz.func146,Tryz.ntmps146
   go_wp2
   go_ret
   exact⟨by rw[HE4.out];rfl,HW.out⟩
  ·have HE3:Hid (mayF (Sq.headN n) lo hi ((l.map Prod.fst).drop k)=true):=by
    show _=_
    rw[HE2.out,List.drop_eq_nil_of_le (by simp;omega),Sq.nextLowF]
    simp[hle]
   have j3:((k:Int)+1==(l.length:Int))=true:=by simp;omega
   clear HE2
   go_enter Tryz.func146,Tryz.ntmps146
   go_wp2
   go_ret
   exact⟨by rw[HE3.out];rfl,HW.out⟩
 ·have i5:decide (hi < q)=true:=by simpa using hle
  have HE3:Hid (mayF (Sq.headN n) lo hi ((l.map Prod.fst).drop k)=false):=by show _=_;rw[HE2.out];simp[hle]
  clear HE2
  go_enter Tryz.func146,Tryz.ntmps146
  go_wp2
  go_ret
  exact⟨by rw[HE3.out];rfl,HW.out⟩
end
namespace Sq
def bytesF {α:Type}(f:α→Head)(dg:α→ByteArray)(t:NodeF α):ByteArray:=writtenF f t (t.kids.map dg)
def digF {α:Type}(H:ByteArray→ByteArray)(f:α→Head)(dg:α→ByteArray)(t:NodeF α):ByteArray:=if isShut t.hd then t.hd.sl else H (bytesF f dg t)
def digN (H:ByteArray→ByteArray):(n:Nat)→Nd n→ByteArray
 | 0,t=>digF H (fun e:Empty=>e.elim) (fun e:Empty=>e.elim) t
 | n+1,t=>digF H (headN n) (digN H n) t
theorem jQbQ {tr:Trl}{h:Head}(hl:isShut h=false):(touchR tr h).lost=tr.lost:=by
 unfold touchR
 simp[hl]
end Sq
namespace Sq
theorem jQlr {α β γ:Type}(g:α→β)(h:α×β→γ):∀l:List α,(l.zip (l.map g)).map h=l.map fun c=>h (c,g c)
 | []=>rfl
 | a :: l=>by rw[List.map_cons,List.zip_cons_cons,List.map_cons,jQlr g h l,List.map_cons]
end Sq
namespace Sq
theorem jQrl (l:List UInt8)(b:UInt8):big (l++[b])=big l * 256+(b.toNat:Int):=by
 unfold big
 rw[List.foldl_append]
 rfl
theorem jQjz (x:Int)(k:Nat):(pnum x k).data.toList=(lowB k x).reverse:=by unfold pnum;simp
theorem jQnM:∀(k:Nat) (x:Int),0≤x→x < 256 ^ k→big (pnum x k).data.toList=x
 | 0,x,h0,h1=>by
  rw[jQjz]
  have:x=0:=by simp at h1;omega
  subst this
  rfl
 | k+1,x,h0,h1=>by
  have h2:x / 256 < 256 ^ k:=by
   rw[Int.pow_succ] at h1
   exact Int.ediv_lt_of_lt_mul (by decide) h1
  have h3:=jQnM k (x / 256) (Int.ediv_nonneg h0 (by decide)) h2
  rw[jQjz] at h3 ⊢
  rw[lowB,List.reverse_cons,jQrl,h3]
  have h4:(UInt8.ofNat (HMod.hMod x 256:Int).toNat).toNat=(HMod.hMod x 256:Int).toNat:=by
   rw[UInt8.toNat_ofNat']
   omega
  rw[h4]
  omega
theorem jQs (a b:ByteArray):(a++b).size=a.size+b.size:=ByteArray.size_append
theorem jQiE (a b:ByteArray):(a++b).extract 0 a.size=a:=by
 apply ByteArray.ext
 simp
theorem jQiD (a b:ByteArray):(a++b).extract a.size (a++b).size=b:=by
 apply ByteArray.ext
 apply Array.ext'
 rw[ByteArray.data_extract,ByteArray.data_append,Array.toList_extract,Array.toList_append,jQs]
 have h1:a.data.toList.length=a.size:=by simp
 have h2:b.data.toList.length=b.size:=by simp
 rw[List.extract_eq_take_drop,List.drop_left' h1,List.take_of_length_le (by omega)]
theorem jQlJ (a b:ByteArray):takeBad ⟨a++b,false⟩ (a.size:Nat)=false:=by
 unfold takeBad
 simp[jQs]
 omega
theorem jQjg (a b:ByteArray):takeV ⟨a++b,false⟩ (a.size:Nat)=a:=by
 unfold takeV
 rw[jQlJ,if_neg (by simp),Int.toNat_natCast]
 exact jQiE a b
theorem jQjh (a b:ByteArray):takeN ⟨a++b,false⟩ (a.size:Nat)=⟨b,false⟩:=by
 unfold takeN
 rw[jQlJ,if_neg (by simp),Int.toNat_natCast]
 dsimp only
 rw[jQiD a b]
theorem jQmC (x:Int)(k:Nat)(b:ByteArray)(h0:0≤x)(h1:x < 256 ^ k):numV ⟨pnum x k++b,false⟩ (k:Nat)=x∧takeN ⟨pnum x k++b,false⟩ (k:Nat)=⟨b,false⟩:=by
 have h2:=jQjg (pnum x k) b
 have h3:=jQjh (pnum x k) b
 rw[jQt] at h2 h3
 refine⟨?_,h3⟩
 unfold numV
 rw[h2]
 exact jQnM k x h0 h1
theorem jQlC (t b:ByteArray)(h:t.size < 256):txtV ⟨txt t++b,false⟩=t∧txtN ⟨txt t++b,false⟩=⟨b,false⟩:=by
 have e:txt t++b=pnum t.size 1++(t++b):=by unfold txt;rw[ByteArray.append_assoc]
 obtain⟨h1,h2⟩:=jQmC (t.size:Nat) 1 (t++b) (by omega) (by simp;omega)
 unfold txtV txtN
 rw[e]
 rw[show((1:Nat):Int)=1 from rfl] at h1 h2
 rw[h1,h2]
 exact⟨jQjg t b,jQjh t b⟩
def writeF {α:Type}(f:α→Head)(wr:α→ByteArray)(dg:ByteArray)(tr:Trl)(t:NodeF α):ByteArray:=if touchedR tr t.hd then writtenF f t (t.kids.map wr) else pnum 0 1++dg
def writeN (H:ByteArray→ByteArray)(tr:Trl):(n:Nat)→Nd n→ByteArray
 | 0,t=>writeF (fun e:Empty=>e.elim) (fun e:Empty=>e.elim) (digN H 0 t) tr t
 | n+1,t=>writeF (headN n) (writeN H tr n) (digN H (n+1) t) tr t
def catB (l:List ByteArray):ByteArray:=l.foldr (·++·) nobytes
theorem jQcl:∀(l:List ByteArray) (b:ByteArray),l.foldl (·++·) b=b++catB l
 | [],b=>by
  show b=b++nobytes
  apply ByteArray.ext
  simp[nobytes]
 | x :: l,b=>by
  rw[List.foldl_cons,jQcl l,ByteArray.append_assoc]
  rfl
theorem jQe3 (x:ByteArray)(l:List ByteArray):catB (x :: l)=x++catB l:=rfl
theorem jQjI (b:ByteArray):nobytes++b=b:=by
 apply ByteArray.ext
 simp[nobytes]
def okEnt (e:Ent):Prop:=0≤e.place∧e.place < 1099511627776∧e.row.size < 256
theorem jQc8 {α:Type}(f:α→Head)(t:NodeF α)(wr:α→ByteArray):writtenF f t (t.kids.map wr)=pnum (if t.hd.inner then 2 else 1) 1++(pnum (sizeF t) 1++(catB (t.ents.map entBytes)++catB (t.kids.map fun c=>kidBytes (f c) (wr c)))):=by
 unfold writtenF
 rw[jQlr,jQcl,jQcl,ByteArray.append_assoc,ByteArray.append_assoc]
theorem jQgA {H:ByteArray→ByteArray}{wide:Nat}(hH:∀b,(H b).size=wide):∀{n:Nat} {t:Nd n},isShut (headN n t)=false→(digN H n t).size=wide
 | 0,t,h=>by
  show(if isShut (NodeF.hd t) then _ else _:ByteArray).size=wide
  rw[show isShut (NodeF.hd t)=false from h,if_neg (by simp)]
  exact hH _
 | n+1,t,h=>by
  show(if isShut (NodeF.hd t) then _ else _:ByteArray).size=wide
  rw[show isShut (NodeF.hd t)=false from h,if_neg (by simp)]
  exact hH _
end Sq
namespace Sq
def fullT:(n:Nat)→List (Kid n)→Prop
 | 0,es=>List.length (α:=Ent) es≤4
 | n+1,cs=>List.length (α:=List (Kid n)) cs≤4∧∀c∈(show List (List (Kid n)) from cs),fullT n c
theorem fullT.len:∀{n:Nat} {t:List (Kid n)},fullT n t→t.length≤4
 | 0,_,h=>h
 | _+1,_,h=>h.1
theorem jQcj {α:Type}{l x:List α}(h:x∈halve l)(h5:l.length≤5):x.length≤4∧∀y∈x,y∈l:=by
 unfold halve at h
 split at h
 ·rw[List.mem_singleton] at h;subst h;exact⟨by assumption,fun y hy=>hy⟩
 ·rcases List.mem_cons.1 h with rfl | h
  ·exact⟨by rw[List.length_take];omega,fun y hy=>List.mem_of_mem_take hy⟩
  ·rw[List.mem_singleton] at h
   subst h
   exact⟨by rw[List.length_drop];omega,fun y hy=>List.mem_of_mem_drop hy⟩
theorem jQhG {n:Nat}{l:List (List (Kid n))}(h5:l.length≤5)(h:∀c∈l,fullT n c):∀x∈halve l,fullT (n+1) x:=fun x hx=>⟨(jQcj hx h5).1,fun c hc=>h c ((jQcj hx h5).2 c hc)⟩
theorem jQb1 {α:Type}(l o:List α)(a m:Nat)(h:a+m≤l.length):(exch l a m o).length=l.length - m+o.length:=by
 unfold exch
 simp only[List.length_append,List.length_take,List.length_drop]
 omega
theorem jQcB {α:Type}{l o:List α}{a m:Nat}{y:α}(h:y∈exch l a m o):y∈l∨y∈o:=by
 unfold exch at h
 rcases List.mem_append.1 h with h | h
 ·rcases List.mem_append.1 h with h | h
  ·exact Or.inl (List.mem_of_mem_take h)
  ·exact Or.inr h
 ·exact Or.inl (List.mem_of_mem_drop h)
theorem jQf2 (es:List Ent)(e:Ent):(withE es e).length≤es.length+1:=by
 unfold withE
 rw[List.length_append,List.length_cons]
 have h1:=List.length_filter_le (fun x:Ent=>x.place != e.place) (es.dropWhile fun x=>Decidable.decide (x.place < e.place))
 have h2:=congrArg List.length (List.takeWhile_append_dropWhile (p:=fun x:Ent=>Decidable.decide (x.place < e.place)) (l:=es))
 rw[List.length_append] at h2
 omega
theorem jQmh:∀(n:Nat) (t:List (Kid n)) (e:Ent),fullT n t→(putT n t e).length≤2∧∀x∈putT n t e,fullT n x
 | 0,es,e,h=>by
  show(halve (withE es e)).length≤2∧∀x∈halve (withE es e),fullT 0 x
  have h1:=jQf2 es e
  have h2:List.length (α:=Ent) es≤4:=h
  exact⟨(jQck _).2,fun x hx=>(jQcj hx (by omega)).1⟩
 | n+1,cs,e,h=>by
  show(putO cs (way n cs e.place) (fun c=>putT n c e) ((show List (List (Kid n)) from cs)[way n cs e.place]?)).length≤2∧∀x∈putO cs (way n cs e.place) (fun c=>putT n c e) ((show List (List (Kid n)) from cs)[way n cs e.place]?),fullT (n+1) x
  cases hc:(show List (List (Kid n)) from cs)[way n cs e.place]? with
  | none =>
   exact⟨by show List.length [cs]≤2;simp,fun x hx=>by
    have:x=cs:=by simpa[putO] using hx
    subst this
    exact h⟩
  | some c =>
   have hlt:way n cs e.place < List.length (α:=List (Kid n)) cs:=(List.getElem?_eq_some_iff.1 hc).1
   have ih:=jQmh n c e (h.2 c (List.mem_of_getElem? hc))
   refine⟨(jQck _).2,?_⟩
   refine jQhG ?_ ?_
   ·have h3:List.length (α:=List (Kid n)) cs≤4:=h.1
    have h6:(exch (α:=List (Kid n)) cs (way n cs e.place) 1 (putT n c e)).length=List.length (α:=List (Kid n)) cs - 1+(putT n c e).length:=jQb1 _ _ _ _ (by omega)
    show(exch (α:=List (Kid n)) cs (way n cs e.place) 1 (putT n c e)).length≤5
    omega
   ·intro y hy
    rcases jQcB hy with hy | hy
    ·exact h.2 y hy
    ·exact ih.2 y hy
theorem jQm7 {n:Nat}{cs:List (List (Kid n))}{a:Nat}(h4:cs.length≤4)(hf:∀c∈cs,c.length≤4)(hs:∀c,cs[a]?=some c→c.length < 2)(ha:a < cs.length)(P:List (Kid n)→Prop)(hp:∀c∈cs,P c)(hj:∀l r,l∈cs→r∈cs→(l++r).length≤5→∀x∈halve (l++r),P x) :
  (joinK cs a).length≤4∧∀x∈joinK cs a,P x:=by
 unfold joinK
 generalize hb:(if a+1==cs.length then a - 1 else a)=b
 cases hl:cs[b]? with
 | none=>exact⟨h4,hp⟩
 | some l =>
  cases hr:cs[b+1]? with
  | none=>exact⟨h4,hp⟩
  | some r =>
   have hbl:=(List.getElem?_eq_some_iff.1 hr).1
   have h5:(l++r).length≤5:=by
    rw[List.length_append]
    have hll:=hf l (List.mem_of_getElem? hl)
    have hrl:=hf r (List.mem_of_getElem? hr)
    split at hb
    ·rename_i hc
     have hc2:a+1=cs.length:=by simpa using hc
     by_cases h0:a=0
     ·subst h0
      simp at hb
      subst hb
      omega
     ·have:b+1=a:=by omega
      rw[this] at hr
      have:=hs r hr
      omega
    ·subst hb
     have:=hs l hl
     omega
   refine⟨?_,?_⟩
   ·show(exch cs b 2 (halve (l++r))).length≤4
    rw[jQb1 _ _ _ _ (by omega)]
    have:=(jQck (l++r)).2
    omega
   ·intro x hx
    rcases jQcB hx with hx | hx
    ·exact hp x hx
    ·exact hj l r (List.mem_of_getElem? hl) (List.mem_of_getElem? hr) h5 x hx
theorem jQph:∀{n:Nat} {l r:List (Kid n)},fullT n l→fullT n r→(l++r).length≤5→∀x∈halve (l++r),fullT n x
 | 0,_,_,_,_,h5,x,hx=>(jQcj hx h5).1
 | n+1,l,r,hl,hr,h5,x,hx=>jQhG (l:=(show List (List (Kid n)) from l++r)) h5 (fun c hc=>by
   rcases List.mem_append.1 hc with hc | hc
   ·exact hl.2 c hc
   ·exact hr.2 c hc) x hx
theorem jQnt:∀(n:Nat) (t:List (Kid n)) (p:Int),fullT n t→fullT n (delT n t p)
 | 0,es,p,h=>Nat.le_trans (List.length_filter_le _ _) h
 | n+1,cs,p,h=>by
  show fullT (n+1) (delO cs (way n cs p) (fun c=>delT n c p) (show List (List (Kid n)) from cs)[way n cs p]?)
  cases hc:(show List (List (Kid n)) from cs)[way n cs p]? with
  | none=>exact h
  | some c =>
   have hlt:way n cs p < List.length (α:=List (Kid n)) cs:=(List.getElem?_eq_some_iff.1 hc).1
   have ih:=jQnt n c p (h.2 c (List.mem_of_getElem? hc))
   show fullT (n+1) (mended cs (way n cs p) (delT n c p))
   have hel:(exch (α:=List (Kid n)) cs (way n cs p) 1 [delT n c p]).length=List.length (α:=List (Kid n)) cs:=by
    have h6:(exch (α:=List (Kid n)) cs (way n cs p) 1 [delT n c p]).length=List.length (α:=List (Kid n)) cs - 1+1:=jQb1 _ _ _ _ (by omega)
    omega
   have hem:∀y∈exch (α:=List (Kid n)) cs (way n cs p) 1 [delT n c p],fullT n y:=by
    intro y hy
    rcases jQcB hy with hy | hy
    ·exact h.2 y hy
    ·rw[List.mem_singleton] at hy;subst hy;exact ih
   have h4:List.length (α:=List (Kid n)) cs≤4:=h.1
   unfold mended
   split
   ·rename_i hs
    have hat:(exch (α:=List (Kid n)) cs (way n cs p) 1 [delT n c p])[way n cs p]?=some (delT n c p):=by
     unfold exch
     rw[List.append_assoc,List.getElem?_append_right (by rw[List.length_take];omega),List.length_take,Nat.min_eq_left (by omega),Nat.sub_self]
     rfl
    exact jQm7 (by rw[hel];exact h4) (fun y hy=>(hem y hy).len) (fun y hy=>by rw[hat] at hy;cases hy;exact hs) (by rw[hel];exact hlt) (fullT n) hem fun l r hl hr h5=>jQph (hem l hl) (hem r hr) h5
   ·exact⟨by rw[hel];exact h4,hem⟩
def Tree.full (x:Tree):Prop:=fullT x.d x.t
theorem full0:tree0.full:=by show List.length (α:=Ent) []≤4;simp
theorem Tree.full.put {x:Tree}(h:x.full)(e:Ent):(x.put e).full:=by
 obtain⟨h1,h2⟩:=jQmh x.d x.t e h
 unfold Tree.put upT Tree.full
 generalize putT x.d x.t e=l at *
 match l,h1,h2 with
 | [],h1,h2=>exact⟨by simp,fun c hc=>by cases hc⟩
 | [y],h1,h2=>exact h2 y (by simp)
 | y :: z :: r,h1,h2=>exact⟨Nat.le_trans h1 (by omega),h2⟩
theorem Tree.full.del {x:Tree}(h:x.full)(p:Int):(x.del p).full:=by
 have h1:=jQnt x.d x.t p h
 unfold Tree.del Tree.full
 generalize delT x.d x.t p=l at *
 generalize x.d=n at *
 match n,l,h1 with
 | 0,l,h1=>exact h1
 | n+1,l,h1 =>
  show fullT (match (show List (List (Kid n)) from l) with | [x]=>(⟨n,x⟩:Tree) | l=>⟨n+1,l⟩).d (match (show List (List (Kid n)) from l) with | [x]=>(⟨n,x⟩:Tree) | l=>⟨n+1,l⟩).t
  match (show List (List (Kid n)) from l),h1 with
  | [],h1=>exact h1
  | [y],h1=>exact h1.2 y (by simp)
  | y :: z :: r,h1=>exact h1
end Sq
end Go.Proofs.YtahpihjialbanaaGreatDoor
