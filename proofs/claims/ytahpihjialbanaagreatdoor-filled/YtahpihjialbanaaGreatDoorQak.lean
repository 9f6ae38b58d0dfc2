import Derived.Test.YtahpihjialbanaaGreatDoorQaf
set_option linter.unusedVariables false
set_option linter.unusedSimpArgs false
set_option maxRecDepth 100000
set_option maxHeartbeats 1000000
namespace Go.Proofs.YtahpihjialbanaaGreatDoor
section
open Go.RowKit
variable {Z:Nat→Prop}
structure NodesRd (Z:Nat→Prop)(w:World)(v:Value)(n:Nat)(l:List (Sq.Nd n×Value×Value)):Prop where
 rd:Reads w v l.length 7 (l.flatMap (nodeCells n))
 each:∀x∈l,NodeAt Z w n x.1 x.2.1 x.2.2
theorem NodesAt.rd {B n:Nat}{w:World}{v:Value}{l:List (Sq.Nd n×Value×Value)}(h:NodesAt Z B w v n l):NodesRd Z w v n l:=⟨Reads.of_own h.own,h.each⟩
theorem NodesRd.below {n:Nat}{w w':World}{v:Value}{l:List (Sq.Nd n×Value×Value)}(h:NodesRd Z w v n l)(hb:Below w.heap.size w w'):NodesRd Z w' v n l:=⟨h.rd.below hb,fun x hx=>(h.each x hx).below hb⟩
def rowsUp (n:Nat)(l:List (Sq.Nd n×Value×Value))(k:Nat):Int:=Sq.sumRows2 (Sq.headN n) ((l.take k).map Prod.fst)
def smallRows (n:Nat)(l:List (Sq.Nd n×Value×Value)):Prop:=∀x∈l,0≤(Sq.headN n x.1).rows∧(Sq.headN n x.1).rows≤1000000000
theorem jQfD (n:Nat)(l:List (Sq.Nd n×Value×Value))(k:Nat)(h:k < l.length):rowsUp n l (k+1)=rowsUp n l k+(Sq.headN n l[k].1).rows:=by
 unfold rowsUp Sq.sumRows2
 rw[List.take_succ_eq_append_getElem h,List.map_append,List.map_append,List.sum_append]
 simp only[List.map_cons,List.map_nil,List.sum_cons,List.sum_nil,Int.add_zero]
theorem jQkz (n:Nat)(l:List (Sq.Nd n×Value×Value)):rowsUp n l 0=0:=rfl
theorem jQjs (n:Nat)(l:List (Sq.Nd n×Value×Value))(hs:smallRows n l):∀k,k≤l.length→0≤rowsUp n l k∧rowsUp n l k≤1000000000 * (k:Int)
 | 0,_=>by rw[jQkz];omega
 | k+1,h=>by
  have ih:=jQjs n l hs k (by omega)
  have h1:=hs l[k] (List.getElem_mem (by omega))
  rw[jQfD n l k (by omega)]
  omega
theorem jQma (n:Nat)(l:List (Sq.Nd n×Value×Value))(k:Nat)(h:l.length≤k):rowsUp n l k=Sq.sumRows2 (Sq.headN n) (l.map Prod.fst):=by
 unfold rowsUp;rw[List.take_of_length_le h]
theorem jQc6 (n:Nat)(l:List (Sq.Nd n×Value×Value))(v:Value)(w:World)(h:NodesRd Z w v n l)(hl:l.length≤1000)(hr:smallRows n l) :
  Calls Tryz.prog 133 #[v] w fun e w'=>∃cv,e=.returned (.agg (headCells (Sq.innerF (Sq.headN n) (l.map Prod.fst)).hd (.slice none 0 0) cv).toArray)∧NodesAt Z w.heap.size w' cv n l∧Below w.heap.size w w':=by
 obtain⟨i0,hi,hz0,hz1,hz2⟩:=info_parts Tryz.infoNode
 obtain⟨ao,acap,rfl⟩:=h.rd.slice
 have hone:=NodesAt.one h.each
 obtain⟨cs,hcs⟩:∃x,x=l.flatMap (nodeCells n):=⟨_,rfl⟩
 have hrd:=h.rd
 rw[←hcs] at hrd hone
 have hW:∀o,Below w.heap.size w (w.alloc o):=fun o=>(Below.refl _ _).alloc (Nat.le_refl _) _
 have HOWN:=hd hrd
 have HEACH:=hd h.each
 have HONE:=hd hone
 have HCS:=hd hcs
 have HW:=hd hW
 have HSM:=hd hr
 clear h hrd hone hcs hW hr
 go_enter Tryz.func133,Tryz.ntmps133
 go_wp2_with (at_make;refine wpList_make_full _ rfl (.tmp 7) (.tmp 7) 58 rfl (w.heap.size+1) 60 i0 _ 7 Tryz.underlying58 hi hz0 hz1 .i64 .i64 _ _ l.length rfl rfl rfl rfl (by rw[hz2];omega) (by unfold maxLen;omega) (by simp) ?_;intro w1 hown1 hgrow1;rw[jQo] at hown1;have hb1:=Tch.of_grown (pb:=w.heap.size+1) hgrow1 (fun k hk=>by cases hk) (by simp);have hbw1:=(HW.out _).trans (hb1.mono (by omega));obtain⟨w2,hrun,hown2,hb2⟩:=jQbx w1 58 3 60 i0 7 Tryz.underlying58 hi hz1 (w.heap.size+1) _ l.length _ _ _ _ cs hown1 (HOWN.out.below hbw1) HONE.out;have hb12:=hb1.trans hb2;have hblk:=(hb12.block w.heap.size (by omega)).trans (jQk w _);have hlt2:=jQoG hown2;have hlt3:w.heap.size < w2.heap.size:=(by omega);have HB2:=hd hb12;have HO2:=hd hown2;have HBLK:=hd hblk;clear hown1 hgrow1 hb1 hbw1 hown2 hb2 hb12 hblk)
 have hbw2:Below w.heap.size w w2:=(HW.out _).trans (HB2.out.mono (by omega))
 have HNA:Hid (NodesAt Z (w.heap.size+1) w2 (.slice (some ⟨w.heap.size+1,0,none⟩) l.length l.length) n l):=by
  refine⟨?_,fun x hx=>(HEACH.out x hx).below hbw2⟩
  have:=HO2.out
  rw[HCS.out] at this
  exact this
 have HBW2:=hd hbw2
 clear hbw2 hrun HO2 HB2 HOWN
 go_loopw [5] (fun i wr=>∃k:Nat,k≤l.length∧i=.int .i64 k∧wr.heap[w2.heap.size]?=some (.cells #[.bool true,.slice none 0 0,.slice (some ⟨w.heap.size+1,0,none⟩) l.length l.length,.int .i64 0,.int .i64 (rowsUp n l k),.string ⟨#[]⟩,.int .i64 0] 60)∧Below w2.heap.size w2 wr) (fun i _=>l.length - (intOf i).toNat)
 case atStart=>exact⟨0,Nat.zero_le _,rfl,jQk w2 _,(Below.refl _ _).alloc (Nat.le_refl _) _⟩
 case round =>
  obtain⟨k,hk,rfl,hblk,hb⟩:=hrel
  have c0:wr.cell? ⟨w2.heap.size,0,none⟩=some (.bool true):=by rw[jQb hblk];rfl
  have c1:wr.cell? ⟨w2.heap.size,1,none⟩=some (.slice none 0 0):=by rw[jQb hblk];rfl
  have c2:wr.cell? ⟨w2.heap.size,2,none⟩=some (.slice (some ⟨w.heap.size+1,0,none⟩) l.length l.length):=by rw[jQb hblk];rfl
  have c3:wr.cell? ⟨w2.heap.size,3,none⟩=some (.int .i64 0):=by rw[jQb hblk];rfl
  have c4:wr.cell? ⟨w2.heap.size,4,none⟩=some (.int .i64 (rowsUp n l k)):=by rw[jQb hblk];rfl
  have c5:wr.cell? ⟨w2.heap.size,5,none⟩=some (.string ⟨#[]⟩):=by rw[jQb hblk];rfl
  have c6:wr.cell? ⟨w2.heap.size,6,none⟩=some (.int .i64 0):=by rw[jQb hblk];rfl
  obtain⟨f0,f1,f2,f3,f4,f5,f6⟩:=jQp hblk
  have hle:=jQjs n l HSM.out k hk
  have hlt4:=jQg hblk
  have HBLK2:=hd hblk
  have HB:=hd hb
  clear hblk hb
  by_cases hlt:k < l.length
  ·obtain⟨g,cap',ea,el,ec,ca,cl,cc,hv,hg,d,d5,d6⟩:=(HNA.out.below HB.out).at k hlt
   simp only[Value.slice.injEq,Option.some.injEq,Addr.mk.injEq] at hv
   obtain⟨⟨rfl,-,-⟩,-,rfl⟩:=hv
   have d4:=d.c4
   have hst:=jQfD n l k hlt
   have hq2:=HSM.out l[k] (List.getElem_mem hlt)
   obtain⟨q,hq⟩:∃x,x=(Sq.headN n l[k].1).rows:=⟨_,rfl⟩
   obtain⟨z,hz⟩:∃x,x=rowsUp n l k:=⟨_,rfl⟩
   rw[←hq] at d4 hst hq2
   rw[←hz] at c4 hst hle
   have HZ:=hd hz
   have HST2:=hd hst
   clear hst hq hz d d5 d6 c0 c1 c2 c3 c5 c6
   go_wp2
   go_region
   all_goals(try go_wp2)
   go_roundw
   case rel =>
    refine⟨k+1,by omega,by go_num,?_,Below.drew (Below.setCell (B:=w2.heap.size) HB.out (Nat.le_refl _) _)⟩
    have hb2:=HBLK2.out
    rw[←HZ.out] at hb2
    show(wr.setCell _ _).heap[w2.heap.size]?=_
    rw[jQf hb2,HST2.out]
    simp
   case measure=>simp[intOf];omega
  ·have HST:Hid (rowsUp n l k=Sq.sumRows2 (Sq.headN n) (l.map Prod.fst)):=jQma n l k (by omega)
   have hblkA:=(HB.out.block w.heap.size (by omega)).trans HBLK.out
   obtain⟨b0,b1,b2,b3,b4,b5,b6⟩:=jQR hblkA
   obtain⟨e0,e1,e2,e3,e4,e5,e6⟩:=jQp hblkA
   have hltA:=jQg hblkA
   rw[HST.out] at c4
   obtain⟨z,hz⟩:∃x,x=Sq.sumRows2 (Sq.headN n) (l.map Prod.fst):=⟨_,rfl⟩
   rw[←hz] at c4
   have HZ:=hd hz
   have hll:¬(k < l.length):=hlt
   have HBA:=hd hblkA
   clear hz hblkA HST hle
   rcases Nat.eq_zero_or_pos l.length with h0 | h0
   ·have h0':l=[]:=by simpa using h0
    subst h0'
    have hbf:Below w.heap.size w wr:=HBW2.out.trans (HB.out.mono (by omega))
    have ho:=(HNA.out.below HB.out).own
    have HO:=hd ho
    have HBF:=hd hbf
    have HLE:Hid (Sq.firstLeast (Sq.headN n) (([]:List (Sq.Nd n×Value×Value)).map Prod.fst)=0):=rfl
    clear ho hbf
    go_wp2
    refine bodyPost_ret (v:=.agg (headCells (Sq.innerF (Sq.headN n) (([]:List (Sq.Nd n×Value×Value)).map Prod.fst)).hd (.slice none 0 0) (.slice (some ⟨w.heap.size+1,0,none⟩) 0 0)).toArray) (by simp only[headCells,Sq.innerF,HLE.out,←HZ.out,Sq.nobytes];simp[results,Tryz.results133,go_sem, *]) rfl ⟨_,rfl,⟨?_,fun x hx=>by cases hx⟩,?_⟩
    ·exact jQi (jQn HO.out fun k hk=>jQq wr w.heap.size _ _ _ _ _ _ _ (fun e=>by have:=(World.ownsRow.lt HO.out k hk).1;omega)) (by omega)
    ·exact jQA HBF.out (Nat.le_refl _) _ _ _ _ _ _ _
   ·obtain⟨g,cap',ea,el,ec,ca,cl,cc,hv,hg,d,d5,d6⟩:=(HNA.out.below HB.out).at 0 h0
    simp only[Value.slice.injEq,Option.some.injEq,Addr.mk.injEq] at hv
    obtain⟨⟨rfl,-,-⟩,-,rfl⟩:=hv
    have d3:=d.c3
    have HLE:Hid (Sq.firstLeast (Sq.headN n) (l.map Prod.fst)=(Sq.headN n l[0].1).least):=by
     cases l with
     | nil=>simp at h0
     | cons x r=>rfl
    obtain⟨p0,hp0⟩:∃x,x=(Sq.headN n l[0].1).least:=⟨_,rfl⟩
    have hle0:=HLE.out
    rw[←hp0] at d3 hle0
    have HLE2:=hd hle0
    clear hp0 hle0 HLE d d5 d6
    simp only[Nat.zero_mul,Nat.zero_add] at d3
    have hbf:Below w.heap.size w wr:=HBW2.out.trans (HB.out.mono (by omega))
    have ho:=(HNA.out.below HB.out).own
    have HO:=hd ho
    have HBF:=hd hbf
    clear ho hbf
    go_wp2
    refine bodyPost_ret (v:=.agg (headCells (Sq.innerF (Sq.headN n) (l.map Prod.fst)).hd (.slice none 0 0) (.slice (some ⟨w.heap.size+1,0,none⟩) l.length l.length)).toArray) (by simp only[headCells,Sq.innerF,HLE2.out,←HZ.out,Sq.nobytes];simp[results,Tryz.results133,go_sem, *]) rfl ⟨_,rfl,?_,?_⟩
    ·have hbF:Below w.heap.size w (set7 (wr.setCell ⟨w2.heap.size,3,none⟩ (.int .i64 p0)) w.heap.size (.bool true) (.slice none 0 0) (.slice (some ⟨w.heap.size+1,0,none⟩) l.length l.length) (.int .i64 p0) (.int .i64 z) (.string ⟨#[]⟩) (.int .i64 0)):=jQA (Below.setCell (B:=w.heap.size) HBF.out (Nat.le_of_lt hlt3) _) (Nat.le_refl _) _ _ _ _ _ _ _
     refine⟨jQi (jQn HO.out fun k hk=>?_) (by omega),fun x hx=>(HEACH.out x hx).below hbF⟩
     have hk':w.heap.size+1=k:=by simpa[Value.ownBlock] using hk
     exact(jQq _ w.heap.size _ _ _ _ _ _ _ (by omega)).trans (jQe (by omega))
    ·exact jQA (Below.setCell (B:=w.heap.size) HBF.out (Nat.le_of_lt hlt3) _) (Nat.le_refl _) _ _ _ _ _ _ _
end
section
open Go.RowKit
variable {Z:Nat→Prop}
theorem jQc (h:Sq.Head)(ev cv:Value):(headCells h ev cv).toArray=#[.bool h.inner,ev,cv,.int .i64 h.least,.int .i64 h.rows,.string h.sl,.int .i64 h.num]:=rfl
theorem jQmO (b:ByteArray):(b.size != 0)=!b.toList.isEmpty:=by
 rw[Sq.ba_toList]
 have h:b.data.toList.length=b.size:=by simp
 cases hb:b.data.toList with
 | nil=>rw[hb] at h;rw[←h];rfl
 | cons x r=>rw[hb] at h;rw[←h];rfl
theorem jQh1 (h:Sq.Head)(ev cv:Value)(w:World)(he:∃a k c,ev=.slice a k c)(hc:∃a k c,cv=.slice a k c) :
  Calls Tryz.prog 45 #[.agg (headCells h ev cv).toArray] w fun e w'=>e=.returned (.bool (Sq.isShut h))∧Below w.heap.size w w':=by
 obtain⟨ea,ek,ec,rfl⟩:=he
 obtain⟨ca,ck,cc,rfl⟩:=hc
 rw[jQc]
 have hW:∀o,Below w.heap.size w (w.alloc o):=fun o=>(Below.refl _ _).alloc (Nat.le_refl _) _
 have HW:=hd hW
 clear hW
 go_enter Tryz.func45,Tryz.ntmps45
 go_wp2
 go_ret
 exact⟨by unfold Sq.isShut;rw[jQmO];rfl,HW.out _⟩
theorem jQi0 (h:Sq.Head)(ea:Option Addr)(ek ec:Nat)(ca:Option Addr)(ck cc:Nat)(w:World) :
  Calls Tryz.prog 83 #[.agg (headCells h (.slice ea ek ec) (.slice ca ck cc)).toArray] w fun e w'=>e=.returned (.int .i64 ((if h.inner then ck else ek:Nat):Int))∧Below w.heap.size w w':=by
 rw[jQc]
 have hW:∀o,Below w.heap.size w (w.alloc o):=fun o=>(Below.refl _ _).alloc (Nat.le_refl _) _
 have HW:=hd hW
 clear hW
 obtain⟨hi,hle,hr,hs,hn⟩:=h
 cases hi
 ·go_enter Tryz.func83,Tryz.ntmps83
  go_wp2
  go_ret
  exact⟨rfl,HW.out _⟩
 ·go_enter Tryz.func83,Tryz.ntmps83
  go_wp2
  go_ret
  exact⟨rfl,HW.out _⟩
theorem jQgZ {α:Type}(f:α→Sq.Head)(p:Int)(cs:List α)(k a:Nat)(h:k < cs.length):Sq.wayFromF f p (cs.drop k) k a=Sq.wayFromF f p (cs.drop (k+1)) (k+1) (if(f cs[k]).least≤p then k else a):=by
 rw[List.drop_eq_getElem_cons h,Sq.wayFromF]
theorem jQgY (n:Nat)(l:List (Sq.Nd n×Value×Value))(p:Int)(h0:Sq.Head)(ev cv:Value)(w:World)(he:∃a k c,ev=.slice a k c)(h:NodesAt Z 0 w cv n l)(hl:l.length≤1000) :
  Calls Tryz.prog 195 #[.agg (headCells h0 ev cv).toArray,.int .i64 p] w fun e w'=>e=.returned (.int .i64 (Sq.wayF (Sq.headN n) (l.map Prod.fst) p:Nat))∧Below w.heap.size w w':=by
 obtain⟨eo,en,ecap,rfl⟩:=he
 obtain⟨ao,acap,rfl⟩:=jQa h.own
 rw[jQc]
 obtain⟨hi,hle,hr,hs,hn⟩:=h0
 have hW:Below w.heap.size w (w.alloc (.cells #[.bool hi,.slice eo en ecap,.slice ao l.length acap,.int .i64 hle,.int .i64 hr,.string hs,.int .i64 hn] 60)):=(Below.refl _ _).alloc (Nat.le_refl _) _
 have HW:=hd hW
 have H:=hd h
 have HL:Hid ((l.map Prod.fst).length=l.length):=by show _=_;simp
 clear h hW
 go_enter Tryz.func195,Tryz.ntmps195
 go_wp2
 go_loop [5,6] (fun at_ i=>∃k a:Nat,1≤k∧k≤l.length+1∧i=.int .i64 k∧a≤l.length∧at_=.int .i64 a∧Hid (Sq.wayF (Sq.headN n) (l.map Prod.fst) p=Sq.wayFromF (Sq.headN n) p ((l.map Prod.fst).drop k) k a)) (fun _ i=>l.length+1 - (intOf i).toNat)
 case atStart=>exact⟨1,0,Nat.le_refl _,by omega,rfl,Nat.zero_le _,rfl,rfl⟩
 case round =>
  obtain⟨k,a,hk1,hk,rfl,ha,rfl,hr⟩:=hrel
  by_cases hlt:k < l.length
  ·obtain⟨g,cap',ea,el,ec,ca,cl,cc,hv,hg,d,d5,d6⟩:=(H.out.below HW.out).at k hlt
   simp only[Value.slice.injEq] at hv
   obtain⟨rfl,-,rfl⟩:=hv
   have d3:=d.c3
   have hst:=jQgZ (Sq.headN n) p (l.map Prod.fst) k a (by rw[HL.out];exact hlt)
   rw[List.getElem_map] at hst
   obtain⟨q,hq⟩:∃x,x=(Sq.headN n l[k].1).least:=⟨_,rfl⟩
   rw[←hq] at hst d3
   have HST:=hd hst
   have i1:¬((l.length:Int)≤(k:Int)):=by omega
   clear hst hq d d5 d6
   by_cases hle:q≤p
   ·have HR:Hid (Sq.wayF (Sq.headN n) (l.map Prod.fst) p=Sq.wayFromF (Sq.headN n) p ((l.map Prod.fst).drop (k+1)) (k+1) k):=by show _=_;rw[hr.out,HST.out,if_pos hle]
    clear hr HST
    go_wp2
    go_round
    case rel=>exact⟨k+1,k,by omega,by omega,by go_num,by omega,rfl,HR⟩
    case measure=>simp[intOf];omega
   ·have HR:Hid (Sq.wayF (Sq.headN n) (l.map Prod.fst) p=Sq.wayFromF (Sq.headN n) p ((l.map Prod.fst).drop (k+1)) (k+1) a):=by show _=_;rw[hr.out,HST.out,if_neg hle]
    clear hr HST
    go_wp2
    go_round
    case rel=>exact⟨k+1,a,by omega,by omega,by go_num,by omega,rfl,HR⟩
    case measure=>simp[intOf];omega
  ·have HR:Hid (Sq.wayF (Sq.headN n) (l.map Prod.fst) p=a):=by show _=_;rw[hr.out,List.drop_eq_nil_of_le (by rw[HL.out];omega)];rfl
   clear hr
   go_wp2
   go_ret
   exact⟨by rw[HR.out];rfl,HW.out⟩
end
section
open Go.RowKit
variable {Z:Nat→Prop}
structure TrAt (tb:Nat)(w:World)(tr:Sq.Trl):Prop where
 row:∃v,w.heap[tb]?=some (.cells #[.bool tr.lost,v] 74)∧w.ownsRow (tb+1) 3 1 v tr.nums.length (tr.nums.map (Value.int .i64))
 few:tr.nums.length≤100000
theorem TrAt.lt {tb:Nat}{w:World}{tr:Sq.Trl}(h:TrAt tb w tr):tb < w.heap.size:=by obtain⟨v,h1,_⟩:=h.row;exact jQg h1
theorem TrAt.below {tb:Nat}{w w':World}{tr:Sq.Trl}(h:TrAt tb w tr)(hb:Below w.heap.size w w'):TrAt tb w' tr:=by
 have hlt:=h.lt
 obtain⟨v,h1,h2⟩:=h.row
 exact⟨⟨v,by rw[hb.block tb hlt];exact h1,jQh h2 hb⟩,h.few⟩
structure TFrm (tb:Nat)(w w':World):Prop where
 below:Below tb w w'
 keep:∀(g:Nat) (c:Array Value) (e:TypeId) (fr:Nat×Nat),w.heap[g]?=some (Obj.cells c e fr)→e≠3→e≠74→w'.heap[g]?=w.heap[g]?
theorem TFrm.refl (tb:Nat)(w:World):TFrm tb w w:=⟨Below.refl _ _,fun _ _ _ _ _ _ _=>rfl⟩
theorem TFrm.trans {tb:Nat}{w w' w'':World}(h:TFrm tb w w')(k:TFrm tb w' w''):TFrm tb w w'' :=
 ⟨h.below.trans k.below,fun g c e fr hg h1 h2=>(k.keep g c e fr ((h.keep g c e fr hg h1 h2).trans hg) h1 h2).trans (h.keep g c e fr hg h1 h2)⟩
theorem TFrm.of {tb:Nat}{w w':World}(h:Below w.heap.size w w')(ht:tb≤w.heap.size):TFrm tb w w' :=
 ⟨h.mono ht,fun g _ _ _ hg _ _=>h.block g (jQg hg)⟩
theorem NodeAt.tfrm {tb n:Nat}{w w':World}{t:Sq.Nd n}{ev cv:Value}(h:NodeAt Z w n t ev cv)(k:TFrm tb w w'):NodeAt Z w' n t ev cv :=
 h.same fun g c e fr hg he=>k.keep g c e fr hg (by rcases he with rfl | rfl <;> decide) (by rcases he with rfl | rfl <;> decide)
theorem EntsAt.tfrm {tb B:Nat}{w w':World}{v:Value}{es:List Sq.Ent}(h:EntsAt B w v es)(k:TFrm tb w w'):EntsAt B w' v es:=by
 refine⟨h.1,?_⟩
 rcases h.2 with h0 | ⟨g,cap,cur,hv,hbg,hh,hn,hm,hc,ht⟩
 ·exact Or.inl h0
 ·exact Or.inr ⟨g,cap,cur,hv,hbg,(k.keep g _ _ _ hh (by decide) (by decide)).trans hh,hn,hm,hc,ht⟩
theorem NodesAt.tfrm {tb B n:Nat}{w w':World}{v:Value}{l:List (Sq.Nd n×Value×Value)}(h:NodesAt Z B w v n l)(k:TFrm tb w w'):NodesAt Z B w' v n l:=by
 refine⟨⟨h.own.1,?_⟩,fun x hx=>(h.each x hx).tfrm k⟩
 rcases h.own.2 with h0 | ⟨g,cap,cur,hv,hbg,hh,hn,hm,hc,ht⟩
 ·exact Or.inl h0
 ·exact Or.inr ⟨g,cap,cur,hv,hbg,(k.keep g _ _ _ hh (by decide) (by decide)).trans hh,hn,hm,hc,ht⟩
theorem jQh8 (l:List Int)(x:Int)(k:Nat)(h:k < l.length):(l.drop k).any (·==x)=(l[k]==x || (l.drop (k+1)).any (·==x)):=by
 rw[List.drop_eq_getElem_cons h];rfl
theorem jQcq (tb:Nat)(tr:Sq.Trl)(h:Sq.Head)(ev cv:Value)(w:World)(he:∃a k c,ev=.slice a k c)(hc:∃a k c,cv=.slice a k c)(ht:TrAt tb w tr) :
  Calls Tryz.prog 55 #[.pointer (some ⟨tb,0,none⟩),.agg (headCells h ev cv).toArray] w fun e w'=>e=.returned (.bool (Sq.touchedR tr h))∧Below w.heap.size w w':=by
 obtain⟨ea,ek,ec,rfl⟩:=he
 obtain⟨ca,ck,cc,rfl⟩:=hc
 rw[jQc]
 obtain⟨hi,hle,hr,hs,hn⟩:=h
 obtain⟨lost,nums⟩:=tr
 have hfew:=ht.few
 have hlt:=ht.lt
 obtain⟨v,hb,hown⟩:=ht.row
 simp only at hb hown hfew
 obtain⟨ao,cap,rfl⟩:=jQa hown
 have hW:Below w.heap.size w (w.alloc (.cells #[.bool hi,.slice ea ek ec,.slice ca ck cc,.int .i64 hle,.int .i64 hr,.string hs,.int .i64 hn] 60)):=(Below.refl _ _).alloc (Nat.le_refl _) _
 have c1:w.cell? ⟨tb,1,none⟩=some (.slice ao nums.length cap):=by rw[jQb hb];rfl
 have HO:=hd (jQh hown hW)
 have HW:=hd hW
 have HT:Hid (Sq.touchedR ⟨lost,nums⟩ ⟨hi,hle,hr,hs,hn⟩=nums.any (·==hn)):=rfl
 rw[HT.out]
 clear hb hown hW ht HT
 obtain⟨W,hWW⟩:∃W,W=w.alloc (.cells #[.bool hi,.slice ea ek ec,.slice ca ck cc,.int .i64 hle,.int .i64 hr,.string hs,.int .i64 hn] 60):=⟨_,rfl⟩
 have hWs:W.heap.size=w.heap.size+1:=by rw[hWW];exact jQo w _
 have a6:W.cell? ⟨w.heap.size,6,none⟩=some (.int .i64 hn):=by rw[jQb (show W.heap[w.heap.size]?=_ from by rw[hWW];exact jQk w _)];rfl
 have k1:W.cell? ⟨tb,1,none⟩=some (.slice ao nums.length cap):=by rw[hWW];exact(HW.out.cell (p:=⟨tb,1,none⟩) hlt).trans c1
 rw[←hWW] at HO HW
 have HS:=hd hWs
 clear hWs c1
 go_enter Tryz.func55,Tryz.ntmps55
 go_wp2
 rw[←hWW]
 clear hWW
 go_loopw [5] (fun i wr=>∃k:Nat,k≤nums.length∧i=.int .i64 k∧Hid (nums.any (·==hn)=(nums.drop k).any (·==hn))∧Below (w.heap.size+1) W wr) (fun i _=>nums.length - (intOf i).toNat)
 case atStart=>exact⟨0,Nat.zero_le _,rfl,rfl,Below.refl _ _⟩
 case round =>
  obtain⟨k,hk,rfl,hr2,hb⟩:=hrel
  have b6:wr.cell? ⟨w.heap.size,6,none⟩=some (.int .i64 hn):=(hb.cell (p:=⟨w.heap.size,6,none⟩) (by simp)).trans a6
  have b1:wr.cell? ⟨tb,1,none⟩=some (.slice ao nums.length cap):=(hb.cell (p:=⟨tb,1,none⟩) (by show tb < _;omega)).trans k1
  have hzw:w.heap.size < wr.heap.size:=by have:=hb.size;rw[HS.out] at this;omega
  have hzt:tb < wr.heap.size:=by omega
  have hbw:Below w.heap.size w wr:=HW.out.trans (hb.mono (by omega))
  have HBW:=hd hbw
  have hs2:=hb.size
  rw[HS.out] at hs2
  have HOW:Hid (wr.ownsRow (tb+1) 3 1 (.slice ao nums.length cap) nums.length (nums.map (Value.int .i64))):=jQh HO.out (by rw[HS.out];exact hb)
  have HB:=hd hb
  clear hb hbw hs2
  by_cases hltk:k < nums.length
  ·obtain⟨g,cap',hv,-,hg⟩:=HOW.out.form (by omega)
   simp only[Value.slice.injEq] at hv
   obtain⟨rfl,-,rfl⟩:=hv
   have c0:=HOW.out.cells (g:=g) rfl k (.int .i64 nums[k]) (by simp[hltk])
   rw[jQbt,Nat.zero_add] at c0
   have hst:=jQh8 nums hn k hltk
   obtain⟨q,hq⟩:∃x,x=nums[k]:=⟨_,rfl⟩
   rw[←hq] at hst c0
   have HST:=hd hst
   have i1:¬((nums.length:Int)≤(k:Int)):=by omega
   clear hst hq
   cases hx:q==hn
   ·have HR:Hid (nums.any (·==hn)=(nums.drop (k+1)).any (·==hn)):=by show _=_;rw[hr2.out,HST.out,hx];rfl
    clear hr2 HST
    go_wp2
    go_region
    all_goals(try go_wp2)
    go_roundw
    case rel=>exact⟨k+1,by omega,by go_num,HR,Below.drew HB.out⟩
    case measure=>simp[intOf];omega
   ·have HR:Hid (nums.any (·==hn)=true):=by show _=_;rw[hr2.out,HST.out,hx];rfl
    clear hr2 HST
    go_wp2
    go_region
    all_goals(try go_wp2)
    go_ret
    exact⟨by rw[HR.out];rfl,Below.drew HBW.out⟩
  ·have HR:Hid (nums.any (·==hn)=false):=by show _=_;rw[hr2.out,List.drop_eq_nil_of_le (by omega)];rfl
   clear hr2
   go_wp2
   go_ret
   exact⟨by rw[HR.out];rfl,HBW.out⟩
end
section
open Go.RowKit
theorem Tryz.infoInt:(Tryz.prog.info? 3).map (fun i=>(i.zero,i.size,i.bytes))=some (some (.int .i64 0),1,8):=by kernel_rfl
theorem SevenAt.blk {w:World}{g:Nat}{h:Sq.Head}{ev cv:Value}(hb:w.heap[g]?=some (.cells #[.bool h.inner,ev,cv,.int .i64 h.least,.int .i64 h.rows,.string h.sl,.int .i64 h.num] 60)):SevenAt w g 0 h ev cv :=
 ⟨by rw[jQb hb];rfl,by rw[jQb hb];rfl,by rw[jQb hb];rfl,by rw[jQb hb];rfl,by rw[jQb hb];rfl,by rw[jQb hb];rfl,by rw[jQb hb];rfl⟩
theorem jQam (tb:Nat)(tr:Sq.Trl)(h:Sq.Head)(ev cv:Value)(w:World)(he:∃a k c,ev=.slice a k c)(hc:∃a k c,cv=.slice a k c)(ht:TrAt tb w tr)(hn:tr.nums.length+1≤100000) :
  Calls Tryz.prog 145 #[.pointer (some ⟨tb,0,none⟩),.agg (headCells h ev cv).toArray] w fun e w'=>e=.returned (.tuple #[])∧TrAt tb w' (Sq.touchR tr h)∧TFrm tb w w':=by
 obtain⟨i0,hi,hz0,hz1,hz2⟩:=info_parts Tryz.infoInt
 obtain⟨ea,ek,ec,rfl⟩:=he
 obtain⟨ca,ck,cc,rfl⟩:=hc
 rw[jQc]
 have hlt:=ht.lt
 obtain⟨hin,hle,hr,hs,hnu⟩:=h
 obtain⟨W,hWW⟩:∃W,W=w.alloc (.cells #[.bool hin,.slice ea ek ec,.slice ca ck cc,.int .i64 hle,.int .i64 hr,.string hs,.int .i64 hnu] 60):=⟨_,rfl⟩
 have hW:Below w.heap.size w W:=by rw[hWW];exact(Below.refl _ _).alloc (Nat.le_refl _) _
 have hblk:W.heap[w.heap.size]?=some (.cells #[.bool hin,.slice ea ek ec,.slice ca ck cc,.int .i64 hle,.int .i64 hr,.string hs,.int .i64 hnu] 60):=by rw[hWW];exact jQk w _
 have HT:=hd (ht.below hW)
 have HF:Hid (TFrm tb w W):=TFrm.of hW (by omega)
 have HBLK:=hd hblk
 obtain⟨a0,a1,a2,a3,a4,a5,a6⟩:=SevenAt.blk (h:=⟨hin,hle,hr,hs,hnu⟩) hblk
 simp only[Nat.zero_add] at a1 a2 a3 a4 a5 a6
 have hzw:=jQg hblk
 have hzt:=HT.out.lt
 clear ht hW hblk
 go_enter Tryz.func145,Tryz.ntmps145
 go_wp2_with fail
 rw[←hWW]
 clear hWW
 refine(jQh1 ⟨hin,hle,hr,hs,hnu⟩ _ _ W ⟨_,_,_,rfl⟩ ⟨_,_,_,rfl⟩).mono ?_
 rintro e w0 ⟨rfl,hb0⟩
 have hblk0:=(hb0.block w.heap.size hzw).trans HBLK.out
 have T0:=hd (HT.out.below hb0)
 have F0:Hid (TFrm tb w w0):=HF.out.trans (TFrm.of hb0 (by omega))
 have hz0w:=jQg hblk0
 have hz0t:=T0.out.lt
 have HBLK0:=hd hblk0
 clear hblk0 hb0 HT HF HBLK hzw hzt a0 a1 a2 a3 a4 a5 a6
 cases hsh:Sq.isShut ⟨hin,hle,hr,hs,hnu⟩
 ·obtain⟨w1,hw1⟩:∃x,x=w0:=⟨_,rfl⟩
  rw[←hw1] at T0 F0 HBLK0 hz0w hz0t ⊢
  clear hw1
  obtain⟨tr1,htr1⟩:∃x,x=tr:=⟨_,rfl⟩
  have T1:Hid (TrAt tb w1 tr1):=by rw[htr1];exact T0
  have F1:=F0
  have HTR:Hid (Sq.touchR tr ⟨hin,hle,hr,hs,hnu⟩=⟨tr1.lost,if Decidable.decide (0 < hnu) && !Sq.touchedR tr ⟨hin,hle,hr,hs,hnu⟩ then tr1.nums++[hnu] else tr1.nums⟩):=by
   show _=_
   unfold Sq.touchR
   rw[hsh,htr1]
   simp
  have HTO:Hid (Sq.touchedR tr ⟨hin,hle,hr,hs,hnu⟩=Sq.touchedR tr1 ⟨hin,hle,hr,hs,hnu⟩):=by show _=_;rw[htr1]
  have hn1:tr1.nums.length+1≤100000:=by rw[htr1];exact hn
  obtain⟨n0,n1,n2,n3,n4,n5,n6⟩:=SevenAt.blk (h:=⟨hin,hle,hr,hs,hnu⟩) HBLK0.out
  simp only[Nat.zero_add] at n1 n2 n3 n4 n5 n6
  have hz1w:=hz0w
  have hz1t:=hz0t
  clear htr1 hsh T0 F0 HBLK0 hz0w hz0t hn
  by_cases hp:0 < hnu
  ·go_wp2_with fail
   refine(jQcq tb tr1 ⟨hin,hle,hr,hs,hnu⟩ _ _ w1 ⟨_,_,_,rfl⟩ ⟨_,_,_,rfl⟩ T1.out).mono ?_
   rintro e w2 ⟨rfl,hb2⟩
   have T2:=hd (T1.out.below hb2)
   have F2:Hid (TFrm tb w w2):=F1.out.trans (TFrm.of hb2 (by omega))
   have hs2:=hb2.size
   have d6:w2.cell? ⟨w.heap.size,6,none⟩=some (.int .i64 hnu):=(hb2.cell (p:=⟨w.heap.size,6,none⟩) hz1w).trans n6
   have hz2w:w.heap.size < w2.heap.size:=by omega
   have hz2t:tb < w2.heap.size:=by omega
   clear hb2 hs2 n0 n1 n2 n3 n4 n5 n6 T1 F1
   cases hto:Sq.touchedR tr1 ⟨hin,hle,hr,hs,hnu⟩
   ·have HN:Hid (Sq.touchR tr ⟨hin,hle,hr,hs,hnu⟩=⟨tr1.lost,tr1.nums++[hnu]⟩):=by
     show _=_
     rw[HTR.out]
     rw[show Sq.touchedR tr ⟨hin,hle,hr,hs,hnu⟩=false from HTO.out.trans hto]
     simp[hp]
    obtain⟨v,hb,hown⟩:=T2.out.row
    obtain⟨ao,cap0,rfl⟩:=jQa hown
    have c1:w2.cell? ⟨tb,1,none⟩=some (.slice ao tr1.nums.length cap0):=by rw[jQb hb];rfl
    have hW2:Below w2.heap.size w2 (w2.alloc (.cells #[.int .i64 hnu] 3)).drew:=Below.drew ((Below.refl _ _).alloc (Nat.le_refl _) _)
    have HO:=hd (jQh hown hW2)
    have HB:Hid ((w2.alloc (.cells #[.int .i64 hnu] 3)).drew.heap[tb]?=some (.cells #[.bool tr1.lost,.slice ao tr1.nums.length cap0] 74)):=(hW2.block tb hz2t).trans hb
    have HW2:=hd hW2
    have HFEW:=hd T2.out.few
    clear hb hown hW2 T2 HTR HTO hto
    go_wp2
    go_region_law (first
     | (go_loud (refine step_append_lies _ rfl (.tmp 22) (.tmp 25) 54 rfl (tb+1) 3 i0 _ 1 8 Tryz.underlying54 hi hz0 hz1 hz2 rfl (by decide) (.slice ao tr1.nums.length cap0) tr1.nums.length (tr1.nums.map (Value.int .i64)) (by simp[Act.eval,Act.put]) HO.out ⟨w2.heap.size,0,none⟩ 1 1 [.int .i64 hnu] (by simp[Act.eval,Act.put]) rfl (by exact jQB w2 _ _ _ rfl rfl) (by intro u hu;simp at hu;subst hu;rfl) (by decide) (by unfold maxLen;omega) (by omega) (by simp;omega) _ rfl ?_);intro g cap w3 hown1 hgrow hat hltg;have hb1:=(hgrow.block tb (by simp;omega) (fun e=>jQl HO.out HB.out (by decide) e.symm)).trans HB.out;have k0:w3.cell? ⟨tb,1,none⟩=some (.slice ao tr1.nums.length cap0):=(by rw[jQb hb1];rfl);have f0:=jQd hb1 1;have hlt1:=jQg hb1;have HO1:=hd hown1;have HG:=hd hgrow;have HB1:=hd hb1;clear hown1 hgrow hat hb1))
    all_goals(try go_wp2)
    all_goals
     go_end0
     rw[HN.out]
     refine⟨rfl,⟨⟨.slice (some ⟨g,0,none⟩) (tr1.nums.length+1) cap,by rw[jQf HB1.out];rfl,?_⟩,by simpa using hn1⟩,?_⟩
     ·have:=HO1.out
      simp only[List.length_append,List.length_singleton,List.map_append]
      exact jQn this fun k hk=>jQe (fun e=>jQl this HB1.out (by decide) (by rw[hk,e]))
     ·refine F2.out.trans ⟨?_,?_⟩
      ·refine Below.setCell (B:=tb) (Below.trans (Below.mono (B':=tb) HW2.out (by omega)) (Tch.of_grown HG.out (fun k hk=>?_) (by simp;omega))) (Nat.le_refl _) _
       exact Nat.le_of_succ_le (HO.out.lt k hk).1
      ·intro q c e fr hq h1 h2
       have hqt:q≠tb:=fun e=>by
        subst e
        have:=(HW2.out.block q (jQg hq)).trans hq
        rw[HB.out] at this
        simp only[Option.some.injEq,Obj.cells.injEq] at this
        exact h2 this.2.1.symm
       rw[jQe hqt,HG.out.block q (by have:=jQg hq;simp;omega) (fun e=>jQl HO.out ((HW2.out.block q (jQg hq)).trans hq) (fun e=>h1 e.symm) e.symm)]
       exact HW2.out.block q (jQg hq)
   ·have HN:Hid (Sq.touchR tr ⟨hin,hle,hr,hs,hnu⟩=tr1):=by
     show _=_
     rw[HTR.out]
     rw[show Sq.touchedR tr ⟨hin,hle,hr,hs,hnu⟩=true from HTO.out.trans hto]
     simp[hp]
    clear HTR HTO hto
    go_wp2
    go_end0
    rw[HN.out]
    exact⟨rfl,T2.out,F2.out⟩
  ·have HN:Hid (Sq.touchR tr ⟨hin,hle,hr,hs,hnu⟩=tr1):=by
    show _=_
    rw[HTR.out]
    simp[hp]
   clear HTR HTO
   go_wp2
   go_end0
   rw[HN.out]
   exact⟨rfl,T1.out,F1.out⟩
 ·obtain⟨v0,hb0,hown0⟩:=T0.out.row
  have c0:w0.cell? ⟨tb,0,none⟩=some (.bool tr.lost):=by rw[jQb hb0];rfl
  have f0:=jQd hb0 0
  obtain⟨w1,hw1⟩:∃x,x=w0.setCell ⟨tb,0,none⟩ (.bool true):=⟨_,rfl⟩
  obtain⟨tr1,htr1⟩:∃x,x=(⟨true,tr.nums⟩:Sq.Trl):=⟨_,rfl⟩
  have hne:w.heap.size≠tb:=by omega
  have T1:Hid (TrAt tb w1 tr1):=by
   rw[htr1]
   refine⟨⟨v0,by rw[hw1,jQf hb0];rfl,?_⟩,by simp only;omega⟩
   rw[hw1]
   exact jQn hown0 fun k hk=>jQe (fun e=>jQl hown0 hb0 (by decide) (by rw[hk,e]))
  have F1:Hid (TFrm tb w w1):=F0.out.trans ⟨by rw[hw1];exact Below.setCell (B:=tb) (Below.refl _ _) (Nat.le_refl _) _,fun q c e fr hq h1 h2=>by
   have hqt:q≠tb:=fun e=>by
    subst e
    rw[hb0] at hq
    simp only[Option.some.injEq,Obj.cells.injEq] at hq
    exact h2 hq.2.1.symm
   rw[hw1,jQe hqt]⟩
  have hblk1:w1.heap[w.heap.size]?=some (.cells #[.bool hin,.slice ea ek ec,.slice ca ck cc,.int .i64 hle,.int .i64 hr,.string hs,.int .i64 hnu] 60):=by rw[hw1,jQe hne];exact HBLK0.out
  have HTR:Hid (Sq.touchR tr ⟨hin,hle,hr,hs,hnu⟩=⟨tr1.lost,if Decidable.decide (0 < hnu) && !Sq.touchedR tr ⟨hin,hle,hr,hs,hnu⟩ then tr1.nums++[hnu] else tr1.nums⟩):=by
   show _=_
   unfold Sq.touchR
   rw[hsh,htr1]
   simp
  have HTO:Hid (Sq.touchedR tr ⟨hin,hle,hr,hs,hnu⟩=Sq.touchedR tr1 ⟨hin,hle,hr,hs,hnu⟩):=by show _=_;rw[htr1];rfl
  have hn1:tr1.nums.length+1≤100000:=by rw[htr1];exact hn
  obtain⟨n0,n1,n2,n3,n4,n5,n6⟩:=SevenAt.blk (h:=⟨hin,hle,hr,hs,hnu⟩) hblk1
  simp only[Nat.zero_add] at n1 n2 n3 n4 n5 n6
  have hz1w:=jQg hblk1
  have hz1t:=T1.out.lt
  obtain⟨m0,m1,m2,m3,m4,m5,m6⟩:=SevenAt.blk (h:=⟨hin,hle,hr,hs,hnu⟩) HBLK0.out
  simp only[Nat.zero_add] at m1 m2 m3 m4 m5 m6
  clear htr1 hsh T0 F0 HBLK0 hb0 hown0 hblk1 hn
  by_cases hp:0 < hnu
  ·go_wp2_with fail
   rw[←hw1]
   clear hw1 hz0w hz0t c0 f0 m0 m1 m2 m3 m4 m5 m6 hne
   refine(jQcq tb tr1 ⟨hin,hle,hr,hs,hnu⟩ _ _ w1 ⟨_,_,_,rfl⟩ ⟨_,_,_,rfl⟩ T1.out).mono ?_
   rintro e w2 ⟨rfl,hb2⟩
   have T2:=hd (T1.out.below hb2)
   have F2:Hid (TFrm tb w w2):=F1.out.trans (TFrm.of hb2 (by omega))
   have hs2:=hb2.size
   have d6:w2.cell? ⟨w.heap.size,6,none⟩=some (.int .i64 hnu):=(hb2.cell (p:=⟨w.heap.size,6,none⟩) hz1w).trans n6
   have hz2w:w.heap.size < w2.heap.size:=by omega
   have hz2t:tb < w2.heap.size:=by omega
   clear hb2 hs2 n0 n1 n2 n3 n4 n5 n6 T1 F1
   cases hto:Sq.touchedR tr1 ⟨hin,hle,hr,hs,hnu⟩
   ·have HN:Hid (Sq.touchR tr ⟨hin,hle,hr,hs,hnu⟩=⟨tr1.lost,tr1.nums++[hnu]⟩):=by
     show _=_
     rw[HTR.out]
     rw[show Sq.touchedR tr ⟨hin,hle,hr,hs,hnu⟩=false from HTO.out.trans hto]
     simp[hp]
    obtain⟨v,hb,hown⟩:=T2.out.row
    obtain⟨ao,cap0,rfl⟩:=jQa hown
    have c1:w2.cell? ⟨tb,1,none⟩=some (.slice ao tr1.nums.length cap0):=by rw[jQb hb];rfl
    have hW2:Below w2.heap.size w2 (w2.alloc (.cells #[.int .i64 hnu] 3)).drew:=Below.drew ((Below.refl _ _).alloc (Nat.le_refl _) _)
    have HO:=hd (jQh hown hW2)
    have HB:Hid ((w2.alloc (.cells #[.int .i64 hnu] 3)).drew.heap[tb]?=some (.cells #[.bool tr1.lost,.slice ao tr1.nums.length cap0] 74)):=(hW2.block tb hz2t).trans hb
    have HW2:=hd hW2
    have HFEW:=hd T2.out.few
    clear hb hown hW2 T2 HTR HTO hto
    go_wp2
    go_region_law (first
     | (go_loud (refine step_append_lies _ rfl (.tmp 22) (.tmp 25) 54 rfl (tb+1) 3 i0 _ 1 8 Tryz.underlying54 hi hz0 hz1 hz2 rfl (by decide) (.slice ao tr1.nums.length cap0) tr1.nums.length (tr1.nums.map (Value.int .i64)) (by simp[Act.eval,Act.put]) HO.out ⟨w2.heap.size,0,none⟩ 1 1 [.int .i64 hnu] (by simp[Act.eval,Act.put]) rfl (by exact jQB w2 _ _ _ rfl rfl) (by intro u hu;simp at hu;subst hu;rfl) (by decide) (by unfold maxLen;omega) (by omega) (by simp;omega) _ rfl ?_);intro g cap w3 hown1 hgrow hat hltg;have hb1:=(hgrow.block tb (by simp;omega) (fun e=>jQl HO.out HB.out (by decide) e.symm)).trans HB.out;have k0:w3.cell? ⟨tb,1,none⟩=some (.slice ao tr1.nums.length cap0):=(by rw[jQb hb1];rfl);have f0:=jQd hb1 1;have hlt1:=jQg hb1;have HO1:=hd hown1;have HG:=hd hgrow;have HB1:=hd hb1;clear hown1 hgrow hat hb1))
    all_goals(try go_wp2)
    all_goals
     go_end0
     rw[HN.out]
     refine⟨rfl,⟨⟨.slice (some ⟨g,0,none⟩) (tr1.nums.length+1) cap,by rw[jQf HB1.out];rfl,?_⟩,by simpa using hn1⟩,?_⟩
     ·have:=HO1.out
      simp only[List.length_append,List.length_singleton,List.map_append]
      exact jQn this fun k hk=>jQe (fun e=>jQl this HB1.out (by decide) (by rw[hk,e]))
     ·refine F2.out.trans ⟨?_,?_⟩
      ·refine Below.setCell (B:=tb) (Below.trans (Below.mono (B':=tb) HW2.out (by omega)) (Tch.of_grown HG.out (fun k hk=>?_) (by simp;omega))) (Nat.le_refl _) _
       exact Nat.le_of_succ_le (HO.out.lt k hk).1
      ·intro q c e fr hq h1 h2
       have hqt:q≠tb:=fun e=>by
        subst e
        have:=(HW2.out.block q (jQg hq)).trans hq
        rw[HB.out] at this
        simp only[Option.some.injEq,Obj.cells.injEq] at this
        exact h2 this.2.1.symm
       rw[jQe hqt,HG.out.block q (by have:=jQg hq;simp;omega) (fun e=>jQl HO.out ((HW2.out.block q (jQg hq)).trans hq) (fun e=>h1 e.symm) e.symm)]
       exact HW2.out.block q (jQg hq)
   ·have HN:Hid (Sq.touchR tr ⟨hin,hle,hr,hs,hnu⟩=tr1):=by
     show _=_
     rw[HTR.out]
     rw[show Sq.touchedR tr ⟨hin,hle,hr,hs,hnu⟩=true from HTO.out.trans hto]
     simp[hp]
    clear HTR HTO hto
    go_wp2
    go_end0
    rw[HN.out]
    exact⟨rfl,T2.out,F2.out⟩
  ·have HN:Hid (Sq.touchR tr ⟨hin,hle,hr,hs,hnu⟩=tr1):=by
    show _=_
    rw[HTR.out]
    simp[hp]
   clear HTR HTO
   go_wp2
   rw[←hw1]
   go_end0
   rw[HN.out]
   exact⟨rfl,T1.out,F1.out⟩
end
section
open Go.RowKit
theorem jQQ {ops:Array Oper}{rest:List Oper}{o:Oper}{a:Act}{Q:Exit→Act→World→Prop}{w:World}(hgd:o.guard=none)(sl x:Operand)
  (ho:o.op=.call { callee:=.builtin .append,args:=#[sl,x],argTypes:=#[57,57] }) (B:Nat) (v:Value) (es:List Sq.Ent) (hs:a.eval sl=v) (hb:EntsAt B w v es)
  (e:Sq.Ent) (g c:Nat) (hx:a.eval x=.slice (some ⟨g,0,none⟩) 1 c) (hc0:w.cell? ⟨g,0,none⟩=some (.int .i64 e.place)) (hc1:w.cell? ⟨g,1,none⟩=some (.string e.row)) (h1:es.length+1≤1000000) (hB:B≤w.heap.size)
  (h:∀v' w',EntsAt B w' v' (es++[e])→Below B w w'→wpList Tryz.prog ops Q rest (a.put o.dst v') w'):wpList Tryz.prog ops Q (o :: rest) a w:=by
 obtain⟨i0,hi,hz0,hz1,hz2⟩:=info_parts Tryz.infoEnt
 refine wpList_append_lies _ hgd sl x 57 ho B 141 i0 _ 2 24 Tryz.underlying57 hi hz0 hz1 hz2 rfl (by decide) v es.length _ hs hb ⟨g,0,none⟩ 1 c (entCells e) hx rfl (by
  intro j u hu
  rw[jQbt]
  match j,hu with
  | 0,hu=>simp[entCells] at hu;subst hu;exact hc0
  | 1,hu=>simp[entCells] at hu;subst hu;exact hc1
  | j+2,hu=>simp[entCells] at hu) (by intro u hu;simp[entCells] at hu;rcases hu with rfl | rfl <;> rfl) (by decide) (by unfold maxLen;omega) (by omega) hB _ rfl ?_
 intro g' cap w' ho' hg' _ _
 refine h _ w' ?_ (Tch.of_grown hg' (fun k hk=>(World.ownsRow.lt hb k hk).1) hB)
 unfold EntsAt
 rw[List.length_append,List.flatMap_append]
 simpa using ho'
theorem jQaw (w:World):∀m,Below w.heap.size w (w.drewN m):=by
 intro m
 induction m with
 | zero=>exact Below.refl _ _
 | succ m ih=>exact Below.drew ih
namespace Sq
theorem jQlv (es:List Ent)(e:Ent)(k:Nat)(h:k < es.length)(hl:es[k].place < e.place):withE (es.drop k) e=es[k] :: withE (es.drop (k+1)) e:=by
 rw[List.drop_eq_getElem_cons h]
 unfold withE
 rw[List.takeWhile_cons,List.dropWhile_cons]
 simp[hl]
theorem jQgW (es:List Ent)(e:Ent)(k:Nat)(hl:∀h:k < es.length,¬(es[k].place < e.place)):withE (es.drop k) e=e :: (es.drop k).filter (fun x=>x.place != e.place):=by
 by_cases h:k < es.length
 ·have:=hl h
  rw[List.drop_eq_getElem_cons h]
  unfold withE
  rw[List.takeWhile_cons,List.dropWhile_cons]
  simp[this]
 ·rw[List.drop_eq_nil_of_le (by omega)]
  rfl
theorem jQdZ (p:Ent→Bool)(es:List Ent)(k:Nat)(h:k < es.length):(es.drop k).filter p=(if p es[k] then[es[k]] else[])++(es.drop (k+1)).filter p:=by
 rw[List.drop_eq_getElem_cons h,List.filter_cons]
 split <;> simp
end Sq
theorem jQp6 (es:List Sq.Ent)(e:Sq.Ent)(v:Value)(w:World)(h:EntsAt 0 w v es)(hl:es.length≤1000) :
  Calls Tryz.prog 208 #[v,.agg #[.int .i64 e.place,.string e.row]] w fun r w'=>∃v',r=.returned v'∧EntsAt w.heap.size w' v' (Sq.withE es e)∧Below w.heap.size w w':=by
 obtain⟨ao,acap,rfl⟩:=jQa h
 have hW:Below w.heap.size w (w.alloc (.cells #[.int .i64 e.place,.string e.row] 141)):=(Below.refl _ _).alloc (Nat.le_refl _) _
 have HW:=hd hW
 have H:=hd h
 clear h hW
 go_enter Tryz.func208,Tryz.ntmps208
 go_wp2
 go_loopw [5,6] (fun v i wr=>∃k:Nat,∃acc:List Sq.Ent,k≤es.length∧i=.int .i64 k∧EntsAt (w.heap.size+1) wr v acc∧Hid (acc.length=k)∧Hid (Sq.withE es e=acc++Sq.withE (es.drop k) e)∧Below (w.heap.size+1) (w.alloc (.cells #[.int .i64 e.place,.string e.row] 141)) wr) (fun _ i _=>es.length - (intOf i).toNat)
 case atStart=>exact⟨0,[],Nat.zero_le _,rfl,World.ownsRow_nil _ _ _ _,rfl,rfl,Below.refl _ _⟩
 case round =>
  obtain⟨k,acc,hk,rfl,hacc,hal,hr,hb⟩:=hrel
  obtain⟨wo,rfl⟩:∃wo:World,wo=wr:=⟨_,rfl⟩
  obtain⟨xo,xcap,rfl⟩:=jQa hacc
  have hbw:Below w.heap.size w wo:=HW.out.trans (hb.mono (by omega))
  have a0:wo.cell? ⟨w.heap.size,0,none⟩=some (.int .i64 e.place):=(hb.cell (p:=⟨w.heap.size,0,none⟩) (by simp)).trans (by simp[go_sem])
  have a1:wo.cell? ⟨w.heap.size,1,none⟩=some (.string e.row):=(hb.cell (p:=⟨w.heap.size,1,none⟩) (by simp)).trans (by simp[go_sem])
  have hzw:w.heap.size < wo.heap.size:=by have:=hb.size;simp at this;omega
  have hal1:acc.length≤1000:=by rw[hal.out];omega
  have HB:=hd hb
  have HACC:=hd hacc
  clear hb hacc
  by_cases hlt:k < es.length
  ·obtain⟨g,cap',hv,hg,c0,c1⟩:=(H.out.below hbw).at k hlt
   simp only[Value.slice.injEq] at hv
   obtain⟨rfl,-,rfl⟩:=hv
   have i1:¬((es.length:Int)≤(k:Int)):=by omega
   have i2:decide ((k:Int) < (es.length:Int))=true:=by simpa using hlt
   obtain⟨x,hx⟩:∃x,x=es[k]:=⟨_,rfl⟩
   rw[←hx] at c0 c1
   have HX:=hd hx
   clear hx
   by_cases hless:x.place < e.place
   ·have HR:Hid (Sq.withE es e=(acc++[x])++Sq.withE (es.drop (k+1)) e):=by
     show _=_
     rw[hr.out,Sq.jQlv es e k hlt (by rw[←HX.out];exact hless),←HX.out,List.append_assoc]
     rfl
    have HAL:Hid ((acc++[x]).length=k+1):=by show _=_;rw[List.length_append,hal.out];rfl
    have i3:decide (x.place < e.place)=true:=by simpa using hless
    clear hr hal
    go_wp2
    go_quiet (fail)
    obtain⟨wq,hbq,hsq,hq⟩:∃wq,Below wo.heap.size wo wq∧wo.heap.size≤wq.heap.size∧wo.drewN nq=wq:=⟨_,jQaw _ _,(jQaw _ _).size,rfl⟩
    rw[hq]
    have d0:=((bcell hbq).1 g (k * 2) hg).trans c0
    have d1:=((bcell hbq).1 g (k * 2+1) hg).trans c1
    have hgq:g < wq.heap.size:=by omega
    have HBQ:=hd hbq
    have HA2:=hd ((HACC.out.below hbq).below ((Below.refl _ _).alloc (Nat.le_refl _) (.cells #[.int .i64 x.place,.string x.row] 141)))
    clear hq c0 c1 a0 a1 hbq
    go_wp2_with (at_builtin;refine jQQ rfl (.tmp 21) (.tmp 26) rfl (w.heap.size+1) _ acc rfl HA2.out x wq.heap.size 1 rfl (by simp[go_sem]) (by simp[go_sem]) (by omega) (by simp;omega) ?_;intro v3 w3 hown3 hb3;have HO3:=hd hown3;have HB3:=hd hb3;clear hown3 hb3)
    go_roundw
    case rel=>exact⟨k+1,acc++[x],by omega,by go_num,HO3.out,HAL,HR,HB.out.trans ((Below.mono (B':=w.heap.size+1) (HBQ.out.alloc hsq _) (by omega)).trans HB3.out)⟩
    case measure=>simp[intOf];omega
   ·have HR:Hid (Sq.withE es e=(acc++[e])++(es.drop k).filter (fun x=>x.place != e.place)):=by
     show _=_
     rw[hr.out,Sq.jQgW es e k (fun _=>by rw[←HX.out];exact hless),List.append_assoc]
     rfl
    have HAL:Hid ((acc++[e]).length=k+1):=by show _=_;rw[List.length_append,hal.out];rfl
    have i3:decide (x.place < e.place)=false:=by simpa using hless
    clear hr hal
    go_wp2
    go_quiet (fail)
    obtain⟨wq,hbq,hsq,hq⟩:∃wq,Below wo.heap.size wo wq∧wo.heap.size≤wq.heap.size∧wo.drewN nq=wq:=⟨_,jQaw _ _,(jQaw _ _).size,rfl⟩
    rw[hq]
    have a0q:=((bcell hbq).1 w.heap.size 0 hzw).trans a0
    have a1q:=((bcell hbq).1 w.heap.size 1 hzw).trans a1
    have hgq:w.heap.size < wq.heap.size:=by omega
    have HBQ:=hd hbq
    have HA2:=hd ((HACC.out.below hbq).below ((Below.refl _ _).alloc (Nat.le_refl _) (.cells #[.int .i64 e.place,.string e.row] 141)))
    clear hq c0 c1 a0 a1 hbq
    go_wp2_with (at_builtin;refine jQQ rfl (.tmp 30) (.tmp 32) rfl (w.heap.size+1) _ acc rfl HA2.out e wq.heap.size 1 rfl (by simp[go_sem]) (by simp[go_sem]) (by omega) (by simp;omega) ?_;intro v3 w3 hown3 hb3;have HO3:=hd hown3;have HB3:=hd hb3;clear hown3 hb3)
    go_loopw [5,6] (fun v i wr=>∃j:Nat,∃ac:List Sq.Ent,j≤es.length∧i=.int .i64 j∧EntsAt (w.heap.size+1) wr v ac∧ac.length≤j+1∧Hid (Sq.withE es e=ac++(es.drop j).filter (fun x=>x.place != e.place))∧Below (w.heap.size+1) (w.alloc (.cells #[.int .i64 e.place,.string e.row] 141)) wr) (fun _ i _=>es.length - (intOf i).toNat)
    case atStart=>exact⟨k,acc++[e],hk,rfl,HO3.out,Nat.le_of_eq HAL.out,HR,HB.out.trans ((Below.mono (B':=w.heap.size+1) (HBQ.out.alloc hsq _) (by omega)).trans HB3.out)⟩
    case round =>
     obtain⟨j,ac,hj,rfl,hac,hacl,hr2,hb4⟩:=hrel
     obtain⟨yo,ycap,rfl⟩:=jQa hac
     have hbw4:Below w.heap.size w wr:=HW.out.trans (hb4.mono (by omega))
     have a0:wr.cell? ⟨w.heap.size,0,none⟩=some (.int .i64 e.place):=(hb4.cell (p:=⟨w.heap.size,0,none⟩) (by simp)).trans (by simp[go_sem])
     have hzw4:w.heap.size < wr.heap.size:=by have:=hb4.size;simp at this;omega
     have HB4:=hd hb4
     have HAC:=hd hac
     clear hb4 hac
     by_cases hjt:j < es.length
     ·obtain⟨g4,cap4,hv,hg4,c0,c1⟩:=(H.out.below hbw4).at j hjt
      simp only[Value.slice.injEq] at hv
      obtain⟨hv1,-,hv2⟩:=hv
      have HFD:=hd (Sq.jQdZ (fun x=>x.place != e.place) es j hjt)
      obtain⟨y,hy⟩:∃x,x=es[j]:=⟨_,rfl⟩
      have hfd:=HFD.out
      rw[←hy] at c0 c1 hfd
      have HFD2:=hd hfd
      have i1:¬((es.length:Int)≤(j:Int)):=by omega
      obtain⟨rfl,rfl⟩:g4=g∧cap4=acap:=⟨by simpa using hv1.symm,hv2.symm⟩
      clear hfd HFD hy
      cases hne:y.place != e.place
      case false =>
       have HR2:Hid (Sq.withE es e=ac++(es.drop (j+1)).filter (fun x=>x.place != e.place)):=by show _=_;rw[hr2.out,HFD2.out];simp only[hne];simp
       clear hr2
       go_wp2
       go_quiet (fail)
       obtain⟨wq4,hbq4,hsq4,hq4⟩:∃wq,Below wr.heap.size wr wq∧wr.heap.size≤wq.heap.size∧wr.drewN nq=wq:=⟨_,jQaw _ _,(jQaw _ _).size,rfl⟩
       rw[hq4]
       have HBQ4:=hd hbq4
       clear hq4 hbq4 c0 c1 a0
       go_wp2
       go_roundw
       case rel=>exact⟨j+1,ac,by omega,by go_num,HAC.out.below HBQ4.out,by omega,HR2,HB4.out.trans (HBQ4.out.mono (by omega))⟩
       case measure=>simp[intOf];omega
      case true =>
       have HR2:Hid (Sq.withE es e=(ac++[y])++(es.drop (j+1)).filter (fun x=>x.place != e.place)):=by show _=_;rw[hr2.out,HFD2.out];simp only[hne];simp
       clear hr2
       go_wp2
       go_quiet (fail)
       obtain⟨wq4,hbq4,hsq4,hq4⟩:∃wq,Below wr.heap.size wr wq∧wr.heap.size≤wq.heap.size∧wr.drewN nq=wq:=⟨_,jQaw _ _,(jQaw _ _).size,rfl⟩
       rw[hq4]
       have e0:=((bcell hbq4).1 g4 (j * 2) hg4).trans c0
       have e1:=((bcell hbq4).1 g4 (j * 2+1) hg4).trans c1
       have hg5:g4 < wq4.heap.size:=by omega
       have HBQ4:=hd hbq4
       have HA4:=hd ((HAC.out.below hbq4).below ((Below.refl _ _).alloc (Nat.le_refl _) (.cells #[.int .i64 y.place,.string y.row] 141)))
       clear hq4 hbq4 c0 c1 a0
       go_wp2_with (at_builtin;refine jQQ rfl (.tmp 48) (.tmp 53) rfl (w.heap.size+1) _ ac rfl HA4.out y wq4.heap.size 1 rfl (by simp[go_sem]) (by simp[go_sem]) (by omega) (by simp;omega) ?_;intro v5 w5 hown5 hb5;have HO5:=hd hown5;have HB5:=hd hb5;clear hown5 hb5)
       go_roundw
       case rel=>exact⟨j+1,ac++[y],by omega,by go_num,HO5.out,by rw[List.length_append];simp;omega,HR2,HB4.out.trans ((Below.mono (B':=w.heap.size+1) (HBQ4.out.alloc hsq4 _) (by omega)).trans HB5.out)⟩
       case measure=>simp[intOf];omega
     ·have HE:Hid (Sq.withE es e=ac):=by show _=_;rw[hr2.out,List.drop_eq_nil_of_le (by omega)];simp
      clear hr2
      go_wp2
      go_ret
      exact⟨_,rfl,by rw[HE.out];exact HAC.out.base (by omega),hbw4⟩
  ·have HR:Hid (Sq.withE es e=(acc++[e])++(es.drop k).filter (fun x=>x.place != e.place)):=by
    show _=_
    rw[hr.out,Sq.jQgW es e k (fun h=>absurd h hlt),List.append_assoc]
    rfl
   have HAL:Hid ((acc++[e]).length=k+1):=by show _=_;rw[List.length_append,hal.out];rfl
   have i2:decide ((k:Int) < (es.length:Int))=false:=by simpa using hlt
   clear hr hal
   go_wp2
   go_quiet (fail)
   obtain⟨wq,hbq,hsq,hq⟩:∃wq,Below wo.heap.size wo wq∧wo.heap.size≤wq.heap.size∧wo.drewN nq=wq:=⟨_,jQaw _ _,(jQaw _ _).size,rfl⟩
   rw[hq]
   have a0q:=((bcell hbq).1 w.heap.size 0 hzw).trans a0
   have a1q:=((bcell hbq).1 w.heap.size 1 hzw).trans a1
   have hgq:w.heap.size < wq.heap.size:=by omega
   have HBQ:=hd hbq
   have HA2:=hd ((HACC.out.below hbq).below ((Below.refl _ _).alloc (Nat.le_refl _) (.cells #[.int .i64 e.place,.string e.row] 141)))
   clear hq a0 a1 hbq
   go_wp2_with (at_builtin;refine jQQ rfl (.tmp 30) (.tmp 32) rfl (w.heap.size+1) _ acc rfl HA2.out e wq.heap.size 1 rfl (by simp[go_sem]) (by simp[go_sem]) (by omega) (by simp;omega) ?_;intro v3 w3 hown3 hb3;have HO3:=hd hown3;have HB3:=hd hb3;clear hown3 hb3)
   go_loopw [5,6] (fun v i wr=>∃j:Nat,∃ac:List Sq.Ent,j≤es.length∧i=.int .i64 j∧EntsAt (w.heap.size+1) wr v ac∧ac.length≤j+1∧Hid (Sq.withE es e=ac++(es.drop j).filter (fun x=>x.place != e.place))∧Below (w.heap.size+1) (w.alloc (.cells #[.int .i64 e.place,.string e.row] 141)) wr) (fun _ i _=>es.length - (intOf i).toNat)
   case atStart=>exact⟨k,acc++[e],hk,rfl,HO3.out,Nat.le_of_eq HAL.out,HR,HB.out.trans ((Below.mono (B':=w.heap.size+1) (HBQ.out.alloc hsq _) (by omega)).trans HB3.out)⟩
   case round =>
    obtain⟨j,ac,hj,rfl,hac,hacl,hr2,hb4⟩:=hrel
    obtain⟨yo,ycap,rfl⟩:=jQa hac
    have hbw4:Below w.heap.size w wr:=HW.out.trans (hb4.mono (by omega))
    have a0:wr.cell? ⟨w.heap.size,0,none⟩=some (.int .i64 e.place):=(hb4.cell (p:=⟨w.heap.size,0,none⟩) (by simp)).trans (by simp[go_sem])
    have hzw4:w.heap.size < wr.heap.size:=by have:=hb4.size;simp at this;omega
    have HB4:=hd hb4
    have HAC:=hd hac
    clear hb4 hac
    by_cases hjt:j < es.length
    ·obtain⟨g4,cap4,hv,hg4,c0,c1⟩:=(H.out.below hbw4).at j hjt
     simp only[Value.slice.injEq] at hv
     obtain⟨hv1,-,hv2⟩:=hv
     have HFD:=hd (Sq.jQdZ (fun x=>x.place != e.place) es j hjt)
     obtain⟨y,hy⟩:∃x,x=es[j]:=⟨_,rfl⟩
     have hfd:=HFD.out
     rw[←hy] at c0 c1 hfd
     have HFD2:=hd hfd
     have i1:¬((es.length:Int)≤(j:Int)):=by omega
     obtain rfl:=hv1;obtain rfl:=hv2
     clear hfd HFD hy
     cases hne:y.place != e.place
     case false =>
      have HR2:Hid (Sq.withE es e=ac++(es.drop (j+1)).filter (fun x=>x.place != e.place)):=by show _=_;rw[hr2.out,HFD2.out];simp only[hne];simp
      clear hr2
      go_wp2
      go_quiet (fail)
      obtain⟨wq4,hbq4,hsq4,hq4⟩:∃wq,Below wr.heap.size wr wq∧wr.heap.size≤wq.heap.size∧wr.drewN nq=wq:=⟨_,jQaw _ _,(jQaw _ _).size,rfl⟩
      rw[hq4]
      have HBQ4:=hd hbq4
      clear hq4 hbq4 c0 c1 a0
      go_wp2
      go_roundw
      case rel=>exact⟨j+1,ac,by omega,by go_num,HAC.out.below HBQ4.out,by omega,HR2,HB4.out.trans (HBQ4.out.mono (by omega))⟩
      case measure=>simp[intOf];omega
     case true =>
      have HR2:Hid (Sq.withE es e=(ac++[y])++(es.drop (j+1)).filter (fun x=>x.place != e.place)):=by show _=_;rw[hr2.out,HFD2.out];simp only[hne];simp
      clear hr2
      go_wp2
      go_quiet (fail)
      obtain⟨wq4,hbq4,hsq4,hq4⟩:∃wq,Below wr.heap.size wr wq∧wr.heap.size≤wq.heap.size∧wr.drewN nq=wq:=⟨_,jQaw _ _,(jQaw _ _).size,rfl⟩
      rw[hq4]
      have e0:=((bcell hbq4).1 g4 (j * 2) hg4).trans c0
      have e1:=((bcell hbq4).1 g4 (j * 2+1) hg4).trans c1
      have hg5:g4 < wq4.heap.size:=by omega
      have HBQ4:=hd hbq4
      have HA4:=hd ((HAC.out.below hbq4).below ((Below.refl _ _).alloc (Nat.le_refl _) (.cells #[.int .i64 y.place,.string y.row] 141)))
      clear hq4 hbq4 c0 c1 a0
      go_wp2_with (at_builtin;refine jQQ rfl (.tmp 48) (.tmp 53) rfl (w.heap.size+1) _ ac rfl HA4.out y wq4.heap.size 1 rfl (by simp[go_sem]) (by simp[go_sem]) (by omega) (by simp;omega) ?_;intro v5 w5 hown5 hb5;have HO5:=hd hown5;have HB5:=hd hb5;clear hown5 hb5)
      go_roundw
      case rel=>exact⟨j+1,ac++[y],by omega,by go_num,HO5.out,by rw[List.length_append];simp;omega,HR2,HB4.out.trans ((Below.mono (B':=w.heap.size+1) (HBQ4.out.alloc hsq4 _) (by omega)).trans HB5.out)⟩
      case measure=>simp[intOf];omega
    ·have HE:Hid (Sq.withE es e=ac):=by show _=_;rw[hr2.out,List.drop_eq_nil_of_le (by omega)];simp
     clear hr2
     go_wp2
     go_ret
     exact⟨_,rfl,by rw[HE.out];exact HAC.out.base (by omega),hbw4⟩
end
section
open Go.RowKit
theorem jQk0 (es:List Sq.Ent)(p:Int)(v:Value)(w:World)(h:EntsAt 0 w v es)(hl:es.length≤1000) :
  Calls Tryz.prog 211 #[v,.int .i64 p] w fun r w'=>∃v',r=.returned v'∧EntsAt w.heap.size w' v' (es.filter fun x=>x.place != p)∧Below w.heap.size w w':=by
 obtain⟨ao,acap,rfl⟩:=jQa h
 have H:=hd h
 clear h
 go_enter Tryz.func211,Tryz.ntmps211
 go_wp2
 go_loopw [5,6] (fun v i wr=>∃k:Nat,∃acc:List Sq.Ent,k≤es.length∧i=.int .i64 k∧EntsAt w.heap.size wr v acc∧acc.length≤k∧Hid ((es.filter fun x=>x.place != p)=acc++(es.drop k).filter fun x=>x.place != p)∧Below w.heap.size w wr) (fun _ i _=>es.length - (intOf i).toNat)
 case atStart=>exact⟨0,[],Nat.zero_le _,rfl,World.ownsRow_nil _ _ _ _,Nat.le_refl _,rfl,Below.refl _ _⟩
 case round =>
  obtain⟨j,ac,hj,rfl,hac,hacl,hr2,hb4⟩:=hrel
  obtain⟨yo,ycap,rfl⟩:=jQa hac
  have hzw:=hb4.size
  have HB4:=hd hb4
  have HAC:=hd hac
  clear hb4 hac
  by_cases hjt:j < es.length
  ·obtain⟨g4,cap4,hv,hg4,c0,c1⟩:=(H.out.below HB4.out).at j hjt
   simp only[Value.slice.injEq] at hv
   obtain⟨rfl,-,rfl⟩:=hv
   have HFD:=hd (Sq.jQdZ (fun x=>x.place != p) es j hjt)
   obtain⟨y,hy⟩:∃x,x=es[j]:=⟨_,rfl⟩
   have hfd:=HFD.out
   rw[←hy] at c0 c1 hfd
   have HFD2:=hd hfd
   clear hfd HFD hy
   cases hne:y.place != p
   case false =>
    have HR2:Hid ((es.filter fun x=>x.place != p)=ac++(es.drop (j+1)).filter fun x=>x.place != p):=by show _=_;rw[hr2.out,HFD2.out];simp only[hne];simp
    clear hr2
    go_wp2
    go_roundw
    case rel=>exact⟨j+1,ac,by omega,by go_num,HAC.out,by omega,HR2,HB4.out⟩
    case measure=>simp[intOf];omega
   case true =>
    have HR2:Hid ((es.filter fun x=>x.place != p)=(ac++[y])++(es.drop (j+1)).filter fun x=>x.place != p):=by show _=_;rw[hr2.out,HFD2.out];simp only[hne];simp
    have HA4:=hd (HAC.out.below ((Below.refl _ _).alloc (Nat.le_refl _) (.cells #[.int .i64 y.place,.string y.row] 141)))
    clear hr2
    go_wp2_with (at_builtin;refine jQQ rfl (.tmp 20) (.tmp 25) rfl w.heap.size _ ac rfl HA4.out y wr.heap.size 1 rfl (by simp[go_sem]) (by simp[go_sem]) (by omega) (by simp;omega) ?_;intro v5 w5 hown5 hb5;have HO5:=hd hown5;have HB5:=hd hb5;clear hown5 hb5)
    go_roundw
    case rel=>exact⟨j+1,ac++[y],by omega,by go_num,HO5.out,by rw[List.length_append];simp;omega,HR2,HB4.out.trans ((Below.mono (B':=w.heap.size) ((Below.refl _ _).alloc (Nat.le_refl _) _) hzw).trans HB5.out)⟩
    case measure=>simp[intOf];omega
  ·have HE:Hid ((es.filter fun x=>x.place != p)=ac):=by show _=_;rw[hr2.out,List.drop_eq_nil_of_le (by omega)];simp
   clear hr2
   go_wp2
   go_ret
   exact⟨_,rfl,by rw[HE.out];exact HAC.out,HB4.out⟩
theorem jQS {ops:Array Oper}{rest:List Oper}{o:Oper}{a:Act}{Q:Exit→Act→World→Prop}{w:World}(hgd:o.guard=none)(sl x:Operand)
  (ho:o.op=.call { callee:=.builtin .append,args:=#[sl,x],argTypes:=#[58,58] }) (B:Nat) (v:Value) (n:Nat) (l:List (Sq.Nd n×Value×Value)) (hs:a.eval sl=v) (hb:w.ownsRow B 60 7 v l.length (l.flatMap (nodeCells n)))
  (m:List (Sq.Nd n×Value×Value)) (sv:Value) (hx:a.eval x=sv) (hrd:Reads w sv m.length 7 (m.flatMap (nodeCells n))) (hone:∀u∈m.flatMap (nodeCells n),u.oneCell'=true) (hm:0 < m.length) (h1:l.length+m.length≤1000000) (hB:B≤w.heap.size)
  (h:∀v' w',w'.ownsRow B 60 7 v' (l++m).length ((l++m).flatMap (nodeCells n))→Below B w w'→wpList Tryz.prog ops Q rest (a.put o.dst v') w'):wpList Tryz.prog ops Q (o :: rest) a w:=by
 obtain⟨i0,hi,hz0,hz1,hz2⟩:=info_parts Tryz.infoNode
 rcases hrd.2 with⟨_,h0⟩ | ⟨g,off,cap,rfl,_,hc⟩
 ·omega
 refine wpList_append_lies _ hgd sl x 58 ho B 60 i0 _ 7 96 Tryz.underlying58 hi hz0 hz1 hz2 rfl (by decide) v l.length _ hs hb ⟨g,off,none⟩ m.length cap (m.flatMap (nodeCells n)) hx hrd.1 (by
  intro j u hu
  rw[jQbt]
  exact hc j u hu) hone hm (by unfold maxLen;omega) (by omega) hB _ rfl ?_
 intro g' cap w' ho' hg' _ _
 refine h _ w' ?_ (Tch.of_grown hg' (fun k hk=>(World.ownsRow.lt hb k hk).1) hB)
 rw[List.length_append,List.flatMap_append]
 exact ho'
theorem jQcR (w:World)(e:TypeId)(cs:Array Value)(l:List Value)(n size:Nat)(hl:cs.toList=l)(h:l.length=n * size):Reads (w.alloc (.cells cs e)) (.slice (some ⟨w.heap.size,0,none⟩) n n) n size l:=by
 refine⟨h,Or.inr ⟨w.heap.size,0,n,rfl,by simp,fun j u hj=>?_⟩⟩
 have:=jQB w cs e l hl rfl j u hj
 rwa [jQbt] at this
end
end Go.Proofs.YtahpihjialbanaaGreatDoor
