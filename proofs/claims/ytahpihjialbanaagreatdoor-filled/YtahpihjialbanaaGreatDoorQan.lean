import Derived.Test.YtahpihjialbanaaGreatDoorQam
set_option linter.unusedVariables false
set_option linter.unusedSimpArgs false
set_option maxRecDepth 100000
set_option maxHeartbeats 4000000
namespace Go.Proofs.YtahpihjialbanaaGreatDoor
section
open Go.RowKit
variable {Z:Nat→Prop}
def ListSays (Z:Nat→Prop)(tb n:Nat)(x:List (Sq.Nd n)×Sq.Trl)(w:World)(e:Ending)(w':World):Prop:=∃v k,e=.returned v∧k.map Prod.fst=x.1∧NodesAt Z 0 w' v n k∧TrAt tb w' x.2∧TFrm tb w w'
theorem jQm6 {α:Type}(f:α→Sq.Head)(tg:α→α→List α)(cs:List α)(a b:Nat)(tr:Sq.Trl)(h2:b+1 < cs.length)(hb:b=Sq.joinAt cs.length a)(hne:¬(a+1=cs.length∧a=0)):Sq.joinedF f tg cs a tr=(Sq.exch cs b 2 (tg cs[b] cs[b+1]),Sq.touchR (Sq.touchR tr (f cs[b])) (f cs[b+1])):=by
 unfold Sq.joinedF
 rw[←hb,if_neg (by simpa using hne),List.getElem?_eq_getElem (by omega),List.getElem?_eq_getElem (by omega)]
theorem jQm2 (n:Nat)(l:List (Sq.Nd n×Value×Value))(v:Value)(a:Nat)(tb:Nat)(tr:Sq.Trl)(w:World)(h:NodesAt Z 0 w v n l)(hl:l.length≤400)(h2:2≤l.length)(ha:a < l.length)(ht:TrAt tb w tr)(hroom:tr.nums.length+2≤100000)(htl:∀x∈l,∀y∈l,(Sq.togetherN n x.1 y.1).length≤2)
  (htog:∀x∈l,∀y∈l,∀w',NodeAt Z w' n x.1 x.2.1 x.2.2→NodeAt Z w' n y.1 y.2.1 y.2.2→w.heap.size≤w'.heap.size→Calls Tryz.prog 225 #[.agg (nodeCells n x).toArray,.agg (nodeCells n y).toArray] w' fun e w''=>∃v l,e=.returned v∧l.map Prod.fst=Sq.togetherN n x.1 y.1∧NodesAt Z w'.heap.size w'' v n l∧Below w'.heap.size w' w'') :
  Calls Tryz.prog 212 #[v,.int .i64 a,.pointer (some ⟨tb,0,none⟩)] w (ListSays Z tb n (Sq.joinedF (Sq.headN n) (Sq.togetherN n) (l.map Prod.fst) a tr) w):=by
 obtain⟨ao,acap,rfl⟩:=jQa h.own
 obtain⟨b,hb⟩:∃b,b=(if a+1==l.length then a - 1 else a):=⟨_,rfl⟩
 have hb1:b+1 < l.length:=by
  rw[hb]
  by_cases h:a+1=l.length
  ·simp[h];omega
  ·simp[h];omega
 have HE:Hid (Sq.joinedF (Sq.headN n) (Sq.togetherN n) (l.map Prod.fst) a tr=(Sq.exch (l.map Prod.fst) b 2 (Sq.togetherN n l[b].1 l[b+1].1),Sq.touchR (Sq.touchR tr (Sq.headN n l[b].1)) (Sq.headN n l[b+1].1))):=by
  show _=_
  rw[jQm6 (Sq.headN n) (Sq.togetherN n) (l.map Prod.fst) a b tr (by simpa using hb1) (by unfold Sq.joinAt;simpa using hb) (by rw[List.length_map];omega),List.getElem_map,List.getElem_map]
 obtain⟨g,cap',ea,el,ec,ca,cl,cc,hv,hg,⟨d0,d1,d2,d3,d4,dsl,dnu⟩,d5,d6⟩:=h.at b (by omega)
 simp only[Value.slice.injEq] at hv
 obtain⟨rfl,-,rfl⟩:=hv
 obtain⟨g2,cap2,ea2,el2,ec2,ca2,cl2,cc2,hv2,hg2,⟨e0,e1,e2,e3,e4,esl,enu⟩,e5,e6⟩:=h.at (b+1) hb1
 simp only[Value.slice.injEq,Option.some.injEq,Addr.mk.injEq] at hv2
 obtain⟨⟨rfl,-,-⟩,-,rfl⟩:=hv2
 have hm1:=List.getElem_mem (l:=l) (n:=b) (by omega)
 have hm2:=List.getElem_mem hb1
 have htl2:=htl _ hm1 _ hm2
 have htog2:=htog _ hm1 _ hm2
 obtain⟨t1,ht1⟩:∃x,x=l[b]:=⟨_,rfl⟩
 obtain⟨t2,ht2⟩:∃x,x=l[b+1]:=⟨_,rfl⟩
 have he:=HE.out
 rw[←ht1] at he d0 d3 d4 dsl dnu d5 d6 htl2 htog2
 rw[←ht2] at he e0 e3 e4 esl enu e5 e6 htl2 htog2
 obtain⟨t1,evx,cvx⟩:=t1
 obtain⟨t2,evy,cvy⟩:=t2
 simp only[Prod.mk.injEq] at d5 e5
 obtain⟨rfl,rfl⟩:=d5
 obtain⟨rfl,rfl⟩:=e5
 simp only at he d0 d3 d4 dsl dnu d6 e0 e3 e4 esl enu e6 htl2 htog2
 have hgl:=jQoG h.own
 obtain⟨cur,hcur⟩:∃cur:Array Value,w.heap[g]?=some (.cells cur 60):=by
  rcases h.own.2 with⟨h0,_⟩ | ⟨g',cap,cur,hv,hbg,hh,_⟩
  ·simp at h0
  ·simp only[Value.slice.injEq,Option.some.injEq,Addr.mk.injEq] at hv
   rw[hv.1.1]
   exact⟨cur,hh⟩
 have HE2:=hd he
 have H:=hd h
 have HN1:=hd d6
 have HN2:=hd e6
 have HTL:=hd htl2
 have HTG:=hd htog2
 have HT:=hd ht
 have HCUR:=hd hcur
 have hlt:=ht.lt
 have i1:¬((l.length:Int)≤(b:Int)):=by omega
 have i2:¬((l.length:Int)≤(b:Int)+1):=by omega
 have i3:¬((b:Int) < 0):=by omega
 have i4:decide ((b:Int) < 0)=false:=by simp
 have i6:IntKind.i64.wrap ((b:Int)+1)=((b+1:Nat):Int):=by simp[IntKind.wrap,IntKind.bits,IntKind.signed];omega
 have i5:decide ((l.length:Int)≤(b:Int)+1)=false:=by simp;omega
 obtain⟨h1,hh1⟩:∃x,x=Sq.headN n t1:=⟨_,rfl⟩
 obtain⟨h2',hh2⟩:∃x,x=Sq.headN n t2:=⟨_,rfl⟩
 rw[←hh1] at d0 d3 d4 dsl dnu
 rw[←hh2] at e0 e3 e4 esl enu
 have he2:=HE2.out
 have hcellA:nodeCells n (t1,.slice ea el ec,.slice ca cl cc)=headCells h1 (.slice ea el ec) (.slice ca cl cc):=by rw[hh1];rfl
 have hcellB:nodeCells n (t2,.slice ea2 el2 ec2,.slice ca2 cl2 cc2)=headCells h2' (.slice ea2 el2 ec2) (.slice ca2 cl2 cc2):=by rw[hh2];rfl
 rw[←hh1,←hh2] at he2
 have htg:=HTG.out
 rw[hcellA,hcellB,jQc,jQc] at htg
 have HE3:=hd he2
 have HTG2:=hd htg
 have hlen1:=jQoe tr h1
 clear h he he2 HE HE2 ht1 ht2 d6 e6 htl2 htog2 htog htl hm1 hm2 ht hcur HTG hh1 hh2 hcellA hcellB htg
 by_cases hal:a+1=l.length
 ·have hba:b=a - 1:=by rw[hb];simp[hal]
  have j1:((a:Int)==(l.length:Int) - 1)=true:=by simp;omega
  have j2:(a:Int) - 1=(b:Int):=by omega
  clear hb hba
  go_enter Tryz.func212,Tryz.ntmps212
  go_wp2_with fail
  refine(jQam tb tr h1 _ _ w ⟨_,_,_,rfl⟩ ⟨_,_,_,rfl⟩ HT.out (by omega)).mono ?_
  rintro e w1 ⟨rfl,ht1,hf1⟩
  have hcur1:=(hf1.keep g _ _ _ HCUR.out (by decide) (by decide)).trans HCUR.out
  obtain⟨a0,a1,a2,a3,a4,a5,a6⟩:SevenAt w1 g ((b+1) * 7) h2' (.slice ea2 el2 ec2) (.slice ca2 cl2 cc2):=⟨by rw[jQb hcur1,←jQb HCUR.out];exact e0,by rw[jQb hcur1,←jQb HCUR.out];exact e1,by rw[jQb hcur1,←jQb HCUR.out];exact e2,by rw[jQb hcur1,←jQb HCUR.out];exact e3,by rw[jQb hcur1,←jQb HCUR.out];exact e4,by rw[jQb hcur1,←jQb HCUR.out];exact esl,by rw[jQb hcur1,←jQb HCUR.out];exact enu⟩
  have hz1:=jQg hcur1
  have T1:=hd ht1
  have F1:=hd hf1
  clear hcur1 ht1 hf1
  go_wp2_with fail
  refine(jQam tb (Sq.touchR tr h1) h2' _ _ w1 ⟨_,_,_,rfl⟩ ⟨_,_,_,rfl⟩ T1.out (by omega)).mono ?_
  rintro e w2 ⟨rfl,ht2,hf2⟩
  have hf12:=F1.out.trans hf2
  have hcur2:=(hf12.keep g _ _ _ HCUR.out (by decide) (by decide)).trans HCUR.out
  obtain⟨b0,b1,b2,b3,b4,b5,b6⟩:SevenAt w2 g ((b+1) * 7) h2' (.slice ea2 el2 ec2) (.slice ca2 cl2 cc2):=⟨by rw[jQb hcur2,←jQb HCUR.out];exact e0,by rw[jQb hcur2,←jQb HCUR.out];exact e1,by rw[jQb hcur2,←jQb HCUR.out];exact e2,by rw[jQb hcur2,←jQb HCUR.out];exact e3,by rw[jQb hcur2,←jQb HCUR.out];exact e4,by rw[jQb hcur2,←jQb HCUR.out];exact esl,by rw[jQb hcur2,←jQb HCUR.out];exact enu⟩
  obtain⟨c0,c1,c2,c3,c4,c5,c6⟩:SevenAt w2 g (b * 7) h1 (.slice ea el ec) (.slice ca cl cc):=⟨by rw[jQb hcur2,←jQb HCUR.out];exact d0,by rw[jQb hcur2,←jQb HCUR.out];exact d1,by rw[jQb hcur2,←jQb HCUR.out];exact d2,by rw[jQb hcur2,←jQb HCUR.out];exact d3,by rw[jQb hcur2,←jQb HCUR.out];exact d4,by rw[jQb hcur2,←jQb HCUR.out];exact dsl,by rw[jQb hcur2,←jQb HCUR.out];exact dnu⟩
  have hz2:=jQg hcur2
  have T2:=hd ht2
  have F2:=hd hf12
  have H2:=hd (H.out.tfrm hf12)
  have N1:=hd (HN1.out.tfrm hf12)
  have N2:=hd (HN2.out.tfrm hf12)
  have hs2:=hf12.below_lt
  clear hcur2 ht2 hf2 hf12 a0 a1 a2 a3 a4 a5 a6 d0 d1 d2 d3 d4 dsl dnu e0 e1 e2 e3 e4 esl enu HT T1 F1 H HN1 HN2
  go_wp2
  go_region_with (first
   | (go_at_call 225;refine(HTG2.out w2.drew (N1.out.below (Below.drew (Below.refl _ _))) (N2.out.below (Below.drew (Below.refl _ _))) hs2).mono ?_;rintro e w3 ⟨v3,k,rfl,hm3,hn3,hb3⟩;obtain⟨ko,kcap,rfl⟩:=jQa hn3.own;have hb3':Below w2.heap.size w2 w3:=(Below.drew (Below.refl _ _)).trans hb3;have hkA:k.length≤2:=(by have h1:=congrArg List.length hm3;rw[List.length_map] at h1;have h2:=HTL.out;omega);have HB3:=hd hb3';have HNK:=hd hn3;have HM3:=hd hm3;clear hb3 hb3' hn3 hm3)
   | (go_at_call 210;refine(jQaK n l k _ _ b 2 _ (H2.out.below HB3.out) (HNK.out.base (Nat.zero_le _)) (by omega) (by omega) (by omega) (by omega)).mono ?_;rintro e w4 ⟨v4,rfl,hn4,hb4⟩))
  all_goals
   go_wp2
   go_ret
   have hb34:=HB3.out.trans (hb4.mono HB3.out.size)
   exact⟨_,Sq.exch l b 2 k,rfl,by rw[HE3.out,Sq.jQgy,HM3.out],hn4.base (Nat.zero_le _),by rw[HE3.out];exact T2.out.below hb34,F2.out.trans (TFrm.of hb34 (by have:=T2.out.lt;omega))⟩
 ·have hba:b=a:=by rw[hb];simp[hal]
  subst hba
  have j1:((b:Int)==(l.length:Int) - 1)=false:=by simp;omega
  clear hb
  go_enter Tryz.func212,Tryz.ntmps212
  go_wp2_with fail
  refine(jQam tb tr h1 _ _ w ⟨_,_,_,rfl⟩ ⟨_,_,_,rfl⟩ HT.out (by omega)).mono ?_
  rintro e w1 ⟨rfl,ht1,hf1⟩
  have hcur1:=(hf1.keep g _ _ _ HCUR.out (by decide) (by decide)).trans HCUR.out
  obtain⟨a0,a1,a2,a3,a4,a5,a6⟩:SevenAt w1 g ((b+1) * 7) h2' (.slice ea2 el2 ec2) (.slice ca2 cl2 cc2):=⟨by rw[jQb hcur1,←jQb HCUR.out];exact e0,by rw[jQb hcur1,←jQb HCUR.out];exact e1,by rw[jQb hcur1,←jQb HCUR.out];exact e2,by rw[jQb hcur1,←jQb HCUR.out];exact e3,by rw[jQb hcur1,←jQb HCUR.out];exact e4,by rw[jQb hcur1,←jQb HCUR.out];exact esl,by rw[jQb hcur1,←jQb HCUR.out];exact enu⟩
  have hz1:=jQg hcur1
  have T1:=hd ht1
  have F1:=hd hf1
  clear hcur1 ht1 hf1
  go_wp2_with fail
  refine(jQam tb (Sq.touchR tr h1) h2' _ _ w1 ⟨_,_,_,rfl⟩ ⟨_,_,_,rfl⟩ T1.out (by omega)).mono ?_
  rintro e w2 ⟨rfl,ht2,hf2⟩
  have hf12:=F1.out.trans hf2
  have hcur2:=(hf12.keep g _ _ _ HCUR.out (by decide) (by decide)).trans HCUR.out
  obtain⟨b0,b1,b2,b3,b4,b5,b6⟩:SevenAt w2 g ((b+1) * 7) h2' (.slice ea2 el2 ec2) (.slice ca2 cl2 cc2):=⟨by rw[jQb hcur2,←jQb HCUR.out];exact e0,by rw[jQb hcur2,←jQb HCUR.out];exact e1,by rw[jQb hcur2,←jQb HCUR.out];exact e2,by rw[jQb hcur2,←jQb HCUR.out];exact e3,by rw[jQb hcur2,←jQb HCUR.out];exact e4,by rw[jQb hcur2,←jQb HCUR.out];exact esl,by rw[jQb hcur2,←jQb HCUR.out];exact enu⟩
  obtain⟨c0,c1,c2,c3,c4,c5,c6⟩:SevenAt w2 g (b * 7) h1 (.slice ea el ec) (.slice ca cl cc):=⟨by rw[jQb hcur2,←jQb HCUR.out];exact d0,by rw[jQb hcur2,←jQb HCUR.out];exact d1,by rw[jQb hcur2,←jQb HCUR.out];exact d2,by rw[jQb hcur2,←jQb HCUR.out];exact d3,by rw[jQb hcur2,←jQb HCUR.out];exact d4,by rw[jQb hcur2,←jQb HCUR.out];exact dsl,by rw[jQb hcur2,←jQb HCUR.out];exact dnu⟩
  have hz2:=jQg hcur2
  have T2:=hd ht2
  have F2:=hd hf12
  have H2:=hd (H.out.tfrm hf12)
  have N1:=hd (HN1.out.tfrm hf12)
  have N2:=hd (HN2.out.tfrm hf12)
  have hs2:=hf12.below_lt
  clear hcur2 ht2 hf2 hf12 a0 a1 a2 a3 a4 a5 a6 d0 d1 d2 d3 d4 dsl dnu e0 e1 e2 e3 e4 esl enu HT T1 F1 H HN1 HN2
  go_wp2
  go_region_with (first
   | (go_at_call 225;refine(HTG2.out w2.drew (N1.out.below (Below.drew (Below.refl _ _))) (N2.out.below (Below.drew (Below.refl _ _))) hs2).mono ?_;rintro e w3 ⟨v3,k,rfl,hm3,hn3,hb3⟩;obtain⟨ko,kcap,rfl⟩:=jQa hn3.own;have hb3':Below w2.heap.size w2 w3:=(Below.drew (Below.refl _ _)).trans hb3;have hkA:k.length≤2:=(by have h1:=congrArg List.length hm3;rw[List.length_map] at h1;have h2:=HTL.out;omega);have HB3:=hd hb3';have HNK:=hd hn3;have HM3:=hd hm3;clear hb3 hb3' hn3 hm3)
   | (go_at_call 210;refine(jQaK n l k _ _ b 2 _ (H2.out.below HB3.out) (HNK.out.base (Nat.zero_le _)) (by omega) (by omega) (by omega) (by omega)).mono ?_;rintro e w4 ⟨v4,rfl,hn4,hb4⟩))
  all_goals
   go_wp2
   go_ret
   have hb34:=HB3.out.trans (hb4.mono HB3.out.size)
   exact⟨_,Sq.exch l b 2 k,rfl,by rw[HE3.out,Sq.jQgy,HM3.out],hn4.base (Nat.zero_le _),by rw[HE3.out];exact T2.out.below hb34,F2.out.trans (TFrm.of hb34 (by have:=T2.out.lt;omega))⟩
theorem jQm4 (n:Nat)(l:List (Sq.Nd n×Value×Value))(v:Value)(tb:Nat)(tr:Sq.Trl)(w:World)(h:NodesAt Z 0 w v n l)(hl:l.length=1)(ht:TrAt tb w tr) :
  Calls Tryz.prog 212 #[v,.int .i64 (0:Nat),.pointer (some ⟨tb,0,none⟩)] w (ListSays Z tb n (Sq.joinedF (Sq.headN n) (Sq.togetherN n) (l.map Prod.fst) 0 tr) w):=by
 obtain⟨ao,acap,rfl⟩:=jQa h.own
 have HE:Hid (Sq.joinedF (Sq.headN n) (Sq.togetherN n) (l.map Prod.fst) 0 tr=(l.map Prod.fst,tr)):=by
  show _=_
  unfold Sq.joinedF
  rw[List.length_map,hl]
  rfl
 have H:=hd h
 have HT:=hd ht
 rw[hl] at h ⊢
 have hlt:=ht.lt
 have HL:=hd hl
 clear h ht hl
 go_enter Tryz.func212,Tryz.ntmps212
 go_wp2
 go_ret
 exact⟨_,l,rfl,by rw[HE.out],by have:=H.out;rw[HL.out] at this;exact this,by rw[HE.out];exact HT.out,TFrm.refl _ _⟩
end
end Go.Proofs.YtahpihjialbanaaGreatDoor
