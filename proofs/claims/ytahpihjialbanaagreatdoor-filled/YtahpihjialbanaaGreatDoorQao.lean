import Derived.Laws.BitsAllLaws
import Derived.Test.YtahpihjialbanaaGreatDoorQan
set_option linter.unusedVariables false
set_option linter.unusedSimpArgs false
set_option maxRecDepth 100000
set_option maxHeartbeats 4000000
namespace Go.Proofs.YtahpihjialbanaaGreatDoor
section
open Go.RowKit
variable {Z:Nat→Prop}
def NodeSays (Z:Nat→Prop)(tb n:Nat)(x:Sq.Nd n×Sq.Trl)(w:World)(e:Ending)(w':World):Prop:=∃ev cv,e=.returned (.agg (headCells (Sq.headN n x.1) ev cv).toArray)∧NodeAt Z w' n x.1 ev cv∧TrAt tb w' x.2∧TFrm tb w w'
theorem jQjc (w:World)(x y:Array Value):∃W,W=(w.alloc (.cells x 60)).alloc (.cells y 60)∧Below w.heap.size w W∧W.heap.size=w.heap.size+2∧W.heap[w.heap.size]?=some (.cells x 60)∧W.heap[w.heap.size+1]?=some (.cells y 60):=by
 refine⟨_,rfl,((Below.refl _ _).alloc (Nat.le_refl _) _).alloc (by simp) _,by rw[jQo,jQo],?_,?_⟩
 ·exact(((Below.refl _ _).alloc (Nat.le_refl _) _).block w.heap.size (by simp)).trans (jQk w _)
 ·rw[←jQo w (.cells x 60)]
  exact jQk _ _
theorem jQjH:∀{n:Nat} {w:World} {t:Sq.Nd n} {a b:Option Addr} {ek ec ck cc:Nat},NodeAt Z w n t (.slice a ek ec) (.slice b ck cc)→(if(Sq.headN n t).inner then ck else ek:Nat)=Sq.sizeN n t
 | 0,w,t,a,b,ek,ec,ck,cc,h=>by
  obtain⟨h1,h2⟩:=h.leaf
  obtain⟨_,_,h3⟩:=jQa h1
  simp only[Value.slice.injEq] at h2 h3
  have hk:(t:Sq.NodeF Empty).kids.length=0:=by
   cases hq:(t:Sq.NodeF Empty).kids with
   | nil=>rfl
   | cons c _=>exact c.elim
  show _=Sq.sizeF t
  unfold Sq.sizeF
  rw[h2.2.1,h3.2.1,hk]
  rfl
 | n+1,w,t,a,b,ek,ec,ck,cc,h=>by
  obtain⟨h1,l,h4,h5⟩:=h.inner
  obtain⟨_,_,h3⟩:=jQa h1
  obtain⟨_,_,h2⟩:=jQa h5.own
  simp only[Value.slice.injEq] at h2 h3
  show _=Sq.sizeF t
  unfold Sq.sizeF
  rw[h2.2.1,h3.2.1,h4,List.length_map]
  rfl
theorem jQb9 (w:World)(x:Array Value):∃W,W=(w.alloc (.cells x 60)).alloc (.cells node0 60)∧Below w.heap.size w W∧W.heap.size=w.heap.size+2∧W.heap[w.heap.size]?=some (.cells x 60)∧W.heap[w.heap.size+1]?=some (.cells node0 60):=by
 refine⟨_,rfl,((Below.refl _ _).alloc (Nat.le_refl _) _).alloc (by simp) _,by rw[jQo,jQo],?_,?_⟩
 ·exact(((Below.refl _ _).alloc (Nat.le_refl _) _).block w.heap.size (by simp)).trans (jQk w _)
 ·rw[←jQo w (.cells x 60)]
  exact jQk _ _
theorem jQd9 (m:Nat)(h:Sq.Head)(es:List Sq.Ent)(ev cv:Value)(p:Int)(tb:Nat)(tr:Sq.Trl)(w:World)(hin:h.inner=false)(hes:EntsAt 0 w ev es)(hcv:∃a k c,cv=.slice a k c)(hel:es.length≤900)(ht:TrAt tb w tr)(hroom:tr.nums.length+1≤100000) :
  Calls Tryz.prog 169 #[.agg (headCells h ev cv).toArray,.int .i64 p,.pointer (some ⟨tb,0,none⟩)] w (NodeSays Z tb m (leafM m (es.filter fun x=>x.place != p),Sq.touchR tr h) w):=by
 obtain⟨eo,ecap,rfl⟩:=jQa hes
 obtain⟨co,cl,ccap,rfl⟩:=hcv
 rw[jQc]
 have hlt:=ht.lt
 have HIN:=hd hin
 clear hin
 obtain⟨W,hWW,hW,hWs,hblk,hres⟩:=jQb9 w #[.bool h.inner,.slice eo es.length ecap,.slice co cl ccap,.int .i64 h.least,.int .i64 h.rows,.string h.sl,.int .i64 h.num]
 have HT:=hd (ht.below hW)
 have HF:Hid (TFrm tb w W):=TFrm.of hW (by omega)
 have HBLK:=hd hblk
 have HRES:=hd hres
 have HES:=hd (hes.below hW)
 obtain⟨a0,a1,a2,a3,a4,a5,a6⟩:=SevenAt.blk (h:=h) hblk
 simp only[Nat.zero_add] at a1 a2 a3 a4 a5 a6
 have hzw:=jQg hblk
 clear ht hW hblk hes hres hWs
 go_enter Tryz.func169,Tryz.ntmps169
 go_wp2_with fail
 rw[←show node0=#[.bool false,.slice none 0 0,.slice none 0 0,.int .i64 0,.int .i64 0,.string ⟨#[]⟩,.int .i64 0] from rfl,←hWW]
 clear hWW
 refine(jQam tb tr h _ _ W ⟨_,_,_,rfl⟩ ⟨_,_,_,rfl⟩ HT.out hroom).mono ?_
 rintro e w1 ⟨rfl,ht1,hf1⟩
 have hblk1:=(hf1.keep w.heap.size _ _ _ HBLK.out (by decide) (by decide)).trans HBLK.out
 have hres1:=(hf1.keep (w.heap.size+1) _ _ _ HRES.out (by decide) (by decide)).trans HRES.out
 have T1:=hd ht1
 have F1:Hid (TFrm tb w w1):=HF.out.trans hf1
 have ES1:=hd (HES.out.tfrm hf1)
 obtain⟨n0,n1,n2,n3,n4,n5,n6⟩:=SevenAt.blk (h:=h) hblk1
 simp only[Nat.zero_add] at n1 n2 n3 n4 n5 n6
 rw[HIN.out] at n0
 have hz1w:=jQg hblk1
 have hz1r:=jQg hres1
 have HRES1:=hd hres1
 clear a0 a1 a2 a3 a4 a5 a6 hzw HT HF HBLK HRES HES ht1 hf1 hblk1 hres1 n2 n3 n4 n5 n6
 go_wp2_with fail
 refine(jQk0 es p _ _ ES1.out (by omega)).mono ?_
 rintro e w2 ⟨v2,rfl,ho2,hb2⟩
 have T2:=hd (T1.out.below hb2)
 have F2:Hid (TFrm tb w w2):=F1.out.trans (TFrm.of hb2 (by have:=T1.out.lt;omega))
 have hs2:=hb2.size
 have hfl:=List.length_filter_le (fun x:Sq.Ent=>x.place != p) es
 have HO2:=hd ho2
 have HRES2:Hid (w2.heap[w.heap.size+1]?=_):=(hb2.block _ hz1r).trans HRES1.out
 obtain⟨fs,hfs⟩:∃fs,fs=es.filter fun x=>x.place != p:=⟨_,rfl⟩
 have ho2':=HO2.out
 rw[←hfs] at ho2' hfl
 have HO2':=hd ho2'
 have HFS:=hd hfs
 clear hb2 ho2 ho2' n0 n1 hfs HO2
 go_wp2_with fail
 refine(jQi2 fs _ _ (Reads.of_own HO2'.out) (by omega)).mono ?_
 rintro e w3 ⟨v3,rfl,ho3,hb3⟩
 obtain⟨vo,vcap,rfl⟩:=jQa ho3
 have T3:=hd (T2.out.below hb3)
 have F3:Hid (TFrm tb w w3):=F2.out.trans (TFrm.of hb3 (by have:=T2.out.lt;omega))
 have hres3:=(hb3.block (w.heap.size+1) (by omega)).trans HRES2.out
 obtain⟨b0,b1,b2,b3,b4,b5,b6⟩:=jQR hres3
 obtain⟨f0,f1,f2,f3,f4,f5,f6⟩:=jQp hres3
 have hz3:=jQg hres3
 have HRES3:=hd hres3
 have HO3:=hd ho3
 obtain⟨yh,hyh⟩:∃x,x=(Sq.leafF (α:=Empty) fs).hd:=⟨_,rfl⟩
 rw[←hyh,jQc]
 have HYH:Hid (Sq.headN m (leafM m (es.filter fun x=>x.place != p))=yh):=by show _=_;rw[←HFS.out,jQhF,hyh]
 clear hres3 ho3 hb3 hyh
 go_wp2
 refine bodyPost_ret (v:=.agg (headCells yh (.slice vo fs.length vcap) (.slice none 0 0)).toArray) (by simp[results,Tryz.results169,go_sem,headCells, *]) rfl ⟨_,_,by rw[HYH.out],?_,?_,?_⟩
 ·show NodeAt Z _ m (leafM m (es.filter fun x=>x.place != p)) _ _
  rw[←HFS.out]
  exact(NodeAt.skip (Z:=fun g=>Z g∨g=w.heap.size+1) (b:=w.heap.size+1) (jQhw m (show NodeAt _ _ 0 (Sq.leafF fs) _ _ from⟨HO3.out.base (Nat.zero_le _),rfl⟩)) (Or.inr rfl) HRES3.out fun g hg=>jQq _ _ _ _ _ _ _ _ _ hg).less fun g hg=>Or.inl hg
 ·exact T3.out.keeps (jQa2 HRES3.out _ _ _ _ _ _ _) (by decide) (by decide)
 ·exact F3.out.set7 (by omega) (by omega) _ _ _ _ _ _ _
theorem jQgV (n:Nat)(h:Sq.Head)(l:List (Sq.Nd n×Value×Value))(ev cv:Value)(p:Int)(tb:Nat)(tr tr2 tr3:Sq.Trl)(c':Sq.Nd n)(cs:List (Sq.Nd n))(w:World)(hin:h.inner=true)(hev:∃a k c,ev=.slice a k c)(hn:NodesAt Z 0 w cv n l)(hl:l.length≤400)(ht:TrAt tb w tr)(hroom:tr.nums.length+1≤100000)(hZ:∀g,w.heap.size≤g→¬Z g)
  (a:Nat) (ha:a < l.length) (haw:a=Sq.wayF (Sq.headN n) (l.map Prod.fst) p)
  (hno:¬Sq.sizeN n c' < 2→cs=Sq.exch (l.map Prod.fst) a 1 [c']∧tr3=tr2) (hsm:∀c∈cs,0≤(Sq.headN n c).rows∧(Sq.headN n c).rows≤1000000000) (hcl:cs.length≤400)
  (ih:∀w',(∀g,w'.heap.size≤g→¬(Z g∨g=w.heap.size+1))→NodeAt (fun g=>Z g∨g=w.heap.size+1) w' n l[a].1 l[a].2.1 l[a].2.2→TrAt tb w' (Sq.touchR tr h)→Calls Tryz.prog 169 #[.agg (nodeCells n l[a]).toArray,.int .i64 p,.pointer (some ⟨tb,0,none⟩)] w' (NodeSays (fun g=>Z g∨g=w.heap.size+1) tb n (c',tr2) w'))
  (hj:Sq.sizeN n c' < 2→∀w' v k,(∀g,w'.heap.size≤g→¬(Z g∨g=w.heap.size+1))→k.map Prod.fst=Sq.exch (l.map Prod.fst) a 1 [c']→NodesAt (fun g=>Z g∨g=w.heap.size+1) 0 w' v n k→TrAt tb w' tr2→Calls Tryz.prog 212 #[v,.int .i64 a,.pointer (some ⟨tb,0,none⟩)] w' (ListSays (fun g=>Z g∨g=w.heap.size+1) tb n (cs,tr3) w')) :
  Calls Tryz.prog 169 #[.agg (headCells h ev cv).toArray,.int .i64 p,.pointer (some ⟨tb,0,none⟩)] w (NodeSays Z tb (n+1) (Sq.innerF (Sq.headN n) cs,tr3) w):=by
 obtain⟨eo,el,ecap,rfl⟩:=hev
 obtain⟨co,ccap,rfl⟩:=jQa hn.own
 rw[jQc]
 have hlt:=ht.lt
 have HIN:=hd hin
 clear hin
 obtain⟨W,hWW,hW,hWs,hblk,hres⟩:=jQb9 w #[.bool h.inner,.slice eo el ecap,.slice co l.length ccap,.int .i64 h.least,.int .i64 h.rows,.string h.sl,.int .i64 h.num]
 have HT:=hd (ht.below hW)
 have HF:Hid (TFrm tb w W):=TFrm.of hW (by omega)
 have HBLK:=hd hblk
 have HRES:=hd hres
 have HN:Hid (NodesAt (fun g=>Z g∨g=w.heap.size+1) 0 W (.slice co l.length ccap) n l):=(show NodesAt (fun g=>Z g∨g=w.heap.size+1) 0 w (.slice co l.length ccap) n l from⟨hn.own,fun x hx=>(hn.each x hx).more (Nat.le_succ _)⟩).below hW
 have HZ:Hid (∀g,w.heap.size+2≤g→¬(Z g∨g=w.heap.size+1)):=fun g hg=>by
  rintro(hz | hz)
  ·exact hZ g (by omega) hz
  ·omega
 have IH:=hd ih
 have HJ:=hd hj
 have HNO:=hd hno
 have HSM:=hd hsm
 have HAW:=hd haw
 have HWS:=hd hWs
 obtain⟨a0,a1,a2,a3,a4,a5,a6⟩:=SevenAt.blk (h:=h) hblk
 simp only[Nat.zero_add] at a1 a2 a3 a4 a5 a6
 have hzw:=jQg hblk
 clear ht hW hblk hres hn hZ ih haw hWs hj hno hsm
 go_enter Tryz.func169,Tryz.ntmps169
 go_wp2_with fail
 rw[←show node0=#[.bool false,.slice none 0 0,.slice none 0 0,.int .i64 0,.int .i64 0,.string ⟨#[]⟩,.int .i64 0] from rfl,←hWW]
 clear hWW
 refine(jQam tb tr h _ _ W ⟨_,_,_,rfl⟩ ⟨_,_,_,rfl⟩ HT.out hroom).mono ?_
 rintro e w1 ⟨rfl,ht1,hf1⟩
 have hblk1:=(hf1.keep w.heap.size _ _ _ HBLK.out (by decide) (by decide)).trans HBLK.out
 have hres1:=(hf1.keep (w.heap.size+1) _ _ _ HRES.out (by decide) (by decide)).trans HRES.out
 have T1:=hd ht1
 have F1:Hid (TFrm tb w w1):=HF.out.trans hf1
 have N1:=hd (HN.out.tfrm hf1)
 obtain⟨n0,n1,n2,n3,n4,n5,n6⟩:=SevenAt.blk (h:=h) hblk1
 simp only[Nat.zero_add] at n1 n2 n3 n4 n5 n6
 rw[HIN.out] at n0
 have hz1w:=jQg hblk1
 have hz1r:=jQg hres1
 have HRES1:=hd hres1
 have HBLK1:=hd hblk1
 clear a0 a1 a2 a3 a4 a5 a6 hzw HT HF HBLK HRES HN ht1 hf1 hblk1 hres1
 go_wp2_with fail
 refine(jQgY n l p ⟨true,h.least,h.rows,h.sl,h.num⟩ _ _ w1 ⟨_,_,_,rfl⟩ N1.out (by omega)).mono ?_
 rintro e w2 ⟨rfl,hb2⟩
 rw[←HAW.out]
 have hblk2:=(hb2.block w.heap.size hz1w).trans HBLK1.out
 have hres2:=(hb2.block (w.heap.size+1) hz1r).trans HRES1.out
 have c2:w2.cell? ⟨w.heap.size,2,none⟩=some (.slice co l.length ccap):=by rw[jQb hblk2];rfl
 have hs2:=hb2.size
 have hz2r:=jQg hres2
 have hz2:=jQg hblk2
 have T2:=hd (T1.out.below hb2)
 have N2:=hd (N1.out.below hb2)
 have F2:Hid (TFrm tb w w2):=F1.out.trans (TFrm.of hb2 (by have:=T1.out.lt;omega))
 have HBLK2:=hd hblk2
 have HRES2:=hd hres2
 clear hb2 hblk2 hres2 n0 n1 n2 n3 n4 n5 n6 HRES1 HBLK1 T1 N1 F1
 obtain⟨g,cap',ea,el2,ec,ca,cl,cc,hv,hg,⟨d0,d1,d2,d3,d4,dsl,dnu⟩,d5,d6⟩:=N2.out.at a ha
 simp only[Value.slice.injEq] at hv
 obtain⟨rfl,-,rfl⟩:=hv
 have ih:=IH.out
 obtain⟨y,hy⟩:∃y,y=l[a]:=⟨_,rfl⟩
 rw[←hy] at d0 d3 d4 dsl dnu d5 d6 ih
 obtain⟨t,evx,cvx⟩:=y
 simp only[Prod.mk.injEq] at d5
 obtain⟨rfl,rfl⟩:=d5
 have IH2:=hd ih
 have HNX:=hd d6
 have i1:¬((l.length:Int)≤(a:Int)):=by omega
 have i2:decide ((l.length:Int)≤(a:Int))=false:=by simpa using ha
 clear ih hy IH d6
 go_wp2_with fail
 refine(IH2.out w2 (fun g hg=>HZ.out g (by omega)) HNX.out T2.out).mono ?_
 rintro e w3 ⟨ev3,cv3,rfl,hn3,ht3,hf3⟩
 obtain⟨⟨x1,x2,x3,rfl⟩,y1,y2,y3,rfl⟩:=hn3.slices
 have hblk3:=(hf3.keep w.heap.size _ _ _ HBLK2.out (by decide) (by decide)).trans HBLK2.out
 have hres3:=(hf3.keep (w.heap.size+1) _ _ _ HRES2.out (by decide) (by decide)).trans HRES2.out
 have e2:w3.cell? ⟨w.heap.size,2,none⟩=some (.slice (some ⟨g,0,none⟩) l.length ccap):=by rw[jQb hblk3];rfl
 have hz3:=jQg hblk3
 have T3:=hd ht3
 have F3:Hid (TFrm tb w w3):=F2.out.trans hf3
 have N3:=hd (N2.out.tfrm hf3)
 have HC:=hd hn3
 have HBLK3:=hd hblk3
 have HRES3:=hd hres3
 obtain⟨yh,hyh⟩:∃x,x=Sq.headN n c':=⟨_,rfl⟩
 rw[←hyh,jQc]
 have HYH:=hd hyh
 clear ht3 hf3 hn3 hblk3 hres3 hyh c2 hz2r hz2 T2 N2 F2 HBLK2 HRES2 d0 d1 d2 d3 d4 dsl dnu HNX IH2
 have hsz:=jQjH HC.out
 rw[HYH.out.symm] at hsz
 have HSZ:=hd hsz
 obtain⟨C,hC⟩:∃C:Array Value,C=#[.bool yh.inner,.slice x1 x2 x3,.slice y1 y2 y3,.int .i64 yh.least,.int .i64 yh.rows,.string yh.sl,.int .i64 yh.num]:=⟨_,rfl⟩
 obtain⟨W4,hW4,hb4,hs4,hk4,hl4⟩:=jQjc w3 C C
 have N4:Hid (NodesAt (fun g=>Z g∨g=w.heap.size+1) 0 W4 (.slice (some ⟨w3.heap.size+1,0,none⟩) 1 1) n [(c',.slice x1 x2 x3,.slice y1 y2 y3)]):=by
  refine⟨?_,fun x hx=>by rw[List.mem_singleton.1 hx];exact HC.out.below hb4⟩
  have:=jQes (w3.alloc (.cells C 60)) 60 C ([(c',Value.slice x1 x2 x3,Value.slice y1 y2 y3)].flatMap (nodeCells n)) 1 7 0 (by rw[hC,HYH.out];rfl) rfl (by decide) (Nat.zero_le _)
  rw[jQo] at this
  rw[hW4]
  exact this
 have HW4:Hid (W4=(w3.alloc (.cells #[.bool yh.inner,.slice x1 x2 x3,.slice y1 y2 y3,.int .i64 yh.least,.int .i64 yh.rows,.string yh.sl,.int .i64 yh.num] 60)).alloc (.cells #[.bool yh.inner,.slice x1 x2 x3,.slice y1 y2 y3,.int .i64 yh.least,.int .i64 yh.rows,.string yh.sl,.int .i64 yh.num] 60)):=by show _=_;rw[hW4,hC]
 rw[hC] at hk4
 have HB4:=hd hb4
 have HK4:=hd hk4
 have HS4:=hd hs4
 clear hW4 hb4 hs4 hk4 hl4 hC hsz
 go_wp2_with fail
 rw[←HW4.out]
 refine(jQaK n l _ _ _ a 1 _ (N3.out.below HB4.out) N4.out (by omega) (by simp) (by omega) (by omega)).mono ?_
 rintro e w5 ⟨v5,rfl,hn5,hb5⟩
 obtain⟨vo,vcap,rfl⟩:=jQa hn5.own
 have hb35:=HB4.out.trans (hb5.mono HB4.out.size)
 have hk5:=(hb5.block w3.heap.size (by rw[HS4.out];omega)).trans HK4.out
 obtain⟨n0,n1,n2,n3,n4,n5,n6⟩:=SevenAt.blk (h:=yh) hk5
 simp only[Nat.zero_add] at n1 n2 n3 n4 n5 n6
 have hz5:=jQg hk5
 have T5:=hd (T3.out.below hb35)
 have F5:Hid (TFrm tb w w5):=F3.out.trans (TFrm.of hb35 (by have:=T3.out.lt;omega))
 have HRES5:Hid (w5.heap[w.heap.size+1]?=some (.cells node0 60)):=(hb35.block _ (jQg HRES3.out)).trans HRES3.out
 have hxe:(Sq.exch l a 1 [(c',Value.slice x1 x2 x3,Value.slice y1 y2 y3)]).map Prod.fst=Sq.exch (l.map Prod.fst) a 1 [c']:=by rw[Sq.jQgy];rfl
 obtain⟨k5,hk5e⟩:∃k5,k5=Sq.exch l a 1 [(c',Value.slice x1 x2 x3,Value.slice y1 y2 y3)]:=⟨_,rfl⟩
 rw[←hk5e] at hn5 hxe
 have HN5:=hd hn5
 have HXE:=hd hxe
 have hs5:=hb35.size
 rw[←hk5e]
 clear hn5 hb5 hb35 hk5 hxe hk5e e2 hz3 T3 N3 F3 HBLK3 HRES3 HC HB4 HK4 N4 HW4 HS4
 go_wp2_with fail
 refine(jQi0 yh x1 x2 x3 y1 y2 y3 w5).mono ?_
 rintro e w6 ⟨rfl,hb6⟩
 rw[HSZ.out]
 have T6:=hd (T5.out.below hb6)
 have F6:Hid (TFrm tb w w6):=F5.out.trans (TFrm.of hb6 (by have:=T5.out.lt;omega))
 have N6:=hd (HN5.out.below hb6)
 have hs6:=hb6.size
 have HRES6:Hid (w6.heap[w.heap.size+1]?=some (.cells node0 60)):=(hb6.block _ (jQg HRES5.out)).trans HRES5.out
 obtain⟨q,hq⟩:∃q,q=Sq.sizeN n c':=⟨_,rfl⟩
 have hjj:=HJ.out
 have hnn:=HNO.out
 rw[←hq] at hjj hnn ⊢
 have HJ2:=hd hjj
 have HNO2:=hd hnn
 have hzb:w.heap.size+2≤w6.heap.size:=by have:=jQg HRES6.out;omega
 clear hb6 hq hjj hnn HJ HNO n0 n1 n2 n3 n4 n5 n6 T5 F5 HN5 HRES5 HSZ HYH
 by_cases hq2:q < 2
 ·have i3:decide ((q:Int) < 2)=true:=by simp;omega
  have hjc:=HJ2.out hq2 w6 (.slice vo k5.length vcap) k5 (fun g hg=>HZ.out g (by omega)) HXE.out (N6.out.base (Nat.zero_le _)) T6.out
  have HJC:=hd hjc
  clear hjc
  go_wp2_with fail
  refine HJC.out.mono ?_
  rintro e w7 ⟨v7,k7,rfl,hm7,hn7,ht7,hf7⟩
  obtain⟨uo,ucap,rfl⟩:=jQa hn7.own
  simp only at hm7 ht7
  have hlen7:k7.length≤400:=by rw[←hm7,List.length_map] at hcl;exact hcl
  have hsm7:smallRows n k7:=fun c hc=>HSM.out c.1 (by rw[←hm7];exact List.mem_map.2 ⟨c,hc,rfl⟩)
  have T7:=hd ht7
  have F7:Hid (TFrm tb w w7):=F6.out.trans hf7
  have N7:=hd hn7
  have HM7:=hd hm7
  have HSM7:=hd hsm7
  have hs7:=hf7.below_lt
  have HRES7:Hid (w7.heap[w.heap.size+1]?=some (.cells node0 60)):=(hf7.keep _ _ _ _ HRES6.out (by decide) (by decide)).trans HRES6.out
  clear hm7 hn7 ht7 hf7 hsm7 HJC HJ2 HNO2
  go_wp2_with fail
  refine(jQc6 n k7 _ _ N7.out.rd (by omega) HSM7.out).mono ?_
  rintro e w8 ⟨cv8,rfl,hn8,hb8⟩
  obtain⟨ko,kcap,rfl⟩:=jQa hn8.own
  have hres8:=(hb8.block (w.heap.size+1) (jQg HRES7.out)).trans HRES7.out
  obtain⟨b0,b1,b2,b3,b4,b5,b6⟩:=jQR hres8
  obtain⟨f0,f1,f2,f3,f4,f5,f6⟩:=jQp hres8
  have hz8:=jQg hres8
  have HRES8:=hd hres8
  have T8:=hd (T7.out.below hb8)
  have F8:Hid (TFrm tb w w8):=F7.out.trans (TFrm.of hb8 (by have:=T7.out.lt;omega))
  have HN8:=hd hn8
  obtain⟨zh,hzh⟩:∃x,x=(Sq.innerF (Sq.headN n) (k7.map Prod.fst)).hd:=⟨_,rfl⟩
  rw[←hzh,jQc]
  have HZH:Hid ((Sq.innerF (Sq.headN n) cs).hd=zh):=by show _=_;rw[hzh,HM7.out]
  obtain⟨w9,hw9⟩:∃w9,w9=set7 w8 (w.heap.size+1) (.bool zh.inner) (.slice none 0 0) (.slice ko k7.length kcap) (.int .i64 zh.least) (.int .i64 zh.rows) (.string zh.sl) (.int .i64 zh.num):=⟨_,rfl⟩
  have N9:Hid (NodeAt Z w9 (n+1) (Sq.innerF (Sq.headN n) cs) (.slice none 0 0) (.slice ko k7.length kcap)):=by
   rw[hw9]
   exact(NodeAt.skip (b:=w.heap.size+1) (NodeAt.mk (EntsAt.nil _) HM7.out.symm (HN8.out.base (Nat.zero_le _)) (jQce HN8.out (fun g hg=>HZ.out g (by omega)))) (Or.inr rfl) HRES8.out fun g hg=>jQq _ _ _ _ _ _ _ _ _ hg).less fun g hg=>Or.inl hg
  have T9:Hid (TrAt tb w9 tr3):=by
   rw[hw9]
   exact T8.out.keeps (jQa2 HRES8.out _ _ _ _ _ _ _) (by decide) (by decide)
  have F9:Hid (TFrm tb w w9):=by
   rw[hw9]
   exact F8.out.set7 (by omega) (by omega) _ _ _ _ _ _ _
  have HW9:=hd hw9
  clear hres8 hn8 hb8 hzh hw9
  go_wp2
  refine bodyPost_ret (v:=.agg (headCells zh (.slice none 0 0) (.slice ko k7.length kcap)).toArray) (by simp[results,Tryz.results169,go_sem,headCells, *]) rfl ?_
  have hw9:=HW9.out
  subst hw9
  exact⟨_,_,by rw[←HZH.out];rfl,N9.out,T9.out,F9.out⟩
 ·have i3:decide ((q:Int) < 2)=false:=by simp;omega
  obtain⟨hcs,htr⟩:=HNO2.out hq2
  have hm7:k5.map Prod.fst=cs:=by rw[hcs];exact HXE.out
  have hlen7:k5.length≤400:=by rw[←hm7,List.length_map] at hcl;exact hcl
  have hsm7:smallRows n k5:=fun c hc=>HSM.out c.1 (by rw[←hm7];exact List.mem_map.2 ⟨c,hc,rfl⟩)
  have HM7:=hd hm7
  have HSM7:=hd hsm7
  have HTR:=hd htr
  clear hm7 hsm7 hcs htr HJ2 HNO2
  go_wp2_with fail
  refine(jQc6 n k5 _ _ N6.out.rd (by omega) HSM7.out).mono ?_
  rintro e w8 ⟨cv8,rfl,hn8,hb8⟩
  obtain⟨ko,kcap,rfl⟩:=jQa hn8.own
  have hres8:=(hb8.block (w.heap.size+1) (jQg HRES6.out)).trans HRES6.out
  obtain⟨b0,b1,b2,b3,b4,b5,b6⟩:=jQR hres8
  obtain⟨f0,f1,f2,f3,f4,f5,f6⟩:=jQp hres8
  have hz8:=jQg hres8
  have HRES8:=hd hres8
  have T8:=hd (T6.out.below hb8)
  have F8:Hid (TFrm tb w w8):=F6.out.trans (TFrm.of hb8 (by have:=T6.out.lt;omega))
  have HN8:=hd hn8
  obtain⟨zh,hzh⟩:∃x,x=(Sq.innerF (Sq.headN n) (k5.map Prod.fst)).hd:=⟨_,rfl⟩
  rw[←hzh,jQc]
  have HZH:Hid ((Sq.innerF (Sq.headN n) cs).hd=zh):=by show _=_;rw[hzh,HM7.out]
  obtain⟨w9,hw9⟩:∃w9,w9=set7 w8 (w.heap.size+1) (.bool zh.inner) (.slice none 0 0) (.slice ko k5.length kcap) (.int .i64 zh.least) (.int .i64 zh.rows) (.string zh.sl) (.int .i64 zh.num):=⟨_,rfl⟩
  have N9:Hid (NodeAt Z w9 (n+1) (Sq.innerF (Sq.headN n) cs) (.slice none 0 0) (.slice ko k5.length kcap)):=by
   rw[hw9]
   exact(NodeAt.skip (b:=w.heap.size+1) (NodeAt.mk (EntsAt.nil _) HM7.out.symm (HN8.out.base (Nat.zero_le _)) (jQce HN8.out (fun g hg=>HZ.out g (by omega)))) (Or.inr rfl) HRES8.out fun g hg=>jQq _ _ _ _ _ _ _ _ _ hg).less fun g hg=>Or.inl hg
  have T9:Hid (TrAt tb w9 tr3):=by
   rw[hw9]
   rw[HTR.out];exact T8.out.keeps (jQa2 HRES8.out _ _ _ _ _ _ _) (by decide) (by decide)
  have F9:Hid (TFrm tb w w9):=by
   rw[hw9]
   exact F8.out.set7 (by omega) (by omega) _ _ _ _ _ _ _
  have HW9:=hd hw9
  clear hres8 hn8 hb8 hzh hw9
  go_wp2
  refine bodyPost_ret (v:=.agg (headCells zh (.slice none 0 0) (.slice ko k5.length kcap)).toArray) (by simp[results,Tryz.results169,go_sem,headCells, *]) rfl ?_
  have hw9:=HW9.out
  subst hw9
  exact⟨_,_,by rw[←HZH.out];rfl,N9.out,T9.out,F9.out⟩
end
section
open Go.RowKit
variable {Z:Nat→Prop}
theorem jQh3 (n:Nat)(t:Sq.NodeF (Sq.Nd n))(ev cv:Value)(p:Int)(tb:Nat)(tr:Sq.Trl)(w:World)(hin:t.hd.inner=true)(hk:t.kids=[])(hn:NodeAt Z w (n+1) t ev cv)(ht:TrAt tb w tr)(hroom:tr.nums.length+1≤100000) :
  Calls Tryz.prog 169 #[.agg (headCells t.hd ev cv).toArray,.int .i64 p,.pointer (some ⟨tb,0,none⟩)] w (NodeSays Z tb (n+1) (t,Sq.touchR tr t.hd) w):=by
 obtain⟨h1,l,h2,h3⟩:=hn.inner
 have hl0:l=[]:=by rw[hk] at h2;exact List.map_eq_nil_iff.1 h2.symm
 subst hl0
 obtain⟨⟨eo,el,ecap,rfl⟩,-⟩:=hn.slices
 obtain⟨co,ccap,hcv⟩:=jQa h3.own
 have hcv':cv=.slice co 0 ccap:=hcv
 clear hcv
 subst hcv'
 obtain⟨h,hh⟩:∃h,h=t.hd:=⟨_,rfl⟩
 rw[←hh] at hin ⊢
 rw[jQc]
 have hlt:=ht.lt
 have HIN:=hd hin
 have HH:=hd hh
 obtain⟨W,hWW,hW,hWs,hblk,hres⟩:=jQb9 w #[.bool h.inner,.slice eo el ecap,.slice co 0 ccap,.int .i64 h.least,.int .i64 h.rows,.string h.sl,.int .i64 h.num]
 have HT:=hd (ht.below hW)
 have HF:Hid (TFrm tb w W):=TFrm.of hW (by omega)
 have HBLK:=hd hblk
 have HRES:=hd hres
 have HN:=hd ((hn.more (b:=w.heap.size+1) (Nat.le_succ _)).below hW)
 have HK:=hd (h3.below hW)
 obtain⟨a0,a1,a2,a3,a4,a5,a6⟩:=SevenAt.blk (h:=h) hblk
 simp only[Nat.zero_add] at a1 a2 a3 a4 a5 a6
 have hzw:=jQg hblk
 clear ht hW hblk hres hn hWs hin hh h1 h2 h3 hk
 go_enter Tryz.func169,Tryz.ntmps169
 go_wp2_with fail
 rw[←show node0=#[.bool false,.slice none 0 0,.slice none 0 0,.int .i64 0,.int .i64 0,.string ⟨#[]⟩,.int .i64 0] from rfl,←hWW]
 clear hWW
 refine(jQam tb tr h _ _ W ⟨_,_,_,rfl⟩ ⟨_,_,_,rfl⟩ HT.out hroom).mono ?_
 rintro e w1 ⟨rfl,ht1,hf1⟩
 have hblk1:=(hf1.keep w.heap.size _ _ _ HBLK.out (by decide) (by decide)).trans HBLK.out
 have hres1:=(hf1.keep (w.heap.size+1) _ _ _ HRES.out (by decide) (by decide)).trans HRES.out
 have T1:=hd ht1
 have F1:Hid (TFrm tb w w1):=HF.out.trans hf1
 have N1:=hd (HN.out.tfrm hf1)
 have K1:=hd (HK.out.tfrm hf1)
 obtain⟨n0,n1,n2,n3,n4,n5,n6⟩:=SevenAt.blk (h:=h) hblk1
 simp only[Nat.zero_add] at n1 n2 n3 n4 n5 n6
 rw[HIN.out] at n0
 have hz1w:=jQg hblk1
 have hz1r:=jQg hres1
 have HRES1:=hd hres1
 have HBLK1:=hd hblk1
 clear a0 a1 a2 a3 a4 a5 a6 hzw HT HF HBLK HRES HN HK ht1 hf1 hblk1 hres1
 go_wp2_with fail
 refine(jQgY n [] p ⟨true,h.least,h.rows,h.sl,h.num⟩ _ _ w1 ⟨_,_,_,rfl⟩ K1.out (Nat.zero_le _)).mono ?_
 rintro e w2 ⟨rfl,hb2⟩
 have hway:(Sq.wayF (Sq.headN n) (([]:List (Sq.Nd n×Value×Value)).map Prod.fst) p:Nat)=0:=rfl
 rw[hway]
 have hblk2:=(hb2.block w.heap.size hz1w).trans HBLK1.out
 have hres2:=(hb2.block (w.heap.size+1) hz1r).trans HRES1.out
 obtain⟨c0,c1,c2,c3,c4,c5,c6⟩:=SevenAt.blk (h:=h) hblk2
 simp only[Nat.zero_add] at c1 c2 c3 c4 c5 c6
 obtain⟨b0,b1,b2,b3,b4,b5,b6⟩:=jQR hres2
 obtain⟨f0,f1,f2,f3,f4,f5,f6⟩:=jQp hres2
 have hz2:=jQg hres2
 have hz2w:=jQg hblk2
 have HRES2:=hd hres2
 have T2:=hd (T1.out.below hb2)
 have F2:Hid (TFrm tb w w2):=F1.out.trans (TFrm.of hb2 (by have:=T1.out.lt;omega))
 have N2:=hd (N1.out.below hb2)
 obtain⟨w9,hw9⟩:∃w9,w9=set7 w2 (w.heap.size+1) (.bool h.inner) (.slice eo el ecap) (.slice co 0 ccap) (.int .i64 h.least) (.int .i64 h.rows) (.string h.sl) (.int .i64 h.num):=⟨_,rfl⟩
 have N9:Hid (NodeAt Z w9 (n+1) t (.slice eo el ecap) (.slice co 0 ccap)):=by
  rw[hw9]
  exact(NodeAt.skip (b:=w.heap.size+1) N2.out (Or.inr rfl) HRES2.out fun g hg=>jQq _ _ _ _ _ _ _ _ _ hg).less fun g hg=>Or.inl hg
 have T9:Hid (TrAt tb w9 (Sq.touchR tr h)):=by
  rw[hw9]
  exact T2.out.keeps (jQa2 HRES2.out _ _ _ _ _ _ _) (by decide) (by decide)
 have F9:Hid (TFrm tb w w9):=by
  rw[hw9]
  exact F2.out.set7 (by omega) (by omega) _ _ _ _ _ _ _
 have HW9:=hd hw9
 clear hb2 hblk2 hres2 n0 n1 n2 n3 n4 n5 n6 HRES1 HBLK1 T1 F1 N1 K1 hway hw9
 go_wp2
 refine bodyPost_ret (v:=.agg (headCells h (.slice eo el ecap) (.slice co 0 ccap)).toArray) (by simp[results,Tryz.results169,go_sem,headCells, *]) rfl ?_
 have hw9:=HW9.out
 subst hw9
 exact⟨_,_,by rw[HH.out];rfl,N9.out,T9.out,F9.out⟩
theorem jQhM {α:Type}(f:α→Sq.Head)(sz:α→Nat)(tg:α→α→List α)(g:α→Int→Sq.Trl→α×Sq.Trl)(t:Sq.NodeF α)(p:Int)(tr:Sq.Trl)(h:t.hd.inner=false):Sq.delF f sz tg g t p tr=(Sq.leafF (t.ents.filter fun e=>e.place != p),Sq.touchR tr t.hd):=by
 unfold Sq.delF;rw[h];rfl
theorem jQpm {α:Type}(f:α→Sq.Head)(sz:α→Nat)(tg:α→α→List α)(g:α→Int→Sq.Trl→α×Sq.Trl)(t:Sq.NodeF α)(p:Int)(tr:Sq.Trl)(h:t.hd.inner=true)(hk:t.kids=[]):Sq.delF f sz tg g t p tr=(t,Sq.touchR tr t.hd):=by
 unfold Sq.delF;rw[h,hk];rfl
theorem jQpl {α:Type}(f:α→Sq.Head)(sz:α→Nat)(tg:α→α→List α)(g:α→Int→Sq.Trl→α×Sq.Trl)(t:Sq.NodeF α)(p:Int)(tr:Sq.Trl)(h:t.hd.inner=true)(a:Nat)(haw:a=Sq.wayF f t.kids p)(ha:a < t.kids.length)(c:α×Sq.Trl)(hc:c=g t.kids[a] p (Sq.touchR tr t.hd)) :
  Sq.delF f sz tg g t p tr=if sz c.1 < 2 then(Sq.innerF f (Sq.joinedF f tg (Sq.exch t.kids a 1 [c.1]) a c.2).1,(Sq.joinedF f tg (Sq.exch t.kids a 1 [c.1]) a c.2).2) else(Sq.innerF f (Sq.exch t.kids a 1 [c.1]),c.2):=by
 subst haw hc
 unfold Sq.delF
 rw[h]
 simp only[if_true,List.getElem?_eq_getElem ha]
theorem exch_at {α:Type}{l:List α}{a:Nat}{c:α}(ha:a < l.length):∃h:a < (Sq.exch l a 1 [c]).length,(Sq.exch l a 1 [c])[a]=c:=by
 have hl:(Sq.exch l a 1 [c]).length=l.length:=by rw[Sq.jQb1 _ _ _ _ (by omega),List.length_singleton];omega
 refine⟨by omega,?_⟩
 have hmin:min a l.length=a:=by omega
 simp[Sq.exch,List.getElem_append,hmin]
theorem jQfs (K:Int)(hK0:0≤K)(hK:K≤99998)(p:Int)(tb:Nat):∀(n:Nat) (Z:Nat→Prop) (t:Sq.Nd n) (ev cv:Value) (tr:Sq.Trl) (w:World),NodeAt Z w n t ev cv→Sq.tameN K n t→(Sq.headN n t).rows≤900000000→TrAt tb w tr→Sq.TameR K tr→(∀g,w.heap.size≤g→¬Z g) →
  Calls Tryz.prog 169 #[.agg (headCells (Sq.headN n t) ev cv).toArray,.int .i64 p,.pointer (some ⟨tb,0,none⟩)] w (NodeSays Z tb n (Sq.delN n t p tr) w)
 | 0,Z,t,ev,cv,tr,w,h,hf,_,ht,hr,_=>by
  obtain⟨h1,_⟩:=h.leaf
  have hlen:=hr.len
  have he4:=hf.at0.ents
  have e:Sq.delN 0 t p tr=(leafM 0 ((Sq.NodeF.ents t).filter fun e=>e.place != p),Sq.touchR tr (Sq.NodeF.hd t)):=jQhM _ _ _ _ t p tr hf.leaf0
  rw[e]
  exact jQd9 0 (Sq.NodeF.hd t) (Sq.NodeF.ents t) ev cv p tb tr w hf.leaf0 h1 (NodeAt.slices h).2 (by omega) ht (by omega)
 | n+1,Z,t,ev,cv,tr,w,h,hf,hrows,ht,hr,hZ=>by
  obtain⟨h1,l,h2,h3⟩:=h.inner
  have hlen:=hr.len
  have hf1:=hf.at1
  have he4:=hf1.ents
  have hk4:=hf1.kids
  have hpos:∀c∈Sq.NodeF.kids t,0≤(Sq.headN n c).rows:=fun c hc=>(hf1.each c hc).head.2.1
  have hh:(Sq.headN (n+1) t).rows=(Sq.NodeF.hd t).rows:=rfl
  cases hin:(Sq.NodeF.hd t).inner with
  | false =>
   have e:Sq.delN (n+1) t p tr=(leafM (n+1) ((Sq.NodeF.ents t).filter fun e=>e.place != p),Sq.touchR tr (Sq.NodeF.hd t)):=jQhM _ _ _ _ t p tr hin
   rw[e]
   exact jQd9 (n+1) (Sq.NodeF.hd t) (Sq.NodeF.ents t) ev cv p tb tr w hin h1 (NodeAt.slices h).2 (by omega) ht (by omega)
  | true =>
   by_cases hk:Sq.NodeF.kids t=[]
   ·have e:Sq.delN (n+1) t p tr=(t,Sq.touchR tr (Sq.NodeF.hd t)):=jQpm _ _ _ _ t p tr hin hk
    rw[e]
    exact jQh3 n t ev cv p tb tr w hin hk h ht (by omega)
   ·have hway:=Sq.jQi4 (Sq.headN n) (Sq.NodeF.kids t) p hk
    obtain⟨a,haw⟩:∃a,a=Sq.wayF (Sq.headN n) (Sq.NodeF.kids t) p:=⟨_,rfl⟩
    rw[←haw] at hway
    have hmem:(Sq.NodeF.kids t)[a]∈Sq.NodeF.kids t:=List.getElem_mem _
    have hc:=hf1.each _ hmem
    have hsum:=(hf1.inn hin).1
    have hcr:=Sq.jQbb (Sq.headN n) hpos hmem
    obtain⟨q,hq⟩:∃q,q=Sq.delN n (Sq.NodeF.kids t)[a] p (Sq.touchR tr (Sq.NodeF.hd t)):=⟨_,rfl⟩
    have hdt:=Sq.jQgB hK0 n (Sq.NodeF.kids t)[a] p (Sq.touchR tr (Sq.NodeF.hd t)) hc (hr.touch hf1.num)
    rw[←hq] at hdt
    have e:=jQpl (Sq.headN n) (Sq.sizeN n) (Sq.togetherN n) (Sq.delN n) t p tr hin a haw hway q hq
    have hxm:∀x∈Sq.exch (Sq.NodeF.kids t) a 1 [q.1],Sq.tameN K n x:=fun x hx=>by
     rcases Sq.jQcB hx with hx | hx
     ·exact hf1.each x hx
     ·rw[List.mem_singleton] at hx;subst hx;exact hdt.1
    have hxl:(Sq.exch (Sq.NodeF.kids t) a 1 [q.1]).length=(Sq.NodeF.kids t).length:=by rw[Sq.jQb1 _ _ _ _ (by omega),List.length_singleton];omega
    have hxs:Sq.sumRows2 (Sq.headN n) (Sq.exch (Sq.NodeF.kids t) a 1 [q.1])≤(Sq.NodeF.hd t).rows:=by
     rw[Sq.jQek (Sq.headN n) _ _ _ hway,Sq.jQ9,Sq.jQde,hsum]
     have:=hdt.2.1
     omega
    have hal:a < l.length:=by rw[h2,List.length_map] at hway;exact hway
    have hka:(Sq.NodeF.kids t)[a]=l[a].1:=by simp only[h2,List.getElem_map]
    obtain⟨cs,tr3,hcs,hno,hcm,hcl,hcsum⟩:∃cs tr3,(Sq.sizeN n q.1 < 2→(cs,tr3)=Sq.joinedF (Sq.headN n) (Sq.togetherN n) (Sq.exch (Sq.NodeF.kids t) a 1 [q.1]) a q.2)∧(¬Sq.sizeN n q.1 < 2→cs=Sq.exch (Sq.NodeF.kids t) a 1 [q.1]∧tr3=q.2)∧(∀x∈cs,Sq.tameN K n x)∧cs.length≤4∧Sq.sumRows2 (Sq.headN n) cs≤(Sq.NodeF.hd t).rows:=by
     by_cases h5:Sq.sizeN n q.1 < 2
     ·obtain⟨hx1,hx2⟩:=exch_at (c:=q.1) hway
      have hj:=Sq.jQeK (f:=Sq.headN n) (sz:=Sq.sizeN n) (tg:=Sq.togetherN n) (K:=K) (G:=Sq.tameN K n) (fun c hc=>⟨hc.head.1,hc.head.2.1,Sq.jQl1 hc⟩) (fun l r hl hr h5=>Sq.jQcL hK0 n l r hl hr h5) (cs:=Sq.exch (Sq.NodeF.kids t) a 1 [q.1]) (by omega) hxm hx1 (by rw[hx2];exact h5) hdt.2.2
      exact⟨_,_,fun _=>rfl,fun h=>absurd h5 h,hj.2.1,hj.1,Int.le_trans hj.2.2.1 hxs⟩
     ·exact⟨_,_,fun h=>absurd h h5,fun _=>⟨rfl,rfl⟩,hxm,by omega,hxs⟩
    have e2:Sq.delN (n+1) t p tr=(Sq.innerF (Sq.headN n) cs,tr3):=by
     show Sq.delF _ _ _ _ t p tr=_
     rw[e]
     by_cases h5:Sq.sizeN n q.1 < 2
     ·rw[if_pos h5,←hcs h5]
     ·rw[if_neg h5,(hno h5).1,(hno h5).2]
    rw[e2]
    have hsm:∀c∈cs,0≤(Sq.headN n c).rows∧(Sq.headN n c).rows≤1000000000:=fun c hc=>by
     have:=Sq.jQbb (Sq.headN n) (fun d hd=>(hcm d hd).head.2.1) hc
     exact⟨(hcm c hc).head.2.1,by omega⟩
    rw[hka] at hq hc hcr
    rw[h2] at haw hno hcs hk4 hxl hxm hxs
    rw[List.length_map] at hk4
    refine jQgV n (Sq.NodeF.hd t) l ev cv p tb tr q.2 tr3 q.1 cs w hin (NodeAt.slices h).1 h3 (by omega) ht (by omega) hZ a hal haw hno hsm (by omega) (fun w' hZ' hn' ht'=>?_) (fun h5 w' v k hZ' hm' hn' ht'=>?_)
    ·have:=jQfs K hK0 hK p tb n _ l[a].1 l[a].2.1 l[a].2.2 (Sq.touchR tr (Sq.NodeF.hd t)) w' hn' hc (by omega) ht' (hr.touch hf1.num) hZ'
     rw[←hq] at this
     exact this
    ·rw[hcs h5,←hm']
     have hkl:k.length=l.length:=by have:=congrArg List.length hm';rw[List.length_map,hxl,List.length_map] at this;exact this
     have hlq:=hdt.2.2.len
     have htk:∀x∈k,Sq.tameN K n x.1∧(Sq.headN n x.1).rows≤900000000:=fun x hx=>by
      have hx1:x.1∈Sq.exch (l.map Prod.fst) a 1 [q.1]:=by rw[←hm'];exact List.mem_map.2 ⟨x,hx,rfl⟩
      have:=Sq.jQbb (Sq.headN n) (fun d hd=>(hxm d hd).head.2.1) hx1
      exact⟨hxm _ hx1,by omega⟩
     by_cases hone:k.length=1
     ·have ha0:a=0:=by omega
      subst ha0
      exact jQm4 n k v tb q.2 w' hn' hone ht'
     ·refine jQm2 n k v a tb q.2 w' hn' (by omega) (by omega) (by omega) ht' (by omega) (fun x hx y hy=>?_) (fun x hx y hy w'' hnx hny hs=>?_)
      ·cases n with
       | zero=>show(Sq.togetherF _ x.1 y.1).length≤2;unfold Sq.togetherF;split <;> (first | (unfold Sq.innersF;rw[List.length_map];exact(Sq.jQdn _).1) | (unfold Sq.leavesF;rw[List.length_map];exact(Sq.jQdn _).1))
       | succ m=>show(Sq.togetherF _ x.1 y.1).length≤2;unfold Sq.togetherF;split <;> (first | (unfold Sq.innersF;rw[List.length_map];exact(Sq.jQdn _).1) | (unfold Sq.leavesF;rw[List.length_map];exact(Sq.jQdn _).1))
      ·exact jQia K n x.1 y.1 x.2.1 x.2.2 y.2.1 y.2.2 w'' hnx hny (htk x hx).1 (htk y hy).1 (htk x hx).2 (htk y hy).2 (fun g hg=>hZ' g (by omega))
end
section
open Go.RowKit
variable {Z:Nat→Prop}
theorem end7 {tb n b:Nat}{w w1:World}{t:Sq.Nd n}{ev cv:Value}{tr:Sq.Trl}{c:Array Value}(hn:NodeAt (fun g=>Z g∨g=b) w1 n t ev cv)(ht:TrAt tb w1 tr)(hf:TFrm tb w w1)(hb:w1.heap[b]?=some (.cells c 60))(h1:w.heap.size≤b)(h2:tb≤b)(x0 x1 x2 x3 x4 x5 x6:Value)(o:Obj) :
  NodeAt Z ((set7 w1 b x0 x1 x2 x3 x4 x5 x6).alloc o) n t ev cv∧TrAt tb ((set7 w1 b x0 x1 x2 x3 x4 x5 x6).alloc o) tr∧TFrm tb w ((set7 w1 b x0 x1 x2 x3 x4 x5 x6).alloc o):=by
 have hA:Below (set7 w1 b x0 x1 x2 x3 x4 x5 x6).heap.size (set7 w1 b x0 x1 x2 x3 x4 x5 x6) ((set7 w1 b x0 x1 x2 x3 x4 x5 x6).alloc o):=(Below.refl _ _).alloc (Nat.le_refl _) _
 have ht2:=ht.keeps (jQa2 hb x0 x1 x2 x3 x4 x5 x6) (by decide) (by decide)
 exact⟨((NodeAt.skip (b:=b) hn (Or.inr rfl) hb fun g hg=>jQq _ _ _ _ _ _ _ _ _ hg).less fun g hg=>Or.inl hg).below hA,ht2.below hA,(hf.set7 h1 h2 x0 x1 x2 x3 x4 x5 x6).trans (TFrm.of hA (by have:=ht2.lt;omega))⟩
theorem jQpk (n:Nat)(t:Sq.Nd n)(h:¬((Sq.headN n t).inner=true∧Sq.sizeN n t=1)):Sq.downN n t=⟨n,t⟩:=by
 cases n with
 | zero=>rfl
 | succ m =>
  show(if(Sq.NodeF.hd t).inner then(match Sq.NodeF.kids t with | [c]=>(⟨m,c⟩:Sq.NTree) | _=>⟨m+1,t⟩) else⟨m+1,t⟩)=_
  split
  ·next hi =>
   split
   ·next c hc =>
    exfalso
    refine h ⟨hi,?_⟩
    show Sq.sizeF t=1
    unfold Sq.sizeF
    rw[if_pos hi,hc]
    rfl
   ·rfl
  ·rfl
theorem jQq5 (n:Nat)(t:Sq.Nd (n+1))(hi:(Sq.NodeF.hd t).inner=true)(c:Sq.Nd n)(hc:Sq.NodeF.kids t=[c]):Sq.downN (n+1) t=⟨n,c⟩:=by
 show(if(Sq.NodeF.hd t).inner then(match Sq.NodeF.kids t with | [c]=>(⟨n,c⟩:Sq.NTree) | _=>⟨n+1,t⟩) else⟨n+1,t⟩)=_
 rw[if_pos hi,hc]
theorem jQn3 (K:Int)(hK0:0≤K)(hK:K≤99998)(X:Sq.NTree)(ev cv:Value)(p:Int)(tb:Nat)(tr:Sq.Trl)(w:World)(h:NodeAt Z w X.d X.t ev cv)(hf:Sq.TameT K 900000000 X)(ht:TrAt tb w tr)(hr:Sq.TameR K tr)(hZ:∀g,w.heap.size≤g→¬Z g) :
  Calls Tryz.prog 128 #[.agg (headCells X.head ev cv).toArray,.int .i64 p,.pointer (some ⟨tb,0,none⟩)] w (TreeSays Z tb (X.del p tr) w):=by
 obtain⟨n,t⟩:=X
 obtain⟨⟨e1,e2,e3,hev⟩,c1,c2,c3,hcv⟩:=h.slices
 subst hev hcv
 obtain⟨hX,hrows⟩:=hf
 simp only[Sq.NTree.head] at h hX hrows ⊢
 have hcall0:=jQfs K hK0 hK p tb n (fun g=>Z g∨g=w.heap.size+1) t (.slice e1 e2 e3) (.slice c1 c2 c3) tr
 have hE:Sq.NTree.del ⟨n,t⟩ p tr=(Sq.downN n (Sq.delN n t p tr).1,(Sq.delN n t p tr).2):=rfl
 rw[hE]
 clear hE
 obtain⟨pt,hpe⟩:∃x,x=Sq.delN n t p tr:=⟨_,rfl⟩
 rw[←hpe] at hcall0 ⊢
 obtain⟨hh,hhe⟩:∃x,x=Sq.headN n t:=⟨_,rfl⟩
 rw[←hhe] at hcall0 hrows ⊢
 rw[jQc] at hcall0 ⊢
 have hlt:=ht.lt
 obtain⟨W,hWW,hW,hWs,-,hres⟩:=jQb9 w #[.bool hh.inner,.slice e1 e2 e3,.slice c1 c2 c3,.int .i64 hh.least,.int .i64 hh.rows,.string hh.sl,.int .i64 hh.num]
 have hcall:=hcall0 W ((h.more (Nat.le_succ _)).below hW) hX hrows (ht.below hW) hr (fun g hg=>by
  rw[hWs] at hg
  rintro(hz | hz)
  ·exact hZ g (by omega) hz
  ·omega)
 have HC:=hd hcall
 have HF:Hid (TFrm tb w W):=TFrm.of hW (by omega)
 have HRES:=hd hres
 clear h ht hX hrows hcall0 hW hWs hres hcall hpe hhe hZ hr
 go_enter Tryz.func128,Tryz.ntmps128
 go_wp2_with fail
 rw[←show node0=#[.bool false,.slice none 0 0,.slice none 0 0,.int .i64 0,.int .i64 0,.string ⟨#[]⟩,.int .i64 0] from rfl,←hWW]
 clear hWW
 refine HC.out.mono ?_
 rintro e w1 ⟨ev1,cv1,rfl,hn,ht1,hf1⟩
 obtain⟨⟨x1,x2,x3,rfl⟩,y1,y2,y3,rfl⟩:=hn.slices
 have hsz:=jQjH hn
 have hres1:=(hf1.keep (w.heap.size+1) _ _ _ HRES.out (by decide) (by decide)).trans HRES.out
 obtain⟨r,tr2⟩:=pt
 simp only at hn ht1 hsz ⊢
 obtain⟨yh,hyh⟩:∃x,x=Sq.headN n r:=⟨_,rfl⟩
 rw[←hyh] at hsz ⊢
 rw[jQc]
 obtain⟨b0,b1,b2,b3,b4,b5,b6⟩:=jQR hres1
 obtain⟨f0,f1,f2,f3,f4,f5,f6⟩:=jQp hres1
 have hzr:=jQg hres1
 have HN1:=hd hn
 have HYH:=hd hyh
 have T1:=hd ht1
 have F1:Hid (TFrm tb w w1):=HF.out.trans hf1
 have HRES1:=hd hres1
 have HSZ:=hd hsz
 clear hn ht1 hf1 hres1 hyh HC HF HRES hsz
 by_cases hdo:yh.inner=true∧Sq.sizeN n r=1
 ·obtain⟨hi,hs1⟩:=hdo
  have hsz:=HSZ.out
  rw[hi] at hsz
  simp only[if_true] at hsz
  cases n with
  | zero =>
   exfalso
   have h5:=HN1.out.leaf.2
   simp only[Value.slice.injEq] at h5
   omega
  | succ m =>
   obtain⟨g1,l,g2,g3⟩:=HN1.out.inner
   obtain⟨lo',lc,hlv⟩:=jQa g3.own
   simp only[Value.slice.injEq] at hlv
   have hl1:l.length=1:=by omega
   obtain⟨y,rfl⟩:=List.length_eq_one_iff.1 hl1
   have hr1:(Sq.NodeF.hd r).inner=true:=by have:=HYH.out;rw[show(Sq.NodeF.hd r)=Sq.headN (m+1) r from rfl,←this,hi]
   have HDOWN:=hd (jQq5 m r hr1 y.1 g2)
   obtain⟨g,cap',ea,el,ec,ca,cl,cc,hv,hg,⟨d0,d1,d2,d3,d4,dsl,dnu⟩,d5,d6⟩:=g3.at 0 (by simp)
   simp only[Value.slice.injEq] at hv
   obtain⟨rfl,rfl,rfl⟩:=hv
   obtain⟨yt,yev,ycv⟩:=y
   simp only[List.getElem_cons_zero,Prod.mk.injEq,Nat.zero_mul,Nat.zero_add] at d0 d1 d2 d3 d4 dsl dnu d5 d6
   obtain⟨rfl,rfl⟩:=d5
   obtain⟨zh,hzh⟩:∃x,x=Sq.headN m yt:=⟨_,rfl⟩
   rw[←hzh] at d0 d3 d4 dsl dnu
   have HZH:=hd hzh
   have HEND:=hd (end7 d6 T1.out F1.out HRES1.out (by omega) (by omega) (.bool zh.inner) (.slice ea el ec) (.slice ca cl cc) (.int .i64 zh.least) (.int .i64 zh.rows) (.string zh.sl) (.int .i64 zh.num) (.cells #[.bool true,.slice x1 x2 x3,.slice (some ⟨g,0,none⟩) 1 y3,.int .i64 yh.least,.int .i64 yh.rows,.string yh.sl,.int .i64 yh.num] 60))
   have h1:([(yt,Value.slice ea el ec,Value.slice ca cl cc)]:List (Sq.Nd m×Value×Value)).length=1:=rfl
   rw[h1,hi]
   clear hsz hs1 hi hzh d6 g1 g2 g3 hlv hl1 hr1 HN1 HYH h1 HSZ
   go_wp2
   refine bodyPost_ret (v:=.agg (headCells zh (.slice ea el ec) (.slice ca cl cc)).toArray) (by simp[results,Tryz.results128,go_sem,headCells, *]) rfl ?_
   show TreeSays Z tb (Sq.downN (m+1) r,tr2) w _ _
   rw[HDOWN.out]
   exact⟨_,_,by rw[show Sq.NTree.head (⟨m,yt⟩:Sq.NTree)=zh from HZH.out.symm],HEND.out.1,HEND.out.2.1,HEND.out.2.2⟩
 ·have HDOWN:=hd (jQpk n r (by rw[←HYH.out];exact hdo))
  have HEND:=hd (end7 HN1.out T1.out F1.out HRES1.out (by omega) (by omega) (.bool yh.inner) (.slice x1 x2 x3) (.slice y1 y2 y3) (.int .i64 yh.least) (.int .i64 yh.rows) (.string yh.sl) (.int .i64 yh.num) (.cells #[.bool yh.inner,.slice x1 x2 x3,.slice y1 y2 y3,.int .i64 yh.least,.int .i64 yh.rows,.string yh.sl,.int .i64 yh.num] 60))
  obtain⟨hi2,hle,hro,hsl,hnu⟩:=yh
  simp only at HEND HSZ HYH hdo ⊢
  cases hi2 with
  | false =>
   clear HSZ hdo HN1
   go_wp2
   refine bodyPost_ret (v:=.agg (headCells ⟨false,hle,hro,hsl,hnu⟩ (.slice x1 x2 x3) (.slice y1 y2 y3)).toArray) (by simp[results,Tryz.results128,go_sem,headCells, *]) rfl ?_
   show TreeSays Z tb (Sq.downN n r,tr2) w _ _
   rw[HDOWN.out]
   exact⟨_,_,by rw[show Sq.NTree.head (⟨n,r⟩:Sq.NTree)=_ from HYH.out.symm],HEND.out.1,HEND.out.2.1,HEND.out.2.2⟩
  | true =>
   have hy2:((y2:Int)==1)=false:=by
    have h5:=HSZ.out
    simp only[if_true] at h5
    have h6:y2≠1:=fun e=>hdo ⟨rfl,by rw[←h5];exact e⟩
    simp
    omega
   clear HSZ hdo HN1
   go_wp2
   refine bodyPost_ret (v:=.agg (headCells ⟨true,hle,hro,hsl,hnu⟩ (.slice x1 x2 x3) (.slice y1 y2 y3)).toArray) (by simp[results,Tryz.results128,go_sem,headCells, *]) rfl ?_
   show TreeSays Z tb (Sq.downN n r,tr2) w _ _
   rw[HDOWN.out]
   exact⟨_,_,by rw[show Sq.NTree.head (⟨n,r⟩:Sq.NTree)=_ from HYH.out.symm],HEND.out.1,HEND.out.2.1,HEND.out.2.2⟩
end
section
open Go.RowKit
def BufAt (B:Nat)(w:World)(v:Value)(l:List UInt8):Prop:=w.ownsRow B 5 1 v l.length (l.map fun b=>Value.int .u8 b.toNat)
theorem BufAt.below {B:Nat}{w w':World}{v:Value}{l:List UInt8}(h:BufAt B w v l)(hb:Below w.heap.size w w'):BufAt B w' v l:=jQh h hb
theorem BufAt.slice {B:Nat}{w:World}{v:Value}{l:List UInt8}(h:BufAt B w v l):∃ao cap,v=.slice ao l.length cap:=jQa h
theorem Tryz.infoU8:(Tryz.prog.info? 5).map (fun i=>(i.zero,i.size,i.bytes))=some (some (.int .u8 0),1,1):=by kernel_rfl
theorem jQb5 (w:World)(v:Value)(l:List UInt8)(B:Nat)(h:BufAt B w v l):(convert 55 9 v).run Tryz.prog w=.ok (.string ⟨l.toArray⟩) w:=by
 rcases Nat.eq_zero_or_pos l.length with h0 | h0
 ·have hn:l=[]:=by simpa using h0
  subst hn
  obtain⟨ao,cap,rfl⟩:=h.slice
  refine(run_convert_bytes_string w 55 9 5 ao 0 cap Tryz.underlying55 Tryz.underlying5 Tryz.underlying9).trans ?_
  cases ao <;> simp[go_sem,loadCells,Conv.bytesToString] <;> rfl
 ·obtain⟨g,cap,rfl,_,hlt⟩:=World.ownsRow.form h h0
  refine run_convert_bytes_back w 55 9 5 ⟨g,0,none⟩ cap l Tryz.underlying55 Tryz.underlying5 Tryz.underlying9 fun j hj=>?_
  exact World.ownsRow.cells h (g:=g) rfl j _ (by simp[List.getElem?_eq_getElem hj])
theorem BufAt.snoc {B:Nat}{w1:World}{v':Value}{l:List UInt8}{b:UInt8}(h:w1.ownsRow B 5 1 v' (l.length+1) ((l.map fun b=>Value.int .u8 b.toNat)++[.int .u8 b.toNat])):BufAt B w1 v' (l++[b]):=by
 unfold BufAt;simpa using h
theorem BufAt.more {B:Nat}{w1:World}{v':Value}{l:List UInt8}{s:ByteArray}(h:w1.ownsRow B 5 1 v' (l.length+s.size) ((l.map fun b=>Value.int .u8 b.toNat)++Lib.strCells s)):BufAt B w1 v' (l++s.data.toList):=by
 unfold BufAt
 rw[List.length_append,List.map_append,Array.length_toList]
 exact h
theorem jQbL {ops:Array Oper}{rest:List Oper}{o:Oper}{a:Act}{Q:Exit→Act→World→Prop}{w:World}(hgd:o.guard=none)(sl x:Operand)
  (ho:o.op=.call { callee:=.builtin .append,args:=#[sl,x],argTypes:=#[55,9] }) (B:Nat) (v:Value) (l:List UInt8) (hs:a.eval sl=v) (hb:BufAt B w v l)
  (s:ByteArray) (hx:a.eval x=.string s) (h1:l.length+s.size≤100000000000) (hB:B≤w.heap.size)
  (h:∀v' w',BufAt B w' v' (l++s.data.toList)→Below B w w'→wpList Tryz.prog ops Q rest (a.put o.dst v') w'):wpList Tryz.prog ops Q (o :: rest) a w:=by
 obtain⟨i0,hi,hz0,hz1,hz2⟩:=info_parts Tryz.infoU8
 refine Lib.wpList_append_own_string _ hgd sl x 55 9 ho B 5 i0 Tryz.underlying55 Tryz.underlying9 hi hz0 hz1 hz2 v l.length _ hs hb s hx (by unfold maxLen;omega) (by omega) hB ?_
 intro v' w' ho' hg' _
 exact h v' w' (BufAt.more ho') (Tch.of_grown hg' (fun k hk=>(World.ownsRow.lt hb k hk).1) hB)
theorem jQag {ops:Array Oper}{rest:List Oper}{o:Oper}{a:Act}{Q:Exit→Act→World→Prop}{w:World}(hgd:o.guard=none)(sl x:Operand)
  (ho:o.op=.call { callee:=.builtin .append,args:=#[sl,x],argTypes:=#[55,55] }) (B:Nat) (v:Value) (l:List UInt8) (hs:a.eval sl=v) (hb:BufAt B w v l)
  (b:UInt8) (ad:Addr) (c:Nat) (hx:a.eval x=.slice (some ad) 1 c) (hc:w.cell? ad=some (.int .u8 b.toNat)) (h1:l.length+1≤100000000000) (hB:B≤w.heap.size)
  (h:∀v' w',BufAt B w' v' (l++[b])→Below B w w'→wpList Tryz.prog ops Q rest (a.put o.dst v') w'):wpList Tryz.prog ops Q (o :: rest) a w:=by
 obtain⟨i0,hi,hz0,hz1,hz2⟩:=info_parts Tryz.infoU8
 refine wpList_append_lies _ hgd sl x 55 ho B 5 i0 _ 1 1 Tryz.underlying55 hi hz0 hz1 hz2 rfl (by decide) v l.length _ hs hb ad 1 c [.int .u8 b.toNat] hx rfl (by
  intro j u hu
  cases j with
  | zero =>
   rw[show ad.add 0=ad from by unfold Addr.add;split <;> simp_all]
   simp at hu;subst hu;exact hc
  | succ j=>simp at hu) (by intro u hu;simp at hu;subst hu;rfl) (by decide) (by unfold maxLen;omega) (by omega) hB _ rfl ?_
 intro g cap w' ho' hg' _ _
 exact h _ w' (BufAt.snoc ho') (Tch.of_grown hg' (fun k hk=>(World.ownsRow.lt hb k hk).1) hB)
end
section
open Go.RowKit
theorem Sq.jQiP (m:Int):((UInt8.ofNat (HMod.hMod m (256:Int)).toNat).toNat:Int)=HMod.hMod m (256:Int):=by
 rw[UInt8.toNat_ofNat']
 omega
theorem Sq.jQqt (l:List UInt8)(k:Nat)(h:k < l.length):(l.drop (k+1)).reverse++[l[k]]=(l.drop k).reverse:=by
 rw[List.drop_eq_getElem_cons h,List.reverse_cons]
theorem BufAt.at {B:Nat}{w:World}{v:Value}{l:List UInt8}(h:BufAt B w v l)(k:Nat)(hk:k < l.length):∃g cap,v=.slice (some ⟨g,0,none⟩) l.length cap∧g < w.heap.size∧w.cell? ⟨g,k,none⟩=some (.int .u8 (l[k].toNat:Int)):=by
 obtain⟨g,cap,rfl,_,hlt⟩:=World.ownsRow.form h (by omega)
 refine⟨g,cap,rfl,hlt,?_⟩
 have:=World.ownsRow.cells h (g:=g) rfl k (.int .u8 (l[k].toNat:Int)) (by simp[List.getElem?_eq_getElem hk])
 rwa [show(⟨g,0,none⟩:Addr).add k=⟨g,k,none⟩ from by unfold Addr.add;split <;> simp_all] at this
theorem jQ8 (n:Int)(bytes:Nat)(w:World)(hk:bytes≤1000) :
  Calls Tryz.prog 56 #[.int .i64 n,.int .i64 bytes] w fun e w'=>e=.returned (.string (Sq.pnum n bytes))∧Below w.heap.size w w':=by
 go_enter Tryz.func56,Tryz.ntmps56
 go_wp2
 go_loopw [0,5,6] (fun x v i wr=>∃k:Nat,∃m:Int,∃l:List UInt8,k≤bytes∧i=.int .i64 k∧x=.int .i64 m∧BufAt w.heap.size wr v l∧Hid (l.length=k)∧Hid (Sq.lowB bytes n=l++Sq.lowB (bytes - k) m)∧Below w.heap.size w wr) (fun _ _ i _=>bytes - (intOf i).toNat)
 case atStart=>exact⟨0,n,[],Nat.zero_le _,rfl,rfl,World.ownsRow_nil _ _ _ _,rfl,rfl,Below.refl _ _⟩
 case round =>
  obtain⟨k,m,l,hk1,rfl,rfl,hbuf,hlen,hll,hb⟩:=hrel
  obtain⟨wo,rfl⟩:∃wo:World,wo=wr:=⟨_,rfl⟩
  obtain⟨vo,vcap,rfl⟩:=hbuf.slice
  have hzw:=hb.size
  have HB:=hd hb
  have HBUF:=hd hbuf
  have hl1:l.length≤1000:=by rw[hlen.out];omega
  clear hb hbuf
  by_cases hlt:k < bytes
  ·have HST:Hid (Sq.lowB bytes n=(l++[UInt8.ofNat (HMod.hMod m (256:Int)).toNat])++Sq.lowB (bytes - (k+1)) (m / 256)):=by
    show _=_
    rw[hll.out,show bytes - k=(bytes - (k+1))+1 by omega,Sq.lowB,List.append_assoc]
    rfl
   have hbn:=Sq.jQiP m
   obtain⟨b,hbb⟩:∃b,b=UInt8.ofNat (HMod.hMod m (256:Int)).toNat:=⟨_,rfl⟩
   have hst:=HST.out
   rw[←hbb] at hst hbn
   have HST2:=hd hst
   have HBN:=hd hbn
   have HLEN:Hid ((l++[b]).length=k+1):=by show _=_;rw[List.length_append,hlen.out];rfl
   have HBA:=hd (HBUF.out.below ((Below.refl _ _).alloc (Nat.le_refl _) (.cells #[.int .u8 (HMod.hMod m (256:Int))] 5)))
   clear hst hbn hbb HST hll hlen
   go_wp2_with (at_builtin;refine jQag rfl (.tmp 14) (.tmp 17) rfl w.heap.size _ l rfl HBA.out b ⟨wo.heap.size,0,none⟩ 1 rfl (by rw[HBN.out];simp[go_sem]) (by omega) (by simp;omega) ?_;intro v3 w3 hbuf3 hb3;have HBUF3:=hd hbuf3;have HB3:=hd hb3;clear hbuf3 hb3)
   go_roundw
   case rel=>exact⟨k+1,m / 256,l++[b],by omega,by go_num,rfl,HBUF3.out,HLEN,HST2,HB.out.trans ((Below.mono (B':=w.heap.size) ((Below.refl _ _).alloc (Nat.le_refl _) _) hzw).trans HB3.out)⟩
   case measure=>simp[intOf];omega
  ·have HST:Hid (Sq.lowB bytes n=l):=by
    show _=_
    rw[hll.out,show bytes - k=0 by omega,Sq.lowB,List.append_nil]
   clear hll hlen
   go_wp2
   go_loopw [7,8] (fun v i wr=>∃k:Nat,k≤l.length∧i=.int .i64 ((k:Int) - 1)∧BufAt wo.heap.size wr v (l.drop k).reverse∧Below wo.heap.size wo wr) (fun _ i _=>(intOf i+1).toNat)
   case atStart=>exact⟨l.length,Nat.le_refl _,by go_num,by rw[List.drop_length];exact World.ownsRow_nil _ _ _ _,Below.refl _ _⟩
   case round =>
    obtain⟨j,hj,rfl,hb2,hb3⟩:=hrel
    obtain⟨xo,xcap,rfl⟩:=hb2.slice
    have hz3:=hb3.size
    have HB2:=hd hb2
    have HB3:=hd hb3
    have hrl:(l.drop j).reverse.length≤1000:=by simp;omega
    clear hb2 hb3
    by_cases hj0:j=0
    ·subst hj0
     have HE:Hid ((⟨(l.drop 0).reverse.toArray⟩:ByteArray)=Sq.pnum n bytes):=by show _=_;unfold Sq.pnum;rw[HST.out];rfl
     obtain⟨dl,hdl⟩:∃x,x=(l.drop 0).reverse:=⟨_,rfl⟩
     have hb2:=HB2.out
     have he:=HE.out
     rw[←hdl] at hb2 he hrl ⊢
     have hcv:=jQb5 _ _ _ _ hb2
     rw[he] at hcv
     have HCV:=hd hcv
     clear hcv HE he hb2 HB2 hdl
     go_wp2
     rw[HCV.out]
     go_wp2
     go_ret
     exact⟨rfl,HB.out.trans (HB3.out.mono hzw)⟩
    ·obtain⟨q,rfl⟩:∃q,j=q+1:=⟨j - 1,by omega⟩
     obtain⟨g,cap',hv,hg,c0⟩:=(HBUF.out.below HB3.out).at q (by omega)
     simp only[Value.slice.injEq] at hv
     obtain⟨rfl,-,rfl⟩:=hv
     have HRD:=hd (Sq.jQqt l q (by omega))
     obtain⟨b,hbb⟩:∃b,b=l[q]:=⟨_,rfl⟩
     have hrd:=HRD.out
     rw[←hbb] at hrd c0
     have HRD2:=hd hrd
     have i1:¬((l.length:Int)≤(q:Int)):=by omega
     have i2:((q+1:Nat):Int) - 1=(q:Int):=by omega
     obtain⟨dl,hdl⟩:∃x,x=(l.drop (q+1)).reverse:=⟨_,rfl⟩
     have hb2:=HB2.out
     have hrd2:=HRD2.out
     rw[←hdl] at hb2 hrd2 hrl ⊢
     rw[i2]
     have HBA:=hd (hb2.below ((Below.refl _ _).alloc (Nat.le_refl _) (.cells #[.int .u8 (b.toNat:Int)] 5)))
     have HRD3:=hd hrd2
     clear hrd HRD hrd2 HRD2 hbb hb2 HB2 hdl i2
     go_wp2_with (at_builtin;refine jQag rfl (.tmp 28) (.tmp 33) rfl wo.heap.size _ dl rfl HBA.out b ⟨wr.heap.size,0,none⟩ 1 rfl (by simp[go_sem]) (by omega) (by simp;omega) ?_;intro v3 w3 hbuf3 hb3;have HBUF3:=hd hbuf3;have HB4:=hd hb3;clear hbuf3 hb3)
     go_roundw
     case rel=>exact⟨q,by omega,by go_num,by rw[←HRD3.out];exact HBUF3.out,HB3.out.trans ((Below.mono (B':=wo.heap.size) ((Below.refl _ _).alloc (Nat.le_refl _) _) hz3).trans HB4.out)⟩
     case measure=>simp[intOf]
theorem jQdt (t:ByteArray)(w:World)(hs:t.size≤1000000) :
  Calls Tryz.prog 84 #[.string t] w fun e w'=>e=.returned (.string (Sq.txt t))∧Below w.heap.size w w':=by
 have hn:=Sq.jQt t.size 1
 have HE:Hid (Sq.txt t=Sq.pnum t.size 1++t):=rfl
 go_enter Tryz.func84,Tryz.ntmps84
 go_wp2_with fail
 refine(jQ8 t.size 1 _ (by omega)).mono ?_
 rintro e w2 ⟨rfl,hb2⟩
 obtain⟨p,hp⟩:∃x,x=Sq.pnum t.size 1:=⟨_,rfl⟩
 have he:=HE.out
 rw[←hp] at hn he ⊢
 have HE2:=hd he
 clear hp he HE
 go_wp2
 go_ret
 exact⟨by rw[HE2.out];rfl,hb2⟩
end
section
open Go.RowKit
def RdAt (b:Nat)(w:World)(r:Sq.Rd):Prop:=w.heap[b]?=some (.cells #[.string r.rest,.bool r.short] 105)
structure Only (b:Nat)(w w':World):Prop where
 below:Below b w w'
 other:∀g,g≠b→w'.heap[g]?=w.heap[g]?
theorem Only.trans {b:Nat}{w w1 w2:World}(h:Only b w w1)(k:Only b w1 w2):Only b w w2:=⟨h.below.trans k.below,fun g hg=>(k.other g hg).trans (h.other g hg)⟩
theorem Only.set {b:Nat}{w:World}(o:Nat)(x:Value):Only b w (w.setCell ⟨b,o,none⟩ x):=⟨Below.setCell (B:=b) (Below.refl _ _) (Nat.le_refl _) _,fun _ hg=>jQe hg⟩
theorem jQin {b:Nat}{w:World}{r:Sq.Rd}(h:RdAt b w r):RdAt b (w.setCell ⟨b,1,none⟩ (.bool true)) ⟨r.rest,true⟩:=by
 unfold RdAt at h ⊢
 rw[jQf h]
 rfl
theorem jQrK {b:Nat}{w:World}{r:Sq.Rd}(h:RdAt b w r)(s:ByteArray):RdAt b (w.setCell ⟨b,0,none⟩ (.string s)) ⟨s,r.short⟩:=by
 unfold RdAt at h ⊢
 rw[jQf h]
 rfl
theorem jQnV (b:Nat)(r:Sq.Rd)(k:Int)(w:World)(h:RdAt b w r)(hs:r.rest.size≤1000000) :
  Calls Tryz.prog 89 #[.pointer (some ⟨b,0,none⟩),.int .i64 k] w fun e w'=>e=.returned (.string (Sq.takeV r k))∧RdAt b w' (Sq.takeN r k)∧Only b w w':=by
 obtain⟨s,sh⟩:=r
 have c0:w.cell? ⟨b,0,none⟩=some (.string s):=by rw[jQb h];rfl
 have c1:w.cell? ⟨b,1,none⟩=some (.bool sh):=by rw[jQb h];rfl
 have f0:=jQd h 0
 have f1:=jQd h 1
 have hz:=jQg h
 have H:=hd h
 simp only at hs
 clear h
 by_cases h1:k < 0
 ·have HE:Hid (Sq.takeBad ⟨s,sh⟩ k=true):=by show _=_;unfold Sq.takeBad;simp[h1]
  have i1:decide (k < 0)=true:=by simpa using h1
  go_enter Tryz.func89,Tryz.ntmps89
  go_wp2
  go_ret
  refine⟨by unfold Sq.takeV;rw[HE.out];rfl,?_,Only.set _ _⟩
  unfold Sq.takeN
  rw[HE.out]
  exact jQin H.out
 ·have i1:decide (k < 0)=false:=by simpa using h1
  by_cases h2:(s.size:Int) < k
  ·have HE:Hid (Sq.takeBad ⟨s,sh⟩ k=true):=by show _=_;unfold Sq.takeBad;simp[h2]
   have i2:decide ((s.size:Int) < k)=true:=by simpa using h2
   go_enter Tryz.func89,Tryz.ntmps89
   go_wp2
   go_ret
   refine⟨by unfold Sq.takeV;rw[HE.out];rfl,?_,Only.set _ _⟩
   unfold Sq.takeN
   rw[HE.out]
   exact jQin H.out
  ·have i2:decide ((s.size:Int) < k)=false:=by simpa using h2
   cases sh
   case true =>
    have HE:Hid (Sq.takeBad ⟨s,true⟩ k=true):=by show _=_;unfold Sq.takeBad;simp
    go_enter Tryz.func89,Tryz.ntmps89
    go_wp2
    go_ret
    refine⟨by unfold Sq.takeV;rw[HE.out];rfl,?_,Only.set _ _⟩
    unfold Sq.takeN
    rw[HE.out]
    exact jQin H.out
   case false =>
    have HE:Hid (Sq.takeBad ⟨s,false⟩ k=false):=by show _=_;unfold Sq.takeBad;simp[h1,h2]
    obtain⟨n,rfl⟩:=Int.eq_ofNat_of_zero_le (show 0≤k by omega)
    have hn:n≤s.size:=by omega
    clear h1 h2
    go_enter Tryz.func89,Tryz.ntmps89
    go_wp2
    go_ret
    refine⟨by unfold Sq.takeV;rw[HE.out];rfl,?_,Only.set _ _⟩
    unfold Sq.takeN
    rw[HE.out]
    exact jQrK H.out _
theorem jQsm (a b:Nat)(ha:a < 4611686018427387904)(hb:b < 4611686018427387904):bits .or .i64 ((a:Nat):Int) ((b:Nat):Int)=((a ||| b:Nat):Int):=by
 have hlt:a ||| b < 2 ^ 62:=Nat.or_lt_two_pow (by omega) (by omega)
 have ea:(BitVec.ofInt 64 (a:Int)).toNat=a:=by rw[BitVec.toNat_ofInt];omega
 have eb:(BitVec.ofInt 64 (b:Int)).toNat=b:=by rw[BitVec.toNat_ofInt];omega
 show IntKind.i64.wrap ((BitVec.ofInt 64 (a:Int) ||| BitVec.ofInt 64 (b:Int)).toNat:Int)=_
 rw[BitVec.toNat_or,ea,eb]
 obtain⟨c,hc⟩:∃c,c=a ||| b:=⟨_,rfl⟩
 rw[←hc] at hlt ⊢
 simp[IntKind.wrap,IntKind.bits,IntKind.signed]
 omega
theorem jQrO (n:Int)(b:UInt8)(h0:0≤n)(h1:n < 16777216):bits .or .i64 (n * 256) ((b.toNat:Nat):Int)=n * 256+((b.toNat:Nat):Int):=by
 obtain⟨m,rfl⟩:=Int.eq_ofNat_of_zero_le h0
 have hb:=b.toNat_lt
 have e:((m:Nat):Int) * 256=((2 ^ 8 * m:Nat):Int):=by omega
 rw[e,jQsm _ _ (by omega) (by omega),←Nat.two_pow_add_eq_or_of_lt (by omega) m]
 omega
namespace Sq
theorem jQrk (l:List UInt8)(k:Nat)(h:k < l.length):big (l.take (k+1))=big (l.take k) * 256+(l[k].toNat:Int):=by
 unfold big
 rw[List.take_succ_eq_append_getElem h,List.foldl_append]
 rfl
theorem jQlg (l:List UInt8)(k:Nat)(h:k≤3):0≤big (l.take k)∧big (l.take k) < 16777216:=by
 have h1:=jQrm (l.take k)
 have h2:(l.take k).length≤3:=Nat.le_trans (List.length_take_le _ _) h
 have h3:(256:Int) ^ (l.take k).length≤16777216:=by
  have:=Nat.pow_le_pow_right (n:=256) (by decide) h2
  have e:(256:Int) ^ (l.take k).length=((256 ^ (l.take k).length:Nat):Int):=by simp
  rw[e]
  exact Int.ofNat_le.2 (Nat.le_trans this (by decide))
 omega
end Sq
theorem jQcr (b:Nat)(r:Sq.Rd)(k:Nat)(w:World)(h:RdAt b w r)(hs:r.rest.size≤1000000)(hk:k≤4) :
  Calls Tryz.prog 88 #[.pointer (some ⟨b,0,none⟩),.int .i64 k] w fun e w'=>e=.returned (.int .i64 (Sq.numV r k))∧RdAt b w' (Sq.takeN r k)∧Only b w w':=by
 have hts:=(Sq.jQcO r k).2
 have HN:Hid (Sq.numV r k=Sq.big (Sq.takeV r k).data.toList):=rfl
 obtain⟨s,hs'⟩:∃x,x=Sq.takeV r k:=⟨_,rfl⟩
 have hn:=HN.out
 rw[←hs'] at hn hts
 rw[Int.toNat_natCast] at hts
 have HN2:=hd hn
 have HS:=hd hs'
 have H:=hd h
 clear hn HN hs' h
 go_enter Tryz.func88,Tryz.ntmps88
 go_wp2_with fail
 refine(jQnV b r k _ H.out hs).mono ?_
 rintro e w1 ⟨rfl,hr1,ho1⟩
 rw[←HS.out]
 have HR1:=hd hr1
 have HO1:=hd ho1
 clear hr1 ho1
 have hsl:s.data.toList.length=s.size:=Array.length_toList
 have HSL:=hd hsl
 clear hsl
 go_wp2
 go_loop [6,7] (fun nv i=>∃j:Nat,∃n:Int,j≤s.size∧i=.int .i64 j∧nv=.int .i64 n∧Hid (n=Sq.big (s.data.toList.take j))) (fun _ i=>s.size - (intOf i).toNat)
 case atStart=>exact⟨0,0,Nat.zero_le _,rfl,rfl,rfl⟩
 case round =>
  obtain⟨j,n,hj,rfl,rfl,hbig⟩:=hrel
  by_cases hjt:j < s.size
  ·have hj':j < s.data.toList.length:=by rw[HSL.out];exact hjt
   have hbt:=Sq.jQrk s.data.toList j hj'
   have hbd:=Sq.jQlg s.data.toList j (by omega)
   rw[←hbig.out] at hbt hbd
   have hor:=jQrO n s.data.toList[j] hbd.1 hbd.2
   obtain⟨hb0,hb1⟩:=hbd
   have HOR:=hd hor
   have HBT:=hd hbt
   clear hor hbt
   go_wp2
   have hw:wrap64 ((s[j].toNat:Nat):Int)=((s.data.toList[j].toNat:Nat):Int):=by
    have hlt:=s.data.toList[j].toNat_lt
    show wrap64 ((s.data.toList[j].toNat:Nat):Int)=_
    unfold wrap64
    omega
   rw[hw,HOR.out]
   go_round
   case rel=>exact⟨j+1,_,by omega,by go_num,rfl,HBT.out.symm⟩
   case measure=>simp[intOf];omega
  ·have HE:Hid (Sq.numV r k=n):=by show _=_;rw[HN2.out,hbig.out,List.take_of_length_le (by rw[HSL.out];omega)]
   clear hbig
   go_wp2
   go_ret
   exact⟨by rw[HE.out];rfl,HR1.out,HO1.out⟩
theorem jQcH (b:Nat)(r:Sq.Rd)(w:World)(h:RdAt b w r)(hs:r.rest.size≤1000000) :
  Calls Tryz.prog 131 #[.pointer (some ⟨b,0,none⟩)] w fun e w'=>e=.returned (.string (Sq.txtV r))∧RdAt b w' (Sq.txtN r)∧Only b w w':=by
 have H:=hd h
 have hs2:=Nat.le_trans (Sq.jQaJ r 1) hs
 have HV:Hid (Sq.txtV r=Sq.takeV (Sq.takeN r 1) (Sq.numV r 1)):=rfl
 have HN:Hid (Sq.txtN r=Sq.takeN (Sq.takeN r 1) (Sq.numV r 1)):=rfl
 clear h
 go_enter Tryz.func131,Tryz.ntmps131
 go_wp2_with fail
 refine(jQcr b r 1 _ H.out hs (by decide)).mono ?_
 rintro e w1 ⟨rfl,hr1,ho1⟩
 have HR1:=hd hr1
 have HO1:=hd ho1
 clear hr1 ho1
 obtain⟨n,hn⟩:∃n,n=Sq.numV r 1:=⟨_,rfl⟩
 have hv:=HV.out
 have hn':=HN.out
 rw[←hn] at hv hn'
 have HV2:=hd hv
 have HN2:=hd hn'
 rw[show Sq.numV r ((1:Nat):Int)=n from hn.symm]
 clear hv hn' hn HV HN
 go_wp2_with fail
 refine(jQnV b (Sq.takeN r 1) n _ HR1.out hs2).mono ?_
 rintro e w2 ⟨rfl,hr2,ho2⟩
 go_wp2
 go_ret
 exact⟨by rw[HV2.out];rfl,by rw[HN2.out];exact hr2,HO1.out.trans ho2⟩
theorem jQn2 (b:Nat)(r:Sq.Rd)(w:World)(h:RdAt b w r) :
  Calls Tryz.prog 61 #[.pointer (some ⟨b,0,none⟩)] w fun e w'=>e=.returned (.bool (Sq.doneR r))∧w'=w:=by
 obtain⟨s,sh⟩:=r
 have c0:w.cell? ⟨b,0,none⟩=some (.string s):=by rw[jQb h];rfl
 have c1:w.cell? ⟨b,1,none⟩=some (.bool sh):=by rw[jQb h];rfl
 have hz:=jQg h
 clear h
 have HE:Hid (Sq.doneR ⟨s,sh⟩=(s.toList.isEmpty && !sh)):=rfl
 cases he:s.toList.isEmpty
 all_goals
  have h0:=he
  cases sh
 all_goals
  go_enter Tryz.func61,Tryz.ntmps61
  go_wp2
  go_ret
  exact⟨by rw[HE.out,he];rfl,rfl⟩
theorem jQnb (s:ByteArray)(w:World)(hs:s.size≤1000000) :
  Calls Tryz.prog 147 #[.string s] w fun e w'=>e=.returned (.bool (Sq.isNm s))∧w'=w:=by
 have HE:Hid (Sq.isNm s=(Decidable.decide (1≤s.size) && Decidable.decide (s.size≤8))):=rfl
 by_cases h1:1≤s.size
 ·by_cases h2:s.size≤8
  ·have i1:decide ((1:Int)≤(s.size:Int))=true:=by simp;omega
   have i2:decide ((s.size:Int)≤8)=true:=by simp;omega
   go_enter Tryz.func147,Tryz.ntmps147
   go_wp2
   go_ret
   exact⟨by rw[HE.out];simp[h1,h2],rfl⟩
  ·have i1:decide ((1:Int)≤(s.size:Int))=true:=by simp;omega
   have i2:decide ((s.size:Int)≤8)=false:=by simp;omega
   go_enter Tryz.func147,Tryz.ntmps147
   go_wp2
   go_ret
   exact⟨by rw[HE.out];simp[h1,h2],rfl⟩
 ·have i1:decide ((1:Int)≤(s.size:Int))=false:=by simp;omega
  go_enter Tryz.func147,Tryz.ntmps147
  go_wp2
  go_ret
  exact⟨by rw[HE.out];simp[h1],rfl⟩
end
section
open Go.RowKit
theorem Tryz.infoColR:(Tryz.prog.info? 205).map (fun i=>(i.zero,i.size,i.bytes))=some (some (.agg #[.string ⟨#[]⟩,.int .i64 0]),2,24):=by kernel_rfl
def ColsNew (B:Nat)(w:World)(v:Value)(l:List Sq.Col):Prop:=w.ownsRow B 205 2 v l.length (l.flatMap Sq.Col.cells)
theorem jQ5 {ops:Array Oper}{rest:List Oper}{o:Oper}{a:Act}{Q:Exit→Act→World→Prop}{w:World}(hgd:o.guard=none)(sl x:Operand)
  (ho:o.op=.call { callee:=.builtin .append,args:=#[sl,x],argTypes:=#[92,92] }) (B:Nat) (v:Value) (l:List Sq.Col) (hs:a.eval sl=v) (hb:ColsNew B w v l)
  (c:Sq.Col) (g cc:Nat) (hx:a.eval x=.slice (some ⟨g,0,none⟩) 1 cc) (hc0:w.cell? ⟨g,0,none⟩=some (.string c.name)) (hc1:w.cell? ⟨g,1,none⟩=some (.int .i64 c.kind)) (h1:l.length+1≤1000000) (hB:B≤w.heap.size)
  (h:∀v' w',ColsNew B w' v' (l++[c])→w.grownBy w' v.ownBlock→wpList Tryz.prog ops Q rest (a.put o.dst v') w'):wpList Tryz.prog ops Q (o :: rest) a w:=by
 obtain⟨i0,hi,hz0,hz1,hz2⟩:=info_parts Tryz.infoColR
 refine wpList_append_lies _ hgd sl x 92 ho B 205 i0 _ 2 24 Tryz.underlying92 hi hz0 hz1 hz2 rfl (by decide) v l.length _ hs hb ⟨g,0,none⟩ 1 cc c.cells hx rfl (by
  intro j u hu
  have ea:(⟨g,0,none⟩:Addr).add j=⟨g,j,none⟩:=by unfold Addr.add;split <;> simp_all
  rw[ea]
  match j,hu with
  | 0,hu=>simp[Sq.Col.cells] at hu;subst hu;exact hc0
  | 1,hu=>simp[Sq.Col.cells] at hu;subst hu;exact hc1
  | j+2,hu=>simp[Sq.Col.cells] at hu) (by intro u hu;simp[Sq.Col.cells] at hu;rcases hu with rfl | rfl <;> rfl) (by decide) (by unfold maxLen;omega) (by omega) hB _ rfl ?_
 intro g' cap w' ho' hg' _ _
 refine h _ w' ?_ hg'
 unfold ColsNew
 rw[List.length_append,List.flatMap_append]
 simpa using ho'
theorem ColsNew.below2 {B b:Nat}{w w':World}{v:Value}{l:List Sq.Col}(h:ColsNew B w v l)(hB:B≤b)(hb:Below w.heap.size w w'):ColsNew B w' v l :=
 jQn h fun g hg=>hb.block g (World.ownsRow.lt h g hg).2
theorem jQa1 {b:Nat}{w w':World}{r:Sq.Rd}(h:RdAt b w r)(hb:Below w.heap.size w w'):RdAt b w' r:=(hb.block b (jQg h)).trans h
theorem RdAt.grown {B b:Nat}{w w':World}{v:Value}{l:List Sq.Col}{r:Sq.Rd}(h:RdAt b w r)(ho:ColsNew B w v l)(hg:w.grownBy w' v.ownBlock):RdAt b w' r :=
 (hg.block b (jQg h) (fun e=>jQl ho h (by decide) e.symm)).trans h
theorem ColsNew.only {B b:Nat}{w w':World}{v:Value}{l:List Sq.Col}{c:Array Value}(h:ColsNew B w v l)(hb:w.heap[b]?=some (.cells c 105))(ho:Only b w w'):ColsNew B w' v l :=
 jQn h fun g hg=>ho.other g fun e=>jQl h hb (by decide) (by rw[hg,e])
theorem jQnY (s:ByteArray)(w:World) :
  Calls Tryz.prog 59 #[.string s] w fun e w'=>e=.returned (.agg #[.string s,.bool false])∧Below w.heap.size w w':=by
 go_enter Tryz.func59,Tryz.ntmps59
 go_wp2
 refine bodyPost_ret (v:=.agg #[.string s,.bool false]) (by simp[results,Tryz.results59,go_sem]) rfl ⟨rfl,?_⟩
 first
  | exact(Below.refl _ _).alloc (Nat.le_refl _) _
  | exact Below.setCell (B:=w.heap.size) (Below.setCell (B:=w.heap.size) ((Below.refl _ _).alloc (Nat.le_refl _) _) (Nat.le_refl _) _) (Nat.le_refl _) _
def TabPost (w:World)(row:ByteArray)(e:Ending)(w':World):Prop :=
 ∃cv,e=.returned (.tuple #[.string (match Sq.toTable row with | some x=>x.1 | none=>⟨#[]⟩),cv,.bool (Sq.toTable row).isSome])∧ColsNew w.heap.size w' cv (match Sq.toTable row with | some x=>x.2 | none=>[])∧Below w.heap.size w w'
theorem jQll (row:ByteArray)(w:World)(hs:row.size≤1000):Calls Tryz.prog 106 #[.string row] w (TabPost w row):=by
 have H1:Hid ((Sq.tabHead row).1=Sq.txtV ⟨row,false⟩):=rfl
 have H2:Hid ((Sq.tabHead row).2.1=Sq.numV (Sq.txtN ⟨row,false⟩) 1):=rfl
 have H3:Hid ((Sq.tabHead row).2.2=Sq.takeN (Sq.txtN ⟨row,false⟩) 1):=rfl
 go_enter Tryz.func106,Tryz.ntmps106
 go_wp2_with fail
 refine(jQnY row _).mono ?_
 rintro e w0 ⟨rfl,hb0⟩
 have hz0:=hb0.size
 have HB0:=hd hb0
 clear hb0
 have hr0:RdAt w0.heap.size (w0.alloc (.cells #[.string row,.bool false] 105)) ⟨row,false⟩:=heap_alloc_new w0 _
 have HR0:=hd hr0
 clear hr0
 go_wp2_with fail
 refine(jQcH w0.heap.size ⟨row,false⟩ _ HR0.out (by show row.size≤_;omega)).mono ?_
 rintro e w1 ⟨rfl,hr1,ho1⟩
 have hsz1:=Sq.jQdM ⟨row,false⟩
 have HR1:=hd hr1
 have HO1:=hd ho1
 clear hr1 ho1
 go_wp2_with fail
 refine(jQcr w0.heap.size (Sq.txtN ⟨row,false⟩) 1 _ HR1.out (Nat.le_trans hsz1 (by show row.size≤_;omega)) (by decide)).mono ?_
 rintro e w2 ⟨rfl,hr2,ho2⟩
 rw[show Sq.numV (Sq.txtN ⟨row,false⟩) ((1:Nat):Int)=(Sq.tabHead row).2.1 from rfl,show Sq.txtV ⟨row,false⟩=(Sq.tabHead row).1 from rfl]
 have hr2':RdAt w0.heap.size w2 (Sq.tabHead row).2.2:=hr2
 have HR2:=hd hr2'
 have HO2:=hd (HO1.out.trans ho2)
 clear hr2 hr2' ho2 HR1 HO1 HR0
 have hsz2:(Sq.tabHead row).2.2.rest.size≤1000:=Nat.le_trans (Sq.jQaJ _ _) (Nat.le_trans hsz1 hs)
 have hnm2:(Sq.tabHead row).1.size≤1000:=Nat.le_trans (Sq.jQdL _) hs
 have HG:Hid (Sq.tabGood row=(Sq.isNm (Sq.tabHead row).1 && Decidable.decide (1≤(Sq.tabHead row).2.1) && Decidable.decide ((Sq.tabHead row).2.1≤4))):=rfl
 have HC:Hid (Sq.tabCols row=if Sq.tabGood row then Sq.colsR (Sq.tabHead row).2.1.toNat 0 (Sq.tabHead row).2.2 [] else⟨[],(Sq.tabHead row).2.2,false⟩):=rfl
 have HT:Hid (Sq.toTable row=if(Sq.tabCols row).good && Sq.doneR (Sq.tabCols row).rd then some ((Sq.tabHead row).1,(Sq.tabCols row).cols) else none):=rfl
 have hg:=HG.out
 have hc:=HC.out
 have ht:=HT.out
 have hr2:=HR2.out
 clear HG HC HT HR2 hsz1 H1 H2 H3
 generalize (Sq.tabHead row).1=nm at *
 generalize (Sq.tabHead row).2.1=cnt at *
 generalize (Sq.tabHead row).2.2=rd at *
 have HG:=hd hg
 have HC:=hd hc
 have HT:=hd ht
 have HR2:=hd hr2
 have hz2:=jQg hr2
 have HZ:Hid (Below w.heap.size w w2):=HB0.out.trans (((Below.refl w0.heap.size w0).alloc (Nat.le_refl _) _).mono hz0 |>.trans (HO2.out.below.mono hz0))
 clear hg hc ht hr2
 go_wp2_with fail
 refine(jQnb nm _ (by omega)).mono ?_
 rintro e w3 ⟨rfl,hw3⟩
 rw[hw3]
 clear hw3 w3
 have hg:=HG.out
 obtain⟨b1,hb1⟩:∃b,b=Sq.isNm nm:=⟨_,rfl⟩
 rw[←hb1] at hg ⊢
 clear hb1 HG
 by_cases hgood:b1=true∧1≤cnt∧cnt≤4
 ·obtain⟨rfl,h1,h2⟩:=hgood
  have HGD:Hid (Sq.tabCols row=Sq.colsR cnt.toNat 0 rd []):=by
   show _=_
   have hf:Sq.tabGood row=true:=by rw[hg];simp[h1,h2]
   have hc:=HC.out
   rw[hf] at hc
   exact hc
  clear hg HC
  have i1:decide (1≤cnt)=true:=by simpa using h1
  have i2:decide (cnt≤4)=true:=by simpa using h2
  go_wp2
  go_loopw [8,9,10] (fun gv cv i wr=>∃(g:Bool) (j:Nat) (acc:List Sq.Col) (r:Sq.Rd),gv=.bool g∧i=.int .i64 j∧j≤4∧acc.length≤j∧(g=true→(j:Int)≤cnt)∧r.rest.size≤1000∧ColsNew w.heap.size wr cv acc∧RdAt w0.heap.size wr r∧Below w.heap.size w wr∧Hid (Sq.tabCols row=if g then Sq.colsR (cnt.toNat - j) j r acc else⟨acc,r,false⟩)) (fun _ _ i _=>5 - (intOf i).toNat)
  case atStart=>exact⟨true,0,[],rd,rfl,rfl,by decide,Nat.le_refl _,fun _=>by show(0:Int)≤cnt;omega,hsz2,World.ownsRow_nil _ _ _ _,HR2.out,HZ.out,HGD.out⟩
  case round =>
   obtain⟨g,j,acc,r,rfl,rfl,hj4,hacc,hjc,hrs,hown,hrd,hb,HQ⟩:=hrel
   clear HGD HR2 HZ hz2 i1 i2
   obtain⟨ao,acap,rfl⟩:=jQa hown
   have hzr:=jQg hrd
   have HOWN:=hd hown
   have HRD:=hd hrd
   have HB:=hd hb
   clear hown hrd hb
   cases g
   case false =>
    have HN:Hid (Sq.toTable row=none):=by
     show _=_
     have hq:=HQ.out
     simp only[Bool.false_eq_true,if_false] at hq
     rw[HT.out,hq];rfl
    clear HQ HT hjc
    go_wp2
    go_ret3
    exact⟨.slice none 0 0,by rw[HN.out];rfl,by rw[HN.out];exact World.ownsRow_nil _ _ _ _,HB.out⟩
   case true =>
    have hjc':=hjc rfl
    clear hjc
    have hq:=HQ.out
    simp only[if_true] at hq
    clear HQ
    by_cases hjt:(j:Int) < cnt
    ·obtain⟨f,hf⟩:∃f,cnt.toNat - j=f+1:=⟨cnt.toNat - j - 1,by omega⟩
     have hf':cnt.toNat - (j+1)=f:=by omega
     rw[hf,Sq.colsR] at hq
     have HQ:=hd hq
     have HF:=hd hf'
     have hcs:=Nat.le_trans (Sq.jQaJ r 1) hrs
     have hcn:=Nat.le_trans (Sq.jQdM (Sq.takeN r 1)) hcs
     have hcv:=Nat.le_trans (Sq.jQdL (Sq.takeN r 1)) hcs
     have i3:decide ((j:Int) < cnt)=true:=by simpa using hjt
     clear hq hf hf'
     go_wp2_with fail
     refine(jQcr w0.heap.size r 1 _ HRD.out (by omega) (by decide)).mono ?_
     rintro e w4 ⟨rfl,hr4,ho4⟩
     have HR4:=hd hr4
     have HO4:=hd ho4
     clear hr4 ho4
     go_wp2_with fail
     refine(jQcH w0.heap.size (Sq.takeN r 1) _ HR4.out (by omega)).mono ?_
     rintro e w5 ⟨rfl,hr5,ho5⟩
     have hown:=HOWN.out.only HRD.out (HO4.out.trans ho5)
     have hb:=HB.out.trans ((HO4.out.trans ho5).below.mono hz0)
     have hr5':RdAt w0.heap.size w5 (Sq.colN r):=hr5
     have hcn':(Sq.colN r).rest.size≤1000:=hcn
     have hcv':(Sq.colV r).name.size≤1000:=hcv
     rw[show Sq.numV r 1=(Sq.colV r).kind from rfl,show Sq.txtV (Sq.takeN r 1)=(Sq.colV r).name from rfl]
     have hq:=HQ.out
     clear HQ HOWN HRD HB HR4 HO4 hr5 ho5 hcs hcn hcv
     generalize Sq.colV r=c at *
     generalize Sq.colN r=r' at *
     obtain⟨cn,ck⟩:=c
     simp only at hcv' ⊢
     have HOWN:=hd hown
     have HB:=hd hb
     have HR5:=hd hr5'
     have HQ:=hd hq
     have hz5:=jQg hr5'
     have HCG:Hid (Sq.colGood ⟨cn,ck⟩ j=(Sq.isNm cn && (ck==0 || (ck==1 && Decidable.decide (0 < j))))):=rfl
     clear hown hb hr5' hq
     go_wp2_with fail
     refine(jQnb cn _ (by omega)).mono ?_
     rintro e w6 ⟨rfl,hw6⟩
     rw[hw6]
     clear hw6 w6
     have hcg:=HCG.out
     obtain⟨b1,hb1⟩:∃b,b=Sq.isNm cn:=⟨_,rfl⟩
     rw[←hb1] at hcg ⊢
     have hsp:b1=false∨(b1=true∧ck=0)∨(b1=true∧ck=1∧0 < j)∨(b1=true∧ck=1∧j=0)∨(b1=true∧ck≠0∧ck≠1):=by cases b1 <;> simp <;> omega
     clear hb1 HCG
     have HOW2:=hd (HOWN.out.below2 (by omega) ((Below.refl w5.heap.size w5).alloc (Nat.le_refl _) (.cells #[.string cn,.int .i64 ck] 205)))
     have HR6:Hid (RdAt w0.heap.size (w5.alloc (.cells #[.string cn,.int .i64 ck] 205)) r'):=jQa1 HR5.out ((Below.refl w5.heap.size w5).alloc (Nat.le_refl _) _)
     rcases hsp with rfl | ⟨rfl,rfl⟩ | ⟨rfl,rfl,hj0⟩ | ⟨rfl,rfl,rfl⟩ | ⟨rfl,hk0,hk1⟩
     ·have HGB:Hid (Sq.colGood ⟨cn,ck⟩ j=false):=by show _=_;rw[hcg];simp
      clear hcg
      go_wp2_with (at_builtin;refine jQ5 rfl (.tmp 51) (.tmp 55) rfl w.heap.size _ acc rfl HOW2.out ⟨cn,ck⟩ w5.heap.size 1 rfl (by simp[go_sem]) (by simp[go_sem]) (by omega) (by simp;omega) ?_;intro v7 w7 hown7 hg7;have HO7:=hd hown7;have HB7:=hd (Tch.of_grown (pb:=w.heap.size) hg7 (fun k hk=>(World.ownsRow.lt HOW2.out k hk).1) (by simp;omega));have HR7:=hd (HR6.out.grown HOW2.out hg7);clear hown7 hg7)
      go_roundw
      case rel =>
       refine⟨false,j+1,acc++[⟨cn,ck⟩],r',rfl,by go_num,by omega,by rw[List.length_append];show acc.length+1≤_;omega,(fun h=>by cases h),hcn',HO7.out,HR7.out,HB.out.trans ((Below.mono (B':=w.heap.size) ((Below.refl _ _).alloc (Nat.le_refl _) _) (by omega)).trans HB7.out),?_⟩
       show _=_
       rw[HQ.out,HGB.out]
       try rfl
      case measure=>(simp[intOf];try omega)
     ·have HGB:Hid (Sq.colGood ⟨cn,0⟩ j=true):=by show _=_;rw[hcg];simp
      clear hcg
      go_wp2_with (at_builtin;refine jQ5 rfl (.tmp 51) (.tmp 55) rfl w.heap.size _ acc rfl HOW2.out ⟨cn,0⟩ w5.heap.size 1 rfl (by simp[go_sem]) (by simp[go_sem]) (by omega) (by simp;omega) ?_;intro v7 w7 hown7 hg7;have HO7:=hd hown7;have HB7:=hd (Tch.of_grown (pb:=w.heap.size) hg7 (fun k hk=>(World.ownsRow.lt HOW2.out k hk).1) (by simp;omega));have HR7:=hd (HR6.out.grown HOW2.out hg7);clear hown7 hg7)
      go_roundw
      case rel =>
       refine⟨true,j+1,acc++[⟨cn,0⟩],r',rfl,by go_num,by omega,by rw[List.length_append];show acc.length+1≤_;omega,(fun h=>by omega),hcn',HO7.out,HR7.out,HB.out.trans ((Below.mono (B':=w.heap.size) ((Below.refl _ _).alloc (Nat.le_refl _) _) (by omega)).trans HB7.out),?_⟩
       show _=_
       rw[HQ.out,HGB.out,HF.out]
       try rfl
      case measure=>(simp[intOf];try omega)
     ·have HGB:Hid (Sq.colGood ⟨cn,1⟩ j=true):=by show _=_;rw[hcg];simp[hj0]
      clear hcg
      have i4:decide ((0:Int) < (j:Int))=true:=by simpa using hj0
      go_wp2_with (at_builtin;refine jQ5 rfl (.tmp 51) (.tmp 55) rfl w.heap.size _ acc rfl HOW2.out ⟨cn,1⟩ w5.heap.size 1 rfl (by simp[go_sem]) (by simp[go_sem]) (by omega) (by simp;omega) ?_;intro v7 w7 hown7 hg7;have HO7:=hd hown7;have HB7:=hd (Tch.of_grown (pb:=w.heap.size) hg7 (fun k hk=>(World.ownsRow.lt HOW2.out k hk).1) (by simp;omega));have HR7:=hd (HR6.out.grown HOW2.out hg7);clear hown7 hg7)
      go_roundw
      case rel =>
       refine⟨true,j+1,acc++[⟨cn,1⟩],r',rfl,by go_num,by omega,by rw[List.length_append];show acc.length+1≤_;omega,(fun h=>by omega),hcn',HO7.out,HR7.out,HB.out.trans ((Below.mono (B':=w.heap.size) ((Below.refl _ _).alloc (Nat.le_refl _) _) (by omega)).trans HB7.out),?_⟩
       show _=_
       rw[HQ.out,HGB.out,HF.out]
       try rfl
      case measure=>(simp[intOf];try omega)
     ·have HGB:Hid (Sq.colGood ⟨cn,1⟩ 0=false):=by show _=_;rw[hcg];simp
      clear hcg
      go_wp2_with (at_builtin;refine jQ5 rfl (.tmp 51) (.tmp 55) rfl w.heap.size _ acc rfl HOW2.out ⟨cn,1⟩ w5.heap.size 1 rfl (by simp[go_sem]) (by simp[go_sem]) (by omega) (by simp;omega) ?_;intro v7 w7 hown7 hg7;have HO7:=hd hown7;have HB7:=hd (Tch.of_grown (pb:=w.heap.size) hg7 (fun k hk=>(World.ownsRow.lt HOW2.out k hk).1) (by simp;omega));have HR7:=hd (HR6.out.grown HOW2.out hg7);clear hown7 hg7)
      go_roundw
      case rel =>
       refine⟨false,0+1,acc++[⟨cn,1⟩],r',rfl,by go_num,by omega,by rw[List.length_append];show acc.length+1≤_;omega,(fun h=>by cases h),hcn',HO7.out,HR7.out,HB.out.trans ((Below.mono (B':=w.heap.size) ((Below.refl _ _).alloc (Nat.le_refl _) _) (by omega)).trans HB7.out),?_⟩
       show _=_
       rw[HQ.out,HGB.out]
       try rfl
      case measure=>(simp[intOf];try omega)
     ·have HGB:Hid (Sq.colGood ⟨cn,ck⟩ j=false):=by show _=_;rw[hcg];simp[hk0,hk1]
      clear hcg
      have i4:(ck==0)=false:=by simpa using hk0
      have i5:(ck==1)=false:=by simpa using hk1
      go_wp2_with (at_builtin;refine jQ5 rfl (.tmp 51) (.tmp 55) rfl w.heap.size _ acc rfl HOW2.out ⟨cn,ck⟩ w5.heap.size 1 rfl (by simp[go_sem]) (by simp[go_sem]) (by omega) (by simp;omega) ?_;intro v7 w7 hown7 hg7;have HO7:=hd hown7;have HB7:=hd (Tch.of_grown (pb:=w.heap.size) hg7 (fun k hk=>(World.ownsRow.lt HOW2.out k hk).1) (by simp;omega));have HR7:=hd (HR6.out.grown HOW2.out hg7);clear hown7 hg7)
      go_roundw
      case rel =>
       refine⟨false,j+1,acc++[⟨cn,ck⟩],r',rfl,by go_num,by omega,by rw[List.length_append];show acc.length+1≤_;omega,(fun h=>by cases h),hcn',HO7.out,HR7.out,HB.out.trans ((Below.mono (B':=w.heap.size) ((Below.refl _ _).alloc (Nat.le_refl _) _) (by omega)).trans HB7.out),?_⟩
       show _=_
       rw[HQ.out,HGB.out]
       try rfl
      case measure=>(simp[intOf];try omega)
    ·have hjt':cnt.toNat - j=0:=by omega
     rw[hjt',Sq.colsR] at hq
     have hT:=HT.out
     rw[hq] at hT
     simp only[Bool.true_and] at hT
     have HT2:=hd hT
     have i3:decide ((j:Int) < cnt)=false:=by simpa using hjt
     clear HT hq hT hjt'
     go_wp2_with fail
     refine(jQn2 w0.heap.size r _ HRD.out).mono ?_
     rintro e w4 ⟨rfl,hw4⟩
     rw[hw4]
     clear hw4 w4
     obtain⟨b1,hb1⟩:∃b,b=Sq.doneR r:=⟨_,rfl⟩
     have ht2:=HT2.out
     rw[←hb1] at ht2 ⊢
     clear hb1 HT2
     cases b1
     case false =>
      have HN:Hid (Sq.toTable row=none):=ht2
      clear ht2
      go_wp2
      go_ret3
      exact⟨.slice none 0 0,by rw[HN.out];rfl,by rw[HN.out];exact World.ownsRow_nil _ _ _ _,HB.out⟩
     case true =>
      have HN:Hid (Sq.toTable row=some (nm,acc)):=ht2
      clear ht2
      go_wp2
      go_ret3
      exact⟨_,by rw[HN.out];rfl,by rw[HN.out];exact HOWN.out,HB.out⟩
 ·have HBAD:Hid (Sq.toTable row=none):=by
   show _=_
   have hf:Sq.tabGood row=false:=by rw[hg];cases b1 <;> simp at hgood ⊢;intro h;have:=hgood h;omega
   have hc:=HC.out
   rw[hf] at hc
   rw[HT.out,hc];rfl
  clear hg HC HT
  have hsp:b1=false∨(b1=true∧¬1≤cnt)∨(b1=true∧1≤cnt∧¬cnt≤4):=by cases b1 <;> simp at hgood ⊢;omega
  clear hgood
  rcases hsp with rfl | ⟨rfl,h1⟩ | ⟨rfl,h1,h2⟩
  all_goals
   first
    | have i1:decide (1≤cnt)=false:=by simpa using h1
    | (
      have i1:decide (1≤cnt)=true:=by simpa using h1
      have i2:decide (cnt≤4)=false:=by simpa using h2)
    | skip
   go_wp2
   go_loopw [8,9,10,11,12] (fun gv _ _ _ _ wr=>gv=.bool false∧wr=w2) (fun _ _ _ _ _ _=>0)
   case atStart=>exact⟨rfl,rfl⟩
   case round =>
    obtain⟨rfl,rfl⟩:=hrel
    go_wp2
    go_ret3
    exact⟨.slice none 0 0,by rw[HBAD.out];rfl,by rw[HBAD.out];exact World.ownsRow_nil _ _ _ _,HZ.out⟩
end
end Go.Proofs.YtahpihjialbanaaGreatDoor
