import Derived.Test.YtahpihjialbanaaGreatDoorQbc
set_option linter.unusedVariables false
set_option linter.unusedSimpArgs false
set_option maxRecDepth 100000
set_option maxHeartbeats 4000000
namespace Go.Proofs.YtahpihjialbanaaGreatDoor
section
open Go.RowKit
variable {Z:Nat→Prop}
def RunSays (Z:Nat→Prop)(tb:Nat)(x:ByteArray×Sq.NTree×Sq.Trl)(w:World)(e:Ending)(w':World):Prop :=
 ∃ev cv,e=.returned (.tuple #[.string x.1,.agg (headCells x.2.1.head ev cv).toArray])∧NodeAt Z w' x.2.1.d x.2.1.t ev cv∧TrAt tb w' x.2.2∧TFrm tb w w'
theorem RunSays.drew {tb:Nat}{x:ByteArray×Sq.NTree×Sq.Trl}{w w':World}{e:Ending}(h:RunSays Z tb x w e w'):RunSays Z tb x w e w'.drew:=by
 obtain⟨ev,cv,h1,h2,h3,h4⟩:=h
 have hb:Below w'.heap.size w' w'.drew:=Below.drew (Below.refl _ _)
 exact⟨ev,cv,h1,h2.below hb,h3.below hb,h4.trans (TFrm.of hb (Nat.le_of_lt h3.lt))⟩
theorem jQlE {tb b:Nat}{w:World}{tr:Sq.Trl}{c:Array Value}(h:TrAt tb w tr)(hb:w.heap[b]?=some (.cells c 60))(x0 x1 x2 x3 x4 x5 x6:Value):TrAt tb (set7 w b x0 x1 x2 x3 x4 x5 x6) tr:=by
 refine h.keeps (e0:=60) ?_ (by decide) (by decide)
 intro q cq e fr hq he
 refine jQq _ _ _ _ _ _ _ _ _ fun e2=>?_
 subst e2
 rw[hb] at hq
 simp only[Option.some.injEq,Obj.cells.injEq] at hq
 exact he hq.2.1.symm
theorem jQq4 (K:Int)(hK0:0≤K)(hK:K≤99998)(X:Sq.NTree)(ev cv:Value)(sql:ByteArray)(tb:Nat)(tr:Sq.Trl)(w:World)(h:NodeAt Z w X.d X.t ev cv)(hf:Sq.TameT K 800000000 X)(hcn:Sq.countN X.d X.t≤900)(ht:TrAt tb w tr)(hr:Sq.TameR K tr)(hT:Tbl w)(hL:Low tb)(hZ:∀g,w.heap.size≤g→¬Z g)(hok:OkOut (Sq.decideR X sql tr).1) :
  Calls Tryz.prog 43 #[.agg (headCells X.head ev cv).toArray,.string sql,.pointer (some ⟨tb,0,none⟩)] w (RunSays Z tb (Sq.runR X sql tr) w):=by
 obtain⟨⟨e1,e2,e3,hev⟩,k1,k2,k3,hcv⟩:=h.slices
 subst hev hcv
 have htb:tb≤w.heap.size:=Nat.le_of_lt ht.lt
 have hr2:=Sq.jQcC hf.t hr sql
 have hkd:∀w',NodeAt (fun g=>Z g∨g=w.heap.size+1) w' X.d X.t (.slice e1 e2 e3) (.slice k1 k2 k3)→TrAt tb w' tr→Tbl w'→Calls Tryz.prog 53 #[.agg (headCells X.head (.slice e1 e2 e3) (.slice k1 k2 k3)).toArray,.string sql,.pointer (some ⟨tb,0,none⟩)] w' (OutSays tb (Sq.decideR X sql tr) w'):=fun w' hn ht' hT'=>jQnu K (by omega) X _ _ sql tb tr w' hn hf hcn ht' hr hT' hL
 have hka:∀w' cv' pv kv,NodeAt (fun g=>Z g∨g=w.heap.size+1) w' X.d X.t (.slice e1 e2 e3) (.slice k1 k2 k3)→TrAt tb w' (Sq.decideR X sql tr).2→OutAt w' (Sq.decideR X sql tr).1 cv' pv kv→w.heap.size+1 < w'.heap.size→Calls Tryz.prog 54 #[.agg (headCells X.head (.slice e1 e2 e3) (.slice k1 k2 k3)).toArray,.agg (outCells (Sq.decideR X sql tr).1 cv' pv kv),.pointer (some ⟨tb,0,none⟩)] w' (TreeSays (fun g=>Z g∨g=w.heap.size+1) tb (Sq.applyR (Sq.decideR X sql tr).1 (X,(Sq.decideR X sql tr).2)) w'):=fun w' cv' pv kv hn ht' ho hs=>jQpz K hK0 hK X _ _ _ cv' pv kv tb _ w' hn hf ht' hr2 (fun g hg hz=>by rcases hz with hz | hz;exact hZ g (by omega) hz;omega) ho hok
 have hE:Sq.runR X sql tr=((Sq.decideR X sql tr).1.reply,Sq.applyR (Sq.decideR X sql tr).1 (X,(Sq.decideR X sql tr).2)):=rfl
 have hn0:NodeAt (fun g=>Z g∨g=w.heap.size+1) w X.d X.t (.slice e1 e2 e3) (.slice k1 k2 k3):=h.more (by omega)
 generalize Sq.applyR (Sq.decideR X sql tr).1 (X,(Sq.decideR X sql tr).2)=Y at *
 obtain⟨⟨o,tr1⟩,ho⟩:∃x,x=Sq.decideR X sql tr:=⟨_,rfl⟩
 rw[←ho] at hkd hka hE
 rw[hE]
 simp only at hka ⊢
 generalize X.head=hh at *
 rw[jQc] at hkd hka ⊢
 have HKD:=hd hkd
 have HKA:=hd hka
 have HN:=hd hn0
 have HTR:=hd ht
 have HT:=hd hT
 have HL:=hd hL
 clear hkd hka hE hn0 h ht hT hL ho hr hr2 hf hcn hok hZ
 obtain⟨W,hW⟩:∃W:World,W=((w.alloc (.cells #[.bool hh.inner,.slice e1 e2 e3,.slice k1 k2 k3,.int .i64 hh.least,.int .i64 hh.rows,.string hh.sl,.int .i64 hh.num] 60)).alloc (.cells #[.bool false,.slice none 0 0,.slice none 0 0,.int .i64 0,.int .i64 0,.string ⟨#[]⟩,.int .i64 0] 60)).alloc (.cells #[.bool hh.inner,.slice e1 e2 e3,.slice k1 k2 k3,.int .i64 hh.least,.int .i64 hh.rows,.string hh.sl,.int .i64 hh.num] 91):=⟨_,rfl⟩
 obtain⟨hbW,hb0,hb1,hb2⟩:=jQP hW
 have hzW:=jQg hb2
 have HBW:=hd hbW
 have HB1:=hd hb1
 have HB2:=hd hb2
 clear hbW hb0 hb1 hb2
 go_enter Tryz.func43,Tryz.ntmps43
 go_wp2_with fail
 rw[←hW]
 clear hW
 refine(HKD.out _ (HN.out.below HBW.out) (HTR.out.below HBW.out) (HT.out.below HBW.out)).mono ?_
 rintro e w1 ⟨cv9,pv9,kv9,rfl,ho9,ht9,hf9⟩
 simp only at ho9 ht9 ⊢
 obtain⟨xo9,xc9,rfl⟩:=jQa ho9.cols.1
 obtain⟨yo9,yc9,rfl⟩:=ho9.puts.slice
 obtain⟨zo9,zc9,rfl⟩:=jQa ho9.cuts
 have hfr1:TFrm tb w w1:=(TFrm.of HBW.out htb).trans hf9
 have hx1:=(hf9.keep _ _ _ _ HB1.out (by decide) (by decide)).trans HB1.out
 have hx2:=(hf9.keep _ _ _ _ HB2.out (by decide) (by decide)).trans HB2.out
 have hz1:=jQg hx2
 have htl:=ht9.lt
 unfold outCells
 obtain⟨V,hV⟩:∃V:World,V=w1.alloc (.cells #[.string o.reply,.bool o.makes,.int .i64 o.tab.number,.string o.tab.name,.slice xo9 o.tab.cols.length xc9,.slice yo9 o.puts.length yc9,.slice zo9 o.cuts.length zc9] 98):=⟨_,rfl⟩
 have hbV:Below w1.heap.size w1 V:=by rw[hV];exact(Below.refl _ _).alloc (Nat.le_refl _) _
 have hv0:V.heap[w1.heap.size]?=some (.cells #[.string o.reply,.bool o.makes,.int .i64 o.tab.number,.string o.tab.name,.slice xo9 o.tab.cols.length xc9,.slice yo9 o.puts.length yc9,.slice zo9 o.cuts.length zc9] 98):=by rw[hV];exact jQk _ _
 obtain⟨s0,s1,s2,s3,s4,s5,s6⟩:=jQr hx2
 have HFR1:=hd hfr1
 have HX1:=hd ((hbV.block _ (by omega)).trans hx1)
 have HO:=hd (ho9.below hbV)
 have HTV:=hd (ht9.below hbV)
 have HNV:=hd (((HN.out.tfrm hfr1).below hbV))
 have HBV:=hd hbV
 have HV0:=hd hv0
 have hzV:=hbV.size
 have hzV1:=jQg hv0
 clear ho9 ht9 hf9 hfr1 hx1 hx2 hbV hv0 HKD HBW HB1 HB2
 go_wp2_with fail
 rw[←hV]
 clear hV
 refine(HKA.out _ _ _ _ HNV.out HTV.out HO.out (by omega)).mono ?_
 rintro e w2 ⟨ev2,cv2,rfl,hn2,ht2,hf2⟩
 obtain⟨⟨a1,a2,a3,hev⟩,b1,b2,b3,hcv⟩:=hn2.slices
 subst hev hcv
 rw[jQc]
 have hx1:=(hf2.keep _ _ _ _ HX1.out (by decide) (by decide)).trans HX1.out
 have hv1:=(hf2.keep _ _ _ _ HV0.out (by decide) (by decide)).trans HV0.out
 have hfr2:TFrm tb w w2:=HFR1.out.trans ((TFrm.of HBV.out (by omega)).trans hf2)
 have hz2:=jQg hv1
 have htl2:=ht2.lt
 clear s0 s1 s2 s3 s4 s5 s6 HX1 HV0 HFR1 HBV HO HTV HNV HKA HN
 obtain⟨Y1,Y2⟩:=Y
 simp only at hn2 ht2 ⊢
 generalize hyh:Y1.head=yh at *
 obtain⟨V2,hV2⟩:∃V2:World,V2=w2.alloc (.cells #[.bool yh.inner,.slice a1 a2 a3,.slice b1 b2 b3,.int .i64 yh.least,.int .i64 yh.rows,.string yh.sl,.int .i64 yh.num] 91):=⟨_,rfl⟩
 have hbV2:Below w2.heap.size w2 V2:=by rw[hV2];exact(Below.refl _ _).alloc (Nat.le_refl _) _
 have hq0:V2.heap[w2.heap.size]?=some (.cells #[.bool yh.inner,.slice a1 a2 a3,.slice b1 b2 b3,.int .i64 yh.least,.int .i64 yh.rows,.string yh.sl,.int .i64 yh.num] 91):=by rw[hV2];exact jQk _ _
 have hx1':=(hbV2.block _ (by omega)).trans hx1
 have hv1':=(hbV2.block _ (by omega)).trans hv1
 have d0:V2.cell? ⟨w1.heap.size,0,none⟩=some (.string o.reply):=by rw[jQb hv1'];rfl
 obtain⟨p0,p1,p2,p3,p4,p5,p6⟩:=jQr hq0
 obtain⟨g0,g1,g2,g3,g4,g5,g6⟩:=jQr hx1'
 obtain⟨f0,f1,f2,f3,f4,f5,f6⟩:=jQp hx1'
 have hzq:=jQg hq0
 have hzq1:=jQg hx1'
 have hzq2:=jQg hv1'
 have hfin:∀U:World,U.heap[w.heap.size+1]?=some (.cells #[.bool false,.slice none 0 0,.slice none 0 0,.int .i64 0,.int .i64 0,.string ⟨#[]⟩,.int .i64 0] 60)→NodeAt (fun g=>Z g∨g=w.heap.size+1) U Y1.d Y1.t (.slice a1 a2 a3) (.slice b1 b2 b3)→TrAt tb U Y2→TFrm tb w U→RunSays Z tb (o.reply,Y1,Y2) w (.returned (.tuple #[.string o.reply,.agg #[.bool yh.inner,.slice a1 a2 a3,.slice b1 b2 b3,.int .i64 yh.least,.int .i64 yh.rows,.string yh.sl,.int .i64 yh.num]])) (set7 U (w.heap.size+1) (.bool yh.inner) (.slice a1 a2 a3) (.slice b1 b2 b3) (.int .i64 yh.least) (.int .i64 yh.rows) (.string yh.sl) (.int .i64 yh.num)):=by
  intro U u1 u2 u3 u4
  refine⟨.slice a1 a2 a3,.slice b1 b2 b3,by simp only[hyh,jQc],?_,jQlE u3 u1 _ _ _ _ _ _ _,u4.set7 (by omega) (by omega) _ _ _ _ _ _ _⟩
  refine NodeAt.less (Z:=fun g=>Z g∨g=w.heap.size+1) (fun g hg=>Or.inl hg) ?_
  exact NodeAt.skip u2 (Or.inr rfl) u1 (fun g hg=>jQq _ _ _ _ _ _ _ _ _ hg)
 have hfv:=hfin V2 hx1' (hn2.below hbV2) (ht2.below hbV2) (hfr2.trans (TFrm.of hbV2 (by omega)))
 have HFV:=hd hfv
 have HFD:=hd (hfv.drew)
 clear hfv hfin hn2 ht2 hf2 hx1 hv1 hfr2 hbV2 hq0 hx1' hv1' hyh
 go_wp2
 rw[←hV2]
 clear hV2
 go_region_with fail
 all_goals(try go_wp2_with fail)
 all_goals refine bodyPost_ret (v:=.tuple #[.string o.reply,.agg #[.bool yh.inner,.slice a1 a2 a3,.slice b1 b2 b3,.int .i64 yh.least,.int .i64 yh.rows,.string yh.sl,.int .i64 yh.num]]) (by simp[results,Tryz.results43,go_sem, *]) rfl ?_
 all_goals(first | exact HFD.out | exact HFV.out)
end
section
open Go.RowKit
variable {Z:Nat→Prop}
def manyN:(n:Nat)→Sq.Nd n→Nat
 | 0,_=>1
 | n+1,t=>1+((Sq.NodeF.kids t).map (manyN n)).sum
theorem jQjF {α:Type}{g:α→Int→α×Int}{m:α→Nat}:∀(l:List α) (k:Int),(∀c∈l,∀k,(g c k).2=k+(m c:Int))→(Sq.numbL g l k).2=k+((l.map m).sum:Nat)
 | [],k,_=>by simp[Sq.numbL]
 | c :: r,k,h=>by
  have h1:=h c (List.mem_cons_self ..) k
  have h2:=jQjF r (g c k).2 fun d hd=>h d (List.mem_cons_of_mem _ hd)
  show(Sq.numbL g r (g c k).2).2=_
  rw[h2,h1,List.map_cons,List.sum_cons]
  omega
theorem jQir:∀(n:Nat) (t:Sq.Nd n) (k:Int),(Sq.numN n t k).2=k+(manyN n t:Int)
 | 0,t,k=>by
  have hk:(t:Sq.NodeF Empty).kids=[]:=by
   cases hq:(t:Sq.NodeF Empty).kids with
   | nil=>rfl
   | cons c _=>exact c.elim
  show(Sq.numbL _ (t:Sq.NodeF Empty).kids (k+1)).2=_
  rw[hk]
  rfl
 | n+1,t,k=>by
  show(Sq.numbL (Sq.numN n) (Sq.NodeF.kids t) (k+1)).2=_
  rw[jQjF (m:=manyN n) _ _ fun c _ k=>jQir n c k]
  show _=k+((1+((Sq.NodeF.kids t).map (manyN n)).sum:Nat):Int)
  omega
theorem jQmA {α:Type}(g:α→Int→α×Int)(cs:List α)(k:Nat)(h:k < cs.length)(x:Int):Sq.numbL g (cs.drop k) x=((g cs[k] x).1 :: (Sq.numbL g (cs.drop (k+1)) (g cs[k] x).2).1,(Sq.numbL g (cs.drop (k+1)) (g cs[k] x).2).2):=by
 rw[List.drop_eq_getElem_cons h,Sq.numbL]
theorem NodeAt.move:∀{n:Nat} {w w':World} {t:Sq.Nd n} {ev cv:Value},NodeAt Z w n t ev cv→(∀(q:Nat) (c:Array Value) (e:TypeId) (fr:Nat×Nat),w.heap[q]?=some (Obj.cells c e fr)→(e=141∨(e=60∧¬Z q))→w'.heap[q]?=w.heap[q]?)→NodeAt Z w' n t ev cv
 | 0,_,_,_,_,_,h,hs=>by
  refine⟨⟨h.1.1,?_⟩,h.2⟩
  rcases h.1.2 with h0 | ⟨g,cap,cur,hv,hbg,hh,hn,hm,hc,ht⟩
  ·exact Or.inl h0
  ·exact Or.inr ⟨g,cap,cur,hv,hbg,(hs g _ _ _ hh (Or.inl rfl)).trans hh,hn,hm,hc,ht⟩
 | _+1,_,_,_,_,_,h,hs=>by
  obtain⟨h1,l,h2,h3,hz,h4⟩:=h
  refine⟨⟨h1.1,?_⟩,l,h2,⟨h3.1,?_⟩,hz,fun x hx=>(h4 x hx).move hs⟩
  ·rcases h1.2 with h0 | ⟨g,cap,cur,hv,hbg,hh,hn,hm,hc,ht⟩
   ·exact Or.inl h0
   ·exact Or.inr ⟨g,cap,cur,hv,hbg,(hs g _ _ _ hh (Or.inl rfl)).trans hh,hn,hm,hc,ht⟩
  ·rcases h3.2 with h0 | ⟨g,cap,cur,hv,hbg,hh,hn,hm,hc,ht⟩
   ·exact Or.inl h0
   ·exact Or.inr ⟨g,cap,cur,hv,hbg,(hs g _ _ _ hh (Or.inr ⟨rfl,hz g 0 none _ _ hv⟩)).trans hh,hn,hm,hc,ht⟩
structure NodesOwn (Y:Nat→Prop)(B:Nat)(w:World)(v:Value)(n:Nat)(l:List (Sq.Nd n×Value×Value)):Prop where
 own:w.ownsRow B 60 7 v l.length (l.flatMap (nodeCells n))
 each:∀x∈l,NodeAt (fun g=>Y g∨v.ownBlock=some g) w n x.1 x.2.1 x.2.2
theorem NodesOwn.at {Y:Nat→Prop}{B n:Nat}{w:World}{v:Value}{l:List (Sq.Nd n×Value×Value)}(h:NodesOwn Y B w v n l):NodesAt Y 0 w v n l:=⟨jQi h.own (Nat.zero_le _),fun x hx=>(h.each x hx).less fun g hg=>Or.inl hg⟩
theorem NodesOwn.below {Y:Nat→Prop}{B n:Nat}{w w':World}{v:Value}{l:List (Sq.Nd n×Value×Value)}(h:NodesOwn Y B w v n l)(hb:Below w.heap.size w w'):NodesOwn Y B w' v n l:=⟨jQh h.own hb,fun x hx=>(h.each x hx).below hb⟩
theorem NodesOwn.nil (Y:Nat→Prop)(B:Nat)(w:World)(n:Nat):NodesOwn Y B w (.slice none 0 0) n []:=⟨World.ownsRow_nil _ _ _ _,fun x hx=>by cases hx⟩
theorem jQbO {ops:Array Oper}{rest:List Oper}{o:Oper}{a:Act}{Q:Exit→Act→World→Prop}{w:World}(hgd:o.guard=none)(sl x:Operand)
  (ho:o.op=.call { callee:=.builtin .append,args:=#[sl,x],argTypes:=#[58,58] }) (Y:Nat→Prop) (B:Nat) (v:Value) (n:Nat) (l:List (Sq.Nd n×Value×Value)) (hs:a.eval sl=v) (hb:NodesOwn Y B w v n l)
  (m:Sq.Nd n×Value×Value) (sv:Value) (hx:a.eval x=sv) (hrd:Reads w sv 1 7 ([m].flatMap (nodeCells n))) (hm:NodeAt (fun g=>Y g∨v.ownBlock=some g) w n m.1 m.2.1 m.2.2) (h1:l.length+1≤1000000) (hB:B≤w.heap.size)
  (h:∀v' w',NodesOwn Y B w' v' n (l++[m])→Below B w w'→Keeps 60 w w'→(∀g,v'.ownBlock=some g→g < w'.heap.size)→wpList Tryz.prog ops Q rest (a.put o.dst v') w'):wpList Tryz.prog ops Q (o :: rest) a w:=by
 obtain⟨i0,hi,hz0,hz1,hz2⟩:=info_parts Tryz.infoNode
 rcases hrd.2 with⟨_,h0⟩ | ⟨g,off,cap,rfl,_,hc⟩
 ·omega
 refine wpList_append_lies _ hgd sl x 58 ho B 60 i0 _ 7 96 Tryz.underlying58 hi hz0 hz1 hz2 rfl (by decide) v l.length _ hs hb.own ⟨g,off,none⟩ 1 cap ([m].flatMap (nodeCells n)) hx hrd.1 (by
  intro j u hu
  rw[jQbt]
  exact hc j u hu) (jQeD hm) (by decide) (by unfold maxLen;omega) (by omega) hB _ rfl ?_
 intro g' cap w' ho' hg' hat hlt
 have hkeep:∀(q:Nat) (c:Array Value) (e:TypeId) (fr:Nat×Nat),w.heap[q]?=some (Obj.cells c e fr)→(e≠60∨v.ownBlock≠some q)→w'.heap[q]?=w.heap[q]?:=fun q c e fr hq he=>hg'.block q (jQg hq) (by
  rcases he with he | he
  ·exact fun e2=>jQl hb.own hq (fun e3=>he e3.symm) e2.symm
  ·exact fun e2=>he e2.symm)
 refine h _ w' ⟨by rw[List.length_append,List.flatMap_append];exact ho',fun y hy=>?_⟩ (Tch.of_grown hg' (fun k hk=>(World.ownsRow.lt hb.own k hk).1) hB) (fun q c e fr hq he=>hkeep q c e fr hq (Or.inl he)) (fun q hq=>by
  have:g'=q:=by simpa[Value.ownBlock] using hq
  omega)
 have hy2:NodeAt (fun g=>Y g∨v.ownBlock=some g) w n y.1 y.2.1 y.2.2:=by
  rcases List.mem_append.1 hy with hy | hy
  ·exact hb.each y hy
  ·rw[List.mem_singleton.1 hy];exact hm
 have hy3:NodeAt (fun g=>(Y g∨v.ownBlock=some g)∨g=w.heap.size) w n y.1 y.2.1 y.2.2:=hy2.more (Nat.le_refl _)
 have hy4:=hy3.move (w':=w') (fun q c e fr hq he=>hkeep q c e fr hq (by
  rcases he with rfl | ⟨_,he⟩
  ·exact Or.inl (by decide)
  ·exact Or.inr fun e2=>he (Or.inl (Or.inr e2))))
 refine hy4.less fun q hq=>?_
 rcases hq with hq | hq
 ·exact Or.inl (Or.inl hq)
 ·have e1:g'=q:=by simpa[Value.ownBlock] using hq
  rcases hat with hat | hat
  ·exact Or.inl (Or.inr (by rw[hat,e1]))
  ·exact Or.inr (by omega)
def NumSays (Z:Nat→Prop)(n:Nat)(x:Sq.Nd n×Int)(w:World)(e:Ending)(w':World):Prop:=∃ev cv,e=.returned (.tuple #[.agg (headCells (Sq.headN n x.1) ev cv).toArray,.int .i64 x.2])∧NodeAt Z w' n x.1 ev cv∧Below w.heap.size w w'
def NumPost (Z:Nat→Prop)(n:Nat)(h:Sq.Head)(es:List Sq.Ent)(cs:List (Sq.Nd n))(k0:Int)(ev:Value)(w:World)(e:Ending)(w':World):Prop:=∃v k,e=.returned (.tuple #[.agg (headCells { h with num:=k0 } ev v).toArray,.int .i64 (Sq.numbL (Sq.numN n) cs (k0+1)).2])∧k.map Prod.fst=(Sq.numbL (Sq.numN n) cs (k0+1)).1∧EntsAt 0 w' ev es∧NodesAt Z 0 w' v n k∧offV Z v∧(k=[]→v=.slice none 0 0)∧Below w.heap.size w w'
theorem jQez (n:Nat)(h:Sq.Head)(es:List Sq.Ent)(l:List (Sq.Nd n×Value×Value))(ev cv:Value)(k0:Int)(w:World)(hes:EntsAt 0 w ev es)(hn:NodesAt Z 0 w cv n l)(hl:l.length≤100)(hZ:∀g,w.heap.size≤g→¬Z g)(h0:0≤k0)
  (hb2:k0+1+(((l.map Prod.fst).map (manyN n)).sum:Nat)≤1000000)
  (ih:∀x∈l,∀w' (k:Int) (Y:Nat→Prop),(∀g,w'.heap.size≤g→¬Y g)→NodeAt Y w' n x.1 x.2.1 x.2.2→0≤k→k+(manyN n x.1:Int)≤1000000→Calls Tryz.prog 52 #[.agg (nodeCells n x).toArray,.int .i64 k] w' (NumSays Y n (Sq.numN n x.1 k) w')) :
  Calls Tryz.prog 52 #[.agg (headCells h ev cv).toArray,.int .i64 k0] w (NumPost Z n h es (l.map Prod.fst) k0 ev w):=by
 obtain⟨eo,ecap,rfl⟩:=jQa hes
 obtain⟨co,ccap,rfl⟩:=jQa hn.own
 rw[jQc]
 obtain⟨Y,hY⟩:∃Y:Nat→Prop,Y=fun g=>(Z g∨g=w.heap.size)∨g=w.heap.size+1:=⟨_,rfl⟩
 obtain⟨W,hWW,hW,hWs,hblk,hres⟩:=jQb9 w #[.bool h.inner,.slice eo es.length ecap,.slice co l.length ccap,.int .i64 h.least,.int .i64 h.rows,.string h.sl,.int .i64 h.num]
 have HN:Hid (NodesAt Y 0 W (.slice co l.length ccap) n l):=by
  rw[hY]
  exact(show NodesAt (fun g=>(Z g∨g=w.heap.size)∨g=w.heap.size+1) 0 w (.slice co l.length ccap) n l from⟨hn.own,fun x hx=>((hn.each x hx).more (Nat.le_refl _)).more (Nat.le_succ _)⟩).below hW
 have HYO:Hid (∀g,w.heap.size+2≤g→¬Y g):=by
  intro g hg
  rw[hY]
  rintro((hz | hz) | hz)
  ·exact hZ g (by omega) hz
  ·omega
  ·omega
 have HYZ:Hid (∀g,Z g→Y g):=by intro g hg;rw[hY];exact Or.inl (Or.inl hg)
 have HY0:Hid (Y w.heap.size):=by show Y _;rw[hY];exact Or.inl (Or.inr rfl)
 have HY1:Hid (Y (w.heap.size+1)):=by show Y _;rw[hY];exact Or.inr rfl
 have HES:=hd (hes.below hW)
 have HW:=hd hW
 have HWS:=hd hWs
 have HBLK:=hd hblk
 have HRES:=hd hres
 have IH:=hd ih
 have HB2:=hd hb2
 have hk1:k0≤999999:=by omega
 clear hW hWs hblk hres hn hes hZ ih hb2 hY
 go_enter Tryz.func52,Tryz.ntmps52
 go_wp2
 rw[←show node0=#[.bool false,.slice none 0 0,.slice none 0 0,.int .i64 0,.int .i64 0,.string ⟨#[]⟩,.int .i64 0] from rfl,←hWW]
 clear hWW
 go_loopw [6,7,8] (fun v nx i wr=>∃(k:Nat) (x:Int) (acc:List (Sq.Nd n×Value×Value)),k≤l.length∧i=.int .i64 k∧nx=.int .i64 x∧Hid (NodesOwn Y (w.heap.size+2) wr v n acc)∧Hid (acc=[]→v=.slice none 0 0)∧acc.length≤k∧0≤x∧Hid (x+((((l.map Prod.fst).drop k).map (manyN n)).sum:Nat)≤1000000)∧Hid (Sq.numbL (Sq.numN n) (l.map Prod.fst) (k0+1)=(acc.map Prod.fst++(Sq.numbL (Sq.numN n) ((l.map Prod.fst).drop k) x).1,(Sq.numbL (Sq.numN n) ((l.map Prod.fst).drop k) x).2))∧Hid (Below W.heap.size W wr)) (fun _ _ i _=>l.length - (intOf i).toNat)
 case atStart=>exact⟨0,k0+1,[],Nat.zero_le _,rfl,by go_num,NodesOwn.nil _ _ _ _,fun _=>rfl,Nat.le_refl _,by omega,HB2,rfl,Below.refl _ _⟩
 case round =>
  obtain⟨k,x,acc,hk,rfl,rfl,hac,hnil,hacl,hx0,hxs,hq,hb⟩:=hrel
  obtain⟨wo,rfl⟩:∃wo:World,wo=wr:=⟨_,rfl⟩
  obtain⟨yo,ycap,rfl⟩:=jQa hac.out.own
  have hblk1:=(hb.out.block w.heap.size (by rw[HWS.out];omega)).trans HBLK.out
  have hres1:=(hb.out.block (w.heap.size+1) (by rw[HWS.out];omega)).trans HRES.out
  obtain⟨m0,m1,m2,m3,m4,m5,m6⟩:=SevenAt.blk (h:=h) hblk1
  simp only[Nat.zero_add] at m1 m2 m3 m4 m5 m6
  have hz0:=jQg hblk1
  have hz1:=jQg hres1
  have hsz:=hb.out.size
  rw[HWS.out] at hsz
  have HBLK1:=hd hblk1
  have HRES1:=hd hres1
  clear hblk1 hres1
  by_cases hkt:k < l.length
  ·obtain⟨g,cap',ea,el,ec,ca,cl,cc,hv,hg,⟨d0,d1,d2,d3,d4,dsl,dnu⟩,d5,d6⟩:=(HN.out.below hb.out).at k hkt
   simp only[Value.slice.injEq] at hv
   obtain⟨rfl,-,rfl⟩:=hv
   have hmem:=List.getElem_mem hkt
   have hst:=jQmA (Sq.numN n) (l.map Prod.fst) k (by simpa using hkt) x
   rw[List.getElem_map] at hst
   have hsum:((((l.map Prod.fst).drop k).map (manyN n)).sum:Nat)=manyN n l[k].1+(((l.map Prod.fst).drop (k+1)).map (manyN n)).sum:=by
    rw[List.drop_eq_getElem_cons (by simpa using hkt),List.map_cons,List.sum_cons,List.getElem_map]
   have hxs2:=hxs.out
   rw[hsum] at hxs2
   have hsnd:=jQir n l[k].1 x
   have hyl:=(HN.out.each _ hmem)
   have d7:NodeAt (fun g=>Y g∨(Value.slice yo acc.length ycap).ownBlock=some g) wo n l[k].1 l[k].2.1 l[k].2.2:=by
    have h9:NodeAt (fun g=>Y g∨(Value.slice yo acc.length ycap).ownBlock=some g) W n l[k].1 l[k].2.1 l[k].2.2:=by
     cases hob:(Value.slice yo acc.length ycap).ownBlock with
     | none=>exact hyl.less fun g hg=>by rcases hg with hg | hg;exact hg;cases hg
     | some q =>
      have hq:=(World.ownsRow.lt hac.out.own q hob).1
      exact(hyl.more (b:=q) (by rw[HWS.out];exact hq)).less fun g hg=>by
       rcases hg with hg | hg
       ·exact Or.inl hg
       ·exact Or.inr (by simpa using hg.symm)
    exact h9.below hb.out
   have hcall:=IH.out _ hmem wo x (fun g=>Y g∨(Value.slice yo acc.length ycap).ownBlock=some g) (fun g hg=>by
    rintro(h9 | h9)
    ·exact HYO.out g (by omega) h9
    ·have:=(World.ownsRow.lt hac.out.own g h9).2
     omega) d7 hx0 (by omega)
   clear d7 hyl
   obtain⟨y,hy⟩:∃y,y=l[k]:=⟨_,rfl⟩
   rw[←hy] at hst hxs2 hsnd hcall d0 d3 d4 dsl dnu d5
   obtain⟨t,evx,cvx⟩:=y
   simp only[Prod.mk.injEq] at d5
   obtain⟨rfl,rfl⟩:=d5
   simp only at hst hxs2 hsnd hcall
   obtain⟨nt,hnt⟩:∃y,y=Sq.numN n t x:=⟨_,rfl⟩
   rw[←hnt] at hst hsnd hcall
   obtain⟨xh,hxh⟩:∃y,y=Sq.headN n t:=⟨_,rfl⟩
   rw[←hxh] at d0 d3 d4 dsl dnu
   have hnc:nodeCells n (t,.slice ea el ec,.slice ca cl cc)=headCells xh (.slice ea el ec) (.slice ca cl cc):=by rw[hxh];rfl
   rw[hnc,jQc] at hcall
   have HQ2:Hid (Sq.numbL (Sq.numN n) (l.map Prod.fst) (k0+1)=(acc.map Prod.fst++nt.1 :: (Sq.numbL (Sq.numN n) ((l.map Prod.fst).drop (k+1)) nt.2).1,(Sq.numbL (Sq.numN n) ((l.map Prod.fst).drop (k+1)) nt.2).2)):=by show _=_;rw[hq.out,hst]
   have HXS:Hid (nt.2+(((((l.map Prod.fst).drop (k+1)).map (manyN n)).sum:Nat):Int)≤1000000):=by show _≤_;omega
   have hnt0:0≤nt.2:=by omega
   have HC:=hd hcall
   have i1:¬((l.length:Int)≤(k:Int)):=by omega
   clear hst hsum hxs2 hsnd hcall hnt hxh hnc hmem hy d6 hq hxs
   go_wp2_with fail
   refine HC.out.mono ?_
   rintro e w1 ⟨ev1,cv1,rfl,hn1,hb1⟩
   obtain⟨⟨x1,x2,x3,rfl⟩,y1,y2,y3,rfl⟩:=hn1.slices
   obtain⟨n1,n2⟩:=nt
   simp only at hn1 hnt0 HXS HQ2 ⊢
   obtain⟨yh,hyh⟩:∃x,x=Sq.headN n n1:=⟨_,rfl⟩
   rw[←hyh,jQc]
   obtain⟨V,hV,hbV,hsV,hkV,hlV⟩:=jQjc w1 #[.bool yh.inner,.slice x1 x2 x3,.slice y1 y2 y3,.int .i64 yh.least,.int .i64 yh.rows,.string yh.sl,.int .i64 yh.num] #[.bool yh.inner,.slice x1 x2 x3,.slice y1 y2 y3,.int .i64 yh.least,.int .i64 yh.rows,.string yh.sl,.int .i64 yh.num]
   have HAV:=hd ((hac.out.below hb1).below hbV)
   have hnV:=hn1.below hbV
   have HNV:=hd hnV
   have HRD:Hid (Reads V (.slice (some ⟨w1.heap.size+1,0,none⟩) 1 1) 1 7 ([(n1,Value.slice x1 x2 x3,Value.slice y1 y2 y3)].flatMap (nodeCells n))):=by
    have:=jQcR (w1.alloc (.cells #[.bool yh.inner,.slice x1 x2 x3,.slice y1 y2 y3,.int .i64 yh.least,.int .i64 yh.rows,.string yh.sl,.int .i64 yh.num] 60)) 60 #[.bool yh.inner,.slice x1 x2 x3,.slice y1 y2 y3,.int .i64 yh.least,.int .i64 yh.rows,.string yh.sl,.int .i64 yh.num] ([(n1,Value.slice x1 x2 x3,Value.slice y1 y2 y3)].flatMap (nodeCells n)) 1 7 (by rw[hyh];rfl) rfl
    rw[jQo] at this
    rw[hV]
    exact this
   have HBV:=hd hbV
   have HB1:=hd hb1
   have hs1:=hb1.size
   have HSV:=hd hsV
   have HVV:=hd hV
   clear hn1 hb1 hV hbV hsV hkV hlV hnV hyh HC
   go_wp2_with (at_builtin;rw[←HVV.out];refine jQbO rfl (.tmp 30) (.tmp 32) rfl Y (w.heap.size+2) _ n acc rfl HAV.out (n1,Value.slice x1 x2 x3,Value.slice y1 y2 y3) _ rfl HRD.out HNV.out (by omega) (by rw[HSV.out];omega) ?_;intro v5 w5 hown5 hb5 _ _;have HO5:=hd hown5;have HB5:=hd hb5;clear hown5 hb5)
   go_roundw
   case rel=>exact⟨k+1,n2,acc++[(n1,Value.slice x1 x2 x3,Value.slice y1 y2 y3)],by omega,by go_num,rfl,HO5,fun e=>by simp at e,by rw[List.length_append];simp;omega,hnt0,HXS,by show _=_;rw[HQ2.out,List.map_append,List.append_assoc];rfl,hb.out.trans ((HB1.out.mono (by rw[HWS.out];omega)).trans ((HBV.out.mono (by rw[HWS.out];omega)).trans (by rw[HWS.out];exact HB5.out)))⟩
   case measure=>simp[intOf];omega
  ·have hkl:k=l.length:=by omega
   have HQ2:Hid (Sq.numbL (Sq.numN n) (l.map Prod.fst) (k0+1)=(acc.map Prod.fst,x)):=by
    show _=_
    rw[hq.out,hkl,List.drop_eq_nil_of_le (by simp)]
    simp[Sq.numbL]
   have i1:¬((k:Int) < (l.length:Int)):=by omega
   obtain⟨b0,b1,b2,b3,b4,b5,b6⟩:=jQR HRES1.out
   obtain⟨f0,f1,f2,f3,f4,f5,f6⟩:=jQp HRES1.out
   obtain⟨g0,g1,g2,g3,g4,g5,g6⟩:=jQp HBLK1.out
   obtain⟨wa,hwa⟩:∃wa,wa=(wo.setCell ⟨w.heap.size,2,none⟩ (.slice yo acc.length ycap)).setCell ⟨w.heap.size,6,none⟩ (.int .i64 k0):=⟨_,rfl⟩
   have hoa:∀g,g≠w.heap.size→wa.heap[g]?=wo.heap[g]?:=fun g hg=>by rw[hwa,jQe hg,jQe hg]
   obtain⟨wz,hwz⟩:∃wz,wz=set7 wa (w.heap.size+1) (.bool h.inner) (.slice eo es.length ecap) (.slice yo acc.length ycap) (.int .i64 h.least) (.int .i64 h.rows) (.string h.sl) (.int .i64 k0):=⟨_,rfl⟩
   have hoz:∀g,g≠w.heap.size→g≠w.heap.size+1→wz.heap[g]?=wo.heap[g]?:=fun g h1 h2=>by rw[hwz,jQq _ _ _ _ _ _ _ _ _ h2];exact hoa g h1
   have NA:Hid (NodesAt Z 0 wz (.slice yo acc.length ycap) n acc):=by
    refine⟨?_,fun y hy=>?_⟩
    ·refine jQi (jQn hac.out.own fun q hq=>?_) (Nat.zero_le _)
     have:=(World.ownsRow.lt hac.out.own q hq).1
     exact hoz q (by omega) (by omega)
    ·refine((hac.out.at.each y hy).move (fun q c e fr hq he=>?_)).less HYZ.out
     refine hoz q ?_ ?_
     ·rintro rfl
      rcases he with rfl | ⟨_,he⟩
      ·rw[HBLK1.out] at hq;simp at hq
      ·exact he HY0.out
     ·rintro rfl
      rcases he with rfl | ⟨_,he⟩
      ·rw[HRES1.out] at hq;simp at hq
      ·exact he HY1.out
   have EA:Hid (EntsAt 0 wz (.slice eo es.length ecap) es):=by
    refine⟨(HES.out.below hb.out).1,?_⟩
    rcases(HES.out.below hb.out).2 with h0 | ⟨g,cap,cur,hv,hbg,hh,hn,hm,hc,ht⟩
    ·exact Or.inl h0
    ·refine Or.inr ⟨g,cap,cur,hv,hbg,(hoz g ?_ ?_).trans hh,hn,hm,hc,ht⟩
     ·rintro rfl
      rw[HBLK1.out] at hh;simp at hh
     ·rintro rfl
      rw[HRES1.out] at hh;simp at hh
   have OV:Hid (offV Z (.slice yo acc.length ycap)):=by
    intro g o p kk c hv hz
    have hv2:(Value.slice yo acc.length ycap).ownBlock=some g:=by rw[hv];rfl
    exact HYO.out g (World.ownsRow.lt hac.out.own g hv2).1 (HYZ.out g hz)
   have BZ:Hid (Below w.heap.size w wz):=by
    show Below _ _ _
    rw[hwz]
    refine jQA ?_ (Nat.le_succ _) _ _ _ _ _ _ _
    rw[hwa]
    exact Below.setCell (B:=w.heap.size) (Below.setCell (B:=w.heap.size) (HW.out.trans (hb.out.mono (by rw[HWS.out];omega))) (Nat.le_refl _) _) (Nat.le_refl _) _
   have HWZ:=hd hwz
   have HWA:=hd hwa
   clear hwz hwa hoa hoz hkl hq
   go_wp2
   refine bodyPost_ret (v:=.tuple #[.agg (headCells { h with num:=k0 } (.slice eo es.length ecap) (.slice yo acc.length ycap)).toArray,.int .i64 x]) (by simp[results,Tryz.results52,go_sem,headCells, *]) rfl ?_
   have hwz:=HWZ.out
   have hwa:=HWA.out
   subst hwa
   subst hwz
   exact⟨_,acc,by rw[HQ2.out],by rw[HQ2.out],EA.out,NA.out,OV.out,hnil.out,BZ.out⟩
theorem jQeA:∀(n:Nat) (Z:Nat→Prop) (t:Sq.Nd n) (ev cv:Value) (k:Int) (K:Int) (w:World),NodeAt Z w n t ev cv→Sq.tameN K n t→(∀g,w.heap.size≤g→¬Z g)→0≤k→k+(manyN n t:Int)≤1000000 →
  Calls Tryz.prog 52 #[.agg (headCells (Sq.headN n t) ev cv).toArray,.int .i64 k] w (NumSays Z n (Sq.numN n t k) w)
 | 0,Z,t,ev,cv,k,K,w,h,hf,hZ,h0,hb=>by
  obtain⟨h1,rfl⟩:=h.leaf
  have hk:(t:Sq.NodeF Empty).kids=[]:=by
   cases hq:(t:Sq.NodeF Empty).kids with
   | nil=>rfl
   | cons c _=>exact c.elim
  refine(jQez (Z:=Z) 0 (Sq.headN 0 t) (Sq.NodeF.ents t) [] ev (.slice none 0 0) k w h1 ⟨World.ownsRow_nil _ _ _ _,fun x hx=>by cases hx⟩ (Nat.zero_le _) hZ h0 (by simp;have:manyN 0 t=1:=rfl;omega) (fun x hx=>by cases hx)).mono ?_
  rintro e w' ⟨v,l,rfl,hm,he,hn,ho,hnil,hb'⟩
  have hl0:l=[]:=by
   have:l.map Prod.fst=[]:=hm
   exact List.map_eq_nil_iff.1 this
  have hv:=hnil hl0
  subst hv
  have e0:Sq.numN 0 t k=((⟨{ (Sq.NodeF.hd t) with num:=k },Sq.NodeF.ents t,[]⟩:Sq.NodeF Empty),k+1):=by
   show Sq.numF _ t k=_
   unfold Sq.numF
   rw[hk]
   rfl
  rw[e0]
  exact⟨ev,_,rfl,⟨he,rfl⟩,hb'⟩
 | n+1,Z,t,ev,cv,k,K,w,h,hf,hZ,h0,hb=>by
  obtain⟨h1,l,h2,h3⟩:=h.inner
  have hk4:=hf.at1.kids
  have heach:=hf.at1.each
  have hmany:(manyN (n+1) t:Int)=1+(((l.map Prod.fst).map (manyN n)).sum:Nat):=by
   show((1+((Sq.NodeF.kids t).map (manyN n)).sum:Nat):Int)=_
   rw[h2]
   omega
  have hkl:l.length≤4:=by rw[h2,List.length_map] at hk4;exact hk4
  refine(jQez (Z:=Z) n (Sq.headN (n+1) t) (Sq.NodeF.ents t) l ev cv k w h1 h3 (by omega) hZ h0 (by omega) (fun x hx w' k' Y hY hn' hk0 hkb=>jQeA n Y x.1 x.2.1 x.2.2 k' K w' hn' (heach x.1 (by rw[h2];exact List.mem_map.2 ⟨x,hx,rfl⟩)) hY hk0 hkb)).mono ?_
  rintro e w' ⟨v,l',rfl,hm,he,hn,ho,-,hb'⟩
  have e0:Sq.numN (n+1) t k=((⟨{ (Sq.NodeF.hd t) with num:=k },Sq.NodeF.ents t,l'.map Prod.fst⟩:Sq.NodeF (Sq.Nd n)),(Sq.numbL (Sq.numN n) (l.map Prod.fst) (k+1)).2):=by
   show Sq.numF _ t k=_
   unfold Sq.numF
   rw[hm,h2]
  rw[e0]
  exact⟨ev,v,rfl,NodeAt.mk he rfl hn ho,hb'⟩
theorem jQi1 (X:Sq.NTree)(ev cv:Value)(K:Int)(w:World)(h:NodeAt Z w X.d X.t ev cv)(hf:Sq.tameN K X.d X.t)(hZ:∀g,w.heap.size≤g→¬Z g)(hm:manyN X.d X.t≤900000) :
  Calls Tryz.prog 42 #[.agg (headCells X.head ev cv).toArray] w fun e w'=>∃ev' cv',e=.returned (.agg (headCells X.numbered.head ev' cv').toArray)∧NodeAt Z w' X.numbered.d X.numbered.t ev' cv'∧Below w.heap.size w w':=by
 obtain⟨n,t⟩:=X
 obtain⟨⟨e1,e2,e3,hev⟩,c1,c2,c3,hcv⟩:=h.slices
 subst hev hcv
 simp only[Sq.NTree.head,Sq.NTree.numbered] at h hf hm ⊢
 have hcall0:=jQeA n (fun g=>Z g∨g=w.heap.size+1) t (.slice e1 e2 e3) (.slice c1 c2 c3) 1 K
 obtain⟨pt,hpe⟩:∃x,x=Sq.numN n t 1:=⟨_,rfl⟩
 rw[←hpe] at hcall0 ⊢
 obtain⟨hh,hhe⟩:∃x,x=Sq.headN n t:=⟨_,rfl⟩
 rw[←hhe] at hcall0 ⊢
 rw[jQc] at hcall0 ⊢
 obtain⟨W,hWW,hW,hWs,-,hres⟩:=jQb9 w #[.bool hh.inner,.slice e1 e2 e3,.slice c1 c2 c3,.int .i64 hh.least,.int .i64 hh.rows,.string hh.sl,.int .i64 hh.num]
 have hcall:=hcall0 W ((h.more (Nat.le_succ _)).below hW) hf (fun g hg=>by
  rw[hWs] at hg
  rintro(hz | hz)
  ·exact hZ g (by omega) hz
  ·omega) (by omega) (by omega)
 have HC:=hd hcall
 have HW:=hd hW
 have HRES:=hd hres
 have HWS:=hd hWs
 clear h hf hcall0 hW hWs hres hcall hpe hhe hZ
 go_enter Tryz.func42,Tryz.ntmps42
 go_wp2_with fail
 rw[←show node0=#[.bool false,.slice none 0 0,.slice none 0 0,.int .i64 0,.int .i64 0,.string ⟨#[]⟩,.int .i64 0] from rfl,←hWW]
 clear hWW
 refine HC.out.mono ?_
 rintro e w1 ⟨ev1,cv1,rfl,hn,hb1⟩
 obtain⟨⟨x1,x2,x3,rfl⟩,y1,y2,y3,rfl⟩:=hn.slices
 have hres1:=(hb1.block (w.heap.size+1) (by rw[HWS.out];omega)).trans HRES.out
 obtain⟨r,k2⟩:=pt
 simp only at hn ⊢
 obtain⟨yh,hyh⟩:∃x,x=Sq.headN n r:=⟨_,rfl⟩
 rw[←hyh,jQc]
 obtain⟨b0,b1,b2,b3,b4,b5,b6⟩:=jQR hres1
 obtain⟨f0,f1,f2,f3,f4,f5,f6⟩:=jQp hres1
 have hzr:=jQg hres1
 obtain⟨ws,hws⟩:∃ws,ws=set7 w1 (w.heap.size+1) (.bool yh.inner) (.slice x1 x2 x3) (.slice y1 y2 y3) (.int .i64 yh.least) (.int .i64 yh.rows) (.string yh.sl) (.int .i64 yh.num):=⟨_,rfl⟩
 have hNs:NodeAt Z ws n r (.slice x1 x2 x3) (.slice y1 y2 y3):=by
  rw[hws]
  exact(NodeAt.skip (b:=w.heap.size+1) hn (Or.inr rfl) hres1 fun g hg=>jQq _ _ _ _ _ _ _ _ _ hg).less fun g hg=>Or.inl hg
 have hBs:Below w.heap.size w ws:=by
  rw[hws]
  exact jQA (HW.out.trans (hb1.mono (by rw[HWS.out];omega))) (Nat.le_succ _) _ _ _ _ _ _ _
 have HEND:Hid (NodeAt Z (ws.alloc (.cells #[.bool yh.inner,.slice x1 x2 x3,.slice y1 y2 y3,.int .i64 yh.least,.int .i64 yh.rows,.string yh.sl,.int .i64 yh.num] 60)) n r (.slice x1 x2 x3) (.slice y1 y2 y3)∧Below w.heap.size w (ws.alloc (.cells #[.bool yh.inner,.slice x1 x2 x3,.slice y1 y2 y3,.int .i64 yh.least,.int .i64 yh.rows,.string yh.sl,.int .i64 yh.num] 60))):=⟨hNs.below ((Below.refl _ _).alloc (Nat.le_refl _) _),hBs.alloc hBs.size _⟩
 have HWZ:=hd hws
 have HYH:=hd hyh
 clear hn hb1 hres1 hws hNs hBs hyh HC
 go_wp2
 refine bodyPost_ret (v:=.agg (headCells yh (.slice x1 x2 x3) (.slice y1 y2 y3)).toArray) (by simp[results,Tryz.results42,go_sem,headCells, *]) rfl ?_
 have hws:=HWZ.out
 subst hws
 exact⟨_,_,by rw[HYH.out],HEND.out.1,HEND.out.2⟩
end
namespace Sq
theorem jQlB:∀{cols:List Col} {row:List Val} {k:Nat} {c:Col},typed cols row→cols[k]?=some c→∃v,row[k]?=some v∧v.kind=c.kind∧goodVal v
 | [],_,k,c,_,h=>by simp at h
 | _ :: _,[],_,_,ht,_=>by unfold typed at ht;exact ht.elim
 | x :: q,v :: r,0,c,ht,h=>by
  unfold typed at ht
  simp at h;subst h
  exact⟨v,rfl,ht.1⟩
 | x :: q,v :: r,k+1,c,ht,h=>by
  unfold typed at ht
  exact jQlB (k:=k) ht.2 (by simpa using h)
theorem jQja:∀{cols:List Col} {row:List Val} {k:Nat} {c:Col} {v:Val},typed cols row→cols[k]?=some c→v.kind=c.kind→goodVal v→typed cols (row.set k v)
 | [],_,k,c,_,_,h,_,_=>by simp at h
 | _ :: _,[],_,_,_,ht,_,_,_=>by unfold typed at ht;exact ht.elim
 | x :: q,u :: r,0,c,v,ht,h,h1,h2=>by
  unfold typed at ht
  simp at h;subst h
  rw[List.set_cons_zero]
  unfold typed
  exact⟨⟨h1,h2⟩,ht.2⟩
 | x :: q,u :: r,k+1,c,v,ht,h,h1,h2=>by
  unfold typed at ht
  rw[List.set_cons_succ]
  unfold typed
  exact⟨ht.1,jQja (k:=k) ht.2 (by simpa using h) h1 h2⟩
theorem jQlz:∀{cols:List Col} {vals:List Val},vals.length=cols.length→checkValuesFrom vals cols=0→(∀v∈vals,goodVal v)→typed cols vals
 | [],[],_,_,_=>by unfold typed;trivial
 | [],_ :: _,h,_,_=>by simp at h
 | _ :: _,[],h,_,_=>by simp at h
 | c :: q,v :: r,h,hc,hg=>by
  rw[checkValuesFrom] at hc
  split at hc
  ·simp at hc
  ·rename_i hk
   unfold typed
   exact⟨⟨by simpa using hk,hg v (by simp)⟩,jQlz (by simpa using h) hc fun x hx=>hg x (by simp[hx])⟩
theorem jQec {cols:List Col}{vals:List Val}(h:checkValues cols vals=0)(hg:∀v∈vals,goodVal v):typed cols vals:=by
 unfold checkValues at h
 split at h
 ·simp at h
 ·rename_i hl
  exact jQlz (by simpa using hl) h hg
theorem jQmV {cols:List Col}{row:List Val}{t:Term}(ht:typed cols row)(hl:goodVal t.lit)(hk:(kindOf cols t).2=true):(valueOf cols row t).kind=(kindOf cols t).1∧goodVal (valueOf cols row t):=by
 unfold kindOf at hk ⊢
 unfold valueOf
 split
 ·rename_i h1
  exact⟨rfl,hl⟩
 ·rename_i h1
  rw[if_neg h1] at hk
  rcases jQc0 cols t.column with h2 | ⟨k,hlt,h2⟩
  ·rw[jQdG cols _ h2] at hk;simp at hk
  ·rw[jQc2 cols _ k hlt h2]
   obtain⟨v,hv,hvk,hvg⟩:=jQlB ht (List.getElem?_eq_getElem hlt)
   unfold cellOf
   rw[h2,if_neg (by omega),Int.toNat_natCast,hv]
   exact⟨hvk,hvg⟩
theorem jQkO {cols:List Col}{row:List Val}{s:SetS}{target:Int}(ht:typed cols row)(hl:goodVal s.first.lit)(hc:checkSum cols target s=0)(hk:okKind target)(hr:(result cols row s).2=true):(result cols row s).1.kind=target∧goodVal (result cols row s).1:=by
 unfold checkSum at hc
 split at hc
 ·simp at hc
 ·rename_i h1
  split at hc
  ·simp at hc
  ·rename_i h2
   have h1':(kindOf cols s.first).2=true:=by simpa using h1
   have h2':(kindOf cols s.first).1=target:=by simpa using h2
   have hv:=jQmV ht hl h1'
   split at hc
   ·rename_i h3
    unfold result
    rw[if_pos h3]
    exact⟨hv.1.trans h2',hv.2⟩
   ·rename_i h3
    split at hc
    ·simp at hc
    ·split at hc
     ·simp at hc
     ·rename_i h5
      have h6:target=0:=by
       rcases hk with hk | hk
       ·exact hk
       ·rw[h2',hk] at h5;simp at h5
      unfold result at hr ⊢
      rw[if_neg h3] at hr ⊢
      split
      ·rename_i h7;rw[if_pos h7] at hr;simp at hr
      ·rename_i h7
       rw[if_neg h7] at hr
       split
       ·rename_i h8;rw[if_pos h8] at hr;simp at hr
       ·refine⟨h6.symm,Or.inl ⟨rfl,?_,?_,rfl⟩⟩
        ·show _≤numOf _ _ _;omega
        ·show numOf _ _ _≤_;omega
def okAsg (cols:List Col)(s:SetS):Prop:=∃k c,find cols s.column=((k+1:Nat):Int)∧cols[k+1]?=some c∧checkSum cols c.kind s=0
theorem jQld {cols:List Col}{e:List SetS}{s:SetS}(h:checkSet cols e s=0):okAsg cols s:=by
 unfold checkSet at h
 split at h
 ·rename_i c hc
  split at h
  ·simp at h
  ·rename_i h1
   split at h
   ·simp at h
   ·rename_i h2
    split at h
    ·simp at h
    ·have h2':find cols s.column≠0:=by simpa using h2
     obtain⟨k,hk⟩:∃k,(find cols s.column).toNat=k+1:=⟨(find cols s.column).toNat - 1,by omega⟩
     refine⟨k,c,by omega,by rw[hk] at hc;exact hc,h⟩
 ·simp at h
theorem jQe1 {cols:List Col}:∀{sets e:List SetS},checkSetsFrom cols e sets=0→∀s∈sets,okAsg cols s
 | [],_,_,s,hs=>by simp at hs
 | x :: r,e,h,s,hs=>by
  rw[checkSetsFrom] at h
  split at h
  ·rename_i hx;rw[h] at hx;simp at hx
  ·rename_i hx
   rcases List.mem_cons.1 hs with rfl | hs
   ·exact jQld (e:=e) (by simpa using hx)
   ·exact jQe1 h s hs
theorem jQed {cols:List Col}(hk:∀c∈cols,okKind c.kind){old:List Val}(ho:typed cols old):∀{sets:List SetS} {row:List Val},(∀s∈sets,goodVal s.first.lit∧okAsg cols s)→typed cols row→(assignFrom cols old sets row).2=true→typed cols (assignFrom cols old sets row).1
 | [],row,_,h,_=>h
 | s :: r,row,hs,h,h4=>by
  rw[assignFrom] at h4 ⊢
  split
  ·rename_i hr
   rw[if_pos hr] at h4
   refine jQed hk ho (fun x hx=>hs x (by simp[hx])) ?_ h4
   obtain⟨hl,k,c,h1,h2,h3⟩:=hs s (by simp)
   unfold assignStep
   rw[h1,if_neg (by omega),Int.toNat_natCast]
   have:=jQkO ho hl h3 (hk c (List.mem_of_getElem? h2)) hr
   exact jQja h h2 this.1 this.2
  ·rename_i hr
   rw[if_neg hr] at h4;simp at h4
structure goodD (db:List Tab):Prop where
 g:good db
 names:∀t∈db,okNm t.name
 cols:∀t∈db,okCols t.cols
 two:∀t∈db,twoOf t.cols=false
 typed:∀t∈db,∀r∈t.rows,typed t.cols r
theorem jQpf:goodD []:=⟨jQbc,by simp,by simp,by simp,by simp⟩
structure okOut (db:List Tab)(o:Out):Prop where
 make:o.makes=true→okNm o.name∧okCols o.cols∧twoOf o.cols=false∧o.puts=[]∧o.cuts=[]
 puts:∀p∈o.puts,∃k t,o.table=((k:Nat):Int)∧db[k]?=some t∧Sq.typed t.cols p
theorem jQkS {db:List Tab}(h:goodD db){o:Out}(hg:good (apply db o))(ho:okOut db o):goodD (apply db o):=by
 have key:∀t∈apply db o,(∃u∈db,t.name=u.name∧t.cols=u.cols∧∀r∈t.rows,Sq.typed t.cols r)∨(okNm t.name∧okCols t.cols∧twoOf t.cols=false∧∀r∈t.rows,Sq.typed t.cols r):=by
  intro t ht
  unfold apply made at ht
  cases hm:o.makes with
  | true =>
   obtain⟨h1,h2,h3,h4,h5⟩:=ho.make hm
   rw[hm,h4,h5] at ht
   simp only[if_true] at ht
   have e:(setRows (db++[⟨o.name,o.cols,[]⟩]) o.table.toNat (cutAll [] (putAll [] (rowsAt (db++[⟨o.name,o.cols,[]⟩]) o.table.toNat))))=db++[⟨o.name,o.cols,[]⟩]:=jQ3 _ _
   rw[e] at ht
   rcases List.mem_append.1 ht with ht | ht
   ·exact Or.inl ⟨t,ht,rfl,rfl,h.typed t ht⟩
   ·simp at ht;subst ht
    exact Or.inr ⟨h1,h2,h3,by simp⟩
  | false =>
   rw[hm] at ht
   simp only[Bool.false_eq_true,if_false] at ht
   left
   by_cases hk:o.table.toNat < db.length
   ·rw[jQa0 db _ hk] at ht
    rcases List.mem_or_eq_of_mem_set ht with ht | rfl
    ·exact⟨t,ht,rfl,rfl,h.typed t ht⟩
    ·refine⟨db[o.table.toNat],List.getElem_mem hk,rfl,rfl,?_⟩
     intro r hr
     have hr:=jQeX _ hr
     rcases jQeq _ hr with hr | hr
     ·obtain⟨k,t,h1,h2,h3⟩:=ho.puts r hr
      have e:o.table.toNat=k:=by omega
      obtain⟨hk',e2⟩:=List.getElem?_eq_some_iff.1 h2
      subst e e2
      exact h3
     ·rw[jQby db _ hk] at hr
      exact h.typed _ (List.getElem_mem hk) r hr
   ·have e:∀x,setRows db o.table.toNat x=db:=fun x=>by
     unfold setRows;rw[List.getElem?_eq_none (by omega)]
    rw[e] at ht
    exact⟨t,ht,rfl,rfl,h.typed t ht⟩
 refine⟨hg,fun t ht=>?_,fun t ht=>?_,fun t ht=>?_,fun t ht=>?_⟩
 ·rcases key t ht with⟨u,hu,h1,h2,h3⟩ | ⟨h1,h2,h3,h4⟩
  ·rw[h1];exact h.names u hu
  ·exact h1
 ·rcases key t ht with⟨u,hu,h1,h2,h3⟩ | ⟨h1,h2,h3,h4⟩
  ·rw[h2];exact h.cols u hu
  ·exact h2
 ·rcases key t ht with⟨u,hu,h1,h2,h3⟩ | ⟨h1,h2,h3,h4⟩
  ·rw[h2];exact h.two u hu
  ·exact h3
 ·rcases key t ht with⟨u,hu,h1,h2,h3⟩ | ⟨h1,h2,h3,h4⟩
  ·exact h3
  ·exact h4
theorem jQE (db:List Tab)(n:Int):okOut db (refused n):=⟨fun h=>by simp[refused] at h,fun p hp=>by simp[refused] at hp⟩
theorem jQjE {db:List Tab}(h:goodD db){k:Nat}{t:Tab}(ht:db[k]?=some t)(st:PSt)(n:Nat)(hst:okRead goodVal n st):okOut db (decideTab db t k st):=by
 have htm:=List.mem_of_getElem? ht
 have hcols:=h.cols t htm
 unfold decideTab
 split
 ·exact jQE _ _
 ·rename_i hc
  have hca:=jQgH _ _ (by simpa using hc)
  unfold checkAct at hca
  split
  ·rename_i ha
   rw[if_pos ha] at hca
   unfold Sq.insert
   split
   ·exact jQE _ _
   ·split
    ·exact jQE _ _
    ·refine⟨fun hm=>by simp at hm,fun p hp=>?_⟩
     simp at hp;subst hp
     exact⟨k,t,rfl,ht,jQec hca hst.vals⟩
  ·rename_i ha
   rw[if_neg ha] at hca
   split
   ·rename_i ha3
    rw[if_pos ha3] at hca
    unfold Sq.update
    cases hu:updateFrom t.cols st.sets (meeting t st.wher) [] with
    | none=>exact jQE _ _
    | some puts =>
     unfold updated
     refine⟨fun hm=>by simp at hm,fun p hp=>⟨k,t,rfl,ht,?_⟩⟩
     rcases jQcJ _ _ _ _ _ hu p hp with h1 | ⟨r,hr,h2,rfl⟩
     ·simp at h1
     ·have hr':r∈t.rows:=(List.mem_filter.1 hr).1
      have htr:=h.typed t htm r hr'
      unfold assigned at h2 ⊢
      exact jQed (fun c hc=>(hcols.each c hc).2) htr (fun s hs=>⟨(hst.sets s hs).1,jQe1 hca s hs⟩) htr h2
   ·split
    ·unfold Sq.remove
     exact⟨fun hm=>by simp at hm,fun p hp=>by simp at hp⟩
    ·exact⟨fun hm=>by simp at hm,fun p hp=>by simp at hp⟩
theorem jQew {db:List Tab}(h:goodD db)(sql:ByteArray):okOut db (Sq.decide db sql):=by
 unfold Sq.decide
 split
 ·exact jQE _ _
 ·rename_i h0
  have h0':(parse sql).1=0:=by simpa using h0
  unfold decideSt
  split
  ·rename_i ha
   have ha':(parse sql).2.act=1:=by simpa using ha
   have hm:=jQmt sql h0' ha'
   have hh:=jQhq sql ha'
   unfold create
   split
   ·exact jQE _ _
   ·split
    ·exact jQE _ _
    ·split
     ·exact jQE _ _
     ·split
      ·exact jQE _ _
      ·split
       ·exact jQE _ _
       ·rename_i h1 h2 h3 h4 h5
        exact⟨fun _=>⟨hm.1,⟨by show(parse sql).2.cols.length≤4;omega,hh,hm.2⟩,by simpa using h3,rfl,rfl⟩,fun p hp=>by simp at hp⟩
  ·split
   ·rename_i t hx
    split
    ·exact jQE _ _
    ·rename_i h1
     obtain⟨k,hk⟩:=Int.eq_ofNat_of_zero_le (show 0≤findTab db (parse sql).2.table by omega)
     rw[hk] at hx ⊢
     rw[Int.toNat_natCast] at hx
     exact jQjE h hx _ 163 (jQbV sql).1
   ·exact jQE _ _
theorem jQkT {db:List Tab}(h:goodD db)(sql:ByteArray):goodD (after db sql):=jQkS h (jQbq h.g sql) (jQew h sql)
end Sq
namespace Sq
structure fine (n:Nat)(x:List (Kid n)):Prop where
 kids:okT n x
 full:fullT n x
 rows:∀e∈ents n x,okEnt e∧e.row.size≤50
 few:(ents n x).length≤60
theorem fine.kid {n:Nat}{cs:List (List (Kid n))}(h:fine (n+1) cs){c:List (Kid n)}(hc:c∈cs):fine n c∧2≤c.length:=by
 have h1:=jQ0 h.kids hc
 have h2:∀e∈ents n c,e∈ents (n+1) cs:=fun e he=>List.mem_flatMap.2 ⟨c,hc,he⟩
 have h3:(ents n c).length≤(ents (n+1) cs).length:=by
  obtain⟨l1,l2,rfl⟩:=List.append_of_mem hc
  show _≤(List.flatMap (ents n) (l1++c :: l2)).length
  rw[List.flatMap_append,List.flatMap_cons]
  simp only[List.length_append]
  omega
 exact⟨⟨h1.2,h.full.2 c hc,fun e he=>h.rows e (h2 e he),Nat.le_trans h3 h.few⟩,h1.1⟩
end Sq
namespace Sq
theorem jQno (e:Ent):(entBytes e).size=e.row.size+6:=by
 unfold entBytes txt
 rw[jQs,jQs,jQt,jQt]
 omega
theorem jQiz (h:Head)(b:ByteArray):(kidBytes h b).size=b.size+6:=by
 unfold kidBytes
 rw[jQs,jQs,jQt,jQt]
 omega
theorem jQgz:∀es:List Ent,(∀e∈es,e.row.size≤50)→(catB (es.map entBytes)).size≤56 * es.length
 | [],_=>by show(0:Nat)≤_;omega
 | e :: es,h=>by
  have h1:=jQgz es fun x hx=>h x (by simp[hx])
  have h2:=h e (by simp)
  rw[List.map_cons,jQe3,jQs,jQno,List.length_cons]
  omega
theorem jQo2 {H:ByteArray→ByteArray}{wide:Nat}(hH:∀b,(H b).size=wide)(hw:wide≤32)(tr:Trl)(t:Nd 0)(x:List (Kid 0))(h:rep 0 t x)(hf:fine 0 x):(writeN H tr 0 t).size≤33+56 * (ents 0 x).length:=by
 obtain⟨h1,h2,h3⟩:=rep.leaf h
 show(writeF _ _ _ tr t).size≤_
 unfold writeF
 split
 ·rw[jQc8,jQs,jQs,jQs,jQt,jQt,h2,h3]
  have h4:=jQgz x fun e he=>(hf.rows e he).2
  have h5:List.length (α:=Ent) x=(ents 0 x).length:=rfl
  have h6:(catB ([]:List ByteArray)).size=0:=rfl
  rw[List.map_nil,h6]
  omega
 ·rw[jQs,jQt,jQgA hH h.open]
  omega
theorem jQmx:∀{n:Nat} {t:List (Kid n)},okT n t→t.length≤(ents n t).length
 | 0,_,_=>Nat.le_refl _
 | n+1,cs,h=>by
  show List.length cs≤(List.flatMap (ents n) cs).length
  have:∀l:List (List (Kid n)),(∀c∈l,c∈(show List (List (Kid n)) from cs))→l.length≤(l.flatMap (ents n)).length:=by
   intro l
   induction l with
   | nil=>intro _;simp
   | cons c r ih =>
    intro hl
    have h2:=jQ0 h (hl c (by simp))
    have h3:=jQmx h2.2
    have h4:=ih fun x hx=>hl x (by simp[hx])
    rw[List.flatMap_cons,List.length_append,List.length_cons]
    omega
  exact this cs fun c hc=>hc
theorem jQgT {H:ByteArray→ByteArray}{wide:Nat}(hH:∀b,(H b).size=wide)(hw:wide≤32)(tr:Trl):∀(n:Nat) (t:Nd n) (x:List (Kid n)),rep n t x→fine n x→2≤x.length→(writeN H tr n t).size+14≤64 * (ents n x).length
 | 0,t,x,h,hf,h2=>by
  have h5:List.length (α:=Ent) x=(ents 0 x).length:=rfl
  obtain⟨g1,g2,g3⟩:=rep.leaf h
  show(writeF _ _ _ tr t).size+14≤_
  unfold writeF
  split
  ·rw[jQc8,jQs,jQs,jQs,jQt,jQt,g2,g3]
   have h4:=jQgz x fun e he=>(hf.rows e he).2
   have h6:(catB ([]:List ByteArray)).size=0:=rfl
   rw[List.map_nil,h6]
   omega
  ·rw[jQs,jQt,jQgA hH h.open]
   omega
 | n+1,t,x,h,hf,h2=>by
  obtain⟨g1,g2,g3⟩:=rep.inner h
  have hlen:=jQmx hf.kids
  show(writeF (headN n) (writeN H tr n) _ tr t).size+14≤_
  unfold writeF
  split
  ·rw[jQc8,jQs,jQs,jQs,jQt,jQt,g2]
   have h6:(catB ([]:List ByteArray)).size=0:=rfl
   rw[List.map_nil,h6]
   have hl:∀(l:List (Nd n)) (cs:List (List (Kid n))),reps n l cs→(∀c∈cs,fine n c∧2≤c.length)→(catB (l.map fun c=>kidBytes (headN n c) (writeN H tr n c))).size+8 * cs.length≤64 * (cs.flatMap (ents n)).length:=by
    intro l
    induction l with
    | nil =>
     intro cs hr hc
     cases cs with
     | nil=>show(0:Nat)+0≤_;omega
     | cons y cs=>have:=hr.len;simp at this
    | cons c l ih =>
     intro cs hr hc
     cases cs with
     | nil=>have:=hr.len;simp at this
     | cons y cs =>
      obtain⟨k1,k2⟩:=reps.cons.1 hr
      have h7:=ih cs k2 fun z hz=>hc z (by simp[hz])
      have h8:=hc y (by simp)
      have h9:=jQgT hH hw tr n c y k1 h8.1 h8.2
      rw[List.map_cons,jQe3,jQs,jQiz,List.length_cons,List.flatMap_cons,List.length_append]
      omega
   have h7:=hl (NodeF.kids t) x g3 fun c hc=>hf.kid hc
   have h8:(List.flatMap (ents n) (show List (List (Kid n)) from x)).length=(ents (n+1) x).length:=rfl
   have h9:List.length (α:=List (Kid n)) x=x.length:=rfl
   have h10:(List.flatMap (ents n) x).length=(ents (n+1) x).length:=rfl
   omega
  ·rw[jQs,jQt,jQgA hH h.open]
   have h9:List.length (α:=List (Kid n)) x=x.length:=rfl
   omega
theorem jQmk {H:ByteArray→ByteArray}{wide:Nat}(hH:∀b,(H b).size=wide)(hw:wide≤32)(tr:Trl)(n:Nat)(t:Nd n)(x:List (Kid n))(h:rep n t x)(hf:fine n x)(h2:n=0∨2≤x.length):(writeN H tr n t).size≤6000:=by
 have h3:=hf.few
 rcases h2 with rfl | h2
 ·have:=jQo2 hH hw tr t x h hf
  omega
 ·have:=jQgT hH hw tr n t x h hf h2
  omega
end Sq
namespace Sq
theorem jQeg {n:Nat}(lo hi:Int)(g:Nd n→Trl→List Ent×Trl)(hg:∀c x tr,rep n c x→(g c tr).2.lost=tr.lost):∀{l:List (Nd n)} {cs:List (List (Kid n))},reps n l cs→∀y,(thruL (headN n) g lo hi l y).2.lost=y.2.lost
 | [],[],_,y=>rfl
 | [],x :: cs,h,_=>by have:=h.len;simp at this
 | c :: l,[],h,_=>by have:=h.len;simp at this
 | c :: l,x :: cs,h,y=>by
  obtain⟨h1,h2⟩:=reps.cons.1 h
  rw[thruL]
  split
  ·rw[jQeg lo hi g hg h2];exact hg c x _ h1
  ·rw[jQeg lo hi g hg h2]
theorem jQjd:∀(n:Nat) (t:Nd n) (x:List (Kid n)) (lo hi:Int) (tr:Trl),rep n t x→(thruN n t lo hi tr).2.lost=tr.lost
 | 0,t,x,lo,hi,tr,h=>by
  obtain⟨h1,h2,h3⟩:=rep.leaf h
  have ho:=h.open
  show(thruF _ _ t lo hi tr).2.lost=_
  unfold thruF
  rw[h3,thruL]
  exact jQbQ ho
 | n+1,t,x,lo,hi,tr,h=>by
  obtain⟨h1,h2,h3⟩:=rep.inner h
  have ho:=h.open
  show(thruF (headN n) (thruN n) t lo hi tr).2.lost=_
  unfold thruF
  rw[jQeg lo hi _ (fun c y tr hr=>jQjd n c y lo hi tr hr) h3]
  exact jQbQ ho
theorem jQnd:∀(n:Nat) (t:Nd n) (x:List (Kid n)) (p:Int) (tr:Trl),rep n t x→(hasN n t p tr).2.lost=tr.lost
 | 0,t,x,p,tr,h=>by
  obtain⟨h1,h2,-⟩:=rep.leaf h
  have ho:=h.open
  show(hasF _ _ t p tr).2.lost=_
  unfold hasF
  rw[h1]
  exact jQbQ ho
 | n+1,t,x,p,tr,h=>by
  obtain⟨h1,-,h3⟩:=rep.inner h
  have ho:=h.open
  show(hasF (headN n) (hasN n) t p tr).2.lost=_
  unfold hasF
  rw[h1]
  simp only[if_true]
  cases hc:t.kids[wayF (headN n) t.kids p]? with
  | none=>exact jQbQ ho
  | some c =>
   obtain⟨y,hy,hr⟩:=h3.at hc
   exact(jQnd n c y p _ hr).trans (jQbQ ho)
structure Stands (X:NTree)(db:List Tab):Prop where
 at_:∃x,repT X x∧x.ok∧x.full∧x.ents=encDB db
theorem stands0:Stands ntree0 []:=⟨⟨tree0,repT0,jQqc,full0,rfl⟩⟩
theorem Stands.thru {X:NTree}{db:List Tab}(h:Stands X db)(lo hi:Int)(tr:Trl):(X.thru lo hi tr).1=(encDB db).filter (inside lo hi)∧(X.thru lo hi tr).2.lost=tr.lost:=by
 obtain⟨x,h1,h2,-,h4⟩:=h.at_
 refine⟨?_,?_⟩
 ·rw[h1.thru lo hi tr,←h4]
  exact jQp2 x.d x.t lo hi h2.kids h2.sorted
 ·obtain⟨n,t,y,rfl,rfl,hr⟩:=h1.cases
  exact jQjd n t y lo hi tr hr
theorem Stands.has {X:NTree}{db:List Tab}(h:Stands X db)(p:Int)(tr:Trl):(X.has p tr).1=((encDB db).any fun x=>x.place==p)∧(X.has p tr).2.lost=tr.lost:=by
 obtain⟨x,h1,h2,-,h4⟩:=h.at_
 refine⟨?_,?_⟩
 ·rw[h1.has p tr,←h4]
  exact jQpU x.d x.t p h2.kids h2.ne h2.sorted
 ·obtain⟨n,t,y,rfl,rfl,hr⟩:=h1.cases
  exact jQnd n t y p tr hr
theorem Stands.size {X:NTree}{db:List Tab}(h:Stands X db):X.head.rows=(dbSize db:Nat):=by
 obtain⟨x,h1,h2,-,h4⟩:=h.at_
 have e:=jQj2 db
 obtain⟨n,t,y,rfl,rfl,hr⟩:=h1.cases
 have h5:=hr.head.2.2.1
 show(headN n t).rows=_
 have h6:ents n y=encDB db:=h4
 rw[h5,h6,e]
theorem Stands.put {X:NTree}{db db':List Tab}(h:Stands X db)(e:Ent)(tr:Trl)(he:ins (encDB db) e=encDB db'):Stands (X.put e tr).1 db':=by
 obtain⟨x,h1,h2,h3,h4⟩:=h.at_
 have:=jQqA h2 e
 exact⟨⟨x.put e,h1.put h2 e tr,this.1,h3.put e,by rw[this.2,h4,he]⟩⟩
theorem Stands.del {X:NTree}{db db':List Tab}(h:Stands X db)(p:Int)(tr:Trl)(he:(encDB db).filter (fun y=>y.place != p)=encDB db'):Stands (X.del p tr).1 db':=by
 obtain⟨x,h1,h2,h3,h4⟩:=h.at_
 have:=jQq6 h2 p
 exact⟨⟨x.del p,h1.del p tr,this.1,h3.del p,by rw[this.2,h4,he]⟩⟩
theorem Stands.numbered {X:NTree}{db:List Tab}(h:Stands X db):Stands X.numbered db:=by
 obtain⟨x,h1,h2⟩:=h.at_
 exact⟨⟨x,h1.numbered,h2⟩⟩
def tabNs:Nat→List Tab→List TabN
 | _,[]=>[]
 | i,t :: q=>⟨(i:Int),t.name,t.cols⟩ :: tabNs (i+1) q
theorem jQjj:∀(i:Nat) (db:List Tab),(tabNs i db).length=db.length
 | _,[]=>rfl
 | i,t :: q=>by rw[tabNs,List.length_cons,jQjj,List.length_cons]
theorem jQoi {i:Nat}{t:Tab}(h1:1≤i)(h5:i≤5)(hn:okNm t.name)(hc:okCols t.cols):tabOk (tabEnt i t)=some ⟨(i:Int),t.name,t.cols⟩:=by
 unfold tabOk tabOf tabEnt
 simp only
 rw[jQlF hn hc,jQfN 0 i (by omega) (by omega)]
 simp only[Option.map_some,Option.bind_some]
 rw[if_pos ⟨by omega,by omega⟩]
theorem jQlK:∀{db:List Tab} {i:Nat},1≤i→i+db.length≤6→(∀t∈db,okNm t.name)→(∀t∈db,okCols t.cols)→(encTs i db).filterMap tabOk=tabNs i db∧((encTs i db).any fun e=>(tabOk e).isNone)=false
 | [],_,_,_,_,_=>⟨rfl,rfl⟩
 | t :: q,i,h1,h5,hn,hc=>by
  rw[List.length_cons] at h5
  have h:=jQoi h1 (by omega) (hn t (by simp)) (hc t (by simp))
  have ih:=jQlK (db:=q) (i:=i+1) (by omega) (by omega) (fun x hx=>hn x (by simp[hx])) (fun x hx=>hc x (by simp[hx]))
  rw[encTs,List.filterMap_cons,h,tabNs,List.any_cons,h,ih.1,ih.2]
  exact⟨rfl,rfl⟩
theorem jQhx (tr:Trl):loseIf false tr=tr:=by
 unfold loseIf;simp
theorem jQqd {X:NTree}{db:List Tab}(h:Stands X db)(hd:goodD db)(tr:Trl):(tabsR X tr).1=tabNs 1 db∧(tabsR X tr).2.lost=tr.lost:=by
 have h1:=h.thru (placeOf 0 (-2147483648)) (placeOf 0 2147483647) tr
 rw[jQri hd.g.laid] at h1
 have hf:=hd.g.few
 have h2:=jQlK (db:=db) (i:=1) (by omega) (by omega) hd.names hd.cols
 unfold tabsR
 rw[h1.1,h2.1,h2.2,jQhx]
 exact⟨rfl,h1.2⟩
theorem jQgu (n:ByteArray):∀(db:List Tab) (i:Nat) (j:Int),0≤j→(findTabFrom n db j=-1∧findR n (tabNs i db)=none)∨∃k t,findTabFrom n db j=j+((k:Nat):Int)∧db[k]?=some t∧findR n (tabNs i db)=some ⟨((i+k:Nat):Int),t.name,t.cols⟩
 | [],_,_,_=>Or.inl ⟨rfl,rfl⟩
 | t :: q,i,j,hj=>by
  rw[findTabFrom,tabNs,findR]
  split
  ·rename_i h
   exact Or.inr ⟨0,t,by omega,rfl,rfl⟩
  ·rename_i h
   rcases jQgu n q (i+1) (j+1) (by omega) with h1 | ⟨k,u,h1,h2,h3⟩
   ·exact Or.inl h1
   ·refine Or.inr ⟨k+1,u,by omega,by simpa using h2,?_⟩
    rw[h3,show i+1+k=i+(k+1) by omega]
theorem jQjS:∀(db:List Tab) (i:Nat),lastR (i:Int) (tabNs (i+1) db)=((i+db.length:Nat):Int)
 | [],i=>rfl
 | t :: q,i=>by
  have ih:=jQjS q (i+1)
  unfold lastR at ih ⊢
  rw[tabNs,List.foldl_cons]
  simp only
  rw[if_pos (by omega),ih,List.length_cons,show i+1+q.length=i+(q.length+1) by omega]
theorem jQoA {cols:List Col}{i:Nat}{r:List Val}(hc:okCols cols)(ht:typed cols r)(hk:keyOk r):rowOf cols (rowEnt i r)=some r:=by
 unfold rowOf rowEnt
 simp only
 rw[jQfN _ _ hk.1 hk.2]
 exact jQlG hc ht
theorem jQl9 {cols:List Col}{i:Nat}(hc:okCols cols):∀{l:List (List Val)},(∀r∈l,typed cols r∧keyOk r)→(l.map (rowEnt i)).filterMap (rowOf cols)=l∧((l.map (rowEnt i)).any fun e=>(rowOf cols e).isNone)=false
 | [],_=>⟨rfl,rfl⟩
 | r :: l,h=>by
  have h1:=jQoA (i:=i) hc (h r (by simp)).1 (h r (by simp)).2
  have ih:=jQl9 (i:=i) hc (l:=l) fun x hx=>h x (by simp[hx])
  rw[List.map_cons,List.filterMap_cons,h1,List.any_cons,h1,ih.2]
  simp only
  rw[ih.1]
  exact⟨rfl,rfl⟩
theorem jQqr {X:NTree}{db:List Tab}(h:Stands X db)(hd:goodD db){k:Nat}{t:Tab}(ht:db[k]?=some t){lo hi:Int}(h0:-2147483648≤lo)(h1:lo≤2147483647)(h2:-2147483648≤hi)(h3:hi≤2147483647)(tr:Trl) :
  (rowsR X ⟨((1+k:Nat):Int),t.name,t.cols⟩ lo hi tr).1=(t.rows.filter fun r=>Decidable.decide (lo≤keyOf r) && Decidable.decide (keyOf r≤hi))∧(rowsR X ⟨((1+k:Nat):Int),t.name,t.cols⟩ lo hi tr).2.lost=tr.lost:=by
 have htm:=List.mem_of_getElem? ht
 have g1:=h.thru (placeOf ((1+k:Nat):Int) lo) (placeOf ((1+k:Nat):Int) hi) tr
 rw[jQrj hd.g.laid ht h0 h1 h2 h3] at g1
 have g2:=jQl9 (i:=1+k) (hd.cols t htm) (l:=t.rows.filter fun r=>Decidable.decide (lo≤keyOf r) && Decidable.decide (keyOf r≤hi)) fun r hr=>⟨hd.typed t htm r (List.mem_filter.1 hr).1,hd.g.laid.keys t htm r (List.mem_filter.1 hr).1⟩
 unfold rowsR
 simp only
 rw[g1.1,g2.1,g2.2,jQhx]
 exact⟨rfl,g1.2⟩
theorem jQlA {cols:List Col}{r:List Val}(hc:okCols cols)(ht:typed cols r):∃x q,r=⟨0,keyOf r,x⟩ :: q:=by
 obtain⟨c,q,rfl,hk⟩:=hc.head
 cases r with
 | nil=>unfold typed at ht;exact ht.elim
 | cons v r =>
  unfold typed at ht
  obtain⟨vk,vn,vt⟩:=v
  have:vk=0:=ht.1.1.trans hk
  subst this
  exact⟨vt,r,rfl⟩
theorem jQku {X:NTree}{db:List Tab}(h:Stands X db)(hd:goodD db){k:Nat}{t:Tab}(ht:db[k]?=some t){wher:List StepS}(hw:okWh wher)(tr:Trl) :
  metN t.cols (spannedR X ⟨((1+k:Nat):Int),t.name,t.cols⟩ wher tr).1 wher=meeting t wher∧(spannedR X ⟨((1+k:Nat):Int),t.name,t.cols⟩ wher tr).2.lost=tr.lost:=by
 have htm:=List.mem_of_getElem? ht
 have hin:∀r∈t.rows,meets t.cols r wher=true→inS (spanOf t.cols wher) (keyOf r):=by
  intro r hr hm
  obtain⟨x,q,e⟩:=jQlA (hd.cols t htm) (hd.typed t htm r hr)
  have hk:=hd.g.laid.keys t htm r hr
  rw[e] at hm
  exact jQlZ t.cols wher (keyOf r) x q hk.1 hk.2 hm
 unfold spannedR
 simp only
 split
 ·rename_i hs
  unfold hasKeys at hs
  simp only[decide_eq_true_eq] at hs
  have hb:=jQjC t.cols hw hs
  have hr:=jQqr h hd ht (lo:=(spanOf t.cols wher).lo) (hi:=(spanOf t.cols wher).hi) hb.1 (by omega) (by omega) hb.2 tr
  refine⟨?_,hr.2⟩
  rw[hr.1]
  unfold metN meeting
  rw[List.filter_filter]
  refine List.filter_congr fun r hr=>?_
  cases hm:meets t.cols r wher with
  | false=>rfl
  | true =>
   have:=hin r hr hm
   unfold inS at this
   simp[this.1,this.2]
 ·rename_i hs
  unfold hasKeys at hs
  simp only[decide_eq_true_eq] at hs
  refine⟨?_,rfl⟩
  unfold metN meeting
  symm
  rw[List.filter_nil,List.filter_eq_nil_iff]
  intro r hr hm
  have:=hin r hr hm
  unfold inS at this
  omega
theorem jQpF (cols:List Col):∀(l:List Col) (i:Nat),twoFrom cols l i=false→(l.map fun c=>find cols c.name)=(List.range l.length).map fun k:Nat=>((i+k:Nat):Int)
 | [],_,_=>rfl
 | c :: r,i,h=>by
  rw[twoFrom] at h
  split at h
  ·cases h
  ·rename_i hf
   have hf':find cols c.name=(i:Int):=by simpa using hf
   have ih:=jQpF cols r (i+1) h
   rw[List.map_cons,hf',ih,List.length_cons,List.range_succ_eq_map,List.map_cons,List.map_map]
   congr 1
   refine List.map_congr_left fun k _=>?_
   show((i+1+k:Nat):Int)=((i+(k+1):Nat):Int)
   congr 1
   omega
theorem jQmo {cols:List Col}(h:twoOf cols=false):placedR cols (cols.map Col.name)=upToR cols.length:=by
 have:=jQpF cols cols 0 h
 unfold placedR upToR
 rw[List.map_map]
 refine Eq.trans this ?_
 refine List.map_congr_left fun k _=>?_
 rw[Nat.zero_add]
theorem jQhi (cols:List Col)(row:List Val)(items:List ByteArray):rowTextR row (placedR cols items)=rowText cols row items:=by
 unfold rowTextR rowText placedR
 rw[List.map_map]
 rfl
theorem jQjO (cols:List Col)(rows:List (List Val))(items:List ByteArray):listedR (placedR cols items) rows=listed cols items rows:=by
 unfold listedR listed
 congr 1
 funext r
 rw[jQhi]
theorem jQoj (cols:List Col)(rows:List (List Val))(items:List ByteArray):summedR (placedR cols items) rows=sumRows cols items rows:=by
 unfold summedR sumRows sumRow sumItems placedR
 simp only[List.map_map]
 rfl
theorem jQrI {t:Tab}(h:twoOf t.cols=false)(rows:List (List Val))(st:PSt):showR t.cols rows st=showRows t st rows:=by
 unfold showR showRows
 rw[←jQmo h,jQjO,jQjO,jQoj]
 rfl
structure Agree (db:List Tab)(o:Out)(p:OutR):Prop where
 reply:p.reply=o.reply
 makes:p.makes=o.makes
 tab:o.makes=true→p.tab=⟨(db.length:Int)+1,o.name,o.cols⟩∧o.puts=[]∧o.cuts=[]∧db.length < 5
 puts:p.puts=o.puts
 cuts:p.cuts=o.cuts
 place:o.makes=false→(o.puts=[]∧o.cuts=[])∨∃k t,o.table=((k:Nat):Int)∧db[k]?=some t∧p.tab.number=((1+k:Nat):Int)
 kput:∀r∈o.puts,keyOk r
 kcut:∀c∈o.cuts,-2147483648≤c∧c≤2147483647
theorem jQF (db:List Tab)(n:Int):Agree db (refused n) (refusedR n):=⟨rfl,rfl,fun h=>(by cases h),rfl,rfl,fun _=>Or.inl ⟨rfl,rfl⟩,fun r hr=>(by cases hr),fun c hc=>(by cases hc)⟩
theorem jQjb {cols:List Col}{r:List Val}(hc:okCols cols)(ht:typed cols r):keyOk r:=by
 obtain⟨c,q,rfl,hk⟩:=hc.head
 cases r with
 | nil=>unfold typed at ht;exact ht.elim
 | cons v r =>
  unfold typed at ht
  exact jQiC ht.1.2
theorem jQpB {X:NTree}{db:List Tab}(h:Stands X db)(hd:goodD db){k:Nat}{t:Tab}(ht:db[k]?=some t)(st:PSt)(n:Nat)(hst:okRead goodVal n st)(hw:okWh st.wher)(tr:Trl) :
  Agree db (decideTab db t k st) (decideTabR X ⟨((1+k:Nat):Int),t.name,t.cols⟩ st tr).1∧(decideTabR X ⟨((1+k:Nat):Int),t.name,t.cols⟩ st tr).2.lost=tr.lost:=by
 have htm:=List.mem_of_getElem? ht
 have hcols:=hd.cols t htm
 have hok:=jQjE hd ht st n hst
 unfold decideTab at hok ⊢
 unfold decideTabR
 simp only
 split
 ·exact⟨jQF _ _,rfl⟩
 ·rename_i hc
  rw[if_neg hc] at hok
  have hca:=jQgH _ _ (by simpa using hc)
  unfold checkAct at hca
  split
  ·rename_i ha
   rw[if_pos ha] at hca
   have htv:=jQec hca hst.vals
   have hkv:=jQjb hcols htv
   have hhas:=h.has (placeOf ((1+k:Nat):Int) (keyOf st.vals)) tr
   rw[jQqZ hd.g.laid ht hkv.1 hkv.2] at hhas
   unfold insertR
   refine⟨?_,hhas.2⟩
   simp only
   rw[hhas.1,h.size]
   unfold insertO Sq.insert
   split
   ·exact jQF _ _
   ·split
    ·exact jQF _ _
    ·refine⟨rfl,rfl,fun hm=>(by cases hm),rfl,rfl,fun _=>Or.inr ⟨k,t,rfl,ht,rfl⟩,fun r hr=>?_,fun c hc=>(by cases hc)⟩
     simp at hr;subst hr;exact hkv
  ·rename_i ha
   rw[if_neg ha] at hok
   have hsp:=jQku h hd ht hw tr
   refine⟨?_,hsp.2⟩
   simp only
   rw[hsp.1]
   unfold askedR
   split
   ·rename_i h3
    rw[if_pos h3] at hok
    unfold updateR Sq.update at *
    cases hu:updateFrom t.cols st.sets (meeting t st.wher) [] with
    | none=>exact jQF _ _
    | some puts =>
     rw[hu] at hok
     refine⟨rfl,rfl,fun hm=>(by cases hm),rfl,rfl,fun _=>Or.inr ⟨k,t,rfl,ht,rfl⟩,fun r hr=>?_,fun c hc=>by cases hc⟩
     obtain⟨k',t',e1,e2,e3⟩:=hok.puts r hr
     exact jQjb (hd.cols t' (List.mem_of_getElem? e2)) e3
   ·split
    ·unfold removeR Sq.remove
     refine⟨rfl,rfl,fun hm=>(by cases hm),rfl,rfl,fun _=>Or.inr ⟨k,t,rfl,ht,rfl⟩,fun r hr=>(by cases hr),fun c hc=>?_⟩
     obtain⟨r,hr,rfl⟩:=List.mem_map.1 hc
     exact hd.g.laid.keys t htm r (List.mem_filter.1 hr).1
    ·refine⟨?_,rfl,fun hm=>(by cases hm),rfl,rfl,fun _=>Or.inl ⟨rfl,rfl⟩,fun r hr=>(by cases hr),fun c hc=>by cases hc⟩
     show showR t.cols (meeting t st.wher) st=Sq.show t st
     rw[jQrI (hd.two t htm)]
     rfl
theorem jQe8 {X:NTree}{db:List Tab}(h:Stands X db)(hd:goodD db)(sql:ByteArray)(tr:Trl):Agree db (Sq.decide db sql) (decideR X sql tr).1∧(decideR X sql tr).2.lost=tr.lost:=by
 unfold Sq.decide decideR
 split
 ·exact⟨jQF _ _,rfl⟩
 ·have hts:=jQqd h hd tr
  unfold decideSt decideStR
  rw[hts.1]
  split
  ·refine⟨?_,hts.2⟩
   have hf:=jQgu (parse sql).2.table db 1 0 (by omega)
   have hl:=jQjS db 0
   have hlen:=jQjj 1 db
   unfold create createR
   simp only
   have e1:(findR (parse sql).2.table (tabNs 1 db)).isSome=Decidable.decide (0≤findTab db (parse sql).2.table):=by
    unfold findTab
    rcases hf with⟨g1,g2⟩ | ⟨k,u,g1,g2,g3⟩
    ·rw[g1,g2];rfl
    ·rw[g1,g3];simp
   rw[e1,hlen,h.size]
   simp only[decide_eq_true_eq]
   split
   ·exact jQF _ _
   ·split
    ·exact jQF _ _
    ·split
     ·exact jQF _ _
     ·split
      ·exact jQF _ _
      ·rename_i h4
       by_cases h5:60≤dbSize db
       ·rw[if_pos h5,if_pos (by omega)];exact jQF _ _
       ·rw[if_neg h5,if_neg (by omega)]
        refine⟨rfl,rfl,fun _=>⟨?_,rfl,rfl,by omega⟩,rfl,rfl,fun hm=>(by cases hm),fun r hr=>(by cases hr),fun c hc=>(by cases hc)⟩
        show TabN.mk (lastR 0 (tabNs 1 db)+1) _ _=_
        rw[show lastR 0 (tabNs 1 db)=((0+db.length:Nat):Int) from hl,Nat.zero_add]
  ·rcases jQgu (parse sql).2.table db 1 0 (by omega) with⟨g1,g2⟩ | ⟨k,u,g1,g2,g3⟩
   ·have e:findTab db (parse sql).2.table=-1:=g1
    rw[g2,e]
    simp only
    refine⟨?_,hts.2⟩
    split
    ·rw[if_pos (by omega)];exact jQF _ _
    ·exact jQF _ _
   ·have e:findTab db (parse sql).2.table=(k:Int):=by
     show findTabFrom _ _ _=_
     rw[g1];omega
    rw[g3,e,Int.toNat_natCast,g2]
    simp only
    rw[if_neg (by omega)]
    have:=jQpB h hd g2 (parse sql).2 163 (jQbV sql).1 (jQms sql) (tabsR X tr).2
    exact⟨this.1,this.2.trans hts.2⟩
theorem jQfG {k:Nat}:∀{puts:List (List Val)} {x:NTree×Trl} {db:List Tab} {t:Tab},Stands x.1 db→laidDB db→db[k]?=some t→(∀r∈puts,keyOk r)→Stands (putsR ((1+k:Nat):Int) puts x).1 (setRows db k (putAll puts t.rows))∧laidDB (setRows db k (putAll puts t.rows))
 | [],x,db,t,h,hl,ht,_=>by
  have e:setRows db k (putAll [] t.rows)=db:=by
   obtain⟨hk,e⟩:=List.getElem?_eq_some_iff.1 ht
   show setRows db k t.rows=db
   have:t.rows=rowsAt db k:=by rw[jQby db k hk,e]
   rw[this,jQ3]
  rw[e];exact⟨h,hl⟩
 | p :: q,x,db,t,h,hl,ht,hk=>by
  have h1:=jQr9 hl ht (hk p (by simp))
  have h2:=h.put (rowEnt (1+k) p) x.2 h1.1
  have e:(setRows db k (put p t.rows))[k]?=some { t with rows:=put p t.rows }:=(jQfg ht _ k).trans (if_pos rfl)
  have ih:=jQfG (puts:=q) (x:=x.1.put (rowEnt (1+k) p) x.2) h2 h1.2 e fun r hr=>hk r (by simp[hr])
  rw[jQbU] at ih
  exact ih
theorem jQfT {k:Nat}:∀{cuts:List Int} {x:NTree×Trl} {db:List Tab} {t:Tab},Stands x.1 db→laidDB db→db[k]?=some t→(∀c∈cuts,-2147483648≤c∧c≤2147483647)→Stands (cutsR ((1+k:Nat):Int) cuts x).1 (setRows db k (cutAll cuts t.rows))∧laidDB (setRows db k (cutAll cuts t.rows))
 | [],x,db,t,h,hl,ht,_=>by
  have e:setRows db k (cutAll [] t.rows)=db:=by
   obtain⟨hk,e⟩:=List.getElem?_eq_some_iff.1 ht
   show setRows db k t.rows=db
   have:t.rows=rowsAt db k:=by rw[jQby db k hk,e]
   rw[this,jQ3]
  rw[e];exact⟨h,hl⟩
 | c :: q,x,db,t,h,hl,ht,hk=>by
  have hc:=hk c (by simp)
  have h1:=jQsa hl ht hc.1 hc.2
  have h2:=h.del (placeOf ((1+k:Nat):Int) c) x.2 h1.1
  have e:(setRows db k (cutRows c t.rows))[k]?=some { t with rows:=cutRows c t.rows }:=(jQfg ht _ k).trans (if_pos rfl)
  have ih:=jQfT (cuts:=q) (x:=x.1.del (placeOf ((1+k:Nat):Int) c) x.2) h2 h1.2 e fun r hr=>hk r (by simp[hr])
  rw[jQbU] at ih
  exact ih
theorem jQiR {X:NTree}{db:List Tab}(h:Stands X db)(hl:laidDB db){o:Out}{p:OutR}(ha:Agree db o p)(tr:Trl):Stands (applyR p (X,tr)).1 (apply db o):=by
 unfold applyR apply
 rw[ha.puts,ha.cuts]
 cases hm:o.makes with
 | true =>
  obtain⟨h1,h2,h3,h4⟩:=ha.tab hm
  have e:made db o=db++[⟨o.name,o.cols,[]⟩]:=by unfold made;rw[hm];rfl
  have e2:madeR p (X,tr)=X.put ⟨placeOf 0 p.tab.number,ofTable p.tab.name p.tab.cols⟩ tr:=by unfold madeR;rw[ha.makes,hm];rfl
  rw[e,h2,h3,e2,h1]
  have e3:∀a j,setRows a j (cutAll [] (putAll [] (rowsAt a j)))=a:=fun a j=>jQ3 a j
  rw[e3]
  exact h.put _ tr (jQq3 hl h4 o.name o.cols).1
 | false =>
  have e:made db o=db:=by unfold made;rw[hm];rfl
  have e2:madeR p (X,tr)=(X,tr):=by unfold madeR;rw[ha.makes,hm];rfl
  rw[e,e2]
  rcases ha.place hm with⟨h1,h2⟩ | ⟨k,t,h1,h2,h3⟩
  ·rw[h1,h2]
   have e3:∀a j,setRows a j (cutAll [] (putAll [] (rowsAt a j)))=a:=fun a j=>jQ3 a j
   rw[e3]
   exact h
  ·rw[h3,h1,Int.toNat_natCast]
   obtain⟨hk,et⟩:=List.getElem?_eq_some_iff.1 h2
   have er:rowsAt db k=t.rows:=by rw[jQby db k hk,et]
   rw[er]
   have g1:=jQfG (puts:=o.puts) (x:=(X,tr)) h hl h2 ha.kput
   have e4:(setRows db k (putAll o.puts t.rows))[k]?=some { t with rows:=putAll o.puts t.rows }:=(jQfg h2 _ k).trans (if_pos rfl)
   have g2:=jQfT (cuts:=o.cuts) (x:=putsR ((1+k:Nat):Int) o.puts (X,tr)) g1.1 g1.2 e4 ha.kcut
   rw[jQbU] at g2
   exact g2.1
theorem jQl8 {X:NTree}{db:List Tab}(h:Stands X db)(hd:goodD db)(sql:ByteArray)(tr:Trl) :
  (runR X sql tr).1=(Sq.decide db sql).reply∧Stands (runR X sql tr).2.1 (after db sql)∧(decideR X sql tr).2.lost=tr.lost:=by
 have ha:=jQe8 h hd sql tr
 exact⟨ha.1.reply,jQiR h hd.g.laid ha.1 _,ha.2⟩
end Sq
namespace Sq
def bytesN (H:ByteArray→ByteArray):(n:Nat)→Nd n→ByteArray
 | 0,t=>bytesF (fun e:Empty=>e.elim) (fun e:Empty=>e.elim) t
 | n+1,t=>bytesF (headN n) (digN H n) t
end Sq
namespace Sq
theorem jQgL {α:Type}(f:α→ByteArray)(m:Nat):∀(l:List α),(∀x∈l,(f x).size≤m)→(catB (l.map f)).size≤l.length * m
 | [],_=>by show nobytes.size≤_;rw[show nobytes.size=0 from rfl];omega
 | x :: l,h=>by
  have h1:=h x (by simp)
  have ih:=jQgL f m l fun y hy=>h y (by simp[hy])
  rw[List.map_cons,jQe3,jQs,List.length_cons,Nat.add_mul]
  omega
theorem jQex {name:ByteArray}{cols:List Col}(hn:okNm name)(hc:okCols cols):(ofTable name cols).size≤50:=by
 unfold ofTable
 rw[jQht,jQs,jQs,jQcu,jQt]
 have h1:=jQgL ofCol 10 cols fun c hc'=>by
  unfold ofCol
  rw[jQs,jQt,jQcu]
  have:=(hc.each c hc').1.2
  omega
 have h2:=hc.few
 have h3:=hn.2
 have h4:cols.length * 10≤4 * 10:=Nat.mul_le_mul_right 10 h2
 omega
theorem jQf8:∀{cols:List Col} {row:List Val},typed cols row→row.length=cols.length∧∀v∈row,goodVal v
 | [],[],_=>⟨rfl,by simp⟩
 | [],_ :: _,h=>by unfold typed at h;exact h.elim
 | _ :: _,[],h=>by unfold typed at h;exact h.elim
 | c :: q,v :: r,h=>by
  unfold typed at h
  have ih:=jQf8 h.2
  refine⟨by rw[List.length_cons,List.length_cons,ih.1],fun x hx=>?_⟩
  rcases List.mem_cons.1 hx with rfl | hx
  ·exact h.1.2
  ·exact ih.2 x hx
theorem jQmz {v:Val}(h:goodVal v):(ofVal v).size≤13:=by
 unfold ofVal
 rcases h with⟨h1,_⟩ | ⟨h1,_,h3,_⟩
 ·rw[h1];show(pnum _ 4).size≤13;rw[jQt];omega
 ·rw[h1];show(txt _).size≤13;rw[jQcu];omega
theorem jQey {cols:List Col}{row:List Val}(hc:okCols cols)(ht:typed cols row):(ofCells row).size≤50:=by
 obtain⟨h1,h2⟩:=jQf8 ht
 have h3:=hc.few
 unfold ofCells
 rw[jQhs,jQjI]
 have h4:=jQgL ofVal 13 (row.drop 1) fun v hv=>jQmz (h2 v (List.mem_of_mem_drop hv))
 rw[List.length_drop] at h4
 have h5:(row.length - 1) * 13≤3 * 13:=Nat.mul_le_mul_right 13 (by omega)
 omega
theorem jQpj {db:List Tab}(hd:goodD db):∀e∈encDB db,okEnt e∧e.row.size≤50:=by
 intro e he
 have hf:=hd.g.few
 rcases jQaP.1 he with⟨k,t,h1,rfl⟩ | ⟨k,t,r,h1,h2,rfl⟩
 ·have htm:=List.mem_of_getElem? h1
  have hk:=(List.getElem?_eq_some_iff.1 h1).1
  have hs:=jQex (hd.names t htm) (hd.cols t htm)
  refine⟨⟨?_,?_,?_⟩,hs⟩
  ·show 0≤placeOf 0 _;unfold placeOf;omega
  ·show placeOf 0 _ < _;unfold placeOf;omega
  ·show(ofTable t.name t.cols).size < 256;omega
 ·have htm:=List.mem_of_getElem? h1
  have hk:=(List.getElem?_eq_some_iff.1 h1).1
  have hs:=jQey (hd.cols t htm) (hd.typed t htm r h2)
  have hkey:=hd.g.laid.keys t htm r h2
  unfold keyOk at hkey
  refine⟨⟨?_,?_,?_⟩,hs⟩
  ·show 0≤placeOf _ _;unfold placeOf;omega
  ·show placeOf _ _ < _;unfold placeOf;omega
  ·show(ofCells r).size < 256;omega
theorem Stands.fine {X:NTree}{db:List Tab}(h:Stands X db)(hd:goodD db):∃x,repT X x∧x.ok∧Sq.fine x.d x.t:=by
 obtain⟨x,h1,h2,h3,h4⟩:=h.at_
 have h5:ents x.d x.t=encDB db:=h4
 refine⟨x,h1,h2,h2.kids,h3,?_,?_⟩
 ·rw[h5];exact jQpj hd
 ·rw[h5,jQj2];exact hd.g.size
end Sq
namespace Sq
theorem jQgC:∀(n:Nat) (t:Nd n) (x:List (Kid n)),rep n t x→countN n t=(ents n x).length
 | 0,t,x,h=>by
  obtain⟨h1,h2,h3⟩:=rep.leaf h
  show(NodeF.ents t).length+((NodeF.kids t).map _).sum=_
  rw[h2,h3]
  rfl
 | n+1,t,x,h=>by
  obtain⟨h1,h2,h3⟩:=rep.inner h
  show(NodeF.ents t).length+((NodeF.kids t).map (countN n)).sum=_
  rw[h2]
  have hl:∀(l:List (Nd n)) (cs:List (List (Kid n))),reps n l cs→(l.map (countN n)).sum=(cs.flatMap (ents n)).length:=by
   intro l
   induction l with
   | nil =>
    intro cs hr
    cases cs with
    | nil=>rfl
    | cons y cs=>have:=hr.len;simp at this
   | cons c l ih =>
    intro cs hr
    cases cs with
    | nil=>have:=hr.len;simp at this
    | cons y cs =>
     obtain⟨k1,k2⟩:=reps.cons.1 hr
     rw[List.map_cons,List.sum_cons,List.flatMap_cons,List.length_append,ih cs k2,jQgC n c y k1]
  have:=hl (NodeF.kids t) x h3
  rw[this,List.length_nil,Nat.zero_add]
  rfl
theorem jQmL:∀(n:Nat) (t:Nd n) (x:List (Kid n)),rep n t x→fine n x→2≤x.length→manyN n t+1≤(ents n x).length
 | 0,t,x,h,hf,h2=>h2
 | n+1,t,x,h,hf,h2=>by
  obtain⟨g1,g2,g3⟩:=rep.inner h
  show 1+((NodeF.kids t).map (manyN n)).sum+1≤_
  have hl:∀(l:List (Nd n)) (cs:List (List (Kid n))),reps n l cs→(∀c∈cs,fine n c∧2≤c.length)→(l.map (manyN n)).sum+cs.length≤(cs.flatMap (ents n)).length:=by
   intro l
   induction l with
   | nil =>
    intro cs hr hc
    cases cs with
    | nil=>exact Nat.le_refl _
    | cons y cs=>have:=hr.len;simp at this
   | cons c l ih =>
    intro cs hr hc
    cases cs with
    | nil=>have:=hr.len;simp at this
    | cons y cs =>
     obtain⟨k1,k2⟩:=reps.cons.1 hr
     have h7:=ih cs k2 fun z hz=>hc z (by simp[hz])
     have h8:=hc y (by simp)
     have h9:=jQmL n c y k1 h8.1 h8.2
     rw[List.map_cons,List.sum_cons,List.flatMap_cons,List.length_append,List.length_cons]
     omega
  have h7:=hl (NodeF.kids t) x g3 fun c hc=>hf.kid hc
  have h8:(List.flatMap (ents n) (show List (List (Kid n)) from x)).length=(ents (n+1) x).length:=rfl
  have h9:List.length (α:=List (Kid n)) x=x.length:=rfl
  have h10:(List.flatMap (ents n) x).length=(ents (n+1) x).length:=rfl
  omega
theorem jQhu {α:Type}{f:α→Head}{G G':α→Prop}{m:α→Nat}{g:α→Int→α×Int}{M:Int}(hg:∀c k,G c→k+(m c:Int)≤M+1→G' (g c k).1∧(f (g c k).1).rows=(f c).rows)(hs:∀c k,(g c k).2=k+(m c:Int)) :
  ∀(l:List α) (k:Int),(∀c∈l,G c)→k+((l.map m).sum:Nat)≤M+1→(∀c∈(numbL g l k).1,G' c)∧(numbL g l k).1.length=l.length∧sumRows2 f (numbL g l k).1=sumRows2 f l
 | [],k,_,_=>⟨fun c hc=>by simp[numbL] at hc,rfl,rfl⟩
 | c :: r,k,hl,hk=>by
  rw[List.map_cons,List.sum_cons] at hk
  have h1:=hg c k (hl c (by simp)) (by omega)
  have h2:=jQhu (f:=f) hg hs r (g c k).2 (fun d hd=>hl d (by simp[hd])) (by rw[hs];omega)
  rw[numbL]
  refine⟨fun d hd=>?_,by simp[h2.2.1],?_⟩
  ·rcases List.mem_cons.1 hd with rfl | hd
   ·exact h1.1
   ·exact h2.1 d hd
  ·rw[jQ9,jQ9,h1.2,h2.2.2]
theorem jQjG {K M:Int}:∀(n:Nat) (t:Nd n) (k:Int),tameN K n t→k+(manyN n t:Int)≤M+1→tameN M n (numN n t k).1∧(headN n (numN n t k).1).rows=(headN n t).rows
 | 0,t,k,h,hk=>by
  have h0:=h.at0
  have hkid:NodeF.kids t=[]:=by
   cases hq:NodeF.kids t with
   | nil=>rfl
   | cons c _=>exact c.elim
  have hk1:k≤M:=by have:((1:Nat):Int)=1:=rfl;have e:manyN 0 t=1:=rfl;rw[e] at hk;omega
  refine⟨⟨?_,h.leaf0⟩,rfl⟩
  refine⟨h0.ents,?_,fun c hc=>c.elim,hk1,h0.pos,fun hi=>?_,fun hi=>⟨(h0.lf hi).1,?_⟩,h0.sl,h0.row⟩
  ·show(numbL _ (NodeF.kids t) _).1.length≤4
   rw[hkid];exact Nat.zero_le _
  ·have:=h.leaf0
   exact absurd (show(NodeF.hd t).inner=true from hi) (by rw[this];decide)
  ·show(numbL _ (NodeF.kids t) _).1=[]
   rw[hkid];rfl
 | n+1,t,k,h,hk=>by
  have h1:=h.at1
  have e:manyN (n+1) t=1+((NodeF.kids t).map (manyN n)).sum:=rfl
  rw[e] at hk
  have h2:=jQhu (f:=headN n) (G:=tameN K n) (G':=tameN M n) (m:=manyN n) (g:=numN n) (M:=M) (fun c k hc hk=>jQjG n c k hc hk) (fun c k=>jQir n c k) (NodeF.kids t) (k+1) h1.each (by omega)
  refine⟨?_,rfl⟩
  refine⟨h1.ents,?_,h2.1,?_,h1.pos,fun hi=>⟨?_,(h1.inn hi).2⟩,fun hi=>⟨(h1.lf hi).1,?_⟩,h1.sl,h1.row⟩
  ·show(numbL (numN n) (NodeF.kids t) (k+1)).1.length≤4
   rw[h2.2.1];exact h1.kids
  ·show k≤M
   omega
  ·show(NodeF.hd t).rows=sumRows2 (headN n) (numbL (numN n) (NodeF.kids t) (k+1)).1
   rw[h2.2.2];exact(h1.inn hi).1
  ·show(numbL (numN n) (NodeF.kids t) (k+1)).1=[]
   rw[(h1.lf hi).2];rfl
theorem jQhm {K:Int}(hK:0≤K)(n:Int):∀(puts:List (List Val)) (x:NTree×Trl) (m:Int),TameT K m x.1→TameR K x.2→(∀r∈puts,(ofCells r).size≤300)→TameT K (m+puts.length) (putsR n puts x).1∧TameR K (putsR n puts x).2
 | [],x,m,h,hr,_=>⟨by simpa[putsR] using h,hr⟩
 | r :: q,x,m,h,hr,ho=>by
  have h1:=h.put hK (e:=⟨placeOf n (keyOf r),ofCells r⟩) (ho r (by simp)) hr
  have h2:=jQhm hK n q (x.1.put ⟨placeOf n (keyOf r),ofCells r⟩ x.2) (m+1) h1.1 h1.2 fun y hy=>ho y (by simp[hy])
  refine⟨?_,h2.2⟩
  have e:m+((r :: q).length:Nat)=m+1+(q.length:Nat):=by rw[List.length_cons];omega
  rw[e]
  exact h2.1
theorem jQhN {K:Int}(hK:0≤K)(n:Int):∀(cuts:List Int) (x:NTree×Trl) (m:Int),TameT K m x.1→TameR K x.2→TameT K m (cutsR n cuts x).1∧TameR K (cutsR n cuts x).2
 | [],x,m,h,hr=>⟨h,hr⟩
 | c :: q,x,m,h,hr=>by
  have h1:=h.del hK (placeOf n c) hr
  exact jQhN hK n q (x.1.del (placeOf n c) x.2) m h1.1 h1.2
theorem jQfW {K:Int}(hK:0≤K){o:OutR}(ho:OkOut o){x:NTree×Trl}{m:Int}(h:TameT K m x.1)(hr:TameR K x.2):TameT K (m+10001) (applyR o x).1∧TameR K (applyR o x).2:=by
 have hm:TameT K (m+1) (madeR o x).1∧TameR K (madeR o x).2:=by
  unfold madeR
  split
  ·rename_i hmk
   exact h.put hK (ho.make hmk).2.2.2 hr
  ·exact⟨⟨h.t,Int.le_trans h.rows (by omega)⟩,hr⟩
 have hp:=jQhm hK o.tab.number o.puts (madeR o x) (m+1) hm.1 hm.2 fun r hr=>(ho.puts r hr).size
 have hc:=jQhN hK o.tab.number o.cuts _ _ hp.1 hp.2
 have hf:=ho.few
 exact⟨⟨hc.1.t,Int.le_trans hc.1.rows (by omega)⟩,hc.2⟩
theorem jQmS:∀(l:List TabN) (m:Int),0≤m→m≤5→(∀t∈l,1≤t.number∧t.number≤5)→0≤lastR m l∧lastR m l≤5
 | [],m,h0,h1,_=>⟨h0,h1⟩
 | t :: q,m,h0,h1,h=>by
  have:=h t (by simp)
  show 0≤lastR (if m < t.number then t.number else m) q∧_
  exact jQmS q _ (by split <;> omega) (by split <;> omega) fun u hu=>h u (by simp[hu])
theorem jQk3 (X:NTree)(sql:ByteArray)(tr:Trl):0≤(decideR X sql tr).1.tab.number∧(decideR X sql tr).1.tab.number≤6:=by
 have hb:=jQlL X tr
 have hr:∀n,0≤(refusedR n).tab.number∧(refusedR n).tab.number≤6:=fun n=>⟨by show(0:Int)≤0;omega,by show(0:Int)≤6;omega⟩
 have ht:∀{n:ByteArray} {t:TabN},findR n (tabsR X tr).1=some t→0≤t.number∧t.number≤6:=fun h=>by have:=hb _ (jQgv h);omega
 unfold decideR decideStR
 split
 ·exact hr _
 ·split
  ·unfold createR
   have hl:=jQmS (tabsR X tr).1 0 (by omega) (by omega) fun t ht=>by have:=hb t ht;omega
   repeat (first | exact hr _ | split)
   show 0≤lastR 0 (tabsR X tr).1+1∧lastR 0 (tabsR X tr).1+1≤6
   omega
  ·split
   ·rename_i t hf
    have:=ht hf
    unfold decideTabR
    split
    ·exact hr _
    ·split
     ·unfold insertR insertO
      simp only
      split
      ·exact hr _
      ·split
       ·exact hr _
       ·exact this
     ·unfold askedR
      simp only
      split
      ·unfold updateR
       cases updateFrom t.cols (parse sql).2.sets (metN t.cols (spannedR X t (parse sql).2.wher (tabsR X tr).2).1 (parse sql).2.wher) [] with
       | none=>exact hr _
       | some p=>exact this
      ·split
       ·exact this
       ·exact hr 0
   ·exact hr _
theorem jQfv (cols:List Col)(sets:List SetS):∀(rows acc puts:List (List Val)),updateFrom cols sets rows acc=some puts→puts.length=acc.length+rows.length:=by
 intro rows
 induction rows with
 | nil=>intro acc puts h;rw[updateFrom] at h;simp at h;subst h;simp
 | cons x q ih =>
  intro acc puts h
  rw[updateFrom] at h
  split at h
  ·have:=ih _ _ h;simp at this ⊢;omega
  ·simp at h
theorem jQk4 {K:Int}{X:NTree}{tr:Trl}(hf:tameN K X.d X.t)(hr:TameR K tr)(hc:countN X.d X.t≤900)(sql:ByteArray):(decideR X sql tr).1.puts.length+(decideR X sql tr).1.cuts.length≤1000:=by
 have h0:∀n,(refusedR n).puts.length+(refusedR n).cuts.length≤1000:=fun n=>by show 0+0≤1000;omega
 have h1:=jQej hf hr
 unfold decideR decideStR
 split
 ·exact h0 _
 ·split
  ·unfold createR
   repeat (first | exact h0 _ | split)
   exact h0 0
  ·split
   ·rename_i t _
    unfold decideTabR
    split
    ·exact h0 _
    ·split
     ·unfold insertR insertO
      simp only
      split
      ·exact h0 _
      ·split
       ·exact h0 _
       ·show 1+0≤1000;omega
     ·have h2:=(jQcb hf h1 t (parse sql).2.wher).2.1
      have h3:(metN t.cols (spannedR X t (parse sql).2.wher (tabsR X tr).2).1 (parse sql).2.wher).length≤(spannedR X t (parse sql).2.wher (tabsR X tr).2).1.length:=List.length_filter_le _ _
      unfold askedR
      simp only
      split
      ·unfold updateR
       cases hu:updateFrom t.cols (parse sql).2.sets (metN t.cols (spannedR X t (parse sql).2.wher (tabsR X tr).2).1 (parse sql).2.wher) [] with
       | none=>exact h0 _
       | some p =>
        have:=jQfv _ _ _ _ _ hu
        show p.length+0≤1000
        simp at this
        omega
      ·split
       ·show 0+(List.map keyOf _).length≤1000
        rw[List.length_map]
        omega
       ·exact h0 0
   ·exact h0 _
theorem Stands.okOut {X:NTree}{db:List Tab}(h:Stands X db)(hd:goodD db){K:Int}{tr:Trl}(hf:tameN K X.d X.t)(hr:TameR K tr)(hc:countN X.d X.t≤900)(sql:ByteArray):OkOut (decideR X sql tr).1:=by
 have ha:=(jQe8 h hd sql tr).1
 have ho:=jQew hd sql
 have ht:=jQk3 X sql tr
 have hfew:=jQk4 hf hr hc sql
 refine⟨ht.1,by omega,fun r hr=>?_,fun k hk=>?_,by omega,fun hm=>?_⟩
 ·rw[ha.puts] at hr
  obtain⟨k,t,e1,e2,e3⟩:=ho.puts r hr
  have hcols:=hd.cols t (List.mem_of_getElem? e2)
  obtain⟨g1,g2⟩:=jQf8 e3
  have:=hcols.few
  refine⟨by omega,fun v hv=>?_,Nat.le_trans (jQey hcols e3) (by omega)⟩
  have h5:=goodVal.ok (g2 v hv)
  exact⟨h5.2.2,h5.1,h5.2.1⟩
 ·rw[ha.cuts] at hk
  have:=ha.kcut k hk
  omega
 ·rw[ha.makes] at hm
  have h1:=(ha.tab hm).1
  have h2:=ho.make hm
  rw[h1]
  have:=h2.2.1.few
  have h3:=h2.1
  unfold okNm at h3
  refine⟨by show(Sq.decide db sql).cols.length≤1000;omega,by show(Sq.decide db sql).name.size≤1000;omega,fun c hc=>?_,Nat.le_trans (jQex h2.1 h2.2.1) (by omega)⟩
  have h4:=(h2.2.1.each c hc).1
  unfold okNm at h4
  omega
theorem tameN.mono {K M:Int}(hKM:K≤M):∀{n:Nat} {t:Nd n},tameN K n t→tameN M n t
 | 0,_,h=>⟨⟨h.at0.ents,h.at0.kids,h.at0.each,Int.le_trans h.at0.num hKM,h.at0.pos,h.at0.inn,h.at0.lf,h.at0.sl,h.at0.row⟩,h.leaf0⟩
 | _+1,_,h=>⟨h.at1.ents,h.at1.kids,fun c hc=>tameN.mono hKM (h.at1.each c hc),Int.le_trans h.at1.num hKM,h.at1.pos,h.at1.inn,h.at1.lf,h.at1.sl,h.at1.row⟩
theorem tame0:tameN 99998 ntree0.d ntree0.t :=
 ⟨⟨Nat.zero_le _,Nat.zero_le _,fun c=>c.elim,(by show(0:Int)≤99998;decide),(by show(0:Int)≤0;decide),fun h=>(by cases h),fun _=>⟨(by show(0:Int)≤0;decide),rfl⟩,(by show(0:Nat)≤32;decide),fun e he=>(by cases he)⟩,rfl⟩
structure Keeps2 (X:NTree)(db:List Tab):Prop where
 st:Stands X db
 good:goodD db
 tame:tameN 99998 X.d X.t
theorem Keeps2.many {X:NTree}{db:List Tab}(h:Keeps2 X db):manyN X.d X.t≤60∧countN X.d X.t≤60:=by
 obtain⟨x,h1,h2,h3⟩:=h.st.fine h.good
 obtain⟨n,t,y,rfl,rfl,hr⟩:=h1.cases
 have h4:=jQgC n t y hr
 have h5:=h3.few
 refine⟨?_,by show countN n t≤60;simp only at h5;omega⟩
 cases n with
 | zero=>show 1≤60;omega
 | succ n =>
  have h6:=jQmL (n+1) t y hr h3 (h2.two.resolve_left (by simp))
  show manyN (n+1) t≤60
  simp only at h5
  omega
theorem Keeps2.numbered {X:NTree}{db:List Tab}(h:Keeps2 X db):tameN 100 X.numbered.d X.numbered.t∧countN X.numbered.d X.numbered.t≤900∧X.numbered.head.rows≤60:=by
 have hm:=h.many
 have h1:=jQjG (K:=99998) (M:=100) X.d X.t 1 h.tame (by omega)
 refine⟨h1.1,?_,?_⟩
 ·obtain⟨x,k1,k2,k3⟩:=h.st.numbered.fine h.good
  obtain⟨n,t,y,e1,rfl,hr⟩:=k1.cases
  rw[e1]
  have h4:=jQgC n t y hr
  have h5:=k3.few
  show countN n t≤900
  simp only at h5
  omega
 ·rw[h.st.numbered.size]
  have:=h.good.g.size
  omega
end Sq
end Go.Proofs.YtahpihjialbanaaGreatDoor
