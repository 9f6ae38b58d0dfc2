import Derived.Test.YtahpihjialbanaaGreatDoorQas
set_option linter.all false
set_option maxRecDepth 100000
set_option maxHeartbeats 4000000
namespace Go.Proofs.YtahpihjialbanaaGreatDoor
open Sq (Trl aL aj bI jBU)
variable {K:Int}{b i k n tb:Nat}{c:Array Value}{w w':World}{α β γ:Type}
section
open Go.RowKit
variable {Z:Nat->Prop}
def jEv (Z:Nat->Prop)(tb:Nat)(x:BA×aj×Trl)(w:World)(e:Ending)(w':World):Prop :=
 ∃ev cv,e=.returned (.tuple #[.string x.1,.agg (ae x.2.1.head ev cv).toArray])/\ag Z w' x.2.1.d x.2.1.t ev cv/\bk tb w' x.2.2/\aA tb w w'
theorem jEv.drew {x:BA×aj×Trl}{e:Ending}(h:jEv Z tb x w e w'):jEv Z tb x w e w'.drew:=by
 obtain⟨ev,cv,h1,h2,h3,h4⟩:=h;have hb:Below w'.heap.size w' w'.drew:=cB bR;exact⟨ev,cv,h1,h2.below hb,h3.below hb,h4.trans (aA.of hb (cQ h3.lt))⟩
theorem jYM {tr:Trl}(h:bk tb w tr)(hb:w.heap[b]?=some (.cells c 60))(x0 x1 x2 x3 x4 x5 x6:Value):bk tb (bT w b x0 x1 x2 x3 x4 x5 x6) tr:=by
 refine h.keeps (e0:=60) ?_ (by decide) (by decide);intro q cq e fr hq he;refine jQl _ _ _ _ _ _ _ _ _ fun e2=>?_
 subst e2;rw[hb] at hq;simp only[Option.some.injEq,Obj.cells.injEq] at hq;exact he hq.2.1.symm
theorem jT1 (K:Int)(Hu:0<=K)(hK:K<=99998)(X:aj)(ev cv:Value)(h7:BA)(tb:Nat)(tr:Trl)(w:World)(h:ag Z w X.d X.t ev cv)(hf:Sq.jBb K 800000000 X)(Hm:Sq.jAx X.d X.t<=900)(ht:bk tb w tr)(hr:Sq.aS K tr)(hT:Tbl w)(hL:Low tb)(hZ:∀g,w.heap.size<=g->¬Z g)(Hn:jGA (aL X h7 tr).1) :
  Calls Tryz.prog 43 #[.agg (ae X.head ev cv).toArray,.string h7,.pointer (some ⟨tb,0,none⟩)] w (jEv Z tb (bI X h7 tr) w):=by
 obtain⟨⟨e1,e2,e3,Hi⟩,k1,k2,k3,Hh⟩:=h.aG;subst Hi Hh;have hS:tb<=w.heap.size:=cQ ht.lt;have hO:=Sq.jKO hf.t hr h7;have hu:∀w',ag (fun g=>Z g\/g=w.heap.size+1) w' X.d X.t (.slice e1 e2 e3) (.slice k1 k2 k3)->bk tb w' tr->Tbl w'->Calls Tryz.prog 53 #[.agg (ae X.head (.slice e1 e2 e3) (.slice k1 k2 k3)).toArray,.string h7,.pointer (some ⟨tb,0,none⟩)] w' (jE6 tb (aL X h7 tr) w'):=fun w' hn Hj Hv=>jZQ K (by omega) X _ _ h7 tb tr w' hn hf Hm Hj hr Hv hL
 have hp:∀w' h9 pv kv,ag (fun g=>Z g\/g=w.heap.size+1) w' X.d X.t (.slice e1 e2 e3) (.slice k1 k2 k3)->bk tb w' (aL X h7 tr).2->jBx w' (aL X h7 tr).1 h9 pv kv->w.heap.size+1<w'.heap.size->Calls Tryz.prog 54 #[.agg (ae X.head (.slice e1 e2 e3) (.slice k1 k2 k3)).toArray,.agg (az (aL X h7 tr).1 h9 pv kv),.pointer (some ⟨tb,0,none⟩)] w' (jA7 (fun g=>Z g\/g=w.heap.size+1) tb (jBU (aL X h7 tr).1 (X,(aL X h7 tr).2)) w'):=fun w' h9 pv kv hn Hj ho hs=>jZ9 K Hu hK X _ _ _ h9 pv kv tb _ w' hn hf Hj hO (fun g hg hz=>by rcases hz with hz | hz;exact hZ g (by omega) hz;omega) ho Hn
 have hE:bI X h7 tr=((aL X h7 tr).1.jAP,jBU (aL X h7 tr).1 (X,(aL X h7 tr).2)):=rfl;have hN:ag (fun g=>Z g\/g=w.heap.size+1) w X.d X.t (.slice e1 e2 e3) (.slice k1 k2 k3):=h.more (by omega);generalize jBU (aL X h7 tr).1 (X,(aL X h7 tr).2)=Y at *;obtain⟨⟨o,HC⟩,ho⟩:∃x,x=aL X h7 tr:=⟨_,rfl⟩;rw[<-ho] at hu hp hE;rw[hE];simp only at hp ⊢;generalize X.head=hh at *;rw[jQc] at hu hp ⊢;have hI:=hd hu;have hH:=hd hp;have HN:=hd hN;have hR:=hd ht;have HT:=hd hT;have HL:=hd hL;clear hu hp hE hN h ht hT hL ho hr hO hf Hm Hn hZ;obtain⟨W,hW⟩:∃W:World,W=((w.alloc (.cells #[.bool hh.inner,.slice e1 e2 e3,.slice k1 k2 k3,.int .i64 hh.least,.int .i64 hh.rows,.string hh.sl,.int .i64 hh.num] 60)).alloc (.cells #[.bool false,.slice none 0 0,.slice none 0 0,.int .i64 0,.int .i64 0,.string ⟨#[]⟩,.int .i64 0] 60)).alloc (.cells #[.bool hh.inner,.slice e1 e2 e3,.slice k1 k2 k3,.int .i64 hh.least,.int .i64 hh.rows,.string hh.sl,.int .i64 hh.num] 91):=⟨_,rfl⟩;obtain⟨Hl,Hw,Hk,Hg⟩:=jQU hW;have h5:=jQe Hg;have hj:=hd Hl;have hv:=hd Hk;have hw:=hd Hg;clear Hl Hw Hk Hg;go_enter Tryz.func43,Tryz.ntmps43;go_wp2_with fail;rw[<-hW];clear hW;refine(hI.o _ (HN.o.below hj.o) (hR.o.below hj.o) (HT.o.below hj.o)).mono ?_;rintro e w1 ⟨Hy,HB,HA,rfl,h8,Hf,Hc⟩;simp only at h8 Hf ⊢;obtain⟨Hp,Ho,rfl⟩:=jQa h8.cols.1;obtain⟨Hr,Hq,rfl⟩:=h8.puts.slice;obtain⟨Ht,Hs,rfl⟩:=jQa h8.cuts;have he:aA tb w w1:=(aA.of hj.o hS).trans Hc;have hq:=(Hc.bC _ _ _ _ hv.o (by decide) (by decide)).trans hv.o;have hF:=(Hc.bC _ _ _ _ hw.o (by decide) (by decide)).trans hw.o;have h2:=jQe hF;have h1:=Hf.lt;unfold az;obtain⟨V,hV⟩:∃V:World,V=w1.alloc (.cells #[.string o.jAP,.bool o.makes,.int .i64 o.tab.number,.string o.tab.name,.slice Hp o.tab.cols.length Ho,.slice Hr o.puts.length Hq,.slice Ht o.cuts.length Hs] 98):=⟨_,rfl⟩;have hc:Below w1.heap.size w1 V:=by rw[hV];exact bA
 have hC:V.heap[w1.heap.size]?=some (.cells #[.string o.jAP,.bool o.makes,.int .i64 o.tab.number,.string o.tab.name,.slice Hp o.tab.cols.length Ho,.slice Hr o.puts.length Hq,.slice Ht o.cuts.length Hs] 98):=by rw[hV];exact jQi _ _
 obtain⟨s0,s1,s2,s3,s4,s5,s6⟩:=jQq hF;have hk:=hd he;have hy:=hd ((hc.block _ (by omega)).trans hq);have HO:=hd (h8.below hc);have hM:=hd (Hf.below hc);have hJ:=hd (((HN.o.bX he).below hc));have hG:=hd hc;have hx:=hd hC;have h4:=hc.size;have hX:=jQe hC;clear h8 Hf Hc he hq hF hc hC hI hj hv hw;go_wp2_with fail;rw[<-hV];clear hV;refine(hH.o _ _ _ _ hJ.o hM.o HO.o (by omega)).mono ?_;rintro e w2 ⟨Hz,Hx,rfl,Hd,He,Hb⟩;obtain⟨⟨a1,a2,a3,Hi⟩,b1,b2,b3,Hh⟩:=Hd.aG;subst Hi Hh;rw[jQc];have hq:=(Hb.bC _ _ _ _ hy.o (by decide) (by decide)).trans hy.o;have hD:=(Hb.bC _ _ _ _ hx.o (by decide) (by decide)).trans hx.o;have hm:aA tb w w2:=hk.o.trans ((aA.of hG.o (by omega)).trans Hb);have h3:=jQe hD;have hU:=He.lt;clear s0 s1 s2 s3 s4 s5 s6 hy hx hk hG HO hM hJ hH HN;obtain⟨Y1,Y2⟩:=Y;simp only at Hd He ⊢;generalize hyh:Y1.head=yh at *;obtain⟨V2,Ha⟩:∃V2:World,V2=w2.alloc (.cells #[.bool yh.inner,.slice a1 a2 a3,.slice b1 b2 b3,.int .i64 yh.least,.int .i64 yh.rows,.string yh.sl,.int .i64 yh.num] 91):=⟨_,rfl⟩;have ha:Below w2.heap.size w2 V2:=by rw[Ha];exact bA
 have hB:V2.heap[w2.heap.size]?=some (.cells #[.bool yh.inner,.slice a1 a2 a3,.slice b1 b2 b3,.int .i64 yh.least,.int .i64 yh.rows,.string yh.sl,.int .i64 yh.num] 91):=by rw[Ha];exact jQi _ _
 have hb:=(ha.block _ (by omega)).trans hq;have hi:=(ha.block _ (by omega)).trans hD;have d0:V2.cell? ⟨w1.heap.size,0,none⟩=some (.string o.jAP):=by rw[jQb hi];rfl
 obtain⟨p0,p1,p2,p3,p4,p5,p6⟩:=jQq hB;obtain⟨g0,g1,g2,g3,g4,g5,g6⟩:=jQq hb;obtain⟨f0,f1,f2,f3,f4,f5,f6⟩:=jQk hb;have h6:=jQe hB;have hY:=jQe hb;have h0:=jQe hi
 have hl:∀U:World,U.heap[w.heap.size+1]?=some (.cells #[.bool false,.slice none 0 0,.slice none 0 0,.int .i64 0,.int .i64 0,.string ⟨#[]⟩,.int .i64 0] 60)->ag (fun g=>Z g\/g=w.heap.size+1) U Y1.d Y1.t (.slice a1 a2 a3) (.slice b1 b2 b3)->bk tb U Y2->aA tb w U->jEv Z tb (o.jAP,Y1,Y2) w (.returned (.tuple #[.string o.jAP,.agg #[.bool yh.inner,.slice a1 a2 a3,.slice b1 b2 b3,.int .i64 yh.least,.int .i64 yh.rows,.string yh.sl,.int .i64 yh.num]])) (bT U (w.heap.size+1) (.bool yh.inner) (.slice a1 a2 a3) (.slice b1 b2 b3) (.int .i64 yh.least) (.int .i64 yh.rows) (.string yh.sl) (.int .i64 yh.num)):=by
  intro U u1 u2 u3 u4;refine⟨.slice a1 a2 a3,.slice b1 b2 b3,by simp only[hyh,jQc],?_,jYM u3 u1 _ _ _ _ _ _ _,u4.bT (by omega) (by omega) _ _ _ _ _ _ _⟩;refine ag.less (Z:=fun g=>Z g\/g=w.heap.size+1) (fun g hg=>Or.inl hg) ?_;exact ag.skip u2 (Or.inr rfl) u1 (fun g hg=>jQl _ _ _ _ _ _ _ _ _ hg)
 have hA:=hl V2 hb (Hd.below ha) (He.below ha) (hm.trans (aA.of ha (by omega)));have hQ:=hd hA;have hP:=hd (hA.drew);clear hA hl Hd He Hb hq hD hm ha hB hb hi hyh;go_wp2;rw[<-Ha];clear Ha
 go_region_with fail
 all_goals(try go_wp2_with fail)
 all_goals refine cp (v:=.tuple #[.string o.jAP,.agg #[.bool yh.inner,.slice a1 a2 a3,.slice b1 b2 b3,.int .i64 yh.least,.int .i64 yh.rows,.string yh.sl,.int .i64 yh.num]]) (by simp[results,Tryz.results43,go_sem, *]) rfl ?_
 all_goals(first | exact hP.o | exact hQ.o)
end
namespace Sq
theorem jTz:∀{cols:List Col} {row:List Val} {k:Nat} {c:Col},typed cols row->cols[k]?=some c->∃v,row[k]?=some v/\v.kind=c.kind/\aI v
 | [],_,k,c,_,h=>by simp at h
 | _::_,[],_,_,ht,_=>by unfold typed at ht;exact ht.elim
 | x::q,v::r,0,c,ht,h=>by
  unfold typed at ht;simp at h;subst h;exact⟨v,rfl,ht.1⟩
 | x::q,v::r,k+1,c,ht,h=>by
  unfold typed at ht;exact jTz (k:=k) ht.2 (by simpa using h)
theorem jSC:∀{cols:List Col} {row:List Val} {k:Nat} {c:Col} {v:Val},typed cols row->cols[k]?=some c->v.kind=c.kind->aI v->typed cols (row.set k v)
 | [],_,k,c,_,_,h,_,_=>by simp at h
 | _::_,[],_,_,_,ht,_,_,_=>by unfold typed at ht;exact ht.elim
 | x::q,u::r,0,c,v,ht,h,h1,h2=>by
  unfold typed at ht;simp at h;subst h;rw[List.set_cons_zero];unfold typed;exact⟨⟨h1,h2⟩,ht.2⟩
 | x::q,u::r,k+1,c,v,ht,h,h1,h2=>by
  unfold typed at ht;rw[List.set_cons_succ];unfold typed;exact⟨ht.1,jSC (k:=k) ht.2 (by simpa using h) h1 h2⟩
theorem jTy:∀{cols:List Col} {ax:List Val},ax.length=cols.length->jAc ax cols=0->(∀v∈ax,aI v)->typed cols ax
 | [],[],_,_,_=>by unfold typed;trivial
 | [],_::_,h,_,_=>by simp at h
 | _::_,[],h,_,_=>by simp at h
 | c::q,v::r,h,hc,hg=>by
  rw[jAc] at hc
  split at hc
  ·simp at hc
  rename_i hk;unfold typed;exact⟨⟨by simpa using hk,hg v (by simp)⟩,jTy (by simpa using h) hc fun x hx=>hg x (by simp[hx])⟩
theorem jMD {cols:List Col}{ax:List Val}(h:jAm cols ax=0)(hg:∀v∈ax,aI v):typed cols ax:=by
 unfold jAm at h
 split at h
 ·simp at h
 rename_i hl;exact jTy (by simpa using hl) h hg
theorem jZt {cols:List Col}{row:List Val}{t:Term}(ht:typed cols row)(hl:aI t.lit)(hk:(kindOf cols t).2=true):(valueOf cols row t).kind=(kindOf cols t).1/\aI (valueOf cols row t):=by
 unfold kindOf at hk ⊢;unfold valueOf
 split
 ·rename_i h1;exact⟨rfl,hl⟩
 rename_i h1;rw[cy h1] at hk;rcases jK3 cols t.column with h2 | ⟨k,hlt,h2⟩
 ·rw[jPg cols _ h2] at hk;simp at hk
 rw[jPb cols _ k hlt h2];obtain⟨v,hv,hb,ha⟩:=jTz ht (cz hlt);unfold cellOf;rw[h2,cy (by omega),cC,hv];exact⟨hb,ha⟩
theorem jYc {cols:List Col}{row:List Val}{s:bE}{target:Int}(ht:typed cols row)(hl:aI s.first.lit)(hc:jB6 cols target s=0)(hk:jED target)(hr:(result cols row s).2=true):(result cols row s).1.kind=target/\aI (result cols row s).1:=by
 unfold jB6 at hc
 split at hc
 ·simp at hc
 rename_i h1
 split at hc
 ·simp at hc
 rename_i h2;have hb:(kindOf cols s.first).2=true:=by simpa using h1
 have ha:(kindOf cols s.first).1=target:=by simpa using h2
 have hv:=jZt ht hl hb
 split at hc
 ·rename_i h3;unfold result;rw[cE h3];exact⟨hv.1.trans ha,hv.2⟩
 rename_i h3
 split at hc
 ·simp at hc
 split at hc
 ·simp at hc
 rename_i h5
 have h6:target=0:=by
  rcases hk with hk | hk
  ·exact hk
  rw[ha,hk] at h5;simp at h5
 unfold result at hr ⊢;rw[cy h3] at hr ⊢
 split
 ·rename_i h7;rw[cE h7] at hr;simp at hr
 rename_i h7;rw[cy h7] at hr
 split
 ·rename_i h8;rw[cE h8] at hr;simp at hr
 refine⟨h6.symm,Or.inl ⟨rfl,?_,?_,rfl⟩⟩
 ·show _<=numOf _ _ _;omega
 show numOf _ _ _<=_;omega
def jKo (cols:List Col)(s:bE):Prop:=∃k c,find cols s.column=((k+1:Nat):Int)/\cols[k+1]?=some c/\jB6 cols c.kind s=0
theorem jXL {cols:List Col}{e:List bE}{s:bE}(h:jA2 cols e s=0):jKo cols s:=by
 unfold jA2 at h
 split at h
 ·rename_i c hc
  split at h
  ·simp at h
  rename_i h1
  split at h
  ·simp at h
  rename_i h2
  split at h
  ·simp at h
  have ha:find cols s.column≠0:=by simpa using h2
  obtain⟨k,hk⟩:∃k,(find cols s.column).toNat=k+1:=⟨(find cols s.column).toNat-1,by omega⟩;refine⟨k,c,by omega,by rw[hk] at hc;exact hc,h⟩
 simp at h
theorem jPr {cols:List Col}:∀{ak e:List bE},jAj cols e ak=0->∀s∈ak,jKo cols s
 | [],_,_,s,hs=>by simp at hs
 | x::r,e,h,s,hs=>by
  rw[jAj] at h
  split at h
  ·rename_i hx;rw[h] at hx;simp at hx
  rename_i hx;rcases List.mem_cons.1 hs with rfl | hs
  ·exact jXL (e:=e) (by simpa using hx)
  exact jPr h s hs
theorem jPG {cols:List Col}(hk:∀c∈cols,jED c.kind){ha:List Val}(ho:typed cols ha):∀{ak:List bE} {row:List Val},(∀s∈ak,aI s.first.lit/\jKo cols s)->typed cols row->(jAn cols ha ak row).2=true->typed cols (jAn cols ha ak row).1
 | [],row,_,h,_=>h
 | s::r,row,hs,h,h4=>by
  rw[jAn] at h4 ⊢
  split
  ·rename_i hr;rw[cE hr] at h4;refine jPG hk ho (fun x hx=>hs x (by simp[hx])) ?_ h4;obtain⟨hl,k,c,h1,h2,h3⟩:=hs s (by simp);unfold jAA;rw[h1,cy (by omega),cC]
   have:=jYc ho hl h3 (hk c (cA h2)) hr
   exact jSC h h2 this.1 this.2
  rename_i hr;rw[cy hr] at h4;simp at h4
structure jC1 (db:List Tab):Prop where
 g:bV db
 names:∀t∈db,jD1 t.name
 cols:∀t∈db,jCC t.cols
 two:∀t∈db,jEe t.cols=false
 typed:∀t∈db,∀r∈t.rows,typed t.cols r
theorem qAp:jC1 []:=⟨qCo,by simp,by simp,by simp,by simp⟩
structure jGm (db:List Tab)(o:Out):Prop where
 make:o.makes=true->jD1 o.name/\jCC o.cols/\jEe o.cols=false/\o.puts=[]/\o.cuts=[]
 puts:∀p∈o.puts,∃k t,o.table=((k:Nat):Int)/\db[k]?=some t/\Sq.typed t.cols p
theorem jYj {db:List Tab}(h:jC1 db){o:Out}(hg:bV (apply db o))(ho:jGm db o):jC1 (apply db o):=by
 have key:∀t∈apply db o,(∃u∈db,t.name=u.name/\t.cols=u.cols/\∀r∈t.rows,Sq.typed t.cols r)\/(jD1 t.name/\jCC t.cols/\jEe t.cols=false/\∀r∈t.rows,Sq.typed t.cols r):=by
  intro t ht;unfold apply made at ht;cases hm:o.makes with
  | true =>
   obtain⟨h1,h2,h3,h4,h5⟩:=ho.make hm;rw[hm,h4,h5] at ht;simp only[dT] at ht;have e:(aZ (db++[⟨o.name,o.cols,[]⟩]) o.table.toNat (jDN [] (jDa [] (jDb (db++[⟨o.name,o.cols,[]⟩]) o.table.toNat))))=db++[⟨o.name,o.cols,[]⟩]:=jH3 _ _;rw[e] at ht;rcases List.mem_append.1 ht with ht | ht
   ·exact Or.inl ⟨t,ht,rfl,rfl,h.typed t ht⟩
   simp at ht;subst ht;exact Or.inr ⟨h1,h2,h3,by simp⟩
  | false =>
   rw[hm] at ht;simp only[dr,eD] at ht
   left
   by_cases hk:o.table.toNat<db.length
   ·rw[jHZ db _ hk] at ht;rcases List.mem_or_eq_of_mem_set ht with ht | rfl
    ·exact⟨t,ht,rfl,rfl,h.typed t ht⟩
    refine⟨db[o.table.toNat],cJ hk,rfl,rfl,?_⟩;intro r hr;have hr:=jMZ _ hr;rcases jM0 _ hr with hr | hr
    ·obtain⟨k,t,h1,h2,h3⟩:=ho.puts r hr;have e:o.table.toNat=k:=by omega
     obtain⟨ha,e2⟩:=List.getElem?_eq_some_iff.1 h2;subst e e2;exact h3
    rw[jH5 db _ hk] at hr;exact h.typed _ (cJ hk) r hr
   have e:∀x,aZ db o.table.toNat x=db:=fun x=>by
    unfold aZ;rw[dt (by omega)]
   rw[e] at ht;exact⟨t,ht,rfl,rfl,h.typed t ht⟩
 refine⟨hg,fun t ht=>?_,fun t ht=>?_,fun t ht=>?_,fun t ht=>?_⟩
 ·rcases key t ht with⟨u,hu,h1,h2,h3⟩ | ⟨h1,h2,h3,h4⟩
  ·rw[h1];exact h.names u hu
  exact h1
 ·rcases key t ht with⟨u,hu,h1,h2,h3⟩ | ⟨h1,h2,h3,h4⟩
  ·rw[h2];exact h.cols u hu
  exact h2
 ·rcases key t ht with⟨u,hu,h1,h2,h3⟩ | ⟨h1,h2,h3,h4⟩
  ·rw[h2];exact h.two u hu
  exact h3
 rcases key t ht with⟨u,hu,h1,h2,h3⟩ | ⟨h1,h2,h3,h4⟩
 ·exact h3
 exact h4
theorem jQD (db:List Tab)(n:Int):jGm db (refused n):=⟨fun h=>by simp[refused] at h,fun p hp=>by simp[refused] at hp⟩
theorem jS8 {db:List Tab}(h:jC1 db){t:Tab}(ht:db[k]?=some t)(st:PSt)(n:Nat)(hj:aY aI n st):jGm db (jC4 db t k st):=by
 have hf:=cA ht;have he:=h.cols t hf;unfold jC4
 split
 ·exact jQD _ _
 rename_i hc;have hb:=jLi _ _ (by simpa using hc);unfold jA1 at hb
 split
 ·rename_i ha;rw[cE ha] at hb;unfold Sq.insert
  split
  ·exact jQD _ _
  split
  ·exact jQD _ _
  refine⟨fun hm=>by simp at hm,fun p hp=>?_⟩;simp at hp;subst hp;exact⟨k,t,rfl,ht,jMD hb hj.ax⟩
 rename_i ha;rw[cy ha] at hb
 split
 ·rename_i hk;rw[cE hk] at hb;unfold Sq.update;cases hu:jAd t.cols st.ak (jCw t st.aq) [] with
  | none=>exact jQD _ _
  | some puts =>
   unfold jHf;refine⟨fun hm=>by simp at hm,fun p hp=>⟨k,t,rfl,ht,?_⟩⟩;rcases jMz _ _ _ _ _ hu p hp with h1 | ⟨r,hr,h2,rfl⟩
   ·simp at h1
   have hh:r∈t.rows:=(List.mem_filter.1 hr).1;have hg:=h.typed t hf r hh;unfold assigned at h2 ⊢;exact jPG (fun c hc=>(he.each c hc).2) hg (fun s hs=>⟨(hj.ak s hs).1,jPr hb s hs⟩) hg h2
 split
 ·unfold Sq.remove;exact⟨fun hm=>by simp at hm,fun p hp=>by simp at hp⟩
 exact⟨fun hm=>by simp at hm,fun p hp=>by simp at hp⟩
theorem jPs {db:List Tab}(h:jC1 db)(hf:BA):jGm db (Sq.decide db hf):=by
 unfold Sq.decide
 split
 ·exact jQD _ _
 rename_i h0;have hc:(parse hf).1=0:=by simpa using h0
 unfold jEX
 split
 ·rename_i ha;have hb:(parse hf).2.act=1:=by simpa using ha
  have hm:=jRO hf hc hb;have hh:=jM1 hf hb;unfold create
  split
  ·exact jQD _ _
  split
  ·exact jQD _ _
  split
  ·exact jQD _ _
  split
  ·exact jQD _ _
  split
  ·exact jQD _ _
  rename_i h1 h2 h3 h4 h5;exact⟨fun _=>⟨hm.1,⟨by show(parse hf).2.cols.length<=4;omega,hh,hm.2⟩,by simpa using h3,rfl,rfl⟩,fun p hp=>by simp at hp⟩
 split
 ·rename_i t hx
  split
  ·exact jQD _ _
  rename_i h1;obtain⟨k,hk⟩:=cU (show 0<=jDd db (parse hf).2.table by omega);rw[hk] at hx ⊢;rw[cC] at hx;exact jS8 h hx _ 163 (jJY hf).1
 exact jQD _ _
theorem jYk {db:List Tab}(h:jC1 db)(ha:BA):jC1 (after db ha):=jYj h (jZl h.g ha) (jPs h ha)
end Sq
namespace Sq
theorem jNd (lo hi:Int)(g:Nd n->Trl->List Ent×Trl)(hg:∀c x tr,rep n c x->(g c tr).2.lost=tr.lost):∀{l:List (Nd n)} {cs:List (List (Kid n))},bM n l cs->∀y,(jBd (aa n) g lo hi l y).2.lost=y.2.lost
 | [],[],_,y=>rfl
 | [],x::cs,h,_=>by have:=h.len;simp at this
 | c::l,[],h,_=>by have:=h.len;simp at this
 | c::l,x::cs,h,y=>by
  obtain⟨h1,h2⟩:=bM.cons.1 h;rw[jBd]
  split
  ·rw[jNd lo hi g hg h2];exact hg c x _ h1
  rw[jNd lo hi g hg h2]
theorem jSF:∀(n:Nat) (t:Nd n) (x:List (Kid n)) (lo hi:Int) (tr:Trl),rep n t x->(jAW n t lo hi tr).2.lost=tr.lost
 | 0,t,x,lo,hi,tr,h=>by
  obtain⟨h1,h2,h3⟩:=rep.leaf h;have ho:=h.open
  show(jBJ _ _ t lo hi tr).2.lost=_
  unfold jBJ;rw[h3,jBd];exact jJR ho
 | n+1,t,x,lo,hi,tr,h=>by
  obtain⟨h1,h2,h3⟩:=rep.inner h;have ho:=h.open
  show(jBJ (aa n) (jAW n) t lo hi tr).2.lost=_
  unfold jBJ;rw[jNd lo hi _ (fun c y tr hr=>jSF n c y lo hi tr hr) h3];exact jJR ho
theorem jT8:∀(n:Nat) (t:Nd n) (x:List (Kid n)) (p:Int) (tr:Trl),rep n t x->(jDq n t p tr).2.lost=tr.lost
 | 0,t,x,p,tr,h=>by
  obtain⟨h1,h2,-⟩:=rep.leaf h;have ho:=h.open
  show(jCK _ _ t p tr).2.lost=_
  unfold jCK;rw[h1];exact jJR ho
 | n+1,t,x,p,tr,h=>by
  obtain⟨h1,-,h3⟩:=rep.inner h;have ho:=h.open
  show(jCK (aa n) (jDq n) t p tr).2.lost=_
  unfold jCK;rw[h1];simp only[dT];cases hc:t.kids[bU (aa n) t.kids p]? with
  | none=>exact jJR ho
  | some c =>
   obtain⟨y,hy,hr⟩:=h3.at hc;exact(jT8 n c y p _ hr).trans (jJR ho)
structure jAv (X:aj)(db:List Tab):Prop where
 at_:∃x,jCo X x/\x.ok/\x.full/\x.av=jBL db
theorem jMi:jAv jBX []:=⟨⟨jIv,jVB,qBc,jOS,rfl⟩⟩
theorem jAv.jE4 {X:aj}{db:List Tab}(h:jAv X db)(lo hi:Int)(tr:Trl):(X.jE4 lo hi tr).1=(jBL db).filter (inside lo hi)/\(X.jE4 lo hi tr).2.lost=tr.lost:=by
 obtain⟨x,h1,h2,-,h4⟩:=h.at_;refine⟨?_,?_⟩
 ·rw[h1.jE4 lo hi tr,<-h4];exact jUQ x.d x.t lo hi h2.kids h2.sorted
 obtain⟨n,t,y,rfl,rfl,hr⟩:=h1.cases;exact jSF n t y lo hi tr hr
theorem jAv.has {X:aj}{db:List Tab}(h:jAv X db)(p:Int)(tr:Trl):(X.has p tr).1=((jBL db).any fun x=>x.place==p)/\(X.has p tr).2.lost=tr.lost:=by
 obtain⟨x,h1,h2,-,h4⟩:=h.at_;refine⟨?_,?_⟩
 ·rw[h1.has p tr,<-h4];exact jVc x.d x.t p h2.kids h2.ne h2.sorted
 obtain⟨n,t,y,rfl,rfl,hr⟩:=h1.cases;exact jT8 n t y p tr hr
theorem jAv.size {X:aj}{db:List Tab}(h:jAv X db):X.head.rows=(jDO db:Nat):=by
 obtain⟨x,h1,h2,-,h4⟩:=h.at_;have e:=jSP db;obtain⟨n,t,y,rfl,rfl,hr⟩:=h1.cases;have h5:=hr.head.2.2.1
 show(aa n t).rows=_
 have h6:av n y=jBL db:=h4;rw[h5,h6,e]
theorem jAv.put {X:aj}{db ha:List Tab}(h:jAv X db)(e:Ent)(tr:Trl)(he:ins (jBL db) e=jBL ha):jAv (X.put e tr).1 ha:=by
 obtain⟨x,h1,h2,h3,h4⟩:=h.at_
 have:=qA6 h2 e
 exact⟨⟨x.put e,h1.put h2 e tr,this.1,h3.put e,by rw[this.2,h4,he]⟩⟩
theorem jAv.del {X:aj}{db ha:List Tab}(h:jAv X db)(p:Int)(tr:Trl)(he:(jBL db).filter (fun y=>y.place != p)=jBL ha):jAv (X.del p tr).1 ha:=by
 obtain⟨x,h1,h2,h3,h4⟩:=h.at_
 have:=qBG h2 p
 exact⟨⟨x.del p,h1.del p tr,this.1,h3.del p,by rw[this.2,h4,he]⟩⟩
theorem jAv.ay {X:aj}{db:List Tab}(h:jAv X db):jAv X.ay db:=by
 obtain⟨x,h1,h2⟩:=h.at_;exact⟨⟨x,h1.ay,h2⟩⟩
def jEd:Nat->List Tab->List bQ
 | _,[]=>[]
 | i,t::q=>⟨(i:Int),t.name,t.cols⟩::jEd (i+1) q
theorem jSK:∀(i:Nat) (db:List Tab),(jEd i db).length=db.length
 | _,[]=>rfl
 | i,t::q=>by rw[jEd,cG,jSK,cG]
theorem qAB {t:Tab}(h1:1<=i)(h5:i<=5)(hn:jD1 t.name)(hc:jCC t.cols):jBI (jCF i t)=some ⟨(i:Int),t.name,t.cols⟩:=by
 unfold jBI jIu jCF;simp only;rw[jYN hn hc,jRh 0 i (by omega) (by omega)];simp only[Option.map_some,dM];rw[cE ⟨by omega,by omega⟩]
theorem jTS:∀{db:List Tab} {i:Nat},1<=i->i+db.length<=6->(∀t∈db,jD1 t.name)->(∀t∈db,jCC t.cols)->(jEK i db).filterMap jBI=jEd i db/\((jEK i db).any fun e=>(jBI e).isNone)=false
 | [],_,_,_,_,_=>⟨rfl,rfl⟩
 | t::q,i,h1,h5,hn,hc=>by
  rw[cG] at h5;have h:=qAB h1 (by omega) (hn t (by simp)) (hc t (by simp));have ih:=jTS (db:=q) (i:=i+1) (by omega) (by omega) (fun x hx=>hn x (by simp[hx])) (fun x hx=>hc x (by simp[hx]));rw[jEK,List.filterMap_cons,h,jEd,List.any_cons,h,ih.1,ih.2];exact⟨rfl,rfl⟩
theorem jRw (tr:Trl):jBh false tr=tr:=by
 unfold jBh;simp
theorem qBh {X:aj}{db:List Tab}(h:jAv X db)(hd:jC1 db)(tr:Trl):(bH X tr).1=jEd 1 db/\(bH X tr).2.lost=tr.lost:=by
 have h1:=h.jE4 (placeOf 0 (-2147483648)) (placeOf 0 2147483647) tr;rw[qBP hd.g.laid] at h1;have hf:=hd.g.few;have h2:=jTS (db:=db) (i:=1) (by omega) (by omega) hd.names hd.cols;unfold bH;rw[h1.1,h2.1,h2.2,jRw];exact⟨rfl,h1.2⟩
theorem jND (n:BA):∀(db:List Tab) (i:Nat) (j:Int),0<=j->(jCI n db j=-1/\jBE n (jEd i db)=none)\/∃k t,jCI n db j=j+((k:Nat):Int)/\db[k]?=some t/\jBE n (jEd i db)=some ⟨((i+k:Nat):Int),t.name,t.cols⟩
 | [],_,_,_=>Or.inl ⟨rfl,rfl⟩
 | t::q,i,j,hj=>by
  rw[jCI,jEd,jBE]
  split
  ·rename_i h;exact Or.inr ⟨0,t,by omega,rfl,rfl⟩
  rename_i h;rcases jND n q (i+1) (j+1) (by omega) with h1 | ⟨k,u,h1,h2,h3⟩
  ·exact Or.inl h1
  refine Or.inr ⟨k+1,u,by omega,by simpa using h2,?_⟩;rw[h3,show i+1+k=i+(k+1) by omega]
theorem jTl:∀(db:List Tab) (i:Nat),jCi (i:Int) (jEd (i+1) db)=((i+db.length:Nat):Int)
 | [],i=>rfl
 | t::q,i=>by
  have ih:=jTl q (i+1);unfold jCi at ih ⊢;rw[jEd,de];simp only;rw[cE (by omega),ih,cG,show i+1+q.length=i+(q.length+1) by omega]
theorem qAP {cols:List Col}{r:List Val}(hc:jCC cols)(ht:typed cols r)(hk:jEL r):rowOf cols (jBw i r)=some r:=by
 unfold rowOf jBw;simp only;rw[jRh _ _ hk.1 hk.2];exact jYO hc ht
theorem jTG {cols:List Col}{i:Nat}(hc:jCC cols):∀{l:List (List Val)},(∀r∈l,typed cols r/\jEL r)->(l.map (jBw i)).filterMap (rowOf cols)=l/\((l.map (jBw i)).any fun e=>(rowOf cols e).isNone)=false
 | [],_=>⟨rfl,rfl⟩
 | r::l,h=>by
  have h1:=qAP (i:=i) hc (h r (by simp)).1 (h r (by simp)).2;have ih:=jTG (i:=i) hc (l:=l) fun x hx=>h x (by simp[hx])
  rw[cM,List.filterMap_cons,h1,List.any_cons,h1,ih.2];simp only;rw[ih.1];exact⟨rfl,rfl⟩
theorem qA2 {X:aj}{db:List Tab}(h:jAv X db)(hd:jC1 db){t:Tab}(ht:db[k]?=some t){lo hi:Int}(h0:-2147483648<=lo)(h1:lo<=2147483647)(h2:-2147483648<=hi)(h3:hi<=2147483647)(tr:Trl) :
  (jFh X ⟨((1+k:Nat):Int),t.name,t.cols⟩ lo hi tr).1=(t.rows.filter fun r=>Decidable.decide (lo<=keyOf r)&&Decidable.decide (keyOf r<=hi))/\(jFh X ⟨((1+k:Nat):Int),t.name,t.cols⟩ lo hi tr).2.lost=tr.lost:=by
 have ha:=cA ht;have g1:=h.jE4 (placeOf ((1+k:Nat):Int) lo) (placeOf ((1+k:Nat):Int) hi) tr;rw[qBQ hd.g.laid ht h0 h1 h2 h3] at g1;have g2:=jTG (i:=1+k) (hd.cols t ha) (l:=t.rows.filter fun r=>Decidable.decide (lo<=keyOf r)&&Decidable.decide (keyOf r<=hi)) fun r hr=>⟨hd.typed t ha r (List.mem_filter.1 hr).1,hd.g.laid.keys t ha r (List.mem_filter.1 hr).1⟩
 unfold jFh;simp only;rw[g1.1,g2.1,g2.2,jRw];exact⟨rfl,g1.2⟩
theorem jXD {cols:List Col}{r:List Val}(hc:jCC cols)(ht:typed cols r):∃x q,r=⟨0,keyOf r,x⟩::q:=by
 obtain⟨c,q,rfl,hk⟩:=hc.head;cases r with
 | nil=>unfold typed at ht;exact ht.elim
 | cons v r =>
  unfold typed at ht;obtain⟨vk,vn,vt⟩:=v
  have:vk=0:=ht.1.1.trans hk
  subst this;exact⟨vt,r,rfl⟩
theorem jXj {X:aj}{db:List Tab}(h:jAv X db)(hd:jC1 db){t:Tab}(ht:db[k]?=some t){aq:List bd}(hw:jEp aq)(tr:Trl) :
  jFH t.cols (jAe X ⟨((1+k:Nat):Int),t.name,t.cols⟩ aq tr).1 aq=jCw t aq/\(jAe X ⟨((1+k:Nat):Int),t.name,t.cols⟩ aq tr).2.lost=tr.lost:=by
 have ha:=cA ht
 have hc:∀r∈t.rows,meets t.cols r aq=true->inS (jBn t.cols aq) (keyOf r):=by
  intro r hr hm;obtain⟨x,q,e⟩:=jXD (hd.cols t ha) (hd.typed t ha r hr);have hk:=hd.g.laid.keys t ha r hr;rw[e] at hm;exact jYY t.cols aq (keyOf r) x q hk.1 hk.2 hm
 unfold jAe;simp only
 split
 ·rename_i hs;unfold jBZ at hs;simp only[cZ] at hs;have hb:=jS6 t.cols hw hs;have hr:=qA2 h hd ht (lo:=(jBn t.cols aq).lo) (hi:=(jBn t.cols aq).hi) hb.1 (by omega) (by omega) hb.2 tr;refine⟨?_,hr.2⟩;rw[hr.1];unfold jFH jCw;rw[List.filter_filter];refine List.filter_congr fun r hr=>?_
  cases hm:meets t.cols r aq with
  | false=>rfl
  | true =>
   have:=hc r hr hm
   unfold inS at this;simp[this.1,this.2]
 rename_i hs;unfold jBZ at hs;simp only[cZ] at hs;refine⟨?_,rfl⟩;unfold jFH jCw
 symm
 rw[List.filter_nil,List.filter_eq_nil_iff];intro r hr hm
 have:=hc r hr hm
 unfold inS at this;omega
theorem jUW (cols:List Col):∀(l:List Col) (i:Nat),jDH cols l i=false->(l.map fun c=>find cols c.name)=(List.range l.length).map fun k:Nat=>((i+k:Nat):Int)
 | [],_,_=>rfl
 | c::r,i,h=>by
  rw[jDH] at h
  split at h
  ·cases h
  rename_i hf;have ha:find cols c.name=(i:Int):=by simpa using hf
  have ih:=jUW cols r (i+1) h;rw[cM,ha,ih,cG,List.range_succ_eq_map,cM,dG]
  congr 1
  refine List.map_congr_left fun k _=>?_
  show((i+1+k:Nat):Int)=((i+(k+1):Nat):Int)
  congr 1
  omega
theorem jYK {cols:List Col}(h:jEe cols=false):jBr cols (cols.map Col.name)=jDX cols.length:=by
 have:=jUW cols cols 0 h
 unfold jBr jDX;rw[dG];refine Eq.trans this ?_;refine List.map_congr_left fun k _=>?_
 rw[df]
theorem jYD (cols:List Col)(row:List Val)(items:List BA):jA4 row (jBr cols items)=jHb cols row items:=by
 unfold jA4 jHb jBr;rw[dG];rfl
theorem jTi (cols:List Col)(rows:List (List Val))(items:List BA):jBR (jBr cols items) rows=listed cols items rows:=by
 unfold jBR listed
 congr 1
 funext r
 rw[jYD]
theorem qAC (cols:List Col)(rows:List (List Val))(items:List BA):jCx (jBr cols items) rows=jHe cols items rows:=by
 unfold jCx jHe jFs jHK jBr;simp only[dG];rfl
theorem qBy {t:Tab}(h:jEe t.cols=false)(rows:List (List Val))(st:PSt):jEN t.cols rows st=jGq t st rows:=by
 unfold jEN jGq;rw[<-jYK h,jTi,jTi,qAC];rfl
structure jIh (db:List Tab)(o:Out)(p:bY):Prop where
 jAP:p.jAP=o.jAP
 makes:p.makes=o.makes
 tab:o.makes=true->p.tab=⟨(db.length:Int)+1,o.name,o.cols⟩/\o.puts=[]/\o.cuts=[]/\db.length<5
 puts:p.puts=o.puts
 cuts:p.cuts=o.cuts
 place:o.makes=false->(o.puts=[]/\o.cuts=[])\/∃k t,o.table=((k:Nat):Int)/\db[k]?=some t/\p.tab.number=((1+k:Nat):Int)
 qC0:∀r∈o.puts,jEL r
 jVy:∀c∈o.cuts,-2147483648<=c/\c<=2147483647
theorem jQE (db:List Tab)(n:Int):jIh db (refused n) (aE n):=⟨rfl,rfl,fun h=>(by cases h),rfl,rfl,fun _=>Or.inl ⟨rfl,rfl⟩,fun r hr=>(by cases hr),fun c hc=>(by cases hc)⟩
theorem jSD {cols:List Col}{r:List Val}(hc:jCC cols)(ht:typed cols r):jEL r:=by
 obtain⟨c,q,rfl,hk⟩:=hc.head;cases r with
 | nil=>unfold typed at ht;exact ht.elim
 | cons v r =>
  unfold typed at ht;exact jOh ht.1.2
theorem qAa {X:aj}{db:List Tab}(h:jAv X db)(hd:jC1 db){t:Tab}(ht:db[k]?=some t)(st:PSt)(n:Nat)(hn:aY aI n st)(hw:jEp st.aq)(tr:Trl) :
  jIh db (jC4 db t k st) (jAO X ⟨((1+k:Nat):Int),t.name,t.cols⟩ st tr).1/\(jAO X ⟨((1+k:Nat):Int),t.name,t.cols⟩ st tr).2.lost=tr.lost:=by
 have hi:=cA ht;have hf:=hd.cols t hi;have he:=jS8 hd ht st n hn;unfold jC4 at he ⊢;unfold jAO;simp only
 split
 ·exact⟨jQE _ _,rfl⟩
 rename_i hc;rw[cy hc] at he;have hg:=jLi _ _ (by simpa using hc);unfold jA1 at hg
 split
 ·rename_i ha;rw[cE ha] at hg;have hk:=jMD hg hn.ax;have hh:=jSD hf hk;have hb:=h.has (placeOf ((1+k:Nat):Int) (keyOf st.ax)) tr;rw[qCl hd.g.laid ht hh.1 hh.2] at hb;unfold jCR;refine⟨?_,hb.2⟩;simp only;rw[hb.1,h.size];unfold jDe Sq.insert
  split
  ·exact jQE _ _
  split
  ·exact jQE _ _
  refine⟨rfl,rfl,fun hm=>(by cases hm),rfl,rfl,fun _=>Or.inr ⟨k,t,rfl,ht,rfl⟩,fun r hr=>?_,fun c hc=>(by cases hc)⟩;simp at hr;subst hr;exact hh
 rename_i ha;rw[cy ha] at he;have hj:=jXj h hd ht hw tr;refine⟨?_,hj.2⟩;simp only;rw[hj.1];unfold jEx
 split
 ·rename_i h3;rw[cE h3] at he;unfold jCX Sq.update at *;cases hu:jAd t.cols st.ak (jCw t st.aq) [] with
  | none=>exact jQE _ _
  | some puts =>
   rw[hu] at he;refine⟨rfl,rfl,fun hm=>(by cases hm),rfl,rfl,fun _=>Or.inr ⟨k,t,rfl,ht,rfl⟩,fun r hr=>?_,fun c hc=>by cases hc⟩;obtain⟨k',t',e1,e2,e3⟩:=he.puts r hr;exact jSD (hd.cols t' (cA e2)) e3
 split
 ·unfold jEF Sq.remove;refine⟨rfl,rfl,fun hm=>(by cases hm),rfl,rfl,fun _=>Or.inr ⟨k,t,rfl,ht,rfl⟩,fun r hr=>(by cases hr),fun c hc=>?_⟩;obtain⟨r,hr,rfl⟩:=List.mem_map.1 hc;exact hd.g.laid.keys t hi r (List.mem_filter.1 hr).1
 refine⟨?_,rfl,fun hm=>(by cases hm),rfl,rfl,fun _=>Or.inl ⟨rfl,rfl⟩,fun r hr=>(by cases hr),fun c hc=>by cases hc⟩;show jEN t.cols (jCw t st.aq) st=Sq.show t st;rw[qBy (hd.two t hi)];rfl
theorem jRm {X:aj}{db:List Tab}(h:jAv X db)(hd:jC1 db)(hg:BA)(tr:Trl):jIh db (Sq.decide db hg) (aL X hg tr).1/\(aL X hg tr).2.lost=tr.lost:=by
 unfold Sq.decide aL
 split
 ·exact⟨jQE _ _,rfl⟩
 have ha:=qBh h hd tr;unfold jEX jCe;rw[ha.1]
 split
 ·refine⟨?_,ha.2⟩;have hf:=jND (parse hg).2.table db 1 0 (by omega);have hl:=jTl db 0;have hb:=jSK 1 db;unfold create jCP;simp only
  have e1:(jBE (parse hg).2.table (jEd 1 db)).isSome=Decidable.decide (0<=jDd db (parse hg).2.table):=by
   unfold jDd;rcases hf with⟨g1,g2⟩ | ⟨k,u,g1,g2,g3⟩
   ·rw[g1,g2];rfl
   rw[g1,g3];simp
  rw[e1,hb,h.size];simp only[cZ]
  split
  ·exact jQE _ _
  split
  ·exact jQE _ _
  split
  ·exact jQE _ _
  split
  ·exact jQE _ _
  rename_i h4
  by_cases h5:60<=jDO db
  ·rw[cE h5,cE (by omega)];exact jQE _ _
  rw[cy h5,cy (by omega)];refine⟨rfl,rfl,fun _=>⟨?_,rfl,rfl,by omega⟩,rfl,rfl,fun hm=>(by cases hm),fun r hr=>(by cases hr),fun c hc=>(by cases hc)⟩;show bQ.mk (jCi 0 (jEd 1 db)+1) _ _=_;rw[show jCi 0 (jEd 1 db)=((0+db.length:Nat):Int) from hl,df]
 rcases jND (parse hg).2.table db 1 0 (by omega) with⟨g1,g2⟩ | ⟨k,u,g1,g2,g3⟩
 ·have e:jDd db (parse hg).2.table=-1:=g1;rw[g2,e];simp only;refine⟨?_,ha.2⟩
  split
  ·rw[cE (by omega)];exact jQE _ _
  exact jQE _ _
 have e:jDd db (parse hg).2.table=(k:Int):=by
  show jCI _ _ _=_;rw[g1];omega
 rw[g3,e,cC,g2];simp only;rw[cy (by omega)]
 have:=qAa h hd g2 (parse hg).2 163 (jJY hg).1 (jTA hg) (bH X tr).2
 exact⟨this.1,this.2.trans ha.2⟩
theorem jRc:∀{puts:List (List Val)} {x:aj×Trl} {db:List Tab} {t:Tab},jAv x.1 db->jBv db->db[k]?=some t->(∀r∈puts,jEL r)->jAv (jCU ((1+k:Nat):Int) puts x).1 (aZ db k (jDa puts t.rows))/\jBv (aZ db k (jDa puts t.rows))
 | [],x,db,t,h,hl,ht,_=>by
  have e:aZ db k (jDa [] t.rows)=db:=by
   obtain⟨hk,e⟩:=List.getElem?_eq_some_iff.1 ht;show aZ db k t.rows=db
   have:t.rows=jDb db k:=by rw[jH5 db k hk,e]
   rw[this,jH3]
  rw[e];exact⟨h,hl⟩
 | p::q,x,db,t,h,hl,ht,hk=>by
  have h1:=qCs hl ht (hk p (by simp));have h2:=h.put (jBw (1+k) p) x.2 h1.1;have e:(aZ db k (put p t.rows))[k]?=some { t with rows:=put p t.rows }:=(jGy ht _ k).trans (cE rfl);have ih:=jRc (puts:=q) (x:=x.1.put (jBw (1+k) p) x.2) h2 h1.2 e fun r hr=>hk r (by simp[hr])
  rw[jMx] at ih;exact ih
theorem jPR:∀{cuts:List Int} {x:aj×Trl} {db:List Tab} {t:Tab},jAv x.1 db->jBv db->db[k]?=some t->(∀c∈cuts,-2147483648<=c/\c<=2147483647)->jAv (jDz ((1+k:Nat):Int) cuts x).1 (aZ db k (jDN cuts t.rows))/\jBv (aZ db k (jDN cuts t.rows))
 | [],x,db,t,h,hl,ht,_=>by
  have e:aZ db k (jDN [] t.rows)=db:=by
   obtain⟨hk,e⟩:=List.getElem?_eq_some_iff.1 ht;show aZ db k t.rows=db
   have:t.rows=jDb db k:=by rw[jH5 db k hk,e]
   rw[this,jH3]
  rw[e];exact⟨h,hl⟩
 | c::q,x,db,t,h,hl,ht,hk=>by
  have hc:=hk c (by simp);have h1:=qCt hl ht hc.1 hc.2;have h2:=h.del (placeOf ((1+k:Nat):Int) c) x.2 h1.1;have e:(aZ db k (jBq c t.rows))[k]?=some { t with rows:=jBq c t.rows }:=(jGy ht _ k).trans (cE rfl);have ih:=jPR (cuts:=q) (x:=x.1.del (placeOf ((1+k:Nat):Int) c) x.2) h2 h1.2 e fun r hr=>hk r (by simp[hr])
  rw[jMx] at ih;exact ih
theorem jXd {X:aj}{db:List Tab}(h:jAv X db)(hl:jBv db){o:Out}{p:bY}(ha:jIh db o p)(tr:Trl):jAv (jBU p (X,tr)).1 (apply db o):=by
 unfold jBU apply;rw[ha.puts,ha.cuts];cases hm:o.makes with
 | true =>
  obtain⟨h1,h2,h3,h4⟩:=ha.tab hm;have e:made db o=db++[⟨o.name,o.cols,[]⟩]:=by unfold made;rw[hm];rfl
  have e2:jB0 p (X,tr)=X.put ⟨placeOf 0 p.tab.number,jAL p.tab.name p.tab.cols⟩ tr:=by unfold jB0;rw[ha.makes,hm];rfl
  rw[e,h2,h3,e2,h1];have e3:∀a j,aZ a j (jDN [] (jDa [] (jDb a j)))=a:=fun a j=>jH3 a j
  rw[e3];exact h.put _ tr (qBE hl h4 o.name o.cols).1
 | false =>
  have e:made db o=db:=by unfold made;rw[hm];rfl
  have e2:jB0 p (X,tr)=(X,tr):=by unfold jB0;rw[ha.makes,hm];rfl
  rw[e,e2];rcases ha.place hm with⟨h1,h2⟩ | ⟨k,t,h1,h2,h3⟩
  ·rw[h1,h2];have e3:∀a j,aZ a j (jDN [] (jDa [] (jDb a j)))=a:=fun a j=>jH3 a j
   rw[e3];exact h
  rw[h3,h1,cC];obtain⟨hk,et⟩:=List.getElem?_eq_some_iff.1 h2;have er:jDb db k=t.rows:=by rw[jH5 db k hk,et]
  rw[er];have g1:=jRc (puts:=o.puts) (x:=(X,tr)) h hl h2 ha.qC0;have e4:(aZ db k (jDa o.puts t.rows))[k]?=some { t with rows:=jDa o.puts t.rows }:=(jGy h2 _ k).trans (cE rfl);have g2:=jPR (cuts:=o.cuts) (x:=jCU ((1+k:Nat):Int) o.puts (X,tr)) g1.1 g1.2 e4 ha.jVy;rw[jMx] at g2;exact g2.1
theorem jNk {X:aj}{db:List Tab}(h:jAv X db)(hd:jC1 db)(hb:BA)(tr:Trl) :
  (bI X hb tr).1=(Sq.decide db hb).jAP/\jAv (bI X hb tr).2.1 (after db hb)/\(aL X hb tr).2.lost=tr.lost:=by
 have ha:=jRm h hd hb tr;exact⟨ha.1.jAP,jXd h hd.g.laid ha.1 _,ha.2⟩
end Sq
namespace Sq
theorem qCY:∀(l:List UInt8) (a:Int),0<=a->0<=l.foldl (fun n b=>n*256+(b.toNat:Int)) a/\l.foldl (fun n b=>n*256+(b.toNat:Int)) a<(a+1)*256^l.length:=by
 intro l
 induction l with
 | nil=>intro a h;simp;omega
 | cons b l ih =>
  intro a h;have hb:(b.toNat:Int)<256:=by have:=b.toNat_lt;omega
  have h1:=ih (a*256+(b.toNat:Int)) (by omega);rw[de,cG];refine⟨h1.1,Int.lt_of_lt_of_le h1.2 ?_⟩;rw[Int.pow_succ,Int.mul_comm (256^l.length) 256,<-Int.mul_assoc];exact Int.mul_le_mul_of_nonneg_right (by omega) (Int.pow_nonneg (by decide))
theorem jVn (a:Nat):∀b:Nat,(256:Int)^a<=256^(a+b)
 | 0=>dA _
 | b+1=>by
  have h1:=jVn a b;rw[<-Nat.add_assoc,Int.pow_succ];have h2:(0:Int)<=256^(a+b):=Int.pow_nonneg (by decide);omega
theorem jI5 (r:Rd)(k:Nat):(br r (k:Nat)).size<=k:=by
 unfold br
 split
 ·exact zR
 rw[cC,dk];omega
theorem qBe {r:Rd}(h:(takeN r (k:Nat)).short=false):(br r (k:Nat)).size=k:=by
 unfold br;unfold takeN at h
 split at h
 ·cases h
 rename_i hb;rw[cy hb,cC,dk];unfold jBa at hb;simp at hb;omega
theorem jQG (r:Rd)(k:Int):(takeN r k).rest.size<=r.rest.size:=by
 unfold takeN
 split
 ·exact nR
 rw[dk];omega
theorem jHX {r:Rd}(h:(takeN r (k:Nat)).short=false):(takeN r (k:Nat)).rest.size+k<=r.rest.size:=by
 unfold takeN at h ⊢
 split at h
 ·cases h
 rename_i hb;rw[cy hb,dk,cC];unfold jBa at hb;simp at hb;omega
theorem jQF {r:Rd}{k:Int}(h:(takeN r k).short=false):r.short=false:=by
 unfold takeN at h
 split at h
 ·cases h
 exact h
theorem jVv (r:Rd)(k:Nat):0<=aF r (k:Nat)/\aF r (k:Nat)<256^k:=by
 unfold aF big;have h1:=qCY (br r (k:Nat)).data.toList 0 (by decide);have h2:=jI5 r k;have h3:(br r (k:Nat)).data.toList.length=(br r (k:Nat)).size:=dj;refine⟨h1.1,?_⟩;have h4:=h1.2;rw[h3] at h4;obtain⟨d,hd⟩:∃d,k=(br r (k:Nat)).size+d:=⟨k-(br r (k:Nat)).size,by omega⟩;have h5:=jVn (br r (k:Nat)).size d;rw[<-hd] at h5;have h6:(0+1:Int)*256^(br r (k:Nat)).size=256^(br r (k:Nat)).size:=by simp
 omega
theorem jJo (r:Rd):0<=aF r 5/\aF r 5<1099511627776:=by
 have h:=jVv r 5;rw[show((5:Nat):Int)=5 from rfl] at h;exact⟨h.1,by simpa using h.2⟩
theorem jHG (r:Rd):0<=aF r 1/\aF r 1<256:=by
 have h:=jVv r 1;rw[show((1:Nat):Int)=1 from rfl] at h;exact⟨h.1,by simpa using h.2⟩
theorem jZy (r:Rd):(jCG r).rest.size<=r.rest.size:=cm (jQG _ _) (jQG _ _)
theorem jZx {r:Rd}(h:(jCG r).short=false):r.short=false:=jQF (jQF h)
theorem jTP (r:Rd):(jEm r).size<256:=by
 unfold jEm;have h1:=jHG r;obtain⟨k,hk⟩:=cU h1.1;rw[hk];have h2:=jI5 (takeN r 1) k;omega
theorem jSd:∀(k:Nat) (r:Rd),(bN k r).2.rest.size<=r.rest.size
 | 0,_=>nR
 | k+1,r=>cm (jSd k (jCG (takeN r 5))) (cm (jZy _) (jQG _ _))
theorem jK4:∀(k:Nat) {r:Rd},(bN k r).2.short=false->r.short=false
 | 0,_,h=>h
 | k+1,_,h=>jQF (jZx (jK4 k h))
theorem jTZ:∀(k:Nat) (r:Rd),(∀e∈(bN k r).1,jGF e)/\(bN k r).1.length=k
 | 0,r=>⟨(fun e he=>(by cases he)),rfl⟩
 | k+1,r=>by
  obtain⟨h1,h2⟩:=jTZ k (jCG (takeN r 5));refine⟨fun e he=>?_,by show((bN k (jCG (takeN r 5))).1).length+1=k+1;rw[h2]⟩;rcases List.mem_cons.1 he with rfl | he
  ·exact⟨(jJo r).1,(jJo r).2,jTP _⟩
  exact h1 e he
structure Steps {α:Type}(rd:Rd->α×Rd):Prop where
 down:∀r,(rd r).2.rest.size<=r.rest.size
 stay:∀r,(rd r).2.short=false->r.short=false
theorem jOj (f:α->Head)(mk:BA->Int->Int->α)(l r:Int)(c:α×Rd):(jAD f mk l r c).2.rest.size=c.2.rest.size:=by
 unfold jAD jDP
 split
 ·rfl
 split<;>rfl
theorem jOi {f:α->Head}{mk:BA->Int->Int->α}{l r:Int}{c:α×Rd}(h:(jAD f mk l r c).2.short=false):c.2.short=false/\((aw (f c.1)=true/\(jAD f mk l r c).1=mk (f c.1).sl l r)\/(aw (f c.1)=false/\(f c.1).least=l/\(f c.1).rows=r/\(jAD f mk l r c).1=c.1)):=by
 unfold jAD at h ⊢
 split
 ·rename_i h1;rw[cE h1] at h;exact⟨h,Or.inl ⟨h1,rfl⟩⟩
 rename_i h1;rw[cy h1] at h
 split
 ·rename_i h2;rw[cE h2] at h;exact⟨h,Or.inr ⟨by simpa using h1,h2.1,h2.2,rfl⟩⟩
 rename_i h2;rw[cy h2] at h;cases h
theorem jIH {f:α->Head}{mk:BA->Int->Int->α}{rd:Rd->α×Rd}(hr:Steps rd):∀k,Steps (bD f mk rd k)
 | 0=>⟨fun _=>nR,fun _ h=>h⟩
 | k+1=>by
  have ih:=jIH (f:=f) (mk:=mk) hr k;refine⟨fun r=>?_,fun r h=>?_⟩
  ·show(bD f mk rd k (jAD f mk (aF r 5) (aF (takeN r 5) 1) (rd (takeN (takeN r 5) 1))).2).2.rest.size<=_
   refine cm (ih.down _) ?_;rw[jOj];exact cm (hr.down _) (cm (jQG _ _) (jQG _ _))
  have h1:(bD f mk rd k (jAD f mk (aF r 5) (aF (takeN r 5) 1) (rd (takeN (takeN r 5) 1))).2).2.short=false:=h;exact jQF (jQF (hr.stay _ (jOi (ih.stay _ h1)).1))
theorem jXr {wide:Nat}{f:α->Head}{mk:BA->Int->Int->α}{rd:Rd->α×Rd}(hr:Steps rd):Steps (jBc wide f mk rd):=by
 refine⟨fun r=>?_,fun r h=>?_⟩
 ·unfold jBc
  split
  ·exact cm (jQG _ _) (jQG _ _)
  split
  ·exact cm (jSd _ _) (cm (jQG _ _) (jQG _ _))
  split
  ·exact cm ((jIH hr _).down _) (cm (jQG _ _) (jQG _ _))
  exact jQG _ _
 unfold jBc at h
 split at h
 ·exact jQF (jQF h)
 split at h
 ·exact jQF (jQF (jK4 _ h))
 split at h
 ·exact jQF (jQF ((jIH hr _).stay _ h))
 cases h
theorem jMO (wide:Nat):∀n,Steps (aN wide n)
 | 0=>⟨fun _=>cm (jQG _ _) (jQG _ _),fun _ h=>jQF (jQF h)⟩
 | n+1=>jXr (jMO wide n)
def jKp {α:Type}(wide:Nat)(f:α->Head)(G:α->Prop)(p:af α):Prop :=
 (p.hd.sl.size=wide/\p.hd.inner=false/\p.av=[]/\p.kids=[])\/(p=bB p.av/\(∀e∈p.av,jGF e)/\p.av.length<256) \/
 (p=aV f p.kids/\p.kids.length<256/\∀c∈p.kids,G c/\0<=(f c).least/\(f c).least<1099511627776/\0<=(f c).rows/\(f c).rows<256)
def okP (wide:Nat):(n:Nat)->Nd n->Prop
 | 0,p=>jKp wide (fun e:Empty=>e.elim) (fun _=>True) p
 | n+1,p=>jKp wide (aa n) (okP wide n) p
theorem qB8 {wide:Nat}:∀(n:Nat) (sl:BA) (l r:Int),sl.size=wide->okP wide n (bg n sl l r)
 | 0,_,_,_,h=>Or.inl ⟨h,rfl,rfl,rfl⟩
 | _+1,_,_,_,h=>Or.inl ⟨h,rfl,rfl,rfl⟩
theorem jU6 {wide:Nat}{f:α->Head}{G:α->Prop}{p:af α}(h:jKp wide f G p)(hs:aw p.hd=true):p.hd.sl.size=wide:=by
 rcases h with h | h | h
 ·exact h.1
 ·exfalso
  rw[h.1,jH7] at hs;cases hs
 exfalso
 rw[h.1,jH0] at hs;cases hs
theorem jVu {wide:Nat}:∀{n:Nat} {p:Nd n},okP wide n p->aw (aa n p)=true->(aa n p).sl.size=wide
 | 0,_,h,hs=>jU6 h hs
 | _+1,_,h,hs=>jU6 h hs
theorem jT3 {f:α->Head}{mk:BA->Int->Int->α}{rd:Rd->α×Rd}(hf:Steps rd){N:Nat}{G:α->Prop}(hh:∀s l r,(f (mk s l r)).least=l/\(f (mk s l r)).rows=r)(hG:∀a l r,G a->aw (f a)=true->G (mk (f a).sl l r))
  (hj:∀r,r.rest.size<=N->(rd r).2.short=false->G (rd r).1):∀(k:Nat) (r:Rd),r.rest.size<=N->(bD f mk rd k r).2.short=false ->
  (bD f mk rd k r).1.length=k/\∀c∈(bD f mk rd k r).1,G c/\0<=(f c).least/\(f c).least<1099511627776/\0<=(f c).rows/\(f c).rows<256
 | 0,r,_,_=>⟨rfl,fun c hc=>by cases hc⟩
 | k+1,r,hN,h=>by
  have h0:(bD f mk rd k (jAD f mk (aF r 5) (aF (takeN r 5) 1) (rd (takeN (takeN r 5) 1))).2).2.short=false:=h;have ha:(takeN (takeN r 5) 1).rest.size<=N:=cm (jQG _ _) (cm (jQG _ _) hN);have hb:=(jIH (f:=f) (mk:=mk) hf k).stay _ h0;obtain⟨h1,h2⟩:=jOi hb;have hg:=hj _ ha h1;obtain⟨i1,i2⟩:=jT3 hf hh hG hj k _ (by rw[jOj];exact cm (hf.down _) ha) h0;refine⟨by show(bD f mk rd k _).1.length+1=k+1;rw[i1],fun c hc=>?_⟩;rcases List.mem_cons.1 hc with rfl | hc
  ·rcases h2 with⟨s1,s2⟩ | ⟨s1,s2,s3,s4⟩
   ·rw[s2]
    have:=hh (f (rd (takeN (takeN r 5) 1)).1).sl (aF r 5) (aF (takeN r 5) 1)
    rw[this.1,this.2];exact⟨hG _ _ _ hg s1,(jJo r).1,(jJo r).2,(jHG _).1,(jHG _).2⟩
   rw[s4,s2,s3];exact⟨hg,(jJo r).1,(jJo r).2,(jHG _).1,(jHG _).2⟩
  exact i2 c hc
theorem jOo {wide:Nat}:∀(n:Nat) (r:Rd),r.rest.size<=n->(aN wide n r).2.short=false->okP wide n (aN wide n r).1
 | 0,r,hn,h=>by
  exfalso
  have h1:=jHX (k:=1) (jQF h);omega
 | n+1,r,hn,h=>by
  have hb:=jMO wide n;show jKp wide (aa n) (okP wide n) (jBc wide (aa n) (bg n) (aN wide n) r).1;have h':(jBc wide (aa n) (bg n) (aN wide n) r).2.short=false:=h;unfold jBc at h' ⊢
  split
  ·rename_i c1;rw[cE c1] at h';exact Or.inl ⟨qBe h',rfl,rfl,rfl⟩
  ·rename_i c1;rw[cy c1] at h'
   split
   ·rename_i c2;rw[cE c2] at h';have h2:=jTZ (aF (takeN r 1) 1).toNat (takeN (takeN r 1) 1);have h3:=jHG (takeN r 1);exact Or.inr (Or.inl ⟨rfl,h2.1,by show(bN _ _).1.length<256;rw[h2.2];omega⟩)
   ·rename_i c2;rw[cy c2] at h'
    split
    ·rename_i c3;rw[cE c3] at h';have h3:=jHG (takeN r 1);have h4:=jHX (k:=1) (jQF ((jIH hb _).stay _ h'));have h5:=jQG (takeN r 1) 1;obtain⟨i1,i2⟩:=jT3 (N:=n) (G:=okP wide n) hb (fun s l r=>by rw[jZk];exact⟨rfl,rfl⟩) (fun a l r ha hs=>qB8 n _ _ _ (jVu ha hs)) (fun r hr hs=>jOo n r hr hs) _ _ (by rw[show((1:Nat):Int)=1 from rfl] at h4;omega) h';exact Or.inr (Or.inr ⟨rfl,by show(bD _ _ _ _ _).1.length<256;rw[i1];omega,i2⟩)
    ·rename_i c3;rw[cy c3] at h';cases h'
end Sq
namespace Sq
def bq (H:BA->BA):(n:Nat)->Nd n->BA
 | 0,t=>jBD (fun e:Empty=>e.elim) (fun e:Empty=>e.elim) t
 | n+1,t=>jBD (aa n) (bj H n) t
theorem jKb (H:BA->BA):∀{n:Nat} {t:Nd n},aw (aa n t)=false->bj H n t=H (bq H n t)
 | 0,t,h=>by
  show(if aw (af.hd t) then _ else _:BA)=_
  rw[show aw (af.hd t)=false from h];rfl
 | n+1,t,h=>by
  show(if aw (af.hd t) then _ else _:BA)=_
  rw[show aw (af.hd t)=false from h];rfl
theorem jST (H:BA->BA):∀{n:Nat} {t:Nd n},aw (aa n t)=true->bj H n t=(aa n t).sl
 | 0,t,h=>by
  show(if aw (af.hd t) then _ else _:BA)=_
  rw[show aw (af.hd t)=true from h];rfl
 | n+1,t,h=>by
  show(if aw (af.hd t) then _ else _:BA)=_
  rw[show aw (af.hd t)=true from h];rfl
def jIp (wide:Nat):Nat->Rd->List (Int×Int×BA)×Rd
 | 0,r=>([],r)
 | k+1,r=>((aF r 5,aF (takeN r 5) 1,br (takeN (takeN r 5) 1) wide)::(jIp wide k (takeN (takeN (takeN r 5) 1) wide)).1,(jIp wide k (takeN (takeN (takeN r 5) 1) wide)).2)
theorem jNz (wide:Nat)(f:α->Head)(dg:α->BA):∀(cs:List α) (b:BA),(∀c∈cs,0<=(f c).least/\(f c).least<1099511627776/\0<=(f c).rows/\(f c).rows<256/\(dg c).size=wide) ->
  jIp wide cs.length ⟨bW (cs.map fun c=>jAl (f c) (dg c))++b,false⟩=(cs.map fun c=>((f c).least,(f c).rows,dg c),⟨b,false⟩)
 | [],b,_=>by
  show(([]:List (Int×Int×BA)),(⟨ar++b,false⟩:Rd))=_
  rw[jHB];rfl
 | c::cs,b,h=>by
  obtain⟨h0,h1,h2,h3,h4⟩:=h c (by simp);have ih:=jNz wide f dg cs b fun x hx=>h x (by simp[hx])
  have e1:jAl (f c) (dg c)++bW (cs.map fun c=>jAl (f c) (dg c))++b=bz (f c).least 5++(bz (f c).rows 1++(dg c++(bW (cs.map fun c=>jAl (f c) (dg c))++b))):=by
   unfold jAl;rw[dw,dw,dw]
  obtain⟨g1,g2⟩:=jHA (f c).least 5 (bz (f c).rows 1++(dg c++(bW (cs.map fun c=>jAl (f c) (dg c))++b))) h0 (by simpa using h1);obtain⟨g3,g4⟩:=jHA (f c).rows 1 (dg c++(bW (cs.map fun c=>jAl (f c) (dg c))++b)) h2 (by simpa using h3);rw[show((5:Nat):Int)=5 from rfl] at g1 g2;rw[show((1:Nat):Int)=1 from rfl] at g3 g4;have g5:=jNP (dg c) (bW (cs.map fun c=>jAl (f c) (dg c))++b);have g6:=jNR (dg c) (bW (cs.map fun c=>jAl (f c) (dg c))++b);rw[h4] at g5 g6;rw[cG,cM,jIa,e1,jIp,g1,g2,g3,g4,g5,g6,ih];rfl
def jHH {α:Type}(wide:Nat)(f:α->Head)(dg:α->BA)(p:af α):Prop :=
 (p.hd.inner=false/\p.kids=[]/\(∀e∈p.av,jGF e)/\p.av.length<256) \/
 (p.hd.inner=true/\p.av=[]/\p.kids.length<256/\∀c∈p.kids,0<=(f c).least/\(f c).least<1099511627776/\0<=(f c).rows/\(f c).rows<256/\(dg c).size=wide)
theorem jLs {f:α->Head}{dg:α->BA}{p:af α}(h1:p.hd.inner=false)(h2:p.kids=[]):jBD f dg p=bz 1 1++(bz (p.av.length:Nat) 1++(bW (p.av.map jA3)++ar)):=by
 unfold jBD;rw[jJN];unfold bG;rw[h1,h2];rfl
theorem jKZ {f:α->Head}{dg:α->BA}{p:af α}(h1:p.hd.inner=true)(h2:p.av=[]):jBD f dg p=bz 2 1++(bz (p.kids.length:Nat) 1++(bW (p.kids.map fun c=>jAl (f c) (dg c))++ar)):=by
 unfold jBD;rw[jJN];unfold bG;rw[h1,h2];simp only[dT,dO];rw[show bW []=ar from rfl,jHB,qCC]
theorem jJe {a b:Int}{x y:BA}(h0:0<=a)(h1:a<256^k)(g0:0<=b)(g1:b<256^k)(h:bz a k++x=bz b k++y):a=b/\x=y:=by
 have e1:=jHA a k x h0 h1;have e2:=jHA b k y g0 g1;rw[h] at e1;refine⟨e1.1.symm.trans e2.1,?_⟩
 have:=e1.2.symm.trans e2.2
 simpa using this
theorem jJ4 {wide:Nat}{f:α->Head}{f':β->Head}{dg:α->BA}{dg':β->BA}{p:af α}{t:af β}(hp:jHH wide f dg p)(ht:jHH wide f' dg' t)(h:jBD f dg p=jBD f' dg' t) :
  p.hd.inner=t.hd.inner/\p.av=t.av/\(p.kids.map fun c=>((f c).least,(f c).rows,dg c))=t.kids.map fun c=>((f' c).least,(f' c).rows,dg' c):=by
 rcases hp with⟨p1,p2,p3,p4⟩ | ⟨p1,p2,p3,p4⟩<;>rcases ht with⟨t1,t2,t3,t4⟩ | ⟨t1,t2,t3,t4⟩
 ·rw[jLs p1 p2,jLs t1 t2] at h;have h1:=(jJe (by decide) (by decide) (by decide) (by decide) h).2;have h2:=jJe (by omega) (by simp;omega) (by omega) (by simp;omega) h1;have e1:=jNF p.av ar p3;have e2:=jNF t.av ar t3;have hl:p.av.length=t.av.length:=by have:=h2.1;omega
  rw[h2.2,hl] at e1;have e3:=congrArg Prod.fst (e1.symm.trans e2);exact⟨p1.trans t1.symm,e3,by rw[p2,t2];rfl⟩
 ·exfalso
  rw[jLs p1 p2,jKZ t1 t2] at h;have h1:=(jJe (by decide) (by decide) (by decide) (by decide) h).1;cases h1
 ·exfalso
  rw[jKZ p1 p2,jLs t1 t2] at h;have h1:=(jJe (by decide) (by decide) (by decide) (by decide) h).1;cases h1
 rw[jKZ p1 p2,jKZ t1 t2] at h;have h1:=(jJe (by decide) (by decide) (by decide) (by decide) h).2;have h2:=jJe (by omega) (by simp;omega) (by omega) (by simp;omega) h1;have e1:=jNz wide f dg p.kids ar p4;have e2:=jNz wide f' dg' t.kids ar t4;have hl:p.kids.length=t.kids.length:=by have:=h2.1;omega
 rw[h2.2,hl] at e1;have e3:=congrArg Prod.fst (e1.symm.trans e2);exact⟨p1.trans t1.symm,p2.trans t2.symm,e3⟩
theorem jJX {ρ:α->β->Prop}(u:α->γ)(v:β->γ):∀{l:List α} {m:List β},l.map u=m.map v->(∀(i:Nat) a b,l[i]?=some a->m[i]?=some b->u a=v b->ρ a b)->bK ρ l m
 | [],[],_,_=>bK.nil
 | [],_::_,h,_=>by simp at h
 | _::_,[],h,_=>by simp at h
 | a::l,b::m,h,hk=>by
  rw[cM,cM,List.cons.injEq] at h;exact bK.cons.2 ⟨hk 0 a b rfl rfl h.1,jJX u v h.2 fun i x y hx hy=>hk (i+1) x y (by simpa using hx) (by simpa using hy)⟩
def calm (H:BA->BA):(m n:Nat)->Nd m->Nd n->Prop
 | 0,0,p,t=>aw (af.hd p)=true\/bq H 0 p=bq H 0 t
 | 0,n+1,p,t=>aw (af.hd p)=true\/bq H 0 p=bq H (n+1) t
 | m+1,0,p,t=>aw (af.hd p)=true\/bq H (m+1) p=bq H 0 t
 | m+1,n+1,p,t=>aw (af.hd p)=true\/(bq H (m+1) p=bq H (n+1) t/\∀(i:Nat) a b,(af.kids p)[i]?=some a->(af.kids t)[i]?=some b->calm H m n a b)
theorem jOn {H:BA->BA}{wide:Nat}(hH:∀b,(H b).size=wide){p:Nd n}(h:okP wide n p):(bj H n p).size=wide:=by
 cases hs:aw (aa n p) with
 | true=>rw[jST H hs];exact jVu h hs
 | false=>rw[jKb H hs];exact hH _
theorem jJ5 {wide:Nat}{f:α->Head}{dg:α->BA}{G:α->Prop}(hd:∀c,G c->(dg c).size=wide){p:af α}(h:jKp wide f G p)(hw:1<=wide)(hs:aw p.hd=false):jHH wide f dg p/\(p.hd.inner=false->p.hd.least=jDQ p.av/\p.hd.rows=p.av.length)/\(p.hd.inner=true->p.hd.least=jBg f p.kids/\p.hd.rows=aH f p.kids/\∀c∈p.kids,G c):=by
 rcases h with h | h | h
 ·exfalso
  unfold aw at hs;rw[h.1] at hs;simp at hs;omega
 ·have e1:p.hd.inner=false:=by rw[h.1];rfl
  refine⟨Or.inl ⟨e1,by rw[h.1];rfl,h.2.1,h.2.2⟩,fun _=>⟨by rw[h.1];rfl,by rw[h.1];rfl⟩,(fun hi=>(by rw[e1] at hi;cases hi))⟩
 have e1:p.hd.inner=true:=by rw[h.1];rfl
 refine⟨Or.inr ⟨e1,by rw[h.1];rfl,h.2.1,fun c hc=>?_⟩,(fun hi=>(by rw[e1] at hi;cases hi)),fun _=>⟨by rw[h.1];rfl,by rw[h.1];rfl,fun c hc=>(h.2.2 c hc).1⟩⟩;have h5:=h.2.2 c hc;exact⟨h5.2.1,h5.2.2.1,h5.2.2.2.1,h5.2.2.2.2,hd c h5.1⟩
theorem jSs {wide:Nat}{t:Nd 0}{x:List (Kid 0)}(h:rep 0 t x)(hf:jDp 0 x):jHH wide (fun e:Empty=>e.elim) (fun e:Empty=>e.elim) t/\(af.hd t).inner=false/\(af.hd t).least=jDQ (af.av t)/\(af.hd t).rows=(af.av t).length:=by
 obtain⟨h1,h2,h3⟩:=rep.leaf h;obtain⟨-,g3,g4,-⟩:=h.head;have h5:List.length (α:=Ent) x<=4:=hf.full;refine⟨Or.inl ⟨h1,h3,by rw[h2];exact fun e he=>(hf.rows e he).1,by rw[h2];omega⟩,h1,?_,by rw[h2];exact g4⟩;rw[h2];refine Eq.trans g3 ?_;cases x<;>rfl
theorem jNu {H:BA->BA}{wide:Nat}(hH:∀b,(H b).size=wide){t:Nd (n+1)}{x:List (Kid (n+1))}(h:rep (n+1) t x)(hf:jDp (n+1) x):jHH wide (aa n) (bj H n) t/\(af.hd t).inner=true/\(af.hd t).least=jBg (aa n) (af.kids t)/\(af.hd t).rows=aH (aa n) (af.kids t)/\∀c∈af.kids t,∃y,rep n c y/\jDp n y/\2<=y.length:=by
 obtain⟨h1,h2,h3⟩:=rep.inner h;have hh:=jPM h3;have ht:=jLb (n+1) x;obtain⟨-,g1,g2,-⟩:=h.head;have h5:List.length (α:=List (Kid n)) x<=4:=hf.full.1;have e1:jBg (aa n) (af.kids t)=least (n+1) x:=(congrArg Head.least hh).trans (congrArg Head.least ht);have e2:aH (aa n) (af.kids t)=((av (n+1) x).length:Nat):=(congrArg Head.rows hh).trans (congrArg Head.rows ht)
 have hk:∀c∈af.kids t,∃y,rep n c y/\jDp n y/\2<=y.length:=fun c hc=>by
  obtain⟨y,hy,hr⟩:=h3.mem hc;have hk:=hf.kid hy;exact⟨y,hr,hk.1,hk.2⟩
 refine⟨Or.inr ⟨h1,h2,by rw[h3.len];exact Nat.lt_of_le_of_lt h5 (by decide),fun c hc=>?_⟩,h1,Eq.trans g1 e1.symm,Eq.trans g2 e2.symm,hk⟩;obtain⟨y,hr,hy,h2⟩:=hk c hc
 have:=qBA hr hy h2
 exact⟨this.1,this.2.1,this.2.2.1,this.2.2.2,jLh hH hr.open⟩
theorem jUL {H:BA->BA}{wide:Nat}(hH:∀b,(H b).size=wide)(hw:1<=wide):∀(m n:Nat) (p:Nd m) (t:Nd n) (x:List (Kid n)),okP wide m p->rep n t x->jDp n x->calm H m n p t->(aw (aa m p)=true->(aa m p).sl=bj H n t/\(aa m p).least=(aa n t).least/\(aa m p).rows=(aa n t).rows)->RN H (fun _=>True) m n p t
 | 0,0,p,t,x,ho,hr,hf,hc,hsh=>by
  cases hs:aw (af.hd p) with
  | true =>
   obtain⟨s1,s2,s3⟩:=hsh hs;rcases id ho with h | h | h
   ·exact⟨s2,s3,hr.open,Or.inl ⟨hs,s1,h.2.1,h.2.2.1,h.2.2.2,trivial⟩⟩
   ·exact absurd hs (by rw[h.1,jH7];simp)
   ·exact absurd hs (by rw[h.1,jH0];simp)
  | false =>
   have hb:bq H 0 p=bq H 0 t:=by rcases hc with h | h;exact absurd h (by rw[hs];simp);exact h
   obtain⟨a1,a2,a3⟩:=jJ5 (dg:=fun e:Empty=>e.elim) (fun c=>c.elim) ho hw hs;obtain⟨b1,b2,b3,b4⟩:=jSs (wide:=wide) hr hf;obtain⟨c1,c2,c3⟩:=jJ4 a1 b1 hb;have d1:=a2 (c1.trans b2);refine⟨?_,?_,hr.open,Or.inr ⟨hs,c1,c2,jJX _ _ c3 fun i a=>a.elim⟩⟩
   ·rw[d1.1,c2];exact b3.symm
   ·rw[d1.2,c2];exact b4.symm
 | 0,n+1,p,t,x,ho,hr,hf,hc,hsh=>by
  cases hs:aw (af.hd p) with
  | true =>
   obtain⟨s1,s2,s3⟩:=hsh hs;rcases id ho with h | h | h
   ·exact⟨s2,s3,hr.open,Or.inl ⟨hs,s1,h.2.1,h.2.2.1,h.2.2.2,trivial⟩⟩
   ·exact absurd hs (by rw[h.1,jH7];simp)
   ·exact absurd hs (by rw[h.1,jH0];simp)
  | false =>
   have hb:bq H 0 p=bq H (n+1) t:=by rcases hc with h | h;exact absurd h (by rw[hs];simp);exact h
   obtain⟨a1,a2,a3⟩:=jJ5 (dg:=fun e:Empty=>e.elim) (fun c=>c.elim) ho hw hs;obtain⟨b1,b2,b3,b4,b5⟩:=jNu hH hr hf;obtain⟨c1,c2,c3⟩:=jJ4 a1 b1 hb;have d1:=a3 (c1.trans b2);have hrel:bK jGD (af.kids p) (af.kids t):=jJX _ _ c3 fun i a=>a.elim
   refine⟨?_,?_,hr.open,Or.inr ⟨hs,c1,c2,hrel⟩⟩
   ·rw[d1.1];exact(jNC (jEn _ (aa n)) hrel).trans b3.symm
   ·rw[d1.2.1];exact(jL5 (jEn _ (aa n)) hrel).trans b4.symm
 | m+1,0,p,t,x,ho,hr,hf,hc,hsh=>by
  cases hs:aw (af.hd p) with
  | true =>
   obtain⟨s1,s2,s3⟩:=hsh hs;rcases id ho with h | h | h
   ·exact⟨s2,s3,hr.open,Or.inl ⟨hs,s1,h.2.1,h.2.2.1,h.2.2.2,trivial⟩⟩
   ·exact absurd hs (by rw[h.1,jH7];simp)
   ·exact absurd hs (by rw[h.1,jH0];simp)
  | false =>
   have hb:bq H (m+1) p=bq H 0 t:=by rcases hc with h | h;exact absurd h (by rw[hs];simp);exact h
   obtain⟨a1,a2,a3⟩:=jJ5 (dg:=bj H m) (fun c hc=>jOn hH hc) ho hw hs;obtain⟨b1,b2,b3,b4⟩:=jSs (wide:=wide) hr hf;obtain⟨c1,c2,c3⟩:=jJ4 a1 b1 hb;have d1:=a2 (c1.trans b2);refine⟨?_,?_,hr.open,Or.inr ⟨hs,c1,c2,jJX _ _ c3 fun i a b=>b.elim⟩⟩
   ·rw[d1.1,c2];exact b3.symm
   ·rw[d1.2,c2];exact b4.symm
 | m+1,n+1,p,t,x,ho,hr,hf,hc,hsh=>by
  cases hs:aw (af.hd p) with
  | true =>
   obtain⟨s1,s2,s3⟩:=hsh hs;rcases id ho with h | h | h
   ·exact⟨s2,s3,hr.open,Or.inl ⟨hs,s1,h.2.1,h.2.2.1,h.2.2.2,trivial⟩⟩
   ·exact absurd hs (by rw[h.1,jH7];simp)
   ·exact absurd hs (by rw[h.1,jH0];simp)
  | false =>
   obtain⟨hb,hg⟩:bq H (m+1) p=bq H (n+1) t/\∀(i:Nat) a b,(af.kids p)[i]?=some a->(af.kids t)[i]?=some b->calm H m n a b:=by rcases hc with h | h;exact absurd h (by rw[hs];simp);exact h
   obtain⟨a1,a2,a3⟩:=jJ5 (dg:=bj H m) (fun c hc=>jOn hH hc) ho hw hs;obtain⟨b1,b2,b3,b4,b5⟩:=jNu hH hr hf;obtain⟨c1,c2,c3⟩:=jJ4 a1 b1 hb;have d1:=a3 (c1.trans b2)
   have hrel:bK (RN H (fun _=>True) m n) (af.kids p) (af.kids t):=jJX _ _ c3 fun i a b ha hj hh=>by
    obtain⟨y,hn,hk,-⟩:=b5 b (cA hj);simp only[Prod.mk.injEq] at hh;refine jUL hH hw m n a b y (d1.2.2 a (cA ha)) hn hk (hg i a b ha hj) fun hp=>⟨?_,hh.1,hh.2.1⟩
    rw[<-hh.2.2,jST H hp]
   refine⟨?_,?_,hr.open,Or.inr ⟨hs,c1,c2,hrel⟩⟩
   ·rw[d1.1];exact(jNC (jG5 H _ m n) hrel).trans b3.symm
   ·rw[d1.2.1];exact(jL5 (jG5 H _ m n) hrel).trans b4.symm
theorem jYP:∀(n:Nat) (p:Nd n) (lo hi:Int) (tr:Trl),(jAW n p lo hi tr).2.lost=false->aw (aa n p)=false
 | 0,_,_,_,_,h=>(jJU (fun a=>a.elim) h).2
 | n+1,_,_,_,_,h=>(jJU (fun a lo hi tr=>jJT n a lo hi tr) h).2
theorem jXT {o:bY}{x:aj×Trl}(h:(jBU o x).2.lost=false):x.2.lost=false:=jRv (jK0 _ (jK5 _ h))
theorem jXl {H:BA->BA}{wide:Nat}(hH:∀b,(H b).size=wide){X:aj}{x:Tree}(hr:jCo X x)(ho:jDp x.d x.t)(hk told proof d:BA)(hc:∀P,jAM wide proof=some P->bj H P.d P.t=bj H X.d X.t->calm H P.d X.d P.t X.t)(h:jBW H wide (bj H X.d X.t) hk told proof=(d,true))(ht:Trl) :
  told=(bI X hk ht).1/\d=bj H (bI X hk ht).2.1.d (bI X hk ht).2.1.t:=by
 unfold jBW at h;cases hp:jAM wide proof with
 | none=>rw[hp] at h;simp at h
 | some P =>
  rw[hp] at h
  dsimp only at h
  by_cases hd:bj H P.d P.t=bj H X.d X.t
  ·rw[cy (by simpa using hd)] at h;have ha:=hc P hp hd
   by_cases hl:(bI P hk ⟨false,[]⟩).2.2.lost=true\/(bI P hk ⟨false,[]⟩).1≠told
   ·rw[cE hl] at h;simp at h
   rw[cy hl] at h
   have hg:(bI P hk ⟨false,[]⟩).2.2.lost=false:=by
    cases hq:(bI P hk ⟨false,[]⟩).2.2.lost with
    | false=>rfl
    | true=>exact absurd (Or.inl hq) hl
   have hf:(bI P hk ⟨false,[]⟩).1=told:=by
    by_cases hq:(bI P hk ⟨false,[]⟩).1=told
    ·exact hq
    exact absurd (Or.inr hq) hl
   simp only[Prod.mk.injEq,and_true] at h
   -- what was read is well made
   unfold jAM at hp
   split at hp
   ·rename_i hw
    split at hp
    ·rename_i hn;cases hp
     dsimp only at hd ha hg hf h
     rw[cP] at hn
     have hi:(aN wide proof.size ⟨proof,false⟩).2.short=false:=by
      have:=hn.1
      unfold jDA at this;rw[cP] at this;simpa using this.2
     have hj:=jOo (wide:=wide) proof.size ⟨proof,false⟩ nR hi;generalize (aN wide proof.size ⟨proof,false⟩).1=p at *;obtain⟨n,t,y,rfl,rfl,hv⟩:=hr.cases
     dsimp only at hd ha ho
     cases hs:aw (aa proof.size p) with
     | true =>
      -- a root that is shut serves a text that is no statement alone
      have hb:(parse hk).1≠0:=by
       intro h0;have h1:=jXT (x:=(⟨proof.size,p⟩,(aL ⟨proof.size,p⟩ hk ⟨false,[]⟩).2)) hg
       dsimp only at h1
       unfold aL at h1;rw[cy (by rw[h0];simp)] at h1;have h2:=jYP _ _ _ _ _ (jRC (jPa h1))
       dsimp only at h2
       rw[hs] at h2;cases h2
      rw[jU0 hb] at hf h;rw[jU0 hb];exact⟨hf.symm,by rw[<-h];exact hd⟩
     | false =>
      have hh:RT H (fun _=>True) ⟨proof.size,p⟩ ⟨n,t⟩:=jUL hH hw.1 _ _ p t y hj hv ho ha (fun hq=>by rw[hs] at hq;cases hq);have he:=qA0 hh hk ⟨false,[]⟩ ht hg;exact⟨hf.symm.trans he.1,by rw[<-h];exact he.2.dig⟩
    cases hp
   cases hp
  rw[cE hd] at h;simp at h
end Sq
namespace Sq
theorem jLj (f:α->BA)(m:Nat):∀(l:List α),(∀x∈l,(f x).size<=m)->(bW (l.map f)).size<=l.length*m
 | [],_=>by show ar.size<=_;rw[show ar.size=0 from rfl];omega
 | x::l,h=>by
  have h1:=h x (by simp);have ih:=jLj f m l fun y hy=>h y (by simp[hy])
  rw[cM,jIa,jQs,cG,Nat.add_mul];omega
theorem jMG {name:BA}{cols:List Col}(hn:jD1 name)(hc:jCC cols):(jAL name cols).size<=50:=by
 unfold jAL;rw[jRR,jQs,jQs,jHt,jQt]
 have h1:=jLj jCT 10 cols fun c ha=>by
  unfold jCT;rw[jQs,jQt,jHt]
  have:=(hc.each c ha).1.2
  omega
 have h2:=hc.few;have h3:=hn.2;have h4:cols.length*10<=4*10:=dS 10 h2;omega
theorem jLl:∀{cols:List Col} {row:List Val},typed cols row->row.length=cols.length/\∀v∈row,aI v
 | [],[],_=>⟨rfl,by simp⟩
 | [],_::_,h=>by unfold typed at h;exact h.elim
 | _::_,[],h=>by unfold typed at h;exact h.elim
 | c::q,v::r,h=>by
  unfold typed at h;have ih:=jLl h.2;refine⟨by rw[cG,cG,ih.1],fun x hx=>?_⟩;rcases List.mem_cons.1 hx with rfl | hx
  ·exact h.1.2
  exact ih.2 x hx
theorem jYx {v:Val}(h:aI v):(jB1 v).size<=13:=by
 unfold jB1;rcases h with⟨h1,_⟩ | ⟨h1,_,h3,_⟩
 ·rw[h1];show(bz _ 4).size<=13;rw[jQt];omega
 rw[h1];show(txt _).size<=13;rw[jHt];omega
theorem jPt {cols:List Col}{row:List Val}(hc:jCC cols)(ht:typed cols row):(jAu row).size<=50:=by
 obtain⟨h1,h2⟩:=jLl ht;have h3:=hc.few;unfold jAu;rw[jM3,jHB];have h4:=jLj jB1 13 (row.drop 1) fun v hv=>jYx (h2 v (dR hv))
 rw[ef] at h4;have h5:(row.length-1)*13<=3*13:=dS 13 (by omega);omega
theorem qAt {db:List Tab}(hd:jC1 db):∀e∈jBL db,jGF e/\e.row.size<=50:=by
 intro e he;have hf:=hd.g.few;rcases jGY.1 he with⟨k,t,h1,rfl⟩ | ⟨k,t,r,h1,h2,rfl⟩
 ·have ha:=cA h1;have hk:=(List.getElem?_eq_some_iff.1 h1).1;have hs:=jMG (hd.names t ha) (hd.cols t ha);refine⟨⟨?_,?_,?_⟩,hs⟩
  ·show 0<=placeOf 0 _;unfold placeOf;omega
  ·show placeOf 0 _<_;unfold placeOf;omega
  show(jAL t.name t.cols).size<256;omega
 have ha:=cA h1;have hk:=(List.getElem?_eq_some_iff.1 h1).1;have hs:=jPt (hd.cols t ha) (hd.typed t ha r h2);have hb:=hd.g.laid.keys t ha r h2;unfold jEL at hb;refine⟨⟨?_,?_,?_⟩,hs⟩
 ·show 0<=placeOf _ _;unfold placeOf;omega
 ·show placeOf _ _<_;unfold placeOf;omega
 show(jAu r).size<256;omega
theorem jAv.jDp {X:aj}{db:List Tab}(h:jAv X db)(hd:jC1 db):∃x,jCo X x/\x.ok/\Sq.jDp x.d x.t:=by
 obtain⟨x,h1,h2,h3,h4⟩:=h.at_;have h5:av x.d x.t=jBL db:=h4;refine⟨x,h1,h2,h2.kids,h3,?_,?_⟩
 ·rw[h5];exact qAt hd
 rw[h5,jSP];exact hd.g.size
theorem qBn {H:BA->BA}{wide:Nat}(hH:∀b,(H b).size=wide){X:aj}{db:List Tab}(h:jAv X db)(hd:jC1 db)(ha told proof d:BA)(hc:∀P,jAM wide proof=some P->bj H P.d P.t=bj H X.d X.t->calm H P.d X.d P.t X.t)(hk:jBW H wide (bj H X.d X.t) ha told proof=(d,true))(tr:Trl) :
  told=(Sq.decide db ha).jAP/\d=bj H (bI X ha tr).2.1.d (bI X ha tr).2.1.t:=by
 obtain⟨x,h1,h2,h3⟩:=h.jDp hd;obtain⟨g1,g2,g3⟩:=jNk h hd ha tr;rw[<-g1];exact jXl hH h1 h3 ha told proof d hc hk tr
end Sq
namespace Sq
theorem jNr:∀(n:Nat) (t:Nd n) (x:List (Kid n)),rep n t x->jAx n t=(av n x).length
 | 0,t,x,h=>by
  obtain⟨h1,h2,h3⟩:=rep.leaf h
  show(af.av t).length+((af.kids t).map _).sum=_
  rw[h2,h3];rfl
 | n+1,t,x,h=>by
  obtain⟨h1,h2,h3⟩:=rep.inner h
  show(af.av t).length+((af.kids t).map (jAx n)).sum=_
  rw[h2]
  have hl:∀(l:List (Nd n)) (cs:List (List (Kid n))),bM n l cs->(l.map (jAx n)).sum=(cs.flatMap (av n)).length:=by
   intro l
   induction l with
   | nil =>
    intro cs hr;cases cs with
    | nil=>rfl
    | cons y cs=>have:=hr.len;simp at this
   | cons c l ih =>
    intro cs hr;cases cs with
    | nil=>have:=hr.len;simp at this
    | cons y cs =>
     obtain⟨k1,k2⟩:=bM.cons.1 hr;rw[cM,dN,cK,cg,ih cs k2,jNr n c y k1]
  have:=hl (af.kids t) x h3
  rw[this,List.length_nil,df];rfl
theorem jUk:∀(n:Nat) (t:Nd n) (x:List (Kid n)),rep n t x->jDp n x->2<=x.length->manyN n t+1<=(av n x).length
 | 0,t,x,h,hf,h2=>h2
 | n+1,t,x,h,hf,h2=>by
  obtain⟨g1,g2,g3⟩:=rep.inner h;show 1+((af.kids t).map (manyN n)).sum+1<=_
  have hl:∀(l:List (Nd n)) (cs:List (List (Kid n))),bM n l cs->(∀c∈cs,jDp n c/\2<=c.length)->(l.map (manyN n)).sum+cs.length<=(cs.flatMap (av n)).length:=by
   intro l
   induction l with
   | nil =>
    intro cs hr hc;cases cs with
    | nil=>exact nR
    | cons y cs=>have:=hr.len;simp at this
   | cons c l ih =>
    intro cs hr hc;cases cs with
    | nil=>have:=hr.len;simp at this
    | cons y cs =>
     obtain⟨k1,k2⟩:=bM.cons.1 hr;have h7:=ih cs k2 fun z hz=>hc z (by simp[hz])
     have h8:=hc y (by simp);have h9:=jUk n c y k1 h8.1 h8.2;rw[cM,dN,cK,cg,cG];omega
  have h7:=hl (af.kids t) x g3 fun c hc=>hf.kid hc
  have h8:(List.flatMap (av n) (show List (List (Kid n)) from x)).length=(av (n+1) x).length:=rfl;have h9:List.length (α:=List (Kid n)) x=x.length:=rfl;have ha:(List.flatMap (av n) x).length=(av (n+1) x).length:=rfl;omega
theorem jRS {f:α->Head}{G G':α->Prop}{m:α->Nat}{g:α->Int->α×Int}{M:Int}(hg:∀c k,G c->k+(m c:Int)<=M+1->G' (g c k).1/\(f (g c k).1).rows=(f c).rows)(hs:∀c k,(g c k).2=k+(m c:Int)) :
  ∀(l:List α) (k:Int),(∀c∈l,G c)->k+((l.map m).sum:Nat)<=M+1->(∀c∈(bL g l k).1,G' c)/\(bL g l k).1.length=l.length/\aH f (bL g l k).1=aH f l
 | [],k,_,_=>⟨fun c hc=>by simp[bL] at hc,rfl,rfl⟩
 | c::r,k,hl,hk=>by
  rw[cM,dN] at hk;have h1:=hg c k (hl c (by simp)) (by omega);have h2:=jRS (f:=f) hg hs r (g c k).2 (fun d hd=>hl d (by simp[hd])) (by rw[hs];omega);rw[bL];refine⟨fun d hd=>?_,by simp[h2.2.1],?_⟩
  ·rcases List.mem_cons.1 hd with rfl | hd
   ·exact h1.1
   exact h2.1 d hd
  rw[jQY,jQY,h1.2,h2.2.2]
theorem jTb {M:Int}:∀(n:Nat) (t:Nd n) (k:Int),aT K n t->k+(manyN n t:Int)<=M+1->aT M n (cf n t k).1/\(aa n (cf n t k).1).rows=(aa n t).rows
 | 0,t,k,h,hk=>by
  have h0:=h.at0
  have ha:af.kids t=[]:=by
   cases hq:af.kids t with
   | nil=>rfl
   | cons c _=>exact c.elim
  have hb:k<=M:=by have:((1:Nat):Int)=1:=rfl;have e:manyN 0 t=1:=rfl;rw[e] at hk;omega
  refine⟨⟨?_,h.jE0⟩,rfl⟩;refine⟨h0.av,?_,fun c hc=>c.elim,hb,h0.pos,fun hi=>?_,fun hi=>⟨(h0.lf hi).1,?_⟩,h0.sl,h0.row⟩
  ·show(bL _ (af.kids t) _).1.length<=4
   rw[ha];exact zR
  ·have:=h.jE0
   exact absurd (show(af.hd t).inner=true from hi) (by rw[this];decide)
  ·show(bL _ (af.kids t) _).1=[]
   rw[ha];rfl
 | n+1,t,k,h,hk=>by
  have h1:=h.at1;have e:manyN (n+1) t=1+((af.kids t).map (manyN n)).sum:=rfl;rw[e] at hk;have h2:=jRS (f:=aa n) (G:=aT K n) (G':=aT M n) (m:=manyN n) (g:=cf n) (M:=M) (fun c k hc hk=>jTb n c k hc hk) (fun c k=>jN2 n c k) (af.kids t) (k+1) h1.each (by omega);refine⟨?_,rfl⟩;refine⟨h1.av,?_,h2.1,?_,h1.pos,fun hi=>⟨?_,(h1.inn hi).2⟩,fun hi=>⟨(h1.lf hi).1,?_⟩,h1.sl,h1.row⟩
  ·show(bL (cf n) (af.kids t) (k+1)).1.length<=4
   rw[h2.2.1];exact h1.kids
  ·show k<=M;omega
  ·show(af.hd t).rows=aH (aa n) (bL (cf n) (af.kids t) (k+1)).1
   rw[h2.2.2];exact(h1.inn hi).1
  ·show(bL (cf n) (af.kids t) (k+1)).1=[]
   rw[(h1.lf hi).2];rfl
theorem jRI (hK:0<=K)(n:Int):∀(puts:List (List Val)) (x:aj×Trl) (m:Int),jBb K m x.1->aS K x.2->(∀r∈puts,(jAu r).size<=300)->jBb K (m+puts.length) (jCU n puts x).1/\aS K (jCU n puts x).2
 | [],x,m,h,hr,_=>⟨by simpa[jCU] using h,hr⟩
 | r::q,x,m,h,hr,ho=>by
  have h1:=h.put hK (e:=⟨placeOf n (keyOf r),jAu r⟩) (ho r (by simp)) hr;have h2:=jRI hK n q (x.1.put ⟨placeOf n (keyOf r),jAu r⟩ x.2) (m+1) h1.1 h1.2 fun y hy=>ho y (by simp[hy])
  refine⟨?_,h2.2⟩;have e:m+((r::q).length:Nat)=m+1+(q.length:Nat):=by rw[cG];omega
  rw[e];exact h2.1
theorem jSg (hK:0<=K)(n:Int):∀(cuts:List Int) (x:aj×Trl) (m:Int),jBb K m x.1->aS K x.2->jBb K m (jDz n cuts x).1/\aS K (jDz n cuts x).2
 | [],x,m,h,hr=>⟨h,hr⟩
 | c::q,x,m,h,hr=>by
  have h1:=h.del hK (placeOf n c) hr;exact jSg hK n q (x.1.del (placeOf n c) x.2) m h1.1 h1.2
theorem jMV (hK:0<=K){o:bY}(ho:jGA o){x:aj×Trl}{m:Int}(h:jBb K m x.1)(hr:aS K x.2):jBb K (m+10001) (jBU o x).1/\aS K (jBU o x).2:=by
 have hm:jBb K (m+1) (jB0 o x).1/\aS K (jB0 o x).2:=by
  unfold jB0
  split
  ·rename_i ha;exact h.put hK (ho.make ha).2.2.2 hr
  exact⟨⟨h.t,dF h.rows (by omega)⟩,hr⟩
 have hp:=jRI hK o.tab.number o.puts (jB0 o x) (m+1) hm.1 hm.2 fun r hr=>(ho.puts r hr).size
 have hc:=jSg hK o.tab.number o.cuts _ _ hp.1 hp.2;have hf:=ho.few;exact⟨⟨hc.1.t,dF hc.1.rows (by omega)⟩,hc.2⟩
theorem jUp:∀(l:List bQ) (m:Int),0<=m->m<=5->(∀t∈l,1<=t.number/\t.number<=5)->0<=jCi m l/\jCi m l<=5
 | [],m,h0,h1,_=>⟨h0,h1⟩
 | t::q,m,h0,h1,h=>by
  have:=h t (by simp)
  show 0<=jCi (if m<t.number then t.number else m) q/\_;exact jUp q _ (by split<;>omega) (by split<;>omega) fun u hu=>h u (by simp[hu])
theorem jPP (X:aj)(ha:BA)(tr:Trl):0<=(aL X ha tr).1.tab.number/\(aL X ha tr).1.tab.number<=6:=by
 have hb:=jN9 X tr;have hr:∀n,0<=(aE n).tab.number/\(aE n).tab.number<=6:=fun n=>⟨by show(0:Int)<=0;omega,by show(0:Int)<=6;omega⟩
 have ht:∀{n:BA} {t:bQ},jBE n (bH X tr).1=some t->0<=t.number/\t.number<=6:=fun h=>by have:=hb _ (jLe h);omega
 unfold aL jCe
 split
 ·exact hr _
 split
 ·unfold jCP;have hl:=jUp (bH X tr).1 0 (by omega) (by omega) fun t ht=>by have:=hb t ht;omega
  repeat (first | exact hr _ | split)
  show 0<=jCi 0 (bH X tr).1+1/\jCi 0 (bH X tr).1+1<=6;omega
 split
 ·rename_i t hf
  have:=ht hf
  unfold jAO
  split
  ·exact hr _
  split
  ·unfold jCR jDe;simp only
   split
   ·exact hr _
   split
   ·exact hr _
   exact this
  unfold jEx;simp only
  split
  ·unfold jCX;cases jAd t.cols (parse ha).2.ak (jFH t.cols (jAe X t (parse ha).2.aq (bH X tr).2).1 (parse ha).2.aq) [] with
   | none=>exact hr _
   | some p=>exact this
  split
  ·exact this
  exact hr 0
 exact hr _
theorem jXv (cols:List Col)(ak:List bE):∀(rows acc puts:List (List Val)),jAd cols ak rows acc=some puts->puts.length=acc.length+rows.length:=by
 intro rows
 induction rows with
 | nil=>intro acc puts h;rw[jAd] at h;simp at h;subst h;simp
 | cons x q ih =>
  intro acc puts h;rw[jAd] at h
  split at h
  ·have:=ih _ _ h;simp at this ⊢;omega
  simp at h
theorem jPQ {X:aj}{tr:Trl}(hf:aT K X.d X.t)(hr:aS K tr)(hc:jAx X.d X.t<=900)(ha:BA):(aL X ha tr).1.puts.length+(aL X ha tr).1.cuts.length<=1000:=by
 have h0:∀n,(aE n).puts.length+(aE n).cuts.length<=1000:=fun n=>by show 0+0<=1000;omega
 have h1:=jNg hf hr;unfold aL jCe
 split
 ·exact h0 _
 split
 ·unfold jCP
  repeat (first | exact h0 _ | split)
  exact h0 0
 split
 ·rename_i t _;unfold jAO
  split
  ·exact h0 _
  split
  ·unfold jCR jDe;simp only
   split
   ·exact h0 _
   split
   ·exact h0 _
   show 1+0<=1000;omega
  have h2:=(jKJ hf h1 t (parse ha).2.aq).2.1;have h3:(jFH t.cols (jAe X t (parse ha).2.aq (bH X tr).2).1 (parse ha).2.aq).length<=(jAe X t (parse ha).2.aq (bH X tr).2).1.length:=dE _ _;unfold jEx;simp only
  split
  ·unfold jCX;cases hu:jAd t.cols (parse ha).2.ak (jFH t.cols (jAe X t (parse ha).2.aq (bH X tr).2).1 (parse ha).2.aq) [] with
   | none=>exact h0 _
   | some p =>
    have:=jXv _ _ _ _ _ hu
    show p.length+0<=1000;simp at this;omega
  split
  ·show 0+(List.map keyOf _).length<=1000;rw[cF];omega
  exact h0 0
 exact h0 _
theorem jAv.jGm {X:aj}{db:List Tab}(h:jAv X db)(hd:jC1 db){tr:Trl}(hf:aT K X.d X.t)(hr:aS K tr)(hc:jAx X.d X.t<=900)(hg:BA):jGA (aL X hg tr).1:=by
 have ha:=(jRm h hd hg tr).1;have ho:=jPs hd hg;have ht:=jPP X hg tr;have he:=jPQ hf hr hc hg;refine⟨ht.1,by omega,fun r hr=>?_,fun k hk=>?_,by omega,fun hm=>?_⟩
 ·rw[ha.puts] at hr;obtain⟨k,t,e1,e2,e3⟩:=ho.puts r hr;have hb:=hd.cols t (cA e2);obtain⟨g1,g2⟩:=jLl e3
  have:=hb.few
  refine⟨by omega,fun v hv=>?_,cm (jPt hb e3) (by omega)⟩;have h5:=aI.ok (g2 v hv);exact⟨h5.2.2,h5.1,h5.2.1⟩
 ·rw[ha.cuts] at hk
  have:=ha.jVy k hk
  omega
 rw[ha.makes] at hm;have h1:=(ha.tab hm).1;have h2:=ho.make hm;rw[h1]
 have:=h2.2.1.few
 have h3:=h2.1;unfold jD1 at h3;refine⟨by show(Sq.decide db hg).cols.length<=1000;omega,by show(Sq.decide db hg).name.size<=1000;omega,fun c hc=>?_,cm (jMG h2.1 h2.2.1) (by omega)⟩;have h4:=(h2.2.1.each c hc).1;unfold jD1 at h4;omega
theorem aT.mono {M:Int}(ha:K<=M):∀{n:Nat} {t:Nd n},aT K n t->aT M n t
 | 0,_,h=>⟨⟨h.at0.av,h.at0.kids,h.at0.each,dF h.at0.num ha,h.at0.pos,h.at0.inn,h.at0.lf,h.at0.sl,h.at0.row⟩,h.jE0⟩
 | _+1,_,h=>⟨h.at1.av,h.at1.kids,fun c hc=>aT.mono ha (h.at1.each c hc),dF h.at1.num ha,h.at1.pos,h.at1.inn,h.at1.lf,h.at1.sl,h.at1.row⟩
theorem jVG:aT 99998 jBX.d jBX.t :=
 ⟨⟨zR,zR,fun c=>c.elim,(by show(0:Int)<=99998;decide),(by show(0:Int)<=0;decide),fun h=>(by cases h),fun _=>⟨(by show(0:Int)<=0;decide),rfl⟩,(by show(0:Nat)<=32;decide),fun e he=>(by cases he)⟩,rfl⟩
structure jDn (X:aj)(db:List Tab):Prop where
 st:jAv X db
 bV:jC1 db
 jGr:aT 99998 X.d X.t
theorem jDn.many {X:aj}{db:List Tab}(h:jDn X db):manyN X.d X.t<=60/\jAx X.d X.t<=60:=by
 obtain⟨x,h1,h2,h3⟩:=h.st.jDp h.bV;obtain⟨n,t,y,rfl,rfl,hr⟩:=h1.cases;have h4:=jNr n t y hr;have h5:=h3.few;refine⟨?_,by show jAx n t<=60;simp only at h5;omega⟩;cases n with
 | zero=>show 1<=60;omega
 | succ n =>
  have h6:=jUk (n+1) t y hr h3 (h2.two.resolve_left (by simp));show manyN (n+1) t<=60;simp only at h5;omega
theorem jDn.ay {X:aj}{db:List Tab}(h:jDn X db):aT 100 X.ay.d X.ay.t/\jAx X.ay.d X.ay.t<=900/\X.ay.head.rows<=60:=by
 have hm:=h.many;have h1:=jTb (K:=99998) (M:=100) X.d X.t 1 h.jGr (by omega);refine⟨h1.1,?_,?_⟩
 ·obtain⟨x,k1,k2,k3⟩:=h.st.ay.jDp h.bV;obtain⟨n,t,y,e1,rfl,hr⟩:=k1.cases;rw[e1];have h4:=jNr n t y hr;have h5:=k3.few;show jAx n t<=900;simp only at h5;omega
 rw[h.st.ay.size]
 have:=h.bV.g.size
 omega
end Sq
end Go.Proofs.YtahpihjialbanaaGreatDoor
