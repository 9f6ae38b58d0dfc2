import Derived.Test.YtahpihjialbanaaGreatDoorQbi
import Derived.Test.YtahpihjialbanaaGreatDoorQbk
set_option linter.unusedVariables false
set_option linter.unusedSimpArgs false
set_option maxRecDepth 100000
set_option maxHeartbeats 4000000
namespace Go.Proofs.YtahpihjialbanaaGreatDoor
open Sq (Trl decideR)
section
open Go.RowKit
variable {Z:Nat->Prop}
def RunSays (Z:Nat->Prop)(tb:Nat)(x:ByteArray×Sq.NTree×Trl)(w:World)(e:Ending)(w':World):Prop :=
 ∃ev cv,e=.returned (.tuple #[.string x.1,.agg (headCells x.2.1.head ev cv).toArray])/\NodeAt Z w' x.2.1.d x.2.1.t ev cv/\TrAt tb w' x.2.2/\TFrm tb w w'
theorem RunSays.drew {tb:Nat}{x:ByteArray×Sq.NTree×Trl}{w w':World}{e:Ending}(h:RunSays Z tb x w e w'):RunSays Z tb x w e w'.drew:=by
 obtain⟨ev,cv,h1,h2,h3,h4⟩:=h;have hb:Below w'.heap.size w' w'.drew:=Below.drew (bR);exact⟨ev,cv,h1,h2.below hb,h3.below hb,h4.trans (TFrm.of hb (Nat.le_of_lt h3.lt))⟩
theorem jQlW {tb b:Nat}{w:World}{tr:Trl}{c:Array Value}(h:TrAt tb w tr)(hb:w.heap[b]?=some (.cells c 60))(x0 x1 x2 x3 x4 x5 x6:Value):TrAt tb (set7 w b x0 x1 x2 x3 x4 x5 x6) tr:=by
 refine h.keeps (e0:=60) ?_ (by decide) (by decide);intro q cq e fr hq he;refine jQl _ _ _ _ _ _ _ _ _ fun e2=>?_
 subst e2;rw[hb] at hq;simp only[Option.some.injEq,Obj.cells.injEq] at hq;exact he hq.2.1.symm
theorem jQnV (K:Int)(hK0:0<=K)(hK:K<=99998)(X:Sq.NTree)(ev cv:Value)(sql:ByteArray)(tb:Nat)(tr:Trl)(w:World)(h:NodeAt Z w X.d X.t ev cv)(hf:Sq.TameT K 800000000 X)(hcn:Sq.countN X.d X.t<=900)(ht:TrAt tb w tr)(hr:Sq.TameR K tr)(hT:Tbl w)(hL:Low tb)(hZ:∀g,w.heap.size<=g->¬Z g)(hok:OkOut (decideR X sql tr).1) :
  Calls Tryz.prog 43 #[.agg (headCells X.head ev cv).toArray,.string sql,.pointer (some ⟨tb,0,none⟩)] w (RunSays Z tb (Sq.runR X sql tr) w):=by
 obtain⟨⟨e1,e2,e3,hev⟩,k1,k2,k3,hcv⟩:=h.slices;subst hev hcv;have hY:tb<=w.heap.size:=Nat.le_of_lt ht.lt;have hG:=Sq.jQbo hf.t hr sql;have hu:∀w',NodeAt (fun g=>Z g\/g=w.heap.size+1) w' X.d X.t (.slice e1 e2 e3) (.slice k1 k2 k3)->TrAt tb w' tr->Tbl w'->Calls Tryz.prog 53 #[.agg (headCells X.head (.slice e1 e2 e3) (.slice k1 k2 k3)).toArray,.string sql,.pointer (some ⟨tb,0,none⟩)] w' (OutSays tb (decideR X sql tr) w'):=fun w' hn ht' hT'=>jQn1 K (by omega) X _ _ sql tb tr w' hn hf hcn ht' hr hT' hL
 have hl:∀w' cv' pv kv,NodeAt (fun g=>Z g\/g=w.heap.size+1) w' X.d X.t (.slice e1 e2 e3) (.slice k1 k2 k3)->TrAt tb w' (decideR X sql tr).2->OutAt w' (decideR X sql tr).1 cv' pv kv->w.heap.size+1<w'.heap.size->Calls Tryz.prog 54 #[.agg (headCells X.head (.slice e1 e2 e3) (.slice k1 k2 k3)).toArray,.agg (outCells (decideR X sql tr).1 cv' pv kv),.pointer (some ⟨tb,0,none⟩)] w' (TreeSays (fun g=>Z g\/g=w.heap.size+1) tb (Sq.applyR (decideR X sql tr).1 (X,(decideR X sql tr).2)) w'):=fun w' cv' pv kv hn ht' ho hs=>jQpL K hK0 hK X _ _ _ cv' pv kv tb _ w' hn hf ht' hG (fun g hg hz=>by rcases hz with hz | hz;exact hZ g (by omega) hz;omega) ho hok
 have hE:Sq.runR X sql tr=((decideR X sql tr).1.reply,Sq.applyR (decideR X sql tr).1 (X,(decideR X sql tr).2)):=rfl;have hO:NodeAt (fun g=>Z g\/g=w.heap.size+1) w X.d X.t (.slice e1 e2 e3) (.slice k1 k2 k3):=h.more (by omega);generalize Sq.applyR (decideR X sql tr).1 (X,(decideR X sql tr).2)=Y at *;obtain⟨⟨o,tr1⟩,ho⟩:∃x,x=decideR X sql tr:=⟨_,rfl⟩;rw[<-ho] at hu hl hE;rw[hE];simp only at hl ⊢;generalize X.head=hh at *;rw[jQc] at hu hl ⊢;have hN:=hd hu;have hH:=hd hl;have HN:=hd hO;have hU:=hd ht;have HT:=hd hT;have HL:=hd hL;clear hu hl hE hO h ht hT hL ho hr hG hf hcn hok hZ;obtain⟨W,hW⟩:∃W:World,W=((w.alloc (.cells #[.bool hh.inner,.slice e1 e2 e3,.slice k1 k2 k3,.int .i64 hh.least,.int .i64 hh.rows,.string hh.sl,.int .i64 hh.num] 60)).alloc (.cells #[.bool false,.slice none 0 0,.slice none 0 0,.int .i64 0,.int .i64 0,.string ⟨#[]⟩,.int .i64 0] 60)).alloc (.cells #[.bool hh.inner,.slice e1 e2 e3,.slice k1 k2 k3,.int .i64 hh.least,.int .i64 hh.rows,.string hh.sl,.int .i64 hh.num] 91):=⟨_,rfl⟩;obtain⟨hbW,hb0,hb1,hb2⟩:=jQT hW;have h2:=jQf hb2;have hp:=hd hbW;have hx:=hd hb1;have hD:=hd hb2;clear hbW hb0 hb1 hb2;go_enter Tryz.func43,Tryz.ntmps43;go_wp2_with fail;rw[<-hW];clear hW;refine(hN.o _ (HN.o.below hp.o) (hU.o.below hp.o) (HT.o.below hp.o)).mono ?_;rintro e w1 ⟨cv9,pv9,kv9,rfl,ho9,ht9,hf9⟩;simp only at ho9 ht9 ⊢;obtain⟨xo9,xc9,rfl⟩:=jQa ho9.cols.1;obtain⟨yo9,yc9,rfl⟩:=ho9.puts.slice;obtain⟨zo9,zc9,rfl⟩:=jQa ho9.cuts;have hi:TFrm tb w w1:=(TFrm.of hp.o hY).trans hf9;have hj:=(hf9.keep _ _ _ _ hx.o (by decide) (by decide)).trans hx.o;have hy:=(hf9.keep _ _ _ _ hD.o (by decide) (by decide)).trans hD.o;have h5:=jQf hy;have h3:=ht9.lt;unfold outCells;obtain⟨V,hV⟩:∃V:World,V=w1.alloc (.cells #[.string o.reply,.bool o.makes,.int .i64 o.tab.number,.string o.tab.name,.slice xo9 o.tab.cols.length xc9,.slice yo9 o.puts.length yc9,.slice zo9 o.cuts.length zc9] 98):=⟨_,rfl⟩;have hc:Below w1.heap.size w1 V:=by rw[hV];exact(bR).alloc (nR) _
 have hB:V.heap[w1.heap.size]?=some (.cells #[.string o.reply,.bool o.makes,.int .i64 o.tab.number,.string o.tab.name,.slice xo9 o.tab.cols.length xc9,.slice yo9 o.puts.length yc9,.slice zo9 o.cuts.length zc9] 98):=by rw[hV];exact jQi _ _
 obtain⟨s0,s1,s2,s3,s4,s5,s6⟩:=jQs hy;have hq:=hd hi;have hw:=hd ((hc.block _ (by omega)).trans hj);have HO:=hd (ho9.below hc);have hM:=hd (ht9.below hc);have hJ:=hd (((HN.o.tfrm hi).below hc));have hI:=hd hc;have hA:=hd hB;have h1:=hc.size;have hQ:=jQf hB;clear ho9 ht9 hf9 hi hj hy hc hB hN hp hx hD;go_wp2_with fail;rw[<-hV];clear hV;refine(hH.o _ _ _ _ hJ.o hM.o HO.o (by omega)).mono ?_;rintro e w2 ⟨ev2,cv2,rfl,hn2,ht2,hf2⟩;obtain⟨⟨a1,a2,a3,hev⟩,b1,b2,b3,hcv⟩:=hn2.slices;subst hev hcv;rw[jQc];have hj:=(hf2.keep _ _ _ _ hw.o (by decide) (by decide)).trans hw.o;have hC:=(hf2.keep _ _ _ _ hA.o (by decide) (by decide)).trans hA.o;have hm:TFrm tb w w2:=hq.o.trans ((TFrm.of hI.o (by omega)).trans hf2);have h6:=jQf hC;have hX:=ht2.lt;clear s0 s1 s2 s3 s4 s5 s6 hw hA hq hI HO hM hJ hH HN;obtain⟨Y1,Y2⟩:=Y;simp only at hn2 ht2 ⊢;generalize hyh:Y1.head=yh at *;obtain⟨V2,hV2⟩:∃V2:World,V2=w2.alloc (.cells #[.bool yh.inner,.slice a1 a2 a3,.slice b1 b2 b3,.int .i64 yh.least,.int .i64 yh.rows,.string yh.sl,.int .i64 yh.num] 91):=⟨_,rfl⟩;have ha:Below w2.heap.size w2 V2:=by rw[hV2];exact(bR).alloc (nR) _
 have hv:V2.heap[w2.heap.size]?=some (.cells #[.bool yh.inner,.slice a1 a2 a3,.slice b1 b2 b3,.int .i64 yh.least,.int .i64 yh.rows,.string yh.sl,.int .i64 yh.num] 91):=by rw[hV2];exact jQi _ _
 have hb:=(ha.block _ (by omega)).trans hj;have he:=(ha.block _ (by omega)).trans hC;have d0:V2.cell? ⟨w1.heap.size,0,none⟩=some (.string o.reply):=by rw[jQb he];rfl
 obtain⟨p0,p1,p2,p3,p4,p5,p6⟩:=jQs hv;obtain⟨g0,g1,g2,g3,g4,g5,g6⟩:=jQs hb;obtain⟨f0,f1,f2,f3,f4,f5,f6⟩:=jQk hb;have h4:=jQf hv;have hR:=jQf hb;have h0:=jQf he
 have hk:∀U:World,U.heap[w.heap.size+1]?=some (.cells #[.bool false,.slice none 0 0,.slice none 0 0,.int .i64 0,.int .i64 0,.string ⟨#[]⟩,.int .i64 0] 60)->NodeAt (fun g=>Z g\/g=w.heap.size+1) U Y1.d Y1.t (.slice a1 a2 a3) (.slice b1 b2 b3)->TrAt tb U Y2->TFrm tb w U->RunSays Z tb (o.reply,Y1,Y2) w (.returned (.tuple #[.string o.reply,.agg #[.bool yh.inner,.slice a1 a2 a3,.slice b1 b2 b3,.int .i64 yh.least,.int .i64 yh.rows,.string yh.sl,.int .i64 yh.num]])) (set7 U (w.heap.size+1) (.bool yh.inner) (.slice a1 a2 a3) (.slice b1 b2 b3) (.int .i64 yh.least) (.int .i64 yh.rows) (.string yh.sl) (.int .i64 yh.num)):=by
  intro U u1 u2 u3 u4;refine⟨.slice a1 a2 a3,.slice b1 b2 b3,by simp only[hyh,jQc],?_,jQlW u3 u1 _ _ _ _ _ _ _,u4.set7 (by omega) (by omega) _ _ _ _ _ _ _⟩;refine NodeAt.less (Z:=fun g=>Z g\/g=w.heap.size+1) (fun g hg=>Or.inl hg) ?_;exact NodeAt.skip u2 (Or.inr rfl) u1 (fun g hg=>jQl _ _ _ _ _ _ _ _ _ hg)
 have hF:=hk V2 hb (hn2.below ha) (ht2.below ha) (hm.trans (TFrm.of ha (by omega)));have hP:=hd hF;have hS:=hd (hF.drew);clear hF hk hn2 ht2 hf2 hj hC hm ha hv hb he hyh;go_wp2;rw[<-hV2];clear hV2
 go_region_with fail
 all_goals(try go_wp2_with fail)
 all_goals refine bodyPost_ret (v:=.tuple #[.string o.reply,.agg #[.bool yh.inner,.slice a1 a2 a3,.slice b1 b2 b3,.int .i64 yh.least,.int .i64 yh.rows,.string yh.sl,.int .i64 yh.num]]) (by simp[results,Tryz.results43,go_sem, *]) rfl ?_
 all_goals(first | exact hS.o | exact hP.o)
end
namespace Sq
theorem jQlU:∀{cols:List Col} {row:List Val} {k:Nat} {c:Col},typed cols row->cols[k]?=some c->∃v,row[k]?=some v/\v.kind=c.kind/\goodVal v
 | [],_,k,c,_,h=>by simp at h
 | _::_,[],_,_,ht,_=>by unfold typed at ht;exact ht.elim
 | x::q,v::r,0,c,ht,h=>by
  unfold typed at ht;simp at h;subst h;exact⟨v,rfl,ht.1⟩
 | x::q,v::r,k+1,c,ht,h=>by
  unfold typed at ht;exact jQlU (k:=k) ht.2 (by simpa using h)
theorem jQjv:∀{cols:List Col} {row:List Val} {k:Nat} {c:Col} {v:Val},typed cols row->cols[k]?=some c->v.kind=c.kind->goodVal v->typed cols (row.set k v)
 | [],_,k,c,_,_,h,_,_=>by simp at h
 | _::_,[],_,_,_,ht,_,_,_=>by unfold typed at ht;exact ht.elim
 | x::q,u::r,0,c,v,ht,h,h1,h2=>by
  unfold typed at ht;simp at h;subst h;rw[List.set_cons_zero];unfold typed;exact⟨⟨h1,h2⟩,ht.2⟩
 | x::q,u::r,k+1,c,v,ht,h,h1,h2=>by
  unfold typed at ht;rw[List.set_cons_succ];unfold typed;exact⟨ht.1,jQjv (k:=k) ht.2 (by simpa using h) h1 h2⟩
theorem jQlS:∀{cols:List Col} {vals:List Val},vals.length=cols.length->checkValuesFrom vals cols=0->(∀v∈vals,goodVal v)->typed cols vals
 | [],[],_,_,_=>by unfold typed;trivial
 | [],_::_,h,_,_=>by simp at h
 | _::_,[],h,_,_=>by simp at h
 | c::q,v::r,h,hc,hg=>by
  rw[checkValuesFrom] at hc
  split at hc
  ·simp at hc
  ·rename_i hk;unfold typed;exact⟨⟨by simpa using hk,hg v (by simp)⟩,jQlS (by simpa using h) hc fun x hx=>hg x (by simp[hx])⟩
theorem jQd4 {cols:List Col}{vals:List Val}(h:checkValues cols vals=0)(hg:∀v∈vals,goodVal v):typed cols vals:=by
 unfold checkValues at h
 split at h
 ·simp at h
 ·rename_i hl;exact jQlS (by simpa using hl) h hg
theorem jQnq {cols:List Col}{row:List Val}{t:Term}(ht:typed cols row)(hl:goodVal t.lit)(hk:(kindOf cols t).2=true):(valueOf cols row t).kind=(kindOf cols t).1/\goodVal (valueOf cols row t):=by
 unfold kindOf at hk ⊢;unfold valueOf
 split
 ·rename_i h1;exact⟨rfl,hl⟩
 ·rename_i h1;rw[if_neg h1] at hk;rcases jQcN cols t.column with h2 | ⟨k,hlt,h2⟩
  ·rw[jQdv cols _ h2] at hk;simp at hk
  ·rw[jQcS cols _ k hlt h2];obtain⟨v,hv,hvk,hvg⟩:=jQlU ht (List.getElem?_eq_getElem hlt);unfold cellOf;rw[h2,if_neg (by omega),Int.toNat_natCast,hv];exact⟨hvk,hvg⟩
theorem jQk7 {cols:List Col}{row:List Val}{s:SetS}{target:Int}(ht:typed cols row)(hl:goodVal s.first.lit)(hc:checkSum cols target s=0)(hk:okKind target)(hr:(result cols row s).2=true):(result cols row s).1.kind=target/\goodVal (result cols row s).1:=by
 unfold checkSum at hc
 split at hc
 ·simp at hc
 ·rename_i h1
  split at hc
  ·simp at hc
  ·rename_i h2;have hb:(kindOf cols s.first).2=true:=by simpa using h1
   have ha:(kindOf cols s.first).1=target:=by simpa using h2
   have hv:=jQnq ht hl hb
   split at hc
   ·rename_i h3;unfold result;rw[if_pos h3];exact⟨hv.1.trans ha,hv.2⟩
   ·rename_i h3
    split at hc
    ·simp at hc
    ·split at hc
     ·simp at hc
     ·rename_i h5
      have h6:target=0:=by
       rcases hk with hk | hk
       ·exact hk
       ·rw[ha,hk] at h5;simp at h5
      unfold result at hr ⊢;rw[if_neg h3] at hr ⊢
      split
      ·rename_i h7;rw[if_pos h7] at hr;simp at hr
      ·rename_i h7;rw[if_neg h7] at hr
       split
       ·rename_i h8;rw[if_pos h8] at hr;simp at hr
       ·refine⟨h6.symm,Or.inl ⟨rfl,?_,?_,rfl⟩⟩
        ·show _<=numOf _ _ _;omega
        ·show numOf _ _ _<=_;omega
def okAsg (cols:List Col)(s:SetS):Prop:=∃k c,find cols s.column=((k+1:Nat):Int)/\cols[k+1]?=some c/\checkSum cols c.kind s=0
theorem jQlt {cols:List Col}{e:List SetS}{s:SetS}(h:checkSet cols e s=0):okAsg cols s:=by
 unfold checkSet at h
 split at h
 ·rename_i c hc
  split at h
  ·simp at h
  ·rename_i h1
   split at h
   ·simp at h
   ·rename_i h2
    split at h
    ·simp at h
    ·have ha:find cols s.column≠0:=by simpa using h2
     obtain⟨k,hk⟩:∃k,(find cols s.column).toNat=k+1:=⟨(find cols s.column).toNat-1,by omega⟩;refine⟨k,c,by omega,by rw[hk] at hc;exact hc,h⟩
 ·simp at h
theorem jQe4 {cols:List Col}:∀{sets e:List SetS},checkSetsFrom cols e sets=0->∀s∈sets,okAsg cols s
 | [],_,_,s,hs=>by simp at hs
 | x::r,e,h,s,hs=>by
  rw[checkSetsFrom] at h
  split at h
  ·rename_i hx;rw[h] at hx;simp at hx
  ·rename_i hx;rcases List.mem_cons.1 hs with rfl | hs
   ·exact jQlt (e:=e) (by simpa using hx)
   ·exact jQe4 h s hs
theorem jQd5 {cols:List Col}(hk:∀c∈cols,okKind c.kind){old:List Val}(ho:typed cols old):∀{sets:List SetS} {row:List Val},(∀s∈sets,goodVal s.first.lit/\okAsg cols s)->typed cols row->(assignFrom cols old sets row).2=true->typed cols (assignFrom cols old sets row).1
 | [],row,_,h,_=>h
 | s::r,row,hs,h,h4=>by
  rw[assignFrom] at h4 ⊢
  split
  ·rename_i hr;rw[if_pos hr] at h4;refine jQd5 hk ho (fun x hx=>hs x (by simp[hx])) ?_ h4;obtain⟨hl,k,c,h1,h2,h3⟩:=hs s (by simp);unfold assignStep;rw[h1,if_neg (by omega),Int.toNat_natCast]
   have:=jQk7 ho hl h3 (hk c (List.mem_of_getElem? h2)) hr
   exact jQjv h h2 this.1 this.2
  ·rename_i hr;rw[if_neg hr] at h4;simp at h4
structure goodD (db:List Tab):Prop where
 g:good db
 names:∀t∈db,okNm t.name
 cols:∀t∈db,okCols t.cols
 two:∀t∈db,twoOf t.cols=false
 typed:∀t∈db,∀r∈t.rows,typed t.cols r
theorem jQps:goodD []:=⟨jQqR,by simp,by simp,by simp,by simp⟩
structure okOut (db:List Tab)(o:Out):Prop where
 make:o.makes=true->okNm o.name/\okCols o.cols/\twoOf o.cols=false/\o.puts=[]/\o.cuts=[]
 puts:∀p∈o.puts,∃k t,o.table=((k:Nat):Int)/\db[k]?=some t/\Sq.typed t.cols p
theorem jQld {db:List Tab}(h:goodD db){o:Out}(hg:good (apply db o))(ho:okOut db o):goodD (apply db o):=by
 have key:∀t∈apply db o,(∃u∈db,t.name=u.name/\t.cols=u.cols/\∀r∈t.rows,Sq.typed t.cols r)\/(okNm t.name/\okCols t.cols/\twoOf t.cols=false/\∀r∈t.rows,Sq.typed t.cols r):=by
  intro t ht;unfold apply made at ht;cases hm:o.makes with
  | true =>
   obtain⟨h1,h2,h3,h4,h5⟩:=ho.make hm;rw[hm,h4,h5] at ht;simp only[if_true] at ht;have e:(setRows (db++[⟨o.name,o.cols,[]⟩]) o.table.toNat (cutAll [] (putAll [] (rowsAt (db++[⟨o.name,o.cols,[]⟩]) o.table.toNat))))=db++[⟨o.name,o.cols,[]⟩]:=jQah _ _;rw[e] at ht;rcases List.mem_append.1 ht with ht | ht
   ·exact Or.inl ⟨t,ht,rfl,rfl,h.typed t ht⟩
   ·simp at ht;subst ht;exact Or.inr ⟨h1,h2,h3,by simp⟩
  | false =>
   rw[hm] at ht;simp only[Bool.false_eq_true,if_false] at ht
   left
   by_cases hk:o.table.toNat<db.length
   ·rw[jQaM db _ hk] at ht;rcases List.mem_or_eq_of_mem_set ht with ht | rfl
    ·exact⟨t,ht,rfl,rfl,h.typed t ht⟩
    ·refine⟨db[o.table.toNat],List.getElem_mem hk,rfl,rfl,?_⟩;intro r hr;have hr:=jQe0 _ hr;rcases jQer _ hr with hr | hr
     ·obtain⟨k,t,h1,h2,h3⟩:=ho.puts r hr;have e:o.table.toNat=k:=by omega
      obtain⟨hk',e2⟩:=List.getElem?_eq_some_iff.1 h2;subst e e2;exact h3
     ·rw[jQbh db _ hk] at hr;exact h.typed _ (List.getElem_mem hk) r hr
   ·have e:∀x,setRows db o.table.toNat x=db:=fun x=>by
     unfold setRows;rw[List.getElem?_eq_none (by omega)]
    rw[e] at ht;exact⟨t,ht,rfl,rfl,h.typed t ht⟩
 refine⟨hg,fun t ht=>?_,fun t ht=>?_,fun t ht=>?_,fun t ht=>?_⟩
 ·rcases key t ht with⟨u,hu,h1,h2,h3⟩ | ⟨h1,h2,h3,h4⟩
  ·rw[h1];exact h.names u hu
  ·exact h1
 ·rcases key t ht with⟨u,hu,h1,h2,h3⟩ | ⟨h1,h2,h3,h4⟩
  ·rw[h2];exact h.cols u hu
  ·exact h2
 ·rcases key t ht with⟨u,hu,h1,h2,h3⟩ | ⟨h1,h2,h3,h4⟩
  ·rw[h2];exact h.two u hu
  ·exact h3
 ·rcases key t ht with⟨u,hu,h1,h2,h3⟩ | ⟨h1,h2,h3,h4⟩
  ·exact h3
  ·exact h4
theorem jQD (db:List Tab)(n:Int):okOut db (refused n):=⟨fun h=>by simp[refused] at h,fun p hp=>by simp[refused] at hp⟩
theorem jQjW {db:List Tab}(h:goodD db){k:Nat}{t:Tab}(ht:db[k]?=some t)(st:PSt)(n:Nat)(hst:okRead goodVal n st):okOut db (decideTab db t k st):=by
 have hg:=List.mem_of_getElem? ht;have he:=h.cols t hg;unfold decideTab
 split
 ·exact jQD _ _
 ·rename_i hc;have hb:=jQgT _ _ (by simpa using hc);unfold checkAct at hb
  split
  ·rename_i ha;rw[if_pos ha] at hb;unfold Sq.insert
   split
   ·exact jQD _ _
   ·split
    ·exact jQD _ _
    ·refine⟨fun hm=>by simp at hm,fun p hp=>?_⟩;simp at hp;subst hp;exact⟨k,t,rfl,ht,jQd4 hb hst.vals⟩
  ·rename_i ha;rw[if_neg ha] at hb
   split
   ·rename_i ha3;rw[if_pos ha3] at hb;unfold Sq.update;cases hu:updateFrom t.cols st.sets (meeting t st.wher) [] with
    | none=>exact jQD _ _
    | some puts =>
     unfold updated;refine⟨fun hm=>by simp at hm,fun p hp=>⟨k,t,rfl,ht,?_⟩⟩;rcases jQcn _ _ _ _ _ hu p hp with h1 | ⟨r,hr,h2,rfl⟩
     ·simp at h1
     ·have hh:r∈t.rows:=(List.mem_filter.1 hr).1;have hf:=h.typed t hg r hh;unfold assigned at h2 ⊢;exact jQd5 (fun c hc=>(he.each c hc).2) hf (fun s hs=>⟨(hst.sets s hs).1,jQe4 hb s hs⟩) hf h2
   ·split
    ·unfold Sq.remove;exact⟨fun hm=>by simp at hm,fun p hp=>by simp at hp⟩
    ·exact⟨fun hm=>by simp at hm,fun p hp=>by simp at hp⟩
theorem jQew {db:List Tab}(h:goodD db)(sql:ByteArray):okOut db (Sq.decide db sql):=by
 unfold Sq.decide
 split
 ·exact jQD _ _
 ·rename_i h0;have hc:(parse sql).1=0:=by simpa using h0
  unfold decideSt
  split
  ·rename_i ha;have hb:(parse sql).2.act=1:=by simpa using ha
   have hm:=jQmQ sql hc hb;have hh:=jQhE sql hb;unfold create
   split
   ·exact jQD _ _
   ·split
    ·exact jQD _ _
    ·split
     ·exact jQD _ _
     ·split
      ·exact jQD _ _
      ·split
       ·exact jQD _ _
       ·rename_i h1 h2 h3 h4 h5;exact⟨fun _=>⟨hm.1,⟨by show(parse sql).2.cols.length<=4;omega,hh,hm.2⟩,by simpa using h3,rfl,rfl⟩,fun p hp=>by simp at hp⟩
  ·split
   ·rename_i t hx
    split
    ·exact jQD _ _
    ·rename_i h1;obtain⟨k,hk⟩:=Int.eq_ofNat_of_zero_le (show 0<=findTab db (parse sql).2.table by omega);rw[hk] at hx ⊢;rw[Int.toNat_natCast] at hx;exact jQjW h hx _ 163 (jQcE sql).1
   ·exact jQD _ _
theorem jQle {db:List Tab}(h:goodD db)(sql:ByteArray):goodD (after db sql):=jQld h (jQnJ h.g sql) (jQew h sql)
end Sq
namespace Sq
theorem jQd9 {n:Nat}(lo hi:Int)(g:Nd n->Trl->List Ent×Trl)(hg:∀c x tr,rep n c x->(g c tr).2.lost=tr.lost):∀{l:List (Nd n)} {cs:List (List (Kid n))},reps n l cs->∀y,(thruL (headN n) g lo hi l y).2.lost=y.2.lost
 | [],[],_,y=>rfl
 | [],x::cs,h,_=>by have:=h.len;simp at this
 | c::l,[],h,_=>by have:=h.len;simp at this
 | c::l,x::cs,h,y=>by
  obtain⟨h1,h2⟩:=reps.cons.1 h;rw[thruL]
  split
  ·rw[jQd9 lo hi g hg h2];exact hg c x _ h1
  ·rw[jQd9 lo hi g hg h2]
theorem jQjz:∀(n:Nat) (t:Nd n) (x:List (Kid n)) (lo hi:Int) (tr:Trl),rep n t x->(thruN n t lo hi tr).2.lost=tr.lost
 | 0,t,x,lo,hi,tr,h=>by
  obtain⟨h1,h2,h3⟩:=rep.leaf h;have ho:=h.open
  show(thruF _ _ t lo hi tr).2.lost=_
  unfold thruF;rw[h3,thruL];exact jQaH ho
 | n+1,t,x,lo,hi,tr,h=>by
  obtain⟨h1,h2,h3⟩:=rep.inner h;have ho:=h.open
  show(thruF (headN n) (thruN n) t lo hi tr).2.lost=_
  unfold thruF;rw[jQd9 lo hi _ (fun c y tr hr=>jQjz n c y lo hi tr hr) h3];exact jQaH ho
theorem jQnG:∀(n:Nat) (t:Nd n) (x:List (Kid n)) (p:Int) (tr:Trl),rep n t x->(hasN n t p tr).2.lost=tr.lost
 | 0,t,x,p,tr,h=>by
  obtain⟨h1,h2,-⟩:=rep.leaf h;have ho:=h.open
  show(hasF _ _ t p tr).2.lost=_
  unfold hasF;rw[h1];exact jQaH ho
 | n+1,t,x,p,tr,h=>by
  obtain⟨h1,-,h3⟩:=rep.inner h;have ho:=h.open
  show(hasF (headN n) (hasN n) t p tr).2.lost=_
  unfold hasF;rw[h1];simp only[if_true];cases hc:t.kids[wayF (headN n) t.kids p]? with
  | none=>exact jQaH ho
  | some c =>
   obtain⟨y,hy,hr⟩:=h3.at hc;exact(jQnG n c y p _ hr).trans (jQaH ho)
structure Stands (X:NTree)(db:List Tab):Prop where
 at_:∃x,repT X x/\x.ok/\x.full/\x.ents=encDB db
theorem stands0:Stands ntree0 []:=⟨⟨tree0,repT0,jQqj,full0,rfl⟩⟩
theorem Stands.thru {X:NTree}{db:List Tab}(h:Stands X db)(lo hi:Int)(tr:Trl):(X.thru lo hi tr).1=(encDB db).filter (inside lo hi)/\(X.thru lo hi tr).2.lost=tr.lost:=by
 obtain⟨x,h1,h2,-,h4⟩:=h.at_;refine⟨?_,?_⟩
 ·rw[h1.thru lo hi tr,<-h4];exact jQqb x.d x.t lo hi h2.kids h2.sorted
 ·obtain⟨n,t,y,rfl,rfl,hr⟩:=h1.cases;exact jQjz n t y lo hi tr hr
theorem Stands.has {X:NTree}{db:List Tab}(h:Stands X db)(p:Int)(tr:Trl):(X.has p tr).1=((encDB db).any fun x=>x.place==p)/\(X.has p tr).2.lost=tr.lost:=by
 obtain⟨x,h1,h2,-,h4⟩:=h.at_;refine⟨?_,?_⟩
 ·rw[h1.has p tr,<-h4];exact jQp5 x.d x.t p h2.kids h2.ne h2.sorted
 ·obtain⟨n,t,y,rfl,rfl,hr⟩:=h1.cases;exact jQnG n t y p tr hr
theorem Stands.size {X:NTree}{db:List Tab}(h:Stands X db):X.head.rows=(dbSize db:Nat):=by
 obtain⟨x,h1,h2,-,h4⟩:=h.at_;have e:=jQkm db;obtain⟨n,t,y,rfl,rfl,hr⟩:=h1.cases;have h5:=hr.head.2.2.1
 show(headN n t).rows=_
 have h6:ents n y=encDB db:=h4;rw[h5,h6,e]
theorem Stands.put {X:NTree}{db db':List Tab}(h:Stands X db)(e:Ent)(tr:Trl)(he:ins (encDB db) e=encDB db'):Stands (X.put e tr).1 db':=by
 obtain⟨x,h1,h2,h3,h4⟩:=h.at_
 have:=jQqu h2 e
 exact⟨⟨x.put e,h1.put h2 e tr,this.1,h3.put e,by rw[this.2,h4,he]⟩⟩
theorem Stands.del {X:NTree}{db db':List Tab}(h:Stands X db)(p:Int)(tr:Trl)(he:(encDB db).filter (fun y=>y.place != p)=encDB db'):Stands (X.del p tr).1 db':=by
 obtain⟨x,h1,h2,h3,h4⟩:=h.at_
 have:=jQqY h2 p
 exact⟨⟨x.del p,h1.del p tr,this.1,h3.del p,by rw[this.2,h4,he]⟩⟩
theorem Stands.numbered {X:NTree}{db:List Tab}(h:Stands X db):Stands X.numbered db:=by
 obtain⟨x,h1,h2⟩:=h.at_;exact⟨⟨x,h1.numbered,h2⟩⟩
def tabNs:Nat->List Tab->List TabN
 | _,[]=>[]
 | i,t::q=>⟨(i:Int),t.name,t.cols⟩::tabNs (i+1) q
theorem jQjF:∀(i:Nat) (db:List Tab),(tabNs i db).length=db.length
 | _,[]=>rfl
 | i,t::q=>by rw[tabNs,List.length_cons,jQjF,List.length_cons]
theorem jQoM {i:Nat}{t:Tab}(h1:1<=i)(h5:i<=5)(hn:okNm t.name)(hc:okCols t.cols):tabOk (tabEnt i t)=some ⟨(i:Int),t.name,t.cols⟩:=by
 unfold tabOk tabOf tabEnt;simp only;rw[jQlX hn hc,jQfS 0 i (by omega) (by omega)];simp only[Option.map_some,Option.bind_some];rw[if_pos ⟨by omega,by omega⟩]
theorem jQl2:∀{db:List Tab} {i:Nat},1<=i->i+db.length<=6->(∀t∈db,okNm t.name)->(∀t∈db,okCols t.cols)->(encTs i db).filterMap tabOk=tabNs i db/\((encTs i db).any fun e=>(tabOk e).isNone)=false
 | [],_,_,_,_,_=>⟨rfl,rfl⟩
 | t::q,i,h1,h5,hn,hc=>by
  rw[List.length_cons] at h5;have h:=jQoM h1 (by omega) (hn t (by simp)) (hc t (by simp));have ih:=jQl2 (db:=q) (i:=i+1) (by omega) (by omega) (fun x hx=>hn x (by simp[hx])) (fun x hx=>hc x (by simp[hx]));rw[encTs,List.filterMap_cons,h,tabNs,List.any_cons,h,ih.1,ih.2];exact⟨rfl,rfl⟩
theorem jQhP (tr:Trl):loseIf false tr=tr:=by
 unfold loseIf;simp
theorem jQqk {X:NTree}{db:List Tab}(h:Stands X db)(hd:goodD db)(tr:Trl):(tabsR X tr).1=tabNs 1 db/\(tabsR X tr).2.lost=tr.lost:=by
 have h1:=h.thru (placeOf 0 (-2147483648)) (placeOf 0 2147483647) tr;rw[jQq5 hd.g.laid] at h1;have hf:=hd.g.few;have h2:=jQl2 (db:=db) (i:=1) (by omega) (by omega) hd.names hd.cols;unfold tabsR;rw[h1.1,h2.1,h2.2,jQhP];exact⟨rfl,h1.2⟩
theorem jQgG (n:ByteArray):∀(db:List Tab) (i:Nat) (j:Int),0<=j->(findTabFrom n db j=-1/\findR n (tabNs i db)=none)\/∃k t,findTabFrom n db j=j+((k:Nat):Int)/\db[k]?=some t/\findR n (tabNs i db)=some ⟨((i+k:Nat):Int),t.name,t.cols⟩
 | [],_,_,_=>Or.inl ⟨rfl,rfl⟩
 | t::q,i,j,hj=>by
  rw[findTabFrom,tabNs,findR]
  split
  ·rename_i h;exact Or.inr ⟨0,t,by omega,rfl,rfl⟩
  ·rename_i h;rcases jQgG n q (i+1) (j+1) (by omega) with h1 | ⟨k,u,h1,h2,h3⟩
   ·exact Or.inl h1
   ·refine Or.inr ⟨k+1,u,by omega,by simpa using h2,?_⟩;rw[h3,show i+1+k=i+(k+1) by omega]
theorem jQj8:∀(db:List Tab) (i:Nat),lastR (i:Int) (tabNs (i+1) db)=((i+db.length:Nat):Int)
 | [],i=>rfl
 | t::q,i=>by
  have ih:=jQj8 q (i+1);unfold lastR at ih ⊢;rw[tabNs,List.foldl_cons];simp only;rw[if_pos (by omega),ih,List.length_cons,show i+1+q.length=i+(q.length+1) by omega]
theorem jQo1 {cols:List Col}{i:Nat}{r:List Val}(hc:okCols cols)(ht:typed cols r)(hk:keyOk r):rowOf cols (rowEnt i r)=some r:=by
 unfold rowOf rowEnt;simp only;rw[jQfS _ _ hk.1 hk.2];exact jQlY hc ht
theorem jQmp {cols:List Col}{i:Nat}(hc:okCols cols):∀{l:List (List Val)},(∀r∈l,typed cols r/\keyOk r)->(l.map (rowEnt i)).filterMap (rowOf cols)=l/\((l.map (rowEnt i)).any fun e=>(rowOf cols e).isNone)=false
 | [],_=>⟨rfl,rfl⟩
 | r::l,h=>by
  have h1:=jQo1 (i:=i) hc (h r (by simp)).1 (h r (by simp)).2;have ih:=jQmp (i:=i) hc (l:=l) fun x hx=>h x (by simp[hx])
  rw[List.map_cons,List.filterMap_cons,h1,List.any_cons,h1,ih.2];simp only;rw[ih.1];exact⟨rfl,rfl⟩
theorem jQqr {X:NTree}{db:List Tab}(h:Stands X db)(hd:goodD db){k:Nat}{t:Tab}(ht:db[k]?=some t){lo hi:Int}(h0:-2147483648<=lo)(h1:lo<=2147483647)(h2:-2147483648<=hi)(h3:hi<=2147483647)(tr:Trl) :
  (rowsR X ⟨((1+k:Nat):Int),t.name,t.cols⟩ lo hi tr).1=(t.rows.filter fun r=>Decidable.decide (lo<=keyOf r)&&Decidable.decide (keyOf r<=hi))/\(rowsR X ⟨((1+k:Nat):Int),t.name,t.cols⟩ lo hi tr).2.lost=tr.lost:=by
 have ha:=List.mem_of_getElem? ht;have g1:=h.thru (placeOf ((1+k:Nat):Int) lo) (placeOf ((1+k:Nat):Int) hi) tr;rw[jQq6 hd.g.laid ht h0 h1 h2 h3] at g1;have g2:=jQmp (i:=1+k) (hd.cols t ha) (l:=t.rows.filter fun r=>Decidable.decide (lo<=keyOf r)&&Decidable.decide (keyOf r<=hi)) fun r hr=>⟨hd.typed t ha r (List.mem_filter.1 hr).1,hd.g.laid.keys t ha r (List.mem_filter.1 hr).1⟩
 unfold rowsR;simp only;rw[g1.1,g2.1,g2.2,jQhP];exact⟨rfl,g1.2⟩
theorem jQlT {cols:List Col}{r:List Val}(hc:okCols cols)(ht:typed cols r):∃x q,r=⟨0,keyOf r,x⟩::q:=by
 obtain⟨c,q,rfl,hk⟩:=hc.head;cases r with
 | nil=>unfold typed at ht;exact ht.elim
 | cons v r =>
  unfold typed at ht;obtain⟨vk,vn,vt⟩:=v
  have:vk=0:=ht.1.1.trans hk
  subst this;exact⟨vt,r,rfl⟩
theorem jQkP {X:NTree}{db:List Tab}(h:Stands X db)(hd:goodD db){k:Nat}{t:Tab}(ht:db[k]?=some t){wher:List StepS}(hw:okWh wher)(tr:Trl) :
  metN t.cols (spannedR X ⟨((1+k:Nat):Int),t.name,t.cols⟩ wher tr).1 wher=meeting t wher/\(spannedR X ⟨((1+k:Nat):Int),t.name,t.cols⟩ wher tr).2.lost=tr.lost:=by
 have ha:=List.mem_of_getElem? ht
 have hc:∀r∈t.rows,meets t.cols r wher=true->inS (spanOf t.cols wher) (keyOf r):=by
  intro r hr hm;obtain⟨x,q,e⟩:=jQlT (hd.cols t ha) (hd.typed t ha r hr);have hk:=hd.g.laid.keys t ha r hr;rw[e] at hm;exact jQmi t.cols wher (keyOf r) x q hk.1 hk.2 hm
 unfold spannedR;simp only
 split
 ·rename_i hs;unfold hasKeys at hs;simp only[decide_eq_true_eq] at hs;have hb:=jQjU t.cols hw hs;have hr:=jQqr h hd ht (lo:=(spanOf t.cols wher).lo) (hi:=(spanOf t.cols wher).hi) hb.1 (by omega) (by omega) hb.2 tr;refine⟨?_,hr.2⟩;rw[hr.1];unfold metN meeting;rw[List.filter_filter];refine List.filter_congr fun r hr=>?_
  cases hm:meets t.cols r wher with
  | false=>rfl
  | true =>
   have:=hc r hr hm
   unfold inS at this;simp[this.1,this.2]
 ·rename_i hs;unfold hasKeys at hs;simp only[decide_eq_true_eq] at hs;refine⟨?_,rfl⟩;unfold metN meeting
  symm
  rw[List.filter_nil,List.filter_eq_nil_iff];intro r hr hm
  have:=hc r hr hm
  unfold inS at this;omega
theorem jQpR (cols:List Col):∀(l:List Col) (i:Nat),twoFrom cols l i=false->(l.map fun c=>find cols c.name)=(List.range l.length).map fun k:Nat=>((i+k:Nat):Int)
 | [],_,_=>rfl
 | c::r,i,h=>by
  rw[twoFrom] at h
  split at h
  ·cases h
  ·rename_i hf;have ha:find cols c.name=(i:Int):=by simpa using hf
   have ih:=jQpR cols r (i+1) h;rw[List.map_cons,ha,ih,List.length_cons,List.range_succ_eq_map,List.map_cons,List.map_map]
   congr 1
   refine List.map_congr_left fun k _=>?_
   show((i+1+k:Nat):Int)=((i+(k+1):Nat):Int)
   congr 1
   omega
theorem jQmL {cols:List Col}(h:twoOf cols=false):placedR cols (cols.map Col.name)=upToR cols.length:=by
 have:=jQpR cols cols 0 h
 unfold placedR upToR;rw[List.map_map];refine Eq.trans this ?_;refine List.map_congr_left fun k _=>?_
 rw[Nat.zero_add]
theorem jQms (cols:List Col)(row:List Val)(items:List ByteArray):rowTextR row (placedR cols items)=rowText cols row items:=by
 unfold rowTextR rowText placedR;rw[List.map_map];rfl
theorem jQj5 (cols:List Col)(rows:List (List Val))(items:List ByteArray):listedR (placedR cols items) rows=listed cols items rows:=by
 unfold listedR listed
 congr 1
 funext r
 rw[jQms]
theorem jQoN (cols:List Col)(rows:List (List Val))(items:List ByteArray):summedR (placedR cols items) rows=sumRows cols items rows:=by
 unfold summedR sumRows sumRow sumItems placedR;simp only[List.map_map];rfl
theorem jQrn {t:Tab}(h:twoOf t.cols=false)(rows:List (List Val))(st:PSt):showR t.cols rows st=showRows t st rows:=by
 unfold showR showRows;rw[<-jQmL h,jQj5,jQj5,jQoN];rfl
structure Agree (db:List Tab)(o:Out)(p:OutR):Prop where
 reply:p.reply=o.reply
 makes:p.makes=o.makes
 tab:o.makes=true->p.tab=⟨(db.length:Int)+1,o.name,o.cols⟩/\o.puts=[]/\o.cuts=[]/\db.length<5
 puts:p.puts=o.puts
 cuts:p.cuts=o.cuts
 place:o.makes=false->(o.puts=[]/\o.cuts=[])\/∃k t,o.table=((k:Nat):Int)/\db[k]?=some t/\p.tab.number=((1+k:Nat):Int)
 kput:∀r∈o.puts,keyOk r
 kcut:∀c∈o.cuts,-2147483648<=c/\c<=2147483647
theorem jQE (db:List Tab)(n:Int):Agree db (refused n) (refusedR n):=⟨rfl,rfl,fun h=>(by cases h),rfl,rfl,fun _=>Or.inl ⟨rfl,rfl⟩,fun r hr=>(by cases hr),fun c hc=>(by cases hc)⟩
theorem jQjw {cols:List Col}{r:List Val}(hc:okCols cols)(ht:typed cols r):keyOk r:=by
 obtain⟨c,q,rfl,hk⟩:=hc.head;cases r with
 | nil=>unfold typed at ht;exact ht.elim
 | cons v r =>
  unfold typed at ht;exact jQi0 ht.1.2
theorem jQpM {X:NTree}{db:List Tab}(h:Stands X db)(hd:goodD db){k:Nat}{t:Tab}(ht:db[k]?=some t)(st:PSt)(n:Nat)(hst:okRead goodVal n st)(hw:okWh st.wher)(tr:Trl) :
  Agree db (decideTab db t k st) (decideTabR X ⟨((1+k:Nat):Int),t.name,t.cols⟩ st tr).1/\(decideTabR X ⟨((1+k:Nat):Int),t.name,t.cols⟩ st tr).2.lost=tr.lost:=by
 have hg:=List.mem_of_getElem? ht;have hf:=hd.cols t hg;have he:=jQjW hd ht st n hst;unfold decideTab at he ⊢;unfold decideTabR;simp only
 split
 ·exact⟨jQE _ _,rfl⟩
 ·rename_i hc;rw[if_neg hc] at he;have hh:=jQgT _ _ (by simpa using hc);unfold checkAct at hh
  split
  ·rename_i ha;rw[if_pos ha] at hh;have hk:=jQd4 hh hst.vals;have hi:=jQjw hf hk;have hb:=h.has (placeOf ((1+k:Nat):Int) (keyOf st.vals)) tr;rw[jQqP hd.g.laid ht hi.1 hi.2] at hb;unfold insertR;refine⟨?_,hb.2⟩;simp only;rw[hb.1,h.size];unfold insertO Sq.insert
   split
   ·exact jQE _ _
   ·split
    ·exact jQE _ _
    ·refine⟨rfl,rfl,fun hm=>(by cases hm),rfl,rfl,fun _=>Or.inr ⟨k,t,rfl,ht,rfl⟩,fun r hr=>?_,fun c hc=>(by cases hc)⟩;simp at hr;subst hr;exact hi
  ·rename_i ha;rw[if_neg ha] at he;have hj:=jQkP h hd ht hw tr;refine⟨?_,hj.2⟩;simp only;rw[hj.1];unfold askedR
   split
   ·rename_i h3;rw[if_pos h3] at he;unfold updateR Sq.update at *;cases hu:updateFrom t.cols st.sets (meeting t st.wher) [] with
    | none=>exact jQE _ _
    | some puts =>
     rw[hu] at he;refine⟨rfl,rfl,fun hm=>(by cases hm),rfl,rfl,fun _=>Or.inr ⟨k,t,rfl,ht,rfl⟩,fun r hr=>?_,fun c hc=>by cases hc⟩;obtain⟨k',t',e1,e2,e3⟩:=he.puts r hr;exact jQjw (hd.cols t' (List.mem_of_getElem? e2)) e3
   ·split
    ·unfold removeR Sq.remove;refine⟨rfl,rfl,fun hm=>(by cases hm),rfl,rfl,fun _=>Or.inr ⟨k,t,rfl,ht,rfl⟩,fun r hr=>(by cases hr),fun c hc=>?_⟩;obtain⟨r,hr,rfl⟩:=List.mem_map.1 hc;exact hd.g.laid.keys t hg r (List.mem_filter.1 hr).1
    ·refine⟨?_,rfl,fun hm=>(by cases hm),rfl,rfl,fun _=>Or.inl ⟨rfl,rfl⟩,fun r hr=>(by cases hr),fun c hc=>by cases hc⟩;show showR t.cols (meeting t st.wher) st=Sq.show t st;rw[jQrn (hd.two t hg)];rfl
theorem jQfa {X:NTree}{db:List Tab}(h:Stands X db)(hd:goodD db)(sql:ByteArray)(tr:Trl):Agree db (Sq.decide db sql) (decideR X sql tr).1/\(decideR X sql tr).2.lost=tr.lost:=by
 unfold Sq.decide decideR
 split
 ·exact⟨jQE _ _,rfl⟩
 ·have ha:=jQqk h hd tr;unfold decideSt decideStR;rw[ha.1]
  split
  ·refine⟨?_,ha.2⟩;have hf:=jQgG (parse sql).2.table db 1 0 (by omega);have hl:=jQj8 db 0;have hb:=jQjF 1 db;unfold create createR;simp only
   have e1:(findR (parse sql).2.table (tabNs 1 db)).isSome=Decidable.decide (0<=findTab db (parse sql).2.table):=by
    unfold findTab;rcases hf with⟨g1,g2⟩ | ⟨k,u,g1,g2,g3⟩
    ·rw[g1,g2];rfl
    ·rw[g1,g3];simp
   rw[e1,hb,h.size];simp only[decide_eq_true_eq]
   split
   ·exact jQE _ _
   ·split
    ·exact jQE _ _
    ·split
     ·exact jQE _ _
     ·split
      ·exact jQE _ _
      ·rename_i h4
       by_cases h5:60<=dbSize db
       ·rw[if_pos h5,if_pos (by omega)];exact jQE _ _
       ·rw[if_neg h5,if_neg (by omega)];refine⟨rfl,rfl,fun _=>⟨?_,rfl,rfl,by omega⟩,rfl,rfl,fun hm=>(by cases hm),fun r hr=>(by cases hr),fun c hc=>(by cases hc)⟩;show TabN.mk (lastR 0 (tabNs 1 db)+1) _ _=_;rw[show lastR 0 (tabNs 1 db)=((0+db.length:Nat):Int) from hl,Nat.zero_add]
  ·rcases jQgG (parse sql).2.table db 1 0 (by omega) with⟨g1,g2⟩ | ⟨k,u,g1,g2,g3⟩
   ·have e:findTab db (parse sql).2.table=-1:=g1;rw[g2,e];simp only;refine⟨?_,ha.2⟩
    split
    ·rw[if_pos (by omega)];exact jQE _ _
    ·exact jQE _ _
   ·have e:findTab db (parse sql).2.table=(k:Int):=by
     show findTabFrom _ _ _=_;rw[g1];omega
    rw[g3,e,Int.toNat_natCast,g2];simp only;rw[if_neg (by omega)]
    have:=jQpM h hd g2 (parse sql).2 163 (jQcE sql).1 (jQmP sql) (tabsR X tr).2
    exact⟨this.1,this.2.trans ha.2⟩
theorem jQfK {k:Nat}:∀{puts:List (List Val)} {x:NTree×Trl} {db:List Tab} {t:Tab},Stands x.1 db->laidDB db->db[k]?=some t->(∀r∈puts,keyOk r)->Stands (putsR ((1+k:Nat):Int) puts x).1 (setRows db k (putAll puts t.rows))/\laidDB (setRows db k (putAll puts t.rows))
 | [],x,db,t,h,hl,ht,_=>by
  have e:setRows db k (putAll [] t.rows)=db:=by
   obtain⟨hk,e⟩:=List.getElem?_eq_some_iff.1 ht;show setRows db k t.rows=db
   have:t.rows=rowsAt db k:=by rw[jQbh db k hk,e]
   rw[this,jQah]
  rw[e];exact⟨h,hl⟩
 | p::q,x,db,t,h,hl,ht,hk=>by
  have h1:=jQrQ hl ht (hk p (by simp));have h2:=h.put (rowEnt (1+k) p) x.2 h1.1;have e:(setRows db k (put p t.rows))[k]?=some { t with rows:=put p t.rows }:=(jQfj ht _ k).trans (if_pos rfl);have ih:=jQfK (puts:=q) (x:=x.1.put (rowEnt (1+k) p) x.2) h2 h1.2 e fun r hr=>hk r (by simp[hr])
  rw[jQbD] at ih;exact ih
theorem jQfW {k:Nat}:∀{cuts:List Int} {x:NTree×Trl} {db:List Tab} {t:Tab},Stands x.1 db->laidDB db->db[k]?=some t->(∀c∈cuts,-2147483648<=c/\c<=2147483647)->Stands (cutsR ((1+k:Nat):Int) cuts x).1 (setRows db k (cutAll cuts t.rows))/\laidDB (setRows db k (cutAll cuts t.rows))
 | [],x,db,t,h,hl,ht,_=>by
  have e:setRows db k (cutAll [] t.rows)=db:=by
   obtain⟨hk,e⟩:=List.getElem?_eq_some_iff.1 ht;show setRows db k t.rows=db
   have:t.rows=rowsAt db k:=by rw[jQbh db k hk,e]
   rw[this,jQah]
  rw[e];exact⟨h,hl⟩
 | c::q,x,db,t,h,hl,ht,hk=>by
  have hc:=hk c (by simp);have h1:=jQrR hl ht hc.1 hc.2;have h2:=h.del (placeOf ((1+k:Nat):Int) c) x.2 h1.1;have e:(setRows db k (cutRows c t.rows))[k]?=some { t with rows:=cutRows c t.rows }:=(jQfj ht _ k).trans (if_pos rfl);have ih:=jQfW (cuts:=q) (x:=x.1.del (placeOf ((1+k:Nat):Int) c) x.2) h2 h1.2 e fun r hr=>hk r (by simp[hr])
  rw[jQbD] at ih;exact ih
theorem jQje {X:NTree}{db:List Tab}(h:Stands X db)(hl:laidDB db){o:Out}{p:OutR}(ha:Agree db o p)(tr:Trl):Stands (applyR p (X,tr)).1 (apply db o):=by
 unfold applyR apply;rw[ha.puts,ha.cuts];cases hm:o.makes with
 | true =>
  obtain⟨h1,h2,h3,h4⟩:=ha.tab hm;have e:made db o=db++[⟨o.name,o.cols,[]⟩]:=by unfold made;rw[hm];rfl
  have e2:madeR p (X,tr)=X.put ⟨placeOf 0 p.tab.number,ofTable p.tab.name p.tab.cols⟩ tr:=by unfold madeR;rw[ha.makes,hm];rfl
  rw[e,h2,h3,e2,h1];have e3:∀a j,setRows a j (cutAll [] (putAll [] (rowsAt a j)))=a:=fun a j=>jQah a j
  rw[e3];exact h.put _ tr (jQqU hl h4 o.name o.cols).1
 | false =>
  have e:made db o=db:=by unfold made;rw[hm];rfl
  have e2:madeR p (X,tr)=(X,tr):=by unfold madeR;rw[ha.makes,hm];rfl
  rw[e,e2];rcases ha.place hm with⟨h1,h2⟩ | ⟨k,t,h1,h2,h3⟩
  ·rw[h1,h2];have e3:∀a j,setRows a j (cutAll [] (putAll [] (rowsAt a j)))=a:=fun a j=>jQah a j
   rw[e3];exact h
  ·rw[h3,h1,Int.toNat_natCast];obtain⟨hk,et⟩:=List.getElem?_eq_some_iff.1 h2;have er:rowsAt db k=t.rows:=by rw[jQbh db k hk,et]
   rw[er];have g1:=jQfK (puts:=o.puts) (x:=(X,tr)) h hl h2 ha.kput;have e4:(setRows db k (putAll o.puts t.rows))[k]?=some { t with rows:=putAll o.puts t.rows }:=(jQfj h2 _ k).trans (if_pos rfl);have g2:=jQfW (cuts:=o.cuts) (x:=putsR ((1+k:Nat):Int) o.puts (X,tr)) g1.1 g1.2 e4 ha.kcut;rw[jQbD] at g2;exact g2.1
theorem jQcD {X:NTree}{db:List Tab}(h:Stands X db)(hd:goodD db)(sql:ByteArray)(tr:Trl) :
  (runR X sql tr).1=(Sq.decide db sql).reply/\Stands (runR X sql tr).2.1 (after db sql)/\(decideR X sql tr).2.lost=tr.lost:=by
 have ha:=jQfa h hd sql tr;exact⟨ha.1.reply,jQje h hd.g.laid ha.1 _,ha.2⟩
end Sq
namespace Sq
theorem jQrN:∀(l:List UInt8) (a:Int),0<=a->0<=l.foldl (fun n b=>n*256+(b.toNat:Int)) a/\l.foldl (fun n b=>n*256+(b.toNat:Int)) a<(a+1)*256^l.length:=by
 intro l
 induction l with
 | nil=>intro a h;simp;omega
 | cons b l ih =>
  intro a h;have hb:(b.toNat:Int)<256:=by have:=b.toNat_lt;omega
  have h1:=ih (a*256+(b.toNat:Int)) (by omega);rw[List.foldl_cons,List.length_cons];refine⟨h1.1,Int.lt_of_lt_of_le h1.2 ?_⟩;rw[Int.pow_succ,Int.mul_comm (256^l.length) 256,<-Int.mul_assoc];exact Int.mul_le_mul_of_nonneg_right (by omega) (Int.pow_nonneg (by decide))
theorem jQrt (a:Nat):∀b:Nat,(256:Int)^a<=256^(a+b)
 | 0=>Int.le_refl _
 | b+1=>by
  have h1:=jQrt a b;rw[<-Nat.add_assoc,Int.pow_succ];have h2:(0:Int)<=256^(a+b):=Int.pow_nonneg (by decide);omega
theorem jQc0 (r:Rd)(k:Nat):(takeV r (k:Nat)).size<=k:=by
 unfold takeV
 split
 ·exact zR
 ·rw[Int.toNat_natCast,ByteArray.size_extract];omega
theorem jQU (r:Rd)(k:Int):(takeN r k).rest.size<=r.rest.size:=by
 unfold takeN
 split
 ·exact nR
 ·rw[ByteArray.size_extract];omega
theorem jQbB {r:Rd}{k:Nat}(h:(takeN r (k:Nat)).short=false):(takeN r (k:Nat)).rest.size+k<=r.rest.size:=by
 unfold takeN at h ⊢
 split at h
 ·cases h
 ·rename_i hb;rw[if_neg hb,ByteArray.size_extract,Int.toNat_natCast];unfold takeBad at hb;simp at hb;omega
theorem jQQ {r:Rd}{k:Int}(h:(takeN r k).short=false):r.short=false:=by
 unfold takeN at h
 split at h
 ·cases h
 ·exact h
theorem jQrZ (r:Rd)(k:Nat):0<=numV r (k:Nat)/\numV r (k:Nat)<256^k:=by
 unfold numV big;have h1:=jQrN (takeV r (k:Nat)).data.toList 0 (by decide);have h2:=jQc0 r k;have h3:(takeV r (k:Nat)).data.toList.length=(takeV r (k:Nat)).size:=Array.length_toList;refine⟨h1.1,?_⟩;have h4:=h1.2;rw[h3] at h4;obtain⟨d,hd⟩:∃d,k=(takeV r (k:Nat)).size+d:=⟨k-(takeV r (k:Nat)).size,by omega⟩;have h5:=jQrt (takeV r (k:Nat)).size d;rw[<-hd] at h5;have h6:(0+1:Int)*256^(takeV r (k:Nat)).size=256^(takeV r (k:Nat)).size:=by simp
 omega
theorem num1 (r:Rd):0<=numV r 1/\numV r 1<256:=by
 have h:=jQrZ r 1;rw[show((1:Nat):Int)=1 from rfl] at h;exact⟨h.1,by simpa using h.2⟩
theorem jQoF (r:Rd):(txtN r).rest.size<=r.rest.size:=Nat.le_trans (jQU _ _) (jQU _ _)
theorem jQoE {r:Rd}(h:(txtN r).short=false):r.short=false:=jQQ (jQQ h)
theorem jQqi (r:Rd):(txtV r).size<256:=by
 unfold txtV;have h1:=num1 r;obtain⟨k,hk⟩:=Int.eq_ofNat_of_zero_le h1.1;rw[hk];have h2:=jQc0 (takeN r 1) k;omega
theorem jQh6:∀(k:Nat) (r:Rd),(entsR k r).2.rest.size<=r.rest.size
 | 0,_=>nR
 | k+1,r=>Nat.le_trans (jQh6 k (txtN (takeN r 5))) (Nat.le_trans (jQoF _) (jQU _ _))
theorem jQcP:∀(k:Nat) {r:Rd},(entsR k r).2.short=false->r.short=false
 | 0,_,h=>h
 | k+1,_,h=>jQQ (jQoE (jQcP k h))
structure Steps {α:Type}(rd:Rd->α×Rd):Prop where
 down:∀r,(rd r).2.rest.size<=r.rest.size
 stay:∀r,(rd r).2.short=false->r.short=false
theorem jQnP {α:Type}(f:α->Head)(mk:ByteArray->Int->Int->α)(l r:Int)(c:α×Rd):(kidFix f mk l r c).2.rest.size=c.2.rest.size:=by
 unfold kidFix failR
 split
 ·rfl
 ·split<;>rfl
theorem jQnO {α:Type}{f:α->Head}{mk:ByteArray->Int->Int->α}{l r:Int}{c:α×Rd}(h:(kidFix f mk l r c).2.short=false):c.2.short=false/\((isShut (f c.1)=true/\(kidFix f mk l r c).1=mk (f c.1).sl l r)\/(isShut (f c.1)=false/\(f c.1).least=l/\(f c.1).rows=r/\(kidFix f mk l r c).1=c.1)):=by
 unfold kidFix at h ⊢
 split
 ·rename_i h1;rw[if_pos h1] at h;exact⟨h,Or.inl ⟨h1,rfl⟩⟩
 ·rename_i h1;rw[if_neg h1] at h
  split
  ·rename_i h2;rw[if_pos h2] at h;exact⟨h,Or.inr ⟨by simpa using h1,h2.1,h2.2,rfl⟩⟩
  ·rename_i h2;rw[if_neg h2] at h;cases h
theorem jQbY {α:Type}{f:α->Head}{mk:ByteArray->Int->Int->α}{rd:Rd->α×Rd}(hr:Steps rd):∀k,Steps (kidsR f mk rd k)
 | 0=>⟨fun _=>nR,fun _ h=>h⟩
 | k+1=>by
  have ih:=jQbY (f:=f) (mk:=mk) hr k;refine⟨fun r=>?_,fun r h=>?_⟩
  ·show(kidsR f mk rd k (kidFix f mk (numV r 5) (numV (takeN r 5) 1) (rd (takeN (takeN r 5) 1))).2).2.rest.size<=_
   refine Nat.le_trans (ih.down _) ?_;rw[jQnP];exact Nat.le_trans (hr.down _) (Nat.le_trans (jQU _ _) (jQU _ _))
  ·have h1:(kidsR f mk rd k (kidFix f mk (numV r 5) (numV (takeN r 5) 1) (rd (takeN (takeN r 5) 1))).2).2.short=false:=h;exact jQQ (jQQ (hr.stay _ (jQnO (ih.stay _ h1)).1))
theorem jQkX {α:Type}{wide:Nat}{f:α->Head}{mk:ByteArray->Int->Int->α}{rd:Rd->α×Rd}(hr:Steps rd):Steps (readF wide f mk rd):=by
 refine⟨fun r=>?_,fun r h=>?_⟩
 ·unfold readF
  split
  ·exact Nat.le_trans (jQU _ _) (jQU _ _)
  ·split
   ·exact Nat.le_trans (jQh6 _ _) (Nat.le_trans (jQU _ _) (jQU _ _))
   ·split
    ·exact Nat.le_trans ((jQbY hr _).down _) (Nat.le_trans (jQU _ _) (jQU _ _))
    ·exact jQU _ _
 ·unfold readF at h
  split at h
  ·exact jQQ (jQQ h)
  ·split at h
   ·exact jQQ (jQQ (jQcP _ h))
   ·split at h
    ·exact jQQ (jQQ ((jQbY hr _).stay _ h))
    ·cases h
theorem jQfJ (wide:Nat):∀n,Steps (readN wide n)
 | 0=>⟨fun _=>Nat.le_trans (jQU _ _) (jQU _ _),fun _ h=>jQQ (jQQ h)⟩
 | n+1=>jQkX (jQfJ wide n)
end Sq
namespace Sq
def bytesN (H:ByteArray->ByteArray):(n:Nat)->Nd n->ByteArray
 | 0,t=>bytesF (fun e:Empty=>e.elim) (fun e:Empty=>e.elim) t
 | n+1,t=>bytesF (headN n) (digN H n) t
end Sq
namespace Sq
theorem jQgX {α:Type}(f:α->ByteArray)(m:Nat):∀(l:List α),(∀x∈l,(f x).size<=m)->(catB (l.map f)).size<=l.length*m
 | [],_=>by show nobytes.size<=_;rw[show nobytes.size=0 from rfl];omega
 | x::l,h=>by
  have h1:=h x (by simp);have ih:=jQgX f m l fun y hy=>h y (by simp[hy])
  rw[List.map_cons,jQbL,jQm,List.length_cons,Nat.add_mul];omega
theorem jQex {name:ByteArray}{cols:List Col}(hn:okNm name)(hc:okCols cols):(ofTable name cols).size<=50:=by
 unfold ofTable;rw[jQhJ,jQm,jQm,jQcc,jQt]
 have h1:=jQgX ofCol 10 cols fun c hc'=>by
  unfold ofCol;rw[jQm,jQt,jQcc]
  have:=(hc.each c hc').1.2
  omega
 have h2:=hc.few;have h3:=hn.2;have h4:cols.length*10<=4*10:=Nat.mul_le_mul_right 10 h2;omega
theorem jQgc:∀{cols:List Col} {row:List Val},typed cols row->row.length=cols.length/\∀v∈row,goodVal v
 | [],[],_=>⟨rfl,by simp⟩
 | [],_::_,h=>by unfold typed at h;exact h.elim
 | _::_,[],h=>by unfold typed at h;exact h.elim
 | c::q,v::r,h=>by
  unfold typed at h;have ih:=jQgc h.2;refine⟨by rw[List.length_cons,List.length_cons,ih.1],fun x hx=>?_⟩;rcases List.mem_cons.1 hx with rfl | hx
  ·exact h.1.2
  ·exact ih.2 x hx
theorem jQmW {v:Val}(h:goodVal v):(ofVal v).size<=13:=by
 unfold ofVal;rcases h with⟨h1,_⟩ | ⟨h1,_,h3,_⟩
 ·rw[h1];show(pnum _ 4).size<=13;rw[jQt];omega
 ·rw[h1];show(txt _).size<=13;rw[jQcc];omega
theorem jQey {cols:List Col}{row:List Val}(hc:okCols cols)(ht:typed cols row):(ofCells row).size<=50:=by
 obtain⟨h1,h2⟩:=jQgc ht;have h3:=hc.few;unfold ofCells;rw[jQhI,jQeD];have h4:=jQgX ofVal 13 (row.drop 1) fun v hv=>jQmW (h2 v (List.mem_of_mem_drop hv))
 rw[List.length_drop] at h4;have h5:(row.length-1)*13<=3*13:=Nat.mul_le_mul_right 13 (by omega);omega
theorem jQpw {db:List Tab}(hd:goodD db):∀e∈encDB db,okEnt e/\e.row.size<=50:=by
 intro e he;have hf:=hd.g.few;rcases jQaB.1 he with⟨k,t,h1,rfl⟩ | ⟨k,t,r,h1,h2,rfl⟩
 ·have ha:=List.mem_of_getElem? h1;have hk:=(List.getElem?_eq_some_iff.1 h1).1;have hs:=jQex (hd.names t ha) (hd.cols t ha);refine⟨⟨?_,?_,?_⟩,hs⟩
  ·show 0<=placeOf 0 _;unfold placeOf;omega
  ·show placeOf 0 _<_;unfold placeOf;omega
  ·show(ofTable t.name t.cols).size<256;omega
 ·have ha:=List.mem_of_getElem? h1;have hk:=(List.getElem?_eq_some_iff.1 h1).1;have hs:=jQey (hd.cols t ha) (hd.typed t ha r h2);have hb:=hd.g.laid.keys t ha r h2;unfold keyOk at hb;refine⟨⟨?_,?_,?_⟩,hs⟩
  ·show 0<=placeOf _ _;unfold placeOf;omega
  ·show placeOf _ _<_;unfold placeOf;omega
  ·show(ofCells r).size<256;omega
theorem Stands.fine {X:NTree}{db:List Tab}(h:Stands X db)(hd:goodD db):∃x,repT X x/\x.ok/\Sq.fine x.d x.t:=by
 obtain⟨x,h1,h2,h3,h4⟩:=h.at_;have h5:ents x.d x.t=encDB db:=h4;refine⟨x,h1,h2,h2.kids,h3,?_,?_⟩
 ·rw[h5];exact jQpw hd
 ·rw[h5,jQkm];exact hd.g.size
theorem jQqg {H:ByteArray->ByteArray}{wide:Nat}(hH:∀b,(H b).size=wide)(hw1:1<=wide)(hw2:wide<=32){X:NTree}{db:List Tab}(h:Stands X db)(hd:goodD db)(hpos:posN X.d X.t)(sql:ByteArray) :
  checkR H wide (digN H X.d X.t) sql (Sq.decide db sql).reply (writeN H (runR X sql ⟨false,[]⟩).2.2 X.d X.t)=(digN H (runR X sql ⟨false,[]⟩).2.1.d (runR X sql ⟨false,[]⟩).2.1.t,true):=by
 obtain⟨x,h1,h2,h3⟩:=h.fine hd;obtain⟨g1,g2,g3⟩:=jQcD h hd sql ⟨false,[]⟩;rw[<-g1];exact jQkF hH hw1 hw2 h1 h2 h3 hpos sql g3
end Sq
namespace Sq
theorem jQgQ:∀(n:Nat) (t:Nd n) (x:List (Kid n)),rep n t x->countN n t=(ents n x).length
 | 0,t,x,h=>by
  obtain⟨h1,h2,h3⟩:=rep.leaf h
  show(NodeF.ents t).length+((NodeF.kids t).map _).sum=_
  rw[h2,h3];rfl
 | n+1,t,x,h=>by
  obtain⟨h1,h2,h3⟩:=rep.inner h
  show(NodeF.ents t).length+((NodeF.kids t).map (countN n)).sum=_
  rw[h2]
  have hl:∀(l:List (Nd n)) (cs:List (List (Kid n))),reps n l cs->(l.map (countN n)).sum=(cs.flatMap (ents n)).length:=by
   intro l
   induction l with
   | nil =>
    intro cs hr;cases cs with
    | nil=>rfl
    | cons y cs=>have:=hr.len;simp at this
   | cons c l ih =>
    intro cs hr;cases cs with
    | nil=>have:=hr.len;simp at this
    | cons y cs =>
     obtain⟨k1,k2⟩:=reps.cons.1 hr;rw[List.map_cons,List.sum_cons,List.flatMap_cons,List.length_append,ih cs k2,jQgQ n c y k1]
  have:=hl (NodeF.kids t) x h3
  rw[this,List.length_nil,Nat.zero_add];rfl
theorem jQnf:∀(n:Nat) (t:Nd n) (x:List (Kid n)),rep n t x->fine n x->2<=x.length->manyN n t+1<=(ents n x).length
 | 0,t,x,h,hf,h2=>h2
 | n+1,t,x,h,hf,h2=>by
  obtain⟨g1,g2,g3⟩:=rep.inner h;show 1+((NodeF.kids t).map (manyN n)).sum+1<=_
  have hl:∀(l:List (Nd n)) (cs:List (List (Kid n))),reps n l cs->(∀c∈cs,fine n c/\2<=c.length)->(l.map (manyN n)).sum+cs.length<=(cs.flatMap (ents n)).length:=by
   intro l
   induction l with
   | nil =>
    intro cs hr hc;cases cs with
    | nil=>exact nR
    | cons y cs=>have:=hr.len;simp at this
   | cons c l ih =>
    intro cs hr hc;cases cs with
    | nil=>have:=hr.len;simp at this
    | cons y cs =>
     obtain⟨k1,k2⟩:=reps.cons.1 hr;have h7:=ih cs k2 fun z hz=>hc z (by simp[hz])
     have h8:=hc y (by simp);have h9:=jQnf n c y k1 h8.1 h8.2;rw[List.map_cons,List.sum_cons,List.flatMap_cons,List.length_append,List.length_cons];omega
  have h7:=hl (NodeF.kids t) x g3 fun c hc=>hf.kid hc
  have h8:(List.flatMap (ents n) (show List (List (Kid n)) from x)).length=(ents (n+1) x).length:=rfl;have h9:List.length (α:=List (Kid n)) x=x.length:=rfl;have ha:(List.flatMap (ents n) x).length=(ents (n+1) x).length:=rfl;omega
theorem jQhK {α:Type}{f:α->Head}{G G':α->Prop}{m:α->Nat}{g:α->Int->α×Int}{M:Int}(hg:∀c k,G c->k+(m c:Int)<=M+1->G' (g c k).1/\(f (g c k).1).rows=(f c).rows)(hs:∀c k,(g c k).2=k+(m c:Int)) :
  ∀(l:List α) (k:Int),(∀c∈l,G c)->k+((l.map m).sum:Nat)<=M+1->(∀c∈(numbL g l k).1,G' c)/\(numbL g l k).1.length=l.length/\sumRows2 f (numbL g l k).1=sumRows2 f l
 | [],k,_,_=>⟨fun c hc=>by simp[numbL] at hc,rfl,rfl⟩
 | c::r,k,hl,hk=>by
  rw[List.map_cons,List.sum_cons] at hk;have h1:=hg c k (hl c (by simp)) (by omega);have h2:=jQhK (f:=f) hg hs r (g c k).2 (fun d hd=>hl d (by simp[hd])) (by rw[hs];omega);rw[numbL];refine⟨fun d hd=>?_,by simp[h2.2.1],?_⟩
  ·rcases List.mem_cons.1 hd with rfl | hd
   ·exact h1.1
   ·exact h2.1 d hd
  ·rw[jQY,jQY,h1.2,h2.2.2]
theorem jQjZ {K M:Int}:∀(n:Nat) (t:Nd n) (k:Int),tameN K n t->k+(manyN n t:Int)<=M+1->tameN M n (numN n t k).1/\(headN n (numN n t k).1).rows=(headN n t).rows
 | 0,t,k,h,hk=>by
  have h0:=h.at0
  have ha:NodeF.kids t=[]:=by
   cases hq:NodeF.kids t with
   | nil=>rfl
   | cons c _=>exact c.elim
  have hb:k<=M:=by have:((1:Nat):Int)=1:=rfl;have e:manyN 0 t=1:=rfl;rw[e] at hk;omega
  refine⟨⟨?_,h.leaf0⟩,rfl⟩;refine⟨h0.ents,?_,fun c hc=>c.elim,hb,h0.pos,fun hi=>?_,fun hi=>⟨(h0.lf hi).1,?_⟩,h0.sl,h0.row⟩
  ·show(numbL _ (NodeF.kids t) _).1.length<=4
   rw[ha];exact zR
  ·have:=h.leaf0
   exact absurd (show(NodeF.hd t).inner=true from hi) (by rw[this];decide)
  ·show(numbL _ (NodeF.kids t) _).1=[]
   rw[ha];rfl
 | n+1,t,k,h,hk=>by
  have h1:=h.at1;have e:manyN (n+1) t=1+((NodeF.kids t).map (manyN n)).sum:=rfl;rw[e] at hk;have h2:=jQhK (f:=headN n) (G:=tameN K n) (G':=tameN M n) (m:=manyN n) (g:=numN n) (M:=M) (fun c k hc hk=>jQjZ n c k hc hk) (fun c k=>jQiN n c k) (NodeF.kids t) (k+1) h1.each (by omega);refine⟨?_,rfl⟩;refine⟨h1.ents,?_,h2.1,?_,h1.pos,fun hi=>⟨?_,(h1.inn hi).2⟩,fun hi=>⟨(h1.lf hi).1,?_⟩,h1.sl,h1.row⟩
  ·show(numbL (numN n) (NodeF.kids t) (k+1)).1.length<=4
   rw[h2.2.1];exact h1.kids
  ·show k<=M;omega
  ·show(NodeF.hd t).rows=sumRows2 (headN n) (numbL (numN n) (NodeF.kids t) (k+1)).1
   rw[h2.2.2];exact(h1.inn hi).1
  ·show(numbL (numN n) (NodeF.kids t) (k+1)).1=[]
   rw[(h1.lf hi).2];rfl
theorem jQhw {K:Int}(hK:0<=K)(n:Int):∀(puts:List (List Val)) (x:NTree×Trl) (m:Int),TameT K m x.1->TameR K x.2->(∀r∈puts,(ofCells r).size<=300)->TameT K (m+puts.length) (putsR n puts x).1/\TameR K (putsR n puts x).2
 | [],x,m,h,hr,_=>⟨by simpa[putsR] using h,hr⟩
 | r::q,x,m,h,hr,ho=>by
  have h1:=h.put hK (e:=⟨placeOf n (keyOf r),ofCells r⟩) (ho r (by simp)) hr;have h2:=jQhw hK n q (x.1.put ⟨placeOf n (keyOf r),ofCells r⟩ x.2) (m+1) h1.1 h1.2 fun y hy=>ho y (by simp[hy])
  refine⟨?_,h2.2⟩;have e:m+((r::q).length:Nat)=m+1+(q.length:Nat):=by rw[List.length_cons];omega
  rw[e];exact h2.1
theorem jQia {K:Int}(hK:0<=K)(n:Int):∀(cuts:List Int) (x:NTree×Trl) (m:Int),TameT K m x.1->TameR K x.2->TameT K m (cutsR n cuts x).1/\TameR K (cutsR n cuts x).2
 | [],x,m,h,hr=>⟨h,hr⟩
 | c::q,x,m,h,hr=>by
  have h1:=h.del hK (placeOf n c) hr;exact jQia hK n q (x.1.del (placeOf n c) x.2) m h1.1 h1.2
theorem jQdg {K:Int}(hK:0<=K){o:OutR}(ho:OkOut o){x:NTree×Trl}{m:Int}(h:TameT K m x.1)(hr:TameR K x.2):TameT K (m+10001) (applyR o x).1/\TameR K (applyR o x).2:=by
 have hm:TameT K (m+1) (madeR o x).1/\TameR K (madeR o x).2:=by
  unfold madeR
  split
  ·rename_i hmk;exact h.put hK (ho.make hmk).2.2.2 hr
  ·exact⟨⟨h.t,Int.le_trans h.rows (by omega)⟩,hr⟩
 have hp:=jQhw hK o.tab.number o.puts (madeR o x) (m+1) hm.1 hm.2 fun r hr=>(ho.puts r hr).size
 have hc:=jQia hK o.tab.number o.cuts _ _ hp.1 hp.2;have hf:=ho.few;exact⟨⟨hc.1.t,Int.le_trans hc.1.rows (by omega)⟩,hc.2⟩
theorem jQno:∀(l:List TabN) (m:Int),0<=m->m<=5->(∀t∈l,1<=t.number/\t.number<=5)->0<=lastR m l/\lastR m l<=5
 | [],m,h0,h1,_=>⟨h0,h1⟩
 | t::q,m,h0,h1,h=>by
  have:=h t (by simp)
  show 0<=lastR (if m<t.number then t.number else m) q/\_;exact jQno q _ (by split<;>omega) (by split<;>omega) fun u hu=>h u (by simp[hu])
theorem jQln (X:NTree)(sql:ByteArray)(tr:Trl):0<=(decideR X sql tr).1.tab.number/\(decideR X sql tr).1.tab.number<=6:=by
 have hb:=jQl5 X tr;have hr:∀n,0<=(refusedR n).tab.number/\(refusedR n).tab.number<=6:=fun n=>⟨by show(0:Int)<=0;omega,by show(0:Int)<=6;omega⟩
 have ht:∀{n:ByteArray} {t:TabN},findR n (tabsR X tr).1=some t->0<=t.number/\t.number<=6:=fun h=>by have:=hb _ (jQgH h);omega
 unfold decideR decideStR
 split
 ·exact hr _
 ·split
  ·unfold createR;have hl:=jQno (tabsR X tr).1 0 (by omega) (by omega) fun t ht=>by have:=hb t ht;omega
   repeat (first | exact hr _ | split)
   show 0<=lastR 0 (tabsR X tr).1+1/\lastR 0 (tabsR X tr).1+1<=6;omega
  ·split
   ·rename_i t hf
    have:=ht hf
    unfold decideTabR
    split
    ·exact hr _
    ·split
     ·unfold insertR insertO;simp only
      split
      ·exact hr _
      ·split
       ·exact hr _
       ·exact this
     ·unfold askedR;simp only
      split
      ·unfold updateR;cases updateFrom t.cols (parse sql).2.sets (metN t.cols (spannedR X t (parse sql).2.wher (tabsR X tr).2).1 (parse sql).2.wher) [] with
       | none=>exact hr _
       | some p=>exact this
      ·split
       ·exact this
       ·exact hr 0
   ·exact hr _
theorem jQkJ (cols:List Col)(sets:List SetS):∀(rows acc puts:List (List Val)),updateFrom cols sets rows acc=some puts->puts.length=acc.length+rows.length:=by
 intro rows
 induction rows with
 | nil=>intro acc puts h;rw[updateFrom] at h;simp at h;subst h;simp
 | cons x q ih =>
  intro acc puts h;rw[updateFrom] at h
  split at h
  ·have:=ih _ _ h;simp at this ⊢;omega
  ·simp at h
theorem jQlo {K:Int}{X:NTree}{tr:Trl}(hf:tameN K X.d X.t)(hr:TameR K tr)(hc:countN X.d X.t<=900)(sql:ByteArray):(decideR X sql tr).1.puts.length+(decideR X sql tr).1.cuts.length<=1000:=by
 have h0:∀n,(refusedR n).puts.length+(refusedR n).cuts.length<=1000:=fun n=>by show 0+0<=1000;omega
 have h1:=jQee hf hr;unfold decideR decideStR
 split
 ·exact h0 _
 ·split
  ·unfold createR
   repeat (first | exact h0 _ | split)
   exact h0 0
  ·split
   ·rename_i t _;unfold decideTabR
    split
    ·exact h0 _
    ·split
     ·unfold insertR insertO;simp only
      split
      ·exact h0 _
      ·split
       ·exact h0 _
       ·show 1+0<=1000;omega
     ·have h2:=(jQbT hf h1 t (parse sql).2.wher).2.1;have h3:(metN t.cols (spannedR X t (parse sql).2.wher (tabsR X tr).2).1 (parse sql).2.wher).length<=(spannedR X t (parse sql).2.wher (tabsR X tr).2).1.length:=List.length_filter_le _ _;unfold askedR;simp only
      split
      ·unfold updateR;cases hu:updateFrom t.cols (parse sql).2.sets (metN t.cols (spannedR X t (parse sql).2.wher (tabsR X tr).2).1 (parse sql).2.wher) [] with
       | none=>exact h0 _
       | some p =>
        have:=jQkJ _ _ _ _ _ hu
        show p.length+0<=1000;simp at this;omega
      ·split
       ·show 0+(List.map keyOf _).length<=1000;rw[List.length_map];omega
       ·exact h0 0
   ·exact h0 _
theorem Stands.okOut {X:NTree}{db:List Tab}(h:Stands X db)(hd:goodD db){K:Int}{tr:Trl}(hf:tameN K X.d X.t)(hr:TameR K tr)(hc:countN X.d X.t<=900)(sql:ByteArray):OkOut (decideR X sql tr).1:=by
 have ha:=(jQfa h hd sql tr).1;have ho:=jQew hd sql;have ht:=jQln X sql tr;have he:=jQlo hf hr hc sql;refine⟨ht.1,by omega,fun r hr=>?_,fun k hk=>?_,by omega,fun hm=>?_⟩
 ·rw[ha.puts] at hr;obtain⟨k,t,e1,e2,e3⟩:=ho.puts r hr;have hb:=hd.cols t (List.mem_of_getElem? e2);obtain⟨g1,g2⟩:=jQgc e3
  have:=hb.few
  refine⟨by omega,fun v hv=>?_,Nat.le_trans (jQey hb e3) (by omega)⟩;have h5:=goodVal.ok (g2 v hv);exact⟨h5.2.2,h5.1,h5.2.1⟩
 ·rw[ha.cuts] at hk
  have:=ha.kcut k hk
  omega
 ·rw[ha.makes] at hm;have h1:=(ha.tab hm).1;have h2:=ho.make hm;rw[h1]
  have:=h2.2.1.few
  have h3:=h2.1;unfold okNm at h3;refine⟨by show(Sq.decide db sql).cols.length<=1000;omega,by show(Sq.decide db sql).name.size<=1000;omega,fun c hc=>?_,Nat.le_trans (jQex h2.1 h2.2.1) (by omega)⟩;have h4:=(h2.2.1.each c hc).1;unfold okNm at h4;omega
theorem tameN.mono {K M:Int}(hKM:K<=M):∀{n:Nat} {t:Nd n},tameN K n t->tameN M n t
 | 0,_,h=>⟨⟨h.at0.ents,h.at0.kids,h.at0.each,Int.le_trans h.at0.num hKM,h.at0.pos,h.at0.inn,h.at0.lf,h.at0.sl,h.at0.row⟩,h.leaf0⟩
 | _+1,_,h=>⟨h.at1.ents,h.at1.kids,fun c hc=>tameN.mono hKM (h.at1.each c hc),Int.le_trans h.at1.num hKM,h.at1.pos,h.at1.inn,h.at1.lf,h.at1.sl,h.at1.row⟩
theorem tame0:tameN 99998 ntree0.d ntree0.t :=
 ⟨⟨zR,zR,fun c=>c.elim,(by show(0:Int)<=99998;decide),(by show(0:Int)<=0;decide),fun h=>(by cases h),fun _=>⟨(by show(0:Int)<=0;decide),rfl⟩,(by show(0:Nat)<=32;decide),fun e he=>(by cases he)⟩,rfl⟩
structure Keeps2 (X:NTree)(db:List Tab):Prop where
 st:Stands X db
 good:goodD db
 tame:tameN 99998 X.d X.t
theorem Keeps2.many {X:NTree}{db:List Tab}(h:Keeps2 X db):manyN X.d X.t<=60/\countN X.d X.t<=60:=by
 obtain⟨x,h1,h2,h3⟩:=h.st.fine h.good;obtain⟨n,t,y,rfl,rfl,hr⟩:=h1.cases;have h4:=jQgQ n t y hr;have h5:=h3.few;refine⟨?_,by show countN n t<=60;simp only at h5;omega⟩;cases n with
 | zero=>show 1<=60;omega
 | succ n =>
  have h6:=jQnf (n+1) t y hr h3 (h2.two.resolve_left (by simp));show manyN (n+1) t<=60;simp only at h5;omega
theorem Keeps2.numbered {X:NTree}{db:List Tab}(h:Keeps2 X db):tameN 100 X.numbered.d X.numbered.t/\countN X.numbered.d X.numbered.t<=900/\X.numbered.head.rows<=60:=by
 have hm:=h.many;have h1:=jQjZ (K:=99998) (M:=100) X.d X.t 1 h.tame (by omega);refine⟨h1.1,?_,?_⟩
 ·obtain⟨x,k1,k2,k3⟩:=h.st.numbered.fine h.good;obtain⟨n,t,y,e1,rfl,hr⟩:=k1.cases;rw[e1];have h4:=jQgQ n t y hr;have h5:=k3.few;show countN n t<=900;simp only at h5;omega
 ·rw[h.st.numbered.size]
  have:=h.good.g.size
  omega
end Sq
end Go.Proofs.YtahpihjialbanaaGreatDoor
