import Derived.Test.YtahpihjialbanaaGreatDoorQaw
set_option linter.unusedVariables false
set_option linter.unusedSimpArgs false
set_option maxRecDepth 100000
set_option maxHeartbeats 1000000
namespace Go.Proofs.YtahpihjialbanaaGreatDoor
open Sq (Trl NTree placeOf OutR)
section
open Go.RowKit
variable {Z:Nat->Prop}
theorem jQjk (K:Int)(hK:K<=99999)(X:NTree)(ev cv:Value)(n k:Int)(tb:Nat)(tr:Trl)(w:World)(h:NodeAt Z w X.d X.t ev cv)(hf:Sq.tameN K X.d X.t)(ht:TrAt tb w tr)(hr:Sq.TameR K tr)(hn0:0<=n)(hn1:n<=100000)(hk0:-100000000000<=k)(hk1:k<=100000000000) :
  Calls Tryz.prog 114 #[.agg (headCells X.head ev cv).toArray,.int .i64 n,.int .i64 k,.pointer (some ⟨tb,0,none⟩)] w fun e w'=>e=.returned (.bool (X.has (placeOf n k) tr).1)/\TrAt tb w' (X.has (placeOf n k) tr).2/\TFrm tb w w':=by
 obtain⟨⟨e1,e2,e3,hev⟩,c1,c2,c3,hcv⟩:=h.slices;subst hev hcv;have HK:Hid (∀w',Below w.heap.size w w'->Calls Tryz.prog 153 #[.agg (headCells X.head (.slice e1 e2 e3) (.slice c1 c2 c3)).toArray,.int .i64 (placeOf n k),.pointer (some ⟨tb,0,none⟩)] w' (fun e w''=>e=.returned (.bool (X.has (placeOf n k) tr).1)/\TrAt tb w'' (X.has (placeOf n k) tr).2/\TFrm tb w' w'')):=fun w' hb=>jQqe K hK _ tb X.d X.t _ _ tr w' (h.below hb) hf (ht.below hb) hr
 have hk:=HK.o;have hl:=ht.lt;obtain⟨Y,hY⟩:∃Y,Y=X.has (placeOf n k) tr:=⟨_,rfl⟩;obtain⟨hh,hhe⟩:∃x,x=X.head:=⟨_,rfl⟩;rw[<-hY,<-hhe] at hk ⊢;rw[jQc] at hk ⊢;have hi:=hd hk;clear h hf ht hr HK hk hY hhe;go_enter Tryz.func114,Tryz.ntmps114;go_wp2;obtain⟨W,hW⟩:∃W:World,W=w.alloc (.cells #[.bool hh.inner,.slice e1 e2 e3,.slice c1 c2 c3,.int .i64 hh.least,.int .i64 hh.rows,.string hh.sl,.int .i64 hh.num] 91):=⟨_,rfl⟩;rw[<-hW];have he:Below w.heap.size w W:=by rw[hW];exact(bR).alloc (nR) _
 have ha:W.heap[w.heap.size]?=some (.cells #[.bool hh.inner,.slice e1 e2 e3,.slice c1 c2 c3,.int .i64 hh.least,.int .i64 hh.rows,.string hh.sl,.int .i64 hh.num] 91):=by rw[hW];exact jQi w _
 obtain⟨k0,k1,k2,k3,k4,k5,k6⟩:=jQs ha;have hm:=jQf ha;have hc:=hd he;clear he ha hW
 go_region_with (first
  | (go_at_call 104;refine(jQb9 _ _ _ (by omega) (by omega) (by omega) (by omega)).mono ?_;rintro e w5 ⟨rfl,hw5⟩;rw[hw5];clear hw5 w5)
  | (go_at_call 153;refine(hi.o _ hc.o.drew).mono ?_;rintro e w5 ⟨rfl,ht5,hf5⟩;have hj:Hid (TFrm tb w w5):=(TFrm.of hc.o.drew (by omega)).trans hf5;have hg:=hd ht5;clear hf5 ht5))
 all_goals(try go_wp2)
 all_goals
  go_ret;exact⟨rfl,hg.o,hj.o⟩
theorem jQdw (h:Sq.Head)(ev cv:Value)(w:World)(hev:∃a k c,ev=.slice a k c)(hcv:∃a k c,cv=.slice a k c) :
  Calls Tryz.prog 71 #[.agg (headCells h ev cv).toArray] w fun e w'=>e=.returned (.int .i64 h.rows)/\Below w.heap.size w w':=by
 obtain⟨ea,ek,ec,rfl⟩:=hev;obtain⟨ca,ck,cc,rfl⟩:=hcv;rw[jQc];have hW:∀o,Below w.heap.size w (w.alloc o):=fun o=>(bR).alloc (nR) _
 have HW:=hd hW;clear hW;go_enter Tryz.func71,Tryz.ntmps71;go_wp2;go_ret;exact⟨rfl,HW.o _⟩
end
section
open Go.RowKit
variable {Z:Nat->Prop}
structure OkPut (row:List Sq.Val):Prop where
 len:row.length<=1000
 vals:∀v∈row,v.text.size<=1000/\-100000000000<=v.number/\v.number<=100000000000
 size:(Sq.ofCells row).size<=300
structure OkOut (o:OutR):Prop where
 n0:0<=o.tab.number
 n1:o.tab.number<=100000
 puts:∀r∈o.puts,OkPut r
 cuts:∀k∈o.cuts,-100000000000<=k/\k<=100000000000
 few:o.puts.length+o.cuts.length<=10000
 make:o.makes=true->o.tab.cols.length<=1000/\o.tab.name.size<=1000/\(∀c∈o.tab.cols,c.name.size<=1000)/\(Sq.ofTable o.tab.name o.tab.cols).size<=300
theorem OutAt.tfrm {tb:Nat}{w w':World}{o:OutR}{cv pv kv:Value}(h:OutAt w o cv pv kv)(hk:Keeps 91 w w'\/TFrm tb w w'):OutAt w' o cv pv kv:=by
 have ha:∀{B:Nat} {e:TypeId} {size:Nat} {v:Value} {n:Nat} {xs:List Value},w.ownsRow B e size v n xs->e≠91->e≠3->e≠74->w'.ownsRow B e size v n xs:=by
  intro B e size v n xs ho h1 h2 h3;refine⟨ho.1,?_⟩;rcases ho.2 with h0 | ⟨g,cap,cur,hv,hbg,hh,hn,hm,hc,ht⟩
  ·exact Or.inl h0
  ·refine Or.inr ⟨g,cap,cur,hv,hbg,?_,hn,hm,hc,ht⟩;rcases hk with hk | hk
   ·exact(hk g _ _ _ hh h1).trans hh
   ·exact(hk.keep g _ _ _ hh h2 h3).trans hh
 refine⟨⟨ha h.cols.1 (by decide) (by decide) (by decide),h.cols.2⟩,?_,ha h.cuts (by decide) (by decide) (by decide),h.nputs,h.ncuts⟩;obtain⟨rvs,hown,heach⟩:=h.puts;exact⟨rvs,ha hown (by decide) (by decide) (by decide),fun i r hi=>let ⟨y,h4,h5⟩:=heach i r hi;⟨y,h4,⟨ha h5.1 (by decide) (by decide) (by decide),h5.2⟩⟩⟩
theorem jQmA (n:Int)(puts:List (List Sq.Val))(k:Nat)(h:k<puts.length)(x:NTree×Trl):Sq.putsR n (puts.drop k) x=Sq.putsR n (puts.drop (k+1)) (x.1.put ⟨placeOf n (Sq.keyOf puts[k]),Sq.ofCells puts[k]⟩ x.2):=by
 unfold Sq.putsR;rw[List.drop_eq_getElem_cons h,List.foldl_cons]
theorem jQn2 (n:Int)(cuts:List Int)(k:Nat)(h:k<cuts.length)(x:NTree×Trl):Sq.cutsR n (cuts.drop k) x=Sq.cutsR n (cuts.drop (k+1)) (x.1.del (placeOf n cuts[k]) x.2):=by
 unfold Sq.cutsR;rw[List.drop_eq_getElem_cons h,List.foldl_cons]
structure BoxAt (Z:Nat->Prop)(tb b:Nat)(w:World)(Y:NTree×Trl):Prop where
 box:∃e1 e2 e3 c1 c2 c3,w.heap[b]?=some (.cells #[.bool Y.1.head.inner,.slice e1 e2 e3,.slice c1 c2 c3,.int .i64 Y.1.head.least,.int .i64 Y.1.head.rows,.string Y.1.head.sl,.int .i64 Y.1.head.num] 91)/\NodeAt Z w Y.1.d Y.1.t (.slice e1 e2 e3) (.slice c1 c2 c3)
 tr:TrAt tb w Y.2
theorem jQkb {w:World}{b:Nat}{t:TypeId}{y0 y1 y2 y3 y4 y5 y6:Value}(h:w.heap[b]?=some (.cells #[y0,y1,y2,y3,y4,y5,y6] t))(x0 x1 x2 x3 x4 x5 x6:Value):(set7 w b x0 x1 x2 x3 x4 x5 x6).heap[b]?=some (.cells #[x0,x1,x2,x3,x4,x5,x6] t):=by
 unfold set7;have h0:=jQe h (o:=0) x0;have h1:=jQe h0 (o:=1) x1;have h2:=jQe h1 (o:=2) x2;have h3:=jQe h2 (o:=3) x3;have h4:=jQe h3 (o:=4) x4;have h5:=jQe h4 (o:=5) x5;have h6:=jQe h5 (o:=6) x6;rw[h6];rfl
end
section
open Go.RowKit
def Low (tb:Nat):Prop:=∀name g,(name= "internal/strconv.uint64pow10"\/name= "sqlproof/digest.rounds")→Tryz.prog.globalNamed name=some g→g<tb
theorem jQl6 {w:World}{name:String}{k:IntKind}{zs:List Int}(h:Lib.TabIs Tryz.prog w name k zs){g:Nat}(hg:Tryz.prog.globalNamed name=some g):g<w.heap.size:=by
 unfold Lib.TabIs World.var? at h;simp only[hg,Option.bind_some] at h;rcases Nat.lt_or_ge g w.heap.size with h' | h'
 ·exact h'
 ·rw[Array.getElem?_eq_none h'] at h;simp at h
theorem jQhj {w w':World}{tb:Nat}{name:String}{k:IntKind}{zs:List Int}(h:Lib.TabIs Tryz.prog w name k zs)(hl:∀g,Tryz.prog.globalNamed name=some g->g<tb)(hf:TFrm tb w w'):Lib.TabIs Tryz.prog w' name k zs:=by
 unfold Lib.TabIs World.var? at *;cases hg:Tryz.prog.globalNamed name with
 | none=>simp[hg] at h
 | some g =>
  simp only[hg,Option.bind_some] at h ⊢;rw[hf.below.block g (hl g hg)];exact h
theorem Tbl.tfrm {w w':World}{tb:Nat}(h:Tbl w)(hl:Low tb)(hf:TFrm tb w w'):Tbl w':=jQhj h (fun g hg=>hl _ g (Or.inl rfl) hg) hf
def OutSays (tb:Nat)(x:OutR×Trl)(w:World)(e:Ending)(w':World):Prop:=∃cv pv kv,e=.returned (.agg (outCells x.1 cv pv kv))/\OutAt w' x.1 cv pv kv/\TrAt tb w' x.2/\TFrm tb w w'
theorem jQpv {w W:World}{a b c d:Obj}(h:W=(((w.alloc a).alloc b).alloc c).alloc d):Below w.heap.size w W/\W.heap[w.heap.size]?=some a/\W.heap[w.heap.size+1]?=some b/\W.heap[w.heap.size+1+1]?=some c/\W.heap[w.heap.size+1+1+1]?=some d:=by
 subst h;obtain⟨h1,h2,h3,h4⟩:=jQT (W:=((w.alloc a).alloc b).alloc c) rfl;have hs:(((w.alloc a).alloc b).alloc c).heap.size=w.heap.size+1+1+1:=by simp
 have hb:=(Below.refl (((w.alloc a).alloc b).alloc c).heap.size (((w.alloc a).alloc b).alloc c)).alloc (nR) d;refine⟨h1.trans (hb.mono (by omega)),(hb.block _ (by omega)).trans h2,(hb.block _ (by omega)).trans h3,(hb.block _ (by omega)).trans h4,?_⟩;rw[<-hs];exact jQi _ _
theorem RowsOwn.one {w:World}{pb:Nat}{rv:Value}{row:List Sq.Val}(h:w.heap[pb]?=some (.cells #[rv] 138))(hr:RowAt w rv row):RowsOwn 0 w (.slice (some ⟨pb,0,none⟩) 1 1) [row]:=by
 refine⟨[rv],⟨rfl,Or.inr ⟨pb,1,_,rfl,zR,h,nR,by unfold maxLen;omega,rfl,rfl⟩⟩,fun i r hi=>?_⟩;cases i with
 | zero=>simp at hi;subst hi;exact⟨rv,rfl,hr⟩
 | succ i=>simp at hi
theorem RowAt.tfrm {tb:Nat}{w w':World}{v:Value}{row:List Sq.Val}(h:RowAt w v row)(k:TFrm tb w w'):RowAt w' v row:=by
 refine⟨⟨h.1.1,?_⟩,h.2⟩;rcases h.1.2 with h1 | ⟨g,cap,cur,hv,hbg,hh,hn,hm,hc,ht⟩
 ·exact Or.inl h1
 ·exact Or.inr ⟨g,cap,cur,hv,hbg,(k.keep g _ _ _ hh (by decide) (by decide)).trans hh,hn,hm,hc,ht⟩
theorem ColsAt.tfrm {tb:Nat}{w w':World}{v:Value}{l:List Sq.Col}(h:ColsAt w v l)(k:TFrm tb w w'):ColsAt w' v l:=by
 refine⟨⟨h.1.1,?_⟩,h.2⟩;rcases h.1.2 with h1 | ⟨g,cap,cur,hv,hbg,hh,hn,hm,hc,ht⟩
 ·exact Or.inl h1
 ·exact Or.inr ⟨g,cap,cur,hv,hbg,(k.keep g _ _ _ hh (by decide) (by decide)).trans hh,hn,hm,hc,ht⟩
end
end Go.Proofs.YtahpihjialbanaaGreatDoor
