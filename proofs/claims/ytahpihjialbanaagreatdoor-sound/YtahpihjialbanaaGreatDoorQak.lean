import Derived.Test.YtahpihjialbanaaGreatDoorQaj
set_option linter.all false
namespace Go.Proofs.YtahpihjialbanaaGreatDoor
open Sq (Trl bY Val aj jAu jCU jDz)
variable {W w w':World}{b g pb tb:Nat}{cv kv pv v:Value}{t:TypeId}
section
open Go.RowKit
variable {Z:Nat->Prop}
structure jIl (row:List Val):Prop where
 len:row.length<=1000
 ax:∀v∈row,v.text.size<=1000/\-100000000000<=v.number/\v.number<=100000000000
 size:(jAu row).size<=300
structure jGA (o:bY):Prop where
 n0:0<=o.tab.number
 n1:o.tab.number<=100000
 puts:∀r∈o.puts,jIl r
 cuts:∀k∈o.cuts,-100000000000<=k/\k<=100000000000
 few:o.puts.length+o.cuts.length<=10000
 make:o.makes=true->o.tab.cols.length<=1000/\o.tab.name.size<=1000/\(∀c∈o.tab.cols,c.name.size<=1000)/\(Sq.jAL o.tab.name o.tab.cols).size<=300
theorem jBx.bX {o:bY}(h:jBx w o cv pv kv)(hk:jDL 91 w w'\/aA tb w w'):jBx w' o cv pv kv:=by
 have ha:∀{B:Nat} {e:TypeId} {size:Nat} {v:Value} {n:Nat} {xs:List Value},w.ownsRow B e size v n xs->e≠91->e≠3->e≠74->w'.ownsRow B e size v n xs:=by
  intro B e size v n xs ho h1 h2 h3;refine⟨ho.1,?_⟩;rcases ho.2 with h0 | ⟨g,cap,cur,hv,hbg,hh,hn,hm,hc,ht⟩
  ·exact Or.inl h0
  refine Or.inr ⟨g,cap,cur,hv,hbg,?_,hn,hm,hc,ht⟩;rcases hk with hk | hk
  ·exact(hk g _ _ _ hh h1).trans hh
  exact(hk.bC g _ _ _ hh h2 h3).trans hh
 refine⟨⟨ha h.cols.1 (by decide) (by decide) (by decide),h.cols.2⟩,?_,ha h.cuts (by decide) (by decide) (by decide),h.jIr,h.jIq⟩;obtain⟨hg,hf,hb⟩:=h.puts;exact⟨hg,ha hf (by decide) (by decide) (by decide),fun i r hi=>let ⟨y,h4,h5⟩:=hb i r hi;⟨y,h4,⟨ha h5.1 (by decide) (by decide) (by decide),h5.2⟩⟩⟩
theorem jYH (n:Int)(puts:List (List Val))(k:Nat)(h:k<puts.length)(x:aj×Trl):jCU n (puts.drop k) x=jCU n (puts.drop (k+1)) (x.1.put ⟨Sq.placeOf n (Sq.keyOf puts[k]),jAu puts[k]⟩ x.2):=by
 unfold jCU;rw[cr h,de]
theorem jZR (n:Int)(cuts:List Int)(k:Nat)(h:k<cuts.length)(x:aj×Trl):jDz n (cuts.drop k) x=jDz n (cuts.drop (k+1)) (x.1.del (Sq.placeOf n cuts[k]) x.2):=by
 unfold jDz;rw[cr h,de]
structure jON (Z:Nat->Prop)(tb b:Nat)(w:World)(Y:aj×Trl):Prop where
 box:∃e1 e2 e3 c1 c2 c3,w.heap[b]?=some (.cells #[.bool Y.1.head.inner,.slice e1 e2 e3,.slice c1 c2 c3,.int .i64 Y.1.head.least,.int .i64 Y.1.head.rows,.string Y.1.head.sl,.int .i64 Y.1.head.num] 91)/\ag Z w Y.1.d Y.1.t (.slice e1 e2 e3) (.slice c1 c2 c3)
 tr:bk tb w Y.2
theorem jTo {y0 y1 y2 y3 y4 y5 y6:Value}(h:w.heap[b]?=some (.cells #[y0,y1,y2,y3,y4,y5,y6] t))(x0 x1 x2 x3 x4 x5 x6:Value):(bT w b x0 x1 x2 x3 x4 x5 x6).heap[b]?=some (.cells #[x0,x1,x2,x3,x4,x5,x6] t):=by
 unfold bT;have h0:=jQf h (o:=0) x0;have h1:=jQf h0 (o:=1) x1;have h2:=jQf h1 (o:=2) x2;have h3:=jQf h2 (o:=3) x3;have h4:=jQf h3 (o:=4) x4;have h5:=jQf h4 (o:=5) x5;have h6:=jQf h5 (o:=6) x6;rw[h6];rfl
end
section
open Go.RowKit
def Low (tb:Nat):Prop:=∀name g,(name= "internal/strconv.uint64pow10"\/name= "sqlproof/digest.rounds")→Tryz.prog.globalNamed name=some g→g<tb
theorem jTT {name:String}{k:IntKind}{zs:List Int}(h:Lib.TabIs Tryz.prog w name k zs)(hg:Tryz.prog.globalNamed name=some g):g<w.heap.size:=by
 unfold Lib.TabIs World.var? at h;simp only[hg,dM] at h;rcases dL g w.heap.size with h' | h'
 ·exact h'
 rw[Array.getElem?_eq_none h'] at h;simp at h
theorem jRD {name:String}{k:IntKind}{zs:List Int}(h:Lib.TabIs Tryz.prog w name k zs)(hl:∀g,Tryz.prog.globalNamed name=some g->g<tb)(hf:aA tb w w'):Lib.TabIs Tryz.prog w' name k zs:=by
 unfold Lib.TabIs World.var? at *;cases hg:Tryz.prog.globalNamed name with
 | none=>simp[hg] at h
 | some g =>
  simp only[hg,dM] at h ⊢;rw[hf.below.block g (hl g hg)];exact h
theorem Tbl.bX (h:Tbl w)(hl:Low tb)(hf:aA tb w w'):Tbl w':=jRD h (fun g hg=>hl _ g (Or.inl rfl) hg) hf
def jE6 (tb:Nat)(x:bY×Trl)(w:World)(e:Ending)(w':World):Prop:=∃cv pv kv,e=.returned (.agg (az x.1 cv pv kv))/\jBx w' x.1 cv pv kv/\bk tb w' x.2/\aA tb w w'
theorem qAr {a b c d:Obj}(h:W=(((w.alloc a).alloc b).alloc c).alloc d):Below w.heap.size w W/\W.heap[w.heap.size]?=some a/\W.heap[w.heap.size+1]?=some b/\W.heap[w.heap.size+1+1]?=some c/\W.heap[w.heap.size+1+1+1]?=some d:=by
 subst h;obtain⟨h1,h2,h3,h4⟩:=jQU (W:=((w.alloc a).alloc b).alloc c) rfl;have hs:(((w.alloc a).alloc b).alloc c).heap.size=w.heap.size+1+1+1:=by simp
 have hb:=(Below.refl (((w.alloc a).alloc b).alloc c).heap.size (((w.alloc a).alloc b).alloc c)).alloc nR d;refine⟨h1.trans (hb.mono (by omega)),(hb.block _ (by omega)).trans h2,(hb.block _ (by omega)).trans h3,(hb.block _ (by omega)).trans h4,?_⟩;rw[<-hs];exact jQi _ _
theorem aQ.one {rv:Value}{row:List Val}(h:w.heap[pb]?=some (.cells #[rv] 138))(hr:jA0 w rv row):aQ 0 w (.slice (some ⟨pb,0,none⟩) 1 1) [row]:=by
 refine⟨[rv],⟨rfl,Or.inr ⟨pb,1,_,rfl,zR,h,nR,by unfold maxLen;omega,rfl,rfl⟩⟩,fun i r hi=>?_⟩;cases i with
 | zero=>simp at hi;subst hi;exact⟨rv,rfl,hr⟩
 | succ i=>simp at hi
theorem jA0.bX {row:List Val}(h:jA0 w v row)(k:aA tb w w'):jA0 w' v row:=by
 refine⟨⟨h.1.1,?_⟩,h.2⟩;rcases h.1.2 with h1 | ⟨g,cap,cur,hv,hbg,hh,hn,hm,hc,ht⟩
 ·exact Or.inl h1
 exact Or.inr ⟨g,cap,cur,hv,hbg,(k.bC g _ _ _ hh (by decide) (by decide)).trans hh,hn,hm,hc,ht⟩
theorem aX.bX {l:List Sq.Col}(h:aX w v l)(k:aA tb w w'):aX w' v l:=by
 refine⟨⟨h.1.1,?_⟩,h.2⟩;rcases h.1.2 with h1 | ⟨g,cap,cur,hv,hbg,hh,hn,hm,hc,ht⟩
 ·exact Or.inl h1
 exact Or.inr ⟨g,cap,cur,hv,hbg,(k.bC g _ _ _ hh (by decide) (by decide)).trans hh,hn,hm,hc,ht⟩
end
end Go.Proofs.YtahpihjialbanaaGreatDoor
