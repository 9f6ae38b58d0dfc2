import Derived.Test.YtahpihjialbanaaGreatDoorQah
set_option linter.unusedVariables false
set_option linter.unusedSimpArgs false
set_option maxRecDepth 100000
set_option maxHeartbeats 1000000
namespace Go.Proofs.YtahpihjialbanaaGreatDoor
open Sq (Trl Ent touchR)
namespace Sq
def fullT:(n:Nat)->List (Kid n)->Prop
 | 0,es=>List.length (α:=Ent) es<=4
 | n+1,cs=>List.length (α:=List (Kid n)) cs<=4/\∀c∈(show List (List (Kid n)) from cs),fullT n c
theorem fullT.len:∀{n:Nat} {t:List (Kid n)},fullT n t->t.length<=4
 | 0,_,h=>h
 | _+1,_,h=>h.1
theorem jQb1 {α:Type}{l x:List α}(h:x∈halve l)(h5:l.length<=5):x.length<=4/\∀y∈x,y∈l:=by
 unfold halve at h
 split at h
 ·rw[List.mem_singleton] at h;subst h;exact⟨by assumption,fun y hy=>hy⟩
 ·rcases List.mem_cons.1 h with rfl | h
  ·exact⟨by rw[List.length_take];omega,fun y hy=>List.mem_of_mem_take hy⟩
  ·rw[List.mem_singleton] at h;subst h;exact⟨by rw[List.length_drop];omega,fun y hy=>List.mem_of_mem_drop hy⟩
theorem jQh3 {n:Nat}{l:List (List (Kid n))}(h5:l.length<=5)(h:∀c∈l,fullT n c):∀x∈halve l,fullT (n+1) x:=fun x hx=>⟨(jQb1 hx h5).1,fun c hc=>h c ((jQb1 hx h5).2 c hc)⟩
theorem jQbJ {α:Type}(l o:List α)(a m:Nat)(h:a+m<=l.length):(exch l a m o).length=l.length-m+o.length:=by
 unfold exch;simp only[List.length_append,List.length_take,List.length_drop];omega
theorem jQci {α:Type}{l o:List α}{a m:Nat}{y:α}(h:y∈exch l a m o):y∈l\/y∈o:=by
 unfold exch at h;rcases List.mem_append.1 h with h | h
 ·rcases List.mem_append.1 h with h | h
  ·exact Or.inl (List.mem_of_mem_take h)
  ·exact Or.inr h
 ·exact Or.inl (List.mem_of_mem_drop h)
theorem jQf6 (es:List Ent)(e:Ent):(withE es e).length<=es.length+1:=by
 unfold withE;rw[List.length_append,List.length_cons];have h1:=List.length_filter_le (fun x:Ent=>x.place != e.place) (es.dropWhile fun x=>Decidable.decide (x.place<e.place));have h2:=congrArg List.length (List.takeWhile_append_dropWhile (p:=fun x:Ent=>Decidable.decide (x.place<e.place)) (l:=es));rw[List.length_append] at h2;omega
theorem jQmE:∀(n:Nat) (t:List (Kid n)) (e:Ent),fullT n t->(putT n t e).length<=2/\∀x∈putT n t e,fullT n x
 | 0,es,e,h=>by
  show(halve (withE es e)).length<=2/\∀x∈halve (withE es e),fullT 0 x
  have h1:=jQf6 es e;have h2:List.length (α:=Ent) es<=4:=h;exact⟨(jQb2 _).2,fun x hx=>(jQb1 hx (by omega)).1⟩
 | n+1,cs,e,h=>by
  show(putO cs (way n cs e.place) (fun c=>putT n c e) ((show List (List (Kid n)) from cs)[way n cs e.place]?)).length<=2/\∀x∈putO cs (way n cs e.place) (fun c=>putT n c e) ((show List (List (Kid n)) from cs)[way n cs e.place]?),fullT (n+1) x
  cases hc:(show List (List (Kid n)) from cs)[way n cs e.place]? with
  | none =>
   exact⟨by show List.length [cs]<=2;simp,fun x hx=>by
    have:x=cs:=by simpa[putO] using hx
    subst this;exact h⟩
  | some c =>
   have ha:way n cs e.place<List.length (α:=List (Kid n)) cs:=(List.getElem?_eq_some_iff.1 hc).1;have ih:=jQmE n c e (h.2 c (List.mem_of_getElem? hc));refine⟨(jQb2 _).2,?_⟩;refine jQh3 ?_ ?_
   ·have h3:List.length (α:=List (Kid n)) cs<=4:=h.1;have h6:(exch (α:=List (Kid n)) cs (way n cs e.place) 1 (putT n c e)).length=List.length (α:=List (Kid n)) cs-1+(putT n c e).length:=jQbJ _ _ _ _ (by omega)
    show(exch (α:=List (Kid n)) cs (way n cs e.place) 1 (putT n c e)).length<=5
    omega
   ·intro y hy;rcases jQci hy with hy | hy
    ·exact h.2 y hy
    ·exact ih.2 y hy
theorem jQnA {n:Nat}{cs:List (List (Kid n))}{a:Nat}(h4:cs.length<=4)(hf:∀c∈cs,c.length<=4)(hs:∀c,cs[a]?=some c->c.length<2)(ha:a<cs.length)(P:List (Kid n)->Prop)(hp:∀c∈cs,P c)(hj:∀l r,l∈cs->r∈cs->(l++r).length<=5->∀x∈halve (l++r),P x) :
  (joinK cs a).length<=4/\∀x∈joinK cs a,P x:=by
 unfold joinK;generalize hb:(if a+1==cs.length then a-1 else a)=b;cases hl:cs[b]? with
 | none=>exact⟨h4,hp⟩
 | some l =>
  cases hr:cs[b+1]? with
  | none=>exact⟨h4,hp⟩
  | some r =>
   have hg:=(List.getElem?_eq_some_iff.1 hr).1
   have h5:(l++r).length<=5:=by
    rw[List.length_append];have hi:=hf l (List.mem_of_getElem? hl);have he:=hf r (List.mem_of_getElem? hr)
    split at hb
    ·rename_i hc;have hh:a+1=cs.length:=by simpa using hc
     by_cases h0:a=0
     ·subst h0;simp at hb;subst hb;omega
     ·have:b+1=a:=by omega
      rw[this] at hr
      have:=hs r hr
      omega
    ·subst hb
     have:=hs l hl
     omega
   refine⟨?_,?_⟩
   ·show(exch cs b 2 (halve (l++r))).length<=4
    rw[jQbJ _ _ _ _ (by omega)]
    have:=(jQb2 (l++r)).2
    omega
   ·intro x hx;rcases jQci hx with hx | hx
    ·exact hp x hx
    ·exact hj l r (List.mem_of_getElem? hl) (List.mem_of_getElem? hr) h5 x hx
theorem jQpu:∀{n:Nat} {l r:List (Kid n)},fullT n l->fullT n r->(l++r).length<=5->∀x∈halve (l++r),fullT n x
 | 0,_,_,_,_,h5,x,hx=>(jQb1 hx h5).1
 | n+1,l,r,hl,hr,h5,x,hx=>jQh3 (l:=(show List (List (Kid n)) from l++r)) h5 (fun c hc=>by
   rcases List.mem_append.1 hc with hc | hc
   ·exact hl.2 c hc
   ·exact hr.2 c hc) x hx
theorem jQn0:∀(n:Nat) (t:List (Kid n)) (p:Int),fullT n t->fullT n (delT n t p)
 | 0,es,p,h=>Nat.le_trans (List.length_filter_le _ _) h
 | n+1,cs,p,h=>by
  show fullT (n+1) (delO cs (way n cs p) (fun c=>delT n c p) (show List (List (Kid n)) from cs)[way n cs p]?);cases hc:(show List (List (Kid n)) from cs)[way n cs p]? with
  | none=>exact h
  | some c =>
   have he:way n cs p<List.length (α:=List (Kid n)) cs:=(List.getElem?_eq_some_iff.1 hc).1;have ih:=jQn0 n c p (h.2 c (List.mem_of_getElem? hc));show fullT (n+1) (mended cs (way n cs p) (delT n c p))
   have hb:(exch (α:=List (Kid n)) cs (way n cs p) 1 [delT n c p]).length=List.length (α:=List (Kid n)) cs:=by
    have h6:(exch (α:=List (Kid n)) cs (way n cs p) 1 [delT n c p]).length=List.length (α:=List (Kid n)) cs-1+1:=jQbJ _ _ _ _ (by omega);omega
   have ha:∀y∈exch (α:=List (Kid n)) cs (way n cs p) 1 [delT n c p],fullT n y:=by
    intro y hy;rcases jQci hy with hy | hy
    ·exact h.2 y hy
    ·rw[List.mem_singleton] at hy;subst hy;exact ih
   have h4:List.length (α:=List (Kid n)) cs<=4:=h.1;unfold mended
   split
   ·rename_i hs
    have hf:(exch (α:=List (Kid n)) cs (way n cs p) 1 [delT n c p])[way n cs p]?=some (delT n c p):=by
     unfold exch;rw[List.append_assoc,List.getElem?_append_right (by rw[List.length_take];omega),List.length_take,Nat.min_eq_left (by omega),Nat.sub_self];rfl
    exact jQnA (by rw[hb];exact h4) (fun y hy=>(ha y hy).len) (fun y hy=>by rw[hf] at hy;cases hy;exact hs) (by rw[hb];exact he) (fullT n) ha fun l r hl hr h5=>jQpu (ha l hl) (ha r hr) h5
   ·exact⟨by rw[hb];exact h4,ha⟩
def Tree.full (x:Tree):Prop:=fullT x.d x.t
theorem full0:tree0.full:=by show List.length (α:=Ent) []<=4;simp
theorem Tree.full.put {x:Tree}(h:x.full)(e:Ent):(x.put e).full:=by
 obtain⟨h1,h2⟩:=jQmE x.d x.t e h;unfold Tree.put upT Tree.full;generalize putT x.d x.t e=l at *
 match l,h1,h2 with
 | [],h1,h2=>exact⟨by simp,fun c hc=>by cases hc⟩
 | [y],h1,h2=>exact h2 y (by simp)
 | y::z::r,h1,h2=>exact⟨Nat.le_trans h1 (by omega),h2⟩
theorem Tree.full.del {x:Tree}(h:x.full)(p:Int):(x.del p).full:=by
 have h1:=jQn0 x.d x.t p h;unfold Tree.del Tree.full;generalize delT x.d x.t p=l at *;generalize x.d=n at *
 match n,l,h1 with
 | 0,l,h1=>exact h1
 | n+1,l,h1 =>
  show fullT (match (show List (List (Kid n)) from l) with | [x]=>(⟨n,x⟩:Tree) | l=>⟨n+1,l⟩).d (match (show List (List (Kid n)) from l) with | [x]=>(⟨n,x⟩:Tree) | l=>⟨n+1,l⟩).t
  match (show List (List (Kid n)) from l),h1 with
  | [],h1=>exact h1
  | [y],h1=>exact h1.2 y (by simp)
  | y::z::r,h1=>exact h1
end Sq
structure Sq.TameF {α:Type}(f:α->Sq.Head)(G:α->Prop)(K:Int)(t:Sq.NodeF α):Prop where
 ents:t.ents.length<=4
 kids:t.kids.length<=4
 each:∀c∈t.kids,G c
 num:t.hd.num<=K
 pos:0<=t.hd.rows
 inn:t.hd.inner=true->t.hd.rows=Sq.sumRows2 f t.kids/\t.ents=[]
 lf:t.hd.inner=false->(t.ents.length:Int)<=t.hd.rows/\t.kids=[]
 sl:t.hd.sl.size<=32
 row:∀e∈t.ents,e.row.size<=300
structure Sq.TameR (K:Int)(tr:Trl):Prop where
 nd:tr.nums.Nodup
 each:∀x∈tr.nums,0<x/\x<=K
namespace Sq
def tameN (K:Int):(n:Nat)->Nd n->Prop
 | 0,t=>TameF (fun e:Empty=>e.elim) (fun e:Empty=>e.elim) K t/\(NodeF.hd t).inner=false
 | n+1,t=>TameF (headN n) (tameN K n) K t
theorem tameN.at0 {K:Int}{t:NodeF Empty}(h:tameN K 0 t):TameF (fun e:Empty=>e.elim) (fun e:Empty=>e.elim) K t:=h.1
theorem tameN.leaf0 {K:Int}{t:NodeF Empty}(h:tameN K 0 t):t.hd.inner=false:=h.2
theorem tameN.at1 {K:Int}{n:Nat}{t:NodeF (Nd n)}(h:tameN K (n+1) t):TameF (headN n) (tameN K n) K t:=h
theorem tameN.head:∀{K:Int} {n:Nat} {t:Nd n},tameN K n t->(headN n t).num<=K/\0<=(headN n t).rows/\(headN n t).sl.size<=32
 | _,0,_,h=>⟨h.at0.num,h.at0.pos,h.at0.sl⟩
 | _,_+1,_,h=>⟨h.at1.num,h.at1.pos,h.at1.sl⟩
theorem jQnW (a:Int):∀l:List Int,l.Nodup->l.length<=(l.filter (· != a)).length+1
 | [],_=>zR
 | x::r,h=>by
  have hr:=List.nodup_cons.1 h
  by_cases hx:x=a
  ·subst hx
   have hf:r.filter (· != x)=r:=List.filter_eq_self.2 fun y hy=>by
    have:y≠x:=fun e=>hr.1 (e ▸ hy)
    simpa using this
   have hg:(x::r).filter (· != x)=r.filter (· != x):=by rw[List.filter_cons];simp
   rw[hg,hf];simp
  ·have hg:(x::r).filter (· != a)=x::r.filter (· != a):=by
    have:(x != a)=true:=by simpa using hx
    rw[List.filter_cons,if_pos this]
   rw[hg,List.length_cons,List.length_cons]
   have:=jQnW a r hr.2
   omega
theorem jQm9:∀(K:Nat) (l:List Int),l.Nodup->(∀x∈l,0<x/\x<=(K:Int))->l.length<=K
 | 0,l,_,h=>by
  cases l with
  | nil=>exact nR
  | cons x r=>have:=h x (List.mem_cons_self ..);omega
 | K+1,l,hn,h=>by
  have h1:=jQnW ((K:Int)+1) l hn
  have h2:=jQm9 K (l.filter (· != ((K:Int)+1))) (hn.filter _) (fun x hx=>by
   have ha:=List.mem_filter.1 hx;have h3:=h x ha.1;have h4:x≠(K:Int)+1:=by simpa using ha.2
   omega)
  omega
theorem TameR.len {K:Int}{tr:Trl}(h:TameR K tr):tr.nums.length<=K.toNat:=by
 refine jQm9 K.toNat tr.nums h.nd fun x hx=>?_
 have:=h.each x hx
 omega
theorem TameR.touch {K:Int}{tr:Trl}(h:TameR K tr){hd:Head}(hn:hd.num<=K):TameR K (touchR tr hd):=by
 unfold touchR
 split
 ·next hc =>
  have hf:0<hd.num/\touchedR tr hd=false:=by simpa using hc
  have he:hd.num ∉ tr.nums:=fun hm=>by
   have h2:=hf.2;unfold touchedR at h2;rw[List.any_eq_false] at h2
   have:=h2 _ hm
   simp at this
  refine⟨?_,fun x hx=>?_⟩
  ·show(tr.nums++[hd.num]).Nodup
   rw[List.nodup_append];exact⟨h.nd,by simp,fun a ha b hb e=>by rw[List.mem_singleton] at hb;subst hb;subst e;exact he ha⟩
  ·rcases List.mem_append.1 hx with hx | hx
   ·exact h.each x hx
   ·rw[List.mem_singleton] at hx;subst hx;exact⟨hf.1,hn⟩
 ·exact⟨h.nd,h.each⟩
theorem TameR.none (K:Int):TameR K ⟨false,[]⟩:=⟨List.nodup_nil,fun x hx=>by cases hx⟩
theorem TameR.loseIf {K:Int}{tr:Trl}(h:TameR K tr)(b:Bool):TameR K ⟨tr.lost || b,tr.nums⟩:=⟨h.nd,h.each⟩
theorem jQke {α:Type}{f:α->Head}{G:α->Prop}{K:Int}{g:α->Int->Trl->Bool×Trl}(hg:∀c p tr,G c->TameR K tr->TameR K (g c p tr).2){t:NodeF α}(h:TameF f G K t)(p:Int){tr:Trl}(hr:TameR K tr):TameR K (hasF f g t p tr).2:=by
 unfold hasF
 split
 ·split
  ·next c hc=>exact hg c p _ (h.each c (List.mem_of_getElem? hc)) (hr.touch h.num)
  ·exact hr.touch h.num
 ·exact hr.touch h.num
theorem jQkc {K:Int}:∀(n:Nat) (t:Nd n) (p:Int) (tr:Trl),tameN K n t->TameR K tr->TameR K (hasN n t p tr).2
 | 0,t,p,tr,h,hr=>jQke (fun c=>c.elim) h.at0 p hr
 | n+1,t,p,tr,h,hr=>jQke (fun c p tr hc hr=>jQkc n c p tr hc hr) h.at1 p hr
def countF {α:Type}(g:α->Nat)(t:NodeF α):Nat:=t.ents.length+(t.kids.map g).sum
def countN:(n:Nat)->Nd n->Nat
 | 0,t=>countF (fun e:Empty=>e.elim) t
 | n+1,t=>countF (countN n) t
theorem jQpS {α:Type}(g:α->Nat):∀{l:List α} {c:α},c∈l->g c<=(l.map g).sum
 | a::r,c,h=>by
  rw[List.map_cons,List.sum_cons];rcases List.mem_cons.1 h with rfl | h
  ·omega
  ·have:=jQpS g h;omega
theorem jQgg {α:Type}{f:α->Head}{G:α->Prop}{K:Int}{g:α->Trl->List Ent×Trl}{m:α->Nat}(hg:∀c tr,G c->TameR K tr->TameR K (g c tr).2/\(g c tr).1.length<=m c)(lo hi:Int) :
  ∀(l:List α) (x:List Ent×Trl),(∀c∈l,G c)->TameR K x.2->TameR K (thruL f g lo hi l x).2/\(thruL f g lo hi l x).1.length<=x.1.length+(l.map m).sum
 | [],x,_,hx=>⟨hx,by simp[thruL]⟩
 | c::r,x,hl,hx=>by
  rw[thruL,List.map_cons,List.sum_cons];have h1:=hg c x.2 (hl c (List.mem_cons_self ..)) hx
  split
  ·have h2:=jQgg (f:=f) hg lo hi r (x.1++(g c x.2).1,(g c x.2).2) (fun d hd=>hl d (List.mem_cons_of_mem _ hd)) h1.1;refine⟨h2.1,?_⟩;have h3:=h2.2;simp only[List.length_append] at h3;have h4:=h1.2;omega
  ·have h2:=jQgg (f:=f) hg lo hi r x (fun d hd=>hl d (List.mem_cons_of_mem _ hd)) hx;exact⟨h2.1,by have:=h2.2;omega⟩
theorem jQhi {α:Type}{f:α->Head}{G:α->Prop}{K:Int}{g:α->Int->Int->Trl->List Ent×Trl}{m:α->Nat}(hg:∀c lo hi tr,G c->TameR K tr->TameR K (g c lo hi tr).2/\(g c lo hi tr).1.length<=m c){t:NodeF α}(h:TameF f G K t)(lo hi:Int){tr:Trl}(hr:TameR K tr):TameR K (thruF f g t lo hi tr).2/\(thruF f g t lo hi tr).1.length<=countF m t:=by
 unfold thruF countF;have h1:=jQgg (f:=f) (fun c tr hc hr=>hg c lo hi tr hc hr) lo hi t.kids (t.ents.filter (inSpan lo hi),touchR tr t.hd) h.each (hr.touch h.num);refine⟨h1.1,Nat.le_trans h1.2 ?_⟩
 have:=List.length_filter_le (inSpan lo hi) t.ents
 simp only;omega
theorem jQaI {K:Int}:∀(n:Nat) (t:Nd n) (lo hi:Int) (tr:Trl),tameN K n t->TameR K tr->TameR K (thruN n t lo hi tr).2/\(thruN n t lo hi tr).1.length<=countN n t
 | 0,t,lo,hi,tr,h,hr=>jQhi (fun c=>c.elim) h.at0 lo hi hr
 | n+1,t,lo,hi,tr,h,hr=>jQhi (fun c lo hi tr hc hr=>jQaI n c lo hi tr hc hr) h.at1 lo hi hr
theorem jQc2 {α:Type}(f:α->Head):sumRows2 f []=0:=rfl
theorem jQY {α:Type}(f:α->Head)(c:α)(r:List α):sumRows2 f (c::r)=(f c).rows+sumRows2 f r:=by unfold sumRows2;rw[List.map_cons,List.sum_cons]
theorem jQbC {α:Type}(f:α->Head)(a b:List α):sumRows2 f (a++b)=sumRows2 f a+sumRows2 f b:=by unfold sumRows2;rw[List.map_append,List.sum_append]
theorem jQiB {α:Type}(f:α->Head):∀l:List α,(∀c∈l,0<=(f c).rows)->0<=sumRows2 f l
 | [],_=>Int.le_refl _
 | c::r,h=>by
  rw[jQY];have h1:=h c (List.mem_cons_self ..);have h2:=jQiB f r fun d hd=>h d (List.mem_cons_of_mem _ hd)
  omega
theorem jQaZ {α:Type}(f:α->Head):∀{l:List α} {c:α},(∀c∈l,0<=(f c).rows)->c∈l->(f c).rows<=sumRows2 f l
 | a::r,c,h,hm=>by
  rw[jQY];have h0:=h a (List.mem_cons_self ..);have h1:=jQiB f r fun d hd=>h d (List.mem_cons_of_mem _ hd)
  rcases List.mem_cons.1 hm with rfl | hm
  ·omega
  ·have:=jQaZ f (fun d hd=>h d (List.mem_cons_of_mem _ hd)) hm;omega
theorem jQef {α:Type}(f:α->Head)(l o:List α)(a:Nat)(ha:a<l.length):sumRows2 f (exch l a 1 o)=sumRows2 f l-(f l[a]).rows+sumRows2 f o:=by
 have h:l=l.take a++(l[a]::l.drop (a+1)):=by rw[<-List.drop_eq_getElem_cons ha,List.take_append_drop]
 unfold exch;rw[jQbC,jQbC];have h2:=congrArg (sumRows2 f) h;rw[jQbC,jQY] at h2;omega
theorem jQma {α:Type}(f:α->Head)(l o:List α)(a:Nat)(ha:a+1<l.length):sumRows2 f (exch l a 2 o)=sumRows2 f l-(f l[a]).rows-(f l[a+1]).rows+sumRows2 f o:=by
 have h:l=l.take a++(l[a]::l[a+1]::l.drop (a+2)):=by
  rw[<-List.drop_eq_getElem_cons ha,<-List.drop_eq_getElem_cons (by omega),List.take_append_drop]
 unfold exch;rw[jQbC,jQbC];have h2:=congrArg (sumRows2 f) h;rw[jQbC,jQY,jQY] at h2;omega
theorem jQdb {α:Type}(l:List α):(halve l).length<=2/\1<=(halve l).length:=by
 unfold halve
 split<;>simp
theorem jQhk {α β:Type}(f:β->Head)(mk:List α->β)(m:List α->Int)(hm:∀l,(f (mk l)).rows=m l)(ha:∀x y,m (x++y)=m x+m y)(l:List α):sumRows2 f ((halve l).map mk)=m l:=by
 unfold halve
 split
 ·rw[List.map_cons,List.map_nil,jQY,jQc2,hm];omega
 ·rw[List.map_cons,List.map_cons,List.map_nil,jQY,jQY,jQc2,hm,hm]
  have:=ha (l.take 3) (l.drop 3)
  rw[List.take_append_drop] at this;omega
theorem jQjB {α:Type}{f:α->Head}{G:α->Prop}{K:Int}(hK:0<=K){es:List Ent}(h4:es.length<=4)(hr:∀e∈es,e.row.size<=300):TameF f G K (leafF es) :=
 ⟨h4,by simp[leafF],fun c hc=>by simp[leafF] at hc,hK,by simp[leafF],fun h=>by simp[leafF] at h,fun _=>⟨by simp[leafF],rfl⟩,by simp[leafF,nobytes,ByteArray.size],hr⟩
theorem jQcx {α:Type}{f:α->Head}{G:α->Prop}{K:Int}(hK:0<=K){cs:List α}(h4:cs.length<=4)(hc:∀c∈cs,G c)(hp:∀c,G c->0<=(f c).rows):TameF f G K (innerF f cs) :=
 ⟨by simp[innerF],h4,hc,hK,jQiB f cs fun c h=>hp c (hc c h),fun _=>⟨rfl,rfl⟩,fun h=>by simp[innerF] at h,by simp[innerF,nobytes,ByteArray.size],fun e he=>by simp[innerF] at he⟩
structure Parts {α:Type}(f:α->Head)(G:α->Prop)(l:List α)(m:Int):Prop where
 two:l.length<=2
 one:1<=l.length
 each:∀c∈l,G c
 rows:sumRows2 f l<=m
theorem jQbk {α:Type}{f:α->Head}{G:α->Prop}{K:Int}(hK:0<=K){es:List Ent}(h5:es.length<=5)(hr:∀e∈es,e.row.size<=300):Parts NodeF.hd (TameF f G K) (leavesF es) (es.length:Int):=by
 have h1:=jQdb es;refine⟨by unfold leavesF;rw[List.length_map];exact h1.1,by unfold leavesF;rw[List.length_map];exact h1.2,fun c hc=>?_,?_⟩
 ·obtain⟨x,hx,rfl⟩:=List.mem_map.1 hc;have h2:=jQb1 hx h5;exact jQjB hK h2.1 fun e he=>hr e (h2.2 e he)
 ·unfold leavesF;rw[jQhk (α:=Ent) NodeF.hd leafF (fun l=>(l.length:Int)) (fun _=>rfl) (fun x y=>by rw[List.length_append];omega)];exact Int.le_refl _
theorem jQce {α:Type}{f:α->Head}{G:α->Prop}{K:Int}(hK:0<=K){cs:List α}(h5:cs.length<=5)(hc:∀c∈cs,G c)(hp:∀c,G c->0<=(f c).rows):Parts NodeF.hd (TameF f G K) (innersF f cs) (sumRows2 f cs):=by
 have h1:=jQdb cs;refine⟨by unfold innersF;rw[List.length_map];exact h1.1,by unfold innersF;rw[List.length_map];exact h1.2,fun c hcm=>?_,?_⟩
 ·obtain⟨x,hx,rfl⟩:=List.mem_map.1 hcm;have h2:=jQb1 hx h5;exact jQcx hK h2.1 (fun e he=>hc e (h2.2 e he)) hp
 ·unfold innersF;rw[jQhk NodeF.hd (innerF f) (sumRows2 f) (fun _=>rfl) (fun x y=>jQbC f x y)];exact Int.le_refl _
theorem jQoA {es:List Ent}{e:Ent}(h:∀x∈es,x.row.size<=300)(he:e.row.size<=300):∀x∈withE es e,x.row.size<=300:=by
 intro x hx;unfold withE at hx;rcases List.mem_append.1 hx with hx | hx
 ·exact h x (List.takeWhile_prefix _ |>.subset hx)
 ·rcases List.mem_cons.1 hx with rfl | hx
  ·exact he
  ·exact h x ((List.dropWhile_suffix _).subset (List.mem_filter.1 hx).1)
theorem jQrj {α:Type}{f:α->Head}{l:List α}{p:Int}{c:α}(h:l[wayF f l p]?=some c):∃ha:wayF f l p<l.length,l[wayF f l p]=c:=by
 obtain⟨ha,hb⟩:=List.getElem?_eq_some_iff.1 h;exact⟨ha,hb⟩
theorem jQjQ {α:Type}{f:α->Head}{G:α->Prop}{K:Int}(hK:0<=K)(hp:∀c,G c->0<=(f c).rows){g:α->Ent->Trl->List α×Trl}(hg:∀c e tr,G c->e.row.size<=300->TameR K tr->Parts f G (g c e tr).1 ((f c).rows+1)/\TameR K (g c e tr).2){t:NodeF α}(h:TameF f G K t){e:Ent}(he:e.row.size<=300){tr:Trl}(hr:TameR K tr) :
  Parts NodeF.hd (TameF f G K) (putF f g t e tr).1 (t.hd.rows+1)/\TameR K (putF f g t e tr).2:=by
 unfold putF
 split
 ·next hi =>
  split
  ·next c hc =>
   obtain⟨ha,hac⟩:=jQrj hc;have hG:=h.each c (List.mem_of_getElem? hc);have h1:=hg c e _ hG he (hr.touch h.num)
   have hb:(exch t.kids (wayF f t.kids e.place) 1 (g c e (touchR tr t.hd)).1).length<=5:=by
    have:=jQbJ t.kids (g c e (touchR tr t.hd)).1 (wayF f t.kids e.place) 1 (by omega)
    have:=h1.1.two
    have:=h.kids
    omega
   have h2:=jQce hK hb (fun x hx=>by rcases jQci hx with hx | hx;exact h.each x hx;exact h1.1.each x hx) hp;refine⟨⟨h2.two,h2.one,h2.each,?_⟩,h1.2⟩;show sumRows2 NodeF.hd (innersF f _)<=_;have h3:=h2.rows;rw[jQef f _ _ _ ha,hac] at h3;have h4:=h1.1.rows;have h5:=(h.inn hi).1;omega
  ·have h2:=jQbk (f:=f) (G:=G) hK (es:=[e]) (by simp) (fun x hx=>by rw[List.mem_singleton] at hx;subst hx;exact he);refine⟨⟨h2.two,h2.one,h2.each,Int.le_trans h2.rows ?_⟩,hr.touch h.num⟩
   have:=h.pos
   simp;omega
 ·next hi =>
  have hf:t.hd.inner=false:=by simpa using hi
  have hl:=jQf6 t.ents e;have h4:=h.ents;have h2:=jQbk (f:=f) (G:=G) hK (es:=withE t.ents e) (by omega) (jQoA h.row he);refine⟨⟨h2.two,h2.one,h2.each,Int.le_trans h2.rows ?_⟩,hr.touch h.num⟩
  have:=(h.lf hf).1
  omega
theorem Parts.and {α:Type}{f:α->Head}{G P:α->Prop}{l:List α}{m:Int}(h:Parts f G l m)(hp:∀c∈l,P c):Parts f (fun c=>G c/\P c) l m:=⟨h.two,h.one,fun c hc=>⟨h.each c hc,hp c hc⟩,h.rows⟩
theorem jQeF {α:Type}{es:List Ent}:∀c∈(leavesF es:List (NodeF α)),c.hd.inner=false:=by
 intro c hc;obtain⟨x,_,rfl⟩:=List.mem_map.1 hc;rfl
theorem jQmH {α:Type}(f:α->Head)(g:α->Ent->Trl->List α×Trl)(t:NodeF α)(e:Ent)(tr:Trl)(h:t.hd.inner=false):∀c∈(putF f g t e tr).1,c.hd.inner=false:=by
 unfold putF;rw[h];exact jQeF
theorem jQdI {K:Int}(hK:0<=K):∀(n:Nat) (t:Nd n) (e:Ent) (tr:Trl),tameN K n t->e.row.size<=300->TameR K tr->Parts (headN n) (tameN K n) (putN n t e tr).1 ((headN n t).rows+1)/\TameR K (putN n t e tr).2
 | 0,t,e,tr,h,he,hr=>by
  have h1:=jQjQ hK (fun c=>c.elim) (g:=fun e:Empty=>e.elim) (fun c=>c.elim) h.at0 he hr;exact⟨h1.1.and (jQmH _ _ t e tr h.leaf0),h1.2⟩
 | n+1,t,e,tr,h,he,hr=>jQjQ hK (fun c hc=>hc.head.2.1) (fun c e tr hc he hr=>jQdI hK n c e tr hc he hr) h.at1 he hr
theorem jQcs {α:Type}{f:α->Head}{G:α->Prop}{K:Int}(hK:0<=K)(hp:∀c,G c->0<=(f c).rows){l r:NodeF α}(hl:TameF f G K l)(hr:TameF f G K r)(h5:sizeF l+sizeF r<=5):Parts NodeF.hd (TameF f G K) (togetherF f l r) (l.hd.rows+r.hd.rows):=by
 have hf:=hr.pos;have he:=hl.pos;unfold togetherF
 split
 ·next hi =>
  have h1:sizeF l=l.kids.length:=by unfold sizeF;rw[if_pos hi]
  cases hri:r.hd.inner with
  | true =>
   have h2:sizeF r=r.kids.length:=by unfold sizeF;rw[if_pos hri]
   have h3:=jQce hK (cs:=l.kids++r.kids) (by rw[List.length_append];omega) (fun c hc=>by rcases List.mem_append.1 hc with hc | hc;exact hl.each c hc;exact hr.each c hc) hp;refine⟨h3.two,h3.one,h3.each,Int.le_trans h3.rows ?_⟩;rw[jQbC,<-(hl.inn hi).1,<-(hr.inn hri).1];exact Int.le_refl _
  | false =>
   have hk:=(hr.lf hri).2;have h4:=hl.kids;have h3:=jQce hK (cs:=l.kids++r.kids) (by rw[hk,List.append_nil];omega) (fun c hc=>by rcases List.mem_append.1 hc with hc | hc;exact hl.each c hc;exact hr.each c hc) hp;refine⟨h3.two,h3.one,h3.each,Int.le_trans h3.rows ?_⟩;rw[hk,List.append_nil,<-(hl.inn hi).1];omega
 ·next hi =>
  have ha:l.hd.inner=false:=by simpa using hi
  have h1:sizeF l=l.ents.length:=by unfold sizeF;rw[if_neg hi]
  have hb:=(hl.lf ha).1;cases hri:r.hd.inner with
  | true =>
   have hk:=(hr.inn hri).2;have h4:=hl.ents;have h3:=jQbk (f:=f) (G:=G) hK (es:=l.ents++r.ents) (by rw[hk,List.append_nil];omega) (fun c hc=>by rcases List.mem_append.1 hc with hc | hc;exact hl.row c hc;exact hr.row c hc);refine⟨h3.two,h3.one,h3.each,Int.le_trans h3.rows ?_⟩;rw[hk,List.append_nil];omega
  | false =>
   have h2:sizeF r=r.ents.length:=by unfold sizeF;rw[if_neg (by rw[hri];simp)]
   have hg:=(hr.lf hri).1;have h3:=jQbk (f:=f) (G:=G) hK (es:=l.ents++r.ents) (by rw[List.length_append];omega) (fun c hc=>by rcases List.mem_append.1 hc with hc | hc;exact hl.row c hc;exact hr.row c hc);refine⟨h3.two,h3.one,h3.each,Int.le_trans h3.rows ?_⟩;rw[List.length_append];omega
theorem jQcr {K:Int}(hK:0<=K):∀(n:Nat) (l r:Nd n),tameN K n l->tameN K n r->sizeN n l+sizeN n r<=5->Parts (headN n) (tameN K n) (togetherN n l r) ((headN n l).rows+(headN n r).rows)
 | 0,l,r,hl,hr,h5=>by
  refine(jQcs hK (fun c=>c.elim) hl.at0 hr.at0 h5).and ?_;unfold togetherF;rw[hl.leaf0];exact jQeF
 | n+1,l,r,hl,hr,h5=>jQcs hK (fun c hc=>hc.head.2.1) hl.at1 hr.at1 h5
theorem jQml {α:Type}{f:α->Head}{G:α->Prop}{K:Int}{t:NodeF α}(h:TameF f G K t):sizeF t<=4:=by
 unfold sizeF
 split
 ·exact h.kids
 ·exact h.ents
theorem jQmk {K:Int}:∀{n:Nat} {t:Nd n},tameN K n t->sizeN n t<=4
 | 0,_,h=>jQml h.at0
 | _+1,_,h=>jQml h.at1
theorem jQeL {α:Type}{f:α->Head}{sz:α->Nat}{tg:α->α->List α}{G:α->Prop}{K:Int}(hn:∀c,G c->(f c).num<=K/\0<=(f c).rows/\sz c<=4)(ht:∀l r,G l->G r->sz l+sz r<=5->Parts f G (tg l r) ((f l).rows+(f r).rows)){cs:List α}(h4:cs.length<=4)(hc:∀c∈cs,G c){a:Nat}(ha:a<cs.length)(hs:sz cs[a]<2){tr:Trl}(hr:TameR K tr) :
  (joinedF f tg cs a tr).1.length<=4/\(∀c∈(joinedF f tg cs a tr).1,G c)/\sumRows2 f (joinedF f tg cs a tr).1<=sumRows2 f cs/\TameR K (joinedF f tg cs a tr).2:=by
 unfold joinedF
 split
 ·exact⟨h4,hc,Int.le_refl _,hr⟩
 ·next hne =>
  split
  ·next l r hl hrr =>
   obtain⟨hj,hjl⟩:=List.getElem?_eq_some_iff.1 hl;obtain⟨hj1,hjr⟩:=List.getElem?_eq_some_iff.1 hrr;have hb:=hc l (List.mem_of_getElem? hl);have he:=hc r (List.mem_of_getElem? hrr)
   have hf:sz l+sz r<=5:=by
    have h1:=(hn l hb).2.2;have h2:=(hn r he).2.2
    by_cases hlast:a+1=cs.length
    ·have hg:joinAt cs.length a+1=a:=by
      unfold joinAt;rw[if_pos (by simpa using hlast)]
      have:¬(a=0):=fun e=>hne (by simp[e];omega)
      omega
     have:r=cs[a]:=by rw[<-hjr];congr 1
     rw[this];omega
    ·have hg:joinAt cs.length a=a:=by unfold joinAt;rw[if_neg (by simpa using hlast)]
     have:l=cs[a]:=by rw[<-hjl];congr 1
     rw[this];omega
   have h1:=ht l r hb he hf;refine⟨?_,fun c hcm=>?_,?_,(hr.touch (hn l hb).1).touch (hn r he).1⟩
   ·rw[jQbJ _ _ _ _ (by omega)]
    have:=h1.two
    omega
   ·rcases jQci hcm with h | h
    ·exact hc c h
    ·exact h1.each c h
   ·rw[jQma f _ _ _ hj1,hjl,hjr]
    have:=h1.rows
    omega
  ·exact⟨h4,hc,Int.le_refl _,hr⟩
theorem jQkr {α:Type}{f:α->Head}{sz:α->Nat}{tg:α->α->List α}{G:α->Prop}{K:Int}(hK:0<=K)(hn:∀c,G c->(f c).num<=K/\0<=(f c).rows/\sz c<=4)(ht:∀l r,G l->G r->sz l+sz r<=5->Parts f G (tg l r) ((f l).rows+(f r).rows)){g:α->Int->Trl->α×Trl}(hg:∀c p tr,G c->TameR K tr->G (g c p tr).1/\(f (g c p tr).1).rows<=(f c).rows/\TameR K (g c p tr).2){t:NodeF α}(h:TameF f G K t)(p:Int){tr:Trl}(hr:TameR K tr) :
  TameF f G K (delF f sz tg g t p tr).1/\(delF f sz tg g t p tr).1.hd.rows<=t.hd.rows/\TameR K (delF f sz tg g t p tr).2:=by
 have hp:∀c,G c->0<=(f c).rows:=fun c hc=>(hn c hc).2.1
 unfold delF
 split
 ·next hi =>
  split
  ·next c hc =>
   obtain⟨ha,hac⟩:=jQrj hc;have hG:=h.each c (List.mem_of_getElem? hc);have h1:=hg c p _ hG (hr.touch h.num);have ho:=h.kids
   have hj:(exch t.kids (wayF f t.kids p) 1 [(g c p (touchR tr t.hd)).1]).length=t.kids.length:=by
    rw[jQbJ _ _ _ _ (by omega),List.length_singleton];omega
   have hb:∀x∈exch t.kids (wayF f t.kids p) 1 [(g c p (touchR tr t.hd)).1],G x:=fun x hx=>by
    rcases jQci hx with hx | hx
    ·exact h.each x hx
    ·rw[List.mem_singleton] at hx;subst hx;exact h1.1
   have hf:sumRows2 f (exch t.kids (wayF f t.kids p) 1 [(g c p (touchR tr t.hd)).1])<=t.hd.rows:=by
    rw[jQef f _ _ _ ha,hac,jQY,jQc2,(h.inn hi).1]
    have:=h1.2.1
    omega
   split
   ·next hs =>
    have hm:(exch t.kids (wayF f t.kids p) 1 [(g c p (touchR tr t.hd)).1])[wayF f t.kids p]'(by omega)=(g c p (touchR tr t.hd)).1:=by
     have hh:min (wayF f t.kids p) t.kids.length=wayF f t.kids p:=by omega
     simp[exch,List.getElem_append,hh]
    have h2:=jQeL (f:=f) hn ht (by omega) hb (a:=wayF f t.kids p) (by omega) (by rw[hm];exact hs) h1.2.2;exact⟨jQcx hK h2.1 h2.2.1 hp,Int.le_trans h2.2.2.1 hf,h2.2.2.2⟩
   ·exact⟨jQcx hK (by omega) hb hp,hf,h1.2.2⟩
  ·exact⟨h,Int.le_refl _,hr.touch h.num⟩
 ·next hi =>
  have hk:t.hd.inner=false:=by simpa using hi
  have hl:=List.length_filter_le (fun e:Ent=>e.place != p) t.ents;have h4:=h.ents;refine⟨jQjB hK (by omega) fun e he=>h.row e (List.mem_filter.1 he).1,?_,hr.touch h.num⟩
  have:=(h.lf hk).1
  show((t.ents.filter fun e=>e.place != p).length:Int)<=_
  omega
theorem jQgM {K:Int}(hK:0<=K):∀(n:Nat) (t:Nd n) (p:Int) (tr:Trl),tameN K n t->TameR K tr->tameN K n (delN n t p tr).1/\(headN n (delN n t p tr).1).rows<=(headN n t).rows/\TameR K (delN n t p tr).2
 | 0,t,p,tr,h,hr=>by
  have h1:=jQkr hK (sz:=fun e:Empty=>e.elim) (fun c=>c.elim) (tg:=fun e:Empty=>e.elim) (fun c=>c.elim) (g:=fun e:Empty=>e.elim) (fun c=>c.elim) h.at0 p hr;refine⟨⟨h1.1,?_⟩,h1.2.1,h1.2.2⟩
  show(delF (fun e:Empty=>e.elim) (fun e:Empty=>e.elim) (fun e:Empty=>e.elim) (fun e:Empty=>e.elim) t p tr).1.hd.inner=false
  unfold delF;rw[h.leaf0];rfl
 | n+1,t,p,tr,h,hr=>jQkr hK (fun c hc=>⟨hc.head.1,hc.head.2.1,jQmk hc⟩) (fun l r hl hr h5=>jQcr hK n l r hl hr h5) (fun c p tr hc hr=>jQgM hK n c p tr hc hr) h.at1 p hr
structure TameT (K m:Int)(X:NTree):Prop where
 t:tameN K X.d X.t
 rows:X.head.rows<=m
theorem TameT.put {K m:Int}(hK:0<=K){X:NTree}(h:TameT K m X){e:Ent}(he:e.row.size<=300){tr:Trl}(hr:TameR K tr):TameT K (m+1) (X.put e tr).1/\TameR K (X.put e tr).2:=by
 obtain⟨h1,h2⟩:=jQdI hK X.d X.t e tr h.t he hr;refine⟨?_,h2⟩;have hm:=h.rows;have ha:=h1.rows;unfold NTree.head at hm;unfold NTree.put;simp only;obtain⟨l,hl⟩:∃l,l=(putN X.d X.t e tr).1:=⟨_,rfl⟩;rw[<-hl] at h1 ha ⊢;unfold upN
 split
 ·next x =>
  refine⟨h1.each x (List.mem_cons_self ..),?_⟩;rw[jQY,jQc2] at ha;unfold NTree.head;simp only;omega
 ·refine⟨jQcx hK (by have:=h1.two;omega) h1.each (fun c hc=>hc.head.2.1),?_⟩;show sumRows2 (headN X.d) l<=_;omega
theorem TameT.del {K m:Int}(hK:0<=K){X:NTree}(h:TameT K m X)(p:Int){tr:Trl}(hr:TameR K tr):TameT K m (X.del p tr).1/\TameR K (X.del p tr).2:=by
 obtain⟨h1,h2,h3⟩:=jQgM hK X.d X.t p tr h.t hr;refine⟨?_,h3⟩;have hm:=h.rows;obtain⟨d,t⟩:=X;unfold NTree.head at hm;unfold NTree.del;simp only at h1 h2 h3 hm ⊢;obtain⟨y,hy⟩:∃y,y=(delN d t p tr).1:=⟨_,rfl⟩;rw[<-hy] at h1 h2 ⊢;cases d with
 | zero=>exact⟨h1,Int.le_trans h2 hm⟩
 | succ n =>
  show TameT K m (if(NodeF.hd y).inner then(match NodeF.kids y with | [c]=>⟨n,c⟩ | _=>⟨n+1,y⟩) else⟨n+1,y⟩)
  split
  ·next hi =>
   split
   ·next c hc =>
    have h4:=h1.at1;refine⟨h4.each c (by rw[hc];exact List.mem_cons_self ..),?_⟩;have h5:=(h4.inn hi).1;rw[hc,jQY,jQc2] at h5;have h6:(headN (n+1) y).rows=(NodeF.hd y).rows:=rfl;unfold NTree.head;simp only;omega
   ·exact⟨h1,Int.le_trans h2 hm⟩
  ·exact⟨h1,Int.le_trans h2 hm⟩
end Sq
namespace Sq
def fits (n:Nat)(r:Rd):Prop:=r.rest.size<=n\/r.short=true
theorem jQP {r:Rd}(k:Int)(h:r.short=true):(takeN r k).short=true:=by
 unfold takeN takeBad;rw[h];simp
theorem fits.take {n:Nat}{r:Rd}(h:fits n r)(k:Int):fits n (takeN r k):=by
 rcases h with h | h
 ·exact Or.inl (Nat.le_trans (jQp r k) h)
 ·exact Or.inr (jQP k h)
theorem jQmY {r:Rd}{k:Int}(h:takeBad r k=true):numV r k=0:=by
 unfold numV takeV;rw[if_pos h];rfl
theorem jQgh {r:Rd}(h:numV r 1≠0):(takeN r 1).rest.size+1=r.rest.size/\r.short=false/\(takeN r 1).short=false:=by
 cases hb:takeBad r 1 with
 | true=>exact absurd (jQmY hb) h
 | false =>
  have ha:=hb;unfold takeBad at ha;simp at ha;obtain⟨h1,h2⟩:=ha;have e:takeN r 1=⟨r.rest.extract 1 r.rest.size,r.short⟩:=by unfold takeN;rw[if_neg (by rw[hb];decide)];rfl
  rw[e];refine⟨?_,h2,h2⟩
  show(r.rest.extract 1 r.rest.size).size+1=_
  rw[ByteArray.size_extract];omega
theorem fits.one {n:Nat}{r:Rd}(h:fits (n+1) r)(hn:numV r 1≠0):fits n (takeN r 1):=by
 obtain⟨h1,h2,h3⟩:=jQgh hn;rcases h with h | h
 ·exact Or.inl (by omega)
 ·rw[h2] at h;cases h
theorem jQc5 (r:Rd):0<=numV r 1/\numV r 1<=255*((r.rest.size:Int)-(takeN r 1).rest.size)/\numV r 1<=255:=by
 have h1:=jQm1 r;have h2:=jQp r 1;refine⟨h1.1,?_,by omega⟩
 by_cases h:numV r 1=0
 ·omega
 ·have:=(jQgh h).1
  omega
theorem jQb5:∀(k:Nat) (r:Rd),(entsR k r).1.length=k/\(entsR k r).2.rest.size<=r.rest.size/\(r.short=true->(entsR k r).2.short=true)
 | 0,r=>⟨rfl,nR,id⟩
 | k+1,r=>by
  have h:=jQb5 k (txtN (takeN r 5));refine⟨by show(_::(entsR k (txtN (takeN r 5))).1).length=_;rw[List.length_cons,h.1],?_,fun hs=>?_⟩
  ·exact Nat.le_trans h.2.1 (Nat.le_trans (jQbP _) (jQp _ _))
  ·exact h.2.2 (jQP _ (jQP _ (jQP _ hs)))
def costs {α:Type}(f:α->Head)(r:Rd)(x:α×Rd):Prop:=x.2.rest.size<=r.rest.size/\(r.short=true->x.2.short=true)/\0<=(f x.1).rows/\(f x.1).rows<=255*((r.rest.size:Int)-x.2.rest.size)
theorem jQiW {α:Type}{f:α->Head}{mk:ByteArray->Int->Int->α}(hm:∀s l q,(f (mk s l q)).rows=q)(r:Rd)(c:α×Rd)(hc:costs f (takeN (takeN r 5) 1) c) :
  costs f r (kidFix f mk (numV r 5) (numV (takeN r 5) 1) c):=by
 have h1:=jQp r 5;have h2:=jQp (takeN r 5) 1;have h3:=jQc5 (takeN r 5);obtain⟨c1,c2,c3,c4⟩:=hc;unfold kidFix
 split
 ·refine⟨Nat.le_trans c1 (Nat.le_trans h2 h1),fun hs=>c2 (jQP _ (jQP _ hs)),?_,?_⟩
  ·show 0<=(f (mk _ _ _)).rows;rw[hm];exact h3.1
  ·show(f (mk _ _ _)).rows<=_;rw[hm];show _<=255*((r.rest.size:Int)-c.2.rest.size);omega
 ·split
  ·exact⟨Nat.le_trans c1 (Nat.le_trans h2 h1),fun hs=>c2 (jQP _ (jQP _ hs)),c3,by omega⟩
  ·refine⟨?_,fun _=>rfl,c3,?_⟩
   ·show c.2.rest.size<=_;omega
   ·show(f c.1).rows<=255*((r.rest.size:Int)-c.2.rest.size);omega
theorem jQa9 {α:Type}{f:α->Head}{mk:ByteArray->Int->Int->α}{rd:Rd->α×Rd}(hm:∀s l q,(f (mk s l q)).rows=q)(hr:∀r,costs f r (rd r)) :
  ∀(k:Nat) (r:Rd),(kidsR f mk rd k r).1.length=k/\(kidsR f mk rd k r).2.rest.size<=r.rest.size/\(r.short=true->(kidsR f mk rd k r).2.short=true)/\(∀c∈(kidsR f mk rd k r).1,0<=(f c).rows/\(f c).rows<=255*(r.rest.size:Int))/\sumRows2 f (kidsR f mk rd k r).1<=255*((r.rest.size:Int)-(kidsR f mk rd k r).2.rest.size)/\0<=sumRows2 f (kidsR f mk rd k r).1
 | 0,r=>⟨rfl,nR,id,fun c hc=>(by cases hc),(by show(0:Int)<=255*((r.rest.size:Int)-r.rest.size);omega),(by show(0:Int)<=0;omega)⟩
 | k+1,r=>by
  have h1:=jQiW hm r (rd (takeN (takeN r 5) 1)) (hr _);obtain⟨c1,c2,c3,c4⟩:=h1;have h2:=jQa9 hm hr k (kidFix f mk (numV r 5) (numV (takeN r 5) 1) (rd (takeN (takeN r 5) 1))).2;obtain⟨d1,d2,d3,d4,d5,d6⟩:=h2;rw[kidsR];simp only;refine⟨by rw[List.length_cons,d1],Nat.le_trans d2 c1,fun hs=>d3 (c2 hs),fun c hc=>?_,?_,?_⟩
  ·rcases List.mem_cons.1 hc with rfl | hc
   ·exact⟨c3,by omega⟩
   ·have:=d4 c hc
    omega
  ·rw[jQY];omega
  ·rw[jQY];omega
theorem jQcC:∀(n:Nat) (s:ByteArray) (l q:Int),(headN n (shutN n s l q)).rows=q
 | 0,_,_,_=>rfl
 | _+1,_,_,_=>rfl
theorem jQai (wide:Nat):∀(n:Nat) (r:Rd),costs (headN n) r (readN wide n r)
 | 0,r=>by
  have h1:=jQp r 1;have h2:=jQp (takeN r 1) wide;refine⟨Nat.le_trans h2 h1,fun hs=>jQP _ (jQP _ hs),by show(0:Int)<=0;omega,?_⟩
  show(0:Int)<=255*((r.rest.size:Int)-(takeN (takeN r 1) wide).rest.size)
  omega
 | n+1,r=>by
  have h1:=jQp r 1;show costs (headN (n+1)) r (readF wide (headN n) (shutN n) (readN wide n) r);unfold readF
  split
  ·have h2:=jQp (takeN r 1) wide;refine⟨Nat.le_trans h2 h1,fun hs=>jQP _ (jQP _ hs),by show(0:Int)<=0;omega,?_⟩
   show(0:Int)<=255*((r.rest.size:Int)-(takeN (takeN r 1) wide).rest.size)
   omega
  ·rename_i hk;have h3:=(jQgh hk).1;have h4:=jQp (takeN r 1) 1;have h5:=jQc5 (takeN r 1)
   split
   ·have h6:=jQb5 (numV (takeN r 1) 1).toNat (takeN (takeN r 1) 1);obtain⟨e1,e2,e3⟩:=h6;refine⟨Nat.le_trans e2 (Nat.le_trans h4 h1),fun hs=>e3 (jQP _ (jQP _ hs)),?_,?_⟩
    ·show(0:Int)<=((entsR (numV (takeN r 1) 1).toNat (takeN (takeN r 1) 1)).1.length:Nat);omega
    ·show(((entsR (numV (takeN r 1) 1).toNat (takeN (takeN r 1) 1)).1.length:Nat):Int)<=255*((r.rest.size:Int)-(entsR (numV (takeN r 1) 1).toNat (takeN (takeN r 1) 1)).2.rest.size)
     rw[e1];omega
   ·split
    ·have h6:=jQa9 (f:=headN n) (mk:=shutN n) (jQcC n) (fun r=>jQai wide n r) (numV (takeN r 1) 1).toNat (takeN (takeN r 1) 1);obtain⟨d1,d2,d3,d4,d5,d6⟩:=h6;refine⟨Nat.le_trans d2 (Nat.le_trans h4 h1),fun hs=>d3 (jQP _ (jQP _ hs)),?_,?_⟩
     ·show 0<=sumRows2 (headN n) _;exact d6
     ·show sumRows2 (headN n) _<=255*((r.rest.size:Int)-(kidsR (headN n) (shutN n) (readN wide n) (numV (takeN r 1) 1).toNat (takeN (takeN r 1) 1)).2.rest.size);omega
    ·refine⟨h1,fun _=>rfl,by show(0:Int)<=0;omega,?_⟩
     show(0:Int)<=255*((r.rest.size:Int)-(takeN r 1).rest.size)
     omega
theorem fits.read {n m:Nat}{r:Rd}(wide:Nat)(h:fits m r):fits m (readN wide n r).2:=by
 obtain⟨h1,h2,_⟩:=jQai wide n r;rcases h with h | h
 ·exact Or.inl (Nat.le_trans h1 h)
 ·exact Or.inr (h2 h)
end Sq
section
open Go.RowKit
theorem Tryz.infoInt:(Tryz.prog.info? 3).map (fun i=>(i.zero,i.size,i.bytes))=some (some (.int .i64 0),1,8):=by kernel_rfl
theorem SevenAt.blk {w:World}{g:Nat}{h:Sq.Head}{ev cv:Value}(hb:w.heap[g]?=some (.cells #[.bool h.inner,ev,cv,.int .i64 h.least,.int .i64 h.rows,.string h.sl,.int .i64 h.num] 60)):SevenAt w g 0 h ev cv :=
 ⟨by rw[jQb hb];rfl,by rw[jQb hb];rfl,by rw[jQb hb];rfl,by rw[jQb hb];rfl,by rw[jQb hb];rfl,by rw[jQb hb];rfl,by rw[jQb hb];rfl⟩
theorem jQag (tb:Nat)(tr:Trl)(h:Sq.Head)(ev cv:Value)(w:World)(he:∃a k c,ev=.slice a k c)(hc:∃a k c,cv=.slice a k c)(ht:TrAt tb w tr)(hn:tr.nums.length+1<=100000) :
  Calls Tryz.prog 145 #[.pointer (some ⟨tb,0,none⟩),.agg (headCells h ev cv).toArray] w fun e w'=>e=.returned (.tuple #[])/\TrAt tb w' (touchR tr h)/\TFrm tb w w':=by
 obtain⟨i0,hi,hz0,hz1,hz2⟩:=info_parts Tryz.infoInt;obtain⟨ea,ek,ec,rfl⟩:=he;obtain⟨ca,ck,cc,rfl⟩:=hc;rw[jQc];have hN:=ht.lt;obtain⟨hin,hle,hr,hs,hnu⟩:=h;obtain⟨W,hWW⟩:∃W,W=w.alloc (.cells #[.bool hin,.slice ea ek ec,.slice ca ck cc,.int .i64 hle,.int .i64 hr,.string hs,.int .i64 hnu] 60):=⟨_,rfl⟩;have hW:Below w.heap.size w W:=by rw[hWW];exact(bR).alloc (nR) _
 have hv:W.heap[w.heap.size]?=some (.cells #[.bool hin,.slice ea ek ec,.slice ca ck cc,.int .i64 hle,.int .i64 hr,.string hs,.int .i64 hnu] 60):=by rw[hWW];exact jQi w _
 have HT:=hd (ht.below hW);have HF:Hid (TFrm tb w W):=TFrm.of hW (by omega);have hA:=hd hv;obtain⟨a0,a1,a2,a3,a4,a5,a6⟩:=SevenAt.blk (h:=⟨hin,hle,hr,hs,hnu⟩) hv;simp only[Nat.zero_add] at a1 a2 a3 a4 a5 a6;have hL:=jQf hv;have hM:=HT.o.lt;clear ht hW hv;go_enter Tryz.func145,Tryz.ntmps145;go_wp2_with fail;rw[<-hWW];clear hWW;refine(jQbf ⟨hin,hle,hr,hs,hnu⟩ _ _ W ⟨_,_,_,rfl⟩ ⟨_,_,_,rfl⟩).mono ?_;rintro e w0 ⟨rfl,hb0⟩;have hg:=(hb0.block w.heap.size hL).trans hA.o;have T0:=hd (HT.o.below hb0);have F0:Hid (TFrm tb w w0):=HF.o.trans (TFrm.of hb0 (by omega));have ho:=jQf hg;have hx:=T0.o.lt;have ha:=hd hg;clear hg hb0 HT HF hA hL hM a0 a1 a2 a3 a4 a5 a6;cases hsh:Sq.isShut ⟨hin,hle,hr,hs,hnu⟩
 ·obtain⟨w1,hw1⟩:∃x,x=w0:=⟨_,rfl⟩;rw[<-hw1] at T0 F0 ha ho hx ⊢;clear hw1;obtain⟨tr1,htr1⟩:∃x,x=tr:=⟨_,rfl⟩;have T1:Hid (TrAt tb w1 tr1):=by rw[htr1];exact T0
  have F1:=F0
  have hf:Hid (touchR tr ⟨hin,hle,hr,hs,hnu⟩=⟨tr1.lost,if Decidable.decide (0<hnu) && !Sq.touchedR tr ⟨hin,hle,hr,hs,hnu⟩ then tr1.nums++[hnu] else tr1.nums⟩):=by
   show _=_;unfold touchR;rw[hsh,htr1];simp
  have hl:Hid (Sq.touchedR tr ⟨hin,hle,hr,hs,hnu⟩=Sq.touchedR tr1 ⟨hin,hle,hr,hs,hnu⟩):=by show _=_;rw[htr1]
  have hH:tr1.nums.length+1<=100000:=by rw[htr1];exact hn
  obtain⟨n0,n1,n2,n3,n4,n5,n6⟩:=SevenAt.blk (h:=⟨hin,hle,hr,hs,hnu⟩) ha.o;simp only[Nat.zero_add] at n1 n2 n3 n4 n5 n6;have hz:=ho;have hE:=hx;clear htr1 hsh T0 F0 ha ho hx hn
  by_cases hp:0<hnu
  ·go_wp2_with fail;refine(jQb7 tb tr1 ⟨hin,hle,hr,hs,hnu⟩ _ _ w1 ⟨_,_,_,rfl⟩ ⟨_,_,_,rfl⟩ T1.o).mono ?_;rintro e w2 ⟨rfl,hb2⟩;have T2:=hd (T1.o.below hb2);have F2:Hid (TFrm tb w w2):=F1.o.trans (TFrm.of hb2 (by omega));have hG:=hb2.size;have d6:w2.cell? ⟨w.heap.size,6,none⟩=some (.int .i64 hnu):=(hb2.cell (p:=⟨w.heap.size,6,none⟩) hz).trans n6;have hD:w.heap.size<w2.heap.size:=by omega
   have hy:tb<w2.heap.size:=by omega
   clear hb2 hG n0 n1 n2 n3 n4 n5 n6 T1 F1;cases hto:Sq.touchedR tr1 ⟨hin,hle,hr,hs,hnu⟩
   ·have HN:Hid (touchR tr ⟨hin,hle,hr,hs,hnu⟩=⟨tr1.lost,tr1.nums++[hnu]⟩):=by
     show _=_;rw[hf.o];rw[show Sq.touchedR tr ⟨hin,hle,hr,hs,hnu⟩=false from hl.o.trans hto];simp[hp]
    obtain⟨v,hb,hown⟩:=T2.o.row;obtain⟨ao,cap0,rfl⟩:=jQa hown;have c1:w2.cell? ⟨tb,1,none⟩=some (.slice ao tr1.nums.length cap0):=by rw[jQb hb];rfl
    have hw:Below w2.heap.size w2 (w2.alloc (.cells #[.int .i64 hnu] 3)).drew:=Below.drew ((bR).alloc (nR) _);have HO:=hd (jQh hown hw);have HB:Hid ((w2.alloc (.cells #[.int .i64 hnu] 3)).drew.heap[tb]?=some (.cells #[.bool tr1.lost,.slice ao tr1.nums.length cap0] 74)):=(hw.block tb hy).trans hb;have hm:=hd hw;have hJ:=hd T2.o.few;clear hb hown hw T2 hf hl hto;go_wp2
    go_region_law (first
     | (go_loud (refine step_append_lies _ rfl (.tmp 22) (.tmp 25) 54 rfl (tb+1) 3 i0 _ 1 8 Tryz.underlying54 hi hz0 hz1 hz2 rfl (by decide) (.slice ao tr1.nums.length cap0) tr1.nums.length (tr1.nums.map (Value.int .i64)) (by simp[Act.eval,Act.put]) HO.o ⟨w2.heap.size,0,none⟩ 1 1 [.int .i64 hnu] (by simp[Act.eval,Act.put]) rfl (by exact jQL w2 _ _ _ rfl rfl) (by intro u hu;simp at hu;subst hu;rfl) (by decide) (by unfold maxLen;omega) (by omega) (by simp;omega) _ rfl ?_);intro g cap w3 hown1 hgrow hat hltg;have hj:=(hgrow.block tb (by simp;omega) (fun e=>jQn HO.o HB.o (by decide) e.symm)).trans HB.o;have k0:w3.cell? ⟨tb,1,none⟩=some (.slice ao tr1.nums.length cap0):=(by rw[jQb hj];rfl);have f0:=jQd hj 1;have hI:=jQf hj;have hF:=hd hown1;have HG:=hd hgrow;have hB:=hd hj;clear hown1 hgrow hat hj))
    all_goals(try go_wp2)
    all_goals
     go_end0;rw[HN.o];refine⟨rfl,⟨⟨.slice (some ⟨g,0,none⟩) (tr1.nums.length+1) cap,by rw[jQe hB.o];rfl,?_⟩,by simpa using hH⟩,?_⟩
     ·have:=hF.o
      simp only[List.length_append,List.length_singleton,List.map_append];exact jQq this fun k hk=>jQg (fun e=>jQn this hB.o (by decide) (by rw[hk,e]))
     ·refine F2.o.trans ⟨?_,?_⟩
      ·refine Below.setCell (B:=tb) (Below.trans (Below.mono (B':=tb) hm.o (by omega)) (Tch.of_grown HG.o (fun k hk=>?_) (by simp;omega))) (nR) _;exact Nat.le_of_succ_le (HO.o.lt k hk).1
      ·intro q c e fr hq h1 h2
       have hC:q≠tb:=fun e=>by
        subst e
        have:=(hm.o.block q (jQf hq)).trans hq
        rw[HB.o] at this;simp only[Option.some.injEq,Obj.cells.injEq] at this;exact h2 this.2.1.symm
       rw[jQg hC,HG.o.block q (by have:=jQf hq;simp;omega) (fun e=>jQn HO.o ((hm.o.block q (jQf hq)).trans hq) (fun e=>h1 e.symm) e.symm)];exact hm.o.block q (jQf hq)
   ·have HN:Hid (touchR tr ⟨hin,hle,hr,hs,hnu⟩=tr1):=by
     show _=_;rw[hf.o];rw[show Sq.touchedR tr ⟨hin,hle,hr,hs,hnu⟩=true from hl.o.trans hto];simp[hp]
    clear hf hl hto;go_wp2;go_end0;rw[HN.o];exact⟨rfl,T2.o,F2.o⟩
  ·have HN:Hid (touchR tr ⟨hin,hle,hr,hs,hnu⟩=tr1):=by
    show _=_;rw[hf.o];simp[hp]
   clear hf hl;go_wp2;go_end0;rw[HN.o];exact⟨rfl,T1.o,F1.o⟩
 ·obtain⟨v0,hb0,hown0⟩:=T0.o.row;have c0:w0.cell? ⟨tb,0,none⟩=some (.bool tr.lost):=by rw[jQb hb0];rfl
  have f0:=jQd hb0 0;obtain⟨w1,hw1⟩:∃x,x=w0.setCell ⟨tb,0,none⟩ (.bool true):=⟨_,rfl⟩;obtain⟨tr1,htr1⟩:∃x,x=(⟨true,tr.nums⟩:Trl):=⟨_,rfl⟩;have hK:w.heap.size≠tb:=by omega
  have T1:Hid (TrAt tb w1 tr1):=by
   rw[htr1];refine⟨⟨v0,by rw[hw1,jQe hb0];rfl,?_⟩,by simp only;omega⟩;rw[hw1];exact jQq hown0 fun k hk=>jQg (fun e=>jQn hown0 hb0 (by decide) (by rw[hk,e]))
  have F1:Hid (TFrm tb w w1):=F0.o.trans ⟨by rw[hw1];exact Below.setCell (B:=tb) (bR) (nR) _,fun q c e fr hq h1 h2=>by
   have hC:q≠tb:=fun e=>by
    subst e;rw[hb0] at hq;simp only[Option.some.injEq,Obj.cells.injEq] at hq;exact h2 hq.2.1.symm
   rw[hw1,jQg hC]⟩
  have hh:w1.heap[w.heap.size]?=some (.cells #[.bool hin,.slice ea ek ec,.slice ca ck cc,.int .i64 hle,.int .i64 hr,.string hs,.int .i64 hnu] 60):=by rw[hw1,jQg hK];exact ha.o
  have hf:Hid (touchR tr ⟨hin,hle,hr,hs,hnu⟩=⟨tr1.lost,if Decidable.decide (0<hnu) && !Sq.touchedR tr ⟨hin,hle,hr,hs,hnu⟩ then tr1.nums++[hnu] else tr1.nums⟩):=by
   show _=_;unfold touchR;rw[hsh,htr1];simp
  have hl:Hid (Sq.touchedR tr ⟨hin,hle,hr,hs,hnu⟩=Sq.touchedR tr1 ⟨hin,hle,hr,hs,hnu⟩):=by show _=_;rw[htr1];rfl
  have hH:tr1.nums.length+1<=100000:=by rw[htr1];exact hn
  obtain⟨n0,n1,n2,n3,n4,n5,n6⟩:=SevenAt.blk (h:=⟨hin,hle,hr,hs,hnu⟩) hh;simp only[Nat.zero_add] at n1 n2 n3 n4 n5 n6;have hz:=jQf hh;have hE:=T1.o.lt;obtain⟨m0,m1,m2,m3,m4,m5,m6⟩:=SevenAt.blk (h:=⟨hin,hle,hr,hs,hnu⟩) ha.o;simp only[Nat.zero_add] at m1 m2 m3 m4 m5 m6;clear htr1 hsh T0 F0 ha hb0 hown0 hh hn
  by_cases hp:0<hnu
  ·go_wp2_with fail;rw[<-hw1];clear hw1 ho hx c0 f0 m0 m1 m2 m3 m4 m5 m6 hK;refine(jQb7 tb tr1 ⟨hin,hle,hr,hs,hnu⟩ _ _ w1 ⟨_,_,_,rfl⟩ ⟨_,_,_,rfl⟩ T1.o).mono ?_;rintro e w2 ⟨rfl,hb2⟩;have T2:=hd (T1.o.below hb2);have F2:Hid (TFrm tb w w2):=F1.o.trans (TFrm.of hb2 (by omega));have hG:=hb2.size;have d6:w2.cell? ⟨w.heap.size,6,none⟩=some (.int .i64 hnu):=(hb2.cell (p:=⟨w.heap.size,6,none⟩) hz).trans n6;have hD:w.heap.size<w2.heap.size:=by omega
   have hy:tb<w2.heap.size:=by omega
   clear hb2 hG n0 n1 n2 n3 n4 n5 n6 T1 F1;cases hto:Sq.touchedR tr1 ⟨hin,hle,hr,hs,hnu⟩
   ·have HN:Hid (touchR tr ⟨hin,hle,hr,hs,hnu⟩=⟨tr1.lost,tr1.nums++[hnu]⟩):=by
     show _=_;rw[hf.o];rw[show Sq.touchedR tr ⟨hin,hle,hr,hs,hnu⟩=false from hl.o.trans hto];simp[hp]
    obtain⟨v,hb,hown⟩:=T2.o.row;obtain⟨ao,cap0,rfl⟩:=jQa hown;have c1:w2.cell? ⟨tb,1,none⟩=some (.slice ao tr1.nums.length cap0):=by rw[jQb hb];rfl
    have hw:Below w2.heap.size w2 (w2.alloc (.cells #[.int .i64 hnu] 3)).drew:=Below.drew ((bR).alloc (nR) _);have HO:=hd (jQh hown hw);have HB:Hid ((w2.alloc (.cells #[.int .i64 hnu] 3)).drew.heap[tb]?=some (.cells #[.bool tr1.lost,.slice ao tr1.nums.length cap0] 74)):=(hw.block tb hy).trans hb;have hm:=hd hw;have hJ:=hd T2.o.few;clear hb hown hw T2 hf hl hto;go_wp2
    go_region_law (first
     | (go_loud (refine step_append_lies _ rfl (.tmp 22) (.tmp 25) 54 rfl (tb+1) 3 i0 _ 1 8 Tryz.underlying54 hi hz0 hz1 hz2 rfl (by decide) (.slice ao tr1.nums.length cap0) tr1.nums.length (tr1.nums.map (Value.int .i64)) (by simp[Act.eval,Act.put]) HO.o ⟨w2.heap.size,0,none⟩ 1 1 [.int .i64 hnu] (by simp[Act.eval,Act.put]) rfl (by exact jQL w2 _ _ _ rfl rfl) (by intro u hu;simp at hu;subst hu;rfl) (by decide) (by unfold maxLen;omega) (by omega) (by simp;omega) _ rfl ?_);intro g cap w3 hown1 hgrow hat hltg;have hj:=(hgrow.block tb (by simp;omega) (fun e=>jQn HO.o HB.o (by decide) e.symm)).trans HB.o;have k0:w3.cell? ⟨tb,1,none⟩=some (.slice ao tr1.nums.length cap0):=(by rw[jQb hj];rfl);have f0:=jQd hj 1;have hI:=jQf hj;have hF:=hd hown1;have HG:=hd hgrow;have hB:=hd hj;clear hown1 hgrow hat hj))
    all_goals(try go_wp2)
    all_goals
     go_end0;rw[HN.o];refine⟨rfl,⟨⟨.slice (some ⟨g,0,none⟩) (tr1.nums.length+1) cap,by rw[jQe hB.o];rfl,?_⟩,by simpa using hH⟩,?_⟩
     ·have:=hF.o
      simp only[List.length_append,List.length_singleton,List.map_append];exact jQq this fun k hk=>jQg (fun e=>jQn this hB.o (by decide) (by rw[hk,e]))
     ·refine F2.o.trans ⟨?_,?_⟩
      ·refine Below.setCell (B:=tb) (Below.trans (Below.mono (B':=tb) hm.o (by omega)) (Tch.of_grown HG.o (fun k hk=>?_) (by simp;omega))) (nR) _;exact Nat.le_of_succ_le (HO.o.lt k hk).1
      ·intro q c e fr hq h1 h2
       have hC:q≠tb:=fun e=>by
        subst e
        have:=(hm.o.block q (jQf hq)).trans hq
        rw[HB.o] at this;simp only[Option.some.injEq,Obj.cells.injEq] at this;exact h2 this.2.1.symm
       rw[jQg hC,HG.o.block q (by have:=jQf hq;simp;omega) (fun e=>jQn HO.o ((hm.o.block q (jQf hq)).trans hq) (fun e=>h1 e.symm) e.symm)];exact hm.o.block q (jQf hq)
   ·have HN:Hid (touchR tr ⟨hin,hle,hr,hs,hnu⟩=tr1):=by
     show _=_;rw[hf.o];rw[show Sq.touchedR tr ⟨hin,hle,hr,hs,hnu⟩=true from hl.o.trans hto];simp[hp]
    clear hf hl hto;go_wp2;go_end0;rw[HN.o];exact⟨rfl,T2.o,F2.o⟩
  ·have HN:Hid (touchR tr ⟨hin,hle,hr,hs,hnu⟩=tr1):=by
    show _=_;rw[hf.o];simp[hp]
   clear hf hl;go_wp2;rw[<-hw1];go_end0;rw[HN.o];exact⟨rfl,T1.o,F1.o⟩
end
section
open Go.RowKit
theorem jQN {ops:Array Oper}{rest:List Oper}{o:Oper}{a:Act}{Q:Exit->Act->World->Prop}{w:World}(hgd:o.guard=none)(sl x:Operand)
  (ho:o.op=.call { callee:=.builtin .append,args:=#[sl,x],argTypes:=#[57,57] }) (B:Nat) (v:Value) (es:List Ent) (hs:a.eval sl=v) (hb:EntsAt B w v es)
  (e:Ent) (g c:Nat) (hx:a.eval x=.slice (some ⟨g,0,none⟩) 1 c) (hc0:w.cell? ⟨g,0,none⟩=some (.int .i64 e.place)) (hc1:w.cell? ⟨g,1,none⟩=some (.string e.row)) (h1:es.length+1<=1000000) (hB:B<=w.heap.size)
  (h:∀v' w',EntsAt B w' v' (es++[e])->Below B w w'->wpList Tryz.prog ops Q rest (a.put o.dst v') w'):wpList Tryz.prog ops Q (o::rest) a w:=by
 obtain⟨i0,hi,hz0,hz1,hz2⟩:=info_parts Tryz.infoEnt
 refine wpList_append_lies _ hgd sl x 57 ho B 141 i0 _ 2 24 Tryz.underlying57 hi hz0 hz1 hz2 rfl (by decide) v es.length _ hs hb ⟨g,0,none⟩ 1 c (entCells e) hx rfl (by
  intro j u hu;rw[jQaQ]
  match j,hu with
  | 0,hu=>simp[entCells] at hu;subst hu;exact hc0
  | 1,hu=>simp[entCells] at hu;subst hu;exact hc1
  | j+2,hu=>simp[entCells] at hu) (by intro u hu;simp[entCells] at hu;rcases hu with rfl | rfl<;>rfl) (by decide) (by unfold maxLen;omega) (by omega) hB _ rfl ?_
 intro g' cap w' ho' hg' _ _;refine h _ w' ?_ (Tch.of_grown hg' (fun k hk=>(World.ownsRow.lt hb k hk).1) hB);unfold EntsAt;rw[List.length_append,List.flatMap_append];simpa using ho'
theorem jQao (w:World):∀m,Below w.heap.size w (w.drewN m):=by
 intro m
 induction m with
 | zero=>exact bR
 | succ m ih=>exact Below.drew ih
namespace Sq
theorem jQlK (es:List Ent)(e:Ent)(k:Nat)(h:k<es.length)(hl:es[k].place<e.place):withE (es.drop k) e=es[k]::withE (es.drop (k+1)) e:=by
 rw[List.drop_eq_getElem_cons h];unfold withE;rw[List.takeWhile_cons,List.dropWhile_cons];simp[hl]
theorem jQg9 (es:List Ent)(e:Ent)(k:Nat)(hl:∀h:k<es.length,¬(es[k].place<e.place)):withE (es.drop k) e=e::(es.drop k).filter (fun x=>x.place != e.place):=by
 by_cases h:k<es.length
 ·have:=hl h
  rw[List.drop_eq_getElem_cons h];unfold withE;rw[List.takeWhile_cons,List.dropWhile_cons];simp[this]
 ·rw[List.drop_eq_nil_of_le (by omega)];rfl
theorem jQdT (p:Ent->Bool)(es:List Ent)(k:Nat)(h:k<es.length):(es.drop k).filter p=(if p es[k] then[es[k]] else[])++(es.drop (k+1)).filter p:=by
 rw[List.drop_eq_getElem_cons h,List.filter_cons]
 split<;>simp
end Sq
theorem jQqf (es:List Ent)(e:Ent)(v:Value)(w:World)(h:EntsAt 0 w v es)(hl:es.length<=1000) :
  Calls Tryz.prog 208 #[v,.agg #[.int .i64 e.place,.string e.row]] w fun r w'=>∃v',r=.returned v'/\EntsAt w.heap.size w' v' (Sq.withE es e)/\Below w.heap.size w w':=by
 obtain⟨ao,acap,rfl⟩:=jQa h;have hW:Below w.heap.size w (w.alloc (.cells #[.int .i64 e.place,.string e.row] 141)):=(bR).alloc (nR) _;have HW:=hd hW;have H:=hd h;clear h hW;go_enter Tryz.func208,Tryz.ntmps208;go_wp2
 go_loopw [5,6] (fun v i wr=>∃k:Nat,∃acc:List Ent,k<=es.length/\i=.int .i64 k/\EntsAt (w.heap.size+1) wr v acc/\Hid (acc.length=k)/\Hid (Sq.withE es e=acc++Sq.withE (es.drop k) e)/\Below (w.heap.size+1) (w.alloc (.cells #[.int .i64 e.place,.string e.row] 141)) wr) (fun _ i _=>es.length-(intOf i).toNat)
 case atStart=>exact⟨0,[],zR,rfl,World.ownsRow_nil _ _ _ _,rfl,rfl,bR⟩
 case round =>
  obtain⟨k,acc,hk,rfl,hacc,hal,hr,hb⟩:=hrel;obtain⟨wo,rfl⟩:∃wo:World,wo=wr:=⟨_,rfl⟩;obtain⟨xo,xcap,rfl⟩:=jQa hacc;have hH:Below w.heap.size w wo:=HW.o.trans (hb.mono (by omega));have a0:wo.cell? ⟨w.heap.size,0,none⟩=some (.int .i64 e.place):=(hb.cell (p:=⟨w.heap.size,0,none⟩) (by simp)).trans (by simp[go_sem]);have a1:wo.cell? ⟨w.heap.size,1,none⟩=some (.string e.row):=(hb.cell (p:=⟨w.heap.size,1,none⟩) (by simp)).trans (by simp[go_sem]);have hz:w.heap.size<wo.heap.size:=by have:=hb.size;simp at this;omega
  have hF:acc.length<=1000:=by rw[hal.o];omega
  have HB:=hd hb;have hh:=hd hacc;clear hb hacc
  by_cases hlt:k<es.length
  ·obtain⟨g,cap',hv,hg,c0,c1⟩:=(H.o.below hH).at k hlt;simp only[Value.slice.injEq] at hv;obtain⟨rfl,-,rfl⟩:=hv;have i1:¬((es.length:Int)<=(k:Int)):=by omega
   have i2:decide ((k:Int)<(es.length:Int))=true:=by simpa using hlt
   obtain⟨x,hx⟩:∃x,x=es[k]:=⟨_,rfl⟩;rw[<-hx] at c0 c1;have HX:=hd hx;clear hx
   by_cases hless:x.place<e.place
   ·have HR:Hid (Sq.withE es e=(acc++[x])++Sq.withE (es.drop (k+1)) e):=by
     show _=_;rw[hr.o,Sq.jQlK es e k hlt (by rw[<-HX.o];exact hless),<-HX.o,List.append_assoc];rfl
    have ho:Hid ((acc++[x]).length=k+1):=by show _=_;rw[List.length_append,hal.o];rfl
    have i3:decide (x.place<e.place)=true:=by simpa using hless
    clear hr hal;go_wp2
    go_quiet (fail)
    obtain⟨wq,hbq,hsq,hq⟩:∃wq,Below wo.heap.size wo wq/\wo.heap.size<=wq.heap.size/\wo.drewN nq=wq:=⟨_,jQao _ _,(jQao _ _).size,rfl⟩;rw[hq];have d0:=((bcell hbq).1 g (k*2) hg).trans c0;have d1:=((bcell hbq).1 g (k*2+1) hg).trans c1;have hE:g<wq.heap.size:=by omega
    have hw:=hd hbq;have hu:=hd ((hh.o.below hbq).below ((bR).alloc (nR) (.cells #[.int .i64 x.place,.string x.row] 141)));clear hq c0 c1 a0 a1 hbq;go_wp2_with (at_builtin;refine jQN rfl (.tmp 21) (.tmp 26) rfl (w.heap.size+1) _ acc rfl hu.o x wq.heap.size 1 rfl (by simp[go_sem]) (by simp[go_sem]) (by omega) (by simp;omega) ?_;intro v3 w3 hown3 hb3;have hs:=hd hown3;have ht:=hd hb3;clear hown3 hb3);go_roundw
    case rel=>exact⟨k+1,acc++[x],by omega,by go_num,hs.o,ho,HR,HB.o.trans ((Below.mono (B':=w.heap.size+1) (hw.o.alloc hsq _) (by omega)).trans ht.o)⟩
    case measure=>simp[intOf];omega
   ·have HR:Hid (Sq.withE es e=(acc++[e])++(es.drop k).filter (fun x=>x.place != e.place)):=by
     show _=_;rw[hr.o,Sq.jQg9 es e k (fun _=>by rw[<-HX.o];exact hless),List.append_assoc];rfl
    have ho:Hid ((acc++[e]).length=k+1):=by show _=_;rw[List.length_append,hal.o];rfl
    have i3:decide (x.place<e.place)=false:=by simpa using hless
    clear hr hal;go_wp2
    go_quiet (fail)
    obtain⟨wq,hbq,hsq,hq⟩:∃wq,Below wo.heap.size wo wq/\wo.heap.size<=wq.heap.size/\wo.drewN nq=wq:=⟨_,jQao _ _,(jQao _ _).size,rfl⟩;rw[hq];have a0q:=((bcell hbq).1 w.heap.size 0 hz).trans a0;have a1q:=((bcell hbq).1 w.heap.size 1 hz).trans a1;have hE:w.heap.size<wq.heap.size:=by omega
    have hw:=hd hbq;have hu:=hd ((hh.o.below hbq).below ((bR).alloc (nR) (.cells #[.int .i64 e.place,.string e.row] 141)));clear hq c0 c1 a0 a1 hbq;go_wp2_with (at_builtin;refine jQN rfl (.tmp 30) (.tmp 32) rfl (w.heap.size+1) _ acc rfl hu.o e wq.heap.size 1 rfl (by simp[go_sem]) (by simp[go_sem]) (by omega) (by simp;omega) ?_;intro v3 w3 hown3 hb3;have hs:=hd hown3;have ht:=hd hb3;clear hown3 hb3)
    go_loopw [5,6] (fun v i wr=>∃j:Nat,∃ac:List Ent,j<=es.length/\i=.int .i64 j/\EntsAt (w.heap.size+1) wr v ac/\ac.length<=j+1/\Hid (Sq.withE es e=ac++(es.drop j).filter (fun x=>x.place != e.place))/\Below (w.heap.size+1) (w.alloc (.cells #[.int .i64 e.place,.string e.row] 141)) wr) (fun _ i _=>es.length-(intOf i).toNat)
    case atStart=>exact⟨k,acc++[e],hk,rfl,hs.o,Nat.le_of_eq ho.o,HR,HB.o.trans ((Below.mono (B':=w.heap.size+1) (hw.o.alloc hsq _) (by omega)).trans ht.o)⟩
    case round =>
     obtain⟨j,ac,hj,rfl,hac,hacl,hr2,hb4⟩:=hrel;obtain⟨yo,ycap,rfl⟩:=jQa hac;have he:Below w.heap.size w wr:=HW.o.trans (hb4.mono (by omega));have a0:wr.cell? ⟨w.heap.size,0,none⟩=some (.int .i64 e.place):=(hb4.cell (p:=⟨w.heap.size,0,none⟩) (by simp)).trans (by simp[go_sem]);have hA:w.heap.size<wr.heap.size:=by have:=hb4.size;simp at this;omega
     have hn:=hd hb4;have hf:=hd hac;clear hb4 hac
     by_cases hjt:j<es.length
     ·obtain⟨g4,cap4,hv,hg4,c0,c1⟩:=(H.o.below he).at j hjt;simp only[Value.slice.injEq] at hv;obtain⟨hv1,-,hv2⟩:=hv;have hp:=hd (Sq.jQdT (fun x=>x.place != e.place) es j hjt);obtain⟨y,hy⟩:∃x,x=es[j]:=⟨_,rfl⟩;have hi:=hp.o;rw[<-hy] at c0 c1 hi;have hc:=hd hi;have i1:¬((es.length:Int)<=(j:Int)):=by omega
      obtain⟨rfl,rfl⟩:g4=g/\cap4=acap:=⟨by simpa using hv1.symm,hv2.symm⟩;clear hi hp hy;cases hne:y.place != e.place
      case false =>
       have hm:Hid (Sq.withE es e=ac++(es.drop (j+1)).filter (fun x=>x.place != e.place)):=by show _=_;rw[hr2.o,hc.o];simp only[hne];simp
       clear hr2;go_wp2
       go_quiet (fail)
       obtain⟨wq4,hbq4,hsq4,hq4⟩:∃wq,Below wr.heap.size wr wq/\wr.heap.size<=wq.heap.size/\wr.drewN nq=wq:=⟨_,jQao _ _,(jQao _ _).size,rfl⟩;rw[hq4];have ha:=hd hbq4;clear hq4 hbq4 c0 c1 a0;go_wp2;go_roundw
       case rel=>exact⟨j+1,ac,by omega,by go_num,hf.o.below ha.o,by omega,hm,hn.o.trans (ha.o.mono (by omega))⟩
       case measure=>simp[intOf];omega
      case true =>
       have hm:Hid (Sq.withE es e=(ac++[y])++(es.drop (j+1)).filter (fun x=>x.place != e.place)):=by show _=_;rw[hr2.o,hc.o];simp only[hne];simp
       clear hr2;go_wp2
       go_quiet (fail)
       obtain⟨wq4,hbq4,hsq4,hq4⟩:∃wq,Below wr.heap.size wr wq/\wr.heap.size<=wq.heap.size/\wr.drewN nq=wq:=⟨_,jQao _ _,(jQao _ _).size,rfl⟩;rw[hq4];have e0:=((bcell hbq4).1 g4 (j*2) hg4).trans c0;have e1:=((bcell hbq4).1 g4 (j*2+1) hg4).trans c1;have hG:g4<wq4.heap.size:=by omega
       have ha:=hd hbq4;have hD:=hd ((hf.o.below hbq4).below ((bR).alloc (nR) (.cells #[.int .i64 y.place,.string y.row] 141)));clear hq4 hbq4 c0 c1 a0;go_wp2_with (at_builtin;refine jQN rfl (.tmp 48) (.tmp 53) rfl (w.heap.size+1) _ ac rfl hD.o y wq4.heap.size 1 rfl (by simp[go_sem]) (by simp[go_sem]) (by omega) (by simp;omega) ?_;intro v5 w5 hown5 hb5;have hB:=hd hown5;have hC:=hd hb5;clear hown5 hb5);go_roundw
       case rel=>exact⟨j+1,ac++[y],by omega,by go_num,hB.o,by rw[List.length_append];simp;omega,hm,hn.o.trans ((Below.mono (B':=w.heap.size+1) (ha.o.alloc hsq4 _) (by omega)).trans hC.o)⟩
       case measure=>simp[intOf];omega
     ·have HE:Hid (Sq.withE es e=ac):=by show _=_;rw[hr2.o,List.drop_eq_nil_of_le (by omega)];simp
      clear hr2;go_wp2;go_ret;exact⟨_,rfl,by rw[HE.o];exact hf.o.base (by omega),he⟩
  ·have HR:Hid (Sq.withE es e=(acc++[e])++(es.drop k).filter (fun x=>x.place != e.place)):=by
    show _=_;rw[hr.o,Sq.jQg9 es e k (fun h=>absurd h hlt),List.append_assoc];rfl
   have ho:Hid ((acc++[e]).length=k+1):=by show _=_;rw[List.length_append,hal.o];rfl
   have i2:decide ((k:Int)<(es.length:Int))=false:=by simpa using hlt
   clear hr hal;go_wp2
   go_quiet (fail)
   obtain⟨wq,hbq,hsq,hq⟩:∃wq,Below wo.heap.size wo wq/\wo.heap.size<=wq.heap.size/\wo.drewN nq=wq:=⟨_,jQao _ _,(jQao _ _).size,rfl⟩;rw[hq];have a0q:=((bcell hbq).1 w.heap.size 0 hz).trans a0;have a1q:=((bcell hbq).1 w.heap.size 1 hz).trans a1;have hE:w.heap.size<wq.heap.size:=by omega
   have hw:=hd hbq;have hu:=hd ((hh.o.below hbq).below ((bR).alloc (nR) (.cells #[.int .i64 e.place,.string e.row] 141)));clear hq a0 a1 hbq;go_wp2_with (at_builtin;refine jQN rfl (.tmp 30) (.tmp 32) rfl (w.heap.size+1) _ acc rfl hu.o e wq.heap.size 1 rfl (by simp[go_sem]) (by simp[go_sem]) (by omega) (by simp;omega) ?_;intro v3 w3 hown3 hb3;have hs:=hd hown3;have ht:=hd hb3;clear hown3 hb3)
   go_loopw [5,6] (fun v i wr=>∃j:Nat,∃ac:List Ent,j<=es.length/\i=.int .i64 j/\EntsAt (w.heap.size+1) wr v ac/\ac.length<=j+1/\Hid (Sq.withE es e=ac++(es.drop j).filter (fun x=>x.place != e.place))/\Below (w.heap.size+1) (w.alloc (.cells #[.int .i64 e.place,.string e.row] 141)) wr) (fun _ i _=>es.length-(intOf i).toNat)
   case atStart=>exact⟨k,acc++[e],hk,rfl,hs.o,Nat.le_of_eq ho.o,HR,HB.o.trans ((Below.mono (B':=w.heap.size+1) (hw.o.alloc hsq _) (by omega)).trans ht.o)⟩
   case round =>
    obtain⟨j,ac,hj,rfl,hac,hacl,hr2,hb4⟩:=hrel;obtain⟨yo,ycap,rfl⟩:=jQa hac;have he:Below w.heap.size w wr:=HW.o.trans (hb4.mono (by omega));have a0:wr.cell? ⟨w.heap.size,0,none⟩=some (.int .i64 e.place):=(hb4.cell (p:=⟨w.heap.size,0,none⟩) (by simp)).trans (by simp[go_sem]);have hA:w.heap.size<wr.heap.size:=by have:=hb4.size;simp at this;omega
    have hn:=hd hb4;have hf:=hd hac;clear hb4 hac
    by_cases hjt:j<es.length
    ·obtain⟨g4,cap4,hv,hg4,c0,c1⟩:=(H.o.below he).at j hjt;simp only[Value.slice.injEq] at hv;obtain⟨hv1,-,hv2⟩:=hv;have hp:=hd (Sq.jQdT (fun x=>x.place != e.place) es j hjt);obtain⟨y,hy⟩:∃x,x=es[j]:=⟨_,rfl⟩;have hi:=hp.o;rw[<-hy] at c0 c1 hi;have hc:=hd hi;have i1:¬((es.length:Int)<=(j:Int)):=by omega
     obtain rfl:=hv1;obtain rfl:=hv2;clear hi hp hy;cases hne:y.place != e.place
     case false =>
      have hm:Hid (Sq.withE es e=ac++(es.drop (j+1)).filter (fun x=>x.place != e.place)):=by show _=_;rw[hr2.o,hc.o];simp only[hne];simp
      clear hr2;go_wp2
      go_quiet (fail)
      obtain⟨wq4,hbq4,hsq4,hq4⟩:∃wq,Below wr.heap.size wr wq/\wr.heap.size<=wq.heap.size/\wr.drewN nq=wq:=⟨_,jQao _ _,(jQao _ _).size,rfl⟩;rw[hq4];have ha:=hd hbq4;clear hq4 hbq4 c0 c1 a0;go_wp2;go_roundw
      case rel=>exact⟨j+1,ac,by omega,by go_num,hf.o.below ha.o,by omega,hm,hn.o.trans (ha.o.mono (by omega))⟩
      case measure=>simp[intOf];omega
     case true =>
      have hm:Hid (Sq.withE es e=(ac++[y])++(es.drop (j+1)).filter (fun x=>x.place != e.place)):=by show _=_;rw[hr2.o,hc.o];simp only[hne];simp
      clear hr2;go_wp2
      go_quiet (fail)
      obtain⟨wq4,hbq4,hsq4,hq4⟩:∃wq,Below wr.heap.size wr wq/\wr.heap.size<=wq.heap.size/\wr.drewN nq=wq:=⟨_,jQao _ _,(jQao _ _).size,rfl⟩;rw[hq4];have e0:=((bcell hbq4).1 g4 (j*2) hg4).trans c0;have e1:=((bcell hbq4).1 g4 (j*2+1) hg4).trans c1;have hG:g4<wq4.heap.size:=by omega
      have ha:=hd hbq4;have hD:=hd ((hf.o.below hbq4).below ((bR).alloc (nR) (.cells #[.int .i64 y.place,.string y.row] 141)));clear hq4 hbq4 c0 c1 a0;go_wp2_with (at_builtin;refine jQN rfl (.tmp 48) (.tmp 53) rfl (w.heap.size+1) _ ac rfl hD.o y wq4.heap.size 1 rfl (by simp[go_sem]) (by simp[go_sem]) (by omega) (by simp;omega) ?_;intro v5 w5 hown5 hb5;have hB:=hd hown5;have hC:=hd hb5;clear hown5 hb5);go_roundw
      case rel=>exact⟨j+1,ac++[y],by omega,by go_num,hB.o,by rw[List.length_append];simp;omega,hm,hn.o.trans ((Below.mono (B':=w.heap.size+1) (ha.o.alloc hsq4 _) (by omega)).trans hC.o)⟩
      case measure=>simp[intOf];omega
    ·have HE:Hid (Sq.withE es e=ac):=by show _=_;rw[hr2.o,List.drop_eq_nil_of_le (by omega)];simp
     clear hr2;go_wp2;go_ret;exact⟨_,rfl,by rw[HE.o];exact hf.o.base (by omega),he⟩
end
section
open Go.RowKit
theorem jQll (es:List Ent)(p:Int)(v:Value)(w:World)(h:EntsAt 0 w v es)(hl:es.length<=1000) :
  Calls Tryz.prog 211 #[v,.int .i64 p] w fun r w'=>∃v',r=.returned v'/\EntsAt w.heap.size w' v' (es.filter fun x=>x.place != p)/\Below w.heap.size w w':=by
 obtain⟨ao,acap,rfl⟩:=jQa h;have H:=hd h;clear h;go_enter Tryz.func211,Tryz.ntmps211;go_wp2
 go_loopw [5,6] (fun v i wr=>∃k:Nat,∃acc:List Ent,k<=es.length/\i=.int .i64 k/\EntsAt w.heap.size wr v acc/\acc.length<=k/\Hid ((es.filter fun x=>x.place != p)=acc++(es.drop k).filter fun x=>x.place != p)/\Below w.heap.size w wr) (fun _ i _=>es.length-(intOf i).toNat)
 case atStart=>exact⟨0,[],zR,rfl,World.ownsRow_nil _ _ _ _,nR,rfl,bR⟩
 case round =>
  obtain⟨j,ac,hj,rfl,hac,hacl,hr2,hb4⟩:=hrel;obtain⟨yo,ycap,rfl⟩:=jQa hac;have hh:=hb4.size;have hb:=hd hb4;have hc:=hd hac;clear hb4 hac
  by_cases hjt:j<es.length
  ·obtain⟨g4,cap4,hv,hg4,c0,c1⟩:=(H.o.below hb.o).at j hjt;simp only[Value.slice.injEq] at hv;obtain⟨rfl,-,rfl⟩:=hv;have hg:=hd (Sq.jQdT (fun x=>x.place != p) es j hjt);obtain⟨y,hy⟩:∃x,x=es[j]:=⟨_,rfl⟩;have he:=hg.o;rw[<-hy] at c0 c1 he;have ha:=hd he;clear he hg hy;cases hne:y.place != p
   case false =>
    have hf:Hid ((es.filter fun x=>x.place != p)=ac++(es.drop (j+1)).filter fun x=>x.place != p):=by show _=_;rw[hr2.o,ha.o];simp only[hne];simp
    clear hr2;go_wp2;go_roundw
    case rel=>exact⟨j+1,ac,by omega,by go_num,hc.o,by omega,hf,hb.o⟩
    case measure=>simp[intOf];omega
   case true =>
    have hf:Hid ((es.filter fun x=>x.place != p)=(ac++[y])++(es.drop (j+1)).filter fun x=>x.place != p):=by show _=_;rw[hr2.o,ha.o];simp only[hne];simp
    have hk:=hd (hc.o.below ((bR).alloc (nR) (.cells #[.int .i64 y.place,.string y.row] 141)));clear hr2;go_wp2_with (at_builtin;refine jQN rfl (.tmp 20) (.tmp 25) rfl w.heap.size _ ac rfl hk.o y wr.heap.size 1 rfl (by simp[go_sem]) (by simp[go_sem]) (by omega) (by simp;omega) ?_;intro v5 w5 hown5 hb5;have hm:=hd hown5;have hi:=hd hb5;clear hown5 hb5);go_roundw
    case rel=>exact⟨j+1,ac++[y],by omega,by go_num,hm.o,by rw[List.length_append];simp;omega,hf,hb.o.trans ((Below.mono (B':=w.heap.size) ((bR).alloc (nR) _) hh).trans hi.o)⟩
    case measure=>simp[intOf];omega
  ·have HE:Hid ((es.filter fun x=>x.place != p)=ac):=by show _=_;rw[hr2.o,List.drop_eq_nil_of_le (by omega)];simp
   clear hr2;go_wp2;go_ret;exact⟨_,rfl,by rw[HE.o];exact hc.o,hb.o⟩
theorem jQV {ops:Array Oper}{rest:List Oper}{o:Oper}{a:Act}{Q:Exit->Act->World->Prop}{w:World}(hgd:o.guard=none)(sl x:Operand)
  (ho:o.op=.call { callee:=.builtin .append,args:=#[sl,x],argTypes:=#[58,58] }) (B:Nat) (v:Value) (n:Nat) (l:List (Sq.Nd n×Value×Value)) (hs:a.eval sl=v) (hb:w.ownsRow B 60 7 v l.length (l.flatMap (nodeCells n)))
  (m:List (Sq.Nd n×Value×Value)) (sv:Value) (hx:a.eval x=sv) (hrd:Reads w sv m.length 7 (m.flatMap (nodeCells n))) (hone:∀u∈m.flatMap (nodeCells n),u.oneCell'=true) (hm:0<m.length) (h1:l.length+m.length<=1000000) (hB:B<=w.heap.size)
  (h:∀v' w',w'.ownsRow B 60 7 v' (l++m).length ((l++m).flatMap (nodeCells n))->Below B w w'->wpList Tryz.prog ops Q rest (a.put o.dst v') w'):wpList Tryz.prog ops Q (o::rest) a w:=by
 obtain⟨i0,hi,hz0,hz1,hz2⟩:=info_parts Tryz.infoNode;rcases hrd.2 with⟨_,h0⟩ | ⟨g,off,cap,rfl,_,hc⟩
 ·omega
 refine wpList_append_lies _ hgd sl x 58 ho B 60 i0 _ 7 96 Tryz.underlying58 hi hz0 hz1 hz2 rfl (by decide) v l.length _ hs hb ⟨g,off,none⟩ m.length cap (m.flatMap (nodeCells n)) hx hrd.1 (by
  intro j u hu;rw[jQaQ];exact hc j u hu) hone hm (by unfold maxLen;omega) (by omega) hB _ rfl ?_
 intro g' cap w' ho' hg' _ _;refine h _ w' ?_ (Tch.of_grown hg' (fun k hk=>(World.ownsRow.lt hb k hk).1) hB);rw[List.length_append,List.flatMap_append];exact ho'
theorem jQaA (w:World)(e:TypeId)(cs:Array Value)(l:List Value)(n size:Nat)(hl:cs.toList=l)(h:l.length=n*size):Reads (w.alloc (.cells cs e)) (.slice (some ⟨w.heap.size,0,none⟩) n n) n size l:=by
 refine⟨h,Or.inr ⟨w.heap.size,0,n,rfl,by simp,fun j u hj=>?_⟩⟩
 have:=jQL w cs e l hl rfl j u hj
 rwa [jQaQ] at this
end
end Go.Proofs.YtahpihjialbanaaGreatDoor
