import Derived.Test.YtahpihjialbanaaGreatDoorQad
set_option linter.all false
set_option maxRecDepth 100000
set_option maxHeartbeats 2000000
namespace Go.Proofs.YtahpihjialbanaaGreatDoor
open Sq (aa Nd Trl Ent aC aV bB bm bd Col Val bF jAK jAT jAX jAf jAt jBV jCO jD5 jDY jEE jEq)
variable {B g m n pb:Nat}{K:Int}{a:Act}{cs xs:List Value}{cv ev v:Value}{e:TypeId}{o:Oper}{w w':World}{α β:Type}
structure Sq.jCM {α:Type}(f:α->Sq.Head)(G:α->Prop)(K:Int)(t:Sq.af α):Prop where
 av:t.av.length<=4
 kids:t.kids.length<=4
 each:∀c∈t.kids,G c
 num:t.hd.num<=K
 pos:0<=t.hd.rows
 inn:t.hd.inner=true->t.hd.rows=Sq.aH f t.kids/\t.av=[]
 lf:t.hd.inner=false->(t.av.length:Int)<=t.hd.rows/\t.kids=[]
 sl:t.hd.sl.size<=32
 row:∀e∈t.av,e.row.size<=300
structure Sq.aS (K:Int)(tr:Trl):Prop where
 nd:tr.bc.Nodup
 each:∀x∈tr.bc,0<x/\x<=K
namespace Sq
def aT (K:Int):(n:Nat)->Nd n->Prop
 | 0,t=>jCM (fun e:Empty=>e.elim) (fun e:Empty=>e.elim) K t/\(af.hd t).inner=false
 | n+1,t=>jCM (aa n) (aT K n) K t
theorem aT.at0 {t:af Empty}(h:aT K 0 t):jCM (fun e:Empty=>e.elim) (fun e:Empty=>e.elim) K t:=h.1
theorem aT.jE0 {t:af Empty}(h:aT K 0 t):t.hd.inner=false:=h.2
theorem aT.at1 {t:af (Nd n)}(h:aT K (n+1) t):jCM (aa n) (aT K n) K t:=h
theorem aT.head:∀{K:Int} {n:Nat} {t:Nd n},aT K n t->(aa n t).num<=K/\0<=(aa n t).rows/\(aa n t).sl.size<=32
 | _,0,_,h=>⟨h.at0.num,h.at0.pos,h.at0.sl⟩
 | _,_+1,_,h=>⟨h.at1.num,h.at1.pos,h.at1.sl⟩
theorem jUE (a:Int):∀l:List Int,l.Nodup->l.length<=(l.filter (· != a)).length+1
 | [],_=>zR
 | x::r,h=>by
  have hr:=List.nodup_cons.1 h
  by_cases hx:x=a
  ·subst hx
   have hf:r.filter (· != x)=r:=List.filter_eq_self.2 fun y hy=>by
    have:y≠x:=fun e=>hr.1 (e ▸ hy)
    simpa using this
   have hg:(x::r).filter (· != x)=r.filter (· != x):=by rw[dK];simp
   rw[hg,hf];simp
  have hg:(x::r).filter (· != a)=x::r.filter (· != a):=by
   have:(x != a)=true:=by simpa using hx
   rw[dK,cE this]
  rw[hg,cG,cG]
  have:=jUE a r hr.2
  omega
theorem jUh:∀(K:Nat) (l:List Int),l.Nodup->(∀x∈l,0<x/\x<=(K:Int))->l.length<=K
 | 0,l,_,h=>by
  cases l with
  | nil=>exact nR
  | cons x r=>have:=h x (dh ..);omega
 | K+1,l,hn,h=>by
  have h1:=jUE ((K:Int)+1) l hn
  have h2:=jUh K (l.filter (· != ((K:Int)+1))) (hn.filter _) (fun x hx=>by
   have ha:=List.mem_filter.1 hx;have h3:=h x ha.1;have h4:x≠(K:Int)+1:=by simpa using ha.2
   omega)
  omega
theorem aS.len {tr:Trl}(h:aS K tr):tr.bc.length<=K.toNat:=by
 refine jUh K.toNat tr.bc h.nd fun x hx=>?_
 have:=h.each x hx
 omega
theorem aS.jB3 {tr:Trl}(h:aS K tr){hd:Head}(hn:hd.num<=K):aS K (aC tr hd):=by
 unfold aC
 split
 ·next hc =>
  have hf:0<hd.num/\jAt tr hd=false:=by simpa using hc
  have he:hd.num ∉ tr.bc:=fun hm=>by
   have h2:=hf.2;unfold jAt at h2;rw[List.any_eq_false] at h2
   have:=h2 _ hm
   simp at this
  refine⟨?_,fun x hx=>?_⟩
  ·show(tr.bc++[hd.num]).Nodup
   rw[List.nodup_append];exact⟨h.nd,by simp,fun a ha b hb e=>by rw[dD] at hb;subst hb;subst e;exact he ha⟩
  rcases List.mem_append.1 hx with hx | hx
  ·exact h.each x hx
  rw[dD] at hx;subst hx;exact⟨hf.1,hn⟩
 exact⟨h.nd,h.each⟩
theorem aS.none (K:Int):aS K ⟨false,[]⟩:=⟨List.nodup_nil,fun x hx=>by cases hx⟩
theorem aS.jBh {tr:Trl}(h:aS K tr)(b:Bool):aS K ⟨tr.lost || b,tr.bc⟩:=⟨h.nd,h.each⟩
theorem jTq {f:α->Head}{G:α->Prop}{g:α->Int->Trl->Bool×Trl}(hg:∀c p tr,G c->aS K tr->aS K (g c p tr).2){t:af α}(h:jCM f G K t)(p:Int){tr:Trl}(hr:aS K tr):aS K (jCK f g t p tr).2:=by
 unfold jCK
 split
 ·split
  ·next c hc=>exact hg c p _ (h.each c (cA hc)) (hr.jB3 h.num)
  exact hr.jB3 h.num
 exact hr.jB3 h.num
theorem jTp:∀(n:Nat) (t:Nd n) (p:Int) (tr:Trl),aT K n t->aS K tr->aS K (jDq n t p tr).2
 | 0,t,p,tr,h,hr=>jTq (fun c=>c.elim) h.at0 p hr
 | n+1,t,p,tr,h,hr=>jTq (fun c p tr hc hr=>jTp n c p tr hc hr) h.at1 p hr
def jFn {α:Type}(g:α->Nat)(t:af α):Nat:=t.av.length+(t.kids.map g).sum
def jAx:(n:Nat)->Nd n->Nat
 | 0,t=>jFn (fun e:Empty=>e.elim) t
 | n+1,t=>jFn (jAx n) t
theorem jUX (g:α->Nat):∀{l:List α} {c:α},c∈l->g c<=(l.map g).sum
 | a::r,c,h=>by
  rw[cM,dN];rcases List.mem_cons.1 h with rfl | h
  ·omega
  have:=jUX g h;omega
theorem jNO {f:α->Head}{G:α->Prop}{g:α->Trl->List Ent×Trl}{m:α->Nat}(hg:∀c tr,G c->aS K tr->aS K (g c tr).2/\(g c tr).1.length<=m c)(lo hi:Int) :
  ∀(l:List α) (x:List Ent×Trl),(∀c∈l,G c)->aS K x.2->aS K (jBd f g lo hi l x).2/\(jBd f g lo hi l x).1.length<=x.1.length+(l.map m).sum
 | [],x,_,hx=>⟨hx,by simp[jBd]⟩
 | c::r,x,hl,hx=>by
  rw[jBd,cM,dN];have h1:=hg c x.2 (hl c (dh ..)) hx
  split
  ·have h2:=jNO (f:=f) hg lo hi r (x.1++(g c x.2).1,(g c x.2).2) (fun d hd=>hl d (cY _ hd)) h1.1;refine⟨h2.1,?_⟩;have h3:=h2.2;simp only[cg] at h3;have h4:=h1.2;omega
  have h2:=jNO (f:=f) hg lo hi r x (fun d hd=>hl d (cY _ hd)) hx;exact⟨h2.1,by have:=h2.2;omega⟩
theorem jR2 {f:α->Head}{G:α->Prop}{g:α->Int->Int->Trl->List Ent×Trl}{m:α->Nat}(hg:∀c lo hi tr,G c->aS K tr->aS K (g c lo hi tr).2/\(g c lo hi tr).1.length<=m c){t:af α}(h:jCM f G K t)(lo hi:Int){tr:Trl}(hr:aS K tr):aS K (jBJ f g t lo hi tr).2/\(jBJ f g t lo hi tr).1.length<=jFn m t:=by
 unfold jBJ jFn;have h1:=jNO (f:=f) (fun c tr hc hr=>hg c lo hi tr hc hr) lo hi t.kids (t.av.filter (jBQ lo hi),aC tr t.hd) h.each (hr.jB3 h.num);refine⟨h1.1,cm h1.2 ?_⟩
 have:=dE (jBQ lo hi) t.av
 simp only;omega
theorem jHU:∀(n:Nat) (t:Nd n) (lo hi:Int) (tr:Trl),aT K n t->aS K tr->aS K (jAW n t lo hi tr).2/\(jAW n t lo hi tr).1.length<=jAx n t
 | 0,t,lo,hi,tr,h,hr=>jR2 (fun c=>c.elim) h.at0 lo hi hr
 | n+1,t,lo,hi,tr,h,hr=>jR2 (fun c lo hi tr hc hr=>jHU n c lo hi tr hc hr) h.at1 lo hi hr
theorem jJb (f:α->Head):aH f []=0:=rfl
theorem jQY (f:α->Head)(c:α)(r:List α):aH f (c::r)=(f c).rows+aH f r:=by unfold aH;rw[cM,dN]
theorem jHu (f:α->Head)(a b:List α):aH f (a++b)=aH f a+aH f b:=by unfold aH;rw[cR,List.sum_append]
theorem jOa (f:α->Head):∀l:List α,(∀c∈l,0<=(f c).rows)->0<=aH f l
 | [],_=>dA _
 | c::r,h=>by
  rw[jQY];have h1:=h c (dh ..);have h2:=jOa f r fun d hd=>h d (cY _ hd)
  omega
theorem jGw (f:α->Head):∀{l:List α} {c:α},(∀c∈l,0<=(f c).rows)->c∈l->(f c).rows<=aH f l
 | a::r,c,h,hm=>by
  rw[jQY];have h0:=h a (dh ..);have h1:=jOa f r fun d hd=>h d (cY _ hd)
  rcases List.mem_cons.1 hm with rfl | hm
  ·omega
  have:=jGw f (fun d hd=>h d (cY _ hd)) hm;omega
theorem jNh (f:α->Head)(l o:List α)(a:Nat)(ha:a<l.length):aH f (bm l a 1 o)=aH f l-(f l[a]).rows+aH f o:=by
 have h:l=l.take a++(l[a]::l.drop (a+1)):=by rw[<-cr ha,ee]
 unfold bm;rw[jHu,jHu];have h2:=congrArg (aH f) h;rw[jHu,jQY] at h2;omega
theorem jYS (f:α->Head)(l o:List α)(a:Nat)(ha:a+1<l.length):aH f (bm l a 2 o)=aH f l-(f l[a]).rows-(f l[a+1]).rows+aH f o:=by
 have h:l=l.take a++(l[a]::l[a+1]::l.drop (a+2)):=by
  rw[<-cr ha,<-cr (by omega),ee]
 unfold bm;rw[jHu,jHu];have h2:=congrArg (aH f) h;rw[jHu,jQY,jQY] at h2;omega
theorem jJf (l:List α):(bF l).length<=2/\1<=(bF l).length:=by
 unfold bF
 split<;>simp
theorem jRE (f:β->Head)(mk:List α->β)(m:List α->Int)(hm:∀l,(f (mk l)).rows=m l)(ha:∀x y,m (x++y)=m x+m y)(l:List α):aH f ((bF l).map mk)=m l:=by
 unfold bF
 split
 ·rw[cM,dO,jQY,jJb,hm];omega
 rw[cM,cM,dO,jQY,jQY,jJb,hm,hm]
 have:=ha (l.take 3) (l.drop 3)
 rw[ee] at this;omega
theorem jSH {f:α->Head}{G:α->Prop}(hK:0<=K){es:List Ent}(h4:es.length<=4)(hr:∀e∈es,e.row.size<=300):jCM f G K (bB es) :=
 ⟨h4,by simp[bB],fun c hc=>by simp[bB] at hc,hK,by simp[bB],fun h=>by simp[bB] at h,fun _=>⟨by simp[bB],rfl⟩,by simp[bB,ar,ByteArray.size],hr⟩
theorem jKW {f:α->Head}{G:α->Prop}(hK:0<=K){cs:List α}(h4:cs.length<=4)(hc:∀c∈cs,G c)(hp:∀c,G c->0<=(f c).rows):jCM f G K (aV f cs) :=
 ⟨by simp[aV],h4,hc,hK,jOa f cs fun c h=>hp c (hc c h),fun _=>⟨rfl,rfl⟩,fun h=>by simp[aV] at h,by simp[aV,ar,ByteArray.size],fun e he=>by simp[aV] at he⟩
structure jEG {α:Type}(f:α->Head)(G:α->Prop)(l:List α)(m:Int):Prop where
 two:l.length<=2
 one:1<=l.length
 each:∀c∈l,G c
 rows:aH f l<=m
theorem jKL {f:α->Head}{G:α->Prop}(hK:0<=K){es:List Ent}(h5:es.length<=5)(hr:∀e∈es,e.row.size<=300):jEG af.hd (jCM f G K) (jAT es) (es.length:Int):=by
 have h1:=jJf es;refine⟨by unfold jAT;rw[cF];exact h1.1,by unfold jAT;rw[cF];exact h1.2,fun c hc=>?_,?_⟩
 ·obtain⟨x,hx,rfl⟩:=List.mem_map.1 hc;have h2:=jIS hx h5;exact jSH hK h2.1 fun e he=>hr e (h2.2 e he)
 unfold jAT;rw[jRE (α:=Ent) af.hd bB (fun l=>(l.length:Int)) (fun _=>rfl) (fun x y=>by rw[cg];omega)];exact dA _
theorem jMF {f:α->Head}{G:α->Prop}(hK:0<=K){cs:List α}(h5:cs.length<=5)(hc:∀c∈cs,G c)(hp:∀c,G c->0<=(f c).rows):jEG af.hd (jCM f G K) (jAK f cs) (aH f cs):=by
 have h1:=jJf cs;refine⟨by unfold jAK;rw[cF];exact h1.1,by unfold jAK;rw[cF];exact h1.2,fun c ha=>?_,?_⟩
 ·obtain⟨x,hx,rfl⟩:=List.mem_map.1 ha;have h2:=jIS hx h5;exact jKW hK h2.1 (fun e he=>hc e (h2.2 e he)) hp
 unfold jAK;rw[jRE af.hd (aV f) (aH f) (fun _=>rfl) (fun x y=>jHu f x y)];exact dA _
theorem jZu {es:List Ent}{e:Ent}(h:∀x∈es,x.row.size<=300)(he:e.row.size<=300):∀x∈jAX es e,x.row.size<=300:=by
 intro x hx;unfold jAX at hx;rcases List.mem_append.1 hx with hx | hx
 ·exact h x (List.takeWhile_prefix _ |>.subset hx)
 rcases List.mem_cons.1 hx with rfl | hx
 ·exact he
 exact h x ((List.dropWhile_suffix _).subset (List.mem_filter.1 hx).1)
theorem jVi {f:α->Head}{l:List α}{p:Int}{c:α}(h:l[bU f l p]?=some c):∃ha:bU f l p<l.length,l[bU f l p]=c:=by
 obtain⟨ha,hb⟩:=List.getElem?_eq_some_iff.1 h;exact⟨ha,hb⟩
theorem jSu {f:α->Head}{G:α->Prop}(hK:0<=K)(hp:∀c,G c->0<=(f c).rows){g:α->Ent->Trl->List α×Trl}(hg:∀c e tr,G c->e.row.size<=300->aS K tr->jEG f G (g c e tr).1 ((f c).rows+1)/\aS K (g c e tr).2){t:af α}(h:jCM f G K t){e:Ent}(he:e.row.size<=300){tr:Trl}(hr:aS K tr) :
  jEG af.hd (jCM f G K) (jDU f g t e tr).1 (t.hd.rows+1)/\aS K (jDU f g t e tr).2:=by
 unfold jDU
 split
 ·next hi =>
  split
  ·next c hc =>
   obtain⟨ha,hh⟩:=jVi hc;have hG:=h.each c (cA hc);have h1:=hg c e _ hG he (hr.jB3 h.num)
   have hb:(bm t.kids (bU f t.kids e.place) 1 (g c e (aC tr t.hd)).1).length<=5:=by
    have:=jHx t.kids (g c e (aC tr t.hd)).1 (bU f t.kids e.place) 1 (by omega)
    have:=h1.1.two
    have:=h.kids
    omega
   have h2:=jMF hK hb (fun x hx=>by rcases jH9 hx with hx | hx;exact h.each x hx;exact h1.1.each x hx) hp;refine⟨⟨h2.two,h2.one,h2.each,?_⟩,h1.2⟩;show aH af.hd (jAK f _)<=_;have h3:=h2.rows;rw[jNh f _ _ _ ha,hh] at h3;have h4:=h1.1.rows;have h5:=(h.inn hi).1;omega
  have h2:=jKL (f:=f) (G:=G) hK (es:=[e]) (by simp) (fun x hx=>by rw[dD] at hx;subst hx;exact he);refine⟨⟨h2.two,h2.one,h2.each,dF h2.rows ?_⟩,hr.jB3 h.num⟩
  have:=h.pos
  simp;omega
 next hi =>
 have hf:t.hd.inner=false:=by simpa using hi
 have hl:=jNH t.av e;have h4:=h.av;have h2:=jKL (f:=f) (G:=G) hK (es:=jAX t.av e) (by omega) (jZu h.row he);refine⟨⟨h2.two,h2.one,h2.each,dF h2.rows ?_⟩,hr.jB3 h.num⟩
 have:=(h.lf hf).1
 omega
theorem jEG.and {f:α->Head}{G P:α->Prop}{l:List α}{m:Int}(h:jEG f G l m)(hp:∀c∈l,P c):jEG f (fun c=>G c/\P c) l m:=⟨h.two,h.one,fun c hc=>⟨h.each c hc,hp c hc⟩,h.rows⟩
theorem jPx {es:List Ent}:∀c∈(jAT es:List (af α)),c.hd.inner=false:=by
 intro c hc;obtain⟨x,_,rfl⟩:=List.mem_map.1 hc;rfl
theorem jYI (f:α->Head)(g:α->Ent->Trl->List α×Trl)(t:af α)(e:Ent)(tr:Trl)(h:t.hd.inner=false):∀c∈(jDU f g t e tr).1,c.hd.inner=false:=by
 unfold jDU;rw[h];exact jPx
theorem jLv (hK:0<=K):∀(n:Nat) (t:Nd n) (e:Ent) (tr:Trl),aT K n t->e.row.size<=300->aS K tr->jEG (aa n) (aT K n) (jCn n t e tr).1 ((aa n t).rows+1)/\aS K (jCn n t e tr).2
 | 0,t,e,tr,h,he,hr=>by
  have h1:=jSu hK (fun c=>c.elim) (g:=fun e:Empty=>e.elim) (fun c=>c.elim) h.at0 he hr;exact⟨h1.1.and (jYI _ _ t e tr h.jE0),h1.2⟩
 | n+1,t,e,tr,h,he,hr=>jSu hK (fun c hc=>hc.head.2.1) (fun c e tr hc he hr=>jLv hK n c e tr hc he hr) h.at1 he hr
theorem jO7 {f:α->Head}{G:α->Prop}(hK:0<=K)(hp:∀c,G c->0<=(f c).rows){l r:af α}(hl:jCM f G K l)(hr:jCM f G K r)(h5:bG l+bG r<=5):jEG af.hd (jCM f G K) (jAq f l r) (l.hd.rows+r.hd.rows):=by
 have hf:=hr.pos;have hb:=hl.pos;unfold jAq
 split
 ·next hi =>
  have h1:bG l=l.kids.length:=by unfold bG;rw[cE hi]
  cases hri:r.hd.inner with
  | true =>
   have h2:bG r=r.kids.length:=by unfold bG;rw[cE hri]
   have h3:=jMF hK (cs:=l.kids++r.kids) (by rw[cg];omega) (fun c hc=>by rcases List.mem_append.1 hc with hc | hc;exact hl.each c hc;exact hr.each c hc) hp;refine⟨h3.two,h3.one,h3.each,dF h3.rows ?_⟩;rw[jHu,<-(hl.inn hi).1,<-(hr.inn hri).1];exact dA _
  | false =>
   have hk:=(hr.lf hri).2;have h4:=hl.kids;have h3:=jMF hK (cs:=l.kids++r.kids) (by rw[hk,cW];omega) (fun c hc=>by rcases List.mem_append.1 hc with hc | hc;exact hl.each c hc;exact hr.each c hc) hp;refine⟨h3.two,h3.one,h3.each,dF h3.rows ?_⟩;rw[hk,cW,<-(hl.inn hi).1];omega
 next hi =>
 have ha:l.hd.inner=false:=by simpa using hi
 have h1:bG l=l.av.length:=by unfold bG;rw[cy hi]
 have he:=(hl.lf ha).1;cases hri:r.hd.inner with
 | true =>
  have hk:=(hr.inn hri).2;have h4:=hl.av;have h3:=jKL (f:=f) (G:=G) hK (es:=l.av++r.av) (by rw[hk,cW];omega) (fun c hc=>by rcases List.mem_append.1 hc with hc | hc;exact hl.row c hc;exact hr.row c hc);refine⟨h3.two,h3.one,h3.each,dF h3.rows ?_⟩;rw[hk,cW];omega
 | false =>
  have h2:bG r=r.av.length:=by unfold bG;rw[cy (by rw[hri];simp)]
  have hg:=(hr.lf hri).1;have h3:=jKL (f:=f) (G:=G) hK (es:=l.av++r.av) (by rw[cg];omega) (fun c hc=>by rcases List.mem_append.1 hc with hc | hc;exact hl.row c hc;exact hr.row c hc);refine⟨h3.two,h3.one,h3.each,dF h3.rows ?_⟩;rw[cg];omega
theorem jO6 (hK:0<=K):∀(n:Nat) (l r:Nd n),aT K n l->aT K n r->jCj n l+jCj n r<=5->jEG (aa n) (aT K n) (jAk n l r) ((aa n l).rows+(aa n r).rows)
 | 0,l,r,hl,hr,h5=>by
  refine(jO7 hK (fun c=>c.elim) hl.at0 hr.at0 h5).and ?_;unfold jAq;rw[hl.jE0];exact jPx
 | n+1,l,r,hl,hr,h5=>jO7 hK (fun c hc=>hc.head.2.1) hl.at1 hr.at1 h5
theorem jTD {f:α->Head}{G:α->Prop}{t:af α}(h:jCM f G K t):bG t<=4:=by
 unfold bG
 split
 ·exact h.kids
 exact h.av
theorem jTW:∀{n:Nat} {t:Nd n},aT K n t->jCj n t<=4
 | 0,_,h=>jTD h.at0
 | _+1,_,h=>jTD h.at1
theorem jPA {f:α->Head}{sz:α->Nat}{tg:α->α->List α}{G:α->Prop}(hn:∀c,G c->(f c).num<=K/\0<=(f c).rows/\sz c<=4)(ht:∀l r,G l->G r->sz l+sz r<=5->jEG f G (tg l r) ((f l).rows+(f r).rows)){cs:List α}(h4:cs.length<=4)(hc:∀c∈cs,G c){a:Nat}(ha:a<cs.length)(hs:sz cs[a]<2){tr:Trl}(hr:aS K tr) :
  (jAI f tg cs a tr).1.length<=4/\(∀c∈(jAI f tg cs a tr).1,G c)/\aH f (jAI f tg cs a tr).1<=aH f cs/\aS K (jAI f tg cs a tr).2:=by
 unfold jAI
 split
 ·exact⟨h4,hc,dA _,hr⟩
 next hne =>
 split
 ·next l r hl hrr =>
  obtain⟨hj,hh⟩:=List.getElem?_eq_some_iff.1 hl;obtain⟨hp,hk⟩:=List.getElem?_eq_some_iff.1 hrr;have hb:=hc l (cA hl);have he:=hc r (cA hrr)
  have hg:sz l+sz r<=5:=by
   have h1:=(hn l hb).2.2;have h2:=(hn r he).2.2
   by_cases hlast:a+1=cs.length
   ·have hf:jDs cs.length a+1=a:=by
     unfold jDs;rw[cE (by simpa using hlast)]
     have:¬(a=0):=fun e=>hne (by simp[e];omega)
     omega
    have:r=cs[a]:=by rw[<-hk];congr 1
    rw[this];omega
   have hf:jDs cs.length a=a:=by unfold jDs;rw[cy (by simpa using hlast)]
   have:l=cs[a]:=by rw[<-hh];congr 1
   rw[this];omega
  have h1:=ht l r hb he hg;refine⟨?_,fun c ho=>?_,?_,(hr.jB3 (hn l hb).1).jB3 (hn r he).1⟩
  ·rw[jHx _ _ _ _ (by omega)]
   have:=h1.two
   omega
  ·rcases jH9 ho with h | h
   ·exact hc c h
   exact h1.each c h
  rw[jYS f _ _ _ hp,hh,hk]
  have:=h1.rows
  omega
 exact⟨h4,hc,dA _,hr⟩
theorem jSU {f:α->Head}{sz:α->Nat}{tg:α->α->List α}{G:α->Prop}(hK:0<=K)(hn:∀c,G c->(f c).num<=K/\0<=(f c).rows/\sz c<=4)(ht:∀l r,G l->G r->sz l+sz r<=5->jEG f G (tg l r) ((f l).rows+(f r).rows)){g:α->Int->Trl->α×Trl}(hg:∀c p tr,G c->aS K tr->G (g c p tr).1/\(f (g c p tr).1).rows<=(f c).rows/\aS K (g c p tr).2){t:af α}(h:jCM f G K t)(p:Int){tr:Trl}(hr:aS K tr) :
  jCM f G K (jC5 f sz tg g t p tr).1/\(jC5 f sz tg g t p tr).1.hd.rows<=t.hd.rows/\aS K (jC5 f sz tg g t p tr).2:=by
 have hp:∀c,G c->0<=(f c).rows:=fun c hc=>(hn c hc).2.1
 unfold jC5
 split
 ·next hi =>
  split
  ·next c hc =>
   obtain⟨ha,hq⟩:=jVi hc;have hG:=h.each c (cA hc);have h1:=hg c p _ hG (hr.jB3 h.num);have ho:=h.kids
   have hm:(bm t.kids (bU f t.kids p) 1 [(g c p (aC tr t.hd)).1]).length=t.kids.length:=by
    rw[jHx _ _ _ _ (by omega),dc];omega
   have hb:∀x∈bm t.kids (bU f t.kids p) 1 [(g c p (aC tr t.hd)).1],G x:=fun x hx=>by
    rcases jH9 hx with hx | hx
    ·exact h.each x hx
    rw[dD] at hx;subst hx;exact h1.1
   have hf:aH f (bm t.kids (bU f t.kids p) 1 [(g c p (aC tr t.hd)).1])<=t.hd.rows:=by
    rw[jNh f _ _ _ ha,hq,jQY,jJb,(h.inn hi).1]
    have:=h1.2.1
    omega
   split
   ·next hs =>
    have hj:(bm t.kids (bU f t.kids p) 1 [(g c p (aC tr t.hd)).1])[bU f t.kids p]'(by omega)=(g c p (aC tr t.hd)).1:=by
     have hh:min (bU f t.kids p) t.kids.length=bU f t.kids p:=by omega
     simp[bm,List.getElem_append,hh]
    have h2:=jPA (f:=f) hn ht (by omega) hb (a:=bU f t.kids p) (by omega) (by rw[hj];exact hs) h1.2.2;exact⟨jKW hK h2.1 h2.2.1 hp,dF h2.2.2.1 hf,h2.2.2.2⟩
   exact⟨jKW hK (by omega) hb hp,hf,h1.2.2⟩
  exact⟨h,dA _,hr.jB3 h.num⟩
 next hi =>
 have hk:t.hd.inner=false:=by simpa using hi
 have hl:=dE (fun e:Ent=>e.place != p) t.av;have h4:=h.av;refine⟨jSH hK (by omega) fun e he=>h.row e (List.mem_filter.1 he).1,?_,hr.jB3 h.num⟩
 have:=(h.lf hk).1
 show((t.av.filter fun e=>e.place != p).length:Int)<=_
 omega
theorem jNG (hK:0<=K):∀(n:Nat) (t:Nd n) (p:Int) (tr:Trl),aT K n t->aS K tr->aT K n (jC0 n t p tr).1/\(aa n (jC0 n t p tr).1).rows<=(aa n t).rows/\aS K (jC0 n t p tr).2
 | 0,t,p,tr,h,hr=>by
  have h1:=jSU hK (sz:=fun e:Empty=>e.elim) (fun c=>c.elim) (tg:=fun e:Empty=>e.elim) (fun c=>c.elim) (g:=fun e:Empty=>e.elim) (fun c=>c.elim) h.at0 p hr;refine⟨⟨h1.1,?_⟩,h1.2.1,h1.2.2⟩
  show(jC5 (fun e:Empty=>e.elim) (fun e:Empty=>e.elim) (fun e:Empty=>e.elim) (fun e:Empty=>e.elim) t p tr).1.hd.inner=false
  unfold jC5;rw[h.jE0];rfl
 | n+1,t,p,tr,h,hr=>jSU hK (fun c hc=>⟨hc.head.1,hc.head.2.1,jTW hc⟩) (fun l r hl hr h5=>jO6 hK n l r hl hr h5) (fun c p tr hc hr=>jNG hK n c p tr hc hr) h.at1 p hr
structure jBb (K m:Int)(X:aj):Prop where
 t:aT K X.d X.t
 rows:X.head.rows<=m
theorem jBb.put {m:Int}(hK:0<=K){X:aj}(h:jBb K m X){e:Ent}(he:e.row.size<=300){tr:Trl}(hr:aS K tr):jBb K (m+1) (X.put e tr).1/\aS K (X.put e tr).2:=by
 obtain⟨h1,h2⟩:=jLv hK X.d X.t e tr h.t he hr;refine⟨?_,h2⟩;have hm:=h.rows;have ha:=h1.rows;unfold aj.head at hm;unfold aj.put;simp only;obtain⟨l,hl⟩:∃l,l=(jCn X.d X.t e tr).1:=⟨_,rfl⟩;rw[<-hl] at h1 ha ⊢;unfold upN
 split
 ·next x =>
  refine⟨h1.each x (dh ..),?_⟩;rw[jQY,jJb] at ha;unfold aj.head;simp only;omega
 refine⟨jKW hK (by have:=h1.two;omega) h1.each (fun c hc=>hc.head.2.1),?_⟩;show aH (aa X.d) l<=_;omega
theorem jBb.del {m:Int}(hK:0<=K){X:aj}(h:jBb K m X)(p:Int){tr:Trl}(hr:aS K tr):jBb K m (X.del p tr).1/\aS K (X.del p tr).2:=by
 obtain⟨h1,h2,h3⟩:=jNG hK X.d X.t p tr h.t hr;refine⟨?_,h3⟩;have hm:=h.rows;obtain⟨d,t⟩:=X;unfold aj.head at hm;unfold aj.del;simp only at h1 h2 h3 hm ⊢;obtain⟨y,hy⟩:∃y,y=(jC0 d t p tr).1:=⟨_,rfl⟩;rw[<-hy] at h1 h2 ⊢;cases d with
 | zero=>exact⟨h1,dF h2 hm⟩
 | succ n =>
  show jBb K m (if(af.hd y).inner then(match af.kids y with | [c]=>⟨n,c⟩ | _=>⟨n+1,y⟩) else⟨n+1,y⟩)
  split
  ·next hi =>
   split
   ·next c hc =>
    have h4:=h1.at1;refine⟨h4.each c (by rw[hc];exact dh ..),?_⟩;have h5:=(h4.inn hi).1;rw[hc,jQY,jJb] at h5;have h6:(aa (n+1) y).rows=(af.hd y).rows:=rfl;unfold aj.head;simp only;omega
   exact⟨h1,dF h2 hm⟩
  exact⟨h1,dF h2 hm⟩
end Sq
namespace Sq
def fits (n:Nat)(r:Rd):Prop:=r.rest.size<=n\/r.short=true
theorem jQR {r:Rd}(k:Int)(h:r.short=true):(takeN r k).short=true:=by
 unfold takeN jBa;rw[h];simp
theorem fits.take {r:Rd}(h:fits n r)(k:Int):fits n (takeN r k):=by
 rcases h with h | h
 ·exact Or.inl (cm (jQo r k) h)
 exact Or.inr (jQR k h)
theorem jTC {r:Rd}{k:Int}(h:jBa r k=true):aF r k=0:=by
 unfold aF br;rw[cE h];rfl
theorem jLU {r:Rd}(h:aF r 1≠0):(takeN r 1).rest.size+1=r.rest.size/\r.short=false/\(takeN r 1).short=false:=by
 cases hb:jBa r 1 with
 | true=>exact absurd (jTC hb) h
 | false =>
  have ha:=hb;unfold jBa at ha;simp at ha;obtain⟨h1,h2⟩:=ha;have e:takeN r 1=⟨r.rest.extract 1 r.rest.size,r.short⟩:=by unfold takeN;rw[cy (by rw[hb];decide)];rfl
  rw[e];refine⟨?_,h2,h2⟩
  show(r.rest.extract 1 r.rest.size).size+1=_
  rw[dk];omega
theorem fits.one {r:Rd}(h:fits (n+1) r)(hn:aF r 1≠0):fits n (takeN r 1):=by
 obtain⟨h1,h2,h3⟩:=jLU hn;rcases h with h | h
 ·exact Or.inl (by omega)
 rw[h2] at h;cases h
theorem jJd (r:Rd):0<=aF r 1/\aF r 1<=255*((r.rest.size:Int)-(takeN r 1).rest.size)/\aF r 1<=255:=by
 have h1:=jUc r;have h2:=jQo r 1;refine⟨h1.1,?_,by omega⟩
 by_cases h:aF r 1=0
 ·omega
 have:=(jLU h).1
 omega
theorem jI7:∀(k:Nat) (r:Rd),(bN k r).1.length=k/\(bN k r).2.rest.size<=r.rest.size/\(r.short=true->(bN k r).2.short=true)
 | 0,r=>⟨rfl,nR,id⟩
 | k+1,r=>by
  have h:=jI7 k (jCG (takeN r 5));refine⟨by show(_::(bN k (jCG (takeN r 5))).1).length=_;rw[cG,h.1],?_,fun hs=>?_⟩
  ·exact cm h.2.1 (cm (jIW _) (jQo _ _))
  exact h.2.2 (jQR _ (jQR _ (jQR _ hs)))
def jHl {α:Type}(f:α->Head)(r:Rd)(x:α×Rd):Prop:=x.2.rest.size<=r.rest.size/\(r.short=true->x.2.short=true)/\0<=(f x.1).rows/\(f x.1).rows<=255*((r.rest.size:Int)-x.2.rest.size)
theorem jW1 {f:α->Head}{mk:BA->Int->Int->α}(hm:∀s l q,(f (mk s l q)).rows=q)(r:Rd)(c:α×Rd)(hc:jHl f (takeN (takeN r 5) 1) c) :
  jHl f r (jAD f mk (aF r 5) (aF (takeN r 5) 1) c):=by
 have h1:=jQo r 5;have h2:=jQo (takeN r 5) 1;have h3:=jJd (takeN r 5);obtain⟨c1,c2,c3,c4⟩:=hc;unfold jAD
 split
 ·refine⟨cm c1 (cm h2 h1),fun hs=>c2 (jQR _ (jQR _ hs)),?_,?_⟩
  ·show 0<=(f (mk _ _ _)).rows;rw[hm];exact h3.1
  show(f (mk _ _ _)).rows<=_;rw[hm];show _<=255*((r.rest.size:Int)-c.2.rest.size);omega
 split
 ·exact⟨cm c1 (cm h2 h1),fun hs=>c2 (jQR _ (jQR _ hs)),c3,by omega⟩
 refine⟨?_,fun _=>rfl,c3,?_⟩
 ·show c.2.rest.size<=_;omega
 show(f c.1).rows<=255*((r.rest.size:Int)-c.2.rest.size);omega
theorem jJ2 {f:α->Head}{mk:BA->Int->Int->α}{rd:Rd->α×Rd}(hm:∀s l q,(f (mk s l q)).rows=q)(hr:∀r,jHl f r (rd r)) :
  ∀(k:Nat) (r:Rd),(bD f mk rd k r).1.length=k/\(bD f mk rd k r).2.rest.size<=r.rest.size/\(r.short=true->(bD f mk rd k r).2.short=true)/\(∀c∈(bD f mk rd k r).1,0<=(f c).rows/\(f c).rows<=255*(r.rest.size:Int))/\aH f (bD f mk rd k r).1<=255*((r.rest.size:Int)-(bD f mk rd k r).2.rest.size)/\0<=aH f (bD f mk rd k r).1
 | 0,r=>⟨rfl,nR,id,fun c hc=>(by cases hc),(by show(0:Int)<=255*((r.rest.size:Int)-r.rest.size);omega),(by show(0:Int)<=0;omega)⟩
 | k+1,r=>by
  have h1:=jW1 hm r (rd (takeN (takeN r 5) 1)) (hr _);obtain⟨c1,c2,c3,c4⟩:=h1;have h2:=jJ2 hm hr k (jAD f mk (aF r 5) (aF (takeN r 5) 1) (rd (takeN (takeN r 5) 1))).2;obtain⟨d1,d2,d3,d4,d5,d6⟩:=h2;rw[bD];simp only;refine⟨by rw[cG,d1],cm d2 c1,fun hs=>d3 (c2 hs),fun c hc=>?_,?_,?_⟩
  ·rcases List.mem_cons.1 hc with rfl | hc
   ·exact⟨c3,by omega⟩
   have:=d4 c hc
   omega
  ·rw[jQY];omega
  rw[jQY];omega
theorem jKY:∀(n:Nat) (s:BA) (l q:Int),(aa n (bg n s l q)).rows=q
 | 0,_,_,_=>rfl
 | _+1,_,_,_=>rfl
theorem jHq (wide:Nat):∀(n:Nat) (r:Rd),jHl (aa n) r (aN wide n r)
 | 0,r=>by
  have h1:=jQo r 1;have h2:=jQo (takeN r 1) wide;refine⟨cm h2 h1,fun hs=>jQR _ (jQR _ hs),by show(0:Int)<=0;omega,?_⟩
  show(0:Int)<=255*((r.rest.size:Int)-(takeN (takeN r 1) wide).rest.size)
  omega
 | n+1,r=>by
  have h1:=jQo r 1;show jHl (aa (n+1)) r (jBc wide (aa n) (bg n) (aN wide n) r);unfold jBc
  split
  ·have h2:=jQo (takeN r 1) wide;refine⟨cm h2 h1,fun hs=>jQR _ (jQR _ hs),by show(0:Int)<=0;omega,?_⟩
   show(0:Int)<=255*((r.rest.size:Int)-(takeN (takeN r 1) wide).rest.size)
   omega
  ·rename_i hk;have h3:=(jLU hk).1;have h4:=jQo (takeN r 1) 1;have h5:=jJd (takeN r 1)
   split
   ·have h6:=jI7 (aF (takeN r 1) 1).toNat (takeN (takeN r 1) 1);obtain⟨e1,e2,e3⟩:=h6;refine⟨cm e2 (cm h4 h1),fun hs=>e3 (jQR _ (jQR _ hs)),?_,?_⟩
    ·show(0:Int)<=((bN (aF (takeN r 1) 1).toNat (takeN (takeN r 1) 1)).1.length:Nat);omega
    ·show(((bN (aF (takeN r 1) 1).toNat (takeN (takeN r 1) 1)).1.length:Nat):Int)<=255*((r.rest.size:Int)-(bN (aF (takeN r 1) 1).toNat (takeN (takeN r 1) 1)).2.rest.size)
     rw[e1];omega
   ·split
    ·have h6:=jJ2 (f:=aa n) (mk:=bg n) (jKY n) (fun r=>jHq wide n r) (aF (takeN r 1) 1).toNat (takeN (takeN r 1) 1);obtain⟨d1,d2,d3,d4,d5,d6⟩:=h6;refine⟨cm d2 (cm h4 h1),fun hs=>d3 (jQR _ (jQR _ hs)),?_,?_⟩
     ·show 0<=aH (aa n) _;exact d6
     ·show aH (aa n) _<=255*((r.rest.size:Int)-(bD (aa n) (bg n) (aN wide n) (aF (takeN r 1) 1).toNat (takeN (takeN r 1) 1)).2.rest.size);omega
    ·refine⟨h1,fun _=>rfl,by show(0:Int)<=0;omega,?_⟩
     show(0:Int)<=255*((r.rest.size:Int)-(takeN r 1).rest.size)
     omega
theorem fits.read {r:Rd}(wide:Nat)(h:fits m r):fits m (aN wide n r).2:=by
 obtain⟨h1,h2,_⟩:=jHq wide n r;rcases h with h | h
 ·exact Or.inl (cm h1 h)
 exact Or.inr (h2 h)
end Sq
section
open Go.RowKit
theorem Tryz.jD4:(Tryz.prog.info? 3).map (fun i=>(i.zero,i.size,i.bytes))=some (some (.int .i64 0),1,8):=by kernel_rfl
theorem aP.blk {h:Sq.Head}(hb:w.heap[g]?=some (.cells #[.bool h.inner,ev,cv,.int .i64 h.least,.int .i64 h.rows,.string h.sl,.int .i64 h.num] 60)):aP w g 0 h ev cv :=
 ⟨by rw[jQb hb];rfl,by rw[jQb hb];rfl,by rw[jQb hb];rfl,by rw[jQb hb];rfl,by rw[jQb hb];rfl,by rw[jQb hb];rfl,by rw[jQb hb];rfl⟩
theorem aP.jCq {h:Sq.Head}(hb:w.heap[g]?=some (.cells #[.bool h.inner,ev,cv,.int .i64 h.least,.int .i64 h.rows,.string h.sl,.int .i64 h.num] 60)) :
  w.cell? ⟨g,0,none⟩=some (.bool h.inner)/\w.cell? ⟨g,1,none⟩=some ev/\w.cell? ⟨g,2,none⟩=some cv/\w.cell? ⟨g,3,none⟩=some (.int .i64 h.least)/\w.cell? ⟨g,4,none⟩=some (.int .i64 h.rows)/\w.cell? ⟨g,5,none⟩=some (.string h.sl)/\w.cell? ⟨g,6,none⟩=some (.int .i64 h.num) :=
 ⟨by rw[jQb hb];rfl,by rw[jQb hb];rfl,by rw[jQb hb];rfl,by rw[jQb hb];rfl,by rw[jQb hb];rfl,by rw[jQb hb];rfl,by rw[jQb hb];rfl⟩
theorem jF2 (tb:Nat)(tr:Trl)(h:Sq.Head)(ev cv:Value)(w:World)(he:∃a k c,ev=.slice a k c)(hc:∃a k c,cv=.slice a k c)(ht:bk tb w tr)(hn:tr.bc.length+1<=100000) :
  Calls Tryz.prog 145 #[.pointer (some ⟨tb,0,none⟩),.agg (ae h ev cv).toArray] w fun e w'=>e=.returned (.tuple #[])/\bk tb w' (aC tr h)/\aA tb w w':=by
 obtain⟨i0,hi,h6,h7,h8⟩:=cV Tryz.jD4;obtain⟨ea,ek,ec,rfl⟩:=he;obtain⟨ca,ck,cc,rfl⟩:=hc;rw[jQc];have hN:=ht.lt;obtain⟨hQ,hle,hr,hs,hO⟩:=h;obtain⟨W,h3⟩:∃W,W=w.alloc (.cells #[.bool hQ,.slice ea ek ec,.slice ca ck cc,.int .i64 hle,.int .i64 hr,.string hs,.int .i64 hO] 60):=⟨_,rfl⟩;have hW:Below w.heap.size w W:=by rw[h3];exact bA
 have hv:W.heap[w.heap.size]?=some (.cells #[.bool hQ,.slice ea ek ec,.slice ca ck cc,.int .i64 hle,.int .i64 hr,.string hs,.int .i64 hO] 60):=by rw[h3];exact jQi w _
 have HT:=hd (ht.below hW);have HF:Hid (aA tb w W):=aA.of hW (by omega);have hB:=hd hv;obtain⟨a0,a1,a2,a3,a4,a5,a6⟩:=aP.blk (h:=⟨hQ,hle,hr,hs,hO⟩) hv;simp only[df] at a1 a2 a3 a4 a5 a6;have hL:=jQe hv;have hM:=HT.o.lt;clear ht hW hv;go_enter Tryz.func145,Tryz.ntmps145;go_wp2_with fail;rw[<-h3];clear h3;refine(jH2 ⟨hQ,hle,hr,hs,hO⟩ _ _ W ⟨_,_,_,rfl⟩ ⟨_,_,_,rfl⟩).mono ?_;rintro e w0 ⟨rfl,hX⟩;have hj:=(hX.block w.heap.size hL).trans hB.o;have T0:=hd (HT.o.below hX);have F0:Hid (aA tb w w0):=HF.o.trans (aA.of hX (by omega));have hx:=jQe hj;have hw:=T0.o.lt;have ha:=hd hj;clear hj hX HT HF hB hL hM a0 a1 a2 a3 a4 a5 a6;cases hsh:Sq.aw ⟨hQ,hle,hr,hs,hO⟩
 ·obtain⟨w1,h0⟩:∃x,x=w0:=⟨_,rfl⟩;rw[<-h0] at T0 F0 ha hx hw ⊢;clear h0;obtain⟨hP,hS⟩:∃x,x=tr:=⟨_,rfl⟩;have T1:Hid (bk tb w1 hP):=by rw[hS];exact T0
  have F1:=F0
  have hf:Hid (aC tr ⟨hQ,hle,hr,hs,hO⟩=⟨hP.lost,if Decidable.decide (0<hO) && !jAt tr ⟨hQ,hle,hr,hs,hO⟩ then hP.bc++[hO] else hP.bc⟩):=by
   show _=_;unfold aC;rw[hsh,hS];simp
  have hg:Hid (jAt tr ⟨hQ,hle,hr,hs,hO⟩=jAt hP ⟨hQ,hle,hr,hs,hO⟩):=by show _=_;rw[hS]
  have hG:hP.bc.length+1<=100000:=by rw[hS];exact hn
  obtain⟨n0,n1,n2,n3,n4,n5,n6⟩:=aP.blk (h:=⟨hQ,hle,hr,hs,hO⟩) ha.o;simp only[df] at n1 n2 n3 n4 n5 n6;have hy:=hx;have hI:=hw;clear hS hsh T0 F0 ha hx hw hn
  by_cases hp:0<hO
  ·go_wp2_with fail;refine(jK6 tb hP ⟨hQ,hle,hr,hs,hO⟩ _ _ w1 ⟨_,_,_,rfl⟩ ⟨_,_,_,rfl⟩ T1.o).mono ?_;rintro e w2 ⟨rfl,hY⟩;have T2:=hd (T1.o.below hY);have F2:Hid (aA tb w w2):=F1.o.trans (aA.of hY (by omega));have hH:=hY.size;have d6:w2.cell? ⟨w.heap.size,6,none⟩=some (.int .i64 hO):=(hY.cell (p:=⟨w.heap.size,6,none⟩) hy).trans n6;have hJ:w.heap.size<w2.heap.size:=by omega
   have hz:tb<w2.heap.size:=by omega
   clear hY hH n0 n1 n2 n3 n4 n5 n6 T1 F1;cases hto:jAt hP ⟨hQ,hle,hr,hs,hO⟩
   ·have HN:Hid (aC tr ⟨hQ,hle,hr,hs,hO⟩=⟨hP.lost,hP.bc++[hO]⟩):=by
     show _=_;rw[hf.o];rw[show jAt tr ⟨hQ,hle,hr,hs,hO⟩=false from hg.o.trans hto];simp[hp]
    obtain⟨v,hb,hV⟩:=T2.o.row;obtain⟨ao,hT,rfl⟩:=jQa hV;have c1:w2.cell? ⟨tb,1,none⟩=some (.slice ao hP.bc.length hT):=by rw[jQb hb];rfl
    have ho:Below w2.heap.size w2 (w2.alloc (.cells #[.int .i64 hO] 3)).drew:=cB (bA);have HO:=hd (jQh hV ho);have HB:Hid ((w2.alloc (.cells #[.int .i64 hO] 3)).drew.heap[tb]?=some (.cells #[.bool hP.lost,.slice ao hP.bc.length hT] 74)):=(ho.block tb hz).trans hb;have hm:=hd ho;have hD:=hd T2.o.few;clear hb hV ho T2 hf hg hto;go_wp2
    go_region_law (first
     | (go_loud (refine dV _ rfl (.tmp 22) (.tmp 25) 54 rfl (tb+1) 3 i0 _ 1 8 Tryz.underlying54 hi h6 h7 h8 rfl (by decide) (.slice ao hP.bc.length hT) hP.bc.length (hP.bc.map (Value.int .i64)) (by simp[Act.eval,Act.put]) HO.o ⟨w2.heap.size,0,none⟩ 1 1 [.int .i64 hO] (by simp[Act.eval,Act.put]) rfl (by exact jQN w2 _ _ _ rfl rfl) (by intro u hu;simp at hu;subst hu;rfl) (by decide) (by unfold maxLen;omega) (by omega) (by simp;omega) _ rfl ?_);intro g cap w3 hU hR h4 h5;have hh:=(hR.block tb (by simp;omega) (fun e=>jQm HO.o HB.o (by decide) e.symm)).trans HB.o;have k0:w3.cell? ⟨tb,1,none⟩=some (.slice ao hP.bc.length hT):=(by rw[jQb hh];rfl);have f0:=jQd hh 1;have hF:=jQe hh;have hE:=hd hU;have HG:=hd hR;have hA:=hd hh;clear hU hR h4 hh))
    all_goals(try go_wp2)
    all_goals
     go_end0;rw[HN.o];refine⟨rfl,⟨⟨.slice (some ⟨g,0,none⟩) (hP.bc.length+1) cap,by rw[jQf hA.o];rfl,?_⟩,by simpa using hG⟩,?_⟩
     ·have:=hE.o
      simp only[cg,dc,cR];exact jQp this fun k hk=>jQg (fun e=>jQm this hA.o (by decide) (by rw[hk,e]))
     refine F2.o.trans ⟨?_,?_⟩
     ·refine cj (B:=tb) (ed (cS (B':=tb) hm.o (by omega)) (Tch.aO HG.o (fun k hk=>?_) (by simp;omega))) nR _;exact dC (HO.o.lt k hk).1
     intro q c e fr hq h1 h2
     have hC:q≠tb:=fun e=>by
      subst e
      have:=(hm.o.block q (jQe hq)).trans hq
      rw[HB.o] at this;simp only[Option.some.injEq,Obj.cells.injEq] at this;exact h2 this.2.1.symm
     rw[jQg hC,HG.o.block q (by have:=jQe hq;simp;omega) (fun e=>jQm HO.o ((hm.o.block q (jQe hq)).trans hq) (fun e=>h1 e.symm) e.symm)];exact hm.o.block q (jQe hq)
   have HN:Hid (aC tr ⟨hQ,hle,hr,hs,hO⟩=hP):=by
    show _=_;rw[hf.o];rw[show jAt tr ⟨hQ,hle,hr,hs,hO⟩=true from hg.o.trans hto];simp[hp]
   clear hf hg hto;go_wp2;go_end0;rw[HN.o];exact⟨rfl,T2.o,F2.o⟩
  have HN:Hid (aC tr ⟨hQ,hle,hr,hs,hO⟩=hP):=by
   show _=_;rw[hf.o];simp[hp]
  clear hf hg;go_wp2;go_end0;rw[HN.o];exact⟨rfl,T1.o,F1.o⟩
 obtain⟨v0,hX,hZ⟩:=T0.o.row;have c0:w0.cell? ⟨tb,0,none⟩=some (.bool tr.lost):=by rw[jQb hX];rfl
 have f0:=jQd hX 0;obtain⟨w1,h0⟩:∃x,x=w0.setCell ⟨tb,0,none⟩ (.bool true):=⟨_,rfl⟩;obtain⟨hP,hS⟩:∃x,x=(⟨true,tr.bc⟩:Trl):=⟨_,rfl⟩;have hK:w.heap.size≠tb:=by omega
 have T1:Hid (bk tb w1 hP):=by
  rw[hS];refine⟨⟨v0,by rw[h0,jQf hX];rfl,?_⟩,by simp only;omega⟩;rw[h0];exact jQp hZ fun k hk=>jQg (fun e=>jQm hZ hX (by decide) (by rw[hk,e]))
 have F1:Hid (aA tb w w1):=F0.o.trans ⟨by rw[h0];exact cj (B:=tb) bR nR _,fun q c e fr hq h1 h2=>by
  have hC:q≠tb:=fun e=>by
   subst e;rw[hX] at hq;simp only[Option.some.injEq,Obj.cells.injEq] at hq;exact h2 hq.2.1.symm
  rw[h0,jQg hC]⟩
 have hl:w1.heap[w.heap.size]?=some (.cells #[.bool hQ,.slice ea ek ec,.slice ca ck cc,.int .i64 hle,.int .i64 hr,.string hs,.int .i64 hO] 60):=by rw[h0,jQg hK];exact ha.o
 have hf:Hid (aC tr ⟨hQ,hle,hr,hs,hO⟩=⟨hP.lost,if Decidable.decide (0<hO) && !jAt tr ⟨hQ,hle,hr,hs,hO⟩ then hP.bc++[hO] else hP.bc⟩):=by
  show _=_;unfold aC;rw[hsh,hS];simp
 have hg:Hid (jAt tr ⟨hQ,hle,hr,hs,hO⟩=jAt hP ⟨hQ,hle,hr,hs,hO⟩):=by show _=_;rw[hS];rfl
 have hG:hP.bc.length+1<=100000:=by rw[hS];exact hn
 obtain⟨n0,n1,n2,n3,n4,n5,n6⟩:=aP.blk (h:=⟨hQ,hle,hr,hs,hO⟩) hl;simp only[df] at n1 n2 n3 n4 n5 n6;have hy:=jQe hl;have hI:=T1.o.lt;obtain⟨m0,m1,m2,m3,m4,m5,m6⟩:=aP.blk (h:=⟨hQ,hle,hr,hs,hO⟩) ha.o;simp only[df] at m1 m2 m3 m4 m5 m6;clear hS hsh T0 F0 ha hX hZ hl hn
 by_cases hp:0<hO
 ·go_wp2_with fail;rw[<-h0];clear h0 hx hw c0 f0 m0 m1 m2 m3 m4 m5 m6 hK;refine(jK6 tb hP ⟨hQ,hle,hr,hs,hO⟩ _ _ w1 ⟨_,_,_,rfl⟩ ⟨_,_,_,rfl⟩ T1.o).mono ?_;rintro e w2 ⟨rfl,hY⟩;have T2:=hd (T1.o.below hY);have F2:Hid (aA tb w w2):=F1.o.trans (aA.of hY (by omega));have hH:=hY.size;have d6:w2.cell? ⟨w.heap.size,6,none⟩=some (.int .i64 hO):=(hY.cell (p:=⟨w.heap.size,6,none⟩) hy).trans n6;have hJ:w.heap.size<w2.heap.size:=by omega
  have hz:tb<w2.heap.size:=by omega
  clear hY hH n0 n1 n2 n3 n4 n5 n6 T1 F1;cases hto:jAt hP ⟨hQ,hle,hr,hs,hO⟩
  ·have HN:Hid (aC tr ⟨hQ,hle,hr,hs,hO⟩=⟨hP.lost,hP.bc++[hO]⟩):=by
    show _=_;rw[hf.o];rw[show jAt tr ⟨hQ,hle,hr,hs,hO⟩=false from hg.o.trans hto];simp[hp]
   obtain⟨v,hb,hV⟩:=T2.o.row;obtain⟨ao,hT,rfl⟩:=jQa hV;have c1:w2.cell? ⟨tb,1,none⟩=some (.slice ao hP.bc.length hT):=by rw[jQb hb];rfl
   have ho:Below w2.heap.size w2 (w2.alloc (.cells #[.int .i64 hO] 3)).drew:=cB (bA);have HO:=hd (jQh hV ho);have HB:Hid ((w2.alloc (.cells #[.int .i64 hO] 3)).drew.heap[tb]?=some (.cells #[.bool hP.lost,.slice ao hP.bc.length hT] 74)):=(ho.block tb hz).trans hb;have hm:=hd ho;have hD:=hd T2.o.few;clear hb hV ho T2 hf hg hto;go_wp2
   go_region_law (first
    | (go_loud (refine dV _ rfl (.tmp 22) (.tmp 25) 54 rfl (tb+1) 3 i0 _ 1 8 Tryz.underlying54 hi h6 h7 h8 rfl (by decide) (.slice ao hP.bc.length hT) hP.bc.length (hP.bc.map (Value.int .i64)) (by simp[Act.eval,Act.put]) HO.o ⟨w2.heap.size,0,none⟩ 1 1 [.int .i64 hO] (by simp[Act.eval,Act.put]) rfl (by exact jQN w2 _ _ _ rfl rfl) (by intro u hu;simp at hu;subst hu;rfl) (by decide) (by unfold maxLen;omega) (by omega) (by simp;omega) _ rfl ?_);intro g cap w3 hU hR h4 h5;have hh:=(hR.block tb (by simp;omega) (fun e=>jQm HO.o HB.o (by decide) e.symm)).trans HB.o;have k0:w3.cell? ⟨tb,1,none⟩=some (.slice ao hP.bc.length hT):=(by rw[jQb hh];rfl);have f0:=jQd hh 1;have hF:=jQe hh;have hE:=hd hU;have HG:=hd hR;have hA:=hd hh;clear hU hR h4 hh))
   all_goals(try go_wp2)
   all_goals
    go_end0;rw[HN.o];refine⟨rfl,⟨⟨.slice (some ⟨g,0,none⟩) (hP.bc.length+1) cap,by rw[jQf hA.o];rfl,?_⟩,by simpa using hG⟩,?_⟩
    ·have:=hE.o
     simp only[cg,dc,cR];exact jQp this fun k hk=>jQg (fun e=>jQm this hA.o (by decide) (by rw[hk,e]))
    refine F2.o.trans ⟨?_,?_⟩
    ·refine cj (B:=tb) (ed (cS (B':=tb) hm.o (by omega)) (Tch.aO HG.o (fun k hk=>?_) (by simp;omega))) nR _;exact dC (HO.o.lt k hk).1
    intro q c e fr hq h1 h2
    have hC:q≠tb:=fun e=>by
     subst e
     have:=(hm.o.block q (jQe hq)).trans hq
     rw[HB.o] at this;simp only[Option.some.injEq,Obj.cells.injEq] at this;exact h2 this.2.1.symm
    rw[jQg hC,HG.o.block q (by have:=jQe hq;simp;omega) (fun e=>jQm HO.o ((hm.o.block q (jQe hq)).trans hq) (fun e=>h1 e.symm) e.symm)];exact hm.o.block q (jQe hq)
  have HN:Hid (aC tr ⟨hQ,hle,hr,hs,hO⟩=hP):=by
   show _=_;rw[hf.o];rw[show jAt tr ⟨hQ,hle,hr,hs,hO⟩=true from hg.o.trans hto];simp[hp]
  clear hf hg hto;go_wp2;go_end0;rw[HN.o];exact⟨rfl,T2.o,F2.o⟩
 have HN:Hid (aC tr ⟨hQ,hle,hr,hs,hO⟩=hP):=by
  show _=_;rw[hf.o];simp[hp]
 clear hf hg;go_wp2;rw[<-h0];go_end0;rw[HN.o];exact⟨rfl,T1.o,F1.o⟩
theorem jQP {ops:Array Oper}{rest:List Oper}{Q:Exit->Act->World->Prop}(hg:o.guard=none)(sl x:Operand)
  (ho:o.op=.call { callee:=.builtin .append,args:=#[sl,x],argTypes:=#[57,57] }) (B:Nat) (v:Value) (es:List Ent) (hs:a.eval sl=v) (hb:aM B w v es)
  (e:Ent) (g c:Nat) (hx:a.eval x=.slice (some ⟨g,0,none⟩) 1 c) (ha:w.cell? ⟨g,0,none⟩=some (.int .i64 e.place)) (hc:w.cell? ⟨g,1,none⟩=some (.string e.row)) (h1:es.length+1<=1000000) (hB:B<=w.heap.size)
  (h:∀v' w',aM B w' v' (es++[e])->Below B w w'->wpList Tryz.prog ops Q rest (a.put o.dst v') w'):wpList Tryz.prog ops Q (o::rest) a w:=by
 obtain⟨i0,hi,hj,hn,hp⟩:=cV Tryz.jE9
 refine cT _ hg sl x 57 ho B 141 i0 _ 2 24 Tryz.underlying57 hi hj hn hp rfl (by decide) v es.length _ hs hb ⟨g,0,none⟩ 1 c (jAw e) hx rfl (by
  intro j u hu;rw[jFp]
  match j,hu with
  | 0,hu=>simp[jAw] at hu;subst hu;exact ha
  | 1,hu=>simp[jAw] at hu;subst hu;exact hc
  | j+2,hu=>simp[jAw] at hu) (by intro u hu;simp[jAw] at hu;rcases hu with rfl | rfl<;>rfl) (by decide) (by unfold maxLen;omega) (by omega) hB _ rfl ?_
 intro g' cap w' hh hf _ _;refine h _ w' ?_ (Tch.aO hf (fun k hk=>(World.ownsRow.lt hb k hk).1) hB);unfold aM;rw[cg,cN];simpa using hh
theorem jFD (w:World):∀m,Below w.heap.size w (w.drewN m):=by
 intro m
 induction m with
 | zero=>exact bR
 | succ m ih=>exact cB ih
namespace Sq
theorem jXz (es:List Ent)(e:Ent)(k:Nat)(h:k<es.length)(hl:es[k].place<e.place):jAX (es.drop k) e=es[k]::jAX (es.drop (k+1)) e:=by
 rw[cr h];unfold jAX;rw[dY,List.dropWhile_cons];simp[hl]
theorem jRY (es:List Ent)(e:Ent)(k:Nat)(hl:∀h:k<es.length,¬(es[k].place<e.place)):jAX (es.drop k) e=e::(es.drop k).filter (fun x=>x.place != e.place):=by
 by_cases h:k<es.length
 ·have:=hl h
  rw[cr h];unfold jAX;rw[dY,List.dropWhile_cons];simp[this]
 rw[cD (by omega)];rfl
theorem jLf (p:Ent->Bool)(es:List Ent)(k:Nat)(h:k<es.length):(es.drop k).filter p=(if p es[k] then[es[k]] else[])++(es.drop (k+1)).filter p:=by
 rw[cr h,dK]
 split<;>simp
end Sq
theorem qBa (es:List Ent)(e:Ent)(v:Value)(w:World)(h:aM 0 w v es)(hl:es.length<=1000) :
  Calls Tryz.prog 208 #[v,.agg #[.int .i64 e.place,.string e.row]] w fun r w'=>∃v',r=.returned v'/\aM w.heap.size w' v' (jAX es e)/\Below w.heap.size w w':=by
 obtain⟨ao,h0,rfl⟩:=jQa h;have hW:Below w.heap.size w (w.alloc (.cells #[.int .i64 e.place,.string e.row] 141)):=bA;have HW:=hd hW;have H:=hd h;clear h hW;go_enter Tryz.func208,Tryz.ntmps208;go_wp2
 go_loopw [5,6] (fun v i wr=>∃k:Nat,∃acc:List Ent,k<=es.length/\i=.int .i64 k/\aM (w.heap.size+1) wr v acc/\Hid (acc.length=k)/\Hid (jAX es e=acc++jAX (es.drop k) e)/\Below (w.heap.size+1) (w.alloc (.cells #[.int .i64 e.place,.string e.row] 141)) wr) (fun _ i _=>es.length-(intOf i).toNat)
 case atStart=>exact⟨0,[],zR,rfl,cu _ _ _ _,rfl,rfl,bR⟩
 case round =>
  obtain⟨k,acc,hk,rfl,hS,hT,hr,hb⟩:=hrel;obtain⟨wo,rfl⟩:∃wo:World,wo=wr:=⟨_,rfl⟩;obtain⟨xo,h8,rfl⟩:=jQa hS;have hG:Below w.heap.size w wo:=HW.o.trans (hb.mono (by omega));have a0:wo.cell? ⟨w.heap.size,0,none⟩=some (.int .i64 e.place):=(hb.cell (p:=⟨w.heap.size,0,none⟩) (by simp)).trans (by simp[go_sem]);have a1:wo.cell? ⟨w.heap.size,1,none⟩=some (.string e.row):=(hb.cell (p:=⟨w.heap.size,1,none⟩) (by simp)).trans (by simp[go_sem]);have hz:w.heap.size<wo.heap.size:=by have:=hb.size;simp at this;omega
  have hF:acc.length<=1000:=by rw[hT.o];omega
  have HB:=hd hb;have hh:=hd hS;clear hb hS
  by_cases hlt:k<es.length
  ·obtain⟨g,h7,hv,hg,c0,c1⟩:=(H.o.below hG).at k hlt;obtain⟨rfl,-,rfl⟩:=sI hv;have i1:¬((es.length:Int)<=(k:Int)):=by omega
   have i2:decide ((k:Int)<(es.length:Int))=true:=by simpa using hlt
   obtain⟨x,hx⟩:∃x,x=es[k]:=⟨_,rfl⟩;rw[<-hx] at c0 c1;have HX:=hd hx;clear hx
   by_cases hless:x.place<e.place
   ·have HR:Hid (jAX es e=(acc++[x])++jAX (es.drop (k+1)) e):=by
     show _=_;rw[hr.o,Sq.jXz es e k hlt (by rw[<-HX.o];exact hless),<-HX.o,dm];rfl
    have ho:Hid ((acc++[x]).length=k+1):=by show _=_;rw[cg,hT.o];rfl
    have i3:decide (x.place<e.place)=true:=by simpa using hless
    clear hr hT;go_wp2
    go_quiet (fail)
    obtain⟨wq,hK,hZ,hq⟩:∃wq,Below wo.heap.size wo wq/\wo.heap.size<=wq.heap.size/\wo.drewN nq=wq:=⟨_,jFD _ _,(jFD _ _).size,rfl⟩;rw[hq];have d0:=((aD hK).1 g (k*2) hg).trans c0;have d1:=((aD hK).1 g (k*2+1) hg).trans c1;have hE:g<wq.heap.size:=by omega
    have ht:=hd hK;have hn:=hd ((hh.o.below hK).below ((bR).alloc nR (.cells #[.int .i64 x.place,.string x.row] 141)));clear hq c0 c1 a0 a1 hK;go_wp2_with (at_builtin;refine jQP rfl (.tmp 21) (.tmp 26) rfl (w.heap.size+1) _ acc rfl hn.o x wq.heap.size 1 rfl (by simp[go_sem]) (by simp[go_sem]) (by omega) (by simp;omega) ?_;intro v3 w3 hJ hQ;have hw:=hd hJ;have hp:=hd hQ;clear hJ hQ);go_roundw;exact⟨k+1,acc++[x],by omega,by go_num,hw.o,ho,HR,HB.o.trans ((cS (B':=w.heap.size+1) (ht.o.alloc hZ _) (by omega)).trans hp.o)⟩;simp[intOf];omega
   have HR:Hid (jAX es e=(acc++[e])++(es.drop k).filter (fun x=>x.place != e.place)):=by
    show _=_;rw[hr.o,Sq.jRY es e k (fun _=>by rw[<-HX.o];exact hless),dm];rfl
   have ho:Hid ((acc++[e]).length=k+1):=by show _=_;rw[cg,hT.o];rfl
   have i3:decide (x.place<e.place)=false:=by simpa using hless
   clear hr hT;go_wp2
   go_quiet (fail)
   obtain⟨wq,hK,hZ,hq⟩:∃wq,Below wo.heap.size wo wq/\wo.heap.size<=wq.heap.size/\wo.drewN nq=wq:=⟨_,jFD _ _,(jFD _ _).size,rfl⟩;rw[hq];have h5:=((aD hK).1 w.heap.size 0 hz).trans a0;have h6:=((aD hK).1 w.heap.size 1 hz).trans a1;have hE:w.heap.size<wq.heap.size:=by omega
   have ht:=hd hK;have hn:=hd ((hh.o.below hK).below ((bR).alloc nR (.cells #[.int .i64 e.place,.string e.row] 141)));clear hq c0 c1 a0 a1 hK;go_wp2_with (at_builtin;refine jQP rfl (.tmp 30) (.tmp 32) rfl (w.heap.size+1) _ acc rfl hn.o e wq.heap.size 1 rfl (by simp[go_sem]) (by simp[go_sem]) (by omega) (by simp;omega) ?_;intro v3 w3 hJ hQ;have hw:=hd hJ;have hp:=hd hQ;clear hJ hQ)
   go_loopw [5,6] (fun v i wr=>∃j:Nat,∃ac:List Ent,j<=es.length/\i=.int .i64 j/\aM (w.heap.size+1) wr v ac/\ac.length<=j+1/\Hid (jAX es e=ac++(es.drop j).filter (fun x=>x.place != e.place))/\Below (w.heap.size+1) (w.alloc (.cells #[.int .i64 e.place,.string e.row] 141)) wr) (fun _ i _=>es.length-(intOf i).toNat)
   case atStart=>exact⟨k,acc++[e],hk,rfl,hw.o,Nat.le_of_eq ho.o,HR,HB.o.trans ((cS (B':=w.heap.size+1) (ht.o.alloc hZ _) (by omega)).trans hp.o)⟩
   case round =>
    obtain⟨j,ac,hj,rfl,hR,h1,hM,hN⟩:=hrel;obtain⟨yo,h4,rfl⟩:=jQa hR;have he:Below w.heap.size w wr:=HW.o.trans (hN.mono (by omega));have a0:wr.cell? ⟨w.heap.size,0,none⟩=some (.int .i64 e.place):=(hN.cell (p:=⟨w.heap.size,0,none⟩) (by simp)).trans (by simp[go_sem]);have hD:w.heap.size<wr.heap.size:=by have:=hN.size;simp at this;omega
    have hs:=hd hN;have hf:=hd hR;clear hN hR
    by_cases hjt:j<es.length
    ·obtain⟨g4,hV,hv,hY,c0,c1⟩:=(H.o.below he).at j hjt;simp only[Value.slice.injEq] at hv;obtain⟨h2,-,h3⟩:=hv;have hu:=hd (Sq.jLf (fun x=>x.place != e.place) es j hjt);obtain⟨y,hy⟩:∃x,x=es[j]:=⟨_,rfl⟩;have hm:=hu.o;rw[<-hy] at c0 c1 hm;have hc:=hd hm;have i1:¬((es.length:Int)<=(j:Int)):=by omega
     obtain⟨rfl,rfl⟩:g4=g/\hV=h0:=⟨by simpa using h2.symm,h3.symm⟩;clear hm hu hy;cases hne:y.place != e.place
     case false =>
      have hi:Hid (jAX es e=ac++(es.drop (j+1)).filter (fun x=>x.place != e.place)):=by show _=_;rw[hM.o,hc.o];simp only[hne];simp
      clear hM;go_wp2
      go_quiet (fail)
      obtain⟨hU,hI,hP,hO⟩:∃wq,Below wr.heap.size wr wq/\wr.heap.size<=wq.heap.size/\wr.drewN nq=wq:=⟨_,jFD _ _,(jFD _ _).size,rfl⟩;rw[hO];have ha:=hd hI;clear hO hI c0 c1 a0;go_wp2;go_roundw;exact⟨j+1,ac,by omega,by go_num,hf.o.below ha.o,by omega,hi,hs.o.trans (ha.o.mono (by omega))⟩;simp[intOf];omega
     case true =>
      have hi:Hid (jAX es e=(ac++[y])++(es.drop (j+1)).filter (fun x=>x.place != e.place)):=by show _=_;rw[hM.o,hc.o];simp only[hne];simp
      clear hM;go_wp2
      go_quiet (fail)
      obtain⟨hU,hI,hP,hO⟩:∃wq,Below wr.heap.size wr wq/\wr.heap.size<=wq.heap.size/\wr.drewN nq=wq:=⟨_,jFD _ _,(jFD _ _).size,rfl⟩;rw[hO];have e0:=((aD hI).1 g4 (j*2) hY).trans c0;have e1:=((aD hI).1 g4 (j*2+1) hY).trans c1;have hH:g4<hU.heap.size:=by omega
      have ha:=hd hI;have hA:=hd ((hf.o.below hI).below ((bR).alloc nR (.cells #[.int .i64 y.place,.string y.row] 141)));clear hO hI c0 c1 a0;go_wp2_with (at_builtin;refine jQP rfl (.tmp 48) (.tmp 53) rfl (w.heap.size+1) _ ac rfl hA.o y hU.heap.size 1 rfl (by simp[go_sem]) (by simp[go_sem]) (by omega) (by simp;omega) ?_;intro v5 w5 hL hX;have hC:=hd hL;have hB:=hd hX;clear hL hX);go_roundw;exact⟨j+1,ac++[y],by omega,by go_num,hC.o,by rw[cg];simp;omega,hi,hs.o.trans ((cS (B':=w.heap.size+1) (ha.o.alloc hP _) (by omega)).trans hB.o)⟩;simp[intOf];omega
    have HE:Hid (jAX es e=ac):=by show _=_;rw[hM.o,cD (by omega)];simp
    clear hM;go_wp2;go_ret;exact⟨_,rfl,by rw[HE.o];exact hf.o.base (by omega),he⟩
  have HR:Hid (jAX es e=(acc++[e])++(es.drop k).filter (fun x=>x.place != e.place)):=by
   show _=_;rw[hr.o,Sq.jRY es e k (fun h=>absurd h hlt),dm];rfl
  have ho:Hid ((acc++[e]).length=k+1):=by show _=_;rw[cg,hT.o];rfl
  have i2:decide ((k:Int)<(es.length:Int))=false:=by simpa using hlt
  clear hr hT;go_wp2
  go_quiet (fail)
  obtain⟨wq,hK,hZ,hq⟩:∃wq,Below wo.heap.size wo wq/\wo.heap.size<=wq.heap.size/\wo.drewN nq=wq:=⟨_,jFD _ _,(jFD _ _).size,rfl⟩;rw[hq];have h5:=((aD hK).1 w.heap.size 0 hz).trans a0;have h6:=((aD hK).1 w.heap.size 1 hz).trans a1;have hE:w.heap.size<wq.heap.size:=by omega
  have ht:=hd hK;have hn:=hd ((hh.o.below hK).below ((bR).alloc nR (.cells #[.int .i64 e.place,.string e.row] 141)));clear hq a0 a1 hK;go_wp2_with (at_builtin;refine jQP rfl (.tmp 30) (.tmp 32) rfl (w.heap.size+1) _ acc rfl hn.o e wq.heap.size 1 rfl (by simp[go_sem]) (by simp[go_sem]) (by omega) (by simp;omega) ?_;intro v3 w3 hJ hQ;have hw:=hd hJ;have hp:=hd hQ;clear hJ hQ)
  go_loopw [5,6] (fun v i wr=>∃j:Nat,∃ac:List Ent,j<=es.length/\i=.int .i64 j/\aM (w.heap.size+1) wr v ac/\ac.length<=j+1/\Hid (jAX es e=ac++(es.drop j).filter (fun x=>x.place != e.place))/\Below (w.heap.size+1) (w.alloc (.cells #[.int .i64 e.place,.string e.row] 141)) wr) (fun _ i _=>es.length-(intOf i).toNat)
  case atStart=>exact⟨k,acc++[e],hk,rfl,hw.o,Nat.le_of_eq ho.o,HR,HB.o.trans ((cS (B':=w.heap.size+1) (ht.o.alloc hZ _) (by omega)).trans hp.o)⟩
  case round =>
   obtain⟨j,ac,hj,rfl,hR,h1,hM,hN⟩:=hrel;obtain⟨yo,h4,rfl⟩:=jQa hR;have he:Below w.heap.size w wr:=HW.o.trans (hN.mono (by omega));have a0:wr.cell? ⟨w.heap.size,0,none⟩=some (.int .i64 e.place):=(hN.cell (p:=⟨w.heap.size,0,none⟩) (by simp)).trans (by simp[go_sem]);have hD:w.heap.size<wr.heap.size:=by have:=hN.size;simp at this;omega
   have hs:=hd hN;have hf:=hd hR;clear hN hR
   by_cases hjt:j<es.length
   ·obtain⟨g4,hV,hv,hY,c0,c1⟩:=(H.o.below he).at j hjt;simp only[Value.slice.injEq] at hv;obtain⟨h2,-,h3⟩:=hv;have hu:=hd (Sq.jLf (fun x=>x.place != e.place) es j hjt);obtain⟨y,hy⟩:∃x,x=es[j]:=⟨_,rfl⟩;have hm:=hu.o;rw[<-hy] at c0 c1 hm;have hc:=hd hm;have i1:¬((es.length:Int)<=(j:Int)):=by omega
    obtain rfl:=h2;obtain rfl:=h3;clear hm hu hy;cases hne:y.place != e.place
    case false =>
     have hi:Hid (jAX es e=ac++(es.drop (j+1)).filter (fun x=>x.place != e.place)):=by show _=_;rw[hM.o,hc.o];simp only[hne];simp
     clear hM;go_wp2
     go_quiet (fail)
     obtain⟨hU,hI,hP,hO⟩:∃wq,Below wr.heap.size wr wq/\wr.heap.size<=wq.heap.size/\wr.drewN nq=wq:=⟨_,jFD _ _,(jFD _ _).size,rfl⟩;rw[hO];have ha:=hd hI;clear hO hI c0 c1 a0;go_wp2;go_roundw;exact⟨j+1,ac,by omega,by go_num,hf.o.below ha.o,by omega,hi,hs.o.trans (ha.o.mono (by omega))⟩;simp[intOf];omega
    case true =>
     have hi:Hid (jAX es e=(ac++[y])++(es.drop (j+1)).filter (fun x=>x.place != e.place)):=by show _=_;rw[hM.o,hc.o];simp only[hne];simp
     clear hM;go_wp2
     go_quiet (fail)
     obtain⟨hU,hI,hP,hO⟩:∃wq,Below wr.heap.size wr wq/\wr.heap.size<=wq.heap.size/\wr.drewN nq=wq:=⟨_,jFD _ _,(jFD _ _).size,rfl⟩;rw[hO];have e0:=((aD hI).1 g4 (j*2) hY).trans c0;have e1:=((aD hI).1 g4 (j*2+1) hY).trans c1;have hH:g4<hU.heap.size:=by omega
     have ha:=hd hI;have hA:=hd ((hf.o.below hI).below ((bR).alloc nR (.cells #[.int .i64 y.place,.string y.row] 141)));clear hO hI c0 c1 a0;go_wp2_with (at_builtin;refine jQP rfl (.tmp 48) (.tmp 53) rfl (w.heap.size+1) _ ac rfl hA.o y hU.heap.size 1 rfl (by simp[go_sem]) (by simp[go_sem]) (by omega) (by simp;omega) ?_;intro v5 w5 hL hX;have hC:=hd hL;have hB:=hd hX;clear hL hX);go_roundw;exact⟨j+1,ac++[y],by omega,by go_num,hC.o,by rw[cg];simp;omega,hi,hs.o.trans ((cS (B':=w.heap.size+1) (ha.o.alloc hP _) (by omega)).trans hB.o)⟩;simp[intOf];omega
   have HE:Hid (jAX es e=ac):=by show _=_;rw[hM.o,cD (by omega)];simp
   clear hM;go_wp2;go_ret;exact⟨_,rfl,by rw[HE.o];exact hf.o.base (by omega),he⟩
theorem jXE (es:List Ent)(p:Int)(v:Value)(w:World)(h:aM 0 w v es)(hl:es.length<=1000) :
  Calls Tryz.prog 211 #[v,.int .i64 p] w fun r w'=>∃v',r=.returned v'/\aM w.heap.size w' v' (es.filter fun x=>x.place != p)/\Below w.heap.size w w':=by
 obtain⟨ao,hs,rfl⟩:=jQa h;have H:=hd h;clear h;go_enter Tryz.func211,Tryz.ntmps211;go_wp2
 go_loopw [5,6] (fun v i wr=>∃k:Nat,∃acc:List Ent,k<=es.length/\i=.int .i64 k/\aM w.heap.size wr v acc/\acc.length<=k/\Hid ((es.filter fun x=>x.place != p)=acc++(es.drop k).filter fun x=>x.place != p)/\Below w.heap.size w wr) (fun _ i _=>es.length-(intOf i).toNat)
 case atStart=>exact⟨0,[],zR,rfl,cu _ _ _ _,nR,rfl,bR⟩
 case round =>
  obtain⟨j,ac,hj,rfl,hp,hx,ho,hq⟩:=hrel;obtain⟨yo,hz,rfl⟩:=jQa hp;have hm:=hq.size;have hb:=hd hq;have hc:=hd hp;clear hq hp
  by_cases hjt:j<es.length
  ·obtain⟨g4,ht,hv,hA,c0,c1⟩:=(H.o.below hb.o).at j hjt;obtain⟨rfl,-,rfl⟩:=sI hv;have hg:=hd (Sq.jLf (fun x=>x.place != p) es j hjt);obtain⟨y,hy⟩:∃x,x=es[j]:=⟨_,rfl⟩;have hf:=hg.o;rw[<-hy] at c0 c1 hf;have ha:=hd hf;clear hf hg hy;cases hne:y.place != p
   case false =>
    have he:Hid ((es.filter fun x=>x.place != p)=ac++(es.drop (j+1)).filter fun x=>x.place != p):=by show _=_;rw[ho.o,ha.o];simp only[hne];simp
    clear ho;go_wp2;go_roundw;exact⟨j+1,ac,by omega,by go_num,hc.o,by omega,he,hb.o⟩;simp[intOf];omega
   case true =>
    have he:Hid ((es.filter fun x=>x.place != p)=(ac++[y])++(es.drop (j+1)).filter fun x=>x.place != p):=by show _=_;rw[ho.o,ha.o];simp only[hne];simp
    have hh:=hd (hc.o.below ((bR).alloc nR (.cells #[.int .i64 y.place,.string y.row] 141)));clear ho;go_wp2_with (at_builtin;refine jQP rfl (.tmp 20) (.tmp 25) rfl w.heap.size _ ac rfl hh.o y wr.heap.size 1 rfl (by simp[go_sem]) (by simp[go_sem]) (by omega) (by simp;omega) ?_;intro v5 w5 hn hr;have hk:=hd hn;have hi:=hd hr;clear hn hr);go_roundw;exact⟨j+1,ac++[y],by omega,by go_num,hk.o,by rw[cg];simp;omega,he,hb.o.trans ((cS (B':=w.heap.size) (bA) hm).trans hi.o)⟩;simp[intOf];omega
  have HE:Hid ((es.filter fun x=>x.place != p)=ac):=by show _=_;rw[ho.o,cD (by omega)];simp
  clear ho;go_wp2;go_ret;exact⟨_,rfl,by rw[HE.o];exact hc.o,hb.o⟩
theorem jQV {ops:Array Oper}{rest:List Oper}{Q:Exit->Act->World->Prop}(hh:o.guard=none)(sl x:Operand)
  (ho:o.op=.call { callee:=.builtin .append,args:=#[sl,x],argTypes:=#[58,58] }) (B:Nat) (v:Value) (n:Nat) (l:List (Nd n×Value×Value)) (hs:a.eval sl=v) (hb:w.ownsRow B 60 7 v l.length (l.flatMap (au n)))
  (m:List (Nd n×Value×Value)) (sv:Value) (hx:a.eval x=sv) (hf:Reads w sv m.length 7 (m.flatMap (au n))) (ha:∀u∈m.flatMap (au n),u.oneCell'=true) (hm:0<m.length) (h1:l.length+m.length<=1000000) (hB:B<=w.heap.size)
  (h:∀v' w',w'.ownsRow B 60 7 v' (l++m).length ((l++m).flatMap (au n))->Below B w w'->wpList Tryz.prog ops Q rest (a.put o.dst v') w'):wpList Tryz.prog ops Q (o::rest) a w:=by
 obtain⟨i0,hi,hn,hp,hq⟩:=cV Tryz.jFC;rcases hf.2 with⟨_,h0⟩ | ⟨g,off,cap,rfl,_,hc⟩
 ·omega
 refine cT _ hh sl x 58 ho B 60 i0 _ 7 96 Tryz.underlying58 hi hn hp hq rfl (by decide) v l.length _ hs hb ⟨g,off,none⟩ m.length cap (m.flatMap (au n)) hx hf.1 (by
  intro j u hu;rw[jFp];exact hc j u hu) ha hm (by unfold maxLen;omega) (by omega) hB _ rfl ?_
 intro g' cap w' hj hg _ _;refine h _ w' ?_ (Tch.aO hg (fun k hk=>(World.ownsRow.lt hb k hk).1) hB);rw[cg,cN];exact hj
theorem jGX (w:World)(e:TypeId)(cs:Array Value)(l:List Value)(n size:Nat)(hl:cs.toList=l)(h:l.length=n*size):Reads (w.alloc (.cells cs e)) (.slice (some ⟨w.heap.size,0,none⟩) n n) n size l:=by
 refine⟨h,Or.inr ⟨w.heap.size,0,n,rfl,by simp,fun j u hj=>?_⟩⟩
 have:=jQN w cs e l hl rfl j u hj
 rwa [jFp] at this
end
section
open Go.RowKit
variable {Z:Nat->Prop}
theorem jSI (l:List α)(k:Nat)(h:k<l.length):l.take (k+1)=l.take k++[l[k]]:=cI h
theorem Sq.jLP (f:α->β)(l o:List α)(a m:Nat):(bm l a m o).map f=bm (l.map f) a m (o.map f):=by
 unfold bm;simp
theorem jOe {l o:List α}{a:Nat}{x:α}(h:x∈bm l a m o):x∈l\/x∈o:=by
 unfold bm at h;rcases List.mem_append.1 h with h | h
 ·rcases List.mem_append.1 h with h | h
  ·exact Or.inl (eg h)
  exact Or.inr h
 exact Or.inl (dR h)
theorem jKg {x:Nd n×Value×Value}(h:ag Z w n x.1 x.2.1 x.2.2):∀u∈[x].flatMap (au n),u.oneCell'=true :=
 aB.one (l:=[x]) fun y hy=>by rw[List.mem_singleton.1 hy];exact h
theorem jOV {P:Program}{ops:Array Oper}{rest:List Oper}{Q:Exit->Act->World->Prop}(hc:o.guard=none)(s x:Operand)(t:TypeId)
  (ho:o.op=.call { callee:=.builtin .append,args:=#[s,x],argTypes:=#[t,t] })
  (base:Nat) (e:TypeId) (i:TypeInfo) (size:Nat) (ht:P.underlying t=some (.slice e)) (hi:P.info? e=some i)
  (v:Value) (n:Nat) (xs:List Value) (hs:a.eval s=v) (hb:w.ownsRow base e size v n xs) (so:Option Addr) (sc:Nat) (hx:a.eval x=.slice so 0 sc)
  (h:wpList P ops Q rest (a.put o.dst v) w):wpList P ops Q (o::rest) a w:=by
 refine wpList_plain hc fun K hK=>?_
 have ha:(Builtin.append_ #[t,t] o.type #[v,.slice so 0 sc]).run P w=.ok v w:=by
  cases so with
  | none =>
   rcases hb.2 with⟨rfl,rfl⟩ | ⟨g,cap,cur,rfl,_,_,hnc,_⟩
   ·simp[Builtin.append_,eC ht,sizeOf,typeInfo,hi,Builtin.lenOf,Builtin.firstCells]
   simp[Builtin.append_,eC ht,sizeOf,typeInfo,hi,Builtin.lenOf,Builtin.firstCells,hnc,storeCells]
  | some ad =>
   rcases hb.2 with⟨rfl,rfl⟩ | ⟨g,cap,cur,rfl,_,_,hnc,_⟩
   ·simp[Builtin.append_,eC ht,sizeOf,typeInfo,hi,Builtin.lenOf,Builtin.firstCells,loadCells,loadCellsFrom,Result.andThen]
   simp[Builtin.append_,eC ht,sizeOf,typeInfo,hi,Builtin.lenOf,Builtin.firstCells,hnc,storeCells,loadCells,loadCellsFrom,Result.andThen]
 unfold Oper.wp;simp[execOp,ho,resolve,invoke,builtin,hs,hx,ha,Result.andThen];exact hK _ _ h
theorem jWS (n:Nat)(l o:List (Nd n×Value×Value))(cv ov:Value)(a m:Nat)(w:World)(h:aB Z 0 w cv n l)(ho:aB Z 0 w ov n o)(h0:0<o.length)(hl:l.length<=1000)(Hc:o.length<=1000)(ha:a<=1000)(hm:m<=1000) :
  Calls Tryz.prog 210 #[cv,.int .i64 a,.int .i64 m,ov] w fun r w'=>∃v',r=.returned v'/\aB Z w.heap.size w' v' n (bm l a m o)/\Below w.heap.size w w':=by
 obtain⟨ao,h4,rfl⟩:=jQa h.own;obtain⟨bo,h5,rfl⟩:=jQa ho.own;have hn:=aB.one ho.each;have hy:=hd hn;have H:=hd h;have HO:=hd ho;clear h ho hn;go_enter Tryz.func210,Tryz.ntmps210;go_wp2
 go_loopw [9,10] (fun v i wr=>∃k:Nat,k<=l.length/\k<=a/\i=.int .i64 k/\wr.ownsRow w.heap.size 60 7 v (l.take k).length ((l.take k).flatMap (au n))/\Below w.heap.size w wr) (fun _ i _=>l.length-(intOf i).toNat)
 case atStart=>exact⟨0,zR,zR,rfl,cu _ _ _ _,bR⟩
 case round =>
  obtain⟨k,hk,Hb,rfl,hR,hb⟩:=hrel;obtain⟨wo,rfl⟩:∃wo:World,wo=wr:=⟨_,rfl⟩;have hO:=hb.size;have HB:=hd hb;have hI:=hd (fun h=>jSI l k h);have hN:(l.take k).length<=1000:=cm (dW _ _) (by omega);obtain⟨acc,hQ⟩:∃x,x=l.take k:=⟨_,rfl⟩;have he:Hid (∀h:k<l.length,l.take (k+1)=acc++[l[k]]):=by rw[hQ];exact hI
  rw[<-hQ] at hR hN;obtain⟨xo,h9,rfl⟩:=jQa hR;have hG:=hd hR;have hr:=hd hQ;clear hb hR hQ hI
  by_cases hV:k<l.length/\k<a
  ·obtain⟨hV,h1⟩:=hV;obtain⟨g,hW,ea,el,ec,ca,cl,cc,hv,hg,⟨d0,d1,d2,d3,d4,hY,hX⟩,d5,d6⟩:=(H.o.below HB.o).at k hV;obtain⟨rfl,-,rfl⟩:=sI hv;have hE:=he.o hV;obtain⟨x,hx⟩:∃x,x=l[k]:=⟨_,rfl⟩;rw[<-hx] at hE d0 d3 d4 hY hX d5 d6;obtain⟨t,h7,h6⟩:=x;simp only[Prod.mk.injEq] at d5;obtain⟨rfl,rfl⟩:=d5;have hA:=hd hE;have i2:decide ((k:Int)<(l.length:Int))=true:=by simpa using hV
   have i3:decide ((k:Int)<(a:Int))=true:=by simpa using h1
   have i4:¬((l.length:Int)<=(k:Int)):=by omega
   have HN:=hd d6;have hq:=hd (jQh hG.o ((bR).alloc nR (.cells (au n (t,.slice ea el ec,.slice ca cl cc)).toArray 60)));have hz:=hd (jGX wo 60 (au n (t,.slice ea el ec,.slice ca cl cc)).toArray (([(t,Value.slice ea el ec,Value.slice ca cl cc)]:List (Nd n×Value×Value)).flatMap (au n)) 1 7 rfl rfl);clear hE hx d6 he;go_wp2_with (at_builtin;refine jQV rfl (.tmp 23) (.tmp 28) rfl w.heap.size _ n acc rfl hq.o [(t,Value.slice ea el ec,Value.slice ca cl cc)] _ rfl hz.o (jKg HN.o) (Nat.zero_lt_succ _) (by show acc.length+1<=1000000;omega) (by first | (rw[jQr];omega) | omega | (simp;done)) ?_;intro v3 w3 hP hU;have hp:=hd hP;have ht:=hd hU;clear hP hU);go_roundw;exact⟨k+1,by omega,by omega,by go_num,by rw[hA.o];exact hp.o,HB.o.trans ((cS (B':=w.heap.size) (bA) hO).trans ht.o)⟩;simp[intOf];omega
  have HT:Hid (acc=l.take a):=by
   show _=_;rw[hr.o];rcases dL k l.length with h | h
   ·rw[show k=a by omega]
   rw[cL h,cL (by omega)]
  have hM:=hd (Reads.jEC (jQh HO.o.own HB.o))
  have hB:(decide ((k:Int)<(l.length:Int))&&decide ((k:Int)<(a:Int)))=false:=by
   rcases dL k l.length with h | h
   ·have:¬((k:Int)<(a:Int)):=by omega
    simp[this]
   have:¬((k:Int)<(l.length:Int)):=by omega
   simp[this]
  clear he;rcases dL k l.length with hkl | hkl
  all_goals
   first
    | (have i2:decide ((k:Int)<(l.length:Int))=true:=(by simpa using hkl);have i3:decide ((k:Int)<(a:Int))=false:=(by simp;omega))
    | (have i2:decide ((k:Int)<(l.length:Int))=false:=(by simp;omega))
   clear hB;go_wp2_with (at_builtin;refine jQV rfl (.tmp 30) (.tmp 31) rfl w.heap.size _ n acc rfl hG.o o _ rfl hM.o hy.o h0 (by omega) (by omega) ?_;intro v3 w3 hP hU;have hp:=hd hP;have ht:=hd hU;clear hP hU);have hH:Hid (bm l a m o=(acc++o)++l.drop (a+m)):=by show _=_;unfold bm;rw[HT.o]
   have hi:(acc++o).length<=2000:=by rw[cg];omega
   have hs:Hid (Below w.heap.size w w3):=HB.o.trans ht.o;obtain⟨h3,hT⟩:∃x,x=acc++o:=⟨_,rfl⟩;have hD:=hp.o;have hc:=hH.o;rw[<-hT] at hD hc hi;have hK:=hd hD;have hu:=hd hc;clear hD hc hH hp hT
   go_loopw [9,11] (fun v i wr=>∃j:Nat,∃ac:List (Nd n×Value×Value),j<=3000/\i=.int .i64 j/\wr.ownsRow w.heap.size 60 7 v ac.length (ac.flatMap (au n))/\ac.length<=2000+j/\Hid (bm l a m o=ac++l.drop j)/\Below w.heap.size w wr) (fun _ i _=>l.length-(intOf i).toNat)
   case atStart=>exact⟨a+m,h3,by omega,by go_num,hK.o,by omega,hu,hs.o⟩
   case round =>
    obtain⟨j,ac,hj,rfl,hR,h8,hc,hZ⟩:=hrel;obtain⟨yo,Ha,rfl⟩:=jQa hR;have hF:=hZ.size;have hh:=hd hZ;have hf:=hd hR;clear hZ hR
    by_cases hjt:j<l.length
    ·obtain⟨g,hW,ea,el,ec,ca,cl,cc,hv,hg,⟨d0,d1,d2,d3,d4,hY,hX⟩,d5,d6⟩:=(H.o.below hh.o).at j hjt;obtain⟨rfl,-,rfl⟩:=sI hv;have hC:=cr hjt;obtain⟨x,hx⟩:∃x,x=l[j]:=⟨_,rfl⟩;rw[<-hx] at hC d0 d3 d4 hY hX d5 d6;obtain⟨t,h7,h6⟩:=x;simp only[Prod.mk.injEq] at d5;obtain⟨rfl,rfl⟩:=d5;have hw:Hid (bm l a m o=(ac++[(t,Value.slice ea el ec,Value.slice ca cl cc)])++l.drop (j+1)):=by show _=_;rw[hc.o,hC,dm];rfl
     have i4:¬((l.length:Int)<=(j:Int)):=by omega
     have HN:=hd d6;have hq:=hd (jQh hf.o ((bR).alloc nR (.cells (au n (t,.slice ea el ec,.slice ca cl cc)).toArray 60)));have hz:=hd (jGX wr 60 (au n (t,.slice ea el ec,.slice ca cl cc)).toArray (([(t,Value.slice ea el ec,Value.slice ca cl cc)]:List (Nd n×Value×Value)).flatMap (au n)) 1 7 rfl rfl);clear hC hx d6 hc;go_wp2_with (at_builtin;refine jQV rfl (.tmp 42) (.tmp 47) rfl w.heap.size _ n ac rfl hq.o [(t,Value.slice ea el ec,Value.slice ca cl cc)] _ rfl hz.o (jKg HN.o) (Nat.zero_lt_succ _) (by show ac.length+1<=1000000;omega) (by first | (rw[jQr];omega) | omega | (simp;done)) ?_;intro v5 w5 hS h2;have hL:=hd hS;have hJ:=hd h2;clear hS h2);go_roundw;exact⟨j+1,ac++[(t,Value.slice ea el ec,Value.slice ca cl cc)],by omega,by go_num,hL.o,by rw[cg];show ac.length+1<=_;omega,hw,hh.o.trans ((cS (B':=w.heap.size) (bA) hF).trans hJ.o)⟩;simp[intOf];omega
    have HE:Hid (bm l a m o=ac):=by show _=_;rw[hc.o,cD (by omega)];simp
    clear hc;go_wp2;go_ret;refine⟨_,rfl,⟨by rw[HE.o];exact hf.o,fun x hx=>?_⟩,hh.o⟩;rcases jOe hx with h | h
    ·exact(H.o.each x h).below hh.o
    exact(HO.o.each x h).below hh.o
theorem jWd (n:Nat)(l:List (Nd n×Value×Value))(cv:Value)(bo:Option Addr)(hN:Nat)(a m:Nat)(w:World)(h:aB Z 0 w cv n l)(hl:l.length<=1000)(ha:a<=1000)(hm:m<=1000) :
  Calls Tryz.prog 210 #[cv,.int .i64 a,.int .i64 m,.slice bo 0 hN] w fun r w'=>∃v',r=.returned v'/\aB Z w.heap.size w' v' n (bm l a m [])/\Below w.heap.size w w':=by
 obtain⟨ao,hW,rfl⟩:=jQa h.own;obtain⟨i0,hi,h3,h4,h5⟩:=cV Tryz.jFC;have H:=hd h;clear h;go_enter Tryz.func210,Tryz.ntmps210;go_wp2
 go_loopw [9,10] (fun v i wr=>∃k:Nat,k<=l.length/\k<=a/\i=.int .i64 k/\wr.ownsRow w.heap.size 60 7 v (l.take k).length ((l.take k).flatMap (au n))/\Below w.heap.size w wr) (fun _ i _=>l.length-(intOf i).toNat)
 case atStart=>exact⟨0,zR,zR,rfl,cu _ _ _ _,bR⟩
 case round =>
  obtain⟨k,hk,h2,rfl,hK,hb⟩:=hrel;obtain⟨wo,rfl⟩:∃wo:World,wo=wr:=⟨_,rfl⟩;have hI:=hb.size;have HB:=hd hb;have hA:=hd (fun h=>jSI l k h);have hH:(l.take k).length<=1000:=cm (dW _ _) (by omega);obtain⟨acc,hJ⟩:∃x,x=l.take k:=⟨_,rfl⟩;have hc:Hid (∀h:k<l.length,l.take (k+1)=acc++[l[k]]):=by rw[hJ];exact hA
  rw[<-hJ] at hK hH;obtain⟨xo,h0,rfl⟩:=jQa hK;have hn:=hd hK;have ho:=hd hJ;clear hb hK hJ hA
  by_cases hO:k<l.length/\k<a
  ·obtain⟨hO,hT⟩:=hO;obtain⟨g,hP,ea,el,ec,ca,cl,cc,hv,hg,⟨d0,d1,d2,d3,d4,hR,hQ⟩,d5,d6⟩:=(H.o.below HB.o).at k hO;obtain⟨rfl,-,rfl⟩:=sI hv;have hy:=hc.o hO;obtain⟨x,hx⟩:∃x,x=l[k]:=⟨_,rfl⟩;rw[<-hx] at hy d0 d3 d4 hR hQ d5 d6;obtain⟨t,hY,hX⟩:=x;simp only[Prod.mk.injEq] at d5;obtain⟨rfl,rfl⟩:=d5;have ht:=hd hy;have i2:decide ((k:Int)<(l.length:Int))=true:=by simpa using hO
   have i3:decide ((k:Int)<(a:Int))=true:=by simpa using hT
   have i4:¬((l.length:Int)<=(k:Int)):=by omega
   have HN:=hd d6;have hh:=hd (jQh hn.o ((bR).alloc nR (.cells (au n (t,.slice ea el ec,.slice ca cl cc)).toArray 60)));have hs:=hd (jGX wo 60 (au n (t,.slice ea el ec,.slice ca cl cc)).toArray (([(t,Value.slice ea el ec,Value.slice ca cl cc)]:List (Nd n×Value×Value)).flatMap (au n)) 1 7 rfl rfl);clear hy hx d6 hc;go_wp2_with (at_builtin;refine jQV rfl (.tmp 23) (.tmp 28) rfl w.heap.size _ n acc rfl hh.o [(t,Value.slice ea el ec,Value.slice ca cl cc)] _ rfl hs.o (jKg HN.o) (Nat.zero_lt_succ _) (by show acc.length+1<=1000000;omega) (by first | (rw[jQr];omega) | omega | (simp;done)) ?_;intro v3 w3 hL hU;have hE:=hd hL;have hC:=hd hU;clear hL hU);go_roundw;exact⟨k+1,by omega,by omega,by go_num,by rw[ht.o];exact hE.o,HB.o.trans ((cS (B':=w.heap.size) (bA) hI).trans hC.o)⟩;simp[intOf];omega
  have HT:Hid (acc=l.take a):=by
   show _=_;rw[ho.o];rcases dL k l.length with h | h
   ·rw[show k=a by omega]
   rw[cL h,cL (by omega)]
  have hu:(decide ((k:Int)<(l.length:Int))&&decide ((k:Int)<(a:Int)))=false:=by
   rcases dL k l.length with h | h
   ·have:¬((k:Int)<(a:Int)):=by omega
    simp[this]
   have:¬((k:Int)<(l.length:Int)):=by omega
   simp[this]
  clear hc;rcases dL k l.length with hkl | hkl
  all_goals
   first
    | (have i2:decide ((k:Int)<(l.length:Int))=true:=(by simpa using hkl);have i3:decide ((k:Int)<(a:Int))=false:=(by simp;omega))
    | (have i2:decide ((k:Int)<(l.length:Int))=false:=(by simp;omega))
   clear hu;go_wp2_with (at_builtin;refine jOV rfl (.tmp 30) (.tmp 31) 58 rfl w.heap.size 60 i0 7 Tryz.underlying58 hi _ acc.length _ rfl hn.o bo hN rfl ?_);have hq:Hid (bm l a m []=acc++l.drop (a+m)):=by show _=_;unfold bm;rw[HT.o,cW]
   have hp:Hid (Below w.heap.size w wo):=HB;have hF:=hn;have hB:acc.length<=2000:=by omega
   go_loopw [9,11] (fun v i wr=>∃j:Nat,∃ac:List (Nd n×Value×Value),j<=3000/\i=.int .i64 j/\wr.ownsRow w.heap.size 60 7 v ac.length (ac.flatMap (au n))/\ac.length<=2000+j/\Hid (bm l a m []=ac++l.drop j)/\Below w.heap.size w wr) (fun _ i _=>l.length-(intOf i).toNat)
   case atStart=>exact⟨a+m,acc,by omega,by go_num,hF.o,by omega,hq,hp.o⟩
   case round =>
    obtain⟨j,ac,hj,rfl,hK,hZ,hex,hS⟩:=hrel;obtain⟨yo,h1,rfl⟩:=jQa hK;have hz:=hS.size;have hf:=hd hS;have he:=hd hK;clear hS hK
    by_cases hjt:j<l.length
    ·obtain⟨g,hP,ea,el,ec,ca,cl,cc,hv,hg,⟨d0,d1,d2,d3,d4,hR,hQ⟩,d5,d6⟩:=(H.o.below hf.o).at j hjt;obtain⟨rfl,-,rfl⟩:=sI hv;have hw:=cr hjt;obtain⟨x,hx⟩:∃x,x=l[j]:=⟨_,rfl⟩;rw[<-hx] at hw d0 d3 d4 hR hQ d5 d6;obtain⟨t,hY,hX⟩:=x;simp only[Prod.mk.injEq] at d5;obtain⟨rfl,rfl⟩:=d5;have hr:Hid (bm l a m []=(ac++[(t,Value.slice ea el ec,Value.slice ca cl cc)])++l.drop (j+1)):=by show _=_;rw[hex.o,hw,dm];rfl
     have i4:¬((l.length:Int)<=(j:Int)):=by omega
     have HN:=hd d6;have hh:=hd (jQh he.o ((bR).alloc nR (.cells (au n (t,.slice ea el ec,.slice ca cl cc)).toArray 60)));have hs:=hd (jGX wr 60 (au n (t,.slice ea el ec,.slice ca cl cc)).toArray (([(t,Value.slice ea el ec,Value.slice ca cl cc)]:List (Nd n×Value×Value)).flatMap (au n)) 1 7 rfl rfl);clear hw hx d6 hex;go_wp2_with (at_builtin;refine jQV rfl (.tmp 42) (.tmp 47) rfl w.heap.size _ n ac rfl hh.o [(t,Value.slice ea el ec,Value.slice ca cl cc)] _ rfl hs.o (jKg HN.o) (Nat.zero_lt_succ _) (by show ac.length+1<=1000000;omega) (by first | (rw[jQr];omega) | omega | (simp;done)) ?_;intro v5 w5 hM hV;have hG:=hd hM;have hD:=hd hV;clear hM hV);go_roundw;exact⟨j+1,ac++[(t,Value.slice ea el ec,Value.slice ca cl cc)],by omega,by go_num,hG.o,by rw[cg];show ac.length+1<=_;omega,hr,hf.o.trans ((cS (B':=w.heap.size) (bA) hz).trans hD.o)⟩;simp[intOf];omega
    have HE:Hid (bm l a m []=ac):=by show _=_;rw[hex.o,cD (by omega)];simp
    clear hex;go_wp2;go_ret;refine⟨_,rfl,⟨by rw[HE.o];exact he.o,fun x hx=>?_⟩,hf.o⟩;rcases jOe hx with h | h
    ·exact(H.o.each x h).below hf.o
    cases h
theorem jJP (n:Nat)(l o:List (Nd n×Value×Value))(cv ov:Value)(a m:Nat)(w:World)(h:aB Z 0 w cv n l)(ho:aB Z 0 w ov n o)(hl:l.length<=1000)(hf:o.length<=1000)(ha:a<=1000)(hm:m<=1000) :
  Calls Tryz.prog 210 #[cv,.int .i64 a,.int .i64 m,ov] w fun r w'=>∃v',r=.returned v'/\aB Z w.heap.size w' v' n (bm l a m o)/\Below w.heap.size w w':=by
 rcases dP o.length with h0 | h0
 ·have hb:o=[]:=by simpa using h0
  subst hb;obtain⟨bo,hc,rfl⟩:=jQa ho.own;exact jWd n l cv bo hc a m w h hl ha hm
 exact jWS n l o cv ov a m w h ho h0 hl hf ha hm
theorem jIb (w:World)(e:TypeId)(cs:Array Value)(l:List Value)(n size B:Nat)(hl:cs.toList=l)(h:l.length=n*size)(hn:n<=1000)(hB:B<=w.heap.size):(w.alloc (.cells cs e)).ownsRow B e size (.slice (some ⟨w.heap.size,0,none⟩) n n) n l:=by
 subst hl;refine⟨h,Or.inr ⟨w.heap.size,n,cs,rfl,hB,jQi w _,nR,by unfold maxLen;omega,by simpa using h,?_⟩⟩;exact cL (by rw[h];exact nR)
def part {α:Type}(off:Nat)(l:List α):List α:=if off=0 then l.take 3 else l.drop 3
theorem Reads.part {f:α->List Value}{size:Nat}(hs:0<size)(hf:∀x,(f x).length=size){cap:Nat}{l:List α}(h:Reads w (.slice (some ⟨g,0,none⟩) l.length cap) l.length size (l.flatMap f))(h3:3<=l.length)(off len c:Nat)(hp:(off=0/\len=3)\/(off=3*size/\len=l.length-3)) :
  Reads w (.slice (some ⟨g,off,none⟩) len c) (part off l).length size ((part off l).flatMap f)/\(part off l).length=len:=by
 have hb:∀m:List α,(m.flatMap f).length=m.length*size:=by
  intro m
  induction m with
  | nil=>simp
  | cons x r ih=>rw[cK,cg,ih,hf,cG,Nat.succ_mul];omega
 rcases h.2 with⟨h1,_⟩ | ⟨g',off',cap',hv,hg,hc⟩
 ·simp at h1
 simp only[Value.slice.injEq,Option.some.injEq,Addr.mk.injEq] at hv;obtain⟨⟨rfl,rfl,-⟩,-,rfl⟩:=hv;have ha:l.flatMap f=(l.take 3).flatMap f++(l.drop 3).flatMap f:=by rw[<-cN,ee]
 have ht:(l.take 3).length=3:=by simp;omega
 rcases hp with⟨rfl,rfl⟩ | ⟨rfl,rfl⟩
 ·have e:Go.Proofs.YtahpihjialbanaaGreatDoor.part 0 l=l.take 3:=rfl;rw[e];refine⟨⟨hb _,Or.inr ⟨g,0,c,by rw[ht],hg,fun j u hj=>?_⟩⟩,ht⟩;refine hc j u ?_;rw[ha,List.getElem?_append_left (by rcases dL j ((l.take 3).flatMap f).length with h | h;exact h;rw[dt h] at hj;cases hj)];exact hj
 have e:Go.Proofs.YtahpihjialbanaaGreatDoor.part (3*size) l=l.drop 3:=by unfold Go.Proofs.YtahpihjialbanaaGreatDoor.part;rw[cy (by omega)]
 rw[e];refine⟨⟨hb _,Or.inr ⟨g,3*size,c,by simp,hg,fun j u hj=>?_⟩⟩,by simp⟩
 have h5:=hc (3*size+j) u (by
  rw[ha,ew (by rw[hb,ht];omega),hb,ht,Nat.add_sub_cancel_left];exact hj)
 rwa [df] at h5
theorem jU3 {size:Nat}{ao:Option Addr}{cap:Nat}(h:w.ownsRow B e size (.slice ao n cap) n cs)(hn:0<n):∃g,ao=some ⟨g,0,none⟩/\g<w.heap.size/\n<=cap:=by
 rcases h.2 with⟨h1,h2⟩ | ⟨g',cap',cur,hv,hbg,hh,hn',hm,hc,ht⟩
 ·omega
 obtain⟨rfl,-,rfl⟩:=sI hv;exact⟨g',rfl,jQe hh,hn'⟩
theorem jTk (es:List Ent)(g cap:Nat)(off len c:Nat)(w:World)(h:Reads w (.slice (some ⟨g,0,none⟩) es.length cap) es.length 2 (es.flatMap jAw))(h3:3<=es.length)(hl:es.length<=1000)(hp:(off=0/\len=3)\/(off=6/\len=es.length-3)) :
  Calls Tryz.prog 132 #[.slice (some ⟨g,off,none⟩) len c] w fun e w'=>∃ev,e=.returned (.agg (ae (bB (α:=Empty) (part off es)).hd ev (.slice none 0 0)).toArray)/\aM w.heap.size w' ev (part off es)/\Below w.heap.size w w':=by
 obtain⟨hr,_⟩:=Reads.part (f:=jAw) (by decide) (fun _=>rfl) h h3 off len c hp
 exact jL1 _ _ w hr (by
  have:(part off es).length<=es.length:=by unfold part;split<;>simp<;>omega
  omega)
theorem jM5 (es:List Ent)(v:Value)(w:World)(h:aM 0 w v es)(hl:es.length<=1000) :
  Calls Tryz.prog 207 #[v] w fun r w'=>∃v' l,r=.returned v'/\l.map Prod.fst=jAT es/\aB Z w.heap.size w' v' 0 l/\Below w.heap.size w w':=by
 obtain⟨ao,hq,rfl⟩:=jQa h
 by_cases h4:es.length<=4
 ·have HE:Hid (jAT (α:=Empty) es=[bB es]):=by show _=_;unfold jAT bF;rw[cE h4];rfl
  have H:=hd (Reads.jEC h);clear h;go_enter Tryz.func207,Tryz.ntmps207;go_wp2_with fail;refine(jL1 es _ _ H.o hl).mono ?_;rintro e w1 ⟨ev,rfl,he,hb⟩;obtain⟨xo,xc,rfl⟩:=jQa he;have hn:=hd he;have HB:=hd hb;have hz:=hb.size;clear he hb;rw[jQc];go_wp2;go_ret;refine⟨_,[(bB es,.slice xo es.length xc,.slice none 0 0)],rfl,by rw[HE.o];rfl,⟨jIb w1 60 _ _ 1 7 w.heap.size rfl rfl (by decide) hz,fun x hx=>?_⟩,HB.o.alloc hz _⟩;rw[List.mem_singleton.1 hx];exact⟨jQj (jQh hn.o (bA)) zR,rfl⟩
 have HE:Hid (jAT (α:=Empty) es=[bB (part 0 es),bB (part 6 es)]):=by show _=_;unfold jAT bF;rw[cy h4];rfl
 obtain⟨g,hy,hg,hA⟩:=jU3 h (by omega);subst hy;have hk:∀w',Below w.heap.size w w'->Reads w' (.slice (some ⟨g,0,none⟩) es.length hq) es.length 2 (es.flatMap jAw):=fun w' hb=>(Reads.jEC h).below hb
 have hi:=hd hk;have i1:¬((es.length:Int)<=4):=by omega
 have i2:¬((es.length:Int)<3):=by omega
 clear h hk;go_enter Tryz.func207,Tryz.ntmps207;go_wp2
 go_region_with (go_at_call 132;(first | (have hx:=ha;clear hx;refine(jTk es g hq _ _ _ _ (hi.o _ ((cB bR).trans (ha.o.mono (by simp)))) (by omega) hl (by first | exact Or.inl ⟨rfl,rfl⟩ | exact Or.inr ⟨rfl,rfl⟩)).mono ?_;rintro e w2 ⟨hC,rfl,hv,hs⟩;obtain⟨yo,yc,rfl⟩:=jQa hv;have hf:=hd hv;have hh:=hd hs;have hp:=hs.size;clear hv hs;rw[jQc]) | (refine(jTk es g hq _ _ _ _ (hi.o _ (cB bR)) (by omega) hl (by first | exact Or.inl ⟨rfl,rfl⟩ | exact Or.inr ⟨rfl,rfl⟩)).mono ?_;rintro e w1 ⟨hB,rfl,ht,hr⟩;obtain⟨xo,xc,rfl⟩:=jQa ht;have hc:=hd ht;have ha:=hd hr;have ho:=hr.size;clear ht hr;rw[jQc])))
 go_wp2;go_ret;have hj:Below w.heap.size w w2:=(cB bR).trans ((ha.o.trans (hh.o.mono ho)).mono (by simp));have hm:w.heap.size<=w2.heap.size:=hj.size;refine⟨_,[(bB (part 0 es),.slice xo (part 0 es).length xc,.slice none 0 0),(bB (part 6 es),.slice yo (part 6 es).length yc,.slice none 0 0)],rfl,by rw[HE.o];rfl,⟨jIb w2 60 _ _ 2 7 w.heap.size rfl rfl (by decide) hm,fun x hx=>?_⟩,hj.alloc hm _⟩;simp only[dI,ep,or_false] at hx;rcases hx with rfl | rfl
 ·exact⟨jQj (jQh (jQh hc.o hh.o) (bA)) zR,rfl⟩
 exact⟨jQj (jQh hf.o (bA)) zR,rfl⟩
theorem jTN {off:Nat}{l:List α}{x:α}(h:x∈part off l):x∈l:=by
 unfold part at h
 split at h
 ·exact eg h
 exact dR h
theorem jTO (f:α->β)(off:Nat)(l:List α):(part off l).map f=part off (l.map f):=by
 unfold part;split<;>simp
theorem jR8 (n:Nat)(l:List (Nd n×Value×Value))(g cap:Nat)(off len c:Nat)(w:World)(h:jEt Z w (.slice (some ⟨g,0,none⟩) l.length cap) n l)(h3:3<=l.length)(hl:l.length<=1000)(hr:jBH n l)(hp:(off=0/\len=3)\/(off=21/\len=l.length-3)) :
  Calls Tryz.prog 133 #[.slice (some ⟨g,off,none⟩) len c] w fun e w'=>∃cv,e=.returned (.agg (ae (aV (aa n) ((part off l).map Prod.fst)).hd (.slice none 0 0) cv).toArray)/\aB Z w.heap.size w' cv n (part off l)/\Below w.heap.size w w':=by
 obtain⟨ha,_⟩:=Reads.part (f:=au n) (by decide) (fun _=>rfl) h.rd h3 off len c hp
 exact jJa n _ _ w ⟨ha,fun x hx=>h.each x (jTN hx)⟩ (by
  have:(part off l).length<=l.length:=by unfold part;split<;>simp<;>omega
  omega) (fun x hx=>hr x (jTN hx))
theorem jR7 (n:Nat)(l:List (Nd n×Value×Value))(v:Value)(w:World)(h:aB Z 0 w v n l)(hl:l.length<=1000)(hr:jBH n l)(hZ:∀g,w.heap.size<=g->¬Z g) :
  Calls Tryz.prog 209 #[v] w fun r w'=>∃v' k,r=.returned v'/\k.map Prod.fst=jAK (aa n) (l.map Prod.fst)/\aB Z w.heap.size w' v' (n+1) k/\Below w.heap.size w w':=by
 obtain⟨ao,hq,rfl⟩:=jQa h.own
 by_cases h4:l.length<=4
 ·have HE:Hid (jAK (aa n) (l.map Prod.fst)=[aV (aa n) (l.map Prod.fst)]):=by show _=_;unfold jAK bF;rw[cE (by simpa using h4)];rfl
  have H:=hd h.rd;clear h;go_enter Tryz.func209,Tryz.ntmps209;go_wp2_with fail;refine(jJa n l _ _ H.o hl hr).mono ?_;rintro e w1 ⟨ev,rfl,he,hb⟩;obtain⟨xo,xc,rfl⟩:=jQa he.own;have hi:=hd he;have HB:=hd hb;have hz:=hb.size;clear he hb;rw[jQc];go_wp2;go_ret;refine⟨_,[(aV (aa n) (l.map Prod.fst),.slice none 0 0,.slice xo l.length xc)],rfl,by rw[HE.o];rfl,⟨jIb w1 60 _ _ 1 7 w.heap.size rfl rfl (by decide) hz,fun x hx=>?_⟩,HB.o.alloc hz _⟩;rw[List.mem_singleton.1 hx];exact ag.mk (aM.nil _) rfl ((hi.o.below (bA)).base zR) (jIO hi.o hZ)
 have HE:Hid (jAK (aa n) (l.map Prod.fst)=[aV (aa n) ((part 0 l).map Prod.fst),aV (aa n) ((part 21 l).map Prod.fst)]):=by show _=_;rw[jTO,jTO];unfold jAK bF;rw[cy (by simpa using h4)];rfl
 obtain⟨g,hA,hg,hB⟩:=jU3 h.own (by omega);subst hA;have hm:∀w',Below w.heap.size w w'->jEt Z w' (.slice (some ⟨g,0,none⟩) l.length hq) n l:=fun w' hb=>h.rd.below hb
 have hj:=hd hm;have HR:=hd hr;have i1:¬((l.length:Int)<=4):=by omega
 have i2:¬((l.length:Int)<3):=by omega
 clear h hm hr;go_enter Tryz.func209,Tryz.ntmps209;go_wp2
 go_region_with (go_at_call 133;(first | (have hx:=hf;clear hx;refine(jR8 n l g hq _ _ _ _ (hj.o _ ((cB bR).trans (hf.o.mono (by simp)))) (by omega) hl HR.o (by first | exact Or.inl ⟨rfl,rfl⟩ | exact Or.inr ⟨rfl,rfl⟩)).mono ?_;rintro e w2 ⟨hD,rfl,hy,ht⟩;obtain⟨yo,yc,rfl⟩:=jQa hy.own;have hc:=hd hy;have hh:=hd ht;have hp:=ht.size;clear hy ht;rw[jQc]) | (refine(jR8 n l g hq _ _ _ _ (hj.o _ (cB bR)) (by omega) hl HR.o (by first | exact Or.inl ⟨rfl,rfl⟩ | exact Or.inr ⟨rfl,rfl⟩)).mono ?_;rintro e w1 ⟨hC,rfl,hv,hs⟩;obtain⟨xo,xc,rfl⟩:=jQa hv.own;have ha:=hd hv;have hf:=hd hs;have hn:=hs.size;clear hv hs;rw[jQc])))
 go_wp2;go_ret;have hk:Below w.heap.size w w2:=(cB bR).trans ((hf.o.trans (hh.o.mono hn)).mono (by simp));have ho:w.heap.size<=w2.heap.size:=hk.size;refine⟨_,[(aV (aa n) ((part 0 l).map Prod.fst),.slice none 0 0,.slice xo (part 0 l).length xc),(aV (aa n) ((part 21 l).map Prod.fst),.slice none 0 0,.slice yo (part 21 l).length yc)],rfl,by rw[HE.o];rfl,⟨jIb w2 60 _ _ 2 7 w.heap.size rfl rfl (by decide) ho,fun x hx=>?_⟩,hk.alloc ho _⟩;simp only[dI,ep,or_false] at hx;rcases hx with rfl | rfl
 ·exact ag.mk (aM.nil _) rfl (((ha.o.below hh.o).below (bA)).base zR) (jIO ha.o hZ)
 exact ag.mk (aM.nil _) rfl ((hc.o.below (bA)).base zR) (jIO hc.o (fun g hg=>hZ g (cm hn hg)))
end
section
open Go.RowKit
def jA0 (w:World)(v:Value)(row:List Val):Prop:=w.ownsRow 0 208 3 v row.length (row.flatMap Val.cells)/\row.length<=100000
theorem jA0.below {l:List Val}(h:jA0 w v l)(hb:Below w.heap.size w w'):jA0 w' v l:=⟨jQh h.1 hb,h.2⟩
theorem jI2 (row:List Val)(rv:Value)(k:Int)(w:World)(hr:jA0 w rv row) :
  Calls Tryz.prog 165 #[.agg #[rv],.int .i64 k] w fun e w'=>e=.returned (.agg (jBV row k).cells.toArray)/\Below w.heap.size w w':=by
 obtain⟨ao,cap,rfl⟩:=jQa hr.1;have ha:=hr.2;have HR:=hd hr;have hW:∀o o2,Below w.heap.size w ((w.alloc o).alloc o2):=fun o o2=>(bA).alloc (by simp) _
 have HW:=hd hW;clear hr hW
 by_cases hk0:k<0
 ·have HE:Hid (jBV row k=jDY):=by show _=_;unfold jBV;rw[cE hk0]
  go_enter Tryz.func165,Tryz.ntmps165;go_wp2;exact cp (v:=.agg #[.int .i64 0,.int .i64 0,.string ⟨#[]⟩]) (by simp[results,Tryz.results165,go_sem]) rfl ⟨by rw[HE.o];rfl,HW.o _ _⟩
 obtain⟨k,rfl⟩:∃n:Nat,k=n:=⟨k.toNat,by omega⟩;have i0:¬((k:Int)<0):=by omega
 by_cases hkr:k<row.length
 ·have HE:Hid (jBV row k=row[k]):=by show _=_;unfold jBV;rw[cy (by omega),cC,cz hkr];rfl
  obtain⟨g,hb,hv,hg,hc⟩:=jCc (f:=Val.cells) (fun _=>rfl) HR.o.1 k hkr;obtain⟨rfl,-,rfl⟩:=sI hv;have c0:=hc 0 (.int .i64 row[k].kind) (by decide) rfl;have c1:=hc 1 (.int .i64 row[k].number) (by decide) rfl;have c2:=hc 2 (.string row[k].text) (by decide) rfl;simp only[dB] at c0;have i1:¬((row.length:Int)<=(k:Int)):=by omega
  clear hc;go_enter Tryz.func165,Tryz.ntmps165;go_wp2;exact cp (v:=.agg #[.int .i64 row[k].kind,.int .i64 row[k].number,.string row[k].text]) (by simp[results,Tryz.results165,go_sem]) rfl ⟨by rw[HE.o];rfl,HW.o _ _⟩
 have HE:Hid (jBV row k=jDY):=by show _=_;unfold jBV;rw[cy (by omega),cC,dt (by omega)];rfl
 have i1:(row.length:Int)<=(k:Int):=by omega
 go_enter Tryz.func165,Tryz.ntmps165;go_wp2;exact cp (v:=.agg #[.int .i64 0,.int .i64 0,.string ⟨#[]⟩]) (by simp[results,Tryz.results165,go_sem]) rfl ⟨by rw[HE.o];rfl,HW.o _ _⟩
theorem jKK (cols:List Col)(row:List Val)(cv rv:Value)(t:Sq.Term)(w:World)(h:aX w cv cols)(hr:jA0 w rv row) :
  Calls Tryz.prog 205 #[cv,.agg #[rv],.agg t.cells.toArray] w fun e w'=>e=.returned (.agg (Sq.valueOf cols row t).cells.toArray)/\Below w.heap.size w w':=by
 obtain⟨ao,cap,rfl⟩:=jQa hr.1;obtain⟨tc,⟨tk,tn,tt⟩⟩:=t;unfold Sq.Term.cells;have H:=hd h;have HR:=hd hr;have hW:∀o o2 o3,Below w.heap.size w (((w.alloc o).alloc o2).alloc o3):=fun o o2 o3=>((bA).alloc (by simp) _).alloc (by simp;omega) _
 have HW:=hd hW;clear h hr hW;cases he:tc.toList.isEmpty
 case true =>
  have HE:Hid (Sq.valueOf cols row ⟨tc,⟨tk,tn,tt⟩⟩=⟨tk,tn,tt⟩):=by show _=_;unfold Sq.valueOf;simp only;rw[he];rfl
  go_enter Tryz.func205,Tryz.ntmps205;go_wp2;exact cp (v:=.agg #[.int .i64 tk,.int .i64 tn,.string tt]) (by simp[results,Tryz.results205,go_sem]) rfl ⟨by rw[HE.o];rfl,HW.o _ _ _⟩
 case false =>
  have HE:Hid (Sq.valueOf cols row ⟨tc,⟨tk,tn,tt⟩⟩=Sq.cellOf cols row tc):=by show _=_;unfold Sq.valueOf;simp only;rw[he];rfl
  obtain⟨x,hx⟩:∃x,x=Sq.cellOf cols row tc:=⟨_,rfl⟩;have HX:=hd hx;clear hx;have hl:=H.o.2;have hj:Sq.cellOf cols row tc=jBV row (Sq.find cols tc):=rfl;have hn:=hd hj;clear hj;go_enter Tryz.func205,Tryz.ntmps205;go_wp2;obtain⟨W,hs⟩:∃W:World,W=((w.alloc (.cells #[.slice ao row.length cap] 138)).alloc (.cells #[.string tc,.int .i64 tk,.int .i64 tn,.string tt] 211)).alloc (.cells #[.int .i64 0,.int .i64 0,.string ⟨#[]⟩] 208):=⟨_,rfl⟩;rw[<-hs];have hi:Below w.heap.size w W:=by rw[hs];exact HW.o _ _ _
  have hm:((w.alloc (.cells #[.slice ao row.length cap] 138)).alloc (.cells #[.string tc,.int .i64 tk,.int .i64 tn,.string tt] 211)).heap.size=w.heap.size+2:=by simp
  have hk:(w.alloc (.cells #[.slice ao row.length cap] 138)).heap.size=w.heap.size+1:=by simp
  have hf:W.heap[w.heap.size+1+1]?=some (.cells #[.int .i64 0,.int .i64 0,.string ⟨#[]⟩] 208):=by
   rw[hs,show w.heap.size+1+1=w.heap.size+2 from rfl,<-hm];exact jQi _ _
  have ha:W.heap[w.heap.size+1]?=some (.cells #[.string tc,.int .i64 tk,.int .i64 tn,.string tt] 211):=by
   rw[hs,<-hk];exact((bA).block _ (by simp)).trans (jQi _ _)
  have hb:W.heap[w.heap.size]?=some (.cells #[.slice ao row.length cap] 138):=by
   rw[hs];exact(((Below.refl (w.alloc (.cells #[.slice ao row.length cap] 138)).heap.size (w.alloc (.cells #[.slice ao row.length cap] 138))).alloc nR _).alloc (by simp) _ |>.block _ (by simp)).trans (jQi _ _)
  have p0:W.cell? ⟨w.heap.size,0,none⟩=some (.slice ao row.length cap):=by rw[jQb hb];rfl
  have p1:W.cell? ⟨w.heap.size+1,0,none⟩=some (.string tc):=by rw[jQb ha];rfl
  have hp:=jQe hb;have hq:=jQe ha;have hg:=hd hi;have hc:=hd hf;clear hs hi hm hk hf hb ha
  go_region_with (first
   | (go_at_call 148;refine(jFS cols _ tc _ (H.o.below (hg.o.drew)).1 hl).mono ?_;rintro e w' ⟨rfl,rfl⟩)
   | (go_at_call 165;refine(jI2 row _ _ _ (HR.o.below (hg.o.drew))).mono ?_;rintro e w1 ⟨rfl,ht⟩;rw[<-hn.o,<-HX.o];have hh:Below W.heap.size W w1:=(cB bR).trans ht;have ha:=(hh.block (w.heap.size+1+1) (jQe hc.o)).trans hc.o;have a0:w1.cell? ⟨w.heap.size+1+1,0,none⟩=some (.int .i64 0):=(by rw[jQb ha];rfl);have a1:w1.cell? ⟨w.heap.size+1+1,1,none⟩=some (.int .i64 0):=(by rw[jQb ha];rfl);have a2:w1.cell? ⟨w.heap.size+1+1,2,none⟩=some (.string ⟨#[]⟩):=(by rw[jQb ha];rfl);have b0:=jQd ha 0;have b1:=jQd ha 1;have b2:=jQd ha 2;have hz:=jQe ha;have ho:=hg.t hh;clear ht hh ha;obtain⟨xk,xn,xt⟩:=x;unfold Val.cells))
  all_goals(try go_wp2)
  all_goals
   refine cp (v:=.agg #[.int .i64 xk,.int .i64 xn,.string xt]) (by simp[results,Tryz.results205,go_sem, *]) rfl ⟨by rw[HE.o,<-HX.o];rfl,?_⟩;exact cj (B:=w.heap.size) (cj (B:=w.heap.size) (cj (B:=w.heap.size) ho.o (by simp;omega) _) (by simp;omega) _) (by simp;omega) _
theorem jW8 (cols:List Col)(row:List Val)(cv rv:Value)(s:bd)(w:World)(h:aX w cv cols)(hr:jA0 w rv row) :
  Calls Tryz.prog 159 #[cv,.agg #[rv],.agg s.cells.toArray] w fun e w'=>e=.returned (.bool (jCO cols row s))/\Below w.heap.size w w':=by
 obtain⟨ao,cap,rfl⟩:=jQa hr.1;have HE:Hid (jCO cols row s=Sq.holds s.op (Sq.compare (Sq.valueOf cols row s.left) (Sq.valueOf cols row s.right))):=rfl;obtain⟨op,⟨lc,⟨lk,ln,lt⟩⟩,⟨rc,⟨rk,rn,rt⟩⟩⟩:=s;obtain⟨x,hx⟩:∃x,x=Sq.valueOf cols row ⟨lc,⟨lk,ln,lt⟩⟩:=⟨_,rfl⟩;obtain⟨y,hy⟩:∃x,x=Sq.valueOf cols row ⟨rc,⟨rk,rn,rt⟩⟩:=⟨_,rfl⟩;have hE:=HE.o;simp only[<-hx,<-hy] at hE;have hf:=hd hE;have HX:=hd hx;have HY:=hd hy;clear hE HE hx hy;unfold bd.cells;have H:=hd h;have HR:=hd hr;have hW:∀o o2,Below w.heap.size w ((w.alloc o).alloc o2):=fun o o2=>(bA).alloc (by simp) _
 have HW:=hd hW;clear h hr hW;go_enter Tryz.func159,Tryz.ntmps159;go_wp2_with fail;refine(jKK cols row cv _ ⟨lc,⟨lk,ln,lt⟩⟩ _ (H.o.below (HW.o _ _)) (HR.o.below (HW.o _ _))).mono ?_;rintro e w1 ⟨rfl,hn⟩;rw[<-HX.o];have hi:Below w.heap.size w w1:=(HW.o _ _).trans (hn.mono (by simp;omega));obtain⟨k1,k2⟩:=aD hn;have a0:=k1 w.heap.size 0 (by simp;omega);have b0:=k1 (w.heap.size+1) 0 (by simp);have b5:=k1 (w.heap.size+1) 5 (by simp);have b6:=k1 (w.heap.size+1) 6 (by simp);have b7:=k1 (w.heap.size+1) 7 (by simp);have b8:=k1 (w.heap.size+1) 8 (by simp);simp[go_sem] at a0 b0 b5 b6 b7 b8;have hz:w.heap.size+1<w1.heap.size:=by have:=hn.size;simp at this;omega
 have hk:w.heap.size<w1.heap.size:=by omega
 clear k1 k2 hn;obtain⟨xk,xn,xt⟩:=x;unfold Val.cells;have hg:Below w.heap.size w (w1.alloc (.cells #[.int .i64 xk,.int .i64 xn,.string xt] 208)):=cH (B:=w.heap.size) hi (by omega) _;have hc:=hd hg;clear hg;go_wp2_with fail;refine(jKK cols row cv _ ⟨rc,⟨rk,rn,rt⟩⟩ _ (H.o.below hc.o) (HR.o.below hc.o)).mono ?_;rintro e w2 ⟨rfl,ho⟩;rw[<-HY.o];have he:Below w.heap.size w w2:=hc.o.trans (ho.mono (by simp;omega));obtain⟨k1,k2⟩:=aD ho;have d0:=k1 w1.heap.size 0 (by simp);have d1:=k1 w1.heap.size 1 (by simp);have d2:=k1 w1.heap.size 2 (by simp);have hq:=(k1 (w.heap.size+1) 0 (by simp;omega)).trans ((cX _ _ _ hz).trans b0);simp[go_sem] at d0 d1 d2;have hl:w1.heap.size<w2.heap.size:=by have:=ho.size;simp at this;omega
 have hj:w.heap.size+1<w2.heap.size:=by omega
 clear k1 k2 ho a0 b0 b5 b6 b7 b8;obtain⟨yk,yn,yt⟩:=y;unfold Val.cells;have hh:Below w.heap.size w (w2.alloc (.cells #[.int .i64 yk,.int .i64 yn,.string yt] 208)):=cH (B:=w.heap.size) he (by omega) _;go_wp2_with fail;refine(jX0 ⟨xk,xn,xt⟩ ⟨yk,yn,yt⟩ _).mono ?_;rintro e w3 ⟨rfl,hp⟩;have ha:Below w.heap.size w w3:=hh.trans (hp.mono (by simp;omega));obtain⟨k1,k2⟩:=aD hp;have ht:=(k1 (w.heap.size+1) 0 (by simp;omega)).trans ((cX _ _ _ hj).trans hq);obtain⟨sd,hs⟩:∃x,x=Sq.compare ⟨xk,xn,xt⟩ ⟨yk,yn,yt⟩:=⟨_,rfl⟩;have hE:=hf.o;rw[<-hs] at hE ⊢;have hb:Hid (jCO cols row ⟨op,⟨lc,⟨lk,ln,lt⟩⟩,⟨rc,⟨rk,rn,rt⟩⟩⟩=Sq.holds op sd):=hE;clear k1 k2 hp d0 d1 d2 hq hh hE hs hf;cases h1:op.toList==[61]
 case true =>
  go_wp2;go_ret;exact⟨by rw[hb.o];unfold Sq.holds;rw[h1];rfl,ha⟩
 cases h2:op.toList==[60,62]
 case true =>
  go_wp2;go_ret;exact⟨by rw[hb.o];unfold Sq.holds;rw[h1,h2];rfl,ha⟩
 cases h3:op.toList==[60]
 case true =>
  go_wp2;go_ret;exact⟨by rw[hb.o];unfold Sq.holds;rw[h1,h2,h3];rfl,ha⟩
 cases h4:op.toList==[60,61]
 case true =>
  go_wp2;go_ret;exact⟨by rw[hb.o];unfold Sq.holds;rw[h1,h2,h3,h4];rfl,ha⟩
 cases h5:op.toList==[62]
 case true =>
  go_wp2;go_ret;exact⟨by rw[hb.o];unfold Sq.holds;rw[h1,h2,h3,h4,h5];rfl,ha⟩
 case false =>
  go_wp2;go_ret;exact⟨by rw[hb.o];unfold Sq.holds;rw[h1,h2,h3,h4,h5];rfl,ha⟩
structure PL (pb:Nat)(w:World)(l:List Bool):Prop where
 row:∃v,w.heap[pb]?=some (.cells #[v] 233)/\w.ownsRow (pb+1) 4 1 v l.length (l.map Value.bool)
 few:l.length<=100000
theorem PL.lt {l:List Bool}(h:PL pb w l):pb<w.heap.size:=by obtain⟨v,h1,_⟩:=h.row;exact jQe h1
theorem PL.below {l:List Bool}(h:PL pb w l)(hb:Below w.heap.size w w'):PL pb w' l:=by
 have ha:=h.lt;obtain⟨v,h1,h2⟩:=h.row;exact⟨⟨v,by rw[hb.block pb ha];exact h1,jQh h2 hb⟩,h.few⟩
theorem Tryz.jJI:(Tryz.prog.info? 4).map (fun i=>(i.zero,i.size,i.bytes))=some (some (.bool false),1,1):=by kernel_rfl
theorem jLK {l:List Bool}(b:Bool)(h:PL pb w l)(hn:l.length+1<=100000) :
  Calls Tryz.prog 160 #[.pointer (some ⟨pb,0,none⟩),.bool b] w fun e w'=>e=.returned (.tuple #[])/\PL pb w' (l++[b])/\Below pb w w':=by
 obtain⟨i0,hi,hr,hs,ht⟩:=cV Tryz.jJI;have hf:=h.lt;obtain⟨v,hb,ho⟩:=h.row;have c0:w.cell? ⟨pb,0,none⟩=some v:=by rw[jQb hb];rfl
 have hW:Below w.heap.size w (w.alloc (.cells #[.bool b] 4)):=bA;have HO:=hd (jQh ho hW);have HB:Hid ((w.alloc (.cells #[.bool b] 4)).heap[pb]?=some (.cells #[v] 233)):=(hW.block pb hf).trans hb;have HW:=hd hW;clear hb ho hW h;go_enter Tryz.func160,Tryz.ntmps160;go_wp2_with (at_builtin;refine cT _ rfl (.tmp 8) (.tmp 10) 231 rfl (pb+1) 4 i0 _ 1 1 Tryz.underlying231 hi hr hs ht rfl (by decide) v l.length (l.map Value.bool) rfl HO.o ⟨w.heap.size,0,none⟩ 1 1 [.bool b] rfl rfl (by exact jQN w _ _ _ rfl rfl) (by intro u hu;simp at hu;subst hu;rfl) (by decide) (by unfold maxLen;omega) (by omega) (by simp;omega) _ rfl ?_;intro g cap w1 hj hh hp hq;have ha:=(hh.block pb (by simp;omega) (fun e=>jQm HO.o HB.o (by decide) e.symm)).trans HB.o;have k0:w1.cell? ⟨pb,0,none⟩=some v:=(by rw[jQb ha];rfl);have f0:=jQd ha 0;have hg:=jQe ha;have he:=hd hj;have HG:=hd hh;have hc:=hd ha;clear hj hh hp ha);go_end0;refine⟨rfl,⟨⟨.slice (some ⟨g,0,none⟩) (l.length+1) cap,by rw[jQf hc.o];rfl,?_⟩,by simpa using hn⟩,?_⟩
 ·have:=he.o
  rw[cg,dc,cR];exact jQp this fun k hk=>jQg (fun e=>jQm this hc.o (by decide) (by rw[hk,e]))
 refine cj (B:=pb) (ed (cS (B':=pb) HW.o (by omega)) (Tch.aO HG.o (fun k hk=>?_) (by simp;omega))) nR _;exact dC (HO.o.lt k hk).1
theorem jO9 {base:Nat}{size:Nat}{cap:Nat}{ys:List Value}(h:w.ownsRow base e size (.slice (some ⟨g,0,none⟩) n cap) n (xs++ys))(m:Nat)(hm:m<=n)(hx:xs.length=m*size):w.ownsRow base e size (.slice (some ⟨g,0,none⟩) m cap) m xs:=by
 refine⟨hx,?_⟩;rcases h.2 with⟨h1,h2⟩ | ⟨g',cap',cur,h1,hg,hh,hn,hmx,hc,ht⟩
 ·simp at h1
 simp only[Value.slice.injEq,Option.some.injEq,Addr.mk.injEq] at h1;obtain⟨⟨rfl,-,-⟩,-,rfl⟩:=h1;refine Or.inr ⟨g,cap,cur,rfl,hg,hh,by omega,hmx,hc,?_⟩
 have:cur.toList.take (m*size)=(cur.toList.take (n*size)).take (m*size):=by
  rw[List.take_take]
  congr 1
  have:=dS size hm
  omega
 rw[this,ht,List.take_left' hx]
theorem jOp {l:List Bool}(h:PL pb w l) :
  Calls Tryz.prog 162 #[.pointer (some ⟨pb,0,none⟩)] w fun e w'=>e=.returned (.bool (jEE l))/\PL pb w' l.dropLast/\Below pb w w':=by
 have hi:=h.lt;have ha:=h.few;obtain⟨v,hb,hj⟩:=h.row;have hf:=hd h;clear h;rcases List.eq_nil_or_concat l with rfl | ⟨l',b,rfl⟩
 ·have hv:v=.slice none 0 0\/∃g cap,v=.slice (some ⟨g,0,none⟩) 0 cap:=by
   rcases hj.2 with⟨h1,_⟩ | ⟨g,cap,_,h1,_⟩
   ·exact Or.inl h1
   exact Or.inr ⟨g,cap,h1⟩
  have c0:w.cell? ⟨pb,0,none⟩=some v:=by rw[jQb hb];rfl
  clear hj hb;rcases hv with rfl | ⟨g,cap,rfl⟩
  all_goals
   go_enter Tryz.func162,Tryz.ntmps162;go_wp2;go_ret;exact⟨rfl,hf.o,bR⟩
 rw[List.concat_eq_append] at hj ha;have he:(l'++[b]).length=l'.length+1:=by simp
 obtain⟨g,cap,rfl,hq,hr⟩:=hj.form (by rw[he];omega);rw[he] at hj hb ha;rw[List.concat_eq_append];have hE:jEE (l'++[b])=b:=by simp[jEE]
 have HE:=hd hE;have c0:w.cell? ⟨pb,0,none⟩=some (.slice (some ⟨g,0,none⟩) (l'.length+1) cap):=by rw[jQb hb];rfl
 have f0:=jQd hb 0;have ct:=hj.cells (g:=g) rfl l'.length (.bool b) (by simp);rw[show(⟨g,0,none⟩:Addr).add l'.length=⟨g,l'.length,none⟩ from by unfold Addr.add;split<;>simp_all] at ct
 have hc:l'.length+1<=cap/\cap<=9223372036854775807:=by
  rcases hj.2 with⟨h1,h2⟩ | ⟨g',cap',cur,h1,hg,hh,hn,hm,_⟩
  ·omega
  simp only[Value.slice.injEq] at h1;obtain⟨-,-,rfl⟩:=h1;exact⟨hn,hm⟩
 obtain⟨ho,hp⟩:=hc;have HO:=hd hj;have HB:=hd hb;clear hj hb hE he hf;go_enter Tryz.func162,Tryz.ntmps162;go_wp2;go_ret;refine⟨by rw[HE.o];rfl,⟨⟨.slice (some ⟨g,0,none⟩) l'.length cap,by rw[jQf HB.o];rfl,?_⟩,by simp;omega⟩,cj (B:=pb) bR nR _⟩;have h1:=HO.o;rw[cR] at h1;have h2:=jO9 h1 l'.length (by omega) (by simp);rw[List.dropLast_concat];exact jQp h2 fun k hk=>jQg (fun e=>jQm h2 HB.o (by decide) (by rw[hk,e]))
theorem Sq.jPo (l:List Bool):l.dropLast.length<=l.length:=by simp
theorem qCi {l:List Bool}(op:BA)(h:PL pb w l)(hn:l.length+1<=100000) :
  Calls Tryz.prog 161 #[.pointer (some ⟨pb,0,none⟩),.string op] w fun e w'=>e=.returned (.tuple #[])/\PL pb w' (jD5 l op)/\Below pb w w':=by
 have hg:=h.lt;have H:=hd h;have he:=Sq.jPo l;have hf:=Sq.jPo l.dropLast;clear h;go_enter Tryz.func161,Tryz.ntmps161;go_wp2_with fail;refine(jOp H.o).mono ?_;rintro e w1 ⟨rfl,hq,ho⟩;have hc:=hd hq;obtain⟨x,hx⟩:∃x,x=jEE l:=⟨_,rfl⟩;rw[<-hx];have HX:=hd hx;clear hq hx;cases h1:op.toList==[110,111,116]
 case true =>
  have HE:Hid (jD5 l op=l.dropLast++[!x]):=by show _=_;unfold jD5;rw[h1,HX.o];rfl
  go_wp2_with fail;refine(jLK (!x) hc.o (by omega)).mono ?_;rintro e w2 ⟨rfl,hh,hk⟩;have ha:=hd hh;clear hh;go_wp2;exact cp (v:=.tuple #[]) (by simp[results,Tryz.results161,go_sem]) rfl ⟨rfl,by rw[HE.o];exact ha.o,ho.trans hk⟩
 case false =>
  go_wp2_with fail;refine(jOp hc.o).mono ?_;rintro e w2 ⟨rfl,hh,hk⟩;have ha:=hd hh;obtain⟨y,hy⟩:∃x,x=jEE l.dropLast:=⟨_,rfl⟩;rw[<-hy];have HY:=hd hy;clear hh hy;cases h2:op.toList==[97,110,100]
  case true =>
   have HE:Hid (jD5 l op=l.dropLast.dropLast++[y&&x]):=by show _=_;unfold jD5;rw[h1,h2,HX.o,HY.o];rfl
   cases y
   all_goals
    go_wp2_with fail;refine(jLK _ ha.o (by omega)).mono ?_;rintro e w3 ⟨rfl,hj,hp⟩;have hb:=hd hj;clear hj;go_wp2;go_end0;exact⟨rfl,by rw[HE.o];exact hb.o,ho.trans (hk.trans hp)⟩
  case false =>
   have HE:Hid (jD5 l op=l.dropLast.dropLast++[y || x]):=by show _=_;unfold jD5;rw[h1,h2,HX.o,HY.o];rfl
   cases y
   all_goals
    go_wp2_with fail;refine(jLK _ ha.o (by omega)).mono ?_;rintro e w3 ⟨rfl,hj,hp⟩;have hb:=hd hj;clear hj;go_wp2;go_end0;exact⟨rfl,by rw[HE.o];exact hb.o,ho.trans (hk.trans hp)⟩
theorem Sq.jTn (l:List Bool)(op:BA):(jD5 l op).length<=l.length+1:=by
 unfold jD5
 split
 ·simp
 split<;>(simp;omega)
theorem Sq.qAD (cols:List Col)(row:List Val)(l:List Bool)(s:bd):(jEq cols row l s).length<=l.length+1:=by
 unfold jEq
 split
 ·simp
 exact Sq.jTn l s.op
theorem Sq.jZm (f:List Bool->bd->List Bool)(l:List bd)(k:Nat)(h:k<l.length):(l.take (k+1)).foldl f []=f ((l.take k).foldl f []) l[k]:=by
 rw[cI h,List.foldl_append];rfl
theorem qAc (cols:List Col)(row:List Val)(l:List bd)(cv rv sv:Value)(w:World)(h:aX w cv cols)(hr:jA0 w rv row)(hs:jCL w sv l)(hl:l.length<=50000) :
  Calls Tryz.prog 119 #[cv,.agg #[rv],sv] w fun e w'=>e=.returned (.bool (Sq.meets cols row l))/\Below w.heap.size w w':=by
 obtain⟨ao,cap,rfl⟩:=jQa hr.1;obtain⟨bo,hS,rfl⟩:=jQa hs.1;have H:=hd h;have HR:=hd hr;have HS:=hd hs;clear h hr hs;cases hz:l.isEmpty
 case true =>
  have HE:Hid (Sq.meets cols row l=true):=by show _=_;unfold Sq.meets;rw[hz];rfl
  have hw:l.length=0:=by simpa using hz
  clear hz;go_enter Tryz.func119,Tryz.ntmps119;go_wp2;go_ret;exact⟨by rw[HE.o];rfl,bA⟩
 case false =>
  have HE:Hid (Sq.meets cols row l=jEE (l.foldl (jEq cols row) [])):=by show _=_;unfold Sq.meets;rw[hz];rfl
  have hw:¬l=[]:=by simpa using hz
  have hH:0<l.length:=by cases l with | nil=>exact absurd rfl hw | cons _ _=>simp
  have hE:((l.length:Int)==0)=false:=by simp;omega
  clear hz hw;have hW:Below w.heap.size w (w.alloc (.cells #[.slice ao row.length cap] 138)):=bA;have HW:=hd hW;clear hW;go_enter Tryz.func119,Tryz.ntmps119;go_wp2
  go_loopw [8] (fun i wr=>∃k:Nat,k<=l.length/\i=.int .i64 k/\PL (w.heap.size+1) wr ((l.take k).foldl (jEq cols row) [])/\((l.take k).foldl (jEq cols row) []).length<=k/\Below (w.heap.size+1) (w.alloc (.cells #[.slice ao row.length cap] 138)) wr) (fun i _=>l.length-(intOf i).toNat)
  case atStart =>
   refine⟨0,zR,rfl,⟨⟨.slice none 0 0,?_,cu _ _ _ _⟩,by simp⟩,by simp,(bR).alloc (by simp) _⟩
   have:=dJ (w.alloc (.cells #[.slice ao row.length cap] 138)) (.cells #[.slice none 0 0] 233)
   simpa using this
  case round =>
   obtain⟨k,hk,rfl,ha,hlen,hb⟩:=hrel;have hp:Below w.heap.size w wr:=HW.o.trans (hb.mono (by omega));have a0:wr.cell? ⟨w.heap.size,0,none⟩=some (.slice ao row.length cap):=(hb.cell (p:=⟨w.heap.size,0,none⟩) (by simp)).trans (by simp[go_sem]);have hI:=ha.lt;have ho:=hd ha;have HB:=hd hb;clear ha hb
   by_cases hlt:k<l.length
   ·obtain⟨x,hx⟩:∃x,x=l[k]:=⟨_,rfl⟩;have HX:=hd hx
    have cells:∀W,Below w.heap.size w W->∃g,bo=some ⟨g,0,none⟩/\g<W.heap.size/\∀j u,j<9->x.cells[j]?=some u->W.cell? ⟨g,k*9+j,none⟩=some u:=by
     intro W hW;obtain⟨g,hP,hv,hg,hc⟩:=jCc (f:=bd.cells) (fun _=>rfl) (HS.o.below hW).1 k hlt;simp only[Value.slice.injEq] at hv;exact⟨g,hv.1,hg,by rw[hx];exact hc⟩
    have HC:=hd cells;obtain⟨ls,hM⟩:∃x,x=(l.take k).foldl (jEq cols row) []:=⟨_,rfl⟩;have hu:=Sq.jZm (jEq cols row) l k hlt;rw[<-hM,<-hx] at hu;have hB:=Sq.qAD cols row ls x;rw[<-hM] at hlen;have ha:=ho.o;rw[<-hM] at ha;have he:=hd ha;have hn:=hd hu;clear cells hx hM hu ha ho;obtain⟨g,hQ,hg,hc⟩:=HC.o wr hp;subst hQ;have hf:Hid (jEq cols row ls x=if jAf x.op then ls++[jCO cols row x] else jD5 ls x.op):=rfl;obtain⟨op,⟨lc,⟨lk,ln,lt⟩⟩,⟨rc,⟨rk,rn,rt⟩⟩⟩:=x;have c0:=hc 0 _ (by decide) rfl;have c1:=hc 1 _ (by decide) rfl;have c2:=hc 2 _ (by decide) rfl;have c3:=hc 3 _ (by decide) rfl;have c4:=hc 4 _ (by decide) rfl;have c5:=hc 5 _ (by decide) rfl;have c6:=hc 6 _ (by decide) rfl;have c7:=hc 7 _ (by decide) rfl;have c8:=hc 8 _ (by decide) rfl;simp only[dB] at c0;clear hc;go_wp2_with fail;refine(jMM ⟨op,⟨lc,⟨lk,ln,lt⟩⟩,⟨rc,⟨rk,rn,rt⟩⟩⟩ _).mono ?_;rintro e w1 ⟨rfl,hJ⟩;have hi:Below w.heap.size w w1:=hp.trans (hJ.mono hp.size);have hy:=hd (HB.o.trans (hJ.mono (by omega)));have hm:=hd (he.o.below hJ);have hR:=((aD hJ).1 w.heap.size 0 (by omega)).trans a0;have hG:=hJ.size;clear c0 c1 c2 c3 c4 c5 c6 c7 c8 hJ a0 he HB;obtain⟨g',hO,hT,hc⟩:=HC.o w1 hi;have hD:g=g':=by simpa using hO
    subst hD;have c0:=hc 0 _ (by decide) rfl;have c1:=hc 1 _ (by decide) rfl;have c2:=hc 2 _ (by decide) rfl;have c3:=hc 3 _ (by decide) rfl;have c4:=hc 4 _ (by decide) rfl;have c5:=hc 5 _ (by decide) rfl;have c6:=hc 6 _ (by decide) rfl;have c7:=hc 7 _ (by decide) rfl;have c8:=hc 8 _ (by decide) rfl;simp only[dB] at c0;clear hc hO;cases hcmp:jAf op
    case true =>
     have hj:Hid ((l.take (k+1)).foldl (jEq cols row) []=ls++[jCO cols row ⟨op,⟨lc,⟨lk,ln,lt⟩⟩,⟨rc,⟨rk,rn,rt⟩⟩⟩]):=by show _=_;rw[hn.o,hf.o,hcmp];rfl
     clear hn hf hB;go_wp2
     go_region_with (go_at_call 159;refine(jW8 cols row cv _ ⟨op,⟨lc,⟨lk,ln,lt⟩⟩,⟨rc,⟨rk,rn,rt⟩⟩⟩ _ (H.o.below hi.drew) (HR.o.below hi.drew)).mono ?_;rintro e w2 ⟨rfl,hN⟩)
     all_goals
      have hh:Below w1.heap.size w1 w2:=(cB bR).trans hN;have ht:=hd (hm.o.below hh);have hC:=hd (hy.o.trans (hh.mono (by omega)));clear hN hh c0 c1 c2 c3 c4 c5 c6 c7 c8;go_wp2_with fail;refine(jLK _ ht.o (by omega)).mono ?_;rintro e w3 ⟨rfl,hK,hL⟩;have hq:=hd hK;clear hK;go_wp2;go_roundw;exact⟨k+1,by omega,by go_num,by rw[hj.o];exact hq.o,by rw[hj.o];simp;omega,hC.o.trans hL⟩;simp[intOf];omega
    case false =>
     have hj:Hid ((l.take (k+1)).foldl (jEq cols row) []=jD5 ls op):=by show _=_;rw[hn.o,hf.o,hcmp];rfl
     have hF:=Sq.jTn ls op;clear hn hf hB;go_wp2_with fail;refine(qCi op hm.o (by omega)).mono ?_;rintro e w3 ⟨rfl,hK,hL⟩;have hq:=hd hK;clear hK;go_wp2;go_roundw;exact⟨k+1,by omega,by go_num,by rw[hj.o];exact hq.o,by rw[hj.o];omega,hy.o.trans hL⟩;simp[intOf];omega
   have hA:l.take k=l:=cL (by omega);have ha:=ho.o;rw[hA] at ha;have he:=hd ha;clear ha hA ho;go_wp2_with fail;refine(jOp he.o).mono ?_;rintro e w3 ⟨rfl,hK,hL⟩;go_wp2;go_ret;exact⟨by rw[HE.o];rfl,hp.trans (hL.mono (by omega))⟩
end
end Go.Proofs.YtahpihjialbanaaGreatDoor
