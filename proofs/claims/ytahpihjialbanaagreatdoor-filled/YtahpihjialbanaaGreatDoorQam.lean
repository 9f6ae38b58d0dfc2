import Derived.Laws.AppendOwnNone
import Derived.Test.YtahpihjialbanaaGreatDoorQal
set_option linter.unusedVariables false
set_option linter.unusedSimpArgs false
set_option maxRecDepth 100000
set_option maxHeartbeats 4000000
namespace Go.Proofs.YtahpihjialbanaaGreatDoor
structure Sq.TameF {α:Type}(f:α→Sq.Head)(G:α→Prop)(K:Int)(t:Sq.NodeF α):Prop where
 ents:t.ents.length≤4
 kids:t.kids.length≤4
 each:∀c∈t.kids,G c
 num:t.hd.num≤K
 pos:0≤t.hd.rows
 inn:t.hd.inner=true→t.hd.rows=Sq.sumRows2 f t.kids∧t.ents=[]
 lf:t.hd.inner=false→(t.ents.length:Int)≤t.hd.rows∧t.kids=[]
 sl:t.hd.sl.size≤32
 row:∀e∈t.ents,e.row.size≤300
structure Sq.TameR (K:Int)(tr:Sq.Trl):Prop where
 nd:tr.nums.Nodup
 each:∀x∈tr.nums,0 < x∧x≤K
namespace Sq
def tameN (K:Int):(n:Nat)→Nd n→Prop
 | 0,t=>TameF (fun e:Empty=>e.elim) (fun e:Empty=>e.elim) K t∧(NodeF.hd t).inner=false
 | n+1,t=>TameF (headN n) (tameN K n) K t
theorem tameN.at0 {K:Int}{t:NodeF Empty}(h:tameN K 0 t):TameF (fun e:Empty=>e.elim) (fun e:Empty=>e.elim) K t:=h.1
theorem tameN.leaf0 {K:Int}{t:NodeF Empty}(h:tameN K 0 t):t.hd.inner=false:=h.2
theorem tameN.at1 {K:Int}{n:Nat}{t:NodeF (Nd n)}(h:tameN K (n+1) t):TameF (headN n) (tameN K n) K t:=h
theorem tameN.head:∀{K:Int} {n:Nat} {t:Nd n},tameN K n t→(headN n t).num≤K∧0≤(headN n t).rows∧(headN n t).sl.size≤32
 | _,0,_,h=>⟨h.at0.num,h.at0.pos,h.at0.sl⟩
 | _,_+1,_,h=>⟨h.at1.num,h.at1.pos,h.at1.sl⟩
theorem jQnp (a:Int):∀l:List Int,l.Nodup→l.length≤(l.filter (· != a)).length+1
 | [],_=>Nat.zero_le _
 | x :: r,h=>by
  have hr:=List.nodup_cons.1 h
  by_cases hx:x=a
  ·subst hx
   have hf:r.filter (· != x)=r:=List.filter_eq_self.2 fun y hy=>by
    have:y≠x:=fun e=>hr.1 (e ▸ hy)
    simpa using this
   have hg:(x :: r).filter (· != x)=r.filter (· != x):=by rw[List.filter_cons];simp
   rw[hg,hf]
   simp
  ·have hg:(x :: r).filter (· != a)=x :: r.filter (· != a):=by
    have:(x != a)=true:=by simpa using hx
    rw[List.filter_cons,if_pos this]
   rw[hg,List.length_cons,List.length_cons]
   have:=jQnp a r hr.2
   omega
theorem jQmF:∀(K:Nat) (l:List Int),l.Nodup→(∀x∈l,0 < x∧x≤(K:Int))→l.length≤K
 | 0,l,_,h=>by
  cases l with
  | nil=>exact Nat.le_refl _
  | cons x r=>have:=h x (List.mem_cons_self ..);omega
 | K+1,l,hn,h=>by
  have h1:=jQnp ((K:Int)+1) l hn
  have h2:=jQmF K (l.filter (· != ((K:Int)+1))) (hn.filter _) (fun x hx=>by
   have hx2:=List.mem_filter.1 hx
   have h3:=h x hx2.1
   have h4:x≠(K:Int)+1:=by simpa using hx2.2
   omega)
  omega
theorem TameR.len {K:Int}{tr:Trl}(h:TameR K tr):tr.nums.length≤K.toNat:=by
 refine jQmF K.toNat tr.nums h.nd fun x hx=>?_
 have:=h.each x hx
 omega
theorem TameR.touch {K:Int}{tr:Trl}(h:TameR K tr){hd:Head}(hn:hd.num≤K):TameR K (touchR tr hd):=by
 unfold touchR
 split
 ·next hc =>
  have hc2:0 < hd.num∧touchedR tr hd=false:=by simpa using hc
  have hnot:hd.num ∉ tr.nums:=fun hm=>by
   have h2:=hc2.2
   unfold touchedR at h2
   rw[List.any_eq_false] at h2
   have:=h2 _ hm
   simp at this
  refine⟨?_,fun x hx=>?_⟩
  ·show(tr.nums++[hd.num]).Nodup
   rw[List.nodup_append]
   exact⟨h.nd,by simp,fun a ha b hb e=>by rw[List.mem_singleton] at hb;subst hb;subst e;exact hnot ha⟩
  ·rcases List.mem_append.1 hx with hx | hx
   ·exact h.each x hx
   ·rw[List.mem_singleton] at hx;subst hx;exact⟨hc2.1,hn⟩
 ·exact⟨h.nd,h.each⟩
theorem TameR.none (K:Int):TameR K ⟨false,[]⟩:=⟨List.nodup_nil,fun x hx=>by cases hx⟩
theorem TameR.loseIf {K:Int}{tr:Trl}(h:TameR K tr)(b:Bool):TameR K ⟨tr.lost || b,tr.nums⟩:=⟨h.nd,h.each⟩
theorem jQjW {α:Type}{f:α→Head}{G:α→Prop}{K:Int}{g:α→Int→Trl→Bool×Trl}(hg:∀c p tr,G c→TameR K tr→TameR K (g c p tr).2){t:NodeF α}(h:TameF f G K t)(p:Int){tr:Trl}(hr:TameR K tr):TameR K (hasF f g t p tr).2:=by
 unfold hasF
 split
 ·split
  ·next c hc=>exact hg c p _ (h.each c (List.mem_of_getElem? hc)) (hr.touch h.num)
  ·exact hr.touch h.num
 ·exact hr.touch h.num
theorem jQjV {K:Int}:∀(n:Nat) (t:Nd n) (p:Int) (tr:Trl),tameN K n t→TameR K tr→TameR K (hasN n t p tr).2
 | 0,t,p,tr,h,hr=>jQjW (fun c=>c.elim) h.at0 p hr
 | n+1,t,p,tr,h,hr=>jQjW (fun c p tr hc hr=>jQjV n c p tr hc hr) h.at1 p hr
def countF {α:Type}(g:α→Nat)(t:NodeF α):Nat:=t.ents.length+(t.kids.map g).sum
def countN:(n:Nat)→Nd n→Nat
 | 0,t=>countF (fun e:Empty=>e.elim) t
 | n+1,t=>countF (countN n) t
theorem jQpJ {α:Type}(g:α→Nat):∀{l:List α} {c:α},c∈l→g c≤(l.map g).sum
 | a :: r,c,h=>by
  rw[List.map_cons,List.sum_cons]
  rcases List.mem_cons.1 h with rfl | h
  ·omega
  ·have:=jQpJ g h;omega
theorem jQga {α:Type}{f:α→Head}{G:α→Prop}{K:Int}{g:α→Trl→List Ent×Trl}{m:α→Nat}(hg:∀c tr,G c→TameR K tr→TameR K (g c tr).2∧(g c tr).1.length≤m c)(lo hi:Int) :
  ∀(l:List α) (x:List Ent×Trl),(∀c∈l,G c)→TameR K x.2→TameR K (thruL f g lo hi l x).2∧(thruL f g lo hi l x).1.length≤x.1.length+(l.map m).sum
 | [],x,_,hx=>⟨hx,by simp[thruL]⟩
 | c :: r,x,hl,hx=>by
  rw[thruL,List.map_cons,List.sum_cons]
  have h1:=hg c x.2 (hl c (List.mem_cons_self ..)) hx
  split
  ·have h2:=jQga (f:=f) hg lo hi r (x.1++(g c x.2).1,(g c x.2).2) (fun d hd=>hl d (List.mem_cons_of_mem _ hd)) h1.1
   refine⟨h2.1,?_⟩
   have h3:=h2.2
   simp only[List.length_append] at h3
   have h4:=h1.2
   omega
  ·have h2:=jQga (f:=f) hg lo hi r x (fun d hd=>hl d (List.mem_cons_of_mem _ hd)) hx
   exact⟨h2.1,by have:=h2.2;omega⟩
theorem jQg4 {α:Type}{f:α→Head}{G:α→Prop}{K:Int}{g:α→Int→Int→Trl→List Ent×Trl}{m:α→Nat}(hg:∀c lo hi tr,G c→TameR K tr→TameR K (g c lo hi tr).2∧(g c lo hi tr).1.length≤m c){t:NodeF α}(h:TameF f G K t)(lo hi:Int){tr:Trl}(hr:TameR K tr):TameR K (thruF f g t lo hi tr).2∧(thruF f g t lo hi tr).1.length≤countF m t:=by
 unfold thruF countF
 have h1:=jQga (f:=f) (fun c tr hc hr=>hg c lo hi tr hc hr) lo hi t.kids (t.ents.filter (inSpan lo hi),touchR tr t.hd) h.each (hr.touch h.num)
 refine⟨h1.1,Nat.le_trans h1.2 ?_⟩
 have:=List.length_filter_le (inSpan lo hi) t.ents
 simp only
 omega
theorem jQaW {K:Int}:∀(n:Nat) (t:Nd n) (lo hi:Int) (tr:Trl),tameN K n t→TameR K tr→TameR K (thruN n t lo hi tr).2∧(thruN n t lo hi tr).1.length≤countN n t
 | 0,t,lo,hi,tr,h,hr=>jQg4 (fun c=>c.elim) h.at0 lo hi hr
 | n+1,t,lo,hi,tr,h,hr=>jQg4 (fun c lo hi tr hc hr=>jQaW n c lo hi tr hc hr) h.at1 lo hi hr
theorem jQde {α:Type}(f:α→Head):sumRows2 f []=0:=rfl
theorem jQ9 {α:Type}(f:α→Head)(c:α)(r:List α):sumRows2 f (c :: r)=(f c).rows+sumRows2 f r:=by unfold sumRows2;rw[List.map_cons,List.sum_cons]
theorem jQbT {α:Type}(f:α→Head)(a b:List α):sumRows2 f (a++b)=sumRows2 f a+sumRows2 f b:=by unfold sumRows2;rw[List.map_append,List.sum_append]
theorem jQie {α:Type}(f:α→Head):∀l:List α,(∀c∈l,0≤(f c).rows)→0≤sumRows2 f l
 | [],_=>Int.le_refl _
 | c :: r,h=>by
  rw[jQ9]
  have h1:=h c (List.mem_cons_self ..)
  have h2:=jQie f r fun d hd=>h d (List.mem_cons_of_mem _ hd)
  omega
theorem jQbb {α:Type}(f:α→Head):∀{l:List α} {c:α},(∀c∈l,0≤(f c).rows)→c∈l→(f c).rows≤sumRows2 f l
 | a :: r,c,h,hm=>by
  rw[jQ9]
  have h0:=h a (List.mem_cons_self ..)
  have h1:=jQie f r fun d hd=>h d (List.mem_cons_of_mem _ hd)
  rcases List.mem_cons.1 hm with rfl | hm
  ·omega
  ·have:=jQbb f (fun d hd=>h d (List.mem_cons_of_mem _ hd)) hm;omega
theorem jQek {α:Type}(f:α→Head)(l o:List α)(a:Nat)(ha:a < l.length):sumRows2 f (exch l a 1 o)=sumRows2 f l - (f l[a]).rows+sumRows2 f o:=by
 have h:l=l.take a++(l[a] :: l.drop (a+1)):=by rw[←List.drop_eq_getElem_cons ha,List.take_append_drop]
 unfold exch
 rw[jQbT,jQbT]
 have h2:=congrArg (sumRows2 f) h
 rw[jQbT,jQ9] at h2
 omega
theorem jQlQ {α:Type}(f:α→Head)(l o:List α)(a:Nat)(ha:a+1 < l.length):sumRows2 f (exch l a 2 o)=sumRows2 f l - (f l[a]).rows - (f l[a+1]).rows+sumRows2 f o:=by
 have h:l=l.take a++(l[a] :: l[a+1] :: l.drop (a+2)):=by
  rw[←List.drop_eq_getElem_cons ha,←List.drop_eq_getElem_cons (by omega),List.take_append_drop]
 unfold exch
 rw[jQbT,jQbT]
 have h2:=congrArg (sumRows2 f) h
 rw[jQbT,jQ9,jQ9] at h2
 omega
theorem jQdn {α:Type}(l:List α):(halve l).length≤2∧1≤(halve l).length:=by
 unfold halve
 split <;> simp
theorem jQg8 {α β:Type}(f:β→Head)(mk:List α→β)(m:List α→Int)(hm:∀l,(f (mk l)).rows=m l)(ha:∀x y,m (x++y)=m x+m y)(l:List α):sumRows2 f ((halve l).map mk)=m l:=by
 unfold halve
 split
 ·rw[List.map_cons,List.map_nil,jQ9,jQde,hm];omega
 ·rw[List.map_cons,List.map_cons,List.map_nil,jQ9,jQ9,jQde,hm,hm]
  have:=ha (l.take 3) (l.drop 3)
  rw[List.take_append_drop] at this
  omega
theorem jQje {α:Type}{f:α→Head}{G:α→Prop}{K:Int}(hK:0≤K){es:List Ent}(h4:es.length≤4)(hr:∀e∈es,e.row.size≤300):TameF f G K (leafF es) :=
 ⟨h4,by simp[leafF],fun c hc=>by simp[leafF] at hc,hK,by simp[leafF],fun h=>by simp[leafF] at h,fun _=>⟨by simp[leafF],rfl⟩,by simp[leafF,nobytes,ByteArray.size],hr⟩
theorem jQcN {α:Type}{f:α→Head}{G:α→Prop}{K:Int}(hK:0≤K){cs:List α}(h4:cs.length≤4)(hc:∀c∈cs,G c)(hp:∀c,G c→0≤(f c).rows):TameF f G K (innerF f cs) :=
 ⟨by simp[innerF],h4,hc,hK,jQie f cs fun c h=>hp c (hc c h),fun _=>⟨rfl,rfl⟩,fun h=>by simp[innerF] at h,by simp[innerF,nobytes,ByteArray.size],fun e he=>by simp[innerF] at he⟩
structure Parts {α:Type}(f:α→Head)(G:α→Prop)(l:List α)(m:Int):Prop where
 two:l.length≤2
 one:1≤l.length
 each:∀c∈l,G c
 rows:sumRows2 f l≤m
theorem jQbB {α:Type}{f:α→Head}{G:α→Prop}{K:Int}(hK:0≤K){es:List Ent}(h5:es.length≤5)(hr:∀e∈es,e.row.size≤300):Parts NodeF.hd (TameF f G K) (leavesF es) (es.length:Int):=by
 have h1:=jQdn es
 refine⟨by unfold leavesF;rw[List.length_map];exact h1.1,by unfold leavesF;rw[List.length_map];exact h1.2,fun c hc=>?_,?_⟩
 ·obtain⟨x,hx,rfl⟩:=List.mem_map.1 hc
  have h2:=jQcj hx h5
  exact jQje hK h2.1 fun e he=>hr e (h2.2 e he)
 ·unfold leavesF
  rw[jQg8 (α:=Ent) NodeF.hd leafF (fun l=>(l.length:Int)) (fun _=>rfl) (fun x y=>by rw[List.length_append];omega)]
  exact Int.le_refl _
theorem jQcx {α:Type}{f:α→Head}{G:α→Prop}{K:Int}(hK:0≤K){cs:List α}(h5:cs.length≤5)(hc:∀c∈cs,G c)(hp:∀c,G c→0≤(f c).rows):Parts NodeF.hd (TameF f G K) (innersF f cs) (sumRows2 f cs):=by
 have h1:=jQdn cs
 refine⟨by unfold innersF;rw[List.length_map];exact h1.1,by unfold innersF;rw[List.length_map];exact h1.2,fun c hcm=>?_,?_⟩
 ·obtain⟨x,hx,rfl⟩:=List.mem_map.1 hcm
  have h2:=jQcj hx h5
  exact jQcN hK h2.1 (fun e he=>hc e (h2.2 e he)) hp
 ·unfold innersF
  rw[jQg8 NodeF.hd (innerF f) (sumRows2 f) (fun _=>rfl) (fun x y=>jQbT f x y)]
  exact Int.le_refl _
theorem jQn7 {es:List Ent}{e:Ent}(h:∀x∈es,x.row.size≤300)(he:e.row.size≤300):∀x∈withE es e,x.row.size≤300:=by
 intro x hx
 unfold withE at hx
 rcases List.mem_append.1 hx with hx | hx
 ·exact h x (List.takeWhile_prefix _ |>.subset hx)
 ·rcases List.mem_cons.1 hx with rfl | hx
  ·exact he
  ·exact h x ((List.dropWhile_suffix _).subset (List.mem_filter.1 hx).1)
theorem jQrC {α:Type}{f:α→Head}{l:List α}{p:Int}{c:α}(h:l[wayF f l p]?=some c):∃ha:wayF f l p < l.length,l[wayF f l p]=c:=by
 obtain⟨ha,hb⟩:=List.getElem?_eq_some_iff.1 h
 exact⟨ha,hb⟩
theorem jQjx {α:Type}{f:α→Head}{G:α→Prop}{K:Int}(hK:0≤K)(hp:∀c,G c→0≤(f c).rows){g:α→Ent→Trl→List α×Trl}(hg:∀c e tr,G c→e.row.size≤300→TameR K tr→Parts f G (g c e tr).1 ((f c).rows+1)∧TameR K (g c e tr).2){t:NodeF α}(h:TameF f G K t){e:Ent}(he:e.row.size≤300){tr:Trl}(hr:TameR K tr) :
  Parts NodeF.hd (TameF f G K) (putF f g t e tr).1 (t.hd.rows+1)∧TameR K (putF f g t e tr).2:=by
 unfold putF
 split
 ·next hi =>
  split
  ·next c hc =>
   obtain⟨ha,hac⟩:=jQrC hc
   have hG:=h.each c (List.mem_of_getElem? hc)
   have h1:=hg c e _ hG he (hr.touch h.num)
   have hlen:(exch t.kids (wayF f t.kids e.place) 1 (g c e (touchR tr t.hd)).1).length≤5:=by
    have:=jQb1 t.kids (g c e (touchR tr t.hd)).1 (wayF f t.kids e.place) 1 (by omega)
    have:=h1.1.two
    have:=h.kids
    omega
   have h2:=jQcx hK hlen (fun x hx=>by rcases jQcB hx with hx | hx;exact h.each x hx;exact h1.1.each x hx) hp
   refine⟨⟨h2.two,h2.one,h2.each,?_⟩,h1.2⟩
   show sumRows2 NodeF.hd (innersF f _)≤_
   have h3:=h2.rows
   rw[jQek f _ _ _ ha,hac] at h3
   have h4:=h1.1.rows
   have h5:=(h.inn hi).1
   omega
  ·have h2:=jQbB (f:=f) (G:=G) hK (es:=[e]) (by simp) (fun x hx=>by rw[List.mem_singleton] at hx;subst hx;exact he)
   refine⟨⟨h2.two,h2.one,h2.each,Int.le_trans h2.rows ?_⟩,hr.touch h.num⟩
   have:=h.pos
   simp
   omega
 ·next hi =>
  have hi2:t.hd.inner=false:=by simpa using hi
  have hl:=jQf2 t.ents e
  have h4:=h.ents
  have h2:=jQbB (f:=f) (G:=G) hK (es:=withE t.ents e) (by omega) (jQn7 h.row he)
  refine⟨⟨h2.two,h2.one,h2.each,Int.le_trans h2.rows ?_⟩,hr.touch h.num⟩
  have:=(h.lf hi2).1
  omega
theorem Parts.and {α:Type}{f:α→Head}{G P:α→Prop}{l:List α}{m:Int}(h:Parts f G l m)(hp:∀c∈l,P c):Parts f (fun c=>G c∧P c) l m:=⟨h.two,h.one,fun c hc=>⟨h.each c hc,hp c hc⟩,h.rows⟩
theorem jQeF {α:Type}{es:List Ent}:∀c∈(leavesF es:List (NodeF α)),c.hd.inner=false:=by
 intro c hc
 obtain⟨x,_,rfl⟩:=List.mem_map.1 hc
 rfl
theorem jQmj {α:Type}(f:α→Head)(g:α→Ent→Trl→List α×Trl)(t:NodeF α)(e:Ent)(tr:Trl)(h:t.hd.inner=false):∀c∈(putF f g t e tr).1,c.hd.inner=false:=by
 unfold putF
 rw[h]
 exact jQeF
theorem jQdR {K:Int}(hK:0≤K):∀(n:Nat) (t:Nd n) (e:Ent) (tr:Trl),tameN K n t→e.row.size≤300→TameR K tr→Parts (headN n) (tameN K n) (putN n t e tr).1 ((headN n t).rows+1)∧TameR K (putN n t e tr).2
 | 0,t,e,tr,h,he,hr=>by
  have h1:=jQjx hK (fun c=>c.elim) (g:=fun e:Empty=>e.elim) (fun c=>c.elim) h.at0 he hr
  exact⟨h1.1.and (jQmj _ _ t e tr h.leaf0),h1.2⟩
 | n+1,t,e,tr,h,he,hr=>jQjx hK (fun c hc=>hc.head.2.1) (fun c e tr hc he hr=>jQdR hK n c e tr hc he hr) h.at1 he hr
theorem jQcM {α:Type}{f:α→Head}{G:α→Prop}{K:Int}(hK:0≤K)(hp:∀c,G c→0≤(f c).rows){l r:NodeF α}(hl:TameF f G K l)(hr:TameF f G K r)(h5:sizeF l+sizeF r≤5):Parts NodeF.hd (TameF f G K) (togetherF f l r) (l.hd.rows+r.hd.rows):=by
 have hrp:=hr.pos
 have hlp:=hl.pos
 unfold togetherF
 split
 ·next hi =>
  have h1:sizeF l=l.kids.length:=by unfold sizeF;rw[if_pos hi]
  cases hri:r.hd.inner with
  | true =>
   have h2:sizeF r=r.kids.length:=by unfold sizeF;rw[if_pos hri]
   have h3:=jQcx hK (cs:=l.kids++r.kids) (by rw[List.length_append];omega) (fun c hc=>by rcases List.mem_append.1 hc with hc | hc;exact hl.each c hc;exact hr.each c hc) hp
   refine⟨h3.two,h3.one,h3.each,Int.le_trans h3.rows ?_⟩
   rw[jQbT,←(hl.inn hi).1,←(hr.inn hri).1]
   exact Int.le_refl _
  | false =>
   have hk:=(hr.lf hri).2
   have h4:=hl.kids
   have h3:=jQcx hK (cs:=l.kids++r.kids) (by rw[hk,List.append_nil];omega) (fun c hc=>by rcases List.mem_append.1 hc with hc | hc;exact hl.each c hc;exact hr.each c hc) hp
   refine⟨h3.two,h3.one,h3.each,Int.le_trans h3.rows ?_⟩
   rw[hk,List.append_nil,←(hl.inn hi).1]
   omega
 ·next hi =>
  have hi2:l.hd.inner=false:=by simpa using hi
  have h1:sizeF l=l.ents.length:=by unfold sizeF;rw[if_neg hi]
  have hlr:=(hl.lf hi2).1
  cases hri:r.hd.inner with
  | true =>
   have hk:=(hr.inn hri).2
   have h4:=hl.ents
   have h3:=jQbB (f:=f) (G:=G) hK (es:=l.ents++r.ents) (by rw[hk,List.append_nil];omega) (fun c hc=>by rcases List.mem_append.1 hc with hc | hc;exact hl.row c hc;exact hr.row c hc)
   refine⟨h3.two,h3.one,h3.each,Int.le_trans h3.rows ?_⟩
   rw[hk,List.append_nil]
   omega
  | false =>
   have h2:sizeF r=r.ents.length:=by unfold sizeF;rw[if_neg (by rw[hri];simp)]
   have hrr:=(hr.lf hri).1
   have h3:=jQbB (f:=f) (G:=G) hK (es:=l.ents++r.ents) (by rw[List.length_append];omega) (fun c hc=>by rcases List.mem_append.1 hc with hc | hc;exact hl.row c hc;exact hr.row c hc)
   refine⟨h3.two,h3.one,h3.each,Int.le_trans h3.rows ?_⟩
   rw[List.length_append]
   omega
theorem jQcL {K:Int}(hK:0≤K):∀(n:Nat) (l r:Nd n),tameN K n l→tameN K n r→sizeN n l+sizeN n r≤5→Parts (headN n) (tameN K n) (togetherN n l r) ((headN n l).rows+(headN n r).rows)
 | 0,l,r,hl,hr,h5=>by
  refine(jQcM hK (fun c=>c.elim) hl.at0 hr.at0 h5).and ?_
  unfold togetherF
  rw[hl.leaf0]
  exact jQeF
 | n+1,l,r,hl,hr,h5=>jQcM hK (fun c hc=>hc.head.2.1) hl.at1 hr.at1 h5
theorem jQl2 {α:Type}{f:α→Head}{G:α→Prop}{K:Int}{t:NodeF α}(h:TameF f G K t):sizeF t≤4:=by
 unfold sizeF
 split
 ·exact h.kids
 ·exact h.ents
theorem jQl1 {K:Int}:∀{n:Nat} {t:Nd n},tameN K n t→sizeN n t≤4
 | 0,_,h=>jQl2 h.at0
 | _+1,_,h=>jQl2 h.at1
theorem jQeK {α:Type}{f:α→Head}{sz:α→Nat}{tg:α→α→List α}{G:α→Prop}{K:Int}(hn:∀c,G c→(f c).num≤K∧0≤(f c).rows∧sz c≤4)(ht:∀l r,G l→G r→sz l+sz r≤5→Parts f G (tg l r) ((f l).rows+(f r).rows)){cs:List α}(h4:cs.length≤4)(hc:∀c∈cs,G c){a:Nat}(ha:a < cs.length)(hs:sz cs[a] < 2){tr:Trl}(hr:TameR K tr) :
  (joinedF f tg cs a tr).1.length≤4∧(∀c∈(joinedF f tg cs a tr).1,G c)∧sumRows2 f (joinedF f tg cs a tr).1≤sumRows2 f cs∧TameR K (joinedF f tg cs a tr).2:=by
 unfold joinedF
 split
 ·exact⟨h4,hc,Int.le_refl _,hr⟩
 ·next hne =>
  split
  ·next l r hl hrr =>
   obtain⟨hj,hjl⟩:=List.getElem?_eq_some_iff.1 hl
   obtain⟨hj1,hjr⟩:=List.getElem?_eq_some_iff.1 hrr
   have hGl:=hc l (List.mem_of_getElem? hl)
   have hGr:=hc r (List.mem_of_getElem? hrr)
   have hlr:sz l+sz r≤5:=by
    have h1:=(hn l hGl).2.2
    have h2:=(hn r hGr).2.2
    by_cases hlast:a+1=cs.length
    ·have hja:joinAt cs.length a+1=a:=by
      unfold joinAt
      rw[if_pos (by simpa using hlast)]
      have:¬(a=0):=fun e=>hne (by simp[e];omega)
      omega
     have:r=cs[a]:=by rw[←hjr];congr 1
     rw[this]
     omega
    ·have hja:joinAt cs.length a=a:=by unfold joinAt;rw[if_neg (by simpa using hlast)]
     have:l=cs[a]:=by rw[←hjl];congr 1
     rw[this]
     omega
   have h1:=ht l r hGl hGr hlr
   refine⟨?_,fun c hcm=>?_,?_,(hr.touch (hn l hGl).1).touch (hn r hGr).1⟩
   ·rw[jQb1 _ _ _ _ (by omega)]
    have:=h1.two
    omega
   ·rcases jQcB hcm with h | h
    ·exact hc c h
    ·exact h1.each c h
   ·rw[jQlQ f _ _ _ hj1,hjl,hjr]
    have:=h1.rows
    omega
  ·exact⟨h4,hc,Int.le_refl _,hr⟩
theorem jQj6 {α:Type}{f:α→Head}{sz:α→Nat}{tg:α→α→List α}{G:α→Prop}{K:Int}(hK:0≤K)(hn:∀c,G c→(f c).num≤K∧0≤(f c).rows∧sz c≤4)(ht:∀l r,G l→G r→sz l+sz r≤5→Parts f G (tg l r) ((f l).rows+(f r).rows)){g:α→Int→Trl→α×Trl}(hg:∀c p tr,G c→TameR K tr→G (g c p tr).1∧(f (g c p tr).1).rows≤(f c).rows∧TameR K (g c p tr).2){t:NodeF α}(h:TameF f G K t)(p:Int){tr:Trl}(hr:TameR K tr) :
  TameF f G K (delF f sz tg g t p tr).1∧(delF f sz tg g t p tr).1.hd.rows≤t.hd.rows∧TameR K (delF f sz tg g t p tr).2:=by
 have hp:∀c,G c→0≤(f c).rows:=fun c hc=>(hn c hc).2.1
 unfold delF
 split
 ·next hi =>
  split
  ·next c hc =>
   obtain⟨ha,hac⟩:=jQrC hc
   have hG:=h.each c (List.mem_of_getElem? hc)
   have h1:=hg c p _ hG (hr.touch h.num)
   have hk4:=h.kids
   have hlen:(exch t.kids (wayF f t.kids p) 1 [(g c p (touchR tr t.hd)).1]).length=t.kids.length:=by
    rw[jQb1 _ _ _ _ (by omega),List.length_singleton]
    omega
   have hmem:∀x∈exch t.kids (wayF f t.kids p) 1 [(g c p (touchR tr t.hd)).1],G x:=fun x hx=>by
    rcases jQcB hx with hx | hx
    ·exact h.each x hx
    ·rw[List.mem_singleton] at hx;subst hx;exact h1.1
   have hsum:sumRows2 f (exch t.kids (wayF f t.kids p) 1 [(g c p (touchR tr t.hd)).1])≤t.hd.rows:=by
    rw[jQek f _ _ _ ha,hac,jQ9,jQde,(h.inn hi).1]
    have:=h1.2.1
    omega
   split
   ·next hs =>
    have hat:(exch t.kids (wayF f t.kids p) 1 [(g c p (touchR tr t.hd)).1])[wayF f t.kids p]'(by omega)=(g c p (touchR tr t.hd)).1:=by
     have hmin:min (wayF f t.kids p) t.kids.length=wayF f t.kids p:=by omega
     simp[exch,List.getElem_append,hmin]
    have h2:=jQeK (f:=f) hn ht (by omega) hmem (a:=wayF f t.kids p) (by omega) (by rw[hat];exact hs) h1.2.2
    exact⟨jQcN hK h2.1 h2.2.1 hp,Int.le_trans h2.2.2.1 hsum,h2.2.2.2⟩
   ·exact⟨jQcN hK (by omega) hmem hp,hsum,h1.2.2⟩
  ·exact⟨h,Int.le_refl _,hr.touch h.num⟩
 ·next hi =>
  have hi2:t.hd.inner=false:=by simpa using hi
  have hl:=List.length_filter_le (fun e:Ent=>e.place != p) t.ents
  have h4:=h.ents
  refine⟨jQje hK (by omega) fun e he=>h.row e (List.mem_filter.1 he).1,?_,hr.touch h.num⟩
  have:=(h.lf hi2).1
  show((t.ents.filter fun e=>e.place != p).length:Int)≤_
  omega
theorem jQgB {K:Int}(hK:0≤K):∀(n:Nat) (t:Nd n) (p:Int) (tr:Trl),tameN K n t→TameR K tr→tameN K n (delN n t p tr).1∧(headN n (delN n t p tr).1).rows≤(headN n t).rows∧TameR K (delN n t p tr).2
 | 0,t,p,tr,h,hr=>by
  have h1:=jQj6 hK (sz:=fun e:Empty=>e.elim) (fun c=>c.elim) (tg:=fun e:Empty=>e.elim) (fun c=>c.elim) (g:=fun e:Empty=>e.elim) (fun c=>c.elim) h.at0 p hr
  refine⟨⟨h1.1,?_⟩,h1.2.1,h1.2.2⟩
  show(delF (fun e:Empty=>e.elim) (fun e:Empty=>e.elim) (fun e:Empty=>e.elim) (fun e:Empty=>e.elim) t p tr).1.hd.inner=false
  unfold delF
  rw[h.leaf0]
  rfl
 | n+1,t,p,tr,h,hr=>jQj6 hK (fun c hc=>⟨hc.head.1,hc.head.2.1,jQl1 hc⟩) (fun l r hl hr h5=>jQcL hK n l r hl hr h5) (fun c p tr hc hr=>jQgB hK n c p tr hc hr) h.at1 p hr
structure TameT (K m:Int)(X:NTree):Prop where
 t:tameN K X.d X.t
 rows:X.head.rows≤m
theorem TameT.put {K m:Int}(hK:0≤K){X:NTree}(h:TameT K m X){e:Ent}(he:e.row.size≤300){tr:Trl}(hr:TameR K tr):TameT K (m+1) (X.put e tr).1∧TameR K (X.put e tr).2:=by
 obtain⟨h1,h2⟩:=jQdR hK X.d X.t e tr h.t he hr
 refine⟨?_,h2⟩
 have hm:=h.rows
 have h1r:=h1.rows
 unfold NTree.head at hm
 unfold NTree.put
 simp only
 obtain⟨l,hl⟩:∃l,l=(putN X.d X.t e tr).1:=⟨_,rfl⟩
 rw[←hl] at h1 h1r ⊢
 unfold upN
 split
 ·next x =>
  refine⟨h1.each x (List.mem_cons_self ..),?_⟩
  rw[jQ9,jQde] at h1r
  unfold NTree.head
  simp only
  omega
 ·refine⟨jQcN hK (by have:=h1.two;omega) h1.each (fun c hc=>hc.head.2.1),?_⟩
  show sumRows2 (headN X.d) l≤_
  omega
theorem TameT.del {K m:Int}(hK:0≤K){X:NTree}(h:TameT K m X)(p:Int){tr:Trl}(hr:TameR K tr):TameT K m (X.del p tr).1∧TameR K (X.del p tr).2:=by
 obtain⟨h1,h2,h3⟩:=jQgB hK X.d X.t p tr h.t hr
 refine⟨?_,h3⟩
 have hm:=h.rows
 obtain⟨d,t⟩:=X
 unfold NTree.head at hm
 unfold NTree.del
 simp only at h1 h2 h3 hm ⊢
 obtain⟨y,hy⟩:∃y,y=(delN d t p tr).1:=⟨_,rfl⟩
 rw[←hy] at h1 h2 ⊢
 cases d with
 | zero=>exact⟨h1,Int.le_trans h2 hm⟩
 | succ n =>
  show TameT K m (if(NodeF.hd y).inner then(match NodeF.kids y with | [c]=>⟨n,c⟩ | _=>⟨n+1,y⟩) else⟨n+1,y⟩)
  split
  ·next hi =>
   split
   ·next c hc =>
    have h4:=h1.at1
    refine⟨h4.each c (by rw[hc];exact List.mem_cons_self ..),?_⟩
    have h5:=(h4.inn hi).1
    rw[hc,jQ9,jQde] at h5
    have h6:(headN (n+1) y).rows=(NodeF.hd y).rows:=rfl
    unfold NTree.head
    simp only
    omega
   ·exact⟨h1,Int.le_trans h2 hm⟩
  ·exact⟨h1,Int.le_trans h2 hm⟩
end Sq
section
open Go.RowKit
variable {Z:Nat→Prop}
theorem TFrm.grow {tb:Nat}{W wo w5:World}(h:TFrm tb W wo)(k:Below W.heap.size wo w5)(ht:tb≤W.heap.size):TFrm tb W w5 :=
 ⟨h.below.trans (k.mono ht),fun g c e fr hg h1 h2=>(k.block g (jQg hg)).trans (h.keep g c e fr hg h1 h2)⟩
def Keeps (e0:TypeId)(w w':World):Prop:=∀(q:Nat) (c:Array Value) (e:TypeId) (fr:Nat×Nat),w.heap[q]?=some (Obj.cells c e fr)→e≠e0→w'.heap[q]?=w.heap[q]?
theorem jQZ {e0:TypeId}{w w':World}(k:Keeps e0 w w'){B:Nat}{e:TypeId}{size:Nat}{v:Value}{n:Nat}{cs:List Value}(he:e≠e0)(h:w.ownsRow B e size v n cs):w'.ownsRow B e size v n cs:=by
 refine⟨h.1,?_⟩
 rcases h.2 with h0 | ⟨g,cap,cur,hv,hbg,hh,hn,hm,hc,ht⟩
 ·exact Or.inl h0
 ·exact Or.inr ⟨g,cap,cur,hv,hbg,(k g _ _ _ hh he).trans hh,hn,hm,hc,ht⟩
theorem TrAt.keeps {e0:TypeId}{tb:Nat}{w w':World}{tr:Sq.Trl}(h:TrAt tb w tr)(k:Keeps e0 w w')(h1:3≠e0)(h2:74≠e0):TrAt tb w' tr:=by
 obtain⟨v,hb,hown⟩:=h.row
 exact⟨⟨v,(k tb _ _ _ hb h2).trans hb,jQZ k h1 hown⟩,h.few⟩
theorem jQc9 {ops:Array Oper}{rest:List Oper}{o:Oper}{a:Act}{Q:Exit→Act→World→Prop}{w:World}(hgd:o.guard=none)(sl x:Operand)
  (ho:o.op=.call { callee:=.builtin .append,args:=#[sl,x],argTypes:=#[57,57] }) (B:Nat) (v:Value) (es:List Sq.Ent) (hs:a.eval sl=v) (hb:EntsAt B w v es)
  (e:Sq.Ent) (g c:Nat) (hx:a.eval x=.slice (some ⟨g,0,none⟩) 1 c) (hc0:w.cell? ⟨g,0,none⟩=some (.int .i64 e.place)) (hc1:w.cell? ⟨g,1,none⟩=some (.string e.row)) (h1:es.length+1≤1000000) (hB:B≤w.heap.size)
  (h:∀v' w',EntsAt B w' v' (es++[e])→Below B w w'→Keeps 141 w w'→wpList Tryz.prog ops Q rest (a.put o.dst v') w'):wpList Tryz.prog ops Q (o :: rest) a w:=by
 obtain⟨i0,hi,hz0,hz1,hz2⟩:=info_parts Tryz.infoEnt
 refine wpList_append_lies _ hgd sl x 57 ho B 141 i0 _ 2 24 Tryz.underlying57 hi hz0 hz1 hz2 rfl (by decide) v es.length _ hs hb ⟨g,0,none⟩ 1 c (entCells e) hx rfl (by
  intro j u hu
  rw[jQbt]
  match j,hu with
  | 0,hu=>simp[entCells] at hu;subst hu;exact hc0
  | 1,hu=>simp[entCells] at hu;subst hu;exact hc1
  | j+2,hu=>simp[entCells] at hu) (by intro u hu;simp[entCells] at hu;rcases hu with rfl | rfl <;> rfl) (by decide) (by unfold maxLen;omega) (by omega) hB _ rfl ?_
 intro g' cap w' ho' hg' _ _
 refine h _ w' ?_ (Tch.of_grown hg' (fun k hk=>(World.ownsRow.lt hb k hk).1) hB) (fun q c e fr hq he=>hg'.block q (jQg hq) (fun e2=>jQl hb hq (fun e3=>he e3.symm) e2.symm))
 unfold EntsAt
 rw[List.length_append,List.flatMap_append]
 simpa using ho'
theorem jQa6 {ops:Array Oper}{rest:List Oper}{o:Oper}{a:Act}{Q:Exit→Act→World→Prop}{w:World}(hgd:o.guard=none)(sl x:Operand)
  (ho:o.op=.call { callee:=.builtin .append,args:=#[sl,x],argTypes:=#[57,57] }) (B:Nat) (v:Value) (es:List Sq.Ent) (hs:a.eval sl=v) (hb:EntsAt B w v es)
  (m:List Sq.Ent) (sv:Value) (hx:a.eval x=sv) (hrd:Reads w sv m.length 2 (m.flatMap entCells)) (hm:0 < m.length) (h1:es.length+m.length≤1000000) (hB:B≤w.heap.size)
  (h:∀v' w',EntsAt B w' v' (es++m)→Below B w w'→Keeps 141 w w'→wpList Tryz.prog ops Q rest (a.put o.dst v') w'):wpList Tryz.prog ops Q (o :: rest) a w:=by
 obtain⟨i0,hi,hz0,hz1,hz2⟩:=info_parts Tryz.infoEnt
 rcases hrd.2 with⟨_,h0⟩ | ⟨g,off,cap,rfl,_,hc⟩
 ·omega
 refine wpList_append_lies _ hgd sl x 57 ho B 141 i0 _ 2 24 Tryz.underlying57 hi hz0 hz1 hz2 rfl (by decide) v es.length _ hs hb ⟨g,off,none⟩ m.length cap (m.flatMap entCells) hx hrd.1 (by
  intro j u hu
  rw[jQbt]
  exact hc j u hu) (jQeR m) hm (by unfold maxLen;omega) (by omega) hB _ rfl ?_
 intro g' cap w' ho' hg' _ _
 refine h _ w' ?_ (Tch.of_grown hg' (fun k hk=>(World.ownsRow.lt hb k hk).1) hB) (fun q c e fr hq he=>hg'.block q (jQg hq) (fun e2=>jQl hb hq (fun e3=>he e3.symm) e2.symm))
 unfold EntsAt
 rw[List.length_append,List.flatMap_append]
 exact ho'
def ThruSays (tb:Nat)(x:List Sq.Ent×Sq.Trl)(w:World)(e:Ending)(w':World):Prop:=∃v,e=.returned v∧EntsAt w.heap.size w' v x.1∧(x.1=[]→v=.slice none 0 0)∧TrAt tb w' x.2∧TFrm tb w w'
theorem jQfZ (n:Nat)(h:Sq.Head)(es:List Sq.Ent)(l:List (Sq.Nd n×Value×Value))(ev cv:Value)(lo hi:Int)(tb:Nat)(tr:Sq.Trl)(w:World)(G:Sq.Trl→Prop)(hes:EntsAt 0 w ev es)(hn:NodesAt Z 0 w cv n l)(hel:es.length≤1000)(hl:l.length≤1000)(ht:TrAt tb w tr)(hroom:tr.nums.length+1≤100000)(hG:G (Sq.touchR tr h))
  (ih:∀x∈l,∀w' tr',NodeAt Z w' n x.1 x.2.1 x.2.2→TrAt tb w' tr'→G tr'→((Sq.thruN n x.1 lo hi tr').1.length≤900∧G (Sq.thruN n x.1 lo hi tr').2)∧Calls Tryz.prog 103 #[.agg (nodeCells n x).toArray,.int .i64 lo,.int .i64 hi,.pointer (some ⟨tb,0,none⟩)] w' (ThruSays tb (Sq.thruN n x.1 lo hi tr') w')) :
  Calls Tryz.prog 103 #[.agg (headCells h ev cv).toArray,.int .i64 lo,.int .i64 hi,.pointer (some ⟨tb,0,none⟩)] w (ThruSays tb (Sq.thruF (Sq.headN n) (Sq.thruN n) ⟨h,es,l.map Prod.fst⟩ lo hi tr) w):=by
 obtain⟨eo,ecap,rfl⟩:=jQa hes
 obtain⟨co,ccap,rfl⟩:=jQa hn.own
 rw[jQc]
 have hlt:=ht.lt
 obtain⟨W,hWW⟩:∃W,W=w.alloc (.cells #[.bool h.inner,.slice eo es.length ecap,.slice co l.length ccap,.int .i64 h.least,.int .i64 h.rows,.string h.sl,.int .i64 h.num] 60):=⟨_,rfl⟩
 have hW:Below w.heap.size w W:=by rw[hWW];exact(Below.refl _ _).alloc (Nat.le_refl _) _
 have hWs:W.heap.size=w.heap.size+1:=by rw[hWW];exact jQo w _
 have hblk:W.heap[w.heap.size]?=some (.cells #[.bool h.inner,.slice eo es.length ecap,.slice co l.length ccap,.int .i64 h.least,.int .i64 h.rows,.string h.sl,.int .i64 h.num] 60):=by rw[hWW];exact jQk w _
 have HT:=hd (ht.below hW)
 have HF:Hid (TFrm tb w W):=TFrm.of hW (by omega)
 have HBLK:=hd hblk
 have HES:=hd (hes.below hW)
 have HN:=hd (hn.below hW)
 have IH:=hd ih
 have HG:=hd hG
 have HWS:=hd hWs
 obtain⟨a0,a1,a2,a3,a4,a5,a6⟩:=SevenAt.blk (h:=h) hblk
 simp only[Nat.zero_add] at a1 a2 a3 a4 a5 a6
 have hzw:=jQg hblk
 have HE:Hid (Sq.thruF (Sq.headN n) (Sq.thruN n) ⟨h,es,l.map Prod.fst⟩ lo hi tr=Sq.thruL (Sq.headN n) (fun c=>Sq.thruN n c lo hi) lo hi (l.map Prod.fst) (es.filter (Sq.inSpan lo hi),Sq.touchR tr h)):=rfl
 clear ht hW hblk hes hn ih hG hWs
 go_enter Tryz.func103,Tryz.ntmps103
 go_wp2_with fail
 rw[←hWW]
 clear hWW
 refine(jQam tb tr h _ _ W ⟨_,_,_,rfl⟩ ⟨_,_,_,rfl⟩ HT.out hroom).mono ?_
 rintro e w1 ⟨rfl,ht1,hf1⟩
 obtain⟨tr1,htr1⟩:∃x,x=Sq.touchR tr h:=⟨_,rfl⟩
 have he:=HE.out
 have hg:=HG.out
 rw[←htr1] at ht1 he hg
 have T1:=hd ht1
 have F1:=hd hf1
 have G1:=hd hg
 have HE1:=hd he
 clear a0 a1 a2 a3 a4 a5 a6 hzw HT ht1 hf1 htr1 he hg HE HG hroom
 go_wp2
 go_loopw [9,10] (fun v i wr=>∃k:Nat,∃acc:List Sq.Ent,k≤es.length∧i=.int .i64 k∧EntsAt (w.heap.size+1) wr v acc∧(acc=[]→v=.slice none 0 0)∧acc.length≤k∧Hid (es.filter (Sq.inSpan lo hi)=acc++(es.drop k).filter (Sq.inSpan lo hi))∧TrAt tb wr tr1∧TFrm tb W wr) (fun _ i _=>es.length - (intOf i).toNat)
 case atStart=>exact⟨0,[],Nat.zero_le _,rfl,World.ownsRow_nil _ _ _ _,fun _=>rfl,Nat.le_refl _,rfl,T1.out,F1.out⟩
 case round =>
  obtain⟨j,ac,hj,rfl,hac,hnil,hacl,hr2,ht2,hf2⟩:=hrel
  obtain⟨wo,rfl⟩:∃wo:World,wo=wr:=⟨_,rfl⟩
  obtain⟨yo,ycap,rfl⟩:=jQa hac
  have hblk1:=(hf2.keep w.heap.size _ _ _ HBLK.out (by decide) (by decide)).trans HBLK.out
  obtain⟨n0,n1,n2,n3,n4,n5,n6⟩:=SevenAt.blk (h:=h) hblk1
  simp only[Nat.zero_add] at n1 n2 n3 n4 n5 n6
  have hzw:=jQg hblk1
  have hzt:=ht2.lt
  have HAC:=hd hac
  have HNIL:=hd hnil
  have T2:=hd ht2
  have F2:=hd hf2
  have HES2:=hd (HES.out.tfrm hf2)
  clear hac hnil ht2 hf2 hblk1 n0 n3 n4 n5 n6
  by_cases hjt:j < es.length
  ·obtain⟨g4,cap4,hv,hg4,c0,c1⟩:=HES2.out.at j hjt
   simp only[Value.slice.injEq] at hv
   obtain⟨rfl,-,rfl⟩:=hv
   have HFD:=hd (Sq.jQdZ (Sq.inSpan lo hi) es j hjt)
   obtain⟨y,hy⟩:∃x,x=es[j]:=⟨_,rfl⟩
   have hfd:=HFD.out
   rw[←hy] at c0 c1 hfd
   have HFD2:=hd hfd
   have i1:¬((es.length:Int)≤(j:Int)):=by omega
   clear hfd HFD hy n2
   by_cases hlo:lo≤y.place
   ·have i2:decide (lo≤y.place)=true:=by simpa using hlo
    by_cases hhi:y.place≤hi
    ·have i3:decide (y.place≤hi)=true:=by simpa using hhi
     have HR2:Hid (es.filter (Sq.inSpan lo hi)=(ac++[y])++(es.drop (j+1)).filter (Sq.inSpan lo hi)):=by show _=_;rw[hr2.out,HFD2.out];simp[Sq.inSpan,hlo,hhi]
     have hA:Below wo.heap.size wo (wo.alloc (.cells #[.int .i64 y.place,.string y.row] 141)):=(Below.refl _ _).alloc (Nat.le_refl _) _
     have HA4:=hd (HAC.out.below hA)
     have HA:=hd hA
     clear hr2 HFD2 hA
     go_wp2_with (at_builtin;refine jQc9 rfl (.tmp 41) (.tmp 47) rfl (w.heap.size+1) _ ac rfl HA4.out y wo.heap.size 1 rfl (by simp[go_sem]) (by simp[go_sem]) (by omega) (by simp;omega) ?_;intro v5 w5 hown5 hb5 hk5;have HO5:=hd hown5;have HB5:=hd hb5;have HK5:=hd hk5;clear hown5 hb5 hk5)
     go_roundw
     case rel=>exact⟨j+1,ac++[y],by omega,by go_num,HO5.out,fun h=>by simp at h,by rw[List.length_append];simp;omega,HR2,(T2.out.below HA.out).keeps HK5.out (by decide) (by decide),(F2.out.grow (HA.out.mono (by rw[HWS.out];omega)) (by rw[HWS.out];omega)).grow (by rw[HWS.out];exact HB5.out) (by rw[HWS.out];omega)⟩
     case measure=>simp[intOf];omega
    ·have i3:decide (y.place≤hi)=false:=by simpa using hhi
     have HR2:Hid (es.filter (Sq.inSpan lo hi)=ac++(es.drop (j+1)).filter (Sq.inSpan lo hi)):=by show _=_;rw[hr2.out,HFD2.out];simp[Sq.inSpan,hlo,hhi]
     clear hr2 HFD2
     go_wp2
     go_roundw
     case rel=>exact⟨j+1,ac,by omega,by go_num,HAC.out,HNIL.out,by omega,HR2,T2.out,F2.out⟩
     case measure=>simp[intOf];omega
   ·have i2:decide (lo≤y.place)=false:=by simpa using hlo
    have HR2:Hid (es.filter (Sq.inSpan lo hi)=ac++(es.drop (j+1)).filter (Sq.inSpan lo hi)):=by show _=_;rw[hr2.out,HFD2.out];simp[Sq.inSpan,hlo]
    clear hr2 HFD2
    go_wp2
    go_roundw
    case rel=>exact⟨j+1,ac,by omega,by go_num,HAC.out,HNIL.out,by omega,HR2,T2.out,F2.out⟩
    case measure=>simp[intOf];omega
  ·have hE2:es.filter (Sq.inSpan lo hi)=ac:=by rw[hr2.out,List.drop_eq_nil_of_le (by omega)];simp
   have he:=HE1.out
   rw[hE2] at he
   have HE2:=hd he
   clear hr2 hE2 he HE1
   go_wp2
   go_loopw [9,11] (fun v i wr=>∃k:Nat,∃acc:List Sq.Ent,∃trk:Sq.Trl,k≤l.length∧i=.int .i64 k∧EntsAt (w.heap.size+1) wr v acc∧(acc=[]→v=.slice none 0 0)∧acc.length≤1000+900 * k∧Hid (Sq.thruF (Sq.headN n) (Sq.thruN n) ⟨h,es,l.map Prod.fst⟩ lo hi tr=Sq.thruL (Sq.headN n) (fun c=>Sq.thruN n c lo hi) lo hi ((l.map Prod.fst).drop k) (acc,trk))∧TrAt tb wr trk∧TFrm tb W wr∧Hid (G trk)) (fun _ i _=>l.length - (intOf i).toNat)
   case atStart=>exact⟨0,ac,tr1,Nat.zero_le _,rfl,HAC.out,HNIL.out,by omega,HE2,T2.out,F2.out,G1⟩
   case round =>
    clear HAC HNIL T2 F2 HES2 n1 n2 hzw hzt hjt hj hacl HE2 T1 F1 G1
    obtain⟨k,ac2,trk,hk,rfl,hac,hnil,hacl2,hr2,ht2,hf2,hgk⟩:=hrel
    obtain⟨wq,rfl⟩:∃wo:World,wo=wr:=⟨_,rfl⟩
    obtain⟨zo,zcap,rfl⟩:=jQa hac
    have hblk1:=(hf2.keep w.heap.size _ _ _ HBLK.out (by decide) (by decide)).trans HBLK.out
    obtain⟨n0,n1,n2,n3,n4,n5,n6⟩:=SevenAt.blk (h:=h) hblk1
    simp only[Nat.zero_add] at n1 n2 n3 n4 n5 n6
    have hzw:=jQg hblk1
    have hzt:=ht2.lt
    have HAC:=hd hac
    have HNIL:=hd hnil
    have T2:=hd ht2
    have F2:=hd hf2
    have HN2:=hd (HN.out.tfrm hf2)
    have HB1:=hd hblk1
    clear hac hnil ht2 hf2 hblk1
    by_cases hkt:k < l.length
    ·have hst:=jQlI (Sq.headN n) (fun c=>Sq.thruN n c lo hi) lo hi (l.map Prod.fst) k (by simpa using hkt) (ac2,trk)
     rw[List.getElem_map] at hst
     obtain⟨mb,hmb⟩:∃x,x=mayF (Sq.headN n) lo hi ((l.map Prod.fst).drop k):=⟨_,rfl⟩
     rw[←hmb] at hst
     have HST:=hd hst
     have HMB:=hd hmb
     clear hst hmb
     go_wp2_with fail
     refine(jQkK n l k lo hi h _ _ _ ⟨_,_,_,rfl⟩ HN2.out hl hkt).mono ?_
     rintro e w2 ⟨rfl,hb2⟩
     rw[←HMB.out]
     have hblk2:=(hb2.block w.heap.size hzw).trans HB1.out
     have b2:w2.cell? ⟨w.heap.size,2,none⟩=some (.slice co l.length ccap):=by rw[jQb hblk2];rfl
     have hzw2:=jQg hblk2
     have T3:=hd (T2.out.below hb2)
     have F3:Hid (TFrm tb W w2):=F2.out.trans (TFrm.of hb2 (by omega))
     have HAC2:=hd (HAC.out.below hb2)
     have HN3:=hd (HN2.out.below hb2)
     clear hb2 hblk2 n0 n1 n2 n3 n4 n5 n6 HB1 T2 F2 HAC HN2 hzw hzt
     cases mb
     case false =>
      have HR2:Hid (Sq.thruF (Sq.headN n) (Sq.thruN n) ⟨h,es,l.map Prod.fst⟩ lo hi tr=Sq.thruL (Sq.headN n) (fun c=>Sq.thruN n c lo hi) lo hi ((l.map Prod.fst).drop (k+1)) (ac2,trk)):=by show _=_;rw[hr2.out,HST.out];simp
      clear hr2 HST
      go_wp2
      go_roundw
      case rel=>exact⟨k+1,ac2,trk,by omega,by go_num,HAC2.out,HNIL.out,by omega,HR2,T3.out,F3.out,hgk⟩
      case measure=>simp[intOf];omega
     case true =>
      obtain⟨g,cap',ea,el,ec,ca,cl,cc,hv,hg,⟨d0,d1,d2,d3,d4,dsl,dnu⟩,d5,d6⟩:=HN3.out.at k hkt
      simp only[Value.slice.injEq] at hv
      obtain⟨rfl,-,rfl⟩:=hv
      have hmem:=List.getElem_mem hkt
      have hst:=HST.out
      obtain⟨x,hx⟩:∃x,x=l[k]:=⟨_,rfl⟩
      rw[←hx] at hst d0 d3 d4 dsl dnu d5 d6 hmem
      obtain⟨t,evx,cvx⟩:=x
      simp only[Prod.mk.injEq] at d5
      obtain⟨rfl,rfl⟩:=d5
      obtain⟨⟨hlen,hgn⟩,hcall⟩:=IH.out _ hmem _ _ d6 T3.out hgk.out
      simp only at hlen hgn hcall
      obtain⟨m,hm⟩:∃x,x=Sq.thruN n t lo hi trk:=⟨_,rfl⟩
      simp only[if_true] at hst
      rw[←hm] at hst hlen hgn hcall
      have HR2:Hid (Sq.thruF (Sq.headN n) (Sq.thruN n) ⟨h,es,l.map Prod.fst⟩ lo hi tr=Sq.thruL (Sq.headN n) (fun c=>Sq.thruN n c lo hi) lo hi ((l.map Prod.fst).drop (k+1)) (ac2++m.1,m.2)):=by show _=_;rw[hr2.out,hst]
      have HC:=hd hcall
      have HGN:=hd hgn
      have i1:¬((l.length:Int)≤(k:Int)):=by omega
      clear hst hm hmem HST d6 hr2 hcall hgn hx
      go_wp2_with fail
      refine HC.out.mono ?_
      rintro e w3 ⟨v3,rfl,ho3,hn3,ht3,hf3⟩
      have hz3:=hf3.below.size
      have HAC3:=hd (HAC2.out.tfrm hf3)
      have T4:=hd ht3
      have F4:Hid (TFrm tb W w3):=F3.out.trans hf3
      have hsz:=F4.out.below.size
      rw[HWS.out] at hsz
      obtain⟨m1,m2⟩:=m
      simp only at hlen ho3 hn3
      clear ht3 hf3 HC T3 F3 HAC2 HN3 d0 d1 d2 d3 d4 dsl dnu b2 hzw2
      by_cases hm0:m1=[]
      ·have hv3:=hn3 hm0
       subst hv3
       subst hm0
       have HR3:Hid (Sq.thruF (Sq.headN n) (Sq.thruN n) ⟨h,es,l.map Prod.fst⟩ lo hi tr=Sq.thruL (Sq.headN n) (fun c=>Sq.thruN n c lo hi) lo hi ((l.map Prod.fst).drop (k+1)) (ac2,m2)):=by have:=HR2.out;simp only[List.append_nil] at this;exact this
       obtain⟨i0,hi0,hz0,hz1,hz2⟩:=info_parts Tryz.infoEnt
       clear HR2 ho3 hn3
       go_wp2_with (at_builtin;refine wpList_append_own_none rfl (.tmp 70) (.tmp 71) 57 rfl (w.heap.size+1) 141 i0 2 Tryz.underlying57 hi0 _ ac2.length _ rfl HAC3.out rfl ?_)
       go_roundw
       case rel=>exact⟨k+1,ac2,m2,by omega,by go_num,HAC3.out,HNIL.out,by omega,HR3,T4.out,F4.out,HGN⟩
       case measure=>simp[intOf];omega
      ·have hmp:0 < m1.length:=by cases m1 with | nil=>exact absurd rfl hm0 | cons x r=>simp
       obtain⟨qo,qcap,rfl⟩:=jQa ho3
       have HRD:=hd (Reads.of_own ho3)
       have hne:ac2++m1≠[]:=by simp[hm0]
       have HNE:=hd hne
       clear ho3 hn3 hne
       go_wp2_with (at_builtin;refine jQa6 rfl (.tmp 70) (.tmp 71) rfl (w.heap.size+1) _ ac2 rfl HAC3.out m1 _ rfl HRD.out hmp (by omega) (by omega) ?_;intro v5 w5 hown5 hb5 hk5;have HO5:=hd hown5;have HB5:=hd hb5;have HK5:=hd hk5;clear hown5 hb5 hk5)
       go_roundw
       case rel=>exact⟨k+1,ac2++m1,m2,by omega,by go_num,HO5.out,fun h=>absurd h HNE.out,by rw[List.length_append];omega,HR2,T4.out.keeps HK5.out (by decide) (by decide),F4.out.grow (by rw[HWS.out];exact HB5.out) (by rw[HWS.out];omega),HGN⟩
       case measure=>simp[intOf];omega
    ·have HE2:Hid (Sq.thruF (Sq.headN n) (Sq.thruN n) ⟨h,es,l.map Prod.fst⟩ lo hi tr=(ac2,trk)):=by show _=_;rw[hr2.out,List.drop_eq_nil_of_le (by simp;omega)];rfl
     clear hr2
     go_wp2
     go_ret
     exact⟨_,rfl,by rw[HE2.out];exact HAC.out.base (by omega),by rw[HE2.out];exact HNIL.out,by rw[HE2.out];exact T2.out,HF.out.trans F2.out⟩
theorem jQof (t:Sq.NodeF Empty)(lo hi:Int)(tr:Sq.Trl):Sq.thruF (Sq.headN 0) (Sq.thruN 0) ⟨t.hd,t.ents,[]⟩ lo hi tr=Sq.thruN 0 t lo hi tr:=by
 obtain⟨h,es,ks⟩:=t
 cases ks with
 | nil=>rfl
 | cons e _=>exact e.elim
theorem jQpp {n:Nat}{t:Sq.NodeF (Sq.Nd n)}{c:Sq.Nd n}(hc:c∈t.kids):Sq.countN n c≤Sq.countN (n+1) t:=by
 show _≤Sq.countF (Sq.countN n) t
 unfold Sq.countF
 have:=Sq.jQpJ (Sq.countN n) hc
 omega
theorem jQds (K:Int)(hK:K≤99999)(lo hi:Int)(tb:Nat):∀(n:Nat) (t:Sq.Nd n) (ev cv:Value) (tr:Sq.Trl) (w:World),NodeAt Z w n t ev cv→Sq.tameN K n t→Sq.countN n t≤900→TrAt tb w tr→Sq.TameR K tr →
  Calls Tryz.prog 103 #[.agg (headCells (Sq.headN n t) ev cv).toArray,.int .i64 lo,.int .i64 hi,.pointer (some ⟨tb,0,none⟩)] w (ThruSays tb (Sq.thruN n t lo hi tr) w)
 | 0,t,ev,cv,tr,w,h,hf,hc,ht,hr=>by
  obtain⟨h1,rfl⟩:=h.leaf
  have hlen:=hr.len
  have he4:=hf.at0.ents
  have hg:=jQfZ (Z:=Z) 0 (Sq.NodeF.hd t) (Sq.NodeF.ents t) [] ev (.slice none 0 0) lo hi tb tr w (fun _=>True) h1 ⟨World.ownsRow_nil _ _ _ _,fun x hx=>by cases hx⟩ (by omega) (Nat.zero_le _) ht (by omega) trivial (fun x hx=>by cases hx)
  have e:=jQof t lo hi tr
  simp only[List.map_nil] at hg
  rw[e] at hg
  exact hg
 | n+1,t,ev,cv,tr,w,h,hf,hc,ht,hr=>by
  obtain⟨h1,l,h2,h3⟩:=h.inner
  have hlen:=hr.len
  have hf1:=hf.at1
  have he4:=hf1.ents
  have hk4:=hf1.kids
  have heach:=hf1.each
  have hcount:∀c∈Sq.NodeF.kids t,Sq.countN n c≤900:=fun c hcm=>Nat.le_trans (jQpp hcm) hc
  rw[h2] at hk4 heach hcount
  rw[List.length_map] at hk4
  have hg:=jQfZ (Z:=Z) n (Sq.NodeF.hd t) (Sq.NodeF.ents t) l ev cv lo hi tb tr w (Sq.TameR K) h1 h3 (by omega) (by omega) ht (by omega) (hr.touch hf1.num) (fun x hx w' tr' hn' ht' hg'=>by
   have hmx:x.1∈l.map Prod.fst:=List.mem_map.2 ⟨x,hx,rfl⟩
   have h5:=Sq.jQaW n x.1 lo hi tr' (heach x.1 hmx) hg'
   exact⟨⟨Nat.le_trans h5.2 (hcount x.1 hmx),h5.1⟩,jQds K hK lo hi tb n x.1 x.2.1 x.2.2 tr' w' hn' (heach x.1 hmx) (hcount x.1 hmx) ht' hg'⟩)
  rw[←h2] at hg
  exact hg
theorem jQp5 (K:Int)(hK:K≤99999)(p:Int)(tb:Nat):∀(n:Nat) (t:Sq.Nd n) (ev cv:Value) (tr:Sq.Trl) (w:World),NodeAt Z w n t ev cv→Sq.tameN K n t→TrAt tb w tr→Sq.TameR K tr →
  Calls Tryz.prog 153 #[.agg (headCells (Sq.headN n t) ev cv).toArray,.int .i64 p,.pointer (some ⟨tb,0,none⟩)] w (HasSays tb n t p tr w)
 | 0,t,ev,cv,tr,w,h,hf,ht,hr=>by
  obtain⟨h1,rfl⟩:=h.leaf
  have hlen:=hr.len
  have he4:=hf.at0.ents
  have hg:=jQp4 (Z:=Z) 0 (Sq.NodeF.hd t) (Sq.NodeF.ents t) [] ev (.slice none 0 0) p tb tr w h1 ⟨World.ownsRow_nil _ _ _ _,fun x hx=>by cases hx⟩ (by omega) (Nat.zero_le _) ht (by omega) (fun x hx=>by cases hx)
  have e:=jQqY t p tr
  simp only[List.map_nil] at hg
  rw[e] at hg
  exact hg
 | n+1,t,ev,cv,tr,w,h,hf,ht,hr=>by
  obtain⟨h1,l,h2,h3⟩:=h.inner
  have hlen:=hr.len
  have hf1:=hf.at1
  have he4:=hf1.ents
  have hk4:=hf1.kids
  have heach:=hf1.each
  rw[h2] at hk4 heach
  rw[List.length_map] at hk4
  have hg:=jQp4 (Z:=Z) n (Sq.NodeF.hd t) (Sq.NodeF.ents t) l ev cv p tb tr w h1 h3 (by omega) (by omega) ht (by omega) (fun x hx w' hn' ht'=>jQp5 K hK p tb n x.1 x.2.1 x.2.2 _ w' hn' (heach x.1 (List.mem_map.2 ⟨x,hx,rfl⟩)) ht' (hr.touch hf1.num))
  rw[←h2] at hg
  exact hg
end
section
open Go.RowKit
variable {Z:Nat→Prop}
def leafM:(m:Nat)→List Sq.Ent→Sq.Nd m
 | 0,es=>Sq.leafF es
 | _+1,es=>Sq.leafF es
def leavesM (m:Nat)(es:List Sq.Ent):List (Sq.Nd m):=(Sq.halve es).map (leafM m)
theorem jQhF:∀(m:Nat) (es:List Sq.Ent),Sq.headN m (leafM m es)=(Sq.leafF (α:=Empty) es).hd
 | 0,_=>rfl
 | _+1,_=>rfl
theorem jQhw {w:World}:∀(m:Nat) {es:List Sq.Ent} {ev cv:Value},NodeAt Z w 0 (Sq.leafF es) ev cv→NodeAt Z w m (leafM m es) ev cv
 | 0,_,_,_,h=>h
 | _+1,_,_,_,h=>by
  obtain⟨h1,rfl⟩:=h.leaf
  exact⟨h1,[],rfl,World.ownsRow_nil _ _ _ _,fun g o p k c hv=>by simp at hv,fun x hx=>by cases hx⟩
theorem jQdj (m:Nat){B:Nat}{w:World}{v:Value}{hs:List (List Sq.Ent)}{l:List (Sq.Nd 0×Value×Value)}(h:l.map Prod.fst=hs.map Sq.leafF)(hn:NodesAt Z B w v 0 l) :
  ∃l':List (Sq.Nd m×Value×Value),l'.map Prod.fst=hs.map (leafM m)∧NodesAt Z B w v m l':=by
 have hx:∀x∈l,∃es,x.1=Sq.leafF es:=fun x hx=>by
  have h1:x.1∈l.map Prod.fst:=List.mem_map.2 ⟨x,hx,rfl⟩
  rw[h] at h1
  obtain⟨es,_,he⟩:=List.mem_map.1 h1
  exact⟨es,he.symm⟩
 have hcell:(l.map fun x=>(leafM m (Sq.NodeF.ents x.1),x.2)).flatMap (nodeCells m)=l.flatMap (nodeCells 0):=by
  rw[List.flatMap_map]
  have:∀k:List (Sq.Nd 0×Value×Value),(∀x∈k,∃es,x.1=Sq.leafF es)→k.flatMap (fun x=>nodeCells m (leafM m (Sq.NodeF.ents x.1),x.2))=k.flatMap (nodeCells 0):=by
   intro k
   induction k with
   | nil=>intro _;rfl
   | cons a r ih =>
    intro hk
    rw[List.flatMap_cons,List.flatMap_cons,ih fun x hx=>hk x (List.mem_cons_of_mem _ hx)]
    obtain⟨es,he⟩:=hk a (List.mem_cons_self ..)
    congr 1
    unfold nodeCells
    rw[jQhF,he]
    rfl
  exact this l hx
 refine⟨l.map fun x=>(leafM m (Sq.NodeF.ents x.1),x.2),?_,⟨?_,fun y hy=>?_⟩⟩
 ·have e1:(l.map fun x=>(leafM m (Sq.NodeF.ents x.1),x.2)).map Prod.fst=(l.map Prod.fst).map fun t=>leafM m (Sq.NodeF.ents t):=by rw[List.map_map,List.map_map];rfl
  rw[e1,h,List.map_map]
  rfl
 ·rw[hcell,List.length_map]
  exact hn.own
 ·obtain⟨x,hxl,rfl⟩:=List.mem_map.1 hy
  obtain⟨es,he⟩:=hx x hxl
  have h2:=hn.each x hxl
  rw[he] at h2
  simp only[he]
  exact jQhw m h2
def PutSays (Z:Nat→Prop)(tb m:Nat)(x:List (Sq.Nd m)×Sq.Trl)(w:World)(e:Ending)(w':World):Prop:=∃v l,e=.returned v∧l.map Prod.fst=x.1∧NodesAt Z w.heap.size w' v m l∧TrAt tb w' x.2∧TFrm tb w w'
theorem TFrm.below_lt {tb:Nat}{w w':World}(h:TFrm tb w w'):w.heap.size≤w'.heap.size:=h.below.size
theorem jQmg (m:Nat)(h:Sq.Head)(es:List Sq.Ent)(ev cv:Value)(x:Sq.Ent)(tb:Nat)(tr:Sq.Trl)(w:World)(hin:h.inner=false)(hes:EntsAt 0 w ev es)(hcv:∃a k c,cv=.slice a k c)(hel:es.length≤900)(ht:TrAt tb w tr)(hroom:tr.nums.length+1≤100000) :
  Calls Tryz.prog 168 #[.agg (headCells h ev cv).toArray,.agg #[.int .i64 x.place,.string x.row],.pointer (some ⟨tb,0,none⟩)] w (PutSays Z tb m (leavesM m (Sq.withE es x),Sq.touchR tr h) w):=by
 obtain⟨eo,ecap,rfl⟩:=jQa hes
 obtain⟨co,cl,ccap,rfl⟩:=hcv
 rw[jQc]
 have hlt:=ht.lt
 have HIN:=hd hin
 clear hin
 obtain⟨W,hWW⟩:∃W,W=(w.alloc (.cells #[.bool h.inner,.slice eo es.length ecap,.slice co cl ccap,.int .i64 h.least,.int .i64 h.rows,.string h.sl,.int .i64 h.num] 60)).alloc (.cells #[.int .i64 x.place,.string x.row] 141):=⟨_,rfl⟩
 have hW:Below w.heap.size w W:=by rw[hWW];exact((Below.refl _ _).alloc (Nat.le_refl _) _).alloc (by simp) _
 have hblk:W.heap[w.heap.size]?=some (.cells #[.bool h.inner,.slice eo es.length ecap,.slice co cl ccap,.int .i64 h.least,.int .i64 h.rows,.string h.sl,.int .i64 h.num] 60):=by
  rw[hWW]
  exact(((Below.refl _ _).alloc (Nat.le_refl _) _).block w.heap.size (by simp)).trans (jQk w _)
 have hbe:W.heap[w.heap.size+1]?=some (.cells #[.int .i64 x.place,.string x.row] 141):=by
  rw[hWW,←jQo w (.cells #[.bool h.inner,.slice eo es.length ecap,.slice co cl ccap,.int .i64 h.least,.int .i64 h.rows,.string h.sl,.int .i64 h.num] 60)]
  exact jQk _ _
 have HT:=hd (ht.below hW)
 have HF:Hid (TFrm tb w W):=TFrm.of hW (by omega)
 have HBLK:=hd hblk
 have HBE:=hd hbe
 have HES:=hd (hes.below hW)
 obtain⟨a0,a1,a2,a3,a4,a5,a6⟩:=SevenAt.blk (h:=h) hblk
 simp only[Nat.zero_add] at a1 a2 a3 a4 a5 a6
 have hzw:=jQg hblk
 clear ht hW hblk hbe hes
 go_enter Tryz.func168,Tryz.ntmps168
 go_wp2_with fail
 rw[←hWW]
 clear hWW
 refine(jQam tb tr h _ _ W ⟨_,_,_,rfl⟩ ⟨_,_,_,rfl⟩ HT.out hroom).mono ?_
 rintro e w1 ⟨rfl,ht1,hf1⟩
 have hblk1:=(hf1.keep w.heap.size _ _ _ HBLK.out (by decide) (by decide)).trans HBLK.out
 have hbe1:=(hf1.keep (w.heap.size+1) _ _ _ HBE.out (by decide) (by decide)).trans HBE.out
 have T1:=hd ht1
 have F1:Hid (TFrm tb w w1):=HF.out.trans hf1
 have ES1:=hd (HES.out.tfrm hf1)
 obtain⟨n0,n1,n2,n3,n4,n5,n6⟩:=SevenAt.blk (h:=h) hblk1
 simp only[Nat.zero_add] at n1 n2 n3 n4 n5 n6
 rw[HIN.out] at n0
 have hz1w:=jQg hblk1
 have hz1e:=jQg hbe1
 have b0:w1.cell? ⟨w.heap.size+1,0,none⟩=some (.int .i64 x.place):=by rw[jQb hbe1];rfl
 have b1:w1.cell? ⟨w.heap.size+1,1,none⟩=some (.string x.row):=by rw[jQb hbe1];rfl
 have hwl:=Sq.jQf2 es x
 have hs1:=F1.out.below_lt
 have HWL:=hd hwl
 clear a0 a1 a2 a3 a4 a5 a6 hzw HT HF HBLK HBE HES ht1 hf1 hblk1 hbe1 hwl n2 n3 n4 n5 n6
 go_wp2_with fail
 refine(jQp6 es x _ _ ES1.out (by omega)).mono ?_
 rintro e w2 ⟨v2,rfl,ho2,hb2⟩
 have T2:=hd (T1.out.below hb2)
 have F2:Hid (TFrm tb w w2):=F1.out.trans (TFrm.of hb2 (by have:=T1.out.lt;omega))
 have hs2:=hb2.size
 have HO2:=hd ho2
 clear hb2 ho2
 go_wp2_with fail
 refine(jQeG (Z:=Z) _ _ _ (HO2.out.base (Nat.zero_le _)) (by have:=HWL.out;omega)).mono ?_
 rintro e w3 ⟨v3,l,rfl,hm,hn,hb3⟩
 obtain⟨l',hm',hn'⟩:=jQdj m hm hn
 have T3:=hd (T2.out.below hb3)
 have F3:Hid (TFrm tb w w3):=F2.out.trans (TFrm.of hb3 (by have:=T2.out.lt;omega))
 have HN':=hd (hn'.base (B':=w.heap.size) (by omega))
 have HM':=hd hm'
 clear hm hn hb3 hm' hn'
 go_wp2
 go_ret
 exact⟨_,l',rfl,HM'.out,HN'.out,T3.out,F3.out⟩
theorem jQmf (m:Nat)(h:Sq.Head)(ev cv:Value)(x:Sq.Ent)(tb:Nat)(tr:Sq.Trl)(w:World)(hin:h.inner=true)(hev:∃a k c,ev=.slice a k c)(hn:NodesAt Z 0 w cv 0 [])(ht:TrAt tb w tr)(hroom:tr.nums.length+1≤100000) :
  Calls Tryz.prog 168 #[.agg (headCells h ev cv).toArray,.agg #[.int .i64 x.place,.string x.row],.pointer (some ⟨tb,0,none⟩)] w (PutSays Z tb m (leavesM m [x],Sq.touchR tr h) w):=by
 obtain⟨eo,el,ecap,rfl⟩:=hev
 obtain⟨co,ccap,hcv⟩:=jQa hn.own
 have hcv':cv=.slice co 0 ccap:=hcv
 clear hcv
 subst hcv'
 rw[jQc]
 have hlt:=ht.lt
 have HIN:=hd hin
 clear hin
 obtain⟨W,hWW⟩:∃W,W=(w.alloc (.cells #[.bool h.inner,.slice eo el ecap,.slice co 0 ccap,.int .i64 h.least,.int .i64 h.rows,.string h.sl,.int .i64 h.num] 60)).alloc (.cells #[.int .i64 x.place,.string x.row] 141):=⟨_,rfl⟩
 have hW:Below w.heap.size w W:=by rw[hWW];exact((Below.refl _ _).alloc (Nat.le_refl _) _).alloc (by simp) _
 have hblk:W.heap[w.heap.size]?=some (.cells #[.bool h.inner,.slice eo el ecap,.slice co 0 ccap,.int .i64 h.least,.int .i64 h.rows,.string h.sl,.int .i64 h.num] 60):=by
  rw[hWW]
  exact(((Below.refl _ _).alloc (Nat.le_refl _) _).block w.heap.size (by simp)).trans (jQk w _)
 have hbe:W.heap[w.heap.size+1]?=some (.cells #[.int .i64 x.place,.string x.row] 141):=by
  rw[hWW,←jQo w (.cells #[.bool h.inner,.slice eo el ecap,.slice co 0 ccap,.int .i64 h.least,.int .i64 h.rows,.string h.sl,.int .i64 h.num] 60)]
  exact jQk _ _
 have HT:=hd (ht.below hW)
 have HF:Hid (TFrm tb w W):=TFrm.of hW (by omega)
 have HBLK:=hd hblk
 have HBE:=hd hbe
 have HN:=hd (hn.below hW)
 obtain⟨a0,a1,a2,a3,a4,a5,a6⟩:=SevenAt.blk (h:=h) hblk
 simp only[Nat.zero_add] at a1 a2 a3 a4 a5 a6
 have hzw:=jQg hblk
 clear ht hW hblk hbe hn
 go_enter Tryz.func168,Tryz.ntmps168
 go_wp2_with fail
 rw[←hWW]
 clear hWW
 refine(jQam tb tr h _ _ W ⟨_,_,_,rfl⟩ ⟨_,_,_,rfl⟩ HT.out hroom).mono ?_
 rintro e w1 ⟨rfl,ht1,hf1⟩
 have hblk1:=(hf1.keep w.heap.size _ _ _ HBLK.out (by decide) (by decide)).trans HBLK.out
 have hbe1:=(hf1.keep (w.heap.size+1) _ _ _ HBE.out (by decide) (by decide)).trans HBE.out
 have T1:=hd ht1
 have F1:Hid (TFrm tb w w1):=HF.out.trans hf1
 have N1:=hd (HN.out.tfrm hf1)
 obtain⟨n0,n1,n2,n3,n4,n5,n6⟩:=SevenAt.blk (h:=h) hblk1
 simp only[Nat.zero_add] at n1 n2 n3 n4 n5 n6
 rw[HIN.out] at n0
 have hz1w:=jQg hblk1
 have hz1e:=jQg hbe1
 have b0:w1.cell? ⟨w.heap.size+1,0,none⟩=some (.int .i64 x.place):=by rw[jQb hbe1];rfl
 have hs1:=F1.out.below_lt
 have HBE1:=hd hbe1
 clear a0 a1 a2 a3 a4 a5 a6 hzw HT HF HBLK HBE HN ht1 hf1 hblk1 hbe1
 go_wp2_with fail
 refine(jQgY 0 [] x.place ⟨true,h.least,h.rows,h.sl,h.num⟩ _ _ w1 ⟨_,_,_,rfl⟩ N1.out (Nat.zero_le _)).mono ?_
 rintro e w2 ⟨rfl,hb2⟩
 have hway:(Sq.wayF (Sq.headN 0) (([]:List (Sq.Nd 0×Value×Value)).map Prod.fst) x.place:Nat)=0:=rfl
 rw[hway]
 have hbe2:=(hb2.block (w.heap.size+1) hz1e).trans HBE1.out
 have c0:w2.cell? ⟨w.heap.size+1,0,none⟩=some (.int .i64 x.place):=by rw[jQb hbe2];rfl
 have c1:w2.cell? ⟨w.heap.size+1,1,none⟩=some (.string x.row):=by rw[jQb hbe2];rfl
 have c2:=(hb2.cell (p:=⟨w.heap.size,2,none⟩) hz1w).trans n2
 have hs2:=hb2.size
 have hz2e:=jQg hbe2
 have hz2:w.heap.size < w2.heap.size:=by omega
 have T2:=hd (T1.out.below hb2)
 have F2:Hid (TFrm tb w w2):=F1.out.trans (TFrm.of hb2 (by have:=T1.out.lt;omega))
 clear hb2 hbe2 n0 n1 n2 n3 n4 n5 n6 b0 HBE1 hway
 have hA:Below w2.heap.size w2 (w2.alloc (.cells #[.int .i64 x.place,.string x.row] 141)):=(Below.refl _ _).alloc (Nat.le_refl _) _
 have HO3:Hid (EntsAt 0 (w2.alloc (.cells #[.int .i64 x.place,.string x.row] 141)) (.slice (some ⟨w2.heap.size,0,none⟩) 1 1) [x]):=jQes w2 141 _ _ 1 2 0 rfl rfl (by decide) (Nat.zero_le _)
 have HA:=hd hA
 clear hA
 go_wp2_with fail
 refine(jQeG (Z:=Z) [x] _ _ HO3.out (by simp)).mono ?_
 rintro e w3 ⟨v3,l,rfl,hm,hn,hb3⟩
 obtain⟨l',hm',hn'⟩:=jQdj m hm hn
 have hb4:Below w2.heap.size w2 w3:=HA.out.trans (hb3.mono HA.out.size)
 have T3:=hd (T2.out.below hb4)
 have F3:Hid (TFrm tb w w3):=F2.out.trans (TFrm.of hb4 (by have:=T2.out.lt;omega))
 have HN':=hd (hn'.base (B':=w.heap.size) (by have:=HA.out.size;omega))
 have HM':=hd hm'
 clear hm hn hb3 hm' hn' hb4
 go_wp2
 go_ret
 exact⟨_,l',rfl,HM'.out,HN'.out,T3.out,F3.out⟩
theorem jQoD (n:Nat)(h:Sq.Head)(l:List (Sq.Nd n×Value×Value))(ev cv:Value)(x:Sq.Ent)(tb:Nat)(tr tr2:Sq.Trl)(parts:List (Sq.Nd n))(w:World)(hin:h.inner=true)(hev:∃a k c,ev=.slice a k c)(hn:NodesAt Z 0 w cv n l)(hl:l.length≤900)(ht:TrAt tb w tr)(hroom:tr.nums.length+1≤100000)(hZ:∀g,w.heap.size≤g→¬Z g)
  (a:Nat) (ha:a < l.length) (haw:a=Sq.wayF (Sq.headN n) (l.map Prod.fst) x.place) (hsmall:∀c∈Sq.exch (l.map Prod.fst) a 1 parts,0≤(Sq.headN n c).rows∧(Sq.headN n c).rows≤1000000000) (hp2:parts.length≤2)
  (ih:∀w',(∀g,w'.heap.size≤g→¬Z g)→NodeAt Z w' n l[a].1 l[a].2.1 l[a].2.2→TrAt tb w' (Sq.touchR tr h)→Calls Tryz.prog 168 #[.agg (nodeCells n l[a]).toArray,.agg #[.int .i64 x.place,.string x.row],.pointer (some ⟨tb,0,none⟩)] w' (PutSays Z tb n (parts,tr2) w')) :
  Calls Tryz.prog 168 #[.agg (headCells h ev cv).toArray,.agg #[.int .i64 x.place,.string x.row],.pointer (some ⟨tb,0,none⟩)] w (PutSays Z tb (n+1) (Sq.innersF (Sq.headN n) (Sq.exch (l.map Prod.fst) a 1 parts),tr2) w):=by
 obtain⟨eo,el,ecap,rfl⟩:=hev
 obtain⟨co,ccap,rfl⟩:=jQa hn.own
 rw[jQc]
 have hlt:=ht.lt
 have HIN:=hd hin
 clear hin
 obtain⟨W,hWW⟩:∃W,W=(w.alloc (.cells #[.bool h.inner,.slice eo el ecap,.slice co l.length ccap,.int .i64 h.least,.int .i64 h.rows,.string h.sl,.int .i64 h.num] 60)).alloc (.cells #[.int .i64 x.place,.string x.row] 141):=⟨_,rfl⟩
 have hW:Below w.heap.size w W:=by rw[hWW];exact((Below.refl _ _).alloc (Nat.le_refl _) _).alloc (by simp) _
 have hblk:W.heap[w.heap.size]?=some (.cells #[.bool h.inner,.slice eo el ecap,.slice co l.length ccap,.int .i64 h.least,.int .i64 h.rows,.string h.sl,.int .i64 h.num] 60):=by
  rw[hWW]
  exact(((Below.refl _ _).alloc (Nat.le_refl _) _).block w.heap.size (by simp)).trans (jQk w _)
 have hbe:W.heap[w.heap.size+1]?=some (.cells #[.int .i64 x.place,.string x.row] 141):=by
  rw[hWW,←jQo w (.cells #[.bool h.inner,.slice eo el ecap,.slice co l.length ccap,.int .i64 h.least,.int .i64 h.rows,.string h.sl,.int .i64 h.num] 60)]
  exact jQk _ _
 have HT:=hd (ht.below hW)
 have HF:Hid (TFrm tb w W):=TFrm.of hW (by omega)
 have HBLK:=hd hblk
 have HBE:=hd hbe
 have HN:=hd (hn.below hW)
 have HZ:=hd hZ
 have IH:=hd ih
 have HAW:=hd haw
 have HSM:=hd hsmall
 obtain⟨a0,a1,a2,a3,a4,a5,a6⟩:=SevenAt.blk (h:=h) hblk
 simp only[Nat.zero_add] at a1 a2 a3 a4 a5 a6
 have hzw:=jQg hblk
 clear ht hW hblk hbe hn hZ ih haw hsmall
 go_enter Tryz.func168,Tryz.ntmps168
 go_wp2_with fail
 rw[←hWW]
 clear hWW
 refine(jQam tb tr h _ _ W ⟨_,_,_,rfl⟩ ⟨_,_,_,rfl⟩ HT.out hroom).mono ?_
 rintro e w1 ⟨rfl,ht1,hf1⟩
 have hblk1:=(hf1.keep w.heap.size _ _ _ HBLK.out (by decide) (by decide)).trans HBLK.out
 have hbe1:=(hf1.keep (w.heap.size+1) _ _ _ HBE.out (by decide) (by decide)).trans HBE.out
 have T1:=hd ht1
 have F1:Hid (TFrm tb w w1):=HF.out.trans hf1
 have N1:=hd (HN.out.tfrm hf1)
 obtain⟨n0,n1,n2,n3,n4,n5,n6⟩:=SevenAt.blk (h:=h) hblk1
 simp only[Nat.zero_add] at n1 n2 n3 n4 n5 n6
 rw[HIN.out] at n0
 have hz1w:=jQg hblk1
 have hz1e:=jQg hbe1
 have b0:w1.cell? ⟨w.heap.size+1,0,none⟩=some (.int .i64 x.place):=by rw[jQb hbe1];rfl
 have hs1:=F1.out.below_lt
 have HBE1:=hd hbe1
 have HBLK1:=hd hblk1
 clear a0 a1 a2 a3 a4 a5 a6 hzw HT HF HBLK HBE HN ht1 hf1 hblk1 hbe1
 go_wp2_with fail
 refine(jQgY n l x.place ⟨true,h.least,h.rows,h.sl,h.num⟩ _ _ w1 ⟨_,_,_,rfl⟩ N1.out (by omega)).mono ?_
 rintro e w2 ⟨rfl,hb2⟩
 rw[←HAW.out]
 have hbe2:=(hb2.block (w.heap.size+1) hz1e).trans HBE1.out
 have hblk2:=(hb2.block w.heap.size hz1w).trans HBLK1.out
 have c0:w2.cell? ⟨w.heap.size+1,0,none⟩=some (.int .i64 x.place):=by rw[jQb hbe2];rfl
 have c1:w2.cell? ⟨w.heap.size+1,1,none⟩=some (.string x.row):=by rw[jQb hbe2];rfl
 have c2:w2.cell? ⟨w.heap.size,2,none⟩=some (.slice co l.length ccap):=by rw[jQb hblk2];rfl
 have hs2:=hb2.size
 have hz2e:=jQg hbe2
 have hz2:w.heap.size < w2.heap.size:=by omega
 have T2:=hd (T1.out.below hb2)
 have N2:=hd (N1.out.below hb2)
 have F2:Hid (TFrm tb w w2):=F1.out.trans (TFrm.of hb2 (by have:=T1.out.lt;omega))
 have HBLK2:=hd hblk2
 clear hb2 hbe2 hblk2 n0 n1 n2 n3 n4 n5 n6 b0 HBE1 HBLK1 T1 N1 F1
 obtain⟨g,cap',ea,el2,ec,ca,cl,cc,hv,hg,⟨d0,d1,d2,d3,d4,dsl,dnu⟩,d5,d6⟩:=N2.out.at a ha
 simp only[Value.slice.injEq] at hv
 obtain⟨rfl,-,rfl⟩:=hv
 have ih:=IH.out
 obtain⟨y,hy⟩:∃y,y=l[a]:=⟨_,rfl⟩
 rw[←hy] at d0 d3 d4 dsl dnu d5 d6 ih
 obtain⟨t,evx,cvx⟩:=y
 simp only[Prod.mk.injEq] at d5
 obtain⟨rfl,rfl⟩:=d5
 have IH2:=hd ih
 have HNX:=hd d6
 have i1:¬((l.length:Int)≤(a:Int)):=by omega
 have i2:decide ((l.length:Int)≤(a:Int))=false:=by simpa using ha
 have HZ2:Hid (∀g,w2.heap.size≤g→¬Z g):=fun g hg=>HZ.out g (by omega)
 clear ih hy IH d6
 go_wp2
 go_region_with (go_at_call 168;refine(IH2.out w2.drew HZ2.out (HNX.out.below (Below.drew (Below.refl _ _))) (T2.out.below (Below.drew (Below.refl _ _)))).mono ?_;rintro e w3 ⟨v3,k,rfl,hm3,hn3,ht3,hf3⟩;obtain⟨ko,kcap,rfl⟩:=jQa hn3.own;have hf3':TFrm tb w2 w3:=(TFrm.of (Below.drew (Below.refl _ _)) (by have:=T2.out.lt;omega)).trans hf3;have hblk3:=(hf3'.keep w.heap.size _ _ _ HBLK2.out (by decide) (by decide)).trans HBLK2.out;have e2:w3.cell? ⟨w.heap.size,2,none⟩=some (.slice (some ⟨g,0,none⟩) l.length ccap):=(by rw[jQb hblk3];rfl);have hz3:=jQg hblk3;have T3:=hd ht3;have F3:Hid (TFrm tb w w3):=F2.out.trans hf3';have N3:=hd (N2.out.tfrm hf3');have HK:=hd hn3;have HM:=hd hm3;clear ht3 hf3 hf3' hn3 hm3 hblk3)
 all_goals
  have hkl:k.length≤2:=by
   have h1:=congrArg List.length HM.out
   rw[List.length_map] at h1
   omega
  go_wp2_with fail
  refine(jQaK n l k _ _ a 1 _ N3.out (HK.out.base (Nat.zero_le _)) (by omega) (by omega) (by omega) (by omega)).mono ?_
  rintro e w4 ⟨v4,rfl,hn4,hb4⟩
  have hxl:(Sq.exch l a 1 k).length≤1000:=by unfold Sq.exch;simp;omega
  have hxe:(Sq.exch l a 1 k).map Prod.fst=Sq.exch (l.map Prod.fst) a 1 parts:=by rw[Sq.jQgy,HM.out]
  have hsm:smallRows n (Sq.exch l a 1 k):=fun c hc=>HSM.out c.1 (by rw[←hxe];exact List.mem_map.2 ⟨c,hc,rfl⟩)
  have hs4:=hb4.size
  have hs3:=F3.out.below_lt
  have T4:=hd (T3.out.below hb4)
  have F4:Hid (TFrm tb w w4):=F3.out.trans (TFrm.of hb4 (by have:=T3.out.lt;omega))
  have HN4:=hd hn4
  have HXE:=hd hxe
  have HS:=hd hsm
  clear hn4 hb4 hxe hsm
  go_wp2_with fail
  refine(jQhD n (Sq.exch l a 1 k) _ _ (HN4.out.base (Nat.zero_le _)) (by omega) HS.out (fun g hg=>HZ.out g (by omega))).mono ?_
  rintro e w5 ⟨v5,k5,rfl,hm5,hn5,hb5⟩
  have T5:=hd (T4.out.below hb5)
  have F5:Hid (TFrm tb w w5):=F4.out.trans (TFrm.of hb5 (by have:=T4.out.lt;omega))
  have HN5:=hd (hn5.base (B':=w.heap.size) (by omega))
  have HM5:=hd hm5
  clear hm5 hn5 hb5
  go_wp2
  go_ret
  exact⟨_,k5,rfl,by rw[HM5.out,HXE.out],HN5.out,T5.out,F5.out⟩
theorem jQhn {α:Type}(f:α→Sq.Head)(g:α→Sq.Ent→Sq.Trl→List α×Sq.Trl)(t:Sq.NodeF α)(e:Sq.Ent)(tr:Sq.Trl)(h:t.hd.inner=false):Sq.putF f g t e tr=(Sq.leavesF (Sq.withE t.ents e),Sq.touchR tr t.hd):=by
 unfold Sq.putF;rw[h];rfl
theorem jQjy {α:Type}(f:α→Sq.Head)(g:α→Sq.Ent→Sq.Trl→List α×Sq.Trl)(t:Sq.NodeF α)(e:Sq.Ent)(tr:Sq.Trl)(h:t.hd.inner=true)(hk:t.kids=[]):Sq.putF f g t e tr=(Sq.leavesF [e],Sq.touchR tr t.hd):=by
 unfold Sq.putF;rw[h,hk];rfl
theorem jQoE {α:Type}(f:α→Sq.Head)(g:α→Sq.Ent→Sq.Trl→List α×Sq.Trl)(t:Sq.NodeF α)(e:Sq.Ent)(tr:Sq.Trl)(h:t.hd.inner=true)(ha:Sq.wayF f t.kids e.place < t.kids.length):Sq.putF f g t e tr=(Sq.innersF f (Sq.exch t.kids (Sq.wayF f t.kids e.place) 1 (g t.kids[Sq.wayF f t.kids e.place] e (Sq.touchR tr t.hd)).1),(g t.kids[Sq.wayF f t.kids e.place] e (Sq.touchR tr t.hd)).2):=by
 unfold Sq.putF
 rw[h]
 simp only[if_true,List.getElem?_eq_getElem ha]
theorem jQpM (K:Int)(hK0:0≤K)(hK:K≤99999)(x:Sq.Ent)(hx:x.row.size≤300)(tb:Nat):∀(n:Nat) (t:Sq.Nd n) (ev cv:Value) (tr:Sq.Trl) (w:World),NodeAt Z w n t ev cv→Sq.tameN K n t→(Sq.headN n t).rows≤900000000→TrAt tb w tr→Sq.TameR K tr→(∀g,w.heap.size≤g→¬Z g) →
  Calls Tryz.prog 168 #[.agg (headCells (Sq.headN n t) ev cv).toArray,.agg #[.int .i64 x.place,.string x.row],.pointer (some ⟨tb,0,none⟩)] w (PutSays Z tb n (Sq.putN n t x tr) w)
 | 0,t,ev,cv,tr,w,h,hf,_,ht,hr,_=>by
  obtain⟨h1,rfl⟩:=h.leaf
  have hlen:=hr.len
  have he4:=hf.at0.ents
  cases hin:(Sq.NodeF.hd t).inner with
  | false =>
   have hg:=jQmg (Z:=Z) 0 (Sq.NodeF.hd t) (Sq.NodeF.ents t) ev (.slice none 0 0) x tb tr w hin h1 ⟨_,_,_,rfl⟩ (by omega) ht (by omega)
   have e:Sq.putN 0 t x tr=(leavesM 0 (Sq.withE (Sq.NodeF.ents t) x),Sq.touchR tr (Sq.NodeF.hd t)):=jQhn _ _ t x tr hin
   rw[e]
   exact hg
  | true =>
   have hg:=jQmf (Z:=Z) 0 (Sq.NodeF.hd t) ev (.slice none 0 0) x tb tr w hin (NodeAt.slices h).1 ⟨World.ownsRow_nil _ _ _ _,fun x hx=>by cases hx⟩ ht (by omega)
   have hk:(t:Sq.NodeF Empty).kids=[]:=by
    cases hq:(t:Sq.NodeF Empty).kids with
    | nil=>rfl
    | cons c _=>exact c.elim
   have e:Sq.putN 0 t x tr=(leavesM 0 [x],Sq.touchR tr (Sq.NodeF.hd t)):=jQjy _ _ t x tr hin hk
   rw[e]
   exact hg
 | n+1,t,ev,cv,tr,w,h,hf,hrows,ht,hr,hZ=>by
  obtain⟨h1,l,h2,h3⟩:=h.inner
  have hlen:=hr.len
  have hf1:=hf.at1
  have he4:=hf1.ents
  have hk4:=hf1.kids
  have hpos:∀c∈Sq.NodeF.kids t,0≤(Sq.headN n c).rows:=fun c hc=>(hf1.each c hc).head.2.1
  cases hin:(Sq.NodeF.hd t).inner with
  | false =>
   have hg:=jQmg (Z:=Z) (n+1) (Sq.NodeF.hd t) (Sq.NodeF.ents t) ev cv x tb tr w hin h1 (NodeAt.slices h).2 (by omega) ht (by omega)
   have e:Sq.putN (n+1) t x tr=(leavesM (n+1) (Sq.withE (Sq.NodeF.ents t) x),Sq.touchR tr (Sq.NodeF.hd t)):=jQhn _ _ t x tr hin
   rw[e]
   exact hg
  | true =>
   by_cases hk:Sq.NodeF.kids t=[]
   ·have hl0:l=[]:=by rw[hk] at h2;exact List.map_eq_nil_iff.1 h2.symm
    subst hl0
    have hg:=jQmf (Z:=Z) (n+1) (Sq.NodeF.hd t) ev cv x tb tr w hin (NodeAt.slices h).1 ⟨h3.own,fun x hx=>by cases hx⟩ ht (by omega)
    have e:Sq.putN (n+1) t x tr=(leavesM (n+1) [x],Sq.touchR tr (Sq.NodeF.hd t)):=jQjy _ _ t x tr hin hk
    rw[e]
    exact hg
   ·have hway:=Sq.jQi4 (Sq.headN n) (Sq.NodeF.kids t) x.place hk
    have e:=jQoE (Sq.headN n) (Sq.putN n) t x tr hin hway
    have hmem:(Sq.NodeF.kids t)[Sq.wayF (Sq.headN n) (Sq.NodeF.kids t) x.place]∈Sq.NodeF.kids t:=List.getElem_mem _
    have hc:=hf1.each _ hmem
    have hsum:=(hf1.inn hin).1
    have hcr:=Sq.jQbb (Sq.headN n) hpos hmem
    have hh:(Sq.headN (n+1) t).rows=(Sq.NodeF.hd t).rows:=rfl
    have hpt:=Sq.jQdR hK0 n _ x (Sq.touchR tr (Sq.NodeF.hd t)) hc hx (hr.touch hf1.num)
    have ihc:=jQpM K hK0 hK x hx tb n (Sq.NodeF.kids t)[Sq.wayF (Sq.headN n) (Sq.NodeF.kids t) x.place]
    obtain⟨a,ha⟩:∃a,a=Sq.wayF (Sq.headN n) (Sq.NodeF.kids t) x.place:=⟨_,rfl⟩
    have e2:Sq.putN (n+1) t x tr=(Sq.innersF (Sq.headN n) (Sq.exch (Sq.NodeF.kids t) a 1 (Sq.putN n ((Sq.NodeF.kids t)[a]'(by rw[ha];exact hway)) x (Sq.touchR tr (Sq.NodeF.hd t))).1),(Sq.putN n ((Sq.NodeF.kids t)[a]'(by rw[ha];exact hway)) x (Sq.touchR tr (Sq.NodeF.hd t))).2):=by
     subst ha
     exact e
    clear e
    have hal:a < l.length:=by rw[h2,List.length_map] at hway;rw[ha,h2];exact hway
    have hka:(Sq.NodeF.kids t)[a]'(by rw[ha];exact hway)=l[a].1:=by
     simp only[h2,List.getElem_map]
    have hka2:(Sq.NodeF.kids t)[Sq.wayF (Sq.headN n) (Sq.NodeF.kids t) x.place]=l[a].1:=by rw[←hka];subst ha;rfl
    rw[hka2] at hc hcr hpt ihc
    rw[hka] at e2
    rw[e2]
    have hsmall:∀c∈Sq.exch (Sq.NodeF.kids t) a 1 (Sq.putN n l[a].1 x (Sq.touchR tr (Sq.NodeF.hd t))).1,0≤(Sq.headN n c).rows∧(Sq.headN n c).rows≤1000000000:=by
     intro c hcm
     rcases jQiw hcm with hcm | hcm
     ·have:=Sq.jQbb (Sq.headN n) hpos hcm
      exact⟨hpos c hcm,by omega⟩
     ·have h5:=hpt.1.each c hcm
      have h6:=Sq.jQbb (Sq.headN n) (fun d hd=>(hpt.1.each d hd).head.2.1) hcm
      have h7:=hpt.1.rows
      exact⟨h5.head.2.1,by omega⟩
    rw[h2] at hsmall ha hk4 ⊢
    rw[List.length_map] at hk4
    exact jQoD n (Sq.NodeF.hd t) l ev cv x tb tr _ _ w hin (NodeAt.slices h).1 h3 (by omega) ht (by omega) hZ a hal ha hsmall hpt.1.two (fun w' hZ' hn' ht'=>ihc _ _ _ w' hn' hc (by omega) ht' (hr.touch hf1.num) hZ')
end
section
open Go.RowKit
variable {Z:Nat→Prop}
theorem jQa2 {w:World}{b:Nat}{c:Array Value}(hb:w.heap[b]?=some (.cells c 60))(x0 x1 x2 x3 x4 x5 x6:Value):Keeps 60 w (set7 w b x0 x1 x2 x3 x4 x5 x6):=by
 intro q cq e fr hq he
 refine jQq _ _ _ _ _ _ _ _ _ fun e2=>?_
 subst e2
 rw[hb] at hq
 simp only[Option.some.injEq,Obj.cells.injEq] at hq
 exact he hq.2.1.symm
theorem TFrm.set7 {tb b:Nat}{w w1:World}(h:TFrm tb w w1)(hb:w.heap.size≤b)(ht:tb≤b)(x0 x1 x2 x3 x4 x5 x6:Value):TFrm tb w (set7 w1 b x0 x1 x2 x3 x4 x5 x6) :=
 ⟨jQA h.below ht _ _ _ _ _ _ _,fun g c e fr hg h1 h2=>(jQq _ _ _ _ _ _ _ _ _ (by have:=jQg hg;omega)).trans (h.keep g c e fr hg h1 h2)⟩
def TreeSays (Z:Nat→Prop)(tb:Nat)(Y:Sq.NTree×Sq.Trl)(w:World)(e:Ending)(w':World):Prop:=∃ev cv,e=.returned (.agg (headCells Y.1.head ev cv).toArray)∧NodeAt Z w' Y.1.d Y.1.t ev cv∧TrAt tb w' Y.2∧TFrm tb w w'
theorem jQp3 (K:Int)(hK0:0≤K)(hK:K≤99999)(X:Sq.NTree)(ev cv:Value)(p:Int)(row:ByteArray)(hx:row.size≤300)(tb:Nat)(tr:Sq.Trl)(w:World)(h:NodeAt Z w X.d X.t ev cv)(hf:Sq.TameT K 900000000 X)(ht:TrAt tb w tr)(hr:Sq.TameR K tr)(hZ:∀g,w.heap.size≤g→¬Z g) :
  Calls Tryz.prog 125 #[.agg (headCells X.head ev cv).toArray,.int .i64 p,.string row,.pointer (some ⟨tb,0,none⟩)] w (TreeSays Z tb (X.put ⟨p,row⟩ tr) w):=by
 obtain⟨n,t⟩:=X
 obtain⟨⟨e1,e2,e3,hev⟩,c1,c2,c3,hcv⟩:=h.slices
 subst hev hcv
 obtain⟨hX,hrows⟩:=hf
 simp only[Sq.NTree.head] at h hX hrows ⊢
 have hpt:=Sq.jQdR hK0 n t ⟨p,row⟩ tr hX hx hr
 have hput:=jQpM (Z:=fun g=>Z g∨g=w.heap.size+1) K hK0 hK ⟨p,row⟩ hx tb n t (.slice e1 e2 e3) (.slice c1 c2 c3) tr
 have hE:Sq.NTree.put ⟨n,t⟩ ⟨p,row⟩ tr=(Sq.upN n (Sq.putN n t ⟨p,row⟩ tr).1,(Sq.putN n t ⟨p,row⟩ tr).2):=rfl
 rw[hE]
 clear hE
 obtain⟨pt,hpe⟩:∃x,x=Sq.putN n t ⟨p,row⟩ tr:=⟨_,rfl⟩
 rw[←hpe] at hpt hput ⊢
 obtain⟨hh,hhe⟩:∃x,x=Sq.headN n t:=⟨_,rfl⟩
 rw[←hhe] at hput hrows hpt ⊢
 rw[jQc] at hput ⊢
 have hlt:=ht.lt
 obtain⟨W,hWW⟩:∃W,W=(w.alloc (.cells #[.bool hh.inner,.slice e1 e2 e3,.slice c1 c2 c3,.int .i64 hh.least,.int .i64 hh.rows,.string hh.sl,.int .i64 hh.num] 60)).alloc (.cells node0 60):=⟨_,rfl⟩
 have hW:Below w.heap.size w W:=by rw[hWW];exact((Below.refl _ _).alloc (Nat.le_refl _) _).alloc (by simp) _
 have hWs:W.heap.size=w.heap.size+2:=by rw[hWW,jQo,jQo]
 have hblk:W.heap[w.heap.size+1]?=some (.cells node0 60):=by
  rw[hWW,←jQo w (.cells #[.bool hh.inner,.slice e1 e2 e3,.slice c1 c2 c3,.int .i64 hh.least,.int .i64 hh.rows,.string hh.sl,.int .i64 hh.num] 60)]
  exact jQk _ _
 have hcall:=hput W ((h.more (Nat.le_succ _)).below hW) hX hrows (ht.below hW) hr (fun g hg=>by
  rw[hWs] at hg
  rintro(hz | hz)
  ·exact hZ g (by omega) hz
  ·omega)
 have HC:=hd hcall
 have HF:Hid (TFrm tb w W):=TFrm.of hW (by omega)
 have HBLK:=hd hblk
 have HPT:=hd hpt
 have HZ:=hd hZ
 have HWS:=hd hWs
 have HROWS:=hd hrows
 clear h ht hX hrows hpt hput hW hWs hblk hcall hpe hhe hZ hr
 go_enter Tryz.func125,Tryz.ntmps125
 go_wp2_with fail
 rw[←show node0=#[.bool false,.slice none 0 0,.slice none 0 0,.int .i64 0,.int .i64 0,.string ⟨#[]⟩,.int .i64 0] from rfl,←hWW]
 clear hWW
 refine HC.out.mono ?_
 rintro e w1 ⟨v1,l,rfl,hm,hn,ht1,hf1⟩
 obtain⟨lo,lcap,rfl⟩:=jQa hn.own
 have hll:l.length=pt.1.length:=by rw[←hm];simp
 have hblk1:=(hf1.keep (w.heap.size+1) _ _ _ HBLK.out (by decide) (by decide)).trans HBLK.out
 have T1:=hd ht1
 have F1:Hid (TFrm tb w w1):=HF.out.trans hf1
 have hz1:w.heap.size+1 < w1.heap.size:=jQg hblk1
 have HN:=hd hn
 have HM:=hd hm
 have HB1:=hd hblk1
 have htwo:=HPT.out.1.two
 have hone:=HPT.out.1.one
 clear hm hn ht1 hf1 hblk1 HC HF HBLK
 match l,hll,HN,HM with
 | [],hll,_,_=>exfalso;simp at hll;omega
 | [y],hll,HN,HM =>
  obtain⟨g,cap',ea,el,ec,ca,cl,cc,hv,hg,⟨d0,d1,d2,d3,d4,dsl,dnu⟩,d5,d6⟩:=HN.out.at 0 (by simp)
  simp only[Value.slice.injEq] at hv
  obtain⟨rfl,-,rfl⟩:=hv
  obtain⟨yt,yev,ycv⟩:=y
  simp only[List.getElem_cons_zero,Prod.mk.injEq,Nat.zero_mul,Nat.zero_add] at d0 d1 d2 d3 d4 dsl dnu d5 d6
  obtain⟨rfl,rfl⟩:=d5
  have hpe:pt.1=[yt]:=HM.out.symm
  have HE:Hid (Sq.upN n pt.1=⟨n,yt⟩):=by show _=_;rw[hpe];rfl
  obtain⟨b0,b1,b2,b3,b4,b5,b6⟩:=jQR HB1.out
  obtain⟨f0,f1,f2,f3,f4,f5,f6⟩:=jQp HB1.out
  have HN2:=hd d6
  obtain⟨yh,hyh⟩:∃x,x=Sq.headN n yt:=⟨_,rfl⟩
  rw[←hyh] at d0 d3 d4 dsl dnu
  have HYH:=hd hyh
  clear d6 HM hll htwo hone hpe hyh HN
  go_wp2
  rw[HE.out]
  refine bodyPost_ret (v:=.agg (headCells yh (.slice ea el ec) (.slice ca cl cc)).toArray) (by simp[results,Tryz.results125,go_sem,headCells, *]) rfl ⟨_,_,by rw[HYH.out];rfl,?_,?_,?_⟩
  ·exact(NodeAt.skip (b:=w.heap.size+1) HN2.out (Or.inr rfl) HB1.out fun g hg=>jQq _ _ _ _ _ _ _ _ _ hg).less fun g hg=>Or.inl hg
  ·exact T1.out.keeps (jQa2 HB1.out _ _ _ _ _ _ _) (by decide) (by decide)
  ·exact F1.out.set7 (by omega) (by omega) _ _ _ _ _ _ _
 | y :: z :: r,hll,HN,HM =>
  have hlen2:(y :: z :: r).length≤2:=by omega
  have hn1:(((y :: z :: r).length:Int)==1)=false:=by simp;omega
  have HE:Hid (Sq.upN n pt.1=⟨n+1,Sq.innerF (Sq.headN n) ((y :: z :: r).map Prod.fst)⟩):=by show _=_;rw[←HM.out];rfl
  have hsm:smallRows n (y :: z :: r):=fun c hc=>by
   have hc1:c.1∈pt.1:=by rw[←HM.out];exact List.mem_map.2 ⟨c,hc,rfl⟩
   have h1:=HPT.out.1.each c.1 hc1
   have h2:=Sq.jQbb (Sq.headN n) (fun d hd=>(HPT.out.1.each d hd).head.2.1) hc1
   have h3:=HPT.out.1.rows
   have h4:=HROWS.out
   exact⟨h1.head.2.1,by omega⟩
  obtain⟨l,hl⟩:∃l,l=y :: z :: r:=⟨_,rfl⟩
  have he:=HE.out
  have hn':=HN.out
  rw[←hl] at hlen2 hn1 he hn' hsm ⊢
  have HE2:=hd he
  have HN2:=hd hn'
  have HSM:=hd hsm
  clear hl he hn' HE HN HM hll htwo hone hsm
  go_wp2_with fail
  refine(jQc6 n l _ _ HN2.out.rd (by omega) HSM.out).mono ?_
  rintro e w2 ⟨cv2,rfl,hn2,hb2⟩
  obtain⟨ko,kcap,rfl⟩:=jQa hn2.own
  have hblk2:=(hb2.block (w.heap.size+1) hz1).trans HB1.out
  obtain⟨b0,b1,b2,b3,b4,b5,b6⟩:=jQR hblk2
  obtain⟨f0,f1,f2,f3,f4,f5,f6⟩:=jQp hblk2
  have hz2:=jQg hblk2
  have HB2:=hd hblk2
  have T2:=hd (T1.out.below hb2)
  have F2:Hid (TFrm tb w w2):=F1.out.trans (TFrm.of hb2 (by have:=T1.out.lt;omega))
  have HN3:=hd hn2
  have HZ1:Hid (∀g,w1.heap.size≤g→¬(Z g∨g=w.heap.size+1)):=fun g hg=>by
   rintro(hz | hz)
   ·exact HZ.out g (by omega) hz
   ·omega
  obtain⟨yh,hyh⟩:∃x,x=(Sq.innerF (Sq.headN n) (l.map Prod.fst)).hd:=⟨_,rfl⟩
  rw[←hyh,jQc]
  have HYH:=hd hyh
  clear hblk2 hn2 hb2 hyh
  go_wp2
  rw[HE2.out]
  refine bodyPost_ret (v:=.agg (headCells yh (.slice none 0 0) (.slice ko l.length kcap)).toArray) (by simp[results,Tryz.results125,go_sem,headCells, *]) rfl ⟨_,_,by rw[HYH.out];rfl,?_,?_,?_⟩
  ·exact(NodeAt.skip (b:=w.heap.size+1) (NodeAt.mk (EntsAt.nil _) rfl (HN3.out.base (Nat.zero_le _)) (jQce HN3.out HZ1.out)) (Or.inr rfl) HB2.out fun g hg=>jQq _ _ _ _ _ _ _ _ _ hg).less fun g hg=>Or.inl hg
  ·exact T2.out.keeps (jQa2 HB2.out _ _ _ _ _ _ _) (by decide) (by decide)
  ·exact F2.out.set7 (by omega) (by omega) _ _ _ _ _ _ _
end
section
open Go.RowKit
variable {Z:Nat→Prop}
theorem jQa5 {ops:Array Oper}{rest:List Oper}{o:Oper}{a:Act}{Q:Exit→Act→World→Prop}{w:World}(hgd:o.guard=none)(sl x:Operand)
  (ho:o.op=.call { callee:=.builtin .append,args:=#[sl,x],argTypes:=#[57,57] }) (B:Nat) (v:Value) (es:List Sq.Ent) (hs:a.eval sl=v) (hb:EntsAt B w v es)
  (m:List Sq.Ent) (sv:Value) (hx:a.eval x=sv) (hm:EntsAt 0 w sv m) (h1:es.length+m.length≤1000000) (hB:B≤w.heap.size)
  (h:∀v' w',EntsAt B w' v' (es++m)→Below B w w'→wpList Tryz.prog ops Q rest (a.put o.dst v') w'):wpList Tryz.prog ops Q (o :: rest) a w:=by
 rcases Nat.eq_zero_or_pos m.length with h0 | h0
 ·have h0':m=[]:=by simpa using h0
  subst h0'
  obtain⟨ao,cap,rfl⟩:=jQa hm
  obtain⟨i0,hi,hz0,hz1,hz2⟩:=info_parts Tryz.infoEnt
  obtain⟨yo,ycap,rfl⟩:=jQa hb
  refine jQbd hgd sl x 57 ho B 141 i0 2 Tryz.underlying57 hi (.slice yo es.length ycap) es.length _ hs hb ao cap hx ?_
  refine h _ w ?_ (Below.refl _ _)
  rw[List.append_nil]
  exact hb
 ·exact jQa6 hgd sl x ho B v es hs hb m sv hx (Reads.of_own hm) h0 h1 hB fun v' w' h1 h2 _=>h v' w' h1 h2
theorem jQdy (m:Nat)(ha hb:Sq.Head)(es fs:List Sq.Ent)(ea ca eb cb:Value)(w:World)(hin:ha.inner=false)(hes:EntsAt 0 w ea es)(hfs:EntsAt 0 w eb fs)(hca:∃a k c,ca=.slice a k c)(hcb:∃a k c,cb=.slice a k c)(hel:es.length≤400)(hfl:fs.length≤400) :
  Calls Tryz.prog 225 #[.agg (headCells ha ea ca).toArray,.agg (headCells hb eb cb).toArray] w fun e w'=>∃v l,e=.returned v∧l.map Prod.fst=leavesM m (es++fs)∧NodesAt Z w.heap.size w' v m l∧Below w.heap.size w w':=by
 obtain⟨ao,acap,rfl⟩:=jQa hes
 obtain⟨bo,bcap,rfl⟩:=jQa hfs
 obtain⟨x1,x2,x3,rfl⟩:=hca
 obtain⟨y1,y2,y3,rfl⟩:=hcb
 rw[jQc,jQc,hin]
 have hW:∀o o2,Below w.heap.size w ((w.alloc o).alloc o2):=fun o o2=>((Below.refl _ _).alloc (Nat.le_refl _) _).alloc (by simp) _
 have HW:=hd hW
 have HA:=hd hes
 have HB:=hd hfs
 clear hes hfs hW hin
 go_enter Tryz.func225,Tryz.ntmps225
 go_wp2_with (at_builtin;(first
  | (have hx:=HB1;clear hx;refine jQa5 rfl (.tmp 21) (.tmp 23) rfl (w.heap.size+1+1) _ es rfl HO1.out fs _ rfl ((HB.out.below (HW.out _ _)).below (HB1.out.mono (by simp))) (by omega) (by omega) ?_;intro v2 w2 ho2 hb2;have HO2:=hd ho2;have HB2:=hd hb2;clear ho2 hb2)
  | (refine jQa5 rfl (.tmp 17) (.tmp 19) rfl (w.heap.size+1+1) _ [] rfl (World.ownsRow_nil _ _ _ _) es _ rfl (HA.out.below (HW.out _ _)) (by simp;omega) (by simp) ?_;intro v1 w1 ho1 hb1;rw[List.nil_append] at ho1;obtain⟨xo,xcap,rfl⟩:=jQa ho1;have k2:=hb1.cell (p:=⟨w.heap.size+1,1,none⟩) (by simp);simp[go_sem] at k2;have hz1:w.heap.size+1+1≤w1.heap.size:=(by have:=hb1.size;simp at this;omega);have hz0:w.heap.size+1 < w1.heap.size:=(by omega);have HO1:=hd ho1;have HB1:=hd hb1;clear ho1 hb1)))
 go_wp2_with fail
 refine(jQeG (Z:=Z) (es++fs) _ _ (HO2.out.base (Nat.zero_le _)) (by rw[List.length_append];omega)).mono ?_
 rintro e w3 ⟨v3,l,rfl,hm,hn,hb3⟩
 obtain⟨l',hm',hn'⟩:=jQdj m hm hn
 go_wp2
 go_ret
 have hB:Below w.heap.size w w2:=(HW.out _ _).trans ((HB1.out.trans HB2.out).mono (by omega))
 exact⟨_,l',rfl,hm',hn'.base hB.size,hB.trans (hb3.mono hB.size)⟩
theorem jQf9 (n:Nat)(ha hb:Sq.Head)(la lb:List (Sq.Nd n×Value×Value))(ea ca eb cb:Value)(w:World)(hin:ha.inner=true)(hna:NodesAt Z 0 w ca n la)(hnb:NodesAt Z 0 w cb n lb)(hea:∃a k c,ea=.slice a k c)(heb:∃a k c,eb=.slice a k c)(hla:la.length≤400)(hlb:lb.length≤400)(hsm:smallRows n (la++lb))(hZ:∀g,w.heap.size≤g→¬Z g) :
  Calls Tryz.prog 225 #[.agg (headCells ha ea ca).toArray,.agg (headCells hb eb cb).toArray] w fun e w'=>∃v l,e=.returned v∧l.map Prod.fst=Sq.innersF (Sq.headN n) ((la++lb).map Prod.fst)∧NodesAt Z w.heap.size w' v (n+1) l∧Below w.heap.size w w':=by
 obtain⟨ao,acap,rfl⟩:=jQa hna.own
 obtain⟨bo,bcap,rfl⟩:=jQa hnb.own
 obtain⟨x1,x2,x3,rfl⟩:=hea
 obtain⟨y1,y2,y3,rfl⟩:=heb
 rw[jQc,jQc,hin]
 have hex:Sq.exch la la.length 0 lb=la++lb:=by unfold Sq.exch;simp
 have hW:∀o o2,Below w.heap.size w ((w.alloc o).alloc o2):=fun o o2=>((Below.refl _ _).alloc (Nat.le_refl _) _).alloc (by simp) _
 have HW:=hd hW
 have HA:=hd hna
 have HB:=hd hnb
 have HEX:=hd hex
 have HSM:=hd hsm
 have HZ:=hd hZ
 clear hna hnb hW hin hex hsm hZ
 go_enter Tryz.func225,Tryz.ntmps225
 go_wp2_with fail
 refine(jQaK n la lb _ _ la.length 0 _ (HA.out.below (HW.out _ _)) (HB.out.below (HW.out _ _)) (by omega) (by omega) (by omega) (by omega)).mono ?_
 rintro e w3 ⟨v3,rfl,hn3,hb3⟩
 rw[HEX.out] at hn3
 have HN3:=hd hn3
 have HB3:=hd ((HW.out _ _).trans (hb3.mono (by simp;omega)))
 clear hn3 hb3
 go_wp2_with fail
 refine(jQhD n (la++lb) _ _ (HN3.out.base (Nat.zero_le _)) (by rw[List.length_append];omega) HSM.out (fun g hg=>HZ.out g (by have:=HB3.out.size;omega))).mono ?_
 rintro e w4 ⟨v4,k4,rfl,hm4,hn4,hb4⟩
 go_wp2
 go_ret
 exact⟨_,k4,rfl,hm4,hn4.base HB3.out.size,HB3.out.trans (hb4.mono HB3.out.size)⟩
theorem jQia (K:Int):∀(n:Nat) (a b:Sq.Nd n) (ea ca eb cb:Value) (w:World),NodeAt Z w n a ea ca→NodeAt Z w n b eb cb→Sq.tameN K n a→Sq.tameN K n b→(Sq.headN n a).rows≤900000000→(Sq.headN n b).rows≤900000000→(∀g,w.heap.size≤g→¬Z g) →
  Calls Tryz.prog 225 #[.agg (headCells (Sq.headN n a) ea ca).toArray,.agg (headCells (Sq.headN n b) eb cb).toArray] w fun e w'=>∃v l,e=.returned v∧l.map Prod.fst=Sq.togetherN n a b∧NodesAt Z w.heap.size w' v n l∧Below w.heap.size w w'
 | 0,a,b,ea,ca,eb,cb,w,ha,hb,ta,tb,_,_,_=>by
  obtain⟨h1,h2⟩:=ha.leaf
  obtain⟨h3,h4⟩:=hb.leaf
  have e1:=ta.at0.ents
  have e2:=tb.at0.ents
  cases hin:(Sq.NodeF.hd a).inner with
  | false =>
   have e:Sq.togetherN 0 a b=leavesM 0 (Sq.NodeF.ents a++Sq.NodeF.ents b):=by
    show Sq.togetherF _ a b=_
    unfold Sq.togetherF
    rw[hin]
    rfl
   rw[e]
   exact jQdy 0 (Sq.NodeF.hd a) (Sq.NodeF.hd b) _ _ ea ca eb cb w hin h1 h3 (NodeAt.slices ha).2 (NodeAt.slices hb).2 (by omega) (by omega)
  | true=>rw[ta.leaf0] at hin;cases hin
 | n+1,a,b,ea,ca,eb,cb,w,ha,hb,ta,tb,ra,rb,hZ=>by
  obtain⟨h1,la,h2,h3⟩:=ha.inner
  obtain⟨g1,lb,g2,g3⟩:=hb.inner
  have e1:=ta.at1.ents
  have e2:=tb.at1.ents
  have k1:=ta.at1.kids
  have k2:=tb.at1.kids
  cases hin:(Sq.NodeF.hd a).inner with
  | false =>
   have e:Sq.togetherN (n+1) a b=leavesM (n+1) (Sq.NodeF.ents a++Sq.NodeF.ents b):=by
    show Sq.togetherF _ a b=_
    unfold Sq.togetherF
    rw[hin]
    rfl
   rw[e]
   exact jQdy (n+1) (Sq.NodeF.hd a) (Sq.NodeF.hd b) _ _ ea ca eb cb w hin h1 g1 (NodeAt.slices ha).2 (NodeAt.slices hb).2 (by omega) (by omega)
  | true =>
   have e:Sq.togetherN (n+1) a b=Sq.innersF (Sq.headN n) ((la++lb).map Prod.fst):=by
    show Sq.togetherF _ a b=_
    unfold Sq.togetherF
    rw[hin,h2,g2,List.map_append]
    rfl
   rw[e]
   have hsm:smallRows n (la++lb):=by
    intro x hx
    rcases List.mem_append.1 hx with hx | hx
    ·have hm:x.1∈Sq.NodeF.kids a:=by rw[h2];exact List.mem_map.2 ⟨x,hx,rfl⟩
     have p1:=Sq.jQbb (Sq.headN n) (fun c hc=>(ta.at1.each c hc).head.2.1) hm
     have p2:=(ta.at1.inn hin).1
     have p3:(Sq.headN (n+1) a).rows=(Sq.NodeF.hd a).rows:=rfl
     exact⟨(ta.at1.each _ hm).head.2.1,by omega⟩
    ·have hm:x.1∈Sq.NodeF.kids b:=by rw[g2];exact List.mem_map.2 ⟨x,hx,rfl⟩
     have p1:=Sq.jQbb (Sq.headN n) (fun c hc=>(tb.at1.each c hc).head.2.1) hm
     cases hib:(Sq.NodeF.hd b).inner with
     | true =>
      have p2:=(tb.at1.inn hib).1
      have p3:(Sq.headN (n+1) b).rows=(Sq.NodeF.hd b).rows:=rfl
      exact⟨(tb.at1.each _ hm).head.2.1,by omega⟩
     | false =>
      rw[(tb.at1.lf hib).2] at hm
      cases hm
   rw[h2,List.length_map] at k1
   rw[g2,List.length_map] at k2
   exact jQf9 n (Sq.NodeF.hd a) (Sq.NodeF.hd b) la lb ea ca eb cb w hin h3 g3 (NodeAt.slices ha).1 (NodeAt.slices hb).1 (by omega) (by omega) hsm hZ
end
end Go.Proofs.YtahpihjialbanaaGreatDoor
