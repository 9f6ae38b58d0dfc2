import Derived.Test.YtahpihjialbanaaGreatDoorQay
import Derived.Test.YtahpihjialbanaaGreatDoorQaz
import Derived.Test.YtahpihjialbanaaGreatDoorQba
set_option linter.all false
set_option maxRecDepth 100000
set_option maxHeartbeats 2000000
namespace Go.Proofs.YtahpihjialbanaaGreatDoor
open Sq (aj jBX jBf)
variable {B b n sb:Nat}{K:Int}{a0 a1 a2 v:Value}{w w':World}{α:Type}
namespace Sq
def jOQ:List UInt8->Int->Option Int
 | [],n=>some n
 | c::r,n=>if c.toNat<48\/57<c.toNat then none else jOQ r (10*n+c.toNat-48)
def number (s:BA):Int×Bool :=
 if s.size<(if aJ s 0==45 then 1 else 0)+2\/16<s.size\/aJ s (s.size-1)≠59 then(0,false)
 else match jOQ ((s.data.toList.drop (if aJ s 0==45 then 1 else 0)).take (s.size-1-(if aJ s 0==45 then 1 else 0))) 0 with
  | none=>(0,false)
  | some n=>(if aJ s 0==45 then -n else n,true)
def upto (l:List UInt8):List UInt8:=l.takeWhile fun c=>c != 44&&c != 59
def key (s:BA):Int×Bool:=number (⟨(upto s.data.toList).toArray⟩++jGg)
def jMj (q:Bool)(c:UInt8):Bool:=if c==39 then !q else q
def behind:Bool->List UInt8->List UInt8
 | _,[]=>[]
 | q,c::r=>if c==59 && !(jMj q c) then r else behind (jMj q c) r
def scan:Bool->List UInt8->Option Bool
 | q,[]=>some q
 | q,c::r=>if c==59 && !(jMj q c) then none else scan (jMj q c) r
def shut (l:List UInt8):Prop:=scan false l=some false
end Sq
section
open Go.RowKit
def Sq.pick (c n:Int):Int:=(if c<0 then -(c+1) else c) % n
theorem Sq.jJk (c n:Int)(h:0<n):0<=Sq.pick c n/\Sq.pick c n<n:=⟨Int.emod_nonneg _ (by omega),Int.emod_lt_of_pos _ h⟩
theorem qAh (c n:Int)(w:World)(h0:-9223372036854775808<=c)(h1:c<=9223372036854775807)(hn:0<n)(ha:n<=1000) :
  Calls Tryz.prog 13 #[.int .i64 c,.int .i64 n] w fun e w'=>e=.returned (.int .i64 (Sq.pick c n))/\w'=w:=by
 have hb:=Sq.jJk c n hn
 by_cases hc:c<0
 ·have HE:Hid (Sq.pick c n=-(c+1).tmod n):=by show _=_;unfold Sq.pick;rw[cE hc,<-Int.neg_tmod,Int.tmod_eq_emod_of_nonneg (by omega)]
  go_enter Tryz.func13,Tryz.ntmps13;go_wp2;go_ret;exact⟨by rw[HE.o];rfl,rfl⟩
 have HE:Hid (Sq.pick c n=c % n):=by show _=_;unfold Sq.pick;rw[cy hc]
 go_enter Tryz.func13,Tryz.ntmps13;go_wp2;go_ret;exact⟨by rw[HE.o];rfl,rfl⟩
def Sq.rest (s:BA)(k:Nat):List UInt8:=(s.data.toList.drop k).take (s.size-1-k)
def jGs (w:World)(v:Value)(l:List BA):Prop:=∃(a:Option Addr) (cap:Nat),v=.slice a l.length cap/\l.length<=1000000000000000/\(∀s∈l,s.size<=1000000000000000)/\∀k:Nat,∀_:k<l.length,∃b,a=some b/\b.block<w.heap.size/\w.cell? (b.add k)=some (.string l[k])
def Sq.jFA:List BA->Nat->Option Nat
 | [],n=>some n
 | s::r,n=>if 1048576<n+s.size then none else Sq.jFA r (n+s.size)
def Sq.jCy (l:List BA):Bool:=Decidable.decide (1048576<l.length) || (Sq.jFA l l.length).isNone
theorem jUg (l:List BA)(v:Value)(w:World)(h:jGs w v l) :
  Calls Tryz.prog 19 #[v] w fun e w'=>e=.returned (.bool (Sq.jCy l))/\w'=w:=by
 obtain⟨a,cap,rfl,hl,hj,hg⟩:=h;have he:Hid _:=hg;have hf:Hid _:=hj;clear hg hj
 by_cases hbig:1048576<l.length
 ·have HE:Hid (Sq.jCy l=true):=by show _=_;unfold Sq.jCy;simp[hbig]
  go_enter Tryz.func19,Tryz.ntmps19;go_wp2;go_ret;exact⟨by rw[HE.o];rfl,rfl⟩
 have HE:Hid (Sq.jCy l=(Sq.jFA l l.length).isNone):=by show _=_;unfold Sq.jCy;simp[hbig]
 go_enter Tryz.func19,Tryz.ntmps19;go_wp2
 go_loop [3,4] (fun n i=>∃k m:Nat,k<=l.length/\m<=1048576/\n=.int .i64 m/\i=.int .i64 k/\Hid (Sq.jFA l l.length=Sq.jFA (l.drop k) m)) (fun _ i=>l.length-(intOf i).toNat)
 case atStart=>exact⟨0,l.length,zR,by omega,rfl,rfl,rfl⟩
 case round =>
  obtain⟨k,m,hk,hm,rfl,rfl,HR⟩:=hrel
  by_cases hlt:k<l.length
  ·obtain⟨b,rfl,hb,hc⟩:=he.o k hlt;have hs:=hf.o l[k] (cJ hlt)
   have ha:Sq.jFA (l.drop k) m=if 1048576<m+l[k].size then none else Sq.jFA (l.drop (k+1)) (m+l[k].size):=by
    rw[cr hlt,Sq.jFA]
   have HS:Hid _:=ha;obtain⟨s,hh⟩:∃s,s=l[k]:=⟨_,rfl⟩;rw[<-hh] at hs hc HS;clear ha hh
   by_cases hmm:1048576<m+s.size
   ·go_wp2;go_ret;refine⟨?_,rfl⟩;rw[HE.o,HR.o,HS.o,cE hmm];rfl
   go_wp2;go_round
   case rel=>exact⟨k+1,m+s.size,by omega,by omega,by go_num,by go_num,by show _=_;rw[HR.o,HS.o,cy hmm]⟩
   case measure=>simp[intOf];omega
  have HZ:Hid (l.drop k=[]):=cD (by omega);go_wp2;go_ret;refine⟨?_,rfl⟩;rw[HE.o,HR.o,HZ.o];rfl
theorem qBq (b:Addr)(k:Nat):(b.add k).block=b.block:=by unfold Addr.add;split<;>rfl
theorem jGs.below {l:List BA}(h:jGs w v l)(hb:Below B w w')(hB:w.heap.size<=B):jGs w' v l:=by
 obtain⟨a,cap,hv,hl,hs,ha⟩:=h;refine⟨a,cap,hv,hl,hs,fun k hk=>?_⟩;obtain⟨b,hc,hf,hg⟩:=ha k hk;refine⟨b,hc,dz hf hb.size,?_⟩;rw[hb.cell (p:=b.add k) (by rw[qBq];omega)];exact hg
end
namespace Sq
theorem qAo:∀(n:Nat) (t:Nd n) (k:Int),aa n (cf n t k).1={ aa n t with num:=k }
 | 0,_,_=>rfl
 | _+1,_,_=>rfl
theorem jNw (H:BA->BA)(hd:∀(c:Nd n) (k:Int),bj H n (cf n c k).1=bj H n c):∀(l:List (Nd n)) (k:Int),(bL (cf n) l k).1.length=l.length/\(((bL (cf n) l k).1.zip ((bL (cf n) l k).1.map (bj H n))).map fun x=>jAl (aa n x.1) x.2)=((l.zip (l.map (bj H n))).map fun x=>jAl (aa n x.1) x.2)
 | [],_=>⟨rfl,rfl⟩
 | c::r,k=>by
  have h:=jNw H hd r (cf n c k).2;rw[bL];refine⟨by simp[h.1],?_⟩;simp only[cM,List.zip_cons_cons];rw[h.2,hd c k,qAo];rfl
theorem jOx (H:BA->BA):∀(n:Nat) (t:Nd n) (k:Int),bj H n (cf n t k).1=bj H n t
 | 0,t,k=>by
  have hk:af.kids t=[]:=by
   cases hq:af.kids t with
   | nil=>rfl
   | cons c _=>exact c.elim
  show jEY H _ _ (jEO _ t k).1=jEY H _ _ t;unfold jEY jEO jBD jAo bG;simp only[hk,bL];rfl
 | n+1,t,k=>by
  have h:=jNw H (fun c k=>jOx H n c k) (af.kids t) (k+1);show jEY H _ _ (jEO _ t k).1=jEY H _ _ t;unfold jEY jEO jBD jAo bG;simp only[h.1,h.2];rfl
def jOT (o:bY):Prop:=o.makes=false/\o.puts=[]/\o.cuts=[]
theorem jZg {o:bY}(h:jOT o)(x:aj×Trl):jBU o x=x:=by
 unfold jBU jB0;rw[h.1,h.2.1,h.2.2];rfl
def jF7 (X:aj):List BA->aj
 | []=>X
 | s::r=>jF7 (ba X s) r
theorem jSq:∀(l:List BA) (X:aj) (j:Nat) (h:j<l.length),jF7 X (l.take (j+1))=ba (jF7 X (l.take j)) l[j]
 | s::r,X,0,_=>rfl
 | s::r,X,j+1,h=>by
  rw[List.take_succ_cons,jF7,jSq r (ba X s) j (by simpa using h)];rfl
def jDB (X:aj):Prop:=∃db,jDn X db
theorem jFQ:jDB jBX:=⟨[],jOD⟩
theorem jDB.next {X:aj}(h:jDB X)(ha:BA):jDB (ba X ha):=by
 obtain⟨db,h⟩:=h;exact⟨_,(h.next ha).1⟩
theorem jLd:∀(l:List BA) {X:aj},jDB X->jDB (jF7 X l)
 | [],_,h=>h
 | s::r,_,h=>jLd r (h.next s)
end Sq
namespace Sq
theorem jLk (H:BA->BA):∀(n:Nat) (t:Nd n) (k:Int),bq H n (cf n t k).1=bq H n t
 | 0,t,k=>by
  have hk:af.kids t=[]:=by
   cases hq:af.kids t with
   | nil=>rfl
   | cons c _=>exact c.elim
  show jBD _ _ (jEO _ t k).1=jBD _ _ t;unfold jEO jBD jAo bG;simp only[hk,bL]
 | n+1,t,k=>by
  have h:=jNw H (fun c k=>jOx H n c k) (af.kids t) (k+1);show jBD _ _ (jEO _ t k).1=jBD _ _ t;unfold jEO jBD jAo bG;simp only[h.1,h.2]
theorem jTa {g:α->Int->α×Int}:∀(l:List α) (k:Int) (i:Nat) (b:α),(bL g l k).1[i]?=some b->∃c k',l[i]?=some c/\b=(g c k').1
 | [],_,i,b,h=>by simp[bL] at h
 | c::r,k,i,b,h=>by
  rw[bL] at h;cases i with
  | zero=>simp at h;exact⟨c,k,rfl,h.symm⟩
  | succ i=>simp at h;obtain⟨c',k',h1,h2⟩:=jTa r _ i b h;exact⟨c',k',by simpa using h1,h2⟩
theorem jUM (H:BA->BA):∀(m n:Nat) (p:Nd m) (t:Nd n) (k:Int),calm H m n p t->calm H m n p (cf n t k).1
 | 0,0,p,t,k,h=>h.elim Or.inl fun h=>Or.inr (h.trans (jLk H 0 t k).symm)
 | 0,n+1,p,t,k,h=>h.elim Or.inl fun h=>Or.inr (h.trans (jLk H (n+1) t k).symm)
 | m+1,0,p,t,k,h=>h.elim Or.inl fun h=>Or.inr (h.trans (jLk H 0 t k).symm)
 | m+1,n+1,p,t,k,h=>h.elim Or.inl fun h=>Or.inr ⟨h.1.trans (jLk H (n+1) t k).symm,fun i a b ha hb=>by
  obtain⟨c,k',h1,rfl⟩:=jTa (g:=cf n) (af.kids t) (k+1) i b hb;exact jUM H m n a c k' (h.2 i a c ha h1)⟩
theorem qA5 {wide:Nat}{proof:BA}{P:aj}(h:jAM wide proof=some P):okP wide P.d P.t:=by
 unfold jAM at h
 split at h
 ·split at h
  ·rename_i hb;cases h;rw[cP] at hb
   have ha:(aN wide proof.size ⟨proof,false⟩).2.short=false:=by
    have:=hb.1
    unfold jDA at this;rw[cP] at this;simpa using this.2
   exact jOo (wide:=wide) proof.size ⟨proof,false⟩ nR ha
  cases h
 cases h
theorem jY1 {X:aj}(h:jDB X){wide:Nat}(hf:wide<=32)(hb told proof d:BA)(hc:jEk (HS wide) wide X proof=none)(hk:jBW (HS wide) wide (jBf wide X) hb told proof=(d,true)) :
  told=jEa X hb/\d=jBf wide (ba X hb):=by
 obtain⟨db,h⟩:=h;have h3:bj (HS wide) X.ay.d X.ay.t=jBf wide X:=jOx (HS wide) X.d X.t 1;rw[<-h3] at hk;have h1:=qBn (jJm hf) h.st.ay h.bV hb told proof d (fun P hP hd=>?_) hk ⟨false,[]⟩
 ·rw[<-(jNk h.st.ay h.bV hb ⟨false,[]⟩).1] at h1;exact h1
 have ha:bj (HS wide) P.d P.t=bj (HS wide) X.d X.t:=hd.trans h3;unfold jEk at hc;rw[hP] at hc;simp only at hc;rw[cE ha] at hc;exact jUM _ P.d X.d P.t X.t 1 (jSk _ X.d P.d X.t P.t hc)
theorem jZY {X:aj}(h:jDB X){wide:Nat}(hb:1<=wide)(ha:wide<=32)(proof a b:BA)(hc:jEk (HS wide) wide X proof=some (a,b)):a≠b/\HS wide a=HS wide b/\a.size<=1000000/\b.size<=1000000:=by
 obtain⟨db,h⟩:=h;unfold jEk at hc;cases hP:jAM wide proof with
 | none=>rw[hP] at hc;cases hc
 | some P =>
  rw[hP] at hc;simp only at hc
  by_cases hd:bj (HS wide) P.d P.t=bj (HS wide) X.d X.t
  ·rw[cE hd] at hc;obtain⟨x,g1,g2,g3⟩:=h.st.jDp h.bV;have hs:=jPT wide ha 99998 X.d P.d X.t P.t h.jGr ((jNl ha hP).1.t.mono (by decide)) a b hc;have ho:=qA5 hP;obtain⟨n,t,y,rfl,rfl,hr⟩:=g1.cases
   have:=jSj (jJm ha) hb n P.d t P.t y ho hr g3 hd a b hc
   exact⟨this.1,this.2,hs⟩
  rw[cy hd] at hc;cases hc
end Sq
namespace Sq
def small (v:Val):Prop:=v.text.size<=12/\-100000000000<=v.number/\v.number<=100000000000
theorem jHc:small jDY:=⟨by decide,by decide,by decide⟩
theorem aI.small {v:Val}(h:aI v):Sq.small v:=by
 rcases h with⟨_,h1,h2,h3⟩ | ⟨_,h1,h2,_⟩
 ·exact⟨by rw[h3];decide,by omega,by omega⟩
 exact⟨h2,by omega,by omega⟩
theorem jPU:∀(cols:List Col) (x:jDm),(jB5 cols x).bV=true->x.bV=true
 | [],_,h=>h
 | c::q,x,h=>by
  have h1:=jPU q (jAJ c x) h;unfold jAJ at h1
  split at h1
  ·rw[cP] at h1;exact h1.1
  exact h1
theorem jRi:∀(cols:List Col) (x:jDm),(∀v∈x.cells,small v)->(jB5 cols x).bV=true->∀v∈(jB5 cols x).cells,small v
 | [],_,h,_=>h
 | c::q,x,h,hg=>by
  refine jRi q (jAJ c x) ?_ hg;have h1:=jPU q (jAJ c x) hg;unfold jAJ at h1 ⊢
  split
  ·rename_i hk;rw[cE hk,cP] at h1;intro v hv;rcases List.mem_append.1 hv with hv | hv
   ·exact h v hv
   rw[List.mem_singleton.1 hv];exact⟨by simpa using h1.2,by show(-100000000000:Int)<=0;decide,by show(0:Int)<=100000000000;decide⟩
  intro v hv;rcases List.mem_append.1 hv with hv | hv
  ·exact h v hv
  rw[List.mem_singleton.1 hv]
  have:=jU7 x.rd 4 nR
  have h2:0<=aF x.rd 4:=this.1;have h3:aF x.rd 4<4294967296:=this.2.1;exact⟨by show ar.size<=12;decide,by show(-100000000000:Int)<=aF x.rd 4-2147483648;omega,by show aF x.rd 4-2147483648<=100000000000;omega⟩
structure jAQ (r:List Val):Prop where
 len:r.length<=5
 each:∀v∈r,small v
theorem jXo {cols:List Col}{e:Ent}{r:List Val}(hc:cols.length<=4)(h:rowOf cols e=some r):jAQ r:=by
 unfold rowOf jBs at h
 split at h
 ·rename_i hg;cases h;rw[cP] at hg;have hk:=jTm e.place;refine⟨?_,?_⟩
  ·unfold jBT;rw[jNn,ef];show 1+_<=5;omega
  refine jRi _ _ (fun u hu=>?_) hg.1;rw[List.mem_singleton.1 hu];exact⟨by show ar.size<=12;decide,by show _<=jCu e.place;omega,by show jCu e.place<=_;omega⟩
 cases h
theorem jAQ.cell {cols:List Col}{row:List Val}(h:jAQ row)(n:BA):small (cellOf cols row n):=by
 unfold cellOf
 split
 ·exact jHc
 cases hx:row[(find cols n).toNat]? with
 | none=>exact jHc
 | some v=>exact h.each v (cA hx)
theorem jAQ.value {cols:List Col}{row:List Val}(h:jAQ row){t:Term}(ht:small t.lit):small (valueOf cols row t):=by
 unfold valueOf
 split
 ·exact ht
 exact h.cell _
theorem jAQ.result {cols:List Col}{row:List Val}(h:jAQ row){s:bE}(hs:small s.first.lit):small (result cols row s).1:=by
 unfold Sq.result
 split
 ·exact h.value hs
 split
 ·exact jHc
 split
 ·exact jHc
 exact⟨by show ar.size<=12;decide,by show(_:Int)<=numOf _ _ _;omega,by show numOf _ _ _<=(_:Int);omega⟩
theorem jAQ.assign {cols:List Col}{ha:List Val}(ho:jAQ ha):∀{ak:List bE} {row:List Val},(∀s∈ak,small s.first.lit)->jAQ row->jAQ (jAn cols ha ak row).1
 | [],row,_,h=>h
 | s::r,row,hs,h=>by
  rw[jAn]
  split
  ·refine jAQ.assign ho (fun x hx=>hs x (by simp[hx])) ?_;unfold jAA
   split
   ·exact h
   refine⟨by rw[dZ];exact h.len,fun v hv=>?_⟩;rcases List.mem_or_eq_of_mem_set hv with hv | rfl
   ·exact h.each v hv
   exact ho.result (hs s (by simp))
  exact⟨zR,fun v hv=>by simp at hv⟩
theorem jAQ.put {r:List Val}(h:jAQ r):jIl r:=by
 refine⟨cm h.len (by omega),fun v hv=>⟨cm (h.each v hv).1 (by omega),(h.each v hv).2⟩,?_⟩;unfold jAu;rw[jM3,jHB]
 have h4:=jLj jB1 13 (r.drop 1) fun v hv=>by
  have:=(h.each v (dR hv)).1
  unfold jB1
  split
  ·rw[jHt];omega
  rw[jQt];omega
 rw[ef] at h4;have h5:(r.length-1)*13<=4*13:=dS 13 (by have:=h.len;omega);omega
theorem jAQ.key {r:List Val}(h:jAQ r):-100000000000<=keyOf r/\keyOf r<=100000000000:=by
 unfold keyOf;cases r with
 | nil=>exact⟨by decide,by decide⟩
 | cons v q=>exact(h.each v (by simp)).2
theorem jWg (X:aj)(t:bQ)(aq:List bd)(tr:Trl)(ht:t.cols.length<=4):∀r∈(jAe X t aq tr).1,jAQ r:=by
 unfold jAe
 split
 ·intro r h;obtain⟨e,_,hx⟩:=List.mem_filterMap.1 h;exact jXo ht hx
 intro r h;simp at h
theorem qAT {X:aj}{tr:Trl}(hf:aT K X.d X.t)(hr:aS K tr)(hc:jAx X.d X.t<=900)(hp:BA):jGA (aL X hp tr).1:=by
 have ht:=jPP X hp tr;have hn:=jPQ hf hr hc hp;have hb:=jN9 X tr;have hj:=(jJY hp).1
 have key:(∀r∈(aL X hp tr).1.puts,jIl r)/\(∀k∈(aL X hp tr).1.cuts,-100000000000<=k/\k<=100000000000)/\((aL X hp tr).1.makes=true->jD1 (aL X hp tr).1.tab.name/\jCC (aL X hp tr).1.tab.cols):=by
  have h0:∀n,(∀r∈(aE n).puts,jIl r)/\(∀k∈(aE n).cuts,-100000000000<=k/\k<=100000000000)/\((aE n).makes=true->jD1 (aE n).tab.name/\jCC (aE n).tab.cols):=fun n=>⟨fun r h=>(by cases h),fun k h=>(by cases h),fun h=>(by cases h)⟩
  unfold aL jCe
  split
  ·exact h0 _
  rename_i hy;have hk:(parse hp).1=0:=by simpa using hy
  split
  ·rename_i ha;have hi:(parse hp).2.act=1:=by simpa using ha
   have hm:=jRO hp hk hi;have hh:=jM1 hp hi;unfold jCP
   split
   ·exact h0 _
   split
   ·exact h0 _
   split
   ·exact h0 _
   split
   ·exact h0 _
   split
   ·exact h0 _
   exact⟨fun r h=>(by cases h),fun k h=>(by cases h),fun _=>⟨hm.1,⟨by show(parse hp).2.cols.length<=4;omega,hh,hm.2⟩⟩⟩
  split
  ·rename_i t hx;have hl:=(hb _ (jLe hx)).2.2;unfold jAO
   split
   ·exact h0 _
   rename_i hA;have hg:=jLi _ _ (by simpa using hA);unfold jA1 at hg
   split
   ·rename_i hz;rw[cE hz] at hg;unfold jCR jDe;simp only
    split
    ·exact h0 _
    split
    ·exact h0 _
    refine⟨fun r h=>?_,fun k h=>(by cases h),fun h=>(by cases h)⟩;rw[List.mem_singleton.1 h];obtain⟨g1,g2⟩:=jLl (jMD hg hj.ax);exact(⟨by omega,fun v hv=>(g2 v hv).small⟩:jAQ _).put
   have ho:=jWg X t (parse hp).2.aq (bH X tr).2 hl;have he:∀r∈jFH t.cols (jAe X t (parse hp).2.aq (bH X tr).2).1 (parse hp).2.aq,jAQ r:=fun r h=>ho r (List.mem_filter.1 h).1
   unfold jEx;simp only
   split
   ·unfold jCX;cases hu:jAd t.cols (parse hp).2.ak (jFH t.cols (jAe X t (parse hp).2.aq (bH X tr).2).1 (parse hp).2.aq) [] with
    | none=>exact h0 _
    | some p =>
     refine⟨fun r h=>?_,fun k h=>(by cases h),fun h=>(by cases h)⟩;rcases jMz _ _ _ _ _ hu r h with h1 | ⟨q,hq,_,rfl⟩
     ·simp at h1
     exact((he q hq).assign (fun s hs=>(hj.ak s hs).1.small) (he q hq)).put
   split
   ·refine⟨fun r h=>(by cases h),fun k h=>?_,fun h=>(by cases h)⟩;obtain⟨q,hq,rfl⟩:=List.mem_map.1 h;exact(he q hq).key
   exact⟨fun r h=>(by cases h),fun k h=>(by cases h),fun h=>(by cases h)⟩
  exact h0 _
 refine⟨ht.1,by omega,key.1,key.2.1,by omega,fun hm=>?_⟩;obtain⟨h1,h2⟩:=key.2.2 hm;have h3:=h2.few;have h5:=h1;unfold jD1 at h5;refine⟨by omega,by omega,fun c hc=>?_,cm (jMG h1 h2) (by omega)⟩;have h4:=(h2.each c hc).1;unfold jD1 at h4;omega
end Sq
theorem qBd {wide:Nat}(hw:wide<=32){proof:BA}{P:aj}(hn:Sq.jAM wide proof=some P)(root ha:BA):Told wide root ha P:=by
 obtain⟨h1,h2⟩:=Sq.jNl hw hn;exact⟨h1,h2,fun _=>Sq.qAT h1.t (Sq.aS.none _) h2 ha⟩
section
open Go.RowKit
structure jMp (B:Nat)(w:World)(wb sb wide:Nat)(x:aj):Prop where
 blk:w.heap[wb]?=some (.cells #[.pointer (some ⟨sb,0,none⟩),.int .i64 wide] 43)
 srv:jBB sb w wide x
 le:B<=sb
theorem jRW (c:Int)(k:Nat)(hk:Sq.pick c 32=k)(h0:-9223372036854775808<=c)(h1:c<=9223372036854775807)(l:List BA)(v:Value)(w:World)(h:jGs w v l)(hT:Tbl w)(hR:Rnd w) :
  Calls Tryz.prog 18 #[.int .i64 c,v] w fun e w' =>
   (Sq.jCy l=true/\e=.returned (.pointer none)/\w'=w)\/(∃wb sb,Sq.jCy l=false/\e=.returned (.pointer (some ⟨wb,0,none⟩))/\jMp w.heap.size w' wb sb (k+1) (Sq.jF7 jBX l)/\Below w.heap.size w w'):=by
 have hI:=Sq.jJk c 32 (by decide);have hH:k<32:=by omega
 have HK:=hd hk;have hD:=hd h;obtain⟨a,cap,rfl,hl,hX,hP⟩:=h;have hx:=hd hP;have hF:=hd hX;have HT:=hd hT;have hB:=hd hR;have hn:∀w:World,Calls Tryz.prog 14 #[.int .i64 ((k:Int)+1)] w fun e w'=>e=.returned (.tuple #[.pointer (some ⟨w.heap.size,0,none⟩),.int .i64 0])/\jBB w.heap.size w' (k+1) jBX/\Below w.heap.size w w':=fun w=>(jUT (k+1) w (by omega) (by omega)).mono fun e w' hh=>⟨hh.1,by rw[hh.2];exact jBB.new _ _,by rw[hh.2];exact bA⟩
 have ho:=hd hn;clear hP hX hT hR hn hI hk
 by_cases hbig:1048576<l.length
 ·have HE:Hid (Sq.jCy l=true):=by show _=_;unfold Sq.jCy;simp[hbig]
  go_enter Tryz.func18,Tryz.ntmps18;go_wp2;go_ret;exact Or.inl ⟨HE.o,rfl,rfl⟩
 have HE:Hid (Sq.jCy l=(Sq.jFA l l.length).isNone):=by show _=_;unfold Sq.jCy;simp[hbig]
 go_enter Tryz.func18,Tryz.ntmps18;go_wp2
 go_loop [5,6] (fun n i=>∃k m:Nat,k<=l.length/\m<=1048576/\n=.int .i64 m/\i=.int .i64 k/\Hid (Sq.jFA l l.length=Sq.jFA (l.drop k) m)) (fun _ i=>l.length-(intOf i).toNat)
 case atStart=>exact⟨0,l.length,zR,by omega,rfl,rfl,rfl⟩
 case round =>
  obtain⟨q,m,hq,hm,rfl,rfl,HR⟩:=hrel
  by_cases hlt:q<l.length
  ·obtain⟨b,rfl,hb,hc⟩:=hx.o q hlt;have hs:=hF.o l[q] (cJ hlt)
   have hw:Sq.jFA (l.drop q) m=if 1048576<m+l[q].size then none else Sq.jFA (l.drop (q+1)) (m+l[q].size):=by
    rw[cr hlt,Sq.jFA]
   have HS:=hd hw;obtain⟨s,hW⟩:∃s,s=l[q]:=⟨_,rfl⟩;rw[<-hW] at hs hc HS;clear hw hW
   by_cases hmm:1048576<m+s.size
   ·go_wp2;go_ret;refine Or.inl ⟨?_,rfl,rfl⟩;rw[HE.o,HR.o,HS.o,cE hmm];rfl
   go_wp2;go_round
   case rel=>exact⟨q+1,m+s.size,by omega,by omega,by go_num,by go_num,by show _=_;rw[HR.o,HS.o,cy hmm]⟩
   case measure=>simp[intOf];omega
  have hA:Hid (Sq.jCy l=false):=by
   show _=_;rw[HE.o,HR.o,cD (by omega)];rfl
  clear HR HE;go_wp2_with (go_at_call 13;refine(qAh c 32 _ h0 h1 (by decide) (by decide)).mono ?_;rintro e w' ⟨rfl,h2⟩;rw[h2,HK.o];clear h2 w');refine(ho.o _).mono ?_;rintro e w0 ⟨rfl,hN,hQ⟩;have hp:=hd hN;have hy:=hd hQ;clear hN hQ;go_wp2
  go_loopw [10] (fun i wr=>∃j:Nat,j<=l.length/\i=.int .i64 j/\jBB w.heap.size wr (k+1) (Sq.jF7 jBX (l.take j))/\Below w.heap.size w wr) (fun i _=>l.length-(intOf i).toNat)
  case atStart=>exact⟨0,zR,rfl,hp.o,hy.o⟩
  case round =>
   obtain⟨j,hj,rfl,he,hU⟩:=hrel;have hJ:=he.lt;have hi:=hd he;have hf:=hd hU;clear he hU
   by_cases hltj:j<l.length
   ·obtain⟨a2,h3,hY,-,-,hL⟩:=hD.o.below hf.o nR;obtain⟨b,hS,h6,hc⟩:=hL j hltj;simp only[Value.slice.injEq] at hY;obtain⟨hZ,-,-⟩:=hY;rw[<-hZ] at hS;subst hS;have hu:=Sq.jSq l jBX j hltj;obtain⟨h5,hM⟩:∃x,x=l[j]:=⟨_,rfl⟩;rw[<-hM] at hu hc;have ha:Sq.jDB (Sq.jF7 jBX (l.take j)):=Sq.jLd _ Sq.jFQ;have hE:=hd hu;have hg:=hd ha;have hG:=hd (HT.o.below hf.o);have hC:=hd (hB.o.below hf.o);clear hu hM ha hL hZ;go_wp2_with fail;obtain⟨h4,hO⟩:=hg.o;refine(jUR w.heap.size (k+1) _ h4 h5 _ (by omega) hi.o hO hG.o hC.o).mono ?_;rintro e w3 ⟨rfl,hK,hV⟩;rw[<-hE.o] at hK;have hr:=hd hK;have hz:=hd (hf.o.trans (hV.below nR (cQ hJ)));clear hK hV;go_wp2;go_roundw;exact⟨j+1,by omega,by go_num,hr.o,hz.o⟩;simp[intOf];omega
   have hv:l.take j=l:=cL (by omega);have he:=hi.o;rw[hv] at he;have ht:=hd he;clear hv he;go_wp2;go_ret;refine Or.inr ⟨wr.heap.size,w.heap.size,hA.o,rfl,⟨jFE wr _,ht.o.below (bA),nR⟩,cH (B:=w.heap.size) hf.o (by omega) _⟩
structure jCH (w:World)(wb sb wide:Nat)(x:aj):Prop where
 blk:w.heap[wb]?=some (.cells #[.pointer (some ⟨sb,0,none⟩),.int .i64 wide] 43)
 srv:jBB sb w wide x
 bV:Sq.jDB x
 tbl:Tbl w
 rnd:Rnd w
theorem jCH.below {wb wide:Nat}{x:aj}(h:jCH w wb sb wide x)(hb:Below w.heap.size w w'):jCH w' wb sb wide x:=⟨(hb.block wb (jQe h.blk)).trans h.blk,h.srv.below hb,h.bV,h.tbl.below hb,h.rnd.below hb⟩
theorem jCH.cells {wb wide:Nat}{x:aj}(h:jCH w wb sb wide x):w.cell? ⟨wb,0,none⟩=some (.pointer (some ⟨sb,0,none⟩))/\w.cell? ⟨wb,1,none⟩=some (.int .i64 wide)/\wb<w.heap.size:=⟨by rw[jQb h.blk];rfl,by rw[jQb h.blk];rfl,jQe h.blk⟩
theorem jVH {wb wide:Nat}{x:aj}(h:jCH w wb sb wide x)(hw:wide<=32):Calls Tryz.prog 29 #[.pointer (some ⟨sb,0,none⟩)] w fun e w'=>e=.returned (.string (jBf wide x))/\jCH w' wb sb wide x/\Below w.heap.size w w' :=
 (jK7 sb wide x 99998 w hw h.srv h.bV.choose_spec.jGr h.rnd).mono fun e w' hh=>⟨hh.1,h.below hh.2,hh.2⟩
theorem jMo {wb wide:Nat}{x:aj}(h:jCH w wb sb wide x)(hw:wide<=32)(ha:BA):Calls Tryz.prog 22 #[.pointer (some ⟨sb,0,none⟩),.string ha] w fun e w'=>e=.returned (.agg #[.string (Sq.jEa x ha),.string (Sq.jB2 wide x ha),.string (jBf wide (Sq.ba x ha))])/\jCH w' wb sb wide x/\Below w.heap.size w w' :=
 (jUD sb wide x _ ha w hw h.srv h.bV.choose_spec h.tbl h.rnd).mono fun e w' hh=>⟨hh.1,h.below hh.2,hh.2⟩
theorem jEV (h:w.heap[b]?=some (.cells #[a0,a1,a2] 30)):w.cell? ⟨b,0,none⟩=some a0/\w.cell? ⟨b,1,none⟩=some a1/\w.cell? ⟨b,2,none⟩=some a2/\b<w.heap.size :=
 ⟨by rw[jQb h];rfl,by rw[jQb h];rfl,by rw[jQb h];rfl,jQe h⟩
end
namespace Sq
def jGo (ai:Int)(b:List Int)(i:Nat):Nat->Nat->Int->List Int->Option (List Int)
 | 0,_,_,_=>none
 | f+1,j,c,out =>
  if j<b.length then
   (if i+j<out.length/\0<=at0 out (i+j)/\0<=c/\0<=ai/\0<=at0 b j/\at0 out (i+j)+c+ai*at0 b j<4611686018427387904 then
    jGo ai b i f (j+1) ((at0 out (i+j)+c+ai*at0 b j) / 65536) (out.set (i+j) (HMod.hMod (at0 out (i+j)+c+ai*at0 b j) (65536:Int))) else none)
  else if 0<c then
   (if i+j<out.length/\0<=at0 out (i+j)/\at0 out (i+j)+c<4611686018427387904 then
    jGo ai b i f (j+1) ((at0 out (i+j)+c) / 65536) (out.set (i+j) (HMod.hMod (at0 out (i+j)+c) (65536:Int))) else none)
  else some out
def jFM (a b:List Int):Nat->Nat->List Int->Option (List Int)
 | 0,_,out=>some out
 | n+1,i,out=>(jGo (at0 a i) b i 20 0 0 out).bind fun o=>jFM a b n (i+1) o
def jFt (a b:List Int):Option (List Int):=jFM a b a.length 0 (List.replicate (a.length+b.length) 0)
def jC9 (n:Int):List Int:=[HMod.hMod n (65536:Int),HMod.hMod (n / 65536) (65536:Int),n / 4294967296]
def leT (l r:List Int):Nat->Bool
 | 0=>true
 | k+1=>if at0 l k=at0 r k then leT l r k else Decidable.decide (at0 l k<at0 r k)
def jFz (x p:Int)(ha:Bool):Option Bool :=
 (jFt (jC9 x) (jC9 x)).bind fun l =>
  if ha then(jFt l (jC9 x)).bind fun m=>some (leT m ((List.replicate m.length 0).set 6 p) m.length)
  else some (leT l ((List.replicate l.length 0).set 4 p) l.length)
def jFe (p:Int)(ha:Bool):Nat->Int->Int->Option Int
 | 0,_,_=>none
 | f+1,lo,hi=>if lo+1<hi then
   (if 0<=lo/\hi<=274877906944 then(jFz ((lo+hi) / 2) p ha).bind fun b=>if b then jFe p ha f ((lo+hi) / 2) hi else jFe p ha f lo ((lo+hi) / 2) else none)
  else some lo
def jIA (p:Int):Nat->Int->Option Int
 | 0,_=>none
 | f+1,d=>if 0<d/\d<100000 then(if HMod.hMod p d=0 then some d else jIA p f (d+1)) else none
def jDT:Nat->Int->Int->Option Int
 | 0,_,_=>none
 | f+1,p,n=>if 0<p/\p<100000 then(jIA p 400 2).bind fun d=>if d=p then(if n=0 then some p else jDT f (p+1) (n-1)) else jDT f (p+1) n else none
def jFo (n:Int)(ha:Bool):Option Int:=(jDT 400 2 n).bind fun p=>(jFe p ha 40 0 274877906944).bind fun x=>some (HMod.hMod x (4294967296:Int))
end Sq
end Go.Proofs.YtahpihjialbanaaGreatDoor
