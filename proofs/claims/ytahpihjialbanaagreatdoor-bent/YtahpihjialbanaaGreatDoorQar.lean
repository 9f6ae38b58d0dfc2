import Derived.Test.YtahpihjialbanaaGreatDoorQal
import Derived.Test.YtahpihjialbanaaGreatDoorQan
import Derived.Test.YtahpihjialbanaaGreatDoorQap
import Derived.Test.YtahpihjialbanaaGreatDoorQaq
set_option linter.all false
set_option maxRecDepth 100000
set_option maxHeartbeats 8000000
namespace Go.Proofs.YtahpihjialbanaaGreatDoor
open Sq (Nd Trl aj aE aS aT aL PSt bd bE bQ bY Col Val aI ar bH jA1 jA2 jAa jAb jAc jAe jAj jAx jB6 jBE jBZ jBn jCP jCR jCX jCh jCu jD9 jEF jEN jEx jFH jHU jIu)
variable {B b k n sb tb:Nat}{K:Int}{c:Array Value}{cv ev kv pv v:Value}{e:TypeId}{fr:Nat×Nat}{w w' w1 w2:World}{xs:List Value}
namespace Sq
def jD1 (n:BA):Prop:=1<=n.size/\n.size<=8
def jED (k:Int):Prop:=k=0\/k=1
structure jCC (cols:List Col):Prop where
 few:cols.length<=4
 head:∃c q,cols=c::q/\c.kind=0
 each:∀c∈cols,jD1 c.name/\jED c.kind
def typed:List Col->List Val->Prop
 | [],[]=>True
 | c::q,v::r=>(v.kind=c.kind/\aI v)/\typed q r
 | _,_=>False
theorem jUd (x:Int)(b:BA)(h0:0<=x)(h1:x<256):aF ⟨bz x 1++b,false⟩ 1=x/\takeN ⟨bz x 1++b,false⟩ 1=⟨b,false⟩:=jHA x 1 b h0 (by omega)
theorem qB9 (x:Int)(b:BA)(h0:0<=x)(h1:x<4294967296):aF ⟨bz x 4++b,false⟩ 4=x/\takeN ⟨bz x 4++b,false⟩ 4=⟨b,false⟩:=by
 have h2:(256:Int)^4=4294967296:=by decide
 exact jHA x 4 b h0 (by rw[h2];exact h1)
theorem jSR:jDA ⟨ar,false⟩=true:=by decide +kernel
theorem jLC (a b c:BA):a++b++c=a++(b++c):=dw
theorem jUz (b:BA):b++ar=b:=by
 apply ey;simp[ar]
theorem jRR (b:BA)(cols:List Col):jFq b cols=b++bW (cols.map jCT):=by
 rw[<-jIU,List.foldl_map];rfl
theorem jM3 (b:BA)(l:List Val):jFr b l=b++bW (l.map jB1):=by
 rw[<-jIU,List.foldl_map];rfl
theorem jSX:∀(cs:List Col) (i:Nat) (b:BA) (acc:List Col),(∀c∈cs,jD1 c.name/\jED c.kind)->(i=0->∀c,cs.head?=some c->c.kind=0) ->
  jEJ cs.length i ⟨bW (cs.map jCT)++b,false⟩ acc=⟨acc++cs,⟨b,false⟩,true⟩
 | [],i,b,acc,_,_=>by rw[List.length_nil,jEJ,dO,cW];show jJr.mk acc ⟨ar++b,false⟩ true=_;rw[jHB]
 | c::r,i,b,acc,h,h0=>by
  obtain⟨⟨n1,n2⟩,hk⟩:=h c (by simp);have ha:0<=c.kind:=by rcases hk with hk | hk<;>omega
  have hb:c.kind<256:=by rcases hk with hk | hk<;>omega
  have e:bW ((c::r).map jCT)++b=bz c.kind 1++(txt c.name++(bW (r.map jCT)++b)):=by
   rw[cM,jIa];unfold jCT;rw[jLC,jLC]
  have hn:=jUd c.kind (txt c.name++(bW (r.map jCT)++b)) ha hb;have ht:=jL4 c.name (bW (r.map jCT)++b) (by omega)
  have hv:jGt ⟨bW ((c::r).map jCT)++b,false⟩=c:=by
   unfold jGt;rw[e,hn.1,hn.2,ht.1]
  have hd:jHj ⟨bW ((c::r).map jCT)++b,false⟩=⟨bW (r.map jCT)++b,false⟩:=by
   unfold jHj;rw[e,hn.2,ht.2]
  have hg:jDD c i=true:=by
   unfold jDD jGu;rcases hk with hk | hk
   ·simp[hk,n1,n2]
   have:i≠0:=fun hi=>by have:=h0 hi c rfl;omega
   have:0<i:=by omega
   simp[hk,n1,n2,this]
  rw[cG,jEJ,hv,hd,hg,cE rfl,jSX r (i+1) b (acc++[c]) (fun x hx=>h x (by simp[hx])) (fun hi=>by omega)];simp
theorem jYN {name:BA}{cols:List Col}(hn:jD1 name)(hc:jCC cols):jBt (jAL name cols)=some (name,cols):=by
 have hl:=hc.few;have hp:1<=cols.length:=by obtain⟨c,q,e,_⟩:=hc.head;rw[e];simp
 have e:jAL name cols=txt name++(bz cols.length 1++(bW (cols.map jCT)++ar)):=by
  unfold jAL;rw[jRR,jLC,jUz]
 have h1:=jL4 name (bz cols.length 1++(bW (cols.map jCT)++ar)) (by have:=hn.2;omega);have h2:=jUd cols.length (bW (cols.map jCT)++ar) (by omega) (by omega)
 have hh:jAs (jAL name cols)=(name,(cols.length:Int),⟨bW (cols.map jCT)++ar,false⟩):=by
  unfold jAs;rw[e,h1.1,h1.2,h2.1,h2.2]
 have hg:jEc (jAL name cols)=true:=by
  unfold jEc jGu;rw[hh];simp only[cP,cZ];exact⟨⟨⟨hn.1,hn.2⟩,by omega⟩,by omega⟩
 have ha:jCg (jAL name cols)=⟨cols,⟨ar,false⟩,true⟩:=by
  unfold jCg;rw[hg,cE rfl,hh];simp only[cC];rw[jSX cols 0 ar [] hc.each ?_]
  ·simp
  intro _ c hb;obtain⟨c',q,e',hk⟩:=hc.head;rw[e'] at hb;simp at hb;rw[<-hb];exact hk
 unfold jBt;rw[ha,hh];simp only[jSR,Bool.and_self,dT]
theorem jSm:∀(cols:List Col) (row:List Val) (b:BA) (acc:List Val),(∀c∈cols,jED c.kind)->typed cols row ->
  jB5 cols ⟨acc,⟨bW (row.map jB1)++b,false⟩,true⟩=⟨acc++row,⟨b,false⟩,true⟩
 | [],[],b,acc,_,_=>by show jDm.mk acc ⟨ar++b,false⟩ true=_;rw[jHB,cW]
 | [],_::_,_,_,_,h=>by unfold typed at h;exact h.elim
 | _::_,[],_,_,_,h=>by unfold typed at h;exact h.elim
 | c::q,v::r,b,acc,hk,h=>by
  unfold typed at h;obtain⟨⟨hb,hv⟩,ht⟩:=h;have ih:=fun acc=>jSm q r b acc (fun x hx=>hk x (by simp[hx])) ht
  have e:bW ((v::r).map jB1)++b=jB1 v++(bW (r.map jB1)++b):=by rw[cM,jIa,jLC]
  have hs:jAJ c ⟨acc,⟨bW ((v::r).map jB1)++b,false⟩,true⟩=⟨acc++[v],⟨bW (r.map jB1)++b,false⟩,true⟩:=by
   unfold jAJ;rw[e];rcases hv with⟨h1,h2,h3,h4⟩ | ⟨h1,h2,h3,_⟩
   ·have ha:(c.kind==1)=false:=by rw[<-hb,h1];rfl
    have ho:jB1 v=bz (v.number+2147483648) 4:=by unfold jB1;rw[h1];rfl
    have:=qB9 (v.number+2147483648) (bW (r.map jB1)++b) (by omega) (by omega)
    rw[ha,ho,cy (by simp)];simp only[this.1,this.2];obtain⟨k,n,t⟩:=v;simp only at h1 h4;subst h1 h4;rw[show n+2147483648-2147483648=n by omega]
   have ha:(c.kind==1)=true:=by rw[<-hb,h1];rfl
   have ho:jB1 v=txt v.text:=by unfold jB1;rw[h1];rfl
   have:=jL4 v.text (bW (r.map jB1)++b) (by omega)
   rw[ha,ho,cE rfl];simp only[this.1,this.2];obtain⟨k,n,t⟩:=v;simp only at h1 h2 h3;subst h1 h2;simp[h3]
  unfold jB5;rw[de,hs]
  have:=ih (acc++[v])
  unfold jB5 at this;rw[this];simp
theorem jYO {cols:List Col}{row:List Val}(hc:jCC cols)(ht:typed cols row):jBs cols (keyOf row) (jAu row)=some row:=by
 obtain⟨c,q,rfl,hk⟩:=hc.head;cases row with
 | nil=>unfold typed at ht;exact ht.elim
 | cons v r =>
  unfold typed at ht;obtain⟨⟨hb,hv⟩,ht⟩:=ht
  have ha:v=⟨0,v.number,ar⟩:=by
   rcases hv with⟨h1,_,_,h4⟩ | ⟨h1,_⟩
   ·obtain⟨k,n,t⟩:=v;simp only at h1 h4;subst h1 h4;rfl
   omega
  have e:jAu (v::r)=bW (r.map jB1)++ar:=by
   unfold jAu;rw[jM3,jUz,jHB];rfl
  have hr:jBT (c::q) (keyOf (v::r)) (jAu (v::r))=⟨v::r,⟨ar,false⟩,true⟩:=by
   unfold jBT;rw[e];show jB5 q ⟨[⟨0,v.number,ar⟩],_,true⟩=_;rw[<-ha,jSm q r ar [v] (fun x hx=>(hc.each x (by simp[hx])).2) ht];rfl
  unfold jBs;rw[hr];simp only[jSR,Bool.and_self,dT]
theorem jRh (t k:Int)(h0:-2147483648<=k)(h1:k<=2147483647):jCu (placeOf t k)=k:=by
 unfold jCu placeOf;omega
theorem jJc {t k t' k':Int}(h0:-2147483648<=k)(h1:k<=2147483647)(h2:-2147483648<=k')(h3:k'<=2147483647):placeOf t k<placeOf t' k'↔t<t'\/(t=t'/\k<k'):=by
 unfold placeOf;omega
theorem jG4 {t k t' k':Int}(h0:-2147483648<=k)(h1:k<=2147483647)(h2:-2147483648<=k')(h3:k'<=2147483647):placeOf t k=placeOf t' k'↔t=t'/\k=k':=by
 unfold placeOf;omega
end Sq
namespace Sq
def made (db:List Tab)(o:Out):List Tab:=if o.makes then db++[⟨o.name,o.cols,[]⟩] else db
def apply (db:List Tab)(o:Out):List Tab:=aZ (made db o) o.table.toNat (jDN o.cuts (jDa o.puts (jDb (made db o) o.table.toNat)))
def after (db:List Tab)(ha:BA):List Tab:=apply db (Sq.decide db ha)
structure jDE (r:List Val):Prop where
 ax:∀v∈r,aI v
 head:∃v q,r=v::q/\v.kind=0
structure jKx (t:Tab):Prop where
 cols:t.cols.length<=4
 head:∃c q,t.cols=c::q/\c.kind=0
 sorted:sorted t.rows
 rows:∀r∈t.rows,jDE r
structure bV (db:List Tab):Prop where
 few:db.length<=5
 size:jDO db<=60
 each:∀t∈db,jKx t
theorem qCo:bV []:=⟨by simp,by simp[jDO,jDg],by simp⟩
theorem aI.ok {v:Val}(h:aI v):jFL v:=by
 rcases h with⟨_,h1,h2,h3⟩ | ⟨_,h1,h2,_⟩
 ·exact⟨by omega,by omega,by rw[h3];decide⟩
 exact⟨by omega,by omega,by omega⟩
theorem qBw:∀(db:List Tab) (k:Nat) (hk:k<db.length) (t:Tab),jDg (db.set k t)+db[k].rows.length=jDg db+t.rows.length:=by
 intro db
 induction db with
 | nil=>intro k hk;simp at hk
 | cons x r ih =>
  intro k hk t;have e:∀(y:Tab) (q:List Tab),jDg (y::q)=y.rows.length+jDg q:=fun y q=>by simp[jDg]
  cases k with
  | zero=>rw[List.set_cons_zero,e,e,List.getElem_cons_zero];omega
  | succ k =>
   have:=ih k (by simpa using hk) t
   rw[List.set_cons_succ,e,e,List.getElem_cons_succ];omega
theorem jMJ {db:List Tab}(h:bV db)(k:Nat)(hk:k<db.length)(rows:List (List Val))(hs:sorted rows)(hr:∀r∈rows,jDE r)(hl:jDO db+rows.length<=60+db[k].rows.length):bV (aZ db k rows):=by
 refine⟨by rw[jKD];exact h.few,?_,?_⟩
 ·unfold jDO at hl ⊢;rw[jKD,jHZ db k hk]
  have:=qBw db k hk { db[k] with rows:=rows }
  simp only at this ⊢;omega
 rw[jHZ db k hk];intro t ht;rcases List.mem_or_eq_of_mem_set ht with ht | rfl
 ·exact h.each t ht
 have:=h.each db[k] (cJ hk)
 exact⟨this.cols,this.head,hs,hr⟩
theorem jTr {db:List Tab}(h:bV db)(o:Out)(h1:o.makes=false)(h2:o.puts=[])(h3:o.cuts=[]):bV (apply db o):=by
 have e:made db o=db:=by unfold made;rw[h1];rfl
 unfold apply;rw[e,h2,h3];show bV (aZ db _ (jDb db _));rw[jH3];exact h
theorem jQQ {db:List Tab}(h:bV db)(n:Int):bV (apply db (refused n)):=jTr h _ rfl rfl rfl
theorem jLi (cols:List Col)(st:PSt)(h:check cols st=0):jA1 cols st=0:=by
 unfold check at h
 split at h
 ·exact h
 rename_i h2;simpa using h2
theorem jVS (c:Col)(q:List Col)(ax:List Val)(h:jAm (c::q) ax=0):∃v r,ax=v::r/\v.kind=c.kind:=by
 unfold jAm at h
 split at h
 ·simp at h
 rename_i hl;simp at hl
 match ax,hl,h with
 | v::r,_,h =>
  refine⟨v,r,rfl,?_⟩;rw[jAc] at h
  split at h
  ·simp at h
  rename_i hk;simpa using hk
theorem jWa (cols:List Col):∀(ak e:List bE),jAj cols e ak=0->∀s∈ak,find cols s.column≠0:=by
 intro ak
 induction ak with
 | nil=>intro e _ s hs;simp at hs
 | cons x r ih =>
  intro e h s hs;rw[jAj] at h
  split at h
  ·rename_i hx;rw[h] at hx;simp at hx
  rename_i hx;rcases List.mem_cons.1 hs with rfl | hs
  ·have ha:jA2 cols e s=0:=by simpa using hx
   intro h0;unfold jA2 at ha;rw[h0] at ha
   split at ha<;>simp at ha
  exact ih _ h s hs
theorem jXO (cols:List Col)(row:List Val)(n:BA)(h:∀v∈row,aI v):aI (cellOf cols row n):=by
 unfold cellOf
 split
 ·exact jCQ
 cases h2:row[(find cols n).toNat]? with
 | none=>exact jCQ
 | some v=>exact h v (cA h2)
theorem jWA (cols:List Col)(row:List Val)(t:Term)(h:∀v∈row,aI v)(ht:aI t.lit):aI (valueOf cols row t):=by
 unfold valueOf
 split
 ·exact ht
 exact jXO cols row _ h
theorem jXq (cols:List Col)(row:List Val)(s:bE)(h:∀v∈row,aI v)(hs:aI s.first.lit):aI (result cols row s).1:=by
 unfold result
 split
 ·exact jWA cols row _ h hs
 split
 ·exact jCQ
 split
 ·exact jCQ
 exact Or.inl ⟨rfl,by show _<=numOf _ _ _;omega,by show numOf _ _ _<=_;omega,rfl⟩
theorem jV6 (cols:List Col)(hc:List Val)(ho:∀v∈hc,aI v):∀(ak:List bE) (row:List Val),(∀s∈ak,aI s.first.lit)->(∀s∈ak,find cols s.column≠0)->jDE row->(jAn cols hc ak row).2=true ->
  jDE (jAn cols hc ak row).1/\keyOf (jAn cols hc ak row).1=keyOf row:=by
 intro ak
 induction ak with
 | nil=>intro row _ _ h _;exact⟨h,rfl⟩
 | cons s r ih =>
  intro row h1 h2 h3 h4;rw[jAn] at h4 ⊢
  split
  ·rename_i hk;rw[cE hk] at h4
   have ha:jDE (jAA cols hc row s)/\keyOf (jAA cols hc row s)=keyOf row:=by
    unfold jAA
    split
    ·exact⟨h3,rfl⟩
    rename_i hf;have hb:=h2 s (by simp);obtain⟨k,hk⟩:∃k,(find cols s.column).toNat=k+1:=⟨(find cols s.column).toNat-1,by omega⟩;rw[hk];obtain⟨v,q,hv,hg⟩:=h3.head;rw[hv,List.set_cons_succ];refine⟨⟨?_,⟨v,_,rfl,hg⟩⟩,rfl⟩;intro x hx;rcases List.mem_cons.1 hx with rfl | hx
    ·exact h3.ax x (by rw[hv];simp)
    rcases List.mem_or_eq_of_mem_set hx with hx | rfl
    ·exact h3.ax x (by rw[hv];simp[hx])
    exact jXq cols hc s ho (h1 s (by simp))
   have:=ih _ (fun x hx=>h1 x (by simp[hx])) (fun x hx=>h2 x (by simp[hx])) ha.1 h4
   exact⟨this.1,this.2.trans ha.2⟩
  rename_i hk;rw[cy hk] at h4;simp at h4
theorem jMz (cols:List Col)(ak:List bE):∀(rows acc puts:List (List Val)),jAd cols ak rows acc=some puts->∀p∈puts,p∈acc\/∃r∈rows,(assigned cols r ak).2=true/\p=(assigned cols r ak).1:=by
 intro rows
 induction rows with
 | nil=>intro acc puts h p hp;rw[jAd] at h;simp at h;subst h;exact Or.inl hp
 | cons x q ih =>
  intro acc puts h p hp;rw[jAd] at h
  split at h
  ·rename_i hx;rcases ih _ _ h p hp with h1 | ⟨r,hr,h1⟩
   ·rcases List.mem_append.1 h1 with h1 | h1
    ·exact Or.inl h1
    simp at h1;exact Or.inr ⟨x,by simp,hx,h1⟩
   exact Or.inr ⟨r,by simp[hr],h1⟩
  simp at h
theorem qCn {db:List Tab}(h:bV db)(k:Nat)(hk:k<db.length)(st:PSt)(n:Nat)(hj:aY aI n st):bV (apply db (jC4 db db[k] k st)):=by
 have ht:=h.each db[k] (cJ hk);unfold jC4
 split
 ·exact jQQ h _
 rename_i hc;have hh:check db[k].cols st=0:=by simpa using hc
 have hb:=jLi _ _ hh;have hi:=h.size
 split
 ·rename_i ha;unfold Sq.insert
  split
  ·exact jQQ h _
  split
  ·exact jQQ h _
  rename_i h6;unfold apply made;simp only[dr,eD,cC];rw[jH5 db k hk];show bV (aZ db k (put st.ax db[k].rows))
  have hv:jDE st.ax:=by
   refine⟨hj.ax,?_⟩;obtain⟨c,q,hq,ho⟩:=ht.head
   have h7:jAm db[k].cols st.ax=0:=by
    unfold jA1 at hb;rw[cE ha] at hb;exact hb
   rw[hq] at h7;obtain⟨v,r,hy,hx⟩:=jVS c q st.ax h7;exact⟨v,r,hy,hx.trans ho⟩
  refine jMJ h k hk _ (jNm ht.sorted) ?_ ?_
  ·intro r hr;rcases jL2 hr with rfl | hr
   ·exact hv
   exact ht.rows r hr
  have:=qCL st.ax db[k].rows
  omega
 rename_i ha
 split
 ·rename_i hn;unfold Sq.update;cases hu:jAd db[k].cols st.ak (jCw db[k] st.aq) [] with
  | none=>exact jQQ h _
  | some puts =>
   unfold jHf apply made;simp only[dr,eD,cC];rw[jH5 db k hk];show bV (aZ db k (jDa puts db[k].rows))
   have he:∀s∈st.ak,find db[k].cols s.column≠0:=by
    unfold jA1 at hb;rw[cy ha,cE hn] at hb;exact jWa _ _ _ hb
   have hp:∀p∈puts,jDE p/\jJH db[k].rows (keyOf p):=by
    intro p hp;rcases jMz _ _ _ _ _ hu p hp with h1 | ⟨r,hr,h2,rfl⟩
    ·simp at h1
    have hf:r∈db[k].rows:=(List.mem_filter.1 hr).1;have hg:=ht.rows r hf
    have:=jV6 db[k].cols r hg.ax st.ak r (fun s hs=>(hj.ak s hs).1) he hg h2
    exact⟨this.1,r,hf,this.2.symm⟩
   refine jMJ h k hk _ (jPl puts ht.sorted) ?_ ?_
   ·intro r hr;rcases jM0 puts hr with hr | hr
    ·exact(hp r hr).1
    exact ht.rows r hr
   have:=jRK puts (rows:=db[k].rows) (fun p h=>(hp p h).2)
   omega
 split
 ·unfold Sq.remove apply made;simp only[dr,eD,cC];rw[jH5 db k hk];show bV (aZ db k (jDN _ db[k].rows));refine jMJ h k hk _ (jPf _ ht.sorted) (fun r hr=>ht.rows r (jMZ _ hr)) ?_
  have:=jSh ((jCw db[k] st.aq).map keyOf) (rows:=db[k].rows)
  omega
 exact jTr h _ rfl rfl rfl
theorem qCX {db:List Tab}(h:bV db)(st:PSt)(n:Nat)(hc:aY aI n st)(hh:st.act=1->∃c q,st.cols=c::q/\c.kind=0):bV (apply db (jEX db st)):=by
 unfold jEX
 split
 ·rename_i ha;unfold create
  split
  ·exact jQQ h _
  split
  ·exact jQQ h _
  split
  ·exact jQQ h _
  split
  ·exact jQQ h _
  split
  ·exact jQQ h _
  rename_i h1 h2 h3 h4 h5;unfold apply made;simp only[dT];show bV (aZ (db++[_]) _ (jDb _ _));rw[jH3];refine⟨by simp;omega,?_,?_⟩
  ·unfold jDO jDg at h5 ⊢;simp;omega
  intro t ht;rcases List.mem_append.1 ht with ht | ht
  ·exact h.each t ht
  simp at ht;subst ht;exact⟨by show st.cols.length<=4;omega,hh (by simpa using ha),List.Pairwise.nil,by simp⟩
 split
 ·rename_i t hx
  split
  ·exact jQQ h _
  rename_i h0;obtain⟨k,hk⟩:=cU (show 0<=jDd db st.table by omega);rw[hk] at hx ⊢;rw[cC] at hx;obtain⟨hb,ht⟩:=List.getElem?_eq_some_iff.1 hx;subst ht;exact qCn h k hb st n hc
 exact jQQ h _
theorem jH4 (ws:List Word)(body:PSt->PSt)(Q:PSt->Prop)(hb:∀st,Q st->Q (body (step1 st))):∀f st,Q st->Q (bp ws body f st):=by
 intro f
 induction f with
 | zero=>intro st h;exact h
 | succ f ih =>
  intro st h;rw[bp]
  split
  ·exact ih _ (hb st h)
  exact h
theorem jLY (ws:List Word)(st:PSt):(jDj ws st).act=st.act:=by
 show(jFk ws st).act=_
 have h2:=jS3 ws st;unfold jFk jFP
 split
 ·exact((h2.trans (jQK _)).trans (jHV ws _)).act
 split
 ·exact((h2.trans (jQK _)).trans (jHV ws _)).act
 exact h2.act
theorem jHY (ws:List Word)(st:PSt):(jAN ws st).act=st.act:=(jQ5 ws st).act
theorem jQ3 (ws:List Word)(st:PSt)(m:BA):(aK ws st m).act=st.act:=(jQZ ws st m).act
theorem jVZ (ws:List Word)(st:PSt)(h0:st.act=0)(hc:st.cols=[]):(jAg ws st).act=1->∃c q,(jAg ws st).cols=c::q/\c.kind=0:=by
 unfold jAg
 split
 ·intro _;unfold jDc;simp only;rw[(jQZ ws _ jBO).cols];refine jH4 ws (jFm ws) (fun st=>∃c q,st.cols=c::q/\c.kind=0) ?_ _ _ ?_
  ·rintro s ⟨c,q,h1,h2⟩;refine⟨c,q++[⟨jAV ws (step1 s),jFg ws (bO ws (step1 s))⟩],?_,h2⟩
   show(jCS ws (bO ws (step1 s))).cols++[_]=_
   rw[jRy,jJ0];show s.cols++[_]=_;rw[h1];rfl
  refine⟨⟨jAV ws (aK ws (jAN ws (aK ws (bx (bn ws st) 1) jEi)) jCN),0⟩,[],?_,rfl⟩
  show(aK ws _ _).cols++[_]=_
  rw[jIX,jJ0,jIX,jMC,jIX]
  show(bn ws st).cols++[_]=_
  rw[jKX,hc];rfl
 split
 ·intro h;unfold jDf at h;simp only at h;rw[jQ3,jH4 ws (jBK ws) (fun st=>st.act=2) (fun s hs=>((jIP ws (step1 s)).act).trans hs) _ _ ?_] at h
  ·simp at h
  refine((jIP ws _).act).trans ?_;rw[jQ3,jQ3,jHY,jQ3];rfl
 split
 ·intro h;unfold jDI at h;simp only at h;rw[(jGZ ws _).act,jH4 ws (jDj ws) (fun st=>st.act=3) (fun s hs=>(jLY ws (step1 s)).trans hs) _ _ ?_] at h
  ·simp at h
  rw[jLY,jQ3,jHY];rfl
 split
 ·intro h;unfold jD3 at h;rw[(jGZ ws _).act,jHY,jQ3] at h;simp[bx] at h
 split
 ·intro h;unfold jBz at h;rw[(jGZ ws _).act,jHY,jQ3] at h
  have h5:(jBp ws (bx (bn ws st) 5)).act=5:=by
   unfold jBp
   split
   ·rfl
   split
   ·rfl
   split
   ·rw[jQ3,jIQ,jQ3];rfl
   unfold jCB;exact jH4 ws (jCt ws) (fun st=>st.act=5) (fun s hs=>(jIQ ws (step1 s)).trans hs) _ _ (jIQ ws _)
  rw[h5] at h;simp at h
 intro h
 have:(bn ws st).act=1:=h
 rw[(jIZ ws st).act,h0] at this;simp at this
theorem jM1 (ha:BA):(parse ha).2.act=1->∃c q,(parse ha).2.cols=c::q/\c.kind=0:=by
 have h0:st0.act=1->∃c q,st0.cols=c::q/\c.kind=0:=fun h=>by simp[st0] at h
 unfold parse
 split
 ·exact h0
 cases h:split ha with
 | none=>exact h0
 | some ws =>
  simp only
  split
  ·exact h0
  exact jVZ ws st0 rfl rfl
theorem jZl {db:List Tab}(h:bV db)(ha:BA):bV (after db ha):=by
 unfold after Sq.decide
 split
 ·exact jQQ h _
 exact qCX h _ 163 (jJY ha).1 (jM1 ha)
theorem qB3 (ha:BA):jMn (parse ha).2:=by
 obtain⟨h1,h2⟩:=jJY ha;have h3:=h1.few;exact⟨by omega,by omega,by omega,by omega,by omega,fun v hv=>(h1.ax v hv).ok,fun s hs=>⟨(h1.ak s hs).1.ok,(h1.ak s hs).2.ok⟩⟩
end Sq
namespace Sq
theorem jJj:∀{a b:List Ent},srt a->srt b->(∀e,e∈a↔e∈b)->a=b
 | [],[],_,_,_=>rfl
 | [],y::b,_,_,h=>by have:=(h y).2 (by simp);simp at this
 | x::a,[],_,_,h=>by have:=(h x).1 (by simp);simp at this
 | x::a,y::b,ha,hb,h=>by
  have hc:=List.pairwise_cons.1 ha;have hf:=List.pairwise_cons.1 hb
  have hg:x=y:=by
   rcases List.mem_cons.1 ((h x).1 (by simp)) with h1 | h1
   ·exact h1
   rcases List.mem_cons.1 ((h y).2 (by simp)) with h2 | h2
   ·exact h2.symm
   have:=hf.1 x h1;have:=hc.1 y h2;omega
  subst hg
  have:a=b:=jJj hc.2 hf.2 fun e=>by
   constructor
   ·intro he;rcases List.mem_cons.1 ((h e).1 (by simp[he])) with h1 | h1
    ·subst h1;have:=hc.1 e he;omega
    exact h1
   intro he;rcases List.mem_cons.1 ((h e).2 (by simp[he])) with h1 | h1
   ·subst h1;have:=hf.1 e he;omega
   exact h1
  rw[this]
theorem jU9 {es:List Ent}{e x:Ent}:x∈ins es e↔x=e\/(x∈es/\x.place≠e.place):=by
 unfold ins;rw[List.mem_append,dI,eh,eh];simp only[cZ]
 constructor
 ·rintro(⟨h1,h2⟩ | h1 | ⟨h1,h2⟩)
  ·exact Or.inr ⟨h1,by omega⟩
  ·exact Or.inl h1
  exact Or.inr ⟨h1,by omega⟩
 rintro(h1 | ⟨h1,h2⟩)
 ·exact Or.inr (Or.inl h1)
 rcases Int.lt_or_gt_of_ne h2 with h3 | h3
 ·exact Or.inl ⟨h1,h3⟩
 exact Or.inr (Or.inr ⟨h1,h3⟩)
def jCF (i:Nat)(t:Tab):Ent:=⟨placeOf 0 i,jAL t.name t.cols⟩
def jBw (i:Nat)(r:List Val):Ent:=⟨placeOf i (keyOf r),jAu r⟩
def jEK:Nat->List Tab->List Ent
 | _,[]=>[]
 | i,t::q=>jCF i t::jEK (i+1) q
def jFW:Nat->List Tab->List Ent
 | _,[]=>[]
 | i,t::q=>t.rows.map (jBw i)++jFW (i+1) q
def jBL (db:List Tab):List Ent:=jEK 1 db++jFW 1 db
theorem jJ7 {e:Ent}:∀{db:List Tab} {i:Nat},e∈jEK i db↔∃k t,db[k]?=some t/\e=jCF (i+k) t
 | [],i=>by simp[jEK]
 | t::q,i=>by
  rw[jEK,dI,jJ7 (db:=q)]
  constructor
  ·rintro(h | ⟨k,x,h1,h2⟩)
   ·exact⟨0,t,rfl,h⟩
   exact⟨k+1,x,by simpa using h1,by rw[h2];congr 1;omega⟩
  rintro⟨k,x,h1,h2⟩;cases k with
  | zero=>simp at h1;subst h1;exact Or.inl h2
  | succ k=>exact Or.inr ⟨k,x,by simpa using h1,by rw[h2];congr 1;omega⟩
theorem jJ8 {e:Ent}:∀{db:List Tab} {i:Nat},e∈jFW i db↔∃k t r,db[k]?=some t/\r∈t.rows/\e=jBw (i+k) r
 | [],i=>by simp[jFW]
 | t::q,i=>by
  rw[jFW,List.mem_append,jJ8 (db:=q),List.mem_map]
  constructor
  ·rintro(⟨r,h,h2⟩ | ⟨k,x,r,h1,h2,h3⟩)
   ·exact⟨0,t,r,rfl,h,h2.symm⟩
   exact⟨k+1,x,r,by simpa using h1,h2,by rw[h3];congr 1;omega⟩
  rintro⟨k,x,r,h1,h2,h3⟩;cases k with
  | zero=>simp at h1;subst h1;exact Or.inl ⟨r,h2,h3.symm⟩
  | succ k=>exact Or.inr ⟨k,x,r,by simpa using h1,h2,by rw[h3];congr 1;omega⟩
theorem jGY {e:Ent}{db:List Tab}:e∈jBL db↔(∃k t,db[k]?=some t/\e=jCF (1+k) t)\/(∃k t r,db[k]?=some t/\r∈t.rows/\e=jBw (1+k) r):=by
 unfold jBL;rw[List.mem_append,jJ7,jJ8]
def jEL (r:List Val):Prop:=-2147483648<=keyOf r/\keyOf r<=2147483647
theorem jDE.key {r:List Val}(h:jDE r):jEL r:=by
 obtain⟨v,q,rfl,hk⟩:=h.head;rcases h.ax v (by simp) with⟨_,h1,h2,_⟩ | ⟨h1,_⟩
 ·exact⟨h1,h2⟩
 omega
structure jBv (db:List Tab):Prop where
 few:db.length<=5
 sorted:∀t∈db,sorted t.rows
 keys:∀t∈db,∀r∈t.rows,jEL r
theorem bV.laid {db:List Tab}(h:bV db):jBv db:=⟨h.few,fun t ht=>(h.each t ht).sorted,fun t ht r hr=>((h.each t ht).rows r hr).key⟩
theorem jNS:∀(db:List Tab) (i:Nat),i+db.length<=1000->srt (jEK i db)
 | [],_,_=>List.Pairwise.nil
 | t::q,i,hl=>by
  rw[cG] at hl;refine List.pairwise_cons.2 ⟨?_,jNS q (i+1) (by omega)⟩;intro e he;obtain⟨k,x,h1,rfl⟩:=jJ7.1 he
  have:=(List.getElem?_eq_some_iff.1 h1).1
  show placeOf 0 _<placeOf 0 _;exact(jJc (by omega) (by omega) (by omega) (by omega)).2 (Or.inr ⟨rfl,by omega⟩)
theorem jSM:∀(db:List Tab) (i:Nat),(∀t∈db,sorted t.rows)->(∀t∈db,∀r∈t.rows,jEL r)->srt (jFW i db)
 | [],_,_,_=>List.Pairwise.nil
 | t::q,i,hs,hk=>by
  refine List.pairwise_append.2 ⟨?_,jSM q (i+1) (fun x hx=>hs x (by simp[hx])) (fun x hx=>hk x (by simp[hx])),?_⟩
  ·rw[List.pairwise_map];have h1:=hs t (by simp);have h2:=hk t (by simp);unfold Sq.sorted at h1;refine List.Pairwise.imp_of_mem ?_ h1;intro a b ha hb hc;have ka:=h2 a ha;have kb:=h2 b hb;exact(jJc ka.1 ka.2 kb.1 kb.2).2 (Or.inr ⟨rfl,hc⟩)
  intro a ha b hb;obtain⟨r,hr,rfl⟩:=List.mem_map.1 ha;obtain⟨k,x,r',h1,h2,rfl⟩:=jJ8.1 hb;have ka:=hk t (by simp) r hr;have kb:=hk x (by simp[cA h1]) r' h2;exact(jJc ka.1 ka.2 kb.1 kb.2).2 (Or.inl (by omega))
theorem jHo {db:List Tab}(h:jBv db):srt (jBL db):=by
 have hf:=h.few;refine List.pairwise_append.2 ⟨jNS db 1 (by omega),jSM db 1 h.sorted h.keys,?_⟩;intro a ha b hb;obtain⟨k,t,h1,rfl⟩:=jJ7.1 ha;obtain⟨j,x,r,h2,h3,rfl⟩:=jJ8.1 hb;have kb:=h.keys x (cA h2) r h3
 have:=(List.getElem?_eq_some_iff.1 h1).1
 exact(jJc (by omega) (by omega) kb.1 kb.2).2 (Or.inl (by omega))
theorem jTv:∀(db:List Tab) (i:Nat),(jEK i db).length=db.length
 | [],_=>rfl
 | t::q,i=>by rw[jEK,cG,jTv q,cG]
theorem jSO:∀(db:List Tab) (i:Nat),(jFW i db).length=jDg db
 | [],_=>rfl
 | t::q,i=>by rw[jFW,cg,jSO q];simp[jDg]
theorem jSP (db:List Tab):(jBL db).length=jDO db:=by
 unfold jBL jDO;rw[cg,jTv,jSO]
theorem qBP {db:List Tab}(h:jBv db):(jBL db).filter (inside (placeOf 0 (-2147483648)) (placeOf 0 2147483647))=jEK 1 db:=by
 have hf:=h.few;refine jJj (dQ _ (jHo h)) (jNS db 1 (by omega)) fun e=>?_
 rw[eh];unfold jBL;rw[List.mem_append]
 constructor
 ·rintro⟨h1 | h1,h2⟩
  ·exact h1
  obtain⟨k,t,r,g1,g2,rfl⟩:=jJ8.1 h1;have kb:=h.keys t (cA g1) r g2;unfold inside at h2;simp only[cP,cZ] at h2;have h3:placeOf 0 2147483647<(jBw (1+k) r).place:=(jJc (by omega) (by omega) kb.1 kb.2).2 (Or.inl (by omega));omega
 intro h1;refine⟨Or.inl h1,?_⟩;obtain⟨k,t,g1,rfl⟩:=jJ7.1 h1
 have:=(List.getElem?_eq_some_iff.1 g1).1
 unfold inside;simp only[cP,cZ];unfold jCF placeOf;simp only;omega
theorem qBQ {db:List Tab}(h:jBv db){t:Tab}(ht:db[k]?=some t){lo hi:Int}(h0:-2147483648<=lo)(h1:lo<=2147483647)(h2:-2147483648<=hi)(h3:hi<=2147483647) :
  (jBL db).filter (inside (placeOf ((1+k:Nat):Int) lo) (placeOf ((1+k:Nat):Int) hi))=(t.rows.filter fun r=>Decidable.decide (lo<=keyOf r)&&Decidable.decide (keyOf r<=hi)).map (jBw (1+k)):=by
 have hf:=h.few;have hc:=cA ht;refine jJj (dQ _ (jHo h)) ?_ fun e=>?_
 ·unfold srt;rw[List.pairwise_map];have h4:Sq.sorted (t.rows.filter fun r=>Decidable.decide (lo<=keyOf r)&&Decidable.decide (keyOf r<=hi)):=dQ _ (h.sorted t hc);refine List.Pairwise.imp_of_mem ?_ h4;intro a b ha hb hg;have ka:=h.keys t hc a (List.mem_filter.1 ha).1;have kb:=h.keys t hc b (List.mem_filter.1 hb).1;exact(jJc ka.1 ka.2 kb.1 kb.2).2 (Or.inr ⟨rfl,hg⟩)
 rw[eh,jGY,List.mem_map];unfold inside;simp only[cP,cZ]
 constructor
 ·rintro⟨⟨j,x,g1,rfl⟩ | ⟨j,x,r,g1,g2,rfl⟩,g3,g4⟩
  ·have:=(List.getElem?_eq_some_iff.1 g1).1
   unfold jCF placeOf at g3;simp only at g3;omega
  have kr:=h.keys x (cA g1) r g2;unfold jEL at kr
  have he:j=k:=by
   unfold jBw placeOf at g3 g4;simp only at g3 g4;omega
  subst he;rw[ht] at g1;simp at g1;subst g1;refine⟨r,?_,rfl⟩;rw[eh];unfold jBw placeOf at g3 g4;simp only at g3 g4;simp only[cP,cZ];exact⟨g2,by omega,by omega⟩
 rintro⟨r,hr,rfl⟩;rw[eh] at hr;obtain⟨g1,g2⟩:=hr;simp only[cP,cZ] at g2;refine⟨Or.inr ⟨k,t,r,ht,g1,rfl⟩,?_,?_⟩
 ·unfold jBw placeOf;simp only;omega
 unfold jBw placeOf;simp only;omega
theorem qCl {db:List Tab}(h:jBv db){t:Tab}(ht:db[k]?=some t){key:Int}(h0:-2147483648<=key)(h1:key<=2147483647) :
  ((jBL db).any fun x=>x.place==placeOf ((1+k:Nat):Int) key)=jHT t.rows key:=by
 have hf:=h.few;have hb:=cA ht;unfold jHT;rw[Bool.eq_iff_iff,List.any_eq_true,List.any_eq_true];simp only[beq_iff_eq]
 constructor
 ·rintro⟨e,he,g⟩;rcases jGY.1 he with⟨j,x,g1,rfl⟩ | ⟨j,x,r,g1,g2,rfl⟩
  ·have:=(List.getElem?_eq_some_iff.1 g1).1
   unfold jCF placeOf at g;simp only at g;omega
  have kr:=h.keys x (cA g1) r g2
  have:=(jG4 kr.1 kr.2 h0 h1).1 g
  have ha:j=k:=by omega
  subst ha;rw[ht] at g1;simp at g1;subst g1;exact⟨r,g2,this.2⟩
 rintro⟨r,hr,rfl⟩;exact⟨jBw (1+k) r,jGY.2 (Or.inr ⟨k,t,r,ht,hr,rfl⟩),rfl⟩
theorem jOs {row:List Val}{rows:List (List Val)}(hs:sorted rows){x:List Val}:x∈put row rows↔x=row\/(x∈rows/\keyOf x≠keyOf row):=by
 induction rows with
 | nil=>rw[put];simp
 | cons r q ih =>
  have h':=List.pairwise_cons.1 hs;rw[put]
  split
  ·rename_i ha;rw[dI,ih h'.2,dI]
   constructor
   ·rintro(rfl | rfl | ⟨h1,h2⟩)
    ·exact Or.inr ⟨Or.inl rfl,by omega⟩
    ·exact Or.inl rfl
    exact Or.inr ⟨Or.inr h1,h2⟩
   rintro(rfl | ⟨rfl | h1,h2⟩)
   ·exact Or.inr (Or.inl rfl)
   ·exact Or.inl rfl
   exact Or.inr (Or.inr ⟨h1,h2⟩)
  rw[dI]
  constructor
  ·rintro(rfl | h1)
   ·exact Or.inl rfl
   exact Or.inr (jJi h1)
  rintro(rfl | ⟨h1,h2⟩)
  ·exact Or.inl rfl
  exact Or.inr (jOt h1 h2)
theorem jGy {db:List Tab}{t:Tab}(ht:db[k]?=some t)(rows:List (List Val))(j:Nat):(aZ db k rows)[j]?=if j=k then some { t with rows:=rows } else db[j]?:=by
 obtain⟨hk,e⟩:=List.getElem?_eq_some_iff.1 ht;subst e;rw[jHZ db k hk,List.getElem?_set]
 by_cases hj:j=k
 ·subst hj;simp[hk]
 simp[hj];omega
theorem jUq {db:List Tab}(h:jBv db){t:Tab}(ht:db[k]?=some t){rows:List (List Val)}(hs:sorted rows)(hk:∀r∈rows,jEL r):jBv (aZ db k rows):=by
 have hm:∀x∈aZ db k rows,x∈db\/x.rows=rows:=by
  intro x hx;obtain⟨j,hj⟩:=List.getElem?_of_mem hx;rw[jGy ht] at hj
  split at hj
  ·simp at hj;rw[<-hj];exact Or.inr rfl
  exact Or.inl (cA hj)
 refine⟨by rw[jKD];exact h.few,fun x hx=>?_,fun x hx=>?_⟩
 ·rcases hm x hx with h1 | h1
  ·exact h.sorted x h1
  rw[h1];exact hs
 rcases hm x hx with h1 | h1
 ·exact h.keys x h1
 rw[h1];exact hk
theorem jU8 {db:List Tab}{t:Tab}(ht:db[k]?=some t){rows:List (List Val)}{e:Ent}:e∈jBL (aZ db k rows)↔(∃j x,db[j]?=some x/\e=jCF (1+j) x)\/(∃j x r,j≠k/\db[j]?=some x/\r∈x.rows/\e=jBw (1+j) r)\/(∃r∈rows,e=jBw (1+k) r):=by
 rw[jGY]
 constructor
 ·rintro(⟨j,x,h1,rfl⟩ | ⟨j,x,r,h1,h2,rfl⟩)
  ·rw[jGy ht] at h1
   split at h1
   ·rename_i hj;subst hj;simp at h1;subst h1;exact Or.inl ⟨j,t,ht,rfl⟩
   exact Or.inl ⟨j,x,h1,rfl⟩
  rw[jGy ht] at h1
  split at h1
  ·rename_i hj;subst hj;simp at h1;subst h1;exact Or.inr (Or.inr ⟨r,h2,rfl⟩)
  rename_i hj;exact Or.inr (Or.inl ⟨j,x,r,hj,h1,h2,rfl⟩)
 rintro(⟨j,x,h1,rfl⟩ | ⟨j,x,r,hj,h1,h2,rfl⟩ | ⟨r,hr,rfl⟩)
 ·by_cases hj:j=k
  ·subst hj;rw[ht] at h1;simp at h1;subst h1;exact Or.inl ⟨j,_,(jGy ht rows j).trans (cE rfl),rfl⟩
  exact Or.inl ⟨j,x,((jGy ht rows j).trans (cy hj)).trans h1,rfl⟩
 ·exact Or.inr ⟨j,x,r,((jGy ht rows j).trans (cy hj)).trans h1,h2,rfl⟩
 exact Or.inr ⟨k,_,r,(jGy ht rows k).trans (cE rfl),hr,rfl⟩
theorem qCs {db:List Tab}(h:jBv db){t:Tab}(ht:db[k]?=some t){row:List Val}(hr:jEL row):ins (jBL db) (jBw (1+k) row)=jBL (aZ db k (put row t.rows))/\jBv (aZ db k (put row t.rows)):=by
 have hb:=cA ht;have ha:=h.sorted t hb;have hf:=h.few
 have hl:jBv (aZ db k (put row t.rows)):=jUq h ht (jNm ha) fun r hq=>by
  rcases jL2 hq with rfl | hq
  ·exact hr
  exact h.keys t hb r hq
 refine⟨jJj (jOq (jHo h) _) (jHo hl) fun e=>?_,hl⟩;rw[jU9,jU8 ht,jGY]
 constructor
 ·rintro(rfl | ⟨⟨j,x,h1,rfl⟩ | ⟨j,x,r,h1,h2,rfl⟩,hp⟩)
  ·exact Or.inr (Or.inr ⟨row,(jOs ha).2 (Or.inl rfl),rfl⟩)
  ·exact Or.inl ⟨j,x,h1,rfl⟩
  by_cases hj:j=k
  ·subst hj;rw[ht] at h1;simp at h1;subst h1;refine Or.inr (Or.inr ⟨r,(jOs ha).2 (Or.inr ⟨h2,fun hc=>hp ?_⟩),rfl⟩);show placeOf _ _=placeOf _ _;rw[hc]
  exact Or.inr (Or.inl ⟨j,x,r,hj,h1,h2,rfl⟩)
 rintro(⟨j,x,h1,rfl⟩ | ⟨j,x,r,hj,h1,h2,rfl⟩ | ⟨r,hq,rfl⟩)
 ·refine Or.inr ⟨Or.inl ⟨j,x,h1,rfl⟩,fun hp=>?_⟩
  have:=(List.getElem?_eq_some_iff.1 h1).1
  unfold jCF jBw at hp;simp only at hp
  have:=(jG4 (by omega) (by omega) hr.1 hr.2).1 hp
  omega
 ·refine Or.inr ⟨Or.inr ⟨j,x,r,h1,h2,rfl⟩,fun hp=>?_⟩;have kr:=h.keys x (cA h1) r h2
  have:=(jG4 kr.1 kr.2 hr.1 hr.2).1 hp
  omega
 rcases(jOs ha).1 hq with rfl | ⟨h1,h2⟩
 ·exact Or.inl rfl
 refine Or.inr ⟨Or.inr ⟨k,t,r,ht,h1,rfl⟩,fun hp=>h2 ?_⟩;have kr:=h.keys t hb r h1;exact((jG4 kr.1 kr.2 hr.1 hr.2).1 hp).2
theorem qCt {db:List Tab}(h:jBv db){t:Tab}(ht:db[k]?=some t){key:Int}(h0:-2147483648<=key)(h1:key<=2147483647):(jBL db).filter (fun y=>y.place != placeOf ((1+k:Nat):Int) key)=jBL (aZ db k (jBq key t.rows))/\jBv (aZ db k (jBq key t.rows)):=by
 have ha:=cA ht;have hb:=h.sorted t ha;have hf:=h.few;have hl:jBv (aZ db k (jBq key t.rows)):=jUq h ht (jMY hb) fun r hq=>h.keys t ha r (jJi hq).1
 refine⟨jJj (dQ _ (jHo h)) (jHo hl) fun e=>?_,hl⟩;rw[eh,jU8 ht,jGY];simp only[bne_iff_ne,ne_eq]
 constructor
 ·rintro⟨⟨j,x,g1,rfl⟩ | ⟨j,x,r,g1,g2,rfl⟩,hp⟩
  ·exact Or.inl ⟨j,x,g1,rfl⟩
  by_cases hj:j=k
  ·subst hj;rw[ht] at g1;simp at g1;subst g1;refine Or.inr (Or.inr ⟨r,jOt g2 fun hc=>hp ?_,rfl⟩);show placeOf _ _=placeOf _ _;rw[hc]
  exact Or.inr (Or.inl ⟨j,x,r,hj,g1,g2,rfl⟩)
 rintro(⟨j,x,g1,rfl⟩ | ⟨j,x,r,hj,g1,g2,rfl⟩ | ⟨r,hq,rfl⟩)
 ·refine⟨Or.inl ⟨j,x,g1,rfl⟩,fun hp=>?_⟩
  have:=(List.getElem?_eq_some_iff.1 g1).1
  unfold jCF at hp;simp only at hp
  have:=(jG4 (by omega) (by omega) h0 h1).1 hp
  omega
 ·refine⟨Or.inr ⟨j,x,r,g1,g2,rfl⟩,fun hp=>?_⟩;have kr:=h.keys x (cA g1) r g2
  have:=(jG4 kr.1 kr.2 h0 h1).1 hp
  omega
 obtain⟨g1,g2⟩:=jJi hq;refine⟨Or.inr ⟨k,t,r,ht,g1,rfl⟩,fun hp=>g2 ?_⟩;have kr:=h.keys t ha r g1;exact((jG4 kr.1 kr.2 h0 h1).1 hp).2
theorem qBE {db:List Tab}(h:jBv db)(hl:db.length<5)(name:BA)(cols:List Col):ins (jBL db) ⟨placeOf 0 ((db.length:Int)+1),jAL name cols⟩=jBL (db++[⟨name,cols,[]⟩])/\jBv (db++[⟨name,cols,[]⟩]):=by
 have hb:jBv (db++[⟨name,cols,[]⟩]):=by
  refine⟨by simp;omega,fun x hx=>?_,fun x hx=>?_⟩
  ·rcases List.mem_append.1 hx with hx | hx
   ·exact h.sorted x hx
   simp at hx;subst hx;exact List.Pairwise.nil
  rcases List.mem_append.1 hx with hx | hx
  ·exact h.keys x hx
  simp at hx;subst hx;intro r hr;simp at hr
 have ha:∀j x,(db++[⟨name,cols,[]⟩])[j]?=some x↔db[j]?=some x\/(j=db.length/\x=⟨name,cols,[]⟩):=by
  intro j x;rw[List.getElem?_append]
  split
  ·rename_i hj
   constructor
   ·intro g;exact Or.inl g
   rintro(g | ⟨g,_⟩)
   ·exact g
   omega
  rename_i hj;rw[dt (by omega:db.length<=j)];rcases dL db.length j with g | g
  ·rw[dt (by simp;omega)]
   constructor
   ·intro q;cases q
   rintro(q | ⟨q,_⟩)
   ·cases q
   omega
  have:j=db.length:=by omega
  subst this;simp[eq_comm]
 have e0:(⟨placeOf 0 ((db.length:Int)+1),jAL name cols⟩:Ent)=jCF (1+db.length) ⟨name,cols,[]⟩:=by
  unfold jCF;rw[show((1+db.length:Nat):Int)=(db.length:Int)+1 by omega]
 rw[e0];refine⟨jJj (jOq (jHo h) _) (jHo hb) fun e=>?_,hb⟩;rw[jU9,jGY,jGY]
 constructor
 ·rintro(rfl | ⟨⟨j,x,g1,rfl⟩ | ⟨j,x,r,g1,g2,rfl⟩,hp⟩)
  ·exact Or.inl ⟨db.length,_,(ha _ _).2 (Or.inr ⟨rfl,rfl⟩),rfl⟩
  ·exact Or.inl ⟨j,x,(ha _ _).2 (Or.inl g1),rfl⟩
  exact Or.inr ⟨j,x,r,(ha _ _).2 (Or.inl g1),g2,rfl⟩
 rintro(⟨j,x,g1,rfl⟩ | ⟨j,x,r,g1,g2,rfl⟩)
 ·rcases(ha _ _).1 g1 with g1 | ⟨rfl,rfl⟩
  ·refine Or.inr ⟨Or.inl ⟨j,x,g1,rfl⟩,fun hp=>?_⟩
   have:=(List.getElem?_eq_some_iff.1 g1).1
   unfold jCF at hp;simp only at hp
   have:=(jG4 (by omega) (by omega) (by omega) (by omega)).1 hp
   omega
  exact Or.inl rfl
 rcases(ha _ _).1 g1 with g1 | ⟨rfl,rfl⟩
 ·refine Or.inr ⟨Or.inr ⟨j,x,r,g1,g2,rfl⟩,fun hp=>?_⟩;have kr:=h.keys x (cA g1) r g2;unfold jCF jBw at hp;simp only at hp
  have:=(jG4 kr.1 kr.2 (by omega) (by omega)).1 hp
  omega
 simp at g2
end Sq
namespace Sq
def jFY (x:Word):Prop:=x.kind=2->jD1 x.text
theorem jZO (s:BA)(h:1<=s.size):jFY (jAB s):=by
 intro hk;unfold jAB at hk ⊢
 split
 ·rename_i h1;rw[cE h1] at hk;simp at hk
 rename_i h1;rw[cy h1] at hk
 split
 ·rename_i h2;rw[cE h2] at hk;unfold bounded at hk ⊢
  split
  ·rename_i h3;exact⟨h,h3⟩
  rename_i h3;rw[cy h3] at hk;simp at hk
 rename_i h2;rw[cy h2] at hk
 split
 ·rename_i h3;rw[cE h3] at hk;rcases jQX 3 s 9 with h4 | h4<;>rw[h4] at hk<;>simp at hk
 rename_i h3;rw[cy h3] at hk
 split
 ·rename_i h4;rw[cE h4] at hk;rcases jQX 4 (s.extract 1 (s.size-1)) 12 with h5 | h5<;>rw[h5] at hk<;>simp at hk
 rename_i h4;rw[cy h4] at hk;simp at hk
theorem jWK (s:BA):∀f a ws,jAi s f a=some ws->∀x∈ws,jFY x:=by
 intro f
 induction f with
 | zero=>intro a ws h;simp[jAi] at h;subst h;simp
 | succ f ih =>
  intro a ws h;rw[jAi] at h
  split at h
  ·split at h
   ·exact ih _ _ h
   split at h
   ·simp at h
   rename_i he
   split at h
   ·simp at h
   cases h2:jAi s f (bw s a) with
   | none=>rw[h2] at h;simp at h
   | some l =>
    rw[h2] at h;simp at h;subst h;intro x hx;rcases List.mem_cons.1 hx with rfl | hx
    ·exact jZO _ (by rw[dk];omega)
    exact ih _ _ h2 x hx
  simp at h;subst h;simp
theorem qCd (ws:List Word)(st:PSt)(h:∀x∈ws,jFY x):jFY (bP ws st):=by
 unfold bP
 split
 ·intro hk;simp[jEs] at hk
 cases h2:ws[st.pos]? with
 | none=>intro hk;simp[jEs] at hk
 | some x=>exact h x (cA h2)
theorem qBS (ws:List Word)(a:PSt)(h:a.bad=true):(bn ws a).bad=true:=by unfold bn;split<;>first | rfl | exact h
theorem jZE (ws:List Word)(a:PSt)(m:BA)(h:a.bad=true):(aR ws a m).bad=true:=by unfold aR;split<;>exact h
theorem jLX (ws:List Word)(a:PSt)(m:BA)(h:a.bad=true):(aK ws a m).bad=true:=by unfold aK;split<;>first | rfl | exact h
theorem jUw (ws:List Word)(a:PSt)(h:a.bad=true):(bO ws a).bad=true:=by unfold bO;split<;>first | rfl | exact qBS ws a h
theorem jUx (ws:List Word)(a:PSt)(h:a.bad=true):(jCS ws a).bad=true:=by unfold jCS;split;exact jZE ws a _ h;exact jLX ws a _ h
theorem jN4 (ws:List Word)(a:PSt)(hw:∀x∈ws,jFY x):(bO ws a).bad=true\/jD1 (jAV ws a):=by
 unfold bO jAV
 split
 ·rename_i h;exact Or.inr (qCd ws a hw (by simpa using h))
 exact Or.inl rfl
def jCm (st:PSt):Prop:=st.bad=true\/(jD1 st.table/\∀c∈st.cols,jD1 c.name/\jED c.kind)
theorem jCm.next {a b:PSt}(h:jCm a)(hb:a.bad=true->b.bad=true)(ht:b.table=a.table)(hc:b.cols=a.cols):jCm b:=by
 rcases h with h | ⟨h1,h2⟩
 ·exact Or.inl (hb h)
 exact Or.inr ⟨by rw[ht];exact h1,by rw[hc];exact h2⟩
theorem jCm.want {a:PSt}(h:jCm a)(ws:List Word)(m:BA):jCm (aK ws a m):=h.next (jLX ws a m) (jQZ ws a m).table (jQZ ws a m).cols
theorem jCm.col {a b:PSt}(h:jCm a)(hb:a.bad=true->b.bad=true)(ht:b.table=a.table)(hc:b.cols=a.cols){c:Col}(ha:b.bad=true\/(jD1 c.name/\jED c.kind)):jCm (jDM b c):=by
 rcases h.next hb ht hc with h1 | ⟨h1,h2⟩
 ·exact Or.inl h1
 rcases ha with h3 | h3
 ·exact Or.inl h3
 refine Or.inr ⟨h1,fun x hx=>?_⟩;rcases List.mem_append.1 hx with hx | hx
 ·exact h2 x hx
 simp at hx;subst hx;exact h3
theorem qCh (ws:List Word)(st:PSt):jED (jFg ws st):=by
 unfold jFg
 split
 ·exact Or.inr rfl
 exact Or.inl rfl
theorem jZ2 (ws:List Word)(hw:∀x∈ws,jFY x)(st:PSt)(h:jCm st):jCm (jFm ws st):=by
 unfold jFm;refine h.col (fun hb=>jUx ws _ (jUw ws st hb)) ?_ ?_ ?_
 ·exact((jQ5 ws st).trans (jM7 ws _)).table
 ·exact((jQ5 ws st).trans (jM7 ws _)).cols
 rcases jN4 ws st hw with h1 | h1
 ·exact Or.inl (jUx ws _ h1)
 exact Or.inr ⟨h1,qCh ws _⟩
theorem jW6 (ws:List Word)(hw:∀x∈ws,jFY x)(st:PSt)(hc:st.cols=[]):jCm (jDc ws st):=by
 unfold jDc;simp only
 have h1:jCm (jAN ws (aK ws (bx st 1) jEi)):=by
  rcases jN4 ws (aK ws (bx st 1) jEi) hw with h | h
  ·exact Or.inl h
  refine Or.inr ⟨h,?_⟩;rw[jMC,jIX];show ∀c∈st.cols,_;rw[hc];simp
 have h2:=h1.want ws jCN;refine jCm.want ?_ ws jBO;refine jH4 ws (jFm ws) jCm (fun s hs=>jZ2 ws hw _ (hs.next (fun h=>h) rfl rfl)) _ _ ?_;refine h2.col (fun hb=>jLX ws _ _ (jUw ws _ hb)) ?_ ?_ ?_
 ·exact((jQ5 ws _).trans (jQZ ws _ _)).table
 ·exact((jQ5 ws _).trans (jQZ ws _ _)).cols
 rcases jN4 ws (aK ws (jAN ws (aK ws (bx st 1) jEi)) jCN) hw with h3 | h3
 ·exact Or.inl (jLX ws _ _ h3)
 exact Or.inr ⟨h3,Or.inl rfl⟩
theorem jYh (ws:List Word)(st:PSt):(jDf ws st).act=2:=by
 unfold jDf;simp only;rw[jQ3];refine jH4 ws (jBK ws) (fun st=>st.act=2) (fun s hs=>((jIP ws (step1 s)).act).trans hs) _ _ ?_;refine((jIP ws _).act).trans ?_;rw[jQ3,jQ3,jHY,jQ3];rfl
theorem jXu (ws:List Word)(st:PSt):(jDI ws st).act=3:=by
 unfold jDI;simp only;rw[(jGZ ws _).act];refine jH4 ws (jDj ws) (fun st=>st.act=3) (fun s hs=>(jLY ws (step1 s)).trans hs) _ _ ?_;rw[jLY,jQ3,jHY];rfl
theorem jXF (ws:List Word)(st:PSt):(jD3 ws st).act=4:=by
 unfold jD3;rw[(jGZ ws _).act,jHY,jQ3];rfl
theorem jVY (ws:List Word)(hw:∀x∈ws,jFY x)(st:PSt)(h0:st.act=0)(hc:st.cols=[])(ha:(jAg ws st).act=1):jCm (jAg ws st):=by
 unfold jAg at ha ⊢
 split
 ·exact jW6 ws hw _ (by rw[jKX];exact hc)
 rename_i h1;rw[cy h1] at ha
 split
 ·rename_i h2;rw[cE h2,jYh] at ha;simp at ha
 rename_i h2;rw[cy h2] at ha
 split
 ·rename_i h3;rw[cE h3,jXu] at ha;simp at ha
 rename_i h3;rw[cy h3] at ha
 split
 ·rename_i h4;rw[cE h4,jXF] at ha;simp at ha
 rename_i h4;rw[cy h4] at ha
 split
 ·rename_i h5;rw[cE h5,jXI] at ha;simp at ha
 exact Or.inl rfl
theorem jRO (hb:BA)(h:(parse hb).1=0)(ha:(parse hb).2.act=1):jD1 (parse hb).2.table/\∀c∈(parse hb).2.cols,jD1 c.name/\jED c.kind:=by
 unfold parse at h ha ⊢
 split
 ·rename_i h1;rw[cE h1] at h;simp at h
 rename_i h1;rw[cy h1] at h ha;cases hs:split hb with
 | none=>rw[hs] at h;simp at h
 | some ws =>
  rw[hs] at h ha;simp only at h ha ⊢
  split
  ·rename_i h2;rw[cE h2] at h;simp at h
  rename_i h2;rw[cy h2] at ha;rcases jVY ws (jWK hb _ _ ws hs) st0 rfl rfl ha with h3 | h3
  ·rw[h3] at h2;simp at h2
  exact h3
def jEp (l:List bd):Prop:=∀s∈l,aI s.left.lit/\aI s.right.lit
theorem jEp.add {st:PSt}(h:jEp st.aq){s:bd}(hs:aI s.left.lit/\aI s.right.lit):jEp (jBo st s).aq:=by
 intro x hx;rcases List.mem_append.1 hx with hx | hx
 ·exact h x hx
 simp at hx;subst hx;exact hs
theorem qCu (ws:List Word)(hw:∀x∈ws,jC8 x):∀f t st,jEp st.aq->jEp (cond ws f t st).aq:=by
 intro f
 induction f with
 | zero=>intro t st h;exact h
 | succ f ih =>
  intro t st h;have ha:∀m,aI (jCD m).left.lit/\aI (jCD m).right.lit:=fun m=>⟨jCQ,jCQ⟩
  match t with
  | 0=>rw[cond];exact ih _ _ (ih _ _ h)
  | 1=>rw[cond];exact ih _ _ (ih _ _ h)
  | 2 =>
   rw[cond]
   split
   ·exact jEp.add (ih _ (step1 st) h) (ha _)
   split
   ·rw[jQn];exact ih _ (step1 st) h
   unfold jGi;refine jEp.add ?_ ⟨jJW ws _ hw,jJW ws _ hw⟩;rw[jQ8,jPp];exact h
  | 3 =>
   rw[cond]
   split
   ·exact ih _ _ (jEp.add (ih _ (step1 st) h) (ha _))
   exact h
  | t+4 =>
   rw[cond]
   split
   ·exact ih _ _ (jEp.add (ih _ (step1 st) h) (ha _))
   exact h
theorem jNJ (ws:List Word)(hw:∀x∈ws,jC8 x)(st:PSt)(h:st.aq=[]):jEp (jBS ws st).aq:=by
 unfold jBS
 split
 ·exact qCu ws hw _ _ _ (by show jEp st.aq;rw[h];intro x hx;simp at hx)
 rw[h];intro x hx;simp at hx
theorem jJl {st:PSt}(h:st.aq=[]):jEp st.aq:=by rw[h];intro x hx;simp at hx
theorem jWl (ws:List Word)(hw:∀x∈ws,jC8 x)(st:PSt)(h:st.aq=[]):jEp (jAg ws st).aq:=by
 unfold jAg;have ht:(bn ws st).aq=[]:=by rw[jG2];exact h
 split
 ·refine jJl ?_;unfold jDc;simp only;rw[jQn,jHr ws _ (jSY ws)]
  show(aK ws _ _).aq=[]
  rw[jQn,jI0,jQn,jQz,jQn];exact ht
 split
 ·refine jJl ?_;unfold jDf;simp only;rw[jQn,jHr ws _ (jIE ws),jIE,jQn,jQn,jQz,jQn];exact ht
 split
 ·unfold jDI;simp only;refine jNJ ws hw _ ?_;rw[jHr ws _ (jI8 ws),jI8,jQn,jQz];exact ht
 split
 ·unfold jD3;refine jNJ ws hw _ ?_;rw[jQz,jQn];exact ht
 split
 ·unfold jBz;refine jNJ ws hw _ ?_;rw[jQz,jQn,jPq];exact ht
 exact jJl ht
theorem jTA (ha:BA):jEp (parse ha).2.aq:=by
 unfold parse
 split
 ·exact jJl rfl
 cases hs:split ha with
 | none=>exact jJl rfl
 | some ws =>
  simp only
  split
  ·exact jJl rfl
  exact jWl ws (jTV ha ws hs).1 st0 rfl
def jFK (s:Span):Prop:=s.lo<=s.hi->-2147483648<=s.lo/\s.hi<=2147483647
def jF6 (s:bS):Prop:=jFK s.yes/\jFK s.no
theorem jKf:jFK jAG:=fun _=>⟨dA _,dA _⟩
theorem jS7 {a b:Span}(ha:jFK a)(hb:jFK b):jFK (jEH a b):=by
 unfold jFK at *;intro h
 by_cases h1:a.lo<b.lo<;>by_cases h2:b.hi<a.hi<;>simp only[jEH,h1,h2,dT,eD] at h ⊢ <;> omega
theorem jRd {a b:Span}(ha:jFK a)(hb:jFK b):jFK (jBP a b):=by
 unfold jBP jBZ
 split
 ·rename_i h1
  split
  ·rename_i h2;simp only[cZ] at h1 h2;have h3:=ha h1;have h4:=hb h2;intro h;simp only
   constructor
   ·split<;>omega
   split<;>omega
  exact ha
 exact hb
theorem jLy (op:BA){n:Int}(h0:-2147483648<=n)(h1:n<=2147483647):jFK (aW op n):=by
 unfold aW jFK
 repeat' split
 all_goals(first | (simp only;omega) | exact jKf)
theorem jN1 {l:List bS}(h:∀s∈l,jF6 s):jF6 (jD2 l):=by
 unfold jD2;cases hl:l.getLast? with
 | none=>exact⟨jKf,jKf⟩
 | some s=>exact h s (List.mem_of_getLast? hl)
theorem jLz {l:List bS}(h:∀s∈l,jF6 s):∀s∈l.dropLast,jF6 s:=fun s hs=>h s (List.dropLast_subset l hs)
theorem jLL {l:List bS}(h:∀s∈l,jF6 s){x:bS}(hx:jF6 x):∀s∈l++[x],jF6 s:=by
 intro s hs;rcases List.mem_append.1 hs with hs | hs
 ·exact h s hs
 simp at hs;subst hs;exact hx
theorem qAS {l:List bS}(h:∀s∈l,jF6 s)(op:BA):∀s∈jDC l op,jF6 s:=by
 have h1:=jN1 h;have h2:=jN1 (jLz h);have h3:=jLz h;unfold jDC
 split
 ·exact jLL h3 ⟨h1.2,h1.1⟩
 split
 ·exact jLL (jLz h3) ⟨jS7 h2.1 h1.1,jRd h2.2 h1.2⟩
 exact jLL (jLz h3) ⟨jRd h2.1 h1.1,jS7 h2.2 h1.2⟩
theorem jOh {v:Val}(h:aI v):-2147483648<=v.number/\v.number<=2147483647:=by
 rcases h with⟨_,h1,h2,_⟩ | ⟨_,h1,_⟩
 ·exact⟨h1,h2⟩
 omega
theorem jYw (cols:List Col){s:bd}(h:aI s.left.lit/\aI s.right.lit):jF6 (jDh cols s):=by
 have h1:=jOh h.1;have h2:=jOh h.2;unfold jDh
 split
 ·exact⟨jLy _ h2.1 h2.2,jLy _ h2.1 h2.2⟩
 split
 ·exact⟨jLy _ h1.1 h1.2,jLy _ h1.1 h1.2⟩
 exact⟨jKf,jKf⟩
theorem jS6 (cols:List Col){aq:List bd}(h:jEp aq):jFK (jBn cols aq):=by
 have:∀(w:List bd) (l:List bS),jEp w->(∀s∈l,jF6 s)->∀s∈w.foldl (jEb cols) l,jF6 s:=by
  intro w
  induction w with
  | nil=>intro l _ hl;exact hl
  | cons x q ih =>
   intro l hw hl;rw[de];refine ih _ (fun s hs=>hw s (by simp[hs])) ?_;unfold jEb
   split
   ·exact jLL hl (jYw cols (hw x (by simp)))
   exact qAS hl _
 exact(jN1 (this aq [] h (by simp))).1
end Sq
section
open Go.RowKit
variable {Z:Nat->Prop}
theorem jXk (K:Int)(hK:K<=99999)(X:aj)(ev cv:Value)(t:bQ)(tv sv:Value)(aq:List bd)(tb:Nat)(tr:Trl)(w:World)(h:ag Z w X.d X.t ev cv)(hf:aT K X.d X.t)(hc:jAx X.d X.t<=900)(ht:bk tb w tr)(hr:aS K tr)
  (hX:0<=t.number) (hZ:t.number<=100000) (hG:aX w tv t.cols) (h3:t.cols.length<=1000) (hs:jCL w sv aq) (h1:aq.length<=50000) (hM:∀s∈aq,jKr s) (hO:Sq.jFK (jBn t.cols aq)) :
  Calls Tryz.prog 75 #[.agg (ae X.head ev cv).toArray,.agg #[.int .i64 t.number,.string t.name,tv],sv,.pointer (some ⟨tb,0,none⟩)] w (jET tb (jAe X t aq tr) w):=by
 obtain⟨⟨e1,e2,e3,hT⟩,c1,c2,c3,hQ⟩:=h.aG;subst hT hQ;obtain⟨hE,hC,rfl⟩:=jQa hG.1;obtain⟨so,hJ,rfl⟩:=jQa hs.1;have hy:=ht.lt
 have HR:Hid (jBZ (jBn t.cols aq)=true->∀w',Below w.heap.size w w'->Calls Tryz.prog 118 #[.agg (ae X.head (.slice e1 e2 e3) (.slice c1 c2 c3)).toArray,.agg #[.int .i64 t.number,.string t.name,.slice hE t.cols.length hC],.int .i64 (jBn t.cols aq).lo,.int .i64 (jBn t.cols aq).hi,.pointer (some ⟨tb,0,none⟩)] w' (jET tb (jAe X t aq tr) w')):=fun hk w' hb=>by
  have e:jAe X t aq tr=Sq.jFh X t (jBn t.cols aq).lo (jBn t.cols aq).hi tr:=by unfold jAe;rw[hk];rfl
  rw[e];have hw:(jBn t.cols aq).lo<=(jBn t.cols aq).hi:=by simpa[jBZ] using hk
  have hl:=hO hw;exact qB0 K hK X _ _ t _ _ _ tb tr w' (h.below hb) hf hc (ht.below hb) hr hX hZ hl.1 (by omega) (by omega) (by omega) (hG.below hb) h3
 have HN:Hid (jBZ (jBn t.cols aq)=false->jAe X t aq tr=([],tr)):=fun hk=>by unfold jAe;rw[hk];rfl
 have hm:Hid (∀w',Below w.heap.size w w'->Calls Tryz.prog 116 #[.slice hE t.cols.length hC,.slice so aq.length hJ] w' fun e h4=>e=.returned (.agg (jAh (jBn t.cols aq)))/\Below w'.heap.size w' h4):=fun w' hb=>jYZ t.cols aq _ _ w' (hG.below hb) (hs.below hb) h1 hM
 have hR:=HR.o;have hN:=HN.o;have hS:=hm.o;obtain⟨Y,hY⟩:∃Y,Y=jAe X t aq tr:=⟨_,rfl⟩;obtain⟨hh,hI⟩:∃x,x=X.head:=⟨_,rfl⟩;obtain⟨sp,hD⟩:∃x,x=jBn t.cols aq:=⟨_,rfl⟩;rw[<-hY,<-hD] at hR hN;rw[<-hD] at hS;rw[<-hI] at hR;rw[<-hY,<-hI];rw[jQc] at hR ⊢;have HT:=hd ht;obtain⟨tn,hP,cols⟩:=t;obtain⟨sl,sh⟩:=sp;simp only at hR hS hN ⊢;have hu:=hd hR;have hq:=hd hN;have hv:=hd hS;clear h hf hc ht hr hG hs hM hO HR HN hm hR hN hS hY hI hD;obtain⟨W,hW,hL,k0,k1⟩:=jKU w (.cells #[.bool hh.inner,.slice e1 e2 e3,.slice c1 c2 c3,.int .i64 hh.least,.int .i64 hh.rows,.string hh.sl,.int .i64 hh.num] 91) (.cells #[.int .i64 tn,.string hP,.slice hE cols.length hC] 94);have a2:W.cell? ⟨w.heap.size+1,2,none⟩=some (.slice hE cols.length hC):=by rw[jQb k1];rfl
 have hp:=jQe k0;have hj:=jQe k1;have HW:=hd hL;have K0:=hd k0;have K1:=hd k1;clear hL k0 k1;go_enter Tryz.func75,Tryz.ntmps75;go_wp2_with fail;rw[<-hW];clear hW;refine(hv.o W HW.o).mono ?_;rintro e w1 ⟨rfl,hF⟩;unfold jAh;simp only;obtain⟨V,hV⟩:∃V,V=w1.alloc (.cells #[.int .i64 sl,.int .i64 sh] 174):=⟨_,rfl⟩;have ho:Below w1.heap.size w1 V:=by rw[hV];exact bA
 have kV:V.heap[w1.heap.size]?=some (.cells #[.int .i64 sl,.int .i64 sh] 174):=by rw[hV];exact jQi _ _
 have he:=hF.trans (ho.mono hF.size);have hz:=hF.size;have hn:=hd he;have KV:=hd kV;have hx:=jQe kV;clear hF ho kV he a2;go_wp2_with fail;rw[<-hV];clear hV;refine(jMT ⟨sl,sh⟩ V).mono ?_;rintro e w2 ⟨rfl,hH⟩;have ha:=hn.o.trans (hH.mono hn.o.size);obtain⟨s0,s1,s2,s3,s4,s5,s6⟩:=jQq ((ha.block _ hp).trans K0.o);have t0:w2.cell? ⟨w.heap.size+1,0,none⟩=some (.int .i64 tn):=by rw[jQb ((ha.block _ hj).trans K1.o)];rfl
 have t1:w2.cell? ⟨w.heap.size+1,1,none⟩=some (.string hP):=by rw[jQb ((ha.block _ hj).trans K1.o)];rfl
 have t2:w2.cell? ⟨w.heap.size+1,2,none⟩=some (.slice hE cols.length hC):=by rw[jQb ((ha.block _ hj).trans K1.o)];rfl
 obtain⟨v0,v1,-,-,v4⟩:=jF4 ((hH.block _ hx).trans KV.o);have hA:=jQe ((ha.block _ hp).trans K0.o);have hB:=jQe ((ha.block _ hj).trans K1.o);have hg:=hd (HW.o.trans (ha.mono (by omega)));clear hH ha;cases hk:jBZ ⟨sl,sh⟩
 ·have HE:=hd (hq.o hk);clear hk;go_wp2;go_ret;exact⟨_,rfl,by rw[HE.o];exact aQ.nil _ _,by rw[HE.o];exact HT.o.below hg.o,aA.of hg.o (by omega)⟩
 have HC:=hd (hu.o hk w2 hg.o);clear hk;go_wp2_with fail;refine HC.o.mono ?_;rintro e w3 ⟨v3,rfl,h0,h2,hU⟩;go_wp2;go_ret;exact⟨v3,rfl,h0,h2,(aA.of hg.o (by omega)).trans hU⟩
end
theorem Sq.jO0:∀(v:List Val) (c:List Col),0<=jAc v c/\jAc v c<=10
 | [],_=>⟨by simp[jAc],by simp[jAc]⟩
 | _::_,[]=>⟨by simp[jAc],by simp[jAc]⟩
 | v::r,c::q=>by
  rw[jAc]
  split
  ·exact⟨by decide,by decide⟩
  exact Sq.jO0 r q
theorem Sq.jXK (cols:List Col)(t:Int)(s:bE):0<=jB6 cols t s/\jB6 cols t s<=10:=by
 unfold jB6
 repeat' split
 all_goals exact⟨by decide,by decide⟩
theorem Sq.jXM (cols:List Col)(e:List bE)(s:bE):0<=jA2 cols e s/\jA2 cols e s<=10:=by
 unfold jA2
 split
 ·split
  ·exact⟨by decide,by decide⟩
  split
  ·exact⟨by decide,by decide⟩
  split
  ·exact⟨by decide,by decide⟩
  exact Sq.jXK _ _ _
 exact⟨by decide,by decide⟩
theorem Sq.jOZ (cols:List Col):∀(r e:List bE),0<=jAj cols e r/\jAj cols e r<=10
 | [],_=>⟨by simp[jAj],by simp[jAj]⟩
 | s::r,e=>by
  rw[jAj]
  split
  ·exact Sq.jXM _ _ _
  exact Sq.jOZ cols r _
theorem Sq.jOX (cols:List Col)(x:Int):∀l:List BA,0<=jAb cols x l/\jAb cols x l<=10
 | []=>⟨by simp[jAb],by simp[jAb]⟩
 | n::r=>by
  rw[jAb]
  split
  ·exact⟨by decide,by decide⟩
  split
  ·exact⟨by decide,by decide⟩
  exact Sq.jOX cols x r
theorem Sq.jO4 (cols:List Col):∀l:List bd,0<=jAa cols l/\jAa cols l<=10
 | []=>⟨by simp[jAa],by simp[jAa]⟩
 | s::r=>by
  have ih:=Sq.jO4 cols r;rw[jAa]
  repeat' split
  all_goals first | exact ih | exact⟨by decide,by decide⟩
theorem Sq.qBO (cols:List Col)(st:PSt):0<=Sq.check cols st/\Sq.check cols st<=10:=by
 have h1:0<=jA1 cols st/\jA1 cols st<=10:=by
  unfold jA1 Sq.jAm Sq.jCd
  repeat' split
  all_goals first | exact Sq.jO0 _ _ | exact Sq.jOZ _ _ _ | exact Sq.jOX _ _ _ | exact⟨by decide,by decide⟩
 unfold Sq.check
 split
 ·exact h1
 exact Sq.jO4 _ _
theorem Sq.qB4 (s:BA):0<=(Sq.parse s).1/\(Sq.parse s).1<=3:=by
 unfold Sq.parse
 split
 ·exact⟨by decide,by decide⟩
 split
 ·exact⟨by decide,by decide⟩
 split<;>exact⟨by simp,by simp⟩
theorem Sq.jTm (p:Int):-2147483648<=jCu p/\jCu p<=2147483647:=by unfold jCu;omega
theorem Sq.qA3 {cols:List Col}{e:Sq.Ent}{r:List Val}(hs:e.row.size<=1000)(h:Sq.rowOf cols e=some r):jD9 r:=by
 unfold Sq.rowOf Sq.jBs at h
 split at h
 ·cases h;have hk:=Sq.jTm e.place;intro v hv
  have:=Sq.jSZ (cols.drop 1) ⟨[⟨0,jCu e.place,ar⟩],⟨e.row,false⟩,true⟩ hs (by
   intro u hu;rw[dD] at hu;subst hu;exact⟨by show ar.size<=1000;decide,by show _<=jCu e.place;omega,by show jCu e.place<=_;omega⟩) v hv
  exact⟨this.2.1,this.2.2,this.1⟩
 cases h
theorem Sq.jN9 (X:aj)(tr:Trl):∀t∈(bH X tr).1,1<=t.number/\t.number<=5/\t.cols.length<=4:=by
 intro t ht;obtain⟨e,-,he⟩:=List.mem_filterMap.1 ht;unfold Sq.jBI at he;cases hx:jIu e with
 | none=>rw[hx] at he;cases he
 | some y =>
  rw[hx] at he;simp only[dM] at he
  split at he
  ·rename_i hb;simp only[Option.some.injEq] at he;subst he;refine⟨hb.1,hb.2,?_⟩;unfold jIu at hx;cases hy:Sq.jBt e.row with
   | none=>rw[hy] at hx;cases hx
   | some z=>rw[hy] at hx;simp at hx;subst hx;exact Sq.jPI hy
  cases he
theorem Sq.jNg {X:aj}{tr:Trl}(hf:aT K X.d X.t)(hr:aS K tr):aS K (bH X tr).2:=(jHU X.d X.t _ _ tr hf hr).1.jBh _
theorem Sq.jKJ {X:aj}{tr:Trl}(hf:aT K X.d X.t)(hr:aS K tr)(t:bQ)(aq:List bd) :
  (∀r∈(jAe X t aq tr).1,jD9 r)/\(jAe X t aq tr).1.length<=jAx X.d X.t/\aS K (jAe X t aq tr).2:=by
 unfold jAe
 split
 ·refine⟨fun r h=>?_,?_,(jHU X.d X.t _ _ tr hf hr).1.jBh _⟩
  ·obtain⟨e,he,hx⟩:=List.mem_filterMap.1 h
   have:=jLm (K:=K) _ _ X.d X.t tr hf e he
   exact Sq.qA3 (by omega) hx
  exact cm (List.length_filterMap_le _ _) (jHU X.d X.t _ _ tr hf hr).2
 exact⟨fun r h=>by simp at h,zR,hr⟩
theorem Sq.jLe {n:BA}:∀{l:List bQ} {t:bQ},jBE n l=some t->t∈l
 | [],t,h=>by cases h
 | x::r,t,h=>by
  rw[jBE] at h
  split at h
  ·simp only[Option.some.injEq] at h;subst h;exact dh ..
  exact cY _ (Sq.jLe h)
theorem Sq.jKO {X:aj}{tr:Trl}(hf:aT K X.d X.t)(hr:aS K tr)(ha:BA):aS K (aL X ha tr).2:=by
 have h1:=Sq.jNg hf hr;unfold aL Sq.jCe
 split
 ·exact hr
 split
 ·exact h1
 split
 ·unfold Sq.jAO
  split
  ·exact h1
  split
  ·exact Sq.jTp X.d X.t _ _ hf h1
  exact(Sq.jKJ hf h1 _ _).2.2
 exact h1
theorem Sq.aI.num {v:Val}(h:aI v):-100000000000<=v.number/\v.number<=100000000000:=⟨(aI.ok h).1,(aI.ok h).2.1⟩
theorem Sq.jEp.jKr {l:List bd}(h:Sq.jEp l):∀s∈l,jKr s:=fun s hs=>⟨(h s hs).1.num,(h s hs).2.num⟩
section
open Go.RowKit
variable {Z:Nat->Prop}
theorem jBx.o {rb:Nat}{o:bY}(h:jBx w o cv pv kv)(hb:w.heap[rb]?=some (.cells c 98 fr))(ho:∀g,g≠rb->w'.heap[g]?=w.heap[g]?):jBx w' o cv pv kv :=
 ⟨h.cols.o hb (by decide) ho,h.puts.o hb (by decide) (by decide) ho,jIF h.cuts hb (by decide) ho,h.jIr,h.jIq⟩
theorem jME (n:Int)(w:World)(h0:0<=n)(h1:n<=1000000)(hT:Tbl w):Calls Tryz.prog 68 #[.int .i64 n] w (jF8 w (aE n)):=by
 refine(jG0 n w h0 h1 hT).mono ?_;rintro e w' ⟨rfl,hb⟩;exact⟨_,_,_,rfl,jBx.none _ _ rfl rfl rfl,hb⟩
theorem jIN {x0 x1 x2 x3 x4 x5 x6 x7:Value}(h:w.heap[b]?=some (.cells #[x0,x1,x2,x3,x4,x5,x6,x7] 118)) :
  w.cell? ⟨b,0,none⟩=some x0/\w.cell? ⟨b,1,none⟩=some x1/\w.cell? ⟨b,2,none⟩=some x2/\w.cell? ⟨b,3,none⟩=some x3/\w.cell? ⟨b,4,none⟩=some x4/\w.cell? ⟨b,5,none⟩=some x5/\w.cell? ⟨b,6,none⟩=some x6/\w.cell? ⟨b,7,none⟩=some x7 :=
 ⟨by rw[jQb h];rfl,by rw[jQb h];rfl,by rw[jQb h];rfl,by rw[jQb h];rfl,by rw[jQb h];rfl,by rw[jQb h];rfl,by rw[jQb h];rfl,by rw[jQb h];rfl⟩
theorem jDw.of {st:PSt}{r:Rw}(h:Stm B w st r)(hk:Sq.jMn st):jDw w st r:=by
 obtain⟨h1,h2,h3,h4,h5⟩:=h;have k1:=hk.cols;have k2:=hk.ax;have k3:=hk.ak;have k4:=hk.items;have k5:=hk.aq;exact⟨⟨jQj h1 zR,by omega⟩,jQj h2 zR,by omega,⟨jQj h3 zR,by omega⟩,⟨jQj h4 zR,by omega⟩,jQj h5 zR,by omega⟩
theorem jKM {size:Nat}(h:w.ownsRow B e size v n xs)(h1:e≠3)(h2:e≠74)(k:aA tb w w'):w'.ownsRow B e size v n xs:=by
 refine⟨h.1,?_⟩;rcases h.2 with h0 | ⟨g,cap,cur,hv,hbg,hh,hn,hm,hc,ht⟩
 ·exact Or.inl h0
 exact Or.inr ⟨g,cap,cur,hv,hbg,(k.bC g _ _ _ hh h1 h2).trans hh,hn,hm,hc,ht⟩
theorem jDw.bX {st:PSt}{r:Rw}(h:jDw w st r)(k:aA tb w w'):jDw w' st r :=
 ⟨h.cols.bX k,jKM h.ax (by decide) (by decide) k,h.jIs,⟨jKM h.ak.1 (by decide) (by decide) k,h.ak.2⟩,⟨jKM h.items.1 (by decide) (by decide) k,h.items.2⟩,jKM h.aq (by decide) (by decide) k,h.jKn⟩
structure jGc (Z:Nat->Prop)(tb:Nat)(w:World)(S:Array Value)(sb:Nat)(st:PSt)(r:Rw)(n:Nat)(t:Nd n)(ev cv:Value)(tr:Trl)(X:World):Prop where
 frm:aA tb w X
 sto:X.heap[w.heap.size]?=some (.cells S 91)
 otp:X.heap[w.heap.size+1]?=some (.cells jFV 98)
 stm:X.heap[sb]?=some (.cells (jAF st r) 118)
 at_:jDw X st r
 tra:bk tb X tr
 tbl:Tbl X
 node:ag Z X n t ev cv
theorem jGc.le {S:Array Value}{st:PSt}{r:Rw}{t:Nd n}{tr:Trl}{X:World}(h:jGc Z tb w S sb st r n t ev cv tr X):tb<X.heap.size:=h.tra.lt
theorem jGc.next {S:Array Value}{st:PSt}{r:Rw}{t:Nd n}{tr:Trl}{X Y:World}(h:jGc Z tb w S sb st r n t ev cv tr X)(hb:Below X.heap.size X Y):jGc Z tb w S sb st r n t ev cv tr Y :=
 ⟨h.frm.trans (aA.of hb (cQ h.le)),(hb.block _ (jQe h.sto)).trans h.sto,(hb.block _ (jQe h.otp)).trans h.otp,(hb.block _ (jQe h.stm)).trans h.stm,h.at_.below hb,h.tra.below hb,h.tbl.below hb,h.node.below hb⟩
theorem jGc.jHF {S:Array Value}{st:PSt}{r:Rw}{t:Nd n}{tr ha:Trl}{X Y:World}(h:jGc Z tb w S sb st r n t ev cv tr X)(hL:Low tb)(hf:aA tb X Y)(ht:bk tb Y ha):jGc Z tb w S sb st r n t ev cv ha Y :=
 ⟨h.frm.trans hf,(hf.bC _ _ _ _ h.sto (by decide) (by decide)).trans h.sto,(hf.bC _ _ _ _ h.otp (by decide) (by decide)).trans h.otp,(hf.bC _ _ _ _ h.stm (by decide) (by decide)).trans h.stm,h.at_.bX hf,ht,h.tbl.bX hL hf,h.node.bX hf⟩
theorem jGc.done {S:Array Value}{st:PSt}{r:Rw}{t:Nd n}{tr:Trl}{X:World}(h:jGc Z tb w S sb st r n t ev cv tr X)(hb:tb<=w.heap.size){o:bY}{ha:Value}(ho:jBx X o ha pv kv)(x0 x1 x2 x3 x4 x5 x6:Value) :
  jE6 tb (o,tr) w (.returned (.agg (az o ha pv kv))) (bT X (w.heap.size+1) x0 x1 x2 x3 x4 x5 x6) :=
 ⟨_,_,_,rfl,ho.o h.otp (fun g hg=>jQl _ _ _ _ _ _ _ _ _ hg),jJQ h.tra h.otp _ _ _ _ _ _ _,jJV h.frm bR h.frm.below.size hb (by omega) _ _ _ _ _ _ _⟩
theorem jZQ (K:Int)(hK:K<=99999)(X:aj)(ev cv:Value)(HU:BA)(tb:Nat)(tr:Trl)(w:World)(h:ag Z w X.d X.t ev cv)(hf:Sq.jBb K 800000000 X)(kk:jAx X.d X.t<=900)(ht:bk tb w tr)(hr:aS K tr)(hT:Tbl w)(hL:Low tb) :
  Calls Tryz.prog 53 #[.agg (ae X.head ev cv).toArray,.string HU,.pointer (some ⟨tb,0,none⟩)] w (jE6 tb (aL X HU tr) w):=by
 obtain⟨⟨e1,e2,e3,kG⟩,k1,k2,k3,kl⟩:=h.aG;subst kG kl;have hC:tb<=w.heap.size:=cQ ht.lt;have hp:=Sq.qB3 HU;have Hj:=Sq.jTA HU;have HF:=Sq.qB4 HU
 have hE:aL X HU tr=if(Sq.parse HU).1 != 0 then(aE (Sq.parse HU).1,tr) else if(Sq.parse HU).2.act==1 then(jCP (bH X tr).1 X.head.rows (Sq.parse HU).2,(bH X tr).2)
  else match jBE (Sq.parse HU).2.table (bH X tr).1 with
  | some t=>if Sq.check t.cols (Sq.parse HU).2 != 0 then(aE (Sq.check t.cols (Sq.parse HU).2),(bH X tr).2)
    else if(Sq.parse HU).2.act==2 then jCR X t (Sq.parse HU).2.ax (bH X tr).2
    else(jEx t (jFH t.cols (jAe X t (Sq.parse HU).2.aq (bH X tr).2).1 (Sq.parse HU).2.aq) (Sq.parse HU).2,(jAe X t (Sq.parse HU).2.aq (bH X tr).2).2)
  | none=>(aE 4,(bH X tr).2):=rfl
 have h8:=Sq.jNg hf.t hr;have hM:=Sq.jN9 X tr;have Hd:∀w',ag Z w' X.d X.t (.slice e1 e2 e3) (.slice k1 k2 k3)->bk tb w' tr->Calls Tryz.prog 69 #[.agg (ae X.head (.slice e1 e2 e3) (.slice k1 k2 k3)).toArray,.pointer (some ⟨tb,0,none⟩)] w' (jGe tb (bH X tr) w'):=fun w' hn kg=>jZH K hK X _ _ tb tr w' hn hf.t kk kg hr
 have Hi:∀w',Calls Tryz.prog 71 #[.agg (ae X.head (.slice e1 e2 e3) (.slice k1 k2 k3)).toArray] w' fun e kp=>e=.returned (.int .i64 X.head.rows)/\Below w'.heap.size w' kp:=fun w'=>jPh X.head _ _ w' ⟨_,_,_,rfl⟩ ⟨_,_,_,rfl⟩
 have hw:∀(t:bQ) (tv sv:Value) w',t∈(bH X tr).1->ag Z w' X.d X.t (.slice e1 e2 e3) (.slice k1 k2 k3)->bk tb w' (bH X tr).2->aX w' tv t.cols->jCL w' sv (Sq.parse HU).2.aq->Calls Tryz.prog 75 #[.agg (ae X.head (.slice e1 e2 e3) (.slice k1 k2 k3)).toArray,.agg #[.int .i64 t.number,.string t.name,tv],sv,.pointer (some ⟨tb,0,none⟩)] w' (jET tb (jAe X t (Sq.parse HU).2.aq (bH X tr).2) w'):=fun t tv sv w' hm hn kg hc hs =>
  jXk K hK X _ _ t tv sv _ tb _ w' hn hf.t kk kg h8 (by have:=hM t hm;omega) (by have:=hM t hm;omega) hc (by have:=hM t hm;omega) hs (by have:=hp.aq;omega) Hj.jKr (Sq.jS6 t.cols Hj)
 have hS:∀(t:bQ) (tv vv:Value) w',t∈(bH X tr).1->ag Z w' X.d X.t (.slice e1 e2 e3) (.slice k1 k2 k3)->bk tb w' (bH X tr).2->aX w' tv t.cols->jA0 w' vv (Sq.parse HU).2.ax->Tbl w'->Calls Tryz.prog 74 #[.agg (ae X.head (.slice e1 e2 e3) (.slice k1 k2 k3)).toArray,.agg #[.int .i64 t.number,.string t.name,tv],vv,.pointer (some ⟨tb,0,none⟩)] w' (jE6 tb (jCR X t (Sq.parse HU).2.ax (bH X tr).2) w'):=fun t tv vv w' hm hn kg hc hv kF =>
  jYr K hK X _ _ t tv vv _ tb _ w' hn hf kg h8 (by have:=hM t hm;omega) (by have:=hM t hm;omega) hc hv (fun v hv=>⟨(hp.okv v hv).2.2,(hp.okv v hv).1,(hp.okv v hv).2.1⟩) kF hL
 have hB:∀t,(∀r∈(jAe X t (Sq.parse HU).2.aq (bH X tr).2).1,jD9 r)/\(jAe X t (Sq.parse HU).2.aq (bH X tr).2).1.length<=900:=fun t=>⟨(Sq.jKJ hf.t h8 t _).1,cm (Sq.jKJ hf.t h8 t _).2.1 kk⟩
 generalize jCR X=inf at *;generalize jAe X=spf at *;generalize aL X HU tr=res at *;have hU:(bH X tr)=((bH X tr).1,(bH X tr).2):=rfl;rw[hU] at Hd;generalize (bH X tr).1=ts at *;generalize (bH X tr).2=tr1 at *;generalize X.head=hh at *;rw[jQc] at Hd Hi hw hS ⊢;clear hU h8 hf kk hr;have HE:=hd hE;have HB:=hd Hd;have HA:=hd Hi;have hX:=hd hw;have Ha:=hd hS;have hZ:=hd hB;have Hk:=hd hM;have HK:=hd hp;have HN:=hd h;have Hs:=hd ht;have HT:=hd hT;have HL:=hd hL;clear hE Hd Hi hw hS hB hM hp Hj h ht hT hL;obtain⟨W,hW⟩:∃W:World,W=(w.alloc (.cells #[.bool hh.inner,.slice e1 e2 e3,.slice k1 k2 k3,.int .i64 hh.least,.int .i64 hh.rows,.string hh.sl,.int .i64 hh.num] 91)).alloc (.cells #[.string ⟨#[]⟩,.bool false,.int .i64 0,.string ⟨#[]⟩,.slice none 0 0,.slice none 0 0,.slice none 0 0] 98):=⟨_,rfl⟩;obtain⟨ku,ke,kq⟩:=jIY hW;have HO:=jQe kq;have Hm:=hd ku;have Hl:Hid (W.heap[w.heap.size+1]?=some (.cells jFV 98)):=kq;have hH:=hd ke;clear ku kq ke;go_enter Tryz.func53,Tryz.ntmps53;go_wp2_with fail;rw[<-hW];clear hW;refine(qBt HU _).mono ?_;rintro e w1 ⟨ka,r,rfl,kB⟩;have hg:=jDw.of kB HK.o;have hE:=HE.o;have hk:=HK.o;have hw:=hX.o;have hS:=Ha.o;have hB:=hZ.o;clear HE HK hX Ha hZ kB;generalize (Sq.parse HU).2=st at *;generalize (Sq.parse HU).1=pe at *;have HE:=hd hE;have HK:=hd hk;have hX:=hd hw;have Ha:=hd hS;have hZ:=hd hB;clear hw hS hB;obtain⟨kO,kS,kR,kQ,kT⟩:=r;obtain⟨q5,c5,kl⟩:=jQa hg.cols.1;obtain⟨q6,c6,kD⟩:=jQa hg.ax;obtain⟨q7,c7,kC⟩:=jQa hg.ak.1;obtain⟨q9,c9,kz⟩:=jQa hg.items.1;obtain⟨H6,H5,kE⟩:=jQa hg.aq
 dsimp only at kl kD kC kz kE
 subst kl kD kC kz kE;obtain⟨kH,kI⟩:=HF;have HI:=ka.size
 have hP:Hid (jGc Z tb w #[.bool hh.inner,.slice e1 e2 e3,.slice k1 k2 k3,.int .i64 hh.least,.int .i64 hh.rows,.string hh.sl,.int .i64 hh.num] w1.heap.size st ⟨.slice q5 st.cols.length c5,.slice q6 st.ax.length c6,.slice q7 st.ak.length c7,.slice q9 st.items.length c9,.slice H6 st.aq.length H5⟩ X.d X.t (.slice e1 e2 e3) (.slice k1 k2 k3) tr (w1.alloc (.cells #[.int .i64 st.act,.string st.table,.slice q5 st.cols.length c5,.slice q6 st.ax.length c6,.slice q7 st.ak.length c7,.int .i64 st.shw,.slice q9 st.items.length c9,.slice H6 st.aq.length H5] 118))):=by
  have Hb:Below w1.heap.size w1 (w1.alloc (.cells #[.int .i64 st.act,.string st.table,.slice q5 st.cols.length c5,.slice q6 st.ax.length c6,.slice q7 st.ak.length c7,.int .i64 st.shw,.slice q9 st.items.length c9,.slice H6 st.aq.length H5] 118)):=bA;have Hc:Below w.heap.size w (w1.alloc (.cells #[.int .i64 st.act,.string st.table,.slice q5 st.cols.length c5,.slice q6 st.ax.length c6,.slice q7 st.ak.length c7,.int .i64 st.shw,.slice q9 st.items.length c9,.slice H6 st.aq.length H5] 118)):=Hm.o.trans ((ka.mono (by omega)).trans (Hb.mono (by omega)));exact⟨aA.of Hc hC,(Hb.block _ (by omega)).trans ((ka.block _ (by omega)).trans hH.o),(Hb.block _ (by omega)).trans ((ka.block _ (by omega)).trans Hl.o),jFE _ _,hg.below Hb,Hs.o.below Hc,HT.o.below Hc,HN.o.below Hc⟩
 obtain⟨y0,y1,y2,y3,y4,y5,y6⟩:=jQq ((ka.block w.heap.size (by omega)).trans hH.o);have HP:w.heap.size<w1.heap.size:=by omega
 clear ka hg hE hk Hm Hl hH Hs HT HN;unfold jAF;cases h0:pe != 0
 case true =>
  have he:Hid (res=(aE pe,tr)):=by show _=_;rw[HE.o,h0];rfl
  go_wp2_with fail;refine(jME pe _ (by omega) (by omega) hP.o.tbl).mono ?_;rintro e w9 ⟨H9,kd,kc,rfl,HR,HV⟩;obtain⟨o9,HQ⟩:∃x,x=aE pe:=⟨_,rfl⟩;have hj:Hid (res=(o9,tr)):=by show _=_;rw[he.o,HQ]
  rw[<-HQ] at HR ⊢;obtain⟨HY,HX,rfl⟩:=jQa HR.cols.1;obtain⟨H0,HZ,rfl⟩:=HR.puts.slice;obtain⟨H3,H2,rfl⟩:=jQa HR.cuts;have ha:=hd (hP.o.next HV);have hl:=hd HR;obtain⟨d0,d1,d2,d3,d4,d5,d6⟩:=jQI ha.o.otp;obtain⟨f0,f1,f2,f3,f4,f5,f6⟩:=jQy ha.o.otp;have hi:=jQe ha.o.otp;clear HV HR HQ;unfold az;go_wp2;refine cp (v:=.agg (az o9 (.slice HY o9.tab.cols.length HX) (.slice H0 o9.puts.length HZ) (.slice H3 o9.cuts.length H2))) (by simp[results,Tryz.results53,go_sem,az, *]) rfl ?_;rw[hj.o];exact ha.o.done hC hl.o _ _ _ _ _ _ _
 case false =>
  have hE:=HE.o;rw[h0,cy (by decide)] at hE;clear HE;have HE:=hd hE;clear hE;go_wp2_with fail;refine(HB.o _ hP.o.node hP.o.tra).mono ?_;rintro e w2 ⟨tv,l,rfl,hU,H4,H8,kx⟩;simp only at hU H8;obtain⟨lo,kK,rfl⟩:=jQa H4.own;have hD:=hd (hP.o.jHF HL.o kx H8);have Hr:=hd H4;have h7:=hd hU;clear kx H8 H4 hU hP y0 y1 y2 y3 y4 y5 y6;obtain⟨b0,b1,b2,b3,b4,b5,b6,b7⟩:=jIN hD.o.stm;obtain⟨s0,s1,s2,s3,s4,s5,s6⟩:=jQq hD.o.sto;have hG:=jQe hD.o.stm;have hV:=jQe hD.o.sto;have hO:=jQe hD.o.otp;cases h1:st.act==1
  case true =>
   have he:Hid (res=(jCP (l.map Prod.fst) hh.rows st,tr1)):=by show _=_;rw[HE.o,h1,h7.o];rfl
   have Hz:Hid (∀x∈l,-2147483648<=x.1.number/\x.1.number<=2147483647):=fun x hx=>by
    have:=Hk.o x.1 (by rw[<-h7.o];exact dX hx)
    omega
   go_wp2
   go_region_with (first
    | (go_at_call 71;refine(HA.o _).mono ?_;rintro e w3 ⟨rfl,kb⟩;have ho:=hd (hD.o.next ((cB bR).trans kb));have Hy:=hd ((cB (Below.refl w2.heap.size w2)).trans kb);clear kb;obtain⟨g0,g1,g2,g3,g4,g5,g6,g7⟩:=jIN ho.o.stm;have h9:=jQe ho.o.stm;have HJ:=jQe ho.o.otp)
    | (go_at_call 70;refine(jYs l _ hh.rows st ⟨.slice q5 st.cols.length c5,.slice q6 st.ax.length c6,.slice q7 st.ak.length c7,.slice q9 st.items.length c9,.slice H6 st.aq.length H5⟩ _ (Hr.o.below Hy.o) Hz.o ho.o.at_ ho.o.tbl).mono ?_;rintro e w9 ⟨H9,kd,kc,rfl,HR,HV⟩;obtain⟨o9,HQ⟩:∃x,x=jCP (l.map Prod.fst) hh.rows st:=⟨_,rfl⟩;have hj:Hid (res=(o9,tr1)):=(by show _=_;rw[he.o,HQ]);rw[<-HQ] at HR ⊢;obtain⟨HY,HX,rfl⟩:=jQa HR.cols.1;obtain⟨H0,HZ,rfl⟩:=HR.puts.slice;obtain⟨H3,H2,rfl⟩:=jQa HR.cuts;have ha:=hd (ho.o.next HV);have hl:=hd HR;obtain⟨d0,d1,d2,d3,d4,d5,d6⟩:=jQI ha.o.otp;obtain⟨f0,f1,f2,f3,f4,f5,f6⟩:=jQy ha.o.otp;have hi:=jQe ha.o.otp;clear HV HR HQ;unfold az))
   all_goals(try go_wp2_with fail)
   all_goals(refine cp (v:=.agg (az o9 (.slice HY o9.tab.cols.length HX) (.slice H0 o9.puts.length HZ) (.slice H3 o9.cuts.length H2))) (by simp[results,Tryz.results53,go_sem,az, *]) rfl ?_)
   all_goals(rw[hj.o];exact ha.o.done hC hl.o _ _ _ _ _ _ _)
  case false =>
   have hE:=HE.o;rw[h1,cy (by decide)] at hE;clear HE;have HE:=hd hE;clear hE;go_wp2_with fail;refine(jRt l _ st.table _ Hr.o).mono ?_;rintro e w3 ⟨kP,rfl,kr,kb⟩;obtain⟨H7,HW,rfl⟩:=jQa kr.1;have ho:=hd (hD.o.next kb);have Hn:=hd kr;have hE:=HE.o;rw[<-h7.o] at hE;clear HE;have hY:Hid (∀t,jBE st.table (l.map Prod.fst)=some t->t∈ts):=fun t ht=>by rw[<-h7.o];exact Sq.jLe ht
   have hN:=hY.o;have hA:=Hn.o;clear kb kr hD hY Hn b0 b1 b2 b3 b4 b5 b6 b7 s0 s1 s2 s3 s4 s5 s6 hG hV hO h7;generalize jBE st.table (l.map Prod.fst)=fo at *;cases fo with
   | none =>
    have he:Hid (res=(aE 4,tr1)):=hE;clear hE hN hA;simp only[Option.getD_none,Option.isSome_none];have hR:Below w3.heap.size w3 (w3.alloc (.cells #[.int .i64 jCh.number,.string jCh.name,.slice H7 jCh.cols.length HW] 94)):=bA;have hF:=hd (ho.o.next hR);clear hR ho;go_wp2_with fail;refine(jME 4 _ (by omega) (by omega) hF.o.tbl).mono ?_;rintro e w9 ⟨H9,kd,kc,rfl,HR,HV⟩;obtain⟨o9,HQ⟩:∃x,x=aE 4:=⟨_,rfl⟩;have hj:Hid (res=(o9,tr1)):=by show _=_;rw[he.o,HQ]
    rw[<-HQ] at HR ⊢;obtain⟨HY,HX,rfl⟩:=jQa HR.cols.1;obtain⟨H0,HZ,rfl⟩:=HR.puts.slice;obtain⟨H3,H2,rfl⟩:=jQa HR.cuts;have ha:=hd (hF.o.next HV);have hl:=hd HR;obtain⟨d0,d1,d2,d3,d4,d5,d6⟩:=jQI ha.o.otp;obtain⟨f0,f1,f2,f3,f4,f5,f6⟩:=jQy ha.o.otp;have hi:=jQe ha.o.otp;clear HV HR HQ;unfold az;go_wp2;refine cp (v:=.agg (az o9 (.slice HY o9.tab.cols.length HX) (.slice H0 o9.puts.length HZ) (.slice H3 o9.cuts.length H2))) (by simp[results,Tryz.results53,go_sem,az, *]) rfl ?_;rw[hj.o];exact ha.o.done hC hl.o _ _ _ _ _ _ _
   | some t =>
    simp only[Option.getD_some,Option.isSome_some] at hA hE ⊢;have Hx:=hN t rfl;have hR:Below w3.heap.size w3 (w3.alloc (.cells #[.int .i64 t.number,.string t.name,.slice H7 t.cols.length HW] 94)):=bA;have hF:=hd (ho.o.next hR);have He:=hd (hA.below hR);have Hh:=hd Hx;have Hg:Hid ((w3.alloc (.cells #[.int .i64 t.number,.string t.name,.slice H7 t.cols.length HW] 94)).heap[w3.heap.size]?=some (.cells #[.int .i64 t.number,.string t.name,.slice H7 t.cols.length HW] 94)):=jFE _ _;have HE:=hd hE;have HG:=Sq.qBO t.cols st;have Ht:=jZ4 t.cols (.slice H7 t.cols.length HW) st ⟨.slice q5 st.cols.length c5,.slice q6 st.ax.length c6,.slice q7 st.ak.length c7,.slice q9 st.items.length c9,.slice H6 st.aq.length H5⟩;clear hR ho hN Hx hA hE;have Ho:=hd Ht;obtain⟨b0,b1,b2,b3,b4,b5,b6,b7⟩:=jIN hF.o.stm;have hG:=jQe hF.o.stm;have hV:=jQe Hg.o;clear Ht;go_wp2_with fail;refine(Ho.o _ He.o hF.o.at_).mono ?_;rintro e w4 ⟨rfl,ki⟩;have hE:=HE.o;have hb:=hd (hF.o.next ki);have hy:=hd (He.o.below ki);have hu:=hd ((ki.block _ hV).trans Hg.o);clear ki Ho HE hF He Hg b0 b1 b2 b3 b4 b5 b6 b7 hG hV;generalize Sq.check t.cols st=ce at *;have HE:=hd hE;clear hE;obtain⟨b0,b1,b2,b3,b4,b5,b6,b7⟩:=jIN hb.o.stm;obtain⟨s0,s1,s2,s3,s4,s5,s6⟩:=jQq hb.o.sto;obtain⟨t0,t1,t2,-,-,-⟩:=jFd hu.o;have hG:=jQe hb.o.stm;have hV:=jQe hu.o;have hO:=jQe hb.o.sto;have h9:=jQe hb.o.otp;cases h2:ce != 0
    case true =>
     have he:Hid (res=(aE ce,tr1)):=by show _=_;rw[HE.o,h2];rfl
     go_wp2_with fail;refine(jME ce _ (by omega) (by omega) hb.o.tbl).mono ?_;rintro e w9 ⟨H9,kd,kc,rfl,HR,HV⟩;obtain⟨o9,HQ⟩:∃x,x=aE ce:=⟨_,rfl⟩;have hj:Hid (res=(o9,tr1)):=by show _=_;rw[he.o,HQ]
     rw[<-HQ] at HR ⊢;obtain⟨HY,HX,rfl⟩:=jQa HR.cols.1;obtain⟨H0,HZ,rfl⟩:=HR.puts.slice;obtain⟨H3,H2,rfl⟩:=jQa HR.cuts;have ha:=hd (hb.o.next HV);have hl:=hd HR;obtain⟨d0,d1,d2,d3,d4,d5,d6⟩:=jQI ha.o.otp;obtain⟨f0,f1,f2,f3,f4,f5,f6⟩:=jQy ha.o.otp;have hi:=jQe ha.o.otp;clear HV HR HQ;unfold az;go_wp2;refine cp (v:=.agg (az o9 (.slice HY o9.tab.cols.length HX) (.slice H0 o9.puts.length HZ) (.slice H3 o9.cuts.length H2))) (by simp[results,Tryz.results53,go_sem,az, *]) rfl ?_;rw[hj.o];exact ha.o.done hC hl.o _ _ _ _ _ _ _
    case false =>
     have hE:=HE.o;rw[h2,cy (by decide)] at hE;clear HE;have HE:=hd hE;clear hE;cases h3:st.act==2
     case true =>
      have he:Hid (res=inf t st.ax tr1):=by show _=_;rw[HE.o,h3];rfl
      go_wp2_with fail;refine(Ha.o t _ _ _ Hh.o hb.o.node hb.o.tra hy.o ⟨hb.o.at_.ax,hb.o.at_.jIs⟩ hb.o.tbl).mono ?_;rintro e w9 ⟨H9,kd,kc,rfl,HR,ko,ky⟩;obtain⟨⟨o9,kN⟩,HQ⟩:∃x,x=inf t st.ax tr1:=⟨_,rfl⟩;have hj:Hid (res=(o9,kN)):=by show _=_;rw[he.o,HQ]
      rw[<-HQ] at HR ko ⊢;simp only at HR ko ⊢;obtain⟨HY,HX,rfl⟩:=jQa HR.cols.1;obtain⟨H0,HZ,rfl⟩:=HR.puts.slice;obtain⟨H3,H2,rfl⟩:=jQa HR.cuts;have ha:=hd (hb.o.jHF HL.o ky ko);have hl:=hd HR;obtain⟨d0,d1,d2,d3,d4,d5,d6⟩:=jQI ha.o.otp;obtain⟨f0,f1,f2,f3,f4,f5,f6⟩:=jQy ha.o.otp;have hi:=jQe ha.o.otp;clear ky ko HR HQ;unfold az;go_wp2;refine cp (v:=.agg (az o9 (.slice HY o9.tab.cols.length HX) (.slice H0 o9.puts.length HZ) (.slice H3 o9.cuts.length H2))) (by simp[results,Tryz.results53,go_sem,az, *]) rfl ?_;rw[hj.o];exact ha.o.done hC hl.o _ _ _ _ _ _ _
     case false =>
      have hE:=HE.o;rw[h3,cy (by decide)] at hE;clear HE;obtain⟨⟨sp,kh⟩,kA⟩:∃x,x=spf t st.aq tr1:=⟨_,rfl⟩;have hw:=hX.o t (.slice H7 t.cols.length HW) (.slice H6 st.aq.length H5);have hB:=hZ.o t;rw[<-kA] at hE hw hB;simp only at hE hB;obtain⟨kf,kJ⟩:=hB;have Hv:=dE (fun row=>Sq.meets t.cols row st.aq) sp;have Hw:∀r∈jFH t.cols sp st.aq,jD9 r:=fun r hr=>kf r (List.mem_filter.1 hr).1
      have Hu:∀(rv:Value) w',aX w' (.slice H7 t.cols.length HW) t.cols->aQ 0 w' rv sp->jCL w' (.slice H6 st.aq.length H5) st.aq->Calls Tryz.prog 76 #[.slice H7 t.cols.length HW,rv,.slice H6 st.aq.length H5] w' fun e kp=>∃v,e=.returned v/\aQ w'.heap.size kp v (jFH t.cols sp st.aq)/\Below w'.heap.size w' kp:=fun rv w' hc hr hs=>jYa t.cols sp st.aq _ rv _ w' hc hr (by omega) hs (by have:=HK.o.aq;omega)
      change (jFH t.cols sp st.aq).length<=_ at Hv
      generalize jFH t.cols sp st.aq=met at *;have HD:met.length<=900:=by omega
      have HE:=hd hE;have Hp:=hd Hw;have HC:=hd Hu;have Hf:=hd hw;clear hE Hw Hu Hv hw kf hX hZ kA;go_wp2_with fail;refine(Hf.o _ Hh.o hb.o.node hb.o.tra hy.o hb.o.at_.steps).mono ?_;rintro e w5 ⟨rv,rfl,kn,kt,km⟩;simp only at kn kt;obtain⟨ro,kM,rfl⟩:=kn.slice;have hQ:=hd (hb.o.jHF HL.o km kt);have hz:=hd ((km.bC _ _ _ _ hu.o (by decide) (by decide)).trans hu.o);have hI:=hd (hy.o.bX km);have Hq:=hd kn;clear kn kt km hb hu hy b0 b1 b2 b3 b4 b5 b6 b7 s0 s1 s2 s3 s4 s5 s6 t0 t1 t2 hG hV hO h9;obtain⟨b0,b1,b2,b3,b4,b5,b6,b7⟩:=jIN hQ.o.stm;obtain⟨t0,t1,t2,-,-,-⟩:=jFd hz.o;have hG:=jQe hQ.o.stm;have hO:=jQe hz.o;have h9:=jQe hQ.o.otp;go_wp2_with fail;refine(HC.o _ _ hI.o Hq.o hQ.o.at_.steps).mono ?_;rintro e w6 ⟨mv,rfl,ks,kj⟩;obtain⟨mo,kL,rfl⟩:=ks.slice;have hq:=hd (hQ.o.next kj);have h6:=hd ((kj.block _ hO).trans hz.o);have hJ:=hd (hI.o.below kj);have HM:=hd (ks.base zR);clear ks kj hQ hz hI Hq b0 b1 b2 b3 b4 b5 b6 b7 t0 t1 t2 hG hO h9;obtain⟨b0,b1,b2,b3,b4,b5,b6,b7⟩:=jIN hq.o.stm;obtain⟨t0,t1,t2,-,-,-⟩:=jFd h6.o;have hG:=jQe hq.o.stm;have hO:=jQe h6.o;have h9:=jQe hq.o.otp;cases h4:st.act==3
      case true =>
       have he:Hid (res=(jCX t met st.ak,kh)):=by show _=_;rw[HE.o];unfold jEx;rw[h4];rfl
       go_wp2_with fail;refine(jYq t.number t.name t.cols met st.ak _ _ _ _ hJ.o HM.o hq.o.at_.ak hq.o.tbl Hp.o HK.o.oks (by omega)).mono ?_;rintro e w9 ⟨H9,kd,kc,rfl,HR,HV⟩;obtain⟨o9,HQ⟩:∃x,x=jCX ⟨t.number,t.name,t.cols⟩ met st.ak:=⟨_,rfl⟩;have hj:Hid (res=(o9,kh)):=by show _=_;rw[he.o,HQ]
       rw[<-HQ] at HR ⊢;obtain⟨HY,HX,rfl⟩:=jQa HR.cols.1;obtain⟨H0,HZ,rfl⟩:=HR.puts.slice;obtain⟨H3,H2,rfl⟩:=jQa HR.cuts;have ha:=hd (hq.o.next HV);have hl:=hd HR;obtain⟨d0,d1,d2,d3,d4,d5,d6⟩:=jQI ha.o.otp;obtain⟨f0,f1,f2,f3,f4,f5,f6⟩:=jQy ha.o.otp;have hi:=jQe ha.o.otp;clear HV HR HQ;unfold az;go_wp2;refine cp (v:=.agg (az o9 (.slice HY o9.tab.cols.length HX) (.slice H0 o9.puts.length HZ) (.slice H3 o9.cuts.length H2))) (by simp[results,Tryz.results53,go_sem,az, *]) rfl ?_;rw[hj.o];exact ha.o.done hC hl.o _ _ _ _ _ _ _
      case false =>
       cases h5:st.act==4
       case true =>
        have he:Hid (res=(jEF t met,kh)):=by show _=_;rw[HE.o];unfold jEx;rw[h4,h5];rfl
        go_wp2_with fail;refine(jYG t _ met _ _ hJ.o HM.o hq.o.tbl (by omega)).mono ?_;rintro e w9 ⟨H9,kd,kc,rfl,HR,HV⟩;obtain⟨o9,HQ⟩:∃x,x=jEF t met:=⟨_,rfl⟩;have hj:Hid (res=(o9,kh)):=by show _=_;rw[he.o,HQ]
        rw[<-HQ] at HR ⊢;obtain⟨HY,HX,rfl⟩:=jQa HR.cols.1;obtain⟨H0,HZ,rfl⟩:=HR.puts.slice;obtain⟨H3,H2,rfl⟩:=jQa HR.cuts;have ha:=hd (hq.o.next HV);have hl:=hd HR;obtain⟨d0,d1,d2,d3,d4,d5,d6⟩:=jQI ha.o.otp;obtain⟨f0,f1,f2,f3,f4,f5,f6⟩:=jQy ha.o.otp;have hi:=jQe ha.o.otp;clear HV HR HQ;unfold az;go_wp2;refine cp (v:=.agg (az o9 (.slice HY o9.tab.cols.length HX) (.slice H0 o9.puts.length HZ) (.slice H3 o9.cuts.length H2))) (by simp[results,Tryz.results53,go_sem,az, *]) rfl ?_;rw[hj.o];exact ha.o.done hC hl.o _ _ _ _ _ _ _
       case false =>
        have he:Hid (res=(⟨jEN t.cols met st,false,jCh,[],[]⟩,kh)):=by show _=_;rw[HE.o];unfold jEx;rw[h4,h5];rfl
        have HH:=Hk.o t Hh.o;go_wp2_with fail;refine(qAZ t.cols met _ _ st ⟨.slice q5 st.cols.length c5,.slice q6 st.ax.length c6,.slice q7 st.ak.length c7,.slice q9 st.items.length c9,.slice H6 st.aq.length H5⟩ _ hJ.o HM.o hq.o.at_ hq.o.tbl Hp.o (by omega) (by omega) HK.o.items).mono ?_;rintro e w9 ⟨rfl,HV⟩;have ha:=hd (hq.o.next HV);obtain⟨d0,d1,d2,d3,d4,d5,d6⟩:=jQI ha.o.otp;obtain⟨f0,f1,f2,f3,f4,f5,f6⟩:=jQy ha.o.otp;have hi:=jQe ha.o.otp;clear HV;go_wp2;refine cp (v:=.agg (az ⟨jEN t.cols met st,false,jCh,[],[]⟩ (.slice none 0 0) (.slice none 0 0) (.slice none 0 0))) (by simp[results,Tryz.results53,go_sem,az,jCh,ar, *]) rfl ?_;rw[he.o];exact ha.o.done hC (jBx.none _ _ rfl rfl rfl) _ _ _ _ _ _ _
structure App (Z:Nat->Prop)(tb b:Nat)(o:bY)(cv pv kv:Value)(w w':World)(Y:aj×Trl):Prop where
 box:jON Z tb b w' Y
 otp:jBx w' o cv pv kv
 ob:w'.heap[b+1]?=some (.cells #[.string o.jAP,.bool o.makes,.int .i64 o.tab.number,.string o.tab.name,cv,pv,kv] 98)
 res:w'.heap[b+2]?=some (.cells #[.bool false,.slice none 0 0,.slice none 0 0,.int .i64 0,.int .i64 0,.string ⟨#[]⟩,.int .i64 0] 91)
 frm:aA tb w w'
theorem App.next {o:bY}{Y Y':aj×Trl}(h:App Z tb b o cv pv kv w w1 Y)(hw:w.heap.size<=b)(ht:tb<w.heap.size){g1 g3:Option Addr}{e2 e3 c2 c3:Nat}(hn:ag Z w2 Y'.1.d Y'.1.t (.slice g1 e2 e3) (.slice g3 c2 c3))(hg:bk tb w2 Y'.2)(hf:aA tb w1 w2) :
  App Z tb b o cv pv kv w (bT w2 b (.bool Y'.1.head.inner) (.slice g1 e2 e3) (.slice g3 c2 c3) (.int .i64 Y'.1.head.least) (.int .i64 Y'.1.head.rows) (.string Y'.1.head.sl) (.int .i64 Y'.1.head.num)) Y':=by
 obtain⟨q1,q2,q3,q4,q5,q6,hb,_⟩:=h.box.box;have ha:=(hf.bC b _ _ _ hb (by decide) (by decide)).trans hb;have he:=jJG hn hg (h.frm.trans hf) ha hw (by omega) (.bool Y'.1.head.inner) (.slice g1 e2 e3) (.slice g3 c2 c3) (.int .i64 Y'.1.head.least) (.int .i64 Y'.1.head.rows) (.string Y'.1.head.sl) (.int .i64 Y'.1.head.num)
 have hk:jDL 91 w2 (bT w2 b (.bool Y'.1.head.inner) (.slice g1 e2 e3) (.slice g3 c2 c3) (.int .i64 Y'.1.head.least) (.int .i64 Y'.1.head.rows) (.string Y'.1.head.sl) (.int .i64 Y'.1.head.num)):=by
  intro q cq e fr hq hc;refine jQl _ _ _ _ _ _ _ _ _ fun e2=>?_
  subst e2;rw[ha] at hq;simp only[Option.some.injEq,Obj.cells.injEq] at hq;exact hc hq.2.1.symm
 refine⟨⟨⟨g1,e2,e3,g3,c2,c3,jTo ha _ _ _ _ _ _ _,he.1⟩,he.2.1⟩,(h.otp.bX (Or.inr hf)).bX (tb:=tb) (Or.inl hk),?_,?_,he.2.2⟩
 ·rw[jQl _ _ _ _ _ _ _ _ _ (by omega)];exact(hf.bC _ _ _ _ h.ob (by decide) (by decide)).trans h.ob
 rw[jQl _ _ _ _ _ _ _ _ _ (by omega)];exact(hf.bC _ _ _ _ h.res (by decide) (by decide)).trans h.res
end
end Go.Proofs.YtahpihjialbanaaGreatDoor
