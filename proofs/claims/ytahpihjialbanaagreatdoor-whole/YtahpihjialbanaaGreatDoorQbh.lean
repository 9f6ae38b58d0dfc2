import Derived.Test.YtahpihjialbanaaGreatDoorQay
import Derived.Test.YtahpihjialbanaaGreatDoorQbc
import Derived.Test.YtahpihjialbanaaGreatDoorQbf
import Derived.Test.YtahpihjialbanaaGreatDoorQbg
set_option linter.unusedVariables false
set_option linter.unusedSimpArgs false
set_option maxRecDepth 100000
set_option maxHeartbeats 2000000
namespace Go.Proofs.YtahpihjialbanaaGreatDoor
open Sq (Nd Trl NTree TameR tameN PSt StepS SetS TabN)
namespace Sq
def okNm (n:ByteArray):Prop:=1<=n.size/\n.size<=8
def okKind (k:Int):Prop:=k=0\/k=1
structure okCols (cols:List Col):Prop where
 few:cols.length<=4
 head:∃c q,cols=c::q/\c.kind=0
 each:∀c∈cols,okNm c.name/\okKind c.kind
def typed:List Col->List Val->Prop
 | [],[]=>True
 | c::q,v::r=>(v.kind=c.kind/\goodVal v)/\typed q r
 | _,_=>False
theorem jQm3 (x:Int)(b:ByteArray)(h0:0<=x)(h1:x<256):numV ⟨pnum x 1++b,false⟩ 1=x/\takeN ⟨pnum x 1++b,false⟩ 1=⟨b,false⟩:=jQbu x 1 b h0 (by omega)
theorem jQqC (x:Int)(b:ByteArray)(h0:0<=x)(h1:x<4294967296):numV ⟨pnum x 4++b,false⟩ 4=x/\takeN ⟨pnum x 4++b,false⟩ 4=⟨b,false⟩:=by
 have h2:(256:Int)^4=4294967296:=by decide
 exact jQbu x 4 b h0 (by rw[h2];exact h1)
theorem jQko:doneR ⟨nobytes,false⟩=true:=by decide +kernel
theorem jQdX (a b c:ByteArray):a++b++c=a++(b++c):=ByteArray.append_assoc
theorem jQon (b:ByteArray):b++nobytes=b:=by
 apply ByteArray.ext;simp[nobytes]
theorem jQhJ (b:ByteArray)(cols:List Col):ofCols b cols=b++catB (cols.map ofCol):=by
 rw[<-jQb3,List.foldl_map];rfl
theorem jQhI (b:ByteArray)(l:List Val):ofVals b l=b++catB (l.map ofVal):=by
 rw[<-jQb3,List.foldl_map];rfl
theorem jQku:∀(cs:List Col) (i:Nat) (b:ByteArray) (acc:List Col),(∀c∈cs,okNm c.name/\okKind c.kind)->(i=0->∀c,cs.head?=some c->c.kind=0) ->
  colsR cs.length i ⟨catB (cs.map ofCol)++b,false⟩ acc=⟨acc++cs,⟨b,false⟩,true⟩
 | [],i,b,acc,_,_=>by rw[List.length_nil,colsR,List.map_nil,List.append_nil];show ColsR.mk acc ⟨nobytes++b,false⟩ true=_;rw[jQeD]
 | c::r,i,b,acc,h,h0=>by
  obtain⟨⟨n1,n2⟩,hk⟩:=h c (by simp);have hb:0<=c.kind:=by rcases hk with hk | hk<;>omega
  have ha:c.kind<256:=by rcases hk with hk | hk<;>omega
  have e:catB ((c::r).map ofCol)++b=pnum c.kind 1++(txt c.name++(catB (r.map ofCol)++b)):=by
   rw[List.map_cons,jQbL];unfold ofCol;rw[jQdX,jQdX]
  have hn:=jQm3 c.kind (txt c.name++(catB (r.map ofCol)++b)) hb ha;have ht:=jQjx c.name (catB (r.map ofCol)++b) (by omega)
  have hv:colV ⟨catB ((c::r).map ofCol)++b,false⟩=c:=by
   unfold colV;rw[e,hn.1,hn.2,ht.1]
  have hd:colN ⟨catB ((c::r).map ofCol)++b,false⟩=⟨catB (r.map ofCol)++b,false⟩:=by
   unfold colN;rw[e,hn.2,ht.2]
  have hg:colGood c i=true:=by
   unfold colGood isNm;rcases hk with hk | hk
   ·simp[hk,n1,n2]
   ·have:i≠0:=fun hi=>by have:=h0 hi c rfl;omega
    have:0<i:=by omega
    simp[hk,n1,n2,this]
  rw[List.length_cons,colsR,hv,hd,hg,if_pos rfl,jQku r (i+1) b (acc++[c]) (fun x hx=>h x (by simp[hx])) (fun hi=>by omega)];simp
theorem jQlX {name:ByteArray}{cols:List Col}(hn:okNm name)(hc:okCols cols):toTable (ofTable name cols)=some (name,cols):=by
 have hl:=hc.few;have hp:1<=cols.length:=by obtain⟨c,q,e,_⟩:=hc.head;rw[e];simp
 have e:ofTable name cols=txt name++(pnum cols.length 1++(catB (cols.map ofCol)++nobytes)):=by
  unfold ofTable;rw[jQhJ,jQdX,jQon]
 have h1:=jQjx name (pnum cols.length 1++(catB (cols.map ofCol)++nobytes)) (by have:=hn.2;omega);have h2:=jQm3 cols.length (catB (cols.map ofCol)++nobytes) (by omega) (by omega)
 have hh:tabHead (ofTable name cols)=(name,(cols.length:Int),⟨catB (cols.map ofCol)++nobytes,false⟩):=by
  unfold tabHead;rw[e,h1.1,h1.2,h2.1,h2.2]
 have hg:tabGood (ofTable name cols)=true:=by
  unfold tabGood isNm;rw[hh];simp only[Bool.and_eq_true,decide_eq_true_eq];exact⟨⟨⟨hn.1,hn.2⟩,by omega⟩,by omega⟩
 have ha:tabCols (ofTable name cols)=⟨cols,⟨nobytes,false⟩,true⟩:=by
  unfold tabCols;rw[hg,if_pos rfl,hh];simp only[Int.toNat_natCast];rw[jQku cols 0 nobytes [] hc.each ?_]
  ·simp
  ·intro _ c hcc;obtain⟨c',q,e',hk⟩:=hc.head;rw[e'] at hcc;simp at hcc;rw[<-hcc];exact hk
 unfold toTable;rw[ha,hh];simp only[jQko,Bool.and_self,if_true]
theorem jQig:∀(cols:List Col) (row:List Val) (b:ByteArray) (acc:List Val),(∀c∈cols,okKind c.kind)->typed cols row ->
  cellsR cols ⟨acc,⟨catB (row.map ofVal)++b,false⟩,true⟩=⟨acc++row,⟨b,false⟩,true⟩
 | [],[],b,acc,_,_=>by show CellsR.mk acc ⟨nobytes++b,false⟩ true=_;rw[jQeD,List.append_nil]
 | [],_::_,_,_,_,h=>by unfold typed at h;exact h.elim
 | _::_,[],_,_,_,h=>by unfold typed at h;exact h.elim
 | c::q,v::r,b,acc,hk,h=>by
  unfold typed at h;obtain⟨⟨hvk,hv⟩,ht⟩:=h;have ih:=fun acc=>jQig q r b acc (fun x hx=>hk x (by simp[hx])) ht
  have e:catB ((v::r).map ofVal)++b=ofVal v++(catB (r.map ofVal)++b):=by rw[List.map_cons,jQbL,jQdX]
  have hs:cellStep c ⟨acc,⟨catB ((v::r).map ofVal)++b,false⟩,true⟩=⟨acc++[v],⟨catB (r.map ofVal)++b,false⟩,true⟩:=by
   unfold cellStep;rw[e];rcases hv with⟨h1,h2,h3,h4⟩ | ⟨h1,h2,h3,_⟩
   ·have ha:(c.kind==1)=false:=by rw[<-hvk,h1];rfl
    have ho:ofVal v=pnum (v.number+2147483648) 4:=by unfold ofVal;rw[h1];rfl
    have:=jQqC (v.number+2147483648) (catB (r.map ofVal)++b) (by omega) (by omega)
    rw[ha,ho,if_neg (by simp)];simp only[this.1,this.2];obtain⟨k,n,t⟩:=v;simp only at h1 h4;subst h1 h4;rw[show n+2147483648-2147483648=n by omega]
   ·have ha:(c.kind==1)=true:=by rw[<-hvk,h1];rfl
    have ho:ofVal v=txt v.text:=by unfold ofVal;rw[h1];rfl
    have:=jQjx v.text (catB (r.map ofVal)++b) (by omega)
    rw[ha,ho,if_pos rfl];simp only[this.1,this.2];obtain⟨k,n,t⟩:=v;simp only at h1 h2 h3;subst h1 h2;simp[h3]
  unfold cellsR;rw[List.foldl_cons,hs]
  have:=ih (acc++[v])
  unfold cellsR at this;rw[this];simp
theorem jQlY {cols:List Col}{row:List Val}(hc:okCols cols)(ht:typed cols row):toCells cols (keyOf row) (ofCells row)=some row:=by
 obtain⟨c,q,rfl,hk⟩:=hc.head;cases row with
 | nil=>unfold typed at ht;exact ht.elim
 | cons v r =>
  unfold typed at ht;obtain⟨⟨hvk,hv⟩,ht⟩:=ht
  have ha:v=⟨0,v.number,nobytes⟩:=by
   rcases hv with⟨h1,_,_,h4⟩ | ⟨h1,_⟩
   ·obtain⟨k,n,t⟩:=v;simp only at h1 h4;subst h1 h4;rfl
   ·omega
  have e:ofCells (v::r)=catB (r.map ofVal)++nobytes:=by
   unfold ofCells;rw[jQhI,jQon,jQeD];rfl
  have hr:rowCells (c::q) (keyOf (v::r)) (ofCells (v::r))=⟨v::r,⟨nobytes,false⟩,true⟩:=by
   unfold rowCells;rw[e];show cellsR q ⟨[⟨0,v.number,nobytes⟩],_,true⟩=_;rw[<-ha,jQig q r nobytes [v] (fun x hx=>(hc.each x (by simp[hx])).2) ht];rfl
  unfold toCells;rw[hr];simp only[jQko,Bool.and_self,if_true]
theorem jQfS (t k:Int)(h0:-2147483648<=k)(h1:k<=2147483647):keyAt (placeOf t k)=k:=by
 unfold keyAt placeOf;omega
theorem jQc4 {t k t' k':Int}(h0:-2147483648<=k)(h1:k<=2147483647)(h2:-2147483648<=k')(h3:k'<=2147483647):placeOf t k<placeOf t' k'↔t<t'\/(t=t'/\k<k'):=by
 unfold placeOf;omega
theorem jQbj {t k t' k':Int}(h0:-2147483648<=k)(h1:k<=2147483647)(h2:-2147483648<=k')(h3:k'<=2147483647):placeOf t k=placeOf t' k'↔t=t'/\k=k':=by
 unfold placeOf;omega
end Sq
namespace Sq
def made (db:List Tab)(o:Out):List Tab:=if o.makes then db++[⟨o.name,o.cols,[]⟩] else db
def apply (db:List Tab)(o:Out):List Tab:=setRows (made db o) o.table.toNat (cutAll o.cuts (putAll o.puts (rowsAt (made db o) o.table.toNat)))
def after (db:List Tab)(sql:ByteArray):List Tab:=apply db (Sq.decide db sql)
structure goodRow (r:List Val):Prop where
 vals:∀v∈r,goodVal v
 head:∃v q,r=v::q/\v.kind=0
structure goodTab (t:Tab):Prop where
 cols:t.cols.length<=4
 head:∃c q,t.cols=c::q/\c.kind=0
 sorted:sorted t.rows
 rows:∀r∈t.rows,goodRow r
structure good (db:List Tab):Prop where
 few:db.length<=5
 size:dbSize db<=60
 each:∀t∈db,goodTab t
theorem jQqR:good []:=⟨by simp,by simp[dbSize,rowsSum],by simp⟩
theorem goodVal.ok {v:Val}(h:goodVal v):okVal v:=by
 rcases h with⟨_,h1,h2,h3⟩ | ⟨_,h1,h2,_⟩
 ·exact⟨by omega,by omega,by rw[h3];decide⟩
 ·exact⟨by omega,by omega,by omega⟩
theorem jQrl:∀(db:List Tab) (k:Nat) (hk:k<db.length) (t:Tab),rowsSum (db.set k t)+db[k].rows.length=rowsSum db+t.rows.length:=by
 intro db
 induction db with
 | nil=>intro k hk;simp at hk
 | cons x r ih =>
  intro k hk t;have e:∀(y:Tab) (q:List Tab),rowsSum (y::q)=y.rows.length+rowsSum q:=fun y q=>by simp[rowsSum]
  cases k with
  | zero=>rw[List.set_cons_zero,e,e,List.getElem_cons_zero];omega
  | succ k =>
   have:=ih k (by simpa using hk) t
   rw[List.set_cons_succ,e,e,List.getElem_cons_succ];omega
theorem jQch {db:List Tab}(h:good db)(k:Nat)(hk:k<db.length)(rows:List (List Val))(hs:sorted rows)(hr:∀r∈rows,goodRow r)(hl:dbSize db+rows.length<=60+db[k].rows.length):good (setRows db k rows):=by
 refine⟨by rw[jQaz];exact h.few,?_,?_⟩
 ·unfold dbSize at hl ⊢;rw[jQaz,jQaM db k hk]
  have:=jQrl db k hk { db[k] with rows:=rows }
  simp only at this ⊢;omega
 ·rw[jQaM db k hk];intro t ht;rcases List.mem_or_eq_of_mem_set ht with ht | rfl
  ·exact h.each t ht
  ·have:=h.each db[k] (List.getElem_mem hk)
   exact⟨this.cols,this.head,hs,hr⟩
theorem jQkf {db:List Tab}(h:good db)(o:Out)(h1:o.makes=false)(h2:o.puts=[])(h3:o.cuts=[]):good (apply db o):=by
 have e:made db o=db:=by unfold made;rw[h1];rfl
 unfold apply;rw[e,h2,h3];show good (setRows db _ (rowsAt db _));rw[jQah];exact h
theorem jQO {db:List Tab}(h:good db)(n:Int):good (apply db (refused n)):=jQkf h _ rfl rfl rfl
theorem jQgT (cols:List Col)(st:PSt)(h:check cols st=0):checkAct cols st=0:=by
 unfold check at h
 split at h
 ·exact h
 ·rename_i h2;simpa using h2
theorem jQe3 (c:Col)(q:List Col)(vals:List Val)(h:checkValues (c::q) vals=0):∃v r,vals=v::r/\v.kind=c.kind:=by
 unfold checkValues at h
 split at h
 ·simp at h
 ·rename_i hl;simp at hl
  match vals,hl,h with
  | v::r,_,h =>
   refine⟨v,r,rfl,?_⟩;rw[checkValuesFrom] at h
   split at h
   ·simp at h
   ·rename_i hk;simpa using hk
theorem jQgU (cols:List Col):∀(sets e:List SetS),checkSetsFrom cols e sets=0->∀s∈sets,find cols s.column≠0:=by
 intro sets
 induction sets with
 | nil=>intro e _ s hs;simp at hs
 | cons x r ih =>
  intro e h s hs;rw[checkSetsFrom] at h
  split at h
  ·rename_i hx;rw[h] at hx;simp at hx
  ·rename_i hx;rcases List.mem_cons.1 hs with rfl | hs
   ·have ha:checkSet cols e s=0:=by simpa using hx
    intro h0;unfold checkSet at ha;rw[h0] at ha
    split at ha<;>simp at ha
   ·exact ih _ h s hs
theorem jQlw (cols:List Col)(row:List Val)(n:ByteArray)(h:∀v∈row,goodVal v):goodVal (cellOf cols row n):=by
 unfold cellOf
 split
 ·exact goodVal0
 ·cases h2:row[(find cols n).toNat]? with
  | none=>exact goodVal0
  | some v=>exact h v (List.mem_of_getElem? h2)
theorem jQis (cols:List Col)(row:List Val)(t:Term)(h:∀v∈row,goodVal v)(ht:goodVal t.lit):goodVal (valueOf cols row t):=by
 unfold valueOf
 split
 ·exact ht
 ·exact jQlw cols row _ h
theorem jQkW (cols:List Col)(row:List Val)(s:SetS)(h:∀v∈row,goodVal v)(hs:goodVal s.first.lit):goodVal (result cols row s).1:=by
 unfold result
 split
 ·exact jQis cols row _ h hs
 ·split
  ·exact goodVal0
  ·split
   ·exact goodVal0
   ·exact Or.inl ⟨rfl,by show _<=numOf _ _ _;omega,by show numOf _ _ _<=_;omega,rfl⟩
theorem jQfr (cols:List Col)(old:List Val)(ho:∀v∈old,goodVal v):∀(sets:List SetS) (row:List Val),(∀s∈sets,goodVal s.first.lit)->(∀s∈sets,find cols s.column≠0)->goodRow row->(assignFrom cols old sets row).2=true ->
  goodRow (assignFrom cols old sets row).1/\keyOf (assignFrom cols old sets row).1=keyOf row:=by
 intro sets
 induction sets with
 | nil=>intro row _ _ h _;exact⟨h,rfl⟩
 | cons s r ih =>
  intro row h1 h2 h3 h4;rw[assignFrom] at h4 ⊢
  split
  ·rename_i hk;rw[if_pos hk] at h4
   have ha:goodRow (assignStep cols old row s)/\keyOf (assignStep cols old row s)=keyOf row:=by
    unfold assignStep
    split
    ·exact⟨h3,rfl⟩
    ·rename_i hf;have hb:=h2 s (by simp);obtain⟨k,hk⟩:∃k,(find cols s.column).toNat=k+1:=⟨(find cols s.column).toNat-1,by omega⟩;rw[hk];obtain⟨v,q,hv,hk0⟩:=h3.head;rw[hv,List.set_cons_succ];refine⟨⟨?_,⟨v,_,rfl,hk0⟩⟩,rfl⟩;intro x hx;rcases List.mem_cons.1 hx with rfl | hx
     ·exact h3.vals x (by rw[hv];simp)
     ·rcases List.mem_or_eq_of_mem_set hx with hx | rfl
      ·exact h3.vals x (by rw[hv];simp[hx])
      ·exact jQkW cols old s ho (h1 s (by simp))
   have:=ih _ (fun x hx=>h1 x (by simp[hx])) (fun x hx=>h2 x (by simp[hx])) ha.1 h4
   exact⟨this.1,this.2.trans ha.2⟩
  ·rename_i hk;rw[if_neg hk] at h4;simp at h4
theorem jQcn (cols:List Col)(sets:List SetS):∀(rows acc puts:List (List Val)),updateFrom cols sets rows acc=some puts->∀p∈puts,p∈acc\/∃r∈rows,(assigned cols r sets).2=true/\p=(assigned cols r sets).1:=by
 intro rows
 induction rows with
 | nil=>intro acc puts h p hp;rw[updateFrom] at h;simp at h;subst h;exact Or.inl hp
 | cons x q ih =>
  intro acc puts h p hp;rw[updateFrom] at h
  split at h
  ·rename_i hx;rcases ih _ _ h p hp with h1 | ⟨r,hr,h1⟩
   ·rcases List.mem_append.1 h1 with h1 | h1
    ·exact Or.inl h1
    ·simp at h1;exact Or.inr ⟨x,by simp,hx,h1⟩
   ·exact Or.inr ⟨r,by simp[hr],h1⟩
  ·simp at h
theorem jQqQ {db:List Tab}(h:good db)(k:Nat)(hk:k<db.length)(st:PSt)(n:Nat)(hst:okRead goodVal n st):good (apply db (decideTab db db[k] k st)):=by
 have ht:=h.each db[k] (List.getElem_mem hk);unfold decideTab
 split
 ·exact jQO h _
 ·rename_i hc;have hh:check db[k].cols st=0:=by simpa using hc
  have hb:=jQgT _ _ hh;have hi:=h.size
  split
  ·rename_i ha;unfold Sq.insert
   split
   ·exact jQO h _
   ·split
    ·exact jQO h _
    ·rename_i h6;unfold apply made;simp only[Bool.false_eq_true,if_false,Int.toNat_natCast];rw[jQbh db k hk];show good (setRows db k (put st.vals db[k].rows))
     have hv:goodRow st.vals:=by
      refine⟨hst.vals,?_⟩;obtain⟨c,q,hcq,hc0⟩:=ht.head
      have h7:checkValues db[k].cols st.vals=0:=by
       unfold checkAct at hb;rw[if_pos ha] at hb;exact hb
      rw[hcq] at h7;obtain⟨v,r,hvr,hvk⟩:=jQe3 c q st.vals h7;exact⟨v,r,hvr,hvk.trans hc0⟩
     refine jQch h k hk _ (jQep ht.sorted) ?_ ?_
     ·intro r hr;rcases jQjP hr with rfl | hr
      ·exact hv
      ·exact ht.rows r hr
     ·have:=jQrs st.vals db[k].rows
      omega
  ·rename_i ha
   split
   ·rename_i ha3;unfold Sq.update;cases hu:updateFrom db[k].cols st.sets (meeting db[k] st.wher) [] with
    | none=>exact jQO h _
    | some puts =>
     unfold updated apply made;simp only[Bool.false_eq_true,if_false,Int.toNat_natCast];rw[jQbh db k hk];show good (setRows db k (putAll puts db[k].rows))
     have he:∀s∈st.sets,find db[k].cols s.column≠0:=by
      unfold checkAct at hb;rw[if_neg ha,if_pos ha3] at hb;exact jQgU _ _ _ hb
     have hp:∀p∈puts,goodRow p/\hasK db[k].rows (keyOf p):=by
      intro p hp;rcases jQcn _ _ _ _ _ hu p hp with h1 | ⟨r,hr,h2,rfl⟩
      ·simp at h1
      ·have hf:r∈db[k].rows:=(List.mem_filter.1 hr).1;have hg:=ht.rows r hf
       have:=jQfr db[k].cols r hg.vals st.sets r (fun s hs=>(hst.sets s hs).1) he hg h2
       exact⟨this.1,r,hf,this.2.symm⟩
     refine jQch h k hk _ (jQdp puts ht.sorted) ?_ ?_
     ·intro r hr;rcases jQer puts hr with hr | hr
      ·exact(hp r hr).1
      ·exact ht.rows r hr
     ·have:=jQhz puts (rows:=db[k].rows) (fun p h=>(hp p h).2)
      omega
   ·split
    ·unfold Sq.remove apply made;simp only[Bool.false_eq_true,if_false,Int.toNat_natCast];rw[jQbh db k hk];show good (setRows db k (cutAll _ db[k].rows));refine jQch h k hk _ (jQdu _ ht.sorted) (fun r hr=>ht.rows r (jQe0 _ hr)) ?_
     have:=jQic ((meeting db[k] st.wher).map keyOf) (rows:=db[k].rows)
     omega
    ·exact jQkf h _ rfl rfl rfl
theorem jQrM {db:List Tab}(h:good db)(st:PSt)(n:Nat)(hst:okRead goodVal n st)(hh:st.act=1->∃c q,st.cols=c::q/\c.kind=0):good (apply db (decideSt db st)):=by
 unfold decideSt
 split
 ·rename_i ha;unfold create
  split
  ·exact jQO h _
  ·split
   ·exact jQO h _
   ·split
    ·exact jQO h _
    ·split
     ·exact jQO h _
     ·split
      ·exact jQO h _
      ·rename_i h1 h2 h3 h4 h5;unfold apply made;simp only[if_true];show good (setRows (db++[_]) _ (rowsAt _ _));rw[jQah];refine⟨by simp;omega,?_,?_⟩
       ·unfold dbSize rowsSum at h5 ⊢;simp;omega
       ·intro t ht;rcases List.mem_append.1 ht with ht | ht
        ·exact h.each t ht
        ·simp at ht;subst ht;exact⟨by show st.cols.length<=4;omega,hh (by simpa using ha),List.Pairwise.nil,by simp⟩
 ·split
  ·rename_i t hx
   split
   ·exact jQO h _
   ·rename_i h0;obtain⟨k,hk⟩:=Int.eq_ofNat_of_zero_le (show 0<=findTab db st.table by omega);rw[hk] at hx ⊢;rw[Int.toNat_natCast] at hx;obtain⟨hk',ht⟩:=List.getElem?_eq_some_iff.1 hx;subst ht;exact jQqQ h k hk' st n hst
  ·exact jQO h _
theorem jQaq (ws:List Word)(body:PSt->PSt)(Q:PSt->Prop)(hb:∀st,Q st->Q (body (step1 st))):∀f st,Q st->Q (commas ws body f st):=by
 intro f
 induction f with
 | zero=>intro st h;exact h
 | succ f ih =>
  intro st h;rw[commas]
  split
  ·exact ih _ (hb st h)
  ·exact h
theorem jQg0 (ws:List Word)(st:PSt):(asgS ws st).act=st.act:=by
 show(asg4 ws st).act=_
 have h2:=jQkB ws st;unfold asg4 asg3
 split
 ·exact((h2.trans (jQI _)).trans (jQaJ ws _)).act
 ·split
  ·exact((h2.trans (jQI _)).trans (jQaJ ws _)).act
  ·exact h2.act
theorem jQaL (ws:List Word)(st:PSt):(tableS ws st).act=st.act:=(jQ6 ws st).act
theorem jQ4 (ws:List Word)(st:PSt)(m:ByteArray):(wantS ws st m).act=st.act:=(jQZ ws st m).act
theorem jQfi (ws:List Word)(st:PSt)(h0:st.act=0)(hc:st.cols=[]):(statementS ws st).act=1->∃c q,(statementS ws st).cols=c::q/\c.kind=0:=by
 unfold statementS
 split
 ·intro _;unfold createS;simp only;rw[(jQZ ws _ bClose).cols];refine jQaq ws (colS ws) (fun st=>∃c q,st.cols=c::q/\c.kind=0) ?_ _ _ ?_
  ·rintro s ⟨c,q,h1,h2⟩;refine⟨c,q++[⟨nameR ws (step1 s),kindR ws (nameS ws (step1 s))⟩],?_,h2⟩
   show(kindS ws (nameS ws (step1 s))).cols++[_]=_
   rw[jQhR,jQbH];show s.cols++[_]=_;rw[h1];rfl
  ·refine⟨⟨nameR ws (wantS ws (tableS ws (wantS ws (setAct (takeS ws st) 1) bTable)) bOpen),0⟩,[],?_,rfl⟩
   show(wantS ws _ _).cols++[_]=_
   rw[jQa3,jQbH,jQa3,jQc1,jQa3]
   show(takeS ws st).cols++[_]=_
   rw[jQcz,hc];rfl
 ·split
  ·intro h;unfold insertS at h;simp only at h;rw[jQ4,jQaq ws (valueS ws) (fun st=>st.act=2) (fun s hs=>((jQbX ws (step1 s)).act).trans hs) _ _ ?_] at h
   ·simp at h
   ·refine((jQbX ws _).act).trans ?_;rw[jQ4,jQ4,jQaL,jQ4];rfl
  ·split
   ·intro h;unfold updateS at h;simp only at h;rw[(jQab ws _).act,jQaq ws (asgS ws) (fun st=>st.act=3) (fun s hs=>(jQg0 ws (step1 s)).trans hs) _ _ ?_] at h
    ·simp at h
    ·rw[jQg0,jQ4,jQaL];rfl
   ·split
    ·intro h;unfold deleteS at h;rw[(jQab ws _).act,jQaL,jQ4] at h;simp[setAct] at h
    ·split
     ·intro h;unfold chooseS at h;rw[(jQab ws _).act,jQaL,jQ4] at h
      have h5:(chooseA ws (setAct (takeS ws st) 5)).act=5:=by
       unfold chooseA
       split
       ·rfl
       ·split
        ·rfl
        ·split
         ·rw[jQ4,jQbZ,jQ4];rfl
         ·unfold itemsS;exact jQaq ws (itemS ws) (fun st=>st.act=5) (fun s hs=>(jQbZ ws (step1 s)).trans hs) _ _ (jQbZ ws _)
      rw[h5] at h;simp at h
     ·intro h
      have:(takeS ws st).act=1:=h
      rw[(jQa7 ws st).act,h0] at this;simp at this
theorem jQhE (sql:ByteArray):(parse sql).2.act=1->∃c q,(parse sql).2.cols=c::q/\c.kind=0:=by
 have h0:st0.act=1->∃c q,st0.cols=c::q/\c.kind=0:=fun h=>by simp[st0] at h
 unfold parse
 split
 ·exact h0
 ·cases h:split sql with
  | none=>exact h0
  | some ws =>
   simp only
   split
   ·exact h0
   ·exact jQfi ws st0 rfl rfl
theorem jQnJ {db:List Tab}(h:good db)(sql:ByteArray):good (after db sql):=by
 unfold after Sq.decide
 split
 ·exact jQO h _
 ·exact jQrM h _ 163 (jQcE sql).1 (jQhE sql)
theorem jQqx (sql:ByteArray):okStm (parse sql).2:=by
 obtain⟨h1,h2⟩:=jQcE sql;have h3:=h1.few;exact⟨by omega,by omega,by omega,by omega,by omega,fun v hv=>(h1.vals v hv).ok,fun s hs=>⟨(h1.sets s hs).1.ok,(h1.sets s hs).2.ok⟩⟩
end Sq
namespace Sq
theorem jQfF:∀{a b:List Ent},srt a->srt b->(∀e,e∈a↔e∈b)->a=b
 | [],[],_,_,_=>rfl
 | [],y::b,_,_,h=>by have:=(h y).2 (by simp);simp at this
 | x::a,[],_,_,h=>by have:=(h x).1 (by simp);simp at this
 | x::a,y::b,ha,hb,h=>by
  have hf:=List.pairwise_cons.1 ha;have hc:=List.pairwise_cons.1 hb
  have hg:x=y:=by
   rcases List.mem_cons.1 ((h x).1 (by simp)) with h1 | h1
   ·exact h1
   ·rcases List.mem_cons.1 ((h y).2 (by simp)) with h2 | h2
    ·exact h2.symm
    ·have:=hc.1 x h1;have:=hf.1 y h2;omega
  subst hg
  have:a=b:=jQfF hf.2 hc.2 fun e=>by
   constructor
   ·intro he;rcases List.mem_cons.1 ((h e).1 (by simp[he])) with h1 | h1
    ·subst h1;have:=hf.1 e he;omega
    ·exact h1
   ·intro he;rcases List.mem_cons.1 ((h e).2 (by simp[he])) with h1 | h1
    ·subst h1;have:=hc.1 e he;omega
    ·exact h1
  rw[this]
theorem jQp1 {es:List Ent}{e x:Ent}:x∈ins es e↔x=e\/(x∈es/\x.place≠e.place):=by
 unfold ins;rw[List.mem_append,List.mem_cons,List.mem_filter,List.mem_filter];simp only[decide_eq_true_eq]
 constructor
 ·rintro(⟨h1,h2⟩ | h1 | ⟨h1,h2⟩)
  ·exact Or.inr ⟨h1,by omega⟩
  ·exact Or.inl h1
  ·exact Or.inr ⟨h1,by omega⟩
 ·rintro(h1 | ⟨h1,h2⟩)
  ·exact Or.inr (Or.inl h1)
  ·rcases Int.lt_or_gt_of_ne h2 with h3 | h3
   ·exact Or.inl ⟨h1,h3⟩
   ·exact Or.inr (Or.inr ⟨h1,h3⟩)
def tabEnt (i:Nat)(t:Tab):Ent:=⟨placeOf 0 i,ofTable t.name t.cols⟩
def rowEnt (i:Nat)(r:List Val):Ent:=⟨placeOf i (keyOf r),ofCells r⟩
def encTs:Nat->List Tab->List Ent
 | _,[]=>[]
 | i,t::q=>tabEnt i t::encTs (i+1) q
def encRs:Nat->List Tab->List Ent
 | _,[]=>[]
 | i,t::q=>t.rows.map (rowEnt i)++encRs (i+1) q
def encDB (db:List Tab):List Ent:=encTs 1 db++encRs 1 db
theorem jQcH {e:Ent}:∀{db:List Tab} {i:Nat},e∈encTs i db↔∃k t,db[k]?=some t/\e=tabEnt (i+k) t
 | [],i=>by simp[encTs]
 | t::q,i=>by
  rw[encTs,List.mem_cons,jQcH (db:=q)]
  constructor
  ·rintro(h | ⟨k,x,h1,h2⟩)
   ·exact⟨0,t,rfl,h⟩
   ·exact⟨k+1,x,by simpa using h1,by rw[h2];congr 1;omega⟩
  ·rintro⟨k,x,h1,h2⟩;cases k with
   | zero=>simp at h1;subst h1;exact Or.inl h2
   | succ k=>exact Or.inr ⟨k,x,by simpa using h1,by rw[h2];congr 1;omega⟩
theorem jQcI {e:Ent}:∀{db:List Tab} {i:Nat},e∈encRs i db↔∃k t r,db[k]?=some t/\r∈t.rows/\e=rowEnt (i+k) r
 | [],i=>by simp[encRs]
 | t::q,i=>by
  rw[encRs,List.mem_append,jQcI (db:=q),List.mem_map]
  constructor
  ·rintro(⟨r,h,h2⟩ | ⟨k,x,r,h1,h2,h3⟩)
   ·exact⟨0,t,r,rfl,h,h2.symm⟩
   ·exact⟨k+1,x,r,by simpa using h1,h2,by rw[h3];congr 1;omega⟩
  ·rintro⟨k,x,r,h1,h2,h3⟩;cases k with
   | zero=>simp at h1;subst h1;exact Or.inl ⟨r,h2,h3.symm⟩
   | succ k=>exact Or.inr ⟨k,x,r,by simpa using h1,h2,by rw[h3];congr 1;omega⟩
theorem jQaB {e:Ent}{db:List Tab}:e∈encDB db↔(∃k t,db[k]?=some t/\e=tabEnt (1+k) t)\/(∃k t r,db[k]?=some t/\r∈t.rows/\e=rowEnt (1+k) r):=by
 unfold encDB;rw[List.mem_append,jQcH,jQcI]
def keyOk (r:List Val):Prop:=-2147483648<=keyOf r/\keyOf r<=2147483647
theorem goodRow.key {r:List Val}(h:goodRow r):keyOk r:=by
 obtain⟨v,q,rfl,hk⟩:=h.head;rcases h.vals v (by simp) with⟨_,h1,h2,_⟩ | ⟨h1,_⟩
 ·exact⟨h1,h2⟩
 ·omega
structure laidDB (db:List Tab):Prop where
 few:db.length<=5
 sorted:∀t∈db,sorted t.rows
 keys:∀t∈db,∀r∈t.rows,keyOk r
theorem good.laid {db:List Tab}(h:good db):laidDB db:=⟨h.few,fun t ht=>(h.each t ht).sorted,fun t ht r hr=>((h.each t ht).rows r hr).key⟩
theorem jQgj:∀(db:List Tab) (i:Nat),i+db.length<=1000->srt (encTs i db)
 | [],_,_=>List.Pairwise.nil
 | t::q,i,hl=>by
  rw[List.length_cons] at hl;refine List.pairwise_cons.2 ⟨?_,jQgj q (i+1) (by omega)⟩;intro e he;obtain⟨k,x,h1,rfl⟩:=jQcH.1 he
  have:=(List.getElem?_eq_some_iff.1 h1).1
  show placeOf 0 _<placeOf 0 _;exact(jQc4 (by omega) (by omega) (by omega) (by omega)).2 (Or.inr ⟨rfl,by omega⟩)
theorem jQjH:∀(db:List Tab) (i:Nat),(∀t∈db,sorted t.rows)->(∀t∈db,∀r∈t.rows,keyOk r)->srt (encRs i db)
 | [],_,_,_=>List.Pairwise.nil
 | t::q,i,hs,hk=>by
  refine List.pairwise_append.2 ⟨?_,jQjH q (i+1) (fun x hx=>hs x (by simp[hx])) (fun x hx=>hk x (by simp[hx])),?_⟩
  ·rw[List.pairwise_map];have h1:=hs t (by simp);have h2:=hk t (by simp);unfold Sq.sorted at h1;refine List.Pairwise.imp_of_mem ?_ h1;intro a b ha hb hab;have ka:=h2 a ha;have kb:=h2 b hb;exact(jQc4 ka.1 ka.2 kb.1 kb.2).2 (Or.inr ⟨rfl,hab⟩)
  ·intro a ha b hb;obtain⟨r,hr,rfl⟩:=List.mem_map.1 ha;obtain⟨k,x,r',h1,h2,rfl⟩:=jQcI.1 hb;have ka:=hk t (by simp) r hr;have kb:=hk x (by simp[List.mem_of_getElem? h1]) r' h2;exact(jQc4 ka.1 ka.2 kb.1 kb.2).2 (Or.inl (by omega))
theorem jQaW {db:List Tab}(h:laidDB db):srt (encDB db):=by
 have hf:=h.few;refine List.pairwise_append.2 ⟨jQgj db 1 (by omega),jQjH db 1 h.sorted h.keys,?_⟩;intro a ha b hb;obtain⟨k,t,h1,rfl⟩:=jQcH.1 ha;obtain⟨j,x,r,h2,h3,rfl⟩:=jQcI.1 hb;have kb:=h.keys x (List.mem_of_getElem? h2) r h3
 have:=(List.getElem?_eq_some_iff.1 h1).1
 exact(jQc4 (by omega) (by omega) kb.1 kb.2).2 (Or.inl (by omega))
theorem jQkk:∀(db:List Tab) (i:Nat),(encTs i db).length=db.length
 | [],_=>rfl
 | t::q,i=>by rw[encTs,List.length_cons,jQkk q,List.length_cons]
theorem jQkl:∀(db:List Tab) (i:Nat),(encRs i db).length=rowsSum db
 | [],_=>rfl
 | t::q,i=>by rw[encRs,List.length_append,jQkl q];simp[rowsSum]
theorem jQkm (db:List Tab):(encDB db).length=dbSize db:=by
 unfold encDB dbSize;rw[List.length_append,jQkk,jQkl]
theorem jQq5 {db:List Tab}(h:laidDB db):(encDB db).filter (inside (placeOf 0 (-2147483648)) (placeOf 0 2147483647))=encTs 1 db:=by
 have hf:=h.few;refine jQfF (List.Pairwise.filter _ (jQaW h)) (jQgj db 1 (by omega)) fun e=>?_
 rw[List.mem_filter];unfold encDB;rw[List.mem_append]
 constructor
 ·rintro⟨h1 | h1,h2⟩
  ·exact h1
  ·obtain⟨k,t,r,g1,g2,rfl⟩:=jQcI.1 h1;have kb:=h.keys t (List.mem_of_getElem? g1) r g2;unfold inside at h2;simp only[Bool.and_eq_true,decide_eq_true_eq] at h2;have h3:placeOf 0 2147483647<(rowEnt (1+k) r).place:=(jQc4 (by omega) (by omega) kb.1 kb.2).2 (Or.inl (by omega));omega
 ·intro h1;refine⟨Or.inl h1,?_⟩;obtain⟨k,t,g1,rfl⟩:=jQcH.1 h1
  have:=(List.getElem?_eq_some_iff.1 g1).1
  unfold inside;simp only[Bool.and_eq_true,decide_eq_true_eq];unfold tabEnt placeOf;simp only;omega
theorem jQq6 {db:List Tab}(h:laidDB db){k:Nat}{t:Tab}(ht:db[k]?=some t){lo hi:Int}(h0:-2147483648<=lo)(h1:lo<=2147483647)(h2:-2147483648<=hi)(h3:hi<=2147483647) :
  (encDB db).filter (inside (placeOf ((1+k:Nat):Int) lo) (placeOf ((1+k:Nat):Int) hi))=(t.rows.filter fun r=>Decidable.decide (lo<=keyOf r)&&Decidable.decide (keyOf r<=hi)).map (rowEnt (1+k)):=by
 have hf:=h.few;have hc:=List.mem_of_getElem? ht;refine jQfF (List.Pairwise.filter _ (jQaW h)) ?_ fun e=>?_
 ·unfold srt;rw[List.pairwise_map];have h4:Sq.sorted (t.rows.filter fun r=>Decidable.decide (lo<=keyOf r)&&Decidable.decide (keyOf r<=hi)):=List.Pairwise.filter _ (h.sorted t hc);refine List.Pairwise.imp_of_mem ?_ h4;intro a b ha hb hab;have ka:=h.keys t hc a (List.mem_filter.1 ha).1;have kb:=h.keys t hc b (List.mem_filter.1 hb).1;exact(jQc4 ka.1 ka.2 kb.1 kb.2).2 (Or.inr ⟨rfl,hab⟩)
 ·rw[List.mem_filter,jQaB,List.mem_map];unfold inside;simp only[Bool.and_eq_true,decide_eq_true_eq]
  constructor
  ·rintro⟨⟨j,x,g1,rfl⟩ | ⟨j,x,r,g1,g2,rfl⟩,g3,g4⟩
   ·have:=(List.getElem?_eq_some_iff.1 g1).1
    unfold tabEnt placeOf at g3;simp only at g3;omega
   ·have kr:=h.keys x (List.mem_of_getElem? g1) r g2;unfold keyOk at kr
    have he:j=k:=by
     unfold rowEnt placeOf at g3 g4;simp only at g3 g4;omega
    subst he;rw[ht] at g1;simp at g1;subst g1;refine⟨r,?_,rfl⟩;rw[List.mem_filter];unfold rowEnt placeOf at g3 g4;simp only at g3 g4;simp only[Bool.and_eq_true,decide_eq_true_eq];exact⟨g2,by omega,by omega⟩
  ·rintro⟨r,hr,rfl⟩;rw[List.mem_filter] at hr;obtain⟨g1,g2⟩:=hr;simp only[Bool.and_eq_true,decide_eq_true_eq] at g2;refine⟨Or.inr ⟨k,t,r,ht,g1,rfl⟩,?_,?_⟩
   ·unfold rowEnt placeOf;simp only;omega
   ·unfold rowEnt placeOf;simp only;omega
theorem jQqP {db:List Tab}(h:laidDB db){k:Nat}{t:Tab}(ht:db[k]?=some t){key:Int}(h0:-2147483648<=key)(h1:key<=2147483647) :
  ((encDB db).any fun x=>x.place==placeOf ((1+k:Nat):Int) key)=hasKey t.rows key:=by
 have hf:=h.few;have hb:=List.mem_of_getElem? ht;unfold hasKey;rw[Bool.eq_iff_iff,List.any_eq_true,List.any_eq_true];simp only[beq_iff_eq]
 constructor
 ·rintro⟨e,he,g⟩;rcases jQaB.1 he with⟨j,x,g1,rfl⟩ | ⟨j,x,r,g1,g2,rfl⟩
  ·have:=(List.getElem?_eq_some_iff.1 g1).1
   unfold tabEnt placeOf at g;simp only at g;omega
  ·have kr:=h.keys x (List.mem_of_getElem? g1) r g2
   have:=(jQbj kr.1 kr.2 h0 h1).1 g
   have ha:j=k:=by omega
   subst ha;rw[ht] at g1;simp at g1;subst g1;exact⟨r,g2,this.2⟩
 ·rintro⟨r,hr,rfl⟩;exact⟨rowEnt (1+k) r,jQaB.2 (Or.inr ⟨k,t,r,ht,hr,rfl⟩),rfl⟩
theorem jQnc {row:List Val}{rows:List (List Val)}(hs:sorted rows){x:List Val}:x∈put row rows↔x=row\/(x∈rows/\keyOf x≠keyOf row):=by
 induction rows with
 | nil=>rw[put];simp
 | cons r q ih =>
  have h':=List.pairwise_cons.1 hs;rw[put]
  split
  ·rename_i hlt;rw[List.mem_cons,ih h'.2,List.mem_cons]
   constructor
   ·rintro(rfl | rfl | ⟨h1,h2⟩)
    ·exact Or.inr ⟨Or.inl rfl,by omega⟩
    ·exact Or.inl rfl
    ·exact Or.inr ⟨Or.inr h1,h2⟩
   ·rintro(rfl | ⟨rfl | h1,h2⟩)
    ·exact Or.inr (Or.inl rfl)
    ·exact Or.inl rfl
    ·exact Or.inr (Or.inr ⟨h1,h2⟩)
  ·rw[List.mem_cons]
   constructor
   ·rintro(rfl | h1)
    ·exact Or.inl rfl
    ·exact Or.inr (jQfX h1)
   ·rintro(rfl | ⟨h1,h2⟩)
    ·exact Or.inl rfl
    ·exact Or.inr (jQnd h1 h2)
theorem jQfj {db:List Tab}{k:Nat}{t:Tab}(ht:db[k]?=some t)(rows:List (List Val))(j:Nat):(setRows db k rows)[j]?=if j=k then some { t with rows:=rows } else db[j]?:=by
 obtain⟨hk,e⟩:=List.getElem?_eq_some_iff.1 ht;subst e;rw[jQaM db k hk,List.getElem?_set]
 by_cases hj:j=k
 ·subst hj;simp[hk]
 ·simp[hj];omega
theorem jQnp {db:List Tab}(h:laidDB db){k:Nat}{t:Tab}(ht:db[k]?=some t){rows:List (List Val)}(hs:sorted rows)(hk:∀r∈rows,keyOk r):laidDB (setRows db k rows):=by
 have hm:∀x∈setRows db k rows,x∈db\/x.rows=rows:=by
  intro x hx;obtain⟨j,hj⟩:=List.getElem?_of_mem hx;rw[jQfj ht] at hj
  split at hj
  ·simp at hj;rw[<-hj];exact Or.inr rfl
  ·exact Or.inl (List.mem_of_getElem? hj)
 refine⟨by rw[jQaz];exact h.few,fun x hx=>?_,fun x hx=>?_⟩
 ·rcases hm x hx with h1 | h1
  ·exact h.sorted x h1
  ·rw[h1];exact hs
 ·rcases hm x hx with h1 | h1
  ·exact h.keys x h1
  ·rw[h1];exact hk
theorem jQp0 {db:List Tab}{k:Nat}{t:Tab}(ht:db[k]?=some t){rows:List (List Val)}{e:Ent}:e∈encDB (setRows db k rows)↔(∃j x,db[j]?=some x/\e=tabEnt (1+j) x)\/(∃j x r,j≠k/\db[j]?=some x/\r∈x.rows/\e=rowEnt (1+j) r)\/(∃r∈rows,e=rowEnt (1+k) r):=by
 rw[jQaB]
 constructor
 ·rintro(⟨j,x,h1,rfl⟩ | ⟨j,x,r,h1,h2,rfl⟩)
  ·rw[jQfj ht] at h1
   split at h1
   ·rename_i hj;subst hj;simp at h1;subst h1;exact Or.inl ⟨j,t,ht,rfl⟩
   ·exact Or.inl ⟨j,x,h1,rfl⟩
  ·rw[jQfj ht] at h1
   split at h1
   ·rename_i hj;subst hj;simp at h1;subst h1;exact Or.inr (Or.inr ⟨r,h2,rfl⟩)
   ·rename_i hj;exact Or.inr (Or.inl ⟨j,x,r,hj,h1,h2,rfl⟩)
 ·rintro(⟨j,x,h1,rfl⟩ | ⟨j,x,r,hj,h1,h2,rfl⟩ | ⟨r,hr,rfl⟩)
  ·by_cases hj:j=k
   ·subst hj;rw[ht] at h1;simp at h1;subst h1;exact Or.inl ⟨j,_,(jQfj ht rows j).trans (if_pos rfl),rfl⟩
   ·exact Or.inl ⟨j,x,((jQfj ht rows j).trans (if_neg hj)).trans h1,rfl⟩
  ·exact Or.inr ⟨j,x,r,((jQfj ht rows j).trans (if_neg hj)).trans h1,h2,rfl⟩
  ·exact Or.inr ⟨k,_,r,(jQfj ht rows k).trans (if_pos rfl),hr,rfl⟩
theorem jQrQ {db:List Tab}(h:laidDB db){k:Nat}{t:Tab}(ht:db[k]?=some t){row:List Val}(hr:keyOk row):ins (encDB db) (rowEnt (1+k) row)=encDB (setRows db k (put row t.rows))/\laidDB (setRows db k (put row t.rows)):=by
 have hb:=List.mem_of_getElem? ht;have ha:=h.sorted t hb;have hf:=h.few
 have hl:laidDB (setRows db k (put row t.rows)):=jQnp h ht (jQep ha) fun r hq=>by
  rcases jQjP hq with rfl | hq
  ·exact hr
  ·exact h.keys t hb r hq
 refine⟨jQfF (jQme (jQaW h) _) (jQaW hl) fun e=>?_,hl⟩;rw[jQp1,jQp0 ht,jQaB]
 constructor
 ·rintro(rfl | ⟨⟨j,x,h1,rfl⟩ | ⟨j,x,r,h1,h2,rfl⟩,hp⟩)
  ·exact Or.inr (Or.inr ⟨row,(jQnc ha).2 (Or.inl rfl),rfl⟩)
  ·exact Or.inl ⟨j,x,h1,rfl⟩
  ·by_cases hj:j=k
   ·subst hj;rw[ht] at h1;simp at h1;subst h1;refine Or.inr (Or.inr ⟨r,(jQnc ha).2 (Or.inr ⟨h2,fun hkk=>hp ?_⟩),rfl⟩);show placeOf _ _=placeOf _ _;rw[hkk]
   ·exact Or.inr (Or.inl ⟨j,x,r,hj,h1,h2,rfl⟩)
 ·rintro(⟨j,x,h1,rfl⟩ | ⟨j,x,r,hj,h1,h2,rfl⟩ | ⟨r,hq,rfl⟩)
  ·refine Or.inr ⟨Or.inl ⟨j,x,h1,rfl⟩,fun hp=>?_⟩
   have:=(List.getElem?_eq_some_iff.1 h1).1
   unfold tabEnt rowEnt at hp;simp only at hp
   have:=(jQbj (by omega) (by omega) hr.1 hr.2).1 hp
   omega
  ·refine Or.inr ⟨Or.inr ⟨j,x,r,h1,h2,rfl⟩,fun hp=>?_⟩;have kr:=h.keys x (List.mem_of_getElem? h1) r h2
   have:=(jQbj kr.1 kr.2 hr.1 hr.2).1 hp
   omega
  ·rcases(jQnc ha).1 hq with rfl | ⟨h1,h2⟩
   ·exact Or.inl rfl
   ·refine Or.inr ⟨Or.inr ⟨k,t,r,ht,h1,rfl⟩,fun hp=>h2 ?_⟩;have kr:=h.keys t hb r h1;exact((jQbj kr.1 kr.2 hr.1 hr.2).1 hp).2
theorem jQrR {db:List Tab}(h:laidDB db){k:Nat}{t:Tab}(ht:db[k]?=some t){key:Int}(h0:-2147483648<=key)(h1:key<=2147483647):(encDB db).filter (fun y=>y.place != placeOf ((1+k:Nat):Int) key)=encDB (setRows db k (cutRows key t.rows))/\laidDB (setRows db k (cutRows key t.rows)):=by
 have ha:=List.mem_of_getElem? ht;have hb:=h.sorted t ha;have hf:=h.few;have hl:laidDB (setRows db k (cutRows key t.rows)):=jQnp h ht (jQeZ hb) fun r hq=>h.keys t ha r (jQfX hq).1
 refine⟨jQfF (List.Pairwise.filter _ (jQaW h)) (jQaW hl) fun e=>?_,hl⟩;rw[List.mem_filter,jQp0 ht,jQaB];simp only[bne_iff_ne,ne_eq]
 constructor
 ·rintro⟨⟨j,x,g1,rfl⟩ | ⟨j,x,r,g1,g2,rfl⟩,hp⟩
  ·exact Or.inl ⟨j,x,g1,rfl⟩
  ·by_cases hj:j=k
   ·subst hj;rw[ht] at g1;simp at g1;subst g1;refine Or.inr (Or.inr ⟨r,jQnd g2 fun hkk=>hp ?_,rfl⟩);show placeOf _ _=placeOf _ _;rw[hkk]
   ·exact Or.inr (Or.inl ⟨j,x,r,hj,g1,g2,rfl⟩)
 ·rintro(⟨j,x,g1,rfl⟩ | ⟨j,x,r,hj,g1,g2,rfl⟩ | ⟨r,hq,rfl⟩)
  ·refine⟨Or.inl ⟨j,x,g1,rfl⟩,fun hp=>?_⟩
   have:=(List.getElem?_eq_some_iff.1 g1).1
   unfold tabEnt at hp;simp only at hp
   have:=(jQbj (by omega) (by omega) h0 h1).1 hp
   omega
  ·refine⟨Or.inr ⟨j,x,r,g1,g2,rfl⟩,fun hp=>?_⟩;have kr:=h.keys x (List.mem_of_getElem? g1) r g2
   have:=(jQbj kr.1 kr.2 h0 h1).1 hp
   omega
  ·obtain⟨g1,g2⟩:=jQfX hq;refine⟨Or.inr ⟨k,t,r,ht,g1,rfl⟩,fun hp=>g2 ?_⟩;have kr:=h.keys t ha r g1;exact((jQbj kr.1 kr.2 h0 h1).1 hp).2
theorem jQqU {db:List Tab}(h:laidDB db)(hl:db.length<5)(name:ByteArray)(cols:List Col):ins (encDB db) ⟨placeOf 0 ((db.length:Int)+1),ofTable name cols⟩=encDB (db++[⟨name,cols,[]⟩])/\laidDB (db++[⟨name,cols,[]⟩]):=by
 have hb:laidDB (db++[⟨name,cols,[]⟩]):=by
  refine⟨by simp;omega,fun x hx=>?_,fun x hx=>?_⟩
  ·rcases List.mem_append.1 hx with hx | hx
   ·exact h.sorted x hx
   ·simp at hx;subst hx;exact List.Pairwise.nil
  ·rcases List.mem_append.1 hx with hx | hx
   ·exact h.keys x hx
   ·simp at hx;subst hx;intro r hr;simp at hr
 have ha:∀j x,(db++[⟨name,cols,[]⟩])[j]?=some x↔db[j]?=some x\/(j=db.length/\x=⟨name,cols,[]⟩):=by
  intro j x;rw[List.getElem?_append]
  split
  ·rename_i hj
   constructor
   ·intro g;exact Or.inl g
   ·rintro(g | ⟨g,_⟩)
    ·exact g
    ·omega
  ·rename_i hj;rw[List.getElem?_eq_none (by omega:db.length<=j)];rcases Nat.lt_or_ge db.length j with g | g
   ·rw[List.getElem?_eq_none (by simp;omega)]
    constructor
    ·intro q;cases q
    ·rintro(q | ⟨q,_⟩)
     ·cases q
     ·omega
   ·have:j=db.length:=by omega
    subst this;simp[eq_comm]
 have e0:(⟨placeOf 0 ((db.length:Int)+1),ofTable name cols⟩:Ent)=tabEnt (1+db.length) ⟨name,cols,[]⟩:=by
  unfold tabEnt;rw[show((1+db.length:Nat):Int)=(db.length:Int)+1 by omega]
 rw[e0];refine⟨jQfF (jQme (jQaW h) _) (jQaW hb) fun e=>?_,hb⟩;rw[jQp1,jQaB,jQaB]
 constructor
 ·rintro(rfl | ⟨⟨j,x,g1,rfl⟩ | ⟨j,x,r,g1,g2,rfl⟩,hp⟩)
  ·exact Or.inl ⟨db.length,_,(ha _ _).2 (Or.inr ⟨rfl,rfl⟩),rfl⟩
  ·exact Or.inl ⟨j,x,(ha _ _).2 (Or.inl g1),rfl⟩
  ·exact Or.inr ⟨j,x,r,(ha _ _).2 (Or.inl g1),g2,rfl⟩
 ·rintro(⟨j,x,g1,rfl⟩ | ⟨j,x,r,g1,g2,rfl⟩)
  ·rcases(ha _ _).1 g1 with g1 | ⟨rfl,rfl⟩
   ·refine Or.inr ⟨Or.inl ⟨j,x,g1,rfl⟩,fun hp=>?_⟩
    have:=(List.getElem?_eq_some_iff.1 g1).1
    unfold tabEnt at hp;simp only at hp
    have:=(jQbj (by omega) (by omega) (by omega) (by omega)).1 hp
    omega
   ·exact Or.inl rfl
  ·rcases(ha _ _).1 g1 with g1 | ⟨rfl,rfl⟩
   ·refine Or.inr ⟨Or.inr ⟨j,x,r,g1,g2,rfl⟩,fun hp=>?_⟩;have kr:=h.keys x (List.mem_of_getElem? g1) r g2;unfold tabEnt rowEnt at hp;simp only at hp
    have:=(jQbj kr.1 kr.2 (by omega) (by omega)).1 hp
    omega
   ·simp at g2
end Sq
namespace Sq
def okNmW (x:Word):Prop:=x.kind=2->okNm x.text
theorem jQoz (s:ByteArray)(h:1<=s.size):okNmW (wordOf s):=by
 intro hk;unfold wordOf at hk ⊢
 split
 ·rename_i h1;rw[if_pos h1] at hk;simp at hk
 ·rename_i h1;rw[if_neg h1] at hk
  split
  ·rename_i h2;rw[if_pos h2] at hk;unfold bounded at hk ⊢
   split
   ·rename_i h3;exact⟨h,h3⟩
   ·rename_i h3;rw[if_neg h3] at hk;simp at hk
  ·rename_i h2;rw[if_neg h2] at hk
   split
   ·rename_i h3;rw[if_pos h3] at hk;rcases jQX 3 s 9 with h4 | h4<;>rw[h4] at hk<;>simp at hk
   ·rename_i h3;rw[if_neg h3] at hk
    split
    ·rename_i h4;rw[if_pos h4] at hk;rcases jQX 4 (s.extract 1 (s.size-1)) 12 with h5 | h5<;>rw[h5] at hk<;>simp at hk
    ·rename_i h4;rw[if_neg h4] at hk;simp at hk
theorem jQiE (s:ByteArray):∀f a ws,splitFrom s f a=some ws->∀x∈ws,okNmW x:=by
 intro f
 induction f with
 | zero=>intro a ws h;simp[splitFrom] at h;subst h;simp
 | succ f ih =>
  intro a ws h;rw[splitFrom] at h
  split at h
  ·split at h
   ·exact ih _ _ h
   ·split at h
    ·simp at h
    ·rename_i he
     split at h
     ·simp at h
     ·cases h2:splitFrom s f (endOf s a) with
      | none=>rw[h2] at h;simp at h
      | some l =>
       rw[h2] at h;simp at h;subst h;intro x hx;rcases List.mem_cons.1 hx with rfl | hx
       ·exact jQoz _ (by rw[ByteArray.size_extract];omega)
       ·exact ih _ _ h2 x hx
  ·simp at h;subst h;simp
theorem jQqH (ws:List Word)(st:PSt)(h:∀x∈ws,okNmW x):okNmW (nextW ws st):=by
 unfold nextW
 split
 ·intro hk;simp[word0] at hk
 ·cases h2:ws[st.pos]? with
  | none=>intro hk;simp[word0] at hk
  | some x=>exact h x (List.mem_of_getElem? h2)
theorem jQq8 (ws:List Word)(a:PSt)(h:a.bad=true):(takeS ws a).bad=true:=by unfold takeS;split<;>first | rfl | exact h
theorem jQok (ws:List Word)(a:PSt)(m:ByteArray)(h:a.bad=true):(acceptS ws a m).bad=true:=by unfold acceptS;split<;>exact h
theorem jQgY (ws:List Word)(a:PSt)(m:ByteArray)(h:a.bad=true):(wantS ws a m).bad=true:=by unfold wantS;split<;>first | rfl | exact h
theorem jQoi (ws:List Word)(a:PSt)(h:a.bad=true):(nameS ws a).bad=true:=by unfold nameS;split<;>first | rfl | exact jQq8 ws a h
theorem jQoj (ws:List Word)(a:PSt)(h:a.bad=true):(kindS ws a).bad=true:=by unfold kindS;split;exact jQok ws a _ h;exact jQgY ws a _ h
theorem jQiR (ws:List Word)(a:PSt)(hw:∀x∈ws,okNmW x):(nameS ws a).bad=true\/okNm (nameR ws a):=by
 unfold nameS nameR
 split
 ·rename_i h;exact Or.inr (jQqH ws a hw (by simpa using h))
 ·exact Or.inl rfl
def okMake (st:PSt):Prop:=st.bad=true\/(okNm st.table/\∀c∈st.cols,okNm c.name/\okKind c.kind)
theorem okMake.next {a b:PSt}(h:okMake a)(hb:a.bad=true->b.bad=true)(ht:b.table=a.table)(hc:b.cols=a.cols):okMake b:=by
 rcases h with h | ⟨h1,h2⟩
 ·exact Or.inl (hb h)
 ·exact Or.inr ⟨by rw[ht];exact h1,by rw[hc];exact h2⟩
theorem okMake.want {a:PSt}(h:okMake a)(ws:List Word)(m:ByteArray):okMake (wantS ws a m):=h.next (jQgY ws a m) (jQZ ws a m).table (jQZ ws a m).cols
theorem okMake.col {a b:PSt}(h:okMake a)(hb:a.bad=true->b.bad=true)(ht:b.table=a.table)(hc:b.cols=a.cols){c:Col}(hcol:b.bad=true\/(okNm c.name/\okKind c.kind)):okMake (addCol b c):=by
 rcases h.next hb ht hc with h1 | ⟨h1,h2⟩
 ·exact Or.inl h1
 ·rcases hcol with h3 | h3
  ·exact Or.inl h3
  ·refine Or.inr ⟨h1,fun x hx=>?_⟩;rcases List.mem_append.1 hx with hx | hx
   ·exact h2 x hx
   ·simp at hx;subst hx;exact h3
theorem jQqM (ws:List Word)(st:PSt):okKind (kindR ws st):=by
 unfold kindR
 split
 ·exact Or.inr rfl
 ·exact Or.inl rfl
theorem jQpE (ws:List Word)(hw:∀x∈ws,okNmW x)(st:PSt)(h:okMake st):okMake (colS ws st):=by
 unfold colS;refine h.col (fun hb=>jQoj ws _ (jQoi ws st hb)) ?_ ?_ ?_
 ·exact((jQ6 ws st).trans (jQeI ws _)).table
 ·exact((jQ6 ws st).trans (jQeI ws _)).cols
 ·rcases jQiR ws st hw with h1 | h1
  ·exact Or.inl (jQoj ws _ h1)
  ·exact Or.inr ⟨h1,jQqM ws _⟩
theorem jQi6 (ws:List Word)(hw:∀x∈ws,okNmW x)(st:PSt)(hc:st.cols=[]):okMake (createS ws st):=by
 unfold createS;simp only
 have h1:okMake (tableS ws (wantS ws (setAct st 1) bTable)):=by
  rcases jQiR ws (wantS ws (setAct st 1) bTable) hw with h | h
  ·exact Or.inl h
  ·refine Or.inr ⟨h,?_⟩;rw[jQc1,jQa3];show ∀c∈st.cols,_;rw[hc];simp
 have h2:=h1.want ws bOpen;refine okMake.want ?_ ws bClose;refine jQaq ws (colS ws) okMake (fun s hs=>jQpE ws hw _ (hs.next (fun h=>h) rfl rfl)) _ _ ?_;refine h2.col (fun hb=>jQgY ws _ _ (jQoi ws _ hb)) ?_ ?_ ?_
 ·exact((jQ6 ws _).trans (jQZ ws _ _)).table
 ·exact((jQ6 ws _).trans (jQZ ws _ _)).cols
 ·rcases jQiR ws (wantS ws (tableS ws (wantS ws (setAct st 1) bTable)) bOpen) hw with h3 | h3
  ·exact Or.inl (jQgY ws _ _ h3)
  ·exact Or.inr ⟨h3,Or.inl rfl⟩
theorem jQlc (ws:List Word)(st:PSt):(insertS ws st).act=2:=by
 unfold insertS;simp only;rw[jQ4];refine jQaq ws (valueS ws) (fun st=>st.act=2) (fun s hs=>((jQbX ws (step1 s)).act).trans hs) _ _ ?_;refine((jQbX ws _).act).trans ?_;rw[jQ4,jQ4,jQaL,jQ4];rfl
theorem jQkI (ws:List Word)(st:PSt):(updateS ws st).act=3:=by
 unfold updateS;simp only;rw[(jQab ws _).act];refine jQaq ws (asgS ws) (fun st=>st.act=3) (fun s hs=>(jQg0 ws (step1 s)).trans hs) _ _ ?_;rw[jQg0,jQ4,jQaL];rfl
theorem jQlm (ws:List Word)(st:PSt):(deleteS ws st).act=4:=by
 unfold deleteS;rw[(jQab ws _).act,jQaL,jQ4];rfl
theorem jQfh (ws:List Word)(hw:∀x∈ws,okNmW x)(st:PSt)(h0:st.act=0)(hc:st.cols=[])(ha:(statementS ws st).act=1):okMake (statementS ws st):=by
 unfold statementS at ha ⊢
 split
 ·exact jQi6 ws hw _ (by rw[jQcz];exact hc)
 ·rename_i h1;rw[if_neg h1] at ha
  split
  ·rename_i h2;rw[if_pos h2,jQlc] at ha;simp at ha
  ·rename_i h2;rw[if_neg h2] at ha
   split
   ·rename_i h3;rw[if_pos h3,jQkI] at ha;simp at ha
   ·rename_i h3;rw[if_neg h3] at ha
    split
    ·rename_i h4;rw[if_pos h4,jQlm] at ha;simp at ha
    ·rename_i h4;rw[if_neg h4] at ha
     split
     ·rename_i h5;rw[if_pos h5,jQlq] at ha;simp at ha
     ·exact Or.inl rfl
theorem jQmQ (sql:ByteArray)(h:(parse sql).1=0)(ha:(parse sql).2.act=1):okNm (parse sql).2.table/\∀c∈(parse sql).2.cols,okNm c.name/\okKind c.kind:=by
 unfold parse at h ha ⊢
 split
 ·rename_i h1;rw[if_pos h1] at h;simp at h
 ·rename_i h1;rw[if_neg h1] at h ha;cases hs:split sql with
  | none=>rw[hs] at h;simp at h
  | some ws =>
   rw[hs] at h ha;simp only at h ha ⊢
   split
   ·rename_i h2;rw[if_pos h2] at h;simp at h
   ·rename_i h2;rw[if_neg h2] at ha;rcases jQfh ws (jQiE sql _ _ ws hs) st0 rfl rfl ha with h3 | h3
    ·rw[h3] at h2;simp at h2
    ·exact h3
def okWh (l:List StepS):Prop:=∀s∈l,goodVal s.left.lit/\goodVal s.right.lit
theorem okWh.add {st:PSt}(h:okWh st.wher){s:StepS}(hs:goodVal s.left.lit/\goodVal s.right.lit):okWh (addStep st s).wher:=by
 intro x hx;rcases List.mem_append.1 hx with hx | hx
 ·exact h x hx
 ·simp at hx;subst hx;exact hs
theorem jQrS (ws:List Word)(hw:∀x∈ws,okWord x):∀f t st,okWh st.wher->okWh (cond ws f t st).wher:=by
 intro f
 induction f with
 | zero=>intro t st h;exact h
 | succ f ih =>
  intro t st h;have ha:∀m,goodVal (opStep m).left.lit/\goodVal (opStep m).right.lit:=fun m=>⟨goodVal0,goodVal0⟩
  match t with
  | 0=>rw[cond];exact ih _ _ (ih _ _ h)
  | 1=>rw[cond];exact ih _ _ (ih _ _ h)
  | 2 =>
   rw[cond]
   split
   ·exact okWh.add (ih _ (step1 st) h) (ha _)
   ·split
    ·rw[jQo];exact ih _ (step1 st) h
    ·unfold compS;refine okWh.add ?_ ⟨jQbA ws _ hw,jQbA ws _ hw⟩;rw[jQ8,jQe1];exact h
  | 3 =>
   rw[cond]
   split
   ·exact ih _ _ (okWh.add (ih _ (step1 st) h) (ha _))
   ·exact h
  | t+4 =>
   rw[cond]
   split
   ·exact ih _ _ (okWh.add (ih _ (step1 st) h) (ha _))
   ·exact h
theorem jQf8 (ws:List Word)(hw:∀x∈ws,okWord x)(st:PSt)(h:st.wher=[]):okWh (whereS ws st).wher:=by
 unfold whereS
 split
 ·exact jQrS ws hw _ _ _ (by show okWh st.wher;rw[h];intro x hx;simp at hx)
 ·rw[h];intro x hx;simp at hx
theorem jQfN {st:PSt}(h:st.wher=[]):okWh st.wher:=by rw[h];intro x hx;simp at hx
theorem jQhm (ws:List Word)(hw:∀x∈ws,okWord x)(st:PSt)(h:st.wher=[]):okWh (statementS ws st).wher:=by
 unfold statementS;have ht:(takeS ws st).wher=[]:=by rw[jQam];exact h
 split
 ·refine jQfN ?_;unfold createS;simp only;rw[jQo,jQak ws _ (jQkv ws)]
  show(wantS ws _ _).wher=[]
  rw[jQo,jQa8,jQo,jQz,jQo];exact ht
 ·split
  ·refine jQfN ?_;unfold insertS;simp only;rw[jQo,jQak ws _ (jQaD ws),jQaD,jQo,jQo,jQz,jQo];exact ht
  ·split
   ·unfold updateS;simp only;refine jQf8 ws hw _ ?_;rw[jQak ws _ (jQb6 ws),jQb6,jQo,jQz];exact ht
   ·split
    ·unfold deleteS;refine jQf8 ws hw _ ?_;rw[jQz,jQo];exact ht
    ·split
     ·unfold chooseS;refine jQf8 ws hw _ ?_;rw[jQz,jQo,jQe2];exact ht
     ·exact jQfN ht
theorem jQmP (sql:ByteArray):okWh (parse sql).2.wher:=by
 unfold parse
 split
 ·exact jQfN rfl
 ·cases hs:split sql with
  | none=>exact jQfN rfl
  | some ws =>
   simp only
   split
   ·exact jQfN rfl
   ·exact jQhm ws (jQmg sql ws hs).1 st0 rfl
def okSp (s:Span):Prop:=s.lo<=s.hi->-2147483648<=s.lo/\s.hi<=2147483647
def okSd (s:Sides):Prop:=okSp s.yes/\okSp s.no
theorem jQev:okSp allKeys:=fun _=>⟨Int.le_refl _,Int.le_refl _⟩
theorem jQjV {a b:Span}(ha:okSp a)(hb:okSp b):okSp (bothS a b):=by
 unfold okSp at *;intro h
 by_cases h1:a.lo<b.lo<;>by_cases h2:b.hi<a.hi<;>simp only[bothS,h1,h2,if_true,if_false] at h ⊢ <;> omega
theorem jQfM {a b:Span}(ha:okSp a)(hb:okSp b):okSp (eitherS a b):=by
 unfold eitherS hasKeys
 split
 ·rename_i h1
  split
  ·rename_i h2;simp only[decide_eq_true_eq] at h1 h2;have h3:=ha h1;have h4:=hb h2;intro h;simp only
   constructor
   ·split<;>omega
   ·split<;>omega
  ·exact ha
 ·exact hb
theorem jQdM (op:ByteArray){n:Int}(h0:-2147483648<=n)(h1:n<=2147483647):okSp (keysThat op n):=by
 unfold keysThat okSp
 repeat' split
 all_goals(first | (simp only;omega) | exact jQev)
theorem jQiM {l:List Sides}(h:∀s∈l,okSd s):okSd (popV l):=by
 unfold popV;cases hl:l.getLast? with
 | none=>exact⟨jQev,jQev⟩
 | some s=>exact h s (List.mem_of_getLast? hl)
theorem jQdN {l:List Sides}(h:∀s∈l,okSd s):∀s∈l.dropLast,okSd s:=fun s hs=>h s (List.dropLast_subset l hs)
theorem jQgw {l:List Sides}(h:∀s∈l,okSd s){x:Sides}(hx:okSd x):∀s∈l++[x],okSd s:=by
 intro s hs;rcases List.mem_append.1 hs with hs | hs
 ·exact h s hs
 ·simp at hs;subst hs;exact hx
theorem jQo7 {l:List Sides}(h:∀s∈l,okSd s)(op:ByteArray):∀s∈joinV l op,okSd s:=by
 have h1:=jQiM h;have h2:=jQiM (jQdN h);have h3:=jQdN h;unfold joinV
 split
 ·exact jQgw h3 ⟨h1.2,h1.1⟩
 ·split
  ·exact jQgw (jQdN h3) ⟨jQjV h2.1 h1.1,jQfM h2.2 h1.2⟩
  ·exact jQgw (jQdN h3) ⟨jQfM h2.1 h1.1,jQjV h2.2 h1.2⟩
theorem jQi0 {v:Val}(h:goodVal v):-2147483648<=v.number/\v.number<=2147483647:=by
 rcases h with⟨_,h1,h2,_⟩ | ⟨_,h1,_⟩
 ·exact⟨h1,h2⟩
 ·omega
theorem jQmV (cols:List Col){s:StepS}(h:goodVal s.left.lit/\goodVal s.right.lit):okSd (sidesOf cols s):=by
 have h1:=jQi0 h.1;have h2:=jQi0 h.2;unfold sidesOf
 split
 ·exact⟨jQdM _ h2.1 h2.2,jQdM _ h2.1 h2.2⟩
 ·split
  ·exact⟨jQdM _ h1.1 h1.2,jQdM _ h1.1 h1.2⟩
  ·exact⟨jQev,jQev⟩
theorem jQjU (cols:List Col){wher:List StepS}(h:okWh wher):okSp (spanOf cols wher):=by
 have:∀(w:List StepS) (l:List Sides),okWh w->(∀s∈l,okSd s)->∀s∈w.foldl (stepV cols) l,okSd s:=by
  intro w
  induction w with
  | nil=>intro l _ hl;exact hl
  | cons x q ih =>
   intro l hw hl;rw[List.foldl_cons];refine ih _ (fun s hs=>hw s (by simp[hs])) ?_;unfold stepV
   split
   ·exact jQgw hl (jQmV cols (hw x (by simp)))
   ·exact jQo7 hl _
 exact(jQiM (this wher [] h (by simp))).1
end Sq
section
open Go.RowKit
variable {Z:Nat->Prop}
theorem jQkQ (K:Int)(hK:K<=99999)(X:NTree)(ev cv:Value)(t:TabN)(tv sv:Value)(wher:List StepS)(tb:Nat)(tr:Trl)(w:World)(h:NodeAt Z w X.d X.t ev cv)(hf:tameN K X.d X.t)(hc:Sq.countN X.d X.t<=900)(ht:TrAt tb w tr)(hr:TameR K tr)
  (hn0:0<=t.number) (hn1:t.number<=100000) (htc:ColsAt w tv t.cols) (htl:t.cols.length<=1000) (hs:StepsAt w sv wher) (hsl:wher.length<=50000) (hok:∀s∈wher,okSt s) (hsp:Sq.okSp (Sq.spanOf t.cols wher)) :
  Calls Tryz.prog 75 #[.agg (headCells X.head ev cv).toArray,.agg #[.int .i64 t.number,.string t.name,tv],sv,.pointer (some ⟨tb,0,none⟩)] w (RowsSays tb (Sq.spannedR X t wher tr) w):=by
 obtain⟨⟨e1,e2,e3,hev⟩,c1,c2,c3,hcv⟩:=h.slices;subst hev hcv;obtain⟨to',tcap,rfl⟩:=jQa htc.1;obtain⟨so,scap,rfl⟩:=jQa hs.1;have hy:=ht.lt
 have HR:Hid (Sq.hasKeys (Sq.spanOf t.cols wher)=true->∀w',Below w.heap.size w w'->Calls Tryz.prog 118 #[.agg (headCells X.head (.slice e1 e2 e3) (.slice c1 c2 c3)).toArray,.agg #[.int .i64 t.number,.string t.name,.slice to' t.cols.length tcap],.int .i64 (Sq.spanOf t.cols wher).lo,.int .i64 (Sq.spanOf t.cols wher).hi,.pointer (some ⟨tb,0,none⟩)] w' (RowsSays tb (Sq.spannedR X t wher tr) w')):=fun hk w' hb=>by
  have e:Sq.spannedR X t wher tr=Sq.rowsR X t (Sq.spanOf t.cols wher).lo (Sq.spanOf t.cols wher).hi tr:=by unfold Sq.spannedR;rw[hk];rfl
  rw[e];have hv:(Sq.spanOf t.cols wher).lo<=(Sq.spanOf t.cols wher).hi:=by simpa[Sq.hasKeys] using hk
  have hl:=hsp hv;exact jQrf K hK X _ _ t _ _ _ tb tr w' (h.below hb) hf hc (ht.below hb) hr hn0 hn1 hl.1 (by omega) (by omega) (by omega) (htc.below hb) htl
 have HN:Hid (Sq.hasKeys (Sq.spanOf t.cols wher)=false->Sq.spannedR X t wher tr=([],tr)):=fun hk=>by unfold Sq.spannedR;rw[hk];rfl
 have hm:Hid (∀w',Below w.heap.size w w'->Calls Tryz.prog 116 #[.slice to' t.cols.length tcap,.slice so wher.length scap] w' fun e w''=>e=.returned (.agg (spanCells (Sq.spanOf t.cols wher)))/\Below w'.heap.size w' w''):=fun w' hb=>jQmj t.cols wher _ _ w' (htc.below hb) (hs.below hb) hsl hok
 have hR:=HR.o;have hN:=HN.o;have hS:=hm.o;obtain⟨Y,hY⟩:∃Y,Y=Sq.spannedR X t wher tr:=⟨_,rfl⟩;obtain⟨hh,hhe⟩:∃x,x=X.head:=⟨_,rfl⟩;obtain⟨sp,hspe⟩:∃x,x=Sq.spanOf t.cols wher:=⟨_,rfl⟩;rw[<-hY,<-hspe] at hR hN;rw[<-hspe] at hS;rw[<-hhe] at hR;rw[<-hY,<-hhe];rw[jQc] at hR ⊢;have HT:=hd ht;obtain⟨tn,tnm,cols⟩:=t;obtain⟨sl,sh⟩:=sp;simp only at hR hS hN ⊢;have hq:=hd hR;have hw:=hd hN;have hx:=hd hS;clear h hf hc ht hr htc hs hok hsp HR HN hm hR hN hS hY hhe hspe;obtain⟨W,hW,hbW,k0,k1⟩:=jQcp w (.cells #[.bool hh.inner,.slice e1 e2 e3,.slice c1 c2 c3,.int .i64 hh.least,.int .i64 hh.rows,.string hh.sl,.int .i64 hh.num] 91) (.cells #[.int .i64 tn,.string tnm,.slice to' cols.length tcap] 94);have a2:W.cell? ⟨w.heap.size+1,2,none⟩=some (.slice to' cols.length tcap):=by rw[jQb k1];rfl
 have hn:=jQf k0;have hg:=jQf k1;have HW:=hd hbW;have K0:=hd k0;have K1:=hd k1;clear hbW k0 k1;go_enter Tryz.func75,Tryz.ntmps75;go_wp2_with fail;rw[<-hW];clear hW;refine(hx.o W HW.o).mono ?_;rintro e w1 ⟨rfl,hb1⟩;unfold spanCells;simp only;obtain⟨V,hV⟩:∃V,V=w1.alloc (.cells #[.int .i64 sl,.int .i64 sh] 174):=⟨_,rfl⟩;have hp:Below w1.heap.size w1 V:=by rw[hV];exact(bR).alloc (nR) _
 have kV:V.heap[w1.heap.size]?=some (.cells #[.int .i64 sl,.int .i64 sh] 174):=by rw[hV];exact jQi _ _
 have he:=hb1.trans (hp.mono hb1.size);have hA:=hb1.size;have ho:=hd he;have KV:=hd kV;have hu:=jQf kV;clear hb1 hp kV he a2;go_wp2_with fail;rw[<-hV];clear hV;refine(jQda ⟨sl,sh⟩ V).mono ?_;rintro e w2 ⟨rfl,hb2⟩;have ha:=ho.o.trans (hb2.mono ho.o.size);obtain⟨s0,s1,s2,s3,s4,s5,s6⟩:=jQs ((ha.block _ hn).trans K0.o);have t0:w2.cell? ⟨w.heap.size+1,0,none⟩=some (.int .i64 tn):=by rw[jQb ((ha.block _ hg).trans K1.o)];rfl
 have t1:w2.cell? ⟨w.heap.size+1,1,none⟩=some (.string tnm):=by rw[jQb ((ha.block _ hg).trans K1.o)];rfl
 have t2:w2.cell? ⟨w.heap.size+1,2,none⟩=some (.slice to' cols.length tcap):=by rw[jQb ((ha.block _ hg).trans K1.o)];rfl
 obtain⟨v0,v1,-,-,v4⟩:=jQaw ((hb2.block _ hu).trans KV.o);have hB:=jQf ((ha.block _ hn).trans K0.o);have hz:=jQf ((ha.block _ hg).trans K1.o);have hj:=hd (HW.o.trans (ha.mono (by omega)));clear hb2 ha;cases hk:Sq.hasKeys ⟨sl,sh⟩
 ·have HE:=hd (hw.o hk);clear hk;go_wp2;go_ret;exact⟨_,rfl,by rw[HE.o];exact RowsOwn.nil _ _,by rw[HE.o];exact HT.o.below hj.o,TFrm.of hj.o (by omega)⟩
 ·have HC:=hd (hq.o hk w2 hj.o);clear hk;go_wp2_with fail;refine HC.o.mono ?_;rintro e w3 ⟨v3,rfl,ho3,ht3,hf3⟩;go_wp2;go_ret;exact⟨v3,rfl,ho3,ht3,(TFrm.of hj.o (by omega)).trans hf3⟩
end
theorem Sq.jQbc:∀(v:List Sq.Val) (c:List Sq.Col),0<=Sq.checkValuesFrom v c/\Sq.checkValuesFrom v c<=10
 | [],_=>⟨by simp[Sq.checkValuesFrom],by simp[Sq.checkValuesFrom]⟩
 | _::_,[]=>⟨by simp[Sq.checkValuesFrom],by simp[Sq.checkValuesFrom]⟩
 | v::r,c::q=>by
  rw[Sq.checkValuesFrom]
  split
  ·exact⟨by decide,by decide⟩
  ·exact Sq.jQbc r q
theorem Sq.jQls (cols:List Sq.Col)(t:Int)(s:SetS):0<=Sq.checkSum cols t s/\Sq.checkSum cols t s<=10:=by
 unfold Sq.checkSum
 repeat' split
 all_goals exact⟨by decide,by decide⟩
theorem Sq.jQlu (cols:List Sq.Col)(e:List SetS)(s:SetS):0<=Sq.checkSet cols e s/\Sq.checkSet cols e s<=10:=by
 unfold Sq.checkSet
 split
 ·split
  ·exact⟨by decide,by decide⟩
  ·split
   ·exact⟨by decide,by decide⟩
   ·split
    ·exact⟨by decide,by decide⟩
    ·exact Sq.jQls _ _ _
 ·exact⟨by decide,by decide⟩
theorem Sq.jQbK (cols:List Sq.Col):∀(r e:List SetS),0<=Sq.checkSetsFrom cols e r/\Sq.checkSetsFrom cols e r<=10
 | [],_=>⟨by simp[Sq.checkSetsFrom],by simp[Sq.checkSetsFrom]⟩
 | s::r,e=>by
  rw[Sq.checkSetsFrom]
  split
  ·exact Sq.jQlu _ _ _
  ·exact Sq.jQbK cols r _
theorem Sq.jQbw (cols:List Sq.Col)(x:Int):∀l:List ByteArray,0<=Sq.checkItemsFrom cols x l/\Sq.checkItemsFrom cols x l<=10
 | []=>⟨by simp[Sq.checkItemsFrom],by simp[Sq.checkItemsFrom]⟩
 | n::r=>by
  rw[Sq.checkItemsFrom]
  split
  ·exact⟨by decide,by decide⟩
  ·split
   ·exact⟨by decide,by decide⟩
   ·exact Sq.jQbw cols x r
theorem Sq.jQbv (cols:List Sq.Col):∀l:List StepS,0<=Sq.checkWhereFrom cols l/\Sq.checkWhereFrom cols l<=10
 | []=>⟨by simp[Sq.checkWhereFrom],by simp[Sq.checkWhereFrom]⟩
 | s::r=>by
  have ih:=Sq.jQbv cols r;rw[Sq.checkWhereFrom]
  repeat' split
  all_goals first | exact ih | exact⟨by decide,by decide⟩
theorem Sq.jQq4 (cols:List Sq.Col)(st:PSt):0<=Sq.check cols st/\Sq.check cols st<=10:=by
 have h1:0<=Sq.checkAct cols st/\Sq.checkAct cols st<=10:=by
  unfold Sq.checkAct Sq.checkValues Sq.checkSets
  repeat' split
  all_goals first | exact Sq.jQbc _ _ | exact Sq.jQbK _ _ _ | exact Sq.jQbw _ _ _ | exact⟨by decide,by decide⟩
 unfold Sq.check
 split
 ·exact h1
 ·exact Sq.jQbv _ _
theorem Sq.jQqy (s:ByteArray):0<=(Sq.parse s).1/\(Sq.parse s).1<=3:=by
 unfold Sq.parse
 split
 ·exact⟨by decide,by decide⟩
 ·split
  ·exact⟨by decide,by decide⟩
  ·split<;>exact⟨by simp,by simp⟩
theorem Sq.jQpm (p:Int):-2147483648<=Sq.keyAt p/\Sq.keyAt p<=2147483647:=by unfold Sq.keyAt;omega
theorem Sq.jQqs {cols:List Sq.Col}{e:Sq.Ent}{r:List Sq.Val}(hs:e.row.size<=1000)(h:Sq.rowOf cols e=some r):Sq.okRow r:=by
 unfold Sq.rowOf Sq.toCells at h
 split at h
 ·cases h;have hk:=Sq.jQpm e.place;intro v hv
  have:=Sq.jQkw (cols.drop 1) ⟨[⟨0,Sq.keyAt e.place,Sq.nobytes⟩],⟨e.row,false⟩,true⟩ hs (by
   intro u hu;rw[List.mem_singleton] at hu;subst hu;exact⟨by show Sq.nobytes.size<=1000;decide,by show _<=Sq.keyAt e.place;omega,by show Sq.keyAt e.place<=_;omega⟩) v hv
  exact⟨this.2.1,this.2.2,this.1⟩
 ·cases h
theorem Sq.jQl5 (X:NTree)(tr:Trl):∀t∈(Sq.tabsR X tr).1,1<=t.number/\t.number<=5/\t.cols.length<=4:=by
 intro t ht;obtain⟨e,-,he⟩:=List.mem_filterMap.1 ht;unfold Sq.tabOk at he;cases hx:Sq.tabOf e with
 | none=>rw[hx] at he;cases he
 | some y =>
  rw[hx] at he;simp only[Option.bind_some] at he
  split at he
  ·rename_i hb;simp only[Option.some.injEq] at he;subst he;refine⟨hb.1,hb.2,?_⟩;unfold Sq.tabOf at hx;cases hy:Sq.toTable e.row with
   | none=>rw[hy] at hx;cases hx
   | some z=>rw[hy] at hx;simp at hx;subst hx;exact Sq.jQd6 hy
  ·cases he
theorem Sq.jQee {K:Int}{X:NTree}{tr:Trl}(hf:tameN K X.d X.t)(hr:TameR K tr):TameR K (Sq.tabsR X tr).2:=(Sq.jQaI X.d X.t _ _ tr hf hr).1.loseIf _
theorem Sq.jQbT {K:Int}{X:NTree}{tr:Trl}(hf:tameN K X.d X.t)(hr:TameR K tr)(t:TabN)(wher:List StepS) :
  (∀r∈(Sq.spannedR X t wher tr).1,Sq.okRow r)/\(Sq.spannedR X t wher tr).1.length<=Sq.countN X.d X.t/\TameR K (Sq.spannedR X t wher tr).2:=by
 unfold Sq.spannedR
 split
 ·refine⟨fun r h=>?_,?_,(Sq.jQaI X.d X.t _ _ tr hf hr).1.loseIf _⟩
  ·obtain⟨e,he,hx⟩:=List.mem_filterMap.1 h
   have:=jQdA (K:=K) _ _ X.d X.t tr hf e he
   exact Sq.jQqs (by omega) hx
  ·exact Nat.le_trans (List.length_filterMap_le _ _) (Sq.jQaI X.d X.t _ _ tr hf hr).2
 ·exact⟨fun r h=>by simp at h,zR,hr⟩
theorem Sq.jQgH {n:ByteArray}:∀{l:List TabN} {t:TabN},Sq.findR n l=some t->t∈l
 | [],t,h=>by cases h
 | x::r,t,h=>by
  rw[Sq.findR] at h
  split at h
  ·simp only[Option.some.injEq] at h;subst h;exact List.mem_cons_self ..
  ·exact List.mem_cons_of_mem _ (Sq.jQgH h)
theorem Sq.jQbo {K:Int}{X:NTree}{tr:Trl}(hf:tameN K X.d X.t)(hr:TameR K tr)(sql:ByteArray):TameR K (Sq.decideR X sql tr).2:=by
 have h1:=Sq.jQee hf hr;unfold Sq.decideR Sq.decideStR
 split
 ·exact hr
 ·split
  ·exact h1
  ·split
   ·unfold Sq.decideTabR
    split
    ·exact h1
    ·split
     ·exact Sq.jQkc X.d X.t _ _ hf h1
     ·exact(Sq.jQbT hf h1 _ _).2.2
   ·exact h1
theorem Sq.goodVal.num {v:Sq.Val}(h:Sq.goodVal v):-100000000000<=v.number/\v.number<=100000000000:=⟨(Sq.goodVal.ok h).1,(Sq.goodVal.ok h).2.1⟩
theorem Sq.okWh.okSt {l:List StepS}(h:Sq.okWh l):∀s∈l,okSt s:=fun s hs=>⟨(h s hs).1.num,(h s hs).2.num⟩
section
open Go.RowKit
variable {Z:Nat->Prop}
theorem OutAt.o {w w':World}{rb:Nat}{o:Sq.OutR}{cv pv kv:Value}{c:Array Value}{fr:Nat×Nat}(h:OutAt w o cv pv kv)(hb:w.heap[rb]?=some (.cells c 98 fr))(ho:∀g,g≠rb->w'.heap[g]?=w.heap[g]?):OutAt w' o cv pv kv :=
 ⟨h.cols.o hb (by decide) ho,h.puts.o hb (by decide) (by decide) ho,jQaE h.cuts hb (by decide) ho,h.nputs,h.ncuts⟩
theorem jQcd (n:Int)(w:World)(h0:0<=n)(h1:n<=1000000)(hT:Tbl w):Calls Tryz.prog 68 #[.int .i64 n] w (OutPost w (Sq.refusedR n)):=by
 refine(jQac n w h0 h1 hT).mono ?_;rintro e w' ⟨rfl,hb⟩;exact⟨_,_,_,rfl,OutAt.none _ _ rfl rfl rfl,hb⟩
theorem jQbS {w:World}{b:Nat}{x0 x1 x2 x3 x4 x5 x6 x7:Value}(h:w.heap[b]?=some (.cells #[x0,x1,x2,x3,x4,x5,x6,x7] 118)) :
  w.cell? ⟨b,0,none⟩=some x0/\w.cell? ⟨b,1,none⟩=some x1/\w.cell? ⟨b,2,none⟩=some x2/\w.cell? ⟨b,3,none⟩=some x3/\w.cell? ⟨b,4,none⟩=some x4/\w.cell? ⟨b,5,none⟩=some x5/\w.cell? ⟨b,6,none⟩=some x6/\w.cell? ⟨b,7,none⟩=some x7 :=
 ⟨by rw[jQb h];rfl,by rw[jQb h];rfl,by rw[jQb h];rfl,by rw[jQb h];rfl,by rw[jQb h];rfl,by rw[jQb h];rfl,by rw[jQb h];rfl,by rw[jQb h];rfl⟩
theorem StmAt.of {B:Nat}{w:World}{st:PSt}{r:Rw}(h:Stm B w st r)(hk:Sq.okStm st):StmAt w st r:=by
 obtain⟨h1,h2,h3,h4,h5⟩:=h;have k1:=hk.cols;have k2:=hk.vals;have k3:=hk.sets;have k4:=hk.items;have k5:=hk.wher;exact⟨⟨jQj h1 (zR),by omega⟩,jQj h2 (zR),by omega,⟨jQj h3 (zR),by omega⟩,⟨jQj h4 (zR),by omega⟩,jQj h5 (zR),by omega⟩
theorem jQbl {tb B:Nat}{w w':World}{e:TypeId}{size:Nat}{v:Value}{n:Nat}{xs:List Value}(h:w.ownsRow B e size v n xs)(h1:e≠3)(h2:e≠74)(k:TFrm tb w w'):w'.ownsRow B e size v n xs:=by
 refine⟨h.1,?_⟩;rcases h.2 with h0 | ⟨g,cap,cur,hv,hbg,hh,hn,hm,hc,ht⟩
 ·exact Or.inl h0
 ·exact Or.inr ⟨g,cap,cur,hv,hbg,(k.keep g _ _ _ hh h1 h2).trans hh,hn,hm,hc,ht⟩
theorem StmAt.tfrm {tb:Nat}{w w':World}{st:PSt}{r:Rw}(h:StmAt w st r)(k:TFrm tb w w'):StmAt w' st r :=
 ⟨h.cols.tfrm k,jQbl h.vals (by decide) (by decide) k,h.nvals,⟨jQbl h.sets.1 (by decide) (by decide) k,h.sets.2⟩,⟨jQbl h.items.1 (by decide) (by decide) k,h.items.2⟩,jQbl h.wher (by decide) (by decide) k,h.nwher⟩
structure Dctx (Z:Nat->Prop)(tb:Nat)(w:World)(S:Array Value)(sb:Nat)(st:PSt)(r:Rw)(n:Nat)(t:Nd n)(ev cv:Value)(tr:Trl)(X:World):Prop where
 frm:TFrm tb w X
 sto:X.heap[w.heap.size]?=some (.cells S 91)
 ot:X.heap[w.heap.size+1]?=some (.cells out0 98)
 stm:X.heap[sb]?=some (.cells (stmCells st r) 118)
 at_:StmAt X st r
 tra:TrAt tb X tr
 tbl:Tbl X
 node:NodeAt Z X n t ev cv
theorem Dctx.le {tb:Nat}{w:World}{S:Array Value}{sb:Nat}{st:PSt}{r:Rw}{n:Nat}{t:Nd n}{ev cv:Value}{tr:Trl}{X:World}(h:Dctx Z tb w S sb st r n t ev cv tr X):tb<X.heap.size:=h.tra.lt
theorem Dctx.next {tb:Nat}{w:World}{S:Array Value}{sb:Nat}{st:PSt}{r:Rw}{n:Nat}{t:Nd n}{ev cv:Value}{tr:Trl}{X Y:World}(h:Dctx Z tb w S sb st r n t ev cv tr X)(hb:Below X.heap.size X Y):Dctx Z tb w S sb st r n t ev cv tr Y :=
 ⟨h.frm.trans (TFrm.of hb (Nat.le_of_lt h.le)),(hb.block _ (jQf h.sto)).trans h.sto,(hb.block _ (jQf h.ot)).trans h.ot,(hb.block _ (jQf h.stm)).trans h.stm,h.at_.below hb,h.tra.below hb,h.tbl.below hb,h.node.below hb⟩
theorem Dctx.nextT {tb:Nat}{w:World}{S:Array Value}{sb:Nat}{st:PSt}{r:Rw}{n:Nat}{t:Nd n}{ev cv:Value}{tr tr':Trl}{X Y:World}(h:Dctx Z tb w S sb st r n t ev cv tr X)(hL:Low tb)(hf:TFrm tb X Y)(ht:TrAt tb Y tr'):Dctx Z tb w S sb st r n t ev cv tr' Y :=
 ⟨h.frm.trans hf,(hf.keep _ _ _ _ h.sto (by decide) (by decide)).trans h.sto,(hf.keep _ _ _ _ h.ot (by decide) (by decide)).trans h.ot,(hf.keep _ _ _ _ h.stm (by decide) (by decide)).trans h.stm,h.at_.tfrm hf,ht,h.tbl.tfrm hL hf,h.node.tfrm hf⟩
theorem Dctx.done {tb:Nat}{w:World}{S:Array Value}{sb:Nat}{st:PSt}{r:Rw}{n:Nat}{t:Nd n}{ev cv:Value}{tr:Trl}{X:World}(h:Dctx Z tb w S sb st r n t ev cv tr X)(htb:tb<=w.heap.size){o:Sq.OutR}{cv' pv kv:Value}(ho:OutAt X o cv' pv kv)(x0 x1 x2 x3 x4 x5 x6:Value) :
  OutSays tb (o,tr) w (.returned (.agg (outCells o cv' pv kv))) (set7 X (w.heap.size+1) x0 x1 x2 x3 x4 x5 x6) :=
 ⟨_,_,_,rfl,ho.o h.ot (fun g hg=>jQl _ _ _ _ _ _ _ _ _ hg),jQby h.tra h.ot _ _ _ _ _ _ _,jQbz h.frm (bR) h.frm.below.size htb (by omega) _ _ _ _ _ _ _⟩
end
end Go.Proofs.YtahpihjialbanaaGreatDoor
