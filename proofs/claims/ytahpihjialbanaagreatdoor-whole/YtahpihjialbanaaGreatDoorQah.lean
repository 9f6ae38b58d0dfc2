import Derived.Lib.ItoaNum
import Derived.Test.YtahpihjialbanaaGreatDoorQag
set_option linter.unusedVariables false
set_option linter.unusedSimpArgs false
set_option maxRecDepth 100000
set_option maxHeartbeats 1000000
namespace Go.Proofs.YtahpihjialbanaaGreatDoor
open Sq (headN Nd Trl numV Rd takeV)
namespace Sq
theorem jQn8 (ws:List Word)(body:PSt->PSt)(hb:∀st,(body st).act=st.act):∀f st,(commas ws body f st).act=st.act:=by
 intro f
 induction f with
 | zero=>intro st;rfl
 | succ f ih =>
  intro st;rw[Sq.commas]
  split
  ·rw[ih,hb];rfl
  ·rfl
theorem jQbZ (ws:List Word)(st:PSt):(itemS ws st).act=st.act:=(jQ6 ws st).act
theorem jQlr (ws:List Word)(st:PSt):(chooseA ws st).act=st.act:=by
 unfold chooseA
 split
 ·rfl
 ·split
  ·rfl
  ·split
   ·rw[(jQZ ws _ _).act,jQbZ,(jQZ ws _ _).act];rfl
   ·unfold itemsS;rw[jQn8 ws _ (jQbZ ws),jQbZ];rfl
theorem jQlq (ws:List Word)(st:PSt):(chooseS ws st).act=5:=by
 unfold chooseS;rw[(jQab ws _).act]
 show(nameS ws _).act=5
 rw[(jQ6 ws _).act,(jQZ ws _ _).act,jQlr];rfl
theorem jQrG (bs:ByteArray):∀(n i:Nat) (r:List UInt8),bs.size-i=n->ByteArray.toList.loop bs i r=r.reverse++bs.data.toList.drop i:=by
 intro n
 induction n with
 | zero =>
  intro i r h;unfold ByteArray.toList.loop;rw[if_neg (by omega),List.drop_eq_nil_of_le (by simp;omega)];simp
 | succ n ih =>
  intro i r h;unfold ByteArray.toList.loop;have hi:i<bs.data.toList.length:=by simp;omega
  rw[if_pos (by omega),ih (i+1) _ (by omega),List.drop_eq_getElem_cons hi]
  have:bs.get! i=bs.data.toList[i]:=by
   unfold ByteArray.get!;simp at hi;simp[hi]
  rw[this];simp
theorem jQkz (b:ByteArray):b.toList=b.data.toList:=by
 show ByteArray.toList.loop b 0 []=_;rw[jQrG b _ 0 [] rfl];simp
end Sq
section
open Go.RowKit
variable {Z:Nat->Prop}
theorem jQc (h:Sq.Head)(ev cv:Value):(headCells h ev cv).toArray=#[.bool h.inner,ev,cv,.int .i64 h.least,.int .i64 h.rows,.string h.sl,.int .i64 h.num]:=rfl
theorem jQnk (b:ByteArray):(b.size != 0)=!b.toList.isEmpty:=by
 rw[Sq.jQkz];have h:b.data.toList.length=b.size:=by simp
 cases hb:b.data.toList with
 | nil=>rw[hb] at h;rw[<-h];rfl
 | cons x r=>rw[hb] at h;rw[<-h];rfl
theorem jQbf (h:Sq.Head)(ev cv:Value)(w:World)(he:∃a k c,ev=.slice a k c)(hc:∃a k c,cv=.slice a k c) :
  Calls Tryz.prog 45 #[.agg (headCells h ev cv).toArray] w fun e w'=>e=.returned (.bool (Sq.isShut h))/\Below w.heap.size w w':=by
 obtain⟨ea,ek,ec,rfl⟩:=he;obtain⟨ca,ck,cc,rfl⟩:=hc;rw[jQc];have hW:∀o,Below w.heap.size w (w.alloc o):=fun o=>(bR).alloc (nR) _
 have HW:=hd hW;clear hW;go_enter Tryz.func45,Tryz.ntmps45;go_wp2;go_ret;exact⟨by unfold Sq.isShut;rw[jQnk];rfl,HW.o _⟩
theorem jQg4 (h:Sq.Head)(ea:Option Addr)(ek ec:Nat)(ca:Option Addr)(ck cc:Nat)(w:World) :
  Calls Tryz.prog 83 #[.agg (headCells h (.slice ea ek ec) (.slice ca ck cc)).toArray] w fun e w'=>e=.returned (.int .i64 ((if h.inner then ck else ek:Nat):Int))/\Below w.heap.size w w':=by
 rw[jQc];have hW:∀o,Below w.heap.size w (w.alloc o):=fun o=>(bR).alloc (nR) _
 have HW:=hd hW;clear hW;obtain⟨hi,hle,hr,hs,hn⟩:=h;cases hi
 ·go_enter Tryz.func83,Tryz.ntmps83;go_wp2;go_ret;exact⟨rfl,HW.o _⟩
 ·go_enter Tryz.func83,Tryz.ntmps83;go_wp2;go_ret;exact⟨rfl,HW.o _⟩
theorem jQhc {α:Type}(f:α->Sq.Head)(p:Int)(cs:List α)(k a:Nat)(h:k<cs.length):Sq.wayFromF f p (cs.drop k) k a=Sq.wayFromF f p (cs.drop (k+1)) (k+1) (if(f cs[k]).least<=p then k else a):=by
 rw[List.drop_eq_getElem_cons h,Sq.wayFromF]
theorem jQhb (n:Nat)(l:List (Nd n×Value×Value))(p:Int)(h0:Sq.Head)(ev cv:Value)(w:World)(he:∃a k c,ev=.slice a k c)(h:NodesAt Z 0 w cv n l)(hl:l.length<=1000) :
  Calls Tryz.prog 195 #[.agg (headCells h0 ev cv).toArray,.int .i64 p] w fun e w'=>e=.returned (.int .i64 (Sq.wayF (headN n) (l.map Prod.fst) p:Nat))/\Below w.heap.size w w':=by
 obtain⟨eo,en,ecap,rfl⟩:=he;obtain⟨ao,acap,rfl⟩:=jQa h.own;rw[jQc];obtain⟨hi,hle,hr,hs,hn⟩:=h0;have hW:Below w.heap.size w (w.alloc (.cells #[.bool hi,.slice eo en ecap,.slice ao l.length acap,.int .i64 hle,.int .i64 hr,.string hs,.int .i64 hn] 60)):=(bR).alloc (nR) _;have HW:=hd hW;have H:=hd h;have HL:Hid ((l.map Prod.fst).length=l.length):=by show _=_;simp
 clear h hW;go_enter Tryz.func195,Tryz.ntmps195;go_wp2
 go_loop [5,6] (fun at_ i=>∃k a:Nat,1<=k/\k<=l.length+1/\i=.int .i64 k/\a<=l.length/\at_=.int .i64 a/\Hid (Sq.wayF (headN n) (l.map Prod.fst) p=Sq.wayFromF (headN n) p ((l.map Prod.fst).drop k) k a)) (fun _ i=>l.length+1-(intOf i).toNat)
 case atStart=>exact⟨1,0,nR,by omega,rfl,zR,rfl,rfl⟩
 case round =>
  obtain⟨k,a,hk1,hk,rfl,ha,rfl,hr⟩:=hrel
  by_cases hlt:k<l.length
  ·obtain⟨g,cap',ea,el,ec,ca,cl,cc,hv,hg,d,d5,d6⟩:=(H.o.below HW.o).at k hlt;simp only[Value.slice.injEq] at hv;obtain⟨rfl,-,rfl⟩:=hv;have d3:=d.c3;have hb:=jQhc (headN n) p (l.map Prod.fst) k a (by rw[HL.o];exact hlt);rw[List.getElem_map] at hb;obtain⟨q,hq⟩:∃x,x=(headN n l[k].1).least:=⟨_,rfl⟩;rw[<-hq] at hb d3;have hc:=hd hb;have i1:¬((l.length:Int)<=(k:Int)):=by omega
   clear hb hq d d5 d6
   by_cases hle:q<=p
   ·have HR:Hid (Sq.wayF (headN n) (l.map Prod.fst) p=Sq.wayFromF (headN n) p ((l.map Prod.fst).drop (k+1)) (k+1) k):=by show _=_;rw[hr.o,hc.o,if_pos hle]
    clear hr hc;go_wp2;go_round
    case rel=>exact⟨k+1,k,by omega,by omega,by go_num,by omega,rfl,HR⟩
    case measure=>simp[intOf];omega
   ·have HR:Hid (Sq.wayF (headN n) (l.map Prod.fst) p=Sq.wayFromF (headN n) p ((l.map Prod.fst).drop (k+1)) (k+1) a):=by show _=_;rw[hr.o,hc.o,if_neg hle]
    clear hr hc;go_wp2;go_round
    case rel=>exact⟨k+1,a,by omega,by omega,by go_num,by omega,rfl,HR⟩
    case measure=>simp[intOf];omega
  ·have HR:Hid (Sq.wayF (headN n) (l.map Prod.fst) p=a):=by show _=_;rw[hr.o,List.drop_eq_nil_of_le (by rw[HL.o];omega)];rfl
   clear hr;go_wp2;go_ret;exact⟨by rw[HR.o];rfl,HW.o⟩
end
section
open Go.RowKit
variable {Z:Nat->Prop}
structure TrAt (tb:Nat)(w:World)(tr:Trl):Prop where
 row:∃v,w.heap[tb]?=some (.cells #[.bool tr.lost,v] 74)/\w.ownsRow (tb+1) 3 1 v tr.nums.length (tr.nums.map (Value.int .i64))
 few:tr.nums.length<=100000
theorem TrAt.lt {tb:Nat}{w:World}{tr:Trl}(h:TrAt tb w tr):tb<w.heap.size:=by obtain⟨v,h1,_⟩:=h.row;exact jQf h1
theorem TrAt.below {tb:Nat}{w w':World}{tr:Trl}(h:TrAt tb w tr)(hb:Below w.heap.size w w'):TrAt tb w' tr:=by
 have ha:=h.lt;obtain⟨v,h1,h2⟩:=h.row;exact⟨⟨v,by rw[hb.block tb ha];exact h1,jQh h2 hb⟩,h.few⟩
structure TFrm (tb:Nat)(w w':World):Prop where
 below:Below tb w w'
 keep:∀(g:Nat) (c:Array Value) (e:TypeId) (fr:Nat×Nat),w.heap[g]?=some (Obj.cells c e fr)->e≠3->e≠74->w'.heap[g]?=w.heap[g]?
theorem TFrm.refl (tb:Nat)(w:World):TFrm tb w w:=⟨bR,fun _ _ _ _ _ _ _=>rfl⟩
theorem TFrm.trans {tb:Nat}{w w' w'':World}(h:TFrm tb w w')(k:TFrm tb w' w''):TFrm tb w w'' :=
 ⟨h.below.trans k.below,fun g c e fr hg h1 h2=>(k.keep g c e fr ((h.keep g c e fr hg h1 h2).trans hg) h1 h2).trans (h.keep g c e fr hg h1 h2)⟩
theorem TFrm.of {tb:Nat}{w w':World}(h:Below w.heap.size w w')(ht:tb<=w.heap.size):TFrm tb w w' :=
 ⟨h.mono ht,fun g _ _ _ hg _ _=>h.block g (jQf hg)⟩
theorem NodeAt.tfrm {tb n:Nat}{w w':World}{t:Nd n}{ev cv:Value}(h:NodeAt Z w n t ev cv)(k:TFrm tb w w'):NodeAt Z w' n t ev cv :=
 h.same fun g c e fr hg he=>k.keep g c e fr hg (by rcases he with rfl | rfl<;>decide) (by rcases he with rfl | rfl<;>decide)
theorem EntsAt.tfrm {tb B:Nat}{w w':World}{v:Value}{es:List Sq.Ent}(h:EntsAt B w v es)(k:TFrm tb w w'):EntsAt B w' v es:=by
 refine⟨h.1,?_⟩;rcases h.2 with h0 | ⟨g,cap,cur,hv,hbg,hh,hn,hm,hc,ht⟩
 ·exact Or.inl h0
 ·exact Or.inr ⟨g,cap,cur,hv,hbg,(k.keep g _ _ _ hh (by decide) (by decide)).trans hh,hn,hm,hc,ht⟩
theorem NodesAt.tfrm {tb B n:Nat}{w w':World}{v:Value}{l:List (Nd n×Value×Value)}(h:NodesAt Z B w v n l)(k:TFrm tb w w'):NodesAt Z B w' v n l:=by
 refine⟨⟨h.own.1,?_⟩,fun x hx=>(h.each x hx).tfrm k⟩;rcases h.own.2 with h0 | ⟨g,cap,cur,hv,hbg,hh,hn,hm,hc,ht⟩
 ·exact Or.inl h0
 ·exact Or.inr ⟨g,cap,cur,hv,hbg,(k.keep g _ _ _ hh (by decide) (by decide)).trans hh,hn,hm,hc,ht⟩
theorem jQiv (l:List Int)(x:Int)(k:Nat)(h:k<l.length):(l.drop k).any (·==x)=(l[k]==x || (l.drop (k+1)).any (·==x)):=by
 rw[List.drop_eq_getElem_cons h];rfl
theorem jQb7 (tb:Nat)(tr:Trl)(h:Sq.Head)(ev cv:Value)(w:World)(he:∃a k c,ev=.slice a k c)(hc:∃a k c,cv=.slice a k c)(ht:TrAt tb w tr) :
  Calls Tryz.prog 55 #[.pointer (some ⟨tb,0,none⟩),.agg (headCells h ev cv).toArray] w fun e w'=>e=.returned (.bool (Sq.touchedR tr h))/\Below w.heap.size w w':=by
 obtain⟨ea,ek,ec,rfl⟩:=he;obtain⟨ca,ck,cc,rfl⟩:=hc;rw[jQc];obtain⟨hi,hle,hr,hs,hn⟩:=h;obtain⟨lost,nums⟩:=tr;have hh:=ht.few;have hu:=ht.lt;obtain⟨v,hb,hown⟩:=ht.row;simp only at hb hown hh;obtain⟨ao,cap,rfl⟩:=jQa hown;have hW:Below w.heap.size w (w.alloc (.cells #[.bool hi,.slice ea ek ec,.slice ca ck cc,.int .i64 hle,.int .i64 hr,.string hs,.int .i64 hn] 60)):=(bR).alloc (nR) _;have c1:w.cell? ⟨tb,1,none⟩=some (.slice ao nums.length cap):=by rw[jQb hb];rfl
 have HO:=hd (jQh hown hW);have HW:=hd hW;have HT:Hid (Sq.touchedR ⟨lost,nums⟩ ⟨hi,hle,hr,hs,hn⟩=nums.any (·==hn)):=rfl;rw[HT.o];clear hb hown hW ht HT;obtain⟨W,hWW⟩:∃W,W=w.alloc (.cells #[.bool hi,.slice ea ek ec,.slice ca ck cc,.int .i64 hle,.int .i64 hr,.string hs,.int .i64 hn] 60):=⟨_,rfl⟩;have hp:W.heap.size=w.heap.size+1:=by rw[hWW];exact jQr w _
 have a6:W.cell? ⟨w.heap.size,6,none⟩=some (.int .i64 hn):=by rw[jQb (show W.heap[w.heap.size]?=_ from by rw[hWW];exact jQi w _)];rfl
 have k1:W.cell? ⟨tb,1,none⟩=some (.slice ao nums.length cap):=by rw[hWW];exact(HW.o.cell (p:=⟨tb,1,none⟩) hu).trans c1
 rw[<-hWW] at HO HW;have HS:=hd hp;clear hp c1;go_enter Tryz.func55,Tryz.ntmps55;go_wp2;rw[<-hWW];clear hWW
 go_loopw [5] (fun i wr=>∃k:Nat,k<=nums.length/\i=.int .i64 k/\Hid (nums.any (·==hn)=(nums.drop k).any (·==hn))/\Below (w.heap.size+1) W wr) (fun i _=>nums.length-(intOf i).toNat)
 case atStart=>exact⟨0,zR,rfl,rfl,bR⟩
 case round =>
  obtain⟨k,hk,rfl,hr2,hb⟩:=hrel;have b6:wr.cell? ⟨w.heap.size,6,none⟩=some (.int .i64 hn):=(hb.cell (p:=⟨w.heap.size,6,none⟩) (by simp)).trans a6;have b1:wr.cell? ⟨tb,1,none⟩=some (.slice ao nums.length cap):=(hb.cell (p:=⟨tb,1,none⟩) (by show tb<_;omega)).trans k1;have hw:w.heap.size<wr.heap.size:=by have:=hb.size;rw[HS.o] at this;omega
  have hy:tb<wr.heap.size:=by omega
  have hj:Below w.heap.size w wr:=HW.o.trans (hb.mono (by omega));have hl:=hd hj;have hm:=hb.size;rw[HS.o] at hm;have ho:Hid (wr.ownsRow (tb+1) 3 1 (.slice ao nums.length cap) nums.length (nums.map (Value.int .i64))):=jQh HO.o (by rw[HS.o];exact hb);have HB:=hd hb;clear hb hj hm
  by_cases hltk:k<nums.length
  ·obtain⟨g,cap',hv,-,hg⟩:=ho.o.form (by omega);simp only[Value.slice.injEq] at hv;obtain⟨rfl,-,rfl⟩:=hv;have c0:=ho.o.cells (g:=g) rfl k (.int .i64 nums[k]) (by simp[hltk]);rw[jQaQ,Nat.zero_add] at c0;have hf:=jQiv nums hn k hltk;obtain⟨q,hq⟩:∃x,x=nums[k]:=⟨_,rfl⟩;rw[<-hq] at hf c0;have ha:=hd hf;have i1:¬((nums.length:Int)<=(k:Int)):=by omega
   clear hf hq;cases hx:q==hn
   ·have HR:Hid (nums.any (·==hn)=(nums.drop (k+1)).any (·==hn)):=by show _=_;rw[hr2.o,ha.o,hx];rfl
    clear hr2 ha;go_wp2
    go_region
    all_goals(try go_wp2)
    go_roundw
    case rel=>exact⟨k+1,by omega,by go_num,HR,Below.drew HB.o⟩
    case measure=>simp[intOf];omega
   ·have HR:Hid (nums.any (·==hn)=true):=by show _=_;rw[hr2.o,ha.o,hx];rfl
    clear hr2 ha;go_wp2
    go_region
    all_goals(try go_wp2)
    go_ret;exact⟨by rw[HR.o];rfl,Below.drew hl.o⟩
  ·have HR:Hid (nums.any (·==hn)=false):=by show _=_;rw[hr2.o,List.drop_eq_nil_of_le (by omega)];rfl
   clear hr2;go_wp2;go_ret;exact⟨by rw[HR.o];rfl,hl.o⟩
end
namespace Sq
def itoa (n:Int):ByteArray:=⟨(Lib.itoa n).toArray⟩
def bSemi:ByteArray:=⟨#[59]⟩
def bBang:ByteArray:=⟨#[33]⟩
def bQuote:ByteArray:=⟨#[39]⟩
def counted (n:Int):ByteArray:=itoa n++bSemi
def errText (e:Int):ByteArray:=bBang++itoa e
def written (v:Val):ByteArray:=if v.kind==1 then bQuote++v.text++bQuote else itoa v.number
def okVal (v:Val):Prop:=-100000000000<=v.number/\v.number<=100000000000/\v.text.size<=1000
def okRow (row:List Val):Prop:=∀v∈row,okVal v
def okTerm (t:Term):Prop:=okVal t.lit
def okSet (s:SetS):Prop:=okTerm s.first/\okTerm s.second
def numOf (sign:ByteArray)(x y:Int):Int:=if sign.toList==[45] then x-y else x+y
def result (cols:List Col)(row:List Val)(s:SetS):Val×Bool :=
 if s.sign.toList.isEmpty then(valueOf cols row s.first,true)
 else if numOf s.sign (valueOf cols row s.first).number (valueOf cols row s.second).number < -2147483648 then(val0,false)
 else if 2147483647<numOf s.sign (valueOf cols row s.first).number (valueOf cols row s.second).number then(val0,false)
 else(⟨0,numOf s.sign (valueOf cols row s.first).number (valueOf cols row s.second).number,nobytes⟩,true)
def assignStep (cols:List Col)(old row:List Val)(s:SetS):List Val:=if find cols s.column<0 then row else row.set (find cols s.column).toNat (result cols old s).1
def assignFrom (cols:List Col)(old:List Val):List SetS->List Val->List Val×Bool
 | [],row=>(row,true)
 | s::r,row=>if(result cols old s).2 then assignFrom cols old r (assignStep cols old row s) else([],false)
def assigned (cols:List Col)(old:List Val)(sets:List SetS):List Val×Bool:=assignFrom cols old sets old
def updateFrom (cols:List Col)(sets:List SetS):List (List Val)->List (List Val)->Option (List (List Val))
 | [],acc=>some acc
 | r::q,acc=>if(assigned cols r sets).2 then updateFrom cols sets q (acc++[(assigned cols r sets).1]) else none
def twoFrom (cols:List Col):List Col->Int->Bool
 | [],_=>false
 | c::r,i=>if find cols c.name != i then true else twoFrom cols r (i+1)
def twoOf (cols:List Col):Bool:=twoFrom cols cols 0
def joined:List (List UInt8)->List UInt8
 | []=>[]
 | x::r=>x++r.flatMap fun y=>44::y
def cellNo (row:List Val)(k:Int):Val:=if k<0 then val0 else(row[k.toNat]?).getD val0
def rowTextR (row:List Val)(nums:List Int):List UInt8:=joined (nums.map fun k=>(written (cellNo row k)).data.toList)
def listedR (nums:List Int)(rows:List (List Val)):List UInt8:=rows.flatMap fun r=>rowTextR r nums++[59]
def sumRow (nums:List Int)(row:List Val):Int:=(nums.map fun k=>(cellNo row k).number).sum
def summedR (nums:List Int)(rows:List (List Val)):Int:=(rows.map (sumRow nums)).sum
def placedR (cols:List Col)(items:List ByteArray):List Int:=items.map (find cols)
def upToR (n:Nat):List Int:=(List.range n).map fun k:Nat=>(k:Int)
def showR (cols:List Col)(rows:List (List Val))(st:PSt):ByteArray :=
 if st.shw==2 then counted rows.length
 else if st.shw==3 then itoa (summedR (placedR cols st.items) rows)++bSemi
 else if st.shw==1 then⟨(listedR (upToR cols.length) rows).toArray⟩
 else⟨(listedR (placedR cols st.items) rows).toArray⟩
def metN (cols:List Col)(rows:List (List Val))(l:List StepS):List (List Val):=rows.filter fun r=>meets cols r l
end Sq
structure Sq.Span where
 lo:Int
 hi:Int
structure Sq.Sides where
 yes:Sq.Span
 no:Sq.Span
namespace Sq
def allKeys:Span:=⟨-2147483648,2147483647⟩
def hasKeys (s:Span):Bool:=Decidable.decide (s.lo<=s.hi)
def bothS (a b:Span):Span:=⟨if a.lo<b.lo then b.lo else a.lo,if b.hi<a.hi then b.hi else a.hi⟩
def eitherS (a b:Span):Span:=if hasKeys a then(if hasKeys b then⟨if b.lo<a.lo then b.lo else a.lo,if a.hi<b.hi then b.hi else a.hi⟩ else a) else b
def allSides:Sides:=⟨allKeys,allKeys⟩
def popV (l:List Sides):Sides:=l.getLast?.getD allSides
def joinV (l:List Sides)(op:ByteArray):List Sides :=
 if op.toList==[110,111,116] then l.dropLast++[⟨(popV l).no,(popV l).yes⟩]
 else if op.toList==[97,110,100] then l.dropLast.dropLast++[⟨bothS (popV l.dropLast).yes (popV l).yes,eitherS (popV l.dropLast).no (popV l).no⟩]
 else l.dropLast.dropLast++[⟨eitherS (popV l.dropLast).yes (popV l).yes,bothS (popV l.dropLast).no (popV l).no⟩]
def keysThat (op:ByteArray)(n:Int):Span :=
 if op.toList==[61] then⟨n,n⟩
 else if op.toList==[60] then⟨-2147483648,n-1⟩
 else if op.toList==[60,61] then⟨-2147483648,n⟩
 else if op.toList==[62] then⟨n+1,2147483647⟩
 else if op.toList==[62,61] then⟨n,2147483647⟩
 else allKeys
def opEq:ByteArray:=⟨#[61]⟩
def opNe:ByteArray:=⟨#[60,62]⟩
def opLt:ByteArray:=⟨#[60]⟩
def opLe:ByteArray:=⟨#[60,61]⟩
def opGt:ByteArray:=⟨#[62]⟩
def opGe:ByteArray:=⟨#[62,61]⟩
def mirrored (op:ByteArray):ByteArray :=
 if op.toList==[60] then opGt
 else if op.toList==[60,61] then opGe
 else if op.toList==[62] then opLt
 else if op.toList==[62,61] then opLe
 else op
def contrary (op:ByteArray):ByteArray :=
 if op.toList==[61] then opNe
 else if op.toList==[60,62] then opEq
 else if op.toList==[60] then opGe
 else if op.toList==[60,61] then opGt
 else if op.toList==[62] then opLe
 else opLt
def keySides (op:ByteArray)(n:Int):Sides:=⟨keysThat op n,keysThat (contrary op) n⟩
def isKeyT (cols:List Col)(t:Term):Bool:=!t.column.toList.isEmpty&&(find cols t.column==0)
def isNumT (t:Term):Bool:=t.column.toList.isEmpty&&(t.lit.kind==0)
def sidesOf (cols:List Col)(s:StepS):Sides :=
 if isKeyT cols s.left&&isNumT s.right then keySides s.op s.right.lit.number
 else if isNumT s.left&&isKeyT cols s.right then keySides (mirrored s.op) s.left.lit.number
 else allSides
def stepV (cols:List Col)(l:List Sides)(s:StepS):List Sides:=if isComparison s.op then l++[sidesOf cols s] else joinV l s.op
def spanOf (cols:List Col)(wher:List StepS):Span:=(popV (wher.foldl (stepV cols) [])).yes
def inS (s:Span)(k:Int):Prop:=s.lo<=k/\k<=s.hi
def okS (k:Int)(b:Bool)(s:Sides):Prop:=(b=true->inS s.yes k)/\(b=false->inS s.no k)
theorem jQrL {k:Int}(h0:-2147483648<=k)(h1:k<=2147483647):inS allKeys k:=⟨h0,h1⟩
theorem jQrC {k:Int}(h0:-2147483648<=k)(h1:k<=2147483647)(b:Bool):okS k b allSides:=⟨fun _=>jQrL h0 h1,fun _=>jQrL h0 h1⟩
theorem jQp3 {a b:Span}{k:Int}(h:inS a k)(g:inS b k):inS (bothS a b) k:=by
 unfold inS bothS at *
 dsimp only at *
 constructor<;>split<;>omega
theorem jQdP {a b:Span}{k:Int}(h:inS a k\/inS b k):inS (eitherS a b) k:=by
 unfold inS eitherS hasKeys at *
 by_cases ha:a.lo<=a.hi
 ·rw[decide_eq_true ha,if_pos rfl]
  by_cases hb:b.lo<=b.hi
  ·rw[decide_eq_true hb,if_pos rfl]
   dsimp only
   constructor<;>split<;>omega
  ·rw[decide_eq_false hb,if_neg (by simp)];omega
 ·rw[decide_eq_false ha,if_neg (by simp)];omega
def piles (k:Int)(p:List Bool)(q:List Sides):Prop:=∃l:List (Bool×Sides),p=l.map Prod.fst/\q=l.map Prod.snd/\∀x∈l,okS k x.1 x.2
theorem piles.push {k:Int}{p:List Bool}{q:List Sides}(h:piles k p q){b:Bool}{s:Sides}(hs:okS k b s):piles k (p++[b]) (q++[s]):=by
 obtain⟨l,rfl,rfl,h3⟩:=h;refine⟨l++[(b,s)],by simp,by simp,fun x hx=>?_⟩;rcases List.mem_append.1 hx with hx | hx
 ·exact h3 x hx
 ·rw[List.mem_singleton] at hx;subst hx;exact hs
theorem piles.pop {k:Int}{p:List Bool}{q:List Sides}(h:piles k p q)(h0:-2147483648<=k)(h1:k<=2147483647):okS k (popB p) (popV q)/\piles k p.dropLast q.dropLast:=by
 obtain⟨l,rfl,rfl,h3⟩:=h;refine⟨?_,l.dropLast,by rw[List.map_dropLast],by rw[List.map_dropLast],fun x hx=>h3 x ((List.dropLast_sublist l).subset hx)⟩;unfold popB popV;rw[List.getLast?_map,List.getLast?_map];cases hl:l.getLast? with
 | none=>exact jQrC h0 h1 _
 | some x=>exact h3 x (List.mem_of_getLast? hl)
theorem piles.join {k:Int}{p:List Bool}{q:List Sides}(h:piles k p q)(h0:-2147483648<=k)(h1:k<=2147483647)(op:ByteArray):piles k (joinB p op) (joinV q op):=by
 obtain⟨g1,g2⟩:=h.pop h0 h1;obtain⟨g3,g4⟩:=g2.pop h0 h1;unfold joinB joinV
 split
 ·refine g2.push ?_;cases hb:popB p with
  | true=>exact⟨fun h=>by simp at h,fun _=>g1.1 hb⟩
  | false=>exact⟨fun _=>g1.2 hb,fun h=>by simp at h⟩
 ·split
  ·refine g4.push ?_;cases hb:popB p.dropLast with
   | true=>cases hc:popB p with
    | true=>exact⟨fun _=>jQp3 (g3.1 hb) (g1.1 hc),fun h=>by simp at h⟩
    | false=>exact⟨fun h=>by simp at h,fun _=>jQdP (Or.inr (g1.2 hc))⟩
   | false=>exact⟨fun h=>by simp at h,fun _=>jQdP (Or.inl (g3.2 hb))⟩
  ·refine g4.push ?_;cases hb:popB p.dropLast with
   | true=>exact⟨fun _=>jQdP (Or.inl (g3.1 hb)),fun h=>by simp at h⟩
   | false=>cases hc:popB p with
    | true=>exact⟨fun _=>jQdP (Or.inr (g1.1 hc)),fun h=>by simp at h⟩
    | false=>exact⟨fun h=>by simp at h,fun _=>jQp3 (g3.2 hb) (g1.2 hc)⟩
def cmpI (a b:Int):Int:=if a=b then 0 else if a<b then -1 else 1
theorem jQfY (a b:Int)(x y:ByteArray):compare ⟨0,a,x⟩ ⟨0,b,y⟩=cmpI a b:=by
 unfold compare cmpI sideOf
 by_cases h:a=b
 ·subst h;simp
 ·by_cases h2:a<b<;>simp[h,h2]
theorem jQrY:opEq.toList=[61]:=by decide +kernel
theorem jQrX:opNe.toList=[60,62]:=by decide +kernel
theorem jQry:opLt.toList=[60]:=by decide +kernel
theorem jQrz:opLe.toList=[60,61]:=by decide +kernel
theorem jQrA:opGt.toList=[62]:=by decide +kernel
theorem jQrB:opGe.toList=[62,61]:=by decide +kernel
theorem is_op {op:ByteArray}(h:isComparison op=true):op.toList=[61]\/op.toList=[60,62]\/op.toList=[60]\/op.toList=[60,61]\/op.toList=[62]\/op.toList=[62,61]:=by
 unfold isComparison comparisons at h;rw[<-jQkz] at h;simpa using h
theorem jQn9 {a b:Int}(h:a<b):cmpI a b=-1:=by unfold cmpI;rw[if_neg (by omega),if_pos h]
theorem jQoa {a b:Int}(h:b<a):cmpI a b=1:=by unfold cmpI;rw[if_neg (by omega),if_neg (by omega)]
theorem jQob (a:Int):cmpI a a=0:=by unfold cmpI;rw[if_pos rfl]
theorem jQpY (op:ByteArray)(k n:Int)(h0:-2147483648<=k)(h1:k<=2147483647)(hop:isComparison op=true):okS k (holds op (cmpI k n)) (keySides op n):=by
 have hc:(k<n/\cmpI k n=-1)\/(k=n/\cmpI k n=0)\/(n<k/\cmpI k n=1):=by
  rcases Int.lt_trichotomy k n with h | h | h
  ·exact Or.inl ⟨h,jQn9 h⟩
  ·subst h;exact Or.inr (Or.inl ⟨rfl,jQob k⟩)
  ·exact Or.inr (Or.inr ⟨h,jQoa h⟩)
 unfold okS keySides;rcases is_op hop with h | h | h | h | h | h
 ·have e1:keysThat op n=⟨n,n⟩:=by unfold keysThat;rw[h];rfl
  have e2:keysThat (contrary op) n=allKeys:=by have ec:contrary op=opNe:=(by unfold contrary;rw[h];rfl);rw[ec];unfold keysThat;rw[jQrX];rfl
  have e3:holds op (cmpI k n)=(cmpI k n==0):=by unfold holds;rw[h];rfl
  rw[e1,e2,e3];rcases hc with⟨g,e⟩ | ⟨g,e⟩ | ⟨g,e⟩<;>rw[e]<;>refine⟨fun q=>?_,fun q=>?_⟩<;>first | (exfalso;simp at q;done) | (unfold inS allKeys;constructor<;>dsimp only<;>omega) | (unfold inS;constructor<;>dsimp only<;>omega)
 ·have e1:keysThat op n=allKeys:=by unfold keysThat;rw[h];rfl
  have e2:keysThat (contrary op) n=⟨n,n⟩:=by have ec:contrary op=opEq:=(by unfold contrary;rw[h];rfl);rw[ec];unfold keysThat;rw[jQrY];rfl
  have e3:holds op (cmpI k n)=(cmpI k n != 0):=by unfold holds;rw[h];rfl
  rw[e1,e2,e3];rcases hc with⟨g,e⟩ | ⟨g,e⟩ | ⟨g,e⟩<;>rw[e]<;>refine⟨fun q=>?_,fun q=>?_⟩<;>first | (exfalso;simp at q;done) | (unfold inS allKeys;constructor<;>dsimp only<;>omega) | (unfold inS;constructor<;>dsimp only<;>omega)
 ·have e1:keysThat op n=⟨-2147483648,n-1⟩:=by unfold keysThat;rw[h];rfl
  have e2:keysThat (contrary op) n=⟨n,2147483647⟩:=by have ec:contrary op=opGe:=(by unfold contrary;rw[h];rfl);rw[ec];unfold keysThat;rw[jQrB];rfl
  have e3:holds op (cmpI k n)=Decidable.decide (cmpI k n<0):=by unfold holds;rw[h];rfl
  rw[e1,e2,e3];rcases hc with⟨g,e⟩ | ⟨g,e⟩ | ⟨g,e⟩<;>rw[e]<;>refine⟨fun q=>?_,fun q=>?_⟩<;>first | (exfalso;simp at q;done) | (unfold inS allKeys;constructor<;>dsimp only<;>omega) | (unfold inS;constructor<;>dsimp only<;>omega)
 ·have e1:keysThat op n=⟨-2147483648,n⟩:=by unfold keysThat;rw[h];rfl
  have e2:keysThat (contrary op) n=⟨n+1,2147483647⟩:=by have ec:contrary op=opGt:=(by unfold contrary;rw[h];rfl);rw[ec];unfold keysThat;rw[jQrA];rfl
  have e3:holds op (cmpI k n)=Decidable.decide (cmpI k n<=0):=by unfold holds;rw[h];rfl
  rw[e1,e2,e3];rcases hc with⟨g,e⟩ | ⟨g,e⟩ | ⟨g,e⟩<;>rw[e]<;>refine⟨fun q=>?_,fun q=>?_⟩<;>first | (exfalso;simp at q;done) | (unfold inS allKeys;constructor<;>dsimp only<;>omega) | (unfold inS;constructor<;>dsimp only<;>omega)
 ·have e1:keysThat op n=⟨n+1,2147483647⟩:=by unfold keysThat;rw[h];rfl
  have e2:keysThat (contrary op) n=⟨-2147483648,n⟩:=by have ec:contrary op=opLe:=(by unfold contrary;rw[h];rfl);rw[ec];unfold keysThat;rw[jQrz];rfl
  have e3:holds op (cmpI k n)=Decidable.decide (0<cmpI k n):=by unfold holds;rw[h];rfl
  rw[e1,e2,e3];rcases hc with⟨g,e⟩ | ⟨g,e⟩ | ⟨g,e⟩<;>rw[e]<;>refine⟨fun q=>?_,fun q=>?_⟩<;>first | (exfalso;simp at q;done) | (unfold inS allKeys;constructor<;>dsimp only<;>omega) | (unfold inS;constructor<;>dsimp only<;>omega)
 ·have e1:keysThat op n=⟨n,2147483647⟩:=by unfold keysThat;rw[h];rfl
  have e2:keysThat (contrary op) n=⟨-2147483648,n-1⟩:=by have ec:contrary op=opLt:=(by unfold contrary;rw[h];rfl);rw[ec];unfold keysThat;rw[jQry];rfl
  have e3:holds op (cmpI k n)=Decidable.decide (0<=cmpI k n):=by unfold holds;rw[h];rfl
  rw[e1,e2,e3];rcases hc with⟨g,e⟩ | ⟨g,e⟩ | ⟨g,e⟩<;>rw[e]<;>refine⟨fun q=>?_,fun q=>?_⟩<;>first | (exfalso;simp at q;done) | (unfold inS allKeys;constructor<;>dsimp only<;>omega) | (unfold inS;constructor<;>dsimp only<;>omega)
theorem jQfP {op:ByteArray}(h:isComparison op=true):isComparison (mirrored op)=true/\∀a b:Int,holds op (cmpI a b)=holds (mirrored op) (cmpI b a):=by
 have hc:∀a b:Int,(cmpI a b=-1/\cmpI b a=1)\/(cmpI a b=0/\cmpI b a=0)\/(cmpI a b=1/\cmpI b a=-1):=by
  intro a b;rcases Int.lt_trichotomy a b with h | h | h
  ·exact Or.inl ⟨jQn9 h,jQoa h⟩
  ·subst h;exact Or.inr (Or.inl ⟨jQob a,jQob a⟩)
  ·exact Or.inr (Or.inr ⟨jQoa h,jQn9 h⟩)
 rcases is_op h with g | g | g | g | g | g
 ·have e:mirrored op=op:=by unfold mirrored;rw[g];rfl
  rw[e];refine⟨h,fun a b=>?_⟩;unfold holds;rw[g];rcases hc a b with⟨e1,e2⟩ | ⟨e1,e2⟩ | ⟨e1,e2⟩<;>rw[e1,e2]<;>rfl
 ·have e:mirrored op=op:=by unfold mirrored;rw[g];rfl
  rw[e];refine⟨h,fun a b=>?_⟩;unfold holds;rw[g];rcases hc a b with⟨e1,e2⟩ | ⟨e1,e2⟩ | ⟨e1,e2⟩<;>rw[e1,e2]<;>rfl
 ·have e:mirrored op=opGt:=by unfold mirrored;rw[g];rfl
  rw[e];refine⟨by decide +kernel,fun a b=>?_⟩;unfold holds;rw[g,jQrA];rcases hc a b with⟨e1,e2⟩ | ⟨e1,e2⟩ | ⟨e1,e2⟩<;>rw[e1,e2]<;>rfl
 ·have e:mirrored op=opGe:=by unfold mirrored;rw[g];rfl
  rw[e];refine⟨by decide +kernel,fun a b=>?_⟩;unfold holds;rw[g,jQrB];rcases hc a b with⟨e1,e2⟩ | ⟨e1,e2⟩ | ⟨e1,e2⟩<;>rw[e1,e2]<;>rfl
 ·have e:mirrored op=opLt:=by unfold mirrored;rw[g];rfl
  rw[e];refine⟨by decide +kernel,fun a b=>?_⟩;unfold holds;rw[g,jQry];rcases hc a b with⟨e1,e2⟩ | ⟨e1,e2⟩ | ⟨e1,e2⟩<;>rw[e1,e2]<;>rfl
 ·have e:mirrored op=opLe:=by unfold mirrored;rw[g];rfl
  rw[e];refine⟨by decide +kernel,fun a b=>?_⟩;unfold holds;rw[g,jQrz];rcases hc a b with⟨e1,e2⟩ | ⟨e1,e2⟩ | ⟨e1,e2⟩<;>rw[e1,e2]<;>rfl
theorem jQjt {cols:List Col}{t:Term}{k:Int}{x:ByteArray}{r:List Val}(h:isKeyT cols t=true):valueOf cols (⟨0,k,x⟩::r) t=⟨0,k,x⟩:=by
 unfold isKeyT at h;rw[Bool.and_eq_true] at h;obtain⟨h1,h2⟩:=h;have h3:find cols t.column=0:=by simpa using h2
 unfold valueOf cellOf;rw[if_neg (by simpa using h1),h3,if_neg (by decide)];rfl
theorem jQjs {cols:List Col}{t:Term}{row:List Val}(h:isNumT t=true):∃x,valueOf cols row t=⟨0,t.lit.number,x⟩:=by
 unfold isNumT at h;rw[Bool.and_eq_true] at h;obtain⟨h1,h2⟩:=h;have h3:t.lit.kind=0:=by simpa using h2
 refine⟨t.lit.text,?_⟩;unfold valueOf;rw[if_pos h1];obtain⟨col,⟨kd,nu,te⟩⟩:=t
 dsimp only at h3
 subst h3;rfl
theorem jQqB (cols:List Col)(s:StepS)(k:Int)(x:ByteArray)(r:List Val)(h0:-2147483648<=k)(h1:k<=2147483647)(hop:isComparison s.op=true):okS k (compared cols (⟨0,k,x⟩::r) s) (sidesOf cols s):=by
 unfold sidesOf
 split
 ·rename_i h;rw[Bool.and_eq_true] at h;obtain⟨y,hy⟩:=jQjs (cols:=cols) (row:=⟨0,k,x⟩::r) h.2;unfold compared;rw[jQjt h.1,hy,jQfY];exact jQpY _ _ _ h0 h1 hop
 ·split
  ·rename_i h;rw[Bool.and_eq_true] at h;obtain⟨y,hy⟩:=jQjs (cols:=cols) (row:=⟨0,k,x⟩::r) h.1;unfold compared;rw[jQjt h.2,hy,jQfY,(jQfP hop).2];exact jQpY _ _ _ h0 h1 (jQfP hop).1
  ·exact jQrC h0 h1 _
theorem jQmi (cols:List Col)(wher:List StepS)(k:Int)(x:ByteArray)(r:List Val)(h0:-2147483648<=k)(h1:k<=2147483647)(h:meets cols (⟨0,k,x⟩::r) wher=true):inS (spanOf cols wher) k:=by
 have hp:∀(l:List StepS) (p:List Bool) (q:List Sides),piles k p q->piles k (l.foldl (stepB cols (⟨0,k,x⟩::r)) p) (l.foldl (stepV cols) q):=by
  intro l
  induction l with
  | nil=>intro p q h;exact h
  | cons s l ih =>
   intro p q h;refine ih _ _ ?_;unfold stepB stepV
   by_cases hc:isComparison s.op=true
   ·rw[if_pos hc,if_pos hc];exact h.push (jQqB cols s k x r h0 h1 hc)
   ·rw[if_neg hc,if_neg hc];exact h.join h0 h1 _
 have h2:=((hp wher [] [] ⟨[],rfl,rfl,fun y hy=>by cases hy⟩).pop h0 h1).1;unfold meets at h;unfold spanOf
 split at h
 ·rename_i he;cases wher with
  | nil=>exact⟨h0,h1⟩
  | cons s l=>simp at he
 ·exact h2.1 h
end Sq
structure Sq.OutR where
 reply:ByteArray
 makes:Bool
 tab:Sq.TabN
 puts:List (List Sq.Val)
 cuts:List Int
namespace Sq
def tabNone:TabN:=⟨0,nobytes,[]⟩
def refusedR (e:Int):OutR:=⟨errText e,false,tabNone,[],[]⟩
def findR (n:ByteArray):List TabN->Option TabN
 | []=>none
 | t::r=>if t.name.toList==n.toList then some t else findR n r
def lastR (m:Int)(l:List TabN):Int:=l.foldl (fun m t=>if m<t.number then t.number else m) m
def loseIf (b:Bool)(tr:Trl):Trl:=⟨tr.lost || b,tr.nums⟩
def tabOk (e:Ent):Option TabN:=(tabOf e).bind fun t=>if 1<=t.number/\t.number<=5 then some t else none
def tabsR (X:NTree)(tr:Trl):List TabN×Trl :=
 ((X.thru (placeOf 0 (-2147483648)) (placeOf 0 2147483647) tr).1.filterMap tabOk,loseIf ((X.thru (placeOf 0 (-2147483648)) (placeOf 0 2147483647) tr).1.any fun e=>(tabOk e).isNone) (X.thru (placeOf 0 (-2147483648)) (placeOf 0 2147483647) tr).2)
def rowsR (X:NTree)(t:TabN)(lo hi:Int)(tr:Trl):List (List Val)×Trl :=
 ((X.thru (placeOf t.number lo) (placeOf t.number hi) tr).1.filterMap (rowOf t.cols),loseIf ((X.thru (placeOf t.number lo) (placeOf t.number hi) tr).1.any fun e=>(rowOf t.cols e).isNone) (X.thru (placeOf t.number lo) (placeOf t.number hi) tr).2)
def spannedR (X:NTree)(t:TabN)(wher:List StepS)(tr:Trl):List (List Val)×Trl :=
 if hasKeys (spanOf t.cols wher) then rowsR X t (spanOf t.cols wher).lo (spanOf t.cols wher).hi tr else([],tr)
def createR (ts:List TabN)(size:Int)(st:PSt):OutR :=
 if(findR st.table ts).isSome then refusedR 5
 else if 4<st.cols.length then refusedR 6
 else if twoOf st.cols then refusedR 5
 else if 5<=ts.length then refusedR 10
 else if 60<=size then refusedR 10
 else⟨counted 0,true,⟨lastR 0 ts+1,st.table,st.cols⟩,[],[]⟩
def insertO (has:Bool)(size:Int)(t:TabN)(vals:List Val):OutR :=
 if has then refusedR 8 else if 60<=size then refusedR 10 else⟨counted 1,false,t,[vals],[]⟩
def insertR (X:NTree)(t:TabN)(vals:List Val)(tr:Trl):OutR×Trl :=
 (insertO (X.has (placeOf t.number (keyOf vals)) tr).1 X.head.rows t vals,(X.has (placeOf t.number (keyOf vals)) tr).2)
def updatedR (t:TabN):Option (List (List Val))->OutR
 | some puts=>⟨counted puts.length,false,t,puts,[]⟩
 | none=>refusedR 9
def updateR (t:TabN)(rows:List (List Val))(sets:List SetS):OutR:=updatedR t (updateFrom t.cols sets rows [])
def removeR (t:TabN)(rows:List (List Val)):OutR:=⟨counted rows.length,false,t,[],rows.map keyOf⟩
def askedR (t:TabN)(rows:List (List Val))(st:PSt):OutR :=
 if st.act==3 then updateR t rows st.sets
 else if st.act==4 then removeR t rows
 else⟨showR t.cols rows st,false,tabNone,[],[]⟩
def decideTabR (X:NTree)(t:TabN)(st:PSt)(tr:Trl):OutR×Trl :=
 if check t.cols st != 0 then(refusedR (check t.cols st),tr)
 else if st.act==2 then insertR X t st.vals tr
 else(askedR t (metN t.cols (spannedR X t st.wher tr).1 st.wher) st,(spannedR X t st.wher tr).2)
def decideStR (X:NTree)(st:PSt)(ts:List TabN)(tr:Trl):OutR×Trl :=
 if st.act==1 then(createR ts X.head.rows st,tr)
 else match findR st.table ts with
  | some t=>decideTabR X t st tr
  | none=>(refusedR 4,tr)
def decideR (X:NTree)(sql:ByteArray)(tr:Trl):OutR×Trl :=
 if(parse sql).1 != 0 then(refusedR (parse sql).1,tr) else decideStR X (parse sql).2 (tabsR X tr).1 (tabsR X tr).2
def madeR (o:OutR)(x:NTree×Trl):NTree×Trl:=if o.makes then x.1.put ⟨placeOf 0 o.tab.number,ofTable o.tab.name o.tab.cols⟩ x.2 else x
def putsR (tb:Int)(puts:List (List Val))(x:NTree×Trl):NTree×Trl:=puts.foldl (fun x r=>x.1.put ⟨placeOf tb (keyOf r),ofCells r⟩ x.2) x
def cutsR (tb:Int)(cuts:List Int)(x:NTree×Trl):NTree×Trl:=cuts.foldl (fun x k=>x.1.del (placeOf tb k) x.2) x
def applyR (o:OutR)(x:NTree×Trl):NTree×Trl:=cutsR o.tab.number o.cuts (putsR o.tab.number o.puts (madeR o x))
def runR (X:NTree)(sql:ByteArray)(tr:Trl):ByteArray×NTree×Trl:=((decideR X sql tr).1.reply,applyR (decideR X sql tr).1 (X,(decideR X sql tr).2))
end Sq
namespace Sq
def bytesF {α:Type}(f:α->Head)(dg:α->ByteArray)(t:NodeF α):ByteArray:=writtenF f t (t.kids.map dg)
def digF {α:Type}(H:ByteArray->ByteArray)(f:α->Head)(dg:α->ByteArray)(t:NodeF α):ByteArray:=if isShut t.hd then t.hd.sl else H (bytesF f dg t)
def digN (H:ByteArray->ByteArray):(n:Nat)->Nd n->ByteArray
 | 0,t=>digF H (fun e:Empty=>e.elim) (fun e:Empty=>e.elim) t
 | n+1,t=>digF H (headN n) (digN H n) t
def Rel2 {α β:Type}(ρ:α->β->Prop)(l:List α)(m:List β):Prop:=∃z:List (α×β),l=z.map Prod.fst/\m=z.map Prod.snd/\∀x∈z,ρ x.1 x.2
def RF {α β:Type}(ρ:α->β->Prop)(Q:Head->Prop)(dg:ByteArray)(p:NodeF α)(t:NodeF β):Prop :=
 p.hd.least=t.hd.least/\p.hd.rows=t.hd.rows/\isShut t.hd=false /\
 ((isShut p.hd=true/\p.hd.sl=dg/\p.hd.inner=false/\p.ents=[]/\p.kids=[]/\Q t.hd)\/(isShut p.hd=false/\p.hd.inner=t.hd.inner/\p.ents=t.ents/\Rel2 ρ p.kids t.kids))
def noRel {α β:Type}(_:α)(_:β):Prop:=False
def RN (H:ByteArray->ByteArray)(Q:Head->Prop):(m n:Nat)->Nd m->Nd n->Prop
 | 0,0,p,t=>RF noRel Q (digN H 0 t) p t
 | 0,n+1,p,t=>RF noRel Q (digN H (n+1) t) p t
 | _+1,0,p,t=>RF noRel Q (digN H 0 t) p t
 | m+1,n+1,p,t=>RF (RN H Q m n) Q (digN H (n+1) t) p t
theorem Rel2.len {α β:Type}{ρ:α->β->Prop}{l:List α}{m:List β}(h:Rel2 ρ l m):l.length=m.length:=by
 obtain⟨z,rfl,rfl,-⟩:=h;simp
theorem Rel2.nil {α β:Type}{ρ:α->β->Prop}:Rel2 ρ ([]:List α) ([]:List β):=⟨[],rfl,rfl,fun x hx=>by cases hx⟩
theorem Rel2.append {α β:Type}{ρ:α->β->Prop}{l l':List α}{m m':List β}(h:Rel2 ρ l m)(k:Rel2 ρ l' m'):Rel2 ρ (l++l') (m++m'):=by
 obtain⟨z,rfl,rfl,h⟩:=h;obtain⟨y,rfl,rfl,k⟩:=k;refine⟨z++y,by simp,by simp,fun x hx=>?_⟩;rcases List.mem_append.1 hx with hx | hx
 ·exact h x hx
 ·exact k x hx
theorem Rel2.take {α β:Type}{ρ:α->β->Prop}{l:List α}{m:List β}(h:Rel2 ρ l m)(k:Nat):Rel2 ρ (l.take k) (m.take k):=by
 obtain⟨z,rfl,rfl,h⟩:=h;exact⟨z.take k,by rw[List.map_take],by rw[List.map_take],fun x hx=>h x (List.mem_of_mem_take hx)⟩
theorem Rel2.drop {α β:Type}{ρ:α->β->Prop}{l:List α}{m:List β}(h:Rel2 ρ l m)(k:Nat):Rel2 ρ (l.drop k) (m.drop k):=by
 obtain⟨z,rfl,rfl,h⟩:=h;exact⟨z.drop k,by rw[List.map_drop],by rw[List.map_drop],fun x hx=>h x (List.mem_of_mem_drop hx)⟩
theorem Rel2.one {α β:Type}{ρ:α->β->Prop}{a:α}{b:β}(h:ρ a b):Rel2 ρ [a] [b]:=⟨[(a,b)],rfl,rfl,fun x hx=>by rw[List.mem_singleton] at hx;subst hx;exact h⟩
theorem Rel2.at {α β:Type}{ρ:α->β->Prop}{l:List α}{m:List β}(h:Rel2 ρ l m){i:Nat}{a:α}(ha:l[i]?=some a):∃b,m[i]?=some b/\ρ a b:=by
 obtain⟨z,rfl,rfl,h⟩:=h;rw[List.getElem?_map] at ha;cases hz:z[i]? with
 | none=>rw[hz] at ha;cases ha
 | some x =>
  rw[hz] at ha;simp at ha;subst ha;exact⟨x.2,by rw[List.getElem?_map,hz];rfl,h x (List.mem_of_getElem? hz)⟩
theorem Rel2.none {α β:Type}{ρ:α->β->Prop}{l:List α}{m:List β}(h:Rel2 ρ l m){i:Nat}(ha:l[i]?=none):m[i]?=none:=by
 rw[List.getElem?_eq_none_iff] at ha ⊢;rw[<-h.len];exact ha
theorem Rel2.cons {α β:Type}{ρ:α->β->Prop}{a:α}{b:β}{l:List α}{m:List β}:Rel2 ρ (a::l) (b::m)↔ρ a b/\Rel2 ρ l m:=by
 constructor
 ·rintro⟨z,h1,h2,h⟩;cases z with
  | nil=>cases h1
  | cons x z =>
   rw[List.map_cons,List.cons.injEq] at h1 h2;obtain⟨rfl,rfl⟩:=h1;obtain⟨rfl,rfl⟩:=h2;exact⟨h x (by simp),z,rfl,rfl,fun y hy=>h y (by simp[hy])⟩
 ·rintro⟨h1,z,rfl,rfl,h⟩;refine⟨(a,b)::z,rfl,rfl,fun x hx=>?_⟩;rcases List.mem_cons.1 hx with rfl | hx
  ·exact h1
  ·exact h x hx
theorem Rel2.exch {α β:Type}{ρ:α->β->Prop}{l o:List α}{m u:List β}(h:Rel2 ρ l m)(k:Rel2 ρ o u)(a c:Nat):Rel2 ρ (exch l a c o) (exch m a c u):=((h.take a).append k).append (h.drop (a+c))
theorem jQS {tr:Trl}{h:Head}(hl:(touchR tr h).lost=false):tr.lost=false/\isShut h=false:=by
 unfold touchR at hl;simpa using hl
theorem jQaH {tr:Trl}{h:Head}(hl:isShut h=false):(touchR tr h).lost=tr.lost:=by
 unfold touchR;simp[hl]
theorem jQoH (tr:Trl)(h:Head):∀k∈tr.nums,k∈(touchR tr h).nums:=by
 intro k hk;unfold touchR
 dsimp only
 split
 ·simp[hk]
 ·exact hk
theorem jQgd (tr:Trl)(h:Head)(hp:0<h.num):h.num∈(touchR tr h).nums:=by
 unfold touchR touchedR
 dsimp only
 rw[decide_eq_true hp,Bool.true_and]
 split
 ·simp
 ·rename_i h1;simpa using h1
theorem jQfy {α β:Type}{ρ:α->β->Prop}{f:α->Head}{g:β->Head}(hfg:∀a b,ρ a b->(f a).least=(g b).least)(p:Int):∀{l:List α} {m:List β},Rel2 ρ l m->∀i a,wayFromF f p l i a=wayFromF g p m i a
 | [],[],_,_,_=>rfl
 | [],_::_,h,_,_=>by have:=h.len;simp at this
 | _::_,[],h,_,_=>by have:=h.len;simp at this
 | a::l,b::m,h,i,c=>by
  obtain⟨h1,h2⟩:=Rel2.cons.1 h;rw[wayFromF,wayFromF,hfg a b h1];exact jQfy hfg p h2 _ _
theorem jQfx {α β:Type}{ρ:α->β->Prop}{f:α->Head}{g:β->Head}(hfg:∀a b,ρ a b->(f a).least=(g b).least)(p:Int){l:List α}{m:List β}(h:Rel2 ρ l m):wayF f l p=wayF g m p:=jQfy hfg p (h.drop 1) 1 0
structure Kin {α β:Type}(ρ:α->β->Prop)(f:α->Head)(g:β->Head):Prop where
 least:∀a b,ρ a b->(f a).least=(g b).least
 rows:∀a b,ρ a b->(f a).rows=(g b).rows
 whole:∀a b,ρ a b->isShut (g b)=false
theorem RF.open_ {α β:Type}{ρ:α->β->Prop}{Q:Head->Prop}{dg:ByteArray}{p:NodeF α}{t:NodeF β}(h:RF ρ Q dg p t)(hs:isShut p.hd=false):p.hd.inner=t.hd.inner/\p.ents=t.ents/\Rel2 ρ p.kids t.kids:=by
 obtain⟨-,-,-,h | h⟩:=h
 ·rw[hs] at h;cases h.1
 ·exact h.2
theorem jQgC {α:Type}{f:α->Head}{g:α->Int->Trl->Bool×Trl}(hg:∀a k tr,(g a k tr).2.lost=false->tr.lost=false){t:NodeF α}{k:Int}{tr:Trl}(h:(hasF f g t k tr).2.lost=false):tr.lost=false/\isShut t.hd=false:=by
 unfold hasF at h
 split at h
 ·split at h
  ·exact jQS (hg _ _ _ h)
  ·exact jQS h
 ·exact jQS h
theorem jQgB {α β:Type}{ρ:α->β->Prop}{f:α->Head}{f':β->Head}{g:α->Int->Trl->Bool×Trl}{g':β->Int->Trl->Bool×Trl}(hk:Kin ρ f f')(hm:∀a k tr,(g a k tr).2.lost=false->tr.lost=false)
  (hg:∀a b k tr tr',ρ a b->(g a k tr).2.lost=false->(g a k tr).1=(g' b k tr').1) {Q:Head->Prop} {dg:ByteArray} {p:NodeF α} {t:NodeF β} (h:RF ρ Q dg p t) (k:Int) (tr tr':Trl) (hl:(hasF f g p k tr).2.lost=false):(hasF f g p k tr).1=(hasF f' g' t k tr').1:=by
 obtain⟨h1,h2,h3⟩:=h.open_ (jQgC hm hl).2;unfold hasF at hl ⊢;rw[<-h1,<-h2];rw[jQfx hk.least k h3] at hl ⊢
 split
 ·rename_i hi;rw[if_pos hi] at hl;cases hc:p.kids[wayF f' t.kids k]? with
  | none=>rw[h3.none hc]
  | some c =>
   obtain⟨b,hb,hr⟩:=h3.at hc;rw[hc] at hl;rw[hb];exact hg c b k _ _ hr hl
 ·rfl
theorem jQcv {α:Type}{f:α->Head}{g:α->Trl->List Ent×Trl}{lo hi:Int}(hg:∀a tr,(g a tr).2.lost=false->tr.lost=false):∀{l:List α} {x:List Ent×Trl},(thruL f g lo hi l x).2.lost=false->x.2.lost=false
 | [],x,h=>h
 | c::r,x,h=>by
  rw[thruL] at h
  split at h
  ·exact hg c x.2 (jQcv (x:=(x.1++(g c x.2).1,(g c x.2).2)) hg h)
  ·exact jQcv hg h
theorem jQfO {α β:Type}{ρ:α->β->Prop}{f:α->Head}{f':β->Head}(hk:Kin ρ f f')(lo:Int):∀{l:List α} {m:List β},Rel2 ρ l m->nextLowF f lo l=nextLowF f' lo m
 | [],[],_=>rfl
 | [],_::_,h=>by have:=h.len;simp at this
 | _::_,[],h=>by have:=h.len;simp at this
 | a::l,b::m,h=>by rw[nextLowF,nextLowF,hk.least a b (Rel2.cons.1 h).1]
theorem jQgf {α β:Type}{ρ:α->β->Prop}{f:α->Head}{f':β->Head}{g:α->Trl->List Ent×Trl}{g':β->Trl->List Ent×Trl}(hk:Kin ρ f f')(hm:∀a tr,(g a tr).2.lost=false->tr.lost=false)
  (hg:∀a b tr tr',ρ a b->(g a tr).2.lost=false->(g a tr).1=(g' b tr').1) (lo hi:Int):∀{l:List α} {m:List β},Rel2 ρ l m->∀(x y:List Ent×Trl),x.1=y.1->(thruL f g lo hi l x).2.lost=false->(thruL f g lo hi l x).1=(thruL f' g' lo hi m y).1
 | [],[],_,x,y,hxy,_=>hxy
 | [],_::_,h,_,_,_,_=>by have:=h.len;simp at this
 | _::_,[],h,_,_,_,_=>by have:=h.len;simp at this
 | a::l,b::m,h,x,y,hxy,hl=>by
  obtain⟨h1,h2⟩:=Rel2.cons.1 h;rw[thruL] at hl ⊢;rw[thruL,<-hk.least a b h1,<-jQfO hk lo h2]
  split
  ·rename_i hc;rw[if_pos hc] at hl;refine jQgf hk hm hg lo hi h2 _ _ ?_ hl;show x.1++(g a x.2).1=y.1++(g' b y.2).1;rw[hxy,hg a b x.2 y.2 h1 (jQcv (x:=(x.1++(g a x.2).1,(g a x.2).2)) hm hl)]
  ·rename_i hc;rw[if_neg hc] at hl;exact jQgf hk hm hg lo hi h2 x y hxy hl
theorem jQeb {α:Type}{f:α->Head}{g:α->Int->Int->Trl->List Ent×Trl}(hg:∀a lo hi tr,(g a lo hi tr).2.lost=false->tr.lost=false){t:NodeF α}{lo hi:Int}{tr:Trl}(h:(thruF f g t lo hi tr).2.lost=false):tr.lost=false/\isShut t.hd=false:=by
 unfold thruF at h;exact jQS (jQcv (fun a tr=>hg a lo hi tr) h)
theorem jQdC {α β:Type}{ρ:α->β->Prop}{f:α->Head}{f':β->Head}{g:α->Int->Int->Trl->List Ent×Trl}{g':β->Int->Int->Trl->List Ent×Trl}(hk:Kin ρ f f')(hm:∀a lo hi tr,(g a lo hi tr).2.lost=false->tr.lost=false)
  (hg:∀a b lo hi tr tr',ρ a b->(g a lo hi tr).2.lost=false->(g a lo hi tr).1=(g' b lo hi tr').1) {Q:Head->Prop} {dg:ByteArray} {p:NodeF α} {t:NodeF β} (h:RF ρ Q dg p t) (lo hi:Int) (tr tr':Trl) (hl:(thruF f g p lo hi tr).2.lost=false):(thruF f g p lo hi tr).1=(thruF f' g' t lo hi tr').1:=by
 obtain⟨h1,h2,h3⟩:=h.open_ (jQeb hm hl).2;unfold thruF at hl ⊢;rw[<-h2];exact jQgf hk (fun a tr=>hm a lo hi tr) (fun a b tr tr' hr=>hg a b lo hi tr tr' hr) lo hi h3 _ _ rfl hl
theorem jQjT {α:Type}(es:List Ent):isShut (leafF (α:=α) es).hd=false:=rfl
theorem jQhH {α:Type}(f:α->Head)(cs:List α):isShut (innerF f cs).hd=false:=rfl
theorem jQnm {α β:Type}{ρ:α->β->Prop}{Q:Head->Prop}(dg:ByteArray)(es:List Ent):RF ρ Q dg (leafF es) (leafF es):=⟨rfl,rfl,rfl,Or.inr ⟨rfl,rfl,rfl,Rel2.nil⟩⟩
theorem jQkg {α β:Type}{ρ:α->β->Prop}{f:α->Head}{f':β->Head}(hk:Kin ρ f f'):∀{l:List α} {m:List β},Rel2 ρ l m->firstLeast f l=firstLeast f' m
 | [],[],_=>rfl
 | [],_::_,h=>by have:=h.len;simp at this
 | _::_,[],h=>by have:=h.len;simp at this
 | a::l,b::m,h=>hk.least a b (Rel2.cons.1 h).1
theorem jQl8 {α β:Type}{ρ:α->β->Prop}{f:α->Head}{f':β->Head}(hk:Kin ρ f f'):∀{l:List α} {m:List β},Rel2 ρ l m->sumRows2 f l=sumRows2 f' m
 | [],[],_=>rfl
 | [],_::_,h=>by have:=h.len;simp at this
 | _::_,[],h=>by have:=h.len;simp at this
 | a::l,b::m,h=>by
  obtain⟨h1,h2⟩:=Rel2.cons.1 h
  have:=jQl8 hk h2
  unfold sumRows2 at *;rw[List.map_cons,List.map_cons,List.sum_cons,List.sum_cons,this,hk.rows a b h1]
theorem jQb0 {α β:Type}{ρ:α->β->Prop}{Q:Head->Prop}{f:α->Head}{f':β->Head}(hk:Kin ρ f f')(dg:ByteArray){l:List α}{m:List β}(h:Rel2 ρ l m):RF ρ Q dg (innerF f l) (innerF f' m):=⟨jQkg hk h,jQl8 hk h,rfl,Or.inr ⟨rfl,rfl,rfl,h⟩⟩
def RD {α β:Type}(ρ:α->β->Prop)(Q:Head->Prop)(D:NodeF β->ByteArray)(p:NodeF α)(t:NodeF β):Prop:=RF ρ Q (D t) p t
theorem jQeE {α β:Type}{ρ:α->β->Prop}{Q:Head->Prop}(D:NodeF β->ByteArray)(es:List Ent):Rel2 (RD ρ Q D) (leavesF (α:=α) es) (leavesF (α:=β) es):=by
 unfold leavesF;refine⟨(halve es).map fun x=>(leafF x,leafF x),by rw[List.map_map];rfl,by rw[List.map_map];rfl,fun x hx=>?_⟩;obtain⟨y,-,rfl⟩:=List.mem_map.1 hx;exact jQnm _ _
theorem jQhX {α β:Type}{ρ:α->β->Prop}{Q:Head->Prop}{f:α->Head}{f':β->Head}(hk:Kin ρ f f')(D:NodeF β->ByteArray){l:List α}{m:List β}(h:Rel2 ρ l m):Rel2 (RD ρ Q D) (innersF f l) (innersF f' m):=by
 unfold innersF halve;rw[h.len]
 split
 ·exact Rel2.one (jQb0 hk _ h)
 ·exact(Rel2.one (ρ:=RD ρ Q D) (jQb0 hk _ (h.take 3))).append (Rel2.one (jQb0 hk _ (h.drop 3)))
theorem jQgu {α:Type}{f:α->Head}{g:α->Ent->Trl->List α×Trl}(hg:∀a e tr,(g a e tr).2.lost=false->tr.lost=false){t:NodeF α}{e:Ent}{tr:Trl}(h:(putF f g t e tr).2.lost=false):tr.lost=false/\isShut t.hd=false:=by
 unfold putF at h
 split at h
 ·split at h
  ·exact jQS (hg _ _ _ h)
  ·exact jQS h
 ·exact jQS h
theorem jQgt {α β:Type}{ρ:α->β->Prop}{f:α->Head}{f':β->Head}{g:α->Ent->Trl->List α×Trl}{g':β->Ent->Trl->List β×Trl}(hk:Kin ρ f f')(hm:∀a e tr,(g a e tr).2.lost=false->tr.lost=false)
  (hg:∀a b e tr tr',ρ a b->(g a e tr).2.lost=false->Rel2 ρ (g a e tr).1 (g' b e tr').1) {Q:Head->Prop} {dg:ByteArray} (D:NodeF β->ByteArray) {p:NodeF α} {t:NodeF β} (h:RF ρ Q dg p t) (e:Ent) (tr tr':Trl) (hl:(putF f g p e tr).2.lost=false):Rel2 (RD ρ Q D) (putF f g p e tr).1 (putF f' g' t e tr').1:=by
 obtain⟨h1,h2,h3⟩:=h.open_ (jQgu hm hl).2;unfold putF at hl ⊢;rw[<-h1,<-h2];rw[jQfx hk.least e.place h3] at hl ⊢
 split
 ·rename_i hi;rw[if_pos hi] at hl;cases hc:p.kids[wayF f' t.kids e.place]? with
  | none=>rw[h3.none hc];exact jQeE D _
  | some c =>
   obtain⟨b,hb,hr⟩:=h3.at hc;rw[hc] at hl;rw[hb];exact jQhX hk D (h3.exch (hg c b e _ _ hr hl) _ _)
 ·exact jQeE D _
theorem jQeM {α:Type}{f:α->Head}{tg:α->α->List α}{cs:List α}{a:Nat}{tr:Trl}(h:(joinedF f tg cs a tr).2.lost=false):tr.lost=false:=by
 unfold joinedF at h
 split at h
 ·exact h
 ·split at h
  ·exact(jQS (jQS h).1).1
  ·exact h
theorem jQla {α β:Type}{ρ:α->β->Prop}{f:α->Head}{f':β->Head}{tg:α->α->List α}{tg':β->β->List β}
  (ht:∀a b c d,ρ a b->ρ c d->isShut (f a)=false->isShut (f c)=false->Rel2 ρ (tg a c) (tg' b d)) {l:List α} {m:List β} (h:Rel2 ρ l m) (k:Nat) (tr tr':Trl) (hl:(joinedF f tg l k tr).2.lost=false):Rel2 ρ (joinedF f tg l k tr).1 (joinedF f' tg' m k tr').1:=by
 unfold joinedF at hl ⊢;rw[h.len] at hl ⊢
 split
 ·exact h
 ·rename_i h0;rw[if_neg h0] at hl;cases hc:l[joinAt m.length k]? with
  | none=>rw[h.none hc];exact h
  | some c =>
   obtain⟨b,hb,hr⟩:=h.at hc;rw[hb];rw[hc] at hl;cases hd:l[joinAt m.length k+1]? with
   | none=>rw[h.none hd];exact h
   | some d =>
    obtain⟨e,he,hq⟩:=h.at hd;rw[he];rw[hd] at hl;have h1:=jQS hl;exact h.exch (ht c b d e hr hq (jQS h1.1).2 h1.2) _ _
theorem jQgO {α:Type}{f:α->Head}{sz:α->Nat}{tg:α->α->List α}{g:α->Int->Trl->α×Trl}(hg:∀a k tr,(g a k tr).2.lost=false->tr.lost=false){t:NodeF α}{k:Int}{tr:Trl}(h:(delF f sz tg g t k tr).2.lost=false):tr.lost=false/\isShut t.hd=false/\isShut (delF f sz tg g t k tr).1.hd=false:=by
 have hh:tr.lost=false/\isShut t.hd=false:=by
  unfold delF at h
  split at h
  ·split at h
   ·split at h
    ·exact jQS (hg _ _ _ (jQeM h))
    ·exact jQS (hg _ _ _ h)
   ·exact jQS h
  ·exact jQS h
 refine⟨hh.1,hh.2,?_⟩;unfold delF
 split
 ·split
  ·split
   ·rfl
   ·rfl
  ·exact hh.2
 ·rfl
theorem jQgN {α β:Type}{ρ:α->β->Prop}{f:α->Head}{f':β->Head}{sz:α->Nat}{sz':β->Nat}{tg:α->α->List α}{tg':β->β->List β}{g:α->Int->Trl->α×Trl}{g':β->Int->Trl->β×Trl}(hk:Kin ρ f f')
  (hm:∀a k tr,(g a k tr).2.lost=false->tr.lost=false/\isShut (f (g a k tr).1)=false) (hz:∀a b,ρ a b->isShut (f a)=false->sz a=sz' b)
  (ht:∀a b c d,ρ a b->ρ c d->isShut (f a)=false->isShut (f c)=false->Rel2 ρ (tg a c) (tg' b d))
  (hg:∀a b k tr tr',ρ a b->(g a k tr).2.lost=false->ρ (g a k tr).1 (g' b k tr').1) {Q:Head->Prop} (D:NodeF β->ByteArray) {p:NodeF α} {t:NodeF β} (h:RD ρ Q D p t) (k:Int) (tr tr':Trl) (hl:(delF f sz tg g p k tr).2.lost=false):RD ρ Q D (delF f sz tg g p k tr).1 (delF f' sz' tg' g' t k tr').1:=by
 have h0:=(jQgO (fun a k tr h=>(hm a k tr h).1) hl).2.1;have hj:=RF.open_ h h0;obtain⟨h1,h2,h3⟩:=hj;unfold delF at hl ⊢;rw[<-h1,<-h2];rw[jQfx hk.least k h3] at hl ⊢
 split
 ·rename_i hi;rw[if_pos hi] at hl;cases hc:p.kids[wayF f' t.kids k]? with
  | none=>rw[h3.none hc];exact h
  | some c =>
   obtain⟨b,hb,hr⟩:=h3.at hc;rw[hc] at hl;rw[hb]
   dsimp only at hl ⊢
   have ha:(g c k (touchR tr p.hd)).2.lost=false:=by
    split at hl
    ·exact jQeM hl
    ·exact hl
   have hf:=hg c b k (touchR tr p.hd) (touchR tr' t.hd) hr ha;have hh:=hz _ _ hf (hm _ _ _ ha).2;have he:=h3.exch (Rel2.one hf) (wayF f' t.kids k) 1;rw[hh] at hl ⊢
   split
   ·rename_i hs;rw[if_pos hs] at hl;exact jQb0 hk _ (jQla ht he _ _ _ hl)
   ·exact jQb0 hk _ he
 ·exact jQnm _ _
theorem jQaU {α β:Type}{ρ:α->β->Prop}{f:α->Head}{f':β->Head}(hk:Kin ρ f f'){Q:Head->Prop}(D:NodeF β->ByteArray){a c:NodeF α}{b d:NodeF β}(h:RD ρ Q D a b)(k:RD ρ Q D c d)(ha:isShut a.hd=false)(hc:isShut c.hd=false):Rel2 (RD ρ Q D) (togetherF f a c) (togetherF f' b d):=by
 obtain⟨h1,h2,h3⟩:=RF.open_ h ha;obtain⟨-,k2,k3⟩:=RF.open_ k hc;unfold togetherF;rw[h1,h2,k2]
 split
 ·exact jQhX hk D (h3.append k3)
 ·exact jQeE D _
theorem RN.head (H:ByteArray->ByteArray)(Q:Head->Prop):∀(m n:Nat) (p:Nd m) (t:Nd n),RN H Q m n p t->(headN m p).least=(headN n t).least/\(headN m p).rows=(headN n t).rows/\isShut (headN n t)=false
 | 0,0,_,_,h=>⟨h.1,h.2.1,h.2.2.1⟩
 | 0,_+1,_,_,h=>⟨h.1,h.2.1,h.2.2.1⟩
 | _+1,0,_,_,h=>⟨h.1,h.2.1,h.2.2.1⟩
 | _+1,_+1,_,_,h=>⟨h.1,h.2.1,h.2.2.1⟩
theorem kinN (H:ByteArray->ByteArray)(Q:Head->Prop)(m n:Nat):Kin (RN H Q m n) (headN m) (headN n):=⟨fun a b h=>(RN.head H Q m n a b h).1,fun a b h=>(RN.head H Q m n a b h).2.1,fun a b h=>(RN.head H Q m n a b h).2.2⟩
theorem kin0 {α β:Type}(f:α->Head)(g:β->Head):Kin noRel f g:=⟨fun _ _ h=>h.elim,fun _ _ h=>h.elim,fun _ _ h=>h.elim⟩
theorem jQdR:∀(m:Nat) (p:Nd m) (k:Int) (tr:Trl),(hasN m p k tr).2.lost=false->tr.lost=false
 | 0,_,_,_,h=>(jQgC (fun a=>a.elim) h).1
 | m+1,_,_,_,h=>(jQgC (fun a k tr=>jQdR m a k tr) h).1
theorem jQnH (H:ByteArray->ByteArray)(Q:Head->Prop):∀(m n:Nat) (p:Nd m) (t:Nd n) (k:Int) (tr tr':Trl),RN H Q m n p t->(hasN m p k tr).2.lost=false->(hasN m p k tr).1=(hasN n t k tr').1
 | 0,0,_,_,k,tr,tr',h,hl=>jQgB (kin0 _ _) (fun a=>a.elim) (fun _ _ _ _ _ hr=>hr.elim) h k tr tr' hl
 | 0,n+1,_,_,k,tr,tr',h,hl=>jQgB (f':=headN n) (g':=hasN n) (kin0 _ _) (fun a=>a.elim) (fun _ _ _ _ _ hr=>hr.elim) h k tr tr' hl
 | m+1,0,_,_,k,tr,tr',h,hl=>jQgB (f:=headN m) (g:=hasN m) (kin0 _ _) (fun a k tr=>jQdR m a k tr) (fun _ _ _ _ _ hr=>hr.elim) h k tr tr' hl
 | m+1,n+1,_,_,k,tr,tr',h,hl=>jQgB (kinN H Q m n) (fun a k tr=>jQdR m a k tr) (fun a b k tr tr' hr hl=>jQnH H Q m n a b k tr tr' hr hl) h k tr tr' hl
theorem jQcu:∀(m:Nat) (p:Nd m) (lo hi:Int) (tr:Trl),(thruN m p lo hi tr).2.lost=false->tr.lost=false
 | 0,_,_,_,_,h=>(jQeb (fun a=>a.elim) h).1
 | m+1,_,_,_,_,h=>(jQeb (fun a lo hi tr=>jQcu m a lo hi tr) h).1
theorem jQct (H:ByteArray->ByteArray)(Q:Head->Prop):∀(m n:Nat) (p:Nd m) (t:Nd n) (lo hi:Int) (tr tr':Trl),RN H Q m n p t->(thruN m p lo hi tr).2.lost=false->(thruN m p lo hi tr).1=(thruN n t lo hi tr').1
 | 0,0,_,_,lo,hi,tr,tr',h,hl=>jQdC (kin0 _ _) (fun a=>a.elim) (fun _ _ _ _ _ _ hr=>hr.elim) h lo hi tr tr' hl
 | 0,n+1,_,_,lo,hi,tr,tr',h,hl=>jQdC (f':=headN n) (g':=thruN n) (kin0 _ _) (fun a=>a.elim) (fun _ _ _ _ _ _ hr=>hr.elim) h lo hi tr tr' hl
 | m+1,0,_,_,lo,hi,tr,tr',h,hl=>jQdC (f:=headN m) (g:=thruN m) (kin0 _ _) (fun a lo hi tr=>jQcu m a lo hi tr) (fun _ _ _ _ _ _ hr=>hr.elim) h lo hi tr tr' hl
 | m+1,n+1,_,_,lo,hi,tr,tr',h,hl=>jQdC (kinN H Q m n) (fun a lo hi tr=>jQcu m a lo hi tr) (fun a b lo hi tr tr' hr hl=>jQct H Q m n a b lo hi tr tr' hr hl) h lo hi tr tr' hl
theorem jQdJ:∀(m:Nat) (p:Nd m) (e:Ent) (tr:Trl),(putN m p e tr).2.lost=false->tr.lost=false
 | 0,_,_,_,h=>(jQgu (fun a=>a.elim) h).1
 | m+1,_,_,_,h=>(jQgu (fun a e tr=>jQdJ m a e tr) h).1
theorem jQmG (H:ByteArray->ByteArray)(Q:Head->Prop):∀(m n:Nat) (p:Nd m) (t:Nd n) (e:Ent) (tr tr':Trl),RN H Q m n p t->(putN m p e tr).2.lost=false->Rel2 (RN H Q m n) (putN m p e tr).1 (putN n t e tr').1
 | 0,0,_,_,e,tr,tr',h,hl=>jQgt (kin0 _ _) (fun a=>a.elim) (fun _ _ _ _ _ hr=>hr.elim) (digN H 0) h e tr tr' hl
 | 0,n+1,_,_,e,tr,tr',h,hl=>jQgt (f':=headN n) (g':=putN n) (kin0 _ _) (fun a=>a.elim) (fun _ _ _ _ _ hr=>hr.elim) (digN H (n+1)) h e tr tr' hl
 | m+1,0,_,_,e,tr,tr',h,hl=>jQgt (f:=headN m) (g:=putN m) (kin0 _ _) (fun a e tr=>jQdJ m a e tr) (fun _ _ _ _ _ hr=>hr.elim) (digN H 0) h e tr tr' hl
 | m+1,n+1,_,_,e,tr,tr',h,hl=>jQgt (kinN H Q m n) (fun a e tr=>jQdJ m a e tr) (fun a b e tr tr' hr hl=>jQmG H Q m n a b e tr tr' hr hl) (digN H (n+1)) h e tr tr' hl
theorem jQcB {α β:Type}{ρ:α->β->Prop}{Q:Head->Prop}{dg:ByteArray}{p:NodeF α}{t:NodeF β}(h:RF ρ Q dg p t)(hs:isShut p.hd=false):sizeF p=sizeF t:=by
 obtain⟨h1,h2,h3⟩:=h.open_ hs;unfold sizeF;rw[h1,h2,h3.len]
theorem jQjK (H:ByteArray->ByteArray)(Q:Head->Prop):∀(m n:Nat) (p:Nd m) (t:Nd n),RN H Q m n p t->isShut (headN m p)=false->sizeN m p=sizeN n t
 | 0,0,_,_,h,hs=>jQcB h hs
 | 0,_+1,_,_,h,hs=>jQcB h hs
 | _+1,0,_,_,h,hs=>jQcB h hs
 | _+1,_+1,_,_,h,hs=>jQcB h hs
theorem jQhg (H:ByteArray->ByteArray)(Q:Head->Prop):∀(m n:Nat) (a:Nd m) (b:Nd n) (c:Nd m) (d:Nd n),RN H Q m n a b->RN H Q m n c d->isShut (headN m a)=false->isShut (headN m c)=false->Rel2 (RN H Q m n) (togetherN m a c) (togetherN n b d)
 | 0,0,_,_,_,_,h,k,ha,hc=>jQaU (kin0 _ _) (digN H 0) h k ha hc
 | 0,n+1,_,_,_,_,h,k,ha,hc=>jQaU (kin0 _ (headN n)) (digN H (n+1)) h k ha hc
 | m+1,0,_,_,_,_,h,k,ha,hc=>jQaU (kin0 (headN m) _) (digN H 0) h k ha hc
 | m+1,n+1,_,_,_,_,h,k,ha,hc=>jQaU (kinN H Q m n) (digN H (n+1)) h k ha hc
theorem jQbn:∀(m:Nat) (p:Nd m) (k:Int) (tr:Trl),(delN m p k tr).2.lost=false->tr.lost=false/\isShut (headN m (delN m p k tr).1)=false
 | 0,_,_,_,h=>have h1:=jQgO (fun a=>a.elim) h;⟨h1.1,h1.2.2⟩
 | m+1,_,_,_,h=>have h1:=jQgO (fun a k tr h=>(jQbn m a k tr h).1) h;⟨h1.1,h1.2.2⟩
theorem jQi5 (H:ByteArray->ByteArray)(Q:Head->Prop):∀(m n:Nat) (p:Nd m) (t:Nd n) (k:Int) (tr tr':Trl),RN H Q m n p t->(delN m p k tr).2.lost=false->RN H Q m n (delN m p k tr).1 (delN n t k tr').1
 | 0,0,_,_,k,tr,tr',h,hl=>jQgN (kin0 _ _) (fun a=>a.elim) (fun _ _ hr=>hr.elim) (fun _ _ _ _ hr=>hr.elim) (fun _ _ _ _ _ hr=>hr.elim) (digN H 0) h k tr tr' hl
 | 0,n+1,_,_,k,tr,tr',h,hl=>jQgN (f':=headN n) (sz':=sizeN n) (tg':=togetherN n) (g':=delN n) (kin0 _ _) (fun a=>a.elim) (fun _ _ hr=>hr.elim) (fun _ _ _ _ hr=>hr.elim) (fun _ _ _ _ _ hr=>hr.elim) (digN H (n+1)) h k tr tr' hl
 | m+1,0,_,_,k,tr,tr',h,hl=>jQgN (f:=headN m) (sz:=sizeN m) (tg:=togetherN m) (g:=delN m) (kin0 _ _) (fun a k tr h=>jQbn m a k tr h) (fun _ _ hr=>hr.elim) (fun _ _ _ _ hr=>hr.elim) (fun _ _ _ _ _ hr=>hr.elim) (digN H 0) h k tr tr' hl
 | m+1,n+1,_,_,k,tr,tr',h,hl=>jQgN (kinN H Q m n) (fun a k tr h=>jQbn m a k tr h) (fun a b hr hs=>jQjK H Q m n a b hr hs) (fun a b c d hr hq ha hc=>jQhg H Q m n a b c d hr hq ha hc) (fun a b k tr tr' hr hl=>jQi5 H Q m n a b k tr tr' hr hl) (digN H (n+1)) h k tr tr' hl
end Sq
namespace Sq
theorem jQf4 {α β γ:Type}(g:α->β)(h:α×β->γ):∀l:List α,(l.zip (l.map g)).map h=l.map fun c=>h (c,g c)
 | []=>rfl
 | a::l=>by rw[List.map_cons,List.zip_cons_cons,List.map_cons,jQf4 g h l,List.map_cons]
theorem jQod {α β:Type}{ρ:α->β->Prop}{f:α->Head}{f':β->Head}{dg:α->ByteArray}{dg':β->ByteArray}(hk:Kin ρ f f')(hd:∀a b,ρ a b->dg a=dg' b){p:NodeF α}{t:NodeF β}(h1:p.hd.inner=t.hd.inner)(h2:p.ents=t.ents)(h3:Rel2 ρ p.kids t.kids):bytesF f dg p=bytesF f' dg' t:=by
 unfold bytesF writtenF;rw[jQf4,jQf4]
 have e1:(p.kids.map fun c=>kidBytes (f (c,dg c).1) (c,dg c).2)=t.kids.map fun c=>kidBytes (f' (c,dg' c).1) (c,dg' c).2:=by
  obtain⟨z,e1,e2,h⟩:=h3;rw[e1,e2,List.map_map,List.map_map];refine List.map_congr_left fun x hx=>?_
  have hr:=h x hx;show kidBytes (f x.1) (dg x.1)=kidBytes (f' x.2) (dg' x.2);unfold kidBytes;rw[hk.least _ _ hr,hk.rows _ _ hr,hd _ _ hr]
 have e2:sizeF p=sizeF t:=by
  unfold sizeF;rw[h1,h2,h3.len]
 rw[e1,e2,h1,h2]
theorem jQgL {α β:Type}{H:ByteArray->ByteArray}{ρ:α->β->Prop}{f:α->Head}{f':β->Head}{dg:α->ByteArray}{dg':β->ByteArray}(hk:Kin ρ f f')(hd:∀a b,ρ a b->dg a=dg' b){Q:Head->Prop}{p:NodeF α}{t:NodeF β}(h:RF ρ Q (digF H f' dg' t) p t):digF H f dg p=digF H f' dg' t:=by
 cases hs:isShut p.hd with
 | true =>
  obtain⟨-,-,-,h | h⟩:=h
  ·unfold digF;rw[hs,if_pos rfl,h.2.1];rfl
  ·rw[hs] at h;cases h.1
 | false =>
  obtain⟨h1,h2,h3⟩:=h.open_ hs;have ht:=h.2.2.1;unfold digF;rw[hs,ht,jQod hk hd h1 h2 h3,if_neg (by simp),if_neg (by simp)]
theorem jQi4 (H:ByteArray->ByteArray)(Q:Head->Prop):∀(m n:Nat) (p:Nd m) (t:Nd n),RN H Q m n p t->digN H m p=digN H n t
 | 0,0,_,_,h=>jQgL (kin0 _ _) (fun _ _ hr=>hr.elim) h
 | 0,n+1,_,_,h=>jQgL (f':=headN n) (dg':=digN H n) (kin0 _ _) (fun _ _ hr=>hr.elim) h
 | m+1,0,_,_,h=>jQgL (f:=headN m) (dg:=digN H m) (kin0 _ _) (fun _ _ hr=>hr.elim) h
 | m+1,n+1,_,_,h=>jQgL (kinN H Q m n) (fun a b hr=>jQi4 H Q m n a b hr) h
def RT (H:ByteArray->ByteArray)(Q:Head->Prop)(P X:NTree):Prop:=RN H Q P.d X.d P.t X.t
theorem RT.head {H:ByteArray->ByteArray}{Q:Head->Prop}{P X:NTree}(h:RT H Q P X):P.head.rows=X.head.rows:=(RN.head H Q _ _ _ _ h).2.1
theorem RT.dig {H:ByteArray->ByteArray}{Q:Head->Prop}{P X:NTree}(h:RT H Q P X):digN H P.d P.t=digN H X.d X.t:=jQi4 H Q _ _ _ _ h
theorem jQos {H:ByteArray->ByteArray}{Q:Head->Prop}{m n:Nat}{l:List (Nd m)}{k:List (Nd n)}(h:Rel2 (RN H Q m n) l k):RN H Q (m+1) (n+1) (innerF (headN m) l) (innerF (headN n) k):=jQb0 (kinN H Q m n) _ h
theorem RT.put {H:ByteArray->ByteArray}{Q:Head->Prop}{P X:NTree}(h:RT H Q P X)(e:Ent)(tr tr':Trl)(hl:(P.put e tr).2.lost=false):RT H Q (P.put e tr).1 (X.put e tr').1:=by
 have hr:=jQmG H Q P.d X.d P.t X.t e tr tr' h hl;show RT H Q (upN P.d (putN P.d P.t e tr).1) (upN X.d (putN X.d X.t e tr').1);generalize (putN P.d P.t e tr).1=l at *;generalize (putN X.d X.t e tr').1=k at *
 match l,k,hr with
 | [],[],hr=>exact jQos hr
 | [a],[b],hr=>exact(Rel2.cons.1 hr).1
 | a::c::q,b::d::r,hr=>exact jQos hr
 | [],_::_,hr=>have:=hr.len;simp at this
 | _::_,[],hr=>have:=hr.len;simp at this
 | [a],_::_::_,hr=>have:=hr.len;simp at this
 | _::_::_,[b],hr=>have:=hr.len;simp at this
theorem jQgy {α β:Type}{l:List α}{m:List β}(h:Rel2 noRel l m):l=[]/\m=[]:=by
 obtain⟨z,rfl,rfl,h⟩:=h;cases z with
 | nil=>exact⟨rfl,rfl⟩
 | cons x z=>exact(h x (by simp)).elim
theorem jQnX {n:Nat}{t:NodeF (Nd n)}(h:t.kids=[]):downN (n+1) t=⟨n+1,t⟩:=by
 show(if t.hd.inner then(match t.kids with | [c]=>(⟨n,c⟩:NTree) | _=>⟨n+1,t⟩) else⟨n+1,t⟩)=⟨n+1,t⟩
 rw[h]
 split<;>rfl
theorem RT.down {H:ByteArray->ByteArray}{Q:Head->Prop}:∀{m n:Nat} {p:Nd m} {t:Nd n},RN H Q m n p t->isShut (headN m p)=false->RT H Q (downN m p) (downN n t)
 | 0,0,p,t,h,_=>h
 | 0,n+1,p,t,h,hs=>by
  obtain⟨-,-,h3⟩:=RF.open_ h hs;rw[jQnX (t:=t) (jQgy h3).2];exact h
 | m+1,0,p,t,h,hs=>by
  obtain⟨-,-,h3⟩:=RF.open_ h hs;rw[jQnX (t:=p) (jQgy h3).1];exact h
 | m+1,n+1,p,t,h,hs=>by
  obtain⟨h1,-,h3⟩:=RF.open_ h hs;show RT H Q (if(NodeF.hd p).inner then(match NodeF.kids p with | [c]=>⟨m,c⟩ | _=>⟨m+1,p⟩) else⟨m+1,p⟩) (if(NodeF.hd t).inner then(match NodeF.kids t with | [c]=>⟨n,c⟩ | _=>⟨n+1,t⟩) else⟨n+1,t⟩);rw[<-h1]
  split
  ·match hk:NodeF.kids p,hj:NodeF.kids t,h3 with
   | [a],[b],h3=>exact(Rel2.cons.1 h3).1
   | [],[],h3=>exact h
   | a::c::q,b::d::r,h3=>exact h
   | [],_::_,h3=>have:=h3.len;simp at this
   | _::_,[],h3=>have:=h3.len;simp at this
   | [a],_::_::_,h3=>have:=h3.len;simp at this
   | _::_::_,[b],h3=>have:=h3.len;simp at this
  ·exact h
theorem RT.del {H:ByteArray->ByteArray}{Q:Head->Prop}{P X:NTree}(h:RT H Q P X)(k:Int)(tr tr':Trl)(hl:(P.del k tr).2.lost=false):RT H Q (P.del k tr).1 (X.del k tr').1 :=
 RT.down (jQi5 H Q P.d X.d P.t X.t k tr tr' h hl) (jQbn P.d P.t k tr hl).2
theorem jQhO {b:Bool}{tr:Trl}(h:(loseIf b tr).lost=false):tr.lost=false/\b=false:=by
 unfold loseIf at h;simpa using h
theorem jQl3 {X:NTree}{tr:Trl}(h:(tabsR X tr).2.lost=false):(X.thru (placeOf 0 (-2147483648)) (placeOf 0 2147483647) tr).2.lost=false:=(jQhO h).1
theorem jQjE {H:ByteArray->ByteArray}{Q:Head->Prop}{P X:NTree}(h:RT H Q P X)(tr tr':Trl)(hl:(tabsR P tr).2.lost=false):(tabsR P tr).1=(tabsR X tr').1:=by
 have h1:=jQct H Q P.d X.d P.t X.t (placeOf 0 (-2147483648)) (placeOf 0 2147483647) tr tr' h (jQl3 hl);unfold tabsR NTree.thru
 dsimp only
 rw[h1]
theorem jQo0 {H:ByteArray->ByteArray}{Q:Head->Prop}{P X:NTree}(h:RT H Q P X)(t:TabN)(lo hi:Int)(tr tr':Trl)(hl:(rowsR P t lo hi tr).2.lost=false):(rowsR P t lo hi tr).1=(rowsR X t lo hi tr').1:=by
 have h1:=jQct H Q P.d X.d P.t X.t (placeOf t.number lo) (placeOf t.number hi) tr tr' h (jQhO hl).1;unfold rowsR NTree.thru
 dsimp only
 rw[h1]
theorem jQhn {X:NTree}{t:TabN}{w:List StepS}{tr:Trl}(h:(spannedR X t w tr).2.lost=false):tr.lost=false:=by
 unfold spannedR at h
 split at h
 ·exact jQcu _ _ _ _ _ (jQhO h).1
 ·exact h
theorem jQiF {H:ByteArray->ByteArray}{Q:Head->Prop}{P X:NTree}(h:RT H Q P X)(t:TabN)(w:List StepS)(tr tr':Trl)(hl:(spannedR P t w tr).2.lost=false):(spannedR P t w tr).1=(spannedR X t w tr').1:=by
 unfold spannedR at hl ⊢
 split
 ·rename_i hc;rw[if_pos hc] at hl;exact jQo0 h t _ _ tr tr' hl
 ·rfl
theorem jQfl {X:NTree}{t:TabN}{st:PSt}{tr:Trl}(h:(decideTabR X t st tr).2.lost=false):tr.lost=false:=by
 unfold decideTabR at h
 split at h
 ·exact h
 ·split at h
  ·exact jQdR _ _ _ _ h
  ·exact jQhn h
theorem jQgP {H:ByteArray->ByteArray}{Q:Head->Prop}{P X:NTree}(h:RT H Q P X)(t:TabN)(st:PSt)(tr tr':Trl)(hl:(decideTabR P t st tr).2.lost=false):(decideTabR P t st tr).1=(decideTabR X t st tr').1:=by
 unfold decideTabR at hl ⊢
 split
 ·rfl
 ·rename_i h1;rw[if_neg h1] at hl
  split
  ·rename_i h2;rw[if_pos h2] at hl;have h3:=jQnH H Q P.d X.d P.t X.t (placeOf t.number (keyOf st.vals)) tr tr' h hl;unfold insertR NTree.has
   dsimp only
   rw[h3,h.head]
  ·rename_i h2;rw[if_neg h2] at hl
   dsimp only at hl ⊢
   rw[jQiF h t st.wher tr tr' hl]
theorem jQcR {X:NTree}{st:PSt}{ts:List TabN}{tr:Trl}(h:(decideStR X st ts tr).2.lost=false):tr.lost=false:=by
 unfold decideStR at h
 split at h
 ·exact h
 ·split at h
  ·exact jQfl h
  ·exact h
theorem jQdc {H:ByteArray->ByteArray}{Q:Head->Prop}{P X:NTree}(h:RT H Q P X)(sql:ByteArray)(tr tr':Trl)(hl:(decideR P sql tr).2.lost=false):(decideR P sql tr).1=(decideR X sql tr').1:=by
 unfold decideR at hl ⊢
 split
 ·rfl
 ·rename_i h1;rw[if_neg h1] at hl;have h2:=jQjE h tr tr' (jQcR hl);rw[<-h2];unfold decideStR at hl ⊢
  split
  ·rw[h.head]
  ·rename_i h3;rw[if_neg h3] at hl;cases hf:findR (parse sql).2.table (tabsR P tr).1 with
   | none=>rfl
   | some t =>
    rw[hf] at hl;exact jQgP h t _ _ _ hl
theorem jQmC {X:NTree}{e:Ent}{tr:Trl}(h:(X.put e tr).2.lost=false):tr.lost=false:=jQdJ _ _ _ _ h
theorem jQq0 {X:NTree}{k:Int}{tr:Trl}(h:(X.del k tr).2.lost=false):tr.lost=false:=(jQbn _ _ _ _ h).1
theorem jQng {o:OutR}{x:NTree×Trl}(h:(madeR o x).2.lost=false):x.2.lost=false:=by
 unfold madeR at h
 split at h
 ·exact jQmC h
 ·exact h
theorem jQeo (tb:Int):∀{l:List (List Val)} {x:NTree×Trl},(putsR tb l x).2.lost=false->x.2.lost=false
 | [],_,h=>h
 | r::l,x,h=>jQmC (jQeo tb (l:=l) h)
theorem jQeY (tb:Int):∀{l:List Int} {x:NTree×Trl},(cutsR tb l x).2.lost=false->x.2.lost=false
 | [],_,h=>h
 | k::l,x,h=>jQq0 (jQeY tb (l:=l) h)
theorem jQgA {H:ByteArray->ByteArray}{Q:Head->Prop}(o:OutR){x y:NTree×Trl}(h:RT H Q x.1 y.1)(hl:(madeR o x).2.lost=false):RT H Q (madeR o x).1 (madeR o y).1:=by
 unfold madeR at hl ⊢
 split
 ·rename_i hc;rw[if_pos hc] at hl;exact h.put _ _ _ hl
 ·exact h
theorem jQgr {H:ByteArray->ByteArray}{Q:Head->Prop}(tb:Int):∀{l:List (List Val)} {x y:NTree×Trl},RT H Q x.1 y.1->(putsR tb l x).2.lost=false->RT H Q (putsR tb l x).1 (putsR tb l y).1
 | [],_,_,h,_=>h
 | r::l,x,y,h,hl=>jQgr tb (l:=l) (h.put _ x.2 y.2 (jQeo tb (l:=l) hl)) hl
theorem jQks {H:ByteArray->ByteArray}{Q:Head->Prop}(tb:Int):∀{l:List Int} {x y:NTree×Trl},RT H Q x.1 y.1->(cutsR tb l x).2.lost=false->RT H Q (cutsR tb l x).1 (cutsR tb l y).1
 | [],_,_,h,_=>h
 | k::l,x,y,h,hl=>jQks tb (l:=l) (h.del _ x.2 y.2 (jQeY tb (l:=l) hl)) hl
theorem jQom {H:ByteArray->ByteArray}{Q:Head->Prop}(o:OutR){x y:NTree×Trl}(h:RT H Q x.1 y.1)(hl:(applyR o x).2.lost=false):RT H Q (applyR o x).1 (applyR o y).1/\x.2.lost=false:=by
 unfold applyR at hl ⊢;have h1:=jQeY _ hl;have h2:=jQeo _ h1;exact⟨jQks _ (jQgr _ (jQgA o h h2) h1) hl,jQng h2⟩
theorem jQqp {H:ByteArray->ByteArray}{Q:Head->Prop}{P X:NTree}(h:RT H Q P X)(sql:ByteArray)(tr tr':Trl)(hl:(runR P sql tr).2.2.lost=false):(runR P sql tr).1=(runR X sql tr').1/\RT H Q (runR P sql tr).2.1 (runR X sql tr').2.1:=by
 unfold runR at hl ⊢
 dsimp only at hl ⊢
 have h1:=jQom (H:=H) (Q:=Q) (decideR P sql tr).1 (x:=(P,(decideR P sql tr).2)) (y:=(X,(decideR X sql tr').2)) h hl;have h2:=jQdc h sql tr tr' h1.2;rw[h2] at h1 ⊢;exact⟨rfl,h1.1⟩
end Sq
namespace Sq
def within (S:List Int)(tr:Trl):Prop:=∀k∈tr.nums,k∈S
def apart (S:List Int)(h:Head):Prop:=0<h.num/\h.num ∉ S
def grows (a b:Trl):Prop:=∀k∈a.nums,k∈b.nums
theorem grows.refl (a:Trl):grows a a:=fun _ h=>h
theorem grows.trans {a b c:Trl}(h:grows a b)(k:grows b c):grows a c:=fun x hx=>k x (h x hx)
theorem jQ1 (tr:Trl)(h:Head):grows tr (touchR tr h):=jQoH tr h
theorem within.of {S:List Int}{a b:Trl}(h:within S b)(g:grows a b):within S a:=fun k hk=>h k (g k hk)
theorem jQh2 (b:Bool)(tr:Trl):grows tr (loseIf b tr):=fun _ h=>h
theorem jQcq {α β:Type}{ρ:α->β->Prop}{S:List Int}{dg:ByteArray}{p:NodeF α}{t:NodeF β}(h:RF ρ (apart S) dg p t){tr tr':Trl}(hl:tr.lost=false)(hS:within S (touchR tr' t.hd)):isShut p.hd=false/\(touchR tr p.hd).lost=false:=by
 have hs:isShut p.hd=false:=by
  cases hs:isShut p.hd with
  | false=>rfl
  | true =>
   exfalso
   obtain⟨-,-,-,h | h⟩:=h
   ·obtain⟨h1,h2⟩:=h.2.2.2.2.2;exact h2 (hS _ (jQgd tr' t.hd h1))
   ·rw[hs] at h;cases h.1
 exact⟨hs,by rw[jQaH hs,hl]⟩
theorem jQeQ {α:Type}{f:α->Head}{g:α->Int->Trl->Bool×Trl}(hg:∀a k tr,grows tr (g a k tr).2)(t:NodeF α)(k:Int)(tr:Trl):grows (touchR tr t.hd) (hasF f g t k tr).2:=by
 unfold hasF
 split
 ·split
  ·exact hg _ _ _
  ·exact grows.refl _
 ·exact grows.refl _
theorem jQdS {α β:Type}{ρ:α->β->Prop}{S:List Int}{f:α->Head}{f':β->Head}{g:α->Int->Trl->Bool×Trl}{g':β->Int->Trl->Bool×Trl}(hk:Kin ρ f f')(hm:∀b k tr,grows tr (g' b k tr).2)
  (hg:∀a b k tr tr',ρ a b->tr.lost=false->within S (g' b k tr').2->(g a k tr).2.lost=false) {dg:ByteArray} {p:NodeF α} {t:NodeF β} (h:RF ρ (apart S) dg p t) (k:Int) (tr tr':Trl) (hl:tr.lost=false) (hS:within S (hasF f' g' t k tr').2):(hasF f g p k tr).2.lost=false:=by
 have h0:=jQcq h hl (hS.of (jQeQ hm t k tr'));obtain⟨h1,h2,h3⟩:=h.open_ h0.1;unfold hasF at hS ⊢;rw[h1,jQfx hk.least k h3]
 split
 ·rename_i hi;rw[if_pos hi] at hS;cases hc:p.kids[wayF f' t.kids k]? with
  | none=>exact h0.2
  | some c =>
   obtain⟨b,hb,hr⟩:=h3.at hc;rw[hb] at hS;exact hg c b k _ _ hr h0.2 hS
 ·exact h0.2
theorem jQbR {α:Type}{f:α->Head}{g:α->Trl->List Ent×Trl}(hg:∀a tr,grows tr (g a tr).2)(lo hi:Int):∀(l:List α) (x:List Ent×Trl),grows x.2 (thruL f g lo hi l x).2
 | [],x=>grows.refl _
 | c::r,x=>by
  rw[thruL]
  split
  ·exact(hg c x.2).trans (jQbR hg lo hi r (x.1++(g c x.2).1,(g c x.2).2))
  ·exact jQbR hg lo hi r x
theorem jQea {α β:Type}{ρ:α->β->Prop}{S:List Int}{f:α->Head}{f':β->Head}{g:α->Trl->List Ent×Trl}{g':β->Trl->List Ent×Trl}(hk:Kin ρ f f')(hm:∀b tr,grows tr (g' b tr).2)
  (hg:∀a b tr tr',ρ a b->tr.lost=false->within S (g' b tr').2->(g a tr).2.lost=false) (lo hi:Int):∀{l:List α} {m:List β},Rel2 ρ l m->∀(x y:List Ent×Trl),x.2.lost=false->within S (thruL f' g' lo hi m y).2->(thruL f g lo hi l x).2.lost=false
 | [],[],_,x,y,hl,_=>hl
 | [],_::_,h,_,_,_,_=>by have:=h.len;simp at this
 | _::_,[],h,_,_,_,_=>by have:=h.len;simp at this
 | a::l,b::m,h,x,y,hl,hS=>by
  obtain⟨h1,h2⟩:=Rel2.cons.1 h;rw[thruL] at hS ⊢;rw[hk.least a b h1,jQfO hk lo h2]
  split
  ·rename_i hc;rw[if_pos hc] at hS;exact jQea hk hm hg lo hi h2 _ _ (hg a b x.2 y.2 h1 hl (hS.of (jQbR hm lo hi m (y.1++(g' b y.2).1,(g' b y.2).2)))) hS
  ·rename_i hc;rw[if_neg hc] at hS;exact jQea hk hm hg lo hi h2 x y hl hS
theorem jQa6 {α:Type}{f:α->Head}{g:α->Int->Int->Trl->List Ent×Trl}(hg:∀a lo hi tr,grows tr (g a lo hi tr).2)(t:NodeF α)(lo hi:Int)(tr:Trl):grows (touchR tr t.hd) (thruF f g t lo hi tr).2:=jQbR (fun a tr=>hg a lo hi tr) lo hi t.kids (t.ents.filter (inSpan lo hi),touchR tr t.hd)
theorem jQcw {α β:Type}{ρ:α->β->Prop}{S:List Int}{f:α->Head}{f':β->Head}{g:α->Int->Int->Trl->List Ent×Trl}{g':β->Int->Int->Trl->List Ent×Trl}(hk:Kin ρ f f')(hm:∀b lo hi tr,grows tr (g' b lo hi tr).2)
  (hg:∀a b lo hi tr tr',ρ a b->tr.lost=false->within S (g' b lo hi tr').2->(g a lo hi tr).2.lost=false) {dg:ByteArray} {p:NodeF α} {t:NodeF β} (h:RF ρ (apart S) dg p t) (lo hi:Int) (tr tr':Trl) (hl:tr.lost=false) (hS:within S (thruF f' g' t lo hi tr').2):(thruF f g p lo hi tr).2.lost=false:=by
 have h0:=jQcq h hl (hS.of (jQa6 hm t lo hi tr'));obtain⟨h1,h2,h3⟩:=h.open_ h0.1;unfold thruF at hS ⊢;exact jQea hk (fun b tr=>hm b lo hi tr) (fun a b tr tr'=>hg a b lo hi tr tr') lo hi h3 _ _ h0.2 hS
theorem jQeq {α:Type}{f:α->Head}{g:α->Ent->Trl->List α×Trl}(hg:∀a e tr,grows tr (g a e tr).2)(t:NodeF α)(e:Ent)(tr:Trl):grows (touchR tr t.hd) (putF f g t e tr).2:=by
 unfold putF
 split
 ·split
  ·exact hg _ _ _
  ·exact grows.refl _
 ·exact grows.refl _
theorem jQdK {α β:Type}{ρ:α->β->Prop}{S:List Int}{f:α->Head}{f':β->Head}{g:α->Ent->Trl->List α×Trl}{g':β->Ent->Trl->List β×Trl}(hk:Kin ρ f f')(hm:∀b e tr,grows tr (g' b e tr).2)
  (hg:∀a b e tr tr',ρ a b->tr.lost=false->within S (g' b e tr').2->(g a e tr).2.lost=false) {dg:ByteArray} {p:NodeF α} {t:NodeF β} (h:RF ρ (apart S) dg p t) (e:Ent) (tr tr':Trl) (hl:tr.lost=false) (hS:within S (putF f' g' t e tr').2):(putF f g p e tr).2.lost=false:=by
 have h0:=jQcq h hl (hS.of (jQeq hm t e tr'));obtain⟨h1,h2,h3⟩:=h.open_ h0.1;unfold putF at hS ⊢;rw[h1,jQfx hk.least e.place h3]
 split
 ·rename_i hi;rw[if_pos hi] at hS;cases hc:p.kids[wayF f' t.kids e.place]? with
  | none=>exact h0.2
  | some c =>
   obtain⟨b,hb,hr⟩:=h3.at hc;rw[hb] at hS;exact hg c b e _ _ hr h0.2 hS
 ·exact h0.2
theorem jQdr {α:Type}(f:α->Head)(tg:α->α->List α)(cs:List α)(a:Nat)(tr:Trl):grows tr (joinedF f tg cs a tr).2:=by
 unfold joinedF
 split
 ·exact grows.refl _
 ·split
  ·exact(jQ1 _ _).trans (jQ1 _ _)
  ·exact grows.refl _
def Seen {α β:Type}(ρ:α->β->Prop)(S:List Int)(f:α->Head)(f':β->Head):Prop:=∀a b,ρ a b->isShut (f a)=true->apart S (f' b)
theorem jQjL {α β:Type}{ρ:α->β->Prop}{S:List Int}{f:α->Head}{f':β->Head}(hs:Seen ρ S f f'){a:α}{b:β}(h:ρ a b){tr tr':Trl}(hl:tr.lost=false)(hS:within S (touchR tr' (f' b))):(touchR tr (f a)).lost=false:=by
 cases hc:isShut (f a) with
 | false=>rw[jQaH hc,hl]
 | true =>
  exfalso
  obtain⟨h1,h2⟩:=hs a b h hc;exact h2 (hS _ (jQgd tr' (f' b) h1))
theorem jQiY {α β:Type}{ρ:α->β->Prop}{S:List Int}{f:α->Head}{f':β->Head}{tg:α->α->List α}{tg':β->β->List β}(hs:Seen ρ S f f'){l:List α}{m:List β}(h:Rel2 ρ l m)(k:Nat)(tr tr':Trl)(hl:tr.lost=false)(hS:within S (joinedF f' tg' m k tr').2):(joinedF f tg l k tr).2.lost=false:=by
 unfold joinedF at hS ⊢;rw[h.len]
 split
 ·exact hl
 ·rename_i h0;rw[if_neg h0] at hS;cases hc:l[joinAt m.length k]? with
  | none=>exact hl
  | some c =>
   obtain⟨b,hb,hr⟩:=h.at hc;rw[hb] at hS;cases hd:l[joinAt m.length k+1]? with
   | none=>exact hl
   | some d =>
    obtain⟨e,he,hq⟩:=h.at hd;rw[he] at hS;exact jQjL hs hq (jQjL hs hr hl (hS.of (jQ1 _ _))) hS
theorem jQeV {α:Type}{f:α->Head}{sz:α->Nat}{tg:α->α->List α}{g:α->Int->Trl->α×Trl}(hg:∀a k tr,grows tr (g a k tr).2)(t:NodeF α)(k:Int)(tr:Trl):grows (touchR tr t.hd) (delF f sz tg g t k tr).2:=by
 unfold delF
 split
 ·split
  ·split
   ·exact(hg _ _ _).trans (jQdr _ _ _ _ _)
   ·exact hg _ _ _
  ·exact grows.refl _
 ·exact grows.refl _
theorem jQdV {α β:Type}{ρ:α->β->Prop}{S:List Int}{f:α->Head}{f':β->Head}{sz:α->Nat}{sz':β->Nat}{tg:α->α->List α}{tg':β->β->List β}{g:α->Int->Trl->α×Trl}{g':β->Int->Trl->β×Trl}(hk:Kin ρ f f')(hs:Seen ρ S f f')
  (hm:∀b k tr,grows tr (g' b k tr).2) (ho:∀a k tr,(g a k tr).2.lost=false->isShut (f (g a k tr).1)=false) (hz:∀a b,ρ a b->isShut (f a)=false->sz a=sz' b)
  (hr:∀a b k tr tr',ρ a b->(g a k tr).2.lost=false->ρ (g a k tr).1 (g' b k tr').1)
  (hg:∀a b k tr tr',ρ a b->tr.lost=false->within S (g' b k tr').2->(g a k tr).2.lost=false) {dg:ByteArray} {p:NodeF α} {t:NodeF β} (h:RF ρ (apart S) dg p t) (k:Int) (tr tr':Trl) (hl:tr.lost=false) (hS:within S (delF f' sz' tg' g' t k tr').2):(delF f sz tg g p k tr).2.lost=false:=by
 have h0:=jQcq h hl (hS.of (jQeV hm t k tr'));obtain⟨h1,h2,h3⟩:=h.open_ h0.1;unfold delF at hS ⊢;rw[h1,jQfx hk.least k h3]
 split
 ·rename_i hi;rw[if_pos hi] at hS;cases hc:p.kids[wayF f' t.kids k]? with
  | none=>exact h0.2
  | some c =>
   obtain⟨b,hb,hq⟩:=h3.at hc;rw[hb] at hS
   dsimp only at hS ⊢
   have hh:within S (g' b k (touchR tr' t.hd)).2:=by
    split at hS
    ·exact hS.of (jQdr _ _ _ _ _)
    ·exact hS
   have ha:=hg c b k _ _ hq h0.2 hh;have he:=hr c b k (touchR tr p.hd) (touchR tr' t.hd) hq ha;have hf:=hz _ _ he (ho _ _ _ ha);rw[hf]
   split
   ·rename_i hc2;rw[if_pos hc2] at hS;exact jQiY hs (h3.exch (Rel2.one he) _ 1) _ _ _ ha hS
   ·exact ha
 ·exact h0.2
theorem jQcM:∀(n:Nat) (t:Nd n) (k:Int) (tr:Trl),grows tr (hasN n t k tr).2
 | 0,t,k,tr=>(jQ1 tr _).trans (jQeQ (fun a=>a.elim) t k tr)
 | n+1,t,k,tr=>(jQ1 tr _).trans (jQeQ (fun a k tr=>jQcM n a k tr) t k tr)
theorem jQa5:∀(n:Nat) (t:Nd n) (lo hi:Int) (tr:Trl),grows tr (thruN n t lo hi tr).2
 | 0,t,lo,hi,tr=>(jQ1 tr _).trans (jQa6 (fun a=>a.elim) t lo hi tr)
 | n+1,t,lo,hi,tr=>(jQ1 tr _).trans (jQa6 (fun a lo hi tr=>jQa5 n a lo hi tr) t lo hi tr)
theorem jQbE:∀(n:Nat) (t:Nd n) (e:Ent) (tr:Trl),grows tr (putN n t e tr).2
 | 0,t,e,tr=>(jQ1 tr _).trans (jQeq (fun a=>a.elim) t e tr)
 | n+1,t,e,tr=>(jQ1 tr _).trans (jQeq (fun a e tr=>jQbE n a e tr) t e tr)
theorem jQcQ:∀(n:Nat) (t:Nd n) (k:Int) (tr:Trl),grows tr (delN n t k tr).2
 | 0,t,k,tr=>(jQ1 tr _).trans (jQeV (fun a=>a.elim) t k tr)
 | n+1,t,k,tr=>(jQ1 tr _).trans (jQeV (fun a k tr=>jQcQ n a k tr) t k tr)
theorem seenN (H:ByteArray->ByteArray)(S:List Int):∀m n:Nat,Seen (RN H (apart S) m n) S (headN m) (headN n)
 | 0,0,_,_,h,hs=>by obtain⟨-,-,-,h | h⟩:=h;exact h.2.2.2.2.2;exact absurd (hs.symm.trans h.1) (by simp)
 | 0,_+1,_,_,h,hs=>by obtain⟨-,-,-,h | h⟩:=h;exact h.2.2.2.2.2;exact absurd (hs.symm.trans h.1) (by simp)
 | _+1,0,_,_,h,hs=>by obtain⟨-,-,-,h | h⟩:=h;exact h.2.2.2.2.2;exact absurd (hs.symm.trans h.1) (by simp)
 | _+1,_+1,_,_,h,hs=>by obtain⟨-,-,-,h | h⟩:=h;exact h.2.2.2.2.2;exact absurd (hs.symm.trans h.1) (by simp)
theorem seen0 {α β:Type}(S:List Int)(f:α->Head)(g:β->Head):Seen noRel S f g:=fun _ _ h=>h.elim
theorem jQkd (H:ByteArray->ByteArray)(S:List Int):∀(m n:Nat) (p:Nd m) (t:Nd n) (k:Int) (tr tr':Trl),RN H (apart S) m n p t->tr.lost=false->within S (hasN n t k tr').2->(hasN m p k tr).2.lost=false
 | 0,0,_,_,k,tr,tr',h,hl,hS=>jQdS (kin0 _ _) (fun b=>b.elim) (fun _ _ _ _ _ hr=>hr.elim) h k tr tr' hl hS
 | 0,n+1,_,_,k,tr,tr',h,hl,hS=>jQdS (f':=headN n) (g':=hasN n) (kin0 _ _) (fun b k tr=>jQcM n b k tr) (fun _ _ _ _ _ hr=>hr.elim) h k tr tr' hl hS
 | m+1,0,_,_,k,tr,tr',h,hl,hS=>jQdS (f:=headN m) (g:=hasN m) (kin0 _ _) (fun b=>b.elim) (fun _ _ _ _ _ hr=>hr.elim) h k tr tr' hl hS
 | m+1,n+1,_,_,k,tr,tr',h,hl,hS=>jQdS (kinN H (apart S) m n) (fun b k tr=>jQcM n b k tr) (fun a b k tr tr' hr=>jQkd H S m n a b k tr tr' hr) h k tr tr' hl hS
theorem jQd7 (H:ByteArray->ByteArray)(S:List Int):∀(m n:Nat) (p:Nd m) (t:Nd n) (lo hi:Int) (tr tr':Trl),RN H (apart S) m n p t->tr.lost=false->within S (thruN n t lo hi tr').2->(thruN m p lo hi tr).2.lost=false
 | 0,0,_,_,lo,hi,tr,tr',h,hl,hS=>jQcw (kin0 _ _) (fun b=>b.elim) (fun _ _ _ _ _ _ hr=>hr.elim) h lo hi tr tr' hl hS
 | 0,n+1,_,_,lo,hi,tr,tr',h,hl,hS=>jQcw (f':=headN n) (g':=thruN n) (kin0 _ _) (fun b lo hi tr=>jQa5 n b lo hi tr) (fun _ _ _ _ _ _ hr=>hr.elim) h lo hi tr tr' hl hS
 | m+1,0,_,_,lo,hi,tr,tr',h,hl,hS=>jQcw (f:=headN m) (g:=thruN m) (kin0 _ _) (fun b=>b.elim) (fun _ _ _ _ _ _ hr=>hr.elim) h lo hi tr tr' hl hS
 | m+1,n+1,_,_,lo,hi,tr,tr',h,hl,hS=>jQcw (kinN H (apart S) m n) (fun b lo hi tr=>jQa5 n b lo hi tr) (fun a b lo hi tr tr' hr=>jQd7 H S m n a b lo hi tr tr' hr) h lo hi tr tr' hl hS
theorem jQgs (H:ByteArray->ByteArray)(S:List Int):∀(m n:Nat) (p:Nd m) (t:Nd n) (e:Ent) (tr tr':Trl),RN H (apart S) m n p t->tr.lost=false->within S (putN n t e tr').2->(putN m p e tr).2.lost=false
 | 0,0,_,_,e,tr,tr',h,hl,hS=>jQdK (kin0 _ _) (fun b=>b.elim) (fun _ _ _ _ _ hr=>hr.elim) h e tr tr' hl hS
 | 0,n+1,_,_,e,tr,tr',h,hl,hS=>jQdK (f':=headN n) (g':=putN n) (kin0 _ _) (fun b e tr=>jQbE n b e tr) (fun _ _ _ _ _ hr=>hr.elim) h e tr tr' hl hS
 | m+1,0,_,_,e,tr,tr',h,hl,hS=>jQdK (f:=headN m) (g:=putN m) (kin0 _ _) (fun b=>b.elim) (fun _ _ _ _ _ hr=>hr.elim) h e tr tr' hl hS
 | m+1,n+1,_,_,e,tr,tr',h,hl,hS=>jQdK (kinN H (apart S) m n) (fun b e tr=>jQbE n b e tr) (fun a b e tr tr' hr=>jQgs H S m n a b e tr tr' hr) h e tr tr' hl hS
theorem jQkq (H:ByteArray->ByteArray)(S:List Int):∀(m n:Nat) (p:Nd m) (t:Nd n) (k:Int) (tr tr':Trl),RN H (apart S) m n p t->tr.lost=false->within S (delN n t k tr').2->(delN m p k tr).2.lost=false
 | 0,0,_,_,k,tr,tr',h,hl,hS=>jQdV (kin0 _ _) (seen0 _ _ _) (fun b=>b.elim) (fun a=>a.elim) (fun _ _ hr=>hr.elim) (fun _ _ _ _ _ hr=>hr.elim) (fun _ _ _ _ _ hr=>hr.elim) h k tr tr' hl hS
 | 0,n+1,_,_,k,tr,tr',h,hl,hS=>jQdV (f':=headN n) (sz':=sizeN n) (tg':=togetherN n) (g':=delN n) (kin0 _ _) (seen0 _ _ _) (fun b k tr=>jQcQ n b k tr) (fun a=>a.elim) (fun _ _ hr=>hr.elim) (fun _ _ _ _ _ hr=>hr.elim) (fun _ _ _ _ _ hr=>hr.elim) h k tr tr' hl hS
 | m+1,0,_,_,k,tr,tr',h,hl,hS=>jQdV (f:=headN m) (sz:=sizeN m) (tg:=togetherN m) (g:=delN m) (kin0 _ _) (seen0 _ _ _) (fun b=>b.elim) (fun a k tr h=>(jQbn m a k tr h).2) (fun _ _ hr=>hr.elim) (fun _ _ _ _ _ hr=>hr.elim) (fun _ _ _ _ _ hr=>hr.elim) h k tr tr' hl hS
 | m+1,n+1,_,_,k,tr,tr',h,hl,hS=>jQdV (kinN H (apart S) m n) (seenN H S m n) (fun b k tr=>jQcQ n b k tr) (fun a k tr h=>(jQbn m a k tr h).2) (fun a b hr hs=>jQjK H (apart S) m n a b hr hs) (fun a b k tr tr' hr hl=>jQi5 H (apart S) m n a b k tr tr' hr hl) (fun a b k tr tr' hr=>jQkq H S m n a b k tr tr' hr) h k tr tr' hl hS
end Sq
namespace Sq
theorem jQkT (X:NTree)(t:TabN)(lo hi:Int)(tr:Trl):grows tr (rowsR X t lo hi tr).2:=(jQa5 X.d X.t _ _ tr).trans (jQh2 _ _)
theorem jQgk (X:NTree)(t:TabN)(w:List StepS)(tr:Trl):grows tr (spannedR X t w tr).2:=by
 unfold spannedR
 split
 ·exact jQkT _ _ _ _ _
 ·exact grows.refl _
theorem jQeW (X:NTree)(t:TabN)(st:PSt)(tr:Trl):grows tr (decideTabR X t st tr).2:=by
 unfold decideTabR
 split
 ·exact grows.refl _
 ·split
  ·exact jQcM _ _ _ _
  ·exact jQgk _ _ _ _
theorem jQcb (X:NTree)(st:PSt)(ts:List TabN)(tr:Trl):grows tr (decideStR X st ts tr).2:=by
 unfold decideStR
 split
 ·exact grows.refl _
 ·split
  ·exact jQeW _ _ _ _
  ·exact grows.refl _
theorem jQk6 (o:OutR)(x:NTree×Trl):grows x.2 (madeR o x).2:=by
 unfold madeR
 split
 ·exact jQbE _ _ _ _
 ·exact grows.refl _
theorem jQbU (tb:Int):∀(l:List (List Val)) (x:NTree×Trl),grows x.2 (putsR tb l x).2
 | [],_=>grows.refl _
 | r::l,x=>(jQbE x.1.d x.1.t ⟨placeOf tb (keyOf r),ofCells r⟩ x.2).trans (jQbU tb l (x.1.put ⟨placeOf tb (keyOf r),ofCells r⟩ x.2))
theorem jQbb (tb:Int):∀(l:List Int) (x:NTree×Trl),grows x.2 (cutsR tb l x).2
 | [],_=>grows.refl _
 | k::l,x=>(jQcQ x.1.d x.1.t (placeOf tb k) x.2).trans (jQbb tb l (x.1.del (placeOf tb k) x.2))
theorem jQp2 {b:Bool}{tr:Trl}(h:tr.lost=false)(hb:b=false):(loseIf b tr).lost=false:=by
 unfold loseIf;simp[h,hb]
theorem jQl4 {H:ByteArray->ByteArray}{S:List Int}{P X:NTree}(h:RT H (apart S) P X)(tr tr':Trl)(hl:tr.lost=false)(hX:(tabsR X tr').2.lost=false)(hS:within S (tabsR X tr').2):(tabsR P tr).2.lost=false:=by
 have h1:=jQd7 H S P.d X.d P.t X.t (placeOf 0 (-2147483648)) (placeOf 0 2147483647) tr tr' h hl hS;have h2:=jQct H (apart S) P.d X.d P.t X.t (placeOf 0 (-2147483648)) (placeOf 0 2147483647) tr tr' h h1;have h3:=(jQhO hX).2;refine jQp2 h1 ?_;unfold NTree.thru at h3 ⊢;rw[h2];exact h3
theorem jQmr {H:ByteArray->ByteArray}{S:List Int}{P X:NTree}(h:RT H (apart S) P X)(t:TabN)(lo hi:Int)(tr tr':Trl)(hl:tr.lost=false)(hX:(rowsR X t lo hi tr').2.lost=false)(hS:within S (rowsR X t lo hi tr').2):(rowsR P t lo hi tr).2.lost=false:=by
 have h1:=jQd7 H S P.d X.d P.t X.t (placeOf t.number lo) (placeOf t.number hi) tr tr' h hl hS;have h2:=jQct H (apart S) P.d X.d P.t X.t (placeOf t.number lo) (placeOf t.number hi) tr tr' h h1;have h3:=(jQhO hX).2;refine jQp2 h1 ?_;unfold NTree.thru at h3 ⊢;rw[h2];exact h3
theorem jQho {H:ByteArray->ByteArray}{S:List Int}{P X:NTree}(h:RT H (apart S) P X)(t:TabN)(w:List StepS)(tr tr':Trl)(hl:tr.lost=false)(hX:(spannedR X t w tr').2.lost=false)(hS:within S (spannedR X t w tr').2):(spannedR P t w tr).2.lost=false:=by
 unfold spannedR at hX hS ⊢
 split
 ·rename_i hc;rw[if_pos hc] at hX hS;exact jQmr h t _ _ tr tr' hl hX hS
 ·exact hl
theorem jQfm {H:ByteArray->ByteArray}{S:List Int}{P X:NTree}(h:RT H (apart S) P X)(t:TabN)(st:PSt)(tr tr':Trl)(hl:tr.lost=false)(hX:(decideTabR X t st tr').2.lost=false)(hS:within S (decideTabR X t st tr').2):(decideTabR P t st tr).2.lost=false:=by
 unfold decideTabR at hX hS ⊢
 split
 ·exact hl
 ·rename_i h1;rw[if_neg h1] at hX hS
  split
  ·rename_i h2;rw[if_pos h2] at hX hS;exact jQkd H S P.d X.d P.t X.t _ tr tr' h hl hS
  ·rename_i h2;rw[if_neg h2] at hX hS;exact jQho h t st.wher tr tr' hl hX hS
theorem jQeX {H:ByteArray->ByteArray}{S:List Int}{P X:NTree}(h:RT H (apart S) P X)(sql:ByteArray)(tr tr':Trl)(hl:tr.lost=false)(hX:(decideR X sql tr').2.lost=false)(hS:within S (decideR X sql tr').2):(decideR P sql tr).2.lost=false:=by
 unfold decideR at hX hS ⊢
 split
 ·exact hl
 ·rename_i h1;rw[if_neg h1] at hX hS;have h2:=jQl4 h tr tr' hl (jQcR hX) (hS.of (jQcb _ _ _ _));have h3:=jQjE h tr tr' h2;rw[<-h3] at hX hS;unfold decideStR at hX hS ⊢
  split
  ·exact h2
  ·rename_i h4;rw[if_neg h4] at hX hS;cases hf:findR (parse sql).2.table (tabsR P tr).1 with
   | none=>exact h2
   | some t =>
    rw[hf] at hX hS;exact jQfm h t _ _ _ h2 hX hS
theorem jQnh {H:ByteArray->ByteArray}{S:List Int}(o:OutR){x y:NTree×Trl}(h:RT H (apart S) x.1 y.1)(hl:x.2.lost=false)(hS:within S (madeR o y).2):(madeR o x).2.lost=false:=by
 unfold madeR at hS ⊢
 split
 ·rename_i hc;rw[if_pos hc] at hS;exact jQgs H S _ _ _ _ _ _ _ h hl hS
 ·exact hl
theorem jQhx {H:ByteArray->ByteArray}{S:List Int}(tb:Int):∀{l:List (List Val)} {x y:NTree×Trl},RT H (apart S) x.1 y.1->x.2.lost=false->within S (putsR tb l y).2->(putsR tb l x).2.lost=false
 | [],_,_,_,hl,_=>hl
 | r::l,x,y,h,hl,hS=>by
  have h1:(x.1.put ⟨placeOf tb (keyOf r),ofCells r⟩ x.2).2.lost=false:=jQgs H S _ _ _ _ _ _ y.2 h hl (hS.of (jQbU tb l (y.1.put ⟨placeOf tb (keyOf r),ofCells r⟩ y.2)));exact jQhx tb (l:=l) (y:=y.1.put ⟨placeOf tb (keyOf r),ofCells r⟩ y.2) (h.put _ x.2 y.2 h1) h1 hS
theorem jQib {H:ByteArray->ByteArray}{S:List Int}(tb:Int):∀{l:List Int} {x y:NTree×Trl},RT H (apart S) x.1 y.1->x.2.lost=false->within S (cutsR tb l y).2->(cutsR tb l x).2.lost=false
 | [],_,_,_,hl,_=>hl
 | k::l,x,y,h,hl,hS=>by
  have h1:(x.1.del (placeOf tb k) x.2).2.lost=false:=jQkq H S _ _ _ _ _ _ y.2 h hl (hS.of (jQbb tb l (y.1.del (placeOf tb k) y.2)));exact jQib tb (l:=l) (y:=y.1.del (placeOf tb k) y.2) (h.del _ x.2 y.2 h1) h1 hS
theorem jQcl (o:OutR)(x:NTree×Trl):grows x.2 (applyR o x).2:=(jQk6 o x).trans ((jQbU _ _ _).trans (jQbb _ _ _))
theorem jQlz {H:ByteArray->ByteArray}{S:List Int}(o:OutR){x y:NTree×Trl}(h:RT H (apart S) x.1 y.1)(hl:x.2.lost=false)(hS:within S (applyR o y).2):(applyR o x).2.lost=false:=by
 unfold applyR at hS ⊢;have h1:=jQnh o h hl (hS.of ((jQbU _ _ _).trans (jQbb _ _ _)));have h2:=jQhx o.tab.number (l:=o.puts) (y:=madeR o y) (jQgA o h h1) h1 (hS.of (jQbb _ _ _));exact jQib o.tab.number (l:=o.cuts) (jQgr o.tab.number (jQgA o h h1) h2) h2 hS
theorem jQoY {H:ByteArray->ByteArray}{S:List Int}{P X:NTree}(h:RT H (apart S) P X)(sql:ByteArray)(tr tr':Trl)(hl:tr.lost=false)(hX:(decideR X sql tr').2.lost=false)(hS:within S (runR X sql tr').2.2):(runR P sql tr).2.2.lost=false:=by
 have h1:=jQeX h sql tr tr' hl hX (hS.of (jQcl _ (X,(decideR X sql tr').2)));have h2:=jQdc h sql tr tr' h1;unfold runR at hS ⊢
 dsimp only at hS ⊢
 rw[h2];exact jQlz (decideR X sql tr').1 (x:=(P,(decideR P sql tr).2)) (y:=(X,(decideR X sql tr').2)) h h1 hS
end Sq
namespace Sq
theorem jQq7 (l:List UInt8)(b:UInt8):big (l++[b])=big l*256+(b.toNat:Int):=by
 unfold big;rw[List.foldl_append];rfl
theorem jQjS (x:Int)(k:Nat):(pnum x k).data.toList=(lowB k x).reverse:=by unfold pnum;simp
theorem jQoh:∀(k:Nat) (x:Int),0<=x->x<256^k->big (pnum x k).data.toList=x
 | 0,x,h0,h1=>by
  rw[jQjS]
  have:x=0:=by simp at h1;omega
  subst this;rfl
 | k+1,x,h0,h1=>by
  have h2:x / 256<256^k:=by
   rw[Int.pow_succ] at h1;exact Int.ediv_lt_of_lt_mul (by decide) h1
  have h3:=jQoh k (x / 256) (Int.ediv_nonneg h0 (by decide)) h2;rw[jQjS] at h3 ⊢;rw[lowB,List.reverse_cons,jQq7,h3]
  have h4:(UInt8.ofNat (HMod.hMod x 256:Int).toNat).toNat=(HMod.hMod x 256:Int).toNat:=by
   rw[UInt8.toNat_ofNat'];omega
  rw[h4];omega
theorem jQm (a b:ByteArray):(a++b).size=a.size+b.size:=ByteArray.size_append
theorem jQi2 (a b:ByteArray):(a++b).extract 0 a.size=a:=by
 apply ByteArray.ext;simp
theorem jQi1 (a b:ByteArray):(a++b).extract a.size (a++b).size=b:=by
 apply ByteArray.ext;apply Array.ext';rw[ByteArray.data_extract,ByteArray.data_append,Array.toList_extract,Array.toList_append,jQm];have h1:a.data.toList.length=a.size:=by simp
 have h2:b.data.toList.length=b.size:=by simp
 rw[List.extract_eq_take_drop,List.drop_left' h1,List.take_of_length_le (by omega)]
theorem jQl1 (a b:ByteArray):takeBad ⟨a++b,false⟩ (a.size:Nat)=false:=by
 unfold takeBad;simp[jQm];omega
theorem jQdF (a b:ByteArray):takeV ⟨a++b,false⟩ (a.size:Nat)=a:=by
 unfold takeV;rw[jQl1,if_neg (by simp),Int.toNat_natCast];exact jQi2 a b
theorem jQdG (a b:ByteArray):takeN ⟨a++b,false⟩ (a.size:Nat)=⟨b,false⟩:=by
 unfold takeN;rw[jQl1,if_neg (by simp),Int.toNat_natCast]
 dsimp only
 rw[jQi1 a b]
theorem jQbu (x:Int)(k:Nat)(b:ByteArray)(h0:0<=x)(h1:x<256^k):numV ⟨pnum x k++b,false⟩ (k:Nat)=x/\takeN ⟨pnum x k++b,false⟩ (k:Nat)=⟨b,false⟩:=by
 have h2:=jQdF (pnum x k) b;have h3:=jQdG (pnum x k) b;rw[jQt] at h2 h3;refine⟨?_,h3⟩;unfold numV;rw[h2];exact jQoh k x h0 h1
theorem jQjx (t b:ByteArray)(h:t.size<256):txtV ⟨txt t++b,false⟩=t/\txtN ⟨txt t++b,false⟩=⟨b,false⟩:=by
 have e:txt t++b=pnum t.size 1++(t++b):=by unfold txt;rw[ByteArray.append_assoc]
 obtain⟨h1,h2⟩:=jQbu (t.size:Nat) 1 (t++b) (by omega) (by simp;omega);unfold txtV txtN;rw[e];rw[show((1:Nat):Int)=1 from rfl] at h1 h2;rw[h1,h2];exact⟨jQdF t b,jQdG t b⟩
def writeF {α:Type}(f:α->Head)(wr:α->ByteArray)(dg:ByteArray)(tr:Trl)(t:NodeF α):ByteArray:=if touchedR tr t.hd then writtenF f t (t.kids.map wr) else pnum 0 1++dg
def writeN (H:ByteArray->ByteArray)(tr:Trl):(n:Nat)->Nd n->ByteArray
 | 0,t=>writeF (fun e:Empty=>e.elim) (fun e:Empty=>e.elim) (digN H 0 t) tr t
 | n+1,t=>writeF (headN n) (writeN H tr n) (digN H (n+1) t) tr t
def failR (r:Rd):Rd:=⟨r.rest,true⟩
def shutN:(n:Nat)->ByteArray->Int->Int->Nd n
 | 0,sl,l,r=>shutF sl l r
 | _+1,sl,l,r=>shutF sl l r
def entsR:Nat->Rd->List Ent×Rd
 | 0,r=>([],r)
 | k+1,r=>(⟨numV r 5,txtV (takeN r 5)⟩::(entsR k (txtN (takeN r 5))).1,(entsR k (txtN (takeN r 5))).2)
def kidFix {α:Type}(f:α->Head)(mk:ByteArray->Int->Int->α)(least rows:Int)(c:α×Rd):α×Rd :=
 if isShut (f c.1) then(mk (f c.1).sl least rows,c.2)
 else if(f c.1).least=least/\(f c.1).rows=rows then c
 else(c.1,failR c.2)
def kidsR {α:Type}(f:α->Head)(mk:ByteArray->Int->Int->α)(rd:Rd->α×Rd):Nat->Rd->List α×Rd
 | 0,r=>([],r)
 | k+1,r=>((kidFix f mk (numV r 5) (numV (takeN r 5) 1) (rd (takeN (takeN r 5) 1))).1::(kidsR f mk rd k (kidFix f mk (numV r 5) (numV (takeN r 5) 1) (rd (takeN (takeN r 5) 1))).2).1,(kidsR f mk rd k (kidFix f mk (numV r 5) (numV (takeN r 5) 1) (rd (takeN (takeN r 5) 1))).2).2)
def nodeNone {α:Type}:NodeF α:=⟨⟨false,0,0,nobytes,0⟩,[],[]⟩
def readF {α:Type}(wide:Nat)(f:α->Head)(mk:ByteArray->Int->Int->α)(rd:Rd->α×Rd)(r:Rd):NodeF α×Rd :=
 if numV r 1=0 then(shutF (takeV (takeN r 1) wide) 0 0,takeN (takeN r 1) wide)
 else if numV r 1=1 then(leafF (entsR (numV (takeN r 1) 1).toNat (takeN (takeN r 1) 1)).1,(entsR (numV (takeN r 1) 1).toNat (takeN (takeN r 1) 1)).2)
 else if numV r 1=2 then(innerF f (kidsR f mk rd (numV (takeN r 1) 1).toNat (takeN (takeN r 1) 1)).1,(kidsR f mk rd (numV (takeN r 1) 1).toNat (takeN (takeN r 1) 1)).2)
 else(nodeNone,failR (takeN r 1))
def readN (wide:Nat):(n:Nat)->Rd->Nd n×Rd
 | 0,r=>(shutF (takeV (takeN r 1) wide) 0 0,takeN (takeN r 1) wide)
 | n+1,r=>readF wide (headN n) (shutN n) (readN wide n) r
def catB (l:List ByteArray):ByteArray:=l.foldr (·++·) nobytes
theorem jQb3:∀(l:List ByteArray) (b:ByteArray),l.foldl (·++·) b=b++catB l
 | [],b=>by
  show b=b++nobytes;apply ByteArray.ext;simp[nobytes]
 | x::l,b=>by
  rw[List.foldl_cons,jQb3 l,ByteArray.append_assoc];rfl
theorem jQbL (x:ByteArray)(l:List ByteArray):catB (x::l)=x++catB l:=rfl
theorem jQeD (b:ByteArray):nobytes++b=b:=by
 apply ByteArray.ext;simp[nobytes]
def okEnt (e:Ent):Prop:=0<=e.place/\e.place<1099511627776/\e.row.size<256
theorem jQkj:∀(es:List Ent) (b:ByteArray),(∀e∈es,okEnt e)->entsR es.length ⟨catB (es.map entBytes)++b,false⟩=(es,⟨b,false⟩)
 | [],b,_=>by
  show(([]:List Ent),(⟨nobytes++b,false⟩:Rd))=_
  rw[jQeD]
 | e::es,b,h=>by
  obtain⟨h0,h1,h2⟩:=h e (by simp);have ih:=jQkj es b fun x hx=>h x (by simp[hx])
  rw[List.length_cons,List.map_cons,jQbL,entsR]
  have e1:entBytes e++catB (es.map entBytes)++b=pnum e.place 5++(txt e.row++(catB (es.map entBytes)++b)):=by
   unfold entBytes;rw[ByteArray.append_assoc,ByteArray.append_assoc]
  rw[e1];obtain⟨g1,g2⟩:=jQbu e.place 5 (txt e.row++(catB (es.map entBytes)++b)) h0 (by simpa using h1);rw[show((5:Nat):Int)=5 from rfl] at g1 g2;obtain⟨g3,g4⟩:=jQjx e.row (catB (es.map entBytes)++b) h2;rw[g1,g2,g3,g4,ih]
theorem jQj9 {α β:Type}{f:α->Head}{mk:ByteArray->Int->Int->α}{rd:Rd->α×Rd}(f':β->Head)(wr:β->ByteArray)(ρ:α->β->Prop):∀(cs:List β) (b:ByteArray),
  (∀c∈cs,0<=(f' c).least/\(f' c).least<1099511627776/\0<=(f' c).rows/\(f' c).rows<256) ->
  (∀c∈cs,∀b',(wr c++b').size<=(catB (cs.map fun c=>kidBytes (f' c) (wr c))++b).size->∃p,rd ⟨wr c++b',false⟩=(p,⟨b',false⟩)/\((isShut (f p)=true/\ρ (mk (f p).sl (f' c).least (f' c).rows) c)\/(isShut (f p)=false/\(f p).least=(f' c).least/\(f p).rows=(f' c).rows/\ρ p c))) ->
  ∃l,kidsR f mk rd cs.length ⟨catB (cs.map fun c=>kidBytes (f' c) (wr c))++b,false⟩=(l,⟨b,false⟩)/\Rel2 ρ l cs
 | [],b,_,_=>by
  refine⟨[],?_,Rel2.nil⟩
  show(([]:List α),(⟨nobytes++b,false⟩:Rd))=_
  rw[jQeD]
 | c::cs,b,h,hr=>by
  obtain⟨h0,h1,h2,h3⟩:=h c (by simp)
  have e1:kidBytes (f' c) (wr c)++catB (cs.map fun c=>kidBytes (f' c) (wr c))++b=pnum (f' c).least 5++(pnum (f' c).rows 1++(wr c++(catB (cs.map fun c=>kidBytes (f' c) (wr c))++b))):=by
   unfold kidBytes;rw[ByteArray.append_assoc,ByteArray.append_assoc,ByteArray.append_assoc]
  rw[List.map_cons,jQbL,e1] at hr;obtain⟨p,hp,hq⟩:=hr c (by simp) (catB (cs.map fun c=>kidBytes (f' c) (wr c))++b) (by rw[jQm (pnum _ _),jQm (pnum _ _)];omega);obtain⟨l,hl,hrel⟩:=jQj9 (f:=f) (mk:=mk) (rd:=rd) f' wr ρ cs b (fun x hx=>h x (by simp[hx])) (fun x hx b' hb=>hr x (by simp[hx]) b' (by rw[jQm (pnum _ _),jQm (pnum _ _),jQm (wr c)];omega));obtain⟨g1,g2⟩:=jQbu (f' c).least 5 (pnum (f' c).rows 1++(wr c++(catB (cs.map fun c=>kidBytes (f' c) (wr c))++b))) h0 (by simpa using h1);obtain⟨g3,g4⟩:=jQbu (f' c).rows 1 (wr c++(catB (cs.map fun c=>kidBytes (f' c) (wr c))++b)) h2 (by simpa using h3);rw[show((5:Nat):Int)=5 from rfl] at g1 g2;rw[show((1:Nat):Int)=1 from rfl] at g3 g4;rw[List.length_cons,List.map_cons,jQbL,e1,kidsR,g1,g2,g3,g4,hp];rcases hq with⟨hs,hρ⟩ | ⟨hs,hle,hro,hρ⟩
  ·have ek:kidFix f mk (f' c).least (f' c).rows (p,⟨catB (cs.map fun c=>kidBytes (f' c) (wr c))++b,false⟩)=(mk (f p).sl (f' c).least (f' c).rows,⟨catB (cs.map fun c=>kidBytes (f' c) (wr c))++b,false⟩):=by
    unfold kidFix;rw[if_pos hs]
   rw[ek,hl];exact⟨_,rfl,Rel2.cons.2 ⟨hρ,hrel⟩⟩
  ·have ek:kidFix f mk (f' c).least (f' c).rows (p,⟨catB (cs.map fun c=>kidBytes (f' c) (wr c))++b,false⟩)=(p,⟨catB (cs.map fun c=>kidBytes (f' c) (wr c))++b,false⟩):=by
    unfold kidFix
    dsimp only
    rw[hs,if_neg (by simp),if_pos ⟨hle,hro⟩]
   rw[ek,hl];exact⟨_,rfl,Rel2.cons.2 ⟨hρ,hrel⟩⟩
theorem jQa0 {α:Type}(f:α->Head)(t:NodeF α)(wr:α->ByteArray):writtenF f t (t.kids.map wr)=pnum (if t.hd.inner then 2 else 1) 1++(pnum (sizeF t) 1++(catB (t.ents.map entBytes)++catB (t.kids.map fun c=>kidBytes (f c) (wr c)))):=by
 unfold writtenF;rw[jQf4,jQb3,jQb3,ByteArray.append_assoc,ByteArray.append_assoc]
def okW:(n:Nat)->Nd n->Prop
 | 0,t=>isShut (NodeF.hd t)=false/\(NodeF.hd t).inner=false/\(NodeF.ents t).length<256/\(∀e∈NodeF.ents t,okEnt e)/\(NodeF.hd t).least=firstPlace (NodeF.ents t)/\(NodeF.hd t).rows=(NodeF.ents t).length/\0<(NodeF.hd t).num
 | n+1,t=>isShut (NodeF.hd t)=false/\(NodeF.hd t).inner=true/\NodeF.ents t=[]/\(NodeF.kids t).length<256/\(NodeF.hd t).least=firstLeast (headN n) (NodeF.kids t)/\(NodeF.hd t).rows=sumRows2 (headN n) (NodeF.kids t)/\0<(NodeF.hd t).num /\
  ∀c∈NodeF.kids t,okW n c/\0<=(headN n c).least/\(headN n c).least<1099511627776/\0<=(headN n c).rows/\(headN n c).rows<256
theorem okW.whole:∀{n:Nat} {t:Nd n},okW n t->isShut (headN n t)=false/\0<(headN n t).num
 | 0,_,h=>⟨h.1,h.2.2.2.2.2.2⟩
 | _+1,_,h=>⟨h.1,h.2.2.2.2.2.2.1⟩
theorem jQaX {H:ByteArray->ByteArray}{wide:Nat}(hH:∀b,(H b).size=wide):∀{n:Nat} {t:Nd n},isShut (headN n t)=false->(digN H n t).size=wide
 | 0,t,h=>by
  show(if isShut (NodeF.hd t) then _ else _:ByteArray).size=wide
  rw[show isShut (NodeF.hd t)=false from h,if_neg (by simp)];exact hH _
 | n+1,t,h=>by
  show(if isShut (NodeF.hd t) then _ else _:ByteArray).size=wide
  rw[show isShut (NodeF.hd t)=false from h,if_neg (by simp)];exact hH _
theorem jQnE:∀(n:Nat) (sl:ByteArray) (l r:Int),headN n (shutN n sl l r)=⟨false,l,r,sl,0⟩
 | 0,_,_,_=>rfl
 | _+1,_,_,_=>rfl
theorem jQoV {H:ByteArray->ByteArray}{Q:Head->Prop}:∀(m n:Nat) (t:Nd n) (wide:Nat),1<=wide->(digN H n t).size=wide->isShut (headN n t)=false->Q (headN n t)->RN H Q m n (shutN m (digN H n t) (headN n t).least (headN n t).rows) t
 | 0,0,t,wide,hw,hd,hs,hq=>⟨rfl,rfl,hs,Or.inl ⟨by unfold isShut;show((digN H 0 t).size != 0)=true;rw[hd];simp;omega,rfl,rfl,rfl,rfl,hq⟩⟩
 | 0,n+1,t,wide,hw,hd,hs,hq=>⟨rfl,rfl,hs,Or.inl ⟨by unfold isShut;show((digN H (n+1) t).size != 0)=true;rw[hd];simp;omega,rfl,rfl,rfl,rfl,hq⟩⟩
 | _+1,0,t,wide,hw,hd,hs,hq=>⟨rfl,rfl,hs,Or.inl ⟨by unfold isShut;show((digN H 0 t).size != 0)=true;rw[hd];simp;omega,rfl,rfl,rfl,rfl,hq⟩⟩
 | _+1,n+1,t,wide,hw,hd,hs,hq=>⟨rfl,rfl,hs,Or.inl ⟨by unfold isShut;show((digN H (n+1) t).size != 0)=true;rw[hd];simp;omega,rfl,rfl,rfl,rfl,hq⟩⟩
theorem jQrI {H:ByteArray->ByteArray}{Q:Head->Prop}:∀(m:Nat) (t:NodeF Empty),isShut t.hd=false->t.hd.inner=false->t.hd.least=firstPlace t.ents->t.hd.rows=t.ents.length->RN H Q (m+1) 0 (leafF t.ents) t
 | m,t,h1,h2,h3,h4=>by
  refine⟨h3.symm,h4.symm,h1,Or.inr ⟨rfl,h2.symm,rfl,?_⟩⟩
  have:t.kids=[]:=by
   cases hk:t.kids with
   | nil=>rfl
   | cons e _=>exact e.elim
  rw[this];exact Rel2.nil
theorem jQek {H:ByteArray->ByteArray}{wide:Nat}(hH:∀b,(H b).size=wide)(hw:1<=wide)(tr:Trl):∀(n:Nat) (t:Nd n) (N:Nat) (b:ByteArray),okW n t->(writeN H tr n t++b).size<=N ->
  ∃p,readN wide N ⟨writeN H tr n t++b,false⟩=(p,⟨b,false⟩)/\(touchedR tr (headN n t)=true->RN H (apart tr.nums) N n p t/\isShut (headN N p)=false)/\(touchedR tr (headN n t)=false->p=shutN N (digN H n t) 0 0)
 | 0,t,N,b,ho,hN=>by
  obtain⟨o1,o2,o3,o4,o5,o6,o7⟩:=id ho;have hf:=jQaX hH (n:=0) (t:=t) o1
  have ha:NodeF.kids t=[]:=by
   cases hk:NodeF.kids t with
   | nil=>rfl
   | cons e _=>exact e.elim
  cases hT:touchedR tr (NodeF.hd t) with
  | false =>
   have e1:writeN H tr 0 t=pnum 0 1++digN H 0 t:=by
    show writeF _ _ _ tr t=_;unfold writeF;rw[hT,if_neg (by simp)]
   rw[e1,ByteArray.append_assoc] at hN ⊢;obtain⟨g1,g2⟩:=jQbu 0 1 (digN H 0 t++b) (by decide) (by decide);rw[show((1:Nat):Int)=1 from rfl] at g1 g2;have g3:=jQdF (digN H 0 t) b;have g4:=jQdG (digN H 0 t) b;rw[hf] at g3 g4;cases N with
   | zero=>rw[jQm,jQt] at hN;omega
   | succ N =>
    refine⟨shutN (N+1) (digN H 0 t) 0 0,?_,fun h=>(by rw[show touchedR tr (headN 0 t)=false from hT] at h;cases h),fun _=>rfl⟩;show readF wide (headN N) (shutN N) (readN wide N) _=_;unfold readF;rw[g1,if_pos rfl,g2,g3,g4];rfl
  | true =>
   have e1:writeN H tr 0 t=pnum 1 1++(pnum (NodeF.ents t).length 1++catB ((NodeF.ents t).map entBytes)):=by
    show writeF _ _ _ tr t=_;unfold writeF;rw[hT,if_pos rfl,jQa0];unfold sizeF;rw[o2,ha];simp only[Bool.false_eq_true,if_false,List.map_nil];rw[show catB []=nobytes from rfl]
    congr 2
    apply ByteArray.ext;simp[nobytes]
   rw[e1,ByteArray.append_assoc,ByteArray.append_assoc] at hN ⊢;obtain⟨g1,g2⟩:=jQbu 1 1 (pnum (NodeF.ents t).length 1++(catB ((NodeF.ents t).map entBytes)++b)) (by decide) (by decide);obtain⟨g3,g4⟩:=jQbu ((NodeF.ents t).length:Nat) 1 (catB ((NodeF.ents t).map entBytes)++b) (by omega) (by simp;omega);rw[show((1:Nat):Int)=1 from rfl] at g1 g2 g3 g4;have g5:=jQkj (NodeF.ents t) b o4;cases N with
   | zero=>rw[jQm,jQt] at hN;omega
   | succ N =>
    refine⟨leafF (NodeF.ents t),?_,fun _=>⟨jQrI N t o1 o2 o5 o6,rfl⟩,fun h=>(by rw[show touchedR tr (headN 0 t)=true from hT] at h;cases h)⟩;show readF wide (headN N) (shutN N) (readN wide N) _=_;unfold readF;rw[g1,if_neg (by decide),if_pos rfl,g2,g3,g4,Int.toNat_natCast,g5]
 | n+1,t,N,b,ho,hN=>by
  obtain⟨o1,o2,o3,o4,o5,o6,o7,o8⟩:=id ho;have hf:=jQaX hH (n:=n+1) (t:=t) o1;cases hT:touchedR tr (NodeF.hd t) with
  | false =>
   have e1:writeN H tr (n+1) t=pnum 0 1++digN H (n+1) t:=by
    show writeF _ _ _ tr t=_;unfold writeF;rw[hT,if_neg (by simp)]
   rw[e1,ByteArray.append_assoc] at hN ⊢;obtain⟨g1,g2⟩:=jQbu 0 1 (digN H (n+1) t++b) (by decide) (by decide);rw[show((1:Nat):Int)=1 from rfl] at g1 g2;have g3:=jQdF (digN H (n+1) t) b;have g4:=jQdG (digN H (n+1) t) b;rw[hf] at g3 g4;cases N with
   | zero=>rw[jQm,jQt] at hN;omega
   | succ N =>
    refine⟨shutN (N+1) (digN H (n+1) t) 0 0,?_,fun h=>(by rw[show touchedR tr (headN (n+1) t)=false from hT] at h;cases h),fun _=>rfl⟩;show readF wide (headN N) (shutN N) (readN wide N) _=_;unfold readF;rw[g1,if_pos rfl,g2,g3,g4];rfl
  | true =>
   have e1:writeN H tr (n+1) t=pnum 2 1++(pnum (NodeF.kids t).length 1++catB ((NodeF.kids t).map fun c=>kidBytes (headN n c) (writeN H tr n c))):=by
    show writeF (headN n) (writeN H tr n) _ tr t=_;unfold writeF;rw[hT,if_pos rfl,jQa0];unfold sizeF;rw[o2,o3];simp only[if_true,List.map_nil];rw[show catB []=nobytes from rfl,jQeD]
   rw[e1,ByteArray.append_assoc,ByteArray.append_assoc] at hN ⊢;obtain⟨g1,g2⟩:=jQbu 2 1 (pnum (NodeF.kids t).length 1++(catB ((NodeF.kids t).map fun c=>kidBytes (headN n c) (writeN H tr n c))++b)) (by decide) (by decide);obtain⟨g3,g4⟩:=jQbu ((NodeF.kids t).length:Nat) 1 (catB ((NodeF.kids t).map fun c=>kidBytes (headN n c) (writeN H tr n c))++b) (by omega) (by simp;omega);rw[show((1:Nat):Int)=1 from rfl] at g1 g2 g3 g4;cases N with
   | zero=>rw[jQm,jQt] at hN;omega
   | succ N =>
    obtain⟨l,hl,hrel⟩:=jQj9 (f:=headN N) (mk:=shutN N) (rd:=readN wide N) (headN n) (writeN H tr n) (RN H (apart tr.nums) N n) (NodeF.kids t) b (fun c hc=>(o8 c hc).2) (by
     intro c hc b' hb;rw[jQm,jQt,jQm,jQt] at hN;obtain⟨p,hp,hp1,hp2⟩:=jQek hH hw tr n c N b' (o8 c hc).1 (by omega);refine⟨p,hp,?_⟩;have he:=(o8 c hc).1.whole;cases hTc:touchedR tr (headN n c) with
     | true =>
      obtain⟨q1,q2⟩:=hp1 hTc;have q3:=RN.head H _ _ _ _ _ q1;exact Or.inr ⟨q2,q3.1,q3.2.1,q1⟩
     | false =>
      have hh:=hp2 hTc;subst hh;rw[jQnE];have hg:=jQaX hH (n:=n) (t:=c) he.1;refine Or.inl ⟨by unfold isShut;show((digN H n c).size != 0)=true;rw[hg];simp;omega,?_⟩;refine jQoV N n c wide hw hg he.1 ⟨he.2,fun hin=>?_⟩;unfold touchedR at hTc;rw[List.any_eq_false] at hTc;exact hTc _ hin (by simp))
    refine⟨innerF (headN N) l,?_,fun _=>⟨?_,rfl⟩,fun h=>(by rw[show touchedR tr (headN (n+1) t)=true from hT] at h;cases h)⟩
    ·show readF wide (headN N) (shutN N) (readN wide N) _=_;unfold readF;rw[g1,if_neg (by decide),if_neg (by decide),if_pos rfl,g2,g3,g4,Int.toNat_natCast,hl]
    ·have hk:=kinN H (apart tr.nums) N n;exact⟨(jQkg hk hrel).trans o5.symm,(jQl8 hk hrel).trans o6.symm,o1,Or.inr ⟨rfl,o2.symm,o3.symm,hrel⟩⟩
end Sq
section
open Go.RowKit
theorem jQqA (n:Int)(b:UInt8)(h0:0<=n)(h1:n<4294967296):bits .or .i64 (n*256) ((b.toNat:Nat):Int)=n*256+((b.toNat:Nat):Int):=by
 obtain⟨m,rfl⟩:=Int.eq_ofNat_of_zero_le h0;have hb:=b.toNat_lt;have e:((m:Nat):Int)*256=((2^8*m:Nat):Int):=by omega
 rw[e,jQrw _ _ (by omega) (by omega),<-Nat.two_pow_add_eq_or_of_lt (by omega) m];omega
theorem Sq.jQjd (l:List UInt8)(k:Nat)(h:k<=4):0<=Sq.big (l.take k)/\Sq.big (l.take k)<4294967296:=by
 have h1:=Sq.jQly (l.take k);have h2:(l.take k).length<=4:=Nat.le_trans (List.length_take_le _ _) h
 have h3:(256:Int)^(l.take k).length<=4294967296:=by
  have:=Nat.pow_le_pow_right (n:=256) (by decide) h2
  have e:(256:Int)^(l.take k).length=((256^(l.take k).length:Nat):Int):=by simp
  rw[e];exact Int.ofNat_le.2 (Nat.le_trans this (by decide))
 omega
theorem Sq.jQm0 (r:Rd)(k:Nat)(h:k<=5):0<=numV r k/\numV r k<1099511627776:=by
 have h1:=Sq.jQly (takeV r k).data.toList;have ha:=(Sq.jQaK r k).2;rw[Int.toNat_natCast] at ha;have h2:(takeV r k).data.toList.length<=5:=by rw[Array.length_toList];exact Nat.le_trans ha h
 have h3:(256:Int)^(takeV r k).data.toList.length<=1099511627776:=by
  have:=Nat.pow_le_pow_right (n:=256) (by decide) h2
  have e:(256:Int)^(takeV r k).data.toList.length=((256^(takeV r k).data.toList.length:Nat):Int):=by simp
  rw[e];exact Int.ofNat_le.2 (Nat.le_trans this (by decide))
 unfold numV;omega
theorem Sq.jQm1 (r:Rd):0<=numV r 1/\numV r 1<256:=by
 have h1:=Sq.jQly (takeV r 1).data.toList;have ha:=(Sq.jQaK r 1).2;have h2:(takeV r 1).data.toList.length<=1:=by rw[Array.length_toList];exact ha
 have h3:(256:Int)^(takeV r 1).data.toList.length<=256:=by
  have:=Nat.pow_le_pow_right (n:=256) (by decide) h2
  have e:(256:Int)^(takeV r 1).data.toList.length=((256^(takeV r 1).data.toList.length:Nat):Int):=by simp
  rw[e];exact Int.ofNat_le.2 (Nat.le_trans this (by decide))
 unfold numV;omega
theorem jQfd (b:Nat)(r:Rd)(k:Nat)(w:World)(h:RdAt b w r)(hs:r.rest.size<=1000000)(hk:k<=5) :
  Calls Tryz.prog 88 #[.pointer (some ⟨b,0,none⟩),.int .i64 k] w fun e w'=>e=.returned (.int .i64 (numV r k))/\RdAt b w' (Sq.takeN r k)/\Only b w w':=by
 have he:=(Sq.jQaK r k).2;have HN:Hid (numV r k=Sq.big (takeV r k).data.toList):=rfl;obtain⟨s,hs'⟩:∃x,x=takeV r k:=⟨_,rfl⟩;have hn:=HN.o;rw[<-hs'] at hn he;rw[Int.toNat_natCast] at he;have hm:=hd hn;have HS:=hd hs';have H:=hd h;clear hn HN hs' h;go_enter Tryz.func88,Tryz.ntmps88;go_wp2_with fail;refine(jQg3 b r k _ H.o hs).mono ?_;rintro e w1 ⟨rfl,hr1,ho1⟩;rw[<-HS.o];have ho:=hd hr1;have hl:=hd ho1;clear hr1 ho1;have hc:s.data.toList.length=s.size:=Array.length_toList;have hf:=hd hc;clear hc;go_wp2
 go_loop [6,7] (fun nv i=>∃j:Nat,∃n:Int,j<=s.size/\i=.int .i64 j/\nv=.int .i64 n/\Hid (n=Sq.big (s.data.toList.take j))) (fun _ i=>s.size-(intOf i).toNat)
 case atStart=>exact⟨0,0,zR,rfl,rfl,rfl⟩
 case round =>
  obtain⟨j,n,hj,rfl,rfl,hbig⟩:=hrel
  by_cases hjt:j<s.size
  ·have hh:j<s.data.toList.length:=by rw[hf.o];exact hjt
   have hb:=Sq.jQog s.data.toList j hh;have ha:=Sq.jQjd s.data.toList j (by omega);rw[<-hbig.o] at hb ha;have hg:=jQqA n s.data.toList[j] ha.1 ha.2;obtain⟨hb0,hb1⟩:=ha;have hi:=hd hg;have hp:=hd hb;clear hg hb;go_wp2
   have hw:wrap64 ((s[j].toNat:Nat):Int)=((s.data.toList[j].toNat:Nat):Int):=by
    have hq:=s.data.toList[j].toNat_lt;show wrap64 ((s.data.toList[j].toNat:Nat):Int)=_;unfold wrap64;omega
   rw[hw,hi.o];go_round
   case rel=>exact⟨j+1,_,by omega,by go_num,rfl,hp.o.symm⟩
   case measure=>simp[intOf];omega
  ·have HE:Hid (numV r k=n):=by show _=_;rw[hm.o,hbig.o,List.take_of_length_le (by rw[hf.o];omega)]
   clear hbig;go_wp2;go_ret;exact⟨by rw[HE.o];rfl,ho.o,hl.o⟩
theorem jQjo (b:Nat)(r:Rd)(w:World)(h:RdAt b w r) :
  Calls Tryz.prog 93 #[.pointer (some ⟨b,0,none⟩)] w fun e w'=>e=.returned (.tuple #[])/\RdAt b w' (Sq.failR r)/\Only b w w':=by
 obtain⟨s,sh⟩:=r;have c1:w.cell? ⟨b,1,none⟩=some (.bool sh):=by rw[jQb h];rfl
 have f1:=jQd h 1;have hz:=jQf h;have H:=hd h;clear h;go_enter Tryz.func93,Tryz.ntmps93;go_wp2;go_end0;exact⟨rfl,jQgq H.o,Only.set _ _⟩
theorem jQor (sl:ByteArray)(l r:Int)(w:World) :
  Calls Tryz.prog 90 #[.string sl,.int .i64 l,.int .i64 r] w fun e w'=>e=.returned (.agg (headCells ⟨false,l,r,sl,0⟩ (.slice none 0 0) (.slice none 0 0)).toArray)/\Below w.heap.size w w':=by
 rw[jQc];go_enter Tryz.func90,Tryz.ntmps90;go_wp2;exact bodyPost_ret (v:=.agg #[.bool false,.slice none 0 0,.slice none 0 0,.int .i64 l,.int .i64 r,.string sl,.int .i64 0]) (by simp[results,Tryz.results90,go_sem]) rfl ⟨rfl,(bR).alloc (nR) _⟩
end
structure Sq.Lv where
 hl:Int
 dl:Int
 di:Int
namespace Sq
def sizedF {α:Type}(k:α->Bool)(l:Nat)(t:NodeF α):Bool:=if isShut t.hd then true else Decidable.decide (l<=sizeF t)&&Decidable.decide (sizeF t<=4)&&t.kids.all k
def sizedN:(n:Nat)->Nat->Nd n->Bool
 | 0,l,t=>sizedF (fun e:Empty=>e.elim) l t
 | n+1,l,t=>sizedF (sizedN n 2) l t
def placesF {α:Type}(f:α->Head)(g:α->List Int)(t:NodeF α):List Int:=t.ents.map Ent.place++t.kids.flatMap fun c=>if isShut (f c) then[(f c).least] else g c
def placesN:(n:Nat)->Nd n->List Int
 | 0,t=>placesF (fun e:Empty=>e.elim) (fun e:Empty=>e.elim) t
 | n+1,t=>placesF (headN n) (placesN n) t
def risingB:List Int->Bool
 | a::b::r=>Decidable.decide (a<b)&&risingB (b::r)
 | _=>true
def noteI (d:Int)(l:Lv):Lv:=⟨l.hl,l.dl,if l.di<d then d else l.di⟩
def noteL (d:Int)(l:Lv):Lv:=⟨if l.hl<0\/d<l.hl then d else l.hl,if l.dl<d then d else l.dl,l.di⟩
def noteK {α:Type}(g:α->Int->Lv->Lv)(d:Int):List α->Lv->Lv
 | [],l=>l
 | c::r,l=>noteK g d r (g c d l)
def noteF {α:Type}(g:α->Int->Lv->Lv)(t:NodeF α)(d:Int)(l:Lv):Lv :=
 if isShut t.hd then l else noteK g (d+1) t.kids (if t.hd.inner then noteI d l else noteL d l)
def noteN:(n:Nat)->Nd n->Int->Lv->Lv
 | 0,t=>noteF (fun e:Empty=>e.elim) t
 | n+1,t=>noteF (noteN n) t
def levelB (l:Lv):Bool:=Decidable.decide (l.dl<0) || (Decidable.decide (l.hl=l.dl)&&Decidable.decide (l.di<l.dl))
def canBeN (n:Nat)(t:Nd n):Bool:=sizedN n (if(headN n t).inner then 2 else 0) t&&risingB (placesN n t)&&levelB (noteN n t 0 ⟨-1,-1,-1⟩)
def fitS:(n:Nat)->Nat->Nd n->Prop
 | 0,l,t=>l<=sizeF t/\sizeF t<=4
 | n+1,l,t=>l<=sizeF t/\sizeF t<=4/\∀c∈NodeF.kids t,fitS n 2 c
theorem jQcA {α β:Type}{ρ:α->β->Prop}{Q:Head->Prop}{dg:ByteArray}{p:NodeF α}{t:NodeF β}{k:α->Bool}{G:β->Prop}(hk:∀a b,ρ a b->G b->k a=true){l:Nat}(h:RF ρ Q dg p t)(h1:l<=sizeF t)(h2:sizeF t<=4)(h3:∀c∈t.kids,G c):sizedF k l p=true:=by
 unfold sizedF;cases hs:isShut p.hd with
 | true=>rfl
 | false =>
  have hz:=jQcB h hs;obtain⟨-,-,z,e1,e2,hz3⟩:=h.open_ hs;rw[if_neg (by simp),hz,decide_eq_true h1,decide_eq_true h2];simp only[Bool.true_and];rw[List.all_eq_true];intro a ha;rw[e1] at ha;obtain⟨x,hx,rfl⟩:=List.mem_map.1 ha;exact hk x.1 x.2 (hz3 x hx) (h3 x.2 (by rw[e2];exact List.mem_map_of_mem hx))
theorem jQhp (H:ByteArray->ByteArray)(Q:Head->Prop):∀(m n:Nat) (p:Nd m) (t:Nd n) (l:Nat),RN H Q m n p t->fitS n l t->sizedN m l p=true
 | 0,0,_,_,_,h,hf=>jQcA (G:=fun _=>True) (fun _ _ hr=>hr.elim) h hf.1 hf.2 fun _ _=>trivial
 | 0,n+1,_,_,_,h,hf=>jQcA (G:=fitS n 2) (fun _ _ hr=>hr.elim) h hf.1 hf.2.1 hf.2.2
 | m+1,0,_,_,_,h,hf=>jQcA (G:=fun _=>True) (fun _ _ hr=>hr.elim) h hf.1 hf.2 fun _ _=>trivial
 | m+1,n+1,_,_,_,h,hf=>jQcA (G:=fitS n 2) (fun a b hr hg=>jQhp H Q m n a b 2 hr hg) h hf.1 hf.2.1 hf.2.2
theorem jQo2 {l:List Int}(h:l.Pairwise (· < ·)):risingB l=true:=by
 induction l with
 | nil=>rfl
 | cons a r ih =>
  cases r with
  | nil=>rfl
  | cons b r =>
   rw[List.pairwise_cons] at h;rw[risingB,ih h.2,decide_eq_true (h.1 b (by simp))];rfl
def firstP:(n:Nat)->Nd n->Prop
 | 0,_=>True
 | n+1,t=>∀c∈NodeF.kids t,[(headN n c).least].Sublist (placesN n c)/\firstP n c
theorem jQbV {α β:Type}{ρ:α->β->Prop}{Q:Head->Prop}{dg:ByteArray}{p:NodeF α}{t:NodeF β}{f:α->Head}{f':β->Head}{g:α->List Int}{g':β->List Int}{G:β->Prop}(hk:Kin ρ f f')
  (hg:∀a b,ρ a b->G b->isShut (f a)=false->(g a).Sublist (g' b)) (hf:∀b,G b->[(f' b).least].Sublist (g' b)) (h:RF ρ Q dg p t) (hs:isShut p.hd=false) (h3:∀c∈t.kids,G c):(placesF f g p).Sublist (placesF f' g' t):=by
 obtain⟨-,h2,z,e1,e2,hz⟩:=h.open_ hs;unfold placesF;rw[h2];refine List.Sublist.append (List.Sublist.refl _) ?_;have hG:∀x∈z,G x.2:=fun x hx=>h3 x.2 (by rw[e2];exact List.mem_map_of_mem hx)
 rw[e1,e2];clear e1 e2 h3
 induction z with
 | nil=>exact List.Sublist.refl _
 | cons x z ih =>
  rw[List.map_cons,List.map_cons,List.flatMap_cons,List.flatMap_cons];refine List.Sublist.append ?_ (ih (fun y hy=>hz y (by simp[hy])) fun y hy=>hG y (by simp[hy]));have hr:=hz x (by simp);have hx:=hG x (by simp);have e3:(if isShut (f' x.2)=true then[(f' x.2).least] else g' x.2)=g' x.2:=by rw[hk.whole _ _ hr,if_neg (by simp)]
  rw[e3];cases hsx:isShut (f x.1) with
  | true=>rw[if_pos rfl,hk.least _ _ hr];exact hf _ hx
  | false=>rw[if_neg (by simp)];exact hg _ _ hr hx hsx
theorem jQfL (H:ByteArray->ByteArray)(Q:Head->Prop):∀(m n:Nat) (p:Nd m) (t:Nd n),RN H Q m n p t->isShut (headN m p)=false->firstP n t->(placesN m p).Sublist (placesN n t)
 | 0,0,_,_,h,hs,_=>jQbV (G:=fun _=>False) (kin0 _ _) (fun _ _ hr=>hr.elim) (fun _ h=>h.elim) h hs fun c _=>c.elim
 | 0,n+1,_,_,h,hs,hf=>jQbV (f':=headN n) (g':=placesN n) (G:=fun c=>[(headN n c).least].Sublist (placesN n c)/\firstP n c) (kin0 _ _) (fun _ _ hr=>hr.elim) (fun _ h=>h.1) h hs hf
 | m+1,0,_,_,h,hs,_=>jQbV (f:=headN m) (g:=placesN m) (G:=fun _=>False) (kin0 _ _) (fun _ _ hr=>hr.elim) (fun _ h=>h.elim) h hs fun c _=>c.elim
 | m+1,n+1,_,_,h,hs,hf=>jQbV (G:=fun c=>[(headN n c).least].Sublist (placesN n c)/\firstP n c) (kinN H Q m n) (fun a b hr hb hsa=>jQfL H Q m n a b hr hsa hb.2) (fun _ h=>h.1) h hs hf
def lvOk (D:Int)(l:Lv):Prop:=((l.hl=-1/\l.dl=-1)\/(l.hl=D/\l.dl=D))/\l.di<D
def flatN:(n:Nat)->Nd n->Prop
 | 0,t=>(NodeF.hd t).inner=false
 | n+1,t=>(NodeF.hd t).inner=true/\∀c∈NodeF.kids t,flatN n c
theorem jQm7 {α:Type}{g:α->Int->Lv->Lv}{d D:Int}:∀{cs:List α} {l:Lv},(∀c∈cs,∀l,lvOk D l->lvOk D (g c d l))->lvOk D l->lvOk D (noteK g d cs l)
 | [],_,_,h=>h
 | c::r,l,hg,h=>jQm7 (cs:=r) (fun x hx=>hg x (by simp[hx])) (hg c (by simp) l h)
theorem jQm6 {D:Int}(hD:0<=D){l:Lv}(h:lvOk D l):lvOk D (noteL D l):=by
 obtain⟨h1,h2⟩:=h;unfold noteL lvOk;refine⟨Or.inr ?_,h2⟩;rcases h1 with⟨a,b⟩ | ⟨a,b⟩
 ·rw[a,b];exact⟨by rw[if_pos (by omega)],by show(if(-1:Int)<D then D else -1)=D;rw[if_pos (by omega)]⟩
 ·rw[a,b];exact⟨by rw[if_neg (by omega)],by show(if D<D then D else D)=D;rw[if_neg (by omega)]⟩
theorem jQm8 {d D:Int}(hD:d<D){l:Lv}(h:lvOk D l):lvOk D (noteI d l):=by
 obtain⟨h1,h2⟩:=h;unfold noteI lvOk;refine⟨h1,?_⟩
 show(if l.di<d then d else l.di)<D
 split<;>omega
theorem jQpb (H:ByteArray->ByteArray)(Q:Head->Prop):∀(m n:Nat) (p:Nd m) (t:Nd n) (d D:Int) (l:Lv),RN H Q m n p t->flatN n t->d+n=D->0<=d->lvOk D l->lvOk D (noteN m p d l):=by
 intro m
 induction m with
 | zero =>
  intro n p t d D l h hf hd h0 hl;show lvOk D (noteF _ p d l);unfold noteF;cases hs:isShut (NodeF.hd p) with
  | true=>rw[if_pos rfl];exact hl
  | false =>
   rw[if_neg (by simp)]
   have hk:NodeF.kids p=[]:=by
    cases hk:NodeF.kids p with
    | nil=>rfl
    | cons e _=>exact e.elim
   rw[hk,noteK];cases n with
   | zero =>
    obtain⟨h1,-,-⟩:=RF.open_ h hs;rw[h1,show(NodeF.hd t).inner=false from hf,if_neg (by simp)];obtain rfl:d=D:=by simp at hd;omega
    exact jQm6 h0 hl
   | succ n =>
    obtain⟨h1,-,-⟩:=RF.open_ h hs;rw[h1,hf.1,if_pos rfl];exact jQm8 (by simp at hd;omega) hl
 | succ m ih =>
  intro n p t d D l h hf hd h0 hl;show lvOk D (noteF (noteN m) p d l);unfold noteF;cases hs:isShut (NodeF.hd p) with
  | true=>rw[if_pos rfl];exact hl
  | false =>
   rw[if_neg (by simp)];cases n with
   | zero =>
    obtain⟨h1,-,h3⟩:=RF.open_ h hs;rw[h1,show(NodeF.hd t).inner=false from hf,if_neg (by simp),(jQgy h3).1,noteK];obtain rfl:d=D:=by simp at hd;omega
    exact jQm6 h0 hl
   | succ n =>
    obtain⟨h1,-,z,e1,e2,hz⟩:=RF.open_ h hs;rw[h1,hf.1,if_pos rfl];refine jQm7 (fun c hc l hl=>?_) (jQm8 (by simp at hd;omega) hl);rw[e1] at hc;obtain⟨x,hx,rfl⟩:=List.mem_map.1 hc;exact ih n x.1 x.2 (d+1) D l (hz x hx) (hf.2 x.2 (by rw[e2];exact List.mem_map_of_mem hx)) (by simp at hd ⊢;omega) (by omega) hl
theorem jQqI {D:Int}{l:Lv}(h:lvOk D l):levelB l=true:=by
 obtain⟨h1,h2⟩:=h;unfold levelB;rcases h1 with⟨a,b⟩ | ⟨a,b⟩
 ·rw[b];rfl
 ·rw[a,b,decide_eq_true rfl,decide_eq_true h2];simp
theorem jQpI {H:ByteArray->ByteArray}{Q:Head->Prop}{m n:Nat}{p:Nd m}{t:Nd n}(h:RN H Q m n p t)(hs:isShut (headN m p)=false)(h1:fitS n (if(headN n t).inner then 2 else 0) t)(h2:firstP n t)(h3:flatN n t)(h4:(placesN n t).Pairwise (· < ·))(hi:(headN m p).inner=(headN n t).inner):canBeN m p=true:=by
 unfold canBeN;rw[hi,jQhp H Q m n p t _ h h1,jQo2 (List.Pairwise.sublist (jQfL H Q m n p t h hs h2) h4),jQqI (jQpb H Q m n p t 0 n ⟨-1,-1,-1⟩ h h3 (by simp) (by omega) ⟨Or.inl ⟨rfl,rfl⟩,by show(-1:Int)<n;omega⟩)];rfl
end Sq
end Go.Proofs.YtahpihjialbanaaGreatDoor
