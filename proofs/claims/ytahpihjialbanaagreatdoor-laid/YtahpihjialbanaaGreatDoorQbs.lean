import Derived.Test.YtahpihjialbanaaGreatDoorQbq
set_option linter.unusedVariables false
set_option linter.unusedSimpArgs false
namespace Go.Proofs.YtahpihjialbanaaGreatDoor
section
namespace Sq
def wClose:Word:=⟨1,bClose⟩
section
variable {A A' wc T:List Word} {e:List StepS} {st st':PSt}
end
theorem jQcd (l:List Bool)(v:Bool):popB (l++[v])=v:=by unfold popB;simp
def Tells (cols:List Col)(row:List Val)(d:List StepS)(v:Bool):Prop:=∀l,d.foldl (stepB cols row) l=l++[v]
theorem Tells.meets {cols:List Col}{row:List Val}{d:List StepS}{v:Bool}(h:Tells cols row d v):meets cols row d=v:=by
 have h0:=h []
 unfold Sq.meets
 cases d with
 | nil=>simp at h0
 | cons s r =>
  rw[if_neg (by simp),h0]
  exact jQcd [] v
end Sq
end
namespace Sq
def byteL (l:List UInt8)(k:Nat):Int:=((l[k]?).getD 0).toNat
def cntL (p:Int→Bool)(l:List UInt8):Nat:=(l.takeWhile fun c=>p c.toNat).length
def tokL (l:List UInt8):Nat :=
 if isLetter (byteL l 0) then cntL isName l
 else if isDigit (byteL l 0) then cntL isDigit l
 else if byteL l 0==39 then(if byteL l (1+cntL isInText (l.drop 1))==39 then 1+cntL isInText (l.drop 1)+1 else 0)
 else if isPair (byteL l 0) (byteL l 1) then 2
 else if isSign (byteL l 0) then 1
 else 0
def wordL (l:List UInt8):Word:=wordOf ⟨l.toArray⟩
theorem jQaG {a b:ByteArray}(h:a.data.toList=b.data.toList):a=b:=by
 cases a;cases b;simp at h;rw[h]
theorem jQdq (s:ByteArray)(a k:Nat):byteAt s (a+k)=byteL (s.data.toList.drop a) k:=by
 unfold byteAt byteL;rw[List.getElem?_drop]
theorem jQbG (s:ByteArray)(a:Nat):byteAt s a=byteL (s.data.toList.drop a) 0:=jQdq s a 0
theorem jQjZ (s:ByteArray)(a:Nat):endOf s a=a+tokL (s.data.toList.drop a):=by
 have h1:=jQbG s a
 have h2:byteAt s (a+1)=byteL (s.data.toList.drop a) 1:=jQdq s a 1
 have h3:cnt isInText s (a+1)=cntL isInText ((s.data.toList.drop a).drop 1):=by unfold cnt cntL;rw[List.drop_drop]
 have h4:byteAt s (a+1+cnt isInText s (a+1))=byteL (s.data.toList.drop a) (1+cntL isInText ((s.data.toList.drop a).drop 1)):=by
  rw[h3,Nat.add_assoc,jQdq]
 unfold endOf tokL endOfText
 rw[h4,h3,h1,h2]
 split
 ·rfl
 ·split
  ·rfl
  ·split
   ·split <;> omega
   ·split
    ·rfl
    ·split <;> rfl
theorem jQfQ (s:ByteArray)(a n:Nat):s.extract a (a+n)=⟨((s.data.toList.drop a).take n).toArray⟩:=by
 apply jQaG
 rw[jQao,Nat.add_sub_cancel_left]
def Splits (l:List UInt8)(ws:List Word):Prop:=∀P:List UInt8→List Word→Prop,P [] []→(∀(c:UInt8) (r:List UInt8) (ws:List Word),isGap c.toNat=true→P r ws→P (c :: r) ws) →
 (∀(l:List UInt8) (ws:List Word),isGap (byteL l 0)=false→0 < tokL l→tokL l≤l.length→(wordL (l.take (tokL l))).kind≠0→P (l.drop (tokL l)) ws→P l (wordL (l.take (tokL l)) :: ws))→P l ws
theorem Splits.nil:Splits [] []:=fun _ h1 _ _=>h1
theorem Splits.gap {c:UInt8}{r:List UInt8}{ws:List Word}(hg:isGap c.toNat=true)(h:Splits r ws):Splits (c :: r) ws:=fun P h1 h2 h3=>h2 c r ws hg (h P h1 h2 h3)
theorem Splits.word {l:List UInt8}{ws:List Word}(hg:isGap (byteL l 0)=false)(h0:0 < tokL l)(hl:tokL l≤l.length)(hk:(wordL (l.take (tokL l))).kind≠0)(h:Splits (l.drop (tokL l)) ws):Splits l (wordL (l.take (tokL l)) :: ws):=fun P h1 h2 h3=>h3 l ws hg h0 hl hk (h P h1 h2 h3)
theorem Splits.inv {l:List UInt8}{ws:List Word}(h:Splits l ws):Splits l ws∧((l=[]∧ws=[])∨(∃c r,l=c :: r∧isGap c.toNat=true∧Splits r ws)∨(isGap (byteL l 0)=false∧∃ws',ws=wordL (l.take (tokL l)) :: ws'∧Splits (l.drop (tokL l)) ws')) :=
 h (fun l ws=>Splits l ws∧((l=[]∧ws=[])∨(∃c r,l=c :: r∧isGap c.toNat=true∧Splits r ws)∨(isGap (byteL l 0)=false∧∃ws',ws=wordL (l.take (tokL l)) :: ws'∧Splits (l.drop (tokL l)) ws')))
  ⟨Splits.nil,Or.inl ⟨rfl,rfl⟩⟩ (fun c r ws hg ih=>⟨Splits.gap hg ih.1,Or.inr (Or.inl ⟨c,r,rfl,hg,ih.1⟩)⟩) (fun l ws hg h0 hl hk ih=>⟨Splits.word hg h0 hl hk ih.1,Or.inr (Or.inr ⟨hg,ws,rfl,ih.1⟩)⟩)
theorem jQoo (s:ByteArray):∀f a ws,s.size < f+a→splitFrom s f a=some ws→Splits (s.data.toList.drop a) ws:=by
 intro f
 induction f with
 | zero =>
  intro a ws hf h
  rw[List.drop_eq_nil_of_le (by rw[←jQG];omega)]
  simp[splitFrom] at h;subst h;exact Splits.nil
 | succ f ih =>
  intro a ws hf h
  rw[splitFrom] at h
  split at h
  ·rename_i ha
   have ha':a < s.data.toList.length:=by rw[←jQG];exact ha
   split at h
   ·rename_i hg
    have:=ih (a+1) ws (by omega) h
    rw[List.drop_eq_getElem_cons ha']
    refine Splits.gap ?_ this
    have e:byteAt s a=((s.data.toList[a]).toNat:Int):=by unfold byteAt;rw[List.getElem?_eq_getElem ha'];rfl
    rw[←e];exact hg
   ·rename_i hg
    split at h
    ·simp at h
    ·rename_i he
     split at h
     ·simp at h
     ·rename_i hk
      cases h2:splitFrom s f (endOf s a) with
      | none=>rw[h2] at h;simp at h
      | some l =>
       rw[h2] at h
       simp at h
       have he2:=jQjZ s a
       have h3:=ih _ l (by omega) h2
       rw[he2] at h h3 hk he
       rw[jQfQ] at h hk
       subst h
       refine Splits.word ?_ (by omega) (by rw[List.length_drop,←jQG];omega) ?_ ?_
       ·rw[←jQbG];simpa using hg
       ·simpa[wordL] using hk
       ·rw[List.drop_drop];exact h3
  ·rename_i ha
   rw[List.drop_eq_nil_of_le (by rw[←jQG];omega)]
   simp at h;subst h;exact Splits.nil
theorem jQkt (s:ByteArray){l:List UInt8}{ws:List Word}(h:Splits l ws):∀a f,s.data.toList.drop a=l→l.length < f→splitFrom s f a=some ws:=by
 have hl:∀a,(s.data.toList.drop a).length=s.size - a:=fun a=>by rw[List.length_drop,←jQG]
 refine h (fun l ws=>∀a f,s.data.toList.drop a=l→l.length < f→splitFrom s f a=some ws) ?_ ?_ ?_
 ·intro a f h hf
  have:=hl a
  rw[h] at this
  exact jQjq s f a (by simp at this;omega)
 ·intro c r ws hg ih a f h hf
  have h1:=hl a
  rw[h] at h1
  simp at h1 hf
  have h2:=jQbG s a
  rw[h] at h2
  obtain⟨f,rfl⟩:∃g,f=g+1:=⟨f - 1,by omega⟩
  rw[jQjp s f a (by omega) (by rw[h2];exact hg)]
  refine ih (a+1) f ?_ (by omega)
  rw[←List.drop_drop,h];rfl
 ·intro l ws hg h0 hle hk ih a f h hf
  have h1:=hl a
  rw[h] at h1
  have h2:=jQbG s a
  rw[h] at h2
  have he:=jQjZ s a
  rw[h] at he
  obtain⟨f,rfl⟩:∃g,f=g+1:=⟨f - 1,by omega⟩
  have hx:s.extract a (endOf s a)=⟨(l.take (tokL l)).toArray⟩:=by rw[he,jQfQ,h]
  rw[jQhc s f a (by omega) (by rw[h2];exact hg) (by omega) (by rw[hx];exact hk),hx]
  rw[ih (endOf s a) f (by rw[he,←List.drop_drop,h]) (by rw[List.length_drop];omega)]
  rfl
theorem jQaa (s:ByteArray)(ws:List Word):split s=some ws↔Splits s.data.toList ws:=by
 constructor
 ·intro h;exact jQoo s _ 0 ws (by omega) h
 ·intro h;exact jQkt s h 0 _ rfl (by rw[jQG];omega)
theorem jQcn (l R:List UInt8)(k:Nat)(h:k < l.length):byteL (l++R) k=byteL l k:=by
 unfold byteL;rw[List.getElem?_append_left h]
theorem jQkf (l:List UInt8)(k:Nat)(h:l.length≤k):byteL l k=0:=by
 unfold byteL;rw[List.getElem?_eq_none h];rfl
theorem jQiM (p:Int→Bool)(R:List UInt8):∀l:List UInt8,cntL p l < l.length→cntL p (l++R)=cntL p l:=by
 intro l
 induction l with
 | nil=>intro h;simp at h
 | cons c r ih =>
  intro h
  unfold cntL at h ih ⊢
  rw[List.cons_append,List.takeWhile_cons,List.takeWhile_cons]
  rw[List.takeWhile_cons] at h
  split
  ·rename_i hc
   rw[if_pos hc] at h
   simp only[List.length_cons] at h ⊢
   rw[ih (by omega)]
  ·rfl
theorem jQc3 (p:Int→Bool)(R:List UInt8)(hR:R=[]∨∃c r,R=c :: r∧p c.toNat=false):∀l:List UInt8,cntL p (l++R)=cntL p l:=by
 intro l
 induction l with
 | nil =>
  rcases hR with rfl | ⟨c,r,rfl,hc⟩
  ·rfl
  ·unfold cntL;simp[hc]
 | cons c r ih =>
  unfold cntL at ih ⊢
  rw[List.cons_append,List.takeWhile_cons,List.takeWhile_cons]
  split
  ·simp only[List.length_cons];rw[ih]
  ·rfl
theorem jQpG {l:List UInt8}(h:0 < tokL l):0 < l.length:=by
 cases l with
 | nil=>exact absurd h (by decide)
 | cons c r=>simp
theorem jQpH (l R:List UInt8)(h0:0 < tokL l)(hR:tokL l < l.length∨R=[]∨∃r,R=41 :: r):tokL (l++R)=tokL l:=by
 have hp:=jQpG h0
 have hb0:=jQcn l R 0 hp
 unfold tokL at h0 hR ⊢
 rw[hb0]
 split
 ·rename_i h1
  rw[if_pos h1] at hR
  rcases hR with h | h | ⟨r,h⟩
  ·exact jQiM _ R l h
  ·exact jQc3 _ R (Or.inl h) l
  ·exact jQc3 _ R (Or.inr ⟨41,r,h,by decide⟩) l
 ·rename_i h1
  rw[if_neg h1] at h0 hR
  split
  ·rename_i h2
   rw[if_pos h2] at hR
   rcases hR with h | h | ⟨r,h⟩
   ·exact jQiM _ R l h
   ·exact jQc3 _ R (Or.inl h) l
   ·exact jQc3 _ R (Or.inr ⟨41,r,h,by decide⟩) l
  ·rename_i h2
   rw[if_neg h2] at h0 hR
   split
   ·rename_i h3
    rw[if_pos h3] at h0 hR
    by_cases hq:(byteL l (1+cntL isInText (l.drop 1))==39)=true
    ·have hlt:1+cntL isInText (l.drop 1) < l.length:=by
      rcases Nat.lt_or_ge (1+cntL isInText (l.drop 1)) l.length with h | h
      ·exact h
      ·rw[jQkf l _ h] at hq;exact absurd hq (by decide)
     have hd:(l++R).drop 1=l.drop 1++R:=by rw[List.drop_append_of_le_length (by omega)]
     rw[hd,jQiM _ R (l.drop 1) (by rw[List.length_drop];omega),jQcn l R _ hlt]
    ·rw[if_neg hq] at h0;omega
   ·rename_i h3
    rw[if_neg h3] at h0 hR
    by_cases hl:1 < l.length
    ·rw[jQcn l R 1 hl]
    ·have e1:byteL l 1=0:=jQkf l 1 (by omega)
     have e2:isPair (byteL l 0) (byteL (l++R) 1)=false:=by
      have hnp:isPair (byteL l 0) (byteL l 1)=false:=by rw[e1];unfold isPair;simp
      rw[hnp] at hR h0
      simp only[Bool.false_eq_true,if_false] at hR h0
      split at h0
      ·rename_i hs
       rw[if_pos hs] at hR
       have hb:byteL (l++R) 1=byteL R 0:=by
        unfold byteL
        rw[List.getElem?_append_right (by omega),show 1 - l.length=0 from by omega]
       rw[hb]
       rcases hR with h | h | ⟨r,h⟩
       ·omega
       ·rw[h];unfold isPair byteL;simp
       ·rw[h];unfold isPair byteL;simp
      ·omega
     have hnp:isPair (byteL l 0) (byteL l 1)=false:=by rw[e1];unfold isPair;simp
     rw[e2,hnp]
def splitP:Nat→List UInt8→Option (List Word)
 | 0,_=>none
 | _+1,[]=>some []
 | f+1,c :: r =>
  if isGap c.toNat then splitP f r
  else if 0 < tokL (c :: r)∧tokL (c :: r) < (c :: r).length∧(wordL ((c :: r).take (tokL (c :: r)))).kind≠0 then(splitP f ((c :: r).drop (tokL (c :: r)))).map (wordL ((c :: r).take (tokL (c :: r))) :: ·)
  else none
theorem jQaZ (R:List UInt8):∀f P wP,splitP f P=some wP→∀ws,Splits (P++R) ws↔∃wr,ws=wP++wr∧Splits R wr:=by
 intro f
 induction f with
 | zero=>intro P wP h;simp[splitP] at h
 | succ f ih =>
  intro P wP h ws
  cases P with
  | nil=>simp[splitP] at h;subst h;simp
  | cons c r =>
   rw[splitP] at h
   split at h
   ·rename_i hg
    rw[←ih r wP h ws]
    constructor
    ·intro hs
     rcases hs.inv.2 with⟨hl,_⟩ | ⟨c',r',hl,_,h2⟩ | ⟨hg2,_⟩
     ·simp at hl
     ·simp at hl;obtain⟨rfl,rfl⟩:=hl;exact h2
     ·exact absurd (show isGap c.toNat=false from hg2) (by rw[hg];simp)
    ·intro hs;exact Splits.gap hg hs
   ·rename_i hg
    split at h
    ·rename_i ht
     obtain⟨t1,t2,t3⟩:=ht
     have hta:=jQpH (c :: r) R t1 (Or.inl t2)
     have hle:tokL (c :: r)≤(c :: r).length:=by omega
     have e1:(c :: r++R).take (tokL (c :: r++R))=(c :: r).take (tokL (c :: r)):=by rw[hta,List.take_append_of_le_length hle]
     have e2:(c :: r++R).drop (tokL (c :: r++R))=(c :: r).drop (tokL (c :: r))++R:=by rw[hta,List.drop_append_of_le_length hle]
     cases hp:splitP f ((c :: r).drop (tokL (c :: r))) with
     | none=>rw[hp] at h;simp at h
     | some w2 =>
      rw[hp] at h
      simp at h
      subst h
      have hi:=ih _ w2 hp
      constructor
      ·intro hs
       rcases hs.inv.2 with⟨hl,_⟩ | ⟨c',r',hl,hg2,_⟩ | ⟨hg2,ws',rfl,h5⟩
       ·simp at hl
       ·simp at hl;obtain⟨rfl,rfl⟩:=hl;exact absurd hg2 hg
       ·rw[e2] at h5
        obtain⟨wr,rfl,h6⟩:=(hi _).1 h5
        exact⟨wr,by rw[e1];rfl,h6⟩
      ·rintro⟨wr,rfl,h6⟩
       have h7:=(hi (w2++wr)).2 ⟨wr,rfl,h6⟩
       have:=Splits.word (l:=c :: r++R) (ws:=w2++wr) (by rw[jQcn (c :: r) R 0 (by simp)];show isGap c.toNat=false;simpa using hg) (by omega) (by rw[hta];simp at hle ⊢;omega) (by rw[e1];exact t3) (by rw[e2];exact h7)
       rw[e1] at this
       exact this
    ·simp at h
def wOpen:Word:=⟨1,bOpen⟩
theorem jQap (c:UInt8)(hc:c=40∨c=41)(R:List UInt8)(ws:List Word):Splits (c :: R) ws↔∃wr,ws=⟨1,⟨#[c]⟩⟩ :: wr∧Splits R wr:=by
 have ht:tokL (c :: R)=1:=by
  rcases hc with rfl | rfl
  ·unfold tokL isPair;rfl
  ·unfold tokL isPair;rfl
 have hw:wordL ((c :: R).take (tokL (c :: R)))=⟨1,⟨#[c]⟩⟩:=by
  rw[ht]
  rcases hc with rfl | rfl <;> rfl
 have hg:isGap c.toNat=false:=by rcases hc with rfl | rfl <;> decide
 have hd:(c :: R).drop (tokL (c :: R))=R:=by rw[ht];rfl
 constructor
 ·intro hs
  rcases hs.inv.2 with⟨hl,_⟩ | ⟨c',r',hl,hg2,_⟩ | ⟨_,ws',rfl,h5⟩
  ·simp at hl
  ·simp at hl;obtain⟨rfl,rfl⟩:=hl;rw[hg] at hg2;cases hg2
  ·rw[hd] at h5
   exact⟨_,by rw[hw],h5⟩
 ·rintro⟨wr,rfl,h6⟩
  have:=Splits.word (l:=c :: R) (ws:=wr) hg (by omega) (by rw[ht];simp) (by rw[hw];show(1:Int)≠0;decide) (by rw[hd];exact h6)
  rw[hw] at this
  exact this
end Sq
namespace Sq
theorem jQcU (A X:List Word)(st:PSt)(h:st.pos < A.length):nextW (A++X) st=nextW A st:=by
 unfold nextW;rw[List.getElem?_append_left h]
theorem jQas (A X:List Word)(st:PSt)(m:ByteArray)(h:st.pos < A.length):acceptB (A++X) st m=acceptB A st m:=by
 unfold acceptB;rw[jQcU A X st h]
theorem jQgb (A X:List Word)(st:PSt)(h:st.pos < A.length):takeS (A++X) st=takeS A st:=by
 unfold takeS;rw[jQcU A X st h]
theorem jQb7 (A X:List Word)(st:PSt)(m:ByteArray)(h:st.pos < A.length):wantS (A++X) st m=wantS A st m:=by
 unfold wantS;rw[jQas A X st m h]
theorem jQjJ (A X:List Word)(st:PSt)(h:st.pos < A.length):nameS (A++X) st=nameS A st:=by
 unfold nameS;rw[jQcU A X st h,jQgb A X st h]
theorem jQjK (A X:List Word)(st:PSt)(h:st.pos < A.length):nameR (A++X) st=nameR A st:=by
 unfold nameR;rw[jQcU A X st h]
theorem jQjL (A X:List Word)(st:PSt)(h:st.pos < A.length):markR (A++X) st=markR A st:=by
 unfold markR;rw[jQcU A X st h]
theorem jQg5 (A X:List Word)(st:PSt)(h:st.pos < A.length):tableS (A++X) st=tableS A st:=by
 unfold tableS;rw[jQjJ A X st h,jQjK A X st h]
def bId:ByteArray:=⟨#[105,100]⟩
def wkey (x:Word):Int×List UInt8:=(x.kind,x.text.data.toList)
theorem jQlu {a b:Word}(h:wkey a=wkey b):a=b:=by
 cases a;cases b
 simp only[wkey,Prod.mk.injEq] at h
 rw[h.1,jQaG h.2]
theorem jQls:∀{a b:List Word},a.map wkey=b.map wkey→a=b
 | [],[],_=>rfl
 | [],_ :: _,h=>by simp at h
 | _ :: _,[],h=>by simp at h
 | x :: r,y :: q,h=>by
  simp only[List.map_cons,List.cons.injEq] at h
  rw[jQlu h.1,jQls h.2]
theorem jQct {o:Option (List Word)}{w:List Word}(h:o.map (List.map wkey)=some (w.map wkey)):o=some w:=by
 cases o with
 | none=>simp at h
 | some l=>simp at h;rw[jQls h]
theorem jQI (A:List Word)(x:Word)(X:List Word)(st:PSt)(m:ByteArray)(hb:st.bad=false)(hp:st.pos=A.length):acceptB (A++x :: X) st m=(x.kind==1 && x.text.toList==m.toList):=by
 unfold acceptB nextW
 rw[hb,hp]
 simp
end Sq
namespace Sq
def isRef (r:ByteArray):Prop:=∃e:Int,r.data.toList=33 :: Lib.itoa e
theorem jQai (e:Int):isRef (refused e).reply:=⟨e,by show(bBang++itoa e).data.toList=_;rw[jQj];rfl⟩
theorem isRef.bang {r:ByteArray}(h:isRef r):r.data.toList.head?=some 33:=by obtain⟨e,h⟩:=h;rw[h];rfl
theorem jQgw {db:List Tab}(hg:good db){t:Tab}(ht:t∈db):t.rows.length≤60:=by
 have h1:=jQfC db t ht
 have h2:=hg.size
 unfold dbSize at h2
 omega
end Sq
section
open Go.RowKit
theorem Sq.jQks (cols:List Sq.Col)(row:List Sq.Val)(h:Sq.okRow row)(items:List ByteArray):-(100000000000 * (items.length:Int))≤Sq.sumItems cols row items∧Sq.sumItems cols row items≤100000000000 * (items.length:Int):=by
 induction items with
 | nil=>exact⟨by simp[Sq.sumItems],by simp[Sq.sumItems]⟩
 | cons n r ih =>
  have h1:=Sq.jQke cols row n h
  have e:Sq.sumItems cols row (n :: r)=(Sq.cellOf cols row n).number+Sq.sumItems cols row r:=by simp[Sq.sumItems]
  rw[e,List.length_cons]
  obtain⟨h2,h3,_⟩:=h1
  omega
theorem Sq.jQlO (cols:List Sq.Col)(items:List ByteArray)(hi:items.length≤1000)(rows:List (List Sq.Val))(h:∀r∈rows,Sq.okRow r):-(100000000000000 * (rows.length:Int))≤Sq.sumRows cols items rows∧Sq.sumRows cols items rows≤100000000000000 * (rows.length:Int):=by
 induction rows with
 | nil=>exact⟨by simp[Sq.sumRows],by simp[Sq.sumRows]⟩
 | cons n r ih =>
  have h1:=Sq.jQks cols n (h n (List.mem_cons_self ..)) items
  have h2:=ih fun r hr=>h r (List.mem_cons_of_mem _ hr)
  have e:Sq.sumRows cols items (n :: r)=Sq.sumItems cols n items+Sq.sumRows cols items r:=by simp[Sq.sumRows]
  rw[e,List.length_cons]
  omega
theorem Sq.jQan (e:Int)(h0:-1000≤e)(h1:e≤1000):(Sq.refused e).reply.size≤100000000:=by
 have:=jQbE e (by omega) (by omega)
 show(Sq.bBang++Sq.itoa e).size≤_
 rw[ByteArray.size_append]
 have:Sq.bBang.size=1:=rfl
 omega
theorem Sq.jQa4 (n:Int)(h0:-1000000≤n)(h1:n≤1000000):(Sq.counted n).size≤100000000:=by
 have:=jQbE n (by omega) (by omega)
 show(Sq.itoa n++Sq.bSemi).size≤_
 rw[ByteArray.size_append]
 have:Sq.bSemi.size=1:=rfl
 omega
theorem Sq.jQov {db:List Sq.Tab}(hg:Sq.good db)(t:Sq.Tab)(ht:t∈db)(st:Sq.PSt)(hi:st.items.length≤163):(Sq.show t st).size≤100000000:=by
 have h60:=Sq.jQgw hg ht
 have hm:(Sq.meeting t st.wher).length≤t.rows.length:=List.length_filter_le _ _
 have hok:∀r∈Sq.meeting t st.wher,Sq.okRow r:=fun r hr=>((hg.each t ht).rows r (List.mem_filter.1 hr).1).ok
 have hc:=(hg.each t ht).cols
 unfold Sq.show Sq.showRows
 split
 ·exact Sq.jQa4 _ (by omega) (by omega)
 ·split
  ·have h1:=Sq.jQlO t.cols st.items (by omega) _ hok
   have h2:=jQbE (Sq.sumRows t.cols st.items (Sq.meeting t st.wher)) (by omega) (by omega)
   rw[ByteArray.size_append]
   have:Sq.bSemi.size=1:=rfl
   omega
  ·split
   ·have h1:=Sq.jQbo t.cols (t.cols.map Sq.Col.name) (by simp;omega) _ hok
    rw[Sq.jQG]
    show(Sq.listed _ _ _).length≤_
    omega
   ·have h1:=Sq.jQbo t.cols st.items hi _ hok
    rw[Sq.jQG]
    show(Sq.listed _ _ _).length≤_
    omega
theorem Sq.jQX {db:List Sq.Tab}(hg:Sq.good db)(sql:ByteArray):(Sq.decide db sql).reply.size≤100000000:=by
 have hpb:=Sq.jQmu sql
 have hrd:=(Sq.jQbV sql).1.few
 unfold Sq.decide
 split
 ·exact Sq.jQan _ (by omega) (by omega)
 ·unfold Sq.decideSt
  split
  ·unfold Sq.create
   repeat (first | exact Sq.jQan _ (by decide) (by decide) | exact Sq.jQa4 0 (by decide) (by decide) | split)
  ·split
   ·rename_i t hx
    have ht:t∈db:=List.mem_of_getElem? hx
    have hcb:=Sq.jQnJ t.cols (Sq.parse sql).2
    have h60:=Sq.jQgw hg ht
    split
    ·exact Sq.jQan _ (by decide) (by decide)
    ·unfold Sq.decideTab
     split
     ·exact Sq.jQan _ (by omega) (by omega)
     ·split
      ·unfold Sq.insert
       repeat (first | exact Sq.jQan _ (by decide) (by decide) | exact Sq.jQa4 1 (by decide) (by decide) | split)
      ·split
       ·unfold Sq.update
        cases hu:Sq.updateFrom t.cols (Sq.parse sql).2.sets (Sq.meeting t (Sq.parse sql).2.wher) [] with
        | none=>exact Sq.jQan _ (by decide) (by decide)
        | some puts =>
         have hl:=Sq.jQfv _ _ _ _ _ hu
         have hm:(Sq.meeting t (Sq.parse sql).2.wher).length≤t.rows.length:=List.length_filter_le _ _
         simp at hl
         exact Sq.jQa4 _ (by omega) (by omega)
       ·split
        ·have hm:(Sq.meeting t (Sq.parse sql).2.wher).length≤t.rows.length:=List.length_filter_le _ _
         exact Sq.jQa4 _ (by omega) (by omega)
        ·exact Sq.jQov hg t ht _ (by omega)
   ·exact Sq.jQan _ (by decide) (by decide)
theorem Sq.jQe5 (s:ByteArray):Sq.bang s=true↔s.data.toList.head?=some 33:=by unfold Sq.bang;simp
end
end Go.Proofs.YtahpihjialbanaaGreatDoor
