import Derived.Test.YtahpihjialbanaaGreatDoorQcg
set_option linter.unusedVariables false
set_option linter.unusedSimpArgs false
set_option maxRecDepth 100000
set_option maxHeartbeats 8000000
namespace Go.Proofs.YtahpihjialbanaaGreatDoor
namespace Sq
def pI:List UInt8:=[105,110,115,101,114,116,32,105,110,116,111,32,122,122,32,118,97,108,117,101,115,32]
def wI:List Word:=[⟨1,bInsert⟩,⟨1,bInto⟩,⟨2,bZZ⟩,⟨1,bValues⟩]
def wComma:Word:=⟨1,bComma⟩
def dg (k:Nat):ByteArray:=⟨(Lib.decDigits k).toArray⟩
def wNum (k:Nat):Word:=⟨3,dg k⟩
theorem jQrH:splitP 60 pI=some wI:=jQct (by decide +kernel)
theorem jQqH:∀k:Fin 100,wkey (wordL (Lib.decDigits k.val))=(3,Lib.decDigits k.val):=by decide +kernel
theorem jQrV:∀k:Fin 100,num (dg k.val)=(k.val:Int):=by decide +kernel
theorem jQq9 (k:Nat):∀c∈Lib.decDigits k,isDigit c.toNat=true:=fun c hc=>by
 have:=jQj8 k c hc
 unfold isDigit rng
 simp
 omega
theorem jQrf (p:Int→Bool)(R:List UInt8)(hR:R=[]∨∃c r,R=c :: r∧p c.toNat=false):∀l:List UInt8,(∀c∈l,p c.toNat=true)→cntL p (l++R)=l.length:=by
 intro l hl
 rw[jQc3 p R hR l]
 unfold cntL
 have:(l.takeWhile fun c=>p c.toNat)=l:=by
  induction l with
  | nil=>rfl
  | cons c r ih=>rw[List.takeWhile_cons,if_pos (hl c (by simp)),ih (fun x hx=>hl x (by simp[hx]))]
 rw[this]
theorem jQhb (k:Nat)(hk:k < 100)(c:UInt8)(hc:isDigit c.toNat=false)(R:List UInt8)(ws:List Word)(h:Splits (c :: R) ws):Splits (Lib.decDigits k++c :: R) (wNum k :: ws):=by
 have hp:=jQj7 k
 have hall:=jQq9 k
 have hb:isDigit (byteL (Lib.decDigits k++c :: R) 0)=true:=by
  rw[jQcn _ _ 0 hp]
  unfold byteL
  rw[List.getElem?_eq_getElem hp]
  exact hall _ (List.getElem_mem hp)
 have hb2:isLetter (byteL (Lib.decDigits k++c :: R) 0)=false∧isGap (byteL (Lib.decDigits k++c :: R) 0)=false:=by
  generalize byteL (Lib.decDigits k++c :: R) 0=x at hb
  unfold isDigit rng at hb
  unfold isLetter rng isGap
  simp at hb ⊢
  omega
 have ht:tokL (Lib.decDigits k++c :: R)=(Lib.decDigits k).length:=by
  unfold tokL
  rw[hb2.1,hb]
  simp only[Bool.false_eq_true,if_false,if_true]
  exact jQrf _ _ (Or.inr ⟨c,R,rfl,hc⟩) _ hall
 have e1:(Lib.decDigits k++c :: R).take (tokL (Lib.decDigits k++c :: R))=Lib.decDigits k:=by rw[ht,List.take_left]
 have e2:(Lib.decDigits k++c :: R).drop (tokL (Lib.decDigits k++c :: R))=c :: R:=by rw[ht,List.drop_left]
 have e3:wordL (Lib.decDigits k)=wNum k:=jQlu (jQqH ⟨k,hk⟩)
 have:=Splits.word (l:=Lib.decDigits k++c :: R) (ws:=ws) hb2.2 (by omega) (by rw[ht];simp) (by rw[e1,e3];show(3:Int)≠0;decide) (by rw[e2];exact h)
 rw[e1,e3] at this
 exact this
theorem jQif (R:List UInt8)(ws:List Word)(h:Splits R ws):Splits (44 :: R) (wComma :: ws):=by
 have ht:tokL (44 :: R)=1:=by unfold tokL isPair;rfl
 have hw:wordL ((44 :: R).take (tokL (44 :: R)))=wComma:=by rw[ht];rfl
 have:=Splits.word (l:=44 :: R) (ws:=ws) rfl (by omega) (by rw[ht];simp) (by rw[hw];show(1:Int)≠0;decide) (by rw[ht];exact h)
 rw[hw] at this
 exact this
theorem jQkM (k x:Nat)(hk:k < 100)(hx:x < 100):Splits (lins k x).data.toList (wI++wOpen :: wNum k :: wComma :: wNum x :: [wClose]):=by
 have e:(lins k x).data.toList=pI++(40 :: (Lib.decDigits k++44 :: (32 :: (Lib.decDigits x++41 :: [])))):=by
  show pIns++(Lib.decDigits k++([44,32]++(Lib.decDigits x++[41])))=_
  show(pI++[40])++_=_
  simp
 rw[e]
 refine(jQaZ _ 60 pI wI jQrH _).2 ⟨_,rfl,?_⟩
 refine(jQap 40 (Or.inl rfl) _ _).2 ⟨_,rfl,?_⟩
 refine jQhb k hk 44 (by decide) _ _ ?_
 refine jQif _ _ (Splits.gap (by decide) ?_)
 exact jQhb x hx 41 (by decide) _ _ ((jQap 41 (Or.inr rfl) [] _).2 ⟨[],rfl,Splits.nil⟩)
def wIO:List Word:=wI++[wOpen]
def sI:PSt:=wantS wIO (wantS wIO (tableS wIO (wantS wIO (setAct (takeS wIO st0) 2) bInto)) bValues) bOpen
theorem jQrJ:sI.bad=false∧sI.pos=5∧sI.act=2∧sI.table=bZZ∧sI.vals.length=0∧sI.wher.length=0:=by decide +kernel
theorem jQg1 (A:List Word)(k:Nat)(X:List Word)(st:PSt)(hb:st.bad=false)(hp:st.pos=A.length):valueS (A++wNum k :: X) st=addVal (step1 st) (vnum (num (dg k))):=by
 have hn:nextW (A++wNum k :: X) st=wNum k:=by unfold nextW;rw[hb,hp];simp
 have ha:acceptB (A++wNum k :: X) st bMinus=false:=by rw[jQI A _ X st _ hb hp];rfl
 have hs:acceptS (A++wNum k :: X) st bMinus=st:=by unfold acceptS;rw[ha];rfl
 have ht:takeS (A++wNum k :: X) st=step1 st:=by unfold takeS;rw[hn];rfl
 unfold valueS litS litR
 rw[hs,hn,ht,ha]
 rfl
theorem jQo1 (k x:Nat)(hk:k < 100)(hx:x < 100):(parse (lins k x)).1=0∧(parse (lins k x)).2.act=2∧(parse (lins k x)).2.table=bZZ∧(parse (lins k x)).2.vals=[vnum k,vnum x]∧(parse (lins k x)).2.wher=[]:=by
 obtain⟨q1,q2,q3,q4,q5,q6⟩:=jQrJ
 obtain⟨W,hW⟩:∃W,W=wI++wOpen :: wNum k :: wComma :: wNum x :: [wClose]:=⟨_,rfl⟩
 have hW1:W=wIO++wNum k :: (wComma :: wNum x :: [wClose]):=by rw[hW];simp[wIO]
 have hW2:W=(wIO++[wNum k])++wComma :: (wNum x :: [wClose]):=by rw[hW];simp[wIO]
 have hW3:W=(wIO++[wNum k,wComma])++wNum x :: [wClose]:=by rw[hW];simp[wIO]
 have hW4:W=(wIO++[wNum k,wComma,wNum x])++wClose :: []:=by rw[hW];simp[wIO]
 have hlen:W.length=9:=by rw[hW];rfl
 have hio:wIO.length=5:=rfl
 have p0:st0.pos < wIO.length:=by decide
 have p1:(setAct (takeS wIO st0) 2).pos < wIO.length:=by decide +kernel
 have p2:(wantS wIO (setAct (takeS wIO st0) 2) bInto).pos < wIO.length:=by decide +kernel
 have p3:(tableS wIO (wantS wIO (setAct (takeS wIO st0) 2) bInto)).pos < wIO.length:=by decide +kernel
 have p4:(wantS wIO (tableS wIO (wantS wIO (setAct (takeS wIO st0) 2) bInto)) bValues).pos < wIO.length:=by decide +kernel
 have m1:((markR wIO st0).toList==bCreate.toList)=false:=by decide +kernel
 have m2:((markR wIO st0).toList==bInsert.toList)=true:=by decide +kernel
 have hst:statementS W st0=wantS W (commas W (valueS W) (W.length+1) (valueS W sI)) bClose:=by
  rw[hW1]
  unfold statementS
  rw[jQjL _ _ _ p0,jQgb _ _ _ p0,m1,m2]
  simp only[Bool.false_eq_true,if_false,if_true]
  unfold insertS
  simp only
  rw[jQb7 _ _ _ _ p1,jQg5 _ _ _ p2,jQb7 _ _ _ _ p3,jQb7 _ _ _ _ p4]
  rfl
 have v1:valueS W sI=addVal (step1 sI) (vnum (num (dg k))):=by rw[hW1];exact jQg1 wIO k _ sI q1 (by rw[q2,hio])
 obtain⟨s1,hs1⟩:∃s,s=addVal (step1 sI) (vnum (num (dg k))):=⟨_,rfl⟩
 have b1:s1.bad=false:=by rw[hs1];exact q1
 have r1:s1.pos=6:=by rw[hs1];show sI.pos+1=6;omega
 have c1:acceptB W s1 bComma=true:=by rw[hW2,jQI _ _ _ s1 _ b1 (by rw[r1];simp[hio])];decide +kernel
 have v2:valueS W (step1 s1)=addVal (step1 (step1 s1)) (vnum (num (dg x))):=by rw[hW3];exact jQg1 _ x _ (step1 s1) b1 (by show s1.pos+1=_;rw[r1];simp[hio])
 obtain⟨s2,hs2⟩:∃s,s=addVal (step1 (step1 s1)) (vnum (num (dg x))):=⟨_,rfl⟩
 have b2:s2.bad=false:=by rw[hs2];exact b1
 have r2:s2.pos=8:=by rw[hs2];show s1.pos+1+1=8;omega
 have c2:acceptB W s2 bComma=false:=by rw[hW4,jQI _ _ _ s2 _ b2 (by rw[r2];simp[hio])];decide +kernel
 have c3:acceptB W s2 bClose=true:=by rw[hW4,jQI _ _ _ s2 _ b2 (by rw[r2];simp[hio])];decide +kernel
 have hfin:statementS W st0=step1 s2:=by
  rw[hst,v1,←hs1,hlen,commas,c1,if_pos rfl,v2,←hs2,commas,c2]
  simp only[Bool.false_eq_true,if_false]
  unfold wantS
  rw[c3]
  rfl
 have hsz:(lins k x).size≤160:=by
  have h1:=Lib.decDigits_length k
  have h2:=Lib.decDigits_length x
  have h3:=jQY k (by omega)
  have h4:=jQY x (by omega)
  rw[jQG]
  show(pIns++(Lib.decDigits k++([44,32]++(Lib.decDigits x++[41])))).length≤160
  have h5:pIns.length=23:=rfl
  simp only[List.length_append,List.length_cons,List.length_nil]
  omega
 have hp:=jQqE (lins k x) W hsz ((jQaa _ W).2 (by rw[hW];exact jQkM k x hk hx)) (by rw[hfin];exact b2) (by rw[hfin,hlen];show s2.pos+1=9;omega)
 rw[hp,hfin]
 have hk':num (dg k)=(k:Int):=jQrV ⟨k,hk⟩
 have hx':num (dg x)=(x:Int):=jQrV ⟨x,hx⟩
 refine⟨rfl,?_,?_,?_,?_⟩
 ·show s2.act=2;rw[hs2,hs1];exact q3
 ·show s2.table=bZZ;rw[hs2,hs1];exact q4
 ·show s2.vals=_
  rw[hs2,hs1]
  show(sI.vals++[vnum (num (dg k))])++[vnum (num (dg x))]=_
  rw[jQT q5,hk',hx'];rfl
 ·show s2.wher=[];rw[hs2,hs1];exact jQT q6
end Sq
namespace Sq
theorem jQbZ (n:ByteArray)(t:Tab)(ht:(t.name.toList==n.toList)=true):∀(l:List Tab) (i:Int),0≤i→findTabFrom n l i=-1→findTabFrom n (l++[t]) i=i+l.length
 | [],i,_,_=>by show(if t.name.toList==n.toList then i else _)=_;rw[if_pos ht];simp
 | c :: r,i,hi,h=>by
  rw[findTabFrom] at h
  rw[List.cons_append,findTabFrom]
  split
  ·rename_i hc;rw[if_pos hc] at h;omega
  ·rename_i hc;rw[if_neg hc] at h
   rw[jQbZ n t ht r (i+1) (by omega) h]
   simp;omega
theorem jQrB:(bZZ.toList==bZZ.toList)=true:=by simp
theorem jQnj {db:List Tab}(h:findTab db bZZ < 0)(rows:List (List Val)):findTab (db++[zz rows]) bZZ=db.length:=by
 have h1:findTabFrom bZZ db 0=-1:=by
  rcases jQgt bZZ db 0 (by omega) with h2 | h2
  ·exact h2
  ·unfold findTab at h;omega
 have:=jQbZ bZZ (zz rows) jQrB db 0 (by omega) h1
 unfold findTab
 rw[this];omega
theorem jQa9 {db:List Tab}(h:findTab db bZZ < 0)(rows:List (List Val))(sql:ByteArray)(h0:(parse sql).1=0)(h1:(parse sql).2.act≠1)(h2:(parse sql).2.table=bZZ) :
  Sq.decide (db++[zz rows]) sql=decideTab (db++[zz rows]) (zz rows) db.length (parse sql).2:=by
 unfold Sq.decide
 rw[h0,if_neg (by decide)]
 unfold decideSt
 rw[if_neg (by simpa using h1),h2,jQnj h rows,Int.toNat_natCast,List.getElem?_append_right (Nat.le_refl _),Nat.sub_self]
 show(if(db.length:Int) < 0 then _ else _)=_
 rw[if_neg (by omega)]
theorem jQl5 (db:List Tab)(rows R:List (List Val)):setRows (db++[zz rows]) db.length R=db++[zz R]:=by
 unfold setRows
 rw[List.getElem?_append_right (Nat.le_refl _),Nat.sub_self]
 show(db++[zz rows]).set db.length (zz R)=_
 rw[List.set_append_right _ _ (Nat.le_refl _),Nat.sub_self]
 rfl
theorem jQoz (db:List Tab)(rows:List (List Val)):rowsAt (db++[zz rows]) db.length=rows:=by
 unfold rowsAt
 rw[List.getElem?_append_right (Nat.le_refl _),Nat.sub_self]
 rfl
theorem jQiQ (db:List Tab)(rows:List (List Val))(r nm:ByteArray)(cs:List Col)(puts:List (List Val))(cuts:List Int):apply (db++[zz rows]) ⟨r,false,nm,cs,db.length,puts,cuts⟩=db++[zz (cutAll cuts (putAll puts rows))]:=by
 unfold apply made
 simp only[Bool.false_eq_true,if_false,Int.toNat_natCast]
 rw[jQoz,jQl5]
theorem jQli (db:List Tab)(o:Out)(h1:o.makes=false)(h2:o.puts=[])(h3:o.cuts=[]):apply db o=db:=by
 unfold apply made
 rw[h1,h2,h3]
 exact jQ3 _ _
theorem jQpV:find zzC bId=0:=by decide +kernel
theorem jQr7:find zzC bV=1:=by decide +kernel
theorem jQn9 (a b:Val):valueOf zzC [a,b] (tcol bId)=a:=by
 unfold valueOf tcol
 rw[show bId.toList.isEmpty=false from by decide +kernel]
 show cellOf zzC [a,b] bId=a
 unfold cellOf
 rw[jQpV];rfl
theorem jQrh (a b:Val):cellOf zzC [a,b] bV=b:=by
 unfold cellOf
 rw[jQr7];rfl
theorem jQse (a b:Val):cellOf zzC [a,b] bId=a:=by
 unfold cellOf
 rw[jQpV];rfl
theorem val_v (a b:Val):valueOf zzC [a,b] (tcol bV)=b:=by
 unfold valueOf tcol
 rw[show bV.toList.isEmpty=false from by decide +kernel]
 exact jQrh a b
theorem jQi9 (row:List Val)(n:Int):valueOf zzC row (tlit n)=vnum n:=by
 unfold valueOf tlit
 rw[show nobytes.toList.isEmpty=true from by decide +kernel]
 rfl
theorem jQdX (row:List Val)(s:StepS)(h:isComparison s.op=true):meets zzC row [s]=holds s.op (compare (valueOf zzC row s.left) (valueOf zzC row s.right)):=by
 refine Tells.meets (fun l=>?_)
 show stepB zzC row l s=_
 unfold stepB
 rw[if_pos h]
 rfl
theorem jQnB (a b:Int)(h:a < b):compare (vnum a) (vnum b)=-1:=by
 unfold compare vnum
 have h1:(a != b)=true:=by simp;omega
 simp[h1,h,sideOf]
def rw2 (k y:Int):List Val:=[vnum k,vnum y]
theorem m_eq (k y:Int):meeting (zz [rw2 k y]) [⟨⟨#[61]⟩,tcol bId,tlit k⟩]=[rw2 k y]:=by
 unfold meeting zz rw2
 have:meets zzC [vnum k,vnum y] [⟨⟨#[61]⟩,tcol bId,tlit k⟩]=true:=by rw[jQdX _ _ (show isComparison (⟨#[61]⟩:ByteArray)=true by decide),jQn9,jQi9,jQbF];show holds (⟨#[61]⟩:ByteArray) 0=true;decide +kernel
 simp[this]
theorem m_ne (k y:Int):meeting (zz [rw2 k y]) [⟨⟨#[60,62]⟩,tcol bId,tlit k⟩]=[]:=by
 unfold meeting zz rw2
 have:meets zzC [vnum k,vnum y] [⟨⟨#[60,62]⟩,tcol bId,tlit k⟩]=false:=by rw[jQdX _ _ (show isComparison (⟨#[60,62]⟩:ByteArray)=true by decide),jQn9,jQi9,jQbF];show holds (⟨#[60,62]⟩:ByteArray) 0=false;decide +kernel
 simp[this]
theorem m_ge (k y:Int):meeting (zz [rw2 k y]) [⟨⟨#[62,61]⟩,tcol bId,tlit k⟩]=[rw2 k y]:=by
 unfold meeting zz rw2
 have:meets zzC [vnum k,vnum y] [⟨⟨#[62,61]⟩,tcol bId,tlit k⟩]=true:=by rw[jQdX _ _ (show isComparison (⟨#[62,61]⟩:ByteArray)=true by decide),jQn9,jQi9,jQbF];show holds (⟨#[62,61]⟩:ByteArray) 0=true;decide +kernel
 simp[this]
theorem m_lt (k y:Int)(h:y < 100):meeting (zz [rw2 k y]) [⟨⟨#[60]⟩,tcol bV,tlit 100⟩]=[rw2 k y]:=by
 unfold meeting zz rw2
 have:meets zzC [vnum k,vnum y] [⟨⟨#[60]⟩,tcol bV,tlit 100⟩]=true:=by rw[jQdX _ _ (by decide),val_v,jQi9,jQnB _ _ h];decide +kernel
 simp[this]
theorem jQmW:kindOf zzC (tcol bId)=(0,true):=by decide +kernel
theorem jQsq:kindOf zzC (tcol bV)=(0,true):=by decide +kernel
theorem jQqT (n:Int):kindOf zzC (tlit n)=(0,true):=by
 unfold kindOf tlit
 rw[show nobytes.toList.isEmpty=true from by decide +kernel]
 rfl
theorem chkw (op:ByteArray)(l:Term)(n:Int)(h:isComparison op=true)(hl:kindOf zzC l=(0,true)):checkWhereFrom zzC [⟨op,l,tlit n⟩]=0:=by
 rw[checkWhereFrom]
 simp only[h,hl,jQqT]
 rfl
theorem jQpa:checkItemsFrom zzC 0 [bV,bId]=0:=by decide +kernel
theorem jQo9:checkItemsFrom zzC 3 [bV]=0:=by decide +kernel
theorem jQqn:checkSets zzC [⟨bV,tcol bV,⟨#[45]⟩,tcol bId⟩]=0:=by decide +kernel
theorem jQm9 (n:Nat):Lib.itoa (n:Int)=Lib.decDigits n:=by unfold Lib.itoa;rw[if_neg (by omega),Int.toNat_natCast]
theorem jQfp (n:Int):(written (vnum n)).data.toList=Lib.itoa n:=by unfold written vnum;rfl
structure LaidSaid (db:List Tab)(k x:Nat):Prop where
 ins:(Sq.decide (db++[zz []]) (lins k x)).reply=⟨#[33,49,48]⟩∨((Sq.decide (db++[zz []]) (lins k x)).reply=⟨#[49,59]⟩∧after (db++[zz []]) (lins k x)=db++[zz [rw2 k x]])
 ins1:(Sq.decide (db++[zz [rw2 k x]]) (tx pIns k [44,32,49,41])).reply=⟨#[33,56]⟩∧after (db++[zz [rw2 k x]]) (tx pIns k [44,32,49,41])=db++[zz [rw2 k x]]
 sel:(Sq.decide (db++[zz [rw2 k x]]) (tx pSel k [])).reply.data.toList=Lib.decDigits x++(44 :: (Lib.decDigits k++[59]))
 ne:(Sq.decide (db++[zz [rw2 k x]]) (tx pNe k [])).reply=⟨#[]⟩
 upd:(Sq.decide (db++[zz [rw2 k x]]) (tx pUpd k [])).reply=⟨#[49,59]⟩∧after (db++[zz [rw2 k x]]) (tx pUpd k [])=db++[zz [rw2 k (x - k)]]
 sum:number (Sq.decide (db++[zz [rw2 k (x - k)]]) lsum).reply=((x:Int) - k,true)
 del:(Sq.decide (db++[zz [rw2 k (x - k)]]) ldel).reply=⟨#[49,59]⟩∧after (db++[zz [rw2 k (x - k)]]) ldel=db++[zz []]
 cnt:(Sq.decide (db++[zz []]) lcnt).reply=⟨#[48,59]⟩
theorem rep1:counted 1=⟨#[49,59]⟩:=by decide +kernel
theorem rep0:counted 0=⟨#[48,59]⟩:=by decide +kernel
theorem ref8:(refused 8).reply=⟨#[33,56]⟩:=by decide +kernel
theorem ref10:(refused 10).reply=⟨#[33,49,48]⟩:=by decide +kernel
theorem laid_said {db:List Tab}(h:findTab db bZZ < 0)(k x:Nat)(hk:k < 100)(hx:x < 100):LaidSaid db k x:=by
 refine⟨?_,?_,?_,?_,?_,?_,?_,?_⟩
 ·obtain⟨a1,a2,a3,a4,a5⟩:=jQo1 k x hk hx
  unfold after
  rw[jQa9 h [] _ a1 (by rw[a2];decide) a3]
  have hc:check zzC (parse (lins k x)).2=0:=by
   unfold check checkAct
   rw[a2,a4,a5]
   simp[checkValues,checkValuesFrom,zzC,vnum,checkWhereFrom]
  unfold decideTab
  rw[show(zz []).cols=zzC from rfl,hc,a2,if_neg (by decide),if_pos (by decide)]
  unfold Sq.insert
  rw[show hasKey (zz []).rows _=false from rfl,if_neg (by decide)]
  split
  ·exact Or.inl ref10
  ·refine Or.inr ⟨rep1,?_⟩
   rw[jQiQ,a4];rfl
 ·obtain⟨a1,a2,a3,a4,a5⟩:=jQpe ⟨k,hk⟩
  have a4':(parse (tx pIns k [44,32,49,41])).2.vals=[vnum k,vnum 1]:=jQdC jQp7 (by rw[a4];rfl)
  have a5':=jQT a5
  unfold after
  rw[jQa9 h _ _ a1 (by rw[a2];decide) a3]
  have hc:check zzC (parse (tx pIns k [44,32,49,41])).2=0:=by
   unfold check checkAct
   rw[a2,a4',a5']
   simp[checkValues,checkValuesFrom,zzC,vnum,checkWhereFrom]
  have hd:decideTab (db++[zz [rw2 k x]]) (zz [rw2 k x]) db.length (parse (tx pIns k [44,32,49,41])).2=refused 8:=by
   unfold decideTab
   rw[show(zz [rw2 k x]).cols=zzC from rfl,hc,a2,if_neg (by decide),if_pos (by decide)]
   unfold Sq.insert
   rw[a4',if_pos (by simp[hasKey,zz,rw2,keyOf,vnum])]
  rw[hd]
  exact⟨ref8,jQli _ _ rfl rfl rfl⟩
 ·obtain⟨a1,a2,a3,a4,a5,a6⟩:=jQqo ⟨k,hk⟩
  have a6':(parse (tx pSel k [])).2.wher=[⟨⟨#[61]⟩,tcol bId,tlit k⟩]:=jQdC jQgg (by rw[a6];rfl)
  rw[jQa9 h _ _ a1 (by rw[a2];decide) a3]
  have hc:check zzC (parse (tx pSel k [])).2=0:=by
   unfold check checkAct
   rw[a2,a4,a5,a6']
   simp[jQpa,chkw ⟨#[61]⟩ _ k (by decide) jQmW]
  unfold decideTab
  rw[show(zz [rw2 k x]).cols=zzC from rfl,hc,a2,if_neg (by decide),if_neg (by decide),if_neg (by decide),if_neg (by decide)]
  show(Sq.show (zz [rw2 k x]) _).data.toList=_
  unfold Sq.show showRows
  rw[a4,a5,a6',m_eq,if_neg (by decide),if_neg (by decide),if_neg (by decide)]
  show listed zzC [bV,bId] [rw2 k x]=_
  rw[jQaz]
  unfold rowText rw2
  rw[List.map_cons,List.map_cons,List.map_nil,jQrh,jQse,jQfp,jQfp,jQm9,jQm9]
  show(Lib.decDigits x++([Lib.decDigits k].flatMap fun y=>44 :: y))++59 :: []=_
  simp
 ·obtain⟨a1,a2,a3,a4,a5,a6⟩:=jQrZ ⟨k,hk⟩
  have a6':(parse (tx pNe k [])).2.wher=[⟨⟨#[60,62]⟩,tcol bId,tlit k⟩]:=jQdC jQgg (by rw[a6];rfl)
  rw[jQa9 h _ _ a1 (by rw[a2];decide) a3]
  have hc:check zzC (parse (tx pNe k [])).2=0:=by
   unfold check checkAct
   rw[a2,a4,a5,a6']
   simp[checkItemsFrom,chkw ⟨#[60,62]⟩ _ k (by decide) jQmW]
  unfold decideTab
  rw[show(zz [rw2 k x]).cols=zzC from rfl,hc,a2,if_neg (by decide),if_neg (by decide),if_neg (by decide),if_neg (by decide)]
  show Sq.show (zz [rw2 k x]) _=_
  unfold Sq.show showRows
  rw[a4,a6',m_ne,if_neg (by decide),if_neg (by decide),if_pos (by decide)]
  rfl
 ·obtain⟨a1,a2,a3,a4,a5⟩:=jQp9 ⟨k,hk⟩
  have a4':(parse (tx pUpd k [])).2.sets=[⟨bV,tcol bV,⟨#[45]⟩,tcol bId⟩]:=jQdC jQrv (by rw[a4];rfl)
  have a5':(parse (tx pUpd k [])).2.wher=[⟨⟨#[62,61]⟩,tcol bId,tlit k⟩]:=jQdC jQgg (by rw[a5];rfl)
  unfold after
  rw[jQa9 h _ _ a1 (by rw[a2];decide) a3]
  have hc:check zzC (parse (tx pUpd k [])).2=0:=by
   unfold check checkAct
   rw[a2,a4',a5']
   simp[jQqn,chkw ⟨#[62,61]⟩ _ k (by decide) jQmW]
  have hres:result zzC (rw2 k x) ⟨bV,tcol bV,⟨#[45]⟩,tcol bId⟩=(vnum (x - k),true):=by
   unfold result rw2
   simp only[val_v,jQn9]
   rw[show(⟨#[45]⟩:ByteArray).toList.isEmpty=false from by decide +kernel]
   have hn:numOf ⟨#[45]⟩ (vnum x).number (vnum k).number=(x:Int) - k:=by
    unfold numOf
    rw[if_pos (by decide +kernel)];rfl
   rw[hn]
   simp only[Bool.false_eq_true,if_false]
   rw[if_neg (by omega),if_neg (by omega)]
   rfl
  have has:assigned zzC (rw2 k x) [⟨bV,tcol bV,⟨#[45]⟩,tcol bId⟩]=(rw2 k (x - k),true):=by
   unfold assigned
   rw[assignFrom,hres]
   simp only[if_true]
   rw[assignFrom]
   unfold assignStep
   rw[hres]
   show(if find zzC bV < 0 then _ else _,true)=_
   rw[jQr7,if_neg (by decide)]
   rfl
  have hd:decideTab (db++[zz [rw2 k x]]) (zz [rw2 k x]) db.length (parse (tx pUpd k [])).2=⟨counted 1,false,nobytes,[],db.length,[rw2 k (x - k)],[]⟩:=by
   unfold decideTab
   rw[show(zz [rw2 k x]).cols=zzC from rfl,hc,a2,if_neg (by decide),if_neg (by decide),if_pos (by decide)]
   unfold Sq.update
   rw[a4',a5',m_ge,show(zz [rw2 k x]).cols=zzC from rfl,updateFrom,has]
   simp only[if_true]
   rw[updateFrom]
   rfl
  rw[hd]
  refine⟨rep1,?_⟩
  rw[jQiQ]
  show db++[zz (put (rw2 k (x - k)) [rw2 k x])]=_
  rw[put,if_neg (by simp[rw2,keyOf,vnum])]
  simp[cutRows,rw2,keyOf,vnum]
 ·obtain⟨a1,a2,a3,a4,a5,a6⟩:=jQqe
  rw[jQa9 h _ _ a1 (by rw[a2];decide) a3]
  have hc:check zzC (parse lsum).2=0:=by
   unfold check checkAct
   rw[a2,a4,a5,jQT a6]
   simp[jQo9,checkWhereFrom]
  unfold decideTab
  rw[show(zz [rw2 k (x - k)]).cols=zzC from rfl,hc,a2,if_neg (by decide),if_neg (by decide),if_neg (by decide),if_neg (by decide)]
  show number (Sq.show (zz [rw2 k (x - k)]) _)=_
  unfold Sq.show showRows
  rw[a4,a5,jQT a6,jQdi,if_neg (by decide),if_pos (by decide)]
  refine jQbl _ (by omega) (by omega) _ ?_
  rw[jQj]
  have hs:sumRows (zz [rw2 k (x - k)]).cols [bV] (zz [rw2 k (x - k)]).rows=(x:Int) - k:=by
   show sumRows zzC [bV] [rw2 k (x - k)]=_
   unfold sumRows sumItems rw2
   simp only[List.map_cons,List.map_nil,jQrh]
   simp[vnum]
  rw[hs]
  rfl
 ·obtain⟨a1,a2,a3,a4⟩:=jQq8
  have a4':(parse ldel).2.wher=[⟨⟨#[60]⟩,tcol bV,tlit 100⟩]:=jQdC jQgg (by rw[a4];rfl)
  unfold after
  rw[jQa9 h _ _ a1 (by rw[a2];decide) a3]
  have hc:check zzC (parse ldel).2=0:=by
   unfold check checkAct
   rw[a2,a4']
   simp[chkw ⟨#[60]⟩ _ 100 (by decide) jQsq]
  have hd:decideTab (db++[zz [rw2 k (x - k)]]) (zz [rw2 k (x - k)]) db.length (parse ldel).2=⟨counted 1,false,nobytes,[],db.length,[],[(k:Int)]⟩:=by
   unfold decideTab
   rw[show(zz [rw2 k (x - k)]).cols=zzC from rfl,hc,a2,if_neg (by decide),if_neg (by decide),if_neg (by decide),if_pos (by decide)]
   unfold Sq.remove
   rw[a4',m_lt k _ (by omega)]
   rfl
  rw[hd]
  refine⟨rep1,?_⟩
  rw[jQiQ]
  show db++[zz (cutRows k [rw2 k (x - k)])]=_
  simp[cutRows,rw2,keyOf,vnum]
 ·obtain⟨a1,a2,a3,a4,a5,a6⟩:=jQrd
  rw[jQa9 h _ _ a1 (by rw[a2];decide) a3]
  have hc:check zzC (parse lcnt).2=0:=by
   unfold check checkAct
   rw[a2,a4,a5,jQT a6]
   simp[checkItemsFrom,checkWhereFrom]
  unfold decideTab
  rw[show(zz []).cols=zzC from rfl,hc,a2,if_neg (by decide),if_neg (by decide),if_neg (by decide),if_neg (by decide)]
  show Sq.show (zz []) _=_
  unfold Sq.show showRows
  rw[a4,jQT a6,jQdi,if_pos (by decide)]
  exact rep0
theorem jQpn (db:List Tab):isRef (Sq.decide db lcreate).reply∨((Sq.decide db lcreate).reply=⟨#[48,59]⟩∧after db lcreate=db++[zz []]∧findTab db bZZ < 0):=by
 obtain⟨a1,a2,a3,a4⟩:=jQk5
 have a4':(parse lcreate).2.cols=zzC:=jQdC jQrg a4
 have hd:Sq.decide db lcreate=create db (parse lcreate).2:=by
  unfold Sq.decide
  rw[a1,if_neg (by decide)]
  unfold decideSt
  rw[a2,if_pos (by decide)]
 unfold after
 rw[hd]
 unfold create
 rw[a3,a4']
 split
 ·exact Or.inl (jQai _)
 ·rename_i hf
  split
  ·exact Or.inl (jQai _)
  ·split
   ·exact Or.inl (jQai _)
   ·split
    ·exact Or.inl (jQai _)
    ·split
     ·exact Or.inl (jQai _)
     ·refine Or.inr ⟨rep0,?_,by omega⟩
      unfold apply made
      simp only[if_true]
      exact jQ3 _ _
end Sq
section
open Go.RowKit
theorem jQjB (w:World)(e:TypeId)(n:Nat)(cs:Array Value)(h:cs.size=n)(hn:n≤1000):(w.alloc (.cells cs e)).ownsRow w.heap.size e 1 (.slice (some ⟨w.heap.size,0,none⟩) n n) n cs.toList:=by
 refine⟨by simpa using h,Or.inr ⟨w.heap.size,n,cs,rfl,Nat.le_refl _,heap_alloc_new w _,Nat.le_refl _,by unfold maxLen;omega,by omega,?_⟩⟩
 exact List.take_of_length_le (by simp[h])
theorem jQqb (n:Nat)(h:n < 256):(UInt8.ofNat n).toNat=n:=by rw[UInt8.toNat_ofNat'];omega
theorem jQhL (n:Nat)(w:World)(hn:n < 100) :
  Calls Tryz.prog 27 #[.int .i64 n] w fun e w'=>e=.returned (.string (Sq.dg n))∧Below w.heap.size w w':=by
 by_cases h:n < 10
 ·have HE:Hid (Sq.dg n=⟨[UInt8.ofNat (48+n)].toArray⟩):=by show _=_;unfold Sq.dg;rw[Lib.decDigits_one h]
  have hbuf:BufAt w.heap.size (w.alloc (.cells #[.int .u8 (48+(n:Int))] 5)) (.slice (some ⟨w.heap.size,0,none⟩) 1 1) [UInt8.ofNat (48+n)]:=by
   have h1:=jQjB w 5 1 #[.int .u8 (48+(n:Int))] rfl (by omega)
   unfold BufAt
   simp only[List.map_cons,List.map_nil,jQqb (48+n) (by omega),List.length_cons,List.length_nil]
   rw[show((48+n:Nat):Int)=48+(n:Int) by omega]
   exact h1
  have hcv:=jQb5 _ _ _ _ hbuf
  rw[←HE.out] at hcv
  have HCV:=hd hcv
  clear hbuf hcv
  go_enter Tryz.func27,Tryz.ntmps27
  go_wp2
  rw[HCV.out]
  go_wp2
  go_ret
  exact⟨rfl,(Below.refl _ _).alloc (Nat.le_refl _) _⟩
 ·have HE:Hid (Sq.dg n=⟨[UInt8.ofNat (48+n / 10),UInt8.ofNat (48+(HMod.hMod n 10:Nat))].toArray⟩):=by show _=_;unfold Sq.dg;rw[Lib.decDigits_two h hn]
  have hbuf:BufAt w.heap.size (w.alloc (.cells #[.int .u8 (48+(n:Int) / 10),.int .u8 ((48:Int)+HMod.hMod (n:Int) (10:Int))] 5)) (.slice (some ⟨w.heap.size,0,none⟩) 2 2) [UInt8.ofNat (48+n / 10),UInt8.ofNat (48+(HMod.hMod n 10:Nat))]:=by
   have h1:=jQjB w 5 2 #[.int .u8 (48+(n:Int) / 10),.int .u8 ((48:Int)+HMod.hMod (n:Int) (10:Int))] rfl (by omega)
   unfold BufAt
   simp only[List.map_cons,List.map_nil,jQqb (48+n / 10) (by omega),jQqb (48+(HMod.hMod n 10:Nat)) (by omega),List.length_cons,List.length_nil]
   rw[show((48+n / 10:Nat):Int)=48+(n:Int) / 10 by omega,show((48+(HMod.hMod n 10:Nat):Nat):Int)=(48:Int)+HMod.hMod (n:Int) (10:Int) by omega]
   exact h1
  have hcv:=jQb5 _ _ _ _ hbuf
  rw[←HE.out] at hcv
  have HCV:=hd hcv
  clear hbuf hcv
  go_enter Tryz.func27,Tryz.ntmps27
  go_wp2
  rw[HCV.out]
  go_wp2
  go_ret
  exact⟨rfl,(Below.refl _ _).alloc (Nat.le_refl _) _⟩
end
section
open Go.RowKit
theorem loop_eq (bs:ByteArray):∀(n i:Nat) (r:List UInt8),bs.size - i=n→ByteArray.toList.loop bs i r=r.reverse++bs.data.toList.drop i:=by
 intro n
 induction n with
 | zero =>
  intro i r h
  unfold ByteArray.toList.loop
  rw[if_neg (by omega),List.drop_eq_nil_of_le (by simp;omega)]
  simp
 | succ n ih =>
  intro i r h
  unfold ByteArray.toList.loop
  have hi:i < bs.data.toList.length:=by simp;omega
  rw[if_pos (by omega),ih (i+1) _ (by omega),List.drop_eq_getElem_cons hi]
  have:bs.get! i=bs.data.toList[i]:=by
   unfold ByteArray.get!
   simp at hi
   simp[hi]
  rw[this]
  simp
theorem ba_toList (b:ByteArray):b.toList=b.data.toList:=by
 show ByteArray.toList.loop b 0 []=_
 rw[loop_eq b _ 0 [] rfl];simp
theorem jQsk (r:ByteArray)(h:Sq.isRef r):(r.toList==[48,59])=false:=by
 obtain⟨e,h⟩:=h
 rw[ba_toList,h]
 simp
def Ans (w:World)(b:Nat)(r:ByteArray):Prop:=∃pf dg:ByteArray,w.heap[b]?=some (.cells #[.string r,.string pf,.string dg] 30)
theorem Ans.frm {sb b:Nat}{w w':World}{r:ByteArray}(h:Ans w b r)(hf:Frm sb w w'):Ans w' b r:=by
 obtain⟨pf,dg,h⟩:=h
 exact⟨pf,dg,(hf.other b _ _ _ h (by decide) (by decide)).trans h⟩
theorem Ans.alloc {b:Nat}{w:World}{r:ByteArray}(h:Ans w b r)(o:Obj):Ans (w.alloc o) b r:=by
 obtain⟨pf,dg,h⟩:=h
 exact⟨pf,dg,(jQax (jQg h) o).trans h⟩
theorem Ans.new (w:World)(r:ByteArray){pf dg:ByteArray}:Ans (w.alloc (.cells #[.string r,.string pf,.string dg] 30)) w.heap.size r:=⟨pf,dg,heap_alloc_new w _⟩
theorem Ans.cell {b:Nat}{w:World}{r:ByteArray}(h:Ans w b r):w.cell? ⟨b,0,none⟩=some (.string r)∧b < w.heap.size:=by
 obtain⟨pf,dg,h⟩:=h
 exact⟨by rw[jQb h];rfl,jQg h⟩
theorem Ans.cells {b:Nat}{w:World}{r:ByteArray}(h:Ans w b r):∃pf dg:ByteArray,w.cell? ⟨b,1,none⟩=some (.string pf)∧w.cell? ⟨b,2,none⟩=some (.string dg)∧w.frozen? ⟨b,0,none⟩=false∧w.frozen? ⟨b,1,none⟩=false∧w.frozen? ⟨b,2,none⟩=false:=by
 obtain⟨pf,dg,h⟩:=h
 exact⟨pf,dg,by rw[jQb h];rfl,by rw[jQb h];rfl,jQd h _,jQd h _,jQd h _⟩
theorem Ans.set {b:Nat}{w:World}{r:ByteArray}(h:Ans w b r)(r':ByteArray){pf dg:ByteArray}:Ans (((w.setCell ⟨b,0,none⟩ (.string r')).setCell ⟨b,1,none⟩ (.string pf)).setCell ⟨b,2,none⟩ (.string dg)) b r':=by
 obtain⟨pf0,dg0,h⟩:=h
 refine⟨pf,dg,?_⟩
 rw[jQf (jQf (jQf h _) _) _]
 rfl
structure Bs (w0:World)(sb:Nat)(w:World):Prop where
 tbl:Tb2 w0
 le:w0.heap.size≤sb
 below:Below w0.heap.size w0 w
theorem Bs.t {w0:World}{sb:Nat}{w:World}(h:Bs w0 sb w):Tb2 w:=h.tbl.below h.below
theorem Bs.frm {w0:World}{sb:Nat}{w w':World}(h:Bs w0 sb w)(hf:Frm sb w w'):Bs w0 sb w':=⟨h.tbl,h.le,h.below.trans (hf.below.mono h.le)⟩
theorem Bs.step {w0:World}{sb:Nat}{w w':World}(h:Bs w0 sb w)(hb:Below w.heap.size w w'):Bs w0 sb w':=⟨h.tbl,h.le,h.below.trans (hb.mono h.below.size)⟩
structure LiveB (w0 w:World)(wb sb:Nat)(db:List Sq.Tab):Prop where
 blk:w.heap[wb]?=some (.cells #[.pointer (some ⟨sb,0,none⟩),.int .i64 32] 43)
 here:DB sb w db
 good:Sq.good db
 bs:Bs w0 sb w
theorem LiveB.cell {w0 w:World}{wb sb:Nat}{db:List Sq.Tab}(h:LiveB w0 w wb sb db):w.cell? ⟨wb,0,none⟩=some (.pointer (some ⟨sb,0,none⟩))∧wb < w.heap.size:=⟨by rw[jQb h.blk];rfl,jQg h.blk⟩
theorem LiveB.below {w0 w w':World}{wb sb:Nat}{db:List Sq.Tab}(h:LiveB w0 w wb sb db)(hb:Below w.heap.size w w'):LiveB w0 w' wb sb db:=⟨(hb.block wb (jQg h.blk)).trans h.blk,h.here.below hb,h.good,h.bs.step hb⟩
theorem LiveB.alloc {w0 w:World}{wb sb:Nat}{db:List Sq.Tab}(h:LiveB w0 w wb sb db)(o:Obj):LiveB w0 (w.alloc o) wb sb db:=h.below ((Below.refl _ _).alloc (Nat.le_refl _) _)
theorem LiveB.set {w0 w:World}{wb sb b:Nat}{db:List Sq.Tab}{r:ByteArray}(h:LiveB w0 w wb sb db)(ha:Ans w b r)(hb:sb≤b)(x y z:Value):LiveB w0 (((w.setCell ⟨b,0,none⟩ x).setCell ⟨b,1,none⟩ y).setCell ⟨b,2,none⟩ z) wb sb db:=by
 have hne:wb≠b:=fun e=>by
  subst e
  have h1:=h.blk
  obtain⟨pf,dg,ha⟩:=ha
  rw[ha] at h1
  simp at h1
 refine⟨(jQD hne _ _ _ _ _ _).trans h.blk,h.here.out ha.choose_spec.choose_spec (fun g hg=>jQD hg _ _ _ _ _ _),h.good,⟨h.bs.tbl,h.bs.le,jQaE h.bs.below (Nat.le_trans h.bs.le hb) _ _ _⟩⟩
theorem lrunB (w0:World)(wb sb:Nat)(db:List Sq.Tab)(sql:ByteArray)(w:World)(h:LiveB w0 w wb sb db) :
  Calls Tryz.prog 16 #[.pointer (some ⟨sb,0,none⟩),.string sql] w fun e w'=>∃pf dg,e=.returned (answer (Sq.decide db sql).reply pf dg)∧LiveB w0 w' wb sb (Sq.after db sql)∧Frm sb w w':=by
 refine(jQdu sb db sql w h.here h.good h.bs.t).mono ?_
 rintro e w' ⟨pf1,dg1,rfl,hdb,hf⟩
 exact⟨_,_,rfl,⟨(hf.other wb _ _ _ h.blk (by decide) (by decide)).trans h.blk,hdb,Sq.jQbq h.good sql,h.bs.frm hf⟩,hf⟩
theorem lpeekB (w0:World)(wb sb:Nat)(db:List Sq.Tab)(sql:ByteArray)(w:World)(h:LiveB w0 w wb sb db) :
  Calls Tryz.prog 22 #[.pointer (some ⟨sb,0,none⟩),.string sql] w fun e w'=>∃pf dg,e=.returned (answer (Sq.decide db sql).reply pf dg)∧LiveB w0 w' wb sb db∧Frm sb w w':=by
 refine(jQd6 sb db sql w h.here h.good h.bs.t).mono ?_
 rintro e w' ⟨pf2,dg2,rfl,hb⟩
 exact⟨_,_,rfl,h.below hb,Frm.of_below hb (Nat.le_of_lt h.here.lt)⟩
theorem Sq.e_ins (k x:Nat):(⟨#[105,110,115,101,114,116,32,105,110,116,111,32,122,122,32,118,97,108,117,101,115,32,40]⟩:ByteArray)++Sq.dg k++(⟨#[44,32]⟩:ByteArray)++Sq.dg x++(⟨#[41]⟩:ByteArray)=Sq.lins k x:=by
 apply Sq.jQaG
 rw[Sq.jQj,Sq.jQj,Sq.jQj,Sq.jQj]
 show(((Sq.pIns++Lib.decDigits k)++[44,32])++Lib.decDigits x)++[41]=Sq.pIns++(Lib.decDigits k++([44,32]++(Lib.decDigits x++[41])))
 simp
theorem Sq.jQsb (k:Nat):(⟨#[105,110,115,101,114,116,32,105,110,116,111,32,122,122,32,118,97,108,117,101,115,32,40]⟩:ByteArray)++Sq.dg k++(⟨#[44,32,49,41]⟩:ByteArray)=Sq.tx Sq.pIns k [44,32,49,41]:=by
 apply Sq.jQaG
 rw[Sq.jQj,Sq.jQj]
 show(Sq.pIns++Lib.decDigits k)++[44,32,49,41]=Sq.pIns++(Lib.decDigits k++[44,32,49,41])
 simp
theorem Sq.e_sel (k:Nat):(⟨#[115,101,108,101,99,116,32,118,44,32,105,100,32,102,114,111,109,32,122,122,32,119,104,101,114,101,32,105,100,32,61,32]⟩:ByteArray)++Sq.dg k=Sq.tx Sq.pSel k []:=by
 apply Sq.jQaG
 rw[Sq.jQj]
 show Sq.pSel++Lib.decDigits k=Sq.pSel++(Lib.decDigits k++[])
 simp
theorem Sq.e_ne (k:Nat):(⟨#[115,101,108,101,99,116,32,42,32,102,114,111,109,32,122,122,32,119,104,101,114,101,32,105,100,32,60,62,32]⟩:ByteArray)++Sq.dg k=Sq.tx Sq.pNe k []:=by
 apply Sq.jQaG
 rw[Sq.jQj]
 show Sq.pNe++Lib.decDigits k=Sq.pNe++(Lib.decDigits k++[])
 simp
theorem Sq.e_upd (k:Nat):(⟨#[117,112,100,97,116,101,32,122,122,32,115,101,116,32,118,32,61,32,118,32,45,32,105,100,32,119,104,101,114,101,32,105,100,32,62,61,32]⟩:ByteArray)++Sq.dg k=Sq.tx Sq.pUpd k []:=by
 apply Sq.jQaG
 rw[Sq.jQj]
 show Sq.pUpd++Lib.decDigits k=Sq.pUpd++(Lib.decDigits k++[])
 simp
theorem Sq.e_rep (k x:Nat)(r:ByteArray)(h:r.data.toList=Lib.decDigits x++(44 :: (Lib.decDigits k++[59]))):r=Sq.dg x++(⟨#[44]⟩:ByteArray)++Sq.dg k++(⟨#[59]⟩:ByteArray):=by
 apply Sq.jQaG
 rw[Sq.jQj,Sq.jQj,Sq.jQj,h]
 show _=((Lib.decDigits x++[44])++Lib.decDigits k)++[59]
 simp
theorem Sq.jQpY (k:Nat)(h:k < 100):(Sq.dg k).size≤14:=by
 rw[Sq.jQG]
 show(Lib.decDigits k).length≤14
 rw[Lib.decDigits_length]
 exact Sq.jQY k (by omega)
theorem jQqS (v:Value)(l:List ByteArray)(key vv:Int)(w:World)(h:Strs w v l)(hk0:-9223372036854775808≤key)(hk1:key≤9223372036854775807)(hv0:-9223372036854775808≤vv)(hv1:vv≤9223372036854775807)(hT:Tb2 w) :
  Calls Tryz.prog 7 #[v,.int .i64 key,.int .i64 vv] w fun e w'=>e=.returned (.bool true)∧Below w.heap.size w w':=by
 have HS:=hd h
 have HT:=hd hT
 have hpk:=Sq.jQjA key 100 (by decide)
 obtain⟨kk,hkk⟩:=Int.eq_ofNat_of_zero_le hpk.1
 have hk100:kk < 100:=by omega
 have hpv:=Sq.jQjA vv 100 (by decide)
 obtain⟨xx,hxx⟩:=Int.eq_ofNat_of_zero_le hpv.1
 have hx100:xx < 100:=by omega
 have HKK:=hd hkk
 have HXX:=hd hxx
 have hdk:=Sq.jQpY kk hk100
 have hdx:=Sq.jQpY xx hx100
 clear h hT hpk hkk hpv hxx
 go_enter Tryz.func7,Tryz.ntmps7
 go_wp2_with fail
 refine(jQd3 w HT.out).mono ?_
 rintro e w1 ⟨rfl,hb1⟩
 have hz1:=hb1.size
 have HB1:=hd hb1
 have HS1:=hd (HS.out.below hb1 (Nat.le_refl _))
 have HT1:=hd (HT.out.below hb1)
 clear hb1
 go_wp2_with fail
 refine(jQdK l v w1 HS1.out HT1.out).mono ?_
 rintro e w2 (⟨hbig,rfl,hw2⟩ | ⟨wb,sb,hno,rfl,hW,hb2⟩)
 ·subst hw2
  have HBG:=hd hbig
  clear hbig
  go_wp2_with fail
  refine(jQgo l v _ HS1.out).mono ?_
  rintro e w3 ⟨rfl,hw3⟩
  rw[hw3,HBG.out]
  clear hw3 w3
  go_wp2
  go_ret
  exact⟨rfl,HB1.out⟩
 ·have hlive:LiveB w w2 wb sb (Sq.afterAll [] l):=⟨hW.blk,hW.db,Sq.jQad _ Sq.jQbc,⟨HT.out,Nat.le_trans hz1 hW.le,HB1.out.trans (hb2.mono hz1)⟩⟩
  obtain⟨db,hdb⟩:∃x,x=Sq.afterAll [] l:=⟨_,rfl⟩
  rw[←hdb] at hlive
  have HL2:=hd hlive
  obtain⟨p2,l2⟩:=hlive.cell
  have hcz:=Sq.jQpn db
  have HCZ:=hd hcz
  clear hno hW hb2 hlive hdb hcz
  go_wp2_with fail
  refine(lrunB w wb sb db Sq.lcreate w2 HL2.out).mono ?_
  rintro e w3 ⟨pf101,dg101,rfl,hL3,hf3⟩
  have hsz3:=Sq.jQX HL2.out.good Sq.lcreate
  rcases HCZ.out with hr | ⟨hr,haf,hft⟩
  ·have hne:=jQsk _ hr
   have hbg:Sq.bang (Sq.decide db Sq.lcreate).reply=true:=(Sq.jQe5 _).2 hr.bang
   obtain⟨r0,hr0⟩:∃x,x=(Sq.decide db Sq.lcreate).reply:=⟨_,rfl⟩
   rw[←hr0] at hne hbg hsz3
   rw[←hr0]
   have HBG:=hd hbg
   have HB3:=hd hL3.bs.below
   have hz3:=hL3.bs.below.size
   clear hr hr0 hL3 hf3 HCZ hbg
   unfold answer
   go_wp2_with fail
   refine(jQ4 r0 _ (by omega)).mono ?_
   rintro e w' ⟨rfl,hw'⟩
   rw[hw',HBG.out]
   clear hw' w'
   go_wp2
   go_ret
   exact⟨rfl,Below.alloc (B:=w.heap.size) HB3.out hz3 _⟩
  ·rw[haf] at hL3
   rw[hr]
   unfold answer
   have LS:=Sq.laid_said hft kk xx hk100 hx100
   have HLS:=hd LS
   have HL3:=hd hL3
   have hs3:=hL3.here.lt
   have hz3:=hL3.bs.below.size
   obtain⟨p3,l3⟩:=hL3.cell
   clear hr haf hft hL3 hf3 HCZ LS hsz3 p2
   go_wp2_with (go_at_call 13;refine(jQch key 100 _ hk0 hk1 (by decide) (by decide)).mono ?_;rintro e w' ⟨rfl,hw'⟩;rw[hw',HKK.out];clear hw' w')
   refine(jQhL kk _ hk100).mono ?_
   rintro e w4 ⟨rfl,hb4⟩
   have HL4:=hd ((HL3.out.alloc _).below hb4)
   have HA4:=hd ((Ans.new w3 (⟨#[48,59]⟩:ByteArray)).frm (Frm.of_below (sb:=sb) hb4 (by simp;omega)))
   have hz4:=hb4.size
   simp at hz4
   clear hb4 p3
   go_wp2_with (go_at_call 13;refine(jQch vv 100 _ hv0 hv1 (by decide) (by decide)).mono ?_;rintro e w' ⟨rfl,hw'⟩;rw[hw',HXX.out];clear hw' w')
   refine(jQhL xx _ hx100).mono ?_
   rintro e w5 ⟨rfl,hb5⟩
   have HL5:=hd (HL4.out.below hb5)
   have HA5:=hd (HA4.out.frm (Frm.of_below (sb:=sb) hb5 (by omega)))
   have hz5:=hb5.size
   obtain⟨p5,l5⟩:=HL5.out.cell
   clear hb5
   go_wp2_with fail
   refine(lrunB w wb sb _ _ w5 HL5.out).mono ?_
   rintro e w6 ⟨pf102,dg102,rfl,hL6,hf6⟩
   rw[Sq.e_ins kk xx] at hL6
   rw[Sq.e_ins kk xx]
   have HA6:=hd (HA5.out.frm hf6)
   obtain⟨c60,l60⟩:=HA6.out.cell
   obtain⟨_,_,c61,c62,f60,f61,f62⟩:=HA6.out.cells
   have hs6:=hL6.here.lt
   have HB6:=hd hL6.bs.below
   have hz6:=hL6.bs.below.size
   rcases HLS.out.ins with hr | ⟨hr,haf⟩
   ·rw[hr]
    unfold answer
    clear hr hL6 hf6 p5
    go_wp2
    go_ret
    exact⟨rfl,jQaE HB6.out (by omega) _ _ _⟩
   ·rw[haf] at hL6
    rw[hr]
    unfold answer
    have HL7:=hd (hL6.set HA6.out (by omega) (.string (⟨#[49,59]⟩:ByteArray)) (.string pf102) (.string dg102))
    have HA7:=hd (HA6.out.set (⟨#[49,59]⟩:ByteArray) (pf:=pf102) (dg:=dg102))
    have p6:=hL6.cell.1
    have l6:=hL6.cell.2
    clear hr haf hL6 hf6 p5 HB6
    go_wp2_with fail
    refine(lrunB w wb sb _ _ _ HL7.out).mono ?_
    rintro e w8 ⟨pf103,dg103,rfl,hL8,hf8⟩
    rw[Sq.jQsb kk,HLS.out.ins1.2] at hL8
    rw[Sq.jQsb kk,HLS.out.ins1.1]
    unfold answer
    have HA8:=hd (HA7.out.frm hf8)
    obtain⟨c80,l80⟩:=HA8.out.cell
    obtain⟨_,_,c81,c82,f80,f81,f82⟩:=HA8.out.cells
    have hs8:=hL8.here.lt
    have HL9:=hd (hL8.set HA8.out (by omega) (.string (⟨#[33,56]⟩:ByteArray)) (.string pf103) (.string dg103))
    have HA9:=hd (HA8.out.set (⟨#[33,56]⟩:ByteArray) (pf:=pf103) (dg:=dg103))
    have p8:=hL8.cell.1
    have l8:=hL8.cell.2
    clear hL8 hf8 p6 c60 c61 c62 f60 f61 f62 HA6 HA7 HA8 HL7
    go_wp2_with fail
    refine(lpeekB w wb sb _ _ _ HL9.out).mono ?_
    rintro e w10 ⟨pf104,dg104,rfl,hL10,hf10⟩
    rw[Sq.e_sel kk]
    have hrp:=Sq.e_rep kk xx _ HLS.out.sel
    rw[hrp]
    obtain⟨rb,hrb⟩:∃x,x=Sq.dg xx++(⟨#[44]⟩:ByteArray)++Sq.dg kk++(⟨#[59]⟩:ByteArray):=⟨_,rfl⟩
    rw[←hrb]
    unfold answer
    have HRB:=hd hrb
    have HA10:=hd (HA9.out.frm hf10)
    have HL10:=hd hL10
    obtain⟨p10,l10⟩:=hL10.cell
    have hs10:=hL10.here.lt
    clear hL10 hf10 p8 c80 c81 c82 f80 f81 f82 HA9 HL9 hrp hrb
    go_wp2_with fail
    refine(lpeekB w wb sb _ _ _ (HL10.out.alloc _)).mono ?_
    rintro e w11 ⟨pf105,dg105,rfl,hL11,hf11⟩
    rw[Sq.e_ne kk,HLS.out.ne]
    unfold answer
    have HA11:=hd ((HA10.out.alloc _).frm hf11)
    have HC11:=hd ((Ans.new w10 rb).frm hf11)
    have HL11:=hd hL11
    obtain⟨p11,l11⟩:=hL11.cell
    have hs11:=hL11.here.lt
    clear hL11 hf11 p10 HA10
    go_wp2_with fail
    refine(lrunB w wb sb _ _ _ (HL11.out.alloc _)).mono ?_
    rintro e w12 ⟨pf106,dg106,rfl,hL12,hf12⟩
    rw[Sq.e_upd kk,HLS.out.upd.2] at hL12
    rw[Sq.e_upd kk,HLS.out.upd.1]
    unfold answer
    have HA12:=hd ((HA11.out.alloc _).frm hf12)
    have HC12:=hd ((HC11.out.alloc _).frm hf12)
    have HD12:=hd ((Ans.new w11 (⟨#[]⟩:ByteArray)).frm hf12)
    have HL12:=hd hL12
    obtain⟨p12,l12⟩:=hL12.cell
    have hs12:=hL12.here.lt
    clear hL12 hf12 p11 HA11 HC11
    go_wp2_with fail
    refine(lpeekB w wb sb _ Sq.lsum _ (HL12.out.alloc _)).mono ?_
    rintro e w13 ⟨pf107,dg107,rfl,hL13,hf13⟩
    have hnum:=HLS.out.sum
    have hrs:=Sq.jQX hL13.good Sq.lsum
    obtain⟨rs,hrs0⟩:∃x,x=(Sq.decide (db++[Sq.zz [Sq.rw2 kk ((xx:Int) - kk)]]) Sq.lsum).reply:=⟨_,rfl⟩
    rw[←hrs0] at hnum hrs
    rw[←hrs0]
    unfold answer
    have HNUM:=hd hnum
    have HA13:=hd ((HA12.out.alloc _).frm hf13)
    have HC13:=hd ((HC12.out.alloc _).frm hf13)
    have HD13:=hd ((HD12.out.alloc _).frm hf13)
    have HE13:=hd ((Ans.new w12 (⟨#[49,59]⟩:ByteArray)).frm hf13)
    have HL13:=hd hL13
    obtain⟨p13,l13⟩:=hL13.cell
    have hs13:=hL13.here.lt
    clear hL13 hf13 p12 HA12 HC12 HD12 hnum hrs0
    go_wp2_with fail
    refine(jQac rs _ (by omega)).mono ?_
    rintro e w' ⟨rfl,hw'⟩
    rw[hw',HNUM.out]
    clear hw' w'
    go_wp2_with fail
    refine(lrunB w wb sb _ Sq.ldel _ (HL13.out.alloc _)).mono ?_
    rintro e w14 ⟨pf108,dg108,rfl,hL14,hf14⟩
    rw[HLS.out.del.2] at hL14
    rw[HLS.out.del.1]
    unfold answer
    have HA14:=hd ((HA13.out.alloc _).frm hf14)
    have HC14:=hd ((HC13.out.alloc _).frm hf14)
    have HD14:=hd ((HD13.out.alloc _).frm hf14)
    have HE14:=hd ((HE13.out.alloc _).frm hf14)
    have HL14:=hd hL14
    obtain⟨p14,l14⟩:=hL14.cell
    have hs14:=hL14.here.lt
    clear hL14 hf14 p13 HA13 HC13 HD13 HE13
    go_wp2_with fail
    refine(lpeekB w wb sb _ Sq.lcnt _ (HL14.out.alloc _)).mono ?_
    rintro e w15 ⟨pf109,dg109,rfl,hL15,hf15⟩
    rw[HLS.out.cnt]
    unfold answer
    have HB15:=hd hL15.bs.below
    have hz15:=hL15.bs.below.size
    obtain⟨a0,la⟩:=((HA14.out.alloc _).frm hf15).cell
    obtain⟨b0,lb⟩:=((HC14.out.alloc _).frm hf15).cell
    obtain⟨c0,lc⟩:=((HD14.out.alloc _).frm hf15).cell
    obtain⟨d0,ld⟩:=((HE14.out.alloc _).frm hf15).cell
    obtain⟨g0,lg⟩:=((Ans.new w14 (⟨#[49,59]⟩:ByteArray)).frm hf15).cell
    rw[HRB.out] at b0
    clear hL15 hf15 p14 HA14 HC14 HD14 HE14 HLS
    go_wp2_with fail
    refine(jQch vv 100 _ hv0 hv1 (by decide) (by decide)).mono ?_
    rintro e w' ⟨rfl,hw'⟩
    rw[hw',HXX.out]
    clear hw' w'
    go_wp2_with fail
    refine(jQch key 100 _ hk0 hk1 (by decide) (by decide)).mono ?_
    rintro e w' ⟨rfl,hw'⟩
    rw[hw',HKK.out]
    clear hw' w'
    go_wp2
    go_ret
    exact⟨rfl,Below.alloc (B:=w.heap.size) HB15.out hz15 _⟩
end
end Go.Proofs.YtahpihjialbanaaGreatDoor
