import Derived.Test.YtahpihjialbanaaGreatDoorQbx
import Derived.Test.YtahpihjialbanaaGreatDoorQca
set_option linter.unusedVariables false
set_option linter.unusedSimpArgs false
set_option maxRecDepth 100000
set_option maxHeartbeats 1000000
namespace Go.Proofs.YtahpihjialbanaaGreatDoor
namespace Sq
def lines:Bool→List UInt8→Nat
 | _,[]=>0
 | q,c :: r=>(if c==59 && !(turn q c) then 1 else 0)+lines (turn q c) r
theorem jQmP:∀(l r:List UInt8) (q:Bool),scan q l=some false→lines q (l++59 :: r)=lines false r+1:=by
 intro l
 induction l with
 | nil=>intro r q h;simp[scan] at h;subst h;show 1+lines false r=_;omega
 | cons c l ih =>
  intro r q h
  rw[scan] at h
  rw[List.cons_append,lines]
  split
  ·rename_i hc;rw[if_pos hc] at h;simp at h
  ·rename_i hc;rw[if_neg hc] at h;rw[ih r _ h];omega
theorem jQeE (cols:List Col)(items:List ByteArray):∀rows:List (List Val),(∀r∈rows,∀v∈r,goodVal v)→lines false (listed cols items rows)=rows.length
 | [],_=>rfl
 | r :: q,h=>by
  rw[jQaz,jQmP _ _ _ (jQl3 cols r items (h r (by simp))),jQeE cols items q (fun x hx=>h x (by simp[hx]))]
  rfl
end Sq
section
open Go.RowKit
theorem jQjP (s:ByteArray)(w:World)(hs:s.size≤1000000000) :
  Calls Tryz.prog 35 #[.string s] w fun e w'=>e=.returned (.int .i64 (Sq.lines false s.data.toList:Nat))∧w'=w:=by
 go_enter Tryz.func35,Tryz.ntmps35
 go_wp2
 go_loop [3,4,5] (fun n q i=>∃(k m:Nat) (b:Bool),k≤s.size∧m≤k∧n=.int .i64 m∧q=.bool b∧i=.int .i64 k∧Hid (Sq.lines false s.data.toList=m+Sq.lines b (s.data.toList.drop k))) (fun _ _ i=>s.size - (intOf i).toNat)
 case atStart=>exact⟨0,0,false,Nat.zero_le _,Nat.le_refl _,rfl,rfl,rfl,(Nat.zero_add _).symm⟩
 case round =>
  obtain⟨k,m,b,hk,hm,rfl,rfl,rfl,HR⟩:=hrel
  by_cases hlt:k < s.size
  ·have hst:Sq.lines b (s.data.toList.drop k)=(if((s[k].toNat:Int)==59) && !(if((s[k].toNat:Int)==39) then !b else b) then 1 else 0)+Sq.lines (if((s[k].toNat:Int)==39) then !b else b) (s.data.toList.drop (k+1)):=by
    rw[Sq.jQnq s k hlt,Sq.lines]
    unfold Sq.turn
    rw[Sq.eq39,Sq.eq59]
   have HS:Hid _:=hst
   clear hst
   cases h39:((s[k].toNat:Int)==39)
   ·cases h59:((s[k].toNat:Int)==59)
    ·have HT:=HS.out
     rw[h39,h59] at HT
     have HT2:Hid _:=HT
     clear HT
     go_wp2
     go_round
     case rel=>exact⟨k+1,m,b,by omega,by omega,rfl,rfl,by go_num,by have h1:=HR.out;have h2:=HT2.out;simp at h2;show _=_;omega⟩
     case measure=>simp[intOf];omega
    ·have HT:=HS.out
     rw[h39,h59] at HT
     have HT2:Hid _:=HT
     clear HT
     cases b
     ·go_wp2
      go_round
      case rel=>exact⟨k+1,m+1,false,by omega,by omega,by go_num,rfl,by go_num,by have h1:=HR.out;have h2:=HT2.out;simp at h2;show _=_;omega⟩
      case measure=>simp[intOf];omega
     ·go_wp2
      go_round
      case rel=>exact⟨k+1,m,true,by omega,by omega,rfl,rfl,by go_num,by have h1:=HR.out;have h2:=HT2.out;simp at h2;show _=_;omega⟩
      case measure=>simp[intOf];omega
   ·have h59:((s[k].toNat:Int)==59)=false:=by simp at h39;simp;omega
    have HT:=HS.out
    rw[h39,h59] at HT
    have HT2:Hid _:=HT
    clear HT
    go_wp2
    go_round
    case rel=>exact⟨k+1,m,!b,by omega,by omega,rfl,rfl,by go_num,by have h1:=HR.out;have h2:=HT2.out;simp at h2;show _=_;omega⟩
    case measure=>simp[intOf];omega
  ·have HZ:Hid _:=Sq.jQiF s k (by omega)
   go_wp2
   go_ret
   refine⟨?_,rfl⟩
   rw[HR.out,HZ.out];rfl
end
namespace Sq
theorem jQpc (A X:List Word)(st:PSt)(h:st.pos < A.length):itemS (A++X) st=itemS A st:=by
 unfold itemS;rw[jQjJ A X st h,jQjK A X st h]
def w_count:List Word:=[⟨1,bSelect⟩,⟨1,bCount⟩,⟨1,bFrom⟩,⟨2,bT⟩,⟨1,bWhere⟩]
def p_count:List UInt8:=[115,101,108,101,99,116,32,99,111,117,110,116,32,102,114,111,109,32,116,32,119,104,101,114,101,32]
def w_sum:List Word:=[⟨1,bSelect⟩,⟨1,bSum⟩,⟨1,bOpen⟩,⟨2,bId⟩,⟨1,bClose⟩,⟨1,bFrom⟩,⟨2,bT⟩,⟨1,bWhere⟩]
def p_sum:List UInt8:=[115,101,108,101,99,116,32,115,117,109,32,40,105,100,41,32,102,114,111,109,32,116,32,119,104,101,114,101,32]
def pnot:List UInt8:=[110,111,116,32]
theorem jQfB:splitP 60 p_count=some w_count:=jQct (by decide +kernel)
theorem jQop:splitP 60 p_sum=some w_sum:=jQct (by decide +kernel)
theorem jQoq:splitP 60 pnot=some wnot:=jQct (by decide +kernel)
theorem opens_count:Opens w_count:=by
 refine⟨fun X=>?_,by decide +kernel,by decide +kernel,by decide +kernel,by decide +kernel,by decide +kernel,by decide +kernel,by decide +kernel,by decide +kernel,by decide +kernel,by decide +kernel,by decide +kernel,by decide +kernel,by decide +kernel,by decide +kernel,by decide +kernel⟩
 have hp:(stSel w_count).pos < w_count.length:=by decide +kernel
 have h1:acceptB w_count (stSel w_count) bStar=false:=by decide +kernel
 have h2:acceptB w_count (stSel w_count) bCount=true:=by decide +kernel
 unfold chooseA
 rw[jQas _ X _ _ hp,jQas _ X _ _ hp,h1,h2]
 simp only[Bool.false_eq_true,if_false,if_true]
theorem jQoH:Opens w_sum:=by
 refine⟨fun X=>?_,by decide +kernel,by decide +kernel,by decide +kernel,by decide +kernel,by decide +kernel,by decide +kernel,by decide +kernel,by decide +kernel,by decide +kernel,by decide +kernel,by decide +kernel,by decide +kernel,by decide +kernel,by decide +kernel,by decide +kernel⟩
 have hp:(stSel w_sum).pos < w_sum.length:=by decide +kernel
 have h1:acceptB w_sum (stSel w_sum) bStar=false:=by decide +kernel
 have h2:acceptB w_sum (stSel w_sum) bCount=false:=by decide +kernel
 have h3:acceptB w_sum (stSel w_sum) bSum=true:=by decide +kernel
 have p1:(setShow (step1 (stSel w_sum)) 3).pos < w_sum.length:=by decide +kernel
 have p2:(wantS w_sum (setShow (step1 (stSel w_sum)) 3) bOpen).pos < w_sum.length:=by decide +kernel
 have p3:(itemS w_sum (wantS w_sum (setShow (step1 (stSel w_sum)) 3) bOpen)).pos < w_sum.length:=by decide +kernel
 unfold chooseA
 rw[jQas _ X _ _ hp,jQas _ X _ _ hp,jQas _ X _ _ hp,h1,h2,h3,jQb7 _ X _ _ p1,jQpc _ X _ p2,jQb7 _ X _ _ p3]
 simp only[Bool.false_eq_true,if_false,if_true]
theorem Read.alone {A wc:List Word}{d:List StepS}(h:Read A wc d){A':List Word}(h':Opens A'):Read A' wc d:=by
 have:=h.sim A' [] (Or.inl rfl) [] (step1 (stTab A')) h'.ok h'.at h'.nil (8 * (A'++wc).length+7) (by simp[need];omega)
 rw[List.append_nil,List.nil_append] at this
 refine⟨h',?_,?_,?_⟩
 ·rw[h'.said];exact this.1
 ·rw[h'.said,this.2.1];simp
 ·rw[h'.said];exact this.2.2
end Sq
namespace Sq
theorem isRef.num {r:ByteArray}(h:isRef r):(number r).2=false:=by
 obtain⟨e,h⟩:=h
 have hp:=jQm8 e
 have hl:byteAt r (r.size - 1)≠59:=by
  have hsz:r.size=(Lib.itoa e).length+1:=by rw[jQG,h];simp
  unfold byteAt
  rw[h,hsz]
  obtain⟨n,hn⟩:∃n,(Lib.itoa e).length=n+1:=⟨(Lib.itoa e).length - 1,by omega⟩
  rw[hn]
  show(((33 :: Lib.itoa e)[n+1]?).getD 0).toNat≠(59:Int)
  rw[List.getElem?_cons_succ,List.getElem?_eq_getElem (by omega)]
  have:=jQeL e _ (List.getElem_mem (show n < (Lib.itoa e).length by omega))
  unfold isNum at this
  simp only[Option.getD_some]
  omega
 unfold number
 rw[if_pos (Or.inr (Or.inr hl))]
theorem jQrY (A:List Word)(pA:List UInt8)(hs:splitP 60 pA=some A){wc:List Word}{d:List StepS}{C:List UInt8}(hC:Splits C wc)(hr:Read A wc d)(sql:ByteArray)(hq:sql.data.toList=pA++(pnot++40 :: (C++[41])))(h:(parse sql).1=0) :
  Same (stTab A) (parse sql).2∧(parse sql).2.wher=d++[opStep bNot]:=by
 obtain⟨_,ws,h1,h2,h3,h4⟩:=jQcS sql h
 have h5:=(jQaa sql ws).1 h1
 rw[hq] at h5
 obtain⟨w1,rfl,h6⟩:=(jQaZ _ 60 pA A hs ws).1 h5
 obtain⟨w2,rfl,h7⟩:=(jQaZ _ 60 pnot wnot jQoq w1).1 h6
 obtain⟨w3,rfl,h8⟩:=(jQap 40 (Or.inl rfl) _ w2).1 h7
 have h9:Splits (C++[41]) (wc++[wClose]):=hC.app (Or.inr ⟨[],rfl⟩) ((jQap 41 (Or.inr rfl) [] _).2 ⟨[],rfl,Splits.nil⟩)
 have e1:w3=wc++[wClose]:=by
  have i1:=(jQaa ⟨(C++[41]).toArray⟩ w3).2 (by simpa using h8)
  have i2:=(jQaa ⟨(C++[41]).toArray⟩ (wc++[wClose])).2 (by simpa using h9)
  rw[i1] at i2
  simpa using i2
 subst e1
 rw[h4]
 exact⟨hr.opens.same _,hr.nots.2.2⟩
theorem jQfH {db:List Tab}(hg:good db)(A:List Word)(pA:List UInt8)(hA:Opens A)(hs:splitP 60 pA=some A)(meas:Tab→List (List Val)→Int)
  (hm:∀t∈db,∀f,number (showRows t (stTab A) (t.rows.filter f))=(meas t (t.rows.filter f),true))
  (hadd:∀t f,meas t (t.rows.filter fun _=>true)=meas t (t.rows.filter f)+meas t (t.rows.filter fun r=>!f r))
  (sa sb sc:ByteArray) (C:List UInt8) (ha:(parse sa).2.act=5∧(parse sa).2.table=bT∧(parse sa).2.wher=[]∧(parse sa).2.shw=(stTab A).shw∧(parse sa).2.items=(stTab A).items)
  (hb:sb.data.toList=pA++C) (hc:sc.data.toList=pA++(pnot++40 :: (C++[41])))
  (ka:(number (Sq.decide db sa).reply).2=true) (kb:(number (Sq.decide db sb).reply).2=true) (kc:(number (Sq.decide db sc).reply).2=true) :
  (number (Sq.decide db sa).reply).1=(number (Sq.decide db sb).reply).1+(number (Sq.decide db sc).reply).1:=by
 have no:∀s,(number (Sq.decide db s).reply).2=true→¬isRef (Sq.decide db s).reply:=fun s h r=>by rw[r.num] at h;cases h
 obtain⟨a0,a5⟩:=(jQae db sa).resolve_left (no sa ka)
 obtain⟨b0,b5⟩:=(jQae db sb).resolve_left (no sb kb)
 obtain⟨c0,c5⟩:=(jQae db sc).resolve_left (no sc kc)
 obtain⟨wc,d,r1,r2,r3,r4⟩:=jQjv A pA hA hs C sb hb b0
 obtain⟨n1,n2⟩:=jQrY A pA hs r1 r2 sc hc c0
 obtain⟨ta,ta1,ta2⟩:=a5 ha.1
 obtain⟨tb,tb1,tb2⟩:=b5 (r3.act.trans hA.act)
 obtain⟨tc,tc1,tc2⟩:=c5 (n1.act.trans hA.act)
 rw[ha.2.1] at ta1
 rw[r3.table,hA.table] at tb1
 rw[n1.table,hA.table] at tc1
 rw[ta1] at tb1 tc1
 cases tb1
 cases tc1
 have ht:ta∈db:=List.mem_of_getElem? ta1
 have hf:∀row,∃v,Tells ta.cols row d v:=fun row=>r2.tells ta.cols row
 obtain⟨f,hf⟩:=Classical.axiomOfChoice hf
 have e1:meeting ta d=ta.rows.filter f:=jQbn ta d f hf
 have e2:meeting ta (d++[opStep bNot])=ta.rows.filter fun r=>!f r:=jQbn ta _ _ (fun row l=>by rw[List.foldl_append,hf row];exact jQjl ta.cols row l (f row))
 have e3:meeting ta []=ta.rows.filter fun _=>true:=rfl
 have sA:∀rows,showRows ta (parse sa).2 rows=showRows ta (stTab A) rows:=fun rows=>by unfold showRows;rw[ha.2.2.2.1,ha.2.2.2.2]
 rw[ta2,tb2,tc2,sA,jQab ta r3,jQab ta n1,ha.2.2.1,r4,n2,e1,e2,e3,hm ta ht,hm ta ht,hm ta ht]
 exact hadd ta f
theorem jQeQ {α:Type}(f:α→Bool):∀l:List α,l.length=(l.filter f).length+(l.filter fun r=>!f r).length
 | []=>rfl
 | x :: r=>by
  have:=jQeQ f r
  cases hx:f x <;> simp[hx] <;> omega
theorem jQpo:(stTab w_count).shw=2:=by decide +kernel
theorem jQqg:(stTab w_star).shw=1:=by decide +kernel
theorem jQpI:(stTab w_sum).shw=3∧(stTab w_sum).items=[bId]:=by decide +kernel
theorem jQhP {db:List Tab}(hg:good db)(t:Tab)(ht:t∈db)(f:List Val→Bool):number (showRows t (stTab w_count) (t.rows.filter f))=(((t.rows.filter f).length:Int),true):=by
 have h1:=jQgw hg ht
 have h2:=List.length_filter_le f t.rows
 refine jQbl _ (by omega) (by omega) _ ?_
 unfold showRows
 rw[jQpo,if_pos (by decide)]
 exact jQeY _
def sumId (t:Tab)(rows:List (List Val)):Int:=sumRows t.cols [bId] rows
theorem jQg7 (t:Tab)(r:List Val)(q:List (List Val)):sumId t (r :: q)=(cellOf t.cols r bId).number+sumId t q:=by
 unfold sumId sumRows sumItems;simp
theorem jQjk (t:Tab)(f:List Val→Bool):∀rows:List (List Val),sumId t rows=sumId t (rows.filter f)+sumId t (rows.filter fun r=>!f r)
 | []=>rfl
 | x :: r=>by
  have:=jQjk t f r
  cases hx:f x <;> simp[hx,jQg7] <;> omega
theorem jQrF (t:Tab):∀rows:List (List Val),(∀r∈rows,goodRow r)→-2147483648 * (rows.length:Int)≤sumId t rows∧sumId t rows≤2147483648 * (rows.length:Int)
 | [],_=>by simp[sumId,sumRows]
 | x :: r,h=>by
  have i:=jQrF t r (fun y hy=>h y (by simp[hy]))
  have hc:=jQdp t.cols x bId (h x (by simp)).vals
  have hb:-2147483648≤(cellOf t.cols x bId).number∧(cellOf t.cols x bId).number≤2147483648:=by
   rcases hc with⟨_,h1,h2,_⟩ | ⟨_,h1,_⟩
   ·omega
   ·omega
  rw[jQg7,List.length_cons]
  push_cast
  omega
theorem jQqf {db:List Tab}(hg:good db)(t:Tab)(ht:t∈db)(f:List Val→Bool):number (showRows t (stTab w_sum) (t.rows.filter f))=(sumId t (t.rows.filter f),true):=by
 have h1:=jQgw hg ht
 have h2:=List.length_filter_le f t.rows
 have h3:=jQrF t (t.rows.filter f) (fun r hr=>(hg.each t ht).rows r (List.mem_filter.1 hr).1)
 refine jQbl _ (by omega) (by omega) _ ?_
 unfold showRows
 rw[jQpI.1,jQpI.2,if_neg (by decide),if_pos (by decide),jQj]
 rfl
def selSum:ByteArray:=⟨#[115,101,108,101,99,116,32,115,117,109,32,40,105,100,41,32,102,114,111,109,32,116]⟩
theorem jQky:(parse selSum).2.act=5∧(parse selSum).2.table=bT∧(parse selSum).2.wher.length=0∧(parse selSum).2.shw=(stTab w_sum).shw∧(parse selSum).2.items=(stTab w_sum).items:=by decide +kernel
theorem jQhf:(parse selCount).2.act=5∧(parse selCount).2.table=bT∧(parse selCount).2.wher.length=0∧(parse selCount).2.shw=(stTab w_count).shw∧(parse selCount).2.items=(stTab w_count).items:=by decide +kernel
theorem jQfP {α:Type}(l:List α):(l.filter fun _=>true)=l:=List.filter_eq_self.2 (fun _ _=>rfl)
theorem jQk6 {db:List Tab}(hg:good db)(sb sc:ByteArray)(C:List UInt8)(hb:sb.data.toList=p_count++C)(hc:sc.data.toList=p_count++(pnot++40 :: (C++[41])))
  (ka:(number (Sq.decide db selCount).reply).2=true) (kb:(number (Sq.decide db sb).reply).2=true) (kc:(number (Sq.decide db sc).reply).2=true) :
  (number (Sq.decide db selCount).reply).1=(number (Sq.decide db sb).reply).1+(number (Sq.decide db sc).reply).1:=by
 obtain⟨s1,s2,s3,s4,s5⟩:=jQhf
 refine jQfH hg w_count p_count opens_count jQfB (fun _ rows=>(rows.length:Int)) (fun t ht f=>jQhP hg t ht f) (fun t f=>?_) selCount sb sc C ⟨s1,s2,jQT s3,s4,s5⟩ hb hc ka kb kc
 have:=jQeQ f t.rows
 rw[jQfP]
 omega
theorem jQok {db:List Tab}(hg:good db)(sb sc:ByteArray)(C:List UInt8)(hb:sb.data.toList=p_sum++C)(hc:sc.data.toList=p_sum++(pnot++40 :: (C++[41])))
  (ka:(number (Sq.decide db selSum).reply).2=true) (kb:(number (Sq.decide db sb).reply).2=true) (kc:(number (Sq.decide db sc).reply).2=true) :
  (number (Sq.decide db selSum).reply).1=(number (Sq.decide db sb).reply).1+(number (Sq.decide db sc).reply).1:=by
 obtain⟨s1,s2,s3,s4,s5⟩:=jQky
 refine jQfH hg w_sum p_sum jQoH jQop sumId (fun t ht f=>jQqf hg t ht f) (fun t f=>?_) selSum sb sc C ⟨s1,s2,jQT s3,s4,s5⟩ hb hc ka kb kc
 rw[jQfP]
 exact jQjk t f t.rows
theorem jQfM {db:List Tab}(hg:good db)(sb sl:ByteArray)(C:List UInt8)(hb:sb.data.toList=p_count++C)(hl:sl.data.toList=p_star++C)
  (kb:(number (Sq.decide db sb).reply).2=true) (kl:(Sq.decide db sl).reply.data.toList.head?≠some 33) :
  (lines false (Sq.decide db sl).reply.data.toList:Int)=(number (Sq.decide db sb).reply).1:=by
 have nb:¬isRef (Sq.decide db sb).reply:=fun r=>by rw[r.num] at kb;cases kb
 have nl:¬isRef (Sq.decide db sl).reply:=fun r=>kl r.bang
 obtain⟨b0,b5⟩:=(jQae db sb).resolve_left nb
 obtain⟨l0,l5⟩:=(jQae db sl).resolve_left nl
 obtain⟨wc,d,r1,r2,r3,r4⟩:=jQjv w_count p_count opens_count jQfB C sb hb b0
 obtain⟨wc',d',q1,q2,q3,q4⟩:=jQjv w_star p_star opens_star jQcQ C sl hl l0
 have hww:wc'=wc:=by
  have i1:=(jQaa ⟨C.toArray⟩ wc).2 (by simpa using r1)
  have i2:=(jQaa ⟨C.toArray⟩ wc').2 (by simpa using q1)
  rw[i1] at i2
  simpa using i2.symm
 subst hww
 have hdd:d'=d:=by
  have:=(r2.alone opens_star).wher
  rw[q2.wher] at this
  exact this
 subst hdd
 obtain⟨tb,tb1,tb2⟩:=b5 (r3.act.trans opens_count.act)
 obtain⟨tl,tl1,tl2⟩:=l5 (q3.act.trans opens_star.act)
 rw[r3.table,opens_count.table] at tb1
 rw[q3.table,opens_star.table] at tl1
 rw[tb1] at tl1
 cases tl1
 have ht:tb∈db:=List.mem_of_getElem? tb1
 have hf:∀row,∃v,Tells tb.cols row d' v:=fun row=>r2.tells tb.cols row
 obtain⟨f,hf⟩:=Classical.axiomOfChoice hf
 have e1:meeting tb d'=tb.rows.filter f:=jQbn tb d' f hf
 rw[tb2,tl2,jQab tb r3,jQab tb q3,r4,q4,e1,jQhP hg tb ht]
 unfold showRows
 rw[jQqg,if_neg (by decide),if_neg (by decide),if_pos (by decide)]
 show((lines false (listed tb.cols (tb.cols.map Col.name) (tb.rows.filter f)):Nat):Int)=_
 rw[jQeE _ _ _ (fun r hr=>((hg.each tb ht).rows r (List.mem_filter.1 hr).1).vals)]
end Sq
end Go.Proofs.YtahpihjialbanaaGreatDoor
