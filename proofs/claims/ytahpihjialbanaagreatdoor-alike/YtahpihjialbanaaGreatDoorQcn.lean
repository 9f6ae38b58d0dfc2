import Derived.Test.YtahpihjialbanaaGreatDoorQbw
import Derived.Test.YtahpihjialbanaaGreatDoorQbx
set_option linter.unusedVariables false
set_option linter.unusedSimpArgs false
set_option maxRecDepth 100000
namespace Go.Proofs.YtahpihjialbanaaGreatDoor
section
open Go.ChangeShapes Go.WideShapes Go.ChangeMaps Go.RowKit
theorem jQiT (hk:∀(v0:Value) (l0:List ByteArray) (s1:ByteArray) (w:World),Strs w v0 l0→s1.size≤1000000000000000→Tb2 w→Calls Tryz.prog 5 #[v0,.string s1] w fun e w'=>e=.returned (.bool true)∧Below w.heap.size w w')
  (os:Os) (started:os.Started) (H:Type) (enc:TypeId×Value→H) :
  ReturnsInHanded {} Tryz.checked os 5 .any (fun w args=>(Rows.alikeSpec.pre enc Tryz.prog Tryz.f5 [] false w args∧laidMetH Tryz.prog laid4 w)∧sizedMet enc Tryz.prog Tryz.f5 (OpenSpec.ofChange Rows.alikeSpec) false w args)
   (Rows.alikeSpec.post enc Tryz.prog Tryz.f5 false true false false):=by
 refine returnsInHanded_of_change_and (C:=Tryz.checked) (X:=fun w _=>laidMetH Tryz.prog laid4 w) (fun _ _ _ hh h=>h.of_heap hh) Tryz.own started (by kernel_rfl) Tryz.func5
  (ChangeSpec.witness_shaped (enc:=enc) (C:=Tryz.checked) (os:=os) (X:=fun w _=>laidMetH Tryz.prog laid4 w) false (World.doorLaid Tryz.prog 400 os) #[.slice none 0 0,.string ⟨#[]⟩] 8 rfl (World.shaped_of_RefB (by kernel_rfl) (by kernel_rfl)) (by kernel_rfl) (by kernel_rfl) (by kernel_rfl) (jQeU os _)) ?_
 intro W base args ds gs before hval0 hW _ hsz0 hL _
 have hsz:(DataW.weightsEach Tryz.prog (Tryz.f5.params.toList++Rows.alikeSpec.plain.varTypes Tryz.prog) (ds++gs)).all (·≤reachBytes)=true:=hsz0
 have hval:∀(j:Nat) t v,Tryz.f5.params[j]?=some t→args[j]?=some v→Value.okWide Tryz.prog W .any base t v:=hval0
 have hW':=hW
 obtain⟨p,q,hA0,hV,rfl,hfz,hnd⟩:=hW
 have hA:DataW.TrodAll enc Tryz.prog W 0 (fun _=>true) true Tryz.f5.params.toList args.toList ds p:=hA0
 rw[Tryz.params5] at hA hval hsz
 obtain⟨v0,v1,d0,d1,p0,p1,rfl,rfl,rfl,h0,h1⟩:=trodAll_two hA
 obtain⟨rfl,rfl⟩:=trodVars_none hV
 obtain⟨a0,len0,cap0,rfl⟩:=okWide_slice Tryz.underlying35 (hval 0 35 v0 rfl rfl)
 have h0k:=h0
 obtain⟨fuel0,hf0⟩:=h0
 obtain⟨s1,rfl,rfl,rfl,ws1⟩:=open_string Tryz.underlying9 (hval 1 9 v1 rfl rfl) h1
 clear hA0 hval0
 simp only[List.append_nil] at hW' hsz
 have hlt:∀x∈p0,x.block < W.heap.size:=fun x hx=>hW'.lt x (by simp[hx])
 obtain⟨l0,hl0⟩:=jQdT hf0 hsz (j:=0) rfl rfl
 have hs1:s1.size≤1000000000000000:=by have h9:=sized_string hsz (j:=1) rfl rfl;have h8:reachBytes≤1000000000000000:=(by decide);have h7:s1.data.toList.length=s1.size:=(by simp);omega
 refine(hk _ l0 s1 W hl0 hs1 ⟨jQbh hL,jQbj hL⟩).mono ?_
 rintro e W' ⟨rfl,bel⟩
 refine⟨_,rfl,_,_,_,[],p0++[],[],hW',?_,?_,?_,bel.frame _,fun h=>by cases h⟩
 ·exact trodAll_mk1 (shut_bool Tryz.underlying4 true)
 ·exact trodAll_mk2 (Below.trod Tryz.laidOut (by kernel_rfl) (of_decide_eq_true (by kernel_rfl)) h0k bel (fun x hx=>hlt x (by simpa using hx))) (shut_string Tryz.underlying9 ws1)
 ·rfl
end
namespace Sq
def wid:List Word:=[⟨2,bId⟩,⟨1,bEq⟩,⟨2,bId⟩,⟨1,bAnd⟩]
def pid:List UInt8:=[105,100,32,61,32,105,100,32,97,110,100,32]
def wor:List Word:=[⟨1,bOr⟩,⟨2,bId⟩,⟨1,⟨#[60,62]⟩⟩,⟨2,bId⟩]
def por:List UInt8:=[32,111,114,32,105,100,32,60,62,32,105,100]
theorem jQqj:splitP 60 pid=some wid:=jQct (by decide +kernel)
theorem jQqi:Splits por wor:=(jQaa ⟨por.toArray⟩ wor).1 (jQct (by decide +kernel))
def selfStep (op:ByteArray):StepS:=⟨op,⟨bId,val0⟩,⟨bId,val0⟩⟩
theorem jQhQ (A X:List Word)(op:ByteArray)(st:PSt)(hb:st.bad=false)(hp:st.pos=A.length)(hc:isComparison op=true) :
  compS (A++(⟨2,bId⟩ :: ⟨1,op⟩ :: ⟨2,bId⟩ :: X)) st=addStep (step1 (step1 (step1 st))) (selfStep op):=by
 obtain⟨W,hW⟩:∃W,W=A++(⟨2,bId⟩ :: ⟨1,op⟩ :: ⟨2,bId⟩ :: X):=⟨_,rfl⟩
 rw[←hW]
 have n0:nextW W st=⟨2,bId⟩:=by unfold nextW;rw[hb,hp,hW];simp
 have n1:nextW W (step1 st)=⟨1,op⟩:=by unfold nextW step1;simp only;rw[hb,hp,hW];simp
 have n2:nextW W (step1 (step1 st))=⟨2,bId⟩:=by unfold nextW step1;simp only;rw[hb,hp,hW];simp[Nat.add_assoc]
 have t0:termS W st=step1 st:=by unfold termS;rw[n0];rfl
 have r0:termR W st=⟨bId,val0⟩:=by unfold termR;rw[n0];rfl
 have m1:markR W (step1 st)=op:=by unfold markR;rw[n1];rfl
 have k1:takeS W (step1 st)=step1 (step1 st):=by unfold takeS;rw[n1];rfl
 have cm:compMid W st=step1 (step1 st):=by unfold compMid;rw[t0,m1,hc,k1];rfl
 have t2:termS W (step1 (step1 st))=step1 (step1 (step1 st)):=by unfold termS;rw[n2];rfl
 have r2:termR W (step1 (step1 st))=⟨bId,val0⟩:=by unfold termR;rw[n2];rfl
 unfold compS
 rw[cm,t2,t0,m1,r0,r2]
 rfl
theorem jQbJ (A:List Word)(t:ByteArray)(X:List Word)(st:PSt)(m:ByteArray)(hb:st.bad=false)(hp:st.pos=A.length):acceptB (A++⟨2,t⟩ :: X) st m=false:=by
 rw[jQI A _ X st m hb hp];rfl
theorem Read.ands {A wc:List Word}{d:List StepS}(h:Read A wc d):(statementS (A++(wid++wOpen :: (wc++[wClose]))) st0).bad=false ∧
  (statementS (A++(wid++wOpen :: (wc++[wClose]))) st0).pos=(A++(wid++wOpen :: (wc++[wClose]))).length∧(statementS (A++(wid++wOpen :: (wc++[wClose]))) st0).wher=[selfStep bEq]++d++[opStep bAnd]:=by
 rw[h.opens.said]
 obtain⟨g,hg⟩:∃g,8 * (A++(wid++wOpen :: (wc++[wClose]))).length+7=g+4:=⟨8 * (A++(wid++wOpen :: (wc++[wClose]))).length+3,by omega⟩
 rw[hg]
 obtain⟨s,hs⟩:∃s,s=step1 (stTab A):=⟨_,rfl⟩
 have hsb:s.bad=false:=by rw[hs];exact h.opens.ok
 have hsp:s.pos=A.length:=by rw[hs];exact h.opens.at
 have hsw:s.wher=[]:=by rw[hs];exact h.opens.nil
 rw[←hs]
 obtain⟨W,hW⟩:∃W,W=A++(wid++wOpen :: (wc++[wClose])):=⟨_,rfl⟩
 have hlen:W.length=A.length+wc.length+6:=by rw[hW];simp[wid];omega
 have hW1:W=A++(⟨2,bId⟩ :: ⟨1,bEq⟩ :: ⟨2,bId⟩ :: (⟨1,bAnd⟩ :: wOpen :: (wc++[wClose]))):=hW
 have hW2:W=(A++[⟨2,bId⟩,⟨1,bEq⟩,⟨2,bId⟩])++⟨1,bAnd⟩ :: (wOpen :: (wc++[wClose])):=by rw[hW];simp[wid]
 have hW3:W=(A++[⟨2,bId⟩,⟨1,bEq⟩,⟨2,bId⟩,⟨1,bAnd⟩])++wOpen :: (wc++[wClose]):=by rw[hW];simp[wid]
 have hW4:W=(A++[⟨2,bId⟩,⟨1,bEq⟩,⟨2,bId⟩,⟨1,bAnd⟩,wOpen])++(wc++[wClose]):=by rw[hW];simp[wid]
 have hW5:W=(A++[⟨2,bId⟩,⟨1,bEq⟩,⟨2,bId⟩,⟨1,bAnd⟩,wOpen]++wc)++wClose :: []:=by rw[hW];simp[wid]
 rw[←hW] at hg ⊢
 have b1:acceptB W s bNot=false:=by rw[hW1];exact jQbJ A _ _ s _ hsb hsp
 have b2:acceptB W s bOpen=false:=by rw[hW1];exact jQbJ A _ _ s _ hsb hsp
 have cs:compS W s=addStep (step1 (step1 (step1 s))) (selfStep bEq):=by rw[hW1];exact jQhQ A _ bEq s hsb hsp (by decide)
 obtain⟨q,hq⟩:∃q,q=addStep (step1 (step1 (step1 s))) (selfStep bEq):=⟨_,rfl⟩
 have hqb:q.bad=false:=by rw[hq];exact hsb
 have hqp:q.pos=A.length+3:=by rw[hq];show s.pos+1+1+1=_;omega
 have hqw:q.wher=[selfStep bEq]:=by rw[hq];show s.wher++[_]=_;rw[hsw];rfl
 have c2:cond W (g+2) 2 s=q:=by
  rw[cond,b1,b2,hq]
  simp only[Bool.false_eq_true,if_false]
  exact cs
 have a1:acceptB W q bAnd=true:=by rw[hW2,jQI _ _ _ q _ hqb (by simp[hqp])];decide +kernel
 have a2:acceptB W (step1 q) bNot=false:=by rw[hW3,jQI _ _ _ (step1 q) _ hqb (by simp[step1,hqp])];decide +kernel
 have a3:acceptB W (step1 q) bOpen=true:=by rw[hW3,jQI _ _ _ (step1 q) _ hqb (by simp[step1,hqp])];decide +kernel
 have i:=h.sim (A++[⟨2,bId⟩,⟨1,bEq⟩,⟨2,bId⟩,⟨1,bAnd⟩,wOpen]) [wClose] (Or.inr ⟨_,rfl⟩) [selfStep bEq] (step1 (step1 q)) hqb (by simp[step1,hqp]) hqw g (by rw[←hW4,hlen];simp[step1,need,hqp];omega)
 rw[←hW4] at i
 obtain⟨i1,i2,i3⟩:=i
 have a4:acceptB W (cond W g 0 (step1 (step1 q))) bClose=true:=by
  have:=jQI (A++[⟨2,bId⟩,⟨1,bEq⟩,⟨2,bId⟩,⟨1,bAnd⟩,wOpen]++wc) wClose [] (cond W g 0 (step1 (step1 q))) bClose i1 (by rw[i2];simp;omega)
  rw[←hW5] at this
  rw[this];decide +kernel
 have c3:cond W (g+1) 2 (step1 q)=step1 (cond W g 0 (step1 (step1 q))):=by
  rw[cond,a2,a3]
  simp only[Bool.false_eq_true,if_false,if_true]
  unfold wantS
  rw[a4]
  rfl
 have hpe:(addStep (step1 (cond W g 0 (step1 (step1 q)))) (opStep bAnd)).pos=W.length:=by
  show(cond W g 0 (step1 (step1 q))).pos+1=_
  rw[i2,hlen];simp;omega
 have c4:cond W (g+2) 4 q=addStep (step1 (cond W g 0 (step1 (step1 q)))) (opStep bAnd):=by
  rw[cond,a1,if_pos rfl,c3]
  obtain⟨g',hg'⟩:∃g',g+1=g'+1:=⟨g,rfl⟩
  rw[hg']
  exact jQd1 W g' _ (jQaU W _ _ (by omega))
 rw[jQiJ W (g+2) s,c2,c4,jQgE W (g+2) _ (jQaU W _ _ (by omega))]
 refine⟨i1,hpe,?_⟩
 show(cond W g 0 (step1 (step1 q))).wher++[opStep bAnd]=_
 rw[i3]
theorem Read.ors {A wc:List Word}{d:List StepS}(h:Read A wc d):(statementS (A++(wOpen :: (wc++(wClose :: wor)))) st0).bad=false ∧
  (statementS (A++(wOpen :: (wc++(wClose :: wor)))) st0).pos=(A++(wOpen :: (wc++(wClose :: wor)))).length∧(statementS (A++(wOpen :: (wc++(wClose :: wor)))) st0).wher=d++[selfStep ⟨#[60,62]⟩]++[opStep bOr]:=by
 rw[h.opens.said]
 obtain⟨g,hg⟩:∃g,8 * (A++(wOpen :: (wc++(wClose :: wor)))).length+7=g+4:=⟨8 * (A++(wOpen :: (wc++(wClose :: wor)))).length+3,by omega⟩
 rw[hg]
 obtain⟨s,hs⟩:∃s,s=step1 (stTab A):=⟨_,rfl⟩
 have hsb:s.bad=false:=by rw[hs];exact h.opens.ok
 have hsp:s.pos=A.length:=by rw[hs];exact h.opens.at
 have hsw:s.wher=[]:=by rw[hs];exact h.opens.nil
 rw[←hs]
 obtain⟨W,hW⟩:∃W,W=A++(wOpen :: (wc++(wClose :: wor))):=⟨_,rfl⟩
 have hlen:W.length=A.length+wc.length+6:=by rw[hW];simp[wor];omega
 have hW1:W=A++wOpen :: (wc++(wClose :: wor)):=hW
 have hW2:W=(A++[wOpen])++(wc++(wClose :: wor)):=by rw[hW];simp
 have hW3:W=(A++[wOpen]++wc)++wClose :: wor:=by rw[hW];simp
 have hW4:W=(A++[wOpen]++wc++[wClose])++⟨1,bOr⟩ :: [⟨2,bId⟩,⟨1,⟨#[60,62]⟩⟩,⟨2,bId⟩]:=by rw[hW];simp[wor]
 have hW5:W=(A++[wOpen]++wc++[wClose,⟨1,bOr⟩])++(⟨2,bId⟩ :: ⟨1,⟨#[60,62]⟩⟩ :: ⟨2,bId⟩ :: []):=by rw[hW];simp[wor]
 rw[←hW] at hg ⊢
 have a2:acceptB W s bNot=false:=by rw[hW1,jQI _ _ _ s _ hsb hsp];decide +kernel
 have a3:acceptB W s bOpen=true:=by rw[hW1,jQI _ _ _ s _ hsb hsp];decide +kernel
 have i:=h.sim (A++[wOpen]) (wClose :: wor) (Or.inr ⟨_,rfl⟩) [] (step1 s) hsb (by simp[step1,hsp]) hsw (g+1) (by rw[←hW2,hlen];simp[step1,need,hsp];omega)
 rw[←hW2] at i
 obtain⟨i1,i2,i3⟩:=i
 have a4:acceptB W (cond W (g+1) 0 (step1 s)) bClose=true:=by
  have:=jQI (A++[wOpen]++wc) wClose wor (cond W (g+1) 0 (step1 s)) bClose i1 (by rw[i2];simp;omega)
  rw[←hW3] at this
  rw[this];decide +kernel
 obtain⟨q,hq⟩:∃q,q=step1 (cond W (g+1) 0 (step1 s)):=⟨_,rfl⟩
 have hqb:q.bad=false:=by rw[hq];exact i1
 have hqp:q.pos=A.length+wc.length+2:=by rw[hq];show(cond W (g+1) 0 (step1 s)).pos+1=_;rw[i2];simp;omega
 have hqw:q.wher=d:=by rw[hq];show(cond W (g+1) 0 (step1 s)).wher=_;rw[i3];rfl
 have c2:cond W (g+2) 2 s=q:=by
  rw[cond,a2,a3,hq]
  simp only[Bool.false_eq_true,if_false,if_true]
  unfold wantS
  rw[a4]
  rfl
 have b1:acceptB W q bAnd=false:=by rw[hW4,jQI _ _ _ q _ hqb (by simp[hqp];omega)];decide +kernel
 have b2:acceptB W q bOr=true:=by rw[hW4,jQI _ _ _ q _ hqb (by simp[hqp];omega)];decide +kernel
 have hp5:(step1 q).pos=(A++[wOpen]++wc++[wClose,⟨1,bOr⟩]).length:=by show q.pos+1=_;rw[hqp];simp;omega
 have b3:acceptB W (step1 q) bNot=false:=by rw[hW5];exact jQbJ _ _ _ _ _ hqb hp5
 have b4:acceptB W (step1 q) bOpen=false:=by rw[hW5];exact jQbJ _ _ _ _ _ hqb hp5
 have cs:compS W (step1 q)=addStep (step1 (step1 (step1 (step1 q)))) (selfStep ⟨#[60,62]⟩):=by rw[hW5];exact jQhQ _ _ _ (step1 q) hqb hp5 (by decide)
 have hpe:(addStep (step1 (step1 (step1 (step1 q)))) (selfStep ⟨#[60,62]⟩)).pos=W.length:=by show q.pos+1+1+1+1=_;omega
 have c1:cond W (g+2) 1 (step1 q)=addStep (step1 (step1 (step1 (step1 q)))) (selfStep ⟨#[60,62]⟩):=by
  rw[cond,cond,b3,b4]
  simp only[Bool.false_eq_true,if_false]
  rw[cs]
  exact jQd1 W g _ (jQaU W _ _ (by omega))
 have c3:cond W (g+3) 3 q=addStep (addStep (step1 (step1 (step1 (step1 q)))) (selfStep ⟨#[60,62]⟩)) (opStep bOr):=by
  rw[cond,b2,if_pos rfl,c1]
  exact jQgE W (g+1) _ (jQaU W _ _ (by
   show W.length≤(addStep (step1 (step1 (step1 (step1 q)))) (selfStep ⟨#[60,62]⟩)).pos
   omega))
 rw[jQiJ W (g+2) s,c2,jQd1 W (g+1) q b1,c3]
 refine⟨hqb,hpe,?_⟩
 show q.wher++[_]++[_]=_
 rw[hqw]
end Sq
namespace Sq
theorem jQsi (A:List Word)(pA:List UInt8)(hs:splitP 60 pA=some A){wc:List Word}{d:List StepS}{C:List UInt8}(hC:Splits C wc)(hr:Read A wc d)(sql:ByteArray)(hq:sql.data.toList=pA++(pid++40 :: (C++[41])))(h:(parse sql).1=0) :
  Same (stTab A) (parse sql).2∧(parse sql).2.wher=[selfStep bEq]++d++[opStep bAnd]:=by
 obtain⟨_,ws,h1,h2,h3,h4⟩:=jQcS sql h
 have h5:=(jQaa sql ws).1 h1
 rw[hq] at h5
 obtain⟨w1,rfl,h6⟩:=(jQaZ _ 60 pA A hs ws).1 h5
 obtain⟨w2,rfl,h7⟩:=(jQaZ _ 60 pid wid jQqj w1).1 h6
 obtain⟨w3,rfl,h8⟩:=(jQap 40 (Or.inl rfl) _ w2).1 h7
 have h9:Splits (C++[41]) (wc++[wClose]):=hC.app (Or.inr ⟨[],rfl⟩) ((jQap 41 (Or.inr rfl) [] _).2 ⟨[],rfl,Splits.nil⟩)
 have e1:w3=wc++[wClose]:=by
  have i1:=(jQaa ⟨(C++[41]).toArray⟩ w3).2 (by simpa using h8)
  have i2:=(jQaa ⟨(C++[41]).toArray⟩ (wc++[wClose])).2 (by simpa using h9)
  rw[i1] at i2
  simpa using i2
 subst e1
 rw[h4]
 exact⟨hr.opens.same _,hr.ands.2.2⟩
theorem jQsl (A:List Word)(pA:List UInt8)(hs:splitP 60 pA=some A){wc:List Word}{d:List StepS}{C:List UInt8}(hC:Splits C wc)(hr:Read A wc d)(sql:ByteArray)(hq:sql.data.toList=pA++(40 :: (C++(41 :: por))))(h:(parse sql).1=0) :
  Same (stTab A) (parse sql).2∧(parse sql).2.wher=d++[selfStep ⟨#[60,62]⟩]++[opStep bOr]:=by
 obtain⟨_,ws,h1,h2,h3,h4⟩:=jQcS sql h
 have h5:=(jQaa sql ws).1 h1
 rw[hq] at h5
 obtain⟨w1,rfl,h6⟩:=(jQaZ _ 60 pA A hs ws).1 h5
 obtain⟨w3,rfl,h8⟩:=(jQap 40 (Or.inl rfl) _ w1).1 h6
 have h9:Splits (C++(41 :: por)) (wc++(wClose :: wor)):=hC.app (Or.inr ⟨por,rfl⟩) ((jQap 41 (Or.inr rfl) por _).2 ⟨wor,rfl,jQqi⟩)
 have e1:w3=wc++(wClose :: wor):=by
  have i1:=(jQaa ⟨(C++(41 :: por)).toArray⟩ w3).2 (by simpa using h8)
  have i2:=(jQaa ⟨(C++(41 :: por)).toArray⟩ (wc++(wClose :: wor))).2 (by simpa using h9)
  rw[i1] at i2
  simpa using i2
 subst e1
 rw[h4]
 exact⟨hr.opens.same _,hr.ors.2.2⟩
theorem jQhe (cols:List Col)(row:List Val)(op:ByteArray)(hc:isComparison op=true):Tells cols row [selfStep op] (holds op 0):=by
 intro l
 show stepB cols row l (selfStep op)=_
 unfold stepB
 rw[show(selfStep op).op=op from rfl,if_pos hc]
 unfold compared
 show l++[holds op (compare (valueOf cols row ⟨bId,val0⟩) (valueOf cols row ⟨bId,val0⟩))]=_
 rw[jQbF]
theorem jQlj (db:List Tab)(sa sb sc:ByteArray)(C:List UInt8)(ha:sa.data.toList=p_star++C)(hb:sb.data.toList=p_star++(40 :: (C++(41 :: por))))(hc:sc.data.toList=p_star++(pid++40 :: (C++[41])))
  (ka:(Sq.decide db sa).reply.data.toList.head?≠some 33) :
  ((Sq.decide db sb).reply.data.toList.head?=some 33∨(Sq.decide db sa).reply=(Sq.decide db sb).reply)∧((Sq.decide db sc).reply.data.toList.head?=some 33∨(Sq.decide db sa).reply=(Sq.decide db sc).reply):=by
 have na:¬isRef (Sq.decide db sa).reply:=fun r=>ka r.bang
 obtain⟨a0,a5⟩:=(jQae db sa).resolve_left na
 obtain⟨wc,d,r1,r2,r3,r4⟩:=jQjv w_star p_star opens_star jQcQ C sa ha a0
 obtain⟨ta,ta1,ta2⟩:=a5 (r3.act.trans opens_star.act)
 rw[r3.table,opens_star.table] at ta1
 have hf:∀row,∃v,Tells ta.cols row d v:=fun row=>r2.tells ta.cols row
 obtain⟨f,hf⟩:=Classical.axiomOfChoice hf
 have e1:meeting ta d=ta.rows.filter f:=jQbn ta d f hf
 rw[ta2,jQab ta r3,r4,e1]
 constructor
 ·rcases jQae db sb with h | ⟨b0,b5⟩
  ·left;exact h.bang
  ·right
   obtain⟨n1,n2⟩:=jQsl w_star p_star jQcQ r1 r2 sb hb b0
   obtain⟨tb,tb1,tb2⟩:=b5 (n1.act.trans opens_star.act)
   rw[n1.table,opens_star.table,ta1] at tb1
   cases tb1
   have e2:meeting ta (d++[selfStep ⟨#[60,62]⟩]++[opStep bOr])=ta.rows.filter f:=jQbn ta _ _ (fun row l=>by
    rw[List.foldl_append,List.foldl_append,hf row,jQhe ta.cols row ⟨#[60,62]⟩ (by decide)]
    show stepB ta.cols row (l++[f row]++[holds ⟨#[60,62]⟩ 0]) (opStep bOr)=_
    rw[jQlR,show holds ⟨#[60,62]⟩ 0=false from by decide +kernel,Bool.or_false])
   rw[tb2,jQab ta n1,n2,e2]
 ·rcases jQae db sc with h | ⟨b0,b5⟩
  ·left;exact h.bang
  ·right
   obtain⟨n1,n2⟩:=jQsi w_star p_star jQcQ r1 r2 sc hc b0
   obtain⟨tb,tb1,tb2⟩:=b5 (n1.act.trans opens_star.act)
   rw[n1.table,opens_star.table,ta1] at tb1
   cases tb1
   have e2:meeting ta ([selfStep bEq]++d++[opStep bAnd])=ta.rows.filter f:=jQbn ta _ _ (fun row l=>by
    rw[List.foldl_append,List.foldl_append,jQhe ta.cols row bEq (by decide),hf row]
    show stepB ta.cols row (l++[holds bEq 0]++[f row]) (opStep bAnd)=_
    rw[jQjm,show holds bEq 0=true from by decide +kernel,Bool.true_and])
   rw[tb2,jQab ta n1,n2,e2]
end Sq
end Go.Proofs.YtahpihjialbanaaGreatDoor
