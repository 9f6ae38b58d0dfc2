import Derived.Test.YtahpihjialbanaaGreatDoorQbr
import Derived.Test.YtahpihjialbanaaGreatDoorQbs
import Derived.Test.YtahpihjialbanaaGreatDoorQbu
set_option linter.unusedVariables false
set_option linter.unusedSimpArgs false
set_option maxRecDepth 100000
namespace Go.Proofs.YtahpihjialbanaaGreatDoor
section
open Go.ChangeShapes Go.WideShapes Go.ChangeMaps Go.RowKit
theorem jQhp (hk:∀(v0:Value) (l0:List ByteArray) (s1:ByteArray) (w:World),Strs w v0 l0→s1.size≤1000000000000000→Tb2 w→Calls Tryz.prog 4 #[v0,.string s1] w fun e w'=>e=.returned (.bool true)∧Below w.heap.size w w')
  (os:Os) (started:os.Started) (H:Type) (enc:TypeId×Value→H) :
  ReturnsInHanded {} Tryz.checked os 4 .any (fun w args=>(Rows.partedSpec.pre enc Tryz.prog Tryz.f4 [] false w args∧laidMetH Tryz.prog laid4 w)∧sizedMet enc Tryz.prog Tryz.f4 (OpenSpec.ofChange Rows.partedSpec) false w args)
   (Rows.partedSpec.post enc Tryz.prog Tryz.f4 false true false false):=by
 refine returnsInHanded_of_change_and (C:=Tryz.checked) (X:=fun w _=>laidMetH Tryz.prog laid4 w) (fun _ _ _ hh h=>h.of_heap hh) Tryz.own started (by kernel_rfl) Tryz.func4
  (ChangeSpec.witness_shaped (enc:=enc) (C:=Tryz.checked) (os:=os) (X:=fun w _=>laidMetH Tryz.prog laid4 w) false (World.doorLaid Tryz.prog 400 os) #[.slice none 0 0,.string ⟨#[]⟩] 8 rfl (World.shaped_of_RefB (by kernel_rfl) (by kernel_rfl)) (by kernel_rfl) (by kernel_rfl) (by kernel_rfl) (jQeU os _)) ?_
 intro W base args ds gs before hval0 hW _ hsz0 hL _
 have hsz:(DataW.weightsEach Tryz.prog (Tryz.f4.params.toList++Rows.partedSpec.plain.varTypes Tryz.prog) (ds++gs)).all (·≤reachBytes)=true:=hsz0
 have hval:∀(j:Nat) t v,Tryz.f4.params[j]?=some t→args[j]?=some v→Value.okWide Tryz.prog W .any base t v:=hval0
 have hW':=hW
 obtain⟨p,q,hA0,hV,rfl,hfz,hnd⟩:=hW
 have hA:DataW.TrodAll enc Tryz.prog W 0 (fun _=>true) true Tryz.f4.params.toList args.toList ds p:=hA0
 rw[Tryz.params4] at hA hval hsz
 obtain⟨v0,v1,d0,d1,p0,p1,rfl,rfl,rfl,h0,h1⟩:=trodAll_two hA
 obtain⟨rfl,rfl⟩:=trodVars_none hV
 obtain⟨a0,len0,cap0,rfl⟩:=okWide_slice Tryz.underlying35 (hval 0 35 v0 rfl rfl)
 have h0k:=h0
 obtain⟨fuel0,hf0⟩:=h0
 obtain⟨s1,rfl,rfl,rfl,ws1⟩:=open_string Tryz.underlying9 (hval 1 9 v1 rfl rfl) h1
 clear hA0 hval0
 simp only[List.append_nil] at hW' hsz
 have hlt:∀x∈p0,x.block < W.heap.size:=fun x hx=>hW'.lt x (by simp[hx])
 obtain⟨l0,hl0⟩:=jQdT hf0 hsz (j:=0) rfl rfl
 have hs1:s1.size≤1000000000000000:=by have h9:=sized_string hsz (j:=1) rfl rfl;have h8:reachBytes≤1000000000000000:=(by decide);have h7:s1.data.toList.length=s1.size:=(by simp);omega
 refine(hk _ l0 s1 W hl0 hs1 ⟨jQbh hL,jQbj hL⟩).mono ?_
 rintro e W' ⟨rfl,bel⟩
 refine⟨_,rfl,_,_,_,[],p0++[],[],hW',?_,?_,?_,bel.frame _,fun h=>by cases h⟩
 ·exact trodAll_mk1 (shut_bool Tryz.underlying4 true)
 ·exact trodAll_mk2 (Below.trod Tryz.laidOut (by kernel_rfl) (of_decide_eq_true (by kernel_rfl)) h0k bel (fun x hx=>hlt x (by simpa using hx))) (shut_string Tryz.underlying9 ws1)
 ·rfl
end
section
namespace Sq
theorem jQaV (ws:List Word)(st:PSt)(m:ByteArray)(h:st.bad=true):acceptB ws st m=false:=by
 unfold acceptB;rw[jQcV ws st h];rfl
theorem jQlk (ws:List Word)(st:PSt)(m:ByteArray)(h:st.bad=true):acceptS ws st m=st:=by
 unfold acceptS;rw[jQaV ws st m h];rfl
theorem jQgd (ws:List Word)(st:PSt)(h:st.bad=true):(takeS ws st).bad=true:=by
 unfold takeS;rw[jQcV ws st h];rfl
theorem jQqP (ws:List Word)(st:PSt)(h:st.bad=true):(litS ws st).bad=true:=by
 unfold litS
 rw[jQlk ws st bMinus h]
 have:=jQgd ws st h
 split
 ·exact this
 ·split
  ·exact this
  ·rfl
theorem jQdQ (ws:List Word)(st:PSt)(h:st.bad=true):(termS ws st).bad=true:=by
 unfold termS
 rw[jQcV ws st h,if_neg (by decide)]
 exact jQqP ws st h
theorem jQk9 (ws:List Word)(st:PSt)(h:st.bad=true):(compMid ws st).bad=true:=by
 unfold compMid
 split
 ·exact jQgd ws _ (jQdQ ws st h)
 ·rfl
theorem jQps (ws:List Word)(st:PSt)(h:st.bad=true):(compS ws st).bad=true:=jQdQ ws _ (jQk9 ws st h)
theorem jQi5 (ws:List Word)(st:PSt)(m:ByteArray)(h:st.bad=true):(wantS ws st m).bad=true:=by
 unfold wantS;rw[jQaV ws st m h];rfl
theorem jQb3 (ws:List Word):∀f t st,st.bad=true→(cond ws f t st).bad=true:=by
 intro f
 induction f with
 | zero=>intro t st h;exact h
 | succ f ih =>
  intro t st h
  match t with
  | 0=>rw[cond];exact ih 3 _ (ih 1 st h)
  | 1=>rw[cond];exact ih 4 _ (ih 2 st h)
  | 2=>rw[cond,jQaV ws st _ h,jQaV ws st _ h];exact jQps ws st h
  | 3=>rw[cond,jQaV ws st _ h];exact h
  | t+4=>rw[cond,jQaV ws st _ h];exact h
theorem ok_of {a b:Bool}(h:a=true→b=true)(k:b=false):a=false:=by
 cases a with
 | false=>rfl
 | true=>rw[h rfl] at k;cases k
def need (t n:Nat):Nat:=8 * n+(if t=0 then 3 else if t=1 then 2 else 1)
theorem jQay (ws:List Word)(st:PSt)(m:ByteArray)(h:acceptB ws st m=true):st.pos < ws.length:=by
 refine jQbD ws st ?_
 unfold acceptB at h
 simp only[Bool.and_eq_true,beq_iff_eq] at h
 rw[h.1];decide
theorem jQb2 (ws:List Word)(f t:Nat)(st:PSt):st.pos≤(cond ws f t st).pos:=(jQcD ws f t st).1
theorem jQpq (ws:List Word):∀f t st,need t (ws.length - st.pos)≤f→cond ws (f+1) t st=cond ws f t st:=by
 intro f
 induction f with
 | zero=>intro t st h;unfold need at h;split at h <;> (try split at h) <;> omega
 | succ f ih =>
  intro t st h
  match t with
  | 0 =>
   have h1:=jQb2 ws f 1 st
   rw[cond,ih 1 st (by simp[need] at h ⊢;omega),ih 3 _ (by simp[need] at h ⊢;omega)]
   conv=>rhs;rw[cond]
  | 1 =>
   have h1:=jQb2 ws f 2 st
   rw[cond,ih 2 st (by simp[need] at h ⊢;omega),ih 4 _ (by simp[need] at h ⊢;omega)]
   conv=>rhs;rw[cond]
  | 2 =>
   rw[cond]
   conv=>rhs;rw[cond]
   have e:(step1 st).pos=st.pos+1:=rfl
   by_cases ha:acceptB ws st bNot=true
   ·have hp:=jQay ws st _ ha
    rw[if_pos ha,if_pos ha,ih 2 (step1 st) (by simp[need] at h ⊢;omega)]
   ·rw[if_neg ha,if_neg ha]
    by_cases hb:acceptB ws st bOpen=true
    ·have hp:=jQay ws st _ hb
     rw[if_pos hb,if_pos hb,ih 0 (step1 st) (by simp[need] at h ⊢;omega)]
    ·rw[if_neg hb,if_neg hb]
  | 3 =>
   rw[cond]
   conv=>rhs;rw[cond]
   have e:(step1 st).pos=st.pos+1:=rfl
   by_cases ha:acceptB ws st bOr=true
   ·have hp:=jQay ws st _ ha
    have h1:=jQb2 ws f 1 (step1 st)
    rw[if_pos ha,if_pos ha,ih 1 (step1 st) (by simp[need] at h ⊢;omega),ih 3 _ (by
     have e2:(addStep (cond ws f 1 (step1 st)) (opStep bOr)).pos=(cond ws f 1 (step1 st)).pos:=rfl
     rw[e2];simp[need] at h ⊢;omega)]
   ·rw[if_neg ha,if_neg ha]
  | t+4 =>
   rw[cond]
   conv=>rhs;rw[cond]
   have e:(step1 st).pos=st.pos+1:=rfl
   by_cases ha:acceptB ws st bAnd=true
   ·have hp:=jQay ws st _ ha
    have h1:=jQb2 ws f 2 (step1 st)
    rw[if_pos ha,if_pos ha,ih 2 (step1 st) (by simp[need] at h ⊢;omega),ih 4 _ (by
     have e2:(addStep (cond ws f 2 (step1 st)) (opStep bAnd)).pos=(cond ws f 2 (step1 st)).pos:=rfl
     rw[e2];simp[need] at h ⊢;omega)]
   ·rw[if_neg ha,if_neg ha]
theorem jQgD (ws:List Word)(f t:Nat)(st:PSt)(h:need t (ws.length - st.pos)≤f):∀k,cond ws (f+k) t st=cond ws f t st
 | 0=>rfl
 | k+1=>by rw[←Nat.add_assoc,jQpq ws (f+k) t st (by omega),jQgD ws f t st h k]
theorem jQnA (ws:List Word)(f g t:Nat)(st:PSt)(h:need t (ws.length - st.pos)≤f)(k:need t (ws.length - st.pos)≤g):cond ws f t st=cond ws g t st:=by
 rcases Nat.le_total f g with hfg | hfg
 ·obtain⟨d,rfl⟩:=Nat.exists_eq_add_of_le hfg
  exact(jQgD ws f t st h d).symm
 ·obtain⟨d,rfl⟩:=Nat.exists_eq_add_of_le hfg
  exact jQgD ws g t st k d
def Tail (T:List Word):Prop:=T=[]∨∃r,T=wClose :: r
structure Sim (A A' wc:List Word)(e:List StepS)(st st':PSt):Prop where
 ok:st.bad=false
 ok':st'.bad=false
 pos:A.length≤st.pos
 lim:st.pos≤A.length+wc.length
 pos':st'.pos+A.length=st.pos+A'.length
 wher:st'.wher=e++st.wher
section
variable {A A' wc T:List Word} {e:List StepS} {st st':PSt}
theorem Sim.inside (h:Sim A A' wc e st st')(hk:st.pos < A.length+wc.length):nextW (A++wc) st=nextW (A'++(wc++T)) st':=by
 have h1:=h.pos
 have h2:=h.pos'
 unfold nextW
 rw[h.ok,h.ok']
 simp only[Bool.false_eq_true,if_false]
 rw[List.getElem?_append_right h1,List.getElem?_append_right (by omega),List.getElem?_append_left (by omega),show st'.pos - A'.length=st.pos - A.length from by omega]
theorem Sim.here (h:Sim A A' wc e st st')(hk:(nextW (A++wc) st).kind≠0):st.pos < A.length+wc.length:=by
 have:=jQbD (A++wc) st hk
 simpa using this
theorem Sim.atEnd (h:Sim A A' wc e st st')(hT:Tail T)(hk:¬st.pos < A.length+wc.length):nextW (A++wc) st=word0∧(nextW (A'++(wc++T)) st'=word0∨nextW (A'++(wc++T)) st'=wClose):=by
 have h1:=h.pos
 have h2:=h.pos'
 have h3:=h.lim
 refine⟨jQdW _ _ (by simp;omega),?_⟩
 unfold nextW
 rw[h.ok']
 simp only[Bool.false_eq_true,if_false]
 rw[List.getElem?_append_right (by omega),List.getElem?_append_right (by omega),show st'.pos - A'.length - wc.length=0 from by omega]
 rcases hT with rfl | ⟨r,rfl⟩
 ·left;rfl
 ·right;rfl
theorem Sim.step (h:Sim A A' wc e st st')(hk:st.pos < A.length+wc.length):Sim A A' wc e (step1 st) (step1 st') :=
 ⟨h.ok,h.ok',Nat.le_succ_of_le h.pos,hk,by have:=h.pos';show st'.pos+1+_=st.pos+1+_;omega,h.wher⟩
theorem Sim.accept (h:Sim A A' wc e st st')(hT:Tail T)(m:ByteArray)(hm:(bClose.toList==m.toList)=false):acceptB (A'++(wc++T)) st' m=acceptB (A++wc) st m:=by
 by_cases hk:st.pos < A.length+wc.length
 ·unfold acceptB;rw[←h.inside hk]
 ·obtain⟨h1,h2⟩:=h.atEnd hT hk
  unfold acceptB
  rw[h1]
  rcases h2 with h2 | h2
  ·rw[h2]
  ·rw[h2]
   show((1:Int)==1 && bClose.toList==m.toList)=((0:Int)==1 && _)
   rw[hm];rfl
theorem Sim.acceptIn (h:Sim A A' wc e st st')(m:ByteArray)(hm:acceptB (A++wc) st m=true):st.pos < A.length+wc.length:=by
 have:=jQay _ st m hm
 simpa using this
theorem Sim.acceptS (h:Sim A A' wc e st st')(hT:Tail T)(m:ByteArray)(hm:(bClose.toList==m.toList)=false):Sim A A' wc e (acceptS (A++wc) st m) (acceptS (A'++(wc++T)) st' m):=by
 unfold Sq.acceptS
 rw[h.accept hT m hm]
 split
 ·rename_i ha;exact h.step (h.acceptIn m ha)
 ·exact h
theorem Sim.takeS (h:Sim A A' wc e st st')(hk:(nextW (A++wc) st).kind≠0):Sim A A' wc e (takeS (A++wc) st) (takeS (A'++(wc++T)) st'):=by
 have hp:=h.here hk
 unfold Sq.takeS
 rw[←h.inside hp,if_neg (by simpa using hk),if_neg (by simpa using hk)]
 exact h.step hp
theorem Sim.want (h:Sim A A' wc e st st')(m:ByteArray)(hb:(wantS (A++wc) st m).bad=false):Sim A A' wc e (wantS (A++wc) st m) (wantS (A'++(wc++T)) st' m):=by
 unfold wantS at hb ⊢
 split at hb
 ·rename_i ha
  have hp:=h.acceptIn m ha
  have ha':acceptB (A'++(wc++T)) st' m=true:=by unfold acceptB at ha ⊢;rw[←h.inside hp];exact ha
  rw[if_pos ha,if_pos ha']
  exact h.step hp
 ·simp[fail] at hb
theorem Sim.lit (h:Sim A A' wc e st st')(hT:Tail T)(hb:(litS (A++wc) st).bad=false):Sim A A' wc e (litS (A++wc) st) (litS (A'++(wc++T)) st')∧litR (A'++(wc++T)) st'=litR (A++wc) st:=by
 have hs:=h.acceptS hT bMinus (by decide +kernel)
 have ha:=h.accept hT bMinus (by decide +kernel)
 unfold litS litR at *
 by_cases h3:((nextW (A++wc) (Sq.acceptS (A++wc) st bMinus)).kind==3)=true
 ·have hk:(nextW (A++wc) (Sq.acceptS (A++wc) st bMinus)).kind≠0:=by simp at h3;rw[h3];decide
  have hn:=hs.inside (T:=T) (hs.here hk)
  simp only[←hn,if_pos h3,ha]
  exact⟨hs.takeS hk,trivial⟩
 ·rw[if_neg h3] at hb
  by_cases h4:((nextW (A++wc) (Sq.acceptS (A++wc) st bMinus)).kind==4 && !acceptB (A++wc) st bMinus)=true
  ·have hk:(nextW (A++wc) (Sq.acceptS (A++wc) st bMinus)).kind≠0:=by simp at h4;rw[h4.1];decide
   have hn:=hs.inside (T:=T) (hs.here hk)
   simp only[←hn,ha,if_neg h3,if_pos h4]
   exact⟨hs.takeS hk,trivial⟩
  ·rw[if_neg h4] at hb;simp[fail] at hb
theorem Sim.term (h:Sim A A' wc e st st')(hT:Tail T)(hb:(termS (A++wc) st).bad=false):Sim A A' wc e (termS (A++wc) st) (termS (A'++(wc++T)) st')∧termR (A'++(wc++T)) st'=termR (A++wc) st:=by
 unfold termS termR at *
 by_cases h2:((nextW (A++wc) st).kind==2)=true
 ·have hk:(nextW (A++wc) st).kind≠0:=by simp at h2;rw[h2];decide
  have hp:=h.here hk
  rw[←h.inside (T:=T) hp,if_pos h2,if_pos h2,if_pos h2,if_pos h2]
  exact⟨h.step hp,rfl⟩
 ·have h2':¬((nextW (A'++(wc++T)) st').kind==2)=true:=by
   by_cases hp:st.pos < A.length+wc.length
   ·rw[←h.inside hp];exact h2
   ·rcases(h.atEnd hT hp).2 with e | e <;> rw[e] <;> decide
  rw[if_neg h2] at hb
  rw[if_neg h2,if_neg h2,if_neg h2',if_neg h2']
  obtain⟨h5,h6⟩:=h.lit hT hb
  exact⟨h5,by rw[h6]⟩
theorem Sim.add (h:Sim A A' wc e st st')(s:StepS):Sim A A' wc e (addStep st s) (addStep st' s) :=
 ⟨h.ok,h.ok',h.pos,h.lim,h.pos',by show st'.wher++[s]=e++(st.wher++[s]);rw[h.wher,List.append_assoc]⟩
theorem Sim.comp (h:Sim A A' wc e st st')(hT:Tail T)(hb:(compS (A++wc) st).bad=false):Sim A A' wc e (compS (A++wc) st) (compS (A'++(wc++T)) st'):=by
 have hb2:(termS (A++wc) (compMid (A++wc) st)).bad=false:=hb
 have hb1:(compMid (A++wc) st).bad=false:=ok_of (jQdQ _ _) hb2
 have hm:isComparison (markR (A++wc) (termS (A++wc) st))=true:=by
  unfold compMid at hb1
  split at hb1
  ·assumption
  ·simp[fail] at hb1
 have hb0:(termS (A++wc) st).bad=false:=by
  unfold compMid at hb1;rw[if_pos hm] at hb1;exact ok_of (jQgd _ _) hb1
 obtain⟨h1,r1⟩:=h.term hT hb0
 have hk1:((nextW (A++wc) (termS (A++wc) st)).kind==1)=true:=by
  cases hh:((nextW (A++wc) (termS (A++wc) st)).kind==1) with
  | true=>rfl
  | false=>unfold markR at hm;rw[hh] at hm;exact absurd (show isComparison nobytes=true from hm) (by decide)
 have hk:(nextW (A++wc) (termS (A++wc) st)).kind≠0:=by simp at hk1;rw[hk1];decide
 have hmr:markR (A'++(wc++T)) (termS (A'++(wc++T)) st')=markR (A++wc) (termS (A++wc) st):=by
  unfold markR;rw[←h1.inside (T:=T) (h1.here hk)]
 have h2:Sim A A' wc e (compMid (A++wc) st) (compMid (A'++(wc++T)) st'):=by
  unfold compMid;rw[hmr,if_pos hm,if_pos hm];exact h1.takeS hk
 obtain⟨h3,r3⟩:=h2.term hT hb2
 unfold compS
 rw[hmr,r1,r3]
 exact h3.add _
end
theorem jQrb {A A' wc T:List Word}{e:List StepS}(hT:Tail T):∀f t st st',Sim A A' wc e st st'→(cond (A++wc) f t st).bad=false→Sim A A' wc e (cond (A++wc) f t st) (cond (A'++(wc++T)) f t st'):=by
 intro f
 induction f with
 | zero=>intro t st st' h _;exact h
 | succ f ih =>
  intro t st st' h hb
  match t with
  | 0 =>
   rw[cond] at hb
   rw[cond,cond]
   exact ih 3 _ _ (ih 1 _ _ h (ok_of (jQb3 _ f 3 _) hb)) hb
  | 1 =>
   rw[cond] at hb
   rw[cond,cond]
   exact ih 4 _ _ (ih 2 _ _ h (ok_of (jQb3 _ f 4 _) hb)) hb
  | 2 =>
   rw[cond] at hb
   rw[cond,cond,h.accept hT bNot (by decide +kernel),h.accept hT bOpen (by decide +kernel)]
   by_cases ha:acceptB (A++wc) st bNot=true
   ·rw[if_pos ha] at hb
    rw[if_pos ha,if_pos ha]
    exact(ih 2 _ _ (h.step (h.acceptIn _ ha)) hb).add _
   ·rw[if_neg ha] at hb
    rw[if_neg ha,if_neg ha]
    by_cases ho:acceptB (A++wc) st bOpen=true
    ·rw[if_pos ho] at hb
     rw[if_pos ho,if_pos ho]
     exact(ih 0 _ _ (h.step (h.acceptIn _ ho)) (ok_of (jQi5 _ _ _) hb)).want _ hb
    ·rw[if_neg ho] at hb
     rw[if_neg ho,if_neg ho]
     exact h.comp hT hb
  | 3 =>
   rw[cond] at hb
   rw[cond,cond,h.accept hT bOr (by decide +kernel)]
   by_cases ha:acceptB (A++wc) st bOr=true
   ·rw[if_pos ha] at hb
    rw[if_pos ha,if_pos ha]
    have hb1:(addStep (cond (A++wc) f 1 (step1 st)) (opStep bOr)).bad=false:=ok_of (jQb3 _ f 3 _) hb
    exact ih 3 _ _ ((ih 1 _ _ (h.step (h.acceptIn _ ha)) hb1).add _) hb
   ·rw[if_neg ha,if_neg ha];exact h
  | t+4 =>
   rw[cond] at hb
   rw[cond,cond,h.accept hT bAnd (by decide +kernel)]
   by_cases ha:acceptB (A++wc) st bAnd=true
   ·rw[if_pos ha] at hb
    rw[if_pos ha,if_pos ha]
    have hb1:(addStep (cond (A++wc) f 2 (step1 st)) (opStep bAnd)).bad=false:=ok_of (jQb3 _ f 4 _) hb
    exact ih 4 _ _ ((ih 2 _ _ (h.step (h.acceptIn _ ha)) hb1).add _) hb
   ·rw[if_neg ha,if_neg ha];exact h
theorem jQjl (cols:List Col)(row:List Val)(l:List Bool)(v:Bool):stepB cols row (l++[v]) (opStep bNot)=l++[!v]:=by
 unfold stepB
 rw[if_neg (by decide)]
 unfold joinB
 rw[if_pos (by decide +kernel),jQcd,List.dropLast_concat]
theorem jQjm (cols:List Col)(row:List Val)(l:List Bool)(x y:Bool):stepB cols row (l++[x]++[y]) (opStep bAnd)=l++[x && y]:=by
 unfold stepB
 rw[if_neg (by decide)]
 unfold joinB
 rw[if_neg (by decide +kernel),if_pos (by decide +kernel),jQcd,List.dropLast_concat,jQcd,List.dropLast_concat]
theorem jQlR (cols:List Col)(row:List Val)(l:List Bool)(x y:Bool):stepB cols row (l++[x]++[y]) (opStep bOr)=l++[x || y]:=by
 unfold stepB
 rw[if_neg (by decide)]
 unfold joinB
 rw[if_neg (by decide +kernel),if_neg (by decide +kernel),jQcd,List.dropLast_concat,jQcd,List.dropLast_concat]
def Turns (cols:List Col)(row:List Val)(d:List StepS)(x v:Bool):Prop:=∀l,d.foldl (stepB cols row) (l++[x])=l++[v]
theorem jQk7 (ws:List Word)(st:PSt)(hb:(compS ws st).bad=false):∃s,(compS ws st).wher=st.wher++[s]∧∀cols row,Tells cols row [s] (compared cols row s):=by
 have hb1:(compMid ws st).bad=false:=ok_of (jQdQ _ _) hb
 have hm:isComparison (markR ws (termS ws st))=true:=by
  unfold compMid at hb1
  split at hb1
  ·assumption
  ·simp[fail] at hb1
 refine⟨⟨markR ws (termS ws st),termR ws st,termR ws (compMid ws st)⟩,?_,?_⟩
 ·show(termS ws (compMid ws st)).wher++[_]=_
  rw[jQ6,jQcE]
 ·intro cols row l
  show stepB cols row l _=_
  unfold stepB
  rw[if_pos hm]
theorem jQnz (ws:List Word):∀f t st,need t (ws.length - st.pos)≤f→(cond ws f t st).bad=false→∃d,(cond ws f t st).wher=st.wher++d ∧
  (t≤2→∀cols row,∃v,Tells cols row d v)∧(3≤t→∀cols row x,∃v,Turns cols row d x v):=by
 intro f
 induction f with
 | zero=>intro t st h;exfalso;unfold need at h;split at h <;> (try split at h) <;> omega
 | succ f ih =>
  intro t st h hb
  match t with
  | 0 =>
   rw[cond] at hb ⊢
   have h1:=jQb2 ws f 1 st
   obtain⟨d1,e1,t1,_⟩:=ih 1 st (by simp[need] at h ⊢;omega) (ok_of (jQb3 _ f 3 _) hb)
   obtain⟨d3,e3,_,t3⟩:=ih 3 _ (by simp[need] at h ⊢;omega) hb
   refine⟨d1++d3,by rw[e3,e1,List.append_assoc],fun _ cols row=>?_,fun h=>by omega⟩
   obtain⟨x,hx⟩:=t1 (by omega) cols row
   obtain⟨v,hv⟩:=t3 (by omega) cols row x
   exact⟨v,fun l=>by rw[List.foldl_append,hx,hv]⟩
  | 1 =>
   rw[cond] at hb ⊢
   have h1:=jQb2 ws f 2 st
   obtain⟨d1,e1,t1,_⟩:=ih 2 st (by simp[need] at h ⊢;omega) (ok_of (jQb3 _ f 4 _) hb)
   obtain⟨d3,e3,_,t3⟩:=ih 4 _ (by simp[need] at h ⊢;omega) hb
   refine⟨d1++d3,by rw[e3,e1,List.append_assoc],fun _ cols row=>?_,fun h=>by omega⟩
   obtain⟨x,hx⟩:=t1 (by omega) cols row
   obtain⟨v,hv⟩:=t3 (by omega) cols row x
   exact⟨v,fun l=>by rw[List.foldl_append,hx,hv]⟩
  | 2 =>
   rw[cond] at hb ⊢
   have e:(step1 st).pos=st.pos+1:=rfl
   by_cases ha:acceptB ws st bNot=true
   ·have hp:=jQay ws st _ ha
    rw[if_pos ha] at hb ⊢
    obtain⟨d1,e1,t1,_⟩:=ih 2 (step1 st) (by simp[need] at h ⊢;omega) hb
    refine⟨d1++[opStep bNot],?_,fun _ cols row=>?_,fun h=>by omega⟩
    ·show(cond ws f 2 (step1 st)).wher++[_]=_
     rw[e1,List.append_assoc];rfl
    ·obtain⟨x,hx⟩:=t1 (by omega) cols row
     exact⟨!x,fun l=>by rw[List.foldl_append,hx];exact jQjl cols row l x⟩
   ·rw[if_neg ha] at hb ⊢
    by_cases ho:acceptB ws st bOpen=true
    ·have hp:=jQay ws st _ ho
     rw[if_pos ho] at hb ⊢
     obtain⟨d1,e1,t1,_⟩:=ih 0 (step1 st) (by simp[need] at h ⊢;omega) (ok_of (jQi5 _ _ _) hb)
     exact⟨d1,by rw[jQm,e1];rfl,fun _ cols row=>t1 (by omega) cols row,fun h=>by omega⟩
    ·rw[if_neg ho] at hb ⊢
     obtain⟨s,h1,h2⟩:=jQk7 ws st hb
     exact⟨[s],h1,fun _ cols row=>⟨_,h2 cols row⟩,fun h=>by omega⟩
  | 3 =>
   rw[cond] at hb ⊢
   have e:(step1 st).pos=st.pos+1:=rfl
   by_cases ha:acceptB ws st bOr=true
   ·have hp:=jQay ws st _ ha
    have h1:=jQb2 ws f 1 (step1 st)
    rw[if_pos ha] at hb ⊢
    have hb1:(addStep (cond ws f 1 (step1 st)) (opStep bOr)).bad=false:=ok_of (jQb3 _ f 3 _) hb
    obtain⟨d1,e1,t1,_⟩:=ih 1 (step1 st) (by simp[need] at h ⊢;omega) hb1
    obtain⟨d3,e3,_,t3⟩:=ih 3 (addStep (cond ws f 1 (step1 st)) (opStep bOr)) (by
     have e2:(addStep (cond ws f 1 (step1 st)) (opStep bOr)).pos=(cond ws f 1 (step1 st)).pos:=rfl
     rw[e2];simp[need] at h ⊢;omega) hb
    refine⟨d1++[opStep bOr]++d3,?_,fun h=>by omega,fun _ cols row x=>?_⟩
    ·rw[e3]
     show(cond ws f 1 (step1 st)).wher++[_]++d3=_
     rw[e1,List.append_assoc,List.append_assoc,List.append_assoc];rfl
    ·obtain⟨y,hy⟩:=t1 (by omega) cols row
     obtain⟨v,hv⟩:=t3 (by omega) cols row (x || y)
     refine⟨v,fun l=>?_⟩
     rw[List.foldl_append,List.foldl_append,hy]
     show List.foldl _ (stepB cols row (l++[x]++[y]) (opStep bOr)) d3=_
     rw[jQlR,hv]
   ·rw[if_neg ha]
    exact⟨[],by simp,fun h=>by omega,fun _ cols row x=>⟨x,fun l=>rfl⟩⟩
  | t+4 =>
   rw[cond] at hb ⊢
   have e:(step1 st).pos=st.pos+1:=rfl
   by_cases ha:acceptB ws st bAnd=true
   ·have hp:=jQay ws st _ ha
    have h1:=jQb2 ws f 2 (step1 st)
    rw[if_pos ha] at hb ⊢
    have hb1:(addStep (cond ws f 2 (step1 st)) (opStep bAnd)).bad=false:=ok_of (jQb3 _ f 4 _) hb
    obtain⟨d1,e1,t1,_⟩:=ih 2 (step1 st) (by simp[need] at h ⊢;omega) hb1
    obtain⟨d3,e3,_,t3⟩:=ih 4 (addStep (cond ws f 2 (step1 st)) (opStep bAnd)) (by
     have e2:(addStep (cond ws f 2 (step1 st)) (opStep bAnd)).pos=(cond ws f 2 (step1 st)).pos:=rfl
     rw[e2];simp[need] at h ⊢;omega) hb
    refine⟨d1++[opStep bAnd]++d3,?_,fun h=>by omega,fun _ cols row x=>?_⟩
    ·rw[e3]
     show(cond ws f 2 (step1 st)).wher++[_]++d3=_
     rw[e1,List.append_assoc,List.append_assoc,List.append_assoc];rfl
    ·obtain⟨y,hy⟩:=t1 (by omega) cols row
     obtain⟨v,hv⟩:=t3 (by omega) cols row (x && y)
     refine⟨v,fun l=>?_⟩
     rw[List.foldl_append,List.foldl_append,hy]
     show List.foldl _ (stepB cols row (l++[x]++[y]) (opStep bAnd)) d3=_
     rw[jQjm,hv]
   ·rw[if_neg ha]
    exact⟨[],by simp,fun h=>by omega,fun _ cols row x=>⟨x,fun l=>rfl⟩⟩
end Sq
end
namespace Sq
theorem Splits.app {l R:List UInt8}{ws wr:List Word}(h:Splits l ws)(hR:R=[]∨∃r,R=41 :: r)(k:Splits R wr):Splits (l++R) (ws++wr):=by
 refine h (fun l ws=>Splits (l++R) (ws++wr)) k (fun c r ws hg ih=>Splits.gap hg ih) ?_
 ·intro l ws hg h0 hle hk ih
  have ht:=jQpH l R h0 (Or.inr hR)
  have e1:(l++R).take (tokL (l++R))=l.take (tokL l):=by rw[ht,List.take_append_of_le_length hle]
  have e2:(l++R).drop (tokL (l++R))=l.drop (tokL l)++R:=by rw[ht,List.drop_append_of_le_length hle]
  have:=Splits.word (l:=l++R) (ws:=ws++wr) (by rw[jQcn l R 0 (jQpG h0)];exact hg) (by omega) (by rw[ht];simp;omega) (by rw[e1];exact hk) (by rw[e2];exact ih)
  rw[e1] at this
  exact this
end Sq
namespace Sq
def stSel (A:List Word):PSt:=setAct (takeS A st0) 5
def stTab (A:List Word):PSt:=tableS A (wantS A (chooseA A (stSel A)) bFrom)
structure Opens (A:List Word):Prop where
 c:∀X,chooseA (A++X) (stSel A)=chooseA A (stSel A)
 pos0:st0.pos < A.length
 m1:((markR A st0).toList==bCreate.toList)=false
 m2:((markR A st0).toList==bInsert.toList)=false
 m3:((markR A st0).toList==bUpdate.toList)=false
 m4:((markR A st0).toList==bDelete.toList)=false
 m5:((markR A st0).toList==bSelect.toList)=true
 pos1:(chooseA A (stSel A)).pos < A.length
 pos2:(wantS A (chooseA A (stSel A)) bFrom).pos < A.length
 pos3:(stTab A).pos < A.length
 w:acceptB A (stTab A) bWhere=true
 pos4:(stTab A).pos+1=A.length
 ok:(stTab A).bad=false
 act:(stTab A).act=5
 table:(stTab A).table=bT
 wher:(stTab A).wher.length=0
theorem Opens.said {A:List Word}(h:Opens A)(X:List Word):statementS (A++X) st0=cond (A++X) (8 * (A++X).length+7) 0 (step1 (stTab A)):=by
 unfold statementS
 rw[jQjL A X st0 h.pos0,jQgb A X st0 h.pos0,h.m1,h.m2,h.m3,h.m4,h.m5]
 simp only[Bool.false_eq_true,if_false,if_true]
 unfold chooseS
 show whereS (A++X) (tableS (A++X) (wantS (A++X) (chooseA (A++X) (stSel A)) bFrom))=_
 rw[h.c X,jQb7 A X _ _ h.pos1,jQg5 A X _ h.pos2]
 show whereS (A++X) (stTab A)=_
 unfold whereS
 rw[jQas A X _ _ h.pos3,h.w]
 rfl
theorem Opens.same {A:List Word}(h:Opens A)(X:List Word):Same (stTab A) (statementS (A++X) st0):=by
 rw[h.said X];exact(jQH _).trans (jQj9 _ _ _ _)
def w_star:List Word:=[⟨1,bSelect⟩,⟨1,bStar⟩,⟨1,bFrom⟩,⟨2,bT⟩,⟨1,bWhere⟩]
def p_star:List UInt8:=[115,101,108,101,99,116,32,42,32,102,114,111,109,32,116,32,119,104,101,114,101,32]
def wnot:List Word:=[⟨1,bNot⟩]
theorem jQcQ:splitP 60 p_star=some w_star:=jQct (by decide +kernel)
theorem opens_star:Opens w_star:=by
 refine⟨fun X=>?_,by decide +kernel,by decide +kernel,by decide +kernel,by decide +kernel,by decide +kernel,by decide +kernel,by decide +kernel,by decide +kernel,by decide +kernel,by decide +kernel,by decide +kernel,by decide +kernel,by decide +kernel,by decide +kernel,by decide +kernel⟩
 have hp:(stSel w_star).pos < w_star.length:=by decide +kernel
 have h1:acceptB w_star (stSel w_star) bStar=true:=by decide +kernel
 unfold chooseA
 rw[jQas _ X _ _ hp,h1]
 simp only[if_true]
theorem jQiJ (ws:List Word)(f:Nat)(st:PSt):cond ws (f+2) 0 st=cond ws (f+1) 3 (cond ws f 4 (cond ws f 2 st)):=by
 conv=>lhs;rw[cond,cond]
theorem jQaU (ws:List Word)(st:PSt)(m:ByteArray)(h:ws.length≤st.pos):acceptB ws st m=false:=by
 unfold acceptB;rw[jQdW ws st h];rfl
theorem jQgE (ws:List Word)(f:Nat)(st:PSt)(h:acceptB ws st bOr=false):cond ws (f+1) 3 st=st:=by
 rw[cond,h];rfl
theorem jQd1 (ws:List Word)(f:Nat)(st:PSt)(h:acceptB ws st bAnd=false):cond ws (f+1) 4 st=st:=by
 rw[cond,h];rfl
structure Read (A wc:List Word)(d:List StepS):Prop where
 opens:Opens A
 ok:(statementS (A++wc) st0).bad=false
 all:(statementS (A++wc) st0).pos=(A++wc).length
 wher:(statementS (A++wc) st0).wher=d
theorem Opens.at {A:List Word}(h:Opens A):(step1 (stTab A)).pos=A.length:=h.pos4
theorem Opens.nil {A:List Word}(h:Opens A):(step1 (stTab A)).wher=[]:=jQT h.wher
theorem Read.sim {A wc:List Word}{d:List StepS}(h:Read A wc d)(A' T:List Word)(hT:Tail T)(e:List StepS)(st':PSt)(hb:st'.bad=false)(hp:st'.pos=A'.length)(hw:st'.wher=e)(f:Nat)(hf:need 0 ((A'++(wc++T)).length - st'.pos)≤f) :
  (cond (A'++(wc++T)) f 0 st').bad=false∧(cond (A'++(wc++T)) f 0 st').pos=A'.length+wc.length∧(cond (A'++(wc++T)) f 0 st').wher=e++d:=by
 have h0:=h.opens.at
 have hs:Sim A A' wc e (step1 (stTab A)) st':=⟨h.opens.ok,hb,by omega,by omega,by omega,by rw[hw,h.opens.nil];simp⟩
 have hok:=h.ok
 have hall:=h.all
 have hwh:=h.wher
 rw[h.opens.said wc] at hok hall hwh
 obtain⟨g,hg⟩:∃g,g=f+(8 * (A++wc).length+7):=⟨_,rfl⟩
 have e1:cond (A++wc) (8 * (A++wc).length+7) 0 (step1 (stTab A))=cond (A++wc) g 0 (step1 (stTab A)):=jQnA _ _ _ _ _ (by simp[need];omega) (by rw[hg];simp[need];omega)
 have e2:cond (A'++(wc++T)) f 0 st'=cond (A'++(wc++T)) g 0 st':=jQnA _ _ _ _ _ hf (by omega)
 rw[e1] at hok hall hwh
 rw[e2]
 have:=jQrb (T:=T) hT g 0 _ _ hs hok
 refine⟨this.ok',?_,by rw[this.wher,hwh]⟩
 have h5:=this.pos'
 rw[hall] at h5
 simp at h5
 omega
theorem Read.tells {A wc:List Word}{d:List StepS}(h:Read A wc d)(cols:List Col)(row:List Val):∃v,Tells cols row d v:=by
 have hok:=h.ok
 have hwh:=h.wher
 rw[h.opens.said wc] at hok hwh
 obtain⟨d',e1,t1,_⟩:=jQnz (A++wc) _ 0 _ (by simp[need];omega) hok
 rw[hwh,h.opens.nil] at e1
 have e2:d=d':=by simpa using e1
 subst e2
 exact t1 (by omega) cols row
theorem Read.nots {A wc:List Word}{d:List StepS}(h:Read A wc d):(statementS (A++(wnot++wOpen :: (wc++[wClose]))) st0).bad=false ∧
  (statementS (A++(wnot++wOpen :: (wc++[wClose]))) st0).pos=(A++(wnot++wOpen :: (wc++[wClose]))).length∧(statementS (A++(wnot++wOpen :: (wc++[wClose]))) st0).wher=d++[opStep bNot]:=by
 rw[h.opens.said]
 obtain⟨g,hg⟩:∃g,8 * (A++(wnot++wOpen :: (wc++[wClose]))).length+7=g+4:=⟨8 * (A++(wnot++wOpen :: (wc++[wClose]))).length+3,by omega⟩
 rw[hg]
 obtain⟨s,hs⟩:∃s,s=step1 (stTab A):=⟨_,rfl⟩
 have hsb:s.bad=false:=by rw[hs];exact h.opens.ok
 have hsp:s.pos=A.length:=by rw[hs];exact h.opens.at
 have hsw:s.wher=[]:=by rw[hs];exact h.opens.nil
 rw[←hs]
 obtain⟨W,hW⟩:∃W,W=A++(wnot++wOpen :: (wc++[wClose])):=⟨_,rfl⟩
 have hlen:W.length=A.length+wc.length+3:=by rw[hW];simp[wnot];omega
 have hW1:W=A++⟨1,bNot⟩ :: (wOpen :: (wc++[wClose])):=hW
 have hW2:W=(A++[⟨1,bNot⟩])++wOpen :: (wc++[wClose]):=by rw[hW];simp[wnot]
 have hW3:W=(A++[⟨1,bNot⟩,wOpen])++(wc++[wClose]):=by rw[hW];simp[wnot]
 have hW4:W=(A++[⟨1,bNot⟩,wOpen]++wc)++wClose :: []:=by rw[hW];simp[wnot]
 rw[←hW] at hg ⊢
 have i:=h.sim (A++[⟨1,bNot⟩,wOpen]) [wClose] (Or.inr ⟨_,rfl⟩) [] (step1 (step1 s)) hsb (by simp[step1,hsp]) hsw g (by rw[←hW3,hlen];simp[step1,need,hsp];omega)
 rw[←hW3] at i
 obtain⟨i1,i2,i3⟩:=i
 have a1:acceptB W s bNot=true:=by rw[hW1,jQI A _ _ s _ hsb hsp];decide +kernel
 have a2:acceptB W (step1 s) bNot=false:=by rw[hW2,jQI _ _ _ (step1 s) _ hsb (by simp[step1,hsp])];decide +kernel
 have a3:acceptB W (step1 s) bOpen=true:=by rw[hW2,jQI _ _ _ (step1 s) _ hsb (by simp[step1,hsp])];decide +kernel
 have a4:acceptB W (cond W g 0 (step1 (step1 s))) bClose=true:=by
  have:=jQI (A++[⟨1,bNot⟩,wOpen]++wc) wClose [] (cond W g 0 (step1 (step1 s))) bClose i1 (by rw[i2];simp;omega)
  rw[←hW4] at this
  rw[this];decide +kernel
 have c2:cond W (g+2) 2 s=addStep (step1 (cond W g 0 (step1 (step1 s)))) (opStep bNot):=by
  rw[cond,a1,if_pos rfl,cond,a2,a3]
  simp only[Bool.false_eq_true,if_false,if_true]
  unfold wantS
  rw[a4]
  rfl
 have hpe:(addStep (step1 (cond W g 0 (step1 (step1 s)))) (opStep bNot)).pos=W.length:=by
  show(cond W g 0 (step1 (step1 s))).pos+1=_
  rw[i2,hlen];simp;omega
 rw[jQiJ W (g+2) s,c2,jQd1 W (g+1) _ (jQaU W _ _ (by omega)),jQgE W (g+2) _ (jQaU W _ _ (by omega))]
 refine⟨i1,hpe,?_⟩
 show(cond W g 0 (step1 (step1 s))).wher++[opStep bNot]=_
 rw[i3];rfl
end Sq
namespace Sq
theorem jQcS (sql:ByteArray)(h:(parse sql).1=0):sql.size≤160∧∃ws,split sql=some ws∧(statementS ws st0).bad=false∧(statementS ws st0).pos=ws.length∧parse sql=(0,statementS ws st0):=by
 unfold parse at h ⊢
 split at h
 ·simp at h
 ·rename_i hs
  refine⟨by omega,?_⟩
  cases hw:split sql with
  | none=>rw[hw] at h;simp at h
  | some ws =>
   rw[hw] at h
   simp only at h
   split at h
   ·simp at h
   ·rename_i hx
    simp at hx
    refine⟨ws,rfl,hx.1,hx.2,?_⟩
    rw[if_neg hs]
    simp only
    rw[hx.1,hx.2]
    simp
theorem jQae (db:List Tab)(sql:ByteArray):isRef (Sq.decide db sql).reply∨((parse sql).1=0∧((parse sql).2.act=5→∃t,db[(findTab db (parse sql).2.table).toNat]?=some t∧(Sq.decide db sql).reply=showRows t (parse sql).2 (meeting t (parse sql).2.wher))):=by
 unfold Sq.decide
 by_cases h0:(parse sql).1=0
 ·rw[h0,if_neg (by decide)]
  by_cases h5:(parse sql).2.act=5
  ·unfold decideSt
   rw[h5,if_neg (by decide)]
   cases hx:db[(findTab db (parse sql).2.table).toNat]? with
   | none=>left;exact jQai 4
   | some t =>
    simp only
    split
    ·left;exact jQai 4
    ·unfold decideTab
     split
     ·left;exact jQai _
     ·rw[h5,if_neg (by decide),if_neg (by decide),if_neg (by decide)]
      right
      exact⟨trivial,fun _=>⟨t,rfl,rfl⟩⟩
  ·right;exact⟨rfl,fun h=>absurd h h5⟩
 ·rw[if_pos (by simpa using h0)]
  left;exact jQai _
theorem jQab (t:Tab){a b:PSt}(h:Same a b)(rows:List (List Val)):showRows t b rows=showRows t a rows:=by
 unfold showRows;rw[h.shw,h.items]
theorem jQjv (A:List Word)(pA:List UInt8)(hA:Opens A)(hs:splitP 60 pA=some A)(C:List UInt8)(sql:ByteArray)(hq:sql.data.toList=pA++C)(h:(parse sql).1=0) :
  ∃wc d,Splits C wc∧Read A wc d∧Same (stTab A) (parse sql).2∧(parse sql).2.wher=d:=by
 obtain⟨_,ws,h1,h2,h3,h4⟩:=jQcS sql h
 have h5:=(jQaa sql ws).1 h1
 rw[hq] at h5
 obtain⟨wc,rfl,h6⟩:=(jQaZ C 60 pA A hs ws).1 h5
 refine⟨wc,_,h6,⟨hA,h2,h3,rfl⟩,?_,?_⟩
 ·rw[h4];exact hA.same wc
 ·rw[h4]
theorem jQbn (t:Tab)(d:List StepS)(f:List Val→Bool)(h:∀row,Tells t.cols row d (f row)):meeting t d=t.rows.filter f:=by
 unfold meeting
 congr 1
 funext row
 exact(h row).meets
end Sq
end Go.Proofs.YtahpihjialbanaaGreatDoor
