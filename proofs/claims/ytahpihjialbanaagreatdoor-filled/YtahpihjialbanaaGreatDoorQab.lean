import Derived.Deep.LoopGhost
import Derived.Deep.RegionLaw
import Derived.Test.YtahpihjialbanaaGreatDoorQaa
set_option linter.unusedVariables false
set_option linter.unusedSimpArgs false
set_option maxRecDepth 100000
set_option maxHeartbeats 1000000
namespace Go.Proofs.YtahpihjialbanaaGreatDoor
section
open Go.RowKit
def Tch (pb:Nat)(w w':World):Prop:=w.grownBy w' (some pb)
section
variable {pb:Nat} {w w1 w2:World}
theorem Tch.refl (pb:Nat)(w:World):Tch pb w w:=⟨rfl,rfl,rfl,Nat.le_refl _,fun _ _ _=>rfl⟩
theorem Tch.trans (h:Tch pb w w1)(k:Tch pb w1 w2):Tch pb w w2 :=
 ⟨k.os.trans h.os,k.tape.trans h.tape,k.output.trans h.output,Nat.le_trans h.size k.size,fun i hi hn=>(k.block i (Nat.lt_of_lt_of_le hi h.size) hn).trans (h.block i hi hn)⟩
theorem Tch.of (h:Below w.heap.size w w1):Tch pb w w1:=⟨h.os,h.tape,h.output,h.size,fun i hi _=>h.block i hi⟩
theorem Tch.below {B:Nat}(h:Tch pb w w1)(hB:B≤pb)(hw:B≤w.heap.size):Below B w w1:=⟨h.os,h.tape,h.output,h.size,fun i hi=>h.block i (by omega) (by simp;omega)⟩
theorem Tch.alloc (h:Tch pb w w1)(o:Obj):Tch pb w (w1.alloc o):=h.trans (Tch.of ((Below.refl _ _).alloc (Nat.le_refl _) _))
theorem Tch.store (h:Tch pb w w1){b o:Nat}(hb:b=pb∨w.heap.size≤b)(x:Value):Tch pb w (w1.setCell ⟨b,o,none⟩ x):=by
 refine⟨h.os,h.tape,h.output,by simpa[World.setCell] using h.size,fun i hi hn=>?_⟩
 rw[Below.heap_setCell _ _ _ _ (by show i≠b;rcases hb with rfl | hb;exact fun e=>hn (by rw[e]);omega)]
 exact h.block i hi hn
end
theorem jQf {w:World}{b o:Nat}{c:Array Value}{e:TypeId}{fr:Nat×Nat}(h:w.heap[b]?=some (.cells c e fr))(x:Value):(w.setCell ⟨b,o,none⟩ x).heap[b]?=some (.cells (c.setIfInBounds o x) e fr):=by
 simp only[World.setCell,Array.getElem?_modify,h]
 simp
theorem jQe {w:World}{b b' o:Nat}{x:Value}(h:b≠b'):(w.setCell ⟨b',o,none⟩ x).heap[b]?=w.heap[b]?:=Below.heap_setCell _ _ _ _ h
theorem PS.touch {pb:Nat}{lv:Value}{ws:List Sq.Word}{r:Rw}{w w':World}{st st':Sq.PSt}(h:PS pb lv ws r w st)(ht:Tch pb w w')
  (hb:w'.heap[pb]?=some (.cells #[lv,.int .i64 st'.pos,.bool st'.bad,.int .i64 st'.act,.string st'.table,r.cv,r.vv,r.sv,.int .i64 st'.shw,r.iv,r.wv] 160))
  (hin:st'.pos≤ws.length) (e1:st'.cols=st.cols) (e2:st'.vals=st.vals) (e3:st'.sets=st.sets) (e4:st'.items=st.items) (e5:st'.wher=st.wher):PS pb lv ws r w' st':=by
 have k:∀{v:Value} {base:Nat} {e:TypeId} {size n:Nat} {xs:List Value},e≠160→w.ownsRow base e size v n xs→w'.ownsRow base e size v n xs:=by
  intro v base e size n xs hne ho
  refine jQn ho fun g hg=>ht.block g (ho.lt g hg).2 ?_
  exact fun e=>jQl ho h.blk hne (by rw[hg,e])
 exact⟨hb,k (by decide) h.list,h.small,h.wf,hin,by rw[e1];exact k (by decide) h.cols,by rw[e2];exact k (by decide) h.vals,by rw[e3];exact k (by decide) h.sets,by rw[e4];exact k (by decide) h.items,by rw[e5];exact k (by decide) h.wher⟩
theorem PS.later {pb:Nat}{lv:Value}{ws:List Sq.Word}{r:Rw}{w w1:World}{st:Sq.PSt}(h:PS pb lv ws r w st)(hb:Below w.heap.size w w1) :
  w1.cell? ⟨pb,1,none⟩=some (.int .i64 st.pos)∧w1.frozen? ⟨pb,1,none⟩=false∧w1.cell? ⟨pb,2,none⟩=some (.bool st.bad)∧w1.frozen? ⟨pb,2,none⟩=false∧pb < w1.heap.size:=by
 have hb':=(h.below hb).blk
 exact⟨by rw[jQb hb'];rfl,jQd hb' 1,by rw[jQb hb'];rfl,jQd hb' 2,jQg hb'⟩
theorem PS.pos_end {pb:Nat}{lv:Value}{ws:List Sq.Word}{r:Rw}{w w1 w':World}{st:Sq.PSt}(h:PS pb lv ws r w st)(hb:Below w.heap.size w w1)(ht:Tch pb w w')(hp:st.pos < ws.length)
  (hw:w'.heap[pb]?=(w1.setCell ⟨pb,1,none⟩ (.int .i64 ((st.pos:Int)+1))).heap[pb]?):PS pb lv ws r w' (Sq.step1 st) :=
 h.touch ht (by rw[hw,jQf (h.below hb).blk];rfl) hp rfl rfl rfl rfl rfl
theorem PS.bad_end {pb:Nat}{lv:Value}{ws:List Sq.Word}{r:Rw}{w w1 w':World}{st:Sq.PSt}(h:PS pb lv ws r w st)(hb:Below w.heap.size w w1)(ht:Tch pb w w')
  (hw:w'.heap[pb]?=(w1.setCell ⟨pb,2,none⟩ (.bool true)).heap[pb]?):PS pb lv ws r w' (Sq.fail st) :=
 h.touch ht (by rw[hw,jQf (h.below hb).blk];rfl) h.inside rfl rfl rfl rfl rfl
theorem jQic {pb:Nat}{lv:Value}{ws:List Sq.Word}{r:Rw}{w:World}{st:Sq.PSt}(h:PS pb lv ws r w st) :
  Calls Tryz.prog 182 #[.pointer (some ⟨pb,0,none⟩)] w fun e w'=>e=.returned (.agg #[.int .i64 (Sq.nextW ws st).kind,.string (Sq.nextW ws st).text])∧PS pb lv ws r w' (Sq.takeS ws st)∧Tch pb w w':=by
 have hlt:=h.lt
 have hsm:=h.small
 have hin:=h.inside
 obtain⟨x,hx⟩:∃x,x=Sq.nextW ws st:=⟨_,rfl⟩
 rw[←hx]
 have HX:Hid _:=hx
 have H:Hid _:=h
 clear hx h
 go_enter Tryz.func182,Tryz.ntmps182
 go_wp2_with fail
 refine(jQis (H.out.alloc _)).mono ?_
 rintro e w1 ⟨rfl,hb1⟩
 rw[←HX.out]
 obtain⟨k1,k2⟩:=bcell hb1
 have c0:=k1 w.heap.size 0 (by simp)
 have c1:=k1 w.heap.size 1 (by simp)
 have f0:=k2 w.heap.size 0 (by simp)
 have f1:=k2 w.heap.size 1 (by simp)
 simp[go_sem] at c0 c1 f0 f1
 have hz:w.heap.size < w1.heap.size:=by have:=hb1.size;simp at this;omega
 have hne:w.heap.size≠pb:=by omega
 have hbw:Below w.heap.size w w1:=((Below.refl _ w).alloc (Nat.le_refl _) _).trans (hb1.mono (by simp))
 obtain⟨d1,g1,d2,g2,hlt1⟩:=H.out.later hbw
 clear k1 k2 hb1
 cases hk:x.kind==0
 ·have hps:st.pos < ws.length:=Sq.jQbD ws st (by rw[←HX.out];exact ne_of_beq_false hk)
  go_wp2
  have ht:Tch pb w ((((w1.setCell ⟨pb,1,none⟩ (.int .i64 ((st.pos:Int)+1))).setCell ⟨w.heap.size,0,none⟩ (.int .i64 x.kind)).setCell ⟨w.heap.size,1,none⟩ (.string x.text)).alloc (.cells #[.int .i64 x.kind,.string x.text] 198)) :=
   ((((Tch.of hbw).store (.inl rfl) _).store (.inr (Nat.le_refl _)) _).store (.inr (Nat.le_refl _)) _).alloc _
  refine bodyPost_ret (v:=.agg #[.int .i64 x.kind,.string x.text]) (by simp[results,Tryz.results182,go_sem, *]) rfl ⟨rfl,?_,ht⟩
  rw[show Sq.takeS ws st=Sq.step1 st from by unfold Sq.takeS;rw[←HX.out,hk];rfl]
  exact H.out.pos_end hbw ht hps (by rw[Below.heap_alloc _ _ _ (by simpa using hlt1),jQe hne.symm,jQe hne.symm])
 ·go_wp2
  have ht:Tch pb w ((((w1.setCell ⟨pb,2,none⟩ (.bool true)).setCell ⟨w.heap.size,0,none⟩ (.int .i64 x.kind)).setCell ⟨w.heap.size,1,none⟩ (.string x.text)).alloc (.cells #[.int .i64 x.kind,.string x.text] 198)) :=
   ((((Tch.of hbw).store (.inl rfl) _).store (.inr (Nat.le_refl _)) _).store (.inr (Nat.le_refl _)) _).alloc _
  refine bodyPost_ret (v:=.agg #[.int .i64 x.kind,.string x.text]) (by simp[results,Tryz.results182,go_sem, *]) rfl ⟨rfl,?_,ht⟩
  rw[show Sq.takeS ws st=Sq.fail st from by unfold Sq.takeS;rw[←HX.out,hk];rfl]
  exact H.out.bad_end hbw ht (by rw[Below.heap_alloc _ _ _ (by simpa using hlt1),jQe hne.symm,jQe hne.symm])
theorem jQL {pb:Nat}{lv:Value}{ws:List Sq.Word}{r:Rw}{w:World}{st:Sq.PSt}(m:ByteArray)(h:PS pb lv ws r w st) :
  Calls Tryz.prog 185 #[.pointer (some ⟨pb,0,none⟩),.string m] w fun e w'=>e=.returned (.bool (Sq.acceptB ws st m))∧PS pb lv ws r w' (Sq.acceptS ws st m)∧Tch pb w w':=by
 have hlt:=h.lt
 have hsm:=h.small
 have hin:=h.inside
 obtain⟨x,hx⟩:∃x,x=Sq.nextW ws st:=⟨_,rfl⟩
 have HB:Hid (Sq.acceptB ws st m=(x.kind==1 && x.text.toList==m.toList)):=by rw[hx];rfl
 have HX:Hid _:=hx
 have H:Hid _:=h
 clear hx h
 go_enter Tryz.func185,Tryz.ntmps185
 go_wp2_with fail
 refine(jQis H.out).mono ?_
 rintro e w1 ⟨rfl,hb1⟩
 rw[←HX.out]
 obtain⟨d1,g1,d2,g2,hlt1⟩:=H.out.later hb1
 cases hk:x.kind==1
 ·have hk':(x.kind != 1)=true:=by simp[bne,hk]
  have hB:Sq.acceptB ws st m=false:=by rw[HB.out,hk];rfl
  have HBB:Hid _:=hB
  clear hB
  go_wp2
  go_ret
  exact⟨by rw[HBB.out];rfl,by rw[show Sq.acceptS ws st m=st from by unfold Sq.acceptS;rw[HBB.out];rfl];exact(H.out.below hb1).alloc _,(Tch.of hb1).alloc _⟩
 cases ht:x.text.toList==m.toList
 ·have hk':(x.kind != 1)=false:=by simp[bne,hk]
  have hB:Sq.acceptB ws st m=false:=by rw[HB.out,hk,ht];rfl
  have HBB:Hid _:=hB
  clear hB hk
  go_wp2
  go_ret
  exact⟨by rw[HBB.out];rfl,by rw[show Sq.acceptS ws st m=st from by unfold Sq.acceptS;rw[HBB.out];rfl];exact(H.out.below hb1).alloc _,(Tch.of hb1).alloc _⟩
 ·have hk':(x.kind != 1)=false:=by simp[bne,hk]
  have hB:Sq.acceptB ws st m=true:=by rw[HB.out,hk,ht];rfl
  have HBB:Hid _:=hB
  have hps:st.pos < ws.length:=Sq.jQbD ws st (by rw[←HX.out,eq_of_beq hk];decide)
  have HT:Hid _:=ht
  clear hB hk ht
  have ht':(!(x.text.toList==m.toList))=false:=by rw[HT.out];rfl
  go_wp2
  go_ret
  have ht:Tch pb w ((w1.setCell ⟨pb,1,none⟩ (.int .i64 ((st.pos:Int)+1))).alloc (.cells #[.int .i64 x.kind,.string x.text] 198)) :=
   ((Tch.of hb1).store (.inl rfl) _).alloc _
  exact⟨by rw[HBB.out];rfl,by rw[show Sq.acceptS ws st m=Sq.step1 st from by unfold Sq.acceptS;rw[HBB.out];rfl];exact H.out.pos_end hb1 ht hps (by rw[Below.heap_alloc _ _ _ (by simpa using hlt1)]),ht⟩
end
def Sq.bText:ByteArray:=⟨#[116,101,120,116]⟩
def Sq.bInt:ByteArray:=⟨#[105,110,116]⟩
def Sq.kindR (ws:List Sq.Word)(st:Sq.PSt):Int:=if Sq.acceptB ws st Sq.bText then 1 else 0
def Sq.kindS (ws:List Sq.Word)(st:Sq.PSt):Sq.PSt:=if Sq.acceptB ws st Sq.bText then Sq.acceptS ws st Sq.bText else Sq.wantS ws st Sq.bInt
def Sq.comparisons:List (List UInt8):=[[61],[60,62],[60],[60,61],[62],[62,61]]
def Sq.isComparison (s:ByteArray):Bool:=Sq.comparisons.contains s.data.toList
def Sq.addStep (st:Sq.PSt)(s:Sq.StepS):Sq.PSt:={ st with wher:=st.wher++[s] }
def Sq.compMid (ws:List Sq.Word)(st:Sq.PSt):Sq.PSt:=if Sq.isComparison (Sq.markR ws (Sq.termS ws st)) then Sq.takeS ws (Sq.termS ws st) else Sq.fail (Sq.takeS ws (Sq.termS ws st))
def Sq.compS (ws:List Sq.Word)(st:Sq.PSt):Sq.PSt :=
 Sq.addStep (Sq.termS ws (Sq.compMid ws st)) ⟨Sq.markR ws (Sq.termS ws st),Sq.termR ws st,Sq.termR ws (Sq.compMid ws st)⟩
theorem Sq.jQ6 (ws:List Sq.Word)(st:Sq.PSt):(Sq.termS ws st).wher=st.wher:=by
 unfold Sq.termS Sq.litS Sq.takeS Sq.acceptS
 repeat (first | rfl | split)
theorem Sq.jQau (ws:List Sq.Word)(st:Sq.PSt):(Sq.takeS ws st).wher=st.wher:=by
 unfold Sq.takeS
 repeat (first | rfl | split)
theorem Sq.jQcE (ws:List Sq.Word)(st:Sq.PSt):(Sq.compMid ws st).wher=st.wher:=by
 unfold Sq.compMid
 split
 ·rw[Sq.jQau,Sq.jQ6]
 ·show(Sq.takeS ws _).wher=_
  rw[Sq.jQau,Sq.jQ6]
namespace Sq
def bOr:ByteArray:=⟨#[111,114]⟩
def bAnd:ByteArray:=⟨#[97,110,100]⟩
def bNot:ByteArray:=⟨#[110,111,116]⟩
def bOpen:ByteArray:=⟨#[40]⟩
def bClose:ByteArray:=⟨#[41]⟩
def bWhere:ByteArray:=⟨#[119,104,101,114,101]⟩
def opStep (m:ByteArray):StepS:=⟨m,term0,term0⟩
def cond (ws:List Word):Nat→Nat→PSt→PSt
 | 0,_,st=>st
 | f+1,0,st=>cond ws f 3 (cond ws f 1 st)
 | f+1,1,st=>cond ws f 4 (cond ws f 2 st)
 | f+1,2,st=>if acceptB ws st bNot then addStep (cond ws f 2 (step1 st)) (opStep bNot) else if acceptB ws st bOpen then wantS ws (cond ws f 0 (step1 st)) bClose else compS ws st
 | f+1,3,st=>if acceptB ws st bOr then cond ws f 3 (addStep (cond ws f 1 (step1 st)) (opStep bOr)) else st
 | f+1,_+4,st=>if acceptB ws st bAnd then cond ws f 4 (addStep (cond ws f 2 (step1 st)) (opStep bAnd)) else st
theorem jQgc (ws:List Word)(st:PSt):st.pos≤(takeS ws st).pos:=by unfold takeS;split <;> simp[fail,step1]
theorem jQfX (ws:List Word)(st:PSt)(m:ByteArray):st.pos≤(acceptS ws st m).pos:=by unfold acceptS;split <;> simp[step1]
theorem jQf6 (ws:List Word)(st:PSt)(m:ByteArray):st.pos≤(wantS ws st m).pos:=by unfold wantS;split <;> simp[step1,fail]
theorem jQm (ws:List Word)(st:PSt)(m:ByteArray):(wantS ws st m).wher=st.wher:=by unfold wantS;split <;> rfl
theorem jQmN (ws:List Word)(st:PSt):st.pos≤(litS ws st).pos:=by
 have h1:=jQgc ws (acceptS ws st bMinus)
 have h2:=jQfX ws st bMinus
 unfold litS
 repeat (first | split | (show _≤(takeS ws _).pos;omega))
theorem jQdP (ws:List Word)(st:PSt):st.pos≤(termS ws st).pos:=by
 unfold termS;split
 ·simp[step1]
 ·exact jQmN ws st
theorem jQk8 (ws:List Word)(st:PSt):st.pos≤(compMid ws st).pos:=by
 have h1:=jQdP ws st
 have h2:=jQgc ws (termS ws st)
 unfold compMid
 split
 ·omega
 ·show _≤(takeS ws _).pos;omega
theorem jQpr (ws:List Word)(st:PSt):st.pos≤(compS ws st).pos:=Nat.le_trans (jQk8 ws st) (jQdP ws (compMid ws st))
theorem jQnC (ws:List Word)(st:PSt):(compS ws st).wher.length=st.wher.length+1:=by
 show((termS ws (compMid ws st)).wher++[_]).length=_
 rw[jQ6,jQcE,List.length_append];rfl
theorem jQbu (st:PSt)(s:StepS):(addStep st s).wher.length=st.wher.length+1:=by simp[addStep]
def more (t:Nat):Nat:=if t≤2 then 1 else 0
theorem jQcD (ws:List Word):∀f t st,st.pos≤(cond ws f t st).pos∧(cond ws f t st).wher.length+2 * st.pos≤st.wher.length+2 * (cond ws f t st).pos+more t:=by
 intro f
 induction f with
 | zero=>intro t st;simp[cond]
 | succ f ih =>
  intro t st
  match t with
  | 0 =>
   rw[cond]
   have h1:=ih 1 st
   have h2:=ih 3 (cond ws f 1 st)
   simp[more] at h1 h2 ⊢
   omega
  | 1 =>
   rw[cond]
   have h1:=ih 2 st
   have h2:=ih 4 (cond ws f 2 st)
   simp[more] at h1 h2 ⊢
   omega
  | 2 =>
   rw[cond]
   split
   ·have h1:=ih 2 (step1 st)
    rw[jQbu]
    simp[more,step1] at h1 ⊢
    show st.pos≤(cond ws f 2 _).pos∧_≤_+2 * (cond ws f 2 _).pos+1
    omega
   ·split
    ·have h1:=ih 0 (step1 st)
     have h2:=jQf6 ws (cond ws f 0 (step1 st)) bClose
     rw[jQm]
     simp[more,step1] at h1 ⊢
     simp[step1] at h2
     omega
    ·have h1:=jQpr ws st
     have h2:=jQnC ws st
     simp[more]
     omega
  | 3 =>
   rw[cond]
   split
   ·have h1:=ih 1 (step1 st)
    have h2:=ih 3 (addStep (cond ws f 1 (step1 st)) (opStep bOr))
    rw[jQbu] at h2
    have h3:(addStep (cond ws f 1 (step1 st)) (opStep bOr)).pos=(cond ws f 1 (step1 st)).pos:=rfl
    have h4:(step1 st).wher=st.wher:=rfl
    have h5:(step1 st).pos=st.pos+1:=rfl
    rw[h3] at h2
    rw[h4,h5] at h1
    simp only[more] at h1 h2 ⊢
    simp at h1 h2 ⊢
    omega
   ·simp[more]
  | t+4 =>
   rw[cond]
   split
   ·have h1:=ih 2 (step1 st)
    have h2:=ih 4 (addStep (cond ws f 2 (step1 st)) (opStep bAnd))
    rw[jQbu] at h2
    have h3:(addStep (cond ws f 2 (step1 st)) (opStep bAnd)).pos=(cond ws f 2 (step1 st)).pos:=rfl
    have h4:(step1 st).wher=st.wher:=rfl
    have h5:(step1 st).pos=st.pos+1:=rfl
    rw[h3] at h2
    rw[h4,h5] at h1
    simp only[more] at h1 h2 ⊢
    simp at h1 h2 ⊢
    omega
   ·simp[more]
theorem jQcP (ws:List Word)(st:PSt):(takeS ws st).cols=st.cols:=by unfold takeS;split <;> rfl
theorem jQiW (ws:List Word)(st:PSt)(m:ByteArray):(acceptS ws st m).cols=st.cols:=by unfold acceptS;split <;> rfl
theorem jQbf (ws:List Word)(st:PSt)(m:ByteArray):(wantS ws st m).cols=st.cols:=by unfold wantS;split <;> rfl
theorem jQbY (ws:List Word)(st:PSt):(nameS ws st).cols=st.cols:=by unfold nameS;split <;> exact jQcP ws st
theorem jQhz (ws:List Word)(st:PSt):(kindS ws st).cols=st.cols:=by
 unfold kindS;split
 ·exact jQiW ws st _
 ·exact jQbf ws st _
theorem jQeh (ws:List Word)(st:PSt):(takeS ws st).vals=st.vals:=by unfold takeS;split <;> rfl
theorem jQiU (ws:List Word)(st:PSt)(m:ByteArray):(acceptS ws st m).vals=st.vals:=by unfold acceptS;split <;> rfl
theorem jQg0 (ws:List Word)(st:PSt)(m:ByteArray):(wantS ws st m).vals=st.vals:=by unfold wantS;split <;> rfl
theorem jQmH (ws:List Word)(st:PSt):(nameS ws st).vals=st.vals:=by unfold nameS;split <;> exact jQeh ws st
theorem jQjM (ws:List Word)(st:PSt):(litS ws st).vals=st.vals:=by
 have h:(takeS ws (acceptS ws st bMinus)).vals=st.vals:=by rw[jQeh,jQiU]
 unfold litS
 repeat (first | exact h | split)
theorem jQei (ws:List Word)(st:PSt):(takeS ws st).sets=st.sets:=by unfold takeS;split <;> rfl
theorem jQiV (ws:List Word)(st:PSt)(m:ByteArray):(acceptS ws st m).sets=st.sets:=by unfold acceptS;split <;> rfl
theorem jQbe (ws:List Word)(st:PSt)(m:ByteArray):(wantS ws st m).sets=st.sets:=by unfold wantS;split <;> rfl
theorem jQbX (ws:List Word)(st:PSt):(nameS ws st).sets=st.sets:=by unfold nameS;split <;> exact jQei ws st
theorem jQo0 (ws:List Word)(st:PSt):(litS ws st).sets=st.sets:=by
 have h:(takeS ws (acceptS ws st bMinus)).sets=st.sets:=by rw[jQei,jQiV]
 unfold litS
 repeat (first | exact h | split)
theorem jQaI (ws:List Word)(st:PSt):(termS ws st).sets=st.sets:=by
 unfold termS;split
 ·rfl
 ·exact jQo0 ws st
theorem jQfx (ws:List Word)(st:PSt):(takeS ws st).items=st.items:=by unfold takeS;split <;> rfl
theorem jQkm (ws:List Word)(st:PSt)(m:ByteArray):(wantS ws st m).items=st.items:=by unfold wantS;split <;> rfl
theorem jQdh (ws:List Word)(st:PSt):(nameS ws st).items=st.items:=by unfold nameS;split <;> exact jQfx ws st
def whereS (ws:List Word)(st:PSt):PSt:=if acceptB ws st bWhere then cond ws (8 * ws.length+7) 0 (step1 st) else st
end Sq
section
open Go.RowKit
theorem jQ1 {pb:Nat}{lv:Value}{ws:List Sq.Word}{r:Rw}{w:World}{st:Sq.PSt}(m:ByteArray)(h:PS pb lv ws r w st) :
  Calls Tryz.prog 183 #[.pointer (some ⟨pb,0,none⟩),.string m] w fun e w'=>e=.returned (.tuple #[])∧PS pb lv ws r w' (Sq.wantS ws st m)∧Tch pb w w':=by
 have H:Hid _:=h
 clear h
 go_enter Tryz.func183,Tryz.ntmps183
 go_wp2_with fail
 refine(jQL m H.out).mono ?_
 rintro e w1 ⟨rfl,hp1,ht1⟩
 obtain⟨d1,g1,d2,g2,hlt1⟩:=hp1.later (Below.refl _ _)
 cases hB:Sq.acceptB ws st m
 ·have e1:Sq.acceptS ws st m=st:=by unfold Sq.acceptS;rw[hB];rfl
  rw[e1] at hp1 d1 d2
  have HP:Hid _:=hp1
  have HE:Hid (Sq.wantS ws st m=Sq.fail st):=by show _=_;unfold Sq.wantS;rw[hB];rfl
  clear hp1 e1 hB
  go_wp2
  go_end0
  have ht:Tch pb w1 (w1.setCell ⟨pb,2,none⟩ (.bool true)):=(Tch.refl _ _).store (.inl rfl) _
  exact⟨rfl,by rw[HE.out];exact HP.out.bad_end (Below.refl _ _) ht rfl,ht1.trans ht⟩
 ·have e1:Sq.acceptS ws st m=Sq.wantS ws st m:=by unfold Sq.acceptS Sq.wantS;rw[hB];rfl
  rw[e1] at hp1
  have HP:Hid _:=hp1
  clear hp1 e1 hB d1 d2
  go_wp2
  go_end0
  exact⟨rfl,HP.out,ht1⟩
theorem jQaN {pb:Nat}{lv:Value}{ws:List Sq.Word}{r:Rw}{w:World}{st:Sq.PSt}(h:PS pb lv ws r w st) :
  Calls Tryz.prog 184 #[.pointer (some ⟨pb,0,none⟩)] w fun e w'=>e=.returned (.string (Sq.nameR ws st))∧PS pb lv ws r w' (Sq.nameS ws st)∧Tch pb w w':=by
 obtain⟨x,hx⟩:∃x,x=Sq.nextW ws st:=⟨_,rfl⟩
 have HX:Hid _:=hx
 have H:Hid _:=h
 clear h hx
 go_enter Tryz.func184,Tryz.ntmps184
 go_wp2_with fail
 refine(jQic H.out).mono ?_
 rintro e w1 ⟨rfl,hp1,ht1⟩
 rw[←HX.out]
 obtain⟨d1,g1,d2,g2,hlt1⟩:=hp1.later (Below.refl _ _)
 have HP:Hid _:=hp1
 clear hp1
 cases hk:x.kind==2
 ·have HE:Hid (Sq.nameS ws st=Sq.fail (Sq.takeS ws st)∧Sq.nameR ws st=Sq.nobytes):=by refine⟨?_,?_⟩ <;> (first | unfold Sq.nameS | unfold Sq.nameR) <;> rw[←HX.out,hk] <;> rfl
  have hk':(x.kind != 2)=true:=by simp[bne,hk]
  go_wp2
  go_ret
  have ht:Tch pb w1 ((w1.setCell ⟨pb,2,none⟩ (.bool true)).alloc (.cells #[.int .i64 x.kind,.string x.text] 198)):=((Tch.refl _ _).store (.inl rfl) _).alloc _
  exact⟨by rw[HE.out.2];rfl,by rw[HE.out.1];exact HP.out.bad_end (Below.refl _ _) ht (by rw[Below.heap_alloc _ _ _ (by simpa using hlt1)]),ht1.trans ht⟩
 ·have HE:Hid (Sq.nameS ws st=Sq.takeS ws st∧Sq.nameR ws st=x.text):=by refine⟨?_,?_⟩ <;> (first | unfold Sq.nameS | unfold Sq.nameR) <;> rw[←HX.out,hk] <;> rfl
  have hk':(x.kind != 2)=false:=by simp[bne,hk]
  clear hk
  go_wp2
  go_ret
  exact⟨by rw[HE.out.2];rfl,by rw[HE.out.1];exact HP.out.alloc _,ht1.alloc _⟩
theorem jQmK {pb:Nat}{lv:Value}{ws:List Sq.Word}{r:Rw}{w:World}{st:Sq.PSt}(h:PS pb lv ws r w st) :
  Calls Tryz.prog 138 #[.pointer (some ⟨pb,0,none⟩)] w fun e w'=>e=.returned (.string (Sq.markR ws st))∧PS pb lv ws r w' (Sq.takeS ws st)∧Tch pb w w':=by
 obtain⟨x,hx⟩:∃x,x=Sq.nextW ws st:=⟨_,rfl⟩
 have HX:Hid _:=hx
 have H:Hid _:=h
 clear h hx
 go_enter Tryz.func138,Tryz.ntmps138
 go_wp2_with fail
 refine(jQic H.out).mono ?_
 rintro e w1 ⟨rfl,hp1,ht1⟩
 rw[←HX.out]
 have HP:Hid _:=hp1
 clear hp1
 cases hk:x.kind==1
 ·have HE:Hid (Sq.markR ws st=Sq.nobytes):=by show _=_;unfold Sq.markR;rw[←HX.out,hk];rfl
  have hk':(x.kind != 1)=true:=by simp[bne,hk]
  go_wp2
  go_ret
  exact⟨by rw[HE.out];rfl,HP.out.alloc _,ht1.alloc _⟩
 ·have HE:Hid (Sq.markR ws st=x.text):=by show _=_;unfold Sq.markR;rw[←HX.out,hk];rfl
  have hk':(x.kind != 1)=false:=by simp[bne,hk]
  clear hk
  go_wp2
  go_ret
  exact⟨by rw[HE.out];rfl,HP.out.alloc _,ht1.alloc _⟩
theorem jQqU {pb:Nat}{lv:Value}{ws:List Sq.Word}{r:Rw}{w:World}{st:Sq.PSt}(h:PS pb lv ws r w st) :
  Calls Tryz.prog 186 #[.pointer (some ⟨pb,0,none⟩)] w fun e w'=>e=.returned (.int .i64 (Sq.kindR ws st))∧PS pb lv ws r w' (Sq.kindS ws st)∧Tch pb w w':=by
 have H:Hid _:=h
 clear h
 go_enter Tryz.func186,Tryz.ntmps186
 go_wp2_with fail
 refine(jQL Sq.bText H.out).mono ?_
 rintro e w1 ⟨rfl,hp1,ht1⟩
 have HP:Hid _:=hp1
 clear hp1
 cases hB:Sq.acceptB ws st Sq.bText
 ·have HE:Hid (Sq.kindR ws st=0∧Sq.kindS ws st=Sq.wantS ws st Sq.bInt∧Sq.acceptS ws st Sq.bText=st):=by refine⟨?_,?_,?_⟩ <;> (first | unfold Sq.kindR | unfold Sq.kindS | unfold Sq.acceptS) <;> rw[hB] <;> rfl
  have h1:=HP.out
  rw[HE.out.2.2] at h1
  have HQ:Hid _:=h1
  clear h1
  go_wp2_with fail
  refine(jQ1 Sq.bInt HQ.out).mono ?_
  rintro e w2 ⟨rfl,hp2,ht2⟩
  have HP2:Hid _:=hp2
  clear hp2
  go_wp2
  go_ret
  exact⟨by rw[HE.out.1];rfl,by rw[HE.out.2.1];exact HP2.out,ht1.trans ht2⟩
 ·have HE:Hid (Sq.kindR ws st=1∧Sq.kindS ws st=Sq.acceptS ws st Sq.bText):=by refine⟨?_,?_⟩ <;> (first | unfold Sq.kindR | unfold Sq.kindS) <;> rw[hB] <;> rfl
  go_wp2
  go_ret
  exact⟨by rw[HE.out.1];rfl,by rw[HE.out.2];exact HP.out,ht1⟩
end
section
open Go.RowKit
theorem jQeC (t:ByteArray)(w:World)(hs:t.size≤9) :
  Calls Tryz.prog 226 #[.string t] w fun e w'=>e=.returned (.int .i64 (Sq.num t))∧w'=w:=by
 go_enter Tryz.func226,Tryz.ntmps226
 go_wp2
 go_loop [3,4] (fun n i=>∃k:Nat,k≤t.size∧i=.int .i64 k∧n=.int .i64 (Sq.numL (t.data.toList.take k))) (fun _ i=>t.size - (intOf i).toNat)
 case atStart=>exact⟨0,Nat.zero_le _,rfl,rfl⟩
 case round =>
  obtain⟨k,hk,rfl,rfl⟩:=hrel
  have hl:(t.data.toList.take k).length≤9:=by simp;omega
  obtain⟨n0,n1⟩:=Sq.jQhv _ hl
  by_cases hlt:k < t.size
  ·have hts:t.data.toList.take (k+1)=t.data.toList.take k++[t[k]]:=by
    rw[List.take_succ_eq_append_getElem (by simpa using hlt)];rfl
   have HS:Hid (Sq.numL (t.data.toList.take (k+1))=Sq.numL (t.data.toList.take k) * 10+Sq.dv t[k]):=by show _=_;rw[hts,Sq.jQoK]
   clear hts
   obtain⟨n,hn⟩:∃n,n=Sq.numL (t.data.toList.take k):=⟨_,rfl⟩
   rw[←hn] at n0 n1
   have HN:Hid _:=hn
   rw[←hn]
   clear hn
   go_wp2
   go_round
   case rel=>exact⟨k+1,by omega,by go_num,by rw[HS.out,←HN.out];rfl⟩
   case measure=>simp[intOf];omega
  ·go_wp2
   go_ret
   exact⟨by unfold Sq.num;rw[List.take_of_length_le (by simp;omega)];rfl,rfl⟩
theorem jQaC (n:Int)(w:World) :
  Calls Tryz.prog 203 #[.int .i64 n] w fun e w'=>e=.returned (.agg #[.int .i64 0,.int .i64 n,.string ⟨#[]⟩])∧Below w.heap.size w w':=by
 go_enter Tryz.func203,Tryz.ntmps203
 go_wp2
 exact bodyPost_ret (v:=.agg #[.int .i64 0,.int .i64 n,.string ⟨#[]⟩]) (by simp[results,Tryz.results203,go_sem]) rfl ⟨rfl,(Below.refl _ _).alloc (Nat.le_refl _) _⟩
theorem jQc5 (t:ByteArray)(w:World) :
  Calls Tryz.prog 204 #[.string t] w fun e w'=>e=.returned (.agg #[.int .i64 1,.int .i64 0,.string t])∧Below w.heap.size w w':=by
 go_enter Tryz.func204,Tryz.ntmps204
 go_wp2
 exact bodyPost_ret (v:=.agg #[.int .i64 1,.int .i64 0,.string t]) (by simp[results,Tryz.results204,go_sem]) rfl ⟨rfl,(Below.refl _ _).alloc (Nat.le_refl _) _⟩
theorem PS.keep {pb:Nat}{lv:Value}{ws:List Sq.Word}{r:Rw}{w w2 w':World}{st st2:Sq.PSt}(h:PS pb lv ws r w st)(h2:PS pb lv ws r w2 st2)(hb:Below w.heap.size w2 w'):PS pb lv ws r w' st2:=by
 have k:∀{v:Value} {base base':Nat} {e e':TypeId} {size size' n n':Nat} {xs xs':List Value},w.ownsRow base' e' size' v n' xs'→w2.ownsRow base e size v n xs→w'.ownsRow base e size v n xs :=
  fun ho h2=>jQn h2 fun g hg=>hb.block g (ho.lt g hg).2
 exact⟨by rw[hb.block pb h.lt];exact h2.blk,k h.list h2.list,h2.small,h2.wf,h2.inside,k h.cols h2.cols,k h.vals h2.vals,k h.sets h2.sets,k h.items h2.items,k h.wher h2.wher⟩
theorem Tch.then {pb:Nat}{w w2 w':World}(h:Tch pb w w2)(hb:Below w.heap.size w2 w'):Tch pb w w' :=
 ⟨hb.os.trans h.os,hb.tape.trans h.tape,hb.output.trans h.output,Nat.le_trans h.size hb.size,fun i hi hn=>(hb.block i hi).trans (h.block i hi hn)⟩
theorem Tch.cells {pb:Nat}{W w1:World}(h:Tch pb W w1):(∀b o,b < W.heap.size→b≠pb→w1.cell? ⟨b,o,none⟩=W.cell? ⟨b,o,none⟩)∧(∀b o,b < W.heap.size→b≠pb→w1.frozen? ⟨b,o,none⟩=W.frozen? ⟨b,o,none⟩) :=
 ⟨fun b o hb hn=>World.cell?_of_block (w:=W) (h.block b hb (by simp;exact hn)),fun b o hb hn=>World.frozen?_of_block (w:=W) (h.block b hb (by simp;exact hn))⟩
theorem jQfL {pb:Nat}{lv:Value}{ws:List Sq.Word}{r:Rw}{w:World}{st:Sq.PSt}(h:PS pb lv ws r w st) :
  Calls Tryz.prog 215 #[.pointer (some ⟨pb,0,none⟩)] w fun e w'=>e=.returned (.agg #[.int .i64 (Sq.litR ws st).kind,.int .i64 (Sq.litR ws st).number,.string (Sq.litR ws st).text])∧PS pb lv ws r w' (Sq.litS ws st)∧Tch pb w w':=by
 have hlt:=h.lt
 have hne:w.heap.size≠pb:=by omega
 have H:Hid _:=h
 clear h
 go_enter Tryz.func215,Tryz.ntmps215
 go_wp2_with fail
 refine(jQL Sq.bMinus (H.out.alloc _)).mono ?_
 rintro e w1 ⟨rfl,hp1,ht1⟩
 have HP1:Hid _:=hp1
 clear hp1
 go_wp2_with fail
 refine(jQic HP1.out).mono ?_
 rintro e w2 ⟨rfl,hp2,ht2⟩
 have HP2:Hid _:=hp2
 clear hp2
 obtain⟨x,hx⟩:∃x,x=Sq.nextW ws (Sq.acceptS ws st Sq.bMinus):=⟨_,rfl⟩
 rw[←hx]
 have hwf:Hid (x.kind=3→x.text.size≤9):=by show _→_;rw[hx];exact Sq.jQqK ws _ H.out.wf
 have ht:=ht1.trans ht2
 have htw:Tch pb w w2:=((Tch.refl pb w).alloc _).trans ht
 obtain⟨k1,k2⟩:=ht.cells
 have c0:=k1 w.heap.size 0 (by simp) hne
 have c1:=k1 w.heap.size 1 (by simp) hne
 have c2:=k1 w.heap.size 2 (by simp) hne
 have f0:=k2 w.heap.size 0 (by simp) hne
 have f1:=k2 w.heap.size 1 (by simp) hne
 have f2:=k2 w.heap.size 2 (by simp) hne
 simp[go_sem] at c0 c1 c2 f0 f1 f2
 have hz:w.heap.size < w2.heap.size:=by have:=ht.size;simp at this;omega
 obtain⟨d1,g1,d2,g2,hlt2⟩:=HP2.out.later (Below.refl _ _)
 clear k1 k2 ht ht1 ht2
 obtain⟨m,hm⟩:∃m,m=Sq.acceptB ws st Sq.bMinus:=⟨_,rfl⟩
 rw[←hm]
 have HLR:Hid (Sq.litR ws st=if x.kind==3 then(if m then⟨0,-Sq.num x.text,Sq.nobytes⟩ else⟨0,Sq.num x.text,Sq.nobytes⟩) else if x.kind==4 && !m then⟨1,0,x.text⟩ else Sq.val0):=by show _=_;rw[hx,hm];rfl
 have HLS:Hid (Sq.litS ws st=if x.kind==3 then Sq.takeS ws (Sq.acceptS ws st Sq.bMinus) else if x.kind==4 && !m then Sq.takeS ws (Sq.acceptS ws st Sq.bMinus) else Sq.fail (Sq.takeS ws (Sq.acceptS ws st Sq.bMinus))):=by show _=_;rw[hx,hm];rfl
 clear hx hm
 have ext:Hid (∀w3,Below w2.heap.size w2 w3→w3.cell? ⟨w.heap.size,0,none⟩=some (.int .i64 0)∧w3.cell? ⟨w.heap.size,1,none⟩=some (.int .i64 0)∧w3.cell? ⟨w.heap.size,2,none⟩=some (.string ⟨#[]⟩)∧w3.frozen? ⟨w.heap.size,0,none⟩=false∧w3.frozen? ⟨w.heap.size,1,none⟩=false∧w3.frozen? ⟨w.heap.size,2,none⟩=false):=by
  intro w3 hb
  obtain⟨k1,k2⟩:=bcell hb
  exact⟨(k1 _ _ hz).trans c0,(k1 _ _ hz).trans c1,(k1 _ _ hz).trans c2,(k2 _ _ hz).trans f0,(k2 _ _ hz).trans f1,(k2 _ _ hz).trans f2⟩
 have fin:Hid (∀w3 (v0 v1 v2:Value),Below w2.heap.size w2 w3→PS pb lv ws r (((w3.setCell ⟨w.heap.size,0,none⟩ v0).setCell ⟨w.heap.size,1,none⟩ v1).setCell ⟨w.heap.size,2,none⟩ v2) (Sq.takeS ws (Sq.acceptS ws st Sq.bMinus))∧Tch pb w (((w3.setCell ⟨w.heap.size,0,none⟩ v0).setCell ⟨w.heap.size,1,none⟩ v1).setCell ⟨w.heap.size,2,none⟩ v2)):=by
  intro w3 v0 v1 v2 hb
  have hbl:Below w.heap.size w2 (((w3.setCell ⟨w.heap.size,0,none⟩ v0).setCell ⟨w.heap.size,1,none⟩ v1).setCell ⟨w.heap.size,2,none⟩ v2):=(((Below.mono (B':=w.heap.size) hb (by omega)).setCell (Nat.le_refl _) _).setCell (Nat.le_refl _) _).setCell (Nat.le_refl _) _
  exact⟨H.out.keep HP2.out hbl,htw.then hbl⟩
 cases hk:x.kind==3
 case true =>
  have hsz:=hwf.out (eq_of_beq hk)
  obtain⟨n0,n1⟩:=Sq.jQoJ _ hsz
  cases m
  case true =>
   have HR:=HLR.out
   have HS:=HLS.out
   rw[hk] at HR HS
   have HR':Hid _:=HR
   have HS':Hid _:=HS
   clear HLR HLS HR HS
   go_wp2_with (first | (go_at_call 226;refine(jQeC _ _ hsz).mono ?_;rintro e w' ⟨rfl,rfl⟩) | (go_at_call 203;refine(jQaC _ _).mono ?_;rintro e w3 ⟨rfl,hb3⟩;have hb23:=((Below.refl _ w2).alloc (Nat.le_refl _) _).trans (hb3.mono (by simp));obtain⟨p0,p1,p2,q0,q1,q2⟩:=ext.out w3 hb23))
   exact bodyPost_ret (v:=.agg #[.int .i64 0,.int .i64 (-Sq.num x.text),.string ⟨#[]⟩]) (by simp[results,Tryz.results215,go_sem, *]) rfl ⟨by rw[HR'.out];rfl,by rw[HS'.out];exact(fin.out w3 _ _ _ hb23).1,(fin.out w3 _ _ _ hb23).2⟩
  case false =>
   have HR:=HLR.out
   have HS:=HLS.out
   rw[hk] at HR HS
   have HR':Hid _:=HR
   have HS':Hid _:=HS
   clear HLR HLS HR HS
   go_wp2_with (first | (go_at_call 226;refine(jQeC _ _ hsz).mono ?_;rintro e w' ⟨rfl,rfl⟩) | (go_at_call 203;refine(jQaC _ _).mono ?_;rintro e w3 ⟨rfl,hb3⟩;have hb23:=((Below.refl _ w2).alloc (Nat.le_refl _) _).trans (hb3.mono (by simp));obtain⟨p0,p1,p2,q0,q1,q2⟩:=ext.out w3 hb23))
   exact bodyPost_ret (v:=.agg #[.int .i64 0,.int .i64 (Sq.num x.text),.string ⟨#[]⟩]) (by simp[results,Tryz.results215,go_sem, *]) rfl ⟨by rw[HR'.out];rfl,by rw[HS'.out];exact(fin.out w3 _ _ _ hb23).1,(fin.out w3 _ _ _ hb23).2⟩
 cases hk4:(x.kind==4 && !m)
 case true =>
  have hk4':(x.kind==4)=true∧m=false:=by simpa using hk4
  obtain⟨h4,rfl⟩:=hk4'
  have HR:=HLR.out
  have HS:=HLS.out
  rw[hk,hk4] at HR HS
  have HR':Hid _:=HR
  have HS':Hid _:=HS
  clear HLR HLS HR HS hk4
  go_wp2_with (first | (go_at_call 204;refine(jQc5 _ _).mono ?_;rintro e w3 ⟨rfl,hb3⟩;have hb23:=((Below.refl _ w2).alloc (Nat.le_refl _) _).trans (hb3.mono (by simp));obtain⟨p0,p1,p2,q0,q1,q2⟩:=ext.out w3 hb23))
  exact bodyPost_ret (v:=.agg #[.int .i64 1,.int .i64 0,.string x.text]) (by simp[results,Tryz.results215,go_sem, *]) rfl ⟨by rw[HR'.out];rfl,by rw[HS'.out];exact(fin.out w3 _ _ _ hb23).1,(fin.out w3 _ _ _ hb23).2⟩
 case false =>
  have HR:=HLR.out
  have HS:=HLS.out
  rw[hk,hk4] at HR HS
  have HR':Hid _:=HR
  have HS':Hid _:=HS
  clear HLR HLS HR HS
  have hwb:PS pb lv ws r (w2.setCell ⟨pb,2,none⟩ (.bool true)) (Sq.fail (Sq.takeS ws (Sq.acceptS ws st Sq.bMinus))):=HP2.out.bad_end (Below.refl _ _) ((Tch.refl _ _).store (.inl rfl) _) rfl
  have HWB:Hid _:=hwb
  clear hwb
  cases h4:x.kind==4
  case false =>
   clear hk4
   go_wp2
   have hbl:Below w.heap.size (w2.setCell ⟨pb,2,none⟩ (.bool true)) (((((w2.setCell ⟨pb,2,none⟩ (.bool true)).setCell ⟨w.heap.size,0,none⟩ (.int .i64 0)).setCell ⟨w.heap.size,1,none⟩ (.int .i64 0)).setCell ⟨w.heap.size,2,none⟩ (.string ⟨#[]⟩)).alloc (.cells #[.int .i64 x.kind,.string x.text] 198)):=Below.alloc (B:=w.heap.size) ((((Below.refl w.heap.size _).setCell (Nat.le_refl _) _).setCell (Nat.le_refl _) _).setCell (Nat.le_refl _) _) (by simp;omega) _
   exact bodyPost_ret (v:=.agg #[.int .i64 0,.int .i64 0,.string ⟨#[]⟩]) (by simp[results,Tryz.results215,go_sem, *]) rfl ⟨by rw[HR'.out];rfl,by rw[HS'.out];exact H.out.keep HWB.out hbl,(htw.store (.inl rfl) _).then hbl⟩
  case true =>
   have hm:m=true:=by cases m <;> simp_all
   subst hm
   clear hk4
   go_wp2
   have hbl:Below w.heap.size (w2.setCell ⟨pb,2,none⟩ (.bool true)) (((((w2.setCell ⟨pb,2,none⟩ (.bool true)).setCell ⟨w.heap.size,0,none⟩ (.int .i64 0)).setCell ⟨w.heap.size,1,none⟩ (.int .i64 0)).setCell ⟨w.heap.size,2,none⟩ (.string ⟨#[]⟩)).alloc (.cells #[.int .i64 x.kind,.string x.text] 198)):=Below.alloc (B:=w.heap.size) ((((Below.refl w.heap.size _).setCell (Nat.le_refl _) _).setCell (Nat.le_refl _) _).setCell (Nat.le_refl _) _) (by simp;omega) _
   exact bodyPost_ret (v:=.agg #[.int .i64 0,.int .i64 0,.string ⟨#[]⟩]) (by simp[results,Tryz.results215,go_sem, *]) rfl ⟨by rw[HR'.out];rfl,by rw[HS'.out];exact H.out.keep HWB.out hbl,(htw.store (.inl rfl) _).then hbl⟩
end
section
open Go.RowKit
theorem jQdc {pb:Nat}{lv:Value}{ws:List Sq.Word}{r:Rw}{w:World}{st:Sq.PSt}(h:PS pb lv ws r w st) :
  Calls Tryz.prog 216 #[.pointer (some ⟨pb,0,none⟩)] w fun e w'=>e=.returned (.agg #[.string (Sq.termR ws st).column,.int .i64 (Sq.termR ws st).lit.kind,.int .i64 (Sq.termR ws st).lit.number,.string (Sq.termR ws st).lit.text])∧PS pb lv ws r w' (Sq.termS ws st)∧Tch pb w w':=by
 have hlt:=h.lt
 have hsm:=h.small
 have hin:=h.inside
 have hne:w.heap.size≠pb:=by omega
 obtain⟨x,hx⟩:∃x,x=Sq.nextW ws st:=⟨_,rfl⟩
 have HX:Hid _:=hx
 have H:Hid _:=h
 clear h hx
 go_enter Tryz.func216,Tryz.ntmps216
 go_wp2_with fail
 refine(jQis (H.out.alloc _)).mono ?_
 rintro e w1 ⟨rfl,hb1⟩
 rw[←HX.out]
 have hz:w.heap.size < w1.heap.size:=by have:=hb1.size;simp at this;omega
 have hbw:Below w.heap.size w w1:=((Below.refl _ w).alloc (Nat.le_refl _) _).trans (hb1.mono (by simp))
 obtain⟨k1,k2⟩:=bcell hb1
 have c0:=k1 w.heap.size 0 (by simp)
 have c1:=k1 w.heap.size 1 (by simp)
 have c2:=k1 w.heap.size 2 (by simp)
 have c3:=k1 w.heap.size 3 (by simp)
 have f0:=k2 w.heap.size 0 (by simp)
 have f1:=k2 w.heap.size 1 (by simp)
 have f2:=k2 w.heap.size 2 (by simp)
 have f3:=k2 w.heap.size 3 (by simp)
 simp[go_sem] at c0 c1 c2 c3 f0 f1 f2 f3
 obtain⟨d1,g1,d2,g2,hlt1⟩:=H.out.later hbw
 clear k1 k2 hb1
 cases hk:x.kind==2
 case true =>
  have hps:st.pos < ws.length:=Sq.jQbD ws st (by rw[←HX.out,eq_of_beq hk];decide)
  have HE:Hid (Sq.termR ws st=⟨x.text,Sq.val0⟩∧Sq.termS ws st=Sq.step1 st):=by refine⟨?_,?_⟩ <;> (first | unfold Sq.termR | unfold Sq.termS) <;> rw[←HX.out,hk] <;> rfl
  have hps2:PS pb lv ws r (w1.setCell ⟨pb,1,none⟩ (.int .i64 ((st.pos:Int)+1))) (Sq.step1 st):=H.out.pos_end hbw ((Tch.of hbw).store (.inl rfl) _) hps rfl
  have HP:Hid _:=hps2
  clear hps2
  go_wp2
  have hbl:Below w.heap.size (w1.setCell ⟨pb,1,none⟩ (.int .i64 ((st.pos:Int)+1))) ((((((w1.setCell ⟨pb,1,none⟩ (.int .i64 ((st.pos:Int)+1))).setCell ⟨w.heap.size,0,none⟩ (.string x.text)).setCell ⟨w.heap.size,1,none⟩ (.int .i64 0)).setCell ⟨w.heap.size,2,none⟩ (.int .i64 0)).setCell ⟨w.heap.size,3,none⟩ (.string ⟨#[]⟩)).alloc (.cells #[.int .i64 x.kind,.string x.text] 198)):=Below.alloc (B:=w.heap.size) (((((Below.refl w.heap.size _).setCell (Nat.le_refl _) _).setCell (Nat.le_refl _) _).setCell (Nat.le_refl _) _).setCell (Nat.le_refl _) _) (by simp;omega) _
  exact bodyPost_ret (v:=.agg #[.string x.text,.int .i64 0,.int .i64 0,.string ⟨#[]⟩]) (by simp[results,Tryz.results216,go_sem, *]) rfl ⟨by rw[HE.out.1];rfl,by rw[HE.out.2];exact H.out.keep HP.out hbl,((Tch.of hbw).store (.inl rfl) _).then hbl⟩
 case false =>
  have HE:Hid (Sq.termR ws st=⟨Sq.nobytes,Sq.litR ws st⟩∧Sq.termS ws st=Sq.litS ws st):=by refine⟨?_,?_⟩ <;> (first | unfold Sq.termR | unfold Sq.termS) <;> rw[←HX.out,hk] <;> rfl
  have hps1:=(H.out.below hbw).alloc (.cells #[.int .i64 x.kind,.string x.text] 198)
  have HP1:Hid _:=hps1
  clear hps1
  go_wp2_with fail
  refine(jQfL HP1.out).mono ?_
  rintro e w2 ⟨rfl,hp2,ht2⟩
  have HP2:Hid _:=hp2
  clear hp2
  obtain⟨k1,k2⟩:=ht2.cells
  have a0:=(k1 w.heap.size 0 (by simp;omega) hne).trans (World.cell?_alloc_past _ _ _ hz)
  have a1:=(k1 w.heap.size 1 (by simp;omega) hne).trans (World.cell?_alloc_past _ _ _ hz)
  have a2:=(k1 w.heap.size 2 (by simp;omega) hne).trans (World.cell?_alloc_past _ _ _ hz)
  have a3:=(k1 w.heap.size 3 (by simp;omega) hne).trans (World.cell?_alloc_past _ _ _ hz)
  have b0:=(k2 w.heap.size 0 (by simp;omega) hne).trans (World.frozen?_alloc_past _ _ _ hz)
  have b1:=(k2 w.heap.size 1 (by simp;omega) hne).trans (World.frozen?_alloc_past _ _ _ hz)
  have b2:=(k2 w.heap.size 2 (by simp;omega) hne).trans (World.frozen?_alloc_past _ _ _ hz)
  have b3:=(k2 w.heap.size 3 (by simp;omega) hne).trans (World.frozen?_alloc_past _ _ _ hz)
  rw[c0] at a0
  rw[c1] at a1
  rw[c2] at a2
  rw[c3] at a3
  rw[f0] at b0
  rw[f1] at b1
  rw[f2] at b2
  rw[f3] at b3
  have hz2:w.heap.size < w2.heap.size:=by have:=ht2.size;simp at this;omega
  have htw:Tch pb w w2:=((Tch.of hbw).alloc _).trans ht2
  clear c0 c1 c2 c3 f0 f1 f2 f3 k1 k2 ht2 d1 d2 g1 g2
  go_wp2
  have hbl:∀v0 v1 v2 v3 o,Below w.heap.size w2 (((((w2.setCell ⟨w.heap.size,0,none⟩ v0).setCell ⟨w.heap.size,1,none⟩ v1).setCell ⟨w.heap.size,2,none⟩ v2).setCell ⟨w.heap.size,3,none⟩ v3).alloc o):=fun v0 v1 v2 v3 o=>Below.alloc (B:=w.heap.size) (((((Below.refl w.heap.size _).setCell (Nat.le_refl _) _).setCell (Nat.le_refl _) _).setCell (Nat.le_refl _) _).setCell (Nat.le_refl _) _) (by simp;omega) _
  exact bodyPost_ret (v:=.agg #[.string ⟨#[]⟩,.int .i64 (Sq.litR ws st).kind,.int .i64 (Sq.litR ws st).number,.string (Sq.litR ws st).text]) (by simp[results,Tryz.results216,go_sem, *]) rfl ⟨by rw[HE.out.1];rfl,by rw[HE.out.2];exact H.out.keep HP2.out (hbl _ _ _ _ _),htw.then (hbl _ _ _ _ _)⟩
theorem jQa3 (s:ByteArray)(w:World) :
  Calls Tryz.prog 194 #[.string s] w fun e w'=>e=.returned (.bool (Sq.isComparison s))∧w'=w:=by
 unfold Sq.isComparison Sq.comparisons
 go_enter Tryz.func194,Tryz.ntmps194
 go_wp2
 all_goals
  go_ret
  exact⟨by rw[←ByteArray.toList_eq];simp_all,rfl⟩
theorem Tryz.infoStep:(Tryz.prog.info? 217).map (fun i=>(i.zero,i.size,i.bytes))=some (some (.agg (Sq.StepS.cells ⟨Sq.nobytes,Sq.term0,Sq.term0⟩).toArray),9,112):=by kernel_rfl
end
section
open Go.RowKit
theorem PS.blk_other {pb:Nat}{lv:Value}{ws:List Sq.Word}{r:Rw}{w w':World}{st:Sq.PSt}(h:PS pb lv ws r w st){v:Value}{base:Nat}{e:TypeId}{size n:Nat}{xs:List Value}(ho:w.ownsRow base e size v n xs)(hne:e≠160)(hg:w.grownBy w' v.ownBlock) :
  w'.heap[pb]?=w.heap[pb]?:=hg.block pb h.lt (fun e=>jQl ho h.blk hne e.symm)
theorem jQv {w w':World}{v v2:Value}{base base2:Nat}{e e2:TypeId}{size size2 n n2:Nat}{xs xs2:List Value}(h2:w.ownsRow base2 e2 size2 v2 n2 xs2)(ho:w.ownsRow base e size v n xs)(hne:e2≠e)(hg:w.grownBy w' v.ownBlock):w'.ownsRow base2 e2 size2 v2 n2 xs2 :=
 jQn h2 fun g hg2=>hg.block g (h2.lt g hg2).2 (fun e=>jQhr h2 ho hne hg2 e.symm)
theorem jQu {w:World}{v:Value}{base pb o:Nat}{e:TypeId}{size n:Nat}{xs:List Value}(ho:w.ownsRow base e size v n xs){c:Array Value}{fr:Nat×Nat}(hb:w.heap[pb]?=some (.cells c 160 fr))(hne:e≠160)(x:Value):(w.setCell ⟨pb,o,none⟩ x).ownsRow base e size v n xs :=
 jQn ho fun g hg=>jQe (fun e=>jQl ho hb hne (by rw[hg,e]))
theorem PS.where_end {pb:Nat}{lv:Value}{ws:List Sq.Word}{r:Rw}{w w1:World}{st:Sq.PSt}(h:PS pb lv ws r w st)(s:Sq.StepS){g cap:Nat}
  (hown:w1.ownsRow (pb+1) 217 9 (.slice (some ⟨g,0,none⟩) (st.wher.length+1) cap) (st.wher.length+1) (st.wher.flatMap Sq.StepS.cells++s.cells)) (hg:w.grownBy w1 r.wv.ownBlock) :
  PS pb lv ws { r with wv:=.slice (some ⟨g,0,none⟩) (st.wher.length+1) cap } (w1.setCell ⟨pb,10,none⟩ (.slice (some ⟨g,0,none⟩) (st.wher.length+1) cap)) (Sq.addStep st s):=by
 have hb:=(h.blk_other h.wher (by decide) hg).trans h.blk
 refine⟨by rw[jQf hb];rfl,jQu (jQv h.list h.wher (by decide) hg) hb (by decide) _,h.small,h.wf,h.inside,jQu (jQv h.cols h.wher (by decide) hg) hb (by decide) _,jQu (jQv h.vals h.wher (by decide) hg) hb (by decide) _,
  jQu (jQv h.sets h.wher (by decide) hg) hb (by decide) _,jQu (jQv h.items h.wher (by decide) hg) hb (by decide) _,jQu ?_ hb (by decide) _⟩
 show w1.ownsRow (pb+1) 217 9 _ (st.wher++[s]).length ((st.wher++[s]).flatMap Sq.StepS.cells)
 rw[List.length_append,List.length_singleton,List.flatMap_append]
 simpa using hown
theorem Tch.of_grown {pb:Nat}{w w1:World}{row:Option Nat}(hg:w.grownBy w1 row)(h:∀k,row=some k→pb≤k)(hw:pb≤w.heap.size):Below pb w w1 :=
 ⟨hg.os,hg.tape,hg.output,hg.size,fun k hk=>hg.block k (by omega) (fun e=>by have:=h k e.symm;omega)⟩
theorem jQel {pb:Nat}{lv:Value}{ws:List Sq.Word}{r:Rw}{w:World}{st:Sq.PSt}(s:Sq.StepS)(h:PS pb lv ws r w st)(hn:st.wher.length≤5000) :
  Calls Tryz.prog 228 #[.pointer (some ⟨pb,0,none⟩),.agg s.cells.toArray] w fun e w'=>e=.returned (.tuple #[])∧(∃r',PS pb lv ws r' w' (Sq.addStep st s))∧Below pb w w':=by
 obtain⟨i0,hi,hz0,hz1,hz2⟩:=info_parts Tryz.infoStep
 have hlt:=h.lt
 obtain⟨op,⟨lc,⟨lk,ln,lt⟩⟩,⟨rc,⟨rk,rn,rt⟩⟩⟩:=s
 have H:Hid _:=h
 have c10:w.cell? ⟨pb,10,none⟩=some r.wv:=by rw[jQb h.blk];rfl
 clear h
 unfold Sq.StepS.cells
 go_enter Tryz.func228,Tryz.ntmps228
 go_wp2
 have hW:Below w.heap.size w ((w.alloc (.cells #[.string op,.string lc,.int .i64 lk,.int .i64 ln,.string lt,.string rc,.int .i64 rk,.int .i64 rn,.string rt] 217)).alloc (.cells #[.string op,.string lc,.int .i64 lk,.int .i64 ln,.string lt,.string rc,.int .i64 rk,.int .i64 rn,.string rt] 217)).drew:=(((Below.refl _ _).alloc (Nat.le_refl _) _).alloc (by simp) _).drew
 have hps:=H.out.below hW
 have HP:Hid _:=hps
 have HW:Hid _:=hW
 clear hps hW
 go_region_law (first
  | (refine step_append_lies _ rfl (.tmp 9) (.tmp 11) 116 rfl (pb+1) 217 i0 _ 9 112 Tryz.underlying116 hi hz0 hz1 hz2 rfl (by decide) r.wv st.wher.length (st.wher.flatMap Sq.StepS.cells) (by simp[Act.eval,Act.put]) HP.out.wher ⟨w.heap.size+1,0,none⟩ 1 1 [.string op,.string lc,.int .i64 lk,.int .i64 ln,.string lt,.string rc,.int .i64 rk,.int .i64 rn,.string rt] (by simp[Act.eval,Act.put]) rfl (by exact jQB (w.alloc _) _ _ _ rfl (by simp)) (by intro u hu;simp at hu;rcases hu with rfl | rfl | rfl | rfl | rfl | rfl | rfl | rfl | rfl <;> rfl) (by decide) (by unfold maxLen;omega) (by omega) (by simp;omega) _ rfl ?_;intro g cap w1 hown hgrow hat hltg;have hb:=(HP.out.blk_other HP.out.wher (by decide) hgrow).trans HP.out.blk;have k10:w1.cell? ⟨pb,10,none⟩=some r.wv:=(by rw[jQb hb];rfl);have f10:=jQd hb 10;have hlt1:=jQg hb;have HO:Hid _:=hown;have HG:Hid _:=hgrow;clear hown hgrow hat hb))
 all_goals
  go_end0
  refine⟨rfl,⟨_,HP.out.where_end ⟨op,⟨lc,⟨lk,ln,lt⟩⟩,⟨rc,⟨rk,rn,rt⟩⟩⟩ HO.out HG.out⟩,?_⟩
  refine Below.setCell (B:=pb) (Below.trans (Below.mono (B':=pb) HW.out (by omega)) (Tch.of_grown HG.out (fun k hk=>?_) (by simp;omega))) (Nat.le_refl _) _
  exact Nat.le_of_succ_le (HP.out.wher.lt k hk).1
end
section
open Go.RowKit
theorem Tch.four {pb:Nat}{W w1:World}{t:Sq.Term}{e:TypeId}(h:Tch pb (W.alloc (.cells #[.string t.column,.int .i64 t.lit.kind,.int .i64 t.lit.number,.string t.lit.text] e)) w1)(hne:W.heap.size≠pb) :
  w1.cell? ⟨W.heap.size,0,none⟩=some (.string t.column)∧w1.cell? ⟨W.heap.size,1,none⟩=some (.int .i64 t.lit.kind)∧w1.cell? ⟨W.heap.size,2,none⟩=some (.int .i64 t.lit.number)∧w1.cell? ⟨W.heap.size,3,none⟩=some (.string t.lit.text)∧W.heap.size < w1.heap.size:=by
 obtain⟨k1,k2⟩:=h.cells
 have c0:=k1 W.heap.size 0 (by simp) hne
 have c1:=k1 W.heap.size 1 (by simp) hne
 have c2:=k1 W.heap.size 2 (by simp) hne
 have c3:=k1 W.heap.size 3 (by simp) hne
 simp[go_sem] at c0 c1 c2 c3
 exact⟨c0,c1,c2,c3,by have:=h.size;simp at this;omega⟩
theorem jQgF {pb:Nat}{lv:Value}{ws:List Sq.Word}{r:Rw}{w:World}{st:Sq.PSt}(h:PS pb lv ws r w st)(hn:st.wher.length≤5000) :
  Calls Tryz.prog 237 #[.pointer (some ⟨pb,0,none⟩)] w fun e w'=>e=.returned (.tuple #[])∧(∃r',PS pb lv ws r' w' (Sq.compS ws st))∧Below pb w w':=by
 have hlt:=h.lt
 have H:Hid _:=h
 clear h
 go_enter Tryz.func237,Tryz.ntmps237
 go_wp2_with fail
 refine(jQdc H.out).mono ?_
 rintro e w1 ⟨rfl,hp1,ht1⟩
 obtain⟨t1,ht1'⟩:∃t,t=Sq.termR ws st:=⟨_,rfl⟩
 obtain⟨s1,hs1⟩:∃s,s=Sq.termS ws st:=⟨_,rfl⟩
 rw[←ht1']
 rw[←hs1] at hp1
 have HT1:Hid _:=ht1'
 have HS1:Hid _:=hs1
 have hz1:=ht1.size
 have hne1:w1.heap.size≠pb:=by omega
 have HP1:Hid _:=hp1
 have HTw1:Hid _:=ht1
 clear hp1 ht1' hs1 ht1
 go_wp2_with fail
 refine(jQmK (HP1.out.alloc _)).mono ?_
 rintro e w2 ⟨rfl,hp2,ht2⟩
 obtain⟨sg,hsg⟩:∃s,s=Sq.markR ws s1:=⟨_,rfl⟩
 rw[←hsg]
 have HSG:Hid _:=hsg
 clear hsg
 have HP2:Hid _:=hp2
 have HT2:Hid _:=ht2
 obtain⟨d1,g1,d2,g2,hlt2⟩:=HP2.out.later (Below.refl _ _)
 clear hp2 ht2
 cases hc:Sq.isComparison sg
 case true =>
  have HM:Hid (Sq.compMid ws st=Sq.takeS ws s1):=by show _=_;unfold Sq.compMid;rw[←HS1.out,←HSG.out,hc];rfl
  go_wp2_with (go_at_call 194;refine(jQa3 _ _).mono ?_;rintro e w' ⟨rfl,rfl⟩;rw[hc])
  refine(jQdc HP2.out).mono ?_
  rintro e w3 ⟨rfl,hp3,ht3⟩
  obtain⟨c0,c1,c2,c3,hz3⟩:=Tch.four (Tch.trans HT2.out ht3) hne1
  have hz3':=ht3.size
  have HP3:Hid _:=hp3
  have HT3:Hid _:=ht3
  clear hp3 ht3
  go_wp2_with fail
  refine(jQel ⟨sg,t1,Sq.termR ws (Sq.takeS ws s1)⟩ (HP3.out.alloc _) (by rw[Sq.jQ6,Sq.jQau,HS1.out,Sq.jQ6];exact hn)).mono ?_
  rintro e w4 ⟨rfl,⟨r',hp4⟩,hb4⟩
  have HP4:Hid _:=hp4
  clear hp4
  go_wp2
  go_end0
  refine⟨rfl,⟨r',?_⟩,?_⟩
  ·have:=HP4.out
   rw[←HM.out,HSG.out,HS1.out,HT1.out] at this
   exact this
  ·exact(Tch.below (Tch.trans (Tch.alloc HTw1.out _) (Tch.trans HT2.out HT3.out)) (Nat.le_refl _) (by omega)).trans ((Below.alloc (B:=pb) (Below.refl _ _) (by omega) _).trans hb4)
 case false =>
  have HM:Hid (Sq.compMid ws st=Sq.fail (Sq.takeS ws s1)):=by show _=_;unfold Sq.compMid;rw[←HS1.out,←HSG.out,hc];rfl
  have htb:Tch pb w2 (w2.setCell ⟨pb,2,none⟩ (.bool true)):=(Tch.refl _ _).store (.inl rfl) _
  have HTB:Hid _:=htb
  have hpb:=HP2.out.bad_end (Below.refl _ _) htb rfl
  have HPB:Hid _:=hpb
  clear htb hpb
  go_wp2_with (go_at_call 194;refine(jQa3 _ _).mono ?_;rintro e w' ⟨rfl,rfl⟩;rw[hc])
  refine(jQdc HPB.out).mono ?_
  rintro e w3 ⟨rfl,hp3,ht3⟩
  obtain⟨c0,c1,c2,c3,hz3⟩:=Tch.four (Tch.trans HT2.out (Tch.trans HTB.out ht3)) hne1
  have hz3':=ht3.size
  simp at hz3'
  have HP3:Hid _:=hp3
  have HT3:Hid _:=ht3
  clear hp3 ht3
  go_wp2_with fail
  refine(jQel ⟨sg,t1,Sq.termR ws (Sq.fail (Sq.takeS ws s1))⟩ (HP3.out.alloc _) (by rw[Sq.jQ6];show(Sq.takeS ws s1).wher.length≤_;rw[Sq.jQau,HS1.out,Sq.jQ6];exact hn)).mono ?_
  rintro e w4 ⟨rfl,⟨r',hp4⟩,hb4⟩
  have HP4:Hid _:=hp4
  clear hp4
  go_wp2
  go_end0
  refine⟨rfl,⟨r',?_⟩,?_⟩
  ·have:=HP4.out
   rw[←HM.out,HSG.out,HS1.out,HT1.out] at this
   exact this
  ·exact(Tch.below (Tch.trans (Tch.alloc HTw1.out _) (Tch.trans HT2.out (Tch.trans HTB.out HT3.out))) (Nat.le_refl _) (by omega)).trans ((Below.alloc (B:=pb) (Below.refl _ _) (by omega) _).trans hb4)
end
section
open Go.RowKit
def CondSaid (fn t k f:Nat):Prop :=
 ∀(pb:Nat) (lv:Value) (ws:List Sq.Word) (r:Rw) (w:World) (st:Sq.PSt),PS pb lv ws r w st→st.wher.length≤2 * st.pos→8 * (ws.length - st.pos)+k≤f →
  Calls Tryz.prog fn #[.pointer (some ⟨pb,0,none⟩)] w fun e w'=>e=.returned (.tuple #[])∧(∃r',PS pb lv ws r' w' (Sq.cond ws f t st))∧Below pb w w'
theorem jQaf {ws:List Sq.Word}{st:Sq.PSt}{m:ByteArray}(h:Sq.acceptB ws st m=true):st.pos < ws.length:=by
 unfold Sq.acceptB at h
 simp at h
 exact Sq.jQbD ws st (by rw[h.1];decide)
theorem jQM {ws:List Sq.Word}{st:Sq.PSt}{m:ByteArray}(h:Sq.acceptB ws st m=true):Sq.acceptS ws st m=Sq.step1 st:=by unfold Sq.acceptS;rw[h];rfl
theorem jQU {ws:List Sq.Word}{st:Sq.PSt}{m:ByteArray}(h:Sq.acceptB ws st m=false):Sq.acceptS ws st m=st:=by unfold Sq.acceptS;rw[h];rfl
theorem jQqJ (f:Nat)(hn:CondSaid 234 2 3 f)(ho:CondSaid 217 0 7 f):CondSaid 234 2 3 (f+1):=by
 intro pb lv ws r w st h hw hf
 have hlt:=h.lt
 have hsm:=h.small
 have hin:=h.inside
 have H:Hid _:=h
 clear h
 go_enter Tryz.func234,Tryz.ntmps234
 go_wp2_with fail
 refine(jQL Sq.bNot H.out).mono ?_
 rintro e w1 ⟨rfl,hp1,ht1⟩
 have hz1:=ht1.size
 have HT1:Hid _:=ht1
 clear ht1
 cases hB:Sq.acceptB ws st Sq.bNot
 case true =>
  have hps:=jQaf hB
  rw[jQM hB] at hp1
  have HE:Hid (Sq.cond ws (f+1) 2 st=Sq.addStep (Sq.cond ws f 2 (Sq.step1 st)) (Sq.opStep Sq.bNot)):=by show _=_;rw[Sq.cond,if_pos hB]
  have HP1:Hid _:=hp1
  clear hp1 hB
  go_wp2_with fail
  refine(hn pb lv ws r w1 (Sq.step1 st) HP1.out (by show st.wher.length≤2 * (st.pos+1);omega) (by show 8 * (ws.length - (st.pos+1))+3≤f;omega)).mono ?_
  rintro e w2 ⟨rfl,⟨r2,hp2⟩,hb2⟩
  have hl:=Sq.jQcD ws f 2 (Sq.step1 st)
  have hi2:=hp2.inside
  have hc:(Sq.cond ws f 2 (Sq.step1 st)).wher.length≤5000:=by
   have h4:(Sq.step1 st).wher=st.wher:=rfl
   have h5:(Sq.step1 st).pos=st.pos+1:=rfl
   rw[h4,h5] at hl
   simp[Sq.more] at hl
   omega
  have HP2:Hid _:=hp2
  clear hp2 hl hi2
  go_wp2_with fail
  refine(jQel (Sq.opStep Sq.bNot) HP2.out hc).mono ?_
  rintro e w3 ⟨rfl,⟨r3,hp3⟩,hb3⟩
  have HP3:Hid _:=hp3
  clear hp3
  go_wp2
  go_end0
  exact⟨rfl,⟨r3,by rw[HE.out];exact HP3.out⟩,(Tch.below HT1.out (Nat.le_refl _) (by omega)).trans (hb2.trans hb3)⟩
 case false =>
  rw[jQU hB] at hp1
  have HP1:Hid _:=hp1
  clear hp1
  go_wp2_with fail
  refine(jQL Sq.bOpen HP1.out).mono ?_
  rintro e w2 ⟨rfl,hp2,ht2⟩
  have hz2:=ht2.size
  have HT2:Hid _:=Tch.trans HT1.out ht2
  clear ht2
  cases hB2:Sq.acceptB ws st Sq.bOpen
  case true =>
   have hps:=jQaf hB2
   rw[jQM hB2] at hp2
   have HE:Hid (Sq.cond ws (f+1) 2 st=Sq.wantS ws (Sq.cond ws f 0 (Sq.step1 st)) Sq.bClose):=by show _=_;rw[Sq.cond,if_neg (by simp[hB]),if_pos hB2]
   have HP2:Hid _:=hp2
   clear hp2 hB hB2
   go_wp2_with fail
   refine(ho pb lv ws r w2 (Sq.step1 st) HP2.out (by show st.wher.length≤2 * (st.pos+1);omega) (by show 8 * (ws.length - (st.pos+1))+7≤f;omega)).mono ?_
   rintro e w3 ⟨rfl,⟨r3,hp3⟩,hb3⟩
   have hlt3:=hp3.lt
   have HP3:Hid _:=hp3
   clear hp3
   go_wp2_with fail
   refine(jQ1 Sq.bClose HP3.out).mono ?_
   rintro e w4 ⟨rfl,hp4,ht4⟩
   have HP4:Hid _:=hp4
   have HT4:Hid _:=ht4
   clear hp4 ht4
   go_wp2
   go_end0
   exact⟨rfl,⟨r3,by rw[HE.out];exact HP4.out⟩,(Tch.below HT2.out (Nat.le_refl _) (by omega)).trans (hb3.trans (Tch.below HT4.out (Nat.le_refl _) (by omega)))⟩
  case false =>
   rw[jQU hB2] at hp2
   have HE:Hid (Sq.cond ws (f+1) 2 st=Sq.compS ws st):=by show _=_;rw[Sq.cond,if_neg (by simp[hB]),if_neg (by simp[hB2])]
   have HP2:Hid _:=hp2
   clear hp2 hB hB2
   go_wp2_with fail
   refine(jQgF HP2.out (by omega)).mono ?_
   rintro e w3 ⟨rfl,⟨r3,hp3⟩,hb3⟩
   have HP3:Hid _:=hp3
   clear hp3
   go_wp2
   go_end0
   exact⟨rfl,⟨r3,by rw[HE.out];exact HP3.out⟩,(Tch.below HT2.out (Nat.le_refl _) (by omega)).trans hb3⟩
theorem jQrN (f:Nat)(ha:∀g,g≤f→CondSaid 227 1 5 g):CondSaid 217 0 7 (f+1):=by
 intro pb lv ws r w st h hw hf
 have hlt:=h.lt
 have hsm:=h.small
 have H:Hid _:=h
 clear h
 go_enter Tryz.func217,Tryz.ntmps217
 go_wp2_with fail
 refine(ha f (Nat.le_refl _) pb lv ws r w st H.out hw (by omega)).mono ?_
 rintro e w1 ⟨rfl,⟨r1,hp1⟩,hb1⟩
 have hl:=Sq.jQcD ws f 1 st
 have hl1:(Sq.cond ws f 1 st).wher.length≤2 * (Sq.cond ws f 1 st).pos+1:=by simp[Sq.more] at hl;omega
 have hl2:=hl.1
 have HP1:Hid _:=hp1
 have HE:Hid (Sq.cond ws (f+1) 0 st=Sq.cond ws f 3 (Sq.cond ws f 1 st)):=by show _=_;rw[Sq.cond]
 clear hp1 hl
 go_wp2_with fail
 go_loopg [] f (fun k wr=>∃(g:Nat) (sk:Sq.PSt) (rk:Rw),g=k∧g≤f∧PS pb lv ws rk wr sk∧sk.wher.length≤2 * sk.pos+1∧8 * (ws.length - sk.pos)+6≤g∧Below pb w wr∧Hid (Sq.cond ws (f+1) 0 st=Sq.cond ws g 3 sk))
 case atStart=>exact⟨f,_,r1,rfl,Nat.le_refl _,HP1.out,hl1,by omega,hb1,HE⟩
 case round =>
  obtain⟨g,sk,rk,rfl,hgf,hpk,hwk,hfk,hbk,hek⟩:=hrel
  have HPK:Hid _:=hpk
  have hltk:=hpk.lt
  clear hpk HP1 HE H hb1 hl1
  go_wp2_with fail
  refine(jQL Sq.bOr HPK.out).mono ?_
  rintro e w2 ⟨rfl,hp2,ht2⟩
  have hz2:=ht2.size
  have HT2:Hid _:=ht2
  clear ht2
  cases hB:Sq.acceptB ws sk Sq.bOr
  case true =>
   have hps:=jQaf hB
   obtain⟨g,rfl⟩:∃g',g=g'+1:=⟨g - 1,by omega⟩
   rw[jQM hB] at hp2
   have HE:Hid (Sq.cond ws (f+1) 0 st=Sq.cond ws g 3 (Sq.addStep (Sq.cond ws g 1 (Sq.step1 sk)) (Sq.opStep Sq.bOr))):=by show _=_;rw[hek.out,Sq.cond,if_pos hB]
   have HP2:Hid _:=hp2
   clear hp2 hB hek
   go_wp2_with fail
   refine(ha g (by omega) pb lv ws rk w2 (Sq.step1 sk) HP2.out (by show sk.wher.length≤2 * (sk.pos+1);omega) (by show 8 * (ws.length - (sk.pos+1))+5≤g;omega)).mono ?_
   rintro e w3 ⟨rfl,⟨r3,hp3⟩,hb3⟩
   have hl:=Sq.jQcD ws g 1 (Sq.step1 sk)
   have hi3:=hp3.inside
   have hl':sk.pos+1≤(Sq.cond ws g 1 (Sq.step1 sk)).pos∧(Sq.cond ws g 1 (Sq.step1 sk)).wher.length≤2 * (Sq.cond ws g 1 (Sq.step1 sk)).pos:=by
    have h4:(Sq.step1 sk).wher=sk.wher:=rfl
    have h5:(Sq.step1 sk).pos=sk.pos+1:=rfl
    rw[h4,h5] at hl
    simp[Sq.more] at hl
    omega
   obtain⟨hl1,hl2⟩:=hl'
   have HP3:Hid _:=hp3
   clear hp3 hl
   go_wp2_with fail
   refine(jQel (Sq.opStep Sq.bOr) HP3.out (by omega)).mono ?_
   rintro e w4 ⟨rfl,⟨r4,hp4⟩,hb4⟩
   have HP4:Hid _:=hp4
   clear hp4
   have hbw:Below pb w w4:=hbk.trans ((Tch.below HT2.out (Nat.le_refl _) (by omega)).trans (hb3.trans hb4))
   clear hbk hb3 hb4
   go_wp2
   go_roundg g
   case measure=>omega
   case rel=>exact⟨g,_,r4,rfl,by omega,HP4.out,by rw[Sq.jQbu];show _≤2 * (Sq.cond ws g 1 (Sq.step1 sk)).pos+1;omega,by show 8 * (ws.length - (Sq.cond ws g 1 (Sq.step1 sk)).pos)+6≤g;omega,hbw,HE⟩
  case false =>
   rw[jQU hB] at hp2
   have HE:Hid (Sq.cond ws (f+1) 0 st=sk):=by
    show _=_
    rw[hek.out]
    obtain⟨g,rfl⟩:∃g',g=g'+1:=⟨g - 1,by omega⟩
    rw[Sq.cond,if_neg (by simp[hB])]
   have HP2:Hid _:=hp2
   clear hp2 hB hek
   go_wp2
   go_end0
   exact⟨rfl,⟨rk,by rw[HE.out];exact HP2.out⟩,hbk.trans (Tch.below HT2.out (Nat.le_refl _) (by omega))⟩
theorem jQru (f:Nat)(ha:∀g,g≤f→CondSaid 234 2 3 g):CondSaid 227 1 5 (f+1):=by
 intro pb lv ws r w st h hw hf
 have hlt:=h.lt
 have hsm:=h.small
 have H:Hid _:=h
 clear h
 go_enter Tryz.func227,Tryz.ntmps227
 go_wp2_with fail
 refine(ha f (Nat.le_refl _) pb lv ws r w st H.out hw (by omega)).mono ?_
 rintro e w1 ⟨rfl,⟨r1,hp1⟩,hb1⟩
 have hl:=Sq.jQcD ws f 2 st
 have hl1:(Sq.cond ws f 2 st).wher.length≤2 * (Sq.cond ws f 2 st).pos+1:=by simp[Sq.more] at hl;omega
 have hl2:=hl.1
 have HP1:Hid _:=hp1
 have HE:Hid (Sq.cond ws (f+1) 1 st=Sq.cond ws f 4 (Sq.cond ws f 2 st)):=by show _=_;rw[Sq.cond]
 clear hp1 hl
 go_wp2_with fail
 go_loopg [] f (fun k wr=>∃(g:Nat) (sk:Sq.PSt) (rk:Rw),g=k∧g≤f∧PS pb lv ws rk wr sk∧sk.wher.length≤2 * sk.pos+1∧8 * (ws.length - sk.pos)+4≤g∧Below pb w wr∧Hid (Sq.cond ws (f+1) 1 st=Sq.cond ws g 4 sk))
 case atStart=>exact⟨f,_,r1,rfl,Nat.le_refl _,HP1.out,hl1,by omega,hb1,HE⟩
 case round =>
  obtain⟨g,sk,rk,rfl,hgf,hpk,hwk,hfk,hbk,hek⟩:=hrel
  have HPK:Hid _:=hpk
  have hltk:=hpk.lt
  clear hpk HP1 HE H hb1 hl1
  go_wp2_with fail
  refine(jQL Sq.bAnd HPK.out).mono ?_
  rintro e w2 ⟨rfl,hp2,ht2⟩
  have hz2:=ht2.size
  have HT2:Hid _:=ht2
  clear ht2
  cases hB:Sq.acceptB ws sk Sq.bAnd
  case true =>
   have hps:=jQaf hB
   obtain⟨g,rfl⟩:∃g',g=g'+1:=⟨g - 1,by omega⟩
   rw[jQM hB] at hp2
   have HE:Hid (Sq.cond ws (f+1) 1 st=Sq.cond ws g 4 (Sq.addStep (Sq.cond ws g 2 (Sq.step1 sk)) (Sq.opStep Sq.bAnd))):=by show _=_;rw[hek.out,Sq.cond,if_pos hB]
   have HP2:Hid _:=hp2
   clear hp2 hB hek
   go_wp2_with fail
   refine(ha g (by omega) pb lv ws rk w2 (Sq.step1 sk) HP2.out (by show sk.wher.length≤2 * (sk.pos+1);omega) (by show 8 * (ws.length - (sk.pos+1))+3≤g;omega)).mono ?_
   rintro e w3 ⟨rfl,⟨r3,hp3⟩,hb3⟩
   have hl:=Sq.jQcD ws g 2 (Sq.step1 sk)
   have hi3:=hp3.inside
   have hl':sk.pos+1≤(Sq.cond ws g 2 (Sq.step1 sk)).pos∧(Sq.cond ws g 2 (Sq.step1 sk)).wher.length≤2 * (Sq.cond ws g 2 (Sq.step1 sk)).pos:=by
    have h4:(Sq.step1 sk).wher=sk.wher:=rfl
    have h5:(Sq.step1 sk).pos=sk.pos+1:=rfl
    rw[h4,h5] at hl
    simp[Sq.more] at hl
    omega
   obtain⟨hl1,hl2⟩:=hl'
   have HP3:Hid _:=hp3
   clear hp3 hl
   go_wp2_with fail
   refine(jQel (Sq.opStep Sq.bAnd) HP3.out (by omega)).mono ?_
   rintro e w4 ⟨rfl,⟨r4,hp4⟩,hb4⟩
   have HP4:Hid _:=hp4
   clear hp4
   have hbw:Below pb w w4:=hbk.trans ((Tch.below HT2.out (Nat.le_refl _) (by omega)).trans (hb3.trans hb4))
   clear hbk hb3 hb4
   go_wp2
   go_roundg g
   case measure=>omega
   case rel=>exact⟨g,_,r4,rfl,by omega,HP4.out,by rw[Sq.jQbu];show _≤2 * (Sq.cond ws g 2 (Sq.step1 sk)).pos+1;omega,by show 8 * (ws.length - (Sq.cond ws g 2 (Sq.step1 sk)).pos)+4≤g;omega,hbw,HE⟩
  case false =>
   rw[jQU hB] at hp2
   have HE:Hid (Sq.cond ws (f+1) 1 st=sk):=by
    show _=_
    rw[hek.out]
    obtain⟨g,rfl⟩:∃g',g=g'+1:=⟨g - 1,by omega⟩
    rw[Sq.cond,if_neg (by simp[hB])]
   have HP2:Hid _:=hp2
   clear hp2 hB hek
   go_wp2
   go_end0
   exact⟨rfl,⟨rk,by rw[HE.out];exact HP2.out⟩,hbk.trans (Tch.below HT2.out (Nat.le_refl _) (by omega))⟩
theorem jQrc:∀f g,g≤f→CondSaid 217 0 7 g∧CondSaid 227 1 5 g∧CondSaid 234 2 3 g:=by
 intro f
 induction f with
 | zero =>
  intro g hg
  obtain rfl:g=0:=by omega
  exact⟨fun _ _ _ _ _ _ _ _ hf=>absurd hf (by omega),fun _ _ _ _ _ _ _ _ hf=>absurd hf (by omega),fun _ _ _ _ _ _ _ _ hf=>absurd hf (by omega)⟩
 | succ f ih =>
  intro g hg
  rcases Nat.lt_or_ge g (f+1) with h | h
  ·exact ih g (by omega)
  ·obtain rfl:g=f+1:=by omega
   exact⟨jQrN f fun g hg=>(ih g hg).2.1,jQru f fun g hg=>(ih g hg).2.2,jQqJ f (ih f (Nat.le_refl _)).2.2 (ih f (Nat.le_refl _)).1⟩
theorem jQb6 {pb:Nat}{lv:Value}{ws:List Sq.Word}{r:Rw}{w:World}{st:Sq.PSt}(h:PS pb lv ws r w st)(hn:st.wher.length≤2 * st.pos) :
  Calls Tryz.prog 189 #[.pointer (some ⟨pb,0,none⟩)] w fun e w'=>e=.returned (.tuple #[])∧(∃r',PS pb lv ws r' w' (Sq.whereS ws st))∧Below pb w w':=by
 have hlt:=h.lt
 have H:Hid _:=h
 clear h
 go_enter Tryz.func189,Tryz.ntmps189
 go_wp2_with fail
 refine(jQL Sq.bWhere H.out).mono ?_
 rintro e w1 ⟨rfl,hp1,ht1⟩
 have HT1:Hid _:=ht1
 clear ht1
 cases hB:Sq.acceptB ws st Sq.bWhere
 case true =>
  have hps:=jQaf hB
  rw[jQM hB] at hp1
  have HE:Hid (Sq.whereS ws st=Sq.cond ws (8 * ws.length+7) 0 (Sq.step1 st)):=by show _=_;unfold Sq.whereS;rw[if_pos hB]
  have HP1:Hid _:=hp1
  clear hp1 hB
  go_wp2_with fail
  refine((jQrc _ _ (Nat.le_refl (8 * ws.length+7))).1 pb lv ws r w1 (Sq.step1 st) HP1.out (by show st.wher.length≤2 * (st.pos+1);omega) (by omega)).mono ?_
  rintro e w2 ⟨rfl,⟨r2,hp2⟩,hb2⟩
  have HP2:Hid _:=hp2
  clear hp2
  go_wp2
  go_end0
  exact⟨rfl,⟨r2,by rw[HE.out];exact HP2.out⟩,(Tch.below HT1.out (Nat.le_refl _) (by omega)).trans hb2⟩
 case false =>
  rw[jQU hB] at hp1
  have HE:Hid (Sq.whereS ws st=st):=by show _=_;unfold Sq.whereS;rw[if_neg (by simp[hB])]
  have HP1:Hid _:=hp1
  clear hp1 hB
  go_wp2
  go_end0
  exact⟨rfl,⟨r,by rw[HE.out];exact HP1.out⟩,Tch.below HT1.out (Nat.le_refl _) (by omega)⟩
end
namespace Sq
def addCol (st:PSt)(c:Col):PSt:={ st with cols:=st.cols++[c] }
def addVal (st:PSt)(v:Val):PSt:={ st with vals:=st.vals++[v] }
def addSet (st:PSt)(s:SetS):PSt:={ st with sets:=st.sets++[s] }
def addItem (st:PSt)(n:ByteArray):PSt:={ st with items:=st.items++[n] }
def setAct (st:PSt)(a:Int):PSt:={ st with act:=a }
def setTable (st:PSt)(n:ByteArray):PSt:={ st with table:=n }
def setShow (st:PSt)(a:Int):PSt:={ st with shw:=a }
def bComma:ByteArray:=⟨#[44]⟩
def bEq:ByteArray:=⟨#[61]⟩
def bPlus:ByteArray:=⟨#[43]⟩
def bStar:ByteArray:=⟨#[42]⟩
def bCreate:ByteArray:=⟨#[99,114,101,97,116,101]⟩
def bTable:ByteArray:=⟨#[116,97,98,108,101]⟩
def bInsert:ByteArray:=⟨#[105,110,115,101,114,116]⟩
def bInto:ByteArray:=⟨#[105,110,116,111]⟩
def bValues:ByteArray:=⟨#[118,97,108,117,101,115]⟩
def bUpdate:ByteArray:=⟨#[117,112,100,97,116,101]⟩
def bSet:ByteArray:=⟨#[115,101,116]⟩
def bDelete:ByteArray:=⟨#[100,101,108,101,116,101]⟩
def bFrom:ByteArray:=⟨#[102,114,111,109]⟩
def bSelect:ByteArray:=⟨#[115,101,108,101,99,116]⟩
def bCount:ByteArray:=⟨#[99,111,117,110,116]⟩
def bSum:ByteArray:=⟨#[115,117,109]⟩
def valueS (ws:List Word)(st:PSt):PSt:=addVal (litS ws st) (litR ws st)
def itemS (ws:List Word)(st:PSt):PSt:=addItem (nameS ws st) (nameR ws st)
def colS (ws:List Word)(st:PSt):PSt:=addCol (kindS ws (nameS ws st)) ⟨nameR ws st,kindR ws (nameS ws st)⟩
def asg1 (ws:List Word)(st:PSt):PSt:=wantS ws (nameS ws st) bEq
def asg2 (ws:List Word)(st:PSt):PSt:=termS ws (asg1 ws st)
def asgSign (ws:List Word)(st:PSt):ByteArray:=if acceptB ws (asg2 ws st) bPlus then bPlus else if acceptB ws (asg2 ws st) bMinus then bMinus else nobytes
def asg3 (ws:List Word)(st:PSt):PSt:=if acceptB ws (asg2 ws st) bPlus then step1 (asg2 ws st) else if acceptB ws (asg2 ws st) bMinus then step1 (asg2 ws st) else asg2 ws st
def asgSecond (ws:List Word)(st:PSt):Term:=if acceptB ws (asg2 ws st) bPlus then termR ws (asg3 ws st) else if acceptB ws (asg2 ws st) bMinus then termR ws (asg3 ws st) else term0
def asg4 (ws:List Word)(st:PSt):PSt:=if acceptB ws (asg2 ws st) bPlus then termS ws (asg3 ws st) else if acceptB ws (asg2 ws st) bMinus then termS ws (asg3 ws st) else asg3 ws st
def asgS (ws:List Word)(st:PSt):PSt:=addSet (asg4 ws st) ⟨nameR ws st,termR ws (asg1 ws st),asgSign ws st,asgSecond ws st⟩
def commas (ws:List Word)(body:PSt→PSt):Nat→PSt→PSt
 | 0,st=>st
 | f+1,st=>if acceptB ws st bComma then commas ws body f (body (step1 st)) else st
def tableS (ws:List Word)(st:PSt):PSt:=setTable (nameS ws st) (nameR ws st)
def createS (ws:List Word)(st:PSt):PSt :=
 let a:=wantS ws (tableS ws (wantS ws (setAct st 1) bTable)) bOpen
 let b:=addCol (wantS ws (nameS ws a) bInt) ⟨nameR ws a,0⟩
 wantS ws (commas ws (colS ws) (ws.length+1) b) bClose
def insertS (ws:List Word)(st:PSt):PSt :=
 let a:=wantS ws (wantS ws (tableS ws (wantS ws (setAct st 2) bInto)) bValues) bOpen
 wantS ws (commas ws (valueS ws) (ws.length+1) (valueS ws a)) bClose
def updateS (ws:List Word)(st:PSt):PSt :=
 let a:=wantS ws (tableS ws (setAct st 3)) bSet
 whereS ws (commas ws (asgS ws) (ws.length+1) (asgS ws a))
def deleteS (ws:List Word)(st:PSt):PSt:=whereS ws (tableS ws (wantS ws (setAct st 4) bFrom))
def itemsS (ws:List Word)(st:PSt):PSt:=commas ws (itemS ws) (ws.length+1) (itemS ws (setShow st 0))
def chooseA (ws:List Word)(st:PSt):PSt :=
 if acceptB ws st bStar then setShow (step1 st) 1
 else if acceptB ws st bCount then setShow (step1 st) 2
 else if acceptB ws st bSum then wantS ws (itemS ws (wantS ws (setShow (step1 st) 3) bOpen)) bClose
 else itemsS ws st
def chooseS (ws:List Word)(st:PSt):PSt:=whereS ws (tableS ws (wantS ws (chooseA ws (setAct st 5)) bFrom))
def statementS (ws:List Word)(st:PSt):PSt :=
 if(markR ws st).toList==bCreate.toList then createS ws (takeS ws st)
 else if(markR ws st).toList==bInsert.toList then insertS ws (takeS ws st)
 else if(markR ws st).toList==bUpdate.toList then updateS ws (takeS ws st)
 else if(markR ws st).toList==bDelete.toList then deleteS ws (takeS ws st)
 else if(markR ws st).toList==bSelect.toList then chooseS ws (takeS ws st)
 else fail (takeS ws st)
def st0:PSt:=⟨0,false,0,nobytes,[],[],[],0,[],[]⟩
def parse (sql:ByteArray):Int×PSt :=
 if 160 < sql.size then(2,st0)
 else match split sql with
  | none=>(3,st0)
  | some ws=>if(statementS ws st0).bad || (statementS ws st0).pos != ws.length then(3,st0) else(0,statementS ws st0)
theorem jQgp (ws:List Word)(st:PSt):st.pos≤(nameS ws st).pos:=by
 have:=jQgc ws st
 unfold nameS;split
 ·exact this
 ·exact this
theorem jQo4 (ws:List Word)(st:PSt):st.pos≤(kindS ws st).pos:=by
 unfold kindS;split
 ·exact jQfX ws st _
 ·exact jQf6 ws st _
theorem jQdd (ws:List Word)(st:PSt):(tableS ws st).cols=st.cols:=jQbY ws st
theorem jQfy (ws:List Word)(st:PSt):(tableS ws st).vals=st.vals:=jQmH ws st
theorem jQfz (ws:List Word)(st:PSt):(tableS ws st).sets=st.sets:=jQbX ws st
theorem jQbm (ws:List Word)(st:PSt):(nameS ws st).wher=st.wher:=by unfold nameS;split <;> exact jQau ws st
theorem jQx (ws:List Word)(st:PSt):(tableS ws st).wher=st.wher:=jQbm ws st
theorem jQoZ (ws:List Word)(st:PSt):(litS ws st).wher=st.wher:=by
 have h:(takeS ws (acceptS ws st bMinus)).wher=st.wher:=by rw[jQau];unfold acceptS;split <;> rfl
 unfold litS
 repeat (first | exact h | split)
theorem jQmX (ws:List Word)(st:PSt):(kindS ws st).wher=st.wher:=by
 unfold kindS;split
 ·unfold acceptS;split <;> rfl
 ·exact jQm ws st _
theorem jQg2 (ws:List Word)(st:PSt):(valueS ws st).vals.length=st.vals.length+1:=by
 show((litS ws st).vals++[_]).length=_
 rw[jQjM,List.length_append];rfl
theorem jQlw (ws:List Word)(st:PSt):st.pos≤(valueS ws st).pos:=jQmN ws st
theorem jQaR (ws:List Word)(st:PSt):(valueS ws st).wher=st.wher:=jQoZ ws st
theorem jQgS (ws:List Word)(st:PSt):(asg2 ws st).sets=st.sets:=by unfold asg2 asg1;rw[jQaI,jQbe,jQbX]
theorem jQgR (ws:List Word)(st:PSt):(asg2 ws st).wher=st.wher:=by unfold asg2 asg1;rw[jQ6,jQm,jQbm]
theorem jQrs (ws:List Word)(st:PSt):st.pos≤(asg2 ws st).pos:=Nat.le_trans (Nat.le_trans (jQgp ws st) (jQf6 ws _ bEq)) (jQdP ws _)
theorem jQnR (ws:List Word)(st:PSt):(asgS ws st).sets.length=st.sets.length+1:=by
 show((asg4 ws st).sets++[_]).length=_
 have h:(asg4 ws st).sets=st.sets:=by
  unfold asg4 asg3
  split
  ·rw[jQaI];exact jQgS ws st
  ·split
   ·rw[jQaI];exact jQgS ws st
   ·exact jQgS ws st
 rw[h,List.length_append];rfl
theorem jQcp (ws:List Word)(st:PSt):(asgS ws st).wher=st.wher:=by
 show(asg4 ws st).wher=_
 unfold asg4 asg3
 split
 ·rw[jQ6];exact jQgR ws st
 ·split
  ·rw[jQ6];exact jQgR ws st
  ·exact jQgR ws st
theorem jQrr (ws:List Word)(st:PSt):st.pos≤(asgS ws st).pos:=by
 show _≤(asg4 ws st).pos
 have h:=jQrs ws st
 have h2:=jQdP ws (step1 (asg2 ws st))
 have h3:(step1 (asg2 ws st)).pos=(asg2 ws st).pos+1:=rfl
 unfold asg4 asg3
 split
 ·omega
 ·split
  ·omega
  ·omega
theorem jQkc (ws:List Word)(st:PSt):(colS ws st).wher=st.wher:=by show(kindS ws (nameS ws st)).wher=_;rw[jQmX,jQbm]
theorem jQbp (ws:List Word)(st:PSt):(itemS ws st).wher=st.wher:=jQbm ws st
theorem jQar (ws:List Word)(body:PSt→PSt)(hb:∀st,(body st).wher=st.wher):∀f st,(commas ws body f st).wher=st.wher:=by
 intro f
 induction f with
 | zero=>intro st;rfl
 | succ f ih =>
  intro st
  rw[commas]
  split
  ·rw[ih,hb];rfl
  ·rfl
end Sq
section
open Go.RowKit
section
variable {pb:Nat} {lv:Value} {ws:List Sq.Word} {r:Rw} {w w1:World} {st:Sq.PSt}
theorem PS.setAct (h:PS pb lv ws r w st)(a:Int):PS pb lv ws r (w.setCell ⟨pb,3,none⟩ (.int .i64 a)) (Sq.setAct st a) :=
 h.touch ((Tch.refl _ _).store (.inl rfl) _) (by rw[jQf h.blk];rfl) h.inside rfl rfl rfl rfl rfl
theorem PS.setTable (h:PS pb lv ws r w st)(n:ByteArray):PS pb lv ws r (w.setCell ⟨pb,4,none⟩ (.string n)) (Sq.setTable st n) :=
 h.touch ((Tch.refl _ _).store (.inl rfl) _) (by rw[jQf h.blk];rfl) h.inside rfl rfl rfl rfl rfl
theorem PS.setShow (h:PS pb lv ws r w st)(a:Int):PS pb lv ws r (w.setCell ⟨pb,8,none⟩ (.int .i64 a)) (Sq.setShow st a) :=
 h.touch ((Tch.refl _ _).store (.inl rfl) _) (by rw[jQf h.blk];rfl) h.inside rfl rfl rfl rfl rfl
theorem PS.cell (h:PS pb lv ws r w st)(j:Nat)(v:Value)(hv:(#[lv,.int .i64 st.pos,.bool st.bad,.int .i64 st.act,.string st.table,r.cv,r.vv,r.sv,.int .i64 st.shw,r.iv,r.wv]:Array Value)[j]?=some v):w.cell? ⟨pb,j,none⟩=some v:=by rw[jQb h.blk,hv]
theorem PS.frozen (h:PS pb lv ws r w st)(j:Nat):w.frozen? ⟨pb,j,none⟩=false:=jQd h.blk j
theorem PS.cols_end (h:PS pb lv ws r w st)(c:Sq.Col){g cap:Nat}
  (hown:w1.ownsRow (pb+1) 205 2 (.slice (some ⟨g,0,none⟩) (st.cols.length+1) cap) (st.cols.length+1) (st.cols.flatMap Sq.Col.cells++c.cells)) (hg:w.grownBy w1 r.cv.ownBlock) :
  PS pb lv ws { r with cv:=.slice (some ⟨g,0,none⟩) (st.cols.length+1) cap } (w1.setCell ⟨pb,5,none⟩ (.slice (some ⟨g,0,none⟩) (st.cols.length+1) cap)) (Sq.addCol st c):=by
 have hb:=(h.blk_other h.cols (by decide) hg).trans h.blk
 refine⟨by rw[jQf hb];rfl,jQu (jQv h.list h.cols (by decide) hg) hb (by decide) _,h.small,h.wf,h.inside,jQu ?_ hb (by decide) _,jQu (jQv h.vals h.cols (by decide) hg) hb (by decide) _,jQu (jQv h.sets h.cols (by decide) hg) hb (by decide) _,jQu (jQv h.items h.cols (by decide) hg) hb (by decide) _,jQu (jQv h.wher h.cols (by decide) hg) hb (by decide) _⟩
 show w1.ownsRow (pb+1) 205 2 _ (st.cols++[c]).length ((st.cols++[c]).flatMap Sq.Col.cells)
 rw[List.length_append,List.length_singleton,List.flatMap_append]
 simpa using hown
theorem PS.vals_end (h:PS pb lv ws r w st)(c:Sq.Val){g cap:Nat}
  (hown:w1.ownsRow (pb+1) 208 3 (.slice (some ⟨g,0,none⟩) (st.vals.length+1) cap) (st.vals.length+1) (st.vals.flatMap Sq.Val.cells++c.cells)) (hg:w.grownBy w1 r.vv.ownBlock) :
  PS pb lv ws { r with vv:=.slice (some ⟨g,0,none⟩) (st.vals.length+1) cap } (w1.setCell ⟨pb,6,none⟩ (.slice (some ⟨g,0,none⟩) (st.vals.length+1) cap)) (Sq.addVal st c):=by
 have hb:=(h.blk_other h.vals (by decide) hg).trans h.blk
 refine⟨by rw[jQf hb];rfl,jQu (jQv h.list h.vals (by decide) hg) hb (by decide) _,h.small,h.wf,h.inside,jQu (jQv h.cols h.vals (by decide) hg) hb (by decide) _,jQu ?_ hb (by decide) _,jQu (jQv h.sets h.vals (by decide) hg) hb (by decide) _,jQu (jQv h.items h.vals (by decide) hg) hb (by decide) _,jQu (jQv h.wher h.vals (by decide) hg) hb (by decide) _⟩
 show w1.ownsRow (pb+1) 208 3 _ (st.vals++[c]).length ((st.vals++[c]).flatMap Sq.Val.cells)
 rw[List.length_append,List.length_singleton,List.flatMap_append]
 simpa using hown
theorem PS.sets_end (h:PS pb lv ws r w st)(c:Sq.SetS){g cap:Nat}
  (hown:w1.ownsRow (pb+1) 213 10 (.slice (some ⟨g,0,none⟩) (st.sets.length+1) cap) (st.sets.length+1) (st.sets.flatMap Sq.SetS.cells++c.cells)) (hg:w.grownBy w1 r.sv.ownBlock) :
  PS pb lv ws { r with sv:=.slice (some ⟨g,0,none⟩) (st.sets.length+1) cap } (w1.setCell ⟨pb,7,none⟩ (.slice (some ⟨g,0,none⟩) (st.sets.length+1) cap)) (Sq.addSet st c):=by
 have hb:=(h.blk_other h.sets (by decide) hg).trans h.blk
 refine⟨by rw[jQf hb];rfl,jQu (jQv h.list h.sets (by decide) hg) hb (by decide) _,h.small,h.wf,h.inside,jQu (jQv h.cols h.sets (by decide) hg) hb (by decide) _,jQu (jQv h.vals h.sets (by decide) hg) hb (by decide) _,jQu ?_ hb (by decide) _,jQu (jQv h.items h.sets (by decide) hg) hb (by decide) _,jQu (jQv h.wher h.sets (by decide) hg) hb (by decide) _⟩
 show w1.ownsRow (pb+1) 213 10 _ (st.sets++[c]).length ((st.sets++[c]).flatMap Sq.SetS.cells)
 rw[List.length_append,List.length_singleton,List.flatMap_append]
 simpa using hown
theorem PS.items_end (h:PS pb lv ws r w st)(c:ByteArray){g cap:Nat}
  (hown:w1.ownsRow (pb+1) 9 1 (.slice (some ⟨g,0,none⟩) (st.items.length+1) cap) (st.items.length+1) (st.items.map Value.string++[.string c])) (hg:w.grownBy w1 r.iv.ownBlock) :
  PS pb lv ws { r with iv:=.slice (some ⟨g,0,none⟩) (st.items.length+1) cap } (w1.setCell ⟨pb,9,none⟩ (.slice (some ⟨g,0,none⟩) (st.items.length+1) cap)) (Sq.addItem st c):=by
 have hb:=(h.blk_other h.items (by decide) hg).trans h.blk
 refine⟨by rw[jQf hb];rfl,jQu (jQv h.list h.items (by decide) hg) hb (by decide) _,h.small,h.wf,h.inside,jQu (jQv h.cols h.items (by decide) hg) hb (by decide) _,jQu (jQv h.vals h.items (by decide) hg) hb (by decide) _,jQu (jQv h.sets h.items (by decide) hg) hb (by decide) _,jQu ?_ hb (by decide) _,jQu (jQv h.wher h.items (by decide) hg) hb (by decide) _⟩
 show w1.ownsRow (pb+1) 9 1 _ (st.items++[c]).length ((st.items++[c]).map Value.string)
 rw[List.length_append,List.length_singleton,List.map_append]
 simpa using hown
end
theorem Tryz.infoVal:(Tryz.prog.info? 208).map (fun i=>(i.zero,i.size,i.bytes))=some (some (.agg (Sq.Val.cells Sq.val0).toArray),3,32):=by kernel_rfl
theorem Tryz.infoSet:(Tryz.prog.info? 213).map (fun i=>(i.zero,i.size,i.bytes))=some (some (.agg (Sq.SetS.cells ⟨Sq.nobytes,Sq.term0,Sq.nobytes,Sq.term0⟩).toArray),10,128):=by kernel_rfl
theorem Tryz.infoCol:(Tryz.prog.info? 205).map (fun i=>(i.zero,i.size,i.bytes))=some (some (.agg (Sq.Col.cells ⟨Sq.nobytes,0⟩).toArray),2,24):=by kernel_rfl
theorem Tryz.infoStr:(Tryz.prog.info? 9).map (fun i=>(i.zero,i.size,i.bytes))=some (some (.string ⟨#[]⟩),1,16):=by kernel_rfl
theorem jQi8 {pb:Nat}{lv:Value}{ws:List Sq.Word}{r:Rw}{w:World}{st:Sq.PSt}(h:PS pb lv ws r w st)(hn:st.vals.length≤5000) :
  Calls Tryz.prog 187 #[.pointer (some ⟨pb,0,none⟩)] w fun e w'=>e=.returned (.tuple #[])∧(∃r',PS pb lv ws r' w' (Sq.valueS ws st))∧Below pb w w':=by
 obtain⟨i0,hi,hz0,hz1,hz2⟩:=info_parts Tryz.infoVal
 have hlt:=h.lt
 have H:Hid _:=h
 clear h
 go_enter Tryz.func187,Tryz.ntmps187
 go_wp2_with fail
 refine(jQfL H.out).mono ?_
 rintro e w0 ⟨rfl,hp0,ht0⟩
 have hn0:(Sq.litS ws st).vals.length≤5000:=by rw[Sq.jQjM];exact hn
 obtain⟨s0,hs0⟩:∃s,s=Sq.litS ws st:=⟨_,rfl⟩
 obtain⟨x,hx⟩:∃s,s=Sq.litR ws st:=⟨_,rfl⟩
 rw[←hs0] at hp0 hn0
 rw[←hx]
 have HS:Hid (Sq.valueS ws st=Sq.addVal s0 x):=by show _=_;rw[hs0,hx];rfl
 have HT0:Hid _:=Tch.below ht0 (Nat.le_refl _) (Nat.le_of_lt hlt)
 clear hs0 hx H hn hlt ht0
 obtain⟨vk,vn,vt⟩:=x
 have hlt:=hp0.lt
 have c6:=hp0.cell 6 _ rfl
 have hW:Below w0.heap.size w0 ((w0.alloc (.cells #[.int .i64 vk,.int .i64 vn,.string vt] 208)).alloc (.cells #[.int .i64 vk,.int .i64 vn,.string vt] 208)).drew:=(((Below.refl _ _).alloc (Nat.le_refl _) _).alloc (by simp) _).drew
 have hps:=hp0.below hW
 have HP:Hid _:=hps
 have HW:Hid _:=hW
 clear hps hW hp0
 go_wp2
 go_region_law (first
  | (refine step_append_lies _ rfl (.tmp 10) (.tmp 12) 113 rfl (pb+1) 208 i0 _ 3 32 Tryz.underlying113 hi hz0 hz1 hz2 rfl (by decide) r.vv s0.vals.length (s0.vals.flatMap Sq.Val.cells) (by simp[Act.eval,Act.put]) HP.out.vals ⟨w0.heap.size+1,0,none⟩ 1 1 [.int .i64 vk,.int .i64 vn,.string vt] (by simp[Act.eval,Act.put]) rfl (by exact jQB (w0.alloc _) _ _ _ rfl (by simp)) (by intro u hu;simp at hu;rcases hu with rfl | rfl | rfl <;> rfl) (by decide) (by unfold maxLen;omega) (by omega) (by simp;omega) _ rfl ?_;intro g cap w1 hown hgrow hat hltg;have hb:=(HP.out.blk_other HP.out.vals (by decide) hgrow).trans HP.out.blk;have k10:w1.cell? ⟨pb,6,none⟩=some r.vv:=(by rw[jQb hb];rfl);have f10:=jQd hb 6;have hlt1:=jQg hb;have HO:Hid _:=hown;have HG:Hid _:=hgrow;clear hown hgrow hat hb))
 all_goals
  go_end0
  refine⟨rfl,⟨_,by rw[HS.out];exact HP.out.vals_end ⟨vk,vn,vt⟩ HO.out HG.out⟩,?_⟩
  refine HT0.out.trans ?_
  refine Below.setCell (B:=pb) (Below.trans (Below.mono (B':=pb) HW.out (by omega)) (Tch.of_grown HG.out (fun k hk=>?_) (by simp;omega))) (Nat.le_refl _) _
  exact Nat.le_of_succ_le (HP.out.vals.lt k hk).1
end
end Go.Proofs.YtahpihjialbanaaGreatDoor
