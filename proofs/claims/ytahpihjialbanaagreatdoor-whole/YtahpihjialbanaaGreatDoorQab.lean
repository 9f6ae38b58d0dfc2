import Derived.BigQuiet
import Derived.Deep.AppendLies
import Derived.Deep.QuietTactic
import Derived.Deep.RegionHeld3
import Derived.Test.YtahpihjialbanaaGreatDoorQaa
set_option linter.unusedVariables false
set_option linter.unusedSimpArgs false
set_option maxRecDepth 100000
set_option maxHeartbeats 800000
namespace Go.Proofs.YtahpihjialbanaaGreatDoor
open Sq (nobytes PSt wantS)
section
open Go.RowKit
structure Rw where
 cv:Value
 vv:Value
 sv:Value
 iv:Value
 wv:Value
structure PS (pb:Nat)(lv:Value)(ws:List Sq.Word)(r:Rw)(w:World)(st:PSt):Prop where
 blk:w.heap[pb]?=some (.cells #[lv,.int .i64 st.pos,.bool st.bad,.int .i64 st.act,.string st.table,r.cv,r.vv,r.sv,.int .i64 st.shw,r.iv,r.wv] 160)
 list:w.ownsRow 0 198 2 lv ws.length (Sq.wcells ws)
 small:ws.length<=1000
 wf:∀x∈ws,x.kind=3->x.text.size<=9
 inside:st.pos<=ws.length
 cols:w.ownsRow (pb+1) 205 2 r.cv st.cols.length (st.cols.flatMap Sq.Col.cells)
 vals:w.ownsRow (pb+1) 208 3 r.vv st.vals.length (st.vals.flatMap Sq.Val.cells)
 sets:w.ownsRow (pb+1) 213 10 r.sv st.sets.length (st.sets.flatMap Sq.SetS.cells)
 items:w.ownsRow (pb+1) 9 1 r.iv st.items.length (st.items.map Value.string)
 wher:w.ownsRow (pb+1) 217 9 r.wv st.wher.length (st.wher.flatMap Sq.StepS.cells)
theorem jQq {w w':World}{base:Nat}{e:TypeId}{size:Nat}{v:Value}{n:Nat}{xs:List Value}(h:w.ownsRow base e size v n xs)(hb:∀g,v.ownBlock=some g->w'.heap[g]?=w.heap[g]?):w'.ownsRow base e size v n xs:=by
 refine⟨h.1,?_⟩;rcases h.2 with h2 | ⟨g,cap,cur,hv,hg,hh,r⟩
 ·exact Or.inl h2
 ·exact Or.inr ⟨g,cap,cur,hv,hg,by rw[hb g (by rw[hv];rfl)];exact hh,r⟩
theorem jQbF {w:World}{base:Nat}{e:TypeId}{size:Nat}{v:Value}{n:Nat}{xs:List Value}(h:w.ownsRow base e size v n xs){g:Nat}(hg:v.ownBlock=some g):∃cur,w.heap[g]?=some (.cells cur e (0,0)):=by
 rcases h.2 with⟨rfl,_⟩ | ⟨g',cap,cur,rfl,_,hh,_⟩
 ·cases hg
 ·have:g'=g:=by simpa[Value.ownBlock] using hg
  subst this;exact⟨cur,hh⟩
theorem jQhG {w:World}{base base':Nat}{e e':TypeId}{size size':Nat}{v v':Value}{n n':Nat}{xs xs':List Value}(h:w.ownsRow base e size v n xs)(h':w.ownsRow base' e' size' v' n' xs')(hne:e≠e'){g:Nat}(hg:v.ownBlock=some g):v'.ownBlock≠some g:=by
 intro hg';obtain⟨c1,h1⟩:=jQbF h hg;obtain⟨c2,h2⟩:=jQbF h' hg';rw[h1] at h2;simp at h2;exact hne h2.2
theorem jQn {w:World}{base:Nat}{e e':TypeId}{size:Nat}{v:Value}{n:Nat}{xs:List Value}{b:Nat}{c:Array Value}{fr:Nat×Nat}(h:w.ownsRow base e size v n xs)(hb:w.heap[b]?=some (.cells c e' fr))(hne:e≠e'):v.ownBlock≠some b:=by
 intro hg;obtain⟨c1,h1⟩:=jQbF h hg;rw[hb] at h1;simp at h1;exact hne h1.2.1.symm
theorem jQb {w:World}{b:Nat}{c:Array Value}{e:TypeId}(h:w.heap[b]?=some (.cells c e (0,0)))(j:Nat):w.cell? ⟨b,j,none⟩=c[j]?:=by simp[World.cell?,h]
theorem jQd {w:World}{b:Nat}{c:Array Value}{e:TypeId}(h:w.heap[b]?=some (.cells c e (0,0)))(j:Nat):w.frozen? ⟨b,j,none⟩=false:=by simp[World.frozen?,h]
theorem jQf {w:World}{b:Nat}{o:Obj}(h:w.heap[b]?=some o):b<w.heap.size:=(Array.getElem?_eq_some_iff.1 h).1
section
variable {pb:Nat} {lv:Value} {ws:List Sq.Word} {r:Rw} {w w':World} {st:PSt}
theorem PS.lt (h:PS pb lv ws r w st):pb<w.heap.size:=jQf h.blk
theorem PS.below (h:PS pb lv ws r w st)(hb:Below w.heap.size w w'):PS pb lv ws r w' st :=
 ⟨by rw[hb.block pb h.lt];exact h.blk,jQh h.list hb,h.small,h.wf,h.inside,jQh h.cols hb,jQh h.vals hb,jQh h.sets hb,jQh h.items hb,jQh h.wher hb⟩
theorem PS.alloc (h:PS pb lv ws r w st)(o:Obj):PS pb lv ws r (w.alloc o) st:=h.below ((bR).alloc (nR) _)
end
theorem jQrH {w:World}{lv:Value}{ws:List Sq.Word}(h:w.ownsRow 0 198 2 lv ws.length (Sq.wcells ws))(k:Nat)(hk:k<ws.length) :
  ∃g cap,lv=.slice (some ⟨g,0,none⟩) ws.length cap/\g<w.heap.size/\w.cell? ⟨g,k*2,none⟩=some (.int .i64 (ws[k]).kind)/\w.cell? ⟨g,k*2+1,none⟩=some (.string (ws[k]).text):=by
 obtain⟨g,cap,rfl,_,hlt⟩:=h.form (by omega);refine⟨g,cap,rfl,hlt,?_,?_⟩
 ·have:=h.cells (g:=g) rfl (k*2) _ (Sq.jQjq ws k hk).1
  rwa [show(⟨g,0,none⟩:Addr).add (k*2)=⟨g,k*2,none⟩ from by unfold Addr.add;split<;>simp_all] at this
 ·have:=h.cells (g:=g) rfl (k*2+1) _ (Sq.jQjq ws k hk).2
  rwa [show(⟨g,0,none⟩:Addr).add (k*2+1)=⟨g,k*2+1,none⟩ from by unfold Addr.add;split<;>simp_all] at this
theorem jQiP {pb:Nat}{lv:Value}{ws:List Sq.Word}{r:Rw}{w:World}{st:PSt}(h:PS pb lv ws r w st) :
  Calls Tryz.prog 214 #[.pointer (some ⟨pb,0,none⟩)] w fun e w'=>e=.returned (.agg #[.int .i64 (Sq.nextW ws st).kind,.string (Sq.nextW ws st).text])/\Below w.heap.size w w':=by
 have he:=h.lt;have c0:w.cell? ⟨pb,0,none⟩=some lv:=by rw[jQb h.blk];rfl
 have c1:w.cell? ⟨pb,1,none⟩=some (.int .i64 st.pos):=by rw[jQb h.blk];rfl
 have c2:w.cell? ⟨pb,2,none⟩=some (.bool st.bad):=by rw[jQb h.blk];rfl
 have hf:=h.small;have hc:=h.inside;have ha:=h.list;clear h;cases hb:st.bad
 case true =>
  have HE:Hid _:=Sq.jQj2 ws st hb;rw[hb] at c2;clear hb ha;go_enter Tryz.func214,Tryz.ntmps214;go_wp2
  go_quiet (fail)
  go_wp2;exact bodyPost_ret (v:=.agg #[.int .i64 0,.string ⟨#[]⟩]) (by simp[results,Tryz.results214,go_sem]) rfl ⟨by rw[HE.o];rfl,((below_drewN ((bR).alloc (nR) _) _).setCell (nR) _).setCell (nR) _⟩
 case false =>
  rw[hb] at c2
  by_cases hp:st.pos<ws.length
  ·have HE:Hid _:=Sq.jQna ws st hb hp;obtain⟨g,cap,rfl,hg,k0,k1⟩:=jQrH ha st.pos hp;clear hb ha;go_enter Tryz.func214,Tryz.ntmps214;go_wp2
   go_quiet (fail)
   go_wp2
   go_region
   go_wp2;exact bodyPost_ret (v:=.agg #[.int .i64 (ws[st.pos]).kind,.string (ws[st.pos]).text]) (by simp[results,Tryz.results214,go_sem]) rfl ⟨by rw[HE.o],((below_drewN ((bR).alloc (nR) _) _).setCell (nR) _).setCell (nR) _⟩
  ·have HE:Hid _:=Sq.jQj1 ws st (by omega)
   obtain⟨ao,cap,rfl⟩:∃ao cap,lv=.slice ao ws.length cap:=by
    rcases ha.2 with⟨h1,h2⟩ | ⟨g,cap,_,h1,_⟩
    ·exact⟨none,0,by rw[h1,h2]⟩
    ·exact⟨_,_,h1⟩
   clear hb ha;go_enter Tryz.func214,Tryz.ntmps214;go_wp2
   go_quiet (fail)
   go_wp2;exact bodyPost_ret (v:=.agg #[.int .i64 0,.string ⟨#[]⟩]) (by simp[results,Tryz.results214,go_sem]) rfl ⟨by rw[HE.o];rfl,((below_drewN ((bR).alloc (nR) _) _).setCell (nR) _).setCell (nR) _⟩
end
section
open Go.RowKit
def Tch (pb:Nat)(w w':World):Prop:=w.grownBy w' (some pb)
section
variable {pb:Nat} {w w1 w2:World}
theorem Tch.refl (pb:Nat)(w:World):Tch pb w w:=⟨rfl,rfl,rfl,nR,fun _ _ _=>rfl⟩
theorem Tch.trans (h:Tch pb w w1)(k:Tch pb w1 w2):Tch pb w w2 :=
 ⟨k.os.trans h.os,k.tape.trans h.tape,k.output.trans h.output,Nat.le_trans h.size k.size,fun i hi hn=>(k.block i (Nat.lt_of_lt_of_le hi h.size) hn).trans (h.block i hi hn)⟩
theorem Tch.of (h:Below w.heap.size w w1):Tch pb w w1:=⟨h.os,h.tape,h.output,h.size,fun i hi _=>h.block i hi⟩
theorem Tch.below {B:Nat}(h:Tch pb w w1)(hB:B<=pb)(hw:B<=w.heap.size):Below B w w1:=⟨h.os,h.tape,h.output,h.size,fun i hi=>h.block i (by omega) (by simp;omega)⟩
theorem Tch.alloc (h:Tch pb w w1)(o:Obj):Tch pb w (w1.alloc o):=h.trans (Tch.of ((bR).alloc (nR) _))
theorem Tch.store (h:Tch pb w w1){b o:Nat}(hb:b=pb\/w.heap.size<=b)(x:Value):Tch pb w (w1.setCell ⟨b,o,none⟩ x):=by
 refine⟨h.os,h.tape,h.output,by simpa[World.setCell] using h.size,fun i hi hn=>?_⟩;rw[Below.heap_setCell _ _ _ _ (by show i≠b;rcases hb with rfl | hb;exact fun e=>hn (by rw[e]);omega)];exact h.block i hi hn
end
theorem jQe {w:World}{b o:Nat}{c:Array Value}{e:TypeId}{fr:Nat×Nat}(h:w.heap[b]?=some (.cells c e fr))(x:Value):(w.setCell ⟨b,o,none⟩ x).heap[b]?=some (.cells (c.setIfInBounds o x) e fr):=by
 simp only[World.setCell,Array.getElem?_modify,h];simp
theorem jQg {w:World}{b b' o:Nat}{x:Value}(h:b≠b'):(w.setCell ⟨b',o,none⟩ x).heap[b]?=w.heap[b]?:=Below.heap_setCell _ _ _ _ h
theorem PS.touch {pb:Nat}{lv:Value}{ws:List Sq.Word}{r:Rw}{w w':World}{st st':PSt}(h:PS pb lv ws r w st)(ht:Tch pb w w')
  (hb:w'.heap[pb]?=some (.cells #[lv,.int .i64 st'.pos,.bool st'.bad,.int .i64 st'.act,.string st'.table,r.cv,r.vv,r.sv,.int .i64 st'.shw,r.iv,r.wv] 160))
  (hin:st'.pos<=ws.length) (e1:st'.cols=st.cols) (e2:st'.vals=st.vals) (e3:st'.sets=st.sets) (e4:st'.items=st.items) (e5:st'.wher=st.wher):PS pb lv ws r w' st':=by
 have k:∀{v:Value} {base:Nat} {e:TypeId} {size n:Nat} {xs:List Value},e≠160->w.ownsRow base e size v n xs->w'.ownsRow base e size v n xs:=by
  intro v base e size n xs hne ho;refine jQq ho fun g hg=>ht.block g (ho.lt g hg).2 ?_
  exact fun e=>jQn ho h.blk hne (by rw[hg,e])
 exact⟨hb,k (by decide) h.list,h.small,h.wf,hin,by rw[e1];exact k (by decide) h.cols,by rw[e2];exact k (by decide) h.vals,by rw[e3];exact k (by decide) h.sets,by rw[e4];exact k (by decide) h.items,by rw[e5];exact k (by decide) h.wher⟩
theorem PS.later {pb:Nat}{lv:Value}{ws:List Sq.Word}{r:Rw}{w w1:World}{st:PSt}(h:PS pb lv ws r w st)(hb:Below w.heap.size w w1) :
  w1.cell? ⟨pb,1,none⟩=some (.int .i64 st.pos)/\w1.frozen? ⟨pb,1,none⟩=false/\w1.cell? ⟨pb,2,none⟩=some (.bool st.bad)/\w1.frozen? ⟨pb,2,none⟩=false/\pb<w1.heap.size:=by
 have ha:=(h.below hb).blk;exact⟨by rw[jQb ha];rfl,jQd ha 1,by rw[jQb ha];rfl,jQd ha 2,jQf ha⟩
theorem PS.pos_end {pb:Nat}{lv:Value}{ws:List Sq.Word}{r:Rw}{w w1 w':World}{st:PSt}(h:PS pb lv ws r w st)(hb:Below w.heap.size w w1)(ht:Tch pb w w')(hp:st.pos<ws.length)
  (hw:w'.heap[pb]?=(w1.setCell ⟨pb,1,none⟩ (.int .i64 ((st.pos:Int)+1))).heap[pb]?):PS pb lv ws r w' (Sq.step1 st) :=
 h.touch ht (by rw[hw,jQe (h.below hb).blk];rfl) hp rfl rfl rfl rfl rfl
theorem PS.bad_end {pb:Nat}{lv:Value}{ws:List Sq.Word}{r:Rw}{w w1 w':World}{st:PSt}(h:PS pb lv ws r w st)(hb:Below w.heap.size w w1)(ht:Tch pb w w')
  (hw:w'.heap[pb]?=(w1.setCell ⟨pb,2,none⟩ (.bool true)).heap[pb]?):PS pb lv ws r w' (Sq.fail st) :=
 h.touch ht (by rw[hw,jQe (h.below hb).blk];rfl) h.inside rfl rfl rfl rfl rfl
theorem jQiz {pb:Nat}{lv:Value}{ws:List Sq.Word}{r:Rw}{w:World}{st:PSt}(h:PS pb lv ws r w st) :
  Calls Tryz.prog 182 #[.pointer (some ⟨pb,0,none⟩)] w fun e w'=>e=.returned (.agg #[.int .i64 (Sq.nextW ws st).kind,.string (Sq.nextW ws st).text])/\PS pb lv ws r w' (Sq.takeS ws st)/\Tch pb w w':=by
 have he:=h.lt;have hf:=h.small;have hg:=h.inside;obtain⟨x,hx⟩:∃x,x=Sq.nextW ws st:=⟨_,rfl⟩;rw[<-hx];have HX:Hid _:=hx;have H:Hid _:=h;clear hx h;go_enter Tryz.func182,Tryz.ntmps182;go_wp2_with fail;refine(jQiP (H.o.alloc _)).mono ?_;rintro e w1 ⟨rfl,hb1⟩;rw[<-HX.o];obtain⟨k1,k2⟩:=bcell hb1;have c0:=k1 w.heap.size 0 (by simp);have c1:=k1 w.heap.size 1 (by simp);have f0:=k2 w.heap.size 0 (by simp);have f1:=k2 w.heap.size 1 (by simp);simp[go_sem] at c0 c1 f0 f1;have hz:w.heap.size<w1.heap.size:=by have:=hb1.size;simp at this;omega
 have hb:w.heap.size≠pb:=by omega
 have ha:Below w.heap.size w w1:=((Below.refl _ w).alloc (nR) _).trans (hb1.mono (by simp));obtain⟨d1,g1,d2,g2,hlt1⟩:=H.o.later ha;clear k1 k2 hb1;cases hk:x.kind==0
 ·have hc:st.pos<ws.length:=Sq.jQcG ws st (by rw[<-HX.o];exact ne_of_beq_false hk);go_wp2
  have ht:Tch pb w ((((w1.setCell ⟨pb,1,none⟩ (.int .i64 ((st.pos:Int)+1))).setCell ⟨w.heap.size,0,none⟩ (.int .i64 x.kind)).setCell ⟨w.heap.size,1,none⟩ (.string x.text)).alloc (.cells #[.int .i64 x.kind,.string x.text] 198)) :=
   ((((Tch.of ha).store (.inl rfl) _).store (.inr (nR)) _).store (.inr (nR)) _).alloc _
  refine bodyPost_ret (v:=.agg #[.int .i64 x.kind,.string x.text]) (by simp[results,Tryz.results182,go_sem, *]) rfl ⟨rfl,?_,ht⟩;rw[show Sq.takeS ws st=Sq.step1 st from by unfold Sq.takeS;rw[<-HX.o,hk];rfl];exact H.o.pos_end ha ht hc (by rw[Below.heap_alloc _ _ _ (by simpa using hlt1),jQg hb.symm,jQg hb.symm])
 ·go_wp2
  have ht:Tch pb w ((((w1.setCell ⟨pb,2,none⟩ (.bool true)).setCell ⟨w.heap.size,0,none⟩ (.int .i64 x.kind)).setCell ⟨w.heap.size,1,none⟩ (.string x.text)).alloc (.cells #[.int .i64 x.kind,.string x.text] 198)) :=
   ((((Tch.of ha).store (.inl rfl) _).store (.inr (nR)) _).store (.inr (nR)) _).alloc _
  refine bodyPost_ret (v:=.agg #[.int .i64 x.kind,.string x.text]) (by simp[results,Tryz.results182,go_sem, *]) rfl ⟨rfl,?_,ht⟩;rw[show Sq.takeS ws st=Sq.fail st from by unfold Sq.takeS;rw[<-HX.o,hk];rfl];exact H.o.bad_end ha ht (by rw[Below.heap_alloc _ _ _ (by simpa using hlt1),jQg hb.symm,jQg hb.symm])
theorem jQJ {pb:Nat}{lv:Value}{ws:List Sq.Word}{r:Rw}{w:World}{st:PSt}(m:ByteArray)(h:PS pb lv ws r w st) :
  Calls Tryz.prog 185 #[.pointer (some ⟨pb,0,none⟩),.string m] w fun e w'=>e=.returned (.bool (Sq.acceptB ws st m))/\PS pb lv ws r w' (Sq.acceptS ws st m)/\Tch pb w w':=by
 have he:=h.lt;have hf:=h.small;have hh:=h.inside;obtain⟨x,hx⟩:∃x,x=Sq.nextW ws st:=⟨_,rfl⟩;have HB:Hid (Sq.acceptB ws st m=(x.kind==1&&x.text.toList==m.toList)):=by rw[hx];rfl
 have HX:Hid _:=hx;have H:Hid _:=h;clear hx h;go_enter Tryz.func185,Tryz.ntmps185;go_wp2_with fail;refine(jQiP H.o).mono ?_;rintro e w1 ⟨rfl,hb1⟩;rw[<-HX.o];obtain⟨d1,g1,d2,g2,hlt1⟩:=H.o.later hb1;cases hk:x.kind==1
 ·have hb:(x.kind != 1)=true:=by simp[bne,hk]
  have hB:Sq.acceptB ws st m=false:=by rw[HB.o,hk];rfl
  have ha:Hid _:=hB;clear hB;go_wp2;go_ret;exact⟨by rw[ha.o];rfl,by rw[show Sq.acceptS ws st m=st from by unfold Sq.acceptS;rw[ha.o];rfl];exact(H.o.below hb1).alloc _,(Tch.of hb1).alloc _⟩
 cases ht:x.text.toList==m.toList
 ·have hb:(x.kind != 1)=false:=by simp[bne,hk]
  have hB:Sq.acceptB ws st m=false:=by rw[HB.o,hk,ht];rfl
  have ha:Hid _:=hB;clear hB hk;go_wp2;go_ret;exact⟨by rw[ha.o];rfl,by rw[show Sq.acceptS ws st m=st from by unfold Sq.acceptS;rw[ha.o];rfl];exact(H.o.below hb1).alloc _,(Tch.of hb1).alloc _⟩
 ·have hb:(x.kind != 1)=false:=by simp[bne,hk]
  have hB:Sq.acceptB ws st m=true:=by rw[HB.o,hk,ht];rfl
  have ha:Hid _:=hB;have hc:st.pos<ws.length:=Sq.jQcG ws st (by rw[<-HX.o,eq_of_beq hk];decide);have HT:Hid _:=ht;clear hB hk ht;have hg:(!(x.text.toList==m.toList))=false:=by rw[HT.o];rfl
  go_wp2;go_ret
  have ht:Tch pb w ((w1.setCell ⟨pb,1,none⟩ (.int .i64 ((st.pos:Int)+1))).alloc (.cells #[.int .i64 x.kind,.string x.text] 198)) :=
   ((Tch.of hb1).store (.inl rfl) _).alloc _
  exact⟨by rw[ha.o];rfl,by rw[show Sq.acceptS ws st m=Sq.step1 st from by unfold Sq.acceptS;rw[ha.o];rfl];exact H.o.pos_end hb1 ht hc (by rw[Below.heap_alloc _ _ _ (by simpa using hlt1)]),ht⟩
end
def Sq.bText:ByteArray:=⟨#[116,101,120,116]⟩
def Sq.bInt:ByteArray:=⟨#[105,110,116]⟩
def Sq.kindR (ws:List Sq.Word)(st:PSt):Int:=if Sq.acceptB ws st Sq.bText then 1 else 0
def Sq.kindS (ws:List Sq.Word)(st:PSt):PSt:=if Sq.acceptB ws st Sq.bText then Sq.acceptS ws st Sq.bText else wantS ws st Sq.bInt
def Sq.comparisons:List (List UInt8):=[[61],[60,62],[60],[60,61],[62],[62,61]]
def Sq.isComparison (s:ByteArray):Bool:=Sq.comparisons.contains s.data.toList
def Sq.addStep (st:PSt)(s:Sq.StepS):PSt:={ st with wher:=st.wher++[s] }
def Sq.compMid (ws:List Sq.Word)(st:PSt):PSt:=if Sq.isComparison (Sq.markR ws (Sq.termS ws st)) then Sq.takeS ws (Sq.termS ws st) else Sq.fail (Sq.takeS ws (Sq.termS ws st))
def Sq.compS (ws:List Sq.Word)(st:PSt):PSt :=
 Sq.addStep (Sq.termS ws (Sq.compMid ws st)) ⟨Sq.markR ws (Sq.termS ws st),Sq.termR ws st,Sq.termR ws (Sq.compMid ws st)⟩
theorem Sq.jQ8 (ws:List Sq.Word)(st:PSt):(Sq.termS ws st).wher=st.wher:=by
 unfold Sq.termS Sq.litS Sq.takeS Sq.acceptS
 repeat (first | rfl | split)
theorem Sq.jQam (ws:List Sq.Word)(st:PSt):(Sq.takeS ws st).wher=st.wher:=by
 unfold Sq.takeS
 repeat (first | rfl | split)
theorem Sq.jQe1 (ws:List Sq.Word)(st:PSt):(Sq.compMid ws st).wher=st.wher:=by
 unfold Sq.compMid
 split
 ·rw[Sq.jQam,Sq.jQ8]
 ·show(Sq.takeS ws _).wher=_
  rw[Sq.jQam,Sq.jQ8]
namespace Sq
def bOr:ByteArray:=⟨#[111,114]⟩
def bAnd:ByteArray:=⟨#[97,110,100]⟩
def bNot:ByteArray:=⟨#[110,111,116]⟩
def bOpen:ByteArray:=⟨#[40]⟩
def bClose:ByteArray:=⟨#[41]⟩
def bWhere:ByteArray:=⟨#[119,104,101,114,101]⟩
def opStep (m:ByteArray):StepS:=⟨m,term0,term0⟩
def cond (ws:List Word):Nat->Nat->PSt->PSt
 | 0,_,st=>st
 | f+1,0,st=>cond ws f 3 (cond ws f 1 st)
 | f+1,1,st=>cond ws f 4 (cond ws f 2 st)
 | f+1,2,st=>if acceptB ws st bNot then addStep (cond ws f 2 (step1 st)) (opStep bNot) else if acceptB ws st bOpen then wantS ws (cond ws f 0 (step1 st)) bClose else compS ws st
 | f+1,3,st=>if acceptB ws st bOr then cond ws f 3 (addStep (cond ws f 1 (step1 st)) (opStep bOr)) else st
 | f+1,_+4,st=>if acceptB ws st bAnd then cond ws f 4 (addStep (cond ws f 2 (step1 st)) (opStep bAnd)) else st
theorem jQgi (ws:List Word)(st:PSt):st.pos<=(takeS ws st).pos:=by unfold takeS;split<;>simp[fail,step1]
theorem jQfZ (ws:List Word)(st:PSt)(m:ByteArray):st.pos<=(acceptS ws st m).pos:=by unfold acceptS;split<;>simp[step1]
theorem jQga (ws:List Word)(st:PSt)(m:ByteArray):st.pos<=(wantS ws st m).pos:=by unfold wantS;split<;>simp[step1,fail]
theorem jQo (ws:List Word)(st:PSt)(m:ByteArray):(wantS ws st m).wher=st.wher:=by unfold wantS;split<;>rfl
theorem jQnj (ws:List Word)(st:PSt):st.pos<=(litS ws st).pos:=by
 have h1:=jQgi ws (acceptS ws st bMinus);have h2:=jQfZ ws st bMinus;unfold litS
 repeat (first | split | (show _<=(takeS ws _).pos;omega))
theorem jQdD (ws:List Word)(st:PSt):st.pos<=(termS ws st).pos:=by
 unfold termS;split
 ·simp[step1]
 ·exact jQnj ws st
theorem jQlp (ws:List Word)(st:PSt):st.pos<=(compMid ws st).pos:=by
 have h1:=jQdD ws st;have h2:=jQgi ws (termS ws st);unfold compMid
 split
 ·omega
 ·show _<=(takeS ws _).pos;omega
theorem jQpC (ws:List Word)(st:PSt):st.pos<=(compS ws st).pos:=Nat.le_trans (jQlp ws st) (jQdD ws (compMid ws st))
theorem jQn6 (ws:List Word)(st:PSt):(compS ws st).wher.length=st.wher.length+1:=by
 show((termS ws (compMid ws st)).wher++[_]).length=_
 rw[jQ8,jQe1,List.length_append];rfl
theorem jQbe (st:PSt)(s:StepS):(addStep st s).wher.length=st.wher.length+1:=by simp[addStep]
def more (t:Nat):Nat:=if t<=2 then 1 else 0
theorem jQdd (ws:List Word):∀f t st,st.pos<=(cond ws f t st).pos/\(cond ws f t st).wher.length+2*st.pos<=st.wher.length+2*(cond ws f t st).pos+more t:=by
 intro f
 induction f with
 | zero=>intro t st;simp[cond]
 | succ f ih =>
  intro t st
  match t with
  | 0 =>
   rw[cond];have h1:=ih 1 st;have h2:=ih 3 (cond ws f 1 st);simp[more] at h1 h2 ⊢;omega
  | 1 =>
   rw[cond];have h1:=ih 2 st;have h2:=ih 4 (cond ws f 2 st);simp[more] at h1 h2 ⊢;omega
  | 2 =>
   rw[cond]
   split
   ·have h1:=ih 2 (step1 st);rw[jQbe];simp[more,step1] at h1 ⊢;show st.pos<=(cond ws f 2 _).pos/\_<=_+2*(cond ws f 2 _).pos+1;omega
   ·split
    ·have h1:=ih 0 (step1 st);have h2:=jQga ws (cond ws f 0 (step1 st)) bClose;rw[jQo];simp[more,step1] at h1 ⊢;simp[step1] at h2;omega
    ·have h1:=jQpC ws st;have h2:=jQn6 ws st;simp[more];omega
  | 3 =>
   rw[cond]
   split
   ·have h1:=ih 1 (step1 st);have h2:=ih 3 (addStep (cond ws f 1 (step1 st)) (opStep bOr));rw[jQbe] at h2;have h3:(addStep (cond ws f 1 (step1 st)) (opStep bOr)).pos=(cond ws f 1 (step1 st)).pos:=rfl;have h4:(step1 st).wher=st.wher:=rfl;have h5:(step1 st).pos=st.pos+1:=rfl;rw[h3] at h2;rw[h4,h5] at h1;simp only[more] at h1 h2 ⊢;simp at h1 h2 ⊢;omega
   ·simp[more]
  | t+4 =>
   rw[cond]
   split
   ·have h1:=ih 2 (step1 st);have h2:=ih 4 (addStep (cond ws f 2 (step1 st)) (opStep bAnd));rw[jQbe] at h2;have h3:(addStep (cond ws f 2 (step1 st)) (opStep bAnd)).pos=(cond ws f 2 (step1 st)).pos:=rfl;have h4:(step1 st).wher=st.wher:=rfl;have h5:(step1 st).pos=st.pos+1:=rfl;rw[h3] at h2;rw[h4,h5] at h1;simp only[more] at h1 h2 ⊢;simp at h1 h2 ⊢;omega
   ·simp[more]
theorem jQcz (ws:List Word)(st:PSt):(takeS ws st).cols=st.cols:=by unfold takeS;split<;>rfl
theorem jQji (ws:List Word)(st:PSt)(m:ByteArray):(acceptS ws st m).cols=st.cols:=by unfold acceptS;split<;>rfl
theorem jQa3 (ws:List Word)(st:PSt)(m:ByteArray):(wantS ws st m).cols=st.cols:=by unfold wantS;split<;>rfl
theorem jQbH (ws:List Word)(st:PSt):(nameS ws st).cols=st.cols:=by unfold nameS;split<;>exact jQcz ws st
theorem jQhR (ws:List Word)(st:PSt):(kindS ws st).cols=st.cols:=by
 unfold kindS;split
 ·exact jQji ws st _
 ·exact jQa3 ws st _
theorem jQec (ws:List Word)(st:PSt):(takeS ws st).vals=st.vals:=by unfold takeS;split<;>rfl
theorem jQjg (ws:List Word)(st:PSt)(m:ByteArray):(acceptS ws st m).vals=st.vals:=by unfold acceptS;split<;>rfl
theorem jQhd (ws:List Word)(st:PSt)(m:ByteArray):(wantS ws st m).vals=st.vals:=by unfold wantS;split<;>rfl
theorem jQnb (ws:List Word)(st:PSt):(nameS ws st).vals=st.vals:=by unfold nameS;split<;>exact jQec ws st
theorem jQj3 (ws:List Word)(st:PSt):(litS ws st).vals=st.vals:=by
 have h:(takeS ws (acceptS ws st bMinus)).vals=st.vals:=by rw[jQec,jQjg]
 unfold litS
 repeat (first | exact h | split)
theorem jQed (ws:List Word)(st:PSt):(takeS ws st).sets=st.sets:=by unfold takeS;split<;>rfl
theorem jQjh (ws:List Word)(st:PSt)(m:ByteArray):(acceptS ws st m).sets=st.sets:=by unfold acceptS;split<;>rfl
theorem jQa2 (ws:List Word)(st:PSt)(m:ByteArray):(wantS ws st m).sets=st.sets:=by unfold wantS;split<;>rfl
theorem jQbG (ws:List Word)(st:PSt):(nameS ws st).sets=st.sets:=by unfold nameS;split<;>exact jQed ws st
theorem jQph (ws:List Word)(st:PSt):(litS ws st).sets=st.sets:=by
 have h:(takeS ws (acceptS ws st bMinus)).sets=st.sets:=by rw[jQed,jQjh]
 unfold litS
 repeat (first | exact h | split)
theorem jQau (ws:List Word)(st:PSt):(termS ws st).sets=st.sets:=by
 unfold termS;split
 ·rfl
 ·exact jQph ws st
theorem jQfC (ws:List Word)(st:PSt):(takeS ws st).items=st.items:=by unfold takeS;split<;>rfl
theorem jQkH (ws:List Word)(st:PSt)(m:ByteArray):(wantS ws st m).items=st.items:=by unfold wantS;split<;>rfl
theorem jQc6 (ws:List Word)(st:PSt):(nameS ws st).items=st.items:=by unfold nameS;split<;>exact jQfC ws st
def whereS (ws:List Word)(st:PSt):PSt:=if acceptB ws st bWhere then cond ws (8*ws.length+7) 0 (step1 st) else st
end Sq
section
open Go.RowKit
theorem jQ3 {pb:Nat}{lv:Value}{ws:List Sq.Word}{r:Rw}{w:World}{st:PSt}(m:ByteArray)(h:PS pb lv ws r w st) :
  Calls Tryz.prog 183 #[.pointer (some ⟨pb,0,none⟩),.string m] w fun e w'=>e=.returned (.tuple #[])/\PS pb lv ws r w' (wantS ws st m)/\Tch pb w w':=by
 have H:Hid _:=h;clear h;go_enter Tryz.func183,Tryz.ntmps183;go_wp2_with fail;refine(jQJ m H.o).mono ?_;rintro e w1 ⟨rfl,hp1,ht1⟩;obtain⟨d1,g1,d2,g2,hlt1⟩:=hp1.later (bR);cases hB:Sq.acceptB ws st m
 ·have e1:Sq.acceptS ws st m=st:=by unfold Sq.acceptS;rw[hB];rfl
  rw[e1] at hp1 d1 d2;have HP:Hid _:=hp1;have HE:Hid (wantS ws st m=Sq.fail st):=by show _=_;unfold wantS;rw[hB];rfl
  clear hp1 e1 hB;go_wp2;go_end0;have ht:Tch pb w1 (w1.setCell ⟨pb,2,none⟩ (.bool true)):=(Tch.refl _ _).store (.inl rfl) _;exact⟨rfl,by rw[HE.o];exact HP.o.bad_end (bR) ht rfl,ht1.trans ht⟩
 ·have e1:Sq.acceptS ws st m=wantS ws st m:=by unfold Sq.acceptS wantS;rw[hB];rfl
  rw[e1] at hp1;have HP:Hid _:=hp1;clear hp1 e1 hB d1 d2;go_wp2;go_end0;exact⟨rfl,HP.o,ht1⟩
theorem jQay {pb:Nat}{lv:Value}{ws:List Sq.Word}{r:Rw}{w:World}{st:PSt}(h:PS pb lv ws r w st) :
  Calls Tryz.prog 184 #[.pointer (some ⟨pb,0,none⟩)] w fun e w'=>e=.returned (.string (Sq.nameR ws st))/\PS pb lv ws r w' (Sq.nameS ws st)/\Tch pb w w':=by
 obtain⟨x,hx⟩:∃x,x=Sq.nextW ws st:=⟨_,rfl⟩;have HX:Hid _:=hx;have H:Hid _:=h;clear h hx;go_enter Tryz.func184,Tryz.ntmps184;go_wp2_with fail;refine(jQiz H.o).mono ?_;rintro e w1 ⟨rfl,hp1,ht1⟩;rw[<-HX.o];obtain⟨d1,g1,d2,g2,hlt1⟩:=hp1.later (bR);have HP:Hid _:=hp1;clear hp1;cases hk:x.kind==2
 ·have HE:Hid (Sq.nameS ws st=Sq.fail (Sq.takeS ws st)/\Sq.nameR ws st=nobytes):=by refine⟨?_,?_⟩<;>(first | unfold Sq.nameS | unfold Sq.nameR)<;>rw[<-HX.o,hk]<;>rfl
  have ha:(x.kind != 2)=true:=by simp[bne,hk]
  go_wp2;go_ret;have ht:Tch pb w1 ((w1.setCell ⟨pb,2,none⟩ (.bool true)).alloc (.cells #[.int .i64 x.kind,.string x.text] 198)):=((Tch.refl _ _).store (.inl rfl) _).alloc _;exact⟨by rw[HE.o.2];rfl,by rw[HE.o.1];exact HP.o.bad_end (bR) ht (by rw[Below.heap_alloc _ _ _ (by simpa using hlt1)]),ht1.trans ht⟩
 ·have HE:Hid (Sq.nameS ws st=Sq.takeS ws st/\Sq.nameR ws st=x.text):=by refine⟨?_,?_⟩<;>(first | unfold Sq.nameS | unfold Sq.nameR)<;>rw[<-HX.o,hk]<;>rfl
  have ha:(x.kind != 2)=false:=by simp[bne,hk]
  clear hk;go_wp2;go_ret;exact⟨by rw[HE.o.2];rfl,by rw[HE.o.1];exact HP.o.alloc _,ht1.alloc _⟩
theorem jQne {pb:Nat}{lv:Value}{ws:List Sq.Word}{r:Rw}{w:World}{st:PSt}(h:PS pb lv ws r w st) :
  Calls Tryz.prog 138 #[.pointer (some ⟨pb,0,none⟩)] w fun e w'=>e=.returned (.string (Sq.markR ws st))/\PS pb lv ws r w' (Sq.takeS ws st)/\Tch pb w w':=by
 obtain⟨x,hx⟩:∃x,x=Sq.nextW ws st:=⟨_,rfl⟩;have HX:Hid _:=hx;have H:Hid _:=h;clear h hx;go_enter Tryz.func138,Tryz.ntmps138;go_wp2_with fail;refine(jQiz H.o).mono ?_;rintro e w1 ⟨rfl,hp1,ht1⟩;rw[<-HX.o];have HP:Hid _:=hp1;clear hp1;cases hk:x.kind==1
 ·have HE:Hid (Sq.markR ws st=nobytes):=by show _=_;unfold Sq.markR;rw[<-HX.o,hk];rfl
  have ha:(x.kind != 1)=true:=by simp[bne,hk]
  go_wp2;go_ret;exact⟨by rw[HE.o];rfl,HP.o.alloc _,ht1.alloc _⟩
 ·have HE:Hid (Sq.markR ws st=x.text):=by show _=_;unfold Sq.markR;rw[<-HX.o,hk];rfl
  have ha:(x.kind != 1)=false:=by simp[bne,hk]
  clear hk;go_wp2;go_ret;exact⟨by rw[HE.o];rfl,HP.o.alloc _,ht1.alloc _⟩
theorem jQqL {pb:Nat}{lv:Value}{ws:List Sq.Word}{r:Rw}{w:World}{st:PSt}(h:PS pb lv ws r w st) :
  Calls Tryz.prog 186 #[.pointer (some ⟨pb,0,none⟩)] w fun e w'=>e=.returned (.int .i64 (Sq.kindR ws st))/\PS pb lv ws r w' (Sq.kindS ws st)/\Tch pb w w':=by
 have H:Hid _:=h;clear h;go_enter Tryz.func186,Tryz.ntmps186;go_wp2_with fail;refine(jQJ Sq.bText H.o).mono ?_;rintro e w1 ⟨rfl,hp1,ht1⟩;have HP:Hid _:=hp1;clear hp1;cases hB:Sq.acceptB ws st Sq.bText
 ·have HE:Hid (Sq.kindR ws st=0/\Sq.kindS ws st=wantS ws st Sq.bInt/\Sq.acceptS ws st Sq.bText=st):=by refine⟨?_,?_,?_⟩<;>(first | unfold Sq.kindR | unfold Sq.kindS | unfold Sq.acceptS)<;>rw[hB]<;>rfl
  have h1:=HP.o;rw[HE.o.2.2] at h1;have HQ:Hid _:=h1;clear h1;go_wp2_with fail;refine(jQ3 Sq.bInt HQ.o).mono ?_;rintro e w2 ⟨rfl,hp2,ht2⟩;have ha:Hid _:=hp2;clear hp2;go_wp2;go_ret;exact⟨by rw[HE.o.1];rfl,by rw[HE.o.2.1];exact ha.o,ht1.trans ht2⟩
 ·have HE:Hid (Sq.kindR ws st=1/\Sq.kindS ws st=Sq.acceptS ws st Sq.bText):=by refine⟨?_,?_⟩<;>(first | unfold Sq.kindR | unfold Sq.kindS)<;>rw[hB]<;>rfl
  go_wp2;go_ret;exact⟨by rw[HE.o.1];rfl,by rw[HE.o.2];exact HP.o,ht1⟩
end
section
open Go.RowKit
theorem jQeB (t:ByteArray)(w:World)(hs:t.size<=9) :
  Calls Tryz.prog 226 #[.string t] w fun e w'=>e=.returned (.int .i64 (Sq.num t))/\w'=w:=by
 go_enter Tryz.func226,Tryz.ntmps226;go_wp2
 go_loop [3,4] (fun n i=>∃k:Nat,k<=t.size/\i=.int .i64 k/\n=.int .i64 (Sq.numL (t.data.toList.take k))) (fun _ i=>t.size-(intOf i).toNat)
 case atStart=>exact⟨0,zR,rfl,rfl⟩
 case round =>
  obtain⟨k,hk,rfl,rfl⟩:=hrel;have hl:(t.data.toList.take k).length<=9:=by simp;omega
  obtain⟨n0,n1⟩:=Sq.jQhL _ hl
  by_cases hlt:k<t.size
  ·have ha:t.data.toList.take (k+1)=t.data.toList.take k++[t[k]]:=by
    rw[List.take_succ_eq_append_getElem (by simpa using hlt)];rfl
   have HS:Hid (Sq.numL (t.data.toList.take (k+1))=Sq.numL (t.data.toList.take k)*10+Sq.dv t[k]):=by show _=_;rw[ha,Sq.jQo9]
   clear ha;obtain⟨n,hn⟩:∃n,n=Sq.numL (t.data.toList.take k):=⟨_,rfl⟩;rw[<-hn] at n0 n1;have HN:Hid _:=hn;rw[<-hn];clear hn;go_wp2;go_round
   case rel=>exact⟨k+1,by omega,by go_num,by rw[HS.o,<-HN.o];rfl⟩
   case measure=>simp[intOf];omega
  ·go_wp2;go_ret;exact⟨by unfold Sq.num;rw[List.take_of_length_le (by simp;omega)];rfl,rfl⟩
theorem jQar (n:Int)(w:World) :
  Calls Tryz.prog 203 #[.int .i64 n] w fun e w'=>e=.returned (.agg #[.int .i64 0,.int .i64 n,.string ⟨#[]⟩])/\Below w.heap.size w w':=by
 go_enter Tryz.func203,Tryz.ntmps203;go_wp2;exact bodyPost_ret (v:=.agg #[.int .i64 0,.int .i64 n,.string ⟨#[]⟩]) (by simp[results,Tryz.results203,go_sem]) rfl ⟨rfl,(bR).alloc (nR) _⟩
theorem jQcV (t:ByteArray)(w:World) :
  Calls Tryz.prog 204 #[.string t] w fun e w'=>e=.returned (.agg #[.int .i64 1,.int .i64 0,.string t])/\Below w.heap.size w w':=by
 go_enter Tryz.func204,Tryz.ntmps204;go_wp2;exact bodyPost_ret (v:=.agg #[.int .i64 1,.int .i64 0,.string t]) (by simp[results,Tryz.results204,go_sem]) rfl ⟨rfl,(bR).alloc (nR) _⟩
theorem PS.keep {pb:Nat}{lv:Value}{ws:List Sq.Word}{r:Rw}{w w2 w':World}{st st2:PSt}(h:PS pb lv ws r w st)(h2:PS pb lv ws r w2 st2)(hb:Below w.heap.size w2 w'):PS pb lv ws r w' st2:=by
 have k:∀{v:Value} {base base':Nat} {e e':TypeId} {size size' n n':Nat} {xs xs':List Value},w.ownsRow base' e' size' v n' xs'->w2.ownsRow base e size v n xs->w'.ownsRow base e size v n xs :=
  fun ho h2=>jQq h2 fun g hg=>hb.block g (ho.lt g hg).2
 exact⟨by rw[hb.block pb h.lt];exact h2.blk,k h.list h2.list,h2.small,h2.wf,h2.inside,k h.cols h2.cols,k h.vals h2.vals,k h.sets h2.sets,k h.items h2.items,k h.wher h2.wher⟩
theorem Tch.then {pb:Nat}{w w2 w':World}(h:Tch pb w w2)(hb:Below w.heap.size w2 w'):Tch pb w w' :=
 ⟨hb.os.trans h.os,hb.tape.trans h.tape,hb.output.trans h.output,Nat.le_trans h.size hb.size,fun i hi hn=>(hb.block i hi).trans (h.block i hi hn)⟩
theorem Tch.cells {pb:Nat}{W w1:World}(h:Tch pb W w1):(∀b o,b<W.heap.size->b≠pb->w1.cell? ⟨b,o,none⟩=W.cell? ⟨b,o,none⟩)/\(∀b o,b<W.heap.size->b≠pb->w1.frozen? ⟨b,o,none⟩=W.frozen? ⟨b,o,none⟩) :=
 ⟨fun b o hb hn=>World.cell?_of_block (w:=W) (h.block b hb (by simp;exact hn)),fun b o hb hn=>World.frozen?_of_block (w:=W) (h.block b hb (by simp;exact hn))⟩
theorem jQfQ {pb:Nat}{lv:Value}{ws:List Sq.Word}{r:Rw}{w:World}{st:PSt}(h:PS pb lv ws r w st) :
  Calls Tryz.prog 215 #[.pointer (some ⟨pb,0,none⟩)] w fun e w'=>e=.returned (.agg #[.int .i64 (Sq.litR ws st).kind,.int .i64 (Sq.litR ws st).number,.string (Sq.litR ws st).text])/\PS pb lv ws r w' (Sq.litS ws st)/\Tch pb w w':=by
 have hu:=h.lt;have hi:w.heap.size≠pb:=by omega
 have H:Hid _:=h;clear h;go_enter Tryz.func215,Tryz.ntmps215;go_wp2_with fail;refine(jQJ Sq.bMinus (H.o.alloc _)).mono ?_;rintro e w1 ⟨rfl,hp1,ht1⟩;have hr:Hid _:=hp1;clear hp1;go_wp2_with fail;refine(jQiz hr.o).mono ?_;rintro e w2 ⟨rfl,hp2,ht2⟩;have ho:Hid _:=hp2;clear hp2;obtain⟨x,hx⟩:∃x,x=Sq.nextW ws (Sq.acceptS ws st Sq.bMinus):=⟨_,rfl⟩;rw[<-hx];have hs:Hid (x.kind=3->x.text.size<=9):=by show _->_;rw[hx];exact Sq.jQqF ws _ H.o.wf
 have ht:=ht1.trans ht2;have hj:Tch pb w w2:=((Tch.refl pb w).alloc _).trans ht;obtain⟨k1,k2⟩:=ht.cells;have c0:=k1 w.heap.size 0 (by simp) hi;have c1:=k1 w.heap.size 1 (by simp) hi;have c2:=k1 w.heap.size 2 (by simp) hi;have f0:=k2 w.heap.size 0 (by simp) hi;have f1:=k2 w.heap.size 1 (by simp) hi;have f2:=k2 w.heap.size 2 (by simp) hi;simp[go_sem] at c0 c1 c2 f0 f1 f2;have hz:w.heap.size<w2.heap.size:=by have:=ht.size;simp at this;omega
 obtain⟨d1,g1,d2,g2,hlt2⟩:=ho.o.later (bR);clear k1 k2 ht ht1 ht2;obtain⟨m,hm⟩:∃m,m=Sq.acceptB ws st Sq.bMinus:=⟨_,rfl⟩;rw[<-hm];have he:Hid (Sq.litR ws st=if x.kind==3 then(if m then⟨0,-Sq.num x.text,nobytes⟩ else⟨0,Sq.num x.text,nobytes⟩) else if x.kind==4 && !m then⟨1,0,x.text⟩ else Sq.val0):=by show _=_;rw[hx,hm];rfl
 have hf:Hid (Sq.litS ws st=if x.kind==3 then Sq.takeS ws (Sq.acceptS ws st Sq.bMinus) else if x.kind==4 && !m then Sq.takeS ws (Sq.acceptS ws st Sq.bMinus) else Sq.fail (Sq.takeS ws (Sq.acceptS ws st Sq.bMinus))):=by show _=_;rw[hx,hm];rfl
 clear hx hm
 have ext:Hid (∀w3,Below w2.heap.size w2 w3->w3.cell? ⟨w.heap.size,0,none⟩=some (.int .i64 0)/\w3.cell? ⟨w.heap.size,1,none⟩=some (.int .i64 0)/\w3.cell? ⟨w.heap.size,2,none⟩=some (.string ⟨#[]⟩)/\w3.frozen? ⟨w.heap.size,0,none⟩=false/\w3.frozen? ⟨w.heap.size,1,none⟩=false/\w3.frozen? ⟨w.heap.size,2,none⟩=false):=by
  intro w3 hb;obtain⟨k1,k2⟩:=bcell hb;exact⟨(k1 _ _ hz).trans c0,(k1 _ _ hz).trans c1,(k1 _ _ hz).trans c2,(k2 _ _ hz).trans f0,(k2 _ _ hz).trans f1,(k2 _ _ hz).trans f2⟩
 have fin:Hid (∀w3 (v0 v1 v2:Value),Below w2.heap.size w2 w3->PS pb lv ws r (((w3.setCell ⟨w.heap.size,0,none⟩ v0).setCell ⟨w.heap.size,1,none⟩ v1).setCell ⟨w.heap.size,2,none⟩ v2) (Sq.takeS ws (Sq.acceptS ws st Sq.bMinus))/\Tch pb w (((w3.setCell ⟨w.heap.size,0,none⟩ v0).setCell ⟨w.heap.size,1,none⟩ v1).setCell ⟨w.heap.size,2,none⟩ v2)):=by
  intro w3 v0 v1 v2 hb;have hc:Below w.heap.size w2 (((w3.setCell ⟨w.heap.size,0,none⟩ v0).setCell ⟨w.heap.size,1,none⟩ v1).setCell ⟨w.heap.size,2,none⟩ v2):=(((Below.mono (B':=w.heap.size) hb (by omega)).setCell (nR) _).setCell (nR) _).setCell (nR) _;exact⟨H.o.keep ho.o hc,hj.then hc⟩
 cases hk:x.kind==3
 case true =>
  have hn:=hs.o (eq_of_beq hk);obtain⟨n0,n1⟩:=Sq.jQo8 _ hn;cases m
  case true =>
   have HR:=he.o;have HS:=hf.o;rw[hk] at HR HS;have hg:Hid _:=HR;have hh:Hid _:=HS;clear he hf HR HS;go_wp2_with (first | (go_at_call 226;refine(jQeB _ _ hn).mono ?_;rintro e w' ⟨rfl,rfl⟩) | (go_at_call 203;refine(jQar _ _).mono ?_;rintro e w3 ⟨rfl,hb3⟩;have ha:=((Below.refl _ w2).alloc (nR) _).trans (hb3.mono (by simp));obtain⟨p0,p1,p2,q0,q1,q2⟩:=ext.o w3 ha));exact bodyPost_ret (v:=.agg #[.int .i64 0,.int .i64 (-Sq.num x.text),.string ⟨#[]⟩]) (by simp[results,Tryz.results215,go_sem, *]) rfl ⟨by rw[hg.o];rfl,by rw[hh.o];exact(fin.o w3 _ _ _ ha).1,(fin.o w3 _ _ _ ha).2⟩
  case false =>
   have HR:=he.o;have HS:=hf.o;rw[hk] at HR HS;have hg:Hid _:=HR;have hh:Hid _:=HS;clear he hf HR HS;go_wp2_with (first | (go_at_call 226;refine(jQeB _ _ hn).mono ?_;rintro e w' ⟨rfl,rfl⟩) | (go_at_call 203;refine(jQar _ _).mono ?_;rintro e w3 ⟨rfl,hb3⟩;have ha:=((Below.refl _ w2).alloc (nR) _).trans (hb3.mono (by simp));obtain⟨p0,p1,p2,q0,q1,q2⟩:=ext.o w3 ha));exact bodyPost_ret (v:=.agg #[.int .i64 0,.int .i64 (Sq.num x.text),.string ⟨#[]⟩]) (by simp[results,Tryz.results215,go_sem, *]) rfl ⟨by rw[hg.o];rfl,by rw[hh.o];exact(fin.o w3 _ _ _ ha).1,(fin.o w3 _ _ _ ha).2⟩
 cases hk4:(x.kind==4 && !m)
 case true =>
  have hl:(x.kind==4)=true/\m=false:=by simpa using hk4
  obtain⟨h4,rfl⟩:=hl;have HR:=he.o;have HS:=hf.o;rw[hk,hk4] at HR HS;have hg:Hid _:=HR;have hh:Hid _:=HS;clear he hf HR HS hk4;go_wp2_with (first | (go_at_call 204;refine(jQcV _ _).mono ?_;rintro e w3 ⟨rfl,hb3⟩;have ha:=((Below.refl _ w2).alloc (nR) _).trans (hb3.mono (by simp));obtain⟨p0,p1,p2,q0,q1,q2⟩:=ext.o w3 ha));exact bodyPost_ret (v:=.agg #[.int .i64 1,.int .i64 0,.string x.text]) (by simp[results,Tryz.results215,go_sem, *]) rfl ⟨by rw[hg.o];rfl,by rw[hh.o];exact(fin.o w3 _ _ _ ha).1,(fin.o w3 _ _ _ ha).2⟩
 case false =>
  have HR:=he.o;have HS:=hf.o;rw[hk,hk4] at HR HS;have hg:Hid _:=HR;have hh:Hid _:=HS;clear he hf HR HS;have hq:PS pb lv ws r (w2.setCell ⟨pb,2,none⟩ (.bool true)) (Sq.fail (Sq.takeS ws (Sq.acceptS ws st Sq.bMinus))):=ho.o.bad_end (bR) ((Tch.refl _ _).store (.inl rfl) _) rfl;have hp:Hid _:=hq;clear hq;cases h4:x.kind==4
  case false =>
   clear hk4;go_wp2;have hc:Below w.heap.size (w2.setCell ⟨pb,2,none⟩ (.bool true)) (((((w2.setCell ⟨pb,2,none⟩ (.bool true)).setCell ⟨w.heap.size,0,none⟩ (.int .i64 0)).setCell ⟨w.heap.size,1,none⟩ (.int .i64 0)).setCell ⟨w.heap.size,2,none⟩ (.string ⟨#[]⟩)).alloc (.cells #[.int .i64 x.kind,.string x.text] 198)):=Below.alloc (B:=w.heap.size) ((((Below.refl w.heap.size _).setCell (nR) _).setCell (nR) _).setCell (nR) _) (by simp;omega) _;exact bodyPost_ret (v:=.agg #[.int .i64 0,.int .i64 0,.string ⟨#[]⟩]) (by simp[results,Tryz.results215,go_sem, *]) rfl ⟨by rw[hg.o];rfl,by rw[hh.o];exact H.o.keep hp.o hc,(hj.store (.inl rfl) _).then hc⟩
  case true =>
   have hm:m=true:=by cases m<;>simp_all
   subst hm;clear hk4;go_wp2;have hc:Below w.heap.size (w2.setCell ⟨pb,2,none⟩ (.bool true)) (((((w2.setCell ⟨pb,2,none⟩ (.bool true)).setCell ⟨w.heap.size,0,none⟩ (.int .i64 0)).setCell ⟨w.heap.size,1,none⟩ (.int .i64 0)).setCell ⟨w.heap.size,2,none⟩ (.string ⟨#[]⟩)).alloc (.cells #[.int .i64 x.kind,.string x.text] 198)):=Below.alloc (B:=w.heap.size) ((((Below.refl w.heap.size _).setCell (nR) _).setCell (nR) _).setCell (nR) _) (by simp;omega) _;exact bodyPost_ret (v:=.agg #[.int .i64 0,.int .i64 0,.string ⟨#[]⟩]) (by simp[results,Tryz.results215,go_sem, *]) rfl ⟨by rw[hg.o];rfl,by rw[hh.o];exact H.o.keep hp.o hc,(hj.store (.inl rfl) _).then hc⟩
end
section
open Go.RowKit
theorem jQcZ {pb:Nat}{lv:Value}{ws:List Sq.Word}{r:Rw}{w:World}{st:PSt}(h:PS pb lv ws r w st) :
  Calls Tryz.prog 216 #[.pointer (some ⟨pb,0,none⟩)] w fun e w'=>e=.returned (.agg #[.string (Sq.termR ws st).column,.int .i64 (Sq.termR ws st).lit.kind,.int .i64 (Sq.termR ws st).lit.number,.string (Sq.termR ws st).lit.text])/\PS pb lv ws r w' (Sq.termS ws st)/\Tch pb w w':=by
 have hl:=h.lt;have hm:=h.small;have hn:=h.inside;have ha:w.heap.size≠pb:=by omega
 obtain⟨x,hx⟩:∃x,x=Sq.nextW ws st:=⟨_,rfl⟩;have HX:Hid _:=hx;have H:Hid _:=h;clear h hx;go_enter Tryz.func216,Tryz.ntmps216;go_wp2_with fail;refine(jQiP (H.o.alloc _)).mono ?_;rintro e w1 ⟨rfl,hb1⟩;rw[<-HX.o];have hz:w.heap.size<w1.heap.size:=by have:=hb1.size;simp at this;omega
 have hb:Below w.heap.size w w1:=((Below.refl _ w).alloc (nR) _).trans (hb1.mono (by simp));obtain⟨k1,k2⟩:=bcell hb1;have c0:=k1 w.heap.size 0 (by simp);have c1:=k1 w.heap.size 1 (by simp);have c2:=k1 w.heap.size 2 (by simp);have c3:=k1 w.heap.size 3 (by simp);have f0:=k2 w.heap.size 0 (by simp);have f1:=k2 w.heap.size 1 (by simp);have f2:=k2 w.heap.size 2 (by simp);have f3:=k2 w.heap.size 3 (by simp);simp[go_sem] at c0 c1 c2 c3 f0 f1 f2 f3;obtain⟨d1,g1,d2,g2,hlt1⟩:=H.o.later hb;clear k1 k2 hb1;cases hk:x.kind==2
 case true =>
  have hi:st.pos<ws.length:=Sq.jQcG ws st (by rw[<-HX.o,eq_of_beq hk];decide);have HE:Hid (Sq.termR ws st=⟨x.text,Sq.val0⟩/\Sq.termS ws st=Sq.step1 st):=by refine⟨?_,?_⟩<;>(first | unfold Sq.termR | unfold Sq.termS)<;>rw[<-HX.o,hk]<;>rfl
  have hf:PS pb lv ws r (w1.setCell ⟨pb,1,none⟩ (.int .i64 ((st.pos:Int)+1))) (Sq.step1 st):=H.o.pos_end hb ((Tch.of hb).store (.inl rfl) _) hi rfl;have HP:Hid _:=hf;clear hf;go_wp2;have he:Below w.heap.size (w1.setCell ⟨pb,1,none⟩ (.int .i64 ((st.pos:Int)+1))) ((((((w1.setCell ⟨pb,1,none⟩ (.int .i64 ((st.pos:Int)+1))).setCell ⟨w.heap.size,0,none⟩ (.string x.text)).setCell ⟨w.heap.size,1,none⟩ (.int .i64 0)).setCell ⟨w.heap.size,2,none⟩ (.int .i64 0)).setCell ⟨w.heap.size,3,none⟩ (.string ⟨#[]⟩)).alloc (.cells #[.int .i64 x.kind,.string x.text] 198)):=Below.alloc (B:=w.heap.size) (((((Below.refl w.heap.size _).setCell (nR) _).setCell (nR) _).setCell (nR) _).setCell (nR) _) (by simp;omega) _;exact bodyPost_ret (v:=.agg #[.string x.text,.int .i64 0,.int .i64 0,.string ⟨#[]⟩]) (by simp[results,Tryz.results216,go_sem, *]) rfl ⟨by rw[HE.o.1];rfl,by rw[HE.o.2];exact H.o.keep HP.o he,((Tch.of hb).store (.inl rfl) _).then he⟩
 case false =>
  have HE:Hid (Sq.termR ws st=⟨nobytes,Sq.litR ws st⟩/\Sq.termS ws st=Sq.litS ws st):=by refine⟨?_,?_⟩<;>(first | unfold Sq.termR | unfold Sq.termS)<;>rw[<-HX.o,hk]<;>rfl
  have hc:=(H.o.below hb).alloc (.cells #[.int .i64 x.kind,.string x.text] 198);have hh:Hid _:=hc;clear hc;go_wp2_with fail;refine(jQfQ hh.o).mono ?_;rintro e w2 ⟨rfl,hp2,ht2⟩;have hj:Hid _:=hp2;clear hp2;obtain⟨k1,k2⟩:=ht2.cells;have a0:=(k1 w.heap.size 0 (by simp;omega) ha).trans (World.cell?_alloc_past _ _ _ hz);have a1:=(k1 w.heap.size 1 (by simp;omega) ha).trans (World.cell?_alloc_past _ _ _ hz);have a2:=(k1 w.heap.size 2 (by simp;omega) ha).trans (World.cell?_alloc_past _ _ _ hz);have a3:=(k1 w.heap.size 3 (by simp;omega) ha).trans (World.cell?_alloc_past _ _ _ hz);have b0:=(k2 w.heap.size 0 (by simp;omega) ha).trans (World.frozen?_alloc_past _ _ _ hz);have b1:=(k2 w.heap.size 1 (by simp;omega) ha).trans (World.frozen?_alloc_past _ _ _ hz);have b2:=(k2 w.heap.size 2 (by simp;omega) ha).trans (World.frozen?_alloc_past _ _ _ hz);have b3:=(k2 w.heap.size 3 (by simp;omega) ha).trans (World.frozen?_alloc_past _ _ _ hz);rw[c0] at a0;rw[c1] at a1;rw[c2] at a2;rw[c3] at a3;rw[f0] at b0;rw[f1] at b1;rw[f2] at b2;rw[f3] at b3;have ho:w.heap.size<w2.heap.size:=by have:=ht2.size;simp at this;omega
  have hg:Tch pb w w2:=((Tch.of hb).alloc _).trans ht2;clear c0 c1 c2 c3 f0 f1 f2 f3 k1 k2 ht2 d1 d2 g1 g2;go_wp2;have he:∀v0 v1 v2 v3 o,Below w.heap.size w2 (((((w2.setCell ⟨w.heap.size,0,none⟩ v0).setCell ⟨w.heap.size,1,none⟩ v1).setCell ⟨w.heap.size,2,none⟩ v2).setCell ⟨w.heap.size,3,none⟩ v3).alloc o):=fun v0 v1 v2 v3 o=>Below.alloc (B:=w.heap.size) (((((Below.refl w.heap.size _).setCell (nR) _).setCell (nR) _).setCell (nR) _).setCell (nR) _) (by simp;omega) _
  exact bodyPost_ret (v:=.agg #[.string ⟨#[]⟩,.int .i64 (Sq.litR ws st).kind,.int .i64 (Sq.litR ws st).number,.string (Sq.litR ws st).text]) (by simp[results,Tryz.results216,go_sem, *]) rfl ⟨by rw[HE.o.1];rfl,by rw[HE.o.2];exact H.o.keep hj.o (he _ _ _ _ _),hg.then (he _ _ _ _ _)⟩
theorem jQaP (s:ByteArray)(w:World) :
  Calls Tryz.prog 194 #[.string s] w fun e w'=>e=.returned (.bool (Sq.isComparison s))/\w'=w:=by
 unfold Sq.isComparison Sq.comparisons;go_enter Tryz.func194,Tryz.ntmps194;go_wp2
 all_goals
  go_ret;exact⟨by rw[<-ByteArray.toList_eq];simp_all,rfl⟩
theorem Tryz.infoStep:(Tryz.prog.info? 217).map (fun i=>(i.zero,i.size,i.bytes))=some (some (.agg (Sq.StepS.cells ⟨nobytes,Sq.term0,Sq.term0⟩).toArray),9,112):=by kernel_rfl
end
end Go.Proofs.YtahpihjialbanaaGreatDoor
