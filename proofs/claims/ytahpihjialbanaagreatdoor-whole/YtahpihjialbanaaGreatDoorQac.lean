import Derived.Deep.LoopGhost
import Derived.Deep.RegionLaw
import Derived.Test.YtahpihjialbanaaGreatDoorQab
set_option linter.unusedVariables false
set_option linter.unusedSimpArgs false
set_option maxRecDepth 100000
set_option maxHeartbeats 1000000
namespace Go.Proofs.YtahpihjialbanaaGreatDoor
open Sq (PSt)
section
open Go.RowKit
theorem PS.blk_other {pb:Nat}{lv:Value}{ws:List Sq.Word}{r:Rw}{w w':World}{st:PSt}(h:PS pb lv ws r w st){v:Value}{base:Nat}{e:TypeId}{size n:Nat}{xs:List Value}(ho:w.ownsRow base e size v n xs)(hne:e≠160)(hg:w.grownBy w' v.ownBlock) :
  w'.heap[pb]?=w.heap[pb]?:=hg.block pb h.lt (fun e=>jQn ho h.blk hne e.symm)
theorem jQx {w w':World}{v v2:Value}{base base2:Nat}{e e2:TypeId}{size size2 n n2:Nat}{xs xs2:List Value}(h2:w.ownsRow base2 e2 size2 v2 n2 xs2)(ho:w.ownsRow base e size v n xs)(hne:e2≠e)(hg:w.grownBy w' v.ownBlock):w'.ownsRow base2 e2 size2 v2 n2 xs2 :=
 jQq h2 fun g hg2=>hg.block g (h2.lt g hg2).2 (fun e=>jQhG h2 ho hne hg2 e.symm)
theorem jQv {w:World}{v:Value}{base pb o:Nat}{e:TypeId}{size n:Nat}{xs:List Value}(ho:w.ownsRow base e size v n xs){c:Array Value}{fr:Nat×Nat}(hb:w.heap[pb]?=some (.cells c 160 fr))(hne:e≠160)(x:Value):(w.setCell ⟨pb,o,none⟩ x).ownsRow base e size v n xs :=
 jQq ho fun g hg=>jQg (fun e=>jQn ho hb hne (by rw[hg,e]))
theorem PS.where_end {pb:Nat}{lv:Value}{ws:List Sq.Word}{r:Rw}{w w1:World}{st:PSt}(h:PS pb lv ws r w st)(s:Sq.StepS){g cap:Nat}
  (hown:w1.ownsRow (pb+1) 217 9 (.slice (some ⟨g,0,none⟩) (st.wher.length+1) cap) (st.wher.length+1) (st.wher.flatMap Sq.StepS.cells++s.cells)) (hg:w.grownBy w1 r.wv.ownBlock) :
  PS pb lv ws { r with wv:=.slice (some ⟨g,0,none⟩) (st.wher.length+1) cap } (w1.setCell ⟨pb,10,none⟩ (.slice (some ⟨g,0,none⟩) (st.wher.length+1) cap)) (Sq.addStep st s):=by
 have hb:=(h.blk_other h.wher (by decide) hg).trans h.blk
 refine⟨by rw[jQe hb];rfl,jQv (jQx h.list h.wher (by decide) hg) hb (by decide) _,h.small,h.wf,h.inside,jQv (jQx h.cols h.wher (by decide) hg) hb (by decide) _,jQv (jQx h.vals h.wher (by decide) hg) hb (by decide) _,
  jQv (jQx h.sets h.wher (by decide) hg) hb (by decide) _,jQv (jQx h.items h.wher (by decide) hg) hb (by decide) _,jQv ?_ hb (by decide) _⟩
 show w1.ownsRow (pb+1) 217 9 _ (st.wher++[s]).length ((st.wher++[s]).flatMap Sq.StepS.cells);rw[List.length_append,List.length_singleton,List.flatMap_append];simpa using hown
theorem Tch.of_grown {pb:Nat}{w w1:World}{row:Option Nat}(hg:w.grownBy w1 row)(h:∀k,row=some k->pb<=k)(hw:pb<=w.heap.size):Below pb w w1 :=
 ⟨hg.os,hg.tape,hg.output,hg.size,fun k hk=>hg.block k (by omega) (fun e=>by have:=h k e.symm;omega)⟩
theorem jQeg {pb:Nat}{lv:Value}{ws:List Sq.Word}{r:Rw}{w:World}{st:PSt}(s:Sq.StepS)(h:PS pb lv ws r w st)(hn:st.wher.length<=5000) :
  Calls Tryz.prog 228 #[.pointer (some ⟨pb,0,none⟩),.agg s.cells.toArray] w fun e w'=>e=.returned (.tuple #[])/\(∃r',PS pb lv ws r' w' (Sq.addStep st s))/\Below pb w w':=by
 obtain⟨i0,hi,hz0,hz1,hz2⟩:=info_parts Tryz.infoStep;have he:=h.lt;obtain⟨op,⟨lc,⟨lk,ln,lt⟩⟩,⟨rc,⟨rk,rn,rt⟩⟩⟩:=s;have H:Hid _:=h;have c10:w.cell? ⟨pb,10,none⟩=some r.wv:=by rw[jQb h.blk];rfl
 clear h;unfold Sq.StepS.cells;go_enter Tryz.func228,Tryz.ntmps228;go_wp2;have hW:Below w.heap.size w ((w.alloc (.cells #[.string op,.string lc,.int .i64 lk,.int .i64 ln,.string lt,.string rc,.int .i64 rk,.int .i64 rn,.string rt] 217)).alloc (.cells #[.string op,.string lc,.int .i64 lk,.int .i64 ln,.string lt,.string rc,.int .i64 rk,.int .i64 rn,.string rt] 217)).drew:=(((bR).alloc (nR) _).alloc (by simp) _).drew;have ha:=H.o.below hW;have HP:Hid _:=ha;have HW:Hid _:=hW;clear ha hW
 go_region_law (first
  | (refine step_append_lies _ rfl (.tmp 9) (.tmp 11) 116 rfl (pb+1) 217 i0 _ 9 112 Tryz.underlying116 hi hz0 hz1 hz2 rfl (by decide) r.wv st.wher.length (st.wher.flatMap Sq.StepS.cells) (by simp[Act.eval,Act.put]) HP.o.wher ⟨w.heap.size+1,0,none⟩ 1 1 [.string op,.string lc,.int .i64 lk,.int .i64 ln,.string lt,.string rc,.int .i64 rk,.int .i64 rn,.string rt] (by simp[Act.eval,Act.put]) rfl (by exact jQL (w.alloc _) _ _ _ rfl (by simp)) (by intro u hu;simp at hu;rcases hu with rfl | rfl | rfl | rfl | rfl | rfl | rfl | rfl | rfl<;>rfl) (by decide) (by unfold maxLen;omega) (by omega) (by simp;omega) _ rfl ?_;intro g cap w1 hown hgrow hat hltg;have hb:=(HP.o.blk_other HP.o.wher (by decide) hgrow).trans HP.o.blk;have k10:w1.cell? ⟨pb,10,none⟩=some r.wv:=(by rw[jQb hb];rfl);have f10:=jQd hb 10;have hc:=jQf hb;have HO:Hid _:=hown;have HG:Hid _:=hgrow;clear hown hgrow hat hb))
 all_goals
  go_end0;refine⟨rfl,⟨_,HP.o.where_end ⟨op,⟨lc,⟨lk,ln,lt⟩⟩,⟨rc,⟨rk,rn,rt⟩⟩⟩ HO.o HG.o⟩,?_⟩;refine Below.setCell (B:=pb) (Below.trans (Below.mono (B':=pb) HW.o (by omega)) (Tch.of_grown HG.o (fun k hk=>?_) (by simp;omega))) (nR) _;exact Nat.le_of_succ_le (HP.o.wher.lt k hk).1
end
section
open Go.RowKit
theorem Tch.four {pb:Nat}{W w1:World}{t:Sq.Term}{e:TypeId}(h:Tch pb (W.alloc (.cells #[.string t.column,.int .i64 t.lit.kind,.int .i64 t.lit.number,.string t.lit.text] e)) w1)(hne:W.heap.size≠pb) :
  w1.cell? ⟨W.heap.size,0,none⟩=some (.string t.column)/\w1.cell? ⟨W.heap.size,1,none⟩=some (.int .i64 t.lit.kind)/\w1.cell? ⟨W.heap.size,2,none⟩=some (.int .i64 t.lit.number)/\w1.cell? ⟨W.heap.size,3,none⟩=some (.string t.lit.text)/\W.heap.size<w1.heap.size:=by
 obtain⟨k1,k2⟩:=h.cells;have c0:=k1 W.heap.size 0 (by simp) hne;have c1:=k1 W.heap.size 1 (by simp) hne;have c2:=k1 W.heap.size 2 (by simp) hne;have c3:=k1 W.heap.size 3 (by simp) hne;simp[go_sem] at c0 c1 c2 c3;exact⟨c0,c1,c2,c3,by have:=h.size;simp at this;omega⟩
theorem jQgR {pb:Nat}{lv:Value}{ws:List Sq.Word}{r:Rw}{w:World}{st:PSt}(h:PS pb lv ws r w st)(hn:st.wher.length<=5000) :
  Calls Tryz.prog 237 #[.pointer (some ⟨pb,0,none⟩)] w fun e w'=>e=.returned (.tuple #[])/\(∃r',PS pb lv ws r' w' (Sq.compS ws st))/\Below pb w w':=by
 have ht:=h.lt;have H:Hid _:=h;clear h;go_enter Tryz.func237,Tryz.ntmps237;go_wp2_with fail;refine(jQcZ H.o).mono ?_;rintro e w1 ⟨rfl,hp1,ht1⟩;obtain⟨t1,ht1'⟩:∃t,t=Sq.termR ws st:=⟨_,rfl⟩;obtain⟨s1,hs1⟩:∃s,s=Sq.termS ws st:=⟨_,rfl⟩;rw[<-ht1'];rw[<-hs1] at hp1;have ho:Hid _:=ht1';have ha:Hid _:=hs1;have hu:=ht1.size;have hb:w1.heap.size≠pb:=by omega
 have hr:Hid _:=hp1;have he:Hid _:=ht1;clear hp1 ht1' hs1 ht1;go_wp2_with fail;refine(jQne (hr.o.alloc _)).mono ?_;rintro e w2 ⟨rfl,hp2,ht2⟩;obtain⟨sg,hsg⟩:∃s,s=Sq.markR ws s1:=⟨_,rfl⟩;rw[<-hsg];have hh:Hid _:=hsg;clear hsg;have hm:Hid _:=hp2;have hg:Hid _:=ht2;obtain⟨d1,g1,d2,g2,hlt2⟩:=hm.o.later (bR);clear hp2 ht2;cases hc:Sq.isComparison sg
 case true =>
  have HM:Hid (Sq.compMid ws st=Sq.takeS ws s1):=by show _=_;unfold Sq.compMid;rw[<-ha.o,<-hh.o,hc];rfl
  go_wp2_with (go_at_call 194;refine(jQaP _ _).mono ?_;rintro e w' ⟨rfl,rfl⟩;rw[hc]);refine(jQcZ hm.o).mono ?_;rintro e w3 ⟨rfl,hp3,ht3⟩;obtain⟨c0,c1,c2,c3,hz3⟩:=Tch.four (Tch.trans hg.o ht3) hb;have hf:=ht3.size;have hk:Hid _:=hp3;have hi:Hid _:=ht3;clear hp3 ht3;go_wp2_with fail;refine(jQeg ⟨sg,t1,Sq.termR ws (Sq.takeS ws s1)⟩ (hk.o.alloc _) (by rw[Sq.jQ8,Sq.jQam,ha.o,Sq.jQ8];exact hn)).mono ?_;rintro e w4 ⟨rfl,⟨r',hp4⟩,hb4⟩;have hj:Hid _:=hp4;clear hp4;go_wp2;go_end0;refine⟨rfl,⟨r',?_⟩,?_⟩
  ·have:=hj.o
   rw[<-HM.o,hh.o,ha.o,ho.o] at this;exact this
  ·exact(Tch.below (Tch.trans (Tch.alloc he.o _) (Tch.trans hg.o hi.o)) (nR) (by omega)).trans ((Below.alloc (B:=pb) (bR) (by omega) _).trans hb4)
 case false =>
  have HM:Hid (Sq.compMid ws st=Sq.fail (Sq.takeS ws s1)):=by show _=_;unfold Sq.compMid;rw[<-ha.o,<-hh.o,hc];rfl
  have hl:Tch pb w2 (w2.setCell ⟨pb,2,none⟩ (.bool true)):=(Tch.refl _ _).store (.inl rfl) _;have hp:Hid _:=hl;have hq:=hm.o.bad_end (bR) hl rfl;have hs:Hid _:=hq;clear hl hq;go_wp2_with (go_at_call 194;refine(jQaP _ _).mono ?_;rintro e w' ⟨rfl,rfl⟩;rw[hc]);refine(jQcZ hs.o).mono ?_;rintro e w3 ⟨rfl,hp3,ht3⟩;obtain⟨c0,c1,c2,c3,hz3⟩:=Tch.four (Tch.trans hg.o (Tch.trans hp.o ht3)) hb;have hf:=ht3.size;simp at hf;have hk:Hid _:=hp3;have hi:Hid _:=ht3;clear hp3 ht3;go_wp2_with fail;refine(jQeg ⟨sg,t1,Sq.termR ws (Sq.fail (Sq.takeS ws s1))⟩ (hk.o.alloc _) (by rw[Sq.jQ8];show(Sq.takeS ws s1).wher.length<=_;rw[Sq.jQam,ha.o,Sq.jQ8];exact hn)).mono ?_;rintro e w4 ⟨rfl,⟨r',hp4⟩,hb4⟩;have hj:Hid _:=hp4;clear hp4;go_wp2;go_end0;refine⟨rfl,⟨r',?_⟩,?_⟩
  ·have:=hj.o
   rw[<-HM.o,hh.o,ha.o,ho.o] at this;exact this
  ·exact(Tch.below (Tch.trans (Tch.alloc he.o _) (Tch.trans hg.o (Tch.trans hp.o hi.o))) (nR) (by omega)).trans ((Below.alloc (B:=pb) (bR) (by omega) _).trans hb4)
end
section
open Go.RowKit
def CondSaid (fn t k f:Nat):Prop :=
 ∀(pb:Nat) (lv:Value) (ws:List Sq.Word) (r:Rw) (w:World) (st:PSt),PS pb lv ws r w st->st.wher.length<=2*st.pos->8*(ws.length-st.pos)+k<=f ->
  Calls Tryz.prog fn #[.pointer (some ⟨pb,0,none⟩)] w fun e w'=>e=.returned (.tuple #[])/\(∃r',PS pb lv ws r' w' (Sq.cond ws f t st))/\Below pb w w'
theorem jQ9 {ws:List Sq.Word}{st:PSt}{m:ByteArray}(h:Sq.acceptB ws st m=true):st.pos<ws.length:=by
 unfold Sq.acceptB at h;simp at h;exact Sq.jQcG ws st (by rw[h.1];decide)
theorem jQM {ws:List Sq.Word}{st:PSt}{m:ByteArray}(h:Sq.acceptB ws st m=true):Sq.acceptS ws st m=Sq.step1 st:=by unfold Sq.acceptS;rw[h];rfl
theorem jQW {ws:List Sq.Word}{st:PSt}{m:ByteArray}(h:Sq.acceptB ws st m=false):Sq.acceptS ws st m=st:=by unfold Sq.acceptS;rw[h];rfl
theorem jQqD (f:Nat)(hn:CondSaid 234 2 3 f)(ho:CondSaid 217 0 7 f):CondSaid 234 2 3 (f+1):=by
 intro pb lv ws r w st h hw hf;have hq:=h.lt;have hr:=h.small;have hs:=h.inside;have H:Hid _:=h;clear h;go_enter Tryz.func234,Tryz.ntmps234;go_wp2_with fail;refine(jQJ Sq.bNot H.o).mono ?_;rintro e w1 ⟨rfl,hp1,ht1⟩;have ht:=ht1.size;have hg:Hid _:=ht1;clear ht1;cases hB:Sq.acceptB ws st Sq.bNot
 case true =>
  have hk:=jQ9 hB;rw[jQM hB] at hp1;have HE:Hid (Sq.cond ws (f+1) 2 st=Sq.addStep (Sq.cond ws f 2 (Sq.step1 st)) (Sq.opStep Sq.bNot)):=by show _=_;rw[Sq.cond,if_pos hB]
  have he:Hid _:=hp1;clear hp1 hB;go_wp2_with fail;refine(hn pb lv ws r w1 (Sq.step1 st) he.o (by show st.wher.length<=2*(st.pos+1);omega) (by show 8*(ws.length-(st.pos+1))+3<=f;omega)).mono ?_;rintro e w2 ⟨rfl,⟨r2,hp2⟩,hb2⟩;have hl:=Sq.jQdd ws f 2 (Sq.step1 st);have hj:=hp2.inside
  have hc:(Sq.cond ws f 2 (Sq.step1 st)).wher.length<=5000:=by
   have h4:(Sq.step1 st).wher=st.wher:=rfl;have h5:(Sq.step1 st).pos=st.pos+1:=rfl;rw[h4,h5] at hl;simp[Sq.more] at hl;omega
  have hb:Hid _:=hp2;clear hp2 hl hj;go_wp2_with fail;refine(jQeg (Sq.opStep Sq.bNot) hb.o hc).mono ?_;rintro e w3 ⟨rfl,⟨r3,hp3⟩,hb3⟩;have ha:Hid _:=hp3;clear hp3;go_wp2;go_end0;exact⟨rfl,⟨r3,by rw[HE.o];exact ha.o⟩,(Tch.below hg.o (nR) (by omega)).trans (hb2.trans hb3)⟩
 case false =>
  rw[jQW hB] at hp1;have he:Hid _:=hp1;clear hp1;go_wp2_with fail;refine(jQJ Sq.bOpen he.o).mono ?_;rintro e w2 ⟨rfl,hp2,ht2⟩;have hu:=ht2.size;have hh:Hid _:=Tch.trans hg.o ht2;clear ht2;cases hB2:Sq.acceptB ws st Sq.bOpen
  case true =>
   have hk:=jQ9 hB2;rw[jQM hB2] at hp2;have HE:Hid (Sq.cond ws (f+1) 2 st=Sq.wantS ws (Sq.cond ws f 0 (Sq.step1 st)) Sq.bClose):=by show _=_;rw[Sq.cond,if_neg (by simp[hB]),if_pos hB2]
   have hb:Hid _:=hp2;clear hp2 hB hB2;go_wp2_with fail;refine(ho pb lv ws r w2 (Sq.step1 st) hb.o (by show st.wher.length<=2*(st.pos+1);omega) (by show 8*(ws.length-(st.pos+1))+7<=f;omega)).mono ?_;rintro e w3 ⟨rfl,⟨r3,hp3⟩,hb3⟩;have hp:=hp3.lt;have ha:Hid _:=hp3;clear hp3;go_wp2_with fail;refine(jQ3 Sq.bClose ha.o).mono ?_;rintro e w4 ⟨rfl,hp4,ht4⟩;have hi:Hid _:=hp4;have hm:Hid _:=ht4;clear hp4 ht4;go_wp2;go_end0;exact⟨rfl,⟨r3,by rw[HE.o];exact hi.o⟩,(Tch.below hh.o (nR) (by omega)).trans (hb3.trans (Tch.below hm.o (nR) (by omega)))⟩
  case false =>
   rw[jQW hB2] at hp2;have HE:Hid (Sq.cond ws (f+1) 2 st=Sq.compS ws st):=by show _=_;rw[Sq.cond,if_neg (by simp[hB]),if_neg (by simp[hB2])]
   have hb:Hid _:=hp2;clear hp2 hB hB2;go_wp2_with fail;refine(jQgR hb.o (by omega)).mono ?_;rintro e w3 ⟨rfl,⟨r3,hp3⟩,hb3⟩;have ha:Hid _:=hp3;clear hp3;go_wp2;go_end0;exact⟨rfl,⟨r3,by rw[HE.o];exact ha.o⟩,(Tch.below hh.o (nR) (by omega)).trans hb3⟩
theorem jQrv (f:Nat)(ha:∀g,g<=f->CondSaid 227 1 5 g):CondSaid 217 0 7 (f+1):=by
 intro pb lv ws r w st h hw hf;have hp:=h.lt;have hq:=h.small;have H:Hid _:=h;clear h;go_enter Tryz.func217,Tryz.ntmps217;go_wp2_with fail;refine(ha f (nR) pb lv ws r w st H.o hw (by omega)).mono ?_;rintro e w1 ⟨rfl,⟨r1,hp1⟩,hb1⟩;have hl:=Sq.jQdd ws f 1 st;have hb:(Sq.cond ws f 1 st).wher.length<=2*(Sq.cond ws f 1 st).pos+1:=by simp[Sq.more] at hl;omega
 have ho:=hl.1;have he:Hid _:=hp1;have HE:Hid (Sq.cond ws (f+1) 0 st=Sq.cond ws f 3 (Sq.cond ws f 1 st)):=by show _=_;rw[Sq.cond]
 clear hp1 hl;go_wp2_with fail
 go_loopg [] f (fun k wr=>∃(g:Nat) (sk:PSt) (rk:Rw),g=k/\g<=f/\PS pb lv ws rk wr sk/\sk.wher.length<=2*sk.pos+1/\8*(ws.length-sk.pos)+6<=g/\Below pb w wr/\Hid (Sq.cond ws (f+1) 0 st=Sq.cond ws g 3 sk))
 case atStart=>exact⟨f,_,r1,rfl,nR,he.o,hb,by omega,hb1,HE⟩
 case round =>
  obtain⟨g,sk,rk,rfl,hgf,hpk,hwk,hfk,hbk,hek⟩:=hrel;have hm:Hid _:=hpk;have hk:=hpk.lt;clear hpk he HE H hb1 hb;go_wp2_with fail;refine(jQJ Sq.bOr hm.o).mono ?_;rintro e w2 ⟨rfl,hp2,ht2⟩;have ht:=ht2.size;have hg:Hid _:=ht2;clear ht2;cases hB:Sq.acceptB ws sk Sq.bOr
  case true =>
   have hs:=jQ9 hB;obtain⟨g,rfl⟩:∃g',g=g'+1:=⟨g-1,by omega⟩;rw[jQM hB] at hp2;have HE:Hid (Sq.cond ws (f+1) 0 st=Sq.cond ws g 3 (Sq.addStep (Sq.cond ws g 1 (Sq.step1 sk)) (Sq.opStep Sq.bOr))):=by show _=_;rw[hek.o,Sq.cond,if_pos hB]
   have hc:Hid _:=hp2;clear hp2 hB hek;go_wp2_with fail;refine(ha g (by omega) pb lv ws rk w2 (Sq.step1 sk) hc.o (by show sk.wher.length<=2*(sk.pos+1);omega) (by show 8*(ws.length-(sk.pos+1))+5<=g;omega)).mono ?_;rintro e w3 ⟨rfl,⟨r3,hp3⟩,hb3⟩;have hl:=Sq.jQdd ws g 1 (Sq.step1 sk);have hr:=hp3.inside
   have hn:sk.pos+1<=(Sq.cond ws g 1 (Sq.step1 sk)).pos/\(Sq.cond ws g 1 (Sq.step1 sk)).wher.length<=2*(Sq.cond ws g 1 (Sq.step1 sk)).pos:=by
    have h4:(Sq.step1 sk).wher=sk.wher:=rfl;have h5:(Sq.step1 sk).pos=sk.pos+1:=rfl;rw[h4,h5] at hl;simp[Sq.more] at hl;omega
   obtain⟨hb,ho⟩:=hn;have hj:Hid _:=hp3;clear hp3 hl;go_wp2_with fail;refine(jQeg (Sq.opStep Sq.bOr) hj.o (by omega)).mono ?_;rintro e w4 ⟨rfl,⟨r4,hp4⟩,hb4⟩;have hh:Hid _:=hp4;clear hp4;have hi:Below pb w w4:=hbk.trans ((Tch.below hg.o (nR) (by omega)).trans (hb3.trans hb4));clear hbk hb3 hb4;go_wp2;go_roundg g
   case measure=>omega
   case rel=>exact⟨g,_,r4,rfl,by omega,hh.o,by rw[Sq.jQbe];show _<=2*(Sq.cond ws g 1 (Sq.step1 sk)).pos+1;omega,by show 8*(ws.length-(Sq.cond ws g 1 (Sq.step1 sk)).pos)+6<=g;omega,hi,HE⟩
  case false =>
   rw[jQW hB] at hp2
   have HE:Hid (Sq.cond ws (f+1) 0 st=sk):=by
    show _=_;rw[hek.o];obtain⟨g,rfl⟩:∃g',g=g'+1:=⟨g-1,by omega⟩;rw[Sq.cond,if_neg (by simp[hB])]
   have hc:Hid _:=hp2;clear hp2 hB hek;go_wp2;go_end0;exact⟨rfl,⟨rk,by rw[HE.o];exact hc.o⟩,hbk.trans (Tch.below hg.o (nR) (by omega))⟩
theorem jQrc (f:Nat)(ha:∀g,g<=f->CondSaid 234 2 3 g):CondSaid 227 1 5 (f+1):=by
 intro pb lv ws r w st h hw hf;have hp:=h.lt;have hq:=h.small;have H:Hid _:=h;clear h;go_enter Tryz.func227,Tryz.ntmps227;go_wp2_with fail;refine(ha f (nR) pb lv ws r w st H.o hw (by omega)).mono ?_;rintro e w1 ⟨rfl,⟨r1,hp1⟩,hb1⟩;have hl:=Sq.jQdd ws f 2 st;have hb:(Sq.cond ws f 2 st).wher.length<=2*(Sq.cond ws f 2 st).pos+1:=by simp[Sq.more] at hl;omega
 have ho:=hl.1;have he:Hid _:=hp1;have HE:Hid (Sq.cond ws (f+1) 1 st=Sq.cond ws f 4 (Sq.cond ws f 2 st)):=by show _=_;rw[Sq.cond]
 clear hp1 hl;go_wp2_with fail
 go_loopg [] f (fun k wr=>∃(g:Nat) (sk:PSt) (rk:Rw),g=k/\g<=f/\PS pb lv ws rk wr sk/\sk.wher.length<=2*sk.pos+1/\8*(ws.length-sk.pos)+4<=g/\Below pb w wr/\Hid (Sq.cond ws (f+1) 1 st=Sq.cond ws g 4 sk))
 case atStart=>exact⟨f,_,r1,rfl,nR,he.o,hb,by omega,hb1,HE⟩
 case round =>
  obtain⟨g,sk,rk,rfl,hgf,hpk,hwk,hfk,hbk,hek⟩:=hrel;have hm:Hid _:=hpk;have hk:=hpk.lt;clear hpk he HE H hb1 hb;go_wp2_with fail;refine(jQJ Sq.bAnd hm.o).mono ?_;rintro e w2 ⟨rfl,hp2,ht2⟩;have ht:=ht2.size;have hg:Hid _:=ht2;clear ht2;cases hB:Sq.acceptB ws sk Sq.bAnd
  case true =>
   have hs:=jQ9 hB;obtain⟨g,rfl⟩:∃g',g=g'+1:=⟨g-1,by omega⟩;rw[jQM hB] at hp2;have HE:Hid (Sq.cond ws (f+1) 1 st=Sq.cond ws g 4 (Sq.addStep (Sq.cond ws g 2 (Sq.step1 sk)) (Sq.opStep Sq.bAnd))):=by show _=_;rw[hek.o,Sq.cond,if_pos hB]
   have hc:Hid _:=hp2;clear hp2 hB hek;go_wp2_with fail;refine(ha g (by omega) pb lv ws rk w2 (Sq.step1 sk) hc.o (by show sk.wher.length<=2*(sk.pos+1);omega) (by show 8*(ws.length-(sk.pos+1))+3<=g;omega)).mono ?_;rintro e w3 ⟨rfl,⟨r3,hp3⟩,hb3⟩;have hl:=Sq.jQdd ws g 2 (Sq.step1 sk);have hr:=hp3.inside
   have hn:sk.pos+1<=(Sq.cond ws g 2 (Sq.step1 sk)).pos/\(Sq.cond ws g 2 (Sq.step1 sk)).wher.length<=2*(Sq.cond ws g 2 (Sq.step1 sk)).pos:=by
    have h4:(Sq.step1 sk).wher=sk.wher:=rfl;have h5:(Sq.step1 sk).pos=sk.pos+1:=rfl;rw[h4,h5] at hl;simp[Sq.more] at hl;omega
   obtain⟨hb,ho⟩:=hn;have hj:Hid _:=hp3;clear hp3 hl;go_wp2_with fail;refine(jQeg (Sq.opStep Sq.bAnd) hj.o (by omega)).mono ?_;rintro e w4 ⟨rfl,⟨r4,hp4⟩,hb4⟩;have hh:Hid _:=hp4;clear hp4;have hi:Below pb w w4:=hbk.trans ((Tch.below hg.o (nR) (by omega)).trans (hb3.trans hb4));clear hbk hb3 hb4;go_wp2;go_roundg g
   case measure=>omega
   case rel=>exact⟨g,_,r4,rfl,by omega,hh.o,by rw[Sq.jQbe];show _<=2*(Sq.cond ws g 2 (Sq.step1 sk)).pos+1;omega,by show 8*(ws.length-(Sq.cond ws g 2 (Sq.step1 sk)).pos)+4<=g;omega,hi,HE⟩
  case false =>
   rw[jQW hB] at hp2
   have HE:Hid (Sq.cond ws (f+1) 1 st=sk):=by
    show _=_;rw[hek.o];obtain⟨g,rfl⟩:∃g',g=g'+1:=⟨g-1,by omega⟩;rw[Sq.cond,if_neg (by simp[hB])]
   have hc:Hid _:=hp2;clear hp2 hB hek;go_wp2;go_end0;exact⟨rfl,⟨rk,by rw[HE.o];exact hc.o⟩,hbk.trans (Tch.below hg.o (nR) (by omega))⟩
theorem jQq2:∀f g,g<=f->CondSaid 217 0 7 g/\CondSaid 227 1 5 g/\CondSaid 234 2 3 g:=by
 intro f
 induction f with
 | zero =>
  intro g hg;obtain rfl:g=0:=by omega
  exact⟨fun _ _ _ _ _ _ _ _ hf=>absurd hf (by omega),fun _ _ _ _ _ _ _ _ hf=>absurd hf (by omega),fun _ _ _ _ _ _ _ _ hf=>absurd hf (by omega)⟩
 | succ f ih =>
  intro g hg;rcases Nat.lt_or_ge g (f+1) with h | h
  ·exact ih g (by omega)
  ·obtain rfl:g=f+1:=by omega
   exact⟨jQrv f fun g hg=>(ih g hg).2.1,jQrc f fun g hg=>(ih g hg).2.2,jQqD f (ih f (nR)).2.2 (ih f (nR)).1⟩
theorem jQbN {pb:Nat}{lv:Value}{ws:List Sq.Word}{r:Rw}{w:World}{st:PSt}(h:PS pb lv ws r w st)(hn:st.wher.length<=2*st.pos) :
  Calls Tryz.prog 189 #[.pointer (some ⟨pb,0,none⟩)] w fun e w'=>e=.returned (.tuple #[])/\(∃r',PS pb lv ws r' w' (Sq.whereS ws st))/\Below pb w w':=by
 have he:=h.lt;have H:Hid _:=h;clear h;go_enter Tryz.func189,Tryz.ntmps189;go_wp2_with fail;refine(jQJ Sq.bWhere H.o).mono ?_;rintro e w1 ⟨rfl,hp1,ht1⟩;have hb:Hid _:=ht1;clear ht1;cases hB:Sq.acceptB ws st Sq.bWhere
 case true =>
  have hf:=jQ9 hB;rw[jQM hB] at hp1;have HE:Hid (Sq.whereS ws st=Sq.cond ws (8*ws.length+7) 0 (Sq.step1 st)):=by show _=_;unfold Sq.whereS;rw[if_pos hB]
  have ha:Hid _:=hp1;clear hp1 hB;go_wp2_with fail;refine((jQq2 _ _ (Nat.le_refl (8*ws.length+7))).1 pb lv ws r w1 (Sq.step1 st) ha.o (by show st.wher.length<=2*(st.pos+1);omega) (by omega)).mono ?_;rintro e w2 ⟨rfl,⟨r2,hp2⟩,hb2⟩;have hc:Hid _:=hp2;clear hp2;go_wp2;go_end0;exact⟨rfl,⟨r2,by rw[HE.o];exact hc.o⟩,(Tch.below hb.o (nR) (by omega)).trans hb2⟩
 case false =>
  rw[jQW hB] at hp1;have HE:Hid (Sq.whereS ws st=st):=by show _=_;unfold Sq.whereS;rw[if_neg (by simp[hB])]
  have ha:Hid _:=hp1;clear hp1 hB;go_wp2;go_end0;exact⟨rfl,⟨r,by rw[HE.o];exact ha.o⟩,Tch.below hb.o (nR) (by omega)⟩
end
namespace Sq
def addCol (st:PSt)(c:Col):PSt:={ st with cols:=st.cols++[c] }
def addVal (st:PSt)(v:Val):PSt:={ st with vals:=st.vals++[v] }
def addSet (st:PSt)(s:SetS):PSt:={ st with sets:=st.sets++[s] }
def addItem (st:PSt)(n:ByteArray):PSt:={ st with items:=st.items++[n] }
def setAct (st:PSt)(a:Int):PSt:={ st with act:=a }
def setTable (st:PSt)(n:ByteArray):PSt:={ st with table:=n }
def setShow (st:PSt)(a:Int):PSt:={ st with shw:=a }
def bComma:ByteArray:=⟨#[44]⟩
def bEq:ByteArray:=⟨#[61]⟩
def bPlus:ByteArray:=⟨#[43]⟩
def bStar:ByteArray:=⟨#[42]⟩
def bCreate:ByteArray:=⟨#[99,114,101,97,116,101]⟩
def bTable:ByteArray:=⟨#[116,97,98,108,101]⟩
def bInsert:ByteArray:=⟨#[105,110,115,101,114,116]⟩
def bInto:ByteArray:=⟨#[105,110,116,111]⟩
def bValues:ByteArray:=⟨#[118,97,108,117,101,115]⟩
def bUpdate:ByteArray:=⟨#[117,112,100,97,116,101]⟩
def bSet:ByteArray:=⟨#[115,101,116]⟩
def bDelete:ByteArray:=⟨#[100,101,108,101,116,101]⟩
def bFrom:ByteArray:=⟨#[102,114,111,109]⟩
def bSelect:ByteArray:=⟨#[115,101,108,101,99,116]⟩
def bCount:ByteArray:=⟨#[99,111,117,110,116]⟩
def bSum:ByteArray:=⟨#[115,117,109]⟩
def valueS (ws:List Word)(st:PSt):PSt:=addVal (litS ws st) (litR ws st)
def itemS (ws:List Word)(st:PSt):PSt:=addItem (nameS ws st) (nameR ws st)
def colS (ws:List Word)(st:PSt):PSt:=addCol (kindS ws (nameS ws st)) ⟨nameR ws st,kindR ws (nameS ws st)⟩
def asg1 (ws:List Word)(st:PSt):PSt:=wantS ws (nameS ws st) bEq
def asg2 (ws:List Word)(st:PSt):PSt:=termS ws (asg1 ws st)
def asgSign (ws:List Word)(st:PSt):ByteArray:=if acceptB ws (asg2 ws st) bPlus then bPlus else if acceptB ws (asg2 ws st) bMinus then bMinus else nobytes
def asg3 (ws:List Word)(st:PSt):PSt:=if acceptB ws (asg2 ws st) bPlus then step1 (asg2 ws st) else if acceptB ws (asg2 ws st) bMinus then step1 (asg2 ws st) else asg2 ws st
def asgSecond (ws:List Word)(st:PSt):Term:=if acceptB ws (asg2 ws st) bPlus then termR ws (asg3 ws st) else if acceptB ws (asg2 ws st) bMinus then termR ws (asg3 ws st) else term0
def asg4 (ws:List Word)(st:PSt):PSt:=if acceptB ws (asg2 ws st) bPlus then termS ws (asg3 ws st) else if acceptB ws (asg2 ws st) bMinus then termS ws (asg3 ws st) else asg3 ws st
def asgS (ws:List Word)(st:PSt):PSt:=addSet (asg4 ws st) ⟨nameR ws st,termR ws (asg1 ws st),asgSign ws st,asgSecond ws st⟩
def commas (ws:List Word)(body:PSt->PSt):Nat->PSt->PSt
 | 0,st=>st
 | f+1,st=>if acceptB ws st bComma then commas ws body f (body (step1 st)) else st
def tableS (ws:List Word)(st:PSt):PSt:=setTable (nameS ws st) (nameR ws st)
def createS (ws:List Word)(st:PSt):PSt :=
 let a:=wantS ws (tableS ws (wantS ws (setAct st 1) bTable)) bOpen
 let b:=addCol (wantS ws (nameS ws a) bInt) ⟨nameR ws a,0⟩
 wantS ws (commas ws (colS ws) (ws.length+1) b) bClose
def insertS (ws:List Word)(st:PSt):PSt :=
 let a:=wantS ws (wantS ws (tableS ws (wantS ws (setAct st 2) bInto)) bValues) bOpen
 wantS ws (commas ws (valueS ws) (ws.length+1) (valueS ws a)) bClose
def updateS (ws:List Word)(st:PSt):PSt :=
 let a:=wantS ws (tableS ws (setAct st 3)) bSet
 whereS ws (commas ws (asgS ws) (ws.length+1) (asgS ws a))
def deleteS (ws:List Word)(st:PSt):PSt:=whereS ws (tableS ws (wantS ws (setAct st 4) bFrom))
def itemsS (ws:List Word)(st:PSt):PSt:=commas ws (itemS ws) (ws.length+1) (itemS ws (setShow st 0))
def chooseA (ws:List Word)(st:PSt):PSt :=
 if acceptB ws st bStar then setShow (step1 st) 1
 else if acceptB ws st bCount then setShow (step1 st) 2
 else if acceptB ws st bSum then wantS ws (itemS ws (wantS ws (setShow (step1 st) 3) bOpen)) bClose
 else itemsS ws st
def chooseS (ws:List Word)(st:PSt):PSt:=whereS ws (tableS ws (wantS ws (chooseA ws (setAct st 5)) bFrom))
def statementS (ws:List Word)(st:PSt):PSt :=
 if(markR ws st).toList==bCreate.toList then createS ws (takeS ws st)
 else if(markR ws st).toList==bInsert.toList then insertS ws (takeS ws st)
 else if(markR ws st).toList==bUpdate.toList then updateS ws (takeS ws st)
 else if(markR ws st).toList==bDelete.toList then deleteS ws (takeS ws st)
 else if(markR ws st).toList==bSelect.toList then chooseS ws (takeS ws st)
 else fail (takeS ws st)
def st0:PSt:=⟨0,false,0,nobytes,[],[],[],0,[],[]⟩
def parse (sql:ByteArray):Int×PSt :=
 if 160<sql.size then(2,st0)
 else match split sql with
  | none=>(3,st0)
  | some ws=>if(statementS ws st0).bad || (statementS ws st0).pos != ws.length then(3,st0) else(0,statementS ws st0)
theorem jQgz (ws:List Word)(st:PSt):st.pos<=(nameS ws st).pos:=by
 have:=jQgi ws st
 unfold nameS;split
 ·exact this
 ·exact this
theorem jQpk (ws:List Word)(st:PSt):st.pos<=(kindS ws st).pos:=by
 unfold kindS;split
 ·exact jQfZ ws st _
 ·exact jQga ws st _
theorem jQc1 (ws:List Word)(st:PSt):(tableS ws st).cols=st.cols:=jQbH ws st
theorem jQfD (ws:List Word)(st:PSt):(tableS ws st).vals=st.vals:=jQnb ws st
theorem jQfE (ws:List Word)(st:PSt):(tableS ws st).sets=st.sets:=jQbG ws st
theorem jQa8 (ws:List Word)(st:PSt):(nameS ws st).wher=st.wher:=by unfold nameS;split<;>exact jQam ws st
theorem jQz (ws:List Word)(st:PSt):(tableS ws st).wher=st.wher:=jQa8 ws st
theorem jQpg (ws:List Word)(st:PSt):(litS ws st).wher=st.wher:=by
 have h:(takeS ws (acceptS ws st bMinus)).wher=st.wher:=by rw[jQam];unfold acceptS;split<;>rfl
 unfold litS
 repeat (first | exact h | split)
theorem jQnr (ws:List Word)(st:PSt):(kindS ws st).wher=st.wher:=by
 unfold kindS;split
 ·unfold acceptS;split<;>rfl
 ·exact jQo ws st _
theorem jQhe (ws:List Word)(st:PSt):(valueS ws st).vals.length=st.vals.length+1:=by
 show((litS ws st).vals++[_]).length=_
 rw[jQj3,List.length_append];rfl
theorem jQlP (ws:List Word)(st:PSt):st.pos<=(valueS ws st).pos:=jQnj ws st
theorem jQaD (ws:List Word)(st:PSt):(valueS ws st).wher=st.wher:=jQpg ws st
theorem jQg2 (ws:List Word)(st:PSt):(asg2 ws st).sets=st.sets:=by unfold asg2 asg1;rw[jQau,jQa2,jQbG]
theorem jQg1 (ws:List Word)(st:PSt):(asg2 ws st).wher=st.wher:=by unfold asg2 asg1;rw[jQ8,jQo,jQa8]
theorem jQra (ws:List Word)(st:PSt):st.pos<=(asg2 ws st).pos:=Nat.le_trans (Nat.le_trans (jQgz ws st) (jQga ws _ bEq)) (jQdD ws _)
theorem jQol (ws:List Word)(st:PSt):(asgS ws st).sets.length=st.sets.length+1:=by
 show((asg4 ws st).sets++[_]).length=_
 have h:(asg4 ws st).sets=st.sets:=by
  unfold asg4 asg3
  split
  ·rw[jQau];exact jQg2 ws st
  ·split
   ·rw[jQau];exact jQg2 ws st
   ·exact jQg2 ws st
 rw[h,List.length_append];rfl
theorem jQb6 (ws:List Word)(st:PSt):(asgS ws st).wher=st.wher:=by
 show(asg4 ws st).wher=_
 unfold asg4 asg3
 split
 ·rw[jQ8];exact jQg1 ws st
 ·split
  ·rw[jQ8];exact jQg1 ws st
  ·exact jQg1 ws st
theorem jQq9 (ws:List Word)(st:PSt):st.pos<=(asgS ws st).pos:=by
 show _<=(asg4 ws st).pos;have h:=jQra ws st;have h2:=jQdD ws (step1 (asg2 ws st));have h3:(step1 (asg2 ws st)).pos=(asg2 ws st).pos+1:=rfl;unfold asg4 asg3
 split
 ·omega
 ·split
  ·omega
  ·omega
theorem jQkv (ws:List Word)(st:PSt):(colS ws st).wher=st.wher:=by show(kindS ws (nameS ws st)).wher=_;rw[jQnr,jQa8]
theorem jQba (ws:List Word)(st:PSt):(itemS ws st).wher=st.wher:=jQa8 ws st
theorem jQak (ws:List Word)(body:PSt->PSt)(hb:∀st,(body st).wher=st.wher):∀f st,(commas ws body f st).wher=st.wher:=by
 intro f
 induction f with
 | zero=>intro st;rfl
 | succ f ih =>
  intro st;rw[commas]
  split
  ·rw[ih,hb];rfl
  ·rfl
end Sq
section
open Go.RowKit
section
variable {pb:Nat} {lv:Value} {ws:List Sq.Word} {r:Rw} {w w1:World} {st:PSt}
theorem PS.setAct (h:PS pb lv ws r w st)(a:Int):PS pb lv ws r (w.setCell ⟨pb,3,none⟩ (.int .i64 a)) (Sq.setAct st a) :=
 h.touch ((Tch.refl _ _).store (.inl rfl) _) (by rw[jQe h.blk];rfl) h.inside rfl rfl rfl rfl rfl
theorem PS.setTable (h:PS pb lv ws r w st)(n:ByteArray):PS pb lv ws r (w.setCell ⟨pb,4,none⟩ (.string n)) (Sq.setTable st n) :=
 h.touch ((Tch.refl _ _).store (.inl rfl) _) (by rw[jQe h.blk];rfl) h.inside rfl rfl rfl rfl rfl
theorem PS.setShow (h:PS pb lv ws r w st)(a:Int):PS pb lv ws r (w.setCell ⟨pb,8,none⟩ (.int .i64 a)) (Sq.setShow st a) :=
 h.touch ((Tch.refl _ _).store (.inl rfl) _) (by rw[jQe h.blk];rfl) h.inside rfl rfl rfl rfl rfl
theorem PS.cell (h:PS pb lv ws r w st)(j:Nat)(v:Value)(hv:(#[lv,.int .i64 st.pos,.bool st.bad,.int .i64 st.act,.string st.table,r.cv,r.vv,r.sv,.int .i64 st.shw,r.iv,r.wv]:Array Value)[j]?=some v):w.cell? ⟨pb,j,none⟩=some v:=by rw[jQb h.blk,hv]
theorem PS.frozen (h:PS pb lv ws r w st)(j:Nat):w.frozen? ⟨pb,j,none⟩=false:=jQd h.blk j
theorem PS.cols_end (h:PS pb lv ws r w st)(c:Sq.Col){g cap:Nat}
  (hown:w1.ownsRow (pb+1) 205 2 (.slice (some ⟨g,0,none⟩) (st.cols.length+1) cap) (st.cols.length+1) (st.cols.flatMap Sq.Col.cells++c.cells)) (hg:w.grownBy w1 r.cv.ownBlock) :
  PS pb lv ws { r with cv:=.slice (some ⟨g,0,none⟩) (st.cols.length+1) cap } (w1.setCell ⟨pb,5,none⟩ (.slice (some ⟨g,0,none⟩) (st.cols.length+1) cap)) (Sq.addCol st c):=by
 have hb:=(h.blk_other h.cols (by decide) hg).trans h.blk;refine⟨by rw[jQe hb];rfl,jQv (jQx h.list h.cols (by decide) hg) hb (by decide) _,h.small,h.wf,h.inside,jQv ?_ hb (by decide) _,jQv (jQx h.vals h.cols (by decide) hg) hb (by decide) _,jQv (jQx h.sets h.cols (by decide) hg) hb (by decide) _,jQv (jQx h.items h.cols (by decide) hg) hb (by decide) _,jQv (jQx h.wher h.cols (by decide) hg) hb (by decide) _⟩;show w1.ownsRow (pb+1) 205 2 _ (st.cols++[c]).length ((st.cols++[c]).flatMap Sq.Col.cells);rw[List.length_append,List.length_singleton,List.flatMap_append];simpa using hown
theorem PS.vals_end (h:PS pb lv ws r w st)(c:Sq.Val){g cap:Nat}
  (hown:w1.ownsRow (pb+1) 208 3 (.slice (some ⟨g,0,none⟩) (st.vals.length+1) cap) (st.vals.length+1) (st.vals.flatMap Sq.Val.cells++c.cells)) (hg:w.grownBy w1 r.vv.ownBlock) :
  PS pb lv ws { r with vv:=.slice (some ⟨g,0,none⟩) (st.vals.length+1) cap } (w1.setCell ⟨pb,6,none⟩ (.slice (some ⟨g,0,none⟩) (st.vals.length+1) cap)) (Sq.addVal st c):=by
 have hb:=(h.blk_other h.vals (by decide) hg).trans h.blk;refine⟨by rw[jQe hb];rfl,jQv (jQx h.list h.vals (by decide) hg) hb (by decide) _,h.small,h.wf,h.inside,jQv (jQx h.cols h.vals (by decide) hg) hb (by decide) _,jQv ?_ hb (by decide) _,jQv (jQx h.sets h.vals (by decide) hg) hb (by decide) _,jQv (jQx h.items h.vals (by decide) hg) hb (by decide) _,jQv (jQx h.wher h.vals (by decide) hg) hb (by decide) _⟩;show w1.ownsRow (pb+1) 208 3 _ (st.vals++[c]).length ((st.vals++[c]).flatMap Sq.Val.cells);rw[List.length_append,List.length_singleton,List.flatMap_append];simpa using hown
theorem PS.sets_end (h:PS pb lv ws r w st)(c:Sq.SetS){g cap:Nat}
  (hown:w1.ownsRow (pb+1) 213 10 (.slice (some ⟨g,0,none⟩) (st.sets.length+1) cap) (st.sets.length+1) (st.sets.flatMap Sq.SetS.cells++c.cells)) (hg:w.grownBy w1 r.sv.ownBlock) :
  PS pb lv ws { r with sv:=.slice (some ⟨g,0,none⟩) (st.sets.length+1) cap } (w1.setCell ⟨pb,7,none⟩ (.slice (some ⟨g,0,none⟩) (st.sets.length+1) cap)) (Sq.addSet st c):=by
 have hb:=(h.blk_other h.sets (by decide) hg).trans h.blk;refine⟨by rw[jQe hb];rfl,jQv (jQx h.list h.sets (by decide) hg) hb (by decide) _,h.small,h.wf,h.inside,jQv (jQx h.cols h.sets (by decide) hg) hb (by decide) _,jQv (jQx h.vals h.sets (by decide) hg) hb (by decide) _,jQv ?_ hb (by decide) _,jQv (jQx h.items h.sets (by decide) hg) hb (by decide) _,jQv (jQx h.wher h.sets (by decide) hg) hb (by decide) _⟩;show w1.ownsRow (pb+1) 213 10 _ (st.sets++[c]).length ((st.sets++[c]).flatMap Sq.SetS.cells);rw[List.length_append,List.length_singleton,List.flatMap_append];simpa using hown
theorem PS.items_end (h:PS pb lv ws r w st)(c:ByteArray){g cap:Nat}
  (hown:w1.ownsRow (pb+1) 9 1 (.slice (some ⟨g,0,none⟩) (st.items.length+1) cap) (st.items.length+1) (st.items.map Value.string++[.string c])) (hg:w.grownBy w1 r.iv.ownBlock) :
  PS pb lv ws { r with iv:=.slice (some ⟨g,0,none⟩) (st.items.length+1) cap } (w1.setCell ⟨pb,9,none⟩ (.slice (some ⟨g,0,none⟩) (st.items.length+1) cap)) (Sq.addItem st c):=by
 have hb:=(h.blk_other h.items (by decide) hg).trans h.blk;refine⟨by rw[jQe hb];rfl,jQv (jQx h.list h.items (by decide) hg) hb (by decide) _,h.small,h.wf,h.inside,jQv (jQx h.cols h.items (by decide) hg) hb (by decide) _,jQv (jQx h.vals h.items (by decide) hg) hb (by decide) _,jQv (jQx h.sets h.items (by decide) hg) hb (by decide) _,jQv ?_ hb (by decide) _,jQv (jQx h.wher h.items (by decide) hg) hb (by decide) _⟩;show w1.ownsRow (pb+1) 9 1 _ (st.items++[c]).length ((st.items++[c]).map Value.string);rw[List.length_append,List.length_singleton,List.map_append];simpa using hown
end
theorem Tryz.infoVal:(Tryz.prog.info? 208).map (fun i=>(i.zero,i.size,i.bytes))=some (some (.agg (Sq.Val.cells Sq.val0).toArray),3,32):=by kernel_rfl
theorem Tryz.infoSet:(Tryz.prog.info? 213).map (fun i=>(i.zero,i.size,i.bytes))=some (some (.agg (Sq.SetS.cells ⟨Sq.nobytes,Sq.term0,Sq.nobytes,Sq.term0⟩).toArray),10,128):=by kernel_rfl
theorem Tryz.infoCol:(Tryz.prog.info? 205).map (fun i=>(i.zero,i.size,i.bytes))=some (some (.agg (Sq.Col.cells ⟨Sq.nobytes,0⟩).toArray),2,24):=by kernel_rfl
theorem Tryz.infoStr:(Tryz.prog.info? 9).map (fun i=>(i.zero,i.size,i.bytes))=some (some (.string ⟨#[]⟩),1,16):=by kernel_rfl
theorem jQju {pb:Nat}{lv:Value}{ws:List Sq.Word}{r:Rw}{w:World}{st:PSt}(h:PS pb lv ws r w st)(hn:st.vals.length<=5000) :
  Calls Tryz.prog 187 #[.pointer (some ⟨pb,0,none⟩)] w fun e w'=>e=.returned (.tuple #[])/\(∃r',PS pb lv ws r' w' (Sq.valueS ws st))/\Below pb w w':=by
 obtain⟨i0,hi,hz0,hz1,hz2⟩:=info_parts Tryz.infoVal;have ha:=h.lt;have H:Hid _:=h;clear h;go_enter Tryz.func187,Tryz.ntmps187;go_wp2_with fail;refine(jQfQ H.o).mono ?_;rintro e w0 ⟨rfl,hp0,ht0⟩;have hg:(Sq.litS ws st).vals.length<=5000:=by rw[Sq.jQj3];exact hn
 obtain⟨s0,hs0⟩:∃s,s=Sq.litS ws st:=⟨_,rfl⟩;obtain⟨x,hx⟩:∃s,s=Sq.litR ws st:=⟨_,rfl⟩;rw[<-hs0] at hp0 hg;rw[<-hx];have HS:Hid (Sq.valueS ws st=Sq.addVal s0 x):=by show _=_;rw[hs0,hx];rfl
 have he:Hid _:=Tch.below ht0 (nR) (Nat.le_of_lt ha);clear hs0 hx H hn ha ht0;obtain⟨vk,vn,vt⟩:=x;have ha:=hp0.lt;have c6:=hp0.cell 6 _ rfl;have hW:Below w0.heap.size w0 ((w0.alloc (.cells #[.int .i64 vk,.int .i64 vn,.string vt] 208)).alloc (.cells #[.int .i64 vk,.int .i64 vn,.string vt] 208)).drew:=(((bR).alloc (nR) _).alloc (by simp) _).drew;have hc:=hp0.below hW;have HP:Hid _:=hc;have HW:Hid _:=hW;clear hc hW hp0;go_wp2
 go_region_law (first
  | (refine step_append_lies _ rfl (.tmp 10) (.tmp 12) 113 rfl (pb+1) 208 i0 _ 3 32 Tryz.underlying113 hi hz0 hz1 hz2 rfl (by decide) r.vv s0.vals.length (s0.vals.flatMap Sq.Val.cells) (by simp[Act.eval,Act.put]) HP.o.vals ⟨w0.heap.size+1,0,none⟩ 1 1 [.int .i64 vk,.int .i64 vn,.string vt] (by simp[Act.eval,Act.put]) rfl (by exact jQL (w0.alloc _) _ _ _ rfl (by simp)) (by intro u hu;simp at hu;rcases hu with rfl | rfl | rfl<;>rfl) (by decide) (by unfold maxLen;omega) (by omega) (by simp;omega) _ rfl ?_;intro g cap w1 hown hgrow hat hltg;have hb:=(HP.o.blk_other HP.o.vals (by decide) hgrow).trans HP.o.blk;have k10:w1.cell? ⟨pb,6,none⟩=some r.vv:=(by rw[jQb hb];rfl);have f10:=jQd hb 6;have hf:=jQf hb;have HO:Hid _:=hown;have HG:Hid _:=hgrow;clear hown hgrow hat hb))
 all_goals
  go_end0;refine⟨rfl,⟨_,by rw[HS.o];exact HP.o.vals_end ⟨vk,vn,vt⟩ HO.o HG.o⟩,?_⟩;refine he.o.trans ?_;refine Below.setCell (B:=pb) (Below.trans (Below.mono (B':=pb) HW.o (by omega)) (Tch.of_grown HG.o (fun k hk=>?_) (by simp;omega))) (nR) _;exact Nat.le_of_succ_le (HP.o.vals.lt k hk).1
end
section
open Go.RowKit
theorem jQiZ {pb:Nat}{lv:Value}{ws:List Sq.Word}{r:Rw}{w:World}{st:PSt}(h:PS pb lv ws r w st)(hn:st.items.length<=5000) :
  Calls Tryz.prog 190 #[.pointer (some ⟨pb,0,none⟩)] w fun e w'=>e=.returned (.tuple #[])/\(∃r',PS pb lv ws r' w' (Sq.itemS ws st))/\Below pb w w':=by
 obtain⟨i0,hi,hz0,hz1,hz2⟩:=info_parts Tryz.infoStr;have ha:=h.lt;have H:Hid _:=h;clear h;go_enter Tryz.func190,Tryz.ntmps190;go_wp2_with fail;refine(jQay H.o).mono ?_;rintro e w0 ⟨rfl,hp0,ht0⟩;have hg:(Sq.nameS ws st).items.length<=5000:=by rw[Sq.jQc6];exact hn
 obtain⟨s0,hs0⟩:∃s,s=Sq.nameS ws st:=⟨_,rfl⟩;obtain⟨x,hx⟩:∃s,s=Sq.nameR ws st:=⟨_,rfl⟩;rw[<-hs0] at hp0 hg;rw[<-hx];have HS:Hid (Sq.itemS ws st=Sq.addItem s0 x):=by show _=_;rw[hs0,hx];rfl
 have he:Hid _:=Tch.below ht0 (nR) (Nat.le_of_lt ha);clear hs0 hx H hn ha ht0;have ha:=hp0.lt;have c6:=hp0.cell 9 _ rfl;have hW:Below w0.heap.size w0 (w0.alloc (.cells #[.string x] 9)):=(bR).alloc (nR) _;have hc:=hp0.below hW;have HP:Hid _:=hc;have HW:Hid _:=hW;clear hc hW hp0;go_wp2_with (at_builtin;refine wpList_append_lies _ rfl (.tmp 10) (.tmp 12) 35 rfl (pb+1) 9 i0 _ 1 16 Tryz.underlying35 hi hz0 hz1 hz2 rfl (by decide) r.iv s0.items.length (s0.items.map Value.string) rfl HP.o.items ⟨w0.heap.size,0,none⟩ 1 1 [.string x] rfl rfl (by exact jQL w0 _ _ _ rfl rfl) (by intro u hu;simp at hu;subst hu;rfl) (by decide) (by unfold maxLen;omega) (by omega) (by simp;omega) _ rfl ?_;intro g cap w1 hown hgrow hat hltg;have hb:=(HP.o.blk_other HP.o.items (by decide) hgrow).trans HP.o.blk;have k10:w1.cell? ⟨pb,9,none⟩=some r.iv:=(by rw[jQb hb];rfl);have f10:=jQd hb 9;have hf:=jQf hb;have HO:Hid _:=hown;have HG:Hid _:=hgrow;clear hown hgrow hat hb);go_end0;refine⟨rfl,⟨_,by rw[HS.o];exact HP.o.items_end x HO.o HG.o⟩,?_⟩;refine he.o.trans ?_;refine Below.setCell (B:=pb) (Below.trans (Below.mono (B':=pb) HW.o (by omega)) (Tch.of_grown HG.o (fun k hk=>?_) (by simp;omega))) (nR) _;exact Nat.le_of_succ_le (HP.o.items.lt k hk).1
theorem jQpp {pb:Nat}{lv:Value}{ws:List Sq.Word}{r:Rw}{w:World}{st:PSt}(h:PS pb lv ws r w st)(hn:st.items.length=0) :
  Calls Tryz.prog 191 #[.pointer (some ⟨pb,0,none⟩)] w fun e w'=>e=.returned (.tuple #[])/\(∃r',PS pb lv ws r' w' (Sq.itemsS ws st))/\Below pb w w':=by
 have ht:=h.lt;have hq:=h.small;have c8:=h.cell 8 _ rfl;have f8:=h.frozen 8;have hh:=h.setShow 0;have he:Hid _:=hh;clear hh h;have hc:Below pb w (w.setCell ⟨pb,8,none⟩ (.int .i64 0)):=Below.setCell (B:=pb) (bR) (nR) _;go_enter Tryz.func191,Tryz.ntmps191;go_wp2_with fail;refine(jQiZ he.o (by show st.items.length<=5000;omega)).mono ?_;rintro e w2 ⟨rfl,⟨r2,hp2⟩,hb2⟩;have hg:Hid _:=hp2;have hp:=hp2.inside;clear hp2 c8 f8
 have hi:(Sq.itemS ws (Sq.setShow st 0)).items.length<=(Sq.itemS ws (Sq.setShow st 0)).pos+1:=by
  show((Sq.nameS ws (Sq.setShow st 0)).items++[_]).length<=_
  rw[Sq.jQc6,List.length_append];show st.items.length+1<=_;omega
 go_wp2_with fail
 go_loopg [] (ws.length+1) (fun k wr=>∃(g:Nat) (sk:PSt) (rk:Rw),g=k/\PS pb lv ws rk wr sk/\sk.items.length<=sk.pos+1/\ws.length-sk.pos+1<=g/\Below pb w wr/\Hid (Sq.itemsS ws st=Sq.commas ws (Sq.itemS ws) g sk))
 case atStart=>exact⟨ws.length+1,_,r2,rfl,hg.o,hi,by omega,hc.trans hb2,rfl⟩
 case round =>
  obtain⟨g,sk,rk,rfl,hpk,hwk,hfk,hbk,hek⟩:=hrel;have hl:Hid _:=hpk;have hk:=hpk.lt;have hj:=hpk.inside;clear hpk he hg hc hi hb2;go_wp2_with fail;refine(jQJ Sq.bComma hl.o).mono ?_;rintro e w3 ⟨rfl,hp3,ht3⟩;have hs:=ht3.size;have hb:Hid _:=ht3;clear ht3;cases hB:Sq.acceptB ws sk Sq.bComma
  case true =>
   have hu:=jQ9 hB;obtain⟨g,rfl⟩:∃g',g=g'+1:=⟨g-1,by omega⟩;rw[jQM hB] at hp3;have HE:Hid (Sq.itemsS ws st=Sq.commas ws (Sq.itemS ws) g (Sq.itemS ws (Sq.step1 sk))):=by show _=_;rw[hek.o,Sq.commas,if_pos hB]
   have ha:Hid _:=hp3;clear hp3 hB hek;go_wp2_with fail;refine(jQiZ ha.o (by show sk.items.length<=5000;omega)).mono ?_;rintro e w4 ⟨rfl,⟨r4,hp4⟩,hb4⟩;have hm:Hid _:=hp4;clear hp4;have ho:Below pb w w4:=hbk.trans ((Tch.below hb.o (nR) (by omega)).trans hb4)
   have hf:(Sq.itemS ws (Sq.step1 sk)).items.length=sk.items.length+1:=by
    show((Sq.nameS ws (Sq.step1 sk)).items++[_]).length=_
    rw[Sq.jQc6,List.length_append];rfl
   have hr:sk.pos+1<=(Sq.itemS ws (Sq.step1 sk)).pos:=Sq.jQgz ws (Sq.step1 sk);have HL:Hid _:=hf;clear hbk hb4 hf;go_wp2;go_roundg g
   case measure=>omega
   case rel=>exact⟨g,_,r4,rfl,hm.o,by rw[HL.o];omega,by omega,ho,HE⟩
  case false =>
   rw[jQW hB] at hp3
   have HE:Hid (Sq.itemsS ws st=sk):=by
    show _=_;rw[hek.o];obtain⟨g,rfl⟩:∃g',g=g'+1:=⟨g-1,by omega⟩;rw[Sq.commas,if_neg (by simp[hB])]
   have ha:Hid _:=hp3;clear hp3 hB hek;go_wp2;go_end0;exact⟨rfl,⟨rk,by rw[HE.o];exact ha.o⟩,hbk.trans (Tch.below hb.o (nR) (by omega))⟩
end
end Go.Proofs.YtahpihjialbanaaGreatDoor
