import Derived.Test.YtahpihjialbanaaGreatDoorQak
import Derived.Test.YtahpihjialbanaaGreatDoorQam
set_option linter.all false
set_option maxRecDepth 100000
set_option maxHeartbeats 2000000
namespace Go.Proofs.YtahpihjialbanaaGreatDoor
open Sq (aE jAH jBE jCP jEe)
section
open Go.RowKit
theorem jYs (l:List (Sq.bQ×Value))(lv:Value)(size:Int)(st:Sq.PSt)(r:Rw)(w:World)(h:jBk 0 w lv l)(hS:∀x∈l,-2147483648<=x.1.number/\x.1.number<=2147483647)(hs:jDw w st r)(hT:Tbl w) :
  Calls Tryz.prog 70 #[lv,.int .i64 size,.agg (jAF st r)] w (jF8 w (jCP (l.map Prod.fst) size st)):=by
 obtain⟨He,Hh,Hg,Hf,Hi⟩:=r;obtain⟨q5,c5,hU⟩:=jQa hs.cols.1;obtain⟨q6,c6,hZ⟩:=jQa hs.ax;obtain⟨q7,c7,hY⟩:=jQa hs.ak.1;obtain⟨q9,c9,hX⟩:=jQa hs.items.1;obtain⟨Hb,h9,h6⟩:=jQa hs.aq
 dsimp only at hU hZ hY hX h6
 subst hU hZ hY hX h6;unfold jAF;obtain⟨lo,hL,rfl⟩:=jQa h.own;have hA:=h.few;obtain⟨nx,hQ⟩:∃x,x=Sq.jCi 0 (l.map Prod.fst)+1:=⟨_,rfl⟩
 have HE:Hid (jCP (l.map Prod.fst) size st=if(jBE st.table (l.map Prod.fst)).isSome then aE 5
  else if 4<st.cols.length then aE 6
  else if jEe st.cols then aE 5
  else if 5<=(l.map Prod.fst).length then aE 10
  else if 60<=size then aE 10
  else⟨jAH 0,true,⟨nx,st.table,st.cols⟩,[],[]⟩):=by rw[hQ];rfl
 have hE:=HE.o;rw[cF] at hE;have hz:=hs.cols.2;have HK:Hid (∀w',Below w.heap.size w w'->Calls Tryz.prog 72 #[.slice lo l.length hL,.string st.table] w' (jFu w' (jBE st.table (l.map Prod.fst)))):=fun w' hb=>jRt l _ _ w' (h.below hb)
 have hk:=HK.o;have HN:Hid (∀w',Below w.heap.size w w'->Calls Tryz.prog 108 #[.slice lo l.length hL] w' fun e Hc=>e=.returned (.int .i64 nx)/\Hc=w'):=fun w' hb=>by rw[hQ];exact qB1 l _ w' (h.below hb) hS
 clear HE HK h hQ hS;generalize jBE st.table (l.map Prod.fst)=fo at *;generalize jCP (l.map Prod.fst) size st=out at *;have ho:=hd hE;have HK:=hd hk;have HS:=hd hs;have HT:=hd hT;clear hE hk hs hT;obtain⟨W,hW⟩:∃W:World,W=(w.alloc (.cells #[.int .i64 st.act,.string st.table,.slice q5 st.cols.length c5,.slice q6 st.ax.length c6,.slice q7 st.ak.length c7,.int .i64 st.shw,.slice q9 st.items.length c9,.slice Hb st.aq.length h9] 118)).alloc (.cells #[.string ⟨#[]⟩,.bool false,.int .i64 0,.string ⟨#[]⟩,.slice none 0 0,.slice none 0 0,.slice none 0 0] 98):=⟨_,rfl⟩;obtain⟨hR,hK,hO⟩:=jIY hW;have hG:=jQe hO;have hu:=hd hR;have ht:Hid (W.heap[w.heap.size+1]?=some (.cells jFV 98)):=hO;have hq:=hd hK;clear hR hO hK;go_enter Tryz.func70,Tryz.ntmps70;go_wp2_with fail;rw[<-hW];clear hW;refine(HK.o _ hu.o).mono ?_;rintro e w1 ⟨Hd,rfl,hP,hJ⟩;obtain⟨Ha,hN,rfl⟩:=jQa hP.1;have hr:=(hJ.block w.heap.size (by omega)).trans hq.o;have b1:w1.cell? ⟨w.heap.size,1,none⟩=some (.string st.table):=by rw[jQb hr];rfl
 have b2:w1.cell? ⟨w.heap.size,2,none⟩=some (.slice q5 st.cols.length c5):=by rw[jQb hr];rfl
 have hv:=jQe hr;have hB:=hJ.size;have hg:Hid (∀o,Below w.heap.size w (w1.alloc o)):=fun o=>(hu.o.trans (hJ.mono (by omega))).alloc (by omega) o
 have he:Hid (∀o,(w1.alloc o).heap[w.heap.size+1]?=some (.cells jFV 98)):=fun o=>(jHy (by omega) o).trans ((hJ.block (w.heap.size+1) (by omega)).trans ht.o)
 generalize (fo.getD Sq.jCh)=ft at *;obtain⟨fn,fm,fc⟩:=ft;simp only at hP ⊢;clear hJ hr hP HK ht hq;generalize fo.isSome=fb at *;cases fb
 case true =>
  have hc:Hid (out=aE 5):=by show _=_;rw[ho.o];rfl
  go_wp2_with fail;refine(jG0 5 _ (by omega) (by omega) (HT.o.below (hg.o _))).mono ?_;rintro e w9 ⟨rfl,hI⟩;have ha:=(hI.block (w.heap.size+1) (by simp;omega)).trans (he.o _);obtain⟨d0,d1,d2,d3,d4,d5,d6⟩:=jQI ha;obtain⟨f0,f1,f2,f3,f4,f5,f6⟩:=jQy ha;have hl:=jQe ha;have hf:=hd ((hg.o _).trans (hI.mono (by simp;omega)));clear hI ha;unfold az;go_wp2;refine cp (v:=.agg (az (aE 5) (.slice none 0 0) (.slice none 0 0) (.slice none 0 0))) (by simp[results,Tryz.results70,go_sem,az, *]) rfl ⟨_,_,_,by rw[hc.o],by rw[hc.o];exact jBx.none _ _ rfl rfl rfl,?_⟩;exact jQu hf.o (by omega) _ _ _ _ _ _ _
 case false =>
  by_cases h1:4<st.cols.length
  ·have hc:Hid (out=aE 6):=by show _=_;rw[ho.o,cy (by decide),cE h1]
   go_wp2_with fail;refine(jG0 6 _ (by omega) (by omega) (HT.o.below (hg.o _))).mono ?_;rintro e w9 ⟨rfl,hI⟩;have ha:=(hI.block (w.heap.size+1) (by simp;omega)).trans (he.o _);obtain⟨d0,d1,d2,d3,d4,d5,d6⟩:=jQI ha;obtain⟨f0,f1,f2,f3,f4,f5,f6⟩:=jQy ha;have hl:=jQe ha;have hf:=hd ((hg.o _).trans (hI.mono (by simp;omega)));clear hI ha;unfold az;go_wp2;refine cp (v:=.agg (az (aE 6) (.slice none 0 0) (.slice none 0 0) (.slice none 0 0))) (by simp[results,Tryz.results70,go_sem,az, *]) rfl ⟨_,_,_,by rw[hc.o],by rw[hc.o];exact jBx.none _ _ rfl rfl rfl,?_⟩;exact jQu hf.o (by omega) _ _ _ _ _ _ _
  go_wp2_with fail;refine(jZz st.cols _ _ (HS.o.cols.below (hg.o _))).mono ?_;rintro e w2 ⟨rfl,h0⟩;rw[h0];clear h0 w2;cases h2:jEe st.cols
  case true =>
   have hc:Hid (out=aE 5):=by show _=_;rw[ho.o,cy (by decide),cy h1,h2];rfl
   go_wp2_with fail;refine(jG0 5 _ (by omega) (by omega) (HT.o.below (hg.o _))).mono ?_;rintro e w9 ⟨rfl,hI⟩;have ha:=(hI.block (w.heap.size+1) (by simp;omega)).trans (he.o _);obtain⟨d0,d1,d2,d3,d4,d5,d6⟩:=jQI ha;obtain⟨f0,f1,f2,f3,f4,f5,f6⟩:=jQy ha;have hl:=jQe ha;have hf:=hd ((hg.o _).trans (hI.mono (by simp;omega)));clear hI ha;unfold az;go_wp2;refine cp (v:=.agg (az (aE 5) (.slice none 0 0) (.slice none 0 0) (.slice none 0 0))) (by simp[results,Tryz.results70,go_sem,az, *]) rfl ⟨_,_,_,by rw[hc.o],by rw[hc.o];exact jBx.none _ _ rfl rfl rfl,?_⟩;exact jQu hf.o (by omega) _ _ _ _ _ _ _
  case false =>
   by_cases h3:5<=l.length
   ·have hc:Hid (out=aE 10):=by show _=_;rw[ho.o,cy (by decide),cy h1,h2,cy (by decide),cE h3]
    go_wp2_with fail;refine(jG0 10 _ (by omega) (by omega) (HT.o.below (hg.o _))).mono ?_;rintro e w9 ⟨rfl,hI⟩;have ha:=(hI.block (w.heap.size+1) (by simp;omega)).trans (he.o _);obtain⟨d0,d1,d2,d3,d4,d5,d6⟩:=jQI ha;obtain⟨f0,f1,f2,f3,f4,f5,f6⟩:=jQy ha;have hl:=jQe ha;have hf:=hd ((hg.o _).trans (hI.mono (by simp;omega)));clear hI ha;unfold az;go_wp2;refine cp (v:=.agg (az (aE 10) (.slice none 0 0) (.slice none 0 0) (.slice none 0 0))) (by simp[results,Tryz.results70,go_sem,az, *]) rfl ⟨_,_,_,by rw[hc.o],by rw[hc.o];exact jBx.none _ _ rfl rfl rfl,?_⟩;exact jQu hf.o (by omega) _ _ _ _ _ _ _
   by_cases h4:60<=size
   ·have hc:Hid (out=aE 10):=by show _=_;rw[ho.o,cy (by decide),cy h1,h2,cy (by decide),cy h3,cE h4]
    go_wp2_with fail;refine(jG0 10 _ (by omega) (by omega) (HT.o.below (hg.o _))).mono ?_;rintro e w9 ⟨rfl,hI⟩;have ha:=(hI.block (w.heap.size+1) (by simp;omega)).trans (he.o _);obtain⟨d0,d1,d2,d3,d4,d5,d6⟩:=jQI ha;obtain⟨f0,f1,f2,f3,f4,f5,f6⟩:=jQy ha;have hl:=jQe ha;have hf:=hd ((hg.o _).trans (hI.mono (by simp;omega)));clear hI ha;unfold az;go_wp2;refine cp (v:=.agg (az (aE 10) (.slice none 0 0) (.slice none 0 0) (.slice none 0 0))) (by simp[results,Tryz.results70,go_sem,az, *]) rfl ⟨_,_,_,by rw[hc.o],by rw[hc.o];exact jBx.none _ _ rfl rfl rfl,?_⟩;exact jQu hf.o (by omega) _ _ _ _ _ _ _
   have hc:Hid (out=⟨jAH 0,true,⟨nx,st.table,st.cols⟩,[],[]⟩):=by show _=_;rw[ho.o,cy (by decide),cy h1,h2,cy (by decide),cy h3,cy h4]
   obtain⟨V,hV⟩:∃V:World,V=w1.alloc (.cells #[.int .i64 fn,.string fm,.slice Ha fc.length hN] 94):=⟨_,rfl⟩;rw[<-hV];have hm:Below w1.heap.size w1 V:=by rw[hV];exact bA
   have hi:Hid (Below w.heap.size w V):=by show Below _ _ _;rw[hV];exact hg.o _
   have hh:Hid (V.heap[w.heap.size+1]?=some (.cells jFV 98)):=by show _=_;rw[hV];exact he.o _
   have h7:=((aD hm).1 w.heap.size 1 hv).trans b1;have h8:=((aD hm).1 w.heap.size 2 hv).trans b2;have hC:w.heap.size<V.heap.size:=by have:=hm.size;omega
   have hD:=jQe hh.o;clear hV hm b1 b2;go_wp2
   go_cut [9] from 36 (fun pv wx=>pv=.pointer (some ⟨V.heap.size,0,none⟩)/\wx.heap[V.heap.size]?=some (.cells #[.int .i64 nx,.string st.table,.slice q5 st.cols.length c5] 94)/\Below V.heap.size V wx)
   case first =>
    go_region_with (go_at_call 108;refine(HN.o _ (by first | exact hi.o.drew | exact(hi.o.alloc (by omega) _).drew | exact hi.o.drew.alloc (by simp;omega) _)).mono ?_;rintro e w9 ⟨rfl,h5⟩;rw[h5];clear h5 w9)
    all_goals(try go_wp2_with fail)
    all_goals go_meet
    all_goals exact⟨rfl,jFE V _,(bA).drew⟩
   case rest =>
    obtain⟨rfl,hM,hm⟩:=hcut;have hn:Hid (Below w.heap.size w wc):=hi.o.trans (hm.mono (by omega));have hp:Hid (wc.heap[w.heap.size+1]?=some (.cells jFV 98)):=(hm.block _ (by omega)).trans hh.o;obtain⟨v0,v1,v2,-,-,-⟩:=jFd hM;have hH:=jQe hM;have hy:w.heap.size+1<wc.heap.size:=by omega
    have hw:=hd hM;clear hm hM h7 h8 hi hh;go_wp2
    go_region_with (go_at_call 109;refine(jII 0 wc.drew (by omega) (by omega) (HT.o.below hn.o.drew)).mono ?_;rintro e w9 ⟨rfl,hI⟩;have hj:Below wc.heap.size wc w9:=(cB bR).trans hI;have ha:=(hj.block (w.heap.size+1) (by omega)).trans hp.o;obtain⟨d0,d1,d2,d3,d4,d5,d6⟩:=jQI ha;obtain⟨f0,f1,f2,f3,f4,f5,f6⟩:=jQy ha;obtain⟨u0,u1,u2,-,-,-⟩:=jFd ((hj.block V.heap.size (by omega)).trans hw.o);have hF:=hj.size;have hl:w.heap.size+1<w9.heap.size:=(by omega);have hx:V.heap.size<w9.heap.size:=(by omega);have hf:=hd hj;clear hI hj ha)
    all_goals(try go_wp2_with fail)
    all_goals(refine cp (v:=.agg (az ⟨jAH 0,true,⟨nx,st.table,st.cols⟩,[],[]⟩ (.slice q5 st.cols.length c5) (.slice none 0 0) (.slice none 0 0))) (by simp[results,Tryz.results70,go_sem,az, *]) rfl ⟨_,_,_,by rw[hc.o],?_,?_⟩)
    all_goals first
     | exact jQu (hn.o.trans (hf.o.mono (by omega))) (by omega) _ _ _ _ _ _ _
     | (rw[hc.o];exact⟨HS.o.cols.below (jQu (hn.o.trans (hf.o.mono (by omega))) (by omega) _ _ _ _ _ _ _),aQ.nil _ _,cu _ _ _ _,by simp,by simp⟩)
end
end Go.Proofs.YtahpihjialbanaaGreatDoor
