import Derived.Test.YtahpihjialbanaaGreatDoorQbb
set_option linter.unusedVariables false
set_option linter.unusedSimpArgs false
set_option maxRecDepth 100000
set_option maxHeartbeats 2000000
namespace Go.Proofs.YtahpihjialbanaaGreatDoor
open Sq (refusedR)
section
open Go.RowKit
theorem jQlk (l:List (Sq.TabN×Value))(lv:Value)(size:Int)(st:Sq.PSt)(r:Rw)(w:World)(h:TabsOwn 0 w lv l)(hbd:∀x∈l,-2147483648<=x.1.number/\x.1.number<=2147483647)(hs:StmAt w st r)(hT:Tbl w) :
  Calls Tryz.prog 70 #[lv,.int .i64 size,.agg (stmCells st r)] w (OutPost w (Sq.createR (l.map Prod.fst) size st)):=by
 obtain⟨cvx,vvx,svx,ivx,wvx⟩:=r;obtain⟨q5,c5,hcv⟩:=jQa hs.cols.1;obtain⟨q6,c6,hvv⟩:=jQa hs.vals;obtain⟨q7,c7,hsv⟩:=jQa hs.sets.1;obtain⟨q9,c9,hiv⟩:=jQa hs.items.1;obtain⟨q10,c10,hwv⟩:=jQa hs.wher
 dsimp only at hcv hvv hsv hiv hwv
 subst hcv hvv hsv hiv hwv;unfold stmCells;obtain⟨lo,lcap,rfl⟩:=jQa h.own;have hC:=h.few;obtain⟨nx,hnx⟩:∃x,x=Sq.lastR 0 (l.map Prod.fst)+1:=⟨_,rfl⟩
 have HE:Hid (Sq.createR (l.map Prod.fst) size st=if(Sq.findR st.table (l.map Prod.fst)).isSome then refusedR 5
  else if 4<st.cols.length then refusedR 6
  else if Sq.twoOf st.cols then refusedR 5
  else if 5<=(l.map Prod.fst).length then refusedR 10
  else if 60<=size then refusedR 10
  else⟨Sq.counted 0,true,⟨nx,st.table,st.cols⟩,[],[]⟩):=by rw[hnx];rfl
 have hE:=HE.o;rw[List.length_map] at hE;have hF:=hs.cols.2;have HK:Hid (∀w',Below w.heap.size w w'->Calls Tryz.prog 72 #[.slice lo l.length lcap,.string st.table] w' (FindPost w' (Sq.findR st.table (l.map Prod.fst)))):=fun w' hb=>jQf3 l _ _ w' (h.below hb)
 have hk:=HK.o;have HN:Hid (∀w',Below w.heap.size w w'->Calls Tryz.prog 108 #[.slice lo l.length lcap] w' fun e w''=>e=.returned (.int .i64 nx)/\w''=w'):=fun w' hb=>by rw[hnx];exact jQrh l _ w' (h.below hb) hbd
 clear HE HK h hnx hbd;generalize Sq.findR st.table (l.map Prod.fst)=fo at *;generalize Sq.createR (l.map Prod.fst) size st=out at *;have ho:=hd hE;have HK:=hd hk;have HS:=hd hs;have HT:=hd hT;clear hE hk hs hT;obtain⟨W,hW⟩:∃W:World,W=(w.alloc (.cells #[.int .i64 st.act,.string st.table,.slice q5 st.cols.length c5,.slice q6 st.vals.length c6,.slice q7 st.sets.length c7,.int .i64 st.shw,.slice q9 st.items.length c9,.slice q10 st.wher.length c10] 118)).alloc (.cells #[.string ⟨#[]⟩,.bool false,.int .i64 0,.string ⟨#[]⟩,.slice none 0 0,.slice none 0 0,.slice none 0 0] 98):=⟨_,rfl⟩;obtain⟨hbW,hbox,hbo⟩:=jQa4 hW;have hD:=jQf hbo;have hu:=hd hbW;have ht:Hid (W.heap[w.heap.size+1]?=some (.cells out0 98)):=hbo;have hq:=hd hbox;clear hbW hbo hbox;go_enter Tryz.func70,Tryz.ntmps70;go_wp2_with fail;rw[<-hW];clear hW;refine(HK.o _ hu.o).mono ?_;rintro e w1 ⟨cvf,rfl,hcf,hb1⟩;obtain⟨fao,fcap,rfl⟩:=jQa hcf.1;have hr:=(hb1.block w.heap.size (by omega)).trans hq.o;have b1:w1.cell? ⟨w.heap.size,1,none⟩=some (.string st.table):=by rw[jQb hr];rfl
 have b2:w1.cell? ⟨w.heap.size,2,none⟩=some (.slice q5 st.cols.length c5):=by rw[jQb hr];rfl
 have hv:=jQf hr;have hH:=hb1.size;have hf:Hid (∀o,Below w.heap.size w (w1.alloc o)):=fun o=>(hu.o.trans (hb1.mono (by omega))).alloc (by omega) o
 have he:Hid (∀o,(w1.alloc o).heap[w.heap.size+1]?=some (.cells out0 98)):=fun o=>(jQbM (by omega) o).trans ((hb1.block (w.heap.size+1) (by omega)).trans ht.o)
 generalize (fo.getD Sq.tabNone)=ft at *;obtain⟨fn,fm,fc⟩:=ft;simp only at hcf ⊢;clear hb1 hr hcf HK ht hq;generalize fo.isSome=fb at *;cases fb
 case true =>
  have hc:Hid (out=refusedR 5):=by show _=_;rw[ho.o];rfl
  go_wp2_with fail;refine(jQac 5 _ (by omega) (by omega) (HT.o.below (hf.o _))).mono ?_;rintro e w9 ⟨rfl,hb9⟩;have ha:=(hb9.block (w.heap.size+1) (by simp;omega)).trans (he.o _);obtain⟨d0,d1,d2,d3,d4,d5,d6⟩:=jQG ha;obtain⟨f0,f1,f2,f3,f4,f5,f6⟩:=jQy ha;have hi:=jQf ha;have hg:=hd ((hf.o _).trans (hb9.mono (by simp;omega)));clear hb9 ha;unfold outCells;go_wp2;refine bodyPost_ret (v:=.agg (outCells (refusedR 5) (.slice none 0 0) (.slice none 0 0) (.slice none 0 0))) (by simp[results,Tryz.results70,go_sem,outCells, *]) rfl ⟨_,_,_,by rw[hc.o],by rw[hc.o];exact OutAt.none _ _ rfl rfl rfl,?_⟩;exact jQu hg.o (by omega) _ _ _ _ _ _ _
 case false =>
  by_cases h1:4<st.cols.length
  ·have hc:Hid (out=refusedR 6):=by show _=_;rw[ho.o,if_neg (by decide),if_pos h1]
   go_wp2_with fail;refine(jQac 6 _ (by omega) (by omega) (HT.o.below (hf.o _))).mono ?_;rintro e w9 ⟨rfl,hb9⟩;have ha:=(hb9.block (w.heap.size+1) (by simp;omega)).trans (he.o _);obtain⟨d0,d1,d2,d3,d4,d5,d6⟩:=jQG ha;obtain⟨f0,f1,f2,f3,f4,f5,f6⟩:=jQy ha;have hi:=jQf ha;have hg:=hd ((hf.o _).trans (hb9.mono (by simp;omega)));clear hb9 ha;unfold outCells;go_wp2;refine bodyPost_ret (v:=.agg (outCells (refusedR 6) (.slice none 0 0) (.slice none 0 0) (.slice none 0 0))) (by simp[results,Tryz.results70,go_sem,outCells, *]) rfl ⟨_,_,_,by rw[hc.o],by rw[hc.o];exact OutAt.none _ _ rfl rfl rfl,?_⟩;exact jQu hg.o (by omega) _ _ _ _ _ _ _
  ·go_wp2_with fail;refine(jQoG st.cols _ _ (HS.o.cols.below (hf.o _))).mono ?_;rintro e w2 ⟨rfl,hw2⟩;rw[hw2];clear hw2 w2;cases h2:Sq.twoOf st.cols
   case true =>
    have hc:Hid (out=refusedR 5):=by show _=_;rw[ho.o,if_neg (by decide),if_neg h1,h2];rfl
    go_wp2_with fail;refine(jQac 5 _ (by omega) (by omega) (HT.o.below (hf.o _))).mono ?_;rintro e w9 ⟨rfl,hb9⟩;have ha:=(hb9.block (w.heap.size+1) (by simp;omega)).trans (he.o _);obtain⟨d0,d1,d2,d3,d4,d5,d6⟩:=jQG ha;obtain⟨f0,f1,f2,f3,f4,f5,f6⟩:=jQy ha;have hi:=jQf ha;have hg:=hd ((hf.o _).trans (hb9.mono (by simp;omega)));clear hb9 ha;unfold outCells;go_wp2;refine bodyPost_ret (v:=.agg (outCells (refusedR 5) (.slice none 0 0) (.slice none 0 0) (.slice none 0 0))) (by simp[results,Tryz.results70,go_sem,outCells, *]) rfl ⟨_,_,_,by rw[hc.o],by rw[hc.o];exact OutAt.none _ _ rfl rfl rfl,?_⟩;exact jQu hg.o (by omega) _ _ _ _ _ _ _
   case false =>
    by_cases h3:5<=l.length
    ·have hc:Hid (out=refusedR 10):=by show _=_;rw[ho.o,if_neg (by decide),if_neg h1,h2,if_neg (by decide),if_pos h3]
     go_wp2_with fail;refine(jQac 10 _ (by omega) (by omega) (HT.o.below (hf.o _))).mono ?_;rintro e w9 ⟨rfl,hb9⟩;have ha:=(hb9.block (w.heap.size+1) (by simp;omega)).trans (he.o _);obtain⟨d0,d1,d2,d3,d4,d5,d6⟩:=jQG ha;obtain⟨f0,f1,f2,f3,f4,f5,f6⟩:=jQy ha;have hi:=jQf ha;have hg:=hd ((hf.o _).trans (hb9.mono (by simp;omega)));clear hb9 ha;unfold outCells;go_wp2;refine bodyPost_ret (v:=.agg (outCells (refusedR 10) (.slice none 0 0) (.slice none 0 0) (.slice none 0 0))) (by simp[results,Tryz.results70,go_sem,outCells, *]) rfl ⟨_,_,_,by rw[hc.o],by rw[hc.o];exact OutAt.none _ _ rfl rfl rfl,?_⟩;exact jQu hg.o (by omega) _ _ _ _ _ _ _
    ·by_cases h4:60<=size
     ·have hc:Hid (out=refusedR 10):=by show _=_;rw[ho.o,if_neg (by decide),if_neg h1,h2,if_neg (by decide),if_neg h3,if_pos h4]
      go_wp2_with fail;refine(jQac 10 _ (by omega) (by omega) (HT.o.below (hf.o _))).mono ?_;rintro e w9 ⟨rfl,hb9⟩;have ha:=(hb9.block (w.heap.size+1) (by simp;omega)).trans (he.o _);obtain⟨d0,d1,d2,d3,d4,d5,d6⟩:=jQG ha;obtain⟨f0,f1,f2,f3,f4,f5,f6⟩:=jQy ha;have hi:=jQf ha;have hg:=hd ((hf.o _).trans (hb9.mono (by simp;omega)));clear hb9 ha;unfold outCells;go_wp2;refine bodyPost_ret (v:=.agg (outCells (refusedR 10) (.slice none 0 0) (.slice none 0 0) (.slice none 0 0))) (by simp[results,Tryz.results70,go_sem,outCells, *]) rfl ⟨_,_,_,by rw[hc.o],by rw[hc.o];exact OutAt.none _ _ rfl rfl rfl,?_⟩;exact jQu hg.o (by omega) _ _ _ _ _ _ _
     ·have hc:Hid (out=⟨Sq.counted 0,true,⟨nx,st.table,st.cols⟩,[],[]⟩):=by show _=_;rw[ho.o,if_neg (by decide),if_neg h1,h2,if_neg (by decide),if_neg h3,if_neg h4]
      obtain⟨V,hV⟩:∃V:World,V=w1.alloc (.cells #[.int .i64 fn,.string fm,.slice fao fc.length fcap] 94):=⟨_,rfl⟩;rw[<-hV];have hm:Below w1.heap.size w1 V:=by rw[hV];exact(bR).alloc (nR) _
      have hj:Hid (Below w.heap.size w V):=by show Below _ _ _;rw[hV];exact hf.o _
      have hl:Hid (V.heap[w.heap.size+1]?=some (.cells out0 98)):=by show _=_;rw[hV];exact he.o _
      have b1':=((bcell hm).1 w.heap.size 1 hv).trans b1;have b2':=((bcell hm).1 w.heap.size 2 hv).trans b2;have hB:w.heap.size<V.heap.size:=by have:=hm.size;omega
      have hG:=jQf hl.o;clear hV hm b1 b2;go_wp2
      go_cut [9] from 36 (fun pv wx=>pv=.pointer (some ⟨V.heap.size,0,none⟩)/\wx.heap[V.heap.size]?=some (.cells #[.int .i64 nx,.string st.table,.slice q5 st.cols.length c5] 94)/\Below V.heap.size V wx)
      case first =>
       go_region_with (go_at_call 108;refine(HN.o _ (by first | exact hj.o.drew | exact(hj.o.alloc (by omega) _).drew | exact hj.o.drew.alloc (by simp;omega) _)).mono ?_;rintro e w9 ⟨rfl,hw9⟩;rw[hw9];clear hw9 w9)
       all_goals(try go_wp2_with fail)
       all_goals go_meet
       all_goals exact⟨rfl,jQap V _,((bR).alloc (nR) _).drew⟩
      case rest =>
       obtain⟨rfl,hvt,hm⟩:=hcut;have hn:Hid (Below w.heap.size w wc):=hj.o.trans (hm.mono (by omega));have hp:Hid (wc.heap[w.heap.size+1]?=some (.cells out0 98)):=(hm.block _ (by omega)).trans hl.o;obtain⟨v0,v1,v2,-,-,-⟩:=tab3 hvt;have hz:=jQf hvt;have hw:w.heap.size+1<wc.heap.size:=by omega
       have hx:=hd hvt;clear hm hvt b1' b2' hj hl;go_wp2
       go_region_with (go_at_call 109;refine(jQaG 0 wc.drew (by omega) (by omega) (HT.o.below hn.o.drew)).mono ?_;rintro e w9 ⟨rfl,hb9⟩;have hh:Below wc.heap.size wc w9:=(Below.drew (bR)).trans hb9;have ha:=(hh.block (w.heap.size+1) (by omega)).trans hp.o;obtain⟨d0,d1,d2,d3,d4,d5,d6⟩:=jQG ha;obtain⟨f0,f1,f2,f3,f4,f5,f6⟩:=jQy ha;obtain⟨u0,u1,u2,-,-,-⟩:=tab3 ((hh.block V.heap.size (by omega)).trans hx.o);have hA:=hh.size;have hi:w.heap.size+1<w9.heap.size:=(by omega);have hy:V.heap.size<w9.heap.size:=(by omega);have hg:=hd hh;clear hb9 hh ha)
       all_goals(try go_wp2_with fail)
       all_goals(refine bodyPost_ret (v:=.agg (outCells ⟨Sq.counted 0,true,⟨nx,st.table,st.cols⟩,[],[]⟩ (.slice q5 st.cols.length c5) (.slice none 0 0) (.slice none 0 0))) (by simp[results,Tryz.results70,go_sem,outCells, *]) rfl ⟨_,_,_,by rw[hc.o],?_,?_⟩)
       all_goals first
        | exact jQu (hn.o.trans (hg.o.mono (by omega))) (by omega) _ _ _ _ _ _ _
        | (rw[hc.o];exact⟨HS.o.cols.below (jQu (hn.o.trans (hg.o.mono (by omega))) (by omega) _ _ _ _ _ _ _),RowsOwn.nil _ _,World.ownsRow_nil _ _ _ _,by simp,by simp⟩)
end
end Go.Proofs.YtahpihjialbanaaGreatDoor
