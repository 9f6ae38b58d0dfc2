import Derived.Test.YtahpihjialbanaaGreatDoorQau
set_option linter.unusedVariables false
set_option linter.unusedSimpArgs false
set_option maxRecDepth 100000
set_option maxHeartbeats 2000000
namespace Go.Proofs.YtahpihjialbanaaGreatDoor
section
open Go.RowKit
theorem jQkZ (l:List (Sq.TabN×Value))(lv:Value)(size:Int)(st:Sq.PSt)(r:Rw)(w:World)(h:TabsOwn 0 w lv l)(hbd:∀x∈l,-2147483648≤x.1.number∧x.1.number≤2147483647)(hs:StmAt w st r)(hT:Tbl w) :
  Calls Tryz.prog 70 #[lv,.int .i64 size,.agg (stmCells st r)] w (OutPost w (Sq.createR (l.map Prod.fst) size st)):=by
 obtain⟨cvx,vvx,svx,ivx,wvx⟩:=r
 obtain⟨q5,c5,hcv⟩:=jQa hs.cols.1
 obtain⟨q6,c6,hvv⟩:=jQa hs.vals
 obtain⟨q7,c7,hsv⟩:=jQa hs.sets.1
 obtain⟨q9,c9,hiv⟩:=jQa hs.items.1
 obtain⟨q10,c10,hwv⟩:=jQa hs.wher
 dsimp only at hcv hvv hsv hiv hwv
 subst hcv hvv hsv hiv hwv
 unfold stmCells
 obtain⟨lo,lcap,rfl⟩:=jQa h.own
 have hlf:=h.few
 obtain⟨nx,hnx⟩:∃x,x=Sq.lastR 0 (l.map Prod.fst)+1:=⟨_,rfl⟩
 have HE:Hid (Sq.createR (l.map Prod.fst) size st=if(Sq.findR st.table (l.map Prod.fst)).isSome then Sq.refusedR 5
  else if 4 < st.cols.length then Sq.refusedR 6
  else if Sq.twoOf st.cols then Sq.refusedR 5
  else if 5≤(l.map Prod.fst).length then Sq.refusedR 10
  else if 60≤size then Sq.refusedR 10
  else⟨Sq.counted 0,true,⟨nx,st.table,st.cols⟩,[],[]⟩):=by rw[hnx];rfl
 have hE:=HE.out
 rw[List.length_map] at hE
 have hcl:=hs.cols.2
 have HK:Hid (∀w',Below w.heap.size w w'→Calls Tryz.prog 72 #[.slice lo l.length lcap,.string st.table] w' (FindPost w' (Sq.findR st.table (l.map Prod.fst)))):=fun w' hb=>jQf0 l _ _ w' (h.below hb)
 have hk:=HK.out
 have HN:Hid (∀w',Below w.heap.size w w'→Calls Tryz.prog 108 #[.slice lo l.length lcap] w' fun e w''=>e=.returned (.int .i64 nx)∧w''=w'):=fun w' hb=>by rw[hnx];exact jQrz l _ w' (h.below hb) hbd
 clear HE HK h hnx hbd
 generalize Sq.findR st.table (l.map Prod.fst)=fo at *
 generalize Sq.createR (l.map Prod.fst) size st=out at *
 have HE2:=hd hE
 have HK:=hd hk
 have HS:=hd hs
 have HT:=hd hT
 clear hE hk hs hT
 obtain⟨W,hW⟩:∃W:World,W=(w.alloc (.cells #[.int .i64 st.act,.string st.table,.slice q5 st.cols.length c5,.slice q6 st.vals.length c6,.slice q7 st.sets.length c7,.int .i64 st.shw,.slice q9 st.items.length c9,.slice q10 st.wher.length c10] 118)).alloc (.cells #[.string ⟨#[]⟩,.bool false,.int .i64 0,.string ⟨#[]⟩,.slice none 0 0,.slice none 0 0,.slice none 0 0] 98):=⟨_,rfl⟩
 obtain⟨hbW,hbox,hbo⟩:=jQbg hW
 have hzW:=jQg hbo
 have HBW:=hd hbW
 have HBO:Hid (W.heap[w.heap.size+1]?=some (.cells out0 98)):=hbo
 have HBOX:=hd hbox
 clear hbW hbo hbox
 go_enter Tryz.func70,Tryz.ntmps70
 go_wp2_with fail
 rw[←hW]
 clear hW
 refine(HK.out _ HBW.out).mono ?_
 rintro e w1 ⟨cvf,rfl,hcf,hb1⟩
 obtain⟨fao,fcap,rfl⟩:=jQa hcf.1
 have hbx:=(hb1.block w.heap.size (by omega)).trans HBOX.out
 have b1:w1.cell? ⟨w.heap.size,1,none⟩=some (.string st.table):=by rw[jQb hbx];rfl
 have b2:w1.cell? ⟨w.heap.size,2,none⟩=some (.slice q5 st.cols.length c5):=by rw[jQb hbx];rfl
 have hz1:=jQg hbx
 have hz2:=hb1.size
 have HBA:Hid (∀o,Below w.heap.size w (w1.alloc o)):=fun o=>(HBW.out.trans (hb1.mono (by omega))).alloc (by omega) o
 have HBLK:Hid (∀o,(w1.alloc o).heap[w.heap.size+1]?=some (.cells out0 98)):=fun o=>(jQax (by omega) o).trans ((hb1.block (w.heap.size+1) (by omega)).trans HBO.out)
 generalize (fo.getD Sq.tabNone)=ft at *
 obtain⟨fn,fm,fc⟩:=ft
 simp only at hcf ⊢
 clear hb1 hbx hcf HK HBO HBOX
 generalize fo.isSome=fb at *
 cases fb
 case true =>
  have HE3:Hid (out=Sq.refusedR 5):=by show _=_;rw[HE2.out];rfl
  go_wp2_with fail
  refine(jQaj 5 _ (by omega) (by omega) (HT.out.below (HBA.out _))).mono ?_
  rintro e w9 ⟨rfl,hb9⟩
  have hblk9:=(hb9.block (w.heap.size+1) (by simp;omega)).trans (HBLK.out _)
  obtain⟨d0,d1,d2,d3,d4,d5,d6⟩:=jQK hblk9
  obtain⟨f0,f1,f2,f3,f4,f5,f6⟩:=jQw hblk9
  have hz10:=jQg hblk9
  have HB9:=hd ((HBA.out _).trans (hb9.mono (by simp;omega)))
  clear hb9 hblk9
  unfold outCells
  go_wp2
  refine bodyPost_ret (v:=.agg (outCells (Sq.refusedR 5) (.slice none 0 0) (.slice none 0 0) (.slice none 0 0))) (by simp[results,Tryz.results70,go_sem,outCells, *]) rfl ⟨_,_,_,by rw[HE3.out],by rw[HE3.out];exact OutAt.none _ _ rfl rfl rfl,?_⟩
  exact jQA HB9.out (by omega) _ _ _ _ _ _ _
 case false =>
  by_cases h1:4 < st.cols.length
  ·have HE3:Hid (out=Sq.refusedR 6):=by show _=_;rw[HE2.out,if_neg (by decide),if_pos h1]
   go_wp2_with fail
   refine(jQaj 6 _ (by omega) (by omega) (HT.out.below (HBA.out _))).mono ?_
   rintro e w9 ⟨rfl,hb9⟩
   have hblk9:=(hb9.block (w.heap.size+1) (by simp;omega)).trans (HBLK.out _)
   obtain⟨d0,d1,d2,d3,d4,d5,d6⟩:=jQK hblk9
   obtain⟨f0,f1,f2,f3,f4,f5,f6⟩:=jQw hblk9
   have hz10:=jQg hblk9
   have HB9:=hd ((HBA.out _).trans (hb9.mono (by simp;omega)))
   clear hb9 hblk9
   unfold outCells
   go_wp2
   refine bodyPost_ret (v:=.agg (outCells (Sq.refusedR 6) (.slice none 0 0) (.slice none 0 0) (.slice none 0 0))) (by simp[results,Tryz.results70,go_sem,outCells, *]) rfl ⟨_,_,_,by rw[HE3.out],by rw[HE3.out];exact OutAt.none _ _ rfl rfl rfl,?_⟩
   exact jQA HB9.out (by omega) _ _ _ _ _ _ _
  ·go_wp2_with fail
   refine(jQod st.cols _ _ (HS.out.cols.below (HBA.out _))).mono ?_
   rintro e w2 ⟨rfl,hw2⟩
   rw[hw2]
   clear hw2 w2
   cases h2:Sq.twoOf st.cols
   case true =>
    have HE3:Hid (out=Sq.refusedR 5):=by show _=_;rw[HE2.out,if_neg (by decide),if_neg h1,h2];rfl
    go_wp2_with fail
    refine(jQaj 5 _ (by omega) (by omega) (HT.out.below (HBA.out _))).mono ?_
    rintro e w9 ⟨rfl,hb9⟩
    have hblk9:=(hb9.block (w.heap.size+1) (by simp;omega)).trans (HBLK.out _)
    obtain⟨d0,d1,d2,d3,d4,d5,d6⟩:=jQK hblk9
    obtain⟨f0,f1,f2,f3,f4,f5,f6⟩:=jQw hblk9
    have hz10:=jQg hblk9
    have HB9:=hd ((HBA.out _).trans (hb9.mono (by simp;omega)))
    clear hb9 hblk9
    unfold outCells
    go_wp2
    refine bodyPost_ret (v:=.agg (outCells (Sq.refusedR 5) (.slice none 0 0) (.slice none 0 0) (.slice none 0 0))) (by simp[results,Tryz.results70,go_sem,outCells, *]) rfl ⟨_,_,_,by rw[HE3.out],by rw[HE3.out];exact OutAt.none _ _ rfl rfl rfl,?_⟩
    exact jQA HB9.out (by omega) _ _ _ _ _ _ _
   case false =>
    by_cases h3:5≤l.length
    ·have HE3:Hid (out=Sq.refusedR 10):=by show _=_;rw[HE2.out,if_neg (by decide),if_neg h1,h2,if_neg (by decide),if_pos h3]
     go_wp2_with fail
     refine(jQaj 10 _ (by omega) (by omega) (HT.out.below (HBA.out _))).mono ?_
     rintro e w9 ⟨rfl,hb9⟩
     have hblk9:=(hb9.block (w.heap.size+1) (by simp;omega)).trans (HBLK.out _)
     obtain⟨d0,d1,d2,d3,d4,d5,d6⟩:=jQK hblk9
     obtain⟨f0,f1,f2,f3,f4,f5,f6⟩:=jQw hblk9
     have hz10:=jQg hblk9
     have HB9:=hd ((HBA.out _).trans (hb9.mono (by simp;omega)))
     clear hb9 hblk9
     unfold outCells
     go_wp2
     refine bodyPost_ret (v:=.agg (outCells (Sq.refusedR 10) (.slice none 0 0) (.slice none 0 0) (.slice none 0 0))) (by simp[results,Tryz.results70,go_sem,outCells, *]) rfl ⟨_,_,_,by rw[HE3.out],by rw[HE3.out];exact OutAt.none _ _ rfl rfl rfl,?_⟩
     exact jQA HB9.out (by omega) _ _ _ _ _ _ _
    ·by_cases h4:60≤size
     ·have HE3:Hid (out=Sq.refusedR 10):=by show _=_;rw[HE2.out,if_neg (by decide),if_neg h1,h2,if_neg (by decide),if_neg h3,if_pos h4]
      go_wp2_with fail
      refine(jQaj 10 _ (by omega) (by omega) (HT.out.below (HBA.out _))).mono ?_
      rintro e w9 ⟨rfl,hb9⟩
      have hblk9:=(hb9.block (w.heap.size+1) (by simp;omega)).trans (HBLK.out _)
      obtain⟨d0,d1,d2,d3,d4,d5,d6⟩:=jQK hblk9
      obtain⟨f0,f1,f2,f3,f4,f5,f6⟩:=jQw hblk9
      have hz10:=jQg hblk9
      have HB9:=hd ((HBA.out _).trans (hb9.mono (by simp;omega)))
      clear hb9 hblk9
      unfold outCells
      go_wp2
      refine bodyPost_ret (v:=.agg (outCells (Sq.refusedR 10) (.slice none 0 0) (.slice none 0 0) (.slice none 0 0))) (by simp[results,Tryz.results70,go_sem,outCells, *]) rfl ⟨_,_,_,by rw[HE3.out],by rw[HE3.out];exact OutAt.none _ _ rfl rfl rfl,?_⟩
      exact jQA HB9.out (by omega) _ _ _ _ _ _ _
     ·have HE3:Hid (out=⟨Sq.counted 0,true,⟨nx,st.table,st.cols⟩,[],[]⟩):=by show _=_;rw[HE2.out,if_neg (by decide),if_neg h1,h2,if_neg (by decide),if_neg h3,if_neg h4]
      obtain⟨V,hV⟩:∃V:World,V=w1.alloc (.cells #[.int .i64 fn,.string fm,.slice fao fc.length fcap] 94):=⟨_,rfl⟩
      rw[←hV]
      have hbv:Below w1.heap.size w1 V:=by rw[hV];exact(Below.refl _ _).alloc (Nat.le_refl _) _
      have HBW2:Hid (Below w.heap.size w V):=by show Below _ _ _;rw[hV];exact HBA.out _
      have HBLK2:Hid (V.heap[w.heap.size+1]?=some (.cells out0 98)):=by show _=_;rw[hV];exact HBLK.out _
      have b1':=((bcell hbv).1 w.heap.size 1 hz1).trans b1
      have b2':=((bcell hbv).1 w.heap.size 2 hz1).trans b2
      have hz3:w.heap.size < V.heap.size:=by have:=hbv.size;omega
      have hz4:=jQg HBLK2.out
      clear hV hbv b1 b2
      go_wp2
      go_cut [9] from 36 (fun pv wx=>pv=.pointer (some ⟨V.heap.size,0,none⟩)∧wx.heap[V.heap.size]?=some (.cells #[.int .i64 nx,.string st.table,.slice q5 st.cols.length c5] 94)∧Below V.heap.size V wx)
      case first =>
       go_region_with (go_at_call 108;refine(HN.out _ (by first | exact HBW2.out.drew | exact(HBW2.out.alloc (by omega) _).drew | exact HBW2.out.drew.alloc (by simp;omega) _)).mono ?_;rintro e w9 ⟨rfl,hw9⟩;rw[hw9];clear hw9 w9)
       all_goals(try go_wp2_with fail)
       all_goals go_meet
       all_goals exact⟨rfl,jQaB V _,((Below.refl _ _).alloc (Nat.le_refl _) _).drew⟩
      case rest =>
       obtain⟨rfl,hvt,hbv⟩:=hcut
       have HBW3:Hid (Below w.heap.size w wc):=HBW2.out.trans (hbv.mono (by omega))
       have HBLK3:Hid (wc.heap[w.heap.size+1]?=some (.cells out0 98)):=(hbv.block _ (by omega)).trans HBLK2.out
       obtain⟨v0,v1,v2,-,-,-⟩:=tab3 hvt
       have hzv:=jQg hvt
       have hzv2:w.heap.size+1 < wc.heap.size:=by omega
       have HVT:=hd hvt
       clear hbv hvt b1' b2' HBW2 HBLK2
       go_wp2
       go_region_with (go_at_call 109;refine(jQaT 0 wc.drew (by omega) (by omega) (HT.out.below HBW3.out.drew)).mono ?_;rintro e w9 ⟨rfl,hb9⟩;have hb9':Below wc.heap.size wc w9:=(Below.drew (Below.refl _ _)).trans hb9;have hblk9:=(hb9'.block (w.heap.size+1) (by omega)).trans HBLK3.out;obtain⟨d0,d1,d2,d3,d4,d5,d6⟩:=jQK hblk9;obtain⟨f0,f1,f2,f3,f4,f5,f6⟩:=jQw hblk9;obtain⟨u0,u1,u2,-,-,-⟩:=tab3 ((hb9'.block V.heap.size (by omega)).trans HVT.out);have hz9:=hb9'.size;have hz10:w.heap.size+1 < w9.heap.size:=(by omega);have hz11:V.heap.size < w9.heap.size:=(by omega);have HB9:=hd hb9';clear hb9 hb9' hblk9)
       all_goals(try go_wp2_with fail)
       all_goals(refine bodyPost_ret (v:=.agg (outCells ⟨Sq.counted 0,true,⟨nx,st.table,st.cols⟩,[],[]⟩ (.slice q5 st.cols.length c5) (.slice none 0 0) (.slice none 0 0))) (by simp[results,Tryz.results70,go_sem,outCells, *]) rfl ⟨_,_,_,by rw[HE3.out],?_,?_⟩)
       all_goals first
        | exact jQA (HBW3.out.trans (HB9.out.mono (by omega))) (by omega) _ _ _ _ _ _ _
        | (rw[HE3.out];exact⟨HS.out.cols.below (jQA (HBW3.out.trans (HB9.out.mono (by omega))) (by omega) _ _ _ _ _ _ _),RowsOwn.nil _ _,World.ownsRow_nil _ _ _ _,by simp,by simp⟩)
end
end Go.Proofs.YtahpihjialbanaaGreatDoor
