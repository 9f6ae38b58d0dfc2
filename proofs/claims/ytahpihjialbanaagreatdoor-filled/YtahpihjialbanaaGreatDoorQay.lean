import Derived.Test.YtahpihjialbanaaGreatDoorQax
set_option linter.unusedVariables false
set_option linter.unusedSimpArgs false
set_option maxRecDepth 100000
set_option maxHeartbeats 40000000
namespace Go.Proofs.YtahpihjialbanaaGreatDoor
section
open Go.RowKit
theorem jQqm (cols:List Sq.Col)(rows:List (List Sq.Val))(cv rv:Value)(st:Sq.PSt)(r:Rw)(w:World)(hc:ColsAt w cv cols)(hr:RowsOwn 0 w rv rows)(hs:StmAt w st r)(hT:Tbl w)(hok:∀r∈rows,Sq.okRow r)(hn:rows.length≤1000)(hcl:cols.length≤1000)(hi:st.items.length≤1000) :
  Calls Tryz.prog 79 #[cv,rv,.agg (stmCells st r)] w fun e w'=>e=.returned (.string (Sq.showR cols rows st))∧Below w.heap.size w w':=by
 obtain⟨cvx,vvx,svx,ivx,wvx⟩:=r
 obtain⟨q5,c5,hcv⟩:=jQa hs.cols.1
 obtain⟨q6,c6,hvv⟩:=jQa hs.vals
 obtain⟨q7,c7,hsv⟩:=jQa hs.sets.1
 obtain⟨q9,c9,hiv⟩:=jQa hs.items.1
 obtain⟨q10,c10,hwv⟩:=jQa hs.wher
 dsimp only at hcv hvv hsv hiv hwv
 subst hcv hvv hsv hiv hwv
 obtain⟨q1,c1,rfl⟩:=jQa hc.1
 obtain⟨q2,c2,rfl⟩:=hr.slice
 unfold stmCells
 have hpl:(Sq.placedR cols st.items).length≤1000:=by unfold Sq.placedR;rw[List.length_map];exact hi
 have hul:(Sq.upToR cols.length).length≤1000:=by unfold Sq.upToR;rw[List.length_map,List.length_range];exact hcl
 have hkp:=jQmn cols (.slice q1 cols.length c1) st.items (.slice q9 st.items.length c9)
 have hku:=jQqa cols.length (by omega)
 have HE2:Hid (Sq.showR cols rows st=if st.shw==2 then Sq.counted rows.length
  else if st.shw==3 then Sq.itoa (Sq.summedR (Sq.placedR cols st.items) rows)++Sq.bSemi
  else if st.shw==1 then⟨(Sq.listedR (Sq.upToR cols.length) rows).toArray⟩
  else⟨(Sq.listedR (Sq.placedR cols st.items) rows).toArray⟩):=rfl
 have hE2:=HE2.out
 clear HE2
 generalize Sq.placedR cols st.items=pl at *
 generalize Sq.upToR cols.length=up at *
 have HE2:=hd hE2
 have HKP:=hd hkp
 have HKU:=hd hku
 clear hE2 hkp hku
 have hW:∀o,Below w.heap.size w (w.alloc o):=fun o=>(Below.refl _ _).alloc (Nat.le_refl _) _
 have HW:=hd hW
 have HC:=hd hc
 have HRO:=hd hr
 have HS:=hd hs
 have HT:=hd hT
 have HMOK:=hd hok
 clear hW hc hr hs hT hok
 cases h2:st.shw==2
 case true =>
  have HE3:Hid (Sq.showR cols rows st=Sq.counted rows.length):=by show _=_;rw[HE2.out,h2];rfl
  go_enter Tryz.func79,Tryz.ntmps79
  go_wp2_with fail
  refine(jQaT rows.length _ (by omega) (by omega) (HT.out.below (HW.out _))).mono ?_
  rintro e w2 ⟨rfl,hb2⟩
  go_wp2
  go_ret
  exact⟨by rw[HE3.out];rfl,(HW.out _).trans (hb2.mono (by simp))⟩
 cases h3:st.shw==3
 case true =>
  have HE3:Hid (Sq.showR cols rows st=Sq.itoa (Sq.summedR pl rows)++Sq.bSemi):=by show _=_;rw[HE2.out,h2,h3];rfl
  go_enter Tryz.func79,Tryz.ntmps79
  go_wp2_with fail
  refine(HKP.out _ (HC.out.below (HW.out _)) (HS.out.items.below (HW.out _))).mono ?_
  rintro e w2 ⟨v2,rfl,hs2,hb2⟩
  obtain⟨s2o,s2c,rfl⟩:=jQa hs2.1
  have HS2:=hd hs2
  have HB2:=hd ((HW.out _).trans (hb2.mono (by simp)))
  have hz2:=HB2.out.size
  clear hs2 hb2
  go_wp2_with fail
  refine(jQlN rows pl _ _ _ (HRO.out.below HB2.out) HS2.out HMOK.out (HT.out.below HB2.out) (by omega) hpl).mono ?_
  rintro e w3 ⟨rfl,hb3⟩
  go_wp2
  go_ret
  exact⟨by rw[HE3.out];rfl,HB2.out.trans (hb3.mono hz2)⟩
 cases h1:st.shw==1
 case false =>
  have HE3:Hid (Sq.showR cols rows st=⟨(Sq.listedR pl rows).toArray⟩):=by show _=_;rw[HE2.out,h2,h3,h1];rfl
  go_enter Tryz.func79,Tryz.ntmps79
  go_wp2_with fail
  refine(HKP.out _ (HC.out.below (HW.out _)) (HS.out.items.below (HW.out _))).mono ?_
  rintro e w2 ⟨v2,rfl,hs2,hb2⟩
  obtain⟨s2o,s2c,rfl⟩:=jQa hs2.1
  have HS2:=hd hs2
  have HB2:=hd ((HW.out _).trans (hb2.mono (by simp)))
  have hz2:=HB2.out.size
  clear hs2 hb2
  go_wp2_with fail
  refine(jQhy rows pl _ _ _ (HRO.out.below HB2.out) HS2.out HMOK.out (HT.out.below HB2.out) (by omega) hpl).mono ?_
  rintro e w3 ⟨rfl,hb3⟩
  go_wp2
  go_ret
  exact⟨by rw[HE3.out];rfl,HB2.out.trans (hb3.mono hz2)⟩
 case true =>
  have HE3:Hid (Sq.showR cols rows st=⟨(Sq.listedR up rows).toArray⟩):=by show _=_;rw[HE2.out,h2,h3,h1];rfl
  go_enter Tryz.func79,Tryz.ntmps79
  go_wp2_with fail
  refine(HKU.out _).mono ?_
  rintro e w2 ⟨v2,rfl,hs2,hb2⟩
  obtain⟨s2o,s2c,rfl⟩:=jQa hs2.1
  have HS2:=hd hs2
  have HB2:=hd ((HW.out _).trans (hb2.mono (by simp)))
  have hz2:=HB2.out.size
  clear hs2 hb2
  go_wp2_with fail
  refine(jQhy rows up _ _ _ (HRO.out.below HB2.out) HS2.out HMOK.out (HT.out.below HB2.out) (by omega) hul).mono ?_
  rintro e w3 ⟨rfl,hb3⟩
  go_wp2
  go_ret
  exact⟨by rw[HE3.out];rfl,HB2.out.trans (hb3.mono hz2)⟩
end
section
open Go.RowKit
def sideL (s:Sq.Sides):List Value:=[.int .i64 s.yes.lo,.int .i64 s.yes.hi,.int .i64 s.no.lo,.int .i64 s.no.hi]
structure SP (A:Nat→Prop)(pb:Nat)(w:World)(l:List Sq.Sides):Prop where
 row:∃v,w.heap[pb]?=some (.cells #[v] 222)∧w.ownsRow (pb+1) 224 4 v l.length (l.flatMap sideL)∧∀q,v.ownBlock=some q→¬A q
 few:l.length≤100000
variable {A:Nat→Prop}
theorem SP.lt {pb:Nat}{w:World}{l:List Sq.Sides}(h:SP A pb w l):pb < w.heap.size:=by obtain⟨v,h1,_⟩:=h.row;exact jQg h1
theorem SP.below {pb:Nat}{w w':World}{l:List Sq.Sides}(h:SP A pb w l)(hb:Below w.heap.size w w'):SP A pb w' l:=by
 have hlt:=h.lt
 obtain⟨v,h1,h2,h3⟩:=h.row
 exact⟨⟨v,by rw[hb.block pb hlt];exact h1,jQh h2 hb,h3⟩,h.few⟩
theorem SP.less {pb:Nat}{w:World}{l:List Sq.Sides}{A':Nat→Prop}(h:SP A pb w l)(hA:∀q,A' q→A q):SP A' pb w l:=by
 obtain⟨v,h1,h2,h3⟩:=h.row
 exact⟨⟨v,h1,h2,fun q hq hz=>h3 q hq (hA q hz)⟩,h.few⟩
theorem SP.more {pb b:Nat}{w:World}{l:List Sq.Sides}(h:SP A pb w l)(hb:w.heap.size≤b):SP (fun q=>A q∨q=b) pb w l:=by
 obtain⟨v,h1,h2,h3⟩:=h.row
 refine⟨⟨v,h1,h2,fun q hq hz=>?_⟩,h.few⟩
 rcases hz with hz | hz
 ·exact h3 q hq hz
 ·have:=(World.ownsRow.lt h2 q hq).2
  omega
theorem Tryz.infoSides:(Tryz.prog.info? 224).map (fun i=>(i.zero,i.size,i.bytes))=some (some (.agg #[.int .i64 0,.int .i64 0,.int .i64 0,.int .i64 0]),4,32):=by kernel_rfl
theorem jQdS {pb:Nat}{w:World}{l:List Sq.Sides}(s:Sq.Sides)(h:SP A pb w l)(hn:l.length+1≤100000)(hA:∀q,A q→q < w.heap.size) :
  Calls Tryz.prog 155 #[.pointer (some ⟨pb,0,none⟩),.agg (sideCells s)] w fun e w'=>e=.returned (.tuple #[])∧SP A pb w' (l++[s])∧Below pb w w'∧∀q,A q→q≠pb→w'.heap[q]?=w.heap[q]?:=by
 obtain⟨i0,hi,hz0,hz1,hz2⟩:=info_parts Tryz.infoSides
 obtain⟨⟨yl,yh⟩,⟨nl,nh⟩⟩:=s
 unfold sideCells
 simp only
 obtain⟨w2,hw2⟩:∃w2,w2=w.alloc (.cells #[.int .i64 yl,.int .i64 yh,.int .i64 nl,.int .i64 nh] 224):=⟨_,rfl⟩
 have hb0:Below w.heap.size w w2:=by rw[hw2];exact(Below.refl _ _).alloc (Nat.le_refl _) _
 have hk:w2.heap[w.heap.size]?=some (.cells #[.int .i64 yl,.int .i64 yh,.int .i64 nl,.int .i64 nh] 224):=by rw[hw2];exact jQk _ _
 have hlt:=h.lt
 have h2:=h.below hb0
 obtain⟨v,hb,hown,hav⟩:=h2.row
 have HAV:=hd hav
 have HA:=hd hA
 clear hav hA
 obtain⟨ao,cap0,rfl⟩:=jQa hown
 have hz2t:=jQg hb
 obtain⟨⟨s0,s1,s2,s3⟩,-,hzk⟩:=jQJ hk
 have c1:w2.cell? ⟨pb,0,none⟩=some (.slice ao l.length cap0):=by rw[jQb hb];rfl
 have hW2:Below w2.heap.size w2 (w2.alloc (.cells #[.int .i64 yl,.int .i64 yh,.int .i64 nl,.int .i64 nh] 224)).drew:=Below.drew ((Below.refl _ _).alloc (Nat.le_refl _) _)
 have HO:=hd (jQh hown hW2)
 have HB:Hid ((w2.alloc (.cells #[.int .i64 yl,.int .i64 yh,.int .i64 nl,.int .i64 nh] 224)).drew.heap[pb]?=some (.cells #[.slice ao l.length cap0] 222)):=(hW2.block pb hz2t).trans hb
 have HW2:=hd hW2
 have HB0:=hd hb0
 clear hb hown hW2 h h2 hb0 hk
 go_enter Tryz.func155,Tryz.ntmps155
 go_wp2
 rw[←hw2]
 clear hw2
 go_region_law (first
  | (go_loud (refine step_append_lies _ rfl (.tmp 8) (.tmp 10) 220 rfl (pb+1) 224 i0 _ 4 32 Tryz.underlying220 hi hz0 hz1 hz2 rfl (by decide) (.slice ao l.length cap0) l.length (l.flatMap sideL) (by simp[Act.eval,Act.put]) HO.out ⟨w2.heap.size,0,none⟩ 1 1 (sideL ⟨⟨yl,yh⟩,⟨nl,nh⟩⟩) (by simp[Act.eval,Act.put]) rfl (by exact jQB w2 _ _ _ rfl rfl) (by intro u hu;simp[sideL] at hu;rcases hu with rfl | rfl | rfl | rfl <;> rfl) (by decide) (by unfold maxLen;omega) (by omega) (by simp;omega) _ rfl ?_);intro g cap w3 hown1 hgrow hat hltg;have hb1:=(hgrow.block pb (by simp;omega) (fun e=>jQl HO.out HB.out (by decide) e.symm)).trans HB.out;have k0:w3.cell? ⟨pb,0,none⟩=some (.slice ao l.length cap0):=(by rw[jQb hb1];rfl);have f0:=jQd hb1 0;have hlt1:=jQg hb1;have HO1:=hd hown1;have HG:=hd hgrow;have HB1:=hd hb1;have HAT:=hd hat;clear hown1 hgrow hat hb1))
 all_goals(try go_wp2)
 all_goals
  go_end0
  refine⟨rfl,⟨⟨.slice (some ⟨g,0,none⟩) (l.length+1) cap,by rw[jQf HB1.out];rfl,?_,fun q hq hz=>?_⟩,by simpa using hn⟩,?_,fun q hq hq2=>?_⟩
  ·have:=HO1.out
   rw[List.length_append,List.length_singleton,List.flatMap_append]
   exact jQn (by simpa using this) fun k hk=>jQe (fun e=>jQl this HB1.out (by decide) (by rw[hk,e]))
  ·have e1:g=q:=by simpa[Value.ownBlock] using hq
   have hzq:=HA.out q hz
   rcases HAT.out with hat | hat
   ·exact HAV.out q (by rw[hat,e1]) hz
   ·have:=HB0.out.size
    simp at hat
    omega
  ·refine Below.setCell (B:=pb) (Below.trans (HB0.out.mono (by omega)) (Below.trans (Below.mono (B':=pb) HW2.out (by omega)) (Tch.of_grown HG.out (fun k hk=>?_) (by simp;omega)))) (Nat.le_refl _) _
   exact Nat.le_of_succ_le (HO.out.lt k hk).1
  ·have hzq:=HA.out q hq
   have hz2:=HB0.out.size
   rw[jQe hq2,HG.out.block q (by simp;omega) (fun e=>HAV.out q e.symm hq),HW2.out.block q (by omega)]
   exact HB0.out.block q hzq
theorem jQip {pb:Nat}{w:World}{l:List Sq.Sides}(h:SP A pb w l) :
  Calls Tryz.prog 157 #[.pointer (some ⟨pb,0,none⟩)] w fun e w'=>e=.returned (.agg (sideCells (Sq.popV l)))∧SP A pb w' l.dropLast∧Below pb w w'∧∀q,q < w.heap.size→q≠pb→w'.heap[q]?=w.heap[q]?:=by
 have hlt:=h.lt
 have hfew:=h.few
 obtain⟨W,hWW⟩:∃W,W=w.alloc (.cells #[.int .i64 0,.int .i64 0,.int .i64 0,.int .i64 0] 224):=⟨_,rfl⟩
 have hbW:Below w.heap.size w W:=by rw[hWW];exact(Below.refl _ _).alloc (Nat.le_refl _) _
 have hk:W.heap[w.heap.size]?=some (.cells #[.int .i64 0,.int .i64 0,.int .i64 0,.int .i64 0] 224):=by rw[hWW];exact jQk _ _
 have hP:=h.below hbW
 obtain⟨v,hb0,hown0,hav⟩:=h.row
 have HAV:=hd hav
 clear hav
 have hb:W.heap[pb]?=some (.cells #[v] 222):=(hbW.block pb hlt).trans hb0
 have hown:=jQh hown0 hbW
 have HO0:=hd hown0
 have HB00:=hd hb0
 have HPL:=hd hP
 have HBW:=hd hbW
 have HK:=hd hk
 have hzk:=jQg hk
 have hzb:=jQg hb
 have hsW:W.heap.size=w.heap.size+1:=by rw[hWW];simp
 have HSW:=hd hsW
 clear h hbW hk hP hsW hb0 hown0
 rcases List.eq_nil_or_concat l with rfl | ⟨l',s,rfl⟩
 ·have hv:v=.slice none 0 0∨∃g cap,v=.slice (some ⟨g,0,none⟩) 0 cap:=by
   rcases hown.2 with⟨h1,_⟩ | ⟨g,cap,_,h1,_⟩
   ·exact Or.inl h1
   ·exact Or.inr ⟨g,cap,h1⟩
  have c0:w.cell? ⟨pb,0,none⟩=some v:=by rw[jQb HB00.out];rfl
  clear hown hb
  rcases hv with rfl | ⟨g,cap,rfl⟩
  all_goals
   go_enter Tryz.func157,Tryz.ntmps157
   go_wp2_with fail
   rw[←hWW]
   clear hWW
   refine(jQak W).mono ?_
   rintro e w1 ⟨rfl,hb1⟩
   have HB1:=hd hb1
   clear hb1
   go_wp2_with fail
   refine(jQak w1).mono ?_
   rintro e w2 ⟨rfl,hb2⟩
   have hb3:=HB1.out.trans (hb2.mono HB1.out.size)
   have hk3:=(hb3.block _ hzk).trans HK.out
   obtain⟨⟨j0,j1,j2,j3⟩,⟨l0,l1,l2,l3⟩,j4⟩:=jQJ hk3
   have HK3:=hd hk3
   have HP3:=hd (HPL.out.below hb3)
   have HB3:=hd (HBW.out.trans (hb3.mono (by omega)))
   clear hb2 hb3 hk3
   unfold spanCells Sq.allKeys
   go_wp2
   refine bodyPost_ret (v:=.agg (sideCells Sq.allSides)) (by simp[results,Tryz.results157,go_sem,sideCells,Sq.allSides,Sq.allKeys, *]) rfl ⟨rfl,?_,?_,fun q hq hq2=>?_⟩
   ·refine⟨⟨_,?_,jQn HO0.out fun k hk=>?_,HAV.out⟩,Nat.zero_le _⟩
    ·rw[jQe (by omega),jQe (by omega),jQe (by omega),jQe (by omega),HB3.out.block pb hlt]
     exact HB00.out
    ·have hk2:=(World.ownsRow.lt HO0.out k hk).2
     rw[jQe (by omega),jQe (by omega),jQe (by omega),jQe (by omega)]
     exact HB3.out.block k hk2
   ·repeat (first | exact(HB3.out.mono (by omega)) | refine Below.setCell (B:=pb) ?_ (by simp <;> omega) _)
   ·rw[jQe (by omega),jQe (by omega),jQe (by omega),jQe (by omega)]
    exact HB3.out.block q hq
 ·rw[List.concat_eq_append] at hown hfew HO0
  rw[List.concat_eq_append]
  have hle:(l'++[s]).length=l'.length+1:=by simp
  clear hown hb
  have hown:=HO0.out
  have hb:=HB00.out
  obtain⟨g,cap,rfl,hg1,hg2⟩:=hown.form (by rw[hle];omega)
  have hown1:=hown
  rw[hle] at hown hb hfew
  have hE:Sq.popV (l'++[s])=s:=by simp[Sq.popV]
  rw[hE]
  have c0:w.cell? ⟨pb,0,none⟩=some (.slice (some ⟨g,0,none⟩) (l'.length+1) cap):=by rw[jQb hb];rfl
  have f0:=jQd hb 0
  obtain⟨g',cap',hv',hg',hcell⟩:=sl_at (f:=sideL) (fun _=>rfl) hown1 l'.length (by rw[hle];omega)
  simp only[Value.slice.injEq,Option.some.injEq,Addr.mk.injEq] at hv'
  obtain⟨⟨rfl,-,-⟩,-,rfl⟩:=hv'
  have hlast:(l'++[s])[l'.length]'(by rw[hle];omega)=s:=by simp
  rw[hlast] at hcell
  obtain⟨⟨yl,yh⟩,⟨nl,nh⟩⟩:=s
  have m0:=hcell 0 (.int .i64 yl) (by decide) rfl
  have m1:=hcell 1 (.int .i64 yh) (by decide) rfl
  have m2:=hcell 2 (.int .i64 nl) (by decide) rfl
  have m3:=hcell 3 (.int .i64 nh) (by decide) rfl
  simp only[Nat.add_zero] at m0
  have hcap:l'.length+1≤cap∧cap≤9223372036854775807:=by
   rcases hown.2 with⟨h1,h2⟩ | ⟨g',cap',cur,h1,hg,hh,hn,hm,_⟩
   ·omega
   ·simp only[Value.slice.injEq] at h1
    obtain⟨-,-,rfl⟩:=h1
    exact⟨hn,hm⟩
  obtain⟨hcap1,hcap2⟩:=hcap
  have HB:=hd hb
  have HOW:=hd hown
  clear hown hown1 hb hE hle HPL hcell hlast hWW HK HBW HSW hzk hzb
  have i1:¬((l'.length:Int)+1≤(l'.length:Int)):=by omega
  go_enter Tryz.func157,Tryz.ntmps157
  go_wp2
  have hz:SP A pb (w.setCell ⟨pb,0,none⟩ (.slice (some ⟨g,0,none⟩) l'.length cap)) l':=by
   refine⟨⟨.slice (some ⟨g,0,none⟩) l'.length cap,by rw[jQf HB.out];rfl,?_,HAV.out⟩,by omega⟩
   have h1:=HOW.out
   rw[List.flatMap_append] at h1
   have h2:=jQcT h1 l'.length (by omega) (by
    have:∀k:List Sq.Sides,(k.flatMap sideL).length=k.length * 4:=fun k=>by
     induction k with
     | nil=>rfl
     | cons x r ih=>rw[List.flatMap_cons,List.length_append,ih,List.length_cons];show 4+_=_;omega
    exact this l')
   exact jQn h2 fun k hk=>jQe (fun e=>jQl h2 HB.out (by decide) (by rw[hk,e]))
  have hb1:Below pb w (w.setCell ⟨pb,0,none⟩ (.slice (some ⟨g,0,none⟩) l'.length cap)):=Below.setCell (B:=pb) (Below.refl _ _) (Nat.le_refl _) _
  obtain⟨wz,hwz⟩:∃wz,wz=w.setCell ⟨pb,0,none⟩ (.slice (some ⟨g,0,none⟩) l'.length cap):=⟨_,rfl⟩
  rw[←hwz] at hz hb1 ⊢
  have hzz:=hz.lt
  have hb2:∀a b:Obj,Below wz.heap.size wz ((wz.alloc a).alloc b):=fun a b=>((Below.refl _ _).alloc (Nat.le_refl _) _).alloc (by simp) _
  have hsz:wz.heap.size=w.heap.size:=by rw[hwz];simp
  refine bodyPost_ret (v:=.agg #[.int .i64 yl,.int .i64 yh,.int .i64 nl,.int .i64 nh]) (by simp[results,Tryz.results157,go_sem,hsz]) rfl ⟨rfl,hz.below (hb2 _ _),hb1.trans ((hb2 _ _).mono (by omega)),fun q hq hq2=>((hb2 _ _).block q (by omega)).trans (by rw[hwz];exact jQe hq2)⟩
end
section
open Go.RowKit
variable {A:Nat→Prop}
theorem Sq.jQj3 (l:List Sq.Sides):l.dropLast.length≤l.length:=by simp
theorem jQo8 {pb:Nat}{w:World}{l:List Sq.Sides}(op:ByteArray)(h:SP A pb w l)(hn:l.length+1≤100000)(hA:∀q,A q→q < w.heap.size) :
  Calls Tryz.prog 156 #[.pointer (some ⟨pb,0,none⟩),.string op] w fun e w'=>e=.returned (.tuple #[])∧SP A pb w' (Sq.joinV l op)∧Below pb w w':=by
 have hlt:=h.lt
 have H:=hd h
 have HAA:=hd hA
 clear hA
 have hd1:=Sq.jQj3 l
 have hd2:=Sq.jQj3 l.dropLast
 clear h
 go_enter Tryz.func156,Tryz.ntmps156
 go_wp2_with fail
 refine(jQip H.out).mono ?_
 rintro e w1 ⟨rfl,hp1,hb1,-⟩
 have HP1:=hd hp1
 obtain⟨x,hx⟩:∃x,x=Sq.popV l:=⟨_,rfl⟩
 rw[←hx]
 have HX:=hd hx
 have hz1:=hp1.lt
 have HB1:=hd hb1
 clear hp1 hx hb1
 obtain⟨⟨xl,xh⟩,⟨nl,nh⟩⟩:=x
 unfold sideCells
 simp only
 obtain⟨V,hV⟩:∃V,V=w1.alloc (.cells #[.int .i64 xl,.int .i64 xh,.int .i64 nl,.int .i64 nh] 224):=⟨_,rfl⟩
 have hbV:Below w1.heap.size w1 V:=by rw[hV];exact(Below.refl _ _).alloc (Nat.le_refl _) _
 have hkV:V.heap[w1.heap.size]?=some (.cells #[.int .i64 xl,.int .i64 xh,.int .i64 nl,.int .i64 nh] 224):=by rw[hV];exact jQk _ _
 have hz1w:=HB1.out.size
 have HPV:=hd ((HP1.out.more (b:=w1.heap.size) (Nat.le_refl _)).below hbV)
 have HBV:=hd hbV
 have HKV:=hd hkV
 have HBwV:Hid (Below pb w V):=HB1.out.trans (hbV.mono (by omega))
 have hzV:=jQg hkV
 clear hbV hkV
 cases h1:op.toList==[110,111,116]
 case true =>
  have HE:Hid (Sq.joinV l op=l.dropLast++[⟨⟨nl,nh⟩,⟨xl,xh⟩⟩]):=by show _=_;unfold Sq.joinV;rw[h1,←HX.out];rfl
  go_wp2_with fail
  rw[←hV]
  refine(jQdS ⟨⟨nl,nh⟩,⟨xl,xh⟩⟩ HPV.out (by omega) (fun q hq=>by
   rcases hq with hq | hq
   ·have:=HAA.out q hq;omega
   ·omega)).mono ?_
  rintro e w2 ⟨rfl,hp2,hb2,-⟩
  have HP2:=hd (hp2.less fun q hq=>Or.inl hq)
  clear hp2
  go_wp2
  exact bodyPost_ret (v:=.tuple #[]) (by simp[results,Tryz.results156,go_sem]) rfl ⟨rfl,by rw[HE.out];exact HP2.out,HBwV.out.trans hb2⟩
 case false =>
  go_wp2_with fail
  rw[←hV]
  clear hV
  refine(jQip HPV.out).mono ?_
  rintro e w2 ⟨rfl,hp2,hb2,ho2⟩
  have hk2:w2.heap[w1.heap.size]?=some (.cells #[.int .i64 xl,.int .i64 xh,.int .i64 nl,.int .i64 nh] 224):=(ho2 _ hzV (by omega)).trans HKV.out
  obtain⟨y,hy⟩:∃x,x=Sq.popV l.dropLast:=⟨_,rfl⟩
  rw[←hy]
  have HY:=hd hy
  obtain⟨⟨yl,yh⟩,⟨zl,zh⟩⟩:=y
  unfold sideCells
  simp only
  obtain⟨U,hU⟩:∃U,U=w2.alloc (.cells #[.int .i64 yl,.int .i64 yh,.int .i64 zl,.int .i64 zh] 224):=⟨_,rfl⟩
  have hbU:Below w2.heap.size w2 U:=by rw[hU];exact(Below.refl _ _).alloc (Nat.le_refl _) _
  have hkU:U.heap[w2.heap.size]?=some (.cells #[.int .i64 yl,.int .i64 yh,.int .i64 zl,.int .i64 zh] 224):=by rw[hU];exact jQk _ _
  have hkU1:=(hbU.block _ (jQg hk2)).trans hk2
  have HPU:=hd ((hp2.more (b:=w2.heap.size) (Nat.le_refl _)).below hbU)
  have hz2w:=hb2.size
  have hsU:=jQg hkU
  have HAU:Hid (∀w':World,U.heap.size≤w'.heap.size→∀q,(A q∨q=w1.heap.size)∨q=w2.heap.size→q < w'.heap.size):=fun w' hw q hq=>by
   rcases hq with(hq | hq) | hq
   ·have:=HAA.out q hq;omega
   ·omega
   ·omega
  have HBU:Hid (Below pb w U):=HBwV.out.trans (hb2.trans (hbU.mono (by have:=hp2.lt;omega)))
  have HCL:Hid (∀w',Below U.heap.size U w'→w'.heap[w1.heap.size]?=some (.cells #[.int .i64 xl,.int .i64 xh,.int .i64 nl,.int .i64 nh] 224)∧w'.heap[w2.heap.size]?=some (.cells #[.int .i64 yl,.int .i64 yh,.int .i64 zl,.int .i64 zh] 224)):=fun w' hb'=>⟨(hb'.block _ (jQg hkU1)).trans hkU1,(hb'.block _ (jQg hkU)).trans hkU⟩
  have hltU:=HPU.out.lt
  clear hp2 hb2 ho2 hk2 hy hbU hkU hkU1
  cases h2:op.toList==[97,110,100]
  case true =>
   have HE:Hid (Sq.joinV l op=l.dropLast.dropLast++[⟨Sq.bothS ⟨yl,yh⟩ ⟨xl,xh⟩,Sq.eitherS ⟨zl,zh⟩ ⟨nl,nh⟩⟩]):=by show _=_;unfold Sq.joinV;rw[h1,h2,←HX.out,←HY.out];rfl
   obtain⟨A,hA⟩:∃A,A=Sq.bothS ⟨yl,yh⟩ ⟨xl,xh⟩:=⟨_,rfl⟩
   obtain⟨C,hC⟩:∃A,A=Sq.eitherS ⟨zl,zh⟩ ⟨nl,nh⟩:=⟨_,rfl⟩
   have he:=HE.out
   rw[←hA,←hC] at he
   have HE2:=hd he
   have HA:=hd hA
   have HC:=hd hC
   obtain⟨al,ah⟩:=A
   obtain⟨cl,ch⟩:=C
   clear hA hC he HE
   go_wp2
   rw[←hU]
   clear hU
   obtain⟨x0,x1⟩:=HCL.out U (Below.refl _ _)
   obtain⟨⟨a0,a1,a2,a3⟩,-,a4⟩:=jQJ x0
   obtain⟨⟨b0,b1,b2,b3⟩,-,b4⟩:=jQJ x1
   have HBr:Hid (Below U.heap.size U U):=Below.refl _ _
   clear x0 x1
   go_region_held3 (fun w'=>(w'.cell? ⟨w1.heap.size,0,none⟩=some (.int .i64 xl)∧w'.cell? ⟨w1.heap.size,1,none⟩=some (.int .i64 xh)∧w'.cell? ⟨w1.heap.size,2,none⟩=some (.int .i64 nl)∧w'.cell? ⟨w1.heap.size,3,none⟩=some (.int .i64 nh))∧w'.cell? ⟨w2.heap.size,0,none⟩=some (.int .i64 yl)∧w'.cell? ⟨w2.heap.size,1,none⟩=some (.int .i64 yh)∧w'.cell? ⟨w2.heap.size,2,none⟩=some (.int .i64 zl)∧w'.cell? ⟨w2.heap.size,3,none⟩=some (.int .i64 zh)) (go_keep) (first
    | (go_at_call 201;refine(jQnL ⟨yl,yh⟩ ⟨xl,xh⟩ _).mono ?_;rintro e w5 ⟨rfl,hb5⟩;rw[←HA.out];have hb5':Below U.heap.size U w5:=(by first | exact HBr.out.trans (hb5.mono HBr.out.size) | exact(HBr.out.drew).trans (hb5.mono (by first | (simp;done) | (have:=HBr.out.size;simp;omega))));obtain⟨x0,x1⟩:=HCL.out w5 hb5';obtain⟨⟨c0,c1,c2,c3⟩,-,c4⟩:=jQJ x0;obtain⟨⟨d0,d1,d2,d3⟩,-,d4⟩:=jQJ x1;clear HBr;have HBr:=hd hb5';clear hb5 hb5' x0 x1;unfold spanCells;simp only)
    | (go_at_call 202;refine(jQhK ⟨zl,zh⟩ ⟨nl,nh⟩ _).mono ?_;rintro e w5 ⟨rfl,hb5⟩;rw[←HC.out];have hb5':Below U.heap.size U w5:=(by first | exact HBr.out.trans (hb5.mono HBr.out.size) | exact(HBr.out.drew).trans (hb5.mono (by first | (simp;done) | (have:=HBr.out.size;simp;omega))));obtain⟨x0,x1⟩:=HCL.out w5 hb5';obtain⟨⟨c0,c1,c2,c3⟩,-,c4⟩:=jQJ x0;obtain⟨⟨d0,d1,d2,d3⟩,-,d4⟩:=jQJ x1;clear HBr;have HBr:=hd hb5';clear hb5 hb5' x0 x1;unfold spanCells;simp only)
    | (go_at_call 155;refine(jQdS ⟨⟨al,ah⟩,⟨cl,ch⟩⟩ (HPU.out.below HBr.out) (by omega) (HAU.out _ HBr.out.size)).mono ?_;rintro e w6 ⟨rfl,hp6,hb6,ho6⟩;obtain⟨x0,x1⟩:=HCL.out _ HBr.out;have x2:=(ho6 w1.heap.size (Or.inl (Or.inr rfl)) (by omega)).trans x0;have x3:=(ho6 w2.heap.size (Or.inr rfl) (by omega)).trans x1;obtain⟨⟨n0,n1,n2,n3⟩,-,n4⟩:=jQJ x2;obtain⟨⟨p0,p1,p2,p3⟩,-,p4⟩:=jQJ x3;have HP6:=hd (hp6.less fun q hq=>Or.inl (Or.inl hq));have HB6:Hid (Below pb w w6):=HBU.out.trans ((HBr.out.mono (by omega)).trans hb6);clear hp6 hb6 ho6 x0 x1 x2 x3))
   all_goals(try go_wp2)
   all_goals
    go_end0
    exact⟨rfl,by rw[HE2.out];exact HP6.out,HB6.out⟩
  case false =>
   have HE:Hid (Sq.joinV l op=l.dropLast.dropLast++[⟨Sq.eitherS ⟨yl,yh⟩ ⟨xl,xh⟩,Sq.bothS ⟨zl,zh⟩ ⟨nl,nh⟩⟩]):=by show _=_;unfold Sq.joinV;rw[h1,h2,←HX.out,←HY.out];rfl
   obtain⟨A,hA⟩:∃A,A=Sq.eitherS ⟨yl,yh⟩ ⟨xl,xh⟩:=⟨_,rfl⟩
   obtain⟨C,hC⟩:∃A,A=Sq.bothS ⟨zl,zh⟩ ⟨nl,nh⟩:=⟨_,rfl⟩
   have he:=HE.out
   rw[←hA,←hC] at he
   have HE2:=hd he
   have HA:=hd hA
   have HC:=hd hC
   obtain⟨al,ah⟩:=A
   obtain⟨cl,ch⟩:=C
   clear hA hC he HE
   go_wp2
   rw[←hU]
   clear hU
   obtain⟨x0,x1⟩:=HCL.out U (Below.refl _ _)
   obtain⟨⟨a0,a1,a2,a3⟩,-,a4⟩:=jQJ x0
   obtain⟨⟨b0,b1,b2,b3⟩,-,b4⟩:=jQJ x1
   have HBr:Hid (Below U.heap.size U U):=Below.refl _ _
   clear x0 x1
   go_region_held3 (fun w'=>(w'.cell? ⟨w1.heap.size,0,none⟩=some (.int .i64 xl)∧w'.cell? ⟨w1.heap.size,1,none⟩=some (.int .i64 xh)∧w'.cell? ⟨w1.heap.size,2,none⟩=some (.int .i64 nl)∧w'.cell? ⟨w1.heap.size,3,none⟩=some (.int .i64 nh))∧w'.cell? ⟨w2.heap.size,0,none⟩=some (.int .i64 yl)∧w'.cell? ⟨w2.heap.size,1,none⟩=some (.int .i64 yh)∧w'.cell? ⟨w2.heap.size,2,none⟩=some (.int .i64 zl)∧w'.cell? ⟨w2.heap.size,3,none⟩=some (.int .i64 zh)) (go_keep) (first
    | (go_at_call 202;refine(jQhK ⟨yl,yh⟩ ⟨xl,xh⟩ _).mono ?_;rintro e w5 ⟨rfl,hb5⟩;rw[←HA.out];have hb5':Below U.heap.size U w5:=(by first | exact HBr.out.trans (hb5.mono HBr.out.size) | exact(HBr.out.drew).trans (hb5.mono (by first | (simp;done) | (have:=HBr.out.size;simp;omega))));obtain⟨x0,x1⟩:=HCL.out w5 hb5';obtain⟨⟨c0,c1,c2,c3⟩,-,c4⟩:=jQJ x0;obtain⟨⟨d0,d1,d2,d3⟩,-,d4⟩:=jQJ x1;clear HBr;have HBr:=hd hb5';clear hb5 hb5' x0 x1;unfold spanCells;simp only)
    | (go_at_call 201;refine(jQnL ⟨zl,zh⟩ ⟨nl,nh⟩ _).mono ?_;rintro e w5 ⟨rfl,hb5⟩;rw[←HC.out];have hb5':Below U.heap.size U w5:=(by first | exact HBr.out.trans (hb5.mono HBr.out.size) | exact(HBr.out.drew).trans (hb5.mono (by first | (simp;done) | (have:=HBr.out.size;simp;omega))));obtain⟨x0,x1⟩:=HCL.out w5 hb5';obtain⟨⟨c0,c1,c2,c3⟩,-,c4⟩:=jQJ x0;obtain⟨⟨d0,d1,d2,d3⟩,-,d4⟩:=jQJ x1;clear HBr;have HBr:=hd hb5';clear hb5 hb5' x0 x1;unfold spanCells;simp only)
    | (go_at_call 155;refine(jQdS ⟨⟨al,ah⟩,⟨cl,ch⟩⟩ (HPU.out.below HBr.out) (by omega) (HAU.out _ HBr.out.size)).mono ?_;rintro e w6 ⟨rfl,hp6,hb6,ho6⟩;obtain⟨x0,x1⟩:=HCL.out _ HBr.out;have x2:=(ho6 w1.heap.size (Or.inl (Or.inr rfl)) (by omega)).trans x0;have x3:=(ho6 w2.heap.size (Or.inr rfl) (by omega)).trans x1;obtain⟨⟨n0,n1,n2,n3⟩,-,n4⟩:=jQJ x2;obtain⟨⟨p0,p1,p2,p3⟩,-,p4⟩:=jQJ x3;have HP6:=hd (hp6.less fun q hq=>Or.inl (Or.inl hq));have HB6:Hid (Below pb w w6):=HBU.out.trans ((HBr.out.mono (by omega)).trans hb6);clear hp6 hb6 ho6 x0 x1 x2 x3))
   all_goals(try go_wp2)
   all_goals
    go_end0
    exact⟨rfl,by rw[HE2.out];exact HP6.out,HB6.out⟩
end
section
open Go.RowKit
theorem Sq.jQo7 (l:List Sq.Sides)(op:ByteArray):(Sq.joinV l op).length≤l.length+1:=by
 unfold Sq.joinV
 split
 ·simp
 ·split <;> simp <;> omega
theorem Sq.jQng (f:List Sq.Sides→Sq.StepS→List Sq.Sides)(l:List Sq.StepS)(k:Nat)(h:k < l.length):(l.take (k+1)).foldl f []=f ((l.take k).foldl f []) l[k]:=by
 rw[List.take_succ_eq_append_getElem h,List.foldl_append];rfl
theorem jQkW (a b c d:Value)(w:World):(Instr.field 224 (.agg #[a,b,c,d]) 0).run Tryz.prog w=.ok (.agg #[a,b]) w:=by
 simp[Instr.field,go_sem,asAgg]
def okSt (s:Sq.StepS):Prop:=(-100000000000≤s.left.lit.number∧s.left.lit.number≤100000000000)∧-100000000000≤s.right.lit.number∧s.right.lit.number≤100000000000
theorem jQl0 (cols:List Sq.Col)(l:List Sq.StepS)(cv sv:Value)(w:World)(h:ColsAt w cv cols)(hs:StepsAt w sv l)(hl:l.length≤50000)(hok:∀s∈l,okSt s) :
  Calls Tryz.prog 116 #[cv,sv] w fun e w'=>e=.returned (.agg (spanCells (Sq.spanOf cols l)))∧Below w.heap.size w w':=by
 obtain⟨bo,bap,rfl⟩:=jQa hs.1
 have H:=hd h
 have HS:=hd hs
 have HOK:=hd hok
 clear h hs hok
 have HE:Hid (Sq.spanOf cols l=(Sq.popV (l.foldl (Sq.stepV cols) [])).yes):=rfl
 obtain⟨W,hW,hbW,k0,k1⟩:=jQcK w (.cells #[.int .i64 0,.int .i64 0] 174) (.cells #[.slice none 0 0] 222)
 have hsW:W.heap.size=w.heap.size+2:=by rw[hW];simp
 have hp0:SP (fun _=>False) (w.heap.size+1) W []:=⟨⟨.slice none 0 0,k1,World.ownsRow_nil _ _ _ _,fun _ _ h=>h⟩,by simp⟩
 have HP0:=hd hp0
 have HW:=hd hbW
 have HK0:=hd k0
 have HSW:=hd hsW
 clear hbW k0 k1 hp0 hsW
 go_enter Tryz.func116,Tryz.ntmps116
 go_wp2
 rw[←hW]
 clear hW
 go_loopw [6] (fun i wr=>∃k:Nat,k≤l.length∧i=.int .i64 k∧SP (fun _=>False) (w.heap.size+1) wr ((l.take k).foldl (Sq.stepV cols) [])∧((l.take k).foldl (Sq.stepV cols) []).length≤k∧Below (w.heap.size+1) W wr) (fun i _=>l.length - (intOf i).toNat)
 case atStart=>exact⟨0,Nat.zero_le _,rfl,HP0.out,by simp,Below.refl _ _⟩
 case round =>
  obtain⟨k,hk,rfl,hpl,hlen,hb⟩:=hrel
  obtain⟨wo,rfl⟩:∃wo:World,wo=wr:=⟨_,rfl⟩
  have hbw:Below w.heap.size w wo:=HW.out.trans (hb.mono (by omega))
  have hzw:=hpl.lt
  have HPL:=hd hpl
  have HB:=hd hb
  clear hpl hb
  by_cases hlt:k < l.length
  ·obtain⟨x,hx⟩:∃x,x=l[k]:=⟨_,rfl⟩
   have hxo:=HOK.out l[k] (List.getElem_mem hlt)
   rw[←hx] at hxo
   have cells:∀W',Below w.heap.size w W'→∃g,bo=some ⟨g,0,none⟩∧g < W'.heap.size∧∀j u,j < 9→x.cells[j]?=some u→W'.cell? ⟨g,k * 9+j,none⟩=some u:=by
    intro W' hW'
    obtain⟨g,cap',hv,hg,hc⟩:=sl_at (f:=Sq.StepS.cells) (fun _=>rfl) (HS.out.below hW').1 k hlt
    simp only[Value.slice.injEq] at hv
    exact⟨g,hv.1,hg,by rw[hx];exact hc⟩
   have HC:=hd cells
   obtain⟨ls,hls⟩:∃x,x=(l.take k).foldl (Sq.stepV cols) []:=⟨_,rfl⟩
   have hft:=Sq.jQng (Sq.stepV cols) l k hlt
   rw[←hls,←hx] at hft
   rw[←hls] at hlen
   have hpl:=HPL.out
   rw[←hls] at hpl
   have HPL2:=hd hpl
   have HFT:=hd hft
   clear cells hx hls hft hpl HPL
   obtain⟨g,hbo,hg,hc⟩:=HC.out wo hbw
   subst hbo
   have HSTB:Hid (Sq.stepV cols ls x=if Sq.isComparison x.op then ls++[Sq.sidesOf cols x] else Sq.joinV ls x.op):=rfl
   have hso:=fun w1 hc=>jQkw cols cv x w1 hc hxo.1.1 hxo.1.2 hxo.2.1 hxo.2.2
   have HSO:=hd hso
   clear hso hxo
   obtain⟨op,⟨lc,⟨lk,ln,lt⟩⟩,⟨rc,⟨rk,rn,rt⟩⟩⟩:=x
   have c0:=hc 0 _ (by decide) rfl
   have c1:=hc 1 _ (by decide) rfl
   have c2:=hc 2 _ (by decide) rfl
   have c3:=hc 3 _ (by decide) rfl
   have c4:=hc 4 _ (by decide) rfl
   have c5:=hc 5 _ (by decide) rfl
   have c6:=hc 6 _ (by decide) rfl
   have c7:=hc 7 _ (by decide) rfl
   have c8:=hc 8 _ (by decide) rfl
   simp only[Nat.add_zero] at c0
   clear hc
   go_wp2_with fail
   refine(jQcI ⟨op,⟨lc,⟨lk,ln,lt⟩⟩,⟨rc,⟨rk,rn,rt⟩⟩⟩ _).mono ?_
   rintro e w1 ⟨rfl,hb1⟩
   have hbw1:Below w.heap.size w w1:=hbw.trans (hb1.mono hbw.size)
   have HB1:=hd (HB.out.trans (hb1.mono (by omega)))
   have HPL3:=hd (HPL2.out.below hb1)
   have hz1:=hb1.size
   clear c0 c1 c2 c3 c4 c5 c6 c7 c8 hb1 HPL2 HB
   obtain⟨g',hg',hg1,hc⟩:=HC.out w1 hbw1
   have hgg:g=g':=by simpa using hg'
   subst hgg
   have c0:=hc 0 _ (by decide) rfl
   have c1:=hc 1 _ (by decide) rfl
   have c2:=hc 2 _ (by decide) rfl
   have c3:=hc 3 _ (by decide) rfl
   have c4:=hc 4 _ (by decide) rfl
   have c5:=hc 5 _ (by decide) rfl
   have c6:=hc 6 _ (by decide) rfl
   have c7:=hc 7 _ (by decide) rfl
   have c8:=hc 8 _ (by decide) rfl
   simp only[Nat.add_zero] at c0
   clear hc hg'
   cases hcmp:Sq.isComparison op
   case true =>
    have HE2:Hid ((l.take (k+1)).foldl (Sq.stepV cols) []=ls++[Sq.sidesOf cols ⟨op,⟨lc,⟨lk,ln,lt⟩⟩,⟨rc,⟨rk,rn,rt⟩⟩⟩]):=by show _=_;rw[HFT.out,HSTB.out,hcmp];rfl
    obtain⟨sd,hsd⟩:∃sd,sd=Sq.sidesOf cols ⟨op,⟨lc,⟨lk,ln,lt⟩⟩,⟨rc,⟨rk,rn,rt⟩⟩⟩:=⟨_,rfl⟩
    have he:=HE2.out
    rw[←hsd] at he
    have HE3:=hd he
    have HSD:=hd hsd
    clear HFT HSTB HE2 he hsd
    go_wp2_with fail
    refine(HSO.out w1 (H.out.below hbw1)).mono ?_
    rintro e w2 ⟨rfl,hb2⟩
    rw[←HSD.out]
    obtain⟨⟨s0,s1⟩,⟨s2,s3⟩⟩:=sd
    unfold sideCells
    simp only
    obtain⟨V,hV⟩:∃V,V=w2.alloc (.cells #[.int .i64 s0,.int .i64 s1,.int .i64 s2,.int .i64 s3] 224):=⟨_,rfl⟩
    have hbV:Below w1.heap.size w1 V:=by rw[hV];exact hb2.alloc hb2.size _
    have HPL4:=hd (HPL3.out.below hbV)
    have HB2:=hd (HB1.out.trans (hbV.mono (by omega)))
    clear hb2 hbV c0 c1 c2 c3 c4 c5 c6 c7 c8
    go_wp2_with fail
    rw[←hV]
    clear hV
    refine(jQdS ⟨⟨s0,s1⟩,⟨s2,s3⟩⟩ HPL4.out (by omega) (fun _ h=>h.elim)).mono ?_
    rintro e w3 ⟨rfl,hp3,hb3,-⟩
    have HP3:=hd hp3
    clear hp3
    go_wp2
    go_roundw
    case rel=>exact⟨k+1,by omega,by go_num,by rw[HE3.out];exact HP3.out,by rw[HE3.out];simp;omega,HB2.out.trans hb3⟩
    case measure=>simp[intOf];omega
   case false =>
    have HE2:Hid ((l.take (k+1)).foldl (Sq.stepV cols) []=Sq.joinV ls op):=by show _=_;rw[HFT.out,HSTB.out,hcmp];rfl
    have hjl:=Sq.jQo7 ls op
    clear HFT HSTB HSO
    go_wp2_with fail
    refine(jQo8 op HPL3.out (by omega) (fun _ h=>h.elim)).mono ?_
    rintro e w3 ⟨rfl,hp3,hb3⟩
    have HP3:=hd hp3
    clear hp3
    go_wp2
    go_roundw
    case rel=>exact⟨k+1,by omega,by go_num,by rw[HE2.out];exact HP3.out,by rw[HE2.out];omega,HB1.out.trans hb3⟩
    case measure=>simp[intOf];omega
  ·have hkl:l.take k=l:=List.take_of_length_le (by omega)
   have hpl:=HPL.out
   rw[hkl] at hpl
   have HPL2:=hd hpl
   obtain⟨sd,hsd⟩:∃sd,sd=Sq.popV (l.foldl (Sq.stepV cols) []):=⟨_,rfl⟩
   have he:=HE.out
   rw[←hsd] at he
   have HE3:=hd he
   have HSD:=hd hsd
   clear hpl hkl HPL he hsd
   go_wp2_with fail
   refine(jQip HPL2.out).mono ?_
   rintro e w3 ⟨rfl,hp3,hb3,ho3⟩
   rw[←HSD.out]
   obtain⟨⟨s0,s1⟩,⟨s2,s3⟩⟩:=sd
   have hk3:w3.heap[w.heap.size]?=some (.cells #[.int .i64 0,.int .i64 0] 174):=(ho3 _ (by omega) (by omega)).trans ((HB.out.block _ (by omega)).trans HK0.out)
   obtain⟨j0,j1,j2,j3,j4⟩:=jQaL hk3
   have HB3:=hd (hbw.trans (hb3.mono (by omega)))
   have hfs:=jQkW (.int .i64 s0) (.int .i64 s1) (.int .i64 s2) (.int .i64 s3) w3
   clear hp3 hb3 ho3 hk3
   unfold sideCells
   simp only
   go_wp2
   refine bodyPost_ret (v:=.agg #[.int .i64 s0,.int .i64 s1]) (by simp[results,Tryz.results116,go_sem, *]) rfl ⟨by rw[HE3.out];rfl,?_⟩
   repeat (first | exact HB3.out | refine Below.setCell (B:=w.heap.size) ?_ (by simp) _)
end
end Go.Proofs.YtahpihjialbanaaGreatDoor
