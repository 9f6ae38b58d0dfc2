import Derived.Test.YtahpihjialbanaaGreatDoorQbe
set_option linter.unusedVariables false
set_option linter.unusedSimpArgs false
set_option maxRecDepth 100000
set_option maxHeartbeats 40000000
namespace Go.Proofs.YtahpihjialbanaaGreatDoor
open Sq (StepS)
section
open Go.RowKit
theorem jQqo (cols:List Sq.Col)(rows:List (List Sq.Val))(cv rv:Value)(st:Sq.PSt)(r:Rw)(w:World)(hc:ColsAt w cv cols)(hr:RowsOwn 0 w rv rows)(hs:StmAt w st r)(hT:Tbl w)(hok:∀r∈rows,Sq.okRow r)(hn:rows.length<=1000)(hcl:cols.length<=1000)(hi:st.items.length<=1000) :
  Calls Tryz.prog 79 #[cv,rv,.agg (stmCells st r)] w fun e w'=>e=.returned (.string (Sq.showR cols rows st))/\Below w.heap.size w w':=by
 obtain⟨cvx,vvx,svx,ivx,wvx⟩:=r;obtain⟨q5,c5,hcv⟩:=jQa hs.cols.1;obtain⟨q6,c6,hvv⟩:=jQa hs.vals;obtain⟨q7,c7,hsv⟩:=jQa hs.sets.1;obtain⟨q9,c9,hiv⟩:=jQa hs.items.1;obtain⟨q10,c10,hwv⟩:=jQa hs.wher
 dsimp only at hcv hvv hsv hiv hwv
 subst hcv hvv hsv hiv hwv;obtain⟨q1,c1,rfl⟩:=jQa hc.1;obtain⟨q2,c2,rfl⟩:=hr.slice;unfold stmCells;have hp:(Sq.placedR cols st.items).length<=1000:=by unfold Sq.placedR;rw[List.length_map];exact hi
 have hq:(Sq.upToR cols.length).length<=1000:=by unfold Sq.upToR;rw[List.length_map,List.length_range];exact hcl
 have hk:=jQmK cols (.slice q1 cols.length c1) st.items (.slice q9 st.items.length c9);have hm:=jQqh cols.length (by omega)
 have hf:Hid (Sq.showR cols rows st=if st.shw==2 then Sq.counted rows.length
  else if st.shw==3 then Sq.itoa (Sq.summedR (Sq.placedR cols st.items) rows)++Sq.bSemi
  else if st.shw==1 then⟨(Sq.listedR (Sq.upToR cols.length) rows).toArray⟩
  else⟨(Sq.listedR (Sq.placedR cols st.items) rows).toArray⟩):=rfl
 have hl:=hf.o;clear hf;generalize Sq.placedR cols st.items=pl at *;generalize Sq.upToR cols.length=up at *;have hf:=hd hl;have ho:=hd hk;have ht:=hd hm;clear hl hk hm;have hW:∀o,Below w.heap.size w (w.alloc o):=fun o=>(bR).alloc (nR) _
 have HW:=hd hW;have HC:=hd hc;have hj:=hd hr;have HS:=hd hs;have HT:=hd hT;have he:=hd hok;clear hW hc hr hs hT hok;cases h2:st.shw==2
 case true =>
  have hb:Hid (Sq.showR cols rows st=Sq.counted rows.length):=by show _=_;rw[hf.o,h2];rfl
  go_enter Tryz.func79,Tryz.ntmps79;go_wp2_with fail;refine(jQaG rows.length _ (by omega) (by omega) (HT.o.below (HW.o _))).mono ?_;rintro e w2 ⟨rfl,hb2⟩;go_wp2;go_ret;exact⟨by rw[hb.o];rfl,(HW.o _).trans (hb2.mono (by simp))⟩
 cases h3:st.shw==3
 case true =>
  have hb:Hid (Sq.showR cols rows st=Sq.itoa (Sq.summedR pl rows)++Sq.bSemi):=by show _=_;rw[hf.o,h2,h3];rfl
  go_enter Tryz.func79,Tryz.ntmps79;go_wp2_with fail;refine(ho.o _ (HC.o.below (HW.o _)) (HS.o.items.below (HW.o _))).mono ?_;rintro e w2 ⟨v2,rfl,hs2,hb2⟩;obtain⟨s2o,s2c,rfl⟩:=jQa hs2.1;have hg:=hd hs2;have ha:=hd ((HW.o _).trans (hb2.mono (by simp)));have hh:=ha.o.size;clear hs2 hb2;go_wp2_with fail;refine(jQl7 rows pl _ _ _ (hj.o.below ha.o) hg.o he.o (HT.o.below ha.o) (by omega) hp).mono ?_;rintro e w3 ⟨rfl,hb3⟩;go_wp2;go_ret;exact⟨by rw[hb.o];rfl,ha.o.trans (hb3.mono hh)⟩
 cases h1:st.shw==1
 case false =>
  have hb:Hid (Sq.showR cols rows st=⟨(Sq.listedR pl rows).toArray⟩):=by show _=_;rw[hf.o,h2,h3,h1];rfl
  go_enter Tryz.func79,Tryz.ntmps79;go_wp2_with fail;refine(ho.o _ (HC.o.below (HW.o _)) (HS.o.items.below (HW.o _))).mono ?_;rintro e w2 ⟨v2,rfl,hs2,hb2⟩;obtain⟨s2o,s2c,rfl⟩:=jQa hs2.1;have hg:=hd hs2;have ha:=hd ((HW.o _).trans (hb2.mono (by simp)));have hh:=ha.o.size;clear hs2 hb2;go_wp2_with fail;refine(jQhQ rows pl _ _ _ (hj.o.below ha.o) hg.o he.o (HT.o.below ha.o) (by omega) hp).mono ?_;rintro e w3 ⟨rfl,hb3⟩;go_wp2;go_ret;exact⟨by rw[hb.o];rfl,ha.o.trans (hb3.mono hh)⟩
 case true =>
  have hb:Hid (Sq.showR cols rows st=⟨(Sq.listedR up rows).toArray⟩):=by show _=_;rw[hf.o,h2,h3,h1];rfl
  go_enter Tryz.func79,Tryz.ntmps79;go_wp2_with fail;refine(ht.o _).mono ?_;rintro e w2 ⟨v2,rfl,hs2,hb2⟩;obtain⟨s2o,s2c,rfl⟩:=jQa hs2.1;have hg:=hd hs2;have ha:=hd ((HW.o _).trans (hb2.mono (by simp)));have hh:=ha.o.size;clear hs2 hb2;go_wp2_with fail;refine(jQhQ rows up _ _ _ (hj.o.below ha.o) hg.o he.o (HT.o.below ha.o) (by omega) hq).mono ?_;rintro e w3 ⟨rfl,hb3⟩;go_wp2;go_ret;exact⟨by rw[hb.o];rfl,ha.o.trans (hb3.mono hh)⟩
end
section
open Go.RowKit
def sideL (s:Sq.Sides):List Value:=[.int .i64 s.yes.lo,.int .i64 s.yes.hi,.int .i64 s.no.lo,.int .i64 s.no.hi]
structure SP (A:Nat->Prop)(pb:Nat)(w:World)(l:List Sq.Sides):Prop where
 row:∃v,w.heap[pb]?=some (.cells #[v] 222)/\w.ownsRow (pb+1) 224 4 v l.length (l.flatMap sideL)/\∀q,v.ownBlock=some q->¬A q
 few:l.length<=100000
variable {A:Nat->Prop}
theorem SP.lt {pb:Nat}{w:World}{l:List Sq.Sides}(h:SP A pb w l):pb<w.heap.size:=by obtain⟨v,h1,_⟩:=h.row;exact jQf h1
theorem SP.below {pb:Nat}{w w':World}{l:List Sq.Sides}(h:SP A pb w l)(hb:Below w.heap.size w w'):SP A pb w' l:=by
 have ha:=h.lt;obtain⟨v,h1,h2,h3⟩:=h.row;exact⟨⟨v,by rw[hb.block pb ha];exact h1,jQh h2 hb,h3⟩,h.few⟩
theorem SP.less {pb:Nat}{w:World}{l:List Sq.Sides}{A':Nat->Prop}(h:SP A pb w l)(hA:∀q,A' q->A q):SP A' pb w l:=by
 obtain⟨v,h1,h2,h3⟩:=h.row;exact⟨⟨v,h1,h2,fun q hq hz=>h3 q hq (hA q hz)⟩,h.few⟩
theorem SP.more {pb b:Nat}{w:World}{l:List Sq.Sides}(h:SP A pb w l)(hb:w.heap.size<=b):SP (fun q=>A q\/q=b) pb w l:=by
 obtain⟨v,h1,h2,h3⟩:=h.row;refine⟨⟨v,h1,h2,fun q hq hz=>?_⟩,h.few⟩;rcases hz with hz | hz
 ·exact h3 q hq hz
 ·have:=(World.ownsRow.lt h2 q hq).2
  omega
theorem Tryz.infoSides:(Tryz.prog.info? 224).map (fun i=>(i.zero,i.size,i.bytes))=some (some (.agg #[.int .i64 0,.int .i64 0,.int .i64 0,.int .i64 0]),4,32):=by kernel_rfl
theorem jQdL {pb:Nat}{w:World}{l:List Sq.Sides}(s:Sq.Sides)(h:SP A pb w l)(hn:l.length+1<=100000)(hA:∀q,A q->q<w.heap.size) :
  Calls Tryz.prog 155 #[.pointer (some ⟨pb,0,none⟩),.agg (sideCells s)] w fun e w'=>e=.returned (.tuple #[])/\SP A pb w' (l++[s])/\Below pb w w'/\∀q,A q->q≠pb->w'.heap[q]?=w.heap[q]?:=by
 obtain⟨i0,hi,hz0,hz1,ho⟩:=info_parts Tryz.infoSides;obtain⟨⟨yl,yh⟩,⟨nl,nh⟩⟩:=s;unfold sideCells;simp only;obtain⟨w2,hw2⟩:∃w2,w2=w.alloc (.cells #[.int .i64 yl,.int .i64 yh,.int .i64 nl,.int .i64 nh] 224):=⟨_,rfl⟩;have hf:Below w.heap.size w w2:=by rw[hw2];exact(bR).alloc (nR) _
 have hk:w2.heap[w.heap.size]?=some (.cells #[.int .i64 yl,.int .i64 yh,.int .i64 nl,.int .i64 nh] 224):=by rw[hw2];exact jQi _ _
 have ht:=h.lt;have h2:=h.below hf;obtain⟨v,hb,hown,hav⟩:=h2.row;have hl:=hd hav;have HA:=hd hA;clear hav hA;obtain⟨ao,cap0,rfl⟩:=jQa hown;have hg:=jQf hb;obtain⟨⟨s0,s1,s2,s3⟩,-,hzk⟩:=jQF hk;have c1:w2.cell? ⟨pb,0,none⟩=some (.slice ao l.length cap0):=by rw[jQb hb];rfl
 have he:Below w2.heap.size w2 (w2.alloc (.cells #[.int .i64 yl,.int .i64 yh,.int .i64 nl,.int .i64 nh] 224)).drew:=Below.drew ((bR).alloc (nR) _);have HO:=hd (jQh hown he);have HB:Hid ((w2.alloc (.cells #[.int .i64 yl,.int .i64 yh,.int .i64 nl,.int .i64 nh] 224)).drew.heap[pb]?=some (.cells #[.slice ao l.length cap0] 222)):=(he.block pb hg).trans hb;have hh:=hd he;have hc:=hd hf;clear hb hown he h h2 hf hk;go_enter Tryz.func155,Tryz.ntmps155;go_wp2;rw[<-hw2];clear hw2
 go_region_law (first
  | (go_loud (refine step_append_lies _ rfl (.tmp 8) (.tmp 10) 220 rfl (pb+1) 224 i0 _ 4 32 Tryz.underlying220 hi hz0 hz1 ho rfl (by decide) (.slice ao l.length cap0) l.length (l.flatMap sideL) (by simp[Act.eval,Act.put]) HO.o ⟨w2.heap.size,0,none⟩ 1 1 (sideL ⟨⟨yl,yh⟩,⟨nl,nh⟩⟩) (by simp[Act.eval,Act.put]) rfl (by exact jQL w2 _ _ _ rfl rfl) (by intro u hu;simp[sideL] at hu;rcases hu with rfl | rfl | rfl | rfl<;>rfl) (by decide) (by unfold maxLen;omega) (by omega) (by simp;omega) _ rfl ?_);intro g cap w3 hown1 hgrow hat hltg;have ha:=(hgrow.block pb (by simp;omega) (fun e=>jQn HO.o HB.o (by decide) e.symm)).trans HB.o;have k0:w3.cell? ⟨pb,0,none⟩=some (.slice ao l.length cap0):=(by rw[jQb ha];rfl);have f0:=jQd ha 0;have hs:=jQf ha;have hp:=hd hown1;have HG:=hd hgrow;have hm:=hd ha;have hr:=hd hat;clear hown1 hgrow hat ha))
 all_goals(try go_wp2)
 all_goals
  go_end0;refine⟨rfl,⟨⟨.slice (some ⟨g,0,none⟩) (l.length+1) cap,by rw[jQe hm.o];rfl,?_,fun q hq hz=>?_⟩,by simpa using hn⟩,?_,fun q hq hq2=>?_⟩
  ·have:=hp.o
   rw[List.length_append,List.length_singleton,List.flatMap_append];exact jQq (by simpa using this) fun k hk=>jQg (fun e=>jQn this hm.o (by decide) (by rw[hk,e]))
  ·have e1:g=q:=by simpa[Value.ownBlock] using hq
   have hj:=HA.o q hz;rcases hr.o with hat | hat
   ·exact hl.o q (by rw[hat,e1]) hz
   ·have:=hc.o.size
    simp at hat;omega
  ·refine Below.setCell (B:=pb) (Below.trans (hc.o.mono (by omega)) (Below.trans (Below.mono (B':=pb) hh.o (by omega)) (Tch.of_grown HG.o (fun k hk=>?_) (by simp;omega)))) (nR) _;exact Nat.le_of_succ_le (HO.o.lt k hk).1
  ·have hj:=HA.o q hq;have ho:=hc.o.size;rw[jQg hq2,HG.o.block q (by simp;omega) (fun e=>hl.o q e.symm hq),hh.o.block q (by omega)];exact hc.o.block q hj
theorem jQiL {pb:Nat}{w:World}{l:List Sq.Sides}(h:SP A pb w l) :
  Calls Tryz.prog 157 #[.pointer (some ⟨pb,0,none⟩)] w fun e w'=>e=.returned (.agg (sideCells (Sq.popV l)))/\SP A pb w' l.dropLast/\Below pb w w'/\∀q,q<w.heap.size->q≠pb->w'.heap[q]?=w.heap[q]?:=by
 have hC:=h.lt;have hp:=h.few;obtain⟨W,hWW⟩:∃W,W=w.alloc (.cells #[.int .i64 0,.int .i64 0,.int .i64 0,.int .i64 0] 224):=⟨_,rfl⟩;have ho:Below w.heap.size w W:=by rw[hWW];exact(bR).alloc (nR) _
 have hk:W.heap[w.heap.size]?=some (.cells #[.int .i64 0,.int .i64 0,.int .i64 0,.int .i64 0] 224):=by rw[hWW];exact jQi _ _
 have hP:=h.below ho;obtain⟨v,hb0,hown0,hav⟩:=h.row;have hA:=hd hav;clear hav;have hb:W.heap[pb]?=some (.cells #[v] 222):=(ho.block pb hC).trans hb0;have ha:=jQh hown0 ho;have ht:=hd hown0;have hf:=hd hb0;have hy:=hd hP;have hD:=hd ho;have HK:=hd hk;have hx:=jQf hk;have hH:=jQf hb;have hF:W.heap.size=w.heap.size+1:=by rw[hWW];simp
 have hI:=hd hF;clear h ho hk hP hF hb0 hown0;rcases List.eq_nil_or_concat l with rfl | ⟨l',s,rfl⟩
 ·have hv:v=.slice none 0 0\/∃g cap,v=.slice (some ⟨g,0,none⟩) 0 cap:=by
   rcases ha.2 with⟨h1,_⟩ | ⟨g,cap,_,h1,_⟩
   ·exact Or.inl h1
   ·exact Or.inr ⟨g,cap,h1⟩
  have c0:w.cell? ⟨pb,0,none⟩=some v:=by rw[jQb hf.o];rfl
  clear ha hb;rcases hv with rfl | ⟨g,cap,rfl⟩
  all_goals
   go_enter Tryz.func157,Tryz.ntmps157;go_wp2_with fail;rw[<-hWW];clear hWW;refine(jQae W).mono ?_;rintro e w1 ⟨rfl,hl⟩;have hB:=hd hl;clear hl;go_wp2_with fail;refine(jQae w1).mono ?_;rintro e w2 ⟨rfl,hi⟩;have hr:=hB.o.trans (hi.mono hB.o.size);have hw:=(hr.block _ hx).trans HK.o;obtain⟨⟨j0,j1,j2,j3⟩,⟨l0,l1,l2,l3⟩,j4⟩:=jQF hw;have hN:=hd hw;have hM:=hd (hy.o.below hr);have hs:=hd (hD.o.trans (hr.mono (by omega)));clear hi hr hw;unfold spanCells Sq.allKeys;go_wp2;refine bodyPost_ret (v:=.agg (sideCells Sq.allSides)) (by simp[results,Tryz.results157,go_sem,sideCells,Sq.allSides,Sq.allKeys, *]) rfl ⟨rfl,?_,?_,fun q hq hq2=>?_⟩
   ·refine⟨⟨_,?_,jQq ht.o fun k hk=>?_,hA.o⟩,zR⟩
    ·rw[jQg (by omega),jQg (by omega),jQg (by omega),jQg (by omega),hs.o.block pb hC];exact hf.o
    ·have hK:=(World.ownsRow.lt ht.o k hk).2;rw[jQg (by omega),jQg (by omega),jQg (by omega),jQg (by omega)];exact hs.o.block k hK
   ·repeat (first | exact(hs.o.mono (by omega)) | refine Below.setCell (B:=pb) ?_ (by simp<;>omega) _)
   ·rw[jQg (by omega),jQg (by omega),jQg (by omega),jQg (by omega)];exact hs.o.block q hq
 ·rw[List.concat_eq_append] at ha hp ht;rw[List.concat_eq_append];have hj:(l'++[s]).length=l'.length+1:=by simp
  clear ha hb;have ha:=ht.o;have hb:=hf.o;obtain⟨g,cap,rfl,hg1,hg2⟩:=ha.form (by rw[hj];omega);have he:=ha;rw[hj] at ha hb hp;have hE:Sq.popV (l'++[s])=s:=by simp[Sq.popV]
  rw[hE];have c0:w.cell? ⟨pb,0,none⟩=some (.slice (some ⟨g,0,none⟩) (l'.length+1) cap):=by rw[jQb hb];rfl
  have f0:=jQd hb 0;obtain⟨g',cap',hv',hg',hcell⟩:=sl_at (f:=sideL) (fun _=>rfl) he l'.length (by rw[hj];omega);simp only[Value.slice.injEq,Option.some.injEq,Addr.mk.injEq] at hv';obtain⟨⟨rfl,-,-⟩,-,rfl⟩:=hv';have hc:(l'++[s])[l'.length]'(by rw[hj];omega)=s:=by simp
  rw[hc] at hcell;obtain⟨⟨yl,yh⟩,⟨nl,nh⟩⟩:=s;have m0:=hcell 0 (.int .i64 yl) (by decide) rfl;have m1:=hcell 1 (.int .i64 yh) (by decide) rfl;have m2:=hcell 2 (.int .i64 nl) (by decide) rfl;have m3:=hcell 3 (.int .i64 nh) (by decide) rfl;simp only[Nat.add_zero] at m0
  have hu:l'.length+1<=cap/\cap<=9223372036854775807:=by
   rcases ha.2 with⟨h1,h2⟩ | ⟨g',cap',cur,h1,hg,hh,hn,hm,_⟩
   ·omega
   ·simp only[Value.slice.injEq] at h1;obtain⟨-,-,rfl⟩:=h1;exact⟨hn,hm⟩
  obtain⟨hcap1,hcap2⟩:=hu;have HB:=hd hb;have hG:=hd ha;clear ha he hb hE hj hy hcell hc hWW HK hD hI hx hH;have i1:¬((l'.length:Int)+1<=(l'.length:Int)):=by omega
  go_enter Tryz.func157,Tryz.ntmps157;go_wp2
  have hz:SP A pb (w.setCell ⟨pb,0,none⟩ (.slice (some ⟨g,0,none⟩) l'.length cap)) l':=by
   refine⟨⟨.slice (some ⟨g,0,none⟩) l'.length cap,by rw[jQe HB.o];rfl,?_,hA.o⟩,by omega⟩;have h1:=hG.o;rw[List.flatMap_append] at h1
   have h2:=jQcF h1 l'.length (by omega) (by
    have:∀k:List Sq.Sides,(k.flatMap sideL).length=k.length*4:=fun k=>by
     induction k with
     | nil=>rfl
     | cons x r ih=>rw[List.flatMap_cons,List.length_append,ih,List.length_cons];show 4+_=_;omega
    exact this l')
   exact jQq h2 fun k hk=>jQg (fun e=>jQn h2 HB.o (by decide) (by rw[hk,e]))
  have hl:Below pb w (w.setCell ⟨pb,0,none⟩ (.slice (some ⟨g,0,none⟩) l'.length cap)):=Below.setCell (B:=pb) (bR) (nR) _;obtain⟨wz,hwz⟩:∃wz,wz=w.setCell ⟨pb,0,none⟩ (.slice (some ⟨g,0,none⟩) l'.length cap):=⟨_,rfl⟩;rw[<-hwz] at hz hl ⊢;have hL:=hz.lt;have hi:∀a b:Obj,Below wz.heap.size wz ((wz.alloc a).alloc b):=fun a b=>((bR).alloc (nR) _).alloc (by simp) _
  have hJ:wz.heap.size=w.heap.size:=by rw[hwz];simp
  refine bodyPost_ret (v:=.agg #[.int .i64 yl,.int .i64 yh,.int .i64 nl,.int .i64 nh]) (by simp[results,Tryz.results157,go_sem,hJ]) rfl ⟨rfl,hz.below (hi _ _),hl.trans ((hi _ _).mono (by omega)),fun q hq hq2=>((hi _ _).block q (by omega)).trans (by rw[hwz];exact jQg hq2)⟩
end
section
open Go.RowKit
variable {A:Nat->Prop}
theorem Sq.jQkn (l:List Sq.Sides):l.dropLast.length<=l.length:=by simp
theorem jQpo {pb:Nat}{w:World}{l:List Sq.Sides}(op:ByteArray)(h:SP A pb w l)(hn:l.length+1<=100000)(hA:∀q,A q->q<w.heap.size) :
  Calls Tryz.prog 156 #[.pointer (some ⟨pb,0,none⟩),.string op] w fun e w'=>e=.returned (.tuple #[])/\SP A pb w' (Sq.joinV l op)/\Below pb w w':=by
 have hL:=h.lt;have H:=hd h;have hz:=hd hA;clear hA;have hO:=Sq.jQkn l;have hJ:=Sq.jQkn l.dropLast;clear h;go_enter Tryz.func156,Tryz.ntmps156;go_wp2_with fail;refine(jQiL H.o).mono ?_;rintro e w1 ⟨rfl,hp1,hb1,-⟩;have hG:=hd hp1;obtain⟨x,hx⟩:∃x,x=Sq.popV l:=⟨_,rfl⟩;rw[<-hx];have HX:=hd hx;have hN:=hp1.lt;have ht:=hd hb1;clear hp1 hx hb1;obtain⟨⟨xl,xh⟩,⟨nl,nh⟩⟩:=x;unfold sideCells;simp only;obtain⟨V,hV⟩:∃V,V=w1.alloc (.cells #[.int .i64 xl,.int .i64 xh,.int .i64 nl,.int .i64 nh] 224):=⟨_,rfl⟩;have hh:Below w1.heap.size w1 V:=by rw[hV];exact(bR).alloc (nR) _
 have hm:V.heap[w1.heap.size]?=some (.cells #[.int .i64 xl,.int .i64 xh,.int .i64 nl,.int .i64 nh] 224):=by rw[hV];exact jQi _ _
 have hH:=ht.o.size;have hs:=hd ((hG.o.more (b:=w1.heap.size) (nR)).below hh);have hM:=hd hh;have hF:=hd hm;have hg:Hid (Below pb w V):=ht.o.trans (hh.mono (by omega));have hB:=jQf hm;clear hh hm;cases h1:op.toList==[110,111,116]
 case true =>
  have HE:Hid (Sq.joinV l op=l.dropLast++[⟨⟨nl,nh⟩,⟨xl,xh⟩⟩]):=by show _=_;unfold Sq.joinV;rw[h1,<-HX.o];rfl
  go_wp2_with fail;rw[<-hV]
  refine(jQdL ⟨⟨nl,nh⟩,⟨xl,xh⟩⟩ hs.o (by omega) (fun q hq=>by
   rcases hq with hq | hq
   ·have:=hz.o q hq;omega
   ·omega)).mono ?_
  rintro e w2 ⟨rfl,hp2,hb2,-⟩;have hI:=hd (hp2.less fun q hq=>Or.inl hq);clear hp2;go_wp2;exact bodyPost_ret (v:=.tuple #[]) (by simp[results,Tryz.results156,go_sem]) rfl ⟨rfl,by rw[HE.o];exact hI.o,hg.o.trans hb2⟩
 case false =>
  go_wp2_with fail;rw[<-hV];clear hV;refine(jQiL hs.o).mono ?_;rintro e w2 ⟨rfl,hp2,hb2,ho2⟩;have hp:w2.heap[w1.heap.size]?=some (.cells #[.int .i64 xl,.int .i64 xh,.int .i64 nl,.int .i64 nh] 224):=(ho2 _ hB (by omega)).trans hF.o;obtain⟨y,hy⟩:∃x,x=Sq.popV l.dropLast:=⟨_,rfl⟩;rw[<-hy];have HY:=hd hy;obtain⟨⟨yl,yh⟩,⟨zl,zh⟩⟩:=y;unfold sideCells;simp only;obtain⟨U,hU⟩:∃U,U=w2.alloc (.cells #[.int .i64 yl,.int .i64 yh,.int .i64 zl,.int .i64 zh] 224):=⟨_,rfl⟩;have hj:Below w2.heap.size w2 U:=by rw[hU];exact(bR).alloc (nR) _
  have hi:U.heap[w2.heap.size]?=some (.cells #[.int .i64 yl,.int .i64 yh,.int .i64 zl,.int .i64 zh] 224):=by rw[hU];exact jQi _ _
  have hf:=(hj.block _ (jQf hp)).trans hp;have hk:=hd ((hp2.more (b:=w2.heap.size) (nR)).below hj);have hD:=hb2.size;have hK:=jQf hi
  have hu:Hid (∀w':World,U.heap.size<=w'.heap.size->∀q,(A q\/q=w1.heap.size)\/q=w2.heap.size->q<w'.heap.size):=fun w' hw q hq=>by
   rcases hq with(hq | hq) | hq
   ·have:=hz.o q hq;omega
   ·omega
   ·omega
  have hv:Hid (Below pb w U):=hg.o.trans (hb2.trans (hj.mono (by have:=hp2.lt;omega)));have hc:Hid (∀w',Below U.heap.size U w'->w'.heap[w1.heap.size]?=some (.cells #[.int .i64 xl,.int .i64 xh,.int .i64 nl,.int .i64 nh] 224)/\w'.heap[w2.heap.size]?=some (.cells #[.int .i64 yl,.int .i64 yh,.int .i64 zl,.int .i64 zh] 224)):=fun w' hb'=>⟨(hb'.block _ (jQf hf)).trans hf,(hb'.block _ (jQf hi)).trans hi⟩
  have hE:=hk.o.lt;clear hp2 hb2 ho2 hp hy hj hi hf;cases h2:op.toList==[97,110,100]
  case true =>
   have HE:Hid (Sq.joinV l op=l.dropLast.dropLast++[⟨Sq.bothS ⟨yl,yh⟩ ⟨xl,xh⟩,Sq.eitherS ⟨zl,zh⟩ ⟨nl,nh⟩⟩]):=by show _=_;unfold Sq.joinV;rw[h1,h2,<-HX.o,<-HY.o];rfl
   obtain⟨A,hA⟩:∃A,A=Sq.bothS ⟨yl,yh⟩ ⟨xl,xh⟩:=⟨_,rfl⟩;obtain⟨C,hC⟩:∃A,A=Sq.eitherS ⟨zl,zh⟩ ⟨nl,nh⟩:=⟨_,rfl⟩;have he:=HE.o;rw[<-hA,<-hC] at he;have hl:=hd he;have HA:=hd hA;have HC:=hd hC;obtain⟨al,ah⟩:=A;obtain⟨cl,ch⟩:=C;clear hA hC he HE;go_wp2;rw[<-hU];clear hU;obtain⟨x0,x1⟩:=hc.o U (bR);obtain⟨⟨a0,a1,a2,a3⟩,-,a4⟩:=jQF x0;obtain⟨⟨b0,b1,b2,b3⟩,-,b4⟩:=jQF x1;have ha:Hid (Below U.heap.size U U):=bR;clear x0 x1
   go_region_held3 (fun w'=>(w'.cell? ⟨w1.heap.size,0,none⟩=some (.int .i64 xl)/\w'.cell? ⟨w1.heap.size,1,none⟩=some (.int .i64 xh)/\w'.cell? ⟨w1.heap.size,2,none⟩=some (.int .i64 nl)/\w'.cell? ⟨w1.heap.size,3,none⟩=some (.int .i64 nh))/\w'.cell? ⟨w2.heap.size,0,none⟩=some (.int .i64 yl)/\w'.cell? ⟨w2.heap.size,1,none⟩=some (.int .i64 yh)/\w'.cell? ⟨w2.heap.size,2,none⟩=some (.int .i64 zl)/\w'.cell? ⟨w2.heap.size,3,none⟩=some (.int .i64 zh)) (go_keep) (first
    | (go_at_call 201;refine(jQof ⟨yl,yh⟩ ⟨xl,xh⟩ _).mono ?_;rintro e w5 ⟨rfl,hb5⟩;rw[<-HA.o];have hb:Below U.heap.size U w5:=(by first | exact ha.o.trans (hb5.mono ha.o.size) | exact(ha.o.drew).trans (hb5.mono (by first | (simp;done) | (have:=ha.o.size;simp;omega))));obtain⟨x0,x1⟩:=hc.o w5 hb;obtain⟨⟨c0,c1,c2,c3⟩,-,c4⟩:=jQF x0;obtain⟨⟨d0,d1,d2,d3⟩,-,d4⟩:=jQF x1;clear ha;have ha:=hd hb;clear hb5 hb x0 x1;unfold spanCells;simp only)
    | (go_at_call 202;refine(jQh8 ⟨zl,zh⟩ ⟨nl,nh⟩ _).mono ?_;rintro e w5 ⟨rfl,hb5⟩;rw[<-HC.o];have hb:Below U.heap.size U w5:=(by first | exact ha.o.trans (hb5.mono ha.o.size) | exact(ha.o.drew).trans (hb5.mono (by first | (simp;done) | (have:=ha.o.size;simp;omega))));obtain⟨x0,x1⟩:=hc.o w5 hb;obtain⟨⟨c0,c1,c2,c3⟩,-,c4⟩:=jQF x0;obtain⟨⟨d0,d1,d2,d3⟩,-,d4⟩:=jQF x1;clear ha;have ha:=hd hb;clear hb5 hb x0 x1;unfold spanCells;simp only)
    | (go_at_call 155;refine(jQdL ⟨⟨al,ah⟩,⟨cl,ch⟩⟩ (hk.o.below ha.o) (by omega) (hu.o _ ha.o.size)).mono ?_;rintro e w6 ⟨rfl,hp6,hb6,ho6⟩;obtain⟨x0,x1⟩:=hc.o _ ha.o;have x2:=(ho6 w1.heap.size (Or.inl (Or.inr rfl)) (by omega)).trans x0;have x3:=(ho6 w2.heap.size (Or.inr rfl) (by omega)).trans x1;obtain⟨⟨n0,n1,n2,n3⟩,-,n4⟩:=jQF x2;obtain⟨⟨p0,p1,p2,p3⟩,-,p4⟩:=jQF x3;have hr:=hd (hp6.less fun q hq=>Or.inl (Or.inl hq));have ho:Hid (Below pb w w6):=hv.o.trans ((ha.o.mono (by omega)).trans hb6);clear hp6 hb6 ho6 x0 x1 x2 x3))
   all_goals(try go_wp2)
   all_goals
    go_end0;exact⟨rfl,by rw[hl.o];exact hr.o,ho.o⟩
  case false =>
   have HE:Hid (Sq.joinV l op=l.dropLast.dropLast++[⟨Sq.eitherS ⟨yl,yh⟩ ⟨xl,xh⟩,Sq.bothS ⟨zl,zh⟩ ⟨nl,nh⟩⟩]):=by show _=_;unfold Sq.joinV;rw[h1,h2,<-HX.o,<-HY.o];rfl
   obtain⟨A,hA⟩:∃A,A=Sq.eitherS ⟨yl,yh⟩ ⟨xl,xh⟩:=⟨_,rfl⟩;obtain⟨C,hC⟩:∃A,A=Sq.bothS ⟨zl,zh⟩ ⟨nl,nh⟩:=⟨_,rfl⟩;have he:=HE.o;rw[<-hA,<-hC] at he;have hl:=hd he;have HA:=hd hA;have HC:=hd hC;obtain⟨al,ah⟩:=A;obtain⟨cl,ch⟩:=C;clear hA hC he HE;go_wp2;rw[<-hU];clear hU;obtain⟨x0,x1⟩:=hc.o U (bR);obtain⟨⟨a0,a1,a2,a3⟩,-,a4⟩:=jQF x0;obtain⟨⟨b0,b1,b2,b3⟩,-,b4⟩:=jQF x1;have ha:Hid (Below U.heap.size U U):=bR;clear x0 x1
   go_region_held3 (fun w'=>(w'.cell? ⟨w1.heap.size,0,none⟩=some (.int .i64 xl)/\w'.cell? ⟨w1.heap.size,1,none⟩=some (.int .i64 xh)/\w'.cell? ⟨w1.heap.size,2,none⟩=some (.int .i64 nl)/\w'.cell? ⟨w1.heap.size,3,none⟩=some (.int .i64 nh))/\w'.cell? ⟨w2.heap.size,0,none⟩=some (.int .i64 yl)/\w'.cell? ⟨w2.heap.size,1,none⟩=some (.int .i64 yh)/\w'.cell? ⟨w2.heap.size,2,none⟩=some (.int .i64 zl)/\w'.cell? ⟨w2.heap.size,3,none⟩=some (.int .i64 zh)) (go_keep) (first
    | (go_at_call 202;refine(jQh8 ⟨yl,yh⟩ ⟨xl,xh⟩ _).mono ?_;rintro e w5 ⟨rfl,hb5⟩;rw[<-HA.o];have hb:Below U.heap.size U w5:=(by first | exact ha.o.trans (hb5.mono ha.o.size) | exact(ha.o.drew).trans (hb5.mono (by first | (simp;done) | (have:=ha.o.size;simp;omega))));obtain⟨x0,x1⟩:=hc.o w5 hb;obtain⟨⟨c0,c1,c2,c3⟩,-,c4⟩:=jQF x0;obtain⟨⟨d0,d1,d2,d3⟩,-,d4⟩:=jQF x1;clear ha;have ha:=hd hb;clear hb5 hb x0 x1;unfold spanCells;simp only)
    | (go_at_call 201;refine(jQof ⟨zl,zh⟩ ⟨nl,nh⟩ _).mono ?_;rintro e w5 ⟨rfl,hb5⟩;rw[<-HC.o];have hb:Below U.heap.size U w5:=(by first | exact ha.o.trans (hb5.mono ha.o.size) | exact(ha.o.drew).trans (hb5.mono (by first | (simp;done) | (have:=ha.o.size;simp;omega))));obtain⟨x0,x1⟩:=hc.o w5 hb;obtain⟨⟨c0,c1,c2,c3⟩,-,c4⟩:=jQF x0;obtain⟨⟨d0,d1,d2,d3⟩,-,d4⟩:=jQF x1;clear ha;have ha:=hd hb;clear hb5 hb x0 x1;unfold spanCells;simp only)
    | (go_at_call 155;refine(jQdL ⟨⟨al,ah⟩,⟨cl,ch⟩⟩ (hk.o.below ha.o) (by omega) (hu.o _ ha.o.size)).mono ?_;rintro e w6 ⟨rfl,hp6,hb6,ho6⟩;obtain⟨x0,x1⟩:=hc.o _ ha.o;have x2:=(ho6 w1.heap.size (Or.inl (Or.inr rfl)) (by omega)).trans x0;have x3:=(ho6 w2.heap.size (Or.inr rfl) (by omega)).trans x1;obtain⟨⟨n0,n1,n2,n3⟩,-,n4⟩:=jQF x2;obtain⟨⟨p0,p1,p2,p3⟩,-,p4⟩:=jQF x3;have hr:=hd (hp6.less fun q hq=>Or.inl (Or.inl hq));have ho:Hid (Below pb w w6):=hv.o.trans ((ha.o.mono (by omega)).trans hb6);clear hp6 hb6 ho6 x0 x1 x2 x3))
   all_goals(try go_wp2)
   all_goals
    go_end0;exact⟨rfl,by rw[hl.o];exact hr.o,ho.o⟩
end
section
open Go.RowKit
theorem Sq.jQpn (l:List Sq.Sides)(op:ByteArray):(Sq.joinV l op).length<=l.length+1:=by
 unfold Sq.joinV
 split
 ·simp
 ·split<;>simp<;>omega
theorem Sq.jQnL (f:List Sq.Sides->StepS->List Sq.Sides)(l:List StepS)(k:Nat)(h:k<l.length):(l.take (k+1)).foldl f []=f ((l.take k).foldl f []) l[k]:=by
 rw[List.take_succ_eq_append_getElem h,List.foldl_append];rfl
theorem jQlh (a b c d:Value)(w:World):(Instr.field 224 (.agg #[a,b,c,d]) 0).run Tryz.prog w=.ok (.agg #[a,b]) w:=by
 simp[Instr.field,go_sem,asAgg]
def okSt (s:StepS):Prop:=(-100000000000<=s.left.lit.number/\s.left.lit.number<=100000000000)/\-100000000000<=s.right.lit.number/\s.right.lit.number<=100000000000
theorem jQmj (cols:List Sq.Col)(l:List StepS)(cv sv:Value)(w:World)(h:ColsAt w cv cols)(hs:StepsAt w sv l)(hl:l.length<=50000)(hok:∀s∈l,okSt s) :
  Calls Tryz.prog 116 #[cv,sv] w fun e w'=>e=.returned (.agg (spanCells (Sq.spanOf cols l)))/\Below w.heap.size w w':=by
 obtain⟨bo,bap,rfl⟩:=jQa hs.1;have H:=hd h;have HS:=hd hs;have hJ:=hd hok;clear h hs hok;have HE:Hid (Sq.spanOf cols l=(Sq.popV (l.foldl (Sq.stepV cols) [])).yes):=rfl;obtain⟨W,hW,hbW,k0,k1⟩:=jQcp w (.cells #[.int .i64 0,.int .i64 0] 174) (.cells #[.slice none 0 0] 222);have hF:W.heap.size=w.heap.size+2:=by rw[hW];simp
 have hA:SP (fun _=>False) (w.heap.size+1) W []:=⟨⟨.slice none 0 0,k1,World.ownsRow_nil _ _ _ _,fun _ _ h=>h⟩,by simp⟩;have hI:=hd hA;have HW:=hd hbW;have hH:=hd k0;have hN:=hd hF;clear hbW k0 k1 hA hF;go_enter Tryz.func116,Tryz.ntmps116;go_wp2;rw[<-hW];clear hW
 go_loopw [6] (fun i wr=>∃k:Nat,k<=l.length/\i=.int .i64 k/\SP (fun _=>False) (w.heap.size+1) wr ((l.take k).foldl (Sq.stepV cols) [])/\((l.take k).foldl (Sq.stepV cols) []).length<=k/\Below (w.heap.size+1) W wr) (fun i _=>l.length-(intOf i).toNat)
 case atStart=>exact⟨0,zR,rfl,hI.o,by simp,bR⟩
 case round =>
  obtain⟨k,hk,rfl,ha,hlen,hb⟩:=hrel;obtain⟨wo,rfl⟩:∃wo:World,wo=wr:=⟨_,rfl⟩;have hr:Below w.heap.size w wo:=HW.o.trans (hb.mono (by omega));have hO:=ha.lt;have ho:=hd ha;have HB:=hd hb;clear ha hb
  by_cases hlt:k<l.length
  ·obtain⟨x,hx⟩:∃x,x=l[k]:=⟨_,rfl⟩;have hi:=hJ.o l[k] (List.getElem_mem hlt);rw[<-hx] at hi
   have cells:∀W',Below w.heap.size w W'->∃g,bo=some ⟨g,0,none⟩/\g<W'.heap.size/\∀j u,j<9->x.cells[j]?=some u->W'.cell? ⟨g,k*9+j,none⟩=some u:=by
    intro W' hW';obtain⟨g,cap',hv,hg,hc⟩:=sl_at (f:=Sq.StepS.cells) (fun _=>rfl) (HS.o.below hW').1 k hlt;simp only[Value.slice.injEq] at hv;exact⟨g,hv.1,hg,by rw[hx];exact hc⟩
   have HC:=hd cells;obtain⟨ls,hls⟩:∃x,x=(l.take k).foldl (Sq.stepV cols) []:=⟨_,rfl⟩;have ht:=Sq.jQnL (Sq.stepV cols) l k hlt;rw[<-hls,<-hx] at ht;rw[<-hls] at hlen;have ha:=ho.o;rw[<-hls] at ha;have hf:=hd ha;have hq:=hd ht;clear cells hx hls ht ha ho;obtain⟨g,hbo,hg,hc⟩:=HC.o wo hr;subst hbo;have hh:Hid (Sq.stepV cols ls x=if Sq.isComparison x.op then ls++[Sq.sidesOf cols x] else Sq.joinV ls x.op):=rfl;have hE:=fun w1 hc=>jQkR cols cv x w1 hc hi.1.1 hi.1.2 hi.2.1 hi.2.2
   have hD:=hd hE;clear hE hi;obtain⟨op,⟨lc,⟨lk,ln,lt⟩⟩,⟨rc,⟨rk,rn,rt⟩⟩⟩:=x;have c0:=hc 0 _ (by decide) rfl;have c1:=hc 1 _ (by decide) rfl;have c2:=hc 2 _ (by decide) rfl;have c3:=hc 3 _ (by decide) rfl;have c4:=hc 4 _ (by decide) rfl;have c5:=hc 5 _ (by decide) rfl;have c6:=hc 6 _ (by decide) rfl;have c7:=hc 7 _ (by decide) rfl;have c8:=hc 8 _ (by decide) rfl;simp only[Nat.add_zero] at c0;clear hc;go_wp2_with fail;refine(jQcm ⟨op,⟨lc,⟨lk,ln,lt⟩⟩,⟨rc,⟨rk,rn,rt⟩⟩⟩ _).mono ?_;rintro e w1 ⟨rfl,hb1⟩;have hn:Below w.heap.size w w1:=hr.trans (hb1.mono hr.size);have hB:=hd (HB.o.trans (hb1.mono (by omega)));have hm:=hd (hf.o.below hb1);have hQ:=hb1.size;clear c0 c1 c2 c3 c4 c5 c6 c7 c8 hb1 hf HB;obtain⟨g',hg',hg1,hc⟩:=HC.o w1 hn;have hM:g=g':=by simpa using hg'
   subst hM;have c0:=hc 0 _ (by decide) rfl;have c1:=hc 1 _ (by decide) rfl;have c2:=hc 2 _ (by decide) rfl;have c3:=hc 3 _ (by decide) rfl;have c4:=hc 4 _ (by decide) rfl;have c5:=hc 5 _ (by decide) rfl;have c6:=hc 6 _ (by decide) rfl;have c7:=hc 7 _ (by decide) rfl;have c8:=hc 8 _ (by decide) rfl;simp only[Nat.add_zero] at c0;clear hc hg';cases hcmp:Sq.isComparison op
   case true =>
    have hj:Hid ((l.take (k+1)).foldl (Sq.stepV cols) []=ls++[Sq.sidesOf cols ⟨op,⟨lc,⟨lk,ln,lt⟩⟩,⟨rc,⟨rk,rn,rt⟩⟩⟩]):=by show _=_;rw[hq.o,hh.o,hcmp];rfl
    obtain⟨sd,hsd⟩:∃sd,sd=Sq.sidesOf cols ⟨op,⟨lc,⟨lk,ln,lt⟩⟩,⟨rc,⟨rk,rn,rt⟩⟩⟩:=⟨_,rfl⟩;have he:=hj.o;rw[<-hsd] at he;have hp:=hd he;have hw:=hd hsd;clear hq hh hj he hsd;go_wp2_with fail;refine(hD.o w1 (H.o.below hn)).mono ?_;rintro e w2 ⟨rfl,hb2⟩;rw[<-hw.o];obtain⟨⟨s0,s1⟩,⟨s2,s3⟩⟩:=sd;unfold sideCells;simp only;obtain⟨V,hV⟩:∃V,V=w2.alloc (.cells #[.int .i64 s0,.int .i64 s1,.int .i64 s2,.int .i64 s3] 224):=⟨_,rfl⟩;have hu:Below w1.heap.size w1 V:=by rw[hV];exact hb2.alloc hb2.size _
    have hy:=hd (hm.o.below hu);have hL:=hd (hB.o.trans (hu.mono (by omega)));clear hb2 hu c0 c1 c2 c3 c4 c5 c6 c7 c8;go_wp2_with fail;rw[<-hV];clear hV;refine(jQdL ⟨⟨s0,s1⟩,⟨s2,s3⟩⟩ hy.o (by omega) (fun _ h=>h.elim)).mono ?_;rintro e w3 ⟨rfl,hp3,hb3,-⟩;have hz:=hd hp3;clear hp3;go_wp2;go_roundw
    case rel=>exact⟨k+1,by omega,by go_num,by rw[hp.o];exact hz.o,by rw[hp.o];simp;omega,hL.o.trans hb3⟩
    case measure=>simp[intOf];omega
   case false =>
    have hj:Hid ((l.take (k+1)).foldl (Sq.stepV cols) []=Sq.joinV ls op):=by show _=_;rw[hq.o,hh.o,hcmp];rfl
    have hR:=Sq.jQpn ls op;clear hq hh hD;go_wp2_with fail;refine(jQpo op hm.o (by omega) (fun _ h=>h.elim)).mono ?_;rintro e w3 ⟨rfl,hp3,hb3⟩;have hz:=hd hp3;clear hp3;go_wp2;go_roundw
    case rel=>exact⟨k+1,by omega,by go_num,by rw[hj.o];exact hz.o,by rw[hj.o];omega,hB.o.trans hb3⟩
    case measure=>simp[intOf];omega
  ·have hG:l.take k=l:=List.take_of_length_le (by omega);have ha:=ho.o;rw[hG] at ha;have hf:=hd ha;obtain⟨sd,hsd⟩:∃sd,sd=Sq.popV (l.foldl (Sq.stepV cols) []):=⟨_,rfl⟩;have he:=HE.o;rw[<-hsd] at he;have hp:=hd he;have hw:=hd hsd;clear ha hG ho he hsd;go_wp2_with fail;refine(jQiL hf.o).mono ?_;rintro e w3 ⟨rfl,hp3,hb3,ho3⟩;rw[<-hw.o];obtain⟨⟨s0,s1⟩,⟨s2,s3⟩⟩:=sd;have hC:w3.heap[w.heap.size]?=some (.cells #[.int .i64 0,.int .i64 0] 174):=(ho3 _ (by omega) (by omega)).trans ((HB.o.block _ (by omega)).trans hH.o);obtain⟨j0,j1,j2,j3,j4⟩:=jQaw hC;have hK:=hd (hr.trans (hb3.mono (by omega)));have hP:=jQlh (.int .i64 s0) (.int .i64 s1) (.int .i64 s2) (.int .i64 s3) w3;clear hp3 hb3 ho3 hC;unfold sideCells;simp only;go_wp2;refine bodyPost_ret (v:=.agg #[.int .i64 s0,.int .i64 s1]) (by simp[results,Tryz.results116,go_sem, *]) rfl ⟨by rw[hp.o];rfl,?_⟩
   repeat (first | exact hK.o | refine Below.setCell (B:=w.heap.size) ?_ (by simp) _)
end
end Go.Proofs.YtahpihjialbanaaGreatDoor
