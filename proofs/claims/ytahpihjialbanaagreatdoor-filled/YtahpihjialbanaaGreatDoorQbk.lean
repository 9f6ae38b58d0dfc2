import Derived.Test.YtahpihjialbanaaGreatDoorQbj
set_option linter.unusedVariables false
set_option linter.unusedSimpArgs false
set_option maxRecDepth 100000
set_option maxHeartbeats 40000000
namespace Go.Proofs.YtahpihjialbanaaGreatDoor
section
open Go.RowKit
structure Moved (sb:Nat)(w w':World):Prop where
 os:w'.os=w.os
 tape:w'.tape=w.tape
 output:w'.output=w.output
 size:w.heap.size≤w'.heap.size
 block:∀k,k < w.heap.size→k≠sb→w'.heap[k]?=w.heap[k]?
theorem Moved.below {sb B:Nat}{w w':World}(h:Moved sb w w')(h1:B≤sb)(h2:B≤w.heap.size):Below B w w':=⟨h.os,h.tape,h.output,h.size,fun k hk=>h.block k (by omega) (by omega)⟩
def srv7 (w:World)(b:Nat)(x0 x1 x2 x3 x4 x5 x6:Value):World :=
 ((((((w.setCell ⟨b,1,none⟩ x0).setCell ⟨b,2,none⟩ x1).setCell ⟨b,3,none⟩ x2).setCell ⟨b,4,none⟩ x3).setCell ⟨b,5,none⟩ x4).setCell ⟨b,6,none⟩ x5).setCell ⟨b,7,none⟩ x6
theorem jQlU (w:World)(b:Nat)(x0 x1 x2 x3 x4 x5 x6:Value){g:Nat}(h:g≠b):(srv7 w b x0 x1 x2 x3 x4 x5 x6).heap[g]?=w.heap[g]?:=by
 unfold srv7
 rw[jQe h,jQe h,jQe h,jQe h,jQe h,jQe h,jQe h]
theorem jQrG {w:World}{b:Nat}{a a0 a1 a2 a3 a4 a5 a6:Value}{ty:TypeId}{fr:Nat×Nat}(h:w.heap[b]?=some (.cells #[a,a0,a1,a2,a3,a4,a5,a6] ty fr))(x0 x1 x2 x3 x4 x5 x6:Value):(srv7 w b x0 x1 x2 x3 x4 x5 x6).heap[b]?=some (.cells #[a,x0,x1,x2,x3,x4,x5,x6] ty fr):=by
 unfold srv7
 rw[jQf (jQf (jQf (jQf (jQf (jQf (jQf h _) _) _) _) _) _) _]
 rfl
theorem jQlV {B b:Nat}{W w:World}(hb:Below B W w)(h:B≤b)(x0 x1 x2 x3 x4 x5 x6:Value):Below B W (srv7 w b x0 x1 x2 x3 x4 x5 x6):=by
 unfold srv7
 exact Below.setCell (B:=B) (Below.setCell (B:=B) (Below.setCell (B:=B) (Below.setCell (B:=B) (Below.setCell (B:=B) (Below.setCell (B:=B) (Below.setCell (B:=B) hb h _) h _) h _) h _) h _) h _) h _
theorem jQlT {sb:Nat}{w:World}{c:Array Value}(h:w.heap[sb]?=some (.cells c 62)):w.frozen? ⟨sb,1,none⟩=false∧w.frozen? ⟨sb,2,none⟩=false∧w.frozen? ⟨sb,3,none⟩=false∧w.frozen? ⟨sb,4,none⟩=false∧w.frozen? ⟨sb,5,none⟩=false∧w.frozen? ⟨sb,6,none⟩=false∧w.frozen? ⟨sb,7,none⟩=false:=⟨jQd h _,jQd h _,jQd h _,jQd h _,jQd h _,jQd h _,jQd h _⟩
theorem Keep.srv7 {Z:Nat→Prop}{w:World}{b:Nat}{c:Array Value}{fr:Nat×Nat}(h:w.heap[b]?=some (.cells c 62 fr))(x0 x1 x2 x3 x4 x5 x6:Value):Keep Z w (srv7 w b x0 x1 x2 x3 x4 x5 x6):=(((((((Keep.refl Z w).setV _ h).setV _ h).setV _ h).setV _ h).setV _ h).setV _ h).setV _ h
theorem jQsj (sb wide:Nat)(X:Sq.NTree)(db:List Sq.Tab)(sql:ByteArray)(w:World)(hw:wide≤32)(h:SrvAt sb w wide X)(hk:Sq.Keeps2 X db)(hT:Tbl w)(hR:Rnd w) :
  Calls Tryz.prog 16 #[.pointer (some ⟨sb,0,none⟩),.string sql] w fun e w'=>e=.returned (.agg #[.string (Sq.repOf X sql),.string (Sq.prfOf wide X sql),.string (Sq.digOf wide (Sq.nextOf X sql))])∧SrvAt sb w' wide (Sq.nextOf X sql)∧Moved sb w w':=by
 obtain⟨ev,cv,hblk,hn⟩:=h
 obtain⟨⟨e1,e2,e3,hev⟩,k1,k2,k3,hcv⟩:=hn.slices
 subst hev hcv
 rw[jQc] at hblk
 have hb2:w.heap[sb]?=some (.cells #[.int .i64 wide,.bool X.head.inner,.slice e1 e2 e3,.slice k1 k2 k3,.int .i64 X.head.least,.int .i64 X.head.rows,.string X.head.sl,.int .i64 X.head.num] 62):=hblk
 have hzs:=jQg hb2
 have hka:∀(Z:Nat→Prop) w',Below w.heap.size w w'→(∀g,Z g→w.heap.size≤g)→(∀g,w'.heap.size≤g→¬Z g)→Calls Tryz.prog 34 #[.int .i64 wide,.agg (headCells X.head (.slice e1 e2 e3) (.slice k1 k2 k3)).toArray,.string sql] w' (AnsGen (fun w a b=>NodeAt Z w (Sq.nextOf X sql).d (Sq.nextOf X sql).t a b) (Sq.repOf X sql) (Sq.prfOf wide X sql) (Sq.digOf wide (Sq.nextOf X sql)) (Sq.nextOf X sql).head w'):=fun Z w' hb h1 h2=>(jQe7 wide hw X db _ _ sql w' Z h2 ((hn.shun h1).below hb) hk (hT.below hb) (hR.below hb)).mono fun e w'' hh=>hh.gen
 rw[jQc] at hka
 have hfin:∀w' a b,w'.heap[sb]?=some (.cells #[.int .i64 wide,.bool (Sq.nextOf X sql).head.inner,a,b,.int .i64 (Sq.nextOf X sql).head.least,.int .i64 (Sq.nextOf X sql).head.rows,.string (Sq.nextOf X sql).head.sl,.int .i64 (Sq.nextOf X sql).head.num] 62)→NodeAt (fun _=>False) w' (Sq.nextOf X sql).d (Sq.nextOf X sql).t a b→SrvAt sb w' wide (Sq.nextOf X sql):=fun w' a b h1 h2=>⟨a,b,by rw[jQc];exact h1,h2⟩
 have hkeep:∀(Z:Nat→Prop) w w' a b,NodeAt Z w (Sq.nextOf X sql).d (Sq.nextOf X sql).t a b→Keep Z w w'→NodeAt (fun _=>False) w' (Sq.nextOf X sql).d (Sq.nextOf X sql).t a b:=fun Z w w' a b h1 h2=>(h1.keep h2).less (fun g hg=>hg.elim)
 obtain⟨SV,hSV⟩:∃SV:World→Prop,∀w',SV w'=SrvAt sb w' wide (Sq.nextOf X sql):=⟨_,fun _=>rfl⟩
 simp only[←hSV] at hfin ⊢
 clear hSV
 obtain⟨ND,hND⟩:∃ND:(Nat→Prop)→World→Value→Value→Prop,∀Z,ND Z=fun w a b=>NodeAt Z w (Sq.nextOf X sql).d (Sq.nextOf X sql).t a b:=⟨_,fun _=>rfl⟩
 simp only[←hND] at hka
 have hkeep2:∀(Z:Nat→Prop) w w' a b,ND Z w a b→Keep Z w w'→ND (fun _=>False) w' a b:=by simp only[hND];exact hkeep
 have hfin2:∀w' a b,w'.heap[sb]?=some (.cells #[.int .i64 wide,.bool (Sq.nextOf X sql).head.inner,a,b,.int .i64 (Sq.nextOf X sql).head.least,.int .i64 (Sq.nextOf X sql).head.rows,.string (Sq.nextOf X sql).head.sl,.int .i64 (Sq.nextOf X sql).head.num] 62)→ND (fun _=>False) w' a b→SV w':=by simp only[hND];exact hfin
 clear hkeep hfin
 clear hND
 obtain⟨W,hW⟩:∃W:World,W=w.alloc (.cells #[.string ⟨#[]⟩,.string ⟨#[]⟩,.string ⟨#[]⟩] 30):=⟨_,rfl⟩
 have hbW:Below w.heap.size w W:=by rw[hW];exact(Below.refl _ _).alloc (Nat.le_refl _) _
 have hans:W.heap[w.heap.size]?=some (.cells #[.string ⟨#[]⟩,.string ⟨#[]⟩,.string ⟨#[]⟩] 30):=by rw[hW];exact jQaB _ _
 have hsrv:=(hbW.block sb (jQg hb2)).trans hb2
 obtain⟨c0,c1,c2,c3,c4,c5,c6,c7⟩:=jQge hsrv
 have hzW:=jQg hans
 have hzS:=jQg hsrv
 have hzT:sb < W.heap.size+1:=by omega
 have hzR:=hbW.size
 have HKA:=hd hka
 have HBW:=hd hbW
 have HANS:=hd hans
 have HSRV:=hd hsrv
 clear hka hn hblk hb2 hk hT hR hbW hans hsrv
 have HKEEP:=hd hkeep2
 have HFIN:=hd hfin2
 clear hkeep2 hfin2
 generalize Sq.repOf X sql=rep at *
 generalize Sq.prfOf wide X sql=nb at *
 generalize Sq.digOf wide (Sq.nextOf X sql)=dg at *
 generalize (Sq.nextOf X sql).head=yh at *
 generalize X.head=xh at *
 go_enter Tryz.func16,Tryz.ntmps16
 go_wp2
 rw[←hW]
 clear hW
 go_cut [5,6] from 11 (fun p5 p6 wx=>∃a b g1 g2 g3 j1 j2 j3,p5=.pointer (some ⟨a,0,none⟩)∧p6=.pointer (some ⟨b,0,none⟩)∧W.heap.size≤a∧W.heap.size≤b∧wx.heap[a]?=some (.cells #[.string rep,.string nb,.string dg] 30)∧wx.heap[b]?=some (.cells #[.bool yh.inner,.slice g1 g2 g3,.slice j1 j2 j3,.int .i64 yh.least,.int .i64 yh.rows,.string yh.sl,.int .i64 yh.num] 60)∧ND (fun _=>False) wx (.slice g1 g2 g3) (.slice j1 j2 j3)∧Below W.heap.size W wx)
 case first =>
  go_region_with (first
   | (go_at_call 34;refine(HKA.out (fun _=>False) _ (HBW.out.trans (Below.mono (Below.drew (Below.refl _ _)) HBW.out.size)) (fun g hg=>hg.elim) (fun g _ hg=>hg)).mono ?_;rintro e w5 hh5;obtain⟨g1,g2,g3,j1,j2,j3,rfl,hn5,hb5⟩:=hh5;have hb5':Below W.heap.size W w5:=(Below.drew (Below.refl _ _)).trans hb5;have hz5:=hb5'.size;have HB5:=hd hb5';have HN5:=hd hn5;have hzU:sb < w5.heap.size:=(by omega);have hzV:¬(sb=w5.heap.size):=(by omega);have hzX:¬(sb=w5.heap.size+1):=(by omega);(try(have hzY:¬(W.heap.size=w5.heap.size):=(by omega)));(try(have hzZ:¬(W.heap.size+1=w5.heap.size):=(by omega)));clear hb5 hb5' hn5)
   | (go_at_call 34;refine(HKA.out (fun g=>g=W.heap.size) _ (HBW.out.trans (Below.mono (Below.alloc (B:=W.heap.size) (Below.drew (Below.refl _ _)) (Nat.le_refl _) _) HBW.out.size)) (fun g hg=>(by subst hg;exact hzR)) (fun g h0 hg=>(by subst hg;simp at h0;omega))).mono ?_;rintro e w5 hh5;obtain⟨g1,g2,g3,j1,j2,j3,rfl,hn5,hb5⟩:=hh5;have e9:=(hb5.block W.heap.size (by simp)).trans (jQaB W.drew _);have E9:=hd e9;have hb5':Below W.heap.size W w5:=(Below.alloc (B:=W.heap.size) (Below.drew (Below.refl _ _)) (Nat.le_refl _) _).trans (hb5.mono (by simp));have hz5:=jQg e9;have HB5:=hd hb5';have HN5:=hd hn5;have hzU:sb < w5.heap.size:=(by omega);have hzV:¬(sb=w5.heap.size):=(by omega);have hzX:¬(sb=w5.heap.size+1):=(by omega);(try(have hzY:¬(W.heap.size=w5.heap.size):=(by omega)));(try(have hzZ:¬(W.heap.size+1=w5.heap.size):=(by omega)));(first | (obtain⟨m0,m1,m2,n0,n1,n2⟩:=ans3 e9) | (obtain⟨m0,m1,m2,m3,m4,m5,m6⟩:=jQr e9;obtain⟨n0,n1,n2,n3,n4,n5,n6⟩:=jQp e9));clear hb5 hb5' hn5 e9)
   | (go_at_call 34;refine(HKA.out (fun g=>g=W.heap.size∨g=W.heap.size+1) _ (HBW.out.trans (Below.mono (Below.alloc (B:=W.heap.size) (Below.alloc (B:=W.heap.size) (Below.drew (Below.refl _ _)) (Nat.le_refl _) _) (by simp) _) HBW.out.size)) (fun g hg=>(by rcases hg with hg | hg <;> omega)) (fun g h0 hg=>(by simp at h0;rcases hg with hg | hg <;> omega))).mono ?_;rintro e w5 hh5;obtain⟨g1,g2,g3,j1,j2,j3,rfl,hn5,hb5⟩:=hh5;have e9:=(hb5.block W.heap.size (by simp;omega)).trans ((jQax (by simp) _).trans (jQaB W.drew _));have e8:=(hb5.block (W.heap.size+1) (by simp)).trans (jQd5 (by simp) _);have E9:=hd e9;have E8:=hd e8;have hb5':Below W.heap.size W w5:=(Below.alloc (B:=W.heap.size) (Below.alloc (B:=W.heap.size) (Below.drew (Below.refl _ _)) (Nat.le_refl _) _) (by simp) _).trans (hb5.mono (by simp;omega));have hz5:=jQg e8;have hz6:=jQg e9;have HB5:=hd hb5';have HN5:=hd hn5;have hzU:sb < w5.heap.size:=(by omega);have hzV:¬(sb=w5.heap.size):=(by omega);have hzX:¬(sb=w5.heap.size+1):=(by omega);(try(have hzY:¬(W.heap.size=w5.heap.size):=(by omega)));(try(have hzZ:¬(W.heap.size+1=w5.heap.size):=(by omega)));(first | (obtain⟨m0,m1,m2,n0,n1,n2⟩:=ans3 e9;obtain⟨o0,o1,o2,o3,o4,o5,o6⟩:=jQr e8;obtain⟨p0,p1,p2,p3,p4,p5,p6⟩:=jQp e8) | (obtain⟨m0,m1,m2,m3,m4,m5,m6⟩:=jQr e9;obtain⟨n0,n1,n2,n3,n4,n5,n6⟩:=jQp e9;obtain⟨o0,o1,o2,p0,p1,p2⟩:=ans3 e8));clear hb5 hb5' hn5 e9 e8))
  all_goals(try go_wp2_with fail)
  all_goals go_meet
  all_goals exact⟨_,_,_,_,_,_,_,_,rfl,rfl,(by first | omega | (simp;omega)),(by first | omega | (simp;omega)),(by repeat' first | with_reducible exact E9.out | with_reducible exact E8.out | with_reducible refine jQiS _ ?_ | with_reducible exact jQaM E9.out _ _ _ _ _ _ _ | with_reducible exact jQaM E8.out _ _ _ _ _ _ _ | with_reducible exact jQaM ((jQD (by omega) _ _ _ _ _ _).trans E8.out) _ _ _ _ _ _ _ | with_reducible exact jQaM ((jQD (by omega) _ _ _ _ _ _).trans E9.out) _ _ _ _ _ _ _ | with_reducible exact jQdb E9.out _ _ _ | with_reducible exact jQdb E8.out _ _ _ | with_reducible refine(jQdf ?_ _ _ _ _ _ _ _).trans ?_ | with_reducible refine(jQD ?_ _ _ _ _ _ _).trans ?_ | with_reducible refine(jQax ?_ _).trans ?_ | omega | (simp;done) | (simp;omega)),(by repeat' first | with_reducible exact E9.out | with_reducible exact E8.out | with_reducible refine jQiS _ ?_ | with_reducible exact jQaM E9.out _ _ _ _ _ _ _ | with_reducible exact jQaM E8.out _ _ _ _ _ _ _ | with_reducible exact jQaM ((jQD (by omega) _ _ _ _ _ _).trans E8.out) _ _ _ _ _ _ _ | with_reducible exact jQaM ((jQD (by omega) _ _ _ _ _ _).trans E9.out) _ _ _ _ _ _ _ | with_reducible exact jQdb E9.out _ _ _ | with_reducible exact jQdb E8.out _ _ _ | with_reducible refine(jQdf ?_ _ _ _ _ _ _ _).trans ?_ | with_reducible refine(jQD ?_ _ _ _ _ _ _).trans ?_ | with_reducible refine(jQax ?_ _).trans ?_ | omega | (simp;done) | (simp;omega)),HKEEP.out _ _ _ _ _ HN5.out (by repeat' first | with_reducible exact Keep.refl _ _ | (with_reducible refine Keep.set ?_ _ ?_;rotate_left;(first | omega | (simp;omega))) | with_reducible refine Keep.setA ?_ _ E9.out | (with_reducible refine Keep.setN ?_ _ E9.out ?_;rotate_left;(first | rfl | exact Or.inl rfl)) | with_reducible refine Keep.setA ?_ _ E8.out | (with_reducible refine Keep.setN ?_ _ E8.out ?_;rotate_left;exact Or.inr rfl) | with_reducible refine Keep.alloc ?_ _),(by repeat' first | with_reducible exact HB5.out | with_reducible refine Below.setCell (B:=W.heap.size) ?_ ?_ _ | with_reducible refine Below.alloc (B:=W.heap.size) ?_ ?_ _ | omega | (simp;done) | (simp;omega))⟩
 case rest =>
  obtain⟨a,b,g1,g2,g3,j1,j2,j3,rfl,rfl,ha0,hb0,hablk,hbblk,hny,hbc⟩:=hcut
  have hansc:=(hbc.block w.heap.size hzW).trans HANS.out
  obtain⟨u0,u1,u2,f0,f1,f2⟩:=ans3 hansc
  have hsrvc:=(hbc.block sb hzS).trans HSRV.out
  obtain⟨v0,v1,v2,v3,v4,v5,v6,v7⟩:=jQge hsrvc
  obtain⟨s1,s2,s3,s4,s5,s6,s7⟩:=jQlT hsrvc
  obtain⟨d0,d1,d2,-⟩:=ans3 hablk
  obtain⟨t0,t1,t2,t3,t4,t5,t6⟩:=jQr hbblk
  have ha1:=jQg hablk
  have hb1:=jQg hbblk
  have hz9:=jQg hansc
  have hzsv:=jQg hsrvc
  have hne1:¬(a=sb):=by omega
  have hne2:¬(sb=a):=by omega
  have hne3:¬(w.heap.size=sb):=by omega
  have hne4:¬(sb=w.heap.size):=by omega
  have HANSC:=hd hansc
  have HSRVC:=hd hsrvc
  have HNY:=hd hny
  have HBC:=hd (HBW.out.trans (hbc.mono HBW.out.size))
  clear hbc hansc hsrvc hny c0 c1 c2 c3 c4 c5 c6 c7 hablk hbblk
  go_wp2
  refine bodyPost_ret (v:=.agg #[.string rep,.string nb,.string dg]) (by simp[results,Tryz.results16,go_sem, *]) rfl ⟨rfl,?_,?_⟩
  ·refine HFIN.out _ (.slice g1 g2 g3) (.slice j1 j2 j3) ?_ ?_
   ·exact(jQD hne4 _ _ _ _ _ _).trans (jQrG HSRVC.out _ _ _ _ _ _ _)
   ·exact HKEEP.out (fun _=>False) _ _ _ _ HNY.out ((((Keep.srv7 HSRVC.out _ _ _ _ _ _ _).setA _ HANSC.out).setA _ HANSC.out).setA _ HANSC.out)
  ·have hb0:=jQaE (b:=w.heap.size) (jQlV (b:=sb) (HBC.out.mono (Nat.zero_le _)) (Nat.zero_le _) (.bool yh.inner) (.slice g1 g2 g3) (.slice j1 j2 j3) (.int .i64 yh.least) (.int .i64 yh.rows) (.string yh.sl) (.int .i64 yh.num)) (Nat.zero_le _) (.string rep) (.string nb) (.string dg)
   refine⟨hb0.os,hb0.tape,hb0.output,hb0.size,fun k hk hks=>?_⟩
   exact((jQD (by omega) _ _ _ _ _ _).trans (jQlU _ _ _ _ _ _ _ _ _ hks)).trans (HBC.out.block k hk)
end
end Go.Proofs.YtahpihjialbanaaGreatDoor
