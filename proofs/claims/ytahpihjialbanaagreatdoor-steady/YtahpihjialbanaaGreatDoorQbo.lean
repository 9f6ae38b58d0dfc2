import Derived.Test.YtahpihjialbanaaGreatDoorQbj
import Derived.Test.YtahpihjialbanaaGreatDoorQbn
set_option linter.unusedVariables false
set_option linter.unusedSimpArgs false
set_option maxRecDepth 100000
set_option maxHeartbeats 40000000
namespace Go.Proofs.YtahpihjialbanaaGreatDoor
section
open Go.RowKit
theorem jQry (sb wide:Nat)(X:Sq.NTree)(db:List Sq.Tab)(sql:ByteArray)(w:World)(hw:wide≤32)(h:SrvAt sb w wide X)(hk:Sq.Keeps2 X db)(hT:Tbl w)(hR:Rnd w) :
  Calls Tryz.prog 22 #[.pointer (some ⟨sb,0,none⟩),.string sql] w fun e w'=>e=.returned (.agg #[.string (Sq.repOf X sql),.string (Sq.prfOf wide X sql),.string (Sq.digOf wide (Sq.nextOf X sql))])∧Below w.heap.size w w':=by
 obtain⟨ev,cv,hblk,hn⟩:=h
 obtain⟨⟨e1,e2,e3,hev⟩,k1,k2,k3,hcv⟩:=hn.slices
 subst hev hcv
 rw[jQc] at hblk
 have hb2:w.heap[sb]?=some (.cells #[.int .i64 wide,.bool X.head.inner,.slice e1 e2 e3,.slice k1 k2 k3,.int .i64 X.head.least,.int .i64 X.head.rows,.string X.head.sl,.int .i64 X.head.num] 62):=hblk
 have hzs:=jQg hb2
 have hka:∀(Z:Nat→Prop) w',Below w.heap.size w w'→(∀g,Z g→w.heap.size≤g)→(∀g,w'.heap.size≤g→¬Z g)→Calls Tryz.prog 34 #[.int .i64 wide,.agg (headCells X.head (.slice e1 e2 e3) (.slice k1 k2 k3)).toArray,.string sql] w' (AnsGen (fun w a b=>NodeAt Z w (Sq.nextOf X sql).d (Sq.nextOf X sql).t a b) (Sq.repOf X sql) (Sq.prfOf wide X sql) (Sq.digOf wide (Sq.nextOf X sql)) (Sq.nextOf X sql).head w'):=fun Z w' hb h1 h2=>(jQe7 wide hw X db _ _ sql w' Z h2 ((hn.shun h1).below hb) hk (hT.below hb) (hR.below hb)).mono fun e w'' hh=>hh.gen
 rw[jQc] at hka
 obtain⟨ND,hND⟩:∃ND:(Nat→Prop)→World→Value→Value→Prop,∀Z,ND Z=fun w a b=>NodeAt Z w (Sq.nextOf X sql).d (Sq.nextOf X sql).t a b:=⟨_,fun _=>rfl⟩
 simp only[←hND] at hka
 clear hND
 obtain⟨W,hW⟩:∃W:World,W=w.alloc (.cells #[.string ⟨#[]⟩,.string ⟨#[]⟩,.string ⟨#[]⟩] 30):=⟨_,rfl⟩
 have hbW:Below w.heap.size w W:=by rw[hW];exact(Below.refl _ _).alloc (Nat.le_refl _) _
 have hans:W.heap[w.heap.size]?=some (.cells #[.string ⟨#[]⟩,.string ⟨#[]⟩,.string ⟨#[]⟩] 30):=by rw[hW];exact jQaB _ _
 have hsrv:=(hbW.block sb (jQg hb2)).trans hb2
 obtain⟨c0,c1,c2,c3,c4,c5,c6,c7⟩:=jQge hsrv
 have hzW:=jQg hans
 have hzS:=jQg hsrv
 have hzT:sb < W.heap.size+1:=by omega
 have hzR:=hbW.size
 have HKA:=hd hka
 have HBW:=hd hbW
 have HANS:=hd hans
 have HSRV:=hd hsrv
 clear hka hn hblk hb2 hk hT hR hbW hans hsrv
 generalize Sq.repOf X sql=rep at *
 generalize Sq.prfOf wide X sql=nb at *
 generalize Sq.digOf wide (Sq.nextOf X sql)=dg at *
 generalize (Sq.nextOf X sql).head=yh at *
 generalize X.head=xh at *
 go_enter Tryz.func22,Tryz.ntmps22
 go_wp2
 rw[←hW]
 clear hW
 go_cut [5] from 11 (fun p5 wx=>∃a,p5=.pointer (some ⟨a,0,none⟩)∧W.heap.size≤a∧wx.heap[a]?=some (.cells #[.string rep,.string nb,.string dg] 30)∧Below W.heap.size W wx)
 case first =>
  go_region_with (first
   | (go_at_call 34;refine(HKA.out (fun _=>False) _ (HBW.out.trans (Below.mono (Below.drew (Below.refl _ _)) HBW.out.size)) (fun g hg=>hg.elim) (fun g _ hg=>hg)).mono ?_;rintro e w5 hh5;obtain⟨g1,g2,g3,j1,j2,j3,rfl,hn5,hb5⟩:=hh5;have hb5':Below W.heap.size W w5:=(Below.drew (Below.refl _ _)).trans hb5;have hz5:=hb5'.size;have HB5:=hd hb5';have HN5:=hd hn5;have hzU:sb < w5.heap.size:=(by omega);have hzV:¬(sb=w5.heap.size):=(by omega);have hzX:¬(sb=w5.heap.size+1):=(by omega);(try(have hzY:¬(W.heap.size=w5.heap.size):=(by omega)));(try(have hzZ:¬(W.heap.size+1=w5.heap.size):=(by omega)));clear hb5 hb5' hn5)
   | (go_at_call 34;refine(HKA.out (fun g=>g=W.heap.size) _ (HBW.out.trans (Below.mono (Below.alloc (B:=W.heap.size) (Below.drew (Below.refl _ _)) (Nat.le_refl _) _) HBW.out.size)) (fun g hg=>(by subst hg;exact hzR)) (fun g h0 hg=>(by subst hg;simp at h0;omega))).mono ?_;rintro e w5 hh5;obtain⟨g1,g2,g3,j1,j2,j3,rfl,hn5,hb5⟩:=hh5;have e9:=(hb5.block W.heap.size (by simp)).trans (jQaB W.drew _);have E9:=hd e9;have hb5':Below W.heap.size W w5:=(Below.alloc (B:=W.heap.size) (Below.drew (Below.refl _ _)) (Nat.le_refl _) _).trans (hb5.mono (by simp));have hz5:=jQg e9;have HB5:=hd hb5';have HN5:=hd hn5;have hzU:sb < w5.heap.size:=(by omega);have hzV:¬(sb=w5.heap.size):=(by omega);have hzX:¬(sb=w5.heap.size+1):=(by omega);(try(have hzY:¬(W.heap.size=w5.heap.size):=(by omega)));(try(have hzZ:¬(W.heap.size+1=w5.heap.size):=(by omega)));(first | (obtain⟨m0,m1,m2,n0,n1,n2⟩:=ans3 e9) | (obtain⟨m0,m1,m2,m3,m4,m5,m6⟩:=jQr e9;obtain⟨n0,n1,n2,n3,n4,n5,n6⟩:=jQp e9));clear hb5 hb5' hn5 e9)
   | (go_at_call 34;refine(HKA.out (fun g=>g=W.heap.size∨g=W.heap.size+1) _ (HBW.out.trans (Below.mono (Below.alloc (B:=W.heap.size) (Below.alloc (B:=W.heap.size) (Below.drew (Below.refl _ _)) (Nat.le_refl _) _) (by simp) _) HBW.out.size)) (fun g hg=>(by rcases hg with hg | hg <;> omega)) (fun g h0 hg=>(by simp at h0;rcases hg with hg | hg <;> omega))).mono ?_;rintro e w5 hh5;obtain⟨g1,g2,g3,j1,j2,j3,rfl,hn5,hb5⟩:=hh5;have e9:=(hb5.block W.heap.size (by simp;omega)).trans ((jQax (by simp) _).trans (jQaB W.drew _));have e8:=(hb5.block (W.heap.size+1) (by simp)).trans (jQd5 (by simp) _);have E9:=hd e9;have E8:=hd e8;have hb5':Below W.heap.size W w5:=(Below.alloc (B:=W.heap.size) (Below.alloc (B:=W.heap.size) (Below.drew (Below.refl _ _)) (Nat.le_refl _) _) (by simp) _).trans (hb5.mono (by simp;omega));have hz5:=jQg e8;have hz6:=jQg e9;have HB5:=hd hb5';have HN5:=hd hn5;have hzU:sb < w5.heap.size:=(by omega);have hzV:¬(sb=w5.heap.size):=(by omega);have hzX:¬(sb=w5.heap.size+1):=(by omega);(try(have hzY:¬(W.heap.size=w5.heap.size):=(by omega)));(try(have hzZ:¬(W.heap.size+1=w5.heap.size):=(by omega)));(first | (obtain⟨m0,m1,m2,n0,n1,n2⟩:=ans3 e9;obtain⟨o0,o1,o2,o3,o4,o5,o6⟩:=jQr e8;obtain⟨p0,p1,p2,p3,p4,p5,p6⟩:=jQp e8) | (obtain⟨m0,m1,m2,m3,m4,m5,m6⟩:=jQr e9;obtain⟨n0,n1,n2,n3,n4,n5,n6⟩:=jQp e9;obtain⟨o0,o1,o2,p0,p1,p2⟩:=ans3 e8));clear hb5 hb5' hn5 e9 e8))
  all_goals(try go_wp2_with fail)
  all_goals go_meet
  all_goals exact⟨_,rfl,(by first | omega | (simp;omega)),(by repeat' first | with_reducible exact E9.out | with_reducible exact E8.out | with_reducible refine jQiS _ ?_ | with_reducible exact jQaM E9.out _ _ _ _ _ _ _ | with_reducible exact jQaM E8.out _ _ _ _ _ _ _ | with_reducible exact jQaM ((jQD (by omega) _ _ _ _ _ _).trans E8.out) _ _ _ _ _ _ _ | with_reducible exact jQaM ((jQD (by omega) _ _ _ _ _ _).trans E9.out) _ _ _ _ _ _ _ | with_reducible exact jQdb E9.out _ _ _ | with_reducible exact jQdb E8.out _ _ _ | with_reducible refine(jQdf ?_ _ _ _ _ _ _ _).trans ?_ | with_reducible refine(jQD ?_ _ _ _ _ _ _).trans ?_ | with_reducible refine(jQax ?_ _).trans ?_ | omega | (simp;done) | (simp;omega)),(by repeat' first | with_reducible exact HB5.out | with_reducible refine Below.setCell (B:=W.heap.size) ?_ ?_ _ | with_reducible refine Below.alloc (B:=W.heap.size) ?_ ?_ _ | omega | (simp;done) | (simp;omega))⟩
 case rest =>
  obtain⟨a,rfl,ha0,hablk,hbc⟩:=hcut
  have hansc:=(hbc.block w.heap.size hzW).trans HANS.out
  obtain⟨u0,u1,u2,f0,f1,f2⟩:=ans3 hansc
  obtain⟨d0,d1,d2,-⟩:=ans3 hablk
  have ha1:=jQg hablk
  have hz9:=jQg hansc
  have HBC:=hd (HBW.out.trans (hbc.mono HBW.out.size))
  clear hbc hansc hablk c0 c1 c2 c3 c4 c5 c6 c7
  go_wp2
  refine bodyPost_ret (v:=.agg #[.string rep,.string nb,.string dg]) (by simp[results,Tryz.results22,go_sem, *]) rfl ⟨rfl,jQaE HBC.out (Nat.le_refl _) _ _ _⟩
end
end Go.Proofs.YtahpihjialbanaaGreatDoor
