import Derived.Test.YtahpihjialbanaaGreatDoorQbi
set_option linter.unusedVariables false
set_option linter.unusedSimpArgs false
set_option maxRecDepth 100000
set_option maxHeartbeats 8000000
namespace Go.Proofs.YtahpihjialbanaaGreatDoor
section
open Go.RowKit
theorem Rnd.tfrm {w w':World}{tb:Nat}(h:Rnd w)(hl:Low tb)(hf:TFrm tb w w'):Rnd w':=jQg6 h (fun g hg=>hl _ g (Or.inr rfl) hg) hf
theorem Low.of {w:World}(hT:Tbl w)(hR:Rnd w){tb:Nat}(h:w.heap.size≤tb):Low tb:=by
 intro name g hn hg
 rcases hn with rfl | rfl
 ·have:=jQlM hT hg;omega
 ·have:=jQlM hR hg;omega
theorem TrAt.new {w:World}{b:Nat}(h:w.heap[b]?=some (.cells #[.bool false,.slice none 0 0] 74)):TrAt b w ⟨false,[]⟩:=⟨⟨.slice none 0 0,h,World.ownsRow_nil _ _ _ _⟩,by simp⟩
theorem ans3 {w:World}{b:Nat}{a0 a1 a2:Value}(h:w.heap[b]?=some (.cells #[a0,a1,a2] 30)):w.cell? ⟨b,0,none⟩=some a0∧w.cell? ⟨b,1,none⟩=some a1∧w.cell? ⟨b,2,none⟩=some a2∧w.frozen? ⟨b,0,none⟩=false∧w.frozen? ⟨b,1,none⟩=false∧w.frozen? ⟨b,2,none⟩=false :=
 ⟨by rw[jQb h];rfl,by rw[jQb h];rfl,by rw[jQb h];rfl,jQd h _,jQd h _,jQd h _⟩
theorem NodeAt.skipA {Z:Nat→Prop}{n b:Nat}{w w':World}{t:Sq.Nd n}{ev cv:Value}{c:Array Value}{e0:TypeId}{fr:Nat×Nat}(h:NodeAt Z w n t ev cv)(hb:w.heap[b]?=some (.cells c e0 fr))(h1:141≠e0)(h2:60≠e0)(ho:∀g,g≠b→w'.heap[g]?=w.heap[g]?):NodeAt Z w' n t ev cv :=
 h.same fun g c' e fr' hg he=>ho g fun hgb=>by
  subst hgb
  rw[hb] at hg
  simp only[Option.some.injEq,Obj.cells.injEq] at hg
  rcases he with rfl | rfl
  ·exact h1 hg.2.1.symm
  ·exact h2 hg.2.1.symm
def AnsSays (Z:Nat→Prop)(rep pf dg:ByteArray)(n:Nat)(t:Sq.Nd n)(w:World)(e:Ending)(w':World):Prop :=
 ∃ev cv,e=.returned (.tuple #[.agg #[.string rep,.string pf,.string dg],.agg (headCells (Sq.headN n t) ev cv).toArray])∧NodeAt Z w' n t ev cv∧Below w.heap.size w w'
structure Bctx (w:World)(X:World):Prop where
 below:Below w.heap.size w X
 ans:X.heap[w.heap.size+1]?=some (.cells #[.string ⟨#[]⟩,.string ⟨#[]⟩,.string ⟨#[]⟩] 30)
 res:X.heap[w.heap.size+1+1]?=some (.cells #[.bool false,.slice none 0 0,.slice none 0 0,.int .i64 0,.int .i64 0,.string ⟨#[]⟩,.int .i64 0] 60)
theorem Bctx.next {w X Y:World}(h:Bctx w X)(hb:Below X.heap.size X Y):Bctx w Y :=
 ⟨h.below.trans (hb.mono h.below.size),(hb.block _ (jQg h.ans)).trans h.ans,(hb.block _ (jQg h.res)).trans h.res⟩
theorem Bctx.nextT {tb:Nat}{w X Y:World}(h:Bctx w X)(ht:w.heap.size≤tb)(hf:TFrm tb X Y):Bctx w Y :=
 ⟨h.below.trans (hf.below.mono ht),(hf.keep _ _ _ _ h.ans (by decide) (by decide)).trans h.ans,(hf.keep _ _ _ _ h.res (by decide) (by decide)).trans h.res⟩
theorem jQe7 (wide:Nat)(hw:wide≤32)(X:Sq.NTree)(db:List Sq.Tab)(ev cv:Value)(sql:ByteArray)(w:World)(Z0:Nat→Prop)(hZ:∀g,w.heap.size≤g→¬Z0 g)(h:NodeAt Z0 w X.d X.t ev cv)(hk:Sq.Keeps2 X db)(hT:Tbl w)(hR:Rnd w) :
  Calls Tryz.prog 34 #[.int .i64 wide,.agg (headCells X.head ev cv).toArray,.string sql] w
   (AnsSays Z0 (Sq.runR X.numbered sql ⟨false,[]⟩).1 (Sq.writeN (HS wide) (Sq.runR X.numbered sql ⟨false,[]⟩).2.2 X.numbered.d X.numbered.t) (Sq.digN (HS wide) (Sq.runR X.numbered sql ⟨false,[]⟩).2.1.d (Sq.runR X.numbered sql ⟨false,[]⟩).2.1.t) (Sq.runR X.numbered sql ⟨false,[]⟩).2.1.d (Sq.runR X.numbered sql ⟨false,[]⟩).2.1.t w):=by
 obtain⟨⟨e1,e2,e3,hev⟩,k1,k2,k3,hcv⟩:=h.slices
 subst hev hcv
 obtain⟨hnt,hnc,hnr⟩:=hk.numbered
 have hok:=hk.st.numbered.okOut hk.good hnt (Sq.TameR.none 100) hnc sql
 have htt:Sq.TameT 100 800000000 X.numbered:=⟨hnt,by omega⟩
 have hyt:Sq.tameN 100 (Sq.runR X.numbered sql ⟨false,[]⟩).2.1.d (Sq.runR X.numbered sql ⟨false,[]⟩).2.1.t:=(Sq.jQfW (by decide) hok htt (Sq.jQcC hnt (Sq.TameR.none 100) sql)).1.t
 have hpz:(Sq.writeN (HS wide) (Sq.runR X.numbered sql ⟨false,[]⟩).2.2 X.numbered.d X.numbered.t).size≤10000:=by
  obtain⟨x,g1,g2,g3⟩:=hk.st.numbered.fine hk.good
  obtain⟨n,t,y,e1,rfl,hr⟩:=g1.cases
  rw[e1]
  exact Nat.le_trans (Sq.jQmk (jQn1 hw) hw _ n t y hr g3 g2.two) (by omega)
 have hmany:=hk.many.1
 obtain⟨Z,hZe⟩:∃Z:Nat→Prop,Z=fun g=>Z0 g∨g=w.heap.size+1+1:=⟨_,rfl⟩
 have hn0:NodeAt Z w X.d X.t (.slice e1 e2 e3) (.slice k1 k2 k3):=by rw[hZe];exact h.more (by omega)
 have hZ0:∀g,w.heap.size+1+1 < g→¬Z g:=fun g hg hz=>by rw[hZe] at hz;rcases hz with hz | hz;exact hZ g (by omega) hz;omega
 have hZ2:∀g,Z0 g→Z g:=fun g hg=>by rw[hZe];exact Or.inl hg
 have hZ1:Z (w.heap.size+1+1):=by rw[hZe];exact Or.inr rfl
 have hkn:∀w',NodeAt Z w' X.d X.t (.slice e1 e2 e3) (.slice k1 k2 k3)→w.heap.size+1+1 < w'.heap.size→Calls Tryz.prog 42 #[.agg (headCells X.head (.slice e1 e2 e3) (.slice k1 k2 k3)).toArray] w' fun e w''=>∃ev' cv',e=.returned (.agg (headCells X.numbered.head ev' cv').toArray)∧NodeAt Z w'' X.numbered.d X.numbered.t ev' cv'∧Below w'.heap.size w' w'':=fun w' hn hs=>jQi1 X _ _ 99998 w' hn hk.tame (fun g hg=>hZ0 g (by omega)) (by omega)
 have hke:∀ev cv tb w',NodeAt Z w' X.numbered.d X.numbered.t ev cv→TrAt tb w' ⟨false,[]⟩→Tbl w'→Low tb→w.heap.size+1+1 < w'.heap.size→Calls Tryz.prog 43 #[.agg (headCells X.numbered.head ev cv).toArray,.string sql,.pointer (some ⟨tb,0,none⟩)] w' (RunSays Z tb (Sq.runR X.numbered sql ⟨false,[]⟩) w'):=fun ev cv tb w' hn ht hT' hL hs=>jQq4 100 (by decide) (by decide) X.numbered ev cv sql tb _ w' hn htt hnc ht (Sq.TameR.none 100) hT' hL (fun g hg=>hZ0 g (by omega)) hok
 have hkw:∀ev cv tb w',NodeAt Z w' X.numbered.d X.numbered.t ev cv→Rnd w'→TrAt tb w' (Sq.runR X.numbered sql ⟨false,[]⟩).2.2→Calls Tryz.prog 44 #[.agg (headCells X.numbered.head ev cv).toArray,.pointer (some ⟨tb,0,none⟩),.int .i64 wide] w' fun e w''=>e=.returned (.string (Sq.writeN (HS wide) (Sq.runR X.numbered sql ⟨false,[]⟩).2.2 X.numbered.d X.numbered.t))∧Below w'.heap.size w' w'':=fun ev cv tb w' hn hR' ht=>jQkj wide hw 100 tb _ X.numbered.d X.numbered.t ev cv w' hn hnt hR' ht hpz
 have hkd:∀ev cv w',NodeAt Z w' (Sq.runR X.numbered sql ⟨false,[]⟩).2.1.d (Sq.runR X.numbered sql ⟨false,[]⟩).2.1.t ev cv→Rnd w'→Calls Tryz.prog 37 #[.agg (headCells (Sq.runR X.numbered sql ⟨false,[]⟩).2.1.head ev cv).toArray,.int .i64 wide] w' fun e w''=>e=.returned (.string (Sq.digN (HS wide) (Sq.runR X.numbered sql ⟨false,[]⟩).2.1.d (Sq.runR X.numbered sql ⟨false,[]⟩).2.1.t))∧Below w'.heap.size w' w'':=fun ev cv w' hn hR'=>(jQc7 wide hw 100 _ _ ev cv w' hn hyt hR').2
 clear hnt hnc hnr hok htt hyt hpz hmany hk h hZe hZ
 generalize X.numbered=N at *
 generalize Sq.writeN (HS wide) (Sq.runR N sql ⟨false,[]⟩).2.2 N.d N.t=pf at *
 generalize Sq.digN (HS wide) (Sq.runR N sql ⟨false,[]⟩).2.1.d (Sq.runR N sql ⟨false,[]⟩).2.1.t=dg at *
 generalize Sq.runR N sql ⟨false,[]⟩=rr at *
 obtain⟨rep,Y,tr2⟩:=rr
 simp only at hkw hkd ⊢
 have hyh0:Sq.headN Y.d Y.t=Y.head:=rfl
 have HYH:=hd hyh0
 clear hyh0
 generalize X.head=hh at *
 rw[jQc] at hkn ⊢
 have HKN:=hd hkn
 have HKE:=hd hke
 have HKW:=hd hkw
 have HKD:=hd hkd
 have HN0:=hd hn0
 have HT:=hd hT
 have HR:=hd hR
 have HZ1:=hd hZ1
 have HZ2:=hd hZ2
 clear hkn hke hkw hkd hn0 hT hR hZ0 hZ1 hZ2
 obtain⟨W,hW⟩:∃W:World,W=((w.alloc (.cells #[.bool hh.inner,.slice e1 e2 e3,.slice k1 k2 k3,.int .i64 hh.least,.int .i64 hh.rows,.string hh.sl,.int .i64 hh.num] 60)).alloc (.cells #[.string ⟨#[]⟩,.string ⟨#[]⟩,.string ⟨#[]⟩] 30)).alloc (.cells #[.bool false,.slice none 0 0,.slice none 0 0,.int .i64 0,.int .i64 0,.string ⟨#[]⟩,.int .i64 0] 60):=⟨_,rfl⟩
 obtain⟨hbW,hb0,hb1,hb2⟩:=jQP hW
 have hzW:=jQg hb2
 have HC0:Hid (Bctx w W):=⟨hbW,hb1,hb2⟩
 clear hbW hb0 hb1 hb2
 go_enter Tryz.func34,Tryz.ntmps34
 go_wp2_with fail
 rw[←hW]
 clear hW
 refine(HKN.out _ (HN0.out.below HC0.out.below) (by omega)).mono ?_
 rintro e w1 ⟨ev1,cv1,rfl,hn1,hb1⟩
 obtain⟨⟨a1,a2,a3,hev⟩,b1,b2,b3,hcv⟩:=hn1.slices
 subst hev hcv
 generalize hnh:N.head=nh at *
 rw[jQc]
 obtain⟨V,hV⟩:∃V:World,V=(w1.alloc (.cells #[.bool nh.inner,.slice a1 a2 a3,.slice b1 b2 b3,.int .i64 nh.least,.int .i64 nh.rows,.string nh.sl,.int .i64 nh.num] 60)).alloc (.cells #[.bool false,.slice none 0 0] 74):=⟨_,rfl⟩
 obtain⟨hbV,hv0,hv1⟩:=jQbg hV
 have HC1:=hd ((HC0.out.next hb1).next hbV)
 have HN1:=hd (hn1.below hbV)
 have HTR1:=hd (TrAt.new hv1)
 have HV0:=hd hv0
 have hz1:=hb1.size
 have hzV:=jQg hv1
 obtain⟨s0,s1,s2,s3,s4,s5,s6⟩:=jQr hv0
 clear hn1 hb1 hbV hv0 hv1 HC0 HKN HN0
 go_wp2_with fail
 rw[←hV]
 clear hV
 have hke:=HKE.out (.slice a1 a2 a3) (.slice b1 b2 b3) (w1.heap.size+1) V HN1.out HTR1.out (HT.out.below HC1.out.below) (Low.of HT.out HR.out (by omega)) (by omega)
 rw[jQc] at hke
 refine hke.mono ?_
 clear hke
 rintro e w2 ⟨ev2,cv2,rfl,hn2,ht2,hf2⟩
 simp only at hn2 ht2 ⊢
 obtain⟨⟨g1,g2,g3,hev⟩,j1,j2,j3,hcv⟩:=hn2.slices
 subst hev hcv
 obtain⟨yh,hyh⟩:∃x,x=Y.head:=⟨_,rfl⟩
 rw[←hyh]
 rw[jQc]
 have hkd:=HKD.out (.slice g1 g2 g3) (.slice j1 j2 j3)
 rw[←hyh,jQc] at hkd
 have HKD2:=hd hkd
 have HYH2:=hd (HYH.out.trans hyh.symm)
 obtain⟨V2,hV2⟩:∃V2:World,V2=w2.alloc (.cells #[.bool yh.inner,.slice g1 g2 g3,.slice j1 j2 j3,.int .i64 yh.least,.int .i64 yh.rows,.string yh.sl,.int .i64 yh.num] 60):=⟨_,rfl⟩
 have hbV2:Below w2.heap.size w2 V2:=by rw[hV2];exact(Below.refl _ _).alloc (Nat.le_refl _) _
 have hq0:V2.heap[w2.heap.size]?=some (.cells #[.bool yh.inner,.slice g1 g2 g3,.slice j1 j2 j3,.int .i64 yh.least,.int .i64 yh.rows,.string yh.sl,.int .i64 yh.num] 60):=by rw[hV2];exact jQk _ _
 have hlow:Low (w1.heap.size+1):=Low.of HT.out HR.out (by omega)
 have hzt:=ht2.lt
 have HC2:=hd ((HC1.out.nextT (by omega) hf2).next hbV2)
 have HNN2:=hd ((HN1.out.tfrm hf2).below hbV2)
 have HN2:=hd (hn2.below hbV2)
 have HT2:=hd (ht2.below hbV2)
 have HR2:Hid (Rnd V2):=((HR.out.below HC1.out.below).tfrm hlow hf2).below hbV2
 have hold:=(hf2.keep _ _ _ _ HV0.out (by decide) (by decide)).trans HV0.out
 clear s0 s1 s2 s3 s4 s5 s6
 obtain⟨s0,s1,s2,s3,s4,s5,s6⟩:=jQr hold
 have hzq:=jQg hq0
 have hzo:=jQg hold
 have HQ0:=hd hq0
 have hkw:=HKW.out (.slice a1 a2 a3) (.slice b1 b2 b3) (w1.heap.size+1) V2 HNN2.out HR2.out HT2.out
 rw[jQc] at hkw
 have HKW2:=hd hkw
 clear hn2 ht2 hf2 hbV2 hq0 hlow hold hkw hkd hyh HKD HKW HKE HC1 HN1 HTR1 HV0 HNN2 HT2 HYH
 go_wp2_with fail
 rw[←hV2]
 clear hV2
 refine HKW2.out.mono ?_
 rintro e w3 ⟨rfl,hb3⟩
 have HC3:=hd (HC2.out.next hb3)
 have HN3:=hd (HN2.out.below hb3)
 have HR3:=hd (HR2.out.below hb3)
 have hq3:=(hb3.block _ hzq).trans HQ0.out
 have hz3:=jQg hq3
 clear s0 s1 s2 s3 s4 s5 s6
 obtain⟨s0,s1,s2,s3,s4,s5,s6⟩:=jQr hq3
 obtain⟨m0,m1,m2,n0,n1,n2⟩:=ans3 HC3.out.ans
 obtain⟨t0,t1,t2,t3,t4,t5,t6⟩:=jQr HC3.out.res
 obtain⟨f0,f1,f2,f3,f4,f5,f6⟩:=jQp HC3.out.res
 have HQ3:=hd hq3
 have hz4:=jQg HC3.out.res
 have hz5:w.heap.size+1 < w3.heap.size:=by omega
 have hwx:w.heap.size+1+1 < w2.heap.size:=by omega
 have hn1:¬(w2.heap.size=w.heap.size+1):=by omega
 have hn2:¬(w.heap.size+1=w2.heap.size):=by omega
 have hn3:¬(w2.heap.size=w.heap.size+1+1):=by omega
 have hn4:¬(w.heap.size+1+1=w2.heap.size):=by omega
 clear hb3 hq3 HC2 HN2 HR2 HQ0 HKW2 hzq hzo
 go_wp2
 go_region_with (go_at_call 37;refine(HKD2.out _ (HN3.out.below (Below.drew (Below.refl _ _))) (HR3.out.below (Below.drew (Below.refl _ _)))).mono ?_;rintro e w5 ⟨rfl,hb5⟩;have hb5':=(Below.drew (Below.refl w3.heap.size w3)).trans hb5;have HC5:=hd (HC3.out.next hb5');have HN5:=hd (HN3.out.below hb5');have hq5:=(hb5'.block _ hz3).trans HQ3.out;obtain⟨p0,p1,p2,p3,p4,p5,p6⟩:=jQr hq5;obtain⟨u0,u1,u2,v0,v1,v2⟩:=ans3 HC5.out.ans;obtain⟨x0,x1,x2,x3,x4,x5,x6⟩:=jQr HC5.out.res;obtain⟨y0,y1,y2,y3,y4,y5,y6⟩:=jQp HC5.out.res;have hz6:=jQg hq5;have hz7:=jQg HC5.out.res;have hz8:w.heap.size+1 < w5.heap.size:=(by omega);clear hb5 hb5' hq5)
 all_goals(try go_wp2_with fail)
 all_goals(refine bodyPost_ret (v:=.tuple #[.agg #[.string rep,.string pf,.string dg],.agg #[.bool yh.inner,.slice g1 g2 g3,.slice j1 j2 j3,.int .i64 yh.least,.int .i64 yh.rows,.string yh.sl,.int .i64 yh.num]]) (by simp[results,Tryz.results34,go_sem, *]) rfl ⟨.slice g1 g2 g3,.slice j1 j2 j3,by rw[HYH2.out,jQc],?_,?_⟩)
 all_goals first
  | (refine NodeAt.less (Z:=Z) HZ2.out ?_;exact NodeAt.skip (b:=w.heap.size+1+1) (NodeAt.skipA (b:=w.heap.size+1) HN5.out HC5.out.ans (by decide) (by decide) fun g hg=>jQD hg _ _ _ _ _ _) HZ1.out ((jQD (by omega) _ _ _ _ _ _).trans HC5.out.res) fun g hg=>jQq _ _ _ _ _ _ _ _ _ hg)
  | exact jQA (jQaE HC5.out.below (by omega) _ _ _) (by omega) _ _ _ _ _ _ _
end
section
open Go.RowKit
def SrvAt (sb:Nat)(w:World)(wide:Nat)(X:Sq.NTree):Prop :=
 ∃ev cv,w.heap[sb]?=some (.cells (#[.int .i64 wide]++(headCells X.head ev cv).toArray) 62)∧NodeAt (fun _=>False) w X.d X.t ev cv
theorem SrvAt.lt {sb wide:Nat}{w:World}{X:Sq.NTree}(h:SrvAt sb w wide X):sb < w.heap.size:=by obtain⟨_,_,h1,_⟩:=h;exact jQg h1
theorem SrvAt.below {sb wide:Nat}{w w':World}{X:Sq.NTree}(h:SrvAt sb w wide X)(hb:Below w.heap.size w w'):SrvAt sb w' wide X:=by
 obtain⟨ev,cv,h1,h2⟩:=h
 exact⟨ev,cv,(hb.block sb (jQg h1)).trans h1,h2.below hb⟩
theorem jQge {sb:Nat}{w:World}{a0 a1 a2 a3 a4 a5 a6 a7:Value}(h:w.heap[sb]?=some (.cells #[a0,a1,a2,a3,a4,a5,a6,a7] 62)) :
  w.cell? ⟨sb,0,none⟩=some a0∧w.cell? ⟨sb,1,none⟩=some a1∧w.cell? ⟨sb,2,none⟩=some a2∧w.cell? ⟨sb,3,none⟩=some a3∧w.cell? ⟨sb,4,none⟩=some a4∧w.cell? ⟨sb,5,none⟩=some a5∧w.cell? ⟨sb,6,none⟩=some a6∧w.cell? ⟨sb,7,none⟩=some a7 :=
 ⟨by rw[jQb h];rfl,by rw[jQb h];rfl,by rw[jQb h];rfl,by rw[jQb h];rfl,by rw[jQb h];rfl,by rw[jQb h];rfl,by rw[jQb h];rfl,by rw[jQb h];rfl⟩
def srv0 (wide:Nat):Array Value:=#[.int .i64 wide,.bool false,.slice none 0 0,.slice none 0 0,.int .i64 0,.int .i64 0,.string ⟨#[]⟩,.int .i64 0]
theorem SrvAt.new (wide:Nat)(w:World):SrvAt w.heap.size (w.alloc (.cells (srv0 wide) 62)) wide Sq.ntree0:=by
 refine⟨.slice none 0 0,.slice none 0 0,jQk _ _,?_⟩
 exact⟨World.ownsRow_nil _ _ _ _,rfl⟩
theorem jQlp (wide:Nat)(w:World)(h1:1≤wide)(h2:wide≤32):Calls Tryz.prog 33 #[.int .i64 wide] w fun e w'=>e=.returned (.bool true)∧w'=w:=by
 have i1:(1:Int)≤(wide:Int):=by omega
 have i2:(wide:Int)≤32:=by omega
 have i3:¬((wide:Int) < 1):=by omega
 have i4:¬((32:Int) < (wide:Int)):=by omega
 go_enter Tryz.func33,Tryz.ntmps33
 go_wp2
 go_ret
 exact⟨rfl,rfl⟩
theorem jQnZ (wide:Nat)(w:World)(h1:1≤wide)(h2:wide≤32) :
  Calls Tryz.prog 14 #[.int .i64 wide] w fun e w'=>e=.returned (.tuple #[.pointer (some ⟨w.heap.size,0,none⟩),.int .i64 0])∧w'=w.alloc (.cells (srv0 wide) 62):=by
 unfold srv0
 go_enter Tryz.func14,Tryz.ntmps14
 go_wp2_with fail
 refine(jQlp wide _ h1 h2).mono ?_
 rintro e w' ⟨rfl,hw'⟩
 rw[hw']
 clear hw' w'
 go_wp2
 go_ret2
 exact⟨rfl,rfl⟩
structure Keep (Z:Nat→Prop)(w w':World):Prop where
 size:w.heap.size≤w'.heap.size
 blk:∀(g:Nat) (c:Array Value) (e:TypeId) (fr:Nat×Nat),w.heap[g]?=some (.cells c e fr)→e≠30→e≠62→¬(e=60∧Z g)→w'.heap[g]?=w.heap[g]?
theorem Keep.refl (Z:Nat→Prop)(w:World):Keep Z w w:=⟨Nat.le_refl _,fun _ _ _ _ _ _ _ _=>rfl⟩
theorem Keep.alloc {Z:Nat→Prop}{w w':World}(h:Keep Z w w')(o:Obj):Keep Z w (w'.alloc o) :=
 ⟨Nat.le_trans h.size (by show w'.heap.size≤(w'.heap.push o).size;simp),fun g c e fr hg h1 h2 h3=>(jQax (Nat.lt_of_lt_of_le (jQg hg) h.size) o).trans (h.blk g c e fr hg h1 h2 h3)⟩
theorem Keep.set {Z:Nat→Prop}{w w':World}(h:Keep Z w w'){b i:Nat}(v:Value)(hb:w.heap.size≤b):Keep Z w (w'.setCell ⟨b,i,none⟩ v) :=
 ⟨Nat.le_trans h.size (by simp),fun g c e fr hg h1 h2 h3=>(jQe (fun e=>by have:=jQg hg;omega)).trans (h.blk g c e fr hg h1 h2 h3)⟩
theorem Keep.setA {Z:Nat→Prop}{w w':World}(h:Keep Z w w'){b i:Nat}(v:Value){c:Array Value}{fr:Nat×Nat}(hb:w.heap[b]?=some (.cells c 30 fr)):Keep Z w (w'.setCell ⟨b,i,none⟩ v) :=
 ⟨Nat.le_trans h.size (by simp),fun g c e fr hg h1 h2 h3=>(jQe (fun e=>by subst e;rw[hb] at hg;simp at hg;exact h1 hg.2.1.symm)).trans (h.blk g c e fr hg h1 h2 h3)⟩
theorem Keep.setN {Z:Nat→Prop}{w w':World}(h:Keep Z w w'){b i:Nat}(v:Value){c:Array Value}{fr:Nat×Nat}(hb:w.heap[b]?=some (.cells c 60 fr))(hz:Z b):Keep Z w (w'.setCell ⟨b,i,none⟩ v) :=
 ⟨Nat.le_trans h.size (by simp),fun g c e fr hg h1 h2 h3=>(jQe (fun e=>by subst e;rw[hb] at hg;simp at hg;exact h3 ⟨hg.2.1.symm,hz⟩)).trans (h.blk g c e fr hg h1 h2 h3)⟩
theorem Keep.setV {Z:Nat→Prop}{w w':World}(h:Keep Z w w'){b i:Nat}(v:Value){c:Array Value}{fr:Nat×Nat}(hb:w.heap[b]?=some (.cells c 62 fr)):Keep Z w (w'.setCell ⟨b,i,none⟩ v) :=
 ⟨Nat.le_trans h.size (by simp),fun g c e fr hg h1 h2 h3=>(jQe (fun e=>by subst e;rw[hb] at hg;simp at hg;exact h2 hg.2.1.symm)).trans (h.blk g c e fr hg h1 h2 h3)⟩
theorem NodeAt.keep {Z:Nat→Prop}{n:Nat}{w w':World}{t:Sq.Nd n}{ev cv:Value}(h:NodeAt Z w n t ev cv)(hk:Keep Z w w'):NodeAt Z w' n t ev cv :=
 h.move fun g c e fr hg he=>hk.blk g c e fr hg (by rcases he with rfl | ⟨rfl,_⟩ <;> decide) (by rcases he with rfl | ⟨rfl,_⟩ <;> decide) (by
  rintro⟨h1,h2⟩
  rcases he with rfl | ⟨rfl,h3⟩
  ·exact absurd h1 (by decide)
  ·exact h3 h2)
theorem NodeAt.shun {Z Y:Nat→Prop}{n:Nat}{w:World}{t:Sq.Nd n}{ev cv:Value}(h:NodeAt Z w n t ev cv)(hY:∀g,Y g→w.heap.size≤g):NodeAt Y w n t ev cv:=by
 induction n generalizing ev cv with
 | zero=>exact h
 | succ n ih =>
  obtain⟨h1,l,h2,h3,hz,h4⟩:=h
  refine⟨h1,l,h2,h3,fun g o p k c hv hg=>?_,fun x hx=>ih (h4 x hx)⟩
  rcases h3.2 with⟨h0,_⟩ | ⟨g',cap,cur,hv',hbg,hh,_⟩
  ·rw[h0] at hv;simp at hv
  ·rw[hv'] at hv
   simp only[Value.slice.injEq,Option.some.injEq,Addr.mk.injEq] at hv
   rw[hv.1.1] at hh
   have:=jQg hh
   have:=hY g hg
   omega
theorem jQdb {w:World}{b:Nat}{a0 a1 a2:Value}{ty:TypeId}{fr:Nat×Nat}(h:w.heap[b]?=some (.cells #[a0,a1,a2] ty fr))(x y z:Value):(((w.setCell ⟨b,0,none⟩ x).setCell ⟨b,1,none⟩ y).setCell ⟨b,2,none⟩ z).heap[b]?=some (.cells #[x,y,z] ty fr):=by
 rw[jQf (jQf (jQf h _) _) _]
 rfl
theorem jQaM {w:World}{b:Nat}{a0 a1 a2 a3 a4 a5 a6:Value}{ty:TypeId}(h:w.heap[b]?=some (.cells #[a0,a1,a2,a3,a4,a5,a6] ty))(x0 x1 x2 x3 x4 x5 x6:Value):(((((((w.setCell ⟨b,0,none⟩ x0).setCell ⟨b,1,none⟩ x1).setCell ⟨b,2,none⟩ x2).setCell ⟨b,3,none⟩ x3).setCell ⟨b,4,none⟩ x4).setCell ⟨b,5,none⟩ x5).setCell ⟨b,6,none⟩ x6).heap[b]?=some (.cells #[x0,x1,x2,x3,x4,x5,x6] ty):=jQjU h x0 x1 x2 x3 x4 x5 x6
theorem jQdf {w:World}{b c:Nat}(h:c≠b)(x0 x1 x2 x3 x4 x5 x6:Value):(((((((w.setCell ⟨b,0,none⟩ x0).setCell ⟨b,1,none⟩ x1).setCell ⟨b,2,none⟩ x2).setCell ⟨b,3,none⟩ x3).setCell ⟨b,4,none⟩ x4).setCell ⟨b,5,none⟩ x5).setCell ⟨b,6,none⟩ x6).heap[c]?=w.heap[c]?:=jQq w b x0 x1 x2 x3 x4 x5 x6 h
theorem jQiS {w:World}{k:Nat}(o:Obj)(h:k=w.heap.size):(w.alloc o).heap[k]?=some o:=jQd5 h o
def AnsGen (ND:World→Value→Value→Prop)(rep nb dg:ByteArray)(yh:Sq.Head)(w:World)(e:Ending)(w':World):Prop :=
 ∃g1 g2 g3 j1 j2 j3,e=.returned (.tuple #[.agg #[.string rep,.string nb,.string dg],.agg #[.bool yh.inner,.slice g1 g2 g3,.slice j1 j2 j3,.int .i64 yh.least,.int .i64 yh.rows,.string yh.sl,.int .i64 yh.num]])∧ND w' (.slice g1 g2 g3) (.slice j1 j2 j3)∧Below w.heap.size w w'
theorem AnsSays.gen {Z:Nat→Prop}{rep pf dg:ByteArray}{n:Nat}{t:Sq.Nd n}{w:World}{e:Ending}{w':World}(h:AnsSays Z rep pf dg n t w e w'):AnsGen (fun w a b=>NodeAt Z w n t a b) rep pf dg (Sq.headN n t) w e w':=by
 obtain⟨ev,cv,rfl,hn,hb⟩:=h
 obtain⟨⟨g1,g2,g3,hev⟩,j1,j2,j3,hcv⟩:=hn.slices
 subst hev hcv
 exact⟨g1,g2,g3,j1,j2,j3,by rw[jQc],hn,hb⟩
def Sq.repOf (X:Sq.NTree)(sql:ByteArray):ByteArray:=(Sq.runR X.numbered sql ⟨false,[]⟩).1
def Sq.nextOf (X:Sq.NTree)(sql:ByteArray):Sq.NTree:=(Sq.runR X.numbered sql ⟨false,[]⟩).2.1
def Sq.prfOf (wide:Nat)(X:Sq.NTree)(sql:ByteArray):ByteArray:=Sq.writeN (HS wide) (Sq.runR X.numbered sql ⟨false,[]⟩).2.2 X.numbered.d X.numbered.t
def Sq.digOf (wide:Nat)(X:Sq.NTree):ByteArray:=Sq.digN (HS wide) X.d X.t
theorem Sq.Keeps2.next {X:Sq.NTree}{db:List Sq.Tab}(h:Sq.Keeps2 X db)(sql:ByteArray):Sq.Keeps2 (Sq.nextOf X sql) (Sq.after db sql)∧Sq.repOf X sql=(Sq.decide db sql).reply:=by
 have hr:=Sq.jQl8 h.st.numbered h.good sql ⟨false,[]⟩
 obtain⟨hnt,hnc,hnr⟩:=h.numbered
 have hok:=h.st.numbered.okOut h.good hnt (Sq.TameR.none 100) hnc sql
 have htt:Sq.TameT 100 800000000 X.numbered:=⟨hnt,by omega⟩
 have hyt:Sq.tameN 100 (Sq.nextOf X sql).d (Sq.nextOf X sql).t:=(Sq.jQfW (by decide) hok htt (Sq.jQcC hnt (Sq.TameR.none 100) sql)).1.t
 exact⟨⟨hr.2.1,Sq.jQkT h.good sql,Sq.tameN.mono (by decide) hyt⟩,hr.1⟩
theorem Sq.keeps0:Sq.Keeps2 Sq.ntree0 []:=⟨Sq.stands0,Sq.jQpf,Sq.tame0⟩
end
end Go.Proofs.YtahpihjialbanaaGreatDoor
