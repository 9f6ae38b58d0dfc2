import Derived.Test.YtahpihjialbanaaGreatDoorQbr
set_option linter.unusedVariables false
set_option linter.unusedSimpArgs false
set_option maxRecDepth 100000
set_option maxHeartbeats 8000000
namespace Go.Proofs.YtahpihjialbanaaGreatDoor
open Sq (headN Nd NTree runR digN readN)
section
open Go.RowKit
theorem Rnd.tfrm {w w':World}{tb:Nat}(h:Rnd w)(hl:Low tb)(hf:TFrm tb w w'):Rnd w':=jQhj h (fun g hg=>hl _ g (Or.inr rfl) hg) hf
theorem Low.of {w:World}(hT:Tbl w)(hR:Rnd w){tb:Nat}(h:w.heap.size<=tb):Low tb:=by
 intro name g hn hg;rcases hn with rfl | rfl
 ·have:=jQl6 hT hg;omega
 ·have:=jQl6 hR hg;omega
theorem TrAt.new {w:World}{b:Nat}(h:w.heap[b]?=some (.cells #[.bool false,.slice none 0 0] 74)):TrAt b w ⟨false,[]⟩:=⟨⟨.slice none 0 0,h,World.ownsRow_nil _ _ _ _⟩,by simp⟩
theorem ans3 {w:World}{b:Nat}{a0 a1 a2:Value}(h:w.heap[b]?=some (.cells #[a0,a1,a2] 30)):w.cell? ⟨b,0,none⟩=some a0/\w.cell? ⟨b,1,none⟩=some a1/\w.cell? ⟨b,2,none⟩=some a2/\w.frozen? ⟨b,0,none⟩=false/\w.frozen? ⟨b,1,none⟩=false/\w.frozen? ⟨b,2,none⟩=false :=
 ⟨by rw[jQb h];rfl,by rw[jQb h];rfl,by rw[jQb h];rfl,jQd h _,jQd h _,jQd h _⟩
theorem NodeAt.skipA {Z:Nat->Prop}{n b:Nat}{w w':World}{t:Nd n}{ev cv:Value}{c:Array Value}{e0:TypeId}{fr:Nat×Nat}(h:NodeAt Z w n t ev cv)(hb:w.heap[b]?=some (.cells c e0 fr))(h1:141≠e0)(h2:60≠e0)(ho:∀g,g≠b->w'.heap[g]?=w.heap[g]?):NodeAt Z w' n t ev cv :=
 h.same fun g c' e fr' hg he=>ho g fun hgb=>by
  subst hgb;rw[hb] at hg;simp only[Option.some.injEq,Obj.cells.injEq] at hg;rcases he with rfl | rfl
  ·exact h1 hg.2.1.symm
  ·exact h2 hg.2.1.symm
def AnsSays (Z:Nat->Prop)(rep pf dg:ByteArray)(n:Nat)(t:Nd n)(w:World)(e:Ending)(w':World):Prop :=
 ∃ev cv,e=.returned (.tuple #[.agg #[.string rep,.string pf,.string dg],.agg (headCells (headN n t) ev cv).toArray])/\NodeAt Z w' n t ev cv/\Below w.heap.size w w'
structure Bctx (w:World)(X:World):Prop where
 below:Below w.heap.size w X
 ans:X.heap[w.heap.size+1]?=some (.cells #[.string ⟨#[]⟩,.string ⟨#[]⟩,.string ⟨#[]⟩] 30)
 res:X.heap[w.heap.size+1+1]?=some (.cells #[.bool false,.slice none 0 0,.slice none 0 0,.int .i64 0,.int .i64 0,.string ⟨#[]⟩,.int .i64 0] 60)
theorem Bctx.next {w X Y:World}(h:Bctx w X)(hb:Below X.heap.size X Y):Bctx w Y :=
 ⟨h.below.trans (hb.mono h.below.size),(hb.block _ (jQf h.ans)).trans h.ans,(hb.block _ (jQf h.res)).trans h.res⟩
theorem Bctx.nextT {tb:Nat}{w X Y:World}(h:Bctx w X)(ht:w.heap.size<=tb)(hf:TFrm tb X Y):Bctx w Y :=
 ⟨h.below.trans (hf.below.mono ht),(hf.keep _ _ _ _ h.ans (by decide) (by decide)).trans h.ans,(hf.keep _ _ _ _ h.res (by decide) (by decide)).trans h.res⟩
theorem jQe9 (wide:Nat)(hw:wide<=32)(X:NTree)(db:List Sq.Tab)(ev cv:Value)(sql:ByteArray)(w:World)(Z0:Nat->Prop)(hZ:∀g,w.heap.size<=g->¬Z0 g)(h:NodeAt Z0 w X.d X.t ev cv)(hk:Sq.Keeps2 X db)(hT:Tbl w)(hR:Rnd w) :
  Calls Tryz.prog 34 #[.int .i64 wide,.agg (headCells X.head ev cv).toArray,.string sql] w
   (AnsSays Z0 (runR X.numbered sql ⟨false,[]⟩).1 (Sq.writeN (HS wide) (runR X.numbered sql ⟨false,[]⟩).2.2 X.numbered.d X.numbered.t) (digN (HS wide) (runR X.numbered sql ⟨false,[]⟩).2.1.d (runR X.numbered sql ⟨false,[]⟩).2.1.t) (runR X.numbered sql ⟨false,[]⟩).2.1.d (runR X.numbered sql ⟨false,[]⟩).2.1.t w):=by
 obtain⟨⟨e1,e2,e3,hev⟩,k1,k2,k3,hcv⟩:=h.slices;subst hev hcv;obtain⟨hnt,hnc,hnr⟩:=hk.numbered;have hM:=hk.st.numbered.okOut hk.good hnt (Sq.TameR.none 100) hnc sql;have hN:Sq.TameT 100 800000000 X.numbered:=⟨hnt,by omega⟩;have h4:Sq.tameN 100 (runR X.numbered sql ⟨false,[]⟩).2.1.d (runR X.numbered sql ⟨false,[]⟩).2.1.t:=(Sq.jQdg (by decide) hM hN (Sq.jQbo hnt (Sq.TameR.none 100) sql)).1.t
 have h3:(Sq.writeN (HS wide) (runR X.numbered sql ⟨false,[]⟩).2.2 X.numbered.d X.numbered.t).size<=10000:=by
  obtain⟨x,g1,g2,g3⟩:=hk.st.numbered.fine hk.good;obtain⟨n,t,y,e1,rfl,hr⟩:=g1.cases;rw[e1];exact Nat.le_trans (Sq.jQhA (jQf2 hw) hw _ n t y hr g3 g2.two) (by omega)
 have ho:=hk.many.1;obtain⟨Z,hZe⟩:∃Z:Nat->Prop,Z=fun g=>Z0 g\/g=w.heap.size+1+1:=⟨_,rfl⟩
 have Ha:NodeAt Z w X.d X.t (.slice e1 e2 e3) (.slice k1 k2 k3):=by rw[hZe];exact h.more (by omega)
 have hD:∀g,w.heap.size+1+1<g->¬Z g:=fun g hg hz=>by rw[hZe] at hz;rcases hz with hz | hz;exact hZ g (by omega) hz;omega
 have hP:∀g,Z0 g->Z g:=fun g hg=>by rw[hZe];exact Or.inl hg
 have hU:Z (w.heap.size+1+1):=by rw[hZe];exact Or.inr rfl
 have hE:∀w',NodeAt Z w' X.d X.t (.slice e1 e2 e3) (.slice k1 k2 k3)->w.heap.size+1+1<w'.heap.size->Calls Tryz.prog 42 #[.agg (headCells X.head (.slice e1 e2 e3) (.slice k1 k2 k3)).toArray] w' fun e w''=>∃ev' cv',e=.returned (.agg (headCells X.numbered.head ev' cv').toArray)/\NodeAt Z w'' X.numbered.d X.numbered.t ev' cv'/\Below w'.heap.size w' w'':=fun w' hn hs=>jQjn X _ _ 99998 w' hn hk.tame (fun g hg=>hD g (by omega)) (by omega)
 have hj:∀ev cv tb w',NodeAt Z w' X.numbered.d X.numbered.t ev cv->TrAt tb w' ⟨false,[]⟩->Tbl w'->Low tb->w.heap.size+1+1<w'.heap.size->Calls Tryz.prog 43 #[.agg (headCells X.numbered.head ev cv).toArray,.string sql,.pointer (some ⟨tb,0,none⟩)] w' (RunSays Z tb (runR X.numbered sql ⟨false,[]⟩) w'):=fun ev cv tb w' hn ht hT' hL hs=>jQnV 100 (by decide) (by decide) X.numbered ev cv sql tb _ w' hn hN hnc ht (Sq.TameR.none 100) hT' hL (fun g hg=>hD g (by omega)) hM
 have hc:∀ev cv tb w',NodeAt Z w' X.numbered.d X.numbered.t ev cv->Rnd w'->TrAt tb w' (runR X.numbered sql ⟨false,[]⟩).2.2->Calls Tryz.prog 44 #[.agg (headCells X.numbered.head ev cv).toArray,.pointer (some ⟨tb,0,none⟩),.int .i64 wide] w' fun e w''=>e=.returned (.string (Sq.writeN (HS wide) (runR X.numbered sql ⟨false,[]⟩).2.2 X.numbered.d X.numbered.t))/\Below w'.heap.size w' w'':=fun ev cv tb w' hn hR' ht=>jQkD wide hw 100 tb _ X.numbered.d X.numbered.t ev cv w' hn hnt hR' ht h3
 have hf:∀ev cv w',NodeAt Z w' (runR X.numbered sql ⟨false,[]⟩).2.1.d (runR X.numbered sql ⟨false,[]⟩).2.1.t ev cv->Rnd w'->Calls Tryz.prog 37 #[.agg (headCells (runR X.numbered sql ⟨false,[]⟩).2.1.head ev cv).toArray,.int .i64 wide] w' fun e w''=>e=.returned (.string (digN (HS wide) (runR X.numbered sql ⟨false,[]⟩).2.1.d (runR X.numbered sql ⟨false,[]⟩).2.1.t))/\Below w'.heap.size w' w'':=fun ev cv w' hn hR'=>(jQaR wide hw 100 _ _ ev cv w' hn h4 hR').2
 clear hnt hnc hnr hM hN h4 h3 ho hk h hZe hZ;generalize X.numbered=N at *;generalize Sq.writeN (HS wide) (runR N sql ⟨false,[]⟩).2.2 N.d N.t=pf at *;generalize digN (HS wide) (runR N sql ⟨false,[]⟩).2.1.d (runR N sql ⟨false,[]⟩).2.1.t=dg at *;generalize runR N sql ⟨false,[]⟩=rr at *;obtain⟨rep,Y,tr2⟩:=rr;simp only at hc hf ⊢;have hq:headN Y.d Y.t=Y.head:=rfl;have h9:=hd hq;clear hq;generalize X.head=hh at *;rw[jQc] at hE ⊢;have hS:=hd hE;have h0:=hd hj;have h8:=hd hc;have h5:=hd hf;have hX:=hd Ha;have HT:=hd hT;have HR:=hd hR;have Hg:=hd hU;have Hd:=hd hP;clear hE hj hc hf Ha hT hR hD hU hP;obtain⟨W,hW⟩:∃W:World,W=((w.alloc (.cells #[.bool hh.inner,.slice e1 e2 e3,.slice k1 k2 k3,.int .i64 hh.least,.int .i64 hh.rows,.string hh.sl,.int .i64 hh.num] 60)).alloc (.cells #[.string ⟨#[]⟩,.string ⟨#[]⟩,.string ⟨#[]⟩] 30)).alloc (.cells #[.bool false,.slice none 0 0,.slice none 0 0,.int .i64 0,.int .i64 0,.string ⟨#[]⟩,.int .i64 0] 60):=⟨_,rfl⟩;obtain⟨hbW,hb0,hb1,hb2⟩:=jQT hW;have Ho:=jQf hb2;have hF:Hid (Bctx w W):=⟨hbW,hb1,hb2⟩;clear hbW hb0 hb1 hb2;go_enter Tryz.func34,Tryz.ntmps34;go_wp2_with fail;rw[<-hW];clear hW;refine(hS.o _ (hX.o.below hF.o.below) (by omega)).mono ?_;rintro e w1 ⟨ev1,cv1,rfl,hA,hb1⟩;obtain⟨⟨a1,a2,a3,hev⟩,b1,b2,b3,hcv⟩:=hA.slices;subst hev hcv;generalize hnh:N.head=nh at *;rw[jQc];obtain⟨V,hV⟩:∃V:World,V=(w1.alloc (.cells #[.bool nh.inner,.slice a1 a2 a3,.slice b1 b2 b3,.int .i64 nh.least,.int .i64 nh.rows,.string nh.sl,.int .i64 nh.num] 60)).alloc (.cells #[.bool false,.slice none 0 0] 74):=⟨_,rfl⟩;obtain⟨hbV,hv0,hv1⟩:=jQa4 hV;have hy:=hd ((hF.o.next hb1).next hbV);have hO:=hd (hA.below hbV);have hu:=hd (TrAt.new hv1);have hJ:=hd hv0;have Hs:=hb1.size;have Hj:=jQf hv1;obtain⟨s0,s1,s2,s3,s4,s5,s6⟩:=jQs hv0;clear hA hb1 hbV hv0 hv1 hF hS hX;go_wp2_with fail;rw[<-hV];clear hV;have hj:=h0.o (.slice a1 a2 a3) (.slice b1 b2 b3) (w1.heap.size+1) V hO.o hu.o (HT.o.below hy.o.below) (Low.of HT.o HR.o (by omega)) (by omega)
 rw[jQc] at hj;refine hj.mono ?_;clear hj;rintro e w2 ⟨ev2,cv2,rfl,hm,ht2,hf2⟩;simp only at hm ht2 ⊢;obtain⟨⟨g1,g2,g3,hev⟩,j1,j2,j3,hcv⟩:=hm.slices;subst hev hcv;obtain⟨yh,hyh⟩:∃x,x=Y.head:=⟨_,rfl⟩;rw[<-hyh];rw[jQc];have hf:=h5.o (.slice g1 g2 g3) (.slice j1 j2 j3);rw[<-hyh,jQc] at hf;have hK:=hd hf;have hH:=hd (h9.o.trans hyh.symm);obtain⟨V2,hV2⟩:∃V2:World,V2=w2.alloc (.cells #[.bool yh.inner,.slice g1 g2 g3,.slice j1 j2 j3,.int .i64 yh.least,.int .i64 yh.rows,.string yh.sl,.int .i64 yh.num] 60):=⟨_,rfl⟩;have ha:Below w2.heap.size w2 V2:=by rw[hV2];exact(bR).alloc (nR) _
 have hC:V2.heap[w2.heap.size]?=some (.cells #[.bool yh.inner,.slice g1 g2 g3,.slice j1 j2 j3,.int .i64 yh.least,.int .i64 yh.rows,.string yh.sl,.int .i64 yh.num] 60):=by rw[hV2];exact jQi _ _
 have hv:Low (w1.heap.size+1):=Low.of HT.o HR.o (by omega);have Hm:=ht2.lt;have h1:=hd ((hy.o.nextT (by omega) hf2).next ha);have hp:=hd ((hO.o.tfrm hf2).below ha);have h7:=hd (hm.below ha);have h2:=hd (ht2.below ha);have hI:Hid (Rnd V2):=((HR.o.below hy.o.below).tfrm hv hf2).below ha;have he:=(hf2.keep _ _ _ _ hJ.o (by decide) (by decide)).trans hJ.o;clear s0 s1 s2 s3 s4 s5 s6;obtain⟨s0,s1,s2,s3,s4,s5,s6⟩:=jQs he;have h6:=jQf hC;have He:=jQf he;have hQ:=hd hC;have hc:=h8.o (.slice a1 a2 a3) (.slice b1 b2 b3) (w1.heap.size+1) V2 hp.o hI.o h2.o;rw[jQc] at hc;have hx:=hd hc;clear hm ht2 hf2 ha hC hv he hc hf hyh h5 h8 h0 hy hO hu hJ hp h2 h9;go_wp2_with fail;rw[<-hV2];clear hV2;refine hx.o.mono ?_;rintro e w3 ⟨rfl,hb3⟩;have hl:=hd (h1.o.next hb3);have hY:=hd (h7.o.below hb3);have Hb:=hd (hI.o.below hb3);have hB:=(hb3.block _ h6).trans hQ.o;have Hc:=jQf hB;clear s0 s1 s2 s3 s4 s5 s6;obtain⟨s0,s1,s2,s3,s4,s5,s6⟩:=jQs hB;obtain⟨m0,m1,m2,n0,n1,n2⟩:=ans3 hl.o.ans;obtain⟨t0,t1,t2,t3,t4,t5,t6⟩:=jQs hl.o.res;obtain⟨f0,f1,f2,f3,f4,f5,f6⟩:=jQk hl.o.res;have Hf:=hd hB;have Hp:=jQf hl.o.res;have Hi:w.heap.size+1<w3.heap.size:=by omega
 have Ht:w.heap.size+1+1<w2.heap.size:=by omega
 have hA:¬(w2.heap.size=w.heap.size+1):=by omega
 have hm:¬(w.heap.size+1=w2.heap.size):=by omega
 have Hl:¬(w2.heap.size=w.heap.size+1+1):=by omega
 have Hn:¬(w.heap.size+1+1=w2.heap.size):=by omega
 clear hb3 hB h1 h7 hI hQ hx h6 He;go_wp2
 go_region_with (go_at_call 37;refine(hK.o _ (hY.o.below (Below.drew (bR))) (Hb.o.below (Below.drew (bR)))).mono ?_;rintro e w5 ⟨rfl,hb5⟩;have hb:=(Below.drew (Below.refl w3.heap.size w3)).trans hb5;have hi:=hd (hl.o.next hb);have Hh:=hd (hY.o.below hb);have hG:=(hb.block _ Hc).trans Hf.o;obtain⟨p0,p1,p2,p3,p4,p5,p6⟩:=jQs hG;obtain⟨u0,u1,u2,v0,v1,v2⟩:=ans3 hi.o.ans;obtain⟨x0,x1,x2,x3,x4,x5,x6⟩:=jQs hi.o.res;obtain⟨y0,y1,y2,y3,y4,y5,y6⟩:=jQk hi.o.res;have Hq:=jQf hG;have Hk:=jQf hi.o.res;have Hr:w.heap.size+1<w5.heap.size:=(by omega);clear hb5 hb hG)
 all_goals(try go_wp2_with fail)
 all_goals(refine bodyPost_ret (v:=.tuple #[.agg #[.string rep,.string pf,.string dg],.agg #[.bool yh.inner,.slice g1 g2 g3,.slice j1 j2 j3,.int .i64 yh.least,.int .i64 yh.rows,.string yh.sl,.int .i64 yh.num]]) (by simp[results,Tryz.results34,go_sem, *]) rfl ⟨.slice g1 g2 g3,.slice j1 j2 j3,by rw[hH.o,jQc],?_,?_⟩)
 all_goals first
  | (refine NodeAt.less (Z:=Z) Hd.o ?_;exact NodeAt.skip (b:=w.heap.size+1+1) (NodeAt.skipA (b:=w.heap.size+1) Hh.o hi.o.ans (by decide) (by decide) fun g hg=>jQK hg _ _ _ _ _ _) Hg.o ((jQK (by omega) _ _ _ _ _ _).trans hi.o.res) fun g hg=>jQl _ _ _ _ _ _ _ _ _ hg)
  | exact jQu (jQaV hi.o.below (by omega) _ _ _) (by omega) _ _ _ _ _ _ _
end
section
open Go.RowKit
def SrvAt (sb:Nat)(w:World)(wide:Nat)(X:NTree):Prop :=
 ∃ev cv,w.heap[sb]?=some (.cells (#[.int .i64 wide]++(headCells X.head ev cv).toArray) 62)/\NodeAt (fun _=>False) w X.d X.t ev cv
theorem SrvAt.lt {sb wide:Nat}{w:World}{X:NTree}(h:SrvAt sb w wide X):sb<w.heap.size:=by obtain⟨_,_,h1,_⟩:=h;exact jQf h1
theorem SrvAt.below {sb wide:Nat}{w w':World}{X:NTree}(h:SrvAt sb w wide X)(hb:Below w.heap.size w w'):SrvAt sb w' wide X:=by
 obtain⟨ev,cv,h1,h2⟩:=h;exact⟨ev,cv,(hb.block sb (jQf h1)).trans h1,h2.below hb⟩
theorem jQdH {sb:Nat}{w:World}{a0 a1 a2 a3 a4 a5 a6 a7:Value}(h:w.heap[sb]?=some (.cells #[a0,a1,a2,a3,a4,a5,a6,a7] 62)) :
  w.cell? ⟨sb,0,none⟩=some a0/\w.cell? ⟨sb,1,none⟩=some a1/\w.cell? ⟨sb,2,none⟩=some a2/\w.cell? ⟨sb,3,none⟩=some a3/\w.cell? ⟨sb,4,none⟩=some a4/\w.cell? ⟨sb,5,none⟩=some a5/\w.cell? ⟨sb,6,none⟩=some a6/\w.cell? ⟨sb,7,none⟩=some a7 :=
 ⟨by rw[jQb h];rfl,by rw[jQb h];rfl,by rw[jQb h];rfl,by rw[jQb h];rfl,by rw[jQb h];rfl,by rw[jQb h];rfl,by rw[jQb h];rfl,by rw[jQb h];rfl⟩
def srv0 (wide:Nat):Array Value:=#[.int .i64 wide,.bool false,.slice none 0 0,.slice none 0 0,.int .i64 0,.int .i64 0,.string ⟨#[]⟩,.int .i64 0]
theorem SrvAt.new (wide:Nat)(w:World):SrvAt w.heap.size (w.alloc (.cells (srv0 wide) 62)) wide Sq.ntree0:=by
 refine⟨.slice none 0 0,.slice none 0 0,jQi _ _,?_⟩;exact⟨World.ownsRow_nil _ _ _ _,rfl⟩
theorem jQdj (wide:Nat)(w:World)(h1:1<=wide)(h2:wide<=32):Calls Tryz.prog 33 #[.int .i64 wide] w fun e w'=>e=.returned (.bool true)/\w'=w:=by
 have i1:(1:Int)<=(wide:Int):=by omega
 have i2:(wide:Int)<=32:=by omega
 have i3:¬((wide:Int)<1):=by omega
 have i4:¬((32:Int)<(wide:Int)):=by omega
 go_enter Tryz.func33,Tryz.ntmps33;go_wp2;go_ret;exact⟨rfl,rfl⟩
theorem jQrW (wide:Nat)(w:World)(h1:1<=wide)(h2:wide<=32) :
  Calls Tryz.prog 14 #[.int .i64 wide] w fun e w'=>e=.returned (.tuple #[.pointer (some ⟨w.heap.size,0,none⟩),.int .i64 0])/\w'=w.alloc (.cells (srv0 wide) 62):=by
 unfold srv0;go_enter Tryz.func14,Tryz.ntmps14;go_wp2_with fail;refine(jQdj wide _ h1 h2).mono ?_;rintro e w' ⟨rfl,hw'⟩;rw[hw'];clear hw' w';go_wp2;go_ret2;exact⟨rfl,rfl⟩
theorem jQlC (sb wide:Nat)(X:NTree)(K:Int)(w:World)(hw:wide<=32)(h:SrvAt sb w wide X)(ht:Sq.tameN K X.d X.t)(hR:Rnd w) :
  Calls Tryz.prog 29 #[.pointer (some ⟨sb,0,none⟩)] w fun e w'=>e=.returned (.string (digN (HS wide) X.d X.t))/\Below w.heap.size w w':=by
 obtain⟨ev,cv,hblk,hn⟩:=h;obtain⟨⟨e1,e2,e3,hev⟩,k1,k2,k3,hcv⟩:=hn.slices;subst hev hcv;have hk:∀w',Below w.heap.size w w'->Calls Tryz.prog 37 #[.agg (headCells X.head (.slice e1 e2 e3) (.slice k1 k2 k3)).toArray,.int .i64 wide] w' fun e w''=>e=.returned (.string (digN (HS wide) X.d X.t))/\Below w'.heap.size w' w'':=fun w' hb=>(jQaR wide hw K _ _ _ _ w' (hn.below hb) ht (hR.below hb)).2
 rw[jQc] at hk hblk;have ha:w.heap[sb]?=some (.cells #[.int .i64 wide,.bool X.head.inner,.slice e1 e2 e3,.slice k1 k2 k3,.int .i64 X.head.least,.int .i64 X.head.rows,.string X.head.sl,.int .i64 X.head.num] 62):=hblk;obtain⟨c0,c1,c2,c3,c4,c5,c6,c7⟩:=jQdH ha;have hz:=jQf ha;have HK:=hd hk;clear hk hn hblk ha ht hR;generalize digN (HS wide) X.d X.t=dg at *;generalize X.head=xh at *;go_enter Tryz.func29,Tryz.ntmps29;go_wp2
 go_region_with (go_at_call 37;refine(HK.o _ (Below.drew (bR))).mono ?_;rintro e w5 ⟨rfl,hb5⟩;have hc:Hid (Below w.heap.size w w5):=(Below.drew (bR)).trans hb5;clear hb5)
 all_goals(try go_wp2)
 all_goals
  go_ret;exact⟨rfl,hc.o⟩
structure Keep (Z:Nat->Prop)(w w':World):Prop where
 size:w.heap.size<=w'.heap.size
 blk:∀(g:Nat) (c:Array Value) (e:TypeId) (fr:Nat×Nat),w.heap[g]?=some (.cells c e fr)->e≠30->e≠62->¬(e=60/\Z g)->w'.heap[g]?=w.heap[g]?
theorem Keep.refl (Z:Nat->Prop)(w:World):Keep Z w w:=⟨nR,fun _ _ _ _ _ _ _ _=>rfl⟩
theorem Keep.alloc {Z:Nat->Prop}{w w':World}(h:Keep Z w w')(o:Obj):Keep Z w (w'.alloc o) :=
 ⟨Nat.le_trans h.size (by show w'.heap.size<=(w'.heap.push o).size;simp),fun g c e fr hg h1 h2 h3=>(jQbM (Nat.lt_of_lt_of_le (jQf hg) h.size) o).trans (h.blk g c e fr hg h1 h2 h3)⟩
theorem Keep.set {Z:Nat->Prop}{w w':World}(h:Keep Z w w'){b i:Nat}(v:Value)(hb:w.heap.size<=b):Keep Z w (w'.setCell ⟨b,i,none⟩ v) :=
 ⟨Nat.le_trans h.size (by simp),fun g c e fr hg h1 h2 h3=>(jQg (fun e=>by have:=jQf hg;omega)).trans (h.blk g c e fr hg h1 h2 h3)⟩
theorem Keep.setA {Z:Nat->Prop}{w w':World}(h:Keep Z w w'){b i:Nat}(v:Value){c:Array Value}{fr:Nat×Nat}(hb:w.heap[b]?=some (.cells c 30 fr)):Keep Z w (w'.setCell ⟨b,i,none⟩ v) :=
 ⟨Nat.le_trans h.size (by simp),fun g c e fr hg h1 h2 h3=>(jQg (fun e=>by subst e;rw[hb] at hg;simp at hg;exact h1 hg.2.1.symm)).trans (h.blk g c e fr hg h1 h2 h3)⟩
theorem Keep.setN {Z:Nat->Prop}{w w':World}(h:Keep Z w w'){b i:Nat}(v:Value){c:Array Value}{fr:Nat×Nat}(hb:w.heap[b]?=some (.cells c 60 fr))(hz:Z b):Keep Z w (w'.setCell ⟨b,i,none⟩ v) :=
 ⟨Nat.le_trans h.size (by simp),fun g c e fr hg h1 h2 h3=>(jQg (fun e=>by subst e;rw[hb] at hg;simp at hg;exact h3 ⟨hg.2.1.symm,hz⟩)).trans (h.blk g c e fr hg h1 h2 h3)⟩
theorem Keep.setV {Z:Nat->Prop}{w w':World}(h:Keep Z w w'){b i:Nat}(v:Value){c:Array Value}{fr:Nat×Nat}(hb:w.heap[b]?=some (.cells c 62 fr)):Keep Z w (w'.setCell ⟨b,i,none⟩ v) :=
 ⟨Nat.le_trans h.size (by simp),fun g c e fr hg h1 h2 h3=>(jQg (fun e=>by subst e;rw[hb] at hg;simp at hg;exact h2 hg.2.1.symm)).trans (h.blk g c e fr hg h1 h2 h3)⟩
theorem NodeAt.keep {Z:Nat->Prop}{n:Nat}{w w':World}{t:Nd n}{ev cv:Value}(h:NodeAt Z w n t ev cv)(hk:Keep Z w w'):NodeAt Z w' n t ev cv :=
 h.move fun g c e fr hg he=>hk.blk g c e fr hg (by rcases he with rfl | ⟨rfl,_⟩<;>decide) (by rcases he with rfl | ⟨rfl,_⟩<;>decide) (by
  rintro⟨h1,h2⟩;rcases he with rfl | ⟨rfl,h3⟩
  ·exact absurd h1 (by decide)
  ·exact h3 h2)
theorem NodeAt.shun {Z Y:Nat->Prop}{n:Nat}{w:World}{t:Nd n}{ev cv:Value}(h:NodeAt Z w n t ev cv)(hY:∀g,Y g->w.heap.size<=g):NodeAt Y w n t ev cv:=by
 induction n generalizing ev cv with
 | zero=>exact h
 | succ n ih =>
  obtain⟨h1,l,h2,h3,hz,h4⟩:=h;refine⟨h1,l,h2,h3,fun g o p k c hv hg=>?_,fun x hx=>ih (h4 x hx)⟩;rcases h3.2 with⟨h0,_⟩ | ⟨g',cap,cur,hv',hbg,hh,_⟩
  ·rw[h0] at hv;simp at hv
  ·rw[hv'] at hv;simp only[Value.slice.injEq,Option.some.injEq,Addr.mk.injEq] at hv;rw[hv.1.1] at hh
   have:=jQf hh
   have:=hY g hg
   omega
theorem jQcY {w:World}{b:Nat}{a0 a1 a2:Value}{ty:TypeId}{fr:Nat×Nat}(h:w.heap[b]?=some (.cells #[a0,a1,a2] ty fr))(x y z:Value):(((w.setCell ⟨b,0,none⟩ x).setCell ⟨b,1,none⟩ y).setCell ⟨b,2,none⟩ z).heap[b]?=some (.cells #[x,y,z] ty fr):=by
 rw[jQe (jQe (jQe h _) _) _];rfl
theorem jQax {w:World}{b:Nat}{a0 a1 a2 a3 a4 a5 a6:Value}{ty:TypeId}(h:w.heap[b]?=some (.cells #[a0,a1,a2,a3,a4,a5,a6] ty))(x0 x1 x2 x3 x4 x5 x6:Value):(((((((w.setCell ⟨b,0,none⟩ x0).setCell ⟨b,1,none⟩ x1).setCell ⟨b,2,none⟩ x2).setCell ⟨b,3,none⟩ x3).setCell ⟨b,4,none⟩ x4).setCell ⟨b,5,none⟩ x5).setCell ⟨b,6,none⟩ x6).heap[b]?=some (.cells #[x0,x1,x2,x3,x4,x5,x6] ty):=jQkb h x0 x1 x2 x3 x4 x5 x6
theorem jQc3 {w:World}{b c:Nat}(h:c≠b)(x0 x1 x2 x3 x4 x5 x6:Value):(((((((w.setCell ⟨b,0,none⟩ x0).setCell ⟨b,1,none⟩ x1).setCell ⟨b,2,none⟩ x2).setCell ⟨b,3,none⟩ x3).setCell ⟨b,4,none⟩ x4).setCell ⟨b,5,none⟩ x5).setCell ⟨b,6,none⟩ x6).heap[c]?=w.heap[c]?:=jQl w b x0 x1 x2 x3 x4 x5 x6 h
theorem jQjf {w:World}{k:Nat}(o:Obj)(h:k=w.heap.size):(w.alloc o).heap[k]?=some o:=jQdY h o
def AnsGen (ND:World->Value->Value->Prop)(rep nb dg:ByteArray)(yh:Sq.Head)(w:World)(e:Ending)(w':World):Prop :=
 ∃g1 g2 g3 j1 j2 j3,e=.returned (.tuple #[.agg #[.string rep,.string nb,.string dg],.agg #[.bool yh.inner,.slice g1 g2 g3,.slice j1 j2 j3,.int .i64 yh.least,.int .i64 yh.rows,.string yh.sl,.int .i64 yh.num]])/\ND w' (.slice g1 g2 g3) (.slice j1 j2 j3)/\Below w.heap.size w w'
theorem AnsSays.gen {Z:Nat->Prop}{rep pf dg:ByteArray}{n:Nat}{t:Nd n}{w:World}{e:Ending}{w':World}(h:AnsSays Z rep pf dg n t w e w'):AnsGen (fun w a b=>NodeAt Z w n t a b) rep pf dg (headN n t) w e w':=by
 obtain⟨ev,cv,rfl,hn,hb⟩:=h;obtain⟨⟨g1,g2,g3,hev⟩,j1,j2,j3,hcv⟩:=hn.slices;subst hev hcv;exact⟨g1,g2,g3,j1,j2,j3,by rw[jQc],hn,hb⟩
def Sq.repOf (X:NTree)(sql:ByteArray):ByteArray:=(runR X.numbered sql ⟨false,[]⟩).1
def Sq.nextOf (X:NTree)(sql:ByteArray):NTree:=(runR X.numbered sql ⟨false,[]⟩).2.1
def Sq.prfOf (wide:Nat)(X:NTree)(sql:ByteArray):ByteArray:=Sq.writeN (HS wide) (runR X.numbered sql ⟨false,[]⟩).2.2 X.numbered.d X.numbered.t
def Sq.digOf (wide:Nat)(X:NTree):ByteArray:=digN (HS wide) X.d X.t
theorem Sq.Keeps2.next {X:NTree}{db:List Sq.Tab}(h:Sq.Keeps2 X db)(sql:ByteArray):Sq.Keeps2 (Sq.nextOf X sql) (Sq.after db sql)/\Sq.repOf X sql=(Sq.decide db sql).reply:=by
 have hr:=Sq.jQcD h.st.numbered h.good sql ⟨false,[]⟩;obtain⟨hnt,hnc,hnr⟩:=h.numbered;have ha:=h.st.numbered.okOut h.good hnt (Sq.TameR.none 100) hnc sql;have hc:Sq.TameT 100 800000000 X.numbered:=⟨hnt,by omega⟩;have hb:Sq.tameN 100 (Sq.nextOf X sql).d (Sq.nextOf X sql).t:=(Sq.jQdg (by decide) ha hc (Sq.jQbo hnt (Sq.TameR.none 100) sql)).1.t;exact⟨⟨hr.2.1,Sq.jQle h.good sql,Sq.tameN.mono (by decide) hb⟩,hr.1⟩
theorem Sq.keeps0:Sq.Keeps2 Sq.ntree0 []:=⟨Sq.stands0,Sq.jQps,Sq.tame0⟩
end
section
open Go.RowKit
variable {Z:Nat->Prop}
def ReadSays (Z:Nat->Prop)(x:Option NTree)(w:World)(e:Ending)(w':World):Prop :=
 Below w.heap.size w w'/\match x with
 | none=>e=.returned (.tuple #[.agg #[.bool false,.slice none 0 0,.slice none 0 0,.int .i64 0,.int .i64 0,.string ⟨#[]⟩,.int .i64 0],.bool false])
 | some P=>∃ev cv,e=.returned (.tuple #[.agg (headCells P.head ev cv).toArray,.bool true])/\NodeAt Z w' P.d P.t ev cv
theorem jQlD (wide:Nat)(h1:1<=wide)(h2:wide<=32)(text:ByteArray)(w:World)(hZ:∀g,w.heap.size<=g->¬Z g) :
  Calls Tryz.prog 48 #[.string text,.int .i64 wide] w (ReadSays Z (Sq.readTop wide text) w):=by
 obtain⟨Y,hY⟩:∃Y:Nat->Prop,Y=fun g=>Z g\/g=w.heap.size:=⟨_,rfl⟩
 have h4:Hid (∀g,w.heap.size+1<=g->¬Y g):=by
  intro g hg;rw[hY];rintro(hz | hz)
  ·exact hZ g (by omega) hz
  ·omega
 have h5:Hid (∀g,Z g->Y g):=by intro g hg;rw[hY];exact Or.inl hg
 have hR:Hid (Y w.heap.size):=by show Y _;rw[hY];exact Or.inr rfl
 clear hY hZ;obtain⟨W,hW⟩:∃W:World,W=w.alloc (.cells node0 60):=⟨_,rfl⟩;have hO:Below w.heap.size w W:=by rw[hW];exact(bR).alloc (nR) _
 have hl:W.heap[w.heap.size]?=some (.cells node0 60):=by rw[hW];exact jQi _ _
 have h7:=jQf hl;have hE:=hd hO;have hF:=hd hl;obtain⟨b0,b1,b2,b3,b4,b5,b6⟩:=jQw hl;obtain⟨f0,f1,f2,f3,f4,f5,f6⟩:=jQk hl;clear hO hl;obtain⟨rt,hrt⟩:∃y,y=Sq.readTop wide text:=⟨_,rfl⟩;rw[<-hrt]
 by_cases hsz:text.size<=6000
 ·have hA:Hid (rt=if Sq.doneR (readN wide text.size ⟨text,false⟩).2&&Sq.canBeN text.size (readN wide text.size ⟨text,false⟩).1 then some ⟨text.size,(readN wide text.size ⟨text,false⟩).1⟩ else none):=by
   show _=_;rw[hrt];unfold Sq.readTop;rw[if_pos ⟨h1,h2,hsz⟩]
  have i1:¬((6000:Int)<(text.size:Int)):=by omega
  clear hrt;go_enter Tryz.func48,Tryz.ntmps48;go_wp2_with fail;rw[<-show node0=#[.bool false,.slice none 0 0,.slice none 0 0,.int .i64 0,.int .i64 0,.string ⟨#[]⟩,.int .i64 0] from rfl,<-hW];clear hW;refine(jQdj wide _ h1 h2).mono ?_;rintro e w' ⟨rfl,hw'⟩;rw[hw'];clear hw' w';go_wp2_with fail;refine(jQjm text _).mono ?_;rintro e w1 ⟨rfl,hb1⟩;have hn:=(hb1.block _ h7).trans hF.o;have hM:=hd (hE.o.trans (hb1.mono hE.o.size));have Hb:=jQf hn;have hw:=hd hn;have hB:=hM.o.size;clear hb1 hn b0 b1 b2 b3 b4 b5 b6 f0 f1 f2 f3 f4 f5 f6;obtain⟨V,hV⟩:∃V:World,V=w1.alloc (.cells #[.string text,.bool false] 105):=⟨_,rfl⟩;have hC:Below w1.heap.size w1 V:=by rw[hV];exact(bR).alloc (nR) _
  have hH:RdAt w1.heap.size V ⟨text,false⟩:=by rw[hV];exact jQi _ _
  have hP:=hd hH;have hD:=hd hC;have hk:=(hC.block _ Hb).trans hw.o;have hr:=hd hk;have hT:=jQf hk;have He:=jQf hH;have hJ:w.heap.size≠w1.heap.size:=by omega
  clear hH hC hk;go_wp2_with fail;rw[<-hV];clear hV;refine(jQem wide w1.heap.size h2 text.size ⟨text,false⟩ V Y (fun g hg=>h4.o g (by omega)) hP.o (by show text.size<=_;omega) (Or.inl (nR))).mono ?_;rintro e w2 ⟨ev,cv,rfl,hn2,hr2,hf2⟩;obtain⟨⟨x1,x2,x3,hev⟩,y1,y2,y3,hcv⟩:=hn2.slices;subst hev hcv;have hf:=Sq.jQhu wide text.size ⟨text,false⟩;have Hc:=Sq.jQen wide text.size ⟨text,false⟩
  have hq:(Sq.placesN text.size (readN wide text.size ⟨text,false⟩).1).length<=1000000000:=by
   have:(⟨text,false⟩:Sq.Rd).rest.size=text.size:=rfl
   omega
  have hm:=(hf2.block _ hT hJ).trans hr.o;have hs:=hd hm;have Hd:=jQf hm;have hI:=hd (hM.o.trans ((hD.o.mono hB).trans (hf2.below (B:=w.heap.size) (by omega) (by have:=hD.o.size;omega))));obtain⟨p,hp⟩:∃p,p=readN wide text.size ⟨text,false⟩:=⟨_,rfl⟩;have hi:=hA.o;rw[<-hp] at hn2 hr2 hf hq hi ⊢;obtain⟨p1,p2⟩:=p;simp only at hn2 hr2 hf hq hi ⊢;have hQ:=hd hn2;have hN:=hd hr2;have ho:∀w',Below w2.heap.size w2 w'->Calls Tryz.prog 62 #[.agg (headCells (headN text.size p1) (.slice x1 x2 x3) (.slice y1 y2 y3)).toArray] w' fun e w''=>e=.returned (.bool (Sq.canBeN text.size p1))/\Below w'.heap.size w' w'':=fun w' hb=>jQpJ text.size p1 _ _ w' (hn2.below hb) hf (by omega) hq
  obtain⟨yh,hyh⟩:∃y,y=headN text.size p1:=⟨_,rfl⟩;rw[<-hyh] at ho ⊢;rw[jQc] at ho ⊢;obtain⟨cb,hcb⟩:∃y,y=Sq.canBeN text.size p1:=⟨_,rfl⟩;obtain⟨dn,hdn⟩:∃y,y=Sq.doneR p2:=⟨_,rfl⟩;rw[<-hcb] at ho hi;rw[<-hdn] at hi;have hv:=hd ho;have h0:=hd hdn;have hu:=hd hi;have h8:=hd hyh;clear ho hdn hi hcb hyh hn2 hr2 hf2 hf Hc hq hm hp hA hP hr hD;obtain⟨V2,hV2⟩:∃V2:World,V2=w2.alloc (.cells #[.bool yh.inner,.slice x1 x2 x3,.slice y1 y2 y3,.int .i64 yh.least,.int .i64 yh.rows,.string yh.sl,.int .i64 yh.num] 60):=⟨_,rfl⟩;have hj:Below w2.heap.size w2 V2:=by rw[hV2];exact(bR).alloc (nR) _
  have hy:V2.heap[w2.heap.size]?=some (.cells #[.bool yh.inner,.slice x1 x2 x3,.slice y1 y2 y3,.int .i64 yh.least,.int .i64 yh.rows,.string yh.sl,.int .i64 yh.num] 60):=by rw[hV2];exact jQi _ _
  have hK:=hd hj;have hS:=hd hy;have hh:=hd ((hj.block _ Hd).trans hs.o);have h6:=hd (hQ.o.below hj);have hX:=hd (hN.o.below hj);have hG:=hd (hI.o.trans (hj.mono hI.o.size));have h9:=jQf hy;obtain⟨m0,m1,m2,m3,m4,m5,m6⟩:=jQs hy;have h3:=jQf hh.o;clear hj hy hQ hN hI hs;go_wp2_with fail;rw[<-hV2];clear hV2;refine(jQjp w1.heap.size p2 V2 hX.o).mono ?_;rintro e w' ⟨rfl,hw'⟩;rw[hw',<-h0.o];clear hw' w';obtain⟨b0,b1,b2,b3,b4,b5,b6⟩:=jQw hh.o;obtain⟨f0,f1,f2,f3,f4,f5,f6⟩:=jQk hh.o;cases dn
  ·have ha:ReadSays Z rt w (.returned (.tuple #[.agg #[.bool false,.slice none 0 0,.slice none 0 0,.int .i64 0,.int .i64 0,.string ⟨#[]⟩,.int .i64 0],.bool false])) (set7 V2 w.heap.size (.bool false) (.slice none 0 0) (.slice none 0 0) (.int .i64 0) (.int .i64 0) (.string ⟨#[]⟩) (.int .i64 0)):=by
    rw[hu.o];exact⟨jQu hG.o (nR) _ _ _ _ _ _ _,rfl⟩
   have he:=hd ha;clear ha;go_wp2;exact bodyPost_ret (v:=.tuple #[.agg #[.bool false,.slice none 0 0,.slice none 0 0,.int .i64 0,.int .i64 0,.string ⟨#[]⟩,.int .i64 0],.bool false]) (by simp[results,Tryz.results48,go_sem, *]) rfl he.o
  ·go_wp2_with fail;refine(hv.o V2 hK.o).mono ?_;rintro e w4 ⟨rfl,hb4⟩;have ht:=(hb4.block _ h9).trans hS.o;have hc:=(hb4.block _ h3).trans hh.o;have Ha:=hd (h6.o.below hb4);have hL:=hd (hG.o.trans (hb4.mono hG.o.size));have hx:=hd hc;clear m0 m1 m2 m3 m4 m5 m6 b0 b1 b2 b3 b4 b5 b6 f0 f1 f2 f3 f4 f5 f6;obtain⟨m0,m1,m2,m3,m4,m5,m6⟩:=jQs ht;obtain⟨b0,b1,b2,b3,b4,b5,b6⟩:=jQw hc;obtain⟨f0,f1,f2,f3,f4,f5,f6⟩:=jQk hc;have Hf:=jQf hc;have hU:=jQf ht;clear hb4 ht hc hv;cases cb
   ·have ha:ReadSays Z rt w (.returned (.tuple #[.agg #[.bool false,.slice none 0 0,.slice none 0 0,.int .i64 0,.int .i64 0,.string ⟨#[]⟩,.int .i64 0],.bool false])) (set7 w4 w.heap.size (.bool false) (.slice none 0 0) (.slice none 0 0) (.int .i64 0) (.int .i64 0) (.string ⟨#[]⟩) (.int .i64 0)):=by
     rw[hu.o];exact⟨jQu hL.o (nR) _ _ _ _ _ _ _,rfl⟩
    have he:=hd ha;clear ha;go_wp2;exact bodyPost_ret (v:=.tuple #[.agg #[.bool false,.slice none 0 0,.slice none 0 0,.int .i64 0,.int .i64 0,.string ⟨#[]⟩,.int .i64 0],.bool false]) (by simp[results,Tryz.results48,go_sem, *]) rfl he.o
   ·have ha:ReadSays Z rt w (.returned (.tuple #[.agg #[.bool yh.inner,.slice x1 x2 x3,.slice y1 y2 y3,.int .i64 yh.least,.int .i64 yh.rows,.string yh.sl,.int .i64 yh.num],.bool true])) (set7 w4 w.heap.size (.bool yh.inner) (.slice x1 x2 x3) (.slice y1 y2 y3) (.int .i64 yh.least) (.int .i64 yh.rows) (.string yh.sl) (.int .i64 yh.num)):=by
     rw[hu.o];refine⟨jQu hL.o (nR) _ _ _ _ _ _ _,.slice x1 x2 x3,.slice y1 y2 y3,?_,?_⟩
     ·show _=Ending.returned (.tuple #[.agg (headCells (headN text.size p1) (.slice x1 x2 x3) (.slice y1 y2 y3)).toArray,.bool true]);rw[<-h8.o,jQc]
     ·exact(Ha.o.skip hR.o hx.o (fun g hg=>jQl _ _ _ _ _ _ _ _ _ hg)).less h5.o
    have he:=hd ha;clear ha;go_wp2;exact bodyPost_ret (v:=.tuple #[.agg #[.bool yh.inner,.slice x1 x2 x3,.slice y1 y2 y3,.int .i64 yh.least,.int .i64 yh.rows,.string yh.sl,.int .i64 yh.num],.bool true]) (by simp[results,Tryz.results48,go_sem, *]) rfl he.o
 ·have hA:Hid (rt=none):=by
   show _=_;rw[hrt];unfold Sq.readTop;rw[if_neg (by omega)]
  have i1:(6000:Int)<(text.size:Int):=by omega
  clear hrt
  have ha:ReadSays Z rt w (.returned (.tuple #[.agg #[.bool false,.slice none 0 0,.slice none 0 0,.int .i64 0,.int .i64 0,.string ⟨#[]⟩,.int .i64 0],.bool false])) (set7 W w.heap.size (.bool false) (.slice none 0 0) (.slice none 0 0) (.int .i64 0) (.int .i64 0) (.string ⟨#[]⟩) (.int .i64 0)):=by
   rw[hA.o];exact⟨jQu hE.o (nR) _ _ _ _ _ _ _,rfl⟩
  have he:=hd ha;clear ha;go_enter Tryz.func48,Tryz.ntmps48;go_wp2_with fail;rw[<-show node0=#[.bool false,.slice none 0 0,.slice none 0 0,.int .i64 0,.int .i64 0,.string ⟨#[]⟩,.int .i64 0] from rfl,<-hW];clear hW;refine(jQdj wide _ h1 h2).mono ?_;rintro e w' ⟨rfl,hw'⟩;rw[hw'];clear hw' w';go_wp2;exact bodyPost_ret (v:=.tuple #[.agg #[.bool false,.slice none 0 0,.slice none 0 0,.int .i64 0,.int .i64 0,.string ⟨#[]⟩,.int .i64 0],.bool false]) (by simp[results,Tryz.results48,go_sem, *]) rfl he.o
end
end Go.Proofs.YtahpihjialbanaaGreatDoor
