import Derived.Test.YtahpihjialbanaaGreatDoorQbs
set_option linter.unusedVariables false
set_option linter.unusedSimpArgs false
set_option maxRecDepth 100000
set_option maxHeartbeats 8000000
namespace Go.Proofs.YtahpihjialbanaaGreatDoor
open Sq (nobytes runR digN)
section
open Go.RowKit
def ReadGen (ND:World->Value->Value->Prop)(h:Sq.Head)(w:World)(e:Ending)(w':World):Prop :=
 ∃g1 g2 g3 j1 j2 j3,e=.returned (.tuple #[.agg #[.bool h.inner,.slice g1 g2 g3,.slice j1 j2 j3,.int .i64 h.least,.int .i64 h.rows,.string h.sl,.int .i64 h.num],.bool true])/\ND w' (.slice g1 g2 g3) (.slice j1 j2 j3)/\Below w.heap.size w w'
theorem jQhh {a b:ByteArray}(h:a.toList=b.toList):a=b:=by
 rw[ByteArray.toList_eq,ByteArray.toList_eq] at h;apply ByteArray.ext;exact Array.toList_inj.1 h
structure Told (wide:Nat)(root sql:ByteArray)(P:Sq.NTree):Prop where
 tame:Sq.TameT 100 800000000 P
 few:Sq.countN P.d P.t<=900
 ok:digN (HS wide) P.d P.t=root->OkOut (Sq.decideR P sql ⟨false,[]⟩).1
theorem jQov (wide:Nat)(h1:1<=wide)(h2:wide<=32)(root sql reply proof:ByteArray)(P:Sq.NTree)(w:World)(hn:Sq.readTop wide proof=some P)(hP:Told wide root sql P)(hT:Tbl w)(hR:Rnd w) :
  Calls Tryz.prog 38 #[.int .i64 wide,.string root,.string sql,.string reply,.string proof] w fun e w'=>e=.returned (.tuple #[.string (Sq.checkR (HS wide) wide root sql reply proof).1,.bool (Sq.checkR (HS wide) wide root sql reply proof).2])/\Below w.heap.size w w':=by
 have hk:∀w',Calls Tryz.prog 48 #[.string proof,.int .i64 wide] w' (ReadGen (fun w a b=>NodeAt (fun _=>False) w P.d P.t a b) P.head w'):=fun w'=>by
  have:=jQlD (Z:=fun _=>False) wide h1 h2 proof w' (fun _ _ h=>h)
  rw[hn] at this;refine this.mono fun e w'' hh=>?_
  obtain⟨hb,ev,cv,rfl,hnode⟩:=hh;obtain⟨⟨a1,a2,a3,rfl⟩,b1,b2,b3,rfl⟩:=hnode.slices;exact⟨a1,a2,a3,b1,b2,b3,by rw[jQc],hnode,hb⟩
 have he:∀ev cv w',NodeAt (fun _=>False) w' P.d P.t ev cv->Rnd w'->Calls Tryz.prog 37 #[.agg (headCells P.head ev cv).toArray,.int .i64 wide] w' fun e w''=>e=.returned (.string (digN (HS wide) P.d P.t))/\Below w'.heap.size w' w'':=fun ev cv w' hn' hR'=>(jQaR wide h2 100 _ _ ev cv w' hn' hP.tame.t hR').2
 have ha:Sq.checkR (HS wide) wide root sql reply proof=if digN (HS wide) P.d P.t≠root then(nobytes,false) else if(runR P sql ⟨false,[]⟩).2.2.lost=true\/(runR P sql ⟨false,[]⟩).1≠reply then(nobytes,false) else(digN (HS wide) (runR P sql ⟨false,[]⟩).2.1.d (runR P sql ⟨false,[]⟩).2.1.t,true):=by
  unfold Sq.checkR;rw[hn]
 obtain⟨res,hres⟩:∃y,y=Sq.checkR (HS wide) wide root sql reply proof:=⟨_,rfl⟩;rw[<-hres] at ha ⊢;have HK:=hd hk;have hg:=hd he;have HT:=hd hT;have HR:=hd hR;clear hk he hres hn hT hR
 by_cases hroot:digN (HS wide) P.d P.t=root
 ·have hA:=hP.ok hroot;rw[if_neg (by simp[hroot])] at ha;have hI:Sq.tameN 100 (runR P sql ⟨false,[]⟩).2.1.d (runR P sql ⟨false,[]⟩).2.1.t:=(Sq.jQdg (by decide) hA hP.tame (Sq.jQbo hP.tame.t (Sq.TameR.none 100) sql)).1.t;have hm:∀ev cv tb w',NodeAt (fun _=>False) w' P.d P.t ev cv->TrAt tb w' ⟨false,[]⟩->Tbl w'->Low tb->Calls Tryz.prog 43 #[.agg (headCells P.head ev cv).toArray,.string sql,.pointer (some ⟨tb,0,none⟩)] w' (RunSays (fun _=>False) tb (runR P sql ⟨false,[]⟩) w'):=fun ev cv tb w' hn' ht hT' hL=>jQnV 100 (by decide) (by decide) P ev cv sql tb _ w' hn' hP.tame hP.few ht (Sq.TameR.none 100) hT' hL (fun _ _ h=>h) hA
  have hl:∀ev cv w',NodeAt (fun _=>False) w' (runR P sql ⟨false,[]⟩).2.1.d (runR P sql ⟨false,[]⟩).2.1.t ev cv->Rnd w'->Calls Tryz.prog 37 #[.agg (headCells (runR P sql ⟨false,[]⟩).2.1.head ev cv).toArray,.int .i64 wide] w' fun e w''=>e=.returned (.string (digN (HS wide) (runR P sql ⟨false,[]⟩).2.1.d (runR P sql ⟨false,[]⟩).2.1.t))/\Below w'.heap.size w' w'':=fun ev cv w' hn' hR'=>(jQaR wide h2 100 _ _ ev cv w' hn' hI hR').2
  have he:=hg.o;rw[hroot] at he;have hg:=hd he;generalize digN (HS wide) (runR P sql ⟨false,[]⟩).2.1.d (runR P sql ⟨false,[]⟩).2.1.t=dg at *;generalize runR P sql ⟨false,[]⟩=rr at *;obtain⟨rep,Y,tr2⟩:=rr;simp only at hl ha;have hF:=hd hm;have hK:=hd hl;have hp:=hd ha;clear hm hl he hI hA hroot ha hP;generalize hph:P.head=ph at *;go_enter Tryz.func38,Tryz.ntmps38;go_wp2_with fail;refine(HK.o _).mono ?_;rintro e w1 ⟨e1,e2,e3,k1,k2,k3,rfl,hn1,hb1⟩;obtain⟨V,hV⟩:∃V:World,V=w1.alloc (.cells #[.bool ph.inner,.slice e1 e2 e3,.slice k1 k2 k3,.int .i64 ph.least,.int .i64 ph.rows,.string ph.sl,.int .i64 ph.num] 60):=⟨_,rfl⟩;have hi:Below w1.heap.size w1 V:=by rw[hV];exact(bR).alloc (nR) _
  have hw:V.heap[w1.heap.size]?=some (.cells #[.bool ph.inner,.slice e1 e2 e3,.slice k1 k2 k3,.int .i64 ph.least,.int .i64 ph.rows,.string ph.sl,.int .i64 ph.num] 60):=by rw[hV];exact jQi _ _
  have hf:=hd (hb1.trans (hi.mono hb1.size));have ho:=hd (hn1.below hi);have hH:=hd hw;have hW:=jQf hw;have h6:=hb1.size;obtain⟨s0,s1,s2,s3,s4,s5,s6⟩:=jQs hw;clear hn1 hb1 hi hw HK;go_wp2_with fail;rw[<-hV];clear hV;have he:=hg.o (.slice e1 e2 e3) (.slice k1 k2 k3) V ho.o (HR.o.below hf.o);rw[jQc] at he;refine he.mono ?_;clear he;rintro e w2 ⟨rfl,hb2⟩;have hu:=(hb2.block _ hW).trans hH.o;have hr:=hd (hf.o.trans (hb2.mono hf.o.size));have hM:=hd (ho.o.below hb2);have hZ:=jQf hu;have hG:=hd hu;clear s0 s1 s2 s3 s4 s5 s6;obtain⟨s0,s1,s2,s3,s4,s5,s6⟩:=jQs hu;clear hb2 hu hH ho hf hg;obtain⟨U,hU⟩:∃U:World,U=w2.alloc (.cells #[.bool false,.slice none 0 0] 74):=⟨_,rfl⟩;have hx:Below w2.heap.size w2 U:=by rw[hU];exact(bR).alloc (nR) _
  have hy:U.heap[w2.heap.size]?=some (.cells #[.bool false,.slice none 0 0] 74):=by rw[hU];exact jQi _ _
  have hB:=(hx.block _ hZ).trans hG.o;have hE:=hd (TrAt.new hy);have hD:=hd (hM.o.below hx);have hq:=hd (hr.o.trans (hx.mono hr.o.size));have h5:=jQf hy;have h3:=jQf hB;have hC:=hr.o.size;clear hx hy hB hM hG;go_wp2_with fail;rw[<-hU];clear hU;have hj:Low w2.heap.size:=Low.of HT.o HR.o hC;have hm:=hF.o (.slice e1 e2 e3) (.slice k1 k2 k3) w2.heap.size U hD.o hE.o (HT.o.below hq.o) hj;rw[jQc] at hm;refine hm.mono ?_;clear hm;rintro e w3 ⟨ev3,cv3,rfl,hn3,ht3,hf3⟩;simp only at hn3 ht3 ⊢;obtain⟨⟨g1,g2,g3,hev⟩,j1,j2,j3,hcv⟩:=hn3.slices;subst hev hcv;generalize hyh:Y.head=yh at *;rw[jQc];have hl:=hK.o (.slice g1 g2 g3) (.slice j1 j2 j3);rw[jQc] at hl;have hz:=hd hl;obtain⟨X,hX⟩:∃X:World,X=w3.alloc (.cells #[.bool yh.inner,.slice g1 g2 g3,.slice j1 j2 j3,.int .i64 yh.least,.int .i64 yh.rows,.string yh.sl,.int .i64 yh.num] 60):=⟨_,rfl⟩;have hv:Below w3.heap.size w3 X:=by rw[hX];exact(bR).alloc (nR) _
  have hJ:X.heap[w3.heap.size]?=some (.cells #[.bool yh.inner,.slice g1 g2 g3,.slice j1 j2 j3,.int .i64 yh.least,.int .i64 yh.rows,.string yh.sl,.int .i64 yh.num] 60):=by rw[hX];exact jQi _ _
  have hs:Hid (Below w.heap.size w X):=(hq.o.trans (hf3.below.mono hC)).trans (hv.mono (Nat.le_trans hq.o.size hf3.below.size));have hS:=hd (hn3.below hv);have hQ:Hid (Rnd X):=((HR.o.below hq.o).tfrm hj hf3).below hv;obtain⟨tv,htb,-⟩:=ht3.row;have hY:w3.cell? ⟨w2.heap.size,0,none⟩=some (.bool tr2.lost):=by rw[jQb htb];rfl
  have h4:=jQf htb;have h0:=jQf hJ;clear s0 s1 s2 s3 s4 s5 s6;obtain⟨lost,hlost⟩:∃y,y=tr2.lost:=⟨_,rfl⟩;have ha:=hp.o;rw[<-hlost] at hY ha;have hc:=hd ha;clear hn3 ht3 hf3 hv hJ htb hl hj hlost ha hK hF hp hE hD hq hyh;cases lost
  ·by_cases hrep:rep=reply
   ·subst hrep;have HE:Hid (res=(dg,true)):=by show _=_;rw[hc.o];simp
    clear hc;go_wp2_with fail;rw[<-hX];clear hX;refine(hz.o X hS.o hQ.o).mono ?_;rintro e w4 ⟨rfl,hb4⟩;have hN:=hd (hs.o.trans (hb4.mono hs.o.size));clear hb4;go_wp2;go_ret2;exact⟨by rw[HE.o];rfl,hN.o⟩
   ·have HE:Hid (res=(nobytes,false)):=by show _=_;rw[hc.o];simp[hrep]
    have hO:(rep.toList==reply.toList)=false:=by
     simp only[beq_eq_false_iff_ne,ne_eq];intro e;apply hrep;exact jQhh e
    clear hc;go_wp2;go_ret2;rw[<-hX];exact⟨by rw[HE.o];rfl,hs.o⟩
  ·have HE:Hid (res=(nobytes,false)):=by show _=_;rw[hc.o];simp
   clear hc;go_wp2;go_ret2;rw[<-hX];exact⟨by rw[HE.o];rfl,hs.o⟩
 ·have HE:Hid (res=(nobytes,false)):=by show _=_;rw[ha,if_pos hroot]
  obtain⟨dg,hdg0⟩:∃y,y=digN (HS wide) P.d P.t:=⟨_,rfl⟩;have he:=hg.o;rw[<-hdg0] at he hroot;have hg:=hd he
  have hO:(dg.toList==root.toList)=false:=by
   simp only[beq_eq_false_iff_ne,ne_eq];intro e;apply hroot;exact jQhh e
  clear ha he hdg0 hP;generalize hph:P.head=ph at *;go_enter Tryz.func38,Tryz.ntmps38;go_wp2_with fail;refine(HK.o _).mono ?_;rintro e w1 ⟨e1,e2,e3,k1,k2,k3,rfl,hn1,hb1⟩;obtain⟨V,hV⟩:∃V:World,V=w1.alloc (.cells #[.bool ph.inner,.slice e1 e2 e3,.slice k1 k2 k3,.int .i64 ph.least,.int .i64 ph.rows,.string ph.sl,.int .i64 ph.num] 60):=⟨_,rfl⟩;have hi:Below w1.heap.size w1 V:=by rw[hV];exact(bR).alloc (nR) _
  have hf:=hd (hb1.trans (hi.mono hb1.size));have ho:=hd (hn1.below hi);clear hn1 hb1 hi HK;go_wp2_with fail;rw[<-hV];clear hV;have he:=hg.o (.slice e1 e2 e3) (.slice k1 k2 k3) V ho.o (HR.o.below hf.o);rw[jQc] at he;refine he.mono ?_;clear he;rintro e w2 ⟨rfl,hb2⟩;have hr:=hd (hf.o.trans (hb2.mono hf.o.size));clear hb2 ho hf hg;go_wp2;go_ret2;exact⟨by rw[HE.o];rfl,hr.o⟩
end
namespace Sq
theorem jQrp {wide:Nat}(hw:wide<=32):∀(n:Nat) (r:Rd),(headN n (readN wide n r).1).sl.size<=32
 | 0,r=>by
  show(takeV (takeN r 1) wide).size<=32
  have:=jQc0 (takeN r 1) wide
  omega
 | n+1,r=>by
  show(NodeF.hd (readF wide (headN n) (shutN n) (readN wide n) r).1).sl.size<=32
  unfold readF
  split
  ·have:=jQc0 (takeN r 1) wide
   show(takeV (takeN r 1) wide).size<=32
   omega
  ·split
   ·exact zR
   ·split
    ·exact zR
    ·exact zR
theorem jQdE:∀(n:Nat) (sl:ByteArray) (l q:Int),sl.size<=32->0<=q->tameN 0 n (shutN n sl l q)
 | 0,sl,l,q,h,hq=>⟨⟨zR,zR,fun c hc=>(by cases hc),Int.le_refl _,hq,fun hi=>(by cases hi),fun _=>⟨hq,rfl⟩,h,fun e he=>(by cases he)⟩,rfl⟩
 | n+1,sl,l,q,h,hq=>⟨zR,zR,fun c hc=>(by cases hc),Int.le_refl _,hq,fun hi=>(by cases hi),fun _=>⟨hq,rfl⟩,h,fun e he=>(by cases he)⟩
theorem jQhT {n wide:Nat}(hw:wide<=32)(hr:∀r,sizedN n 2 (readN wide n r).1=true->tameN 0 n (readN wide n r).1) :
  ∀(k:Nat) (r:Rd),(∀c∈(kidsR (headN n) (shutN n) (readN wide n) k r).1,sizedN n 2 c=true)->∀c∈(kidsR (headN n) (shutN n) (readN wide n) k r).1,tameN 0 n c
 | 0,r,_,c,hc=>by cases hc
 | k+1,r,hs,c,hc=>by
  rw[jQcK] at hs hc;simp only at hs hc;rcases List.mem_cons.1 hc with rfl | hc
  ·have h1:=hs _ (List.mem_cons_self ..);unfold kidFix at h1 ⊢
   split
   ·exact jQdE n _ _ _ (jQrp hw n _) (num1 _).1
   ·rename_i hsh;rw[if_neg hsh] at h1
    split
    ·rename_i h2;rw[if_pos h2] at h1;exact hr _ h1
    ·rename_i h2;rw[if_neg h2] at h1;exact hr _ h1
  ·exact jQhT hw hr k _ (fun c hc=>hs c (List.mem_cons_of_mem _ hc)) c hc
theorem jQqT (k:Nat)(r:Rd):∀e∈(entsR k r).1,e.row.size<=300:=by
 induction k generalizing r with
 | zero=>intro e he;cases he
 | succ k ih =>
  intro e he;rcases List.mem_cons.1 he with rfl | he
  ·have:=jQqi (takeN r 5)
   show(txtV (takeN r 5)).size<=300
   omega
  ·exact ih _ e he
theorem jQjA {wide:Nat}(hw:wide<=32):∀(n:Nat) (r:Rd) (l:Nat),sizedN n l (readN wide n r).1=true->tameN 0 n (readN wide n r).1
 | 0,r,l,h=>by
  have:=jQc0 (takeN r 1) wide
  exact jQdE 0 (takeV (takeN r 1) wide) 0 0 (by omega) (Int.le_refl _)
 | n+1,r,l,h=>by
  have hk:∀r,sizedN n 2 (readN wide n r).1=true->tameN 0 n (readN wide n r).1:=fun r h=>jQjA hw n r 2 h
  have h':sizedF (sizedN n 2) l (readF wide (headN n) (shutN n) (readN wide n) r).1=true:=h;show tameN 0 (n+1) (readF wide (headN n) (shutN n) (readN wide n) r).1;unfold readF at h' ⊢
  split
  ·have:=jQc0 (takeN r 1) wide
   exact jQdE (n+1) (takeV (takeN r 1) wide) 0 0 (by omega) (Int.le_refl _)
  ·rename_i c0;rw[if_neg c0] at h'
   split
   ·rename_i c1;rw[if_pos c1] at h';unfold sizedF at h';rw[jQjT] at h';simp only[Bool.false_eq_true,if_false,Bool.and_eq_true,decide_eq_true_eq] at h';have h4:(entsR (numV (takeN r 1) 1).toNat (takeN (takeN r 1) 1)).1.length<=4:=h'.1.2;exact⟨h4,zR,fun c hc=>(by cases hc),Int.le_refl _,Int.natCast_nonneg _,fun hi=>(by cases hi),fun _=>⟨Int.le_refl _,rfl⟩,zR,jQqT _ _⟩
   ·rename_i c1;rw[if_neg c1] at h'
    split
    ·rename_i c2;rw[if_pos c2] at h';unfold sizedF at h';rw[jQhH] at h';simp only[Bool.false_eq_true,if_false,Bool.and_eq_true,decide_eq_true_eq,List.all_eq_true] at h';have h4:(kidsR (headN n) (shutN n) (readN wide n) (numV (takeN r 1) 1).toNat (takeN (takeN r 1) 1)).1.length<=4:=h'.1.2;have h5:=jQhT hw hk _ _ h'.2;have h6:=(jQa9 (f:=headN n) (mk:=shutN n) (jQcC n) (fun r=>jQai wide n r) (numV (takeN r 1) 1).toNat (takeN (takeN r 1) 1)).2.2.2.2.2;exact⟨zR,h4,h5,Int.le_refl _,h6,fun _=>⟨rfl,rfl⟩,fun hi=>(by cases hi),zR,fun e he=>(by cases he)⟩
    ·exact jQdE (n+1) nobytes 0 0 (zR) (Int.le_refl _)
theorem jQki:∀(k:Nat) (r:Rd),(entsR k r).2.short=false->(entsR k r).2.rest.size+6*k<=r.rest.size
 | 0,r,_=>by show r.rest.size+0<=_;omega
 | k+1,r,h=>by
  have h0:(entsR k (txtN (takeN r 5))).2.short=false:=h;have h1:=jQki k _ h0;have h2:=jQcP k h0;have h3:(takeN (takeN r 5) 1).short=false:=jQQ h2;have h4:=jQbB (k:=1) h3;have h5:=jQbB (k:=5) (jQQ h3);have h6:=jQU (takeN (takeN r 5) 1) (numV (takeN r 5) 1);have h7:(txtN (takeN r 5)).rest.size<=(takeN (takeN r 5) 1).rest.size:=h6;have e4:(takeN (takeN r 5) ((1:Nat):Int))=takeN (takeN r 5) 1:=rfl;have e5:(takeN r ((5:Nat):Int))=takeN r 5:=rfl;rw[e4] at h4;rw[e5] at h5
  show(entsR k (txtN (takeN r 5))).2.rest.size+6*(k+1)<=_
  omega
theorem jQn4:∀(n:Nat) (s:ByteArray) (l q:Int),countN n (shutN n s l q)=0
 | 0,_,_,_=>rfl
 | _+1,_,_,_=>rfl
theorem jQfR {n wide:Nat}(hr:∀r,(readN wide n r).2.short=false->sizedN n 2 (readN wide n r).1=true->8*countN n (readN wide n r).1+(readN wide n r).2.rest.size<=r.rest.size+6) :
  ∀(k:Nat) (r:Rd),(kidsR (headN n) (shutN n) (readN wide n) k r).2.short=false->(∀c∈(kidsR (headN n) (shutN n) (readN wide n) k r).1,sizedN n 2 c=true)->8*((kidsR (headN n) (shutN n) (readN wide n) k r).1.map (countN n)).sum+(kidsR (headN n) (shutN n) (readN wide n) k r).2.rest.size<=r.rest.size
 | 0,r,_,_=>by show 8*0+r.rest.size<=_;omega
 | k+1,r,h,hs=>by
  have ha:=jQfJ wide n;rw[jQcK] at h hs ⊢;simp only at h hs ⊢;have hb:=(jQbY (f:=headN n) (mk:=shutN n) ha k).stay _ h;obtain⟨h1,h2⟩:=jQnO hb;have h3:=jQfR hr k _ h (fun c hc=>hs c (List.mem_cons_of_mem _ hc));have h4:=hs _ (List.mem_cons_self ..);have hd:=jQnP (headN n) (shutN n) (numV r 5) (numV (takeN r 5) 1) (readN wide n (takeN (takeN r 5) 1));have h5:(takeN (takeN r 5) 1).short=false:=ha.stay _ h1;have h6:=jQbB (k:=1) h5;have h7:=jQbB (k:=5) (jQQ h5);have e4:(takeN (takeN r 5) ((1:Nat):Int))=takeN (takeN r 5) 1:=rfl;have e5:(takeN r ((5:Nat):Int))=takeN r 5:=rfl;rw[e4] at h6;rw[e5] at h7
  have h8:8*countN n (kidFix (headN n) (shutN n) (numV r 5) (numV (takeN r 5) 1) (readN wide n (takeN (takeN r 5) 1))).1+(readN wide n (takeN (takeN r 5) 1)).2.rest.size<=(takeN (takeN r 5) 1).rest.size+6:=by
   rcases h2 with⟨s1,s2⟩ | ⟨s1,s2,s3,s4⟩
   ·rw[s2,jQn4]
    have:=ha.down (takeN (takeN r 5) 1)
    omega
   ·rw[s4] at h4 ⊢;exact hr _ h1 h4
  rw[List.map_cons,List.sum_cons];rw[hd] at h3;omega
theorem jQid {wide:Nat}:∀(n:Nat) (r:Rd) (l:Nat),(readN wide n r).2.short=false->sizedN n l (readN wide n r).1=true->8*countN n (readN wide n r).1+(readN wide n r).2.rest.size<=r.rest.size+6
 | 0,r,l,h,_=>by
  have h1:=jQp r 1;have h2:=jQp (takeN r 1) wide;show 8*0+(takeN (takeN r 1) wide).rest.size<=_;omega
 | n+1,r,l,h,hs=>by
  have h':sizedF (sizedN n 2) l (readF wide (headN n) (shutN n) (readN wide n) r).1=true:=hs;have g':(readF wide (headN n) (shutN n) (readN wide n) r).2.short=false:=h;show 8*countF (countN n) (readF wide (headN n) (shutN n) (readN wide n) r).1+(readF wide (headN n) (shutN n) (readN wide n) r).2.rest.size<=_;have h1:=jQp r 1;unfold readF at h' g' ⊢
  split
  ·have h2:=jQp (takeN r 1) wide;show 8*0+(takeN (takeN r 1) wide).rest.size<=_;omega
  ·rename_i c0;rw[if_neg c0] at h' g';have h4:=jQp (takeN r 1) 1;have h0:=(jQgh c0).1
   split
   ·rename_i c1;rw[if_pos c1] at h' g';unfold sizedF at h';rw[jQjT] at h';simp only[Bool.false_eq_true,if_false,Bool.and_eq_true,decide_eq_true_eq] at h';have h5:(entsR (numV (takeN r 1) 1).toNat (takeN (takeN r 1) 1)).1.length<=4:=h'.1.2;have h6:=jQki _ _ g';have h7:=(jQb5 (numV (takeN r 1) 1).toNat (takeN (takeN r 1) 1)).1;have h8:=jQbB (k:=1) (jQcP _ g');have e8:(takeN (takeN r 1) ((1:Nat):Int))=takeN (takeN r 1) 1:=rfl;rw[e8] at h8;show 8*((entsR (numV (takeN r 1) 1).toNat (takeN (takeN r 1) 1)).1.length+0)+(entsR (numV (takeN r 1) 1).toNat (takeN (takeN r 1) 1)).2.rest.size<=_;rw[h7] at h5 ⊢;omega
   ·rename_i c1;rw[if_neg c1] at h' g'
    split
    ·rename_i c2;rw[if_pos c2] at h' g';unfold sizedF at h';rw[jQhH] at h';simp only[Bool.false_eq_true,if_false,Bool.and_eq_true,decide_eq_true_eq,List.all_eq_true] at h';have h6:=jQfR (fun r a b=>jQid n r 2 a b) _ _ g' h'.2;show 8*(0+((kidsR (headN n) (shutN n) (readN wide n) (numV (takeN r 1) 1).toNat (takeN (takeN r 1) 1)).1.map (countN n)).sum)+(kidsR (headN n) (shutN n) (readN wide n) (numV (takeN r 1) 1).toNat (takeN (takeN r 1) 1)).2.rest.size<=_;omega
    ·show 8*0+(takeN r 1).rest.size<=_;omega
theorem jQmz {wide:Nat}(hw:wide<=32){text:ByteArray}{P:NTree}(h:readTop wide text=some P):TameT 100 800000000 P/\countN P.d P.t<=900:=by
 unfold readTop at h
 split at h
 ·rename_i h1
  split at h
  ·rename_i h2;simp only[Bool.and_eq_true] at h2
   have hb:(readN wide text.size ⟨text,false⟩).2.short=false:=by
    have:=h2.1
    unfold doneR at this;simp only[Bool.and_eq_true] at this;simpa using this.2
   have ha:sizedN text.size (if(headN text.size (readN wide text.size ⟨text,false⟩).1).inner then 2 else 0) (readN wide text.size ⟨text,false⟩).1=true:=by
    have:=h2.2
    unfold canBeN at this;simp only[Bool.and_eq_true] at this;exact this.1.1
   have h3:=jQjA hw text.size ⟨text,false⟩ _ ha;have h4:=jQid text.size ⟨text,false⟩ _ hb ha;have h5:=jQai wide text.size ⟨text,false⟩;have e:(⟨text,false⟩:Rd).rest.size=text.size:=rfl;obtain rfl:=Option.some.inj h;refine⟨⟨tameN.mono (by decide) h3,?_⟩,?_⟩
   ·have h6:=h5.2.2.2
    show(headN text.size (readN wide text.size ⟨text,false⟩).1).rows<=_
    omega
   ·show countN text.size (readN wide text.size ⟨text,false⟩).1<=900;omega
  ·cases h
 ·cases h
theorem jQoB {H:ByteArray->ByteArray}{wide:Nat}(hH:∀b,(H b).size=wide)(hw1:1<=wide)(hw2:wide<=32){X:NTree}{x:Tree}(hr:repT X x)(hok:x.ok)(hfine:fine x.d x.t)(hpos:posN X.d X.t)(sql:ByteArray)(hl:(decideR X sql ⟨false,[]⟩).2.lost=false){P:NTree}(hP:readTop wide (writeN H (runR X sql ⟨false,[]⟩).2.2 X.d X.t)=some P) :
  (decideR P sql ⟨false,[]⟩).1=(decideR X sql ⟨false,[]⟩).1:=by
 obtain⟨n,t,y,rfl,rfl,hrep⟩:=hr.cases
 dsimp only at hfine hpos
 have hW:=jQmv n t y hrep hfine hpos;have hf:=hW.whole;generalize htr:(runR ⟨n,t⟩ sql ⟨false,[]⟩).2.2=tr at *;obtain⟨p,hp,hp1,hp2⟩:=jQek hH hw1 tr n t (writeN H tr n t).size nobytes hW (by rw[jQkC];exact nR);rw[jQkC] at hp;have hb:readTop wide (writeN H tr n t)=some P:=hP
 have hg:P=⟨(writeN H tr n t).size,p⟩:=by
  unfold readTop at hb;rw[hp] at hb
  split at hb
  ·split at hb
   ·exact(Option.some.inj hb).symm
   ·cases hb
  ·cases hb
 subst hg;cases hT:touchedR tr (headN n t) with
 | true =>
  obtain⟨q1,q2⟩:=hp1 hT;have he:RT H (apart tr.nums) ⟨(writeN H tr n t).size,p⟩ ⟨n,t⟩:=q1;have hS:within tr.nums (runR ⟨n,t⟩ sql ⟨false,[]⟩).2.2:=by rw[htr];exact fun k hk=>hk
  have hc:=jQeX he sql ⟨false,[]⟩ ⟨false,[]⟩ rfl hl (hS.of (jQcl _ (⟨n,t⟩,(decideR ⟨n,t⟩ sql ⟨false,[]⟩).2)));exact jQdc he sql _ _ hc
 | false =>
  have ha:(parse sql).1≠0:=by
   intro h0;have h1:=jQh0 (X:=⟨n,t⟩) h0 hf.2;rw[htr] at h1;unfold touchedR at hT;rw[List.any_eq_false] at hT;exact hT _ h1 (by simp[NTree.head])
  unfold decideR;rw[if_pos (by simpa using ha),if_pos (by simpa using ha)]
end Sq
end Go.Proofs.YtahpihjialbanaaGreatDoor
