import Derived.BigRegion
import Derived.Deep.CutRange
import Derived.Test.YtahpihjialbanaaGreatDoorQae
import Derived.Test.YtahpihjialbanaaGreatDoorQau
set_option linter.all false
set_option maxRecDepth 100000
set_option maxHeartbeats 2000000
namespace Go.Proofs.YtahpihjialbanaaGreatDoor
open Sq (jBi)
variable {B b:Nat}{W w:World}{a0 a1 a2 a3 a4 a5 a6:Value}{α:Type}
section
open Go.RowKit
namespace Sq
def iv:List Int:=[1779033703,3144134277,1013904242,2773480762,1359893119,2600822924,528734635,1541459225]
def blocks (l:List UInt8):Nat->List Int
 | 0=>iv
 | k+1=>mixed (blocks l k) (sched l (64*k))
def by4 (x:Int):List UInt8:=[UInt8.ofNat (IntKind.u8.wrap (x / 16777216)).toNat,UInt8.ofNat (IntKind.u8.wrap (x / 65536)).toNat,UInt8.ofNat (IntKind.u8.wrap (x / 256)).toNat,UInt8.ofNat (IntKind.u8.wrap x).toNat]
def jFc (m:List Int):List UInt8:=m.flatMap by4
def whole (t:BA):BA:=⟨(jFc (blocks (jBi t) ((jBi t).length / 64))).toArray⟩
theorem qAX (s ws:List Int):(mixed s ws).length=8:=rfl
theorem jJ1 (l:List UInt8):∀k,(blocks l k).length=8
 | 0=>rfl
 | _+1=>rfl
theorem eight {m:List Int}(h:m.length=8):m=[at0 m 0,at0 m 1,at0 m 2,at0 m 3,at0 m 4,at0 m 5,at0 m 6,at0 m 7]:=by
 match m,h with
 | [a,b,c,d,e,f,g,i],_=>rfl
theorem jSL (m:List Int)(k:Nat)(h:k<m.length):jFc (m.take (k+1))=jFc (m.take k)++by4 (at0 m k):=by
 unfold jFc at0;rw[cI h,cN,cz h];simp
theorem jTU (m:List Int):(jFc m).length=4*m.length:=by
 unfold jFc
 induction m with
 | nil=>rfl
 | cons x r ih=>rw[cK,cg,ih,cG];show 4+_=_;omega
end Sq
theorem Sq.jFB (y:Int):((UInt8.ofNat (IntKind.u8.wrap y).toNat).toNat:Int)=IntKind.u8.wrap y:=by
 rw[IntKind.wrap_u8'];exact Sq.jLW y
theorem qAK {s0 s1 s2 s3 s4 s5 s6 s7:Int}(m0 m1 m2 m3 m4 m5 m6 m7:Int)(h:w.heap[b]?=some (.cells (bZ [s0,s1,s2,s3,s4,s5,s6,s7]) 144)):((((((((w.setCell ⟨b,0,none⟩ (.int .u32 m0)).setCell ⟨b,1,none⟩ (.int .u32 m1)).setCell ⟨b,2,none⟩ (.int .u32 m2)).setCell ⟨b,3,none⟩ (.int .u32 m3)).setCell ⟨b,4,none⟩ (.int .u32 m4)).setCell ⟨b,5,none⟩ (.int .u32 m5)).setCell ⟨b,6,none⟩ (.int .u32 m6)).setCell ⟨b,7,none⟩ (.int .u32 m7)).heap[b]?=some (.cells (bZ [m0,m1,m2,m3,m4,m5,m6,m7]) 144):=by
 have e:=jQf (jQf (jQf (jQf (jQf (jQf (jQf (jQf (h) (o:=0) (.int .u32 m0)) (o:=1) (.int .u32 m1)) (o:=2) (.int .u32 m2)) (o:=3) (.int .u32 m3)) (o:=4) (.int .u32 m4)) (o:=5) (.int .u32 m5)) (o:=6) (.int .u32 m6)) (o:=7) (.int .u32 m7);rw[jGv,jGv,jGv,jGv,jGv,jGv,jGv,jGv] at e;exact e
theorem jYA (m0 m1 m2 m3 m4 m5 m6 m7:Int)(hb:Below B W w)(h:B<=b):Below B W ((((((((w.setCell ⟨b,0,none⟩ (.int .u32 m0)).setCell ⟨b,1,none⟩ (.int .u32 m1)).setCell ⟨b,2,none⟩ (.int .u32 m2)).setCell ⟨b,3,none⟩ (.int .u32 m3)).setCell ⟨b,4,none⟩ (.int .u32 m4)).setCell ⟨b,5,none⟩ (.int .u32 m5)).setCell ⟨b,6,none⟩ (.int .u32 m6)).setCell ⟨b,7,none⟩ (.int .u32 m7)) :=
 cj (B:=B) (cj (B:=B) (cj (B:=B) (cj (B:=B) (cj (B:=B) (cj (B:=B) (cj (B:=B) (cj (B:=B) hb h _) h _) h _) h _) h _) h _) h _) h _
theorem jZv (t:BA)(w:World)(ht:t.size<=1000000)(hR:Rnd w) :
  Calls Tryz.prog 58 #[.string t] w fun e w'=>e=.returned (.string (Sq.whole t))/\Below w.heap.size w w':=by
 have hQ:∀w',Below w.heap.size w w'->Rnd w':=fun w' hb=>hR.below hb
 have HR:=hd hQ;have hT:=Sq.jRP t;have HW:Hid (Sq.whole t=⟨(Sq.jFc (Sq.blocks (jBi t) ((jBi t).length / 64))).toArray⟩):=rfl;obtain⟨l,hl⟩:∃x,x=jBi t:=⟨_,rfl⟩;have hw:=HW.o;rw[<-hl] at hT hw;have h3:=hd hw;have HL:=hd hl;obtain⟨Hr,Hs,Ht⟩:=hT;clear hR hQ hw HW hl;go_enter Tryz.func58,Tryz.ntmps58;go_wp2_with fail;refine(jYt t _ ht).mono ?_;rintro e w1 ⟨v1,rfl,Hh,Hc⟩;rw[<-HL.o] at Hh;obtain⟨ao,Ho,rfl⟩:=Hh.slice;have h7:=Hc.size;have hE:=hd Hh;have hN:=hd Hc;clear Hh Hc;have Ha:l.length<=1000100:=by omega
 go_wp2
 go_loopw [5] (fun i wr=>∃k q:Nat,Hid (q=64*k)/\q<=l.length/\i=.int .i64 (q:Int)/\wr.heap[w1.heap.size]?=some (.cells (bZ (Sq.blocks l k)) 144)/\Below w1.heap.size w1 wr) (fun i _=>l.length-(intOf i).toNat)
 case atStart=>exact⟨0,0,rfl,zR,rfl,dJ w1 _,bA⟩
 case round =>
  obtain⟨k,q,hq,hk,rfl,hc,hb⟩:=hrel;obtain⟨wo,rfl⟩:∃wo:World,wo=wr:=⟨_,rfl⟩;have hh:=jQe hc;have hn:=hd hc;have HB:=hd hb;clear hc hb
  by_cases hlt:q<l.length
  ·have i1:(q:Int)<(l.length:Int):=by omega
   have h6:q+64<=l.length:=by have:=hq.o;omega
   obtain⟨s0,s1,s2,s3,s4,s5,s6,s7,hs⟩:∃s0 s1 s2 s3 s4 s5 s6 s7,Sq.blocks l k=[s0,s1,s2,s3,s4,s5,s6,s7]:=⟨_,_,_,_,_,_,_,_,Sq.eight (Sq.jJ1 l k)⟩;have hc:=hn.o;rw[hs] at hc;have hg:=hd hc;have c0:=jQB hc 0 (by simp);have c1:=jQB hc 1 (by simp);have c2:=jQB hc 2 (by simp);have c3:=jQB hc 3 (by simp);have c4:=jQB hc 4 (by simp);have c5:=jQB hc 5 (by simp);have c6:=jQB hc 6 (by simp);have c7:=jQB hc 7 (by simp);simp only[Sq.at0,List.getElem?_cons_zero,List.getElem?_cons_succ,Option.getD_some] at c0 c1 c2 c3 c4 c5 c6 c7;have HS:=hd hs;have hO:Hid (Sq.blocks l (k+1)=Sq.mixed [s0,s1,s2,s3,s4,s5,s6,s7] (Sq.sched l q)):=by show Sq.mixed (Sq.blocks l k) (Sq.sched l (64*k))=_;rw[hs,<-hq.o]
   have hp:(Sq.sched l q).length=64:=Sq.jH8 _ (Sq.jHv _ _ _) _;obtain⟨sc,Hk⟩:∃x,x=Sq.sched l q:=⟨_,rfl⟩;have hG:=hO.o;rw[<-Hk] at hG hp;have hD:=hd hG;have h1:=hd Hk;have h2:=hd hp;obtain⟨m0,m1,m2,m3,m4,m5,m6,m7,hm⟩:∃s0' s1' s2' s3' s4' s5' s6' s7',Sq.mixed [s0,s1,s2,s3,s4,s5,s6,s7] sc=[s0',s1',s2',s3',s4',s5',s6',s7']:=⟨_,_,_,_,_,_,_,_,Sq.eight (Sq.qAX _ _)⟩;have HM:=hd hm;clear hc hs hG hO Hk hp hm hn;go_wp2
   go_region_with (first
    | (go_at_call 87;refine(jWP l _ q _ (((hE.o.base zR).below HB.o).below (cB bR)) (by omega) (by omega)).mono ?_;rintro e w2 ⟨rfl,Hn⟩;rw[<-h1.o];have he:Below wo.heap.size wo w2:=(cB bR).trans Hn;have k0:=((aD he).1 w1.heap.size 0 hh).trans c0;have k1:=((aD he).1 w1.heap.size 1 hh).trans c1;have k2:=((aD he).1 w1.heap.size 2 hh).trans c2;have k3:=((aD he).1 w1.heap.size 3 hh).trans c3;have k4:=((aD he).1 w1.heap.size 4 hh).trans c4;have k5:=((aD he).1 w1.heap.size 5 hh).trans c5;have k6:=((aD he).1 w1.heap.size 6 hh).trans c6;have k7:=((aD he).1 w1.heap.size 7 hh).trans c7;have hU:=he.size;have hL:w1.heap.size<w2.heap.size:=(by omega);have hB:=hd he;clear Hn he)
    | (go_at_call 86;refine(qAY s0 s1 s2 s3 s4 s5 s6 s7 sc _ h2.o (HR.o _ (hN.o.trans ((HB.o.trans (hB.o.mono (by omega))).mono (by omega))))).mono ?_;rintro e w3 ⟨rfl,Hi⟩;rw[HM.o];have ha:=(Hi.block w1.heap.size hL).trans ((hB.o.block w1.heap.size hh).trans hg.o);have n0:=jQB ha 0 (by simp);have n1:=jQB ha 1 (by simp);have n2:=jQB ha 2 (by simp);have n3:=jQB ha 3 (by simp);have n4:=jQB ha 4 (by simp);have n5:=jQB ha 5 (by simp);have n6:=jQB ha 6 (by simp);have n7:=jQB ha 7 (by simp);have f0:=jQd ha 0;have f1:=jQd ha 1;have f2:=jQd ha 2;have f3:=jQd ha 3;have f4:=jQd ha 4;have f5:=jQd ha 5;have f6:=jQd ha 6;have f7:=jQd ha 7;have Hb:=jQe ha;have hy:=hd ha;have hV:=hd Hi;clear Hi ha;simp only[bZ,cM,dO]))
   all_goals(try go_wp2)
   all_goals
    go_roundw
    case rel =>
     refine⟨k+1,q+64,by show _=_;have:=hq.o;omega,by omega,by go_num,?_,jYA _ _ _ _ _ _ _ _ ((HB.o.trans (hB.o.mono (by omega))).trans (hV.o.mono (by omega))) nR⟩;rw[qAK _ _ _ _ _ _ _ _ hy.o,hD.o,HM.o]
    case measure=>simp[intOf];omega
  have hS:l.length / 64=k:=by have:=hq.o;omega
  have hw:=h3.o;rw[hS] at hw;have hJ:=Sq.jJ1 l k;obtain⟨m,hm⟩:∃x,x=Sq.blocks l k:=⟨_,rfl⟩;have hc:=hn.o;rw[<-hm] at hw hJ hc;have h4:=hd hw;have hz:=hd hJ;have hg:=hd hc;have hM:=HB.o.size;clear hw hJ hc hm hS hn;go_wp2
  go_loopw [6,7] (fun v i wr=>∃j:Nat,j<=8/\i=.int .i64 j/\jBm wo.heap.size wr v (Sq.jFc (m.take j))/\Below wo.heap.size wo wr) (fun _ i _=>8-(intOf i).toNat)
  case atStart=>exact⟨0,by decide,rfl,cu _ _ _ _,bR⟩
  case round =>
   obtain⟨j,hj,rfl,He,hb⟩:=hrel;obtain⟨yo,Hm,rfl⟩:=He.slice;have h9:=hb.size;have hf:=hd He;have hC:=hd hb;clear hb He
   by_cases hjt:j<8
   ·have hc:=(hC.o.block w1.heap.size hh).trans hg.o;have c0:=jQB hc j (by rw[hz.o];exact hjt);have hP:=hd (Sq.jSL m j (by rw[hz.o];exact hjt));have hp:=Sq.jTU (m.take j);have hK:(Sq.jFc (m.take j)).length<=32:=by rw[hp];have:=dW j m;omega
    obtain⟨x,hx⟩:∃x,x=Sq.at0 m j:=⟨_,rfl⟩;have hA:=hP.o;rw[<-hx] at c0 hA;obtain⟨sl,Hg⟩:∃x,x=Sq.jFc (m.take j):=⟨_,rfl⟩;have hr:=hf.o;rw[<-Hg] at hA hr hK ⊢;have hF:=hd hA;have hW:=hd hr;have i1:(j:Int)<8:=by omega
    have h8:w1.heap.size<wr.heap.size:=by omega
    obtain⟨i0,hi,Hq,Hl,hU⟩:=cV Tryz.jGj;have hH:Below wr.heap.size wr (wr.alloc (.cells #[.int .u8 (IntKind.u8.wrap (x / 16777216)),.int .u8 (IntKind.u8.wrap (x / 65536)),.int .u8 (IntKind.u8.wrap (x / 256)),.int .u8 (IntKind.u8.wrap x)] 5)).drew:=cB (bA);have hX:=hd hH;have hv:=hd (hW.o.below hH);clear hc hx hA hP hp Hg hr hf hH;go_wp2
    go_region_law (first
     | (go_loud (refine dV _ rfl (.tmp 26) (.tmp 46) 55 rfl wo.heap.size 5 i0 _ 1 1 Tryz.underlying55 hi Hq Hl hU rfl (by decide) (.slice yo sl.length Hm) sl.length (sl.map fun b:UInt8=>Value.int .u8 ((b.toNat:Nat):Int)) (by simp[Act.eval,Act.put]) hv.o ⟨wr.heap.size,0,none⟩ 4 4 [.int .u8 (IntKind.u8.wrap (x / 16777216)),.int .u8 (IntKind.u8.wrap (x / 65536)),.int .u8 (IntKind.u8.wrap (x / 256)),.int .u8 (IntKind.u8.wrap x)] (by simp[Act.eval,Act.put]) rfl (by exact jQN wr _ _ _ rfl rfl) (by intro u hu;simp at hu;rcases hu with rfl | rfl | rfl | rfl<;>rfl) (by decide) (by unfold maxLen;omega) (by omega) (by simp;omega) _ rfl ?_);intro g cap w5 Hf Hd Hp Hj;have h0:=hd Hf;have hZ:=hd Hd;clear Hf Hd Hp Hj))
    all_goals(try go_wp2)
    all_goals
     go_roundw
     case rel =>
      refine⟨j+1,by omega,by go_num,?_,hC.o.trans ((hX.o.mono h9).trans (Tch.aO hZ.o (fun k hk=>(World.ownsRow.lt hv.o k hk).1) (by simp;omega)))⟩;rw[hF.o];have ho:=h0.o;rw[<-Sq.jFB (x / 16777216),<-Sq.jFB (x / 65536),<-Sq.jFB (x / 256),<-Sq.jFB x] at ho;unfold jBm;rw[cg,cR];exact ho
     case measure=>simp[intOf];omega
   have h5:j=8:=by omega
   subst h5;have hr:=hf.o;rw[cL (by rw[hz.o];exact nR)] at hr;have hI:=jNo _ _ _ _ hr;rw[<-h4.o] at hI;have hp:(Sq.jFc (m.take 8)).length=(Sq.jFc m).length:=by rw[cL (by rw[hz.o];exact nR)]
   rw[hp];have hY:=hd hI;clear hI hr hf hp;go_wp2;rw[hY.o];go_wp2;go_ret;exact⟨rfl,hN.o.trans ((HB.o.trans (hC.o.mono hM)).mono h7)⟩
theorem Sq.jLa (t:BA):(Sq.whole t).size=32:=by
 unfold Sq.whole
 show(Sq.jFc (Sq.blocks (jBi t) ((jBi t).length / 64))).toArray.size=32
 rw[List.size_toArray,Sq.jTU,Sq.jJ1]
def Sq.jHI (t:BA)(wide:Nat):BA:=(Sq.whole t).extract 0 wide
theorem Sq.jYz (t:BA)(wide:Nat)(h:wide<=32):(Sq.jHI t wide).size=wide:=by
 unfold Sq.jHI;rw[dk,Sq.jLa];omega
theorem qCK (t:BA)(wide:Nat)(w:World)(ht:t.size<=1000000)(hw:wide<=32)(hR:Rnd w) :
  Calls Tryz.prog 46 #[.string t,.int .i64 wide] w fun e w'=>e=.returned (.string (Sq.jHI t wide))/\Below w.heap.size w w':=by
 have ha:=Sq.jLa t;have HR:=hd hR;have HE:Hid (Sq.jHI t wide=(Sq.whole t).extract 0 wide):=rfl;clear hR;go_enter Tryz.func46,Tryz.ntmps46;go_wp2_with fail;refine(jZv t _ ht HR.o).mono ?_;rintro e w1 ⟨rfl,hg⟩;have he:=HE.o;clear HE;generalize Sq.whole t=s at *;have HE:=hd he;have HB:=hd hg;have hb:=hd ha;have hc:wide<=s.size:=by omega
 have hf:s.size<=32:=by omega
 have i1:decide ((wide:Int)<0)=false:=by simp
 have i2:decide ((s.size:Int)<(wide:Int))=false:=by simp;omega
 clear he hg ha;go_wp2;go_ret;exact⟨by rw[HE.o];rfl,HB.o⟩
theorem qAI (hle hb ha:Int)(hc:BA)(ao:Option Addr)(len cap:Nat)(co:Option Addr)(cl cc:Nat)(w:World) :
  Calls Tryz.prog 83 #[.agg #[.bool false,.slice ao len cap,.slice co cl cc,.int .i64 hle,.int .i64 hb,.string hc,.int .i64 ha]] w fun e w'=>e=.returned (.int .i64 len)/\Below w.heap.size w w':=jL0 ⟨false,hle,hb,hc,ha⟩ ao len cap co cl cc w
theorem qAJ (hle hb ha:Int)(hc:BA)(ao:Option Addr)(len cap:Nat)(co:Option Addr)(cl cc:Nat)(w:World) :
  Calls Tryz.prog 83 #[.agg #[.bool true,.slice ao len cap,.slice co cl cc,.int .i64 hle,.int .i64 hb,.string hc,.int .i64 ha]] w fun e w'=>e=.returned (.int .i64 cl)/\Below w.heap.size w w':=jL0 ⟨true,hle,hb,hc,ha⟩ ao len cap co cl cc w
theorem node7 (h:w.heap[b]?=some (.cells #[a0,a1,a2,a3,a4,a5,a6] 60)) :
  w.cell? ⟨b,0,none⟩=some a0/\w.cell? ⟨b,1,none⟩=some a1/\w.cell? ⟨b,2,none⟩=some a2/\w.cell? ⟨b,3,none⟩=some a3/\w.cell? ⟨b,4,none⟩=some a4/\w.cell? ⟨b,5,none⟩=some a5/\w.cell? ⟨b,6,none⟩=some a6 :=
 ⟨by rw[jQb h];rfl,by rw[jQb h];rfl,by rw[jQb h];rfl,by rw[jQb h];rfl,by rw[jQb h];rfl,by rw[jQb h];rfl,by rw[jQb h];rfl⟩
theorem jIG (h:W.heap[b]?=some (.cells #[a0,a1,a2,a3,a4,a5,a6] 60))(w:World)(hb:Below W.heap.size W w) :
  w.cell? ⟨b,0,none⟩=some a0/\w.cell? ⟨b,1,none⟩=some a1/\w.cell? ⟨b,2,none⟩=some a2/\w.cell? ⟨b,3,none⟩=some a3/\w.cell? ⟨b,4,none⟩=some a4/\w.cell? ⟨b,5,none⟩=some a5/\w.cell? ⟨b,6,none⟩=some a6 :=
 node7 ((hb.block b (jQe h)).trans h)
namespace Sq
def jGB (b:BA)(es:List Ent):BA:=(es.map jA3).foldl (·++·) b
theorem jY6 (l:List Ent)(k:Nat)(h:k<l.length)(b:BA):jGB b (l.drop k)=jGB (b++(bz l[k].place 5++txt l[k].row)) (l.drop (k+1)):=by
 unfold jGB;rw[cr h,cM,de];rfl
def jGC {α:Type}(f:α->Head)(b:BA)(l:List (α×BA)):BA:=(l.map fun x=>jAl (f x.1) x.2).foldl (·++·) b
theorem jY8 (f:α->Head)(l:List (α×BA))(k:Nat)(h:k<l.length)(b:BA):jGC f b (l.drop k)=jGC f (b++(bz (f l[k].1).least 5++bz (f l[k].1).rows 1++l[k].2)) (l.drop (k+1)):=by
 unfold jGC;rw[cr h,cM,de];rfl
end Sq
end
end Go.Proofs.YtahpihjialbanaaGreatDoor
