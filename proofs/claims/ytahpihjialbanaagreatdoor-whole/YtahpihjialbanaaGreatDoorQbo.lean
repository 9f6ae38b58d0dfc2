import Derived.BigRegion
import Derived.Deep.CutRange
import Derived.Test.YtahpihjialbanaaGreatDoorQai
import Derived.Test.YtahpihjialbanaaGreatDoorQbn
set_option linter.unusedVariables false
set_option linter.unusedSimpArgs false
set_option maxRecDepth 100000
set_option maxHeartbeats 2000000
namespace Go.Proofs.YtahpihjialbanaaGreatDoor
section
open Go.RowKit
namespace Sq
def iv:List Int:=[1779033703,3144134277,1013904242,2773480762,1359893119,2600822924,528734635,1541459225]
def blocks (l:List UInt8):Nat->List Int
 | 0=>iv
 | k+1=>mixed (blocks l k) (sched l (64*k))
def by4 (x:Int):List UInt8:=[UInt8.ofNat (IntKind.u8.wrap (x / 16777216)).toNat,UInt8.ofNat (IntKind.u8.wrap (x / 65536)).toNat,UInt8.ofNat (IntKind.u8.wrap (x / 256)).toNat,UInt8.ofNat (IntKind.u8.wrap x).toNat]
def sumL (m:List Int):List UInt8:=m.flatMap by4
def whole (t:ByteArray):ByteArray:=⟨(sumL (blocks (padded t) ((padded t).length / 64))).toArray⟩
theorem jQpc (s ws:List Int):(mixed s ws).length=8:=rfl
theorem jQe7 (l:List UInt8):∀k,(blocks l k).length=8
 | 0=>rfl
 | _+1=>rfl
theorem eight {m:List Int}(h:m.length=8):m=[at0 m 0,at0 m 1,at0 m 2,at0 m 3,at0 m 4,at0 m 5,at0 m 6,at0 m 7]:=by
 match m,h with
 | [a,b,c,d,e,f,g,i],_=>rfl
theorem jQoO (m:List Int)(k:Nat)(h:k<m.length):sumL (m.take (k+1))=sumL (m.take k)++by4 (at0 m k):=by
 unfold sumL at0;rw[List.take_succ_eq_append_getElem h,List.flatMap_append,List.getElem?_eq_getElem h];simp
theorem jQl9 (m:List Int):(sumL m).length=4*m.length:=by
 unfold sumL
 induction m with
 | nil=>rfl
 | cons x r ih=>rw[List.flatMap_cons,List.length_append,ih,List.length_cons];show 4+_=_;omega
end Sq
theorem Sq.byteW (y:Int):((UInt8.ofNat (IntKind.u8.wrap y).toNat).toNat:Int)=IntKind.u8.wrap y:=by
 rw[IntKind.wrap_u8'];exact Sq.jQjc y
theorem jQoW {w:World}{b:Nat}{s0 s1 s2 s3 s4 s5 s6 s7:Int}(m0 m1 m2 m3 m4 m5 m6 m7:Int)(h:w.heap[b]?=some (.cells (u32s [s0,s1,s2,s3,s4,s5,s6,s7]) 144)):((((((((w.setCell ⟨b,0,none⟩ (.int .u32 m0)).setCell ⟨b,1,none⟩ (.int .u32 m1)).setCell ⟨b,2,none⟩ (.int .u32 m2)).setCell ⟨b,3,none⟩ (.int .u32 m3)).setCell ⟨b,4,none⟩ (.int .u32 m4)).setCell ⟨b,5,none⟩ (.int .u32 m5)).setCell ⟨b,6,none⟩ (.int .u32 m6)).setCell ⟨b,7,none⟩ (.int .u32 m7)).heap[b]?=some (.cells (u32s [m0,m1,m2,m3,m4,m5,m6,m7]) 144):=by
 have e:=jQe (jQe (jQe (jQe (jQe (jQe (jQe (jQe (h) (o:=0) (.int .u32 m0)) (o:=1) (.int .u32 m1)) (o:=2) (.int .u32 m2)) (o:=3) (.int .u32 m3)) (o:=4) (.int .u32 m4)) (o:=5) (.int .u32 m5)) (o:=6) (.int .u32 m6)) (o:=7) (.int .u32 m7);rw[jQaY,jQaY,jQaY,jQaY,jQaY,jQaY,jQaY,jQaY] at e;exact e
theorem jQmn {B b:Nat}{W w:World}(m0 m1 m2 m3 m4 m5 m6 m7:Int)(hb:Below B W w)(h:B<=b):Below B W ((((((((w.setCell ⟨b,0,none⟩ (.int .u32 m0)).setCell ⟨b,1,none⟩ (.int .u32 m1)).setCell ⟨b,2,none⟩ (.int .u32 m2)).setCell ⟨b,3,none⟩ (.int .u32 m3)).setCell ⟨b,4,none⟩ (.int .u32 m4)).setCell ⟨b,5,none⟩ (.int .u32 m5)).setCell ⟨b,6,none⟩ (.int .u32 m6)).setCell ⟨b,7,none⟩ (.int .u32 m7)) :=
 Below.setCell (B:=B) (Below.setCell (B:=B) (Below.setCell (B:=B) (Below.setCell (B:=B) (Below.setCell (B:=B) (Below.setCell (B:=B) (Below.setCell (B:=B) (Below.setCell (B:=B) hb h _) h _) h _) h _) h _) h _) h _) h _
theorem jQoC (t:ByteArray)(w:World)(ht:t.size<=1000000)(hR:Rnd w) :
  Calls Tryz.prog 58 #[.string t] w fun e w'=>e=.returned (.string (Sq.whole t))/\Below w.heap.size w w':=by
 have hO:∀w',Below w.heap.size w w'->Rnd w':=fun w' hb=>hR.below hb
 have HR:=hd hO;have hU:=Sq.jQmR t;have HW:Hid (Sq.whole t=⟨(Sq.sumL (Sq.blocks (Sq.padded t) ((Sq.padded t).length / 64))).toArray⟩):=rfl;obtain⟨l,hl⟩:∃x,x=Sq.padded t:=⟨_,rfl⟩;have hw:=HW.o;rw[<-hl] at hU hw;have hV:=hd hw;have HL:=hd hl;obtain⟨hp1,hp2,hp3⟩:=hU;clear hR hO hw HW hl;go_enter Tryz.func58,Tryz.ntmps58;go_wp2_with fail;refine(jQmS t _ ht).mono ?_;rintro e w1 ⟨v1,rfl,hb1,hbel1⟩;rw[<-HL.o] at hb1;obtain⟨ao,acap,rfl⟩:=hb1.slice;have h8:=hbel1.size;have hD:=hd hb1;have hQ:=hd hbel1;clear hb1 hbel1;have Hb:l.length<=1000100:=by omega
 go_wp2
 go_loopw [5] (fun i wr=>∃k q:Nat,Hid (q=64*k)/\q<=l.length/\i=.int .i64 (q:Int)/\wr.heap[w1.heap.size]?=some (.cells (u32s (Sq.blocks l k)) 144)/\Below w1.heap.size w1 wr) (fun i _=>l.length-(intOf i).toNat)
 case atStart=>exact⟨0,0,rfl,zR,rfl,heap_alloc_new w1 _,(bR).alloc (nR) _⟩
 case round =>
  obtain⟨k,q,hq,hk,rfl,hc,hb⟩:=hrel;obtain⟨wo,rfl⟩:∃wo:World,wo=wr:=⟨_,rfl⟩;have hh:=jQf hc;have hn:=hd hc;have HB:=hd hb;clear hc hb
  by_cases hlt:q<l.length
  ·have i1:(q:Int)<(l.length:Int):=by omega
   have hZ:q+64<=l.length:=by have:=hq.o;omega
   obtain⟨s0,s1,s2,s3,s4,s5,s6,s7,hs⟩:∃s0 s1 s2 s3 s4 s5 s6 s7,Sq.blocks l k=[s0,s1,s2,s3,s4,s5,s6,s7]:=⟨_,_,_,_,_,_,_,_,Sq.eight (Sq.jQe7 l k)⟩;have hc:=hn.o;rw[hs] at hc;have hg:=hd hc;have c0:=jQB hc 0 (by simp);have c1:=jQB hc 1 (by simp);have c2:=jQB hc 2 (by simp);have c3:=jQB hc 3 (by simp);have c4:=jQB hc 4 (by simp);have c5:=jQB hc 5 (by simp);have c6:=jQB hc 6 (by simp);have c7:=jQB hc 7 (by simp);simp only[Sq.at0,List.getElem?_cons_zero,List.getElem?_cons_succ,Option.getD_some] at c0 c1 c2 c3 c4 c5 c6 c7;have HS:=hd hs;have hN:Hid (Sq.blocks l (k+1)=Sq.mixed [s0,s1,s2,s3,s4,s5,s6,s7] (Sq.sched l q)):=by show Sq.mixed (Sq.blocks l k) (Sq.sched l (64*k))=_;rw[hs,<-hq.o]
   have hp:(Sq.sched l q).length=64:=Sq.jQgn _ (Sq.jQgo _ _ _) _;obtain⟨sc,hsc⟩:∃x,x=Sq.sched l q:=⟨_,rfl⟩;have hJ:=hN.o;rw[<-hsc] at hJ hp;have hM:=hd hJ;have hW:=hd hsc;have hX:=hd hp;obtain⟨m0,m1,m2,m3,m4,m5,m6,m7,hm⟩:∃s0' s1' s2' s3' s4' s5' s6' s7',Sq.mixed [s0,s1,s2,s3,s4,s5,s6,s7] sc=[s0',s1',s2',s3',s4',s5',s6',s7']:=⟨_,_,_,_,_,_,_,_,Sq.eight (Sq.jQpc _ _)⟩;have HM:=hd hm;clear hc hs hJ hN hsc hp hm hn;go_wp2
   go_region_with (first
    | (go_at_call 87;refine(jQiH l _ q _ (((hD.o.base (zR)).below HB.o).below (Below.drew (bR))) (by omega) (by omega)).mono ?_;rintro e w2 ⟨rfl,hb2⟩;rw[<-hW.o];have he:Below wo.heap.size wo w2:=(Below.drew (bR)).trans hb2;have k0:=((bcell he).1 w1.heap.size 0 hh).trans c0;have k1:=((bcell he).1 w1.heap.size 1 hh).trans c1;have k2:=((bcell he).1 w1.heap.size 2 hh).trans c2;have k3:=((bcell he).1 w1.heap.size 3 hh).trans c3;have k4:=((bcell he).1 w1.heap.size 4 hh).trans c4;have k5:=((bcell he).1 w1.heap.size 5 hh).trans c5;have k6:=((bcell he).1 w1.heap.size 6 hh).trans c6;have k7:=((bcell he).1 w1.heap.size 7 hh).trans c7;have hS:=he.size;have hI:w1.heap.size<w2.heap.size:=(by omega);have hK:=hd he;clear hb2 he)
    | (go_at_call 86;refine(jQpd s0 s1 s2 s3 s4 s5 s6 s7 sc _ hX.o (HR.o _ (hQ.o.trans ((HB.o.trans (hK.o.mono (by omega))).mono (by omega))))).mono ?_;rintro e w3 ⟨rfl,hb3⟩;rw[HM.o];have ha:=(hb3.block w1.heap.size hI).trans ((hK.o.block w1.heap.size hh).trans hg.o);have n0:=jQB ha 0 (by simp);have n1:=jQB ha 1 (by simp);have n2:=jQB ha 2 (by simp);have n3:=jQB ha 3 (by simp);have n4:=jQB ha 4 (by simp);have n5:=jQB ha 5 (by simp);have n6:=jQB ha 6 (by simp);have n7:=jQB ha 7 (by simp);have f0:=jQd ha 0;have f1:=jQd ha 1;have f2:=jQd ha 2;have f3:=jQd ha 3;have f4:=jQd ha 4;have f5:=jQd ha 5;have f6:=jQd ha 6;have f7:=jQd ha 7;have Ha:=jQf ha;have hv:=hd ha;have h3:=hd hb3;clear hb3 ha;simp only[u32s,List.map_cons,List.map_nil]))
   all_goals(try go_wp2)
   all_goals
    go_roundw
    case rel =>
     refine⟨k+1,q+64,by show _=_;have:=hq.o;omega,by omega,by go_num,?_,jQmn _ _ _ _ _ _ _ _ ((HB.o.trans (hK.o.mono (by omega))).trans (h3.o.mono (by omega))) (nR)⟩;rw[jQoW _ _ _ _ _ _ _ _ hv.o,hM.o,HM.o]
    case measure=>simp[intOf];omega
  ·have hT:l.length / 64=k:=by have:=hq.o;omega
   have hw:=hV.o;rw[hT] at hw;have hH:=Sq.jQe7 l k;obtain⟨m,hm⟩:∃x,x=Sq.blocks l k:=⟨_,rfl⟩;have hc:=hn.o;rw[<-hm] at hw hH hc;have h4:=hd hw;have hz:=hd hH;have hg:=hd hc;have hG:=HB.o.size;clear hw hH hc hm hT hn;go_wp2
   go_loopw [6,7] (fun v i wr=>∃j:Nat,j<=8/\i=.int .i64 j/\BufAt wo.heap.size wr v (Sq.sumL (m.take j))/\Below wo.heap.size wo wr) (fun _ i _=>8-(intOf i).toNat)
   case atStart=>exact⟨0,by decide,rfl,World.ownsRow_nil _ _ _ _,bR⟩
   case round =>
    obtain⟨j,hj,rfl,hbuf,hb⟩:=hrel;obtain⟨yo,ycap,rfl⟩:=hbuf.slice;have h9:=hb.size;have hf:=hd hbuf;have hC:=hd hb;clear hb hbuf
    by_cases hjt:j<8
    ·have hc:=(hC.o.block w1.heap.size hh).trans hg.o;have c0:=jQB hc j (by rw[hz.o];exact hjt);have hP:=hd (Sq.jQoO m j (by rw[hz.o];exact hjt));have hp:=Sq.jQl9 (m.take j);have hL:(Sq.sumL (m.take j)).length<=32:=by rw[hp];have:=List.length_take_le j m;omega
     obtain⟨x,hx⟩:∃x,x=Sq.at0 m j:=⟨_,rfl⟩;have hA:=hP.o;rw[<-hx] at c0 hA;obtain⟨sl,hsl'⟩:∃x,x=Sq.sumL (m.take j):=⟨_,rfl⟩;have hr:=hf.o;rw[<-hsl'] at hA hr hL ⊢;have hF:=hd hA;have h5:=hd hr;have i1:(j:Int)<8:=by omega
     have h0:w1.heap.size<wr.heap.size:=by omega
     obtain⟨i0,hi,hz0,hz1',hS⟩:=info_parts Tryz.infoU8;have hE:Below wr.heap.size wr (wr.alloc (.cells #[.int .u8 (IntKind.u8.wrap (x / 16777216)),.int .u8 (IntKind.u8.wrap (x / 65536)),.int .u8 (IntKind.u8.wrap (x / 256)),.int .u8 (IntKind.u8.wrap x)] 5)).drew:=Below.drew ((bR).alloc (nR) _);have h6:=hd hE;have hy:=hd (h5.o.below hE);clear hc hx hA hP hp hsl' hr hf hE;go_wp2
     go_region_law (first
      | (go_loud (refine step_append_lies _ rfl (.tmp 26) (.tmp 46) 55 rfl wo.heap.size 5 i0 _ 1 1 Tryz.underlying55 hi hz0 hz1' hS rfl (by decide) (.slice yo sl.length ycap) sl.length (sl.map fun b:UInt8=>Value.int .u8 ((b.toNat:Nat):Int)) (by simp[Act.eval,Act.put]) hy.o ⟨wr.heap.size,0,none⟩ 4 4 [.int .u8 (IntKind.u8.wrap (x / 16777216)),.int .u8 (IntKind.u8.wrap (x / 65536)),.int .u8 (IntKind.u8.wrap (x / 256)),.int .u8 (IntKind.u8.wrap x)] (by simp[Act.eval,Act.put]) rfl (by exact jQL wr _ _ _ rfl rfl) (by intro u hu;simp at hu;rcases hu with rfl | rfl | rfl | rfl<;>rfl) (by decide) (by unfold maxLen;omega) (by omega) (by simp;omega) _ rfl ?_);intro g cap w5 hown hgrow hat hltg;have hY:=hd hown;have h7:=hd hgrow;clear hown hgrow hat hltg))
     all_goals(try go_wp2)
     all_goals
      go_roundw
      case rel =>
       refine⟨j+1,by omega,by go_num,?_,hC.o.trans ((h6.o.mono h9).trans (Tch.of_grown h7.o (fun k hk=>(World.ownsRow.lt hy.o k hk).1) (by simp;omega)))⟩;rw[hF.o];have ho:=hY.o;rw[<-Sq.byteW (x / 16777216),<-Sq.byteW (x / 65536),<-Sq.byteW (x / 256),<-Sq.byteW x] at ho;unfold BufAt;rw[List.length_append,List.map_append];exact ho
      case measure=>simp[intOf];omega
    ·have h2:j=8:=by omega
     subst h2;have hr:=hf.o;rw[List.take_of_length_le (by rw[hz.o];exact nR)] at hr;have hB:=jQe6 _ _ _ _ hr;rw[<-h4.o] at hB;have hp:(Sq.sumL (m.take 8)).length=(Sq.sumL m).length:=by rw[List.take_of_length_le (by rw[hz.o];exact nR)]
     rw[hp];have h1:=hd hB;clear hB hr hf hp;go_wp2;rw[h1.o];go_wp2;go_ret;exact⟨rfl,hQ.o.trans ((HB.o.trans (hC.o.mono hG)).mono h8)⟩
end
section
open Go.RowKit
theorem Sq.jQha (t:ByteArray):(Sq.whole t).size=32:=by
 unfold Sq.whole
 show(Sq.sumL (Sq.blocks (Sq.padded t) ((Sq.padded t).length / 64))).toArray.size=32
 rw[List.size_toArray,Sq.jQl9,Sq.jQe7]
def Sq.shaOf (t:ByteArray)(wide:Nat):ByteArray:=(Sq.whole t).extract 0 wide
theorem Sq.jQmm (t:ByteArray)(wide:Nat)(h:wide<=32):(Sq.shaOf t wide).size=wide:=by
 unfold Sq.shaOf;rw[ByteArray.size_extract,Sq.jQha];omega
theorem jQr1 (t:ByteArray)(wide:Nat)(w:World)(ht:t.size<=1000000)(hw:wide<=32)(hR:Rnd w) :
  Calls Tryz.prog 46 #[.string t,.int .i64 wide] w fun e w'=>e=.returned (.string (Sq.shaOf t wide))/\Below w.heap.size w w':=by
 have ha:=Sq.jQha t;have HR:=hd hR;have HE:Hid (Sq.shaOf t wide=(Sq.whole t).extract 0 wide):=rfl;clear hR;go_enter Tryz.func46,Tryz.ntmps46;go_wp2_with fail;refine(jQoC t _ ht HR.o).mono ?_;rintro e w1 ⟨rfl,hb1⟩;have he:=HE.o;clear HE;generalize Sq.whole t=s at *;have HE:=hd he;have HB:=hd hb1;have hb:=hd ha;have hc:wide<=s.size:=by omega
 have hf:s.size<=32:=by omega
 have i1:decide ((wide:Int)<0)=false:=by simp
 have i2:decide ((s.size:Int)<(wide:Int))=false:=by simp;omega
 clear he hb1 ha;go_wp2;go_ret;exact⟨by rw[HE.o];rfl,HB.o⟩
end
section
open Go.RowKit
theorem jQoT (hle hro hnu:Int)(hsl:ByteArray)(ao:Option Addr)(len cap:Nat)(co:Option Addr)(cl cc:Nat)(w:World) :
  Calls Tryz.prog 83 #[.agg #[.bool false,.slice ao len cap,.slice co cl cc,.int .i64 hle,.int .i64 hro,.string hsl,.int .i64 hnu]] w fun e w'=>e=.returned (.int .i64 len)/\Below w.heap.size w w':=jQg4 ⟨false,hle,hro,hsl,hnu⟩ ao len cap co cl cc w
theorem jQoU (hle hro hnu:Int)(hsl:ByteArray)(ao:Option Addr)(len cap:Nat)(co:Option Addr)(cl cc:Nat)(w:World) :
  Calls Tryz.prog 83 #[.agg #[.bool true,.slice ao len cap,.slice co cl cc,.int .i64 hle,.int .i64 hro,.string hsl,.int .i64 hnu]] w fun e w'=>e=.returned (.int .i64 cl)/\Below w.heap.size w w':=jQg4 ⟨true,hle,hro,hsl,hnu⟩ ao len cap co cl cc w
theorem node7 {w:World}{b:Nat}{a0 a1 a2 a3 a4 a5 a6:Value}(h:w.heap[b]?=some (.cells #[a0,a1,a2,a3,a4,a5,a6] 60)) :
  w.cell? ⟨b,0,none⟩=some a0/\w.cell? ⟨b,1,none⟩=some a1/\w.cell? ⟨b,2,none⟩=some a2/\w.cell? ⟨b,3,none⟩=some a3/\w.cell? ⟨b,4,none⟩=some a4/\w.cell? ⟨b,5,none⟩=some a5/\w.cell? ⟨b,6,none⟩=some a6 :=
 ⟨by rw[jQb h];rfl,by rw[jQb h];rfl,by rw[jQb h];rfl,by rw[jQb h];rfl,by rw[jQb h];rfl,by rw[jQb h];rfl,by rw[jQb h];rfl⟩
theorem jQaF {W:World}{b:Nat}{a0 a1 a2 a3 a4 a5 a6:Value}(h:W.heap[b]?=some (.cells #[a0,a1,a2,a3,a4,a5,a6] 60))(w:World)(hb:Below W.heap.size W w) :
  w.cell? ⟨b,0,none⟩=some a0/\w.cell? ⟨b,1,none⟩=some a1/\w.cell? ⟨b,2,none⟩=some a2/\w.cell? ⟨b,3,none⟩=some a3/\w.cell? ⟨b,4,none⟩=some a4/\w.cell? ⟨b,5,none⟩=some a5/\w.cell? ⟨b,6,none⟩=some a6 :=
 node7 ((hb.block b (jQf h)).trans h)
namespace Sq
def entsB (b:ByteArray)(es:List Ent):ByteArray:=(es.map entBytes).foldl (·++·) b
theorem jQnT (l:List Ent)(k:Nat)(h:k<l.length)(b:ByteArray):entsB b (l.drop k)=entsB (b++(pnum l[k].place 5++txt l[k].row)) (l.drop (k+1)):=by
 unfold entsB;rw[List.drop_eq_getElem_cons h,List.map_cons,List.foldl_cons];rfl
def kidsB {α:Type}(f:α->Head)(b:ByteArray)(l:List (α×ByteArray)):ByteArray:=(l.map fun x=>kidBytes (f x.1) x.2).foldl (·++·) b
theorem jQnt {α:Type}(f:α->Head)(l:List (α×ByteArray))(k:Nat)(h:k<l.length)(b:ByteArray):kidsB f b (l.drop k)=kidsB f (b++(pnum (f l[k].1).least 5++pnum (f l[k].1).rows 1++l[k].2)) (l.drop (k+1)):=by
 unfold kidsB;rw[List.drop_eq_getElem_cons h,List.map_cons,List.foldl_cons];rfl
end Sq
end
end Go.Proofs.YtahpihjialbanaaGreatDoor
