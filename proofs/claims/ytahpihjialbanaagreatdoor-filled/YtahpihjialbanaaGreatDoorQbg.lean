import Derived.BigRegion
import Derived.Deep.CutRange
import Derived.Test.YtahpihjialbanaaGreatDoorQbf
set_option linter.unusedVariables false
set_option linter.unusedSimpArgs false
set_option maxRecDepth 100000
set_option maxHeartbeats 2000000
namespace Go.Proofs.YtahpihjialbanaaGreatDoor
section
open Go.RowKit
namespace Sq
def iv:List Int:=[1779033703,3144134277,1013904242,2773480762,1359893119,2600822924,528734635,1541459225]
def blocks (l:List UInt8):Nat→List Int
 | 0=>iv
 | k+1=>mixed (blocks l k) (sched l (64 * k))
def by4 (x:Int):List UInt8:=[UInt8.ofNat (IntKind.u8.wrap (x / 16777216)).toNat,UInt8.ofNat (IntKind.u8.wrap (x / 65536)).toNat,UInt8.ofNat (IntKind.u8.wrap (x / 256)).toNat,UInt8.ofNat (IntKind.u8.wrap x).toNat]
def sumL (m:List Int):List UInt8:=m.flatMap by4
def whole (t:ByteArray):ByteArray:=⟨(sumL (blocks (padded t) ((padded t).length / 64))).toArray⟩
theorem jQoL (s ws:List Int):(mixed s ws).length=8:=rfl
theorem jQe4 (l:List UInt8):∀k,(blocks l k).length=8
 | 0=>rfl
 | _+1=>rfl
theorem eight {m:List Int}(h:m.length=8):m=[at0 m 0,at0 m 1,at0 m 2,at0 m 3,at0 m 4,at0 m 5,at0 m 6,at0 m 7]:=by
 match m,h with
 | [a,b,c,d,e,f,g,i],_=>rfl
theorem jQol (m:List Int)(k:Nat)(h:k < m.length):sumL (m.take (k+1))=sumL (m.take k)++by4 (at0 m k):=by
 unfold sumL at0
 rw[List.take_succ_eq_append_getElem h,List.flatMap_append,List.getElem?_eq_getElem h]
 simp
theorem jQlP (m:List Int):(sumL m).length=4 * m.length:=by
 unfold sumL
 induction m with
 | nil=>rfl
 | cons x r ih=>rw[List.flatMap_cons,List.length_append,ih,List.length_cons];show 4+_=_;omega
end Sq
theorem Sq.byteW (y:Int):((UInt8.ofNat (IntKind.u8.wrap y).toNat).toNat:Int)=IntKind.u8.wrap y:=by
 rw[IntKind.wrap_u8']
 exact Sq.jQiP y
theorem jQow {w:World}{b:Nat}{s0 s1 s2 s3 s4 s5 s6 s7:Int}(m0 m1 m2 m3 m4 m5 m6 m7:Int)(h:w.heap[b]?=some (.cells (u32s [s0,s1,s2,s3,s4,s5,s6,s7]) 144)):((((((((w.setCell ⟨b,0,none⟩ (.int .u32 m0)).setCell ⟨b,1,none⟩ (.int .u32 m1)).setCell ⟨b,2,none⟩ (.int .u32 m2)).setCell ⟨b,3,none⟩ (.int .u32 m3)).setCell ⟨b,4,none⟩ (.int .u32 m4)).setCell ⟨b,5,none⟩ (.int .u32 m5)).setCell ⟨b,6,none⟩ (.int .u32 m6)).setCell ⟨b,7,none⟩ (.int .u32 m7)).heap[b]?=some (.cells (u32s [m0,m1,m2,m3,m4,m5,m6,m7]) 144):=by
 have e:=jQf (jQf (jQf (jQf (jQf (jQf (jQf (jQf (h) (o:=0) (.int .u32 m0)) (o:=1) (.int .u32 m1)) (o:=2) (.int .u32 m2)) (o:=3) (.int .u32 m3)) (o:=4) (.int .u32 m4)) (o:=5) (.int .u32 m5)) (o:=6) (.int .u32 m6)) (o:=7) (.int .u32 m7)
 rw[jQba,jQba,jQba,jQba,jQba,jQba,jQba,jQba] at e
 exact e
theorem jQl6 {B b:Nat}{W w:World}(m0 m1 m2 m3 m4 m5 m6 m7:Int)(hb:Below B W w)(h:B≤b):Below B W ((((((((w.setCell ⟨b,0,none⟩ (.int .u32 m0)).setCell ⟨b,1,none⟩ (.int .u32 m1)).setCell ⟨b,2,none⟩ (.int .u32 m2)).setCell ⟨b,3,none⟩ (.int .u32 m3)).setCell ⟨b,4,none⟩ (.int .u32 m4)).setCell ⟨b,5,none⟩ (.int .u32 m5)).setCell ⟨b,6,none⟩ (.int .u32 m6)).setCell ⟨b,7,none⟩ (.int .u32 m7)) :=
 Below.setCell (B:=B) (Below.setCell (B:=B) (Below.setCell (B:=B) (Below.setCell (B:=B) (Below.setCell (B:=B) (Below.setCell (B:=B) (Below.setCell (B:=B) (Below.setCell (B:=B) hb h _) h _) h _) h _) h _) h _) h _) h _
theorem jQn8 (t:ByteArray)(w:World)(ht:t.size≤1000000)(hR:Rnd w) :
  Calls Tryz.prog 58 #[.string t] w fun e w'=>e=.returned (.string (Sq.whole t))∧Below w.heap.size w w':=by
 have hR2:∀w',Below w.heap.size w w'→Rnd w':=fun w' hb=>hR.below hb
 have HR:=hd hR2
 have hpl:=Sq.jQmv t
 have HW:Hid (Sq.whole t=⟨(Sq.sumL (Sq.blocks (Sq.padded t) ((Sq.padded t).length / 64))).toArray⟩):=rfl
 obtain⟨l,hl⟩:∃x,x=Sq.padded t:=⟨_,rfl⟩
 have hw:=HW.out
 rw[←hl] at hpl hw
 have HW2:=hd hw
 have HL:=hd hl
 obtain⟨hp1,hp2,hp3⟩:=hpl
 clear hR hR2 hw HW hl
 go_enter Tryz.func58,Tryz.ntmps58
 go_wp2_with fail
 refine(jQmw t _ ht).mono ?_
 rintro e w1 ⟨v1,rfl,hb1,hbel1⟩
 rw[←HL.out] at hb1
 obtain⟨ao,acap,rfl⟩:=hb1.slice
 have hz1:=hbel1.size
 have HBUF:=hd hb1
 have HB1:=hd hbel1
 clear hb1 hbel1
 have hlb:l.length≤1000100:=by omega
 go_wp2
 go_loopw [5] (fun i wr=>∃k q:Nat,Hid (q=64 * k)∧q≤l.length∧i=.int .i64 (q:Int)∧wr.heap[w1.heap.size]?=some (.cells (u32s (Sq.blocks l k)) 144)∧Below w1.heap.size w1 wr) (fun i _=>l.length - (intOf i).toNat)
 case atStart=>exact⟨0,0,rfl,Nat.zero_le _,rfl,heap_alloc_new w1 _,(Below.refl _ _).alloc (Nat.le_refl _) _⟩
 case round =>
  obtain⟨k,q,hq,hk,rfl,hblk,hb⟩:=hrel
  obtain⟨wo,rfl⟩:∃wo:World,wo=wr:=⟨_,rfl⟩
  have hzo:=jQg hblk
  have HBLK:=hd hblk
  have HB:=hd hb
  clear hblk hb
  by_cases hlt:q < l.length
  ·have i1:(q:Int) < (l.length:Int):=by omega
   have hq64:q+64≤l.length:=by have:=hq.out;omega
   obtain⟨s0,s1,s2,s3,s4,s5,s6,s7,hs⟩:∃s0 s1 s2 s3 s4 s5 s6 s7,Sq.blocks l k=[s0,s1,s2,s3,s4,s5,s6,s7]:=⟨_,_,_,_,_,_,_,_,Sq.eight (Sq.jQe4 l k)⟩
   have hblk:=HBLK.out
   rw[hs] at hblk
   have HBLK2:=hd hblk
   have c0:=jQz hblk 0 (by simp)
   have c1:=jQz hblk 1 (by simp)
   have c2:=jQz hblk 2 (by simp)
   have c3:=jQz hblk 3 (by simp)
   have c4:=jQz hblk 4 (by simp)
   have c5:=jQz hblk 5 (by simp)
   have c6:=jQz hblk 6 (by simp)
   have c7:=jQz hblk 7 (by simp)
   simp only[Sq.at0,List.getElem?_cons_zero,List.getElem?_cons_succ,Option.getD_some] at c0 c1 c2 c3 c4 c5 c6 c7
   have HS:=hd hs
   have HBK:Hid (Sq.blocks l (k+1)=Sq.mixed [s0,s1,s2,s3,s4,s5,s6,s7] (Sq.sched l q)):=by show Sq.mixed (Sq.blocks l k) (Sq.sched l (64 * k))=_;rw[hs,←hq.out]
   have hsl:(Sq.sched l q).length=64:=Sq.jQgi _ (Sq.jQgj _ _ _) _
   obtain⟨sc,hsc⟩:∃x,x=Sq.sched l q:=⟨_,rfl⟩
   have hbk:=HBK.out
   rw[←hsc] at hbk hsl
   have HBK2:=hd hbk
   have HSC:=hd hsc
   have HSL:=hd hsl
   obtain⟨m0,m1,m2,m3,m4,m5,m6,m7,hm⟩:∃s0' s1' s2' s3' s4' s5' s6' s7',Sq.mixed [s0,s1,s2,s3,s4,s5,s6,s7] sc=[s0',s1',s2',s3',s4',s5',s6',s7']:=⟨_,_,_,_,_,_,_,_,Sq.eight (Sq.jQoL _ _)⟩
   have HM:=hd hm
   clear hblk hs hbk HBK hsc hsl hm HBLK
   go_wp2
   go_region_with (first
    | (go_at_call 87;refine(jQik l _ q _ (((HBUF.out.base (Nat.zero_le _)).below HB.out).below (Below.drew (Below.refl _ _))) (by omega) (by omega)).mono ?_;rintro e w2 ⟨rfl,hb2⟩;rw[←HSC.out];have hb2':Below wo.heap.size wo w2:=(Below.drew (Below.refl _ _)).trans hb2;have k0:=((bcell hb2').1 w1.heap.size 0 hzo).trans c0;have k1:=((bcell hb2').1 w1.heap.size 1 hzo).trans c1;have k2:=((bcell hb2').1 w1.heap.size 2 hzo).trans c2;have k3:=((bcell hb2').1 w1.heap.size 3 hzo).trans c3;have k4:=((bcell hb2').1 w1.heap.size 4 hzo).trans c4;have k5:=((bcell hb2').1 w1.heap.size 5 hzo).trans c5;have k6:=((bcell hb2').1 w1.heap.size 6 hzo).trans c6;have k7:=((bcell hb2').1 w1.heap.size 7 hzo).trans c7;have hz2:=hb2'.size;have hz2':w1.heap.size < w2.heap.size:=(by omega);have HB2:=hd hb2';clear hb2 hb2')
    | (go_at_call 86;refine(jQoM s0 s1 s2 s3 s4 s5 s6 s7 sc _ HSL.out (HR.out _ (HB1.out.trans ((HB.out.trans (HB2.out.mono (by omega))).mono (by omega))))).mono ?_;rintro e w3 ⟨rfl,hb3⟩;rw[HM.out];have hblk3:=(hb3.block w1.heap.size hz2').trans ((HB2.out.block w1.heap.size hzo).trans HBLK2.out);have n0:=jQz hblk3 0 (by simp);have n1:=jQz hblk3 1 (by simp);have n2:=jQz hblk3 2 (by simp);have n3:=jQz hblk3 3 (by simp);have n4:=jQz hblk3 4 (by simp);have n5:=jQz hblk3 5 (by simp);have n6:=jQz hblk3 6 (by simp);have n7:=jQz hblk3 7 (by simp);have f0:=jQd hblk3 0;have f1:=jQd hblk3 1;have f2:=jQd hblk3 2;have f3:=jQd hblk3 3;have f4:=jQd hblk3 4;have f5:=jQd hblk3 5;have f6:=jQd hblk3 6;have f7:=jQd hblk3 7;have hz3:=jQg hblk3;have HBLK3:=hd hblk3;have HB3:=hd hb3;clear hb3 hblk3;simp only[u32s,List.map_cons,List.map_nil]))
   all_goals(try go_wp2)
   all_goals
    go_roundw
    case rel =>
     refine⟨k+1,q+64,by show _=_;have:=hq.out;omega,by omega,by go_num,?_,jQl6 _ _ _ _ _ _ _ _ ((HB.out.trans (HB2.out.mono (by omega))).trans (HB3.out.mono (by omega))) (Nat.le_refl _)⟩
     rw[jQow _ _ _ _ _ _ _ _ HBLK3.out,HBK2.out,HM.out]
    case measure=>simp[intOf];omega
  ·have hke:l.length / 64=k:=by have:=hq.out;omega
   have hw:=HW2.out
   rw[hke] at hw
   have hml:=Sq.jQe4 l k
   obtain⟨m,hm⟩:∃x,x=Sq.blocks l k:=⟨_,rfl⟩
   have hblk:=HBLK.out
   rw[←hm] at hw hml hblk
   have HW3:=hd hw
   have HML:=hd hml
   have HBLK2:=hd hblk
   have hzo2:=HB.out.size
   clear hw hml hblk hm hke HBLK
   go_wp2
   go_loopw [6,7] (fun v i wr=>∃j:Nat,j≤8∧i=.int .i64 j∧BufAt wo.heap.size wr v (Sq.sumL (m.take j))∧Below wo.heap.size wo wr) (fun _ i _=>8 - (intOf i).toNat)
   case atStart=>exact⟨0,by decide,rfl,World.ownsRow_nil _ _ _ _,Below.refl _ _⟩
   case round =>
    obtain⟨j,hj,rfl,hbuf,hb⟩:=hrel
    obtain⟨yo,ycap,rfl⟩:=hbuf.slice
    have hzr:=hb.size
    have HBUF4:=hd hbuf
    have HB4:=hd hb
    clear hb hbuf
    by_cases hjt:j < 8
    ·have hblk:=(HB4.out.block w1.heap.size hzo).trans HBLK2.out
     have c0:=jQz hblk j (by rw[HML.out];exact hjt)
     have HTK:=hd (Sq.jQol m j (by rw[HML.out];exact hjt))
     have hsl:=Sq.jQlP (m.take j)
     have hsl2:(Sq.sumL (m.take j)).length≤32:=by rw[hsl];have:=List.length_take_le j m;omega
     obtain⟨x,hx⟩:∃x,x=Sq.at0 m j:=⟨_,rfl⟩
     have htk:=HTK.out
     rw[←hx] at c0 htk
     obtain⟨sl,hsl'⟩:∃x,x=Sq.sumL (m.take j):=⟨_,rfl⟩
     have hbf:=HBUF4.out
     rw[←hsl'] at htk hbf hsl2 ⊢
     have HTK2:=hd htk
     have HBF:=hd hbf
     have i1:(j:Int) < 8:=by omega
     have hz1r:w1.heap.size < wr.heap.size:=by omega
     obtain⟨i0,hi,hz0,hz1',hz2⟩:=info_parts Tryz.infoU8
     have hbr:Below wr.heap.size wr (wr.alloc (.cells #[.int .u8 (IntKind.u8.wrap (x / 16777216)),.int .u8 (IntKind.u8.wrap (x / 65536)),.int .u8 (IntKind.u8.wrap (x / 256)),.int .u8 (IntKind.u8.wrap x)] 5)).drew:=Below.drew ((Below.refl _ _).alloc (Nat.le_refl _) _)
     have HBR:=hd hbr
     have HBF2:=hd (HBF.out.below hbr)
     clear hblk hx htk HTK hsl hsl' hbf HBUF4 hbr
     go_wp2
     go_region_law (first
      | (go_loud (refine step_append_lies _ rfl (.tmp 26) (.tmp 46) 55 rfl wo.heap.size 5 i0 _ 1 1 Tryz.underlying55 hi hz0 hz1' hz2 rfl (by decide) (.slice yo sl.length ycap) sl.length (sl.map fun b:UInt8=>Value.int .u8 ((b.toNat:Nat):Int)) (by simp[Act.eval,Act.put]) HBF2.out ⟨wr.heap.size,0,none⟩ 4 4 [.int .u8 (IntKind.u8.wrap (x / 16777216)),.int .u8 (IntKind.u8.wrap (x / 65536)),.int .u8 (IntKind.u8.wrap (x / 256)),.int .u8 (IntKind.u8.wrap x)] (by simp[Act.eval,Act.put]) rfl (by exact jQB wr _ _ _ rfl rfl) (by intro u hu;simp at hu;rcases hu with rfl | rfl | rfl | rfl <;> rfl) (by decide) (by unfold maxLen;omega) (by omega) (by simp;omega) _ rfl ?_);intro g cap w5 hown hgrow hat hltg;have HOW:=hd hown;have HGR:=hd hgrow;clear hown hgrow hat hltg))
     all_goals(try go_wp2)
     all_goals
      go_roundw
      case rel =>
       refine⟨j+1,by omega,by go_num,?_,HB4.out.trans ((HBR.out.mono hzr).trans (Tch.of_grown HGR.out (fun k hk=>(World.ownsRow.lt HBF2.out k hk).1) (by simp;omega)))⟩
       rw[HTK2.out]
       have ho:=HOW.out
       rw[←Sq.byteW (x / 16777216),←Sq.byteW (x / 65536),←Sq.byteW (x / 256),←Sq.byteW x] at ho
       unfold BufAt
       rw[List.length_append,List.map_append]
       exact ho
      case measure=>simp[intOf];omega
    ·have hj8:j=8:=by omega
     subst hj8
     have hbf:=HBUF4.out
     rw[List.take_of_length_le (by rw[HML.out];exact Nat.le_refl _)] at hbf
     have hcv:=jQb5 _ _ _ _ hbf
     rw[←HW3.out] at hcv
     have hsl:(Sq.sumL (m.take 8)).length=(Sq.sumL m).length:=by rw[List.take_of_length_le (by rw[HML.out];exact Nat.le_refl _)]
     rw[hsl]
     have HCV:=hd hcv
     clear hcv hbf HBUF4 hsl
     go_wp2
     rw[HCV.out]
     go_wp2
     go_ret
     exact⟨rfl,HB1.out.trans ((HB.out.trans (HB4.out.mono hzo2)).mono hz1)⟩
end
section
open Go.RowKit
theorem Sq.jQgX (t:ByteArray):(Sq.whole t).size=32:=by
 unfold Sq.whole
 show(Sq.sumL (Sq.blocks (Sq.padded t) ((Sq.padded t).length / 64))).toArray.size=32
 rw[List.size_toArray,Sq.jQlP,Sq.jQe4]
def Sq.shaOf (t:ByteArray)(wide:Nat):ByteArray:=(Sq.whole t).extract 0 wide
theorem Sq.jQl4 (t:ByteArray)(wide:Nat)(h:wide≤32):(Sq.shaOf t wide).size=wide:=by
 unfold Sq.shaOf
 rw[ByteArray.size_extract,Sq.jQgX]
 omega
theorem jQss (t:ByteArray)(wide:Nat)(w:World)(ht:t.size≤1000000)(hw:wide≤32)(hR:Rnd w) :
  Calls Tryz.prog 46 #[.string t,.int .i64 wide] w fun e w'=>e=.returned (.string (Sq.shaOf t wide))∧Below w.heap.size w w':=by
 have hsz:=Sq.jQgX t
 have HR:=hd hR
 have HE:Hid (Sq.shaOf t wide=(Sq.whole t).extract 0 wide):=rfl
 clear hR
 go_enter Tryz.func46,Tryz.ntmps46
 go_wp2_with fail
 refine(jQn8 t _ ht HR.out).mono ?_
 rintro e w1 ⟨rfl,hb1⟩
 have he:=HE.out
 clear HE
 generalize Sq.whole t=s at *
 have HE:=hd he
 have HB:=hd hb1
 have HSZ:=hd hsz
 have hs1:wide≤s.size:=by omega
 have hs2:s.size≤32:=by omega
 have i1:decide ((wide:Int) < 0)=false:=by simp
 have i2:decide ((s.size:Int) < (wide:Int))=false:=by simp;omega
 clear he hb1 hsz
 go_wp2
 go_ret
 exact⟨by rw[HE.out];rfl,HB.out⟩
end
section
open Go.RowKit
theorem jQos (hle hro hnu:Int)(hsl:ByteArray)(ao:Option Addr)(len cap:Nat)(co:Option Addr)(cl cc:Nat)(w:World) :
  Calls Tryz.prog 83 #[.agg #[.bool false,.slice ao len cap,.slice co cl cc,.int .i64 hle,.int .i64 hro,.string hsl,.int .i64 hnu]] w fun e w'=>e=.returned (.int .i64 len)∧Below w.heap.size w w':=jQi0 ⟨false,hle,hro,hsl,hnu⟩ ao len cap co cl cc w
theorem jQot (hle hro hnu:Int)(hsl:ByteArray)(ao:Option Addr)(len cap:Nat)(co:Option Addr)(cl cc:Nat)(w:World) :
  Calls Tryz.prog 83 #[.agg #[.bool true,.slice ao len cap,.slice co cl cc,.int .i64 hle,.int .i64 hro,.string hsl,.int .i64 hnu]] w fun e w'=>e=.returned (.int .i64 cl)∧Below w.heap.size w w':=jQi0 ⟨true,hle,hro,hsl,hnu⟩ ao len cap co cl cc w
theorem node7 {w:World}{b:Nat}{a0 a1 a2 a3 a4 a5 a6:Value}(h:w.heap[b]?=some (.cells #[a0,a1,a2,a3,a4,a5,a6] 60)) :
  w.cell? ⟨b,0,none⟩=some a0∧w.cell? ⟨b,1,none⟩=some a1∧w.cell? ⟨b,2,none⟩=some a2∧w.cell? ⟨b,3,none⟩=some a3∧w.cell? ⟨b,4,none⟩=some a4∧w.cell? ⟨b,5,none⟩=some a5∧w.cell? ⟨b,6,none⟩=some a6 :=
 ⟨by rw[jQb h];rfl,by rw[jQb h];rfl,by rw[jQb h];rfl,by rw[jQb h];rfl,by rw[jQb h];rfl,by rw[jQb h];rfl,by rw[jQb h];rfl⟩
theorem jQaS {W:World}{b:Nat}{a0 a1 a2 a3 a4 a5 a6:Value}(h:W.heap[b]?=some (.cells #[a0,a1,a2,a3,a4,a5,a6] 60))(w:World)(hb:Below W.heap.size W w) :
  w.cell? ⟨b,0,none⟩=some a0∧w.cell? ⟨b,1,none⟩=some a1∧w.cell? ⟨b,2,none⟩=some a2∧w.cell? ⟨b,3,none⟩=some a3∧w.cell? ⟨b,4,none⟩=some a4∧w.cell? ⟨b,5,none⟩=some a5∧w.cell? ⟨b,6,none⟩=some a6 :=
 node7 ((hb.block b (jQg h)).trans h)
namespace Sq
def entsB (b:ByteArray)(es:List Ent):ByteArray:=(es.map entBytes).foldl (·++·) b
theorem jQnn (l:List Ent)(k:Nat)(h:k < l.length)(b:ByteArray):entsB b (l.drop k)=entsB (b++(pnum l[k].place 5++txt l[k].row)) (l.drop (k+1)):=by
 unfold entsB
 rw[List.drop_eq_getElem_cons h,List.map_cons,List.foldl_cons]
 rfl
def kidsB {α:Type}(f:α→Head)(b:ByteArray)(l:List (α×ByteArray)):ByteArray:=(l.map fun x=>kidBytes (f x.1) x.2).foldl (·++·) b
theorem jQmZ {α:Type}(f:α→Head)(l:List (α×ByteArray))(k:Nat)(h:k < l.length)(b:ByteArray):kidsB f b (l.drop k)=kidsB f (b++(pnum (f l[k].1).least 5++pnum (f l[k].1).rows 1++l[k].2)) (l.drop (k+1)):=by
 unfold kidsB
 rw[List.drop_eq_getElem_cons h,List.map_cons,List.foldl_cons]
 rfl
end Sq
end
end Go.Proofs.YtahpihjialbanaaGreatDoor
