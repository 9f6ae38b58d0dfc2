import Derived.Lib.LaidTab
import Derived.Test.YtahpihjialbanaaGreatDoorQbe
set_option linter.unusedVariables false
set_option linter.unusedSimpArgs false
set_option maxRecDepth 100000
set_option maxHeartbeats 2000000
namespace Go.Proofs.YtahpihjialbanaaGreatDoor
section
open Go.RowKit
def Sq.roundTab:List Int:=[0x428a2f98,0x71374491,0xb5c0fbcf,0xe9b5dba5,0x3956c25b,0x59f111f1,0x923f82a4,0xab1c5ed5,
 0xd807aa98,0x12835b01,0x243185be,0x550c7dc3,0x72be5d74,0x80deb1fe,0x9bdc06a7,0xc19bf174,
 0xe49b69c1,0xefbe4786,0x0fc19dc6,0x240ca1cc,0x2de92c6f,0x4a7484aa,0x5cb0a9dc,0x76f988da,
 0x983e5152,0xa831c66d,0xb00327c8,0xbf597fc7,0xc6e00bf3,0xd5a79147,0x06ca6351,0x14292967,
 0x27b70a85,0x2e1b2138,0x4d2c6dfc,0x53380d13,0x650a7354,0x766a0abb,0x81c2c92e,0x92722c85,
 0xa2bfe8a1,0xa81a664b,0xc24b8b70,0xc76c51a3,0xd192e819,0xd6990624,0xf40e3585,0x106aa070,
 0x19a4c116,0x1e376c08,0x2748774c,0x34b0bcb5,0x391c0cb3,0x4ed8aa4a,0x5b9cca4f,0x682e6ff3,
 0x748f82ee,0x78a5636f,0x84c87814,0x8cc70208,0x90befffa,0xa4506ceb,0xbef9a3f7,0xc67178f2]
def Rnd (w:World):Prop:=Lib.TabIs Tryz.prog w "sqlproof/digest.rounds" .u32 Sq.roundTab
theorem Rnd.below {w w':World}(h:Rnd w)(hb:Below w.heap.size w w'):Rnd w':=Lib.tabBelow_of_tabIs h w' hb
theorem jQfw (x b:Int)(w:World)(hb:(Decidable.decide (0 < b) && Decidable.decide (b < 32))=true) :
  Calls Tryz.prog 129 #[.int .u32 x,.int .u64 b] w fun e w'=>e=.returned (.int .u32 (Sq.rot x b.toNat))∧w'=w:=by
 simp at hb
 have e:((b.toNat:Nat):Int)=b:=by omega
 have:=jQlD x b.toNat w (by omega) (by omega)
 rw[e] at this
 exact this
theorem ha1 (w:World)(o:Obj):(w.alloc o).heap.size=w.heap.size+1:=by simp
structure Sq.Regs where
 a:Int
 b:Int
 c:Int
 d:Int
 e:Int
 f:Int
 g:Int
 h:Int
namespace Sq
def first (r:Regs)(kv wv:Int):Int:=m32 (r.h+bits .xor .u32 (bits .xor .u32 (rot r.e 6) (rot r.e 11)) (rot r.e 25)+bits .xor .u32 (bits .and .u32 r.e r.f) (bits .and .u32 (bits .xor .u32 IntKind.u32.max r.e) r.g)+kv+wv)
def second (r:Regs):Int:=m32 (bits .xor .u32 (bits .xor .u32 (rot r.a 2) (rot r.a 13)) (rot r.a 22)+bits .xor .u32 (bits .xor .u32 (bits .and .u32 r.a r.b) (bits .and .u32 r.a r.c)) (bits .and .u32 r.b r.c))
def stepR (r:Regs)(kv wv:Int):Regs:=⟨m32 (first r kv wv+second r),r.a,r.b,r.c,m32 (r.d+first r kv wv),r.e,r.f,r.g⟩
def roundsR (r:Regs)(ws:List Int):Nat→Regs
 | 0=>r
 | k+1=>stepR (roundsR r ws k) (roundTab.getD k 0) (at0 ws k)
def regsOf (s:List Int):Regs:=⟨at0 s 0,at0 s 1,at0 s 2,at0 s 3,at0 s 4,at0 s 5,at0 s 6,at0 s 7⟩
def mixR (s:List Int)(r:Regs):List Int:=[m32 (at0 s 0+r.a),m32 (at0 s 1+r.b),m32 (at0 s 2+r.c),m32 (at0 s 3+r.d),m32 (at0 s 4+r.e),m32 (at0 s 5+r.f),m32 (at0 s 6+r.g),m32 (at0 s 7+r.h)]
def mixed (s ws:List Int):List Int:=mixR s (roundsR (regsOf s) ws 64)
end Sq
theorem jQoM (s0 s1 s2 s3 s4 s5 s6 s7:Int)(ws:List Int)(w:World)(hws:ws.length=64)(hR:Rnd w) :
  Calls Tryz.prog 86 #[.agg (u32s [s0,s1,s2,s3,s4,s5,s6,s7]),.agg (u32s ws)] w fun e w'=>e=.returned (.agg (u32s (Sq.mixed [s0,s1,s2,s3,s4,s5,s6,s7] ws)))∧Below w.heap.size w w':=by
 have hR2:∀w',Below w.heap.size w w'→Rnd w':=fun w' hb=>hR.below hb
 have HR:=hd hR2
 have HWS:=hd hws
 clear hR hws hR2
 go_enter Tryz.func86,Tryz.ntmps86
 go_wp2
 obtain⟨wA,hwA⟩:∃x,x=(((w.alloc (.cells (u32s [s0,s1,s2,s3,s4,s5,s6,s7]) 144)).alloc (.cells (u32s ws) 146)).alloc (.cells (u32s [0,0,0,0,0,0,0,0]) 144)):=⟨_,rfl⟩
 have hbA:Below w.heap.size w wA:=by rw[hwA];exact(((Below.refl _ _).alloc (Nat.le_refl _) _).alloc (by simp) _).alloc (by simp;omega) _
 have hA0:wA.heap[w.heap.size]?=some (.cells (u32s [s0,s1,s2,s3,s4,s5,s6,s7]) 144):=by
  rw[hwA]
  exact(Below.heap_alloc _ _ _ (by simp;omega)).trans ((Below.heap_alloc _ _ _ (by simp)).trans (heap_alloc_new w _))
 have hA1:wA.heap[w.heap.size+1]?=some (.cells (u32s ws) 146):=by
  rw[hwA]
  exact(Below.heap_alloc _ _ _ (by simp)).trans (heap_alloc2_new w _ _)
 have hA2:wA.heap[w.heap.size+1+1]?=some (.cells (u32s [0,0,0,0,0,0,0,0]) 144):=by
  rw[hwA,←ha1 w (.cells (u32s [s0,s1,s2,s3,s4,s5,s6,s7]) 144),←ha1 (w.alloc (.cells (u32s [s0,s1,s2,s3,s4,s5,s6,s7]) 144)) (.cells (u32s ws) 146)]
  exact heap_alloc_new _ _
 refine Eq.mp (congrArg _ hwA) ?_
 clear hwA
 have c0:=jQz hA0 0 (by simp)
 have c1:=jQz hA0 1 (by simp)
 have c2:=jQz hA0 2 (by simp)
 have c3:=jQz hA0 3 (by simp)
 have c4:=jQz hA0 4 (by simp)
 have c5:=jQz hA0 5 (by simp)
 have c6:=jQz hA0 6 (by simp)
 have c7:=jQz hA0 7 (by simp)
 simp only[Sq.at0,List.getElem?_cons_zero,List.getElem?_cons_succ,Option.getD_some] at c0 c1 c2 c3 c4 c5 c6 c7
 have hzA:=jQg hA2
 have hz0:w.heap.size < wA.heap.size:=by omega
 have hz1:w.heap.size+1 < wA.heap.size:=by omega
 have HA0:=hd hA0
 have HA1:=hd hA1
 have HA2:=hd hA2
 have HBA:=hd hbA
 clear hA0 hA1 hA2 hbA
 go_quiet (fail)
 obtain⟨wB,hbB,hqB⟩:∃wq,Below wA.heap.size wA wq∧wA.drewN nq=wq:=⟨_,jQd2 _ _,rfl⟩
 rw[hqB]
 have k4:=((bcell hbB).1 w.heap.size 4 hz0).trans c4
 have k5:=((bcell hbB).1 w.heap.size 5 hz0).trans c5
 have k6:=((bcell hbB).1 w.heap.size 6 hz0).trans c6
 have k7:=((bcell hbB).1 w.heap.size 7 hz0).trans c7
 have hzB:=hbB.size
 have hz0B:w.heap.size < wB.heap.size:=by omega
 have HBB:=hd hbB
 clear hqB nq c0 c1 c2 c3 c4 c5 c6 c7 hbB
 go_wp2
 go_quiet (fail)
 obtain⟨wC,hbC,hqC⟩:∃wq,Below wB.heap.size wB wq∧wB.drewN nq=wq:=⟨_,jQd2 _ _,rfl⟩
 rw[hqC]
 have HBC:=hd (HBA.out.trans ((HBB.out.trans (hbC.mono hzB)).mono (by omega)))
 have hA1:=(hbC.block (w.heap.size+1) (by omega)).trans ((HBB.out.block (w.heap.size+1) hz1).trans HA1.out)
 have hA0:=(hbC.block w.heap.size hz0B).trans ((HBB.out.block w.heap.size hz0).trans HA0.out)
 have hA2:=(hbC.block (w.heap.size+1+1) (by omega)).trans ((HBB.out.block (w.heap.size+1+1) hzA).trans HA2.out)
 have hzC:=jQg hA2
 have HC0:=hd hA0
 have HC1:=hd hA1
 have HC2:=hd hA2
 clear hqC nq k4 k5 k6 k7 hbC hA0 hA1 hA2 HBB HA0 HA1 HA2 HBA hz0 hz1 hzA hzB hz0B
 go_wp2
 go_loopw [5,6,7,8,9,10,11,12,13] (fun a b c d e f g h i wr=>∃k:Nat,∃r:Sq.Regs,k≤64∧i=.int .i64 k∧a=.int .u32 r.a∧b=.int .u32 r.b∧c=.int .u32 r.c∧d=.int .u32 r.d∧e=.int .u32 r.e∧f=.int .u32 r.f∧g=.int .u32 r.g∧h=.int .u32 r.h∧Hid (r=Sq.roundsR (Sq.regsOf [s0,s1,s2,s3,s4,s5,s6,s7]) ws k)∧Below wC.heap.size wC wr) (fun _ _ _ _ _ _ _ _ i _=>64 - (intOf i).toNat)
 case atStart=>exact⟨0,⟨s0,s1,s2,s3,s4,s5,s6,s7⟩,by decide,rfl,rfl,rfl,rfl,rfl,rfl,rfl,rfl,rfl,rfl,Below.refl _ _⟩
 case round =>
  obtain⟨k,⟨ra,rb,rc,rd,re,rf,rg,rh⟩,hk,rfl,rfl,rfl,rfl,rfl,rfl,rfl,rfl,rfl,hreg,hb⟩:=hrel
  simp only
  have hz1:w.heap.size+1 < wr.heap.size:=by have:=hb.size;omega
  have hA1:=(hb.block (w.heap.size+1) (by omega)).trans HC1.out
  have HB:=hd hb
  by_cases hlt:k < 64
  ·have hRk:=Lib.TabIs.cell (HR.out wr (HBC.out.trans (hb.mono HBC.out.size))) (show Tryz.prog.globalNamed "sqlproof/digest.rounds"=some 0 by kernel_rfl) k hlt
   have cw:=jQz hA1 k (by rw[HWS.out];exact hlt)
   obtain⟨kv,hkv⟩:∃x,x=Sq.roundTab.getD k 0:=⟨_,rfl⟩
   obtain⟨wv,hwv⟩:∃x,x=Sq.at0 ws k:=⟨_,rfl⟩
   rw[←hkv] at hRk
   rw[←hwv] at cw
   have i1:(k:Int) < 64:=by omega
   have HKV:=hd hkv
   have HWV:=hd hwv
   clear hb hA1 hkv hwv
   go_wp2
   go_quiet (first | (go_at_call 129;refine Calls.quiet_of_same (jQfw _ _ _ (by decide))) | fail)
   obtain⟨wq,hbq,hqq⟩:∃wq,Below wr.heap.size wr wq∧wr.drewN nq=wq:=⟨_,jQd2 _ _,rfl⟩
   rw[hqq]
   have HBQ:=hd hbq
   clear hqq nq hbq hRk cw
   go_wp2_with (go_at_call 129;refine(jQfw _ _ _ (by decide)).mono ?_;rintro e' w' ⟨rfl,rfl⟩)
   go_roundw
   case rel =>
    refine⟨k+1,Sq.stepR ⟨ra,rb,rc,rd,re,rf,rg,rh⟩ kv wv,by omega,by go_num,rfl,rfl,rfl,rfl,rfl,rfl,rfl,rfl,?_,HB.out.trans (HBQ.out.mono HB.out.size)⟩
    show _=Sq.stepR (Sq.roundsR _ ws k) (Sq.roundTab.getD k 0) (Sq.at0 ws k)
    rw[←hreg.out,←HKV.out,←HWV.out]
   case measure=>simp[intOf];omega
  ·have hk64:k=64:=by omega
   subst hk64
   have HE:Hid (Sq.mixed [s0,s1,s2,s3,s4,s5,s6,s7] ws=[Sq.m32 (s0+ra),Sq.m32 (s1+rb),Sq.m32 (s2+rc),Sq.m32 (s3+rd),Sq.m32 (s4+re),Sq.m32 (s5+rf),Sq.m32 (s6+rg),Sq.m32 (s7+rh)]):=by
    show Sq.mixR _ (Sq.roundsR _ ws 64)=_
    rw[←hreg.out]
    rfl
   have hA0:=(hb.block w.heap.size (by omega)).trans HC0.out
   have hA2:=(hb.block (w.heap.size+1+1) (by omega)).trans HC2.out
   have c0:=jQz hA0 0 (by simp)
   have c1:=jQz hA0 1 (by simp)
   have c2:=jQz hA0 2 (by simp)
   have c3:=jQz hA0 3 (by simp)
   have c4:=jQz hA0 4 (by simp)
   have c5:=jQz hA0 5 (by simp)
   have c6:=jQz hA0 6 (by simp)
   have c7:=jQz hA0 7 (by simp)
   simp only[Sq.at0,List.getElem?_cons_zero,List.getElem?_cons_succ,Option.getD_some] at c0 c1 c2 c3 c4 c5 c6 c7
   have HHR:=hd hA2
   have hz2:=jQg hA2
   have hz3:w.heap.size < wr.heap.size:=by omega
   have HBF:=hd (HBC.out.trans (HB.out.mono HBC.out.size))
   have HUS:Hid ((Tryz.prog.info? 144).map (·.size)=some 8):=by show _=_;kernel_rfl
   clear hb hA0 hA1 hA2 hreg HC0 HC1 HC2
   go_wp2_with (
          with_reducible show wpList _ _ _ ({ dst:=none,op:=Op.store _ _ _,type:=_,pos:=_,after:=_,guard:=_ } :: _) _ _
          refine wpList_store_row rfl 144 (.tmp 4) (.tmp 131) rfl (w.heap.size+1+1) (u32s [Sq.m32 (s0+ra),Sq.m32 (s1+rb),Sq.m32 (s2+rc),Sq.m32 (s3+rd),Sq.m32 (s4+re),Sq.m32 (s5+rf),Sq.m32 (s6+rg),Sq.m32 (s7+rh)]) rfl rfl 144 _ HHR.out HUS.out rfl (jQly _) ?_)
   have hres:=setRow_heap wr (w.heap.size+1+1) _ (u32s [Sq.m32 (s0+ra),Sq.m32 (s1+rb),Sq.m32 (s2+rc),Sq.m32 (s3+rd),Sq.m32 (s4+re),Sq.m32 (s5+rf),Sq.m32 (s6+rg),Sq.m32 (s7+rh)]) 144 (0,0) HHR.out
   rw[HE.out]
   refine bodyPost_ret (v:=.agg (u32s [Sq.m32 (s0+ra),Sq.m32 (s1+rb),Sq.m32 (s2+rc),Sq.m32 (s3+rd),Sq.m32 (s4+re),Sq.m32 (s5+rf),Sq.m32 (s6+rg),Sq.m32 (s7+rh)])) (results_cell_row Tryz.results86 _ _ (w.heap.size+1+1) 144 _ (0,0) _ rfl hres Tryz.underlying144 rfl HUS.out) rfl ⟨rfl,below_setRow HBF.out (by omega) _⟩
end
section
open Go.RowKit
namespace Sq
def zerosTo:Nat→List UInt8→List UInt8
 | 0,l=>l
 | f+1,l=>if HMod.hMod l.length 64=56 then l else zerosTo f (l++[0])
def tail8:Nat→Int→List UInt8
 | 0,_=>[]
 | k+1,b=>UInt8.ofNat (HMod.hMod (b / 72057594037927936) (256:Int)).toNat :: tail8 k (IntKind.u64.wrap (b * 256))
theorem jQji:∀(k:Nat) (b:Int),(tail8 k b).length=k
 | 0,_=>rfl
 | k+1,b=>by rw[tail8,List.length_cons,jQji k]
def padded (t:ByteArray):List UInt8:=zerosTo 64 (t.data.toList++[0x80])++tail8 8 ((t.size:Int) * 8)
theorem jQfo:∀(f:Nat) (l:List UInt8),HMod.hMod (120 - (HMod.hMod l.length 64:Nat)) 64≤f→HMod.hMod (zerosTo f l).length 64=56∧l.length≤(zerosTo f l).length∧(zerosTo f l).length≤l.length+f
 | 0,l,h=>by
  rw[zerosTo]
  omega
 | f+1,l,h=>by
  rw[zerosTo]
  split
  ·omega
  ·have:=jQfo f (l++[0]) (by rw[List.length_append];simp;omega)
   rw[List.length_append] at this
   simp at this
   omega
theorem jQmv (t:ByteArray):HMod.hMod (padded t).length 64=0∧64≤(padded t).length∧(padded t).length≤t.size+73:=by
 have h1:(t.data.toList++[(0x80:UInt8)]).length=t.size+1:=by rw[List.length_append,Array.length_toList];rfl
 have h:=jQfo 64 (t.data.toList++[0x80]) (by omega)
 unfold padded
 rw[List.length_append,jQji]
 omega
end Sq
theorem jQmw (t:ByteArray)(w:World)(ht:t.size≤1000000) :
  Calls Tryz.prog 85 #[.string t] w fun e w'=>∃v,e=.returned v∧BufF w.heap.size w' v (Sq.padded t)∧Below w.heap.size w w':=by
 have hcv:=Lib.run_convert_string_bytes (P:=Tryz.prog) w 9 55 5 t Tryz.underlying9 Tryz.underlying55 Tryz.underlying5
 obtain⟨hbf,hbc⟩:=jQra w t
 obtain⟨wc,hwc⟩:∃x,x=Lib.bytesWorld w 5 t:=⟨_,rfl⟩
 obtain⟨cap,hcap⟩:∃x,x=grownCap w t.size 0 5:=⟨_,rfl⟩
 rw[←hwc,←hcap] at hcv hbf
 rw[←hwc] at hbc
 have hz:=hbc.size
 have HBF:=hd hbf
 have HBC:=hd hbc
 have HCV:=hd hcv
 have htl:t.data.toList.length=t.size:=Array.length_toList
 have HTL:=hd htl
 clear hwc hcap hbf hbc hcv htl
 go_enter Tryz.func85,Tryz.ntmps85
 go_wp2
 rw[HCV.out]
 go_wp2_with (at_builtin;refine jQat rfl (.tmp 7) (.tmp 8) rfl w.heap.size _ t.data.toList rfl (by have:=HBF.out.below ((Below.refl _ _).alloc (Nat.le_refl _) (.cells #[.int .u8 128] 5));rw[HTL.out] at *;exact this) 0x80 ⟨wc.heap.size,0,none⟩ 1 rfl (by simp[go_sem]) (by rw[HTL.out];omega) (by simp;omega) ?_;intro v3 w3 hbuf3 hb3;have HBUF3:=hd hbuf3;have HB3:=hd hb3;clear hbuf3 hb3)
 have HB03:Hid (Below w.heap.size w w3):=HBC.out.trans ((Below.mono (B':=w.heap.size) ((Below.refl _ _).alloc (Nat.le_refl _) _) hz).trans HB3.out)
 have HL0:Hid ((t.data.toList++[(0x80:UInt8)]).length=t.size+1):=by show _=_;rw[List.length_append,HTL.out];rfl
 have HPAD:Hid (Sq.padded t=Sq.zerosTo 64 (t.data.toList++[0x80])++Sq.tail8 8 ((t.size:Int) * 8)):=rfl
 obtain⟨l0,hl0⟩:∃x,x=t.data.toList++[(0x80:UInt8)]:=⟨_,rfl⟩
 have hbuf3:=HBUF3.out
 have hll:=HL0.out
 have hpad:=HPAD.out
 rw[←hl0] at hbuf3 hll hpad
 have hz3:=HB03.out.size
 obtain⟨ao,acap,rfl⟩:=hbuf3.slice
 have HBUF4:=hd hbuf3
 have HLL:=hd hll
 have HPAD2:=hd hpad
 have hl0b:l0.length≤1000001:=by omega
 clear hl0 hbuf3 hll hpad HPAD HL0 HBUF3 HB3 HBF HCV HBC
 go_loopw [3] (fun v wr=>∃f:Nat,∃l:List UInt8,f≤64∧BufF w.heap.size wr v l∧l0.length≤l.length∧l.length+f≤l0.length+64∧HMod.hMod (120 - (HMod.hMod l.length 64:Nat)) 64≤f∧Hid (Sq.zerosTo 64 l0=Sq.zerosTo f l)∧Below w.heap.size w wr) (fun v _=>100000000 - (lenOf v))
 case atStart=>exact⟨64,l0,Nat.le_refl _,HBUF4.out,Nat.le_refl _,Nat.le_refl _,by omega,rfl,HB03.out⟩
 case round =>
  obtain⟨f,l,hf,hbuf,hlo,hhi,hneed,hzt,hb⟩:=hrel
  obtain⟨wo,rfl⟩:∃wo:World,wo=wr:=⟨_,rfl⟩
  obtain⟨xo,xcap,rfl⟩:=hbuf.slice
  have hzo:=hb.size
  have HBUF:=hd hbuf
  have HB:=hd hb
  clear hb hbuf
  have hlI:l.length≤1000100:=by omega
  by_cases hm:HMod.hMod l.length 64=56
  ·have i1:HMod.hMod (l.length:Int) (64:Int)=56:=by omega
   have HZ:Hid (Sq.zerosTo 64 l0=l):=by
    show _=_
    rw[hzt.out]
    cases f with
    | zero=>rfl
    | succ f=>rw[Sq.zerosTo,if_pos hm]
   have hpad:=HPAD2.out
   rw[HZ.out] at hpad
   have HPAD3:=hd hpad
   clear hpad HZ hzt
   go_wp2
   clear i1
   go_loopw [3,4,5] (fun v bv i wr=>∃j:Nat,∃q:Int,∃m:List UInt8,j≤8∧i=.int .i64 j∧bv=.int .u64 q∧BufF w.heap.size wr v m∧m.length≤1000100+j∧Hid (Sq.padded t=m++Sq.tail8 (8 - j) q)∧Below w.heap.size w wr) (fun _ _ i _=>8 - (intOf i).toNat)
   case atStart=>exact⟨0,(t.size:Int) * 8,l,by decide,rfl,by go_num,HBUF.out,by omega,HPAD3,HB.out⟩
   case round =>
    obtain⟨j,q,m,hj,rfl,rfl,hbuf5,hml,hpd,hb5⟩:=hrel
    obtain⟨wo5,rfl⟩:∃wo:World,wo=wr:=⟨_,rfl⟩
    obtain⟨yo,ycap,rfl⟩:=hbuf5.slice
    have hz5:=hb5.size
    have HBUF5:=hd hbuf5
    have HB5:=hd hb5
    clear hb5 hbuf5
    by_cases hjt:j < 8
    ·have hpd2:Sq.padded t=(m++[UInt8.ofNat (HMod.hMod (q / 72057594037927936) (256:Int)).toNat])++Sq.tail8 (8 - (j+1)) (IntKind.u64.wrap (q * 256)):=by
      rw[hpd.out,show 8 - j=(8 - (j+1))+1 by omega,Sq.tail8,List.append_assoc]
      rfl
     have hbn:=Sq.jQiP (q / 72057594037927936)
     obtain⟨b,hbb⟩:∃b,b=UInt8.ofNat (HMod.hMod (q / 72057594037927936) (256:Int)).toNat:=⟨_,rfl⟩
     rw[←hbb] at hpd2 hbn
     have HPD:=hd hpd2
     have HBN:=hd hbn
     have HBA:=hd (HBUF5.out.below ((Below.refl _ _).alloc (Nat.le_refl _) (.cells #[.int .u8 (HMod.hMod (q / 72057594037927936) (256:Int))] 5)))
     clear hpd2 hbn hbb hpd
     go_wp2_with (at_builtin;refine jQat rfl (.tmp 25) (.tmp 29) rfl w.heap.size _ m rfl HBA.out b ⟨wo5.heap.size,0,none⟩ 1 rfl (by rw[HBN.out];simp[go_sem]) (by omega) (by simp;omega) ?_;intro v6 w6 hbuf6 hb6;have HBUF6:=hd hbuf6;have HB6:=hd hb6;clear hbuf6 hb6)
     go_roundw
     case rel=>exact⟨j+1,_,m++[b],by omega,by go_num,rfl,HBUF6.out,by rw[List.length_append];simp;omega,HPD,HB5.out.trans ((Below.mono (B':=w.heap.size) ((Below.refl _ _).alloc (Nat.le_refl _) _) hz5).trans HB6.out)⟩
     case measure=>simp[intOf];omega
    ·have HE:Hid (Sq.padded t=m):=by show _=_;rw[hpd.out,show 8 - j=0 by omega,Sq.tail8,List.append_nil]
     clear hpd
     go_wp2
     go_ret
     exact⟨_,rfl,by rw[HE.out];exact HBUF5.out,HB5.out⟩
  ·have i1:¬(HMod.hMod (l.length:Int) (64:Int)=56):=by omega
   obtain⟨f',rfl⟩:∃f',f=f'+1:=⟨f - 1,by omega⟩
   have HZ:Hid (Sq.zerosTo 64 l0=Sq.zerosTo f' (l++[0])):=by show _=_;rw[hzt.out,Sq.zerosTo,if_neg hm]
   have HBA:=hd (HBUF.out.below ((Below.refl _ _).alloc (Nat.le_refl _) (.cells #[.int .u8 0] 5)))
   clear hzt
   go_wp2_with (at_builtin;refine jQat rfl (.tmp 14) (.tmp 15) rfl w.heap.size _ l rfl HBA.out 0 ⟨wo.heap.size,0,none⟩ 1 rfl (by simp[go_sem]) (by omega) (by simp;omega) ?_;intro v6 w6 hbuf6 hb6;obtain⟨zo,zcap,hv6⟩:=hbuf6.slice;rw[List.length_append,List.length_singleton] at hv6;subst hv6;have HBUF6:=hd hbuf6;have HB6:=hd hb6;clear hbuf6 hb6)
   go_roundw
   case rel=>exact⟨f',l++[0],by omega,HBUF6.out,by rw[List.length_append];simp;omega,by rw[List.length_append];simp;omega,by rw[List.length_append];simp;omega,HZ,HB.out.trans ((Below.mono (B':=w.heap.size) ((Below.refl _ _).alloc (Nat.le_refl _) _) hzo).trans HB6.out)⟩
   case measure=>simp[lenOf];omega
end
end Go.Proofs.YtahpihjialbanaaGreatDoor
