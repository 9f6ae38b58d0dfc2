import Derived.Lib.LaidTab
import Derived.Test.YtahpihjialbanaaGreatDoorQbm
set_option linter.unusedVariables false
set_option linter.unusedSimpArgs false
set_option maxRecDepth 100000
set_option maxHeartbeats 2000000
namespace Go.Proofs.YtahpihjialbanaaGreatDoor
section
open Go.RowKit
def Sq.roundTab:List Int:=[0x428a2f98,0x71374491,0xb5c0fbcf,0xe9b5dba5,0x3956c25b,0x59f111f1,0x923f82a4,0xab1c5ed5,
 0xd807aa98,0x12835b01,0x243185be,0x550c7dc3,0x72be5d74,0x80deb1fe,0x9bdc06a7,0xc19bf174,
 0xe49b69c1,0xefbe4786,0x0fc19dc6,0x240ca1cc,0x2de92c6f,0x4a7484aa,0x5cb0a9dc,0x76f988da,
 0x983e5152,0xa831c66d,0xb00327c8,0xbf597fc7,0xc6e00bf3,0xd5a79147,0x06ca6351,0x14292967,
 0x27b70a85,0x2e1b2138,0x4d2c6dfc,0x53380d13,0x650a7354,0x766a0abb,0x81c2c92e,0x92722c85,
 0xa2bfe8a1,0xa81a664b,0xc24b8b70,0xc76c51a3,0xd192e819,0xd6990624,0xf40e3585,0x106aa070,
 0x19a4c116,0x1e376c08,0x2748774c,0x34b0bcb5,0x391c0cb3,0x4ed8aa4a,0x5b9cca4f,0x682e6ff3,
 0x748f82ee,0x78a5636f,0x84c87814,0x8cc70208,0x90befffa,0xa4506ceb,0xbef9a3f7,0xc67178f2]
def Rnd (w:World):Prop:=Lib.TabIs Tryz.prog w "sqlproof/digest.rounds" .u32 Sq.roundTab
theorem Rnd.below {w w':World}(h:Rnd w)(hb:Below w.heap.size w w'):Rnd w':=Lib.tabBelow_of_tabIs h w' hb
theorem jQfB (x b:Int)(w:World)(hb:(Decidable.decide (0<b)&&Decidable.decide (b<32))=true) :
  Calls Tryz.prog 129 #[.int .u32 x,.int .u64 b] w fun e w'=>e=.returned (.int .u32 (Sq.rot x b.toNat))/\w'=w:=by
 simp at hb;have e:((b.toNat:Nat):Int)=b:=by omega
 have:=jQlV x b.toNat w (by omega) (by omega)
 rw[e] at this;exact this
theorem ha1 (w:World)(o:Obj):(w.alloc o).heap.size=w.heap.size+1:=by simp
structure Sq.Regs where
 a:Int
 b:Int
 c:Int
 d:Int
 e:Int
 f:Int
 g:Int
 h:Int
namespace Sq
def first (r:Regs)(kv wv:Int):Int:=m32 (r.h+bits .xor .u32 (bits .xor .u32 (rot r.e 6) (rot r.e 11)) (rot r.e 25)+bits .xor .u32 (bits .and .u32 r.e r.f) (bits .and .u32 (bits .xor .u32 IntKind.u32.max r.e) r.g)+kv+wv)
def second (r:Regs):Int:=m32 (bits .xor .u32 (bits .xor .u32 (rot r.a 2) (rot r.a 13)) (rot r.a 22)+bits .xor .u32 (bits .xor .u32 (bits .and .u32 r.a r.b) (bits .and .u32 r.a r.c)) (bits .and .u32 r.b r.c))
def stepR (r:Regs)(kv wv:Int):Regs:=⟨m32 (first r kv wv+second r),r.a,r.b,r.c,m32 (r.d+first r kv wv),r.e,r.f,r.g⟩
def roundsR (r:Regs)(ws:List Int):Nat->Regs
 | 0=>r
 | k+1=>stepR (roundsR r ws k) (roundTab.getD k 0) (at0 ws k)
def regsOf (s:List Int):Regs:=⟨at0 s 0,at0 s 1,at0 s 2,at0 s 3,at0 s 4,at0 s 5,at0 s 6,at0 s 7⟩
def mixR (s:List Int)(r:Regs):List Int:=[m32 (at0 s 0+r.a),m32 (at0 s 1+r.b),m32 (at0 s 2+r.c),m32 (at0 s 3+r.d),m32 (at0 s 4+r.e),m32 (at0 s 5+r.f),m32 (at0 s 6+r.g),m32 (at0 s 7+r.h)]
def mixed (s ws:List Int):List Int:=mixR s (roundsR (regsOf s) ws 64)
end Sq
theorem jQpd (s0 s1 s2 s3 s4 s5 s6 s7:Int)(ws:List Int)(w:World)(hws:ws.length=64)(hR:Rnd w) :
  Calls Tryz.prog 86 #[.agg (u32s [s0,s1,s2,s3,s4,s5,s6,s7]),.agg (u32s ws)] w fun e w'=>e=.returned (.agg (u32s (Sq.mixed [s0,s1,s2,s3,s4,s5,s6,s7] ws)))/\Below w.heap.size w w':=by
 have hn:∀w',Below w.heap.size w w'->Rnd w':=fun w' hb=>hR.below hb
 have HR:=hd hn;have hB:=hd hws;clear hR hws hn;go_enter Tryz.func86,Tryz.ntmps86;go_wp2;obtain⟨wA,hwA⟩:∃x,x=(((w.alloc (.cells (u32s [s0,s1,s2,s3,s4,s5,s6,s7]) 144)).alloc (.cells (u32s ws) 146)).alloc (.cells (u32s [0,0,0,0,0,0,0,0]) 144)):=⟨_,rfl⟩;have ht:Below w.heap.size w wA:=by rw[hwA];exact(((bR).alloc (nR) _).alloc (by simp) _).alloc (by simp;omega) _
 have ha:wA.heap[w.heap.size]?=some (.cells (u32s [s0,s1,s2,s3,s4,s5,s6,s7]) 144):=by
  rw[hwA];exact(Below.heap_alloc _ _ _ (by simp;omega)).trans ((Below.heap_alloc _ _ _ (by simp)).trans (heap_alloc_new w _))
 have he:wA.heap[w.heap.size+1]?=some (.cells (u32s ws) 146):=by
  rw[hwA];exact(Below.heap_alloc _ _ _ (by simp)).trans (heap_alloc2_new w _ _)
 have hc:wA.heap[w.heap.size+1+1]?=some (.cells (u32s [0,0,0,0,0,0,0,0]) 144):=by
  rw[hwA,<-ha1 w (.cells (u32s [s0,s1,s2,s3,s4,s5,s6,s7]) 144),<-ha1 (w.alloc (.cells (u32s [s0,s1,s2,s3,s4,s5,s6,s7]) 144)) (.cells (u32s ws) 146)];exact heap_alloc_new _ _
 refine Eq.mp (congrArg _ hwA) ?_;clear hwA;have c0:=jQB ha 0 (by simp);have c1:=jQB ha 1 (by simp);have c2:=jQB ha 2 (by simp);have c3:=jQB ha 3 (by simp);have c4:=jQB ha 4 (by simp);have c5:=jQB ha 5 (by simp);have c6:=jQB ha 6 (by simp);have c7:=jQB ha 7 (by simp);simp only[Sq.at0,List.getElem?_cons_zero,List.getElem?_cons_succ,Option.getD_some] at c0 c1 c2 c3 c4 c5 c6 c7;have hp:=jQf hc;have hf:w.heap.size<wA.heap.size:=by omega
 have hm:w.heap.size+1<wA.heap.size:=by omega
 have hz:=hd ha;have hv:=hd he;have hx:=hd hc;have hr:=hd ht;clear ha he hc ht
 go_quiet (fail)
 obtain⟨wB,hbB,hqB⟩:∃wq,Below wA.heap.size wA wq/\wA.drewN nq=wq:=⟨_,jQdW _ _,rfl⟩;rw[hqB];have k4:=((bcell hbB).1 w.heap.size 4 hf).trans c4;have k5:=((bcell hbB).1 w.heap.size 5 hf).trans c5;have k6:=((bcell hbB).1 w.heap.size 6 hf).trans c6;have k7:=((bcell hbB).1 w.heap.size 7 hf).trans c7;have hy:=hbB.size;have hh:w.heap.size<wB.heap.size:=by omega
 have hg:=hd hbB;clear hqB nq c0 c1 c2 c3 c4 c5 c6 c7 hbB;go_wp2
 go_quiet (fail)
 obtain⟨wC,hbC,hqC⟩:∃wq,Below wB.heap.size wB wq/\wB.drewN nq=wq:=⟨_,jQdW _ _,rfl⟩;rw[hqC];have hi:=hd (hr.o.trans ((hg.o.trans (hbC.mono hy)).mono (by omega)));have he:=(hbC.block (w.heap.size+1) (by omega)).trans ((hg.o.block (w.heap.size+1) hm).trans hv.o);have ha:=(hbC.block w.heap.size hh).trans ((hg.o.block w.heap.size hf).trans hz.o);have hc:=(hbC.block (w.heap.size+1+1) (by omega)).trans ((hg.o.block (w.heap.size+1+1) hp).trans hx.o);have hG:=jQf hc;have hu:=hd ha;have hq:=hd he;have hw:=hd hc;clear hqC nq k4 k5 k6 k7 hbC ha he hc hg hz hv hx hr hf hm hp hy hh;go_wp2
 go_loopw [5,6,7,8,9,10,11,12,13] (fun a b c d e f g h i wr=>∃k:Nat,∃r:Sq.Regs,k<=64/\i=.int .i64 k/\a=.int .u32 r.a/\b=.int .u32 r.b/\c=.int .u32 r.c/\d=.int .u32 r.d/\e=.int .u32 r.e/\f=.int .u32 r.f/\g=.int .u32 r.g/\h=.int .u32 r.h/\Hid (r=Sq.roundsR (Sq.regsOf [s0,s1,s2,s3,s4,s5,s6,s7]) ws k)/\Below wC.heap.size wC wr) (fun _ _ _ _ _ _ _ _ i _=>64-(intOf i).toNat)
 case atStart=>exact⟨0,⟨s0,s1,s2,s3,s4,s5,s6,s7⟩,by decide,rfl,rfl,rfl,rfl,rfl,rfl,rfl,rfl,rfl,rfl,bR⟩
 case round =>
  obtain⟨k,⟨ra,rb,rc,rd,re,rf,rg,rh⟩,hk,rfl,rfl,rfl,rfl,rfl,rfl,rfl,rfl,rfl,hreg,hb⟩:=hrel;simp only;have hm:w.heap.size+1<wr.heap.size:=by have:=hb.size;omega
  have he:=(hb.block (w.heap.size+1) (by omega)).trans hq.o;have HB:=hd hb
  by_cases hlt:k<64
  ·have hA:=Lib.TabIs.cell (HR.o wr (hi.o.trans (hb.mono hi.o.size))) (show Tryz.prog.globalNamed "sqlproof/digest.rounds"=some 0 by kernel_rfl) k hlt;have cw:=jQB he k (by rw[hB.o];exact hlt);obtain⟨kv,hkv⟩:∃x,x=Sq.roundTab.getD k 0:=⟨_,rfl⟩;obtain⟨wv,hwv⟩:∃x,x=Sq.at0 ws k:=⟨_,rfl⟩;rw[<-hkv] at hA;rw[<-hwv] at cw;have i1:(k:Int)<64:=by omega
   have hC:=hd hkv;have hD:=hd hwv;clear hb he hkv hwv;go_wp2
   go_quiet (first | (go_at_call 129;refine Calls.quiet_of_same (jQfB _ _ _ (by decide))) | fail)
   obtain⟨wq,hbq,hqq⟩:∃wq,Below wr.heap.size wr wq/\wr.drewN nq=wq:=⟨_,jQdW _ _,rfl⟩;rw[hqq];have hF:=hd hbq;clear hqq nq hbq hA cw;go_wp2_with (go_at_call 129;refine(jQfB _ _ _ (by decide)).mono ?_;rintro e' w' ⟨rfl,rfl⟩);go_roundw
   case rel =>
    refine⟨k+1,Sq.stepR ⟨ra,rb,rc,rd,re,rf,rg,rh⟩ kv wv,by omega,by go_num,rfl,rfl,rfl,rfl,rfl,rfl,rfl,rfl,?_,HB.o.trans (hF.o.mono HB.o.size)⟩;show _=Sq.stepR (Sq.roundsR _ ws k) (Sq.roundTab.getD k 0) (Sq.at0 ws k);rw[<-hreg.o,<-hC.o,<-hD.o]
   case measure=>simp[intOf];omega
  ·have hj:k=64:=by omega
   subst hj
   have HE:Hid (Sq.mixed [s0,s1,s2,s3,s4,s5,s6,s7] ws=[Sq.m32 (s0+ra),Sq.m32 (s1+rb),Sq.m32 (s2+rc),Sq.m32 (s3+rd),Sq.m32 (s4+re),Sq.m32 (s5+rf),Sq.m32 (s6+rg),Sq.m32 (s7+rh)]):=by
    show Sq.mixR _ (Sq.roundsR _ ws 64)=_;rw[<-hreg.o];rfl
   have ha:=(hb.block w.heap.size (by omega)).trans hu.o;have hc:=(hb.block (w.heap.size+1+1) (by omega)).trans hw.o;have c0:=jQB ha 0 (by simp);have c1:=jQB ha 1 (by simp);have c2:=jQB ha 2 (by simp);have c3:=jQB ha 3 (by simp);have c4:=jQB ha 4 (by simp);have c5:=jQB ha 5 (by simp);have c6:=jQB ha 6 (by simp);have c7:=jQB ha 7 (by simp);simp only[Sq.at0,List.getElem?_cons_zero,List.getElem?_cons_succ,Option.getD_some] at c0 c1 c2 c3 c4 c5 c6 c7;have ho:=hd hc;have hI:=jQf hc;have hH:w.heap.size<wr.heap.size:=by omega
   have hE:=hd (hi.o.trans (HB.o.mono hi.o.size));have hs:Hid ((Tryz.prog.info? 144).map (·.size)=some 8):=by show _=_;kernel_rfl
   clear hb ha he hc hreg hu hq hw
   go_wp2_with (
          with_reducible show wpList _ _ _ ({ dst:=none,op:=Op.store _ _ _,type:=_,pos:=_,after:=_,guard:=_ }::_) _ _
          refine wpList_store_row rfl 144 (.tmp 4) (.tmp 131) rfl (w.heap.size+1+1) (u32s [Sq.m32 (s0+ra),Sq.m32 (s1+rb),Sq.m32 (s2+rc),Sq.m32 (s3+rd),Sq.m32 (s4+re),Sq.m32 (s5+rf),Sq.m32 (s6+rg),Sq.m32 (s7+rh)]) rfl rfl 144 _ ho.o hs.o rfl (jQlR _) ?_)
   have hl:=setRow_heap wr (w.heap.size+1+1) _ (u32s [Sq.m32 (s0+ra),Sq.m32 (s1+rb),Sq.m32 (s2+rc),Sq.m32 (s3+rd),Sq.m32 (s4+re),Sq.m32 (s5+rf),Sq.m32 (s6+rg),Sq.m32 (s7+rh)]) 144 (0,0) ho.o;rw[HE.o];refine bodyPost_ret (v:=.agg (u32s [Sq.m32 (s0+ra),Sq.m32 (s1+rb),Sq.m32 (s2+rc),Sq.m32 (s3+rd),Sq.m32 (s4+re),Sq.m32 (s5+rf),Sq.m32 (s6+rg),Sq.m32 (s7+rh)])) (results_cell_row Tryz.results86 _ _ (w.heap.size+1+1) 144 _ (0,0) _ rfl hl Tryz.underlying144 rfl hs.o) rfl ⟨rfl,below_setRow hE.o (by omega) _⟩
end
section
open Go.RowKit
namespace Sq
def zerosTo:Nat->List UInt8->List UInt8
 | 0,l=>l
 | f+1,l=>if HMod.hMod l.length 64=56 then l else zerosTo f (l++[0])
def tail8:Nat->Int->List UInt8
 | 0,_=>[]
 | k+1,b=>UInt8.ofNat (HMod.hMod (b / 72057594037927936) (256:Int)).toNat::tail8 k (IntKind.u64.wrap (b*256))
theorem jQjD:∀(k:Nat) (b:Int),(tail8 k b).length=k
 | 0,_=>rfl
 | k+1,b=>by rw[tail8,List.length_cons,jQjD k]
def padded (t:ByteArray):List UInt8:=zerosTo 64 (t.data.toList++[0x80])++tail8 8 ((t.size:Int)*8)
theorem jQft:∀(f:Nat) (l:List UInt8),HMod.hMod (120-(HMod.hMod l.length 64:Nat)) 64<=f->HMod.hMod (zerosTo f l).length 64=56/\l.length<=(zerosTo f l).length/\(zerosTo f l).length<=l.length+f
 | 0,l,h=>by
  rw[zerosTo];omega
 | f+1,l,h=>by
  rw[zerosTo]
  split
  ·omega
  ·have:=jQft f (l++[0]) (by rw[List.length_append];simp;omega)
   rw[List.length_append] at this;simp at this;omega
theorem jQmR (t:ByteArray):HMod.hMod (padded t).length 64=0/\64<=(padded t).length/\(padded t).length<=t.size+73:=by
 have h1:(t.data.toList++[(0x80:UInt8)]).length=t.size+1:=by rw[List.length_append,Array.length_toList];rfl
 have h:=jQft 64 (t.data.toList++[0x80]) (by omega);unfold padded;rw[List.length_append,jQjD];omega
end Sq
theorem jQmS (t:ByteArray)(w:World)(ht:t.size<=1000000) :
  Calls Tryz.prog 85 #[.string t] w fun e w'=>∃v,e=.returned v/\BufF w.heap.size w' v (Sq.padded t)/\Below w.heap.size w w':=by
 have hr:=Lib.run_convert_string_bytes (P:=Tryz.prog) w 9 55 5 t Tryz.underlying9 Tryz.underlying55 Tryz.underlying5;obtain⟨hbf,hbc⟩:=jQq1 w t;obtain⟨wc,hwc⟩:∃x,x=Lib.bytesWorld w 5 t:=⟨_,rfl⟩;obtain⟨cap,hcap⟩:∃x,x=grownCap w t.size 0 5:=⟨_,rfl⟩;rw[<-hwc,<-hcap] at hr hbf;rw[<-hwc] at hbc;have hz:=hbc.size;have hD:=hd hbf;have hy:=hd hbc;have hF:=hd hr;have hC:t.data.toList.length=t.size:=Array.length_toList;have hu:=hd hC;clear hwc hcap hbf hbc hr hC;go_enter Tryz.func85,Tryz.ntmps85;go_wp2;rw[hF.o];go_wp2_with (at_builtin;refine jQal rfl (.tmp 7) (.tmp 8) rfl w.heap.size _ t.data.toList rfl (by have:=hD.o.below ((bR).alloc (nR) (.cells #[.int .u8 128] 5));rw[hu.o] at *;exact this) 0x80 ⟨wc.heap.size,0,none⟩ 1 rfl (by simp[go_sem]) (by rw[hu.o];omega) (by simp;omega) ?_;intro v3 w3 ha hb3;have hg:=hd ha;have hB:=hd hb3;clear ha hb3);have ho:Hid (Below w.heap.size w w3):=hy.o.trans ((Below.mono (B':=w.heap.size) ((bR).alloc (nR) _) hz).trans hB.o);have hA:Hid ((t.data.toList++[(0x80:UInt8)]).length=t.size+1):=by show _=_;rw[List.length_append,hu.o];rfl
 have hq:Hid (Sq.padded t=Sq.zerosTo 64 (t.data.toList++[0x80])++Sq.tail8 8 ((t.size:Int)*8)):=rfl;obtain⟨l0,hl0⟩:∃x,x=t.data.toList++[(0x80:UInt8)]:=⟨_,rfl⟩;have ha:=hg.o;have hv:=hA.o;have hc:=hq.o;rw[<-hl0] at ha hv hc;have hM:=ho.o.size;obtain⟨ao,acap,rfl⟩:=ha.slice;have hp:=hd ha;have hN:=hd hv;have hn:=hd hc;have hJ:l0.length<=1000001:=by omega
 clear hl0 ha hv hc hq hA hg hB hD hF hy
 go_loopw [3] (fun v wr=>∃f:Nat,∃l:List UInt8,f<=64/\BufF w.heap.size wr v l/\l0.length<=l.length/\l.length+f<=l0.length+64/\HMod.hMod (120-(HMod.hMod l.length 64:Nat)) 64<=f/\Hid (Sq.zerosTo 64 l0=Sq.zerosTo f l)/\Below w.heap.size w wr) (fun v _=>100000000-(lenOf v))
 case atStart=>exact⟨64,l0,nR,hp.o,nR,nR,by omega,rfl,ho.o⟩
 case round =>
  obtain⟨f,l,hf,hbuf,hlo,hhi,hneed,hzt,hb⟩:=hrel;obtain⟨wo,rfl⟩:∃wo:World,wo=wr:=⟨_,rfl⟩;obtain⟨xo,xcap,rfl⟩:=hbuf.slice;have hK:=hb.size;have hk:=hd hbuf;have HB:=hd hb;clear hb hbuf;have hL:l.length<=1000100:=by omega
  by_cases hm:HMod.hMod l.length 64=56
  ·have i1:HMod.hMod (l.length:Int) (64:Int)=56:=by omega
   have HZ:Hid (Sq.zerosTo 64 l0=l):=by
    show _=_;rw[hzt.o];cases f with
    | zero=>rfl
    | succ f=>rw[Sq.zerosTo,if_pos hm]
   have hc:=hn.o;rw[HZ.o] at hc;have hl:=hd hc;clear hc HZ hzt;go_wp2;clear i1
   go_loopw [3,4,5] (fun v bv i wr=>∃j:Nat,∃q:Int,∃m:List UInt8,j<=8/\i=.int .i64 j/\bv=.int .u64 q/\BufF w.heap.size wr v m/\m.length<=1000100+j/\Hid (Sq.padded t=m++Sq.tail8 (8-j) q)/\Below w.heap.size w wr) (fun _ _ i _=>8-(intOf i).toNat)
   case atStart=>exact⟨0,(t.size:Int)*8,l,by decide,rfl,by go_num,hk.o,by omega,hl,HB.o⟩
   case round =>
    obtain⟨j,q,m,hj,rfl,rfl,hbuf5,hml,hpd,hb5⟩:=hrel;obtain⟨wo5,rfl⟩:∃wo:World,wo=wr:=⟨_,rfl⟩;obtain⟨yo,ycap,rfl⟩:=hbuf5.slice;have hG:=hb5.size;have hh:=hd hbuf5;have hE:=hd hb5;clear hb5 hbuf5
    by_cases hjt:j<8
    ·have hi:Sq.padded t=(m++[UInt8.ofNat (HMod.hMod (q / 72057594037927936) (256:Int)).toNat])++Sq.tail8 (8-(j+1)) (IntKind.u64.wrap (q*256)):=by
      rw[hpd.o,show 8-j=(8-(j+1))+1 by omega,Sq.tail8,List.append_assoc];rfl
     have hx:=Sq.jQjc (q / 72057594037927936);obtain⟨b,hbb⟩:∃b,b=UInt8.ofNat (HMod.hMod (q / 72057594037927936) (256:Int)).toNat:=⟨_,rfl⟩;rw[<-hbb] at hi hx;have hI:=hd hi;have hH:=hd hx;have hs:=hd (hh.o.below ((bR).alloc (nR) (.cells #[.int .u8 (HMod.hMod (q / 72057594037927936) (256:Int))] 5)));clear hi hx hbb hpd;go_wp2_with (at_builtin;refine jQal rfl (.tmp 25) (.tmp 29) rfl w.heap.size _ m rfl hs.o b ⟨wo5.heap.size,0,none⟩ 1 rfl (by rw[hH.o];simp[go_sem]) (by omega) (by simp;omega) ?_;intro v6 w6 hbuf6 hb6;have he:=hd hbuf6;have hw:=hd hb6;clear hbuf6 hb6);go_roundw
     case rel=>exact⟨j+1,_,m++[b],by omega,by go_num,rfl,he.o,by rw[List.length_append];simp;omega,hI,hE.o.trans ((Below.mono (B':=w.heap.size) ((bR).alloc (nR) _) hG).trans hw.o)⟩
     case measure=>simp[intOf];omega
    ·have HE:Hid (Sq.padded t=m):=by show _=_;rw[hpd.o,show 8-j=0 by omega,Sq.tail8,List.append_nil]
     clear hpd;go_wp2;go_ret;exact⟨_,rfl,by rw[HE.o];exact hh.o,hE.o⟩
  ·have i1:¬(HMod.hMod (l.length:Int) (64:Int)=56):=by omega
   obtain⟨f',rfl⟩:∃f',f=f'+1:=⟨f-1,by omega⟩;have HZ:Hid (Sq.zerosTo 64 l0=Sq.zerosTo f' (l++[0])):=by show _=_;rw[hzt.o,Sq.zerosTo,if_neg hm]
   have hs:=hd (hk.o.below ((bR).alloc (nR) (.cells #[.int .u8 0] 5)));clear hzt;go_wp2_with (at_builtin;refine jQal rfl (.tmp 14) (.tmp 15) rfl w.heap.size _ l rfl hs.o 0 ⟨wo.heap.size,0,none⟩ 1 rfl (by simp[go_sem]) (by omega) (by simp;omega) ?_;intro v6 w6 hbuf6 hb6;obtain⟨zo,zcap,hv6⟩:=hbuf6.slice;rw[List.length_append,List.length_singleton] at hv6;subst hv6;have he:=hd hbuf6;have hw:=hd hb6;clear hbuf6 hb6);go_roundw
   case rel=>exact⟨f',l++[0],by omega,he.o,by rw[List.length_append];simp;omega,by rw[List.length_append];simp;omega,by rw[List.length_append];simp;omega,HZ,HB.o.trans ((Below.mono (B':=w.heap.size) ((bR).alloc (nR) _) hK).trans hw.o)⟩
   case measure=>simp[lenOf];omega
end
end Go.Proofs.YtahpihjialbanaaGreatDoor
