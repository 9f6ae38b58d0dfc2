import Derived.Laws.Bits64b
import Derived.Laws.MakeOwn
import Derived.Test.YtahpihjialbanaaGreatDoorQbc
set_option linter.all false
set_option maxRecDepth 100000
set_option maxHeartbeats 20000000
namespace Go.Proofs.YtahpihjialbanaaGreatDoor
open Sq (aJ iv jAz jC9 jCf jDT jEI jEl jFM jFe jFo jFt jFz jGH jGo jIA jNV leT rot)
variable {B b i k n:Nat}{a:Act}{e:TypeId}{o:Oper}{v:Value}{w w':World}{x:Int}
def W32 (x:Int):Prop:=0<=x/\x<4294967296
theorem W32.nat (h:W32 x):∃n:Nat,x=(n:Int)/\n<4294967296:=⟨x.toNat,by have:=h.1;omega,by have:=h.1;have:=h.2;omega⟩
theorem jDy {op:BinOp}(hg:op=.xor\/op=.or\/op=.and){a:Nat}(ha:a<4294967296)(hb:b<4294967296) :
  (∃r:Nat,r<4294967296/\bits op .u32 (a:Int) (b:Int)=(r:Int)/\bits op .i64 (a:Int) (b:Int)=(r:Int)/\(op=.xor->r=a ^^^ b)/\(op=.or->r=a ||| b)/\(op=.and->r=a &&& b)):=by
 have h1:(BitVec.ofInt 64 (a:Int)).toNat=a:=by rw[BitVec.ofInt_natCast,BitVec.toNat_ofNat];exact Nat.mod_eq_of_lt (by omega)
 have h2:(BitVec.ofInt 64 (b:Int)).toNat=b:=by rw[BitVec.ofInt_natCast,BitVec.toNat_ofNat];exact Nat.mod_eq_of_lt (by omega)
 have g1:(BitVec.ofInt 32 (a:Int)).toNat=a:=by rw[BitVec.ofInt_natCast,BitVec.toNat_ofNat];exact Nat.mod_eq_of_lt (by omega)
 have g2:(BitVec.ofInt 32 (b:Int)).toNat=b:=by rw[BitVec.ofInt_natCast,BitVec.toNat_ofNat];exact Nat.mod_eq_of_lt (by omega)
 have hx:a ^^^ b<2^32:=Nat.xor_lt_two_pow (by omega) (by omega);have ho:a ||| b<2^32:=Nat.or_lt_two_pow (by omega) (by omega)
 have hn:a &&& b<2^32:=Nat.and_lt_two_pow _ (by omega);have hc:∀r:Nat,r<2^32->IntKind.u32.wrap (r:Int)=r:=fun r hr=>by simp[IntKind.wrap,IntKind.bits,IntKind.signed];omega
 have hf:∀r:Nat,r<2^32->IntKind.i64.wrap (r:Int)=r:=fun r hr=>by simp[IntKind.wrap,IntKind.bits,IntKind.signed];omega
 rcases hg with rfl | rfl | rfl
 ·refine⟨a ^^^ b,hx,?_,?_,fun _=>rfl,fun h=>(by cases h),fun h=>(by cases h)⟩
  ·show IntKind.u32.wrap ((BitVec.ofInt 32 (a:Int) ^^^ BitVec.ofInt 32 (b:Int)).toNat:Int)=_;rw[BitVec.toNat_xor,g1,g2,hc _ hx]
  show IntKind.i64.wrap ((BitVec.ofInt 64 (a:Int) ^^^ BitVec.ofInt 64 (b:Int)).toNat:Int)=_;rw[BitVec.toNat_xor,h1,h2,hf _ hx]
 ·refine⟨a ||| b,ho,?_,?_,fun h=>(by cases h),fun _=>rfl,fun h=>(by cases h)⟩
  ·show IntKind.u32.wrap ((BitVec.ofInt 32 (a:Int) ||| BitVec.ofInt 32 (b:Int)).toNat:Int)=_;rw[BitVec.toNat_or,g1,g2,hc _ ho]
  show IntKind.i64.wrap ((BitVec.ofInt 64 (a:Int) ||| BitVec.ofInt 64 (b:Int)).toNat:Int)=_;rw[BitVec.toNat_or,h1,h2,hf _ ho]
 refine⟨a &&& b,hn,?_,?_,fun h=>(by cases h),fun h=>(by cases h),fun _=>rfl⟩
 ·show IntKind.u32.wrap ((BitVec.ofInt 32 (a:Int) &&& BitVec.ofInt 32 (b:Int)).toNat:Int)=_;rw[BitVec.toNat_and,g1,g2,hc _ hn]
 show IntKind.i64.wrap ((BitVec.ofInt 64 (a:Int) &&& BitVec.ofInt 64 (b:Int)).toNat:Int)=_;rw[BitVec.toNat_and,h1,h2,hf _ hn]
theorem jMs {op:BinOp}(hc:op=.xor\/op=.or\/op=.and){a b:Int}(ha:W32 a)(hb:W32 b):bits op .i64 a b=bits op .u32 a b/\W32 (bits op .u32 a b):=by
 obtain⟨m,rfl,hm⟩:=ha.nat;obtain⟨n,rfl,hn⟩:=hb.nat;obtain⟨r,h0,h1,h2,-⟩:=jDy hc hm hn;rw[h1,h2];exact⟨rfl,by constructor<;>omega⟩
theorem jGJ {a b:Int}(ha:W32 a)(hb:W32 b):bits .xor .i64 a b=bits .xor .u32 a b/\W32 (bits .xor .u32 a b):=jMs (Or.inl rfl) ha hb
theorem jHC (hx:W32 x)(b:Nat)(h0:0<b)(h1:b<32):x / 2^b+x % 2^b*(4294967296 / 2^b)=rot x b/\W32 (rot x b):=by
 obtain⟨n,rfl,hn⟩:=hx.nat;have hp:(2:Nat)^b*2^(32-b)=4294967296:=by rw[<-Nat.pow_add,show b+(32-b)=32 by omega]
 have ha:0<2^b:=Nat.pow_pos (by omega);have e1:((n:Int) / 2^b)=((n / 2^b:Nat):Int):=by norm_cast
 have e2:HMod.hMod ((n:Int)*2^(32-b)) (4294967296:Int)=((2^(32-b)*(n % 2^b):Nat):Int):=by
  have:(n*2^(32-b)) % 4294967296=2^(32-b)*(n % 2^b):=by rw[<-hp,Nat.mul_mod_mul_right,Nat.mul_comm]
  rw[<-this,Int.natCast_emod,Int.natCast_mul,Int.natCast_pow];rfl
 have hb:n / 2^b<2^(32-b):=by rw[Nat.div_lt_iff_lt_mul ha,Nat.mul_comm,hp];exact hn
 have hf:2^(32-b)<=4294967296:=by rw[<-hp];exact Nat.le_mul_of_pos_left _ ha
 have he:n % 2^b<2^b:=Nat.mod_lt _ ha
 have hc:2^(32-b)*(n % 2^b)<4294967296:=by
  rw[<-hp,Nat.mul_comm (2^b)];exact Nat.mul_lt_mul_of_pos_left he (Nat.pow_pos (by omega))
 obtain⟨r,h0,h1,-,-,h3,-⟩:=jDy (op:=.or) (Or.inr (Or.inl rfl)) (a:=n / 2^b) (b:=2^(32-b)*(n % 2^b)) (by omega) hc;have h3:=h3 rfl;have h4:2^(32-b)*(n % 2^b)+n / 2^b=2^(32-b)*(n % 2^b) ||| n / 2^b:=eE hb _
 unfold rot;rw[e1,e2,h1];refine⟨?_,by constructor<;>omega⟩
 have e3:((4294967296:Int) / 2^b)=((2^(32-b):Nat):Int):=by
  have:4294967296 / 2^b=2^(32-b):=by rw[<-hp,Nat.mul_div_cancel_left _ ha]
  rw[<-this,Int.natCast_ediv,Int.natCast_pow];rfl
 have e4:((n:Int) % 2^b)=((n % 2^b:Nat):Int):=by norm_cast
 rw[e3,e4,h3,Nat.or_comm,<-h4,Nat.mul_comm]
 norm_cast
 omega
theorem jZ3 {e f g:Int}(he:W32 e)(hf:W32 f)(hg:W32 g):bits .or .i64 (bits .and .i64 e f) (bits .and .i64 (4294967295-e) g)=bits .xor .u32 (bits .and .u32 e f) (bits .and .u32 (bits .xor .u32 IntKind.u32.max e) g)/\W32 (bits .xor .u32 (bits .and .u32 e f) (bits .and .u32 (bits .xor .u32 IntKind.u32.max e) g)):=by
 obtain⟨a,rfl,ha⟩:=he.nat;obtain⟨b,rfl,hb⟩:=hf.nat;obtain⟨c,rfl,hc⟩:=hg.nat;rw[show IntKind.u32.max=((4294967295:Nat):Int) by decide,show(4294967295:Int)-(a:Int)=((4294967295-a:Nat):Int) by omega];obtain⟨r1,k1,p1,q1,-,-,u1⟩:=jDy (op:=.and) (Or.inr (Or.inr rfl)) ha hb;obtain⟨r2,k2,p2,q2,-,-,u2⟩:=jDy (op:=.and) (Or.inr (Or.inr rfl)) (a:=4294967295-a) (by omega) hc;obtain⟨r3,k3,p3,q3,u3,-,-⟩:=jDy (op:=.xor) (Or.inl rfl) (a:=4294967295) (by omega) ha;rw[p1,q1,q2,p3];obtain⟨r4,k4,p4,q4,-,-,u4⟩:=jDy (op:=.and) (Or.inr (Or.inr rfl)) k3 hc;rw[p4];obtain⟨r5,k5,p5,q5,-,u5,-⟩:=jDy (op:=.or) (Or.inr (Or.inl rfl)) k1 k2;obtain⟨r6,k6,p6,q6,u6,-,-⟩:=jDy (op:=.xor) (Or.inl rfl) k1 k4;rw[q5,p6]
 have:r5=r6:=by
  rw[u5 rfl,u6 rfl,u1 rfl,u2 rfl,u4 rfl,u3 rfl];apply Nat.eq_of_testBit_eq;intro i;rw[Nat.testBit_or,Nat.testBit_xor,Nat.testBit_and,Nat.testBit_and,Nat.testBit_and,Nat.testBit_xor];rw[show 4294967295-a=2^32-(a+1) by omega,Nat.testBit_two_pow_sub_succ (by omega),show(4294967295:Nat)=2^32-1 by decide,Nat.testBit_two_pow_sub_one]
  by_cases hi:i<32
  ·rw[show decide (i<32)=true from decide_eq_true hi];cases a.testBit i<;>cases b.testBit i<;>cases c.testBit i<;>rfl
  rw[Nat.testBit_lt_two_pow (x:=a) (i:=i) (dz (show a<2^32 by omega) (dH (by omega) (by omega))),show decide (i<32)=false from decide_eq_false hi];cases b.testBit i<;>cases c.testBit i<;>rfl
 rw[this];exact⟨rfl,by constructor<;>omega⟩
theorem qCR {y z:Int}(hx:W32 x)(hy:W32 y)(hz:W32 z):bits .or .i64 (bits .or .i64 (bits .and .i64 x y) (bits .and .i64 x z)) (bits .and .i64 y z)=bits .xor .u32 (bits .xor .u32 (bits .and .u32 x y) (bits .and .u32 x z)) (bits .and .u32 y z)/\W32 (bits .xor .u32 (bits .xor .u32 (bits .and .u32 x y) (bits .and .u32 x z)) (bits .and .u32 y z)):=by
 obtain⟨a,rfl,ha⟩:=hx.nat;obtain⟨b,rfl,hb⟩:=hy.nat;obtain⟨c,rfl,hc⟩:=hz.nat;obtain⟨r1,k1,p1,q1,-,-,u1⟩:=jDy (op:=.and) (Or.inr (Or.inr rfl)) ha hb;obtain⟨r2,k2,p2,q2,-,-,u2⟩:=jDy (op:=.and) (Or.inr (Or.inr rfl)) ha hc;obtain⟨r3,k3,p3,q3,-,-,u3⟩:=jDy (op:=.and) (Or.inr (Or.inr rfl)) hb hc;rw[p1,q1,p2,q2,p3,q3];obtain⟨r4,k4,-,q4,-,u4,-⟩:=jDy (op:=.or) (Or.inr (Or.inl rfl)) k1 k2;obtain⟨r5,k5,p5,-,u5,-,-⟩:=jDy (op:=.xor) (Or.inl rfl) k1 k2;rw[q4,p5];obtain⟨r6,k6,-,q6,-,u6,-⟩:=jDy (op:=.or) (Or.inr (Or.inl rfl)) k4 k3;obtain⟨r7,k7,p7,-,u7,-,-⟩:=jDy (op:=.xor) (Or.inl rfl) k5 k3;rw[q6,p7]
 have:r6=r7:=by
  rw[u6 rfl,u7 rfl,u4 rfl,u5 rfl,u1 rfl,u2 rfl,u3 rfl];apply Nat.eq_of_testBit_eq;intro i;simp only[Nat.testBit_or,Nat.testBit_xor,Nat.testBit_and];cases a.testBit i<;>cases b.testBit i<;>cases c.testBit i<;>rfl
 rw[this];exact⟨rfl,by constructor<;>omega⟩
theorem jOC {x y:Nat}(hx:HMod.hMod x (2^n)=0)(hy:y<2^n)(ha:x<4294967296)(hb:y<4294967296):bits .or .u32 (x:Int) (y:Int)=((x+y:Nat):Int):=by
 obtain⟨r,-,h1,-,-,h3,-⟩:=jDy (op:=.or) (Or.inr (Or.inl rfl)) ha hb;have e:x=2^n*(x / 2^n):=by have:=Nat.div_add_mod x (2^n);omega
 rw[h1,h3 rfl]
 have:=eE hy (x / 2^n)
 rw[<-e] at this;rw[this]
namespace Sq
theorem jTw (a b c d:UInt8):jGI a b c d=256*(256*(256*(a.toNat:Int)+b.toNat)+c.toNat)+d.toNat/\W32 (jGI a b c d):=by
 have ha:=a.toNat_lt;have hb:=b.toNat_lt;have hc:=c.toNat_lt;have hd:=d.toNat_lt;unfold jGI;generalize a.toNat=x at *;generalize b.toNat=y at *;generalize c.toNat=z at *;generalize d.toNat=t at *;have e1:HMod.hMod ((HMod.hMod (x:Int) (4294967296:Int))*16777216) (4294967296:Int)=((x*16777216:Nat):Int):=by omega
 have e2:HMod.hMod ((HMod.hMod (y:Int) (4294967296:Int))*65536) (4294967296:Int)=((y*65536:Nat):Int):=by omega
 have e3:HMod.hMod ((HMod.hMod (z:Int) (4294967296:Int))*256) (4294967296:Int)=((z*256:Nat):Int):=by omega
 have e4:HMod.hMod (t:Int) (4294967296:Int)=(t:Int):=by omega
 rw[e1,e2,e3,e4,jOC (n:=24) (by omega) (by omega) (by omega) (by omega),jOC (n:=16) (by omega) (by omega) (by omega) (by omega),jOC (n:=8) (by omega) (by omega) (by omega) (by omega)];exact⟨by omega,by constructor<;>omega⟩
theorem jOv {m:List Int}(hk:k<m.length):at0 (m.set k x) i=if i=k then x else at0 m i:=by
 unfold at0;rw[List.getElem?_set]
 split
 ·rename_i h;subst h;rw[cE rfl];simp
 rename_i h;rw[cy (fun e=>h e.symm)]
theorem jUZ (l:List UInt8)(a:Nat):∀k,k<=16->∀i,at0 (jEP l a k) i=if i<k then word l (a+4*i) else 0
 | 0,_,i=>by
  rw[cy (by omega)];show at0 (List.replicate 64 0) i=0;unfold at0;rw[List.getElem?_replicate]
  split<;>rfl
 | k+1,hk,i=>by
  rw[jEP,jOv (by rw[jHv];omega),jUZ l a k (by omega) i]
  by_cases h:i=k
  ·subst h;rw[cE rfl,cE (by omega)]
  ·rw[cy h]
   by_cases h2:i<k
   ·rw[cE h2,cE (by omega)]
   ·rw[cy h2,cy (by omega)]
theorem jLt (m:List Int)(hm:m.length=64)(j:Nat):∀d,j+d<=48->∀i,i<j+16->at0 (jCW m (j+d)) i=at0 (jCW m j) i
 | 0,_,i,_=>rfl
 | d+1,hd,i,hi=>by
  rw[<-Nat.add_assoc,jCW,jOv (by rw[jH8 m hm];omega),cy (by omega),jLt m hm j d (by omega) i hi]
theorem qAM (l:List UInt8)(a:Nat):(sched l a).length=64:=jH8 _ (jHv l a 16) 48
theorem jTE (l:List UInt8)(a i:Nat)(hi:i<16):at0 (sched l a) i=word l (a+4*i):=by
 have:=jLt (jEP l a 16) (jHv l a 16) 0 48 (by omega) i (by omega)
 rw[df] at this;show at0 (jCW (jEP l a 16) 48) i=_;rw[this];show at0 (jEP l a 16) i=_;rw[jUZ l a 16 (by omega) i,cE hi]
theorem jTF (l:List UInt8)(a i:Nat)(h0:16<=i)(hi:i<64):at0 (sched l a) i=next (sched l a) i:=by
 have hm:=jHv l a 16
 have k0:∀j,j<i->at0 (jCW (jEP l a 16) (i-16)) j=at0 (sched l a) j:=fun j hj=>by
  have:=jLt (jEP l a 16) hm (i-16) (48-(i-16)) (by omega) j (by omega)
  rw[show i-16+(48-(i-16))=48 by omega] at this;exact this.symm
 have h1:=jLt (jEP l a 16) hm (i-15) (48-(i-15)) (by omega) i (by omega);have h2:jCW (jEP l a 16) (i-16+1)=(jCW (jEP l a 16) (i-16)).set (i-16+16) (next (jCW (jEP l a 16) (i-16)) (i-16+16)):=rfl;rw[show i-15+(48-(i-15))=48 by omega,show i-15=(i-16)+1 by omega,h2,jOv (by rw[jH8 _ hm];omega),cE (by omega),show i-16+16=i by omega] at h1;show at0 (jCW (jEP l a 16) 48) i=_;rw[h1];unfold next;rw[k0 _ (by omega),k0 _ (by omega),k0 _ (by omega),k0 _ (by omega)]
theorem jE1 (x:Int):W32 (m32 x):=by unfold m32;constructor<;>omega
theorem qBz (l:List UInt8)(a i:Nat)(hi:i<64):W32 (at0 (sched l a) i):=by
 by_cases h:i<16
 ·rw[jTE l a i h];exact(jTw _ _ _ _).2
 rw[jTF l a i (by omega) hi];exact jE1 _
theorem qCH (hx:W32 x):bits .xor .i64 (bits .xor .i64 (rot x 7) (rot x 18)) (x / 8)=low x/\W32 (low x):=by
 have h1:=(jHC hx 7 (by omega) (by omega)).2;have h2:=(jHC hx 18 (by omega) (by omega)).2;have h3:=jGJ h1 h2;have h4:=jGJ h3.2 (b:=x / 8) (by have:=hx.1;have:=hx.2;constructor<;>omega);rw[h3.1,h4.1];exact⟨rfl,h4.2⟩
theorem qCW (hx:W32 x):bits .xor .i64 (bits .xor .i64 (rot x 17) (rot x 19)) (x / 1024)=high x/\W32 (high x):=by
 have h1:=(jHC hx 17 (by omega) (by omega)).2;have h2:=(jHC hx 19 (by omega) (by omega)).2;have h3:=jGJ h1 h2;have h4:=jGJ h3.2 (b:=x / 1024) (by have:=hx.1;have:=hx.2;constructor<;>omega);rw[h3.1,h4.1];exact⟨rfl,h4.2⟩
structure jFy (r:jFx):Prop where
 a:W32 r.a
 b:W32 r.b
 c:W32 r.c
 d:W32 r.d
 e:W32 r.e
 f:W32 r.f
 g:W32 r.g
 h:W32 r.h
theorem jFy.step {r:jFx}(h:jFy r)(kv wv:Int):jFy (jGH r kv wv):=⟨jE1 _,h.a,h.b,h.c,jE1 _,h.e,h.f,h.g⟩
theorem jFy.rounds {r:jFx}(h:jFy r)(ws:List Int):∀k,jFy (jCf r ws k)
 | 0=>h
 | k+1=>(jFy.rounds h ws k).step _ _
def jDV (r:jFx):List Int:=[r.a,r.b,r.c,r.d,r.e,r.f,r.g,r.h]
theorem jVm (hx:W32 x)(i j k:Nat)(hi:0<i/\i<32)(hj:0<j/\j<32)(hk:0<k/\k<32):bits .xor .i64 (bits .xor .i64 (rot x i) (rot x j)) (rot x k)=bits .xor .u32 (bits .xor .u32 (rot x i) (rot x j)) (rot x k)/\W32 (bits .xor .u32 (bits .xor .u32 (rot x i) (rot x j)) (rot x k)):=by
 have h3:=jGJ (jHC hx i hi.1 hi.2).2 (jHC hx j hj.1 hj.2).2;have h4:=jGJ h3.2 (jHC hx k hk.1 hk.2).2;rw[h3.1,h4.1];exact⟨rfl,h4.2⟩
theorem qCE (h x y k v s t:Int):HMod.hMod (h+x+y+k+v+s+t) (4294967296:Int)=m32 (m32 (h+x+y+k+v)+m32 (s+t)):=by unfold m32;omega
theorem qCD (d o:Int):HMod.hMod (d+o) (4294967296:Int)=m32 (d+m32 o):=by unfold m32;omega
theorem qBg (n:Int):jEr 8 (n*8)=[UInt8.ofNat (HMod.hMod (8*n / 72057594037927936) (256:Int)).toNat,UInt8.ofNat (HMod.hMod (8*n / 281474976710656) (256:Int)).toNat,UInt8.ofNat (HMod.hMod (8*n / 1099511627776) (256:Int)).toNat,UInt8.ofNat (HMod.hMod (8*n / 4294967296) (256:Int)).toNat,UInt8.ofNat (HMod.hMod (8*n / 16777216) (256:Int)).toNat,UInt8.ofNat (HMod.hMod (8*n / 65536) (256:Int)).toNat,UInt8.ofNat (HMod.hMod (8*n / 256) (256:Int)).toNat,UInt8.ofNat (HMod.hMod (8*n) (256:Int)).toNat]:=by
 have hw:∀x:Int,IntKind.u64.wrap x=HMod.hMod x (18446744073709551616:Int):=IntKind.wrap_u64;simp only[jEr,hw];have e:∀x y:Int,HMod.hMod x (256:Int)=HMod.hMod y (256:Int)->UInt8.ofNat (HMod.hMod x (256:Int)).toNat=UInt8.ofNat (HMod.hMod y (256:Int)).toNat:=fun x y h=>by rw[h]
 congr 1
 ·exact e _ _ (by omega)
 congr 1
 ·exact e _ _ (by omega)
 congr 1
 ·exact e _ _ (by omega)
 congr 1
 ·exact e _ _ (by omega)
 congr 1
 ·exact e _ _ (by omega)
 congr 1
 ·exact e _ _ (by omega)
 congr 1
 ·exact e _ _ (by omega)
 congr 1
 exact e _ _ (by omega)
end Sq
section
open Go.RowKit
theorem jQ7 (x:Int)(k:Int)(n:Nat)(w:World)(hx:W32 x)(hn:(k=7/\n=7)\/(k=18/\n=18)\/(k=17/\n=17)\/(k=19/\n=19)\/(k=6/\n=6)\/(k=11/\n=11)\/(k=25/\n=25)\/(k=2/\n=2)\/(k=13/\n=13)\/(k=22/\n=22)) :
  Calls Tryz.prog 65 #[.int .i64 x,.int .i64 k] w fun e w'=>e=.returned (.int .i64 (rot x n))/\Below w.heap.size w w':=by
 have hr:0<n->n<32->x / 2^n+x % 2^n*(4294967296 / 2^n)=rot x n:=fun h0 h1=>(jHC hx n h0 h1).1
 have h0:=hx.1;have h1:=hx.2;generalize rot x n=y at *;clear hx;rcases hn with⟨rfl,rfl⟩ | ⟨rfl,rfl⟩ | ⟨rfl,rfl⟩ | ⟨rfl,rfl⟩ | ⟨rfl,rfl⟩ | ⟨rfl,rfl⟩ | ⟨rfl,rfl⟩ | ⟨rfl,rfl⟩ | ⟨rfl,rfl⟩ | ⟨rfl,rfl⟩
 all_goals
  have HR:=hd (hr (by omega) (by omega));clear hr;go_enter Tryz.func65,Tryz.ntmps65;go_wp2
  go_region
  all_goals(try go_wp2)
  go_ret;exact⟨congrArg (fun z=>Ending.returned (Value.int .i64 z)) HR.o,cB bR⟩
theorem jLN (a b c:Int)(w:World) :
  Calls Tryz.prog 66 #[.int .i64 a,.int .i64 b,.int .i64 c] w fun e w'=>e=.returned (.int .i64 (bits .xor .i64 (bits .xor .i64 a b) c))/\w'=w:=by
 go_enter Tryz.func66,Tryz.ntmps66;go_wp2;go_ret;exact⟨rfl,rfl⟩
def jC6 (m:List Int):Array Value:=(m.map (Value.int .i64)).toArray
theorem jLM (m:List Int)(k:Nat)(x:Int):(jC6 m).setIfInBounds k (.int .i64 x)=jC6 (m.set k x):=by
 unfold jC6;simp[List.map_set]
theorem jGx {m:List Int}(h:w.heap[b]?=some (.cells (jC6 m) e))(k:Nat)(hk:k<m.length):w.cell? ⟨b,k,none⟩=some (.int .i64 (Sq.at0 m k)):=by
 rw[jQb h];unfold jC6 Sq.at0;simp[cz hk]
theorem jZi (n:Int)(w:World)(h0:0<=n)(h1:n<=274877906944) :
  Calls Tryz.prog 98 #[.int .i64 n] w fun e w'=>e=.returned (.slice (some ⟨w.heap.size,0,none⟩) 3 3)/\w'.heap[w.heap.size]?=some (.cells (jC6 (jC9 n)) 3)/\Below w.heap.size w w':=by
 go_enter Tryz.func98,Tryz.ntmps98;go_wp2;go_ret;exact⟨rfl,by show(w.heap.push _)[w.heap.size]?=_;simp;rfl,bA⟩
theorem jNy (n:Nat)(L:Int)(hL:L=(n:Int))(hn:n<=1000)(w:World):(Instr.makeSlice 54 (.int .i64 L) (.int .i64 L)).run Tryz.prog w=.ok (.slice (some ⟨w.heap.size,0,none⟩) n n) (w.alloc (.cells (jC6 (List.replicate n 0)) 3)):=by
 obtain⟨i0,hi,ha,hb,hc⟩:=cV Tryz.jD4;subst hL
 have:=run_make (P:=Tryz.prog) w 54 3 i0 _ Tryz.underlying54 hi ha .i64 .i64 (n:Int) (n:Int) (by omega) (dA _) (by rw[hc];omega) (by omega)
 rw[this,cC,hb]
 congr 3
 unfold jC6 madeCells;rw[List.map_replicate];apply Array.ext
 ·simp
 intro j h1 h2;simp[Value.cells,Nat.mod_one]
theorem Sq.jLH {ai:Int}{b:List Int}:∀(f j:Nat) (c:Int) (o r:List Int),jGo ai b i f j c o=some r->r.length=o.length
 | 0,_,_,_,_,h=>by cases h
 | f+1,j,c,o,r,h=>by
  rw[jGo] at h
  split at h
  ·split at h
   ·rw[Sq.jLH f _ _ _ r h,dZ]
   cases h
  split at h
  ·split at h
   ·rw[Sq.jLH f _ _ _ r h,dZ]
   cases h
  cases h;rfl
theorem Sq.jLu {a b:List Int}:∀(n i:Nat) (o r:List Int),jFM a b n i o=some r->r.length=o.length
 | 0,_,_,_,h=>by cases h;rfl
 | n+1,i,o,r,h=>by
  rw[jFM] at h;cases hx:jGo (Sq.at0 a i) b i 20 0 0 o with
  | none=>rw[hx] at h;cases h
  | some y=>rw[hx] at h;rw[Sq.jLu n (i+1) y r h,Sq.jLH _ _ _ _ _ hx]
theorem jR9 (a b r:List Int)(ga gb:Nat)(w:World)(hO:w.heap[ga]?=some (.cells (jC6 a) 3))(hP:w.heap[gb]?=some (.cells (jC6 b) 3))(hX:a.length<=10)(hY:b.length<=10)(hr:jFt a b=some r) :
  Calls Tryz.prog 99 #[.slice (some ⟨ga,0,none⟩) a.length a.length,.slice (some ⟨gb,0,none⟩) b.length b.length] w fun e w'=>e=.returned (.slice (some ⟨w.heap.size,0,none⟩) r.length r.length)/\w'.heap[w.heap.size]?=some (.cells (jC6 r) 3)/\Below w.heap.size w w':=by
 have hs:r.length=a.length+b.length:=by
  have:=Sq.jLu _ _ _ _ hr
  rw[List.length_replicate] at this;exact this
 have hD:=fun w'=>jNy (a.length+b.length) ((a.length:Int)+(b.length:Int)) (by omega) (by omega) w'
 obtain⟨W,hW⟩:∃W:World,W=w.alloc (.cells (jC6 (List.replicate (a.length+b.length) 0)) 3):=⟨_,rfl⟩;have hq:Below w.heap.size w W:=by rw[hW];exact bA
 have he:W.heap[w.heap.size]?=some (.cells (jC6 (List.replicate (a.length+b.length) 0)) 3):=by rw[hW];show(w.heap.push _)[w.heap.size]?=_;simp
 have hH:=jQe hO;have hI:=jQe hP;have hu:=hd hO;have hv:=hd hP;have ht:=hd hq;have hl:=hd he;have HR:Hid (jFM a b a.length 0 (List.replicate (a.length+b.length) 0)=some r):=hr;have hK:=hd hs;clear hO hP hq he hr hs;go_enter Tryz.func99,Tryz.ntmps99;go_wp2;rw[<-hW];clear hW hD
 go_loopw [6] (fun i wr=>∃(k n:Nat) (o:List Int),i=.int .i64 k/\k+n=a.length/\Hid (jFM a b n k o=some r)/\o.length=a.length+b.length/\Hid (wr.heap[w.heap.size]?=some (.cells (jC6 o) 3))/\Hid (Below w.heap.size w wr)) (fun i _=>a.length-(intOf i).toNat)
 case atStart=>exact⟨0,a.length,_,rfl,by omega,HR,by simp,hl,ht⟩
 case round =>
  obtain⟨k,n,o,rfl,hU,hM,hN,he,hb⟩:=hrel
  by_cases hk:k<a.length
  ·obtain⟨n,rfl⟩:∃m,n=m+1:=⟨n-1,by omega⟩
   obtain⟨o',hQ,hR⟩:∃o',jGo (Sq.at0 a k) b k 20 0 0 o=some o'/\jFM a b n (k+1) o'=some r:=by
    have:=hM.o
    rw[jFM] at this;cases hx:jGo (Sq.at0 a k) b k 20 0 0 o with
    | none=>rw[hx] at this;cases this
    | some y=>rw[hx] at this;exact⟨y,rfl,this⟩
   have hw:=hd hQ;have hz:=hd hR;have hi:=(Sq.jLH _ _ _ _ _ hQ).trans hN;have i0:(k:Int)<(a.length:Int):=by omega
   have i1:¬((a.length:Int)<=(k:Int)):=by omega
   have i2:¬((k:Int)<0):=by omega
   have hA:=hd hN;have ho:=hd hi;clear hQ hR hM hN hi;obtain⟨V,hV⟩:∃V:World,V=wr:=⟨_,rfl⟩;rw[<-hV] at he hb ⊢;clear hV;go_wp2
   go_loopw [7,8] (fun cv jv wr=>∃(f j:Nat) (c:Int) (o1:List Int),cv=.int .i64 c/\jv=.int .i64 j/\f+j=20/\0<=c/\Hid (jGo (Sq.at0 a k) b k f j c o1=some o')/\Hid (o1.length=a.length+b.length)/\Hid (wr.heap[w.heap.size]?=some (.cells (jC6 o1) 3))/\Hid (Below w.heap.size w wr)) (fun _ j _=>20-(intOf j).toNat)
   case atStart=>exact⟨20,0,0,o,rfl,rfl,rfl,by omega,hw,hA,he,hb⟩
   case round =>
    obtain⟨f,j,c,o1,rfl,rfl,hT,hS,hM,hN,he,hb⟩:=hrel;have ha:=hM.o;clear hM;have hf:=hN.o
    obtain⟨f,rfl⟩:∃m,f=m+1:=by
     cases f with
     | zero=>rw[jGo] at ha;cases ha
     | succ m=>exact⟨m,rfl⟩
    rw[jGo] at ha;have hL:=jQe he.o
    by_cases hj:j<b.length
    ·rw[cE hj] at ha
     by_cases hcd:k+j<o1.length/\0<=Sq.at0 o1 (k+j)/\0<=c/\0<=Sq.at0 a k/\0<=Sq.at0 b j/\Sq.at0 o1 (k+j)+c+Sq.at0 a k*Sq.at0 b j<4611686018427387904
     ·rw[cE hcd] at ha;obtain⟨c1,c2,c3,c4,c5,c6⟩:=hcd;have e1:=jGx he.o (k+j) c1;have f1:=jQd he.o (k+j);have e2:=jGx ((hb.o.block _ hH).trans hu.o) k hk;have e3:=jGx ((hb.o.block _ hI).trans hv.o) j hj;have hg:=jQf (o:=k+j) he.o (.int .i64 (HMod.hMod (Sq.at0 o1 (k+j)+c+Sq.at0 a k*Sq.at0 b j) (65536:Int)));rw[jLM] at hg;have hm:=hd hg;have hh:(o1.set (k+j) (HMod.hMod (Sq.at0 o1 (k+j)+c+Sq.at0 a k*Sq.at0 b j) (65536:Int))).length=a.length+b.length:=by rw[dZ];exact hf
      have hn:=hd hh;have hp:=hd ha;clear hg hh ha;have hE:=Int.mul_nonneg c4 c5;generalize hx:Sq.at0 o1 (k+j)=x at *;generalize hy:Sq.at0 a k=y at *;generalize hzz:Sq.at0 b j=z at *;have hJ:=hb.o.size;have j1:(j:Int)<(b.length:Int):=by omega
      have j2:¬((b.length:Int)<=(j:Int)):=by omega
      have j3:¬((j:Int)<0):=by omega
      have j4:¬(((a.length+b.length:Nat):Int)<=(k:Int)+(j:Int)):=by omega
      have j5:(k:Int)+(j:Int)<((a.length+b.length:Nat):Int):=by omega
      have j6:¬((k:Int)+(j:Int)<0):=by omega
      have j7:((k:Int)+(j:Int)).toNat=k+j:=by omega
      clear hx hy hzz he hN hf;go_wp2
      go_region
      all_goals(try go_wp2)
      all_goals
       go_roundw;exact⟨f,j+1,_,_,rfl,by go_num,by omega,by omega,hp,hn,hm,cj (B:=w.heap.size) hb.o.drew nR _⟩;simp[intOf];omega
     rw[cy hcd] at ha;cases ha
    rw[cy hj] at ha;have j1:¬((j:Int)<(b.length:Int)):=by omega
    by_cases hc:0<c
    ·rw[cE hc] at ha
     by_cases hcd:k+j<o1.length/\0<=Sq.at0 o1 (k+j)/\Sq.at0 o1 (k+j)+c<4611686018427387904
     ·rw[cE hcd] at ha;obtain⟨c1,c2,c6⟩:=hcd;have e1:=jGx he.o (k+j) c1;have f1:=jQd he.o (k+j);have hg:=jQf (o:=k+j) he.o (.int .i64 (HMod.hMod (Sq.at0 o1 (k+j)+c) (65536:Int)));rw[jLM] at hg;have hm:=hd hg;have hh:(o1.set (k+j) (HMod.hMod (Sq.at0 o1 (k+j)+c) (65536:Int))).length=a.length+b.length:=by rw[dZ];exact hf
      have hn:=hd hh;have hp:=hd ha;clear hg hh ha;generalize hx:Sq.at0 o1 (k+j)=x at *;have j4:¬(((a.length+b.length:Nat):Int)<=(k:Int)+(j:Int)):=by omega
      have j5:(k:Int)+(j:Int)<((a.length+b.length:Nat):Int):=by omega
      have j6:¬((k:Int)+(j:Int)<0):=by omega
      have j7:((k:Int)+(j:Int)).toNat=k+j:=by omega
      clear hx he hN hf;go_wp2;go_roundw;exact⟨f,j+1,_,_,rfl,by go_num,by omega,by omega,hp,hn,hm,cj (B:=w.heap.size) hb.o nR _⟩;simp[intOf];omega
     rw[cy hcd] at ha;cases ha
    rw[cy hc] at ha;have hF:o1=o':=by simpa using ha
    subst hF;have hB:c=0:=by omega
    subst hB;clear ha hf;go_wp2;go_roundw;exact⟨k+1,n,_,by go_num,by omega,hz,ho.o,he,hb⟩;simp[intOf];omega
  have hC:n=0:=by omega
  subst hC;have hG:o=r:=by have:=hM.o;simpa[jFM] using this
  subst hG;have i0:¬((k:Int)<(a.length:Int)):=by omega
  clear hM;go_wp2;go_ret;exact⟨rfl,he.o,hb.o⟩
theorem jZh (n r:Int)(w:World)(h0:0<=n)(h1:n<=1000)(hr:jDT 400 2 n=some r) :
  Calls Tryz.prog 63 #[.int .i64 n] w fun e w'=>e=.returned (.int .i64 r)/\w'=w:=by
 have HR:=hd hr;clear hr;go_enter Tryz.func63,Tryz.ntmps63;go_wp2
 go_loopw [0,3] (fun nv pv wr=>∃(f:Nat) (m p:Int),nv=.int .i64 m/\pv=.int .i64 p/\(f:Int)+p=402/\0<=m/\m<=1000/\Hid (jDT f p m=some r)/\Hid (wr=w)) (fun _ p _=>(402-intOf p).toNat)
 case atStart=>exact⟨400,n,2,rfl,rfl,rfl,h0,h1,HR,rfl⟩
 case round =>
  obtain⟨f,m,p,rfl,rfl,ht,hx,hy,hn,hw⟩:=hrel;have ha:=hn.o;clear hn
  obtain⟨f,rfl⟩:∃g,f=g+1:=by
   cases f with
   | zero=>rw[jDT] at ha;cases ha
   | succ g=>exact⟨g,rfl⟩
  rw[jDT] at ha
  by_cases hp:0<p/\p<100000
  ·rw[cE hp] at ha;obtain⟨hz,hA⟩:=hp;cases hdv:jIA p 400 2 with
   | none=>rw[hdv] at ha;cases ha
   | some d0 =>
    rw[hdv] at ha;have hh:=hd hdv;have he:Hid ((if d0=p then(if m=0 then some p else jDT f (p+1) (m-1)) else jDT f (p+1) m)=some r):=ha;clear hdv ha;have hg:=hw.o;subst hg;clear hw;go_wp2
    go_loopw [4] (fun dv hq=>∃(g:Nat) (d:Int),dv=.int .i64 d/\(g:Int)+d=402/\2<=d/\Hid (jIA p g d=some d0)/\Hid (hq=wr)) (fun d _=>(402-intOf d).toNat)
    case atStart=>exact⟨400,2,rfl,rfl,by omega,hh,rfl⟩
    case round =>
     obtain⟨g,d,rfl,hv,hs,ho,hw⟩:=hrel;have hg:=hw.o;subst hg;clear hw;have hb:=ho.o;clear ho
     obtain⟨g,rfl⟩:∃q,g=q+1:=by
      cases g with
      | zero=>rw[jIA] at hb;cases hb
      | succ q=>exact⟨q,rfl⟩
     rw[jIA] at hb
     by_cases hdd:0<d/\d<100000
     ·rw[cE hdd] at hb
      by_cases hmod:HMod.hMod p d=0
      ·rw[cE hmod] at hb;have hj:d=d0:=by simpa using hb
       subst hj;have hc:=he.o;clear he hh hb
       by_cases hdp:d=p
       ·subst hdp;rw[cE rfl] at hc
        by_cases hm:m=0
        ·subst hm;rw[cE rfl] at hc;have hk:d=r:=by simpa using hc
         subst hk;clear hc;go_wp2;go_ret;exact⟨rfl,rfl⟩
        rw[cy hm] at hc;have hf:=hd hc;clear hc;go_wp2;go_roundw;exact⟨f,m-1,d+1,by go_num,by go_num,by omega,by omega,by omega,hf,trivial⟩;simp[intOf];omega
       rw[cy hdp] at hc;have hf:=hd hc;clear hc;go_wp2;go_roundw;exact⟨f,m,p+1,by go_num,by go_num,by omega,by omega,by omega,hf,trivial⟩;simp[intOf];omega
      rw[cy hmod] at hb;have hi:=hd hb;clear hb;go_wp2;go_roundw;exact⟨g,d+1,by go_num,by omega,by omega,hi,trivial⟩;simp[intOf];omega
     rw[cy hdd] at hb;cases hb
  rw[cy hp] at ha;cases ha
theorem Sq.jXc {p:Int}{ha res:Bool}(h:jFz x p ha=some res):∃l,jFt (jC9 x) (jC9 x)=some l/\(ha=false->res=leT l ((List.replicate 6 0).set 4 p) 6)/\(ha=true->∃m,jFt l (jC9 x)=some m/\m.length=9/\res=leT m ((List.replicate 9 0).set 6 p) 9)/\l.length=6:=by
 unfold jFz at h;cases hx:jFt (jC9 x) (jC9 x) with
 | none=>rw[hx] at h;cases h
 | some l =>
  rw[hx] at h;have hl:l.length=6:=Sq.jLu _ _ _ _ hx;refine⟨l,rfl,fun hc=>?_,fun hc=>?_,hl⟩
  ·subst hc;simp only[dM,dr,eD,Option.some.injEq] at h;rw[hl] at h;exact h.symm
  subst hc;simp only[dM,dT] at h;cases hy:jFt l (jC9 x) with
  | none=>rw[hy] at h;cases h
  | some m =>
   have hm:m.length=9:=by
    have:=Sq.jLu _ _ _ _ hy
    rw[List.length_replicate,hl] at this;exact this
   rw[hy] at h;simp only[dM,Option.some.injEq] at h;rw[hm] at h;exact⟨m,rfl,hm,h.symm⟩
theorem jYi (x p:Int)(hO res:Bool)(w:World)(h0:0<=x)(h1:x<=274877906944)(h:jFz x p hO=some res) :
  Calls Tryz.prog 64 #[.int .i64 x,.int .i64 p,.bool hO] w fun e w'=>e=.returned (.bool res)/\Below w.heap.size w w':=by
 obtain⟨l,hl,h4,h5,h6⟩:=Sq.jXc h;have HL:=hd hl;have hp:=hd h4;have hs:=hd h5;have hh:=hd h6;clear hl h4 h5 h6 h;go_enter Tryz.func64,Tryz.ntmps64;go_wp2_with fail;refine(jZi x w h0 h1).mono ?_;rintro e w1 ⟨rfl,hW,h2⟩;have hj:=hd hW;have hA:=hd h2;have hy:=jQe hW;clear hW h2;go_wp2_with fail;refine(jR9 (jC9 x) (jC9 x) l w.heap.size w.heap.size w1 hj.o hj.o (by show 3<=10;omega) (by show 3<=10;omega) HL.o).mono ?_;rintro e w2 ⟨rfl,hX,hT⟩;rw[hh.o];have hH:=hd ((hT.block _ hy).trans hj.o);have hB:=hd hX;have hn:=hA.t hT;have hE:=jQe hX;have hK:w.heap.size<w1.heap.size:=hy;clear hX hT hA hj HL hy;cases hO
 case false =>
  obtain⟨M,hM⟩:∃M,M=l:=⟨_,rfl⟩;obtain⟨R,hN⟩:∃R,R=(List.replicate 6 (0:Int)).set 4 p:=⟨_,rfl⟩;have hf:Hid (res=leT M R 6):=by show _=_;rw[hp.o rfl,hM,hN]
  have hu:Hid (M.length=6):=by show _=_;rw[hM];exact hh.o
  have hw:Hid (R.length=6):=by show _=_;rw[hN];simp
  obtain⟨V,hV⟩:∃V:World,V=w2.alloc (.cells (jC6 (List.replicate 6 0)) 3):=⟨_,rfl⟩;have hx:(Instr.makeSlice 54 (.int .i64 6) (.int .i64 6)).run Tryz.prog w2=.ok (.slice (some ⟨w2.heap.size,0,none⟩) 6 6) V:=by rw[hV];exact jNy 6 6 rfl (by omega) w2
  have hg:Below w2.heap.size w2 V:=by rw[hV];exact bA
  have hc:V.heap[w2.heap.size]?=some (.cells (jC6 (List.replicate 6 0)) 3):=by rw[hV];show(w2.heap.push _)[w2.heap.size]?=_;simp
  have c4:=jGx hc 4 (by simp);have f4:=jQd hc 4;have hz:=jQe hc;obtain⟨gm,hR⟩:∃y,y=w1.heap.size:=⟨_,rfl⟩;obtain⟨gr,hS⟩:∃y,y=w2.heap.size:=⟨_,rfl⟩;obtain⟨U,hU⟩:∃U:World,U=V.setCell ⟨w2.heap.size,4,none⟩ (.int .i64 p):=⟨_,rfl⟩;have hv:Hid (U.heap[gr]?=some (.cells (jC6 R) 3)):=by show _=_;rw[hU,hS,jQf hc,jLM,hN]
  have ht:Hid (U.heap[gm]?=some (.cells (jC6 M) 3)):=by show _=_;rw[hU,hR,hM,jQg (by have:=hE;omega)];exact(hg.block _ hE).trans hB.o
  have ho:Hid (Below w.heap.size w U):=by rw[hU];exact cj (B:=w.heap.size) (hn.t hg).o hn.o.size _
  clear hc hg hV hp hs hh;go_wp2;rw[<-hU]
  try rw[<-hR]
  try rw[<-hS]
  clear hU hx c4 f4 hz;clear hM hN hR hS
  go_loopw [11] (fun iv wr=>∃k:Nat,k<=6/\iv=.int .i64 ((k:Int)-1)/\Hid (res=leT M R k)/\Hid (wr.heap[gm]?=some (.cells (jC6 M) 3))/\Hid (wr.heap[gr]?=some (.cells (jC6 R) 3))/\Hid (Below w.heap.size w wr)) (fun i _=>(intOf i+1).toNat)
  case atStart=>exact⟨6,by omega,by go_num,hf,ht,hv,ho⟩
  case round =>
   obtain⟨k,hk,rfl,hL,hP,hQ,hb⟩:=hrel;cases k with
   | zero =>
    have hr:res=true:=hL.o;subst hr;clear hL;go_wp2;go_ret;exact⟨rfl,hb.o⟩
   | succ k =>
    have e1:=jGx hP.o k (by rw[hu.o];omega);have e2:=jGx hQ.o k (by rw[hw.o];omega);have hq:=hL.o;rw[leT] at hq;have hI:=jQe hP.o;have hJ:=jQe hQ.o;generalize Sq.at0 M k=x1 at *;generalize Sq.at0 R k=y1 at *;have j1:((k+1:Nat):Int)-1=(k:Int):=by omega
    rw[j1];have j2:¬((k:Int)<0):=by omega
    have j3:(0:Int)<=(k:Int):=by omega
    have j4:(k:Int)<6:=by omega
    have j5:¬((6:Int)<=(k:Int)):=by omega
    by_cases hxy:x1=y1
    ·subst hxy;rw[cE rfl] at hq;have HQ:=hd hq;clear hq hL j1;go_wp2
     go_region
     all_goals(try go_wp2)
     all_goals
      go_roundw;exact⟨k,by omega,by go_num,HQ,hP,hQ,hb.o.drew⟩;simp[intOf]
    rw[cy hxy] at hq;have HQ:=hd hq;clear hq hL j1;go_wp2
    go_region
    all_goals(try go_wp2)
    all_goals
     go_region
    all_goals(try go_wp2)
    all_goals
     go_ret;exact⟨by rw[HQ.o];rfl,hb.o.drew.drew⟩
 case true =>
  obtain⟨m,hm,hZ,h7⟩:=hs.o rfl;have hC:=hd hZ;have hD:=hd h7;have ha:=jR9 l (jC9 x) m w1.heap.size w.heap.size w2 hB.o hH.o (by rw[hh.o];omega) (by show 3<=10;omega) hm;rw[hh.o,hZ] at ha;have he:=hd ha;clear ha hm hZ h7;go_wp2_with fail;refine he.o.mono ?_;rintro e w3 ⟨rfl,hY,h3⟩;have hG:=hd hY;have hi:=hn.t h3;have hF:=jQe hY;clear hY h3 he;obtain⟨M,hM⟩:∃M,M=m:=⟨_,rfl⟩;obtain⟨R,hN⟩:∃R,R=(List.replicate 9 (0:Int)).set 6 p:=⟨_,rfl⟩;have hf:Hid (res=leT M R 9):=by show _=_;rw[hD.o,hM,hN]
  have hu:Hid (M.length=9):=by show _=_;rw[hM];exact hC.o
  have hw:Hid (R.length=9):=by show _=_;rw[hN];simp
  obtain⟨V,hV⟩:∃V:World,V=w3.alloc (.cells (jC6 (List.replicate 9 0)) 3):=⟨_,rfl⟩;have hx:(Instr.makeSlice 54 (.int .i64 9) (.int .i64 9)).run Tryz.prog w3=.ok (.slice (some ⟨w3.heap.size,0,none⟩) 9 9) V:=by rw[hV];exact jNy 9 9 rfl (by omega) w3
  have hg:Below w3.heap.size w3 V:=by rw[hV];exact bA
  have hc:V.heap[w3.heap.size]?=some (.cells (jC6 (List.replicate 9 0)) 3):=by rw[hV];show(w3.heap.push _)[w3.heap.size]?=_;simp
  have c4:=jGx hc 6 (by simp);have f4:=jQd hc 6;have hz:=jQe hc;obtain⟨gm,hR⟩:∃y,y=w2.heap.size:=⟨_,rfl⟩;obtain⟨gr,hS⟩:∃y,y=w3.heap.size:=⟨_,rfl⟩;obtain⟨U,hU⟩:∃U:World,U=V.setCell ⟨w3.heap.size,6,none⟩ (.int .i64 p):=⟨_,rfl⟩;have hv:Hid (U.heap[gr]?=some (.cells (jC6 R) 3)):=by show _=_;rw[hU,hS,jQf hc,jLM,hN]
  have ht:Hid (U.heap[gm]?=some (.cells (jC6 M) 3)):=by show _=_;rw[hU,hR,hM,jQg (by have:=hF;omega)];exact(hg.block _ hF).trans hG.o
  have ho:Hid (Below w.heap.size w U):=by rw[hU];exact cj (B:=w.heap.size) (hi.t hg).o hi.o.size _
  clear hc hg hV hp hs hh hC hD;go_wp2;rw[<-hU]
  try rw[<-hR]
  try rw[<-hS]
  clear hU hx c4 f4 hz;clear hM hN hR hS
  go_loopw [11] (fun iv wr=>∃k:Nat,k<=9/\iv=.int .i64 ((k:Int)-1)/\Hid (res=leT M R k)/\Hid (wr.heap[gm]?=some (.cells (jC6 M) 3))/\Hid (wr.heap[gr]?=some (.cells (jC6 R) 3))/\Hid (Below w.heap.size w wr)) (fun i _=>(intOf i+1).toNat)
  case atStart=>exact⟨9,by omega,by go_num,hf,ht,hv,ho⟩
  case round =>
   obtain⟨k,hk,rfl,hL,hP,hQ,hb⟩:=hrel;cases k with
   | zero =>
    have hr:res=true:=hL.o;subst hr;clear hL;go_wp2;go_ret;exact⟨rfl,hb.o⟩
   | succ k =>
    have e1:=jGx hP.o k (by rw[hu.o];omega);have e2:=jGx hQ.o k (by rw[hw.o];omega);have hq:=hL.o;rw[leT] at hq;have hI:=jQe hP.o;have hJ:=jQe hQ.o;generalize Sq.at0 M k=x1 at *;generalize Sq.at0 R k=y1 at *;have j1:((k+1:Nat):Int)-1=(k:Int):=by omega
    rw[j1];have j2:¬((k:Int)<0):=by omega
    have j3:(0:Int)<=(k:Int):=by omega
    have j4:(k:Int)<9:=by omega
    have j5:¬((9:Int)<=(k:Int)):=by omega
    by_cases hxy:x1=y1
    ·subst hxy;rw[cE rfl] at hq;have HQ:=hd hq;clear hq hL j1;go_wp2
     go_region
     all_goals(try go_wp2)
     all_goals
      go_roundw;exact⟨k,by omega,by go_num,HQ,hP,hQ,hb.o.drew⟩;simp[intOf]
    rw[cy hxy] at hq;have HQ:=hd hq;clear hq hL j1;go_wp2
    go_region
    all_goals(try go_wp2)
    all_goals
     go_region
    all_goals(try go_wp2)
    all_goals
     go_ret;exact⟨by rw[HQ.o];rfl,hb.o.drew.drew⟩
theorem jSa (n r:Int)(hj:Bool)(w:World)(h0:0<=n)(h1:n<=1000)(h:jFo n hj=some r) :
  Calls Tryz.prog 50 #[.int .i64 n,.bool hj] w fun e w'=>e=.returned (.int .i64 r)/\Below w.heap.size w w':=by
 obtain⟨p,x,hp,hx,hr⟩:∃p x,jDT 400 2 n=some p/\jFe p hj 40 0 274877906944=some x/\r=HMod.hMod x (4294967296:Int):=by
  unfold jFo at h;cases hp:jDT 400 2 n with
  | none=>rw[hp] at h;cases h
  | some p =>
   rw[hp] at h;simp only[dM] at h;cases hx:jFe p hj 40 0 274877906944 with
   | none=>rw[hx] at h;cases h
   | some x=>rw[hx] at h;simp only[dM,Option.some.injEq] at h;exact⟨p,x,rfl,hx,h.symm⟩
 have HX:=hd hx;have HP:=hd hp;subst hr;clear h hx hp;go_enter Tryz.func50,Tryz.ntmps50;go_wp2_with fail;refine(jZh n p w h0 h1 HP.o).mono ?_;rintro e w1 ⟨rfl,hs⟩;rw[hs];clear hs w1;go_wp2
 go_loopw [6,7] (fun lv hv wr=>∃(f:Nat) (lo hi:Int),lv=.int .i64 lo/\hv=.int .i64 hi/\0<=lo/\lo<hi/\hi<=274877906944/\Hid (jFe p hj f lo hi=some x)/\Hid (Below w.heap.size w wr)) (fun l h _=>(intOf h-intOf l).toNat)
 case atStart=>exact⟨40,0,274877906944,rfl,rfl,by omega,by omega,by omega,HX,bR⟩
 case round =>
  obtain⟨f,lo,hi,rfl,rfl,hy,hz,ht,hn,hb⟩:=hrel;have hc:=hn.o;clear hn
  obtain⟨f,rfl⟩:∃g,f=g+1:=by
   cases f with
   | zero=>rw[jFe] at hc;cases hc
   | succ g=>exact⟨g,rfl⟩
  rw[jFe] at hc
  by_cases hlt:lo+1<hi
  ·rw[cE hlt,cE ⟨hy,ht⟩] at hc;cases ha:jFz ((lo+hi) / 2) p hj with
   | none=>rw[ha] at hc;cases hc
   | some b =>
    rw[ha] at hc;simp only[dM] at hc;have HA:=hd ha;have he:=hd hc;clear ha hc;have j1:lo<(lo+hi) / 2:=by omega
    have j2:(lo+hi) / 2<hi:=by omega
    obtain⟨ho,hk⟩:∃y,y=(lo+hi) / 2:=⟨_,rfl⟩;rw[<-hk] at HA he j1 j2;go_wp2_with fail;rw[<-hk];refine(jYi ho p hj b wr (by omega) (by omega) HA.o).mono ?_;rintro e w2 ⟨rfl,hq⟩;have hg:=hb.t hq;clear hq hk hb;cases b
    ·have hf:Hid (jFe p hj f lo ho=some x):=by show _=_;have:=he.o;simpa using this
     clear he;go_wp2;go_roundw;exact⟨f,lo,ho,by go_num,by go_num,by omega,by omega,by omega,hf,hg⟩;simp[intOf];omega
    have hf:Hid (jFe p hj f ho hi=some x):=by show _=_;have:=he.o;simpa using this
    clear he;go_wp2;go_roundw;exact⟨f,ho,hi,by go_num,by go_num,by omega,by omega,by omega,hf,hg⟩;simp[intOf];omega
  rw[cy hlt] at hc;have hh:lo=x:=by simpa using hc
  subst hh;clear hc;go_wp2;go_ret;exact⟨rfl,hb.o⟩
def jAS (B:Nat)(w:World)(v:Value)(l:List Int):Prop:=w.ownsRow B 3 1 v l.length (l.map (Value.int .i64))
theorem jHP (g j:Nat):(⟨g,0,none⟩:Addr).add j=⟨g,j,none⟩:=by unfold Addr.add;split<;>simp_all
theorem jAS.at {l:List Int}(h:jAS B w v l)(k:Nat)(hk:k<l.length):∃g cap,v=.slice (some ⟨g,0,none⟩) l.length cap/\g<w.heap.size/\w.cell? ⟨g,k,none⟩=some (.int .i64 (Sq.at0 l k)):=by
 obtain⟨g,cap,rfl,_,ha⟩:=h.form (by omega);refine⟨g,cap,rfl,ha,?_⟩
 have:=h.cells (g:=g) rfl k (.int .i64 l[k]) (by rw[dy,cz hk];rfl)
 rw[jHP] at this;rw[this];unfold Sq.at0;rw[cz hk];rfl
theorem jAS.below {l:List Int}(h:jAS B w v l)(hb:Below w.heap.size w w'):jAS B w' v l:=jQh h hb
theorem jAS.base {l:List Int}(h:jAS B w v l):jAS 0 w v l:=⟨h.1,h.2.elim Or.inl fun⟨g,cap,cur,hv,_,r⟩=>Or.inr ⟨g,cap,cur,hv,zR,r⟩⟩
theorem jMw {ops:Array Oper}{rest:List Oper}{Q:Exit->Act->World->Prop}(hf:o.guard=none)(sl x:Operand)
  (ho:o.op=.call { callee:=.builtin .append,args:=#[sl,x],argTypes:=#[54,54] }) (B:Nat) (v:Value) (l:List Int) (hs:a.eval sl=v) (hb:jAS B w v l)
  (e:Int) (g c:Nat) (hx:a.eval x=.slice (some ⟨g,0,none⟩) 1 c) (ha:w.cell? ⟨g,0,none⟩=some (.int .i64 e)) (h1:l.length<=1000) (hB:B<=w.heap.size)
  (h:∀v' w',jAS B w' v' (l++[e])->Below B w w'->wpList Tryz.prog ops Q rest (a.put o.dst v') w'):wpList Tryz.prog ops Q (o::rest) a w:=by
 obtain⟨i0,hi,hh,hj,hn⟩:=cV Tryz.jD4
 refine cT _ hf sl x 54 ho B 3 i0 _ 1 8 Tryz.underlying54 hi hh hj hn rfl (by decide) v l.length _ hs hb ⟨g,0,none⟩ 1 c [.int .i64 e] hx rfl (by
  intro j u hu;rw[jHP]
  match j,hu with
  | 0,hu=>simp at hu;subst hu;exact ha
  | j+1,hu=>simp at hu) (by intro u hu;simp at hu;subst hu;rfl) (by decide) (by unfold maxLen;omega) (by omega) hB _ rfl ?_
 intro g' cap w' hg hc _ _;refine h _ w' ?_ (Tch.aO hc (fun k hk=>(World.ownsRow.lt hb k hk).1) hB);unfold jAS;rw[cg,cR];simpa using hg
theorem Sq.jN7 (l:List Int)(k:Nat)(h:k<l.length):l.take (k+1)=l.take k++[Sq.at0 l k]:=by
 rw[cI h];unfold Sq.at0;rw[cz h];rfl
def jFi (w:World)(b:Nat):Prop:=∃kv sv,w.heap[b]?=some (.cells #[kv,sv] 84)/\jAS 0 w kv jAz/\jAS 0 w sv iv
theorem jNY (h:b<w.heap.size)(o:Obj):(w.alloc o).heap[b]?=w.heap[b]?:=by
 show(w.heap.push o)[b]?=w.heap[b]?
 rw[Array.getElem?_push,cy (by omega)]
theorem qCm (w:World) :
  Calls Tryz.prog 40 #[] w fun e w'=>e=.returned (.pointer (some ⟨w.heap.size,0,none⟩))/\jFi w' w.heap.size/\Below w.heap.size w w':=by
 have hn:jAz.length=64:=by decide
 have hj:iv.length=8:=by decide
 have hl:=hd hn;have hh:=hd hj;clear hn hj;go_enter Tryz.func40,Tryz.ntmps40;go_wp2
 go_loopw [2] (fun i wr=>∃(k:Nat) (kv:Value),k<=64/\i=.int .i64 k/\Hid (wr.heap[w.heap.size]?=some (.cells #[kv,.slice none 0 0] 84))/\Hid (jAS (w.heap.size+1) wr kv (jAz.take k))/\Hid (Below w.heap.size w wr)) (fun i _=>64-(intOf i).toNat)
 case atStart=>exact⟨0,_,by omega,rfl,dJ w _,cu _ _ _ _,bA⟩
 case round =>
  obtain⟨k,kv,hk,rfl,hD,hJ,hb⟩:=hrel
  by_cases hkt:k<64
  ·have i0:(k:Int)<64:=by omega
   go_wp2_with fail;refine(jSa (k:Int) (Sq.at0 jAz k) true wr (by omega) (by omega) (Sq.qAs k hkt)).mono ?_;rintro e w1 ⟨rfl,hF⟩;have hc:=(hF.block _ (jQe hD.o)).trans hD.o;have hu:=hd (hJ.o.below hF);have c0:w1.cell? ⟨w.heap.size,0,none⟩=some kv:=by rw[jQb hc];rfl
   have hp:=jQe hc;have hi:=hb.o.trans (hF.mono hb.o.size);have hs:=hd hi;have he:=hd hc;clear hc hF hi hD hJ hb;go_wp2_with (at_builtin;refine jMw rfl (.tmp 18) (.tmp 20) rfl (w.heap.size+1) kv _ rfl (hu.o.below (bA)) (Sq.at0 jAz k) w1.heap.size 1 rfl (by simp[go_sem]) (by rw[dq];omega) (by simp;omega) ?_;intro v2 w2 hG hH;rw[<-Sq.jN7 _ _ (by rw[hl.o];omega)] at hG;obtain⟨vo,vc,hI⟩:=jQa hG;rw[dq,hl.o,Nat.min_eq_left (by omega)] at hI;subst hI;have ha:=(hH.block w.heap.size (by omega)).trans ((jNY hp _).trans he.o);have e0:w2.cell? ⟨w.heap.size,0,none⟩=some kv:=(by rw[jQb ha];rfl);have f0:=jQd ha 0;have hC:=jQe ha;have hw:=hd hG;have hq:=hd hH;have hf:=hd ha;clear hG hH ha);go_roundw
   case rel =>
    refine⟨k+1,.slice vo (k+1) vc,by omega,by go_num,?_,?_,?_⟩
    ·show _=_;rw[jQf hf.o];rfl
    ·show jAS _ _ _ _;exact ei hw.o (a:=⟨w.heap.size,0,none⟩) (by show w.heap.size<w.heap.size+1;omega) _
    exact cj (B:=w.heap.size) ((hs.o.alloc (cQ hp) _).trans (hq.o.mono (by omega))) nR _
   case measure=>simp[intOf];omega
  have i0:¬((k:Int)<64):=by omega
  have hm:jAS (w.heap.size+1) wr kv jAz:=by have:=hJ.o;rwa [cL (by rw[hl.o];omega)] at this
  have hr:=hd hm;clear hJ hm;obtain⟨V,hV⟩:∃V:World,V=wr:=⟨_,rfl⟩;rw[<-hV] at hD hb hr ⊢;clear hV;have hx:=jQe hD.o;go_wp2
  go_loopw [4] (fun i wr=>∃(k:Nat) (sv:Value),k<=8/\i=.int .i64 k/\Hid (wr.heap[w.heap.size]?=some (.cells #[kv,sv] 84))/\Hid (jAS V.heap.size wr sv (iv.take k))/\Hid (∀b,w.heap.size+1<=b->b<V.heap.size->wr.heap[b]?=V.heap[b]?)/\V.heap.size<=wr.heap.size/\Hid (Below w.heap.size w wr)) (fun i _=>8-(intOf i).toNat)
  case atStart=>exact⟨0,_,by omega,rfl,hD,cu _ _ _ _,fun _ _ _=>rfl,nR,hb⟩
  case round =>
   obtain⟨k,sv,hM,rfl,hD,hK,hE,hN,hb⟩:=hrel
   by_cases hkt':k<8
   ·have hL:(k:Int)<8:=by omega
    go_wp2_with fail;refine(jSa (k:Int) (Sq.at0 iv k) false wr (by omega) (by omega) (Sq.qCp k hkt')).mono ?_;rintro e w1 ⟨rfl,hF⟩;have hc:=(hF.block _ (jQe hD.o)).trans hD.o;have hv:=hd (hK.o.below hF);have c0:w1.cell? ⟨w.heap.size,1,none⟩=some sv:=by rw[jQb hc];rfl
    have hp:=jQe hc;have hB:=hF.size;have hi:=hb.o.trans (hF.mono hb.o.size);have hs:=hd hi;have he:=hd hc;have ht:Hid (∀b,w.heap.size+1<=b->b<V.heap.size->w1.heap[b]?=V.heap[b]?):=fun b h1 h2=>(hF.block b (by omega)).trans (hE.o b h1 h2)
    clear hc hF hi hD hK hb hE;go_wp2_with (at_builtin;refine jMw rfl (.tmp 34) (.tmp 36) rfl V.heap.size sv _ rfl (hv.o.below (bA)) (Sq.at0 iv k) w1.heap.size 1 rfl (by simp[go_sem]) (by rw[dq];omega) (by simp;omega) ?_;intro v2 w2 hG hH;rw[<-Sq.jN7 _ _ (by rw[hh.o];omega)] at hG;obtain⟨vo,vc,hI⟩:=jQa hG;rw[dq,hh.o,Nat.min_eq_left (by omega)] at hI;subst hI;have ha:=(hH.block w.heap.size hx).trans ((jNY hp _).trans he.o);have e0:w2.cell? ⟨w.heap.size,1,none⟩=some sv:=(by rw[jQb ha];rfl);have f0:=jQd ha 1;have hC:=jQe ha;have hz:=hH.size;have hw:=hd hG;have hq:=hd hH;have hf:=hd ha;clear hG hH ha);have hA:V.heap.size<=w2.heap.size:=by simp at hz;omega
    go_roundw
    case rel =>
     refine⟨k+1,.slice vo (k+1) vc,by omega,by go_num,?_,?_,?_,?_,?_⟩
     ·show _=_;rw[jQf hf.o];rfl
     ·exact ei hw.o (a:=⟨w.heap.size,1,none⟩) hx _
     ·intro b h1 h2;rw[jQg (by omega)];exact(hq.o.block b h2).trans ((jNY (by omega) _).trans (ht.o b h1 h2))
     ·simpa using hA
     exact cj (B:=w.heap.size) ((hs.o.alloc (cQ hp) _).trans (hq.o.mono (by omega))) nR _
    case measure=>simp[intOf];omega
   have hL:¬((k:Int)<8):=by omega
   have ho:jAS V.heap.size wr sv iv:=by have:=hK.o;rwa [cL (by rw[hh.o];omega)] at this
   have hy:Hid (jFi wr w.heap.size):=⟨kv,sv,hD.o,jAS.base (jQp hr.o fun g hg=>hE.o g (World.ownsRow.lt hr.o g hg).1 (World.ownsRow.lt hr.o g hg).2),ho.base⟩;clear hK ho hE;go_wp2;go_ret;exact⟨rfl,hy.o,hb.o⟩
def jEQ (B:Nat)(w:World)(v:Value)(l:List Int):Prop:=∃g cap cur,v=.slice (some ⟨g,0,none⟩) l.length cap/\B<=g/\w.heap[g]?=some (.cells cur 3)/\∀j,j<l.length->cur[j]?=some (.int .i64 (Sq.at0 l j))
theorem jEQ.below {l:List Int}(h:jEQ B w v l)(hb:Below w.heap.size w w'):jEQ B w' v l:=by
 obtain⟨g,cap,cur,h1,h2,h3,h4⟩:=h;exact⟨g,cap,cur,h1,h2,(hb.block _ (jQe h3)).trans h3,h4⟩
theorem jEQ.base {C:Nat}{l:List Int}(h:jEQ B w v l)(hc:C<=B):jEQ C w v l:=by
 obtain⟨g,cap,cur,h1,h2,h3,h4⟩:=h;exact⟨g,cap,cur,h1,cm hc h2,h3,h4⟩
theorem jAS.r {l:List Int}(h:jAS B w v l)(h0:0<l.length):jEQ B w v l:=by
 rcases h.2 with h1 | ⟨g,cap,cur,hv,hg,hh,hn,hm,hc,ht⟩
 ·omega
 refine⟨g,cap,cur,hv,hg,hh,fun j hj=>?_⟩;have h2:(cur.toList.take (l.length*1))[j]?=(l.map (Value.int .i64))[j]?:=by rw[ht]
 rw[List.getElem?_take,cE (by omega),Array.getElem?_toList] at h2;rw[h2,dy];unfold Sq.at0;rw[cz hj];rfl
theorem jO3 {ops:Array Oper}{rest:List Oper}{Q:Exit->Act->World->Prop}(hf:o.guard=none)(sl x:Operand)
  (ho:o.op=.call { callee:=.builtin .append,args:=#[sl,x],argTypes:=#[54,54] }) (B:Nat) (hs:a.eval sl=.slice none 0 0)
  (l:List Int) (v:Value) (hx:a.eval x=v) (hl:jEQ 0 w v l) (h0:0<l.length) (h1:l.length<=1000) (hB:B<=w.heap.size)
  (h:∀v' w',jEQ B w' v' l->Below B w w'->wpList Tryz.prog ops Q rest (a.put o.dst v') w'):wpList Tryz.prog ops Q (o::rest) a w:=by
 obtain⟨i0,hi,hh,hn,hp⟩:=cV Tryz.jD4;obtain⟨g,cap,cur,rfl,h2,h3,h4⟩:=hl;have ha:w.ownsRow B 3 1 (.slice none 0 0) 0 []:=cu _ _ _ _
 refine cT _ hf sl x 54 ho B 3 i0 _ 1 8 Tryz.underlying54 hi hh hn hp rfl (by decide) (.slice none 0 0) 0 [] hs ha ⟨g,0,none⟩ l.length cap (l.map (Value.int .i64)) hx (by simp) (by
  intro j u hu;rw[jHP,jQb h3];rw[dy] at hu;cases hj:l[j]? with
  | none=>rw[hj] at hu;cases hu
  | some x =>
   rw[hj] at hu;simp at hu;subst hu;obtain⟨hg,hx⟩:=List.getElem?_eq_some_iff.1 hj;rw[h4 j hg];unfold Sq.at0;rw[hj];rfl) (by
  intro u hu;obtain⟨x,_,rfl⟩:=List.mem_map.1 hu;rfl) h0 (by unfold maxLen;omega) (by omega) hB _ rfl ?_
 intro g' cap w' hb hc _ _;refine h _ w' ?_ (Tch.aO hc (fun k hk=>by cases hk) hB)
 have:jAS B w' (.slice (some ⟨g',0,none⟩) (0+l.length) cap) l:=by
  unfold jAS;rw[df] at hb ⊢;simpa using hb
 rw[df] at this ⊢;exact this.r h0
def jDR (t:BA)(k:Nat):Nat->Int
 | 0=>0
 | j+1=>256*jDR t k j+aJ t (k+j)
theorem jT7 (t:BA)(k:Nat):∀j,0<=jDR t k j/\jDR t k j<256^j
 | 0=>⟨dA _,by show(0:Int)<256^0;decide⟩
 | j+1=>by
  have h1:=jT7 t k j;have h2:=jNV t (k+j);show 0<=256*jDR t k j+aJ t (k+j)/\256*jDR t k j+aJ t (k+j)<256^(j+1);rw[Int.pow_succ];omega
theorem qCj (t:BA)(k j:Nat)(hj:j<4):0<=jDR t k j/\jDR t k j<16777216:=by
 have h:=jT7 t k j;refine⟨h.1,?_⟩
 match j,hj,h with
 | 0,_,h=>have:(256:Int)^0=1:=rfl;omega
 | 1,_,h=>have:(256:Int)^1=256:=rfl;omega
 | 2,_,h=>have:(256:Int)^2=65536:=rfl;omega
 | 3,_,h=>have:(256:Int)^3=16777216:=rfl;omega
theorem jVF (j:Nat)(hj:j<64):W32 (Sq.at0 jAz j):=by
 have h:∀j,j<64->(Decidable.decide (0<=Sq.at0 jAz j)&&Decidable.decide (Sq.at0 jAz j<4294967296))=true:=by decide +kernel
 have:=h j hj
 simp only[cP,cZ] at this;exact this
theorem qBB {r:Sq.jFx}(h:Sq.jFy r)(p:Nat)(hp:p<8):W32 (Sq.at0 (Sq.jDV r) p):=by
 match p,hp with
 | 0,_=>exact h.a
 | 1,_=>exact h.b
 | 2,_=>exact h.c
 | 3,_=>exact h.d
 | 4,_=>exact h.e
 | 5,_=>exact h.f
 | 6,_=>exact h.g
 | 7,_=>exact h.h
 | p+8,h=>omega
theorem Sq.qBT (l:List Int)(k j:Nat)(h:j<k):Sq.at0 (l.take k) j=Sq.at0 l j:=by
 unfold Sq.at0;rw[List.getElem?_take,cE h]
theorem jVV {ops:Array Oper}{K:Act->World->Prop}{Q:Exit->Act->World->Prop}{E:Prop}(hf:o.guard=none)(sl x:Operand)
  (ho:o.op=.call { callee:=.builtin .append,args:=#[sl,x],argTypes:=#[54,54] }) (B:Nat) (v:Value) (l:List Int) (hs:a.eval sl=v) (hb:jAS B w v l)
  (e:Int) (g c:Nat) (hx:a.eval x=.slice (some ⟨g,0,none⟩) 1 c) (ha:w.cell? ⟨g,0,none⟩=some (.int .i64 e)) (h1:l.length<=1000) (hB:B<=w.heap.size)
  (h:∀v' w',jAS B w' v' (l++[e])->Below B w w'->K (a.put o.dst v') w'):if Region.wanted o (yielded ops a.tmps)=true then Oper.wp Tryz.prog o a w K Q else E:=by
 obtain⟨i0,hi,hh,hj,hn⟩:=cV Tryz.jD4
 refine dV _ hf sl x 54 ho B 3 i0 _ 1 8 Tryz.underlying54 hi hh hj hn rfl (by decide) v l.length _ hs hb ⟨g,0,none⟩ 1 c [.int .i64 e] hx rfl (by
  intro j u hu;rw[jHP]
  match j,hu with
  | 0,hu=>simp at hu;subst hu;exact ha
  | j+1,hu=>simp at hu) (by intro u hu;simp at hu;subst hu;rfl) (by decide) (by unfold maxLen;omega) (by omega) hB _ rfl ?_
 intro g' cap w' hg hc _ _;refine h _ w' ?_ (Tch.aO hc (fun k hk=>(World.ownsRow.lt hb k hk).1) hB);unfold jAS;rw[cg,cR];simpa using hg
theorem jZj (kl:Nat)(s:List Int)(sv:Value)(l:List UInt8)(a:Nat)(t:BA)(w:World)(hH:jFi w kl)(hs:jEQ 0 w sv s)(kL:s.length=8)(kM:∀k,k<8->W32 (Sq.at0 s k))(ht:t.size=64)(ko:∀j,j<64->aJ t j=((jEI l (a+j)).toNat:Int)) :
  Calls Tryz.prog 51 #[.pointer (some ⟨kl,0,none⟩),sv,.string t] w fun e w'=>∃v,e=.returned v/\jEQ w.heap.size w' v (Sq.mixed s (Sq.sched l a))/\Below w.heap.size w w':=by
 obtain⟨so,sk,sc,rfl⟩:∃a b c,sv=.slice a b c:=by obtain⟨g,cap,cur,h1,_⟩:=hs;exact⟨_,_,_,h1⟩
 have Hx:=Sq.qAM l a
 have Hv:∀k,k<16->Sq.at0 (Sq.sched l a) k=jDR t (4*k) 4:=fun k hk=>by
  rw[Sq.jTE l a k hk];unfold Sq.word;rw[(Sq.jTw _ _ _ _).1];have e0:aJ t (4*k+0)=((jEI l (a+4*k)).toNat:Int):=ko (4*k) (by omega);have e1:aJ t (4*k+1)=((jEI l (a+4*k+1)).toNat:Int):=ko (4*k+1) (by omega);have e2:aJ t (4*k+2)=((jEI l (a+4*k+2)).toNat:Int):=ko (4*k+2) (by omega);have e3:aJ t (4*k+3)=((jEI l (a+4*k+3)).toNat:Int):=ko (4*k+3) (by omega);show _=256*(256*(256*(256*0+aJ t (4*k+0))+aJ t (4*k+1))+aJ t (4*k+2))+aJ t (4*k+3);omega
 have hN:∀k,16<=k->k<64->Sq.at0 (Sq.sched l a) k=Sq.next (Sq.sched l a) k:=fun k h1 h2=>Sq.jTF l a k h1 h2
 have Hw:∀k,k<64->W32 (Sq.at0 (Sq.sched l a) k):=fun k hk=>Sq.qBz l a k hk
 generalize Sq.sched l a=ws at *;have HH:=hd hH;have HS:=hd hs;have hI:=hd kL;have hy:=hd kM;have hJ:=hd Hx;have HT:=hd Hv;have HU:=hd hN;have hK:=hd Hw;have Hm:=hd ht;clear hH hs kL kM Hx Hv hN Hw ko ht;go_enter Tryz.func51,Tryz.ntmps51;go_wp2
 go_loopw [7,8] (fun v i wr=>∃k:Nat,k<=64/\i=.int .i64 k/\Hid (jAS w.heap.size wr v (ws.take k))/\Hid (Below w.heap.size w wr)) (fun _ i _=>64-(intOf i).toNat)
 case atStart=>exact⟨0,by omega,rfl,cu _ _ _ _,bR⟩
 case round =>
  obtain⟨k,hk,rfl,hv,hb⟩:=hrel;obtain⟨vo,vc,kN⟩:=jQa hv.o;rw[dq,hJ.o,Nat.min_eq_left hk] at kN;subst kN;obtain⟨V,hV⟩:∃V:World,V=wr:=⟨_,rfl⟩;rw[<-hV] at hv hb ⊢;clear hV;have hO:=hb.o.size
  by_cases hkt:k<64
  ·have i0:(k:Int)<64:=by omega
   have Hl:Hid (ws.take (k+1)=ws.take k++[Sq.at0 ws k]):=Sq.jN7 _ _ (by rw[hJ.o];exact hkt)
   by_cases hk16:k<16
   ·have i1:(k:Int)<16:=by omega
    have HE:Hid (Sq.at0 ws k=jDR t (4*k) 4):=HT.o k hk16;go_wp2
    go_loopw [9,10] (fun xv jv wr=>∃j:Nat,j<=4/\jv=.int .i64 j/\xv=.int .i64 (jDR t (4*k) j)/\Hid (wr=V)) (fun _ j _=>4-(intOf j).toNat)
    case atStart=>exact⟨0,by omega,rfl,rfl,rfl⟩
    case round =>
     obtain⟨j,hj,rfl,rfl,hw⟩:=hrel;have H4:=hw.o;subst H4;clear hw
     by_cases hj4:j<4
     ·have h8:4*k+j<t.size:=by rw[Hm.o];omega
      have hx:=Sq.jNU t (4*k+j) h8;have H5:=jNV t (4*k+j);have HN:Hid (jDR t (4*k) (j+1)=256*jDR t (4*k) j+aJ t (4*k+j)):=rfl;obtain⟨k5,kt⟩:=qCj t (4*k) j hj4;have k6:t.size=64:=Hm.o;have HX:=hd hx;have ha:((t[4*k+j].toNat:Nat):Int)<=255:=by omega
      have hn:t[4*k+j].toNat<=255:=by omega
      generalize hgp:jDR t (4*k) j=y at *;clear hx;go_wp2;go_roundw
      case rel =>
       refine⟨j+1,by omega,by go_num,?_,trivial⟩;rw[HN.o,HX.o]
      case measure=>simp[intOf];omega
     have Ho:j=4:=by omega
     have HJ:Hid (ws.take k++[jDR t (4*k) j]=ws.take (k+1)):=by show _=_;rw[Ho,<-HE.o,<-Hl.o]
     have i2:¬((j:Int)<4):=by omega
     clear Ho;generalize jDR t (4*k) j=y at *;go_wp2_with (at_builtin;refine jMw rfl (.tmp 45) (.tmp 47) rfl w.heap.size (.slice vo k vc) _ rfl (hv.o.below (bA)) y wr.heap.size 1 rfl (by simp[go_sem]) (by rw[dq];omega) (by simp;omega) ?_;intro v2 w2 kc hn;rw[HJ.o] at kc;have h0:=hd kc;have ho:=hd ((hb.o.alloc hO _).trans hn);clear kc hn);go_roundw;exact⟨k+1,by omega,by go_num,h0,ho⟩;simp[intOf];omega
   have i1:¬((k:Int)<16):=by omega
   have HE:Hid (Sq.at0 ws k=Sq.next ws k):=HU.o k (by omega) hkt
   have hl:∀j,j<k->∃g,vo=some ⟨g,0,none⟩/\g<V.heap.size/\V.cell? ⟨g,j,none⟩=some (.int .i64 (Sq.at0 ws j)):=fun j hj=>by
    obtain⟨g,cap,h1,h2,h3⟩:=hv.o.at j (by rw[dq,hJ.o];omega);simp only[Value.slice.injEq] at h1;rw[Sq.qBT _ _ _ hj] at h3;exact⟨g,h1.1,h2,h3⟩
   obtain⟨g,kQ,hg,kz⟩:=hl (k-16) (by omega);subst kQ
   have hm:∀j,j<k->V.cell? ⟨g,j,none⟩=some (.int .i64 (Sq.at0 ws j)):=fun j hj=>by
    obtain⟨g',h1,h2,h3⟩:=hl j hj;simp only[Option.some.injEq,Addr.mk.injEq,and_true,true_and] at h1;rw[h1];exact h3
   have HC:=hd hm;clear hl hm kz;have kp:=HC.o (k-15) (by omega);have ki:=hK.o (k-15) (by omega);have kk:=hK.o (k-2) (by omega);have ky:=hK.o (k-16) (by omega);have w7:=hK.o (k-7) (by omega);have Ki:((k:Int)-15).toNat=k-15:=by omega
   have j2:((k:Int)-2).toNat=k-2:=by omega
   have Kj:((k:Int)-16).toNat=k-16:=by omega
   have j7:((k:Int)-7).toNat=k-7:=by omega
   have Kq:¬((k:Int)-15<0):=by omega
   have q2:¬((k:Int)-2<0):=by omega
   have Kr:¬((k:Int)-16<0):=by omega
   have q7:¬((k:Int)-7<0):=by omega
   have Ks:¬((k:Int)<=(k:Int)-15):=by omega
   have r2:¬((k:Int)<=(k:Int)-2):=by omega
   have Kt:¬((k:Int)<=(k:Int)-16):=by omega
   have r7:¬((k:Int)<=(k:Int)-7):=by omega
   go_wp2_with fail;refine(jQ7 (Sq.at0 ws (k-15)) 7 7 V ki (by decide)).mono ?_;rintro e w1 ⟨rfl,ha⟩;have h5:=hd ha;have kr:=((aD h5.o).1 g (k-15) hg).trans kp;clear ha kp;go_wp2_with fail;refine(jQ7 (Sq.at0 ws (k-15)) 18 18 w1 ki (by decide)).mono ?_;rintro e w2 ⟨rfl,ha⟩;have hP:=h5.t ha;have kp:=((aD hP.o).1 g (k-15) hg).trans (HC.o (k-15) (by omega));clear ha kr;have hz:=Sq.qCH ki;have hc:=Sq.qCW kk;have HW:=ki.1;have H8:=kk.1;have HY:=ki.2;have H9:=kk.2;have Hf:=hd hz.1;have He:=hd hc.1;have k3:=hz.2.1;have k4:=hz.2.2;have k1:=hc.2.1;have k2:=hc.2.2;clear hz hc;go_wp2_with fail;refine(jLN _ _ _ _).mono ?_;rintro e wq ⟨rfl,hq⟩;rw[hq,Hf.o];clear hq wq kp;have c2:=((aD hP.o).1 g (k-2) hg).trans (HC.o (k-2) (by omega));go_wp2_with fail;refine(jQ7 (Sq.at0 ws (k-2)) 17 17 w2 kk (by decide)).mono ?_;rintro e w3 ⟨rfl,ha⟩;have h6:=hP.t ha;have kO:=((aD h6.o).1 g (k-2) hg).trans (HC.o (k-2) (by omega));clear ha c2;go_wp2_with fail;refine(jQ7 (Sq.at0 ws (k-2)) 19 19 w3 kk (by decide)).mono ?_;rintro e w4 ⟨rfl,ha⟩;have hB:=h6.t ha;have c2:=((aD hB.o).1 g (k-2) hg).trans (HC.o (k-2) (by omega));clear ha kO;go_wp2_with fail;refine(jLN _ _ _ _).mono ?_;rintro e wq ⟨rfl,hq⟩;rw[hq,He.o];clear hq wq c2;have kz:=((aD hB.o).1 g (k-16) hg).trans (HC.o (k-16) (by omega));have c7:=((aD hB.o).1 g (k-7) hg).trans (HC.o (k-7) (by omega));have Hq:ws.take k++[HMod.hMod (Sq.at0 ws (k-16)+Sq.low (Sq.at0 ws (k-15))+Sq.at0 ws (k-7)+Sq.high (Sq.at0 ws (k-2))) (4294967296:Int)]=ws.take (k+1):=by rw[Hl.o,HE.o];rfl
   have HK:=hd Hq;have HR:=hd (hv.o.below hB.o);have H6:w.heap.size<=w4.heap.size:=cm hO hB.o.size;have hF:=hd (hb.o.trans (hB.o.mono hO));clear Hq Hf He HC h5 hP h6;have a1:=ky.1;have a2:=ky.2;have a3:=w7.1;have a4:=w7.2;have kZ:g<w4.heap.size:=dz hg hB.o.size;clear ki kk ky w7;generalize Sq.at0 ws (k-16)=x16 at *;generalize Sq.at0 ws (k-15)=x15 at *;generalize Sq.at0 ws (k-7)=x7 at *;generalize Sq.at0 ws (k-2)=x2 at *;generalize Sq.low x15=lo at *;generalize Sq.high x2=hi at *;go_wp2;have H2:IntKind.i64.wrap ((k:Int)-16)=(k:Int)-16:=by rw[dU];omega
   have k7:IntKind.i64.wrap ((k:Int)-7)=(k:Int)-7:=by rw[dU];omega
   have k8:IntKind.i64.wrap (x16+lo)=x16+lo:=by rw[dU];omega
   have k9:IntKind.i64.wrap (x16+lo+x7)=x16+lo+x7:=by rw[dU];omega
   have Ka:IntKind.i64.wrap (x16+lo+x7+hi)=x16+lo+x7+hi:=by rw[dU];omega
   have Kb:(x16+lo+x7+hi).tmod 4294967296=HMod.hMod (x16+lo+x7+hi) (4294967296:Int):=Int.tmod_eq_emod_of_nonneg (by omega);have o7:(7:Int)<=(k:Int):=by omega
   have Ko:(16:Int)<=(k:Int):=by omega
   have Kp:0<=(k:Int)-16:=by omega
   have p7:0<=(k:Int)-7:=by omega
   have Ku:(k:Int)-16<(k:Int):=by omega
   have s7:(k:Int)-7<(k:Int):=by omega
   go_region_law (refine jVV rfl (.tmp 91) (.tmp 108) rfl w.heap.size (.slice (some ⟨g,0,none⟩) k vc) _ (by simp[Act.eval,Act.put]) (HR.o.below ((cB bR).alloc nR _)) (HMod.hMod (x16+lo+x7+hi) (4294967296:Int)) w4.heap.size 1 (by simp[Act.eval,Act.put]) (by simp[go_sem]) (by rw[dq];omega) (by simp;omega) ?_;intro v2 w5 kc hn;rw[HK.o] at kc;have h0:=hd kc;have ho:=hd ((hF.o.drew.alloc H6 _).trans hn);clear kc hn)
   all_goals(try go_wp2)
   all_goals
    go_roundw;exact⟨k+1,by omega,by go_num,h0,ho⟩;simp[intOf];omega
  have i0:¬((k:Int)<64):=by omega
  have H0:64<=k:=by omega
  have Hu:jAS w.heap.size V (.slice vo k vc) ws:=by have:=hv.o;rwa [cL (by rw[hJ.o];omega)] at this
  have Hn:=hd Hu;have Hk:=hd (HS.o.below hb.o);clear hv Hu;go_wp2_with (at_builtin;refine jO3 rfl (.const (.slice none 0 0)) (.tmp 110) rfl V.heap.size rfl s _ rfl Hk.o (by rw[hI.o];omega) (by rw[hI.o];omega) nR ?_;intro v2 w2 kc hn;have Hh:=hd kc;have ho:=hd (hb.o.trans (hn.mono hO));have h4:=hd (Hn.o.below hn);clear kc hn);have Ht:Sq.jFy (jEl s):=⟨hy.o 0 (by omega),hy.o 1 (by omega),hy.o 2 (by omega),hy.o 3 (by omega),hy.o 4 (by omega),hy.o 5 (by omega),hy.o 6 (by omega),hy.o 7 (by omega)⟩;have Hi:=hd Ht
  have Hs:jEQ w.heap.size w2 v2 (Sq.jDV (jCf (jEl s) ws 0)):=by
   have:=Hh.o.base hO
   rw[Sq.eight hI.o] at this;exact this
  have HL:=hd Hs;obtain⟨kv,Kv,hD,kG,-⟩:=HH.o;have HG:=hd (kG.below ho.o);have Hd:=hd ((ho.o.block _ (jQe hD)).trans hD);have Hj:=hd (HS.o.below ho.o);have Hy:=ho.o.size;clear Ht Hs Hh kG hD Hk Hn hb
  go_loopw [15,16] (fun v i wr=>∃j:Nat,j<=64/\i=.int .i64 j/\Hid (jEQ w.heap.size wr v (Sq.jDV (jCf (jEl s) ws j)))/\Hid (Below w2.heap.size w2 wr)) (fun _ i _=>64-(intOf i).toNat)
  case atStart=>exact⟨0,by omega,rfl,HL,bR⟩
  case round =>
   obtain⟨j,hj,rfl,hv,hb⟩:=hrel;obtain⟨U,hU⟩:∃V:World,V=wr:=⟨_,rfl⟩;rw[<-hU] at hv hb ⊢;clear hU;have Hb:=hb.o.size
   by_cases hjt:j<64
   ·have i1:(j:Int)<64:=by omega
    have hW:=Hi.o.rounds ws j;have Ha:jCf (jEl s) ws (j+1)=jGH (jCf (jEl s) ws j) (jAz.getD j 0) (Sq.at0 ws j):=rfl;have H3:=hK.o j hjt;have H1:W32 (Sq.at0 jAz j):=jVF j hjt;obtain⟨gw,cw,hN,kF,kh⟩:=(h4.o.below hb.o).at j (by rw[hJ.o];exact hjt);rw[Value.slice.injEq] at hN;obtain⟨rfl,-,rfl⟩:=hN;obtain⟨gk,ck,kP,kE,kg⟩:=(HG.o.below hb.o).at j (by show j<64;exact hjt);subst kP;have hD:=(hb.o.block _ (jQe Hd.o)).trans Hd.o;have hL:U.cell? ⟨kl,0,none⟩=some (.slice (some ⟨gk,0,none⟩) 64 ck):=by rw[jQb hD];rfl
    have Hz:=jQe hD;obtain⟨g,cap,cur,kx,ke,kb,ka⟩:=hv.o;have hg:=jQe kb;subst kx;rw[show jAz.getD j 0=Sq.at0 jAz j from by unfold Sq.at0;rw[List.getD_eq_getElem?_getD]] at Ha;generalize jCf (jEl s) ws j=r at *;obtain⟨ra,rb,rc,rd,re,rf,rg,rh⟩:=r;obtain⟨wa,wb,wc,wd,we,wf,wg,wh⟩:=hW;simp only at wa wb wc wd we wf wg wh;have C0:Hid (U.cell? ⟨g,0,none⟩=some (.int .i64 ra)):=by show _=_;rw[jQb kb];exact ka 0 (by show 0<8;omega)
    have C1:Hid (U.cell? ⟨g,1,none⟩=some (.int .i64 rb)):=by show _=_;rw[jQb kb];exact ka 1 (by show 1<8;omega)
    have C2:Hid (U.cell? ⟨g,2,none⟩=some (.int .i64 rc)):=by show _=_;rw[jQb kb];exact ka 2 (by show 2<8;omega)
    have C3:Hid (U.cell? ⟨g,3,none⟩=some (.int .i64 rd)):=by show _=_;rw[jQb kb];exact ka 3 (by show 3<8;omega)
    have C4:Hid (U.cell? ⟨g,4,none⟩=some (.int .i64 re)):=by show _=_;rw[jQb kb];exact ka 4 (by show 4<8;omega)
    have C5:Hid (U.cell? ⟨g,5,none⟩=some (.int .i64 rf)):=by show _=_;rw[jQb kb];exact ka 5 (by show 5<8;omega)
    have C6:Hid (U.cell? ⟨g,6,none⟩=some (.int .i64 rg)):=by show _=_;rw[jQb kb];exact ka 6 (by show 6<8;omega)
    have C7:Hid (U.cell? ⟨g,7,none⟩=some (.int .i64 rh)):=by show _=_;rw[jQb kb];exact ka 7 (by show 7<8;omega)
    have e4:=C4.o;have CW:=hd kh;have CK:=hd kg;have CH:=hd hL;have HQ:=hd Ha;clear ka kb hD kh kg hL Ha hv;rw[show(Sq.jDV ⟨ra,rb,rc,rd,re,rf,rg,rh⟩).length=8 from rfl];generalize Sq.at0 ws j=wj at *;generalize Sq.at0 jAz j=kj at *;have hC:=Sq.jVm we 6 11 25 (by decide) (by decide) (by decide);have hf:=Sq.jVm wa 2 13 22 (by decide) (by decide) (by decide);have h7:=jZ3 we wf wg;have h9:=qCR wa wb wc;have hG:=hd hC.1;have hA:=hd hf.1;have Hc:=hd h7.1;have Hg:=hd h9.1;obtain⟨kS,kT⟩:=hC.2;obtain⟨kU,kV⟩:=hf.2;obtain⟨kW,kX⟩:=h7.2;obtain⟨Km,Kn⟩:=h9.2
    have HA:Hid (Sq.jDV (jGH ⟨ra,rb,rc,rd,re,rf,rg,rh⟩ kj wj)=[HMod.hMod (rh+bits .xor .u32 (bits .xor .u32 (rot re 6) (rot re 11)) (rot re 25)+bits .xor .u32 (bits .and .u32 re rf) (bits .and .u32 (bits .xor .u32 IntKind.u32.max re) rg)+kj+wj+bits .xor .u32 (bits .xor .u32 (rot ra 2) (rot ra 13)) (rot ra 22)+bits .xor .u32 (bits .xor .u32 (bits .and .u32 ra rb) (bits .and .u32 ra rc)) (bits .and .u32 rb rc)) (4294967296:Int),ra,rb,rc,HMod.hMod (rd+(rh+bits .xor .u32 (bits .xor .u32 (rot re 6) (rot re 11)) (rot re 25)+bits .xor .u32 (bits .and .u32 re rf) (bits .and .u32 (bits .xor .u32 IntKind.u32.max re) rg)+kj+wj)) (4294967296:Int),re,rf,rg]):=by
     show _=_;rw[Sq.qCE,Sq.qCD];rfl
    clear hC hf h7 h9;generalize bits .xor .u32 (bits .xor .u32 (rot re 6) (rot re 11)) (rot re 25)=big at *;generalize bits .xor .u32 (bits .xor .u32 (rot ra 2) (rot ra 13)) (rot ra 22)=big2 at *;generalize bits .xor .u32 (bits .and .u32 re rf) (bits .and .u32 (bits .xor .u32 IntKind.u32.max re) rg)=ch at *;generalize bits .xor .u32 (bits .xor .u32 (bits .and .u32 ra rb) (bits .and .u32 ra rc)) (bits .and .u32 rb rc)=mo at *;go_wp2_with fail;refine(jQ7 re 6 6 U we (by decide)).mono ?_;rintro e w3 ⟨rfl,ha⟩;have hQ:=hd ha;clear ha e4;have e4:=((aD hQ.o).1 g 4 hg).trans C4.o;go_wp2_with fail;refine(jQ7 re 11 11 w3 we (by decide)).mono ?_;rintro e w4 ⟨rfl,ha⟩;have hF:=hQ.t ha;clear ha e4 hQ;have e4:=((aD hF.o).1 g 4 hg).trans C4.o;go_wp2_with fail;refine(jQ7 re 25 25 w4 we (by decide)).mono ?_;rintro e w5 ⟨rfl,ha⟩;have hr:=hF.t ha;clear ha e4 hF;have e4:=((aD hr.o).1 g 4 hg).trans C4.o;have e5:=((aD hr.o).1 g 5 hg).trans C5.o;have e6:=((aD hr.o).1 g 6 hg).trans C6.o;have e7:=((aD hr.o).1 g 7 hg).trans C7.o;have kh:=((aD hr.o).1 gw j kF).trans CW.o;have kg:=((aD hr.o).1 gk j kE).trans CK.o;have ks:=((aD hr.o).1 kl 0 Hz).trans CH.o;go_wp2_with fail;refine(jLN _ _ _ _).mono ?_;rintro e wq ⟨rfl,hq⟩;rw[hq,hG.o];clear hq wq hG;obtain⟨Ky,Kz⟩:=we;obtain⟨KA,KB⟩:=wh;obtain⟨KC,KD⟩:=H3;obtain⟨Kk,Kl⟩:=H1;have kR:IntKind.i64.wrap (4294967295-re)=4294967295-re:=by rw[dU];omega
    have l1:(j:Int)<(k:Int):=by omega
    have l2:¬((k:Int)<=(j:Int)):=by omega
    have l3:¬((64:Int)<=(j:Int)):=by omega
    have l4:¬((j:Int)<0):=by omega
    go_wp2
    go_quiet (fail)
    rw[Hc.o];clear Hc kR;obtain⟨wB,kA,kH⟩:∃wq,Below w5.heap.size w5 wq/\w5.drewN nq=wq:=⟨_,jHp _ _,rfl⟩;rw[kH];have hE:=hr.t kA;clear kH nq kA e4 e5 e6 e7 kh kg ks hr;have e7:=((aD hE.o).1 g 7 hg).trans C7.o;have kh:=((aD hE.o).1 gw j kF).trans CW.o;have kg:=((aD hE.o).1 gk j kE).trans CK.o;have ks:=((aD hE.o).1 kl 0 Hz).trans CH.o;go_wp2
    go_quiet (fail)
    obtain⟨wC,kB,kI⟩:∃wq,Below wB.heap.size wB wq/\wB.drewN nq=wq:=⟨_,jHp _ _,rfl⟩;rw[kI];have hT:=hE.t kB;clear kI nq kB e7 kh kg ks hE;have e0:=((aD hT.o).1 g 0 hg).trans C0.o;go_wp2_with fail;refine(jQ7 ra 2 2 wC wa (by decide)).mono ?_;rintro e w6 ⟨rfl,ha⟩;have hR:=hT.t ha;clear ha e0 hT;have e0:=((aD hR.o).1 g 0 hg).trans C0.o;go_wp2_with fail;refine(jQ7 ra 13 13 w6 wa (by decide)).mono ?_;rintro e w7 ⟨rfl,ha⟩;have hS:=hR.t ha;clear ha e0 hR;have e0:=((aD hS.o).1 g 0 hg).trans C0.o;go_wp2_with fail;refine(jQ7 ra 22 22 w7 wa (by decide)).mono ?_;rintro e w8 ⟨rfl,ha⟩;have hu:=hS.t ha;clear ha e0 hS;have e0:=((aD hu.o).1 g 0 hg).trans C0.o;have e1:=((aD hu.o).1 g 1 hg).trans C1.o;have e2:=((aD hu.o).1 g 2 hg).trans C2.o;have e3:=((aD hu.o).1 g 3 hg).trans C3.o;have e4:=((aD hu.o).1 g 4 hg).trans C4.o;have e5:=((aD hu.o).1 g 5 hg).trans C5.o;have e6:=((aD hu.o).1 g 6 hg).trans C6.o;go_wp2_with fail;refine(jLN _ _ _ _).mono ?_;rintro e wq ⟨rfl,hq⟩;rw[hq,hA.o];clear hq wq hA;obtain⟨Kw,Kx⟩:=wd;go_wp2
    go_quiet (fail)
    rw[Hg.o];clear Hg;obtain⟨wD,kC,kJ⟩:∃wq,Below w8.heap.size w8 wq/\w8.drewN nq=wq:=⟨_,jHp _ _,rfl⟩;rw[kJ];have he:=hu.t kC;clear kJ nq kC e0 e1 e2 e3 e4 e5 e6 hu;have e0:=((aD he.o).1 g 0 hg).trans C0.o;have e1:=((aD he.o).1 g 1 hg).trans C1.o;have e2:=((aD he.o).1 g 2 hg).trans C2.o;have e3:=((aD he.o).1 g 3 hg).trans C3.o;have e4:=((aD he.o).1 g 4 hg).trans C4.o;have e5:=((aD he.o).1 g 5 hg).trans C5.o;have e6:=((aD he.o).1 g 6 hg).trans C6.o;have k0:g<wD.heap.size:=dz hg he.o.size;have Kc:IntKind.i64.wrap (rh+big+ch+kj+wj+big2)=rh+big+ch+kj+wj+big2:=by rw[dU];omega
    have H5:IntKind.i64.wrap (rh+big+ch+kj+wj+big2+mo)=rh+big+ch+kj+wj+big2+mo:=by rw[dU];omega
    have Kd:IntKind.i64.wrap (rd+(rh+big+ch+kj+wj))=rd+(rh+big+ch+kj+wj):=by rw[dU];omega
    have Ke:(rh+big+ch+kj+wj+big2+mo).tmod 4294967296=HMod.hMod (rh+big+ch+kj+wj+big2+mo) (4294967296:Int):=Int.tmod_eq_emod_of_nonneg (by omega);have Kf:(rd+(rh+big+ch+kj+wj)).tmod 4294967296=HMod.hMod (rd+(rh+big+ch+kj+wj)) (4294967296:Int):=Int.tmod_eq_emod_of_nonneg (by omega);go_wp2
    go_region_held3 (fun w'=>w'.cell? ⟨g,0,none⟩=some (.int .i64 ra)/\w'.cell? ⟨g,1,none⟩=some (.int .i64 rb)/\w'.cell? ⟨g,2,none⟩=some (.int .i64 rc)/\w'.cell? ⟨g,3,none⟩=some (.int .i64 rd)/\w'.cell? ⟨g,4,none⟩=some (.int .i64 re)/\w'.cell? ⟨g,5,none⟩=some (.int .i64 rf)/\w'.cell? ⟨g,6,none⟩=some (.int .i64 rg)) (go_keep) (fail)
    all_goals(try go_wp2)
    all_goals
     go_roundw
     case rel =>
      refine⟨j+1,by omega,by go_num,?_,?_⟩
      ·show jEQ _ _ _ _;rw[HQ.o,HA.o]
       exact⟨wD.heap.size,8,_,rfl,cm Hy (cm Hb he.o.size),dJ wD _,fun q hq=>by
        match q,hq with
        | 0,_=>rfl
        | 1,_=>rfl
        | 2,_=>rfl
        | 3,_=>rfl
        | 4,_=>rfl
        | 5,_=>rfl
        | 6,_=>rfl
        | 7,_=>rfl
        | q+8,h=>exact absurd h (by simp)⟩
      exact cB ((hb.o.trans (he.o.mono Hb)).alloc (cm Hb he.o.size) _)
     case measure=>simp[intOf];omega
   have i1:¬((j:Int)<64):=by omega
   have Hp:Sq.mixed s ws=Sq.jMd s (jCf (jEl s) ws j):=by rw[show j=64 by omega];rfl
   have HI:=hd Hp;have HV:=hd (Hi.o.rounds ws j);obtain⟨g,cap,cur,kx,ke,kb,ka⟩:=hv.o;subst kx;have hg:=jQe kb;generalize jCf (jEl s) ws j=r at *;rw[show(Sq.jDV r).length=8 from rfl];have H7:=hd (Hj.o.below hb.o);obtain⟨gs,sg,kf,kq,-,ku,kK⟩:=Hj.o
   have HZ:gs<w.heap.size:=by
    obtain⟨kY,_,_,h1,_,h3,_⟩:=HS.o;rw[kq] at h1;simp only[Value.slice.injEq,Option.some.injEq,Addr.mk.injEq,and_true,true_and] at h1
    have:=jQe h3
    omega
   rw[hI.o] at kq;simp only[Value.slice.injEq] at kq;obtain⟨rfl,rfl,rfl⟩:=kq;have HO:Hid (U.heap[gs]?=some (.cells kf 3)):=(hb.o.block _ (jQe ku)).trans ku;have HM:=hd kK;have hX:=hd ka;have HF:=hd kb;have HB:=hd (ho.o.trans (hb.o.mono Hy));clear Hp hv kb ka ku kK;go_wp2
   go_loopw [24] (fun i wr=>∃(q:Nat) (c:Array Value),q<=8/\i=.int .i64 q/\Hid (wr.heap[g]?=some (.cells c 3))/\Hid (∀p,p<8->c[p]?=some (.int .i64 (if p<q then Sq.m32 (Sq.at0 s p+Sq.at0 (Sq.jDV r) p) else Sq.at0 (Sq.jDV r) p)))/\Hid (wr.heap[gs]?=some (.cells kf 3))/\Hid (Below w.heap.size w wr)) (fun i _=>8-(intOf i).toNat)
   case atStart=>exact⟨0,cur,by omega,rfl,HF,fun p hp=>by rw[cy (by omega)];exact hX.o p hp,HO,HB⟩
   case round =>
    obtain⟨q,c,hq,rfl,kd,kn,km,kD⟩:=hrel
    by_cases hqt:q<8
    ·have l1:(q:Int)<8:=by omega
     have l2:¬((8:Int)<=(q:Int)):=by omega
     have l3:¬((q:Int)<0):=by omega
     have e1:wr.cell? ⟨g,q,none⟩=some (.int .i64 (Sq.at0 (Sq.jDV r) q)):=by rw[jQb kd.o,kn.o q hqt,cy (by omega)]
     have e2:wr.cell? ⟨gs,q,none⟩=some (.int .i64 (Sq.at0 s q)):=by rw[jQb km.o];exact HM.o q (by rw[hI.o];exact hqt)
     have f1:=jQd kd.o q;have Kg:=jQe kd.o;have Kh:=jQe km.o;obtain⟨x1,x2⟩:=qBB HV.o q hqt;obtain⟨y1,y2⟩:=hy.o q hqt;have hM:=jQf (o:=q) kd.o (.int .i64 (HMod.hMod (Sq.at0 (Sq.jDV r) q+Sq.at0 s q) (4294967296:Int)));have hZ:=hd hM
     have HD:Hid (∀p,p<8->(c.setIfInBounds q (.int .i64 (HMod.hMod (Sq.at0 (Sq.jDV r) q+Sq.at0 s q) (4294967296:Int))))[p]?=some (.int .i64 (if p<q+1 then Sq.m32 (Sq.at0 s p+Sq.at0 (Sq.jDV r) p) else Sq.at0 (Sq.jDV r) p))):=fun p hp=>by
      have h1:=kn.o p hp;rw[Array.getElem?_setIfInBounds]
      by_cases hpq:q=p
      ·subst hpq
       have h8:q<c.size:=by
        by_cases hh:q<c.size
        ·exact hh
        rw[Array.getElem?_eq_none (by omega)] at h1;cases h1
       rw[cE rfl,cE h8,cE (by omega)];unfold Sq.m32;rw[Int.add_comm]
      rw[cy hpq,h1]
      by_cases kt:p<q
      ·rw[cE kt,cE (by omega)]
      rw[cy kt,cy (by omega)]
     have HP:Hid ((wr.setCell ⟨g,q,none⟩ (.int .i64 (HMod.hMod (Sq.at0 (Sq.jDV r) q+Sq.at0 s q) (4294967296:Int)))).heap[gs]?=some (.cells kf 3)):=by show _=_;rw[jQg (by omega)];exact km.o
     clear hM kd kn km;generalize Sq.at0 (Sq.jDV r) q=x at *;generalize Sq.at0 s q=y at *;go_wp2
     go_region
     all_goals(try go_wp2)
     all_goals
      go_roundw;exact⟨q+1,_,by omega,by go_num,hZ,HD,HP,cj (B:=w.heap.size) kD.o.drew ke _⟩;simp[intOf];omega
    have l1:¬((q:Int)<8):=by omega
    have hY:Hid (jEQ w.heap.size wr (.slice (some ⟨g,0,none⟩) 8 cap) (Sq.mixed s ws)):=by
     show jEQ _ _ _ _;rw[HI.o];refine⟨g,cap,c,rfl,ke,kd.o,fun p hp=>?_⟩;have Hr:p<8:=hp;rw[kn.o p Hr,cE (by omega)]
     match p,Hr with
     | 0,_=>rfl
     | 1,_=>rfl
     | 2,_=>rfl
     | 3,_=>rfl
     | 4,_=>rfl
     | 5,_=>rfl
     | 6,_=>rfl
     | 7,_=>rfl
     | p+8,h=>omega
    clear kd kn km;go_wp2;go_ret;exact⟨_,rfl,hY.o,kD.o⟩
end
end Go.Proofs.YtahpihjialbanaaGreatDoor
