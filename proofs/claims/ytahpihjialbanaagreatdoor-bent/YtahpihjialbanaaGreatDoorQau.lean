import Derived.ArgAppend
import Derived.Deep.WholeRow
import Derived.Laws.Rows
import Derived.Lib.LaidTab
import Derived.Test.YtahpihjialbanaaGreatDoorQac
set_option linter.all false
set_option maxRecDepth 100000
set_option maxHeartbeats 2000000
namespace Go.Proofs.YtahpihjialbanaaGreatDoor
variable {B B' b:Nat}{a:Act}{e:TypeId}{o:Oper}{v:Value}{w w':World}
section
open Go.RowKit
def jD0 (B:Nat)(w:World)(v:Value)(l:List UInt8):Prop :=
 ∃(g cap:Nat) (cur:Array Value) (lo hi:Nat),v=.slice (some ⟨g,0,none⟩) l.length cap/\B<=g/\w.heap[g]?=some (.cells cur 5 (lo,hi))/\cur.size=cap/\l.length<=cap/\(∀k,k<cap->(Decidable.decide (lo<=k)&&Decidable.decide (k<hi))=false)/\cur.toList.take l.length=l.map fun b=>Value.int .u8 b.toNat
theorem jD0.slice {l:List UInt8}(h:jD0 B w v l):∃ao cap,v=.slice ao l.length cap:=by
 obtain⟨g,cap,cur,lo,hi,rfl,_⟩:=h;exact⟨_,cap,rfl⟩
theorem jD0.below {l:List UInt8}(h:jD0 B w v l)(hb:Below w.heap.size w w'):jD0 B w' v l:=by
 obtain⟨g,cap,cur,lo,hi,h1,h2,h3,h4⟩:=h;exact⟨g,cap,cur,lo,hi,h1,h2,(hb.block g (jQe h3)).trans h3,h4⟩
theorem jD0.base {l:List UInt8}(h:jD0 B w v l)(hb:B'<=B):jD0 B' w v l:=by
 obtain⟨g,cap,cur,lo,hi,h1,h2,h3⟩:=h;exact⟨g,cap,cur,lo,hi,h1,cm hb h2,h3⟩
theorem jD0.at {l:List UInt8}(h:jD0 B w v l)(k:Nat)(hk:k<l.length):∃g cap,v=.slice (some ⟨g,0,none⟩) l.length cap/\g<w.heap.size/\w.cell? ⟨g,k,none⟩=some (.int .u8 (l[k].toNat:Int)):=by
 obtain⟨g,cap,cur,lo,hi,rfl,h2,h3,h4,h5,h6,h7⟩:=h;refine⟨g,cap,rfl,jQe h3,?_⟩;rw[cell_of_row w g k cur _ _ h3];have e:(cur.toList.take l.length)[k]?=some (.int .u8 (l[k].toNat:Int)):=by rw[h7];simp[cz hk]
 rw[List.getElem?_take,cE hk] at e;simpa using e
theorem jD0.of {l:List UInt8}(h:jBm B w v l)(hl:0<l.length):jD0 B w v l:=by
 rcases h.2 with⟨_,h0⟩ | ⟨g,cap,cur,hv,hbg,hh,hn,hm,hc,ht⟩
 ·omega
 exact⟨g,cap,cur,0,0,hv,hbg,hh,by simpa using hc,hn,fun k _=>by simp,by simpa using ht⟩
theorem jMv {ops:Array Oper}{rest:List Oper}{Q:Exit->Act->World->Prop}(hq:o.guard=none)(sl x:Operand)
  (ho:o.op=.call { callee:=.builtin .append,args:=#[sl,x],argTypes:=#[55,55] }) (B:Nat) (v:Value) (l:List UInt8) (hs:a.eval sl=v) (hb:jD0 B w v l)
  (b:UInt8) (ad:Addr) (c:Nat) (hx:a.eval x=.slice (some ad) 1 c) (hc:w.cell? ad=some (.int .u8 b.toNat)) (h1:l.length+1<=100000000000) (hB:B<=w.heap.size)
  (h:∀v' w',jD0 B w' v' (l++[b])->Below B w w'->wpList Tryz.prog ops Q rest (a.put o.dst v') w'):wpList Tryz.prog ops Q (o::rest) a w:=by
 obtain⟨i0,hi,hA,hC,hD⟩:=cV Tryz.jGj;have hf:=hb;obtain⟨g,cap,cur,lo,hy,rfl,h2,h3,h4,h5,h6,h7⟩:=hb
 refine wpList_append_arg w hq sl x 55 ho 5 i0 _ 1 1 Tryz.underlying55 hi hA hC hD rfl (by decide) g 0 l.length cap (l.map fun b=>Value.int .u8 b.toNat) hs (by simp) (by
  intro j u hu
  have hj:j<l.length:=by
   rcases dL j l.length with h | h
   ·exact h
   rw[dt (by simpa using h)] at hu;cases hu
  obtain⟨g',hp,hv,_,hn⟩:=jD0.at hf j hj;simp only[Value.slice.injEq,Option.some.injEq,Addr.mk.injEq] at hv;obtain⟨⟨rfl,-,-⟩,-,-⟩:=hv;rw[dy,cz hj] at hu;simp at hu;rw[df,hn,hu]) ad 1 c [.int .u8 b.toNat] hx rfl (by
  intro j u hu;cases j with
  | zero =>
   rw[show ad.add 0=ad from by unfold Addr.add;split<;>simp_all];simp at hu;subst hu;exact hc
  | succ j=>simp at hu) (by intro u hu;simp at hu;subst hu;rfl) (by
  intro hr j hj;have hh:j=0:=by simp at hj;omega
  subst hh;have he:l.length<cap:=by omega
  refine⟨?_,?_⟩
  ·rw[cell_of_row w g _ cur _ _ h3,Array.getElem?_eq_getElem (show 0+l.length*1+0<cur.size by omega)];rfl
  unfold World.frozen?;rw[h3];have h8:=h6 (0+l.length*1+0) (by omega);exact h8) (by unfold maxLen;omega) (by omega) (fun hr=>?_) (fun hg v' w' hz ht=>?_)
 ·refine h _ _ ⟨g,cap,cur.setIfInBounds l.length (.int .u8 b.toNat),lo,hy,by simp,h2,?_,by simpa using h4,by simpa using hr,h6,?_⟩ ?_
  ·simpa[World.setCells] using jQf h3 (o:=l.length) (Value.int .u8 b.toNat)
  ·have he:l.length<cur.size:=by omega
   rw[cg,cR,<-h7];simp only[cG,List.length_nil,cM,dO,Array.toList_setIfInBounds];rw[cI (by simpa using he)]
   congr 1
   ·rw[List.take_set_of_le nR]
   simp
  simpa[World.setCells] using cj (B:=B) (Below.refl B w) (p:=⟨g,l.length,none⟩) h2 (Value.int .u8 b.toNat)
 have ha:jBm w.heap.size w' v' (l++[b]):=jBm.snoc hz;exact h v' w' ((jD0.of ha (by simp)).base hB) (Tch.aO ht (fun k hk=>by cases hk) hB)
def lenOf:Value->Nat | .slice _ n _=>n | _=>0
theorem qBJ (w:World)(s:BA):jD0 w.heap.size (Lib.bytesWorld w 5 s) (.slice (some ⟨w.heap.size,0,none⟩) s.size (grownCap w s.size 0 5)) s.data.toList/\Below w.heap.size w (Lib.bytesWorld w 5 s):=by
 have ha:=grownCap_ge w s.size 0 5
 have hb:(Lib.bytesCells w 5 s).size=grownCap w s.size 0 5:=by
  unfold Lib.bytesCells
  have:s.data.size=s.size:=rfl
  simp[this];omega
 refine⟨⟨w.heap.size,grownCap w s.size 0 5,Lib.bytesCells w 5 s,_,_,by simp,nR,Lib.bytesWorld_at_new w 5 s,hb,by simpa using ha,fun k hk=>?_,?_⟩,⟨rfl,rfl,rfl,by rw[Lib.bytesWorld_size];omega,fun k hk=>Lib.bytesWorld_at_old w _ s k hk⟩⟩
 ·have:¬((Lib.bytesCells w 5 s).size<=k):=by omega
  simp[this]
 unfold Lib.bytesCells;simp
namespace Sq
def rot (x:Int)(b:Nat):Int:=bits .or .u32 (x / 2^b) (HMod.hMod (x*2^(32-b)) (4294967296:Int))
def jGI (a b c d:UInt8):Int:=bits .or .u32 (bits .or .u32 (bits .or .u32 (HMod.hMod ((HMod.hMod (a.toNat:Int) (4294967296:Int))*16777216) (4294967296:Int)) (HMod.hMod ((HMod.hMod (b.toNat:Int) (4294967296:Int))*65536) (4294967296:Int))) (HMod.hMod ((HMod.hMod (c.toNat:Int) (4294967296:Int))*256) (4294967296:Int))) (HMod.hMod (d.toNat:Int) (4294967296:Int))
end Sq
theorem jYL (x:Int)(b:Nat)(w:World)(hb:0<b)(ha:b<32) :
  Calls Tryz.prog 129 #[.int .u32 x,.int .u64 b] w fun e w'=>e=.returned (.int .u32 (Sq.rot x b))/\w'=w:=by
 go_enter Tryz.func129,Tryz.ntmps129;go_wp2;go_ret;exact⟨rfl,rfl⟩
theorem jHp (w:World):∀m,Below w.heap.size w (w.drewN m):=by
 intro m
 induction m with
 | zero=>exact bR
 | succ m ih=>exact cB ih
theorem jN5 (b k:Nat)(h:b<=100000000)(hk:k<=1000):IntKind.i64.wrap ((b:Int)+(k:Int))=((b+k:Nat):Int):=by simp[IntKind.wrap,IntKind.bits,IntKind.signed];omega
theorem jX2 (l:List UInt8)(v:Value)(k:Nat)(w:World)(h:jD0 0 w v l)(hl:l.length<=100000000)(hk:k+4<=l.length) :
  Calls Tryz.prog 130 #[v,.int .i64 k] w fun e w'=>e=.returned (.int .u32 (Sq.jGI l[k] l[k+1] l[k+2] l[k+3]))/\Below w.heap.size w w':=by
 obtain⟨g,cap,hv,hg,c0⟩:=h.at k (by omega);subst hv;obtain⟨g1,hh,hf,_,c1⟩:=h.at (k+1) (by omega);simp only[Value.slice.injEq,Option.some.injEq,Addr.mk.injEq] at hf;obtain⟨⟨rfl,-,-⟩,-,-⟩:=hf;obtain⟨g1,hh,hf,_,c2⟩:=h.at (k+2) (by omega);simp only[Value.slice.injEq,Option.some.injEq,Addr.mk.injEq] at hf;obtain⟨⟨rfl,-,-⟩,-,-⟩:=hf;obtain⟨g1,hh,hf,_,c3⟩:=h.at (k+3) (by omega);simp only[Value.slice.injEq,Option.some.injEq,Addr.mk.injEq] at hf;obtain⟨⟨rfl,-,-⟩,-,-⟩:=hf;obtain⟨x0,hj⟩:∃x,x=l[k]:=⟨_,rfl⟩;obtain⟨x1,hn⟩:∃x,x=l[k+1]:=⟨_,rfl⟩;obtain⟨x2,ho⟩:∃x,x=l[k+2]:=⟨_,rfl⟩;obtain⟨x3,hp⟩:∃x,x=l[k+3]:=⟨_,rfl⟩;rw[<-hj,<-hn,<-ho,<-hp];rw[<-hj] at c0;rw[<-hn] at c1;rw[<-ho] at c2;rw[<-hp] at c3;have i1:decide ((k:Int)<0)=false:=by simp
 have i2:decide ((l.length:Int)-4<(k:Int))=false:=by simp;omega
 have i3:¬((l.length:Int)-4<(k:Int)):=by omega
 have w1:IntKind.i64.wrap ((k:Int)+1)=((k+1:Nat):Int):=jN5 k 1 (by omega) (by omega);have w2:IntKind.i64.wrap ((k:Int)+2)=((k+2:Nat):Int):=jN5 k 2 (by omega) (by omega);have w3:IntKind.i64.wrap ((k:Int)+3)=((k+3:Nat):Int):=jN5 k 3 (by omega) (by omega);have ha:k<l.length:=by omega
 have hb:k+1<l.length:=by omega
 have hc:k+2<l.length:=by omega
 have he:k+3<l.length:=by omega
 clear hj hn ho hp h;go_enter Tryz.func130,Tryz.ntmps130;go_wp2
 go_quiet (fail)
 go_wp2;go_ret;exact⟨rfl,jHp _ _⟩
namespace Sq
def at0 (m:List Int)(k:Nat):Int:=(m[k]?).getD 0
def jEI (l:List UInt8)(k:Nat):UInt8:=(l[k]?).getD 0
def word (l:List UInt8)(k:Nat):Int:=jGI (jEI l k) (jEI l (k+1)) (jEI l (k+2)) (jEI l (k+3))
def jEP (l:List UInt8)(a:Nat):Nat->List Int
 | 0=>List.replicate 64 0
 | k+1=>(jEP l a k).set k (word l (a+4*k))
def m32 (x:Int):Int:=HMod.hMod x (4294967296:Int)
def low (x:Int):Int:=bits .xor .u32 (bits .xor .u32 (rot x 7) (rot x 18)) (x / 8)
def high (y:Int):Int:=bits .xor .u32 (bits .xor .u32 (rot y 17) (rot y 19)) (y / 1024)
def next (m:List Int)(i:Nat):Int:=m32 (at0 m (i-16)+low (at0 m (i-15))+at0 m (i-7)+high (at0 m (i-2)))
def jCW (m:List Int):Nat->List Int
 | 0=>m
 | j+1=>(jCW m j).set (j+16) (next (jCW m j) (j+16))
def sched (l:List UInt8)(a:Nat):List Int:=jCW (jEP l a 16) 48
theorem jHv (l:List UInt8)(a:Nat):∀k,(jEP l a k).length=64
 | 0=>rfl
 | k+1=>by rw[jEP,dZ,jHv l a k]
theorem jH8 (m:List Int)(h:m.length=64):∀k,(jCW m k).length=64
 | 0=>h
 | k+1=>by rw[jCW,dZ,jH8 m h k]
end Sq
def bZ (m:List Int):Array Value:=(m.map (Value.int .u32)).toArray
theorem jNL (m:List Int):(bZ m).size=m.length:=by simp[bZ]
theorem jGv (m:List Int)(k:Nat)(x:Int):(bZ m).setIfInBounds k (.int .u32 x)=bZ (m.set k x):=by
 unfold bZ;simp[List.map_set]
theorem jQB {m:List Int}(h:w.heap[b]?=some (.cells (bZ m) e))(k:Nat)(hk:k<m.length):w.cell? ⟨b,k,none⟩=some (.int .u32 (Sq.at0 m k)):=by
 rw[jQb h];unfold bZ Sq.at0;simp[cz hk]
theorem jTx (m:List Int):(bZ m).all (·.oneCell')=true:=by
 unfold bZ;simp[Value.oneCell']
theorem jWP (l:List UInt8)(v:Value)(a:Nat)(w:World)(h:jD0 0 w v l)(hl:l.length<=100000000)(ha:a+64<=l.length) :
  Calls Tryz.prog 87 #[v,.int .i64 a] w fun e w'=>e=.returned (.agg (bZ (Sq.sched l a)))/\Below w.heap.size w w':=by
 obtain⟨vo,h0,rfl⟩:=h.slice;have H:=hd h;clear h;go_enter Tryz.func87,Tryz.ntmps87;go_wp2
 go_loopw [6] (fun i wr=>∃k:Nat,k<=16/\i=.int .i64 k/\wr.heap[w.heap.size]?=some (.cells (bZ (List.replicate 64 0)) 146)/\wr.heap[w.heap.size+1]?=some (.cells (bZ (Sq.jEP l a k)) 146)/\Below w.heap.size w wr) (fun i _=>16-(intOf i).toNat)
 case atStart=>exact⟨0,by decide,rfl,(ej _ _ _ (by simp)).trans (dJ w _),heap_alloc2_new w _ _,(bA).alloc (by simp) _⟩
 case round =>
  obtain⟨k,hk,rfl,hg,hc,hb⟩:=hrel;have hz:=jQe hc;have hs:=hd hg;have hw:=hd hc;have HB:=hd hb;clear hg hc hb
  by_cases hlt:k<16
  ·have hp:(a:Int)+4*(k:Int)=((a+4*k:Nat):Int):=by omega
   have hH:Sq.jGI l[a+4*k] l[a+4*k+1] l[a+4*k+2] l[a+4*k+3]=Sq.word l (a+4*k):=by
    unfold Sq.word Sq.jEI;rw[cz (by omega),cz (by omega),cz (by omega),cz (by omega)];rfl
   have hN:=hd hH;have hq:=hd hp;clear hH hp;go_wp2_with fail;rw[hq.o];refine(jX2 l _ (a+4*k) _ (H.o.below HB.o) hl (by omega)).mono ?_;rintro e w2 ⟨rfl,hT⟩;rw[hN.o];obtain⟨x,hx⟩:∃x,x=Sq.word l (a+4*k):=⟨_,rfl⟩;rw[<-hx];have hf:=(hT.block (w.heap.size+1) hz).trans hw.o;have c0:=jQB hf k (by rw[Sq.jHv];omega);have f0:=jQd hf k;have hP:=jQe hf;have HX:=hd hx;have hy:=hd hf;have ht:=hd ((hT.block w.heap.size (by omega)).trans hs.o);have hI:=HB.t hT;clear hx hf hT;go_wp2;go_roundw
   case rel =>
    refine⟨k+1,by omega,by go_num,(jQg (by omega)).trans ht.o,?_,cj (B:=w.heap.size) hI.o (by simp) _⟩;rw[jQf hy.o,jGv,HX.o];rfl
   case measure=>simp[intOf];omega
  have hB:k=16:=by omega
  subst hB;obtain⟨m,hm⟩:∃m,m=Sq.jEP l a 16:=⟨_,rfl⟩;have hC:m.length=64:=by rw[hm];exact Sq.jHv l a 16
  have hc:=hw.o;rw[<-hm] at hc;have hn:=hd hc;have HM:=hd hm;obtain⟨wo,rfl⟩:∃wo:World,wo=wr:=⟨_,rfl⟩;clear hc hm hw;go_wp2
  go_loopw [7] (fun i wr=>∃j:Nat,j<=48/\i=.int .i64 ((j+16:Nat):Int)/\wr.heap[w.heap.size]?=some (.cells (bZ (List.replicate 64 0)) 146)/\wr.heap[w.heap.size+1]?=some (.cells (bZ (Sq.jCW m j)) 146)/\Below w.heap.size w wr) (fun i _=>64-(intOf i).toNat)
  case atStart=>exact⟨0,by decide,rfl,hs.o,hn.o,HB.o⟩
  case round =>
   obtain⟨j,hj,rfl,hg,hc,hb⟩:=hrel;have hQ:=jQe hc;have hh:=hd hg;have ho:=hd hc;have hE:=hd hb;clear hg hb
   by_cases hjt:j<48
   ·have hi:=Sq.jH8 m hC j;have hX:=jQB hc (j+1) (by omega);have c2:=jQB hc (j+14) (by omega);have hY:=jQB hc j (by omega);have c7:=jQB hc (j+9) (by omega);have c0:=jQB hc (j+16) (by omega);have f0:=jQd hc (j+16);have hZ:((j+16:Nat):Int)-15=((j+1:Nat):Int):=by omega
    have e2:((j+16:Nat):Int)-2=((j+14:Nat):Int):=by omega
    have hF:Hid (Sq.next (Sq.jCW m j) (j+16)=Sq.m32 (Sq.at0 (Sq.jCW m j) j+Sq.low (Sq.at0 (Sq.jCW m j) (j+1))+Sq.at0 (Sq.jCW m j) (j+9)+Sq.high (Sq.at0 (Sq.jCW m j) (j+14)))):=by
     show _=_;unfold Sq.next;rw[show j+16-16=j by omega,show j+16-15=j+1 by omega,show j+16-7=j+9 by omega,show j+16-2=j+14 by omega]
    obtain⟨h1,hR⟩:∃x,x=Sq.at0 (Sq.jCW m j) (j+1):=⟨_,rfl⟩;obtain⟨x2,hU⟩:∃x,x=Sq.at0 (Sq.jCW m j) (j+14):=⟨_,rfl⟩;obtain⟨h2,hS⟩:∃x,x=Sq.at0 (Sq.jCW m j) j:=⟨_,rfl⟩;obtain⟨x7,hV⟩:∃x,x=Sq.at0 (Sq.jCW m j) (j+9):=⟨_,rfl⟩;have hD:=hF.o;rw[<-hR,<-hU,<-hS,<-hV] at hD;rw[<-hR] at hX;rw[<-hU] at c2;rw[<-hS] at hY;rw[<-hV] at c7;have hr:=hd hD;have hO:=hd hi;have b0:(j:Int)+16<64:=by omega
    have g1:IntKind.i64.wrap (((j+16:Nat):Int)-16)=((j:Nat):Int):=by simp[IntKind.wrap,IntKind.bits,IntKind.signed];omega
    have g2:IntKind.i64.wrap (((j+16:Nat):Int)-7)=((j+9:Nat):Int):=by simp[IntKind.wrap,IntKind.bits,IntKind.signed];omega
    have g3:IntKind.i64.wrap ((j:Int)+16-16)=((j:Nat):Int):=by simp[IntKind.wrap,IntKind.bits,IntKind.signed];omega
    have g4:IntKind.i64.wrap ((j:Int)+16-7)=((j+9:Nat):Int):=by simp[IntKind.wrap,IntKind.bits,IntKind.signed];omega
    have b1:j<64:=by omega
    have b2:j+9<64:=by omega
    have b3:j+16<64:=by omega
    clear hR hU hS hV hD hF hc hi hZ e2;go_wp2
    go_region
    all_goals(try go_wp2)
    go_roundw
    case rel =>
     refine⟨j+1,by omega,by go_num,(jQg (by omega)).trans hh.o,?_,cB (cj (B:=w.heap.size) hE.o (by simp) _)⟩;refine(jQf ho.o _).trans ?_;have e:Sq.jCW m (j+1)=(Sq.jCW m j).set (j+16) (Sq.next (Sq.jCW m j) (j+16)):=rfl;rw[e,hr.o,jGv];rfl
    case measure=>simp[intOf];omega
   have hA:j=48:=by omega
   subst hA;have HE:Hid (Sq.sched l a=Sq.jCW m 48):=by show _=_;rw[HM.o];rfl
   have hi:=Sq.jH8 m hC 48;have hg:=hh.o;obtain⟨z,hW⟩:∃z,z=Sq.jCW m 48:=⟨_,rfl⟩;have he:=HE.o;rw[<-hW] at hc hi he;have hJ:=hd he;have hG:(Tryz.prog.info? 146).map (·.size)=some (bZ z).size:=by rw[jNL,hi];kernel_rfl
   have hu:=hd (setRow_heap wr w.heap.size _ (bZ z) 146 (0,0) hg);have hv:=hd hG;have hL:=hd hc;have hK:=hd hg;have hM:Hid ((bZ (List.replicate 64 0)).size=(bZ z).size):=by show _=_;rw[jNL,jNL,hi];rfl
   clear ho hh hg hc hi he HE hW hG hn hs HM hC
   go_wp2_with (first
    | (
      with_reducible show wpList _ _ _ ({ dst:=some 67,op:=Op.load _ _,type:=_,pos:=_,after:=_,guard:=_ }::_) _ _
      refine wpList_load_row rfl 146 (.tmp 5) rfl (w.heap.size+1) rfl 146 (bZ z) (0,0) _ hL.o Tryz.underlying146 rfl hv.o ?_)
    | (
      with_reducible show wpList _ _ _ ({ dst:=none,op:=Op.store _ _ _,type:=_,pos:=_,after:=_,guard:=_ }::_) _ _
      refine wpList_store_row rfl 146 (.tmp 4) (.tmp 67) rfl w.heap.size (bZ z) rfl rfl 146 _ hK.o hv.o hM.o (jTx z) ?_))
   refine cp (v:=.agg (bZ z)) (results_cell_row Tryz.results87 _ _ w.heap.size 146 (bZ z) (0,0) _ rfl hu.o Tryz.underlying146 rfl hv.o) rfl ⟨by rw[hJ.o],below_setRow hE.o nR _⟩
def Sq.jAz:List Int:=[0x428a2f98,0x71374491,0xb5c0fbcf,0xe9b5dba5,0x3956c25b,0x59f111f1,0x923f82a4,0xab1c5ed5,
 0xd807aa98,0x12835b01,0x243185be,0x550c7dc3,0x72be5d74,0x80deb1fe,0x9bdc06a7,0xc19bf174,
 0xe49b69c1,0xefbe4786,0x0fc19dc6,0x240ca1cc,0x2de92c6f,0x4a7484aa,0x5cb0a9dc,0x76f988da,
 0x983e5152,0xa831c66d,0xb00327c8,0xbf597fc7,0xc6e00bf3,0xd5a79147,0x06ca6351,0x14292967,
 0x27b70a85,0x2e1b2138,0x4d2c6dfc,0x53380d13,0x650a7354,0x766a0abb,0x81c2c92e,0x92722c85,
 0xa2bfe8a1,0xa81a664b,0xc24b8b70,0xc76c51a3,0xd192e819,0xd6990624,0xf40e3585,0x106aa070,
 0x19a4c116,0x1e376c08,0x2748774c,0x34b0bcb5,0x391c0cb3,0x4ed8aa4a,0x5b9cca4f,0x682e6ff3,
 0x748f82ee,0x78a5636f,0x84c87814,0x8cc70208,0x90befffa,0xa4506ceb,0xbef9a3f7,0xc67178f2]
def Rnd (w:World):Prop:=Lib.TabIs Tryz.prog w "sqlproof/digest.rounds" .u32 Sq.jAz
theorem Rnd.below (h:Rnd w)(hb:Below w.heap.size w w'):Rnd w':=Lib.tabBelow_of_tabIs h w' hb
theorem jP2 (x b:Int)(w:World)(hb:(Decidable.decide (0<b)&&Decidable.decide (b<32))=true) :
  Calls Tryz.prog 129 #[.int .u32 x,.int .u64 b] w fun e w'=>e=.returned (.int .u32 (Sq.rot x b.toNat))/\w'=w:=by
 simp at hb;have e:((b.toNat:Nat):Int)=b:=by omega
 have:=jYL x b.toNat w (by omega) (by omega)
 rw[e] at this;exact this
theorem ha1 (w:World)(o:Obj):(w.alloc o).heap.size=w.heap.size+1:=by simp
structure Sq.jFx where
 a:Int
 b:Int
 c:Int
 d:Int
 e:Int
 f:Int
 g:Int
 h:Int
namespace Sq
def first (r:jFx)(kv wv:Int):Int:=m32 (r.h+bits .xor .u32 (bits .xor .u32 (rot r.e 6) (rot r.e 11)) (rot r.e 25)+bits .xor .u32 (bits .and .u32 r.e r.f) (bits .and .u32 (bits .xor .u32 IntKind.u32.max r.e) r.g)+kv+wv)
def second (r:jFx):Int:=m32 (bits .xor .u32 (bits .xor .u32 (rot r.a 2) (rot r.a 13)) (rot r.a 22)+bits .xor .u32 (bits .xor .u32 (bits .and .u32 r.a r.b) (bits .and .u32 r.a r.c)) (bits .and .u32 r.b r.c))
def jGH (r:jFx)(kv wv:Int):jFx:=⟨m32 (first r kv wv+second r),r.a,r.b,r.c,m32 (r.d+first r kv wv),r.e,r.f,r.g⟩
def jCf (r:jFx)(ws:List Int):Nat->jFx
 | 0=>r
 | k+1=>jGH (jCf r ws k) (jAz.getD k 0) (at0 ws k)
def jEl (s:List Int):jFx:=⟨at0 s 0,at0 s 1,at0 s 2,at0 s 3,at0 s 4,at0 s 5,at0 s 6,at0 s 7⟩
def jMd (s:List Int)(r:jFx):List Int:=[m32 (at0 s 0+r.a),m32 (at0 s 1+r.b),m32 (at0 s 2+r.c),m32 (at0 s 3+r.d),m32 (at0 s 4+r.e),m32 (at0 s 5+r.f),m32 (at0 s 6+r.g),m32 (at0 s 7+r.h)]
def mixed (s ws:List Int):List Int:=jMd s (jCf (jEl s) ws 64)
end Sq
theorem qAY (s0 s1 s2 s3 s4 s5 s6 s7:Int)(ws:List Int)(w:World)(hU:ws.length=64)(hR:Rnd w) :
  Calls Tryz.prog 86 #[.agg (bZ [s0,s1,s2,s3,s4,s5,s6,s7]),.agg (bZ ws)] w fun e w'=>e=.returned (.agg (bZ (Sq.mixed [s0,s1,s2,s3,s4,s5,s6,s7] ws)))/\Below w.heap.size w w':=by
 have hw:∀w',Below w.heap.size w w'->Rnd w':=fun w' hb=>hR.below hb
 have HR:=hd hw;have hE:=hd hU;clear hR hU hw;go_enter Tryz.func86,Tryz.ntmps86;go_wp2;obtain⟨wA,hL⟩:∃x,x=(((w.alloc (.cells (bZ [s0,s1,s2,s3,s4,s5,s6,s7]) 144)).alloc (.cells (bZ ws) 146)).alloc (.cells (bZ [0,0,0,0,0,0,0,0]) 144)):=⟨_,rfl⟩;have hy:Below w.heap.size w wA:=by rw[hL];exact((bA).alloc (by simp) _).alloc (by simp;omega) _
 have ha:wA.heap[w.heap.size]?=some (.cells (bZ [s0,s1,s2,s3,s4,s5,s6,s7]) 144):=by
  rw[hL];exact(ej _ _ _ (by simp;omega)).trans ((ej _ _ _ (by simp)).trans (dJ w _))
 have he:wA.heap[w.heap.size+1]?=some (.cells (bZ ws) 146):=by
  rw[hL];exact(ej _ _ _ (by simp)).trans (heap_alloc2_new w _ _)
 have hc:wA.heap[w.heap.size+1+1]?=some (.cells (bZ [0,0,0,0,0,0,0,0]) 144):=by
  rw[hL,<-ha1 w (.cells (bZ [s0,s1,s2,s3,s4,s5,s6,s7]) 144),<-ha1 (w.alloc (.cells (bZ [s0,s1,s2,s3,s4,s5,s6,s7]) 144)) (.cells (bZ ws) 146)];exact dJ _ _
 refine Eq.mp (congrArg _ hL) ?_;clear hL;have c0:=jQB ha 0 (by simp);have c1:=jQB ha 1 (by simp);have c2:=jQB ha 2 (by simp);have c3:=jQB ha 3 (by simp);have c4:=jQB ha 4 (by simp);have c5:=jQB ha 5 (by simp);have c6:=jQB ha 6 (by simp);have c7:=jQB ha 7 (by simp);simp only[Sq.at0,List.getElem?_cons_zero,List.getElem?_cons_succ,Option.getD_some] at c0 c1 c2 c3 c4 c5 c6 c7;have hz:=jQe hc;have hf:w.heap.size<wA.heap.size:=by omega
 have hl:w.heap.size+1<wA.heap.size:=by omega
 have hm:=hd ha;have hn:=hd he;have ho:=hd hc;have hp:=hd hy;clear ha he hc hy
 go_quiet (fail)
 obtain⟨wB,hJ,hQ⟩:∃wq,Below wA.heap.size wA wq/\wA.drewN nq=wq:=⟨_,jHp _ _,rfl⟩;rw[hQ];have k4:=((aD hJ).1 w.heap.size 4 hf).trans c4;have k5:=((aD hJ).1 w.heap.size 5 hf).trans c5;have k6:=((aD hJ).1 w.heap.size 6 hf).trans c6;have k7:=((aD hJ).1 w.heap.size 7 hf).trans c7;have hA:=hJ.size;have hh:w.heap.size<wB.heap.size:=by omega
 have hg:=hd hJ;clear hQ nq c0 c1 c2 c3 c4 c5 c6 c7 hJ;go_wp2
 go_quiet (fail)
 obtain⟨wC,hM,hS⟩:∃wq,Below wB.heap.size wB wq/\wB.drewN nq=wq:=⟨_,jHp _ _,rfl⟩;rw[hS];have hq:=hd (hp.o.trans ((hg.o.trans (hM.mono hA)).mono (by omega)));have he:=(hM.block (w.heap.size+1) (by omega)).trans ((hg.o.block (w.heap.size+1) hl).trans hn.o);have ha:=(hM.block w.heap.size hh).trans ((hg.o.block w.heap.size hf).trans hm.o);have hc:=(hM.block (w.heap.size+1+1) (by omega)).trans ((hg.o.block (w.heap.size+1+1) hz).trans ho.o);have hI:=jQe hc;have hr:=hd ha;have hs:=hd he;have ht:=hd hc;clear hS nq k4 k5 k6 k7 hM ha he hc hg hm hn ho hp hf hl hz hA hh;go_wp2
 go_loopw [5,6,7,8,9,10,11,12,13] (fun a b c d e f g h i wr=>∃k:Nat,∃r:Sq.jFx,k<=64/\i=.int .i64 k/\a=.int .u32 r.a/\b=.int .u32 r.b/\c=.int .u32 r.c/\d=.int .u32 r.d/\e=.int .u32 r.e/\f=.int .u32 r.f/\g=.int .u32 r.g/\h=.int .u32 r.h/\Hid (r=Sq.jCf (Sq.jEl [s0,s1,s2,s3,s4,s5,s6,s7]) ws k)/\Below wC.heap.size wC wr) (fun _ _ _ _ _ _ _ _ i _=>64-(intOf i).toNat)
 case atStart=>exact⟨0,⟨s0,s1,s2,s3,s4,s5,s6,s7⟩,by decide,rfl,rfl,rfl,rfl,rfl,rfl,rfl,rfl,rfl,rfl,bR⟩
 case round =>
  obtain⟨k,⟨ra,rb,rc,rd,re,rf,rg,rh⟩,hk,rfl,rfl,rfl,rfl,rfl,rfl,rfl,rfl,rfl,hK,hb⟩:=hrel;simp only;have hl:w.heap.size+1<wr.heap.size:=by have:=hb.size;omega
  have he:=(hb.block (w.heap.size+1) (by omega)).trans hs.o;have HB:=hd hb
  by_cases hlt:k<64
  ·have hx:=Lib.TabIs.cell (HR.o wr (hq.t hb).o) (show Tryz.prog.globalNamed "sqlproof/digest.rounds"=some 0 by kernel_rfl) k hlt;have cw:=jQB he k (by rw[hE.o];exact hlt);obtain⟨kv,hN⟩:∃x,x=Sq.jAz.getD k 0:=⟨_,rfl⟩;obtain⟨wv,hO⟩:∃x,x=Sq.at0 ws k:=⟨_,rfl⟩;rw[<-hN] at hx;rw[<-hO] at cw;have i1:(k:Int)<64:=by omega
   have hD:=hd hN;have hF:=hd hO;clear hb he hN hO;go_wp2
   go_quiet (first | (go_at_call 129;refine Calls.quiet_of_same (jP2 _ _ _ (by decide))) | fail)
   obtain⟨wq,hP,hT⟩:∃wq,Below wr.heap.size wr wq/\wr.drewN nq=wq:=⟨_,jHp _ _,rfl⟩;rw[hT];have hC:=hd hP;clear hT nq hP hx cw;go_wp2_with (go_at_call 129;refine(jP2 _ _ _ (by decide)).mono ?_;rintro e' w' ⟨rfl,rfl⟩);go_roundw
   case rel =>
    refine⟨k+1,Sq.jGH ⟨ra,rb,rc,rd,re,rf,rg,rh⟩ kv wv,by omega,by go_num,rfl,rfl,rfl,rfl,rfl,rfl,rfl,rfl,?_,HB.o.trans (hC.o.mono HB.o.size)⟩;show _=Sq.jGH (Sq.jCf _ ws k) (Sq.jAz.getD k 0) (Sq.at0 ws k);rw[<-hK.o,<-hD.o,<-hF.o]
   case measure=>simp[intOf];omega
  have hi:k=64:=by omega
  subst hi
  have HE:Hid (Sq.mixed [s0,s1,s2,s3,s4,s5,s6,s7] ws=[Sq.m32 (s0+ra),Sq.m32 (s1+rb),Sq.m32 (s2+rc),Sq.m32 (s3+rd),Sq.m32 (s4+re),Sq.m32 (s5+rf),Sq.m32 (s6+rg),Sq.m32 (s7+rh)]):=by
   show Sq.jMd _ (Sq.jCf _ ws 64)=_;rw[<-hK.o];rfl
  have ha:=(hb.block w.heap.size (by omega)).trans hr.o;have hc:=(hb.block (w.heap.size+1+1) (by omega)).trans ht.o;have c0:=jQB ha 0 (by simp);have c1:=jQB ha 1 (by simp);have c2:=jQB ha 2 (by simp);have c3:=jQB ha 3 (by simp);have c4:=jQB ha 4 (by simp);have c5:=jQB ha 5 (by simp);have c6:=jQB ha 6 (by simp);have c7:=jQB ha 7 (by simp);simp only[Sq.at0,List.getElem?_cons_zero,List.getElem?_cons_succ,Option.getD_some] at c0 c1 c2 c3 c4 c5 c6 c7;have hu:=hd hc;have hG:=jQe hc;have hH:w.heap.size<wr.heap.size:=by omega
  have hB:=hq.t HB.o;have hv:Hid ((Tryz.prog.info? 144).map (·.size)=some 8):=by show _=_;kernel_rfl
  clear hb ha he hc hK hr hs ht
  go_wp2_with (
         with_reducible show wpList _ _ _ ({ dst:=none,op:=Op.store _ _ _,type:=_,pos:=_,after:=_,guard:=_ }::_) _ _
         refine wpList_store_row rfl 144 (.tmp 4) (.tmp 131) rfl (w.heap.size+1+1) (bZ [Sq.m32 (s0+ra),Sq.m32 (s1+rb),Sq.m32 (s2+rc),Sq.m32 (s3+rd),Sq.m32 (s4+re),Sq.m32 (s5+rf),Sq.m32 (s6+rg),Sq.m32 (s7+rh)]) rfl rfl 144 _ hu.o hv.o rfl (jTx _) ?_)
  have hj:=setRow_heap wr (w.heap.size+1+1) _ (bZ [Sq.m32 (s0+ra),Sq.m32 (s1+rb),Sq.m32 (s2+rc),Sq.m32 (s3+rd),Sq.m32 (s4+re),Sq.m32 (s5+rf),Sq.m32 (s6+rg),Sq.m32 (s7+rh)]) 144 (0,0) hu.o;rw[HE.o];refine cp (v:=.agg (bZ [Sq.m32 (s0+ra),Sq.m32 (s1+rb),Sq.m32 (s2+rc),Sq.m32 (s3+rd),Sq.m32 (s4+re),Sq.m32 (s5+rf),Sq.m32 (s6+rg),Sq.m32 (s7+rh)])) (results_cell_row Tryz.results86 _ _ (w.heap.size+1+1) 144 _ (0,0) _ rfl hj Tryz.underlying144 rfl hv.o) rfl ⟨rfl,below_setRow hB.o (by omega) _⟩
namespace Sq
def jAU:Nat->List UInt8->List UInt8
 | 0,l=>l
 | f+1,l=>if HMod.hMod l.length 64=56 then l else jAU f (l++[0])
def jEr:Nat->Int->List UInt8
 | 0,_=>[]
 | k+1,b=>UInt8.ofNat (HMod.hMod (b / 72057594037927936) (256:Int)).toNat::jEr k (IntKind.u64.wrap (b*256))
theorem jSJ:∀(k:Nat) (b:Int),(jEr k b).length=k
 | 0,_=>rfl
 | k+1,b=>by rw[jEr,cG,jSJ k]
def jBi (t:BA):List UInt8:=jAU 64 (t.data.toList++[0x80])++jEr 8 ((t.size:Int)*8)
theorem jPV:∀(f:Nat) (l:List UInt8),HMod.hMod (120-(HMod.hMod l.length 64:Nat)) 64<=f->HMod.hMod (jAU f l).length 64=56/\l.length<=(jAU f l).length/\(jAU f l).length<=l.length+f
 | 0,l,h=>by
  rw[jAU];omega
 | f+1,l,h=>by
  rw[jAU]
  split
  ·omega
  ·have:=jPV f (l++[0]) (by rw[cg];simp;omega)
   rw[cg] at this;simp at this;omega
theorem jRP (t:BA):HMod.hMod (jBi t).length 64=0/\64<=(jBi t).length/\(jBi t).length<=t.size+73:=by
 have h1:(t.data.toList++[(0x80:UInt8)]).length=t.size+1:=by rw[cg,dj];rfl
 have h:=jPV 64 (t.data.toList++[0x80]) (by omega);unfold jBi;rw[cg,jSJ];omega
end Sq
theorem jYt (t:BA)(w:World)(ht:t.size<=1000000) :
  Calls Tryz.prog 85 #[.string t] w fun e w'=>∃v,e=.returned v/\jD0 w.heap.size w' v (Sq.jBi t)/\Below w.heap.size w w':=by
 have hw:=Lib.run_convert_string_bytes (P:=Tryz.prog) w 9 55 5 t Tryz.underlying9 Tryz.underlying55 Tryz.underlying5;obtain⟨hX,hT⟩:=qBJ w t;obtain⟨wc,hY⟩:∃x,x=Lib.bytesWorld w 5 t:=⟨_,rfl⟩;obtain⟨cap,hS⟩:∃x,x=grownCap w t.size 0 5:=⟨_,rfl⟩;rw[<-hY,<-hS] at hw hX;rw[<-hY] at hT;have hz:=hT.size;have hC:=hd hX;have hB:=hd hT;have hD:=hd hw;have hF:t.data.toList.length=t.size:=dj;have hu:=hd hF;clear hY hS hX hT hw hF;go_enter Tryz.func85,Tryz.ntmps85;go_wp2;rw[hD.o];go_wp2_with (at_builtin;refine jMv rfl (.tmp 7) (.tmp 8) rfl w.heap.size _ t.data.toList rfl (by have:=hC.o.below ((bR).alloc nR (.cells #[.int .u8 128] 5));rw[hu.o] at *;exact this) 0x80 ⟨wc.heap.size,0,none⟩ 1 rfl (by simp[go_sem]) (by rw[hu.o];omega) (by simp;omega) ?_;intro v3 w3 ha hZ;have hg:=hd ha;have hy:=hd hZ;clear ha hZ);have hk:Hid (Below w.heap.size w w3):=hB.o.trans ((cS (B':=w.heap.size) (bA) hz).trans hy.o);have hE:Hid ((t.data.toList++[(0x80:UInt8)]).length=t.size+1):=by show _=_;rw[cg,hu.o];rfl
 have ho:Hid (Sq.jBi t=Sq.jAU 64 (t.data.toList++[0x80])++Sq.jEr 8 ((t.size:Int)*8)):=rfl;obtain⟨l0,h1⟩:∃x,x=t.data.toList++[(0x80:UInt8)]:=⟨_,rfl⟩;have ha:=hg.o;have hx:=hE.o;have hc:=ho.o;rw[<-h1] at ha hx hc;have hN:=hk.o.size;obtain⟨ao,h4,rfl⟩:=ha.slice;have hn:=hd ha;have hL:=hd hx;have hp:=hd hc;have hI:l0.length<=1000001:=by omega
 clear h1 ha hx hc ho hE hg hy hC hD hB
 go_loopw [3] (fun v wr=>∃f:Nat,∃l:List UInt8,f<=64/\jD0 w.heap.size wr v l/\l0.length<=l.length/\l.length+f<=l0.length+64/\HMod.hMod (120-(HMod.hMod l.length 64:Nat)) 64<=f/\Hid (Sq.jAU 64 l0=Sq.jAU f l)/\Below w.heap.size w wr) (fun v _=>100000000-(lenOf v))
 case atStart=>exact⟨64,l0,nR,hn.o,nR,nR,by omega,rfl,hk.o⟩
 case round =>
  obtain⟨f,l,hf,hQ,Ha,h9,h2,hV,hb⟩:=hrel;obtain⟨wo,rfl⟩:∃wo:World,wo=wr:=⟨_,rfl⟩;obtain⟨xo,h6,rfl⟩:=hQ.slice;have hK:=hb.size;have hl:=hd hQ;have HB:=hd hb;clear hb hQ;have hM:l.length<=1000100:=by omega
  by_cases hm:HMod.hMod l.length 64=56
  ·have i1:HMod.hMod (l.length:Int) (64:Int)=56:=by omega
   have HZ:Hid (Sq.jAU 64 l0=l):=by
    show _=_;rw[hV.o];cases f with
    | zero=>rfl
    | succ f=>rw[Sq.jAU,cE hm]
   have hc:=hp.o;rw[HZ.o] at hc;have hq:=hd hc;clear hc HZ hV;go_wp2;clear i1
   go_loopw [3,4,5] (fun v bv i wr=>∃j:Nat,∃q:Int,∃m:List UInt8,j<=8/\i=.int .i64 j/\bv=.int .u64 q/\jD0 w.heap.size wr v m/\m.length<=1000100+j/\Hid (Sq.jBi t=m++Sq.jEr (8-j) q)/\Below w.heap.size w wr) (fun _ _ i _=>8-(intOf i).toNat)
   case atStart=>exact⟨0,(t.size:Int)*8,l,by decide,rfl,by go_num,hl.o,by omega,hq,HB.o⟩
   case round =>
    obtain⟨j,q,m,hj,rfl,rfl,hP,Hb,hU,hW⟩:=hrel;obtain⟨h5,rfl⟩:∃wo:World,wo=wr:=⟨_,rfl⟩;obtain⟨yo,h7,rfl⟩:=hP.slice;have hJ:=hW.size;have hh:=hd hP;have hA:=hd hW;clear hW hP
    by_cases hjt:j<8
    ·have hi:Sq.jBi t=(m++[UInt8.ofNat (HMod.hMod (q / 72057594037927936) (256:Int)).toNat])++Sq.jEr (8-(j+1)) (IntKind.u64.wrap (q*256)):=by
      rw[hU.o,show 8-j=(8-(j+1))+1 by omega,Sq.jEr,dm];rfl
     have hv:=Sq.jLW (q / 72057594037927936);obtain⟨b,h0⟩:∃b,b=UInt8.ofNat (HMod.hMod (q / 72057594037927936) (256:Int)).toNat:=⟨_,rfl⟩;rw[<-h0] at hi hv;have hH:=hd hi;have hG:=hd hv;have hs:=hd (hh.o.below ((bR).alloc nR (.cells #[.int .u8 (HMod.hMod (q / 72057594037927936) (256:Int))] 5)));clear hi hv h0 hU;go_wp2_with (at_builtin;refine jMv rfl (.tmp 25) (.tmp 29) rfl w.heap.size _ m rfl hs.o b ⟨h5.heap.size,0,none⟩ 1 rfl (by rw[hG.o];simp[go_sem]) (by omega) (by simp;omega) ?_;intro v6 w6 hO hR;have he:=hd hO;have hr:=hd hR;clear hO hR);go_roundw;exact⟨j+1,_,m++[b],by omega,by go_num,rfl,he.o,by rw[cg];simp;omega,hH,hA.o.trans ((cS (B':=w.heap.size) (bA) hJ).trans hr.o)⟩;simp[intOf];omega
    have HE:Hid (Sq.jBi t=m):=by show _=_;rw[hU.o,show 8-j=0 by omega,Sq.jEr,cW]
    clear hU;go_wp2;go_ret;exact⟨_,rfl,by rw[HE.o];exact hh.o,hA.o⟩
  have i1:¬(HMod.hMod (l.length:Int) (64:Int)=56):=by omega
  obtain⟨f',rfl⟩:∃f',f=f'+1:=⟨f-1,by omega⟩;have HZ:Hid (Sq.jAU 64 l0=Sq.jAU f' (l++[0])):=by show _=_;rw[hV.o,Sq.jAU,cy hm]
  have hs:=hd (hl.o.below ((bR).alloc nR (.cells #[.int .u8 0] 5)));clear hV;go_wp2_with (at_builtin;refine jMv rfl (.tmp 14) (.tmp 15) rfl w.heap.size _ l rfl hs.o 0 ⟨wo.heap.size,0,none⟩ 1 rfl (by simp[go_sem]) (by omega) (by simp;omega) ?_;intro v6 w6 hO hR;obtain⟨zo,h8,h3⟩:=hO.slice;rw[cg,dc] at h3;subst h3;have he:=hd hO;have hr:=hd hR;clear hO hR);go_roundw;exact⟨f',l++[0],by omega,he.o,by rw[cg];simp;omega,by rw[cg];simp;omega,by rw[cg];simp;omega,HZ,HB.o.trans ((cS (B':=w.heap.size) (bA) hK).trans hr.o)⟩;simp[lenOf];omega
end
end Go.Proofs.YtahpihjialbanaaGreatDoor
