import Derived.ArgAppend
import Derived.Deep.WholeRow
import Derived.Laws.Rows
import Derived.Test.YtahpihjialbanaaGreatDoorQag
set_option linter.unusedVariables false
set_option linter.unusedSimpArgs false
set_option maxRecDepth 100000
set_option maxHeartbeats 2000000
namespace Go.Proofs.YtahpihjialbanaaGreatDoor
section
open Go.RowKit
def BufF (B:Nat)(w:World)(v:Value)(l:List UInt8):Prop :=
 ∃(g cap:Nat) (cur:Array Value) (lo hi:Nat),v=.slice (some ⟨g,0,none⟩) l.length cap/\B<=g/\w.heap[g]?=some (.cells cur 5 (lo,hi))/\cur.size=cap/\l.length<=cap/\(∀k,k<cap->(Decidable.decide (lo<=k)&&Decidable.decide (k<hi))=false)/\cur.toList.take l.length=l.map fun b=>Value.int .u8 b.toNat
theorem BufF.slice {B:Nat}{w:World}{v:Value}{l:List UInt8}(h:BufF B w v l):∃ao cap,v=.slice ao l.length cap:=by
 obtain⟨g,cap,cur,lo,hi,rfl,_⟩:=h;exact⟨_,cap,rfl⟩
theorem BufF.below {B:Nat}{w w':World}{v:Value}{l:List UInt8}(h:BufF B w v l)(hb:Below w.heap.size w w'):BufF B w' v l:=by
 obtain⟨g,cap,cur,lo,hi,h1,h2,h3,h4⟩:=h;exact⟨g,cap,cur,lo,hi,h1,h2,(hb.block g (jQf h3)).trans h3,h4⟩
theorem BufF.base {B B':Nat}{w:World}{v:Value}{l:List UInt8}(h:BufF B w v l)(hb:B'<=B):BufF B' w v l:=by
 obtain⟨g,cap,cur,lo,hi,h1,h2,h3⟩:=h;exact⟨g,cap,cur,lo,hi,h1,Nat.le_trans hb h2,h3⟩
theorem BufF.at {B:Nat}{w:World}{v:Value}{l:List UInt8}(h:BufF B w v l)(k:Nat)(hk:k<l.length):∃g cap,v=.slice (some ⟨g,0,none⟩) l.length cap/\g<w.heap.size/\w.cell? ⟨g,k,none⟩=some (.int .u8 (l[k].toNat:Int)):=by
 obtain⟨g,cap,cur,lo,hi,rfl,h2,h3,h4,h5,h6,h7⟩:=h;refine⟨g,cap,rfl,jQf h3,?_⟩;rw[cell_of_row w g k cur _ _ h3];have e:(cur.toList.take l.length)[k]?=some (.int .u8 (l[k].toNat:Int)):=by rw[h7];simp[List.getElem?_eq_getElem hk]
 rw[List.getElem?_take,if_pos hk] at e;simpa using e
theorem BufF.of {B:Nat}{w:World}{v:Value}{l:List UInt8}(h:BufAt B w v l)(hl:0<l.length):BufF B w v l:=by
 rcases h.2 with⟨_,h0⟩ | ⟨g,cap,cur,hv,hbg,hh,hn,hm,hc,ht⟩
 ·omega
 ·exact⟨g,cap,cur,0,0,hv,hbg,hh,by simpa using hc,hn,fun k _=>by simp,by simpa using ht⟩
theorem jQal {ops:Array Oper}{rest:List Oper}{o:Oper}{a:Act}{Q:Exit->Act->World->Prop}{w:World}(hgd:o.guard=none)(sl x:Operand)
  (ho:o.op=.call { callee:=.builtin .append,args:=#[sl,x],argTypes:=#[55,55] }) (B:Nat) (v:Value) (l:List UInt8) (hs:a.eval sl=v) (hb:BufF B w v l)
  (b:UInt8) (ad:Addr) (c:Nat) (hx:a.eval x=.slice (some ad) 1 c) (hc:w.cell? ad=some (.int .u8 b.toNat)) (h1:l.length+1<=100000000000) (hB:B<=w.heap.size)
  (h:∀v' w',BufF B w' v' (l++[b])->Below B w w'->wpList Tryz.prog ops Q rest (a.put o.dst v') w'):wpList Tryz.prog ops Q (o::rest) a w:=by
 obtain⟨i0,hi,hz0,hz1,hz2⟩:=info_parts Tryz.infoU8;have hf:=hb;obtain⟨g,cap,cur,lo,hi',rfl,h2,h3,h4,h5,h6,h7⟩:=hb
 refine wpList_append_arg w hgd sl x 55 ho 5 i0 _ 1 1 Tryz.underlying55 hi hz0 hz1 hz2 rfl (by decide) g 0 l.length cap (l.map fun b=>Value.int .u8 b.toNat) hs (by simp) (by
  intro j u hu
  have hj:j<l.length:=by
   rcases Nat.lt_or_ge j l.length with h | h
   ·exact h
   ·rw[List.getElem?_eq_none (by simpa using h)] at hu;cases hu
  obtain⟨g',cap',hv,_,hcell⟩:=BufF.at hf j hj;simp only[Value.slice.injEq,Option.some.injEq,Addr.mk.injEq] at hv;obtain⟨⟨rfl,-,-⟩,-,-⟩:=hv;rw[List.getElem?_map,List.getElem?_eq_getElem hj] at hu;simp at hu;rw[Nat.zero_add,hcell,hu]) ad 1 c [.int .u8 b.toNat] hx rfl (by
  intro j u hu;cases j with
  | zero =>
   rw[show ad.add 0=ad from by unfold Addr.add;split<;>simp_all];simp at hu;subst hu;exact hc
  | succ j=>simp at hu) (by intro u hu;simp at hu;subst hu;rfl) (by
  intro hr j hj;have hh:j=0:=by simp at hj;omega
  subst hh;have he:l.length<cap:=by omega
  refine⟨?_,?_⟩
  ·rw[cell_of_row w g _ cur _ _ h3,Array.getElem?_eq_getElem (show 0+l.length*1+0<cur.size by omega)];rfl
  ·unfold World.frozen?;rw[h3];have h8:=h6 (0+l.length*1+0) (by omega);exact h8) (by unfold maxLen;omega) (by omega) (fun hr=>?_) (fun hg v' w' ho' hgr=>?_)
 ·refine h _ _ ⟨g,cap,cur.setIfInBounds l.length (.int .u8 b.toNat),lo,hi',by simp,h2,?_,by simpa using h4,by simpa using hr,h6,?_⟩ ?_
  ·simpa[World.setCells] using jQe h3 (o:=l.length) (Value.int .u8 b.toNat)
  ·have he:l.length<cur.size:=by omega
   rw[List.length_append,List.map_append,<-h7];simp only[List.length_cons,List.length_nil,List.map_cons,List.map_nil,Array.toList_setIfInBounds];rw[List.take_succ_eq_append_getElem (by simpa using he)]
   congr 1
   ·rw[List.take_set_of_le (nR)]
   ·simp
  ·simpa[World.setCells] using Below.setCell (B:=B) (Below.refl B w) (p:=⟨g,l.length,none⟩) h2 (Value.int .u8 b.toNat)
 ·have ha:BufAt w.heap.size w' v' (l++[b]):=BufAt.snoc ho';exact h v' w' ((BufF.of ha (by simp)).base hB) (Tch.of_grown hgr (fun k hk=>by cases hk) hB)
def lenOf:Value->Nat | .slice _ n _=>n | _=>0
theorem jQq1 (w:World)(s:ByteArray):BufF w.heap.size (Lib.bytesWorld w 5 s) (.slice (some ⟨w.heap.size,0,none⟩) s.size (grownCap w s.size 0 5)) s.data.toList/\Below w.heap.size w (Lib.bytesWorld w 5 s):=by
 have ha:=grownCap_ge w s.size 0 5
 have hb:(Lib.bytesCells w 5 s).size=grownCap w s.size 0 5:=by
  unfold Lib.bytesCells
  have:s.data.size=s.size:=rfl
  simp[this];omega
 refine⟨⟨w.heap.size,grownCap w s.size 0 5,Lib.bytesCells w 5 s,_,_,by simp,nR,Lib.bytesWorld_at_new w 5 s,hb,by simpa using ha,fun k hk=>?_,?_⟩,⟨rfl,rfl,rfl,by rw[Lib.bytesWorld_size];omega,fun k hk=>Lib.bytesWorld_at_old w _ s k hk⟩⟩
 ·have:¬((Lib.bytesCells w 5 s).size<=k):=by omega
  simp[this]
 ·unfold Lib.bytesCells;simp
end
section
open Go.RowKit
namespace Sq
def rot (x:Int)(b:Nat):Int:=bits .or .u32 (x / 2^b) (HMod.hMod (x*2^(32-b)) (4294967296:Int))
def word4 (a b c d:UInt8):Int:=bits .or .u32 (bits .or .u32 (bits .or .u32 (HMod.hMod ((HMod.hMod (a.toNat:Int) (4294967296:Int))*16777216) (4294967296:Int)) (HMod.hMod ((HMod.hMod (b.toNat:Int) (4294967296:Int))*65536) (4294967296:Int))) (HMod.hMod ((HMod.hMod (c.toNat:Int) (4294967296:Int))*256) (4294967296:Int))) (HMod.hMod (d.toNat:Int) (4294967296:Int))
end Sq
theorem jQlV (x:Int)(b:Nat)(w:World)(hb:0<b)(hb2:b<32) :
  Calls Tryz.prog 129 #[.int .u32 x,.int .u64 b] w fun e w'=>e=.returned (.int .u32 (Sq.rot x b))/\w'=w:=by
 go_enter Tryz.func129,Tryz.ntmps129;go_wp2;go_ret;exact⟨rfl,rfl⟩
theorem jQdW (w:World):∀m,Below w.heap.size w (w.drewN m):=by
 intro m
 induction m with
 | zero=>exact bR
 | succ m ih=>exact Below.drew ih
theorem jQin (b k:Nat)(h:b<=100000000)(hk:k<=1000):IntKind.i64.wrap ((b:Int)+(k:Int))=((b+k:Nat):Int):=by simp[IntKind.wrap,IntKind.bits,IntKind.signed];omega
theorem jQlJ (l:List UInt8)(v:Value)(k:Nat)(w:World)(h:BufF 0 w v l)(hl:l.length<=100000000)(hk:k+4<=l.length) :
  Calls Tryz.prog 130 #[v,.int .i64 k] w fun e w'=>e=.returned (.int .u32 (Sq.word4 l[k] l[k+1] l[k+2] l[k+3]))/\Below w.heap.size w w':=by
 obtain⟨g,cap,hv,hg,c0⟩:=h.at k (by omega);subst hv;obtain⟨g1,cap1,hv1,_,c1⟩:=h.at (k+1) (by omega);simp only[Value.slice.injEq,Option.some.injEq,Addr.mk.injEq] at hv1;obtain⟨⟨rfl,-,-⟩,-,-⟩:=hv1;obtain⟨g1,cap1,hv1,_,c2⟩:=h.at (k+2) (by omega);simp only[Value.slice.injEq,Option.some.injEq,Addr.mk.injEq] at hv1;obtain⟨⟨rfl,-,-⟩,-,-⟩:=hv1;obtain⟨g1,cap1,hv1,_,c3⟩:=h.at (k+3) (by omega);simp only[Value.slice.injEq,Option.some.injEq,Addr.mk.injEq] at hv1;obtain⟨⟨rfl,-,-⟩,-,-⟩:=hv1;obtain⟨x0,hx0⟩:∃x,x=l[k]:=⟨_,rfl⟩;obtain⟨x1,hx1⟩:∃x,x=l[k+1]:=⟨_,rfl⟩;obtain⟨x2,hx2⟩:∃x,x=l[k+2]:=⟨_,rfl⟩;obtain⟨x3,hx3⟩:∃x,x=l[k+3]:=⟨_,rfl⟩;rw[<-hx0,<-hx1,<-hx2,<-hx3];rw[<-hx0] at c0;rw[<-hx1] at c1;rw[<-hx2] at c2;rw[<-hx3] at c3;have i1:decide ((k:Int)<0)=false:=by simp
 have i2:decide ((l.length:Int)-4<(k:Int))=false:=by simp;omega
 have i3:¬((l.length:Int)-4<(k:Int)):=by omega
 have w1:IntKind.i64.wrap ((k:Int)+1)=((k+1:Nat):Int):=jQin k 1 (by omega) (by omega);have w2:IntKind.i64.wrap ((k:Int)+2)=((k+2:Nat):Int):=jQin k 2 (by omega) (by omega);have w3:IntKind.i64.wrap ((k:Int)+3)=((k+3:Nat):Int):=jQin k 3 (by omega) (by omega);have hc:k<l.length:=by omega
 have ha:k+1<l.length:=by omega
 have hb:k+2<l.length:=by omega
 have he:k+3<l.length:=by omega
 clear hx0 hx1 hx2 hx3 h;go_enter Tryz.func130,Tryz.ntmps130;go_wp2
 go_quiet (fail)
 go_wp2;go_ret;exact⟨rfl,jQdW _ _⟩
end
section
open Go.RowKit
namespace Sq
def at0 (m:List Int)(k:Nat):Int:=(m[k]?).getD 0
def byte0 (l:List UInt8)(k:Nat):UInt8:=(l[k]?).getD 0
def word (l:List UInt8)(k:Nat):Int:=word4 (byte0 l k) (byte0 l (k+1)) (byte0 l (k+2)) (byte0 l (k+3))
def sch1 (l:List UInt8)(a:Nat):Nat->List Int
 | 0=>List.replicate 64 0
 | k+1=>(sch1 l a k).set k (word l (a+4*k))
def m32 (x:Int):Int:=HMod.hMod x (4294967296:Int)
def low (x:Int):Int:=bits .xor .u32 (bits .xor .u32 (rot x 7) (rot x 18)) (x / 8)
def high (y:Int):Int:=bits .xor .u32 (bits .xor .u32 (rot y 17) (rot y 19)) (y / 1024)
def next (m:List Int)(i:Nat):Int:=m32 (at0 m (i-16)+low (at0 m (i-15))+at0 m (i-7)+high (at0 m (i-2)))
def sch2 (m:List Int):Nat->List Int
 | 0=>m
 | j+1=>(sch2 m j).set (j+16) (next (sch2 m j) (j+16))
def sched (l:List UInt8)(a:Nat):List Int:=sch2 (sch1 l a 16) 48
theorem jQgo (l:List UInt8)(a:Nat):∀k,(sch1 l a k).length=64
 | 0=>rfl
 | k+1=>by rw[sch1,List.length_set,jQgo l a k]
theorem jQgn (m:List Int)(h:m.length=64):∀k,(sch2 m k).length=64
 | 0=>h
 | k+1=>by rw[sch2,List.length_set,jQgn m h k]
end Sq
def u32s (m:List Int):Array Value:=(m.map (Value.int .u32)).toArray
theorem jQgb (m:List Int):(u32s m).size=m.length:=by simp[u32s]
theorem jQaY (m:List Int)(k:Nat)(x:Int):(u32s m).setIfInBounds k (.int .u32 x)=u32s (m.set k x):=by
 unfold u32s;simp[List.map_set]
theorem jQB {w:World}{b:Nat}{m:List Int}{e:TypeId}(h:w.heap[b]?=some (.cells (u32s m) e))(k:Nat)(hk:k<m.length):w.cell? ⟨b,k,none⟩=some (.int .u32 (Sq.at0 m k)):=by
 rw[jQb h];unfold u32s Sq.at0;simp[List.getElem?_eq_getElem hk]
theorem jQlR (m:List Int):(u32s m).all (·.oneCell')=true:=by
 unfold u32s;simp[Value.oneCell']
theorem jQiH (l:List UInt8)(v:Value)(a:Nat)(w:World)(h:BufF 0 w v l)(hl:l.length<=100000000)(ha:a+64<=l.length) :
  Calls Tryz.prog 87 #[v,.int .i64 a] w fun e w'=>e=.returned (.agg (u32s (Sq.sched l a)))/\Below w.heap.size w w':=by
 obtain⟨vo,vcap,rfl⟩:=h.slice;have H:=hd h;clear h;go_enter Tryz.func87,Tryz.ntmps87;go_wp2
 go_loopw [6] (fun i wr=>∃k:Nat,k<=16/\i=.int .i64 k/\wr.heap[w.heap.size]?=some (.cells (u32s (List.replicate 64 0)) 146)/\wr.heap[w.heap.size+1]?=some (.cells (u32s (Sq.sch1 l a k)) 146)/\Below w.heap.size w wr) (fun i _=>16-(intOf i).toNat)
 case atStart=>exact⟨0,by decide,rfl,(Below.heap_alloc _ _ _ (by simp)).trans (heap_alloc_new w _),heap_alloc2_new w _ _,((bR).alloc (nR) _).alloc (by simp) _⟩
 case round =>
  obtain⟨k,hk,rfl,hg,hc,hb⟩:=hrel;have hz:=jQf hc;have hq:=hd hg;have hB:=hd hc;have HB:=hd hb;clear hg hc hb
  by_cases hlt:k<16
  ·have hn:(a:Int)+4*(k:Int)=((a+4*k:Nat):Int):=by omega
   have hF:Sq.word4 l[a+4*k] l[a+4*k+1] l[a+4*k+2] l[a+4*k+3]=Sq.word l (a+4*k):=by
    unfold Sq.word Sq.byte0;rw[List.getElem?_eq_getElem (by omega),List.getElem?_eq_getElem (by omega),List.getElem?_eq_getElem (by omega),List.getElem?_eq_getElem (by omega)];rfl
   have hM:=hd hF;have ht:=hd hn;clear hF hn;go_wp2_with fail;rw[ht.o];refine(jQlJ l _ (a+4*k) _ (H.o.below HB.o) hl (by omega)).mono ?_;rintro e w2 ⟨rfl,hb2⟩;rw[hM.o];obtain⟨x,hx⟩:∃x,x=Sq.word l (a+4*k):=⟨_,rfl⟩;rw[<-hx];have hf:=(hb2.block (w.heap.size+1) hz).trans hB.o;have c0:=jQB hf k (by rw[Sq.jQgo];omega);have f0:=jQd hf k;have hQ:=jQf hf;have HX:=hd hx;have hC:=hd hf;have hA:=hd ((hb2.block w.heap.size (by omega)).trans hq.o);have hN:=hd (HB.o.trans (hb2.mono HB.o.size));clear hx hf hb2;go_wp2;go_roundw
   case rel =>
    refine⟨k+1,by omega,by go_num,(jQg (by omega)).trans hA.o,?_,Below.setCell (B:=w.heap.size) hN.o (by simp) _⟩;rw[jQe hC.o,jQaY,HX.o];rfl
   case measure=>simp[intOf];omega
  ·have hr:k=16:=by omega
   subst hr;obtain⟨m,hm⟩:∃m,m=Sq.sch1 l a 16:=⟨_,rfl⟩;have hw:m.length=64:=by rw[hm];exact Sq.jQgo l a 16
   have hc:=hB.o;rw[<-hm] at hc;have ho:=hd hc;have HM:=hd hm;obtain⟨wo,rfl⟩:∃wo:World,wo=wr:=⟨_,rfl⟩;clear hc hm hB;go_wp2
   go_loopw [7] (fun i wr=>∃j:Nat,j<=48/\i=.int .i64 ((j+16:Nat):Int)/\wr.heap[w.heap.size]?=some (.cells (u32s (List.replicate 64 0)) 146)/\wr.heap[w.heap.size+1]?=some (.cells (u32s (Sq.sch2 m j)) 146)/\Below w.heap.size w wr) (fun i _=>64-(intOf i).toNat)
   case atStart=>exact⟨0,by decide,rfl,hq.o,ho.o,HB.o⟩
   case round =>
    obtain⟨j,hj,rfl,hg,hc,hb⟩:=hrel;have hP:=jQf hc;have hh:=hd hg;have hp:=hd hc;have hH:=hd hb;clear hg hb
    by_cases hjt:j<48
    ·have hi:=Sq.jQgn m hw j;have c15:=jQB hc (j+1) (by omega);have c2:=jQB hc (j+14) (by omega);have c16:=jQB hc j (by omega);have c7:=jQB hc (j+9) (by omega);have c0:=jQB hc (j+16) (by omega);have f0:=jQd hc (j+16);have e15:((j+16:Nat):Int)-15=((j+1:Nat):Int):=by omega
     have e2:((j+16:Nat):Int)-2=((j+14:Nat):Int):=by omega
     have hE:Hid (Sq.next (Sq.sch2 m j) (j+16)=Sq.m32 (Sq.at0 (Sq.sch2 m j) j+Sq.low (Sq.at0 (Sq.sch2 m j) (j+1))+Sq.at0 (Sq.sch2 m j) (j+9)+Sq.high (Sq.at0 (Sq.sch2 m j) (j+14)))):=by
      show _=_;unfold Sq.next;rw[show j+16-16=j by omega,show j+16-15=j+1 by omega,show j+16-7=j+9 by omega,show j+16-2=j+14 by omega]
     obtain⟨x15,hx15⟩:∃x,x=Sq.at0 (Sq.sch2 m j) (j+1):=⟨_,rfl⟩;obtain⟨x2,hx2⟩:∃x,x=Sq.at0 (Sq.sch2 m j) (j+14):=⟨_,rfl⟩;obtain⟨x16,hx16⟩:∃x,x=Sq.at0 (Sq.sch2 m j) j:=⟨_,rfl⟩;obtain⟨x7,hx7⟩:∃x,x=Sq.at0 (Sq.sch2 m j) (j+9):=⟨_,rfl⟩;have hD:=hE.o;rw[<-hx15,<-hx2,<-hx16,<-hx7] at hD;rw[<-hx15] at c15;rw[<-hx2] at c2;rw[<-hx16] at c16;rw[<-hx7] at c7;have hy:=hd hD;have hO:=hd hi;have b0:(j:Int)+16<64:=by omega
     have g1:IntKind.i64.wrap (((j+16:Nat):Int)-16)=((j:Nat):Int):=by simp[IntKind.wrap,IntKind.bits,IntKind.signed];omega
     have g2:IntKind.i64.wrap (((j+16:Nat):Int)-7)=((j+9:Nat):Int):=by simp[IntKind.wrap,IntKind.bits,IntKind.signed];omega
     have g3:IntKind.i64.wrap ((j:Int)+16-16)=((j:Nat):Int):=by simp[IntKind.wrap,IntKind.bits,IntKind.signed];omega
     have g4:IntKind.i64.wrap ((j:Int)+16-7)=((j+9:Nat):Int):=by simp[IntKind.wrap,IntKind.bits,IntKind.signed];omega
     have b1:j<64:=by omega
     have b2:j+9<64:=by omega
     have b3:j+16<64:=by omega
     clear hx15 hx2 hx16 hx7 hD hE hc hi e15 e2;go_wp2
     go_region
     all_goals(try go_wp2)
     go_roundw
     case rel =>
      refine⟨j+1,by omega,by go_num,(jQg (by omega)).trans hh.o,?_,Below.drew (Below.setCell (B:=w.heap.size) hH.o (by simp) _)⟩;refine(jQe hp.o _).trans ?_;have e:Sq.sch2 m (j+1)=(Sq.sch2 m j).set (j+16) (Sq.next (Sq.sch2 m j) (j+16)):=rfl;rw[e,hy.o,jQaY];rfl
     case measure=>simp[intOf];omega
    ·have hu:j=48:=by omega
     subst hu;have HE:Hid (Sq.sched l a=Sq.sch2 m 48):=by show _=_;rw[HM.o];rfl
     have hi:=Sq.jQgn m hw 48;have hg:=hh.o;obtain⟨z,hz'⟩:∃z,z=Sq.sch2 m 48:=⟨_,rfl⟩;have he:=HE.o;rw[<-hz'] at hc hi he;have hJ:=hd he;have hG:(Tryz.prog.info? 146).map (·.size)=some (u32s z).size:=by rw[jQgb,hi];kernel_rfl
     have hv:=hd (setRow_heap wr w.heap.size _ (u32s z) 146 (0,0) hg);have hs:=hd hG;have hK:=hd hc;have hI:=hd hg;have hL:Hid ((u32s (List.replicate 64 0)).size=(u32s z).size):=by show _=_;rw[jQgb,jQgb,hi];rfl
     clear hp hh hg hc hi he HE hz' hG ho hq HM hw
     go_wp2_with (first
      | (
        with_reducible show wpList _ _ _ ({ dst:=some 67,op:=Op.load _ _,type:=_,pos:=_,after:=_,guard:=_ }::_) _ _
        refine wpList_load_row rfl 146 (.tmp 5) rfl (w.heap.size+1) rfl 146 (u32s z) (0,0) _ hK.o Tryz.underlying146 rfl hs.o ?_)
      | (
        with_reducible show wpList _ _ _ ({ dst:=none,op:=Op.store _ _ _,type:=_,pos:=_,after:=_,guard:=_ }::_) _ _
        refine wpList_store_row rfl 146 (.tmp 4) (.tmp 67) rfl w.heap.size (u32s z) rfl rfl 146 _ hI.o hs.o hL.o (jQlR z) ?_))
     refine bodyPost_ret (v:=.agg (u32s z)) (results_cell_row Tryz.results87 _ _ w.heap.size 146 (u32s z) (0,0) _ rfl hv.o Tryz.underlying146 rfl hs.o) rfl ⟨by rw[hJ.o],below_setRow hH.o (nR) _⟩
end
end Go.Proofs.YtahpihjialbanaaGreatDoor
