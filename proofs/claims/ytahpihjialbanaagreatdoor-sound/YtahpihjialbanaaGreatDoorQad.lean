import Derived.Lib.ItoaNum
import Derived.Test.YtahpihjialbanaaGreatDoorQac
set_option linter.all false
set_option maxRecDepth 100000
set_option maxHeartbeats 1000000
namespace Go.Proofs.YtahpihjialbanaaGreatDoor
open Sq (aa Nd Trl aF Rd br aV aH ar aw bU big jA5 jAt jBg jHW jJn)
variable {B i m n tb:Nat}{cv ev v:Value}{dg:BA}{w w':World}{α β γ:Type}
section
open Go.RowKit
variable {Z:Nat->Prop}
structure jEt (Z:Nat->Prop)(w:World)(v:Value)(n:Nat)(l:List (Nd n×Value×Value)):Prop where
 rd:Reads w v l.length 7 (l.flatMap (au n))
 each:∀x∈l,ag Z w n x.1 x.2.1 x.2.2
theorem aB.rd {l:List (Nd n×Value×Value)}(h:aB Z B w v n l):jEt Z w v n l:=⟨Reads.jEC h.own,h.each⟩
theorem jEt.below {l:List (Nd n×Value×Value)}(h:jEt Z w v n l)(hb:Below w.heap.size w w'):jEt Z w' v n l:=⟨h.rd.below hb,fun x hx=>(h.each x hx).below hb⟩
def jDt (n:Nat)(l:List (Nd n×Value×Value))(k:Nat):Int:=aH (aa n) ((l.take k).map Prod.fst)
def jBH (n:Nat)(l:List (Nd n×Value×Value)):Prop:=∀x∈l,0<=(aa n x.1).rows/\(aa n x.1).rows<=1000000000
theorem jP8 (n:Nat)(l:List (Nd n×Value×Value))(k:Nat)(h:k<l.length):jDt n l (k+1)=jDt n l k+(aa n l[k].1).rows:=by
 unfold jDt aH;rw[cI h,cR,cR,List.sum_append];simp only[cM,dO,dN,List.sum_nil,Int.add_zero]
theorem jXn (n:Nat)(l:List (Nd n×Value×Value)):jDt n l 0=0:=rfl
theorem jSr (n:Nat)(l:List (Nd n×Value×Value))(hs:jBH n l):∀k,k<=l.length->0<=jDt n l k/\jDt n l k<=1000000000*(k:Int)
 | 0,_=>by rw[jXn];omega
 | k+1,h=>by
  have ih:=jSr n l hs k (by omega);have h1:=hs l[k] (cJ (by omega));rw[jP8 n l k (by omega)];omega
theorem jYC (n:Nat)(l:List (Nd n×Value×Value))(k:Nat)(h:l.length<=k):jDt n l k=aH (aa n) (l.map Prod.fst):=by
 unfold jDt;rw[cL h]
theorem jJa (n:Nat)(l:List (Nd n×Value×Value))(v:Value)(w:World)(h:jEt Z w v n l)(hl:l.length<=1000)(hr:jBH n l) :
  Calls Tryz.prog 133 #[v] w fun e w'=>∃cv,e=.returned (.agg (ae (aV (aa n) (l.map Prod.fst)).hd (.slice none 0 0) cv).toArray)/\aB Z w.heap.size w' cv n l/\Below w.heap.size w w':=by
 obtain⟨i0,hi,Ha,h8,Hb⟩:=cV Tryz.jFC;obtain⟨ao,h9,rfl⟩:=h.rd.slice;have hm:=aB.one h.each;obtain⟨cs,h5⟩:∃x,x=l.flatMap (au n):=⟨_,rfl⟩;have hJ:=h.rd;rw[<-h5] at hJ hm;have hW:∀o,Below w.heap.size w (w.alloc o):=fun o=>bA
 have hs:=hd hJ;have he:=hd h.each;have hG:=hd hm;have hP:=hd h5;have HW:=hd hW;have hM:=hd hr;clear h hJ hm h5 hW hr;go_enter Tryz.func133,Tryz.ntmps133;go_wp2_with (at_make;refine wpList_make_full _ rfl (.tmp 7) (.tmp 7) 58 rfl (w.heap.size+1) 60 i0 _ 7 Tryz.underlying58 hi Ha h8 .i64 .i64 _ _ l.length rfl rfl rfl rfl (by rw[Hb];omega) (by unfold maxLen;omega) (by simp) ?_;intro w1 h2 h1;rw[jQr] at h2;have hI:=Tch.aO (pb:=w.heap.size+1) h1 (fun k hk=>by cases hk) (by simp);have hw:=(HW.o _).trans (hI.mono (by omega));obtain⟨w2,h6,h3,ht⟩:=jMA w1 58 3 60 i0 7 Tryz.underlying58 hi h8 (w.heap.size+1) _ l.length _ _ _ _ cs h2 (hs.o.below hw) hG.o;have hf:=hI.trans ht;have ha:=(hf.block w.heap.size (by omega)).trans (jQi w _);have hS:=jL9 h3;have hy:w.heap.size<w2.heap.size:=(by omega);have hK:=hd hf;have hL:=hd h3;have hE:=hd ha;clear h2 h1 hI hw h3 ht hf ha);have hh:Below w.heap.size w w2:=(HW.o _).trans (hK.o.mono (by omega))
 have hC:Hid (aB Z (w.heap.size+1) w2 (.slice (some ⟨w.heap.size+1,0,none⟩) l.length l.length) n l):=by
  refine⟨?_,fun x hx=>(he.o x hx).below hh⟩
  have:=hL.o
  rw[hP.o] at this;exact this
 have hp:=hd hh;clear hh h6 hL hK hs
 go_loopw [5] (fun i wr=>∃k:Nat,k<=l.length/\i=.int .i64 k/\wr.heap[w2.heap.size]?=some (.cells #[.bool true,.slice none 0 0,.slice (some ⟨w.heap.size+1,0,none⟩) l.length l.length,.int .i64 0,.int .i64 (jDt n l k),.string ⟨#[]⟩,.int .i64 0] 60)/\Below w2.heap.size w2 wr) (fun i _=>l.length-(intOf i).toNat)
 case atStart=>exact⟨0,zR,rfl,jQi w2 _,bA⟩
 case round =>
  obtain⟨k,hk,rfl,ha,hb⟩:=hrel;have c0:wr.cell? ⟨w2.heap.size,0,none⟩=some (.bool true):=by rw[jQb ha];rfl
  have c1:wr.cell? ⟨w2.heap.size,1,none⟩=some (.slice none 0 0):=by rw[jQb ha];rfl
  have c2:wr.cell? ⟨w2.heap.size,2,none⟩=some (.slice (some ⟨w.heap.size+1,0,none⟩) l.length l.length):=by rw[jQb ha];rfl
  have c3:wr.cell? ⟨w2.heap.size,3,none⟩=some (.int .i64 0):=by rw[jQb ha];rfl
  have c4:wr.cell? ⟨w2.heap.size,4,none⟩=some (.int .i64 (jDt n l k)):=by rw[jQb ha];rfl
  have c5:wr.cell? ⟨w2.heap.size,5,none⟩=some (.string ⟨#[]⟩):=by rw[jQb ha];rfl
  have c6:wr.cell? ⟨w2.heap.size,6,none⟩=some (.int .i64 0):=by rw[jQb ha];rfl
  obtain⟨f0,f1,f2,f3,f4,f5,f6⟩:=jQk ha;have hO:=jSr n l hM.o k hk;have hT:=jQe ha;have hn:=hd ha;have HB:=hd hb;clear ha hb
  by_cases hlt:k<l.length
  ·obtain⟨g,h4,ea,el,ec,ca,cl,cc,hv,hg,d,d5,d6⟩:=(hC.o.below HB.o).at k hlt;simp only[Value.slice.injEq,Option.some.injEq,Addr.mk.injEq] at hv;obtain⟨⟨rfl,-,-⟩,-,rfl⟩:=hv;have d4:=d.c4;have hD:=jP8 n l k hlt;have hV:=hM.o l[k] (cJ hlt);obtain⟨q,hq⟩:∃x,x=(aa n l[k].1).rows:=⟨_,rfl⟩;obtain⟨z,hz⟩:∃x,x=jDt n l k:=⟨_,rfl⟩;rw[<-hq] at d4 hD hV;rw[<-hz] at c4 hD hO;have HZ:=hd hz;have hH:=hd hD;clear hD hq hz d d5 d6 c0 c1 c2 c3 c5 c6;go_wp2
   go_region
   all_goals(try go_wp2)
   go_roundw
   case rel =>
    refine⟨k+1,by omega,by go_num,?_,cB (cj (B:=w2.heap.size) HB.o nR _)⟩;have ht:=hn.o;rw[<-HZ.o] at ht
    show(wr.setCell _ _).heap[w2.heap.size]?=_
    rw[jQf ht,hH.o];simp
   case measure=>simp[intOf];omega
  have hN:Hid (jDt n l k=aH (aa n) (l.map Prod.fst)):=jYC n l k (by omega);have hc:=(HB.o.block w.heap.size (by omega)).trans hE.o;obtain⟨b0,b1,b2,b3,b4,b5,b6⟩:=jQw hc;obtain⟨e0,e1,e2,e3,e4,e5,e6⟩:=jQk hc;have hU:=jQe hc;rw[hN.o] at c4;obtain⟨z,hz⟩:∃x,x=aH (aa n) (l.map Prod.fst):=⟨_,rfl⟩;rw[<-hz] at c4;have HZ:=hd hz;have hZ:¬(k<l.length):=hlt;have hX:=hd hc;clear hz hc hN hO;rcases dP l.length with h0 | h0
  ·have hQ:l=[]:=by simpa using h0
   subst hQ;have hu:Below w.heap.size w wr:=hp.o.trans (HB.o.mono (by omega));have ho:=(hC.o.below HB.o).own;have HO:=hd ho;have hA:=hd hu;have hB:Hid (jBg (aa n) (([]:List (Nd n×Value×Value)).map Prod.fst)=0):=rfl;clear ho hu;go_wp2;refine cp (v:=.agg (ae (aV (aa n) (([]:List (Nd n×Value×Value)).map Prod.fst)).hd (.slice none 0 0) (.slice (some ⟨w.heap.size+1,0,none⟩) 0 0)).toArray) (by simp only[ae,aV,hB.o,<-HZ.o,ar];simp[results,Tryz.results133,go_sem, *]) rfl ⟨_,rfl,⟨?_,fun x hx=>by cases hx⟩,?_⟩
   ·exact jQj (jQp HO.o fun k hk=>jQl wr w.heap.size _ _ _ _ _ _ _ (fun e=>by have:=(World.ownsRow.lt HO.o k hk).1;omega)) (by omega)
   exact jQu hA.o nR _ _ _ _ _ _ _
  obtain⟨g,h4,ea,el,ec,ca,cl,cc,hv,hg,d,d5,d6⟩:=(hC.o.below HB.o).at 0 h0;simp only[Value.slice.injEq,Option.some.injEq,Addr.mk.injEq] at hv;obtain⟨⟨rfl,-,-⟩,-,rfl⟩:=hv;have d3:=d.c3
  have hB:Hid (jBg (aa n) (l.map Prod.fst)=(aa n l[0].1).least):=by
   cases l with
   | nil=>simp at h0
   | cons x r=>rfl
  obtain⟨p0,h7⟩:∃x,x=(aa n l[0].1).least:=⟨_,rfl⟩;have hj:=hB.o;rw[<-h7] at d3 hj;have hF:=hd hj;clear h7 hj hB d d5 d6;simp only[Nat.zero_mul,df] at d3;have hu:Below w.heap.size w wr:=hp.o.trans (HB.o.mono (by omega));have ho:=(hC.o.below HB.o).own;have HO:=hd ho;have hA:=hd hu;clear ho hu;go_wp2;refine cp (v:=.agg (ae (aV (aa n) (l.map Prod.fst)).hd (.slice none 0 0) (.slice (some ⟨w.heap.size+1,0,none⟩) l.length l.length)).toArray) (by simp only[ae,aV,hF.o,<-HZ.o,ar];simp[results,Tryz.results133,go_sem, *]) rfl ⟨_,rfl,?_,?_⟩
  ·have hR:Below w.heap.size w (bT (wr.setCell ⟨w2.heap.size,3,none⟩ (.int .i64 p0)) w.heap.size (.bool true) (.slice none 0 0) (.slice (some ⟨w.heap.size+1,0,none⟩) l.length l.length) (.int .i64 p0) (.int .i64 z) (.string ⟨#[]⟩) (.int .i64 0)):=jQu (cj (B:=w.heap.size) hA.o (cQ hy) _) nR _ _ _ _ _ _ _;refine⟨jQj (jQp HO.o fun k hk=>?_) (by omega),fun x hx=>(he.o x hx).below hR⟩;have hY:w.heap.size+1=k:=by simpa[Value.ownBlock] using hk
   exact(jQl _ w.heap.size _ _ _ _ _ _ _ (by omega)).trans (jQg (by omega))
  exact jQu (cj (B:=w.heap.size) hA.o (cQ hy) _) nR _ _ _ _ _ _ _
end
namespace Sq
def aI (v:Val):Prop:=(v.kind=0/\-2147483648<=v.number/\v.number<=2147483647/\v.text=ar)\/(v.kind=1/\v.number=0/\v.text.size<=12/\(39:UInt8) ∉ v.text.data.toList)
theorem jCQ:aI jDY:=Or.inl ⟨rfl,by decide,by decide,rfl⟩
theorem jWc (l:List UInt8):∀a:Int,0<=a->(∀c∈l,isDigit c.toNat=true)->0<=l.foldl (fun n c=>n*10+dv c) a/\l.foldl (fun n c=>n*10+dv c) a+1<=(a+1)*((10^l.length:Nat):Int):=by
 induction l with
 | nil=>intro a h _;simp;omega
 | cons c r ih =>
  intro a h hd;have hc:=hd c (by simp)
  have h1:0<=dv c/\dv c<=9:=by
   unfold isDigit rng at hc;simp at hc;unfold dv;omega
  obtain⟨i1,i2⟩:=ih (a*10+dv c) (by omega) (fun x hx=>hd x (by simp[hx]));rw[de,cG,Nat.pow_succ];refine⟨i1,?_⟩;have h2:(0:Int)<=((10^r.length:Nat):Int):=Int.natCast_nonneg _;have h3:(a*10+dv c+1)*((10^r.length:Nat):Int)<=((a+1)*10)*((10^r.length:Nat):Int):=Int.mul_le_mul_of_nonneg_right (by omega) h2
  have h4:(a+1)*((10^r.length*10:Nat):Int)=((a+1)*10)*((10^r.length:Nat):Int):=by
   rw[Int.natCast_mul,Int.mul_assoc,Int.mul_comm ((10^r.length:Nat):Int)];rfl
  rw[h4];omega
theorem jZn (t:BA)(h:t.size<=9)(hd:∀c∈t.data.toList,isDigit c.toNat=true):0<=num t/\num t<=999999999:=by
 have h1:=jWc t.data.toList 0 (by omega) hd;have h2:(10:Nat)^t.data.toList.length<=10^9:=dH (by decide) (by simpa using h);have h3:(10:Nat)^9=1000000000:=by decide
 refine⟨h1.1,?_⟩;have h4:=h1.2;unfold num jF5;omega
theorem jKN (s:BA)(a b:Nat):(s.extract a b).data.toList=(s.data.toList.drop a).take (b-a):=by
 simp[List.extract_eq_take_drop]
theorem jO8 (p:α->Bool)(l:List α):l.take (l.takeWhile p).length=l.takeWhile p:=by
 induction l with
 | nil=>rfl
 | cons x r ih =>
  rw[dY]
  split
  ·rw[cG,List.take_succ_cons,ih]
  rfl
theorem jPc (p:α->Bool)(l:List α):∀x∈l.takeWhile p,p x=true:=by
 induction l with
 | nil=>intro x hx;simp at hx
 | cons y r ih =>
  intro x hx;rw[dY] at hx
  split at hx
  ·rename_i h;rcases List.mem_cons.1 hx with rfl | hx
   ·exact h
   exact ih x hx
  simp at hx
theorem qBL (p:Int->Bool)(s:BA)(a:Nat):(s.extract a (a+cnt p s a)).data.toList=(s.data.toList.drop a).takeWhile fun c=>p c.toNat:=by
 rw[jKN,Nat.add_sub_cancel_left];exact jO8 _ _
theorem jV5 (s:BA)(a b:Nat)(h:a<b)(hb:b<=s.size):aJ (s.extract a b) 0=aJ s a:=by
 unfold aJ;rw[jKN];rw[List.getElem?_take,cE (by omega),List.getElem?_drop];simp
structure jC8 (x:Word):Prop where
 num:x.kind=3->x.text.size<=9/\∀c∈x.text.data.toList,isDigit c.toNat=true
 text:x.kind=4->x.text.size<=12/\(39:UInt8) ∉ x.text.data.toList
 name:x.kind=2->x.text.size<=8
theorem jZN (s:BA)(a:Nat)(h:a<bw s a)(hs:bw s a<=s.size):jC8 (jAB (s.extract a (bw s a))):=by
 have h0:=jV5 s a (bw s a) h hs;obtain⟨t,ht⟩:∃t,t=s.extract a (bw s a):=⟨_,rfl⟩;rw[<-ht] at h0 ⊢;unfold jAB
 split
 ·exact⟨by simp,by simp,by simp⟩
 rw[h0]
 split
 ·refine⟨fun h=>?_,fun h=>?_,fun _=>jKP 2 t 8⟩
  ·rcases jQX 2 t 8 with h3 | h3<;>rw[h3] at h<;>simp at h
  rcases jQX 2 t 8 with h3 | h3<;>rw[h3] at h<;>simp at h
 rename_i hl
 split
 ·rename_i hf;refine⟨fun _=>⟨jKP 3 t 9,?_⟩,fun h=>?_,fun h=>?_⟩
  ·unfold bounded
   split
   ·have he:bw s a=a+cnt isDigit s a:=by unfold bw;rw[cy hl,cE hf]
    show ∀c∈t.data.toList,_;rw[ht,he,qBL];exact fun c hc=>jPc _ _ c hc
   intro c hc;simp at hc
  ·rcases jQX 3 t 9 with h3 | h3<;>rw[h3] at h<;>simp at h
  rcases jQX 3 t 9 with h3 | h3<;>rw[h3] at h<;>simp at h
 rename_i hf
 split
 ·rename_i hq;simp only[cP,beq_iff_eq] at hq;refine⟨fun h=>?_,fun _=>⟨jKP 4 _ 12,?_⟩,fun h=>?_⟩
  ·rcases jQX 4 (t.extract 1 (t.size-1)) 12 with h3 | h3<;>rw[h3] at h<;>simp at h
  ·unfold bounded
   split
   ·have he:bw s a=jDK s a:=by unfold bw;rw[cy hl,cy hf,cE (by simp[hq.1])]
    have hb:bw s a=a+1+cnt jA9 s (a+1)+1:=by
     rw[he];rw[he] at h;unfold jDK at h ⊢
     split
     ·rfl
     rename_i hx;rw[cy hx] at h;omega
    show(39:UInt8) ∉ (t.extract 1 (t.size-1)).data.toList
    have ha:t.size=cnt jA9 s (a+1)+2:=by
     rw[ht,dk];omega
    rw[jKN,ha,ht,jKN,List.drop_take,List.drop_drop,List.take_take]
    have hm:min (cnt jA9 s (a+1)+2-1-1) (bw s a-a-1)=(((s.data.toList.drop (a+1)).takeWhile fun c=>jA9 c.toNat)).length:=by
     show _=cnt jA9 s (a+1);omega
    rw[hm,jO8];intro hc
    have:=jPc _ _ _ hc
    exact absurd this (by decide)
   simp
  rcases jQX 4 (t.extract 1 (t.size-1)) 12 with h3 | h3<;>rw[h3] at h<;>simp at h
 exact⟨by simp,by simp,by simp⟩
theorem jWJ (s:BA):∀f a ws,jAi s f a=some ws->(∀x∈ws,jC8 x)/\ws.length<=f:=by
 intro f
 induction f with
 | zero=>intro a ws h;simp[jAi] at h;subst h;simp
 | succ f ih =>
  intro a ws h;rw[jAi] at h
  split at h
  ·split at h
   ·have:=ih _ _ h;exact⟨this.1,by omega⟩
   split at h
   ·simp at h
   rename_i he
   split at h
   ·simp at h
   cases h2:jAi s f (bw s a) with
   | none=>rw[h2] at h;simp at h
   | some l =>
    rw[h2] at h;simp at h;subst h;have h3:=ih _ _ h2;refine⟨fun x hx=>?_,by simp;omega⟩;rcases List.mem_cons.1 hx with rfl | hx
    ·exact jZN s a (by omega) (by omega)
    exact h3.1 x hx
  simp at h;subst h;simp
theorem jTV (s:BA)(ws:List Word)(h:split s=some ws):(∀x∈ws,jC8 x)/\ws.length<=s.size+1:=jWJ s _ _ ws h
theorem qCc (ws:List Word)(st:PSt)(h:∀x∈ws,jC8 x):jC8 (bP ws st):=by
 unfold bP
 split
 ·exact⟨by simp[jEs],by simp[jEs],by simp[jEs]⟩
 cases h2:ws[st.pos]? with
 | none=>exact⟨by simp[jEs],by simp[jEs],by simp[jEs]⟩
 | some x=>exact h x (cA h2)
theorem jTh (ws:List Word)(st:PSt)(h:∀x∈ws,jC8 x):aI (jFT ws st):=by
 have hw:=qCc ws (aR ws st bu) h;unfold jFT
 split
 ·rename_i hk;have h3:=hw.num (by simpa using hk);have h4:=jZn _ h3.1 h3.2
  split
  ·exact Or.inl ⟨rfl,by show _<=-_;omega,by show -_<=_;omega,rfl⟩
  exact Or.inl ⟨rfl,by show _<=num _;omega,by show num _<=_;omega,rfl⟩
 split
 ·rename_i hk;simp only[cP,beq_iff_eq] at hk;exact Or.inr ⟨rfl,rfl,hw.text hk.1⟩
 exact jCQ
theorem jJW (ws:List Word)(st:PSt)(h:∀x∈ws,jC8 x):aI (jCk ws st).lit:=by
 unfold jCk
 split
 ·exact jCQ
 exact jTh ws st h
structure jCZ (a b:PSt):Prop where
 act:b.act=a.act
 table:b.table=a.table
 cols:b.cols=a.cols
 ax:b.ax=a.ax
 ak:b.ak=a.ak
 shw:b.shw=a.shw
 items:b.items=a.items
theorem jCZ.refl (a:PSt):jCZ a a:=⟨rfl,rfl,rfl,rfl,rfl,rfl,rfl⟩
theorem jCZ.trans {a b c:PSt}(h:jCZ a b)(k:jCZ b c):jCZ a c:=⟨k.1.trans h.1,k.2.trans h.2,k.3.trans h.3,k.4.trans h.4,k.5.trans h.5,k.6.trans h.6,k.7.trans h.7⟩
theorem jI6 (a:PSt):jCZ a (fail a):=⟨rfl,rfl,rfl,rfl,rfl,rfl,rfl⟩
theorem jQK (a:PSt):jCZ a (step1 a):=⟨rfl,rfl,rfl,rfl,rfl,rfl,rfl⟩
theorem jKQ (a:PSt)(s:bd):jCZ a (jBo a s):=⟨rfl,rfl,rfl,rfl,rfl,rfl,rfl⟩
theorem jIZ (ws:List Word)(a:PSt):jCZ a (bn ws a):=by unfold bn;split;exact jI6 a;exact jQK a
theorem jRn (ws:List Word)(a:PSt)(m:BA):jCZ a (aR ws a m):=by unfold aR;split;exact jQK a;exact jCZ.refl a
theorem jQZ (ws:List Word)(a:PSt)(m:BA):jCZ a (aK ws a m):=by unfold aK;split;exact jQK a;exact jI6 a
theorem jQ5 (ws:List Word)(a:PSt):jCZ a (bO ws a):=by unfold bO;split;exact jIZ ws a;exact(jIZ ws a).trans (jI6 _)
theorem jM7 (ws:List Word)(a:PSt):jCZ a (jCS ws a):=by unfold jCS;split;exact jRn ws a _;exact jQZ ws a _
theorem jIP (ws:List Word)(a:PSt):jCZ a (jEB ws a):=by
 have h:=(jRn ws a bu).trans (jIZ ws _);unfold jEB
 split
 ·exact h
 split
 ·exact h
 exact h.trans (jI6 _)
theorem jHV (ws:List Word)(a:PSt):jCZ a (jBM ws a):=by unfold jBM;split;exact jQK a;exact jIP ws a
theorem jZW (ws:List Word)(a:PSt):jCZ a (jGi ws a):=by
 have h1:=(jHV ws a).trans (jIZ ws _);have h:jCZ a (jBY ws a):=by unfold jBY;split;exact h1;exact h1.trans (jI6 _)
 exact(h.trans (jHV ws _)).trans (jKQ _ _)
theorem qAy (ws:List Word):∀f t st,jCZ st (cond ws f t st):=by
 intro f
 induction f with
 | zero=>intro t st;exact jCZ.refl _
 | succ f ih =>
  intro t st
  match t with
  | 0=>rw[cond];exact(ih 1 st).trans (ih 3 _)
  | 1=>rw[cond];exact(ih 2 st).trans (ih 4 _)
  | 2 =>
   rw[cond]
   split
   ·exact((jQK st).trans (ih 2 _)).trans (jKQ _ _)
   split
   ·exact((jQK st).trans (ih 0 _)).trans (jQZ ws _ _)
   exact jZW ws st
  | 3 =>
   rw[cond]
   split
   ·exact(((jQK st).trans (ih 1 _)).trans (jKQ _ _)).trans (ih 3 _)
   exact jCZ.refl _
  | t+4 =>
   rw[cond]
   split
   ·exact(((jQK st).trans (ih 2 _)).trans (jKQ _ _)).trans (ih 4 _)
   exact jCZ.refl _
theorem jGZ (ws:List Word)(st:PSt):jCZ st (jBS ws st):=by
 unfold jBS
 split
 ·exact(jQK st).trans (qAy ws _ _ _)
 exact jCZ.refl _
structure aY (P:Val->Prop)(n:Nat)(st:PSt):Prop where
 few:st.cols.length+st.ax.length+st.ak.length+st.items.length<=n
 ax:∀v∈st.ax,P v
 ak:∀s∈st.ak,P s.first.lit/\P s.second.lit
theorem aY.same {P:Val->Prop}{a b:PSt}(h:aY P n a)(k:jCZ a b):aY P n b:=by
 refine⟨?_,?_,?_⟩
 ·rw[k.cols,k.ax,k.ak,k.items];exact h.few
 ·rw[k.ax];exact h.ax
 rw[k.ak];exact h.ak
theorem aY.mono {P:Val->Prop}{a:PSt}(h:aY P n a)(k:n<=m):aY P m a:=⟨cm h.few k,h.ax,h.ak⟩
theorem aY.act {P:Val->Prop}{a:PSt}(h:aY P n a)(x:Int):aY P n (bx a x):=⟨h.few,h.ax,h.ak⟩
theorem aY.shw {P:Val->Prop}{a:PSt}(h:aY P n a)(x:Int):aY P n (jAp a x):=⟨h.few,h.ax,h.ak⟩
theorem aY.table {P:Val->Prop}{a:PSt}(h:aY P n a)(ws:List Word):aY P n (jAN ws a):=by
 have:=h.same (jQ5 ws a)
 exact⟨this.few,this.ax,this.ak⟩
theorem aY.want {P:Val->Prop}{a:PSt}(h:aY P n a)(ws:List Word)(m:BA):aY P n (aK ws a m):=h.same (jQZ ws a m)
theorem aY.jDM {P:Val->Prop}{a:PSt}(h:aY P n a)(c:Col):aY P (n+1) (jDM a c):=⟨by have:=h.few;simp[Sq.jDM];omega,h.ax,h.ak⟩
theorem aY.addItem {P:Val->Prop}{a:PSt}(h:aY P n a)(c:BA):aY P (n+1) (addItem a c):=⟨by have:=h.few;simp[Sq.addItem];omega,h.ax,h.ak⟩
theorem aY.jFj {P:Val->Prop}{a:PSt}(h:aY P n a)(v:Val)(hv:P v):aY P (n+1) (jFj a v):=by
 refine⟨by have:=h.few;simp[Sq.jFj];omega,?_,h.ak⟩;intro x hx;rcases List.mem_append.1 hx with hx | hx
 ·exact h.ax x hx
 simp at hx;subst hx;exact hv
theorem aY.jEw {P:Val->Prop}{a:PSt}(h:aY P n a)(v:bE)(hv:P v.first.lit/\P v.second.lit):aY P (n+1) (jEw a v):=by
 refine⟨by have:=h.few;simp[Sq.jEw];omega,h.ax,?_⟩;intro x hx;rcases List.mem_append.1 hx with hx | hx
 ·exact h.ak x hx
 simp at hx;subst hx;exact hv
theorem aY.bp {P:Val->Prop}(ws:List Word)(body:PSt->PSt)(hb:∀n st,aY P n st->aY P (n+1) (body st)):∀f n st,aY P n st->aY P (n+f) (bp ws body f st):=by
 intro f
 induction f with
 | zero=>intro n st h;exact h
 | succ f ih =>
  intro n st h;rw[Sq.bp]
  split
  ·exact(ih (n+1) _ (hb n _ (h.same (jQK st)))).mono (by omega)
  exact h.mono (by omega)
theorem jP1 (ws:List Word)(hw:∀x∈ws,jC8 x)(n:Nat)(st:PSt)(h:aY aI n st):aY aI (n+1) (jBK ws st):=(h.same (jIP ws st)).jFj _ (jTh ws st hw)
theorem jM8 (ws:List Word)(n:Nat)(st:PSt)(h:aY aI n st):aY aI (n+1) (jCt ws st):=(h.same (jQ5 ws st)).addItem _
theorem jZ1 (ws:List Word)(n:Nat)(st:PSt)(h:aY aI n st):aY aI (n+1) (jFm ws st):=((h.same (jQ5 ws st)).same (jM7 ws _)).jDM _
theorem jS3 (ws:List Word)(st:PSt):jCZ st (jDo ws st):=((jQ5 ws st).trans (jQZ ws _ _)).trans (jHV ws _)
theorem jS2 (ws:List Word)(hw:∀x∈ws,jC8 x)(n:Nat)(st:PSt)(h:aY aI n st):aY aI (n+1) (jDj ws st):=by
 have h2:=jS3 ws st
 have h4:jCZ st (jFk ws st):=by
  unfold jFk jFP
  split
  ·exact(h2.trans (jQK _)).trans (jHV ws _)
  split
  ·exact(h2.trans (jQK _)).trans (jHV ws _)
  exact h2
 refine(h.same h4).jEw _ ⟨jJW ws _ hw,?_⟩;show aI (jDJ ws st).lit;unfold jDJ
 split
 ·exact jJW ws _ hw
 split
 ·exact jJW ws _ hw
 exact jCQ
theorem jHJ:aY aI 0 st0:=⟨by simp[st0],by simp[st0],by simp[st0]⟩
theorem jVX (ws:List Word)(hw:∀x∈ws,jC8 x)(st:PSt)(h:aY aI 0 st):aY aI (ws.length+2) (jAg ws st):=by
 have h':=h.same (jIZ ws st);unfold jAg
 split
 ·exact((aY.bp ws _ (jZ1 ws) (ws.length+1) 1 _ ((((((h'.act 1).want ws _).table ws).want ws _).same (jQ5 ws _)).want ws _ |>.jDM _)).want ws _).mono (by omega)
 split
 ·exact((aY.bp ws _ (jP1 ws hw) (ws.length+1) 1 _ (jP1 ws hw 0 _ (((((h'.act 2).want ws _).table ws).want ws _).want ws _))).want ws _).mono (by omega)
 split
 ·exact((aY.bp ws _ (jS2 ws hw) (ws.length+1) 1 _ (jS2 ws hw 0 _ (((h'.act 3).table ws).want ws _))).same (jGZ ws _)).mono (by omega)
 split
 ·exact((((h'.act 4).want ws _).table ws).same (jGZ ws _)).mono (by omega)
 split
 ·have h5:=h'.act 5
  have h6:aY aI (ws.length+2) (jBp ws (bx (bn ws st) 5)):=by
   unfold jBp
   split
   ·exact((h5.same (jQK _)).shw 1).mono (by omega)
   split
   ·exact((h5.same (jQK _)).shw 2).mono (by omega)
   split
   ·exact((jM8 ws 0 _ (((h5.same (jQK _)).shw 3).want ws _)).want ws _).mono (by omega)
   exact(aY.bp ws _ (jM8 ws) (ws.length+1) 1 _ (jM8 ws 0 _ (h5.shw 0))).mono (by omega)
  exact((h6.want ws _).table ws).same (jGZ ws _)
 exact(h'.same (jI6 _)).mono (by omega)
def jFU (st:PSt):Prop:=st.aq.length<=2*st.pos+1
theorem jMB (ws:List Word)(st:PSt)(h:st.aq=[]):jFU (jBS ws st):=by
 unfold jBS jFU
 split
 ·have h1:=(jJg ws (8*ws.length+7) 0 (step1 st)).2;have h2:(step1 st).aq=[]:=h;rw[h2] at h1;simp[more] at h1;omega
 rw[h];simp
theorem jPq (ws:List Word)(st:PSt):(jBp ws st).aq=st.aq:=by
 unfold jBp
 split
 ·rfl
 split
 ·rfl
 split
 ·rw[jQn,jI1,jQn];rfl
 unfold jCB;rw[jHr ws _ (jI1 ws),jI1];rfl
theorem jVW (ws:List Word)(st:PSt)(h:st.aq=[]):jFU (jAg ws st):=by
 have h':(bn ws st).aq=[]:=(jG2 ws st).trans h;have hz:∀a:PSt,a.aq=[]->jFU a:=fun a ha=>by unfold jFU;rw[ha];simp
 unfold jAg
 split
 ·refine hz _ ?_;unfold jDc;simp only;rw[jQn,jHr ws _ (jSY ws)]
  show(aK ws _ _).aq=[]
  rw[jQn,jI0,jQn,jQz,jQn];exact h'
 split
 ·refine hz _ ?_;unfold jDf;simp only;rw[jQn,jHr ws _ (jIE ws),jIE,jQn,jQn,jQz,jQn];exact h'
 split
 ·refine jMB ws _ ?_;rw[jHr ws _ (jI8 ws),jI8,jQn,jQz];exact h'
 split
 ·refine jMB ws _ ?_;rw[jQz,jQn];exact h'
 split
 ·refine jMB ws _ ?_;rw[jQz,jQn,jPq];exact h'
 exact hz _ h'
theorem jJY (ha:BA):aY aI 163 (parse ha).2/\(parse ha).2.aq.length<=400:=by
 have h0:aY aI 163 st0/\st0.aq.length<=400:=⟨jHJ.mono (by omega),by simp[st0]⟩;unfold parse
 split
 ·exact h0
 cases h:split ha with
 | none=>exact h0
 | some ws =>
  simp only;obtain⟨h1,h2⟩:=jTV ha ws h
  split
  ·exact h0
  rename_i hs hx;simp at hx;have h3:=jVW ws st0 rfl;unfold jFU at h3;exact⟨(jVX ws h1 st0 jHJ).mono (by omega),by show(jAg ws st0).aq.length<=_;omega⟩
end Sq
namespace Sq
theorem jZX (ws:List Word)(body:PSt->PSt)(hb:∀st,(body st).act=st.act):∀f st,(bp ws body f st).act=st.act:=by
 intro f
 induction f with
 | zero=>intro st;rfl
 | succ f ih =>
  intro st;rw[Sq.bp]
  split
  ·rw[ih,hb];rfl
  rfl
theorem jIQ (ws:List Word)(st:PSt):(jCt ws st).act=st.act:=(jQ5 ws st).act
theorem jXJ (ws:List Word)(st:PSt):(jBp ws st).act=st.act:=by
 unfold jBp
 split
 ·rfl
 split
 ·rfl
 split
 ·rw[(jQZ ws _ _).act,jIQ,(jQZ ws _ _).act];rfl
 unfold jCB;rw[jZX ws _ (jIQ ws),jIQ];rfl
theorem jXI (ws:List Word)(st:PSt):(jBz ws st).act=5:=by
 unfold jBz;rw[(jGZ ws _).act]
 show(bO ws _).act=5
 rw[(jQ5 ws _).act,(jQZ ws _ _).act,jXJ];rfl
theorem qCS (bs:BA):∀(n i:Nat) (r:List UInt8),bs.size-i=n->ByteArray.toList.loop bs i r=r.reverse++bs.data.toList.drop i:=by
 intro n
 induction n with
 | zero =>
  intro i r h;unfold ByteArray.toList.loop;rw[cy (by omega),cD (by simp;omega)];simp
 | succ n ih =>
  intro i r h;unfold ByteArray.toList.loop;have hi:i<bs.data.toList.length:=by simp;omega
  rw[cE (by omega),ih (i+1) _ (by omega),cr hi]
  have:bs.get! i=bs.data.toList[i]:=by
   unfold ByteArray.get!;simp at hi;simp[hi]
  rw[this];simp
theorem jS1 (b:BA):b.toList=b.data.toList:=by
 show ByteArray.toList.loop b 0 []=_;rw[qCS b _ 0 [] rfl];simp
end Sq
section
open Go.RowKit
variable {Z:Nat->Prop}
theorem jQc (h:Sq.Head)(ev cv:Value):(ae h ev cv).toArray=#[.bool h.inner,ev,cv,.int .i64 h.least,.int .i64 h.rows,.string h.sl,.int .i64 h.num]:=rfl
theorem jZq (b:BA):(b.size != 0)=!b.toList.isEmpty:=by
 rw[Sq.jS1];have h:b.data.toList.length=b.size:=by simp
 cases hb:b.data.toList with
 | nil=>rw[hb] at h;rw[<-h];rfl
 | cons x r=>rw[hb] at h;rw[<-h];rfl
theorem jH2 (h:Sq.Head)(ev cv:Value)(w:World)(he:∃a k c,ev=.slice a k c)(hc:∃a k c,cv=.slice a k c) :
  Calls Tryz.prog 45 #[.agg (ae h ev cv).toArray] w fun e w'=>e=.returned (.bool (aw h))/\Below w.heap.size w w':=by
 obtain⟨ea,ek,ec,rfl⟩:=he;obtain⟨ca,ck,cc,rfl⟩:=hc;rw[jQc];have hW:∀o,Below w.heap.size w (w.alloc o):=fun o=>bA
 have HW:=hd hW;clear hW;go_enter Tryz.func45,Tryz.ntmps45;go_wp2;go_ret;exact⟨by unfold aw;rw[jZq];rfl,HW.o _⟩
theorem jL0 (h:Sq.Head)(ea:Option Addr)(ek ec:Nat)(ca:Option Addr)(ck cc:Nat)(w:World) :
  Calls Tryz.prog 83 #[.agg (ae h (.slice ea ek ec) (.slice ca ck cc)).toArray] w fun e w'=>e=.returned (.int .i64 ((if h.inner then ck else ek:Nat):Int))/\Below w.heap.size w w':=by
 rw[jQc];have hW:∀o,Below w.heap.size w (w.alloc o):=fun o=>bA
 have HW:=hd hW;clear hW;obtain⟨hi,hle,hr,hs,hn⟩:=h;cases hi
 ·go_enter Tryz.func83,Tryz.ntmps83;go_wp2;go_ret;exact⟨rfl,HW.o _⟩
 go_enter Tryz.func83,Tryz.ntmps83;go_wp2;go_ret;exact⟨rfl,HW.o _⟩
theorem jWt (f:α->Sq.Head)(p:Int)(cs:List α)(k a:Nat)(h:k<cs.length):jA5 f p (cs.drop k) k a=jA5 f p (cs.drop (k+1)) (k+1) (if(f cs[k]).least<=p then k else a):=by
 rw[cr h,jA5]
theorem jKj (n:Nat)(l:List (Nd n×Value×Value))(p:Int)(h0:Sq.Head)(ev cv:Value)(w:World)(he:∃a k c,ev=.slice a k c)(h:aB Z 0 w cv n l)(hl:l.length<=1000) :
  Calls Tryz.prog 195 #[.agg (ae h0 ev cv).toArray,.int .i64 p] w fun e w'=>e=.returned (.int .i64 (bU (aa n) (l.map Prod.fst) p:Nat))/\Below w.heap.size w w':=by
 obtain⟨eo,en,hh,rfl⟩:=he;obtain⟨ao,hf,rfl⟩:=jQa h.own;rw[jQc];obtain⟨hi,hle,hr,hs,hn⟩:=h0;have hW:Below w.heap.size w (w.alloc (.cells #[.bool hi,.slice eo en hh,.slice ao l.length hf,.int .i64 hle,.int .i64 hr,.string hs,.int .i64 hn] 60)):=bA;have HW:=hd hW;have H:=hd h;have HL:Hid ((l.map Prod.fst).length=l.length):=by show _=_;simp
 clear h hW;go_enter Tryz.func195,Tryz.ntmps195;go_wp2
 go_loop [5,6] (fun at_ i=>∃k a:Nat,1<=k/\k<=l.length+1/\i=.int .i64 k/\a<=l.length/\at_=.int .i64 a/\Hid (bU (aa n) (l.map Prod.fst) p=jA5 (aa n) p ((l.map Prod.fst).drop k) k a)) (fun _ i=>l.length+1-(intOf i).toNat)
 case atStart=>exact⟨1,0,nR,by omega,rfl,zR,rfl,rfl⟩
 case round =>
  obtain⟨k,a,ho,hk,rfl,ha,rfl,hr⟩:=hrel
  by_cases hlt:k<l.length
  ·obtain⟨g,hj,ea,el,ec,ca,cl,cc,hv,hg,d,d5,d6⟩:=(H.o.below HW.o).at k hlt;obtain⟨rfl,-,rfl⟩:=sI hv;have d3:=d.c3;have hc:=jWt (aa n) p (l.map Prod.fst) k a (by rw[HL.o];exact hlt);rw[da] at hc;obtain⟨q,hq⟩:∃x,x=(aa n l[k].1).least:=⟨_,rfl⟩;rw[<-hq] at hc d3;have hb:=hd hc;have i1:¬((l.length:Int)<=(k:Int)):=by omega
   clear hc hq d d5 d6
   by_cases hle:q<=p
   ·have HR:Hid (bU (aa n) (l.map Prod.fst) p=jA5 (aa n) p ((l.map Prod.fst).drop (k+1)) (k+1) k):=by show _=_;rw[hr.o,hb.o,cE hle]
    clear hr hb;go_wp2;go_round
    case rel=>exact⟨k+1,k,by omega,by omega,by go_num,by omega,rfl,HR⟩
    case measure=>simp[intOf];omega
   have HR:Hid (bU (aa n) (l.map Prod.fst) p=jA5 (aa n) p ((l.map Prod.fst).drop (k+1)) (k+1) a):=by show _=_;rw[hr.o,hb.o,cy hle]
   clear hr hb;go_wp2;go_round
   case rel=>exact⟨k+1,a,by omega,by omega,by go_num,by omega,rfl,HR⟩
   case measure=>simp[intOf];omega
  have HR:Hid (bU (aa n) (l.map Prod.fst) p=a):=by show _=_;rw[hr.o,cD (by rw[HL.o];omega)];rfl
  clear hr;go_wp2;go_ret;exact⟨by rw[HR.o];rfl,HW.o⟩
structure bk (tb:Nat)(w:World)(tr:Trl):Prop where
 row:∃v,w.heap[tb]?=some (.cells #[.bool tr.lost,v] 74)/\w.ownsRow (tb+1) 3 1 v tr.bc.length (tr.bc.map (Value.int .i64))
 few:tr.bc.length<=100000
theorem bk.lt {tr:Trl}(h:bk tb w tr):tb<w.heap.size:=by obtain⟨v,h1,_⟩:=h.row;exact jQe h1
theorem bk.below {tr:Trl}(h:bk tb w tr)(hb:Below w.heap.size w w'):bk tb w' tr:=by
 have ha:=h.lt;obtain⟨v,h1,h2⟩:=h.row;exact⟨⟨v,by rw[hb.block tb ha];exact h1,jQh h2 hb⟩,h.few⟩
structure aA (tb:Nat)(w w':World):Prop where
 below:Below tb w w'
 bC:∀(g:Nat) (c:Array Value) (e:TypeId) (fr:Nat×Nat),w.heap[g]?=some (Obj.cells c e fr)->e≠3->e≠74->w'.heap[g]?=w.heap[g]?
theorem aA.refl (tb:Nat)(w:World):aA tb w w:=⟨bR,fun _ _ _ _ _ _ _=>rfl⟩
theorem aA.trans {ha:World}(h:aA tb w w')(k:aA tb w' ha):aA tb w ha :=
 ⟨h.below.trans k.below,fun g c e fr hg h1 h2=>(k.bC g c e fr ((h.bC g c e fr hg h1 h2).trans hg) h1 h2).trans (h.bC g c e fr hg h1 h2)⟩
theorem aA.of (h:Below w.heap.size w w')(ht:tb<=w.heap.size):aA tb w w' :=
 ⟨h.mono ht,fun g _ _ _ hg _ _=>h.block g (jQe hg)⟩
theorem ag.bX {t:Nd n}(h:ag Z w n t ev cv)(k:aA tb w w'):ag Z w' n t ev cv :=
 h.same fun g c e fr hg he=>k.bC g c e fr hg (by rcases he with rfl | rfl<;>decide) (by rcases he with rfl | rfl<;>decide)
theorem aM.bX {es:List Sq.Ent}(h:aM B w v es)(k:aA tb w w'):aM B w' v es:=by
 refine⟨h.1,?_⟩;rcases h.2 with h0 | ⟨g,cap,cur,hv,hbg,hh,hn,hm,hc,ht⟩
 ·exact Or.inl h0
 exact Or.inr ⟨g,cap,cur,hv,hbg,(k.bC g _ _ _ hh (by decide) (by decide)).trans hh,hn,hm,hc,ht⟩
theorem aB.bX {l:List (Nd n×Value×Value)}(h:aB Z B w v n l)(k:aA tb w w'):aB Z B w' v n l:=by
 refine⟨⟨h.own.1,?_⟩,fun x hx=>(h.each x hx).bX k⟩;rcases h.own.2 with h0 | ⟨g,cap,cur,hv,hbg,hh,hn,hm,hc,ht⟩
 ·exact Or.inl h0
 exact Or.inr ⟨g,cap,cur,hv,hbg,(k.bC g _ _ _ hh (by decide) (by decide)).trans hh,hn,hm,hc,ht⟩
theorem jWD (l:List Int)(x:Int)(k:Nat)(h:k<l.length):(l.drop k).any (·==x)=(l[k]==x || (l.drop (k+1)).any (·==x)):=by
 rw[cr h];rfl
theorem jK6 (tb:Nat)(tr:Trl)(h:Sq.Head)(ev cv:Value)(w:World)(he:∃a k c,ev=.slice a k c)(hc:∃a k c,cv=.slice a k c)(ht:bk tb w tr) :
  Calls Tryz.prog 55 #[.pointer (some ⟨tb,0,none⟩),.agg (ae h ev cv).toArray] w fun e w'=>e=.returned (.bool (jAt tr h))/\Below w.heap.size w w':=by
 obtain⟨ea,ek,ec,rfl⟩:=he;obtain⟨ca,ck,cc,rfl⟩:=hc;rw[jQc];obtain⟨hi,hle,hr,hs,hn⟩:=h;obtain⟨lost,bc⟩:=tr;have hf:=ht.few;have hu:=ht.lt;obtain⟨v,hb,hz⟩:=ht.row;simp only at hb hz hf;obtain⟨ao,cap,rfl⟩:=jQa hz;have hW:Below w.heap.size w (w.alloc (.cells #[.bool hi,.slice ea ek ec,.slice ca ck cc,.int .i64 hle,.int .i64 hr,.string hs,.int .i64 hn] 60)):=bA;have c1:w.cell? ⟨tb,1,none⟩=some (.slice ao bc.length cap):=by rw[jQb hb];rfl
 have HO:=hd (jQh hz hW);have HW:=hd hW;have HT:Hid (jAt ⟨lost,bc⟩ ⟨hi,hle,hr,hs,hn⟩=bc.any (·==hn)):=rfl;rw[HT.o];clear hb hz hW ht HT;obtain⟨W,hA⟩:∃W,W=w.alloc (.cells #[.bool hi,.slice ea ek ec,.slice ca ck cc,.int .i64 hle,.int .i64 hr,.string hs,.int .i64 hn] 60):=⟨_,rfl⟩;have hm:W.heap.size=w.heap.size+1:=by rw[hA];exact jQr w _
 have a6:W.cell? ⟨w.heap.size,6,none⟩=some (.int .i64 hn):=by rw[jQb (show W.heap[w.heap.size]?=_ from by rw[hA];exact jQi w _)];rfl
 have k1:W.cell? ⟨tb,1,none⟩=some (.slice ao bc.length cap):=by rw[hA];exact(HW.o.cell (p:=⟨tb,1,none⟩) hu).trans c1
 rw[<-hA] at HO HW;have HS:=hd hm;clear hm c1;go_enter Tryz.func55,Tryz.ntmps55;go_wp2;rw[<-hA];clear hA
 go_loopw [5] (fun i wr=>∃k:Nat,k<=bc.length/\i=.int .i64 k/\Hid (bc.any (·==hn)=(bc.drop k).any (·==hn))/\Below (w.heap.size+1) W wr) (fun i _=>bc.length-(intOf i).toNat)
 case atStart=>exact⟨0,zR,rfl,rfl,bR⟩
 case round =>
  obtain⟨k,hk,rfl,hB,hb⟩:=hrel;have b6:wr.cell? ⟨w.heap.size,6,none⟩=some (.int .i64 hn):=(hb.cell (p:=⟨w.heap.size,6,none⟩) (by simp)).trans a6;have b1:wr.cell? ⟨tb,1,none⟩=some (.slice ao bc.length cap):=(hb.cell (p:=⟨tb,1,none⟩) (by show tb<_;omega)).trans k1;have hy:w.heap.size<wr.heap.size:=by have:=hb.size;rw[HS.o] at this;omega
  have hw:tb<wr.heap.size:=by omega
  have ho:Below w.heap.size w wr:=HW.o.trans (hb.mono (by omega));have hj:=hd ho;have hp:=hb.size;rw[HS.o] at hp;have hl:Hid (wr.ownsRow (tb+1) 3 1 (.slice ao bc.length cap) bc.length (bc.map (Value.int .i64))):=jQh HO.o (by rw[HS.o];exact hb);have HB:=hd hb;clear hb ho hp
  by_cases hltk:k<bc.length
  ·obtain⟨g,hC,hv,-,hg⟩:=hl.o.form (by omega);obtain⟨rfl,-,rfl⟩:=sI hv;have c0:=hl.o.cells (g:=g) rfl k (.int .i64 bc[k]) (by simp[hltk]);rw[jFp,df] at c0;have hh:=jWD bc hn k hltk;obtain⟨q,hq⟩:∃x,x=bc[k]:=⟨_,rfl⟩;rw[<-hq] at hh c0;have ha:=hd hh;have i1:¬((bc.length:Int)<=(k:Int)):=by omega
   clear hh hq;cases hx:q==hn
   ·have HR:Hid (bc.any (·==hn)=(bc.drop (k+1)).any (·==hn)):=by show _=_;rw[hB.o,ha.o,hx];rfl
    clear hB ha;go_wp2
    go_region
    all_goals(try go_wp2)
    go_roundw;exact⟨k+1,by omega,by go_num,HR,cB HB.o⟩;simp[intOf];omega
   have HR:Hid (bc.any (·==hn)=true):=by show _=_;rw[hB.o,ha.o,hx];rfl
   clear hB ha;go_wp2
   go_region
   all_goals(try go_wp2)
   go_ret;exact⟨by rw[HR.o];rfl,cB hj.o⟩
  have HR:Hid (bc.any (·==hn)=false):=by show _=_;rw[hB.o,cD (by omega)];rfl
  clear hB;go_wp2;go_ret;exact⟨by rw[HR.o];rfl,hj.o⟩
end
namespace Sq
def itoa (n:Int):BA:=⟨(Lib.itoa n).toArray⟩
def jGg:BA:=⟨#[59]⟩
def jJv:BA:=⟨#[33]⟩
def jEh:BA:=⟨#[39]⟩
def jAH (n:Int):BA:=itoa n++jGg
def jGS (e:Int):BA:=jJv++itoa e
def written (v:Val):BA:=if v.kind==1 then jEh++v.text++jEh else itoa v.number
def jFL (v:Val):Prop:=-100000000000<=v.number/\v.number<=100000000000/\v.text.size<=1000
def jD9 (row:List Val):Prop:=∀v∈row,jFL v
def jGn (t:Term):Prop:=jFL t.lit
def jKq (s:bE):Prop:=jGn s.first/\jGn s.second
def numOf (sign:BA)(x y:Int):Int:=if sign.toList==[45] then x-y else x+y
def result (cols:List Col)(row:List Val)(s:bE):Val×Bool :=
 if s.sign.toList.isEmpty then(valueOf cols row s.first,true)
 else if numOf s.sign (valueOf cols row s.first).number (valueOf cols row s.second).number < -2147483648 then(jDY,false)
 else if 2147483647<numOf s.sign (valueOf cols row s.first).number (valueOf cols row s.second).number then(jDY,false)
 else(⟨0,numOf s.sign (valueOf cols row s.first).number (valueOf cols row s.second).number,ar⟩,true)
def jAA (cols:List Col)(ha row:List Val)(s:bE):List Val:=if find cols s.column<0 then row else row.set (find cols s.column).toNat (result cols ha s).1
def jAn (cols:List Col)(ha:List Val):List bE->List Val->List Val×Bool
 | [],row=>(row,true)
 | s::r,row=>if(result cols ha s).2 then jAn cols ha r (jAA cols ha row s) else([],false)
def assigned (cols:List Col)(ha:List Val)(ak:List bE):List Val×Bool:=jAn cols ha ak ha
def jAd (cols:List Col)(ak:List bE):List (List Val)->List (List Val)->Option (List (List Val))
 | [],acc=>some acc
 | r::q,acc=>if(assigned cols r ak).2 then jAd cols ak q (acc++[(assigned cols r ak).1]) else none
def jDH (cols:List Col):List Col->Int->Bool
 | [],_=>false
 | c::r,i=>if find cols c.name != i then true else jDH cols r (i+1)
def jEe (cols:List Col):Bool:=jDH cols cols 0
def jEz:List (List UInt8)->List UInt8
 | []=>[]
 | x::r=>x++r.flatMap fun y=>44::y
def jBV (row:List Val)(k:Int):Val:=if k<0 then jDY else(row[k.toNat]?).getD jDY
def jA4 (row:List Val)(bc:List Int):List UInt8:=jEz (bc.map fun k=>(written (jBV row k)).data.toList)
def jBR (bc:List Int)(rows:List (List Val)):List UInt8:=rows.flatMap fun r=>jA4 r bc++[59]
def jFs (bc:List Int)(row:List Val):Int:=(bc.map fun k=>(jBV row k).number).sum
def jCx (bc:List Int)(rows:List (List Val)):Int:=(rows.map (jFs bc)).sum
def jBr (cols:List Col)(items:List BA):List Int:=items.map (find cols)
def jDX (n:Nat):List Int:=(List.range n).map fun k:Nat=>(k:Int)
def jEN (cols:List Col)(rows:List (List Val))(st:PSt):BA :=
 if st.shw==2 then jAH rows.length
 else if st.shw==3 then itoa (jCx (jBr cols st.items) rows)++jGg
 else if st.shw==1 then⟨(jBR (jDX cols.length) rows).toArray⟩
 else⟨(jBR (jBr cols st.items) rows).toArray⟩
def jFH (cols:List Col)(rows:List (List Val))(l:List bd):List (List Val):=rows.filter fun r=>meets cols r l
end Sq
structure Sq.Span where
 lo:Int
 hi:Int
structure Sq.bS where
 yes:Sq.Span
 no:Sq.Span
namespace Sq
def jAG:Span:=⟨-2147483648,2147483647⟩
def jBZ (s:Span):Bool:=Decidable.decide (s.lo<=s.hi)
def jEH (a b:Span):Span:=⟨if a.lo<b.lo then b.lo else a.lo,if b.hi<a.hi then b.hi else a.hi⟩
def jBP (a b:Span):Span:=if jBZ a then(if jBZ b then⟨if b.lo<a.lo then b.lo else a.lo,if a.hi<b.hi then b.hi else a.hi⟩ else a) else b
def jA8:bS:=⟨jAG,jAG⟩
def jD2 (l:List bS):bS:=l.getLast?.getD jA8
def jDC (l:List bS)(op:BA):List bS :=
 if op.toList==[110,111,116] then l.dropLast++[⟨(jD2 l).no,(jD2 l).yes⟩]
 else if op.toList==[97,110,100] then l.dropLast.dropLast++[⟨jEH (jD2 l.dropLast).yes (jD2 l).yes,jBP (jD2 l.dropLast).no (jD2 l).no⟩]
 else l.dropLast.dropLast++[⟨jBP (jD2 l.dropLast).yes (jD2 l).yes,jEH (jD2 l.dropLast).no (jD2 l).no⟩]
def aW (op:BA)(n:Int):Span :=
 if op.toList==[61] then⟨n,n⟩
 else if op.toList==[60] then⟨-2147483648,n-1⟩
 else if op.toList==[60,61] then⟨-2147483648,n⟩
 else if op.toList==[62] then⟨n+1,2147483647⟩
 else if op.toList==[62,61] then⟨n,2147483647⟩
 else jAG
def jMe:BA:=⟨#[61]⟩
def jMf:BA:=⟨#[60,62]⟩
def jIf:BA:=⟨#[60]⟩
def jIe:BA:=⟨#[60,61]⟩
def jId:BA:=⟨#[62]⟩
def jIc:BA:=⟨#[62,61]⟩
def jAE (op:BA):BA :=
 if op.toList==[60] then jId
 else if op.toList==[60,61] then jIc
 else if op.toList==[62] then jIf
 else if op.toList==[62,61] then jIe
 else op
def jAr (op:BA):BA :=
 if op.toList==[61] then jMf
 else if op.toList==[60,62] then jMe
 else if op.toList==[60] then jIc
 else if op.toList==[60,61] then jId
 else if op.toList==[62] then jIe
 else jIf
def jB9 (op:BA)(n:Int):bS:=⟨aW op n,aW (jAr op) n⟩
def jDr (cols:List Col)(t:Term):Bool:=!t.column.toList.isEmpty&&(find cols t.column==0)
def jC7 (t:Term):Bool:=t.column.toList.isEmpty&&(t.lit.kind==0)
def jDh (cols:List Col)(s:bd):bS :=
 if jDr cols s.left&&jC7 s.right then jB9 s.op s.right.lit.number
 else if jC7 s.left&&jDr cols s.right then jB9 (jAE s.op) s.left.lit.number
 else jA8
def jEb (cols:List Col)(l:List bS)(s:bd):List bS:=if jAf s.op then l++[jDh cols s] else jDC l s.op
def jBn (cols:List Col)(aq:List bd):Span:=(jD2 (aq.foldl (jEb cols) [])).yes
def inS (s:Span)(k:Int):Prop:=s.lo<=k/\k<=s.hi
def okS (k:Int)(b:Bool)(s:bS):Prop:=(b=true->inS s.yes k)/\(b=false->inS s.no k)
theorem jVw {k:Int}(h0:-2147483648<=k)(h1:k<=2147483647):inS jAG k:=⟨h0,h1⟩
theorem jVt {k:Int}(h0:-2147483648<=k)(h1:k<=2147483647)(b:Bool):okS k b jA8:=⟨fun _=>jVw h0 h1,fun _=>jVw h0 h1⟩
theorem jVa {a b:Span}{k:Int}(h:inS a k)(g:inS b k):inS (jEH a b) k:=by
 unfold inS jEH at *
 dsimp only at *
 constructor<;>split<;>omega
theorem jLB {a b:Span}{k:Int}(h:inS a k\/inS b k):inS (jBP a b) k:=by
 unfold inS jBP jBZ at *
 by_cases ha:a.lo<=a.hi
 ·rw[decide_eq_true ha,cE rfl]
  by_cases hb:b.lo<=b.hi
  ·rw[decide_eq_true hb,cE rfl]
   dsimp only
   constructor<;>split<;>omega
  rw[decide_eq_false hb,cy (by simp)];omega
 rw[decide_eq_false ha,cy (by simp)];omega
def jE2 (k:Int)(p:List Bool)(q:List bS):Prop:=∃l:List (Bool×bS),p=l.map Prod.fst/\q=l.map Prod.snd/\∀x∈l,okS k x.1 x.2
theorem jE2.push {k:Int}{p:List Bool}{q:List bS}(h:jE2 k p q){b:Bool}{s:bS}(hs:okS k b s):jE2 k (p++[b]) (q++[s]):=by
 obtain⟨l,rfl,rfl,h3⟩:=h;refine⟨l++[(b,s)],by simp,by simp,fun x hx=>?_⟩;rcases List.mem_append.1 hx with hx | hx
 ·exact h3 x hx
 rw[dD] at hx;subst hx;exact hs
theorem jE2.pop {k:Int}{p:List Bool}{q:List bS}(h:jE2 k p q)(h0:-2147483648<=k)(h1:k<=2147483647):okS k (jEE p) (jD2 q)/\jE2 k p.dropLast q.dropLast:=by
 obtain⟨l,rfl,rfl,h3⟩:=h;refine⟨?_,l.dropLast,by rw[List.map_dropLast],by rw[List.map_dropLast],fun x hx=>h3 x ((List.dropLast_sublist l).subset hx)⟩;unfold jEE jD2;rw[List.getLast?_map,List.getLast?_map];cases hl:l.getLast? with
 | none=>exact jVt h0 h1 _
 | some x=>exact h3 x (List.mem_of_getLast? hl)
theorem jE2.join {k:Int}{p:List Bool}{q:List bS}(h:jE2 k p q)(h0:-2147483648<=k)(h1:k<=2147483647)(op:BA):jE2 k (jD5 p op) (jDC q op):=by
 obtain⟨g1,g2⟩:=h.pop h0 h1;obtain⟨g3,g4⟩:=g2.pop h0 h1;unfold jD5 jDC
 split
 ·refine g2.push ?_;cases hb:jEE p with
  | true=>exact⟨fun h=>by simp at h,fun _=>g1.1 hb⟩
  | false=>exact⟨fun _=>g1.2 hb,fun h=>by simp at h⟩
 split
 ·refine g4.push ?_;cases hb:jEE p.dropLast with
  | true=>cases hc:jEE p with
   | true=>exact⟨fun _=>jVa (g3.1 hb) (g1.1 hc),fun h=>by simp at h⟩
   | false=>exact⟨fun h=>by simp at h,fun _=>jLB (Or.inr (g1.2 hc))⟩
  | false=>exact⟨fun h=>by simp at h,fun _=>jLB (Or.inl (g3.2 hb))⟩
 refine g4.push ?_;cases hb:jEE p.dropLast with
 | true=>exact⟨fun _=>jLB (Or.inl (g3.1 hb)),fun h=>by simp at h⟩
 | false=>cases hc:jEE p with
  | true=>exact⟨fun _=>jLB (Or.inr (g1.1 hc)),fun h=>by simp at h⟩
  | false=>exact⟨fun h=>by simp at h,fun _=>jVa (g3.2 hb) (g1.2 hc)⟩
def jCr (a b:Int):Int:=if a=b then 0 else if a<b then -1 else 1
theorem jPS (a b:Int)(x y:BA):compare ⟨0,a,x⟩ ⟨0,b,y⟩=jCr a b:=by
 unfold compare jCr jE3
 by_cases h:a=b
 ·subst h;simp
 by_cases h2:a<b<;>simp[h,h2]
theorem qCG:jMe.toList=[61]:=by decide +kernel
theorem qCF:jMf.toList=[60,62]:=by decide +kernel
theorem jVp:jIf.toList=[60]:=by decide +kernel
theorem jVq:jIe.toList=[60,61]:=by decide +kernel
theorem jVr:jId.toList=[62]:=by decide +kernel
theorem jVs:jIc.toList=[62,61]:=by decide +kernel
theorem jMl {op:BA}(h:jAf op=true):op.toList=[61]\/op.toList=[60,62]\/op.toList=[60]\/op.toList=[60,61]\/op.toList=[62]\/op.toList=[62,61]:=by
 unfold jAf jEW at h;rw[<-jS1] at h;simpa using h
theorem jOy {a b:Int}(h:a<b):jCr a b=-1:=by unfold jCr;rw[cy (by omega),cE h]
theorem jOz {a b:Int}(h:b<a):jCr a b=1:=by unfold jCr;rw[cy (by omega),cy (by omega)]
theorem jOA (a:Int):jCr a a=0:=by unfold jCr;rw[cE rfl]
theorem jU4 (op:BA)(k n:Int)(h0:-2147483648<=k)(h1:k<=2147483647)(ha:jAf op=true):okS k (holds op (jCr k n)) (jB9 op n):=by
 have hc:(k<n/\jCr k n=-1)\/(k=n/\jCr k n=0)\/(n<k/\jCr k n=1):=by
  rcases Int.lt_trichotomy k n with h | h | h
  ·exact Or.inl ⟨h,jOy h⟩
  ·subst h;exact Or.inr (Or.inl ⟨rfl,jOA k⟩)
  exact Or.inr (Or.inr ⟨h,jOz h⟩)
 unfold okS jB9;rcases jMl ha with h | h | h | h | h | h
 ·have e1:aW op n=⟨n,n⟩:=by unfold aW;rw[h];rfl
  have e2:aW (jAr op) n=jAG:=by have ec:jAr op=jMf:=(by unfold jAr;rw[h];rfl);rw[ec];unfold aW;rw[qCF];rfl
  have e3:holds op (jCr k n)=(jCr k n==0):=by unfold holds;rw[h];rfl
  rw[e1,e2,e3];rcases hc with⟨g,e⟩ | ⟨g,e⟩ | ⟨g,e⟩<;>rw[e]<;>refine⟨fun q=>?_,fun q=>?_⟩<;>first | (exfalso;simp at q;done) | (unfold inS jAG;constructor<;>dsimp only<;>omega) | (unfold inS;constructor<;>dsimp only<;>omega)
 ·have e1:aW op n=jAG:=by unfold aW;rw[h];rfl
  have e2:aW (jAr op) n=⟨n,n⟩:=by have ec:jAr op=jMe:=(by unfold jAr;rw[h];rfl);rw[ec];unfold aW;rw[qCG];rfl
  have e3:holds op (jCr k n)=(jCr k n != 0):=by unfold holds;rw[h];rfl
  rw[e1,e2,e3];rcases hc with⟨g,e⟩ | ⟨g,e⟩ | ⟨g,e⟩<;>rw[e]<;>refine⟨fun q=>?_,fun q=>?_⟩<;>first | (exfalso;simp at q;done) | (unfold inS jAG;constructor<;>dsimp only<;>omega) | (unfold inS;constructor<;>dsimp only<;>omega)
 ·have e1:aW op n=⟨-2147483648,n-1⟩:=by unfold aW;rw[h];rfl
  have e2:aW (jAr op) n=⟨n,2147483647⟩:=by have ec:jAr op=jIc:=(by unfold jAr;rw[h];rfl);rw[ec];unfold aW;rw[jVs];rfl
  have e3:holds op (jCr k n)=Decidable.decide (jCr k n<0):=by unfold holds;rw[h];rfl
  rw[e1,e2,e3];rcases hc with⟨g,e⟩ | ⟨g,e⟩ | ⟨g,e⟩<;>rw[e]<;>refine⟨fun q=>?_,fun q=>?_⟩<;>first | (exfalso;simp at q;done) | (unfold inS jAG;constructor<;>dsimp only<;>omega) | (unfold inS;constructor<;>dsimp only<;>omega)
 ·have e1:aW op n=⟨-2147483648,n⟩:=by unfold aW;rw[h];rfl
  have e2:aW (jAr op) n=⟨n+1,2147483647⟩:=by have ec:jAr op=jId:=(by unfold jAr;rw[h];rfl);rw[ec];unfold aW;rw[jVr];rfl
  have e3:holds op (jCr k n)=Decidable.decide (jCr k n<=0):=by unfold holds;rw[h];rfl
  rw[e1,e2,e3];rcases hc with⟨g,e⟩ | ⟨g,e⟩ | ⟨g,e⟩<;>rw[e]<;>refine⟨fun q=>?_,fun q=>?_⟩<;>first | (exfalso;simp at q;done) | (unfold inS jAG;constructor<;>dsimp only<;>omega) | (unfold inS;constructor<;>dsimp only<;>omega)
 ·have e1:aW op n=⟨n+1,2147483647⟩:=by unfold aW;rw[h];rfl
  have e2:aW (jAr op) n=⟨-2147483648,n⟩:=by have ec:jAr op=jIe:=(by unfold jAr;rw[h];rfl);rw[ec];unfold aW;rw[jVq];rfl
  have e3:holds op (jCr k n)=Decidable.decide (0<jCr k n):=by unfold holds;rw[h];rfl
  rw[e1,e2,e3];rcases hc with⟨g,e⟩ | ⟨g,e⟩ | ⟨g,e⟩<;>rw[e]<;>refine⟨fun q=>?_,fun q=>?_⟩<;>first | (exfalso;simp at q;done) | (unfold inS jAG;constructor<;>dsimp only<;>omega) | (unfold inS;constructor<;>dsimp only<;>omega)
 have e1:aW op n=⟨n,2147483647⟩:=by unfold aW;rw[h];rfl
 have e2:aW (jAr op) n=⟨-2147483648,n-1⟩:=by have ec:jAr op=jIf:=(by unfold jAr;rw[h];rfl);rw[ec];unfold aW;rw[jVp];rfl
 have e3:holds op (jCr k n)=Decidable.decide (0<=jCr k n):=by unfold holds;rw[h];rfl
 rw[e1,e2,e3];rcases hc with⟨g,e⟩ | ⟨g,e⟩ | ⟨g,e⟩<;>rw[e]<;>refine⟨fun q=>?_,fun q=>?_⟩<;>first | (exfalso;simp at q;done) | (unfold inS jAG;constructor<;>dsimp only<;>omega) | (unfold inS;constructor<;>dsimp only<;>omega)
theorem jRe {op:BA}(h:jAf op=true):jAf (jAE op)=true/\∀a b:Int,holds op (jCr a b)=holds (jAE op) (jCr b a):=by
 have hc:∀a b:Int,(jCr a b=-1/\jCr b a=1)\/(jCr a b=0/\jCr b a=0)\/(jCr a b=1/\jCr b a=-1):=by
  intro a b;rcases Int.lt_trichotomy a b with h | h | h
  ·exact Or.inl ⟨jOy h,jOz h⟩
  ·subst h;exact Or.inr (Or.inl ⟨jOA a,jOA a⟩)
  exact Or.inr (Or.inr ⟨jOz h,jOy h⟩)
 rcases jMl h with g | g | g | g | g | g
 ·have e:jAE op=op:=by unfold jAE;rw[g];rfl
  rw[e];refine⟨h,fun a b=>?_⟩;unfold holds;rw[g];rcases hc a b with⟨e1,e2⟩ | ⟨e1,e2⟩ | ⟨e1,e2⟩<;>rw[e1,e2]<;>rfl
 ·have e:jAE op=op:=by unfold jAE;rw[g];rfl
  rw[e];refine⟨h,fun a b=>?_⟩;unfold holds;rw[g];rcases hc a b with⟨e1,e2⟩ | ⟨e1,e2⟩ | ⟨e1,e2⟩<;>rw[e1,e2]<;>rfl
 ·have e:jAE op=jId:=by unfold jAE;rw[g];rfl
  rw[e];refine⟨by decide +kernel,fun a b=>?_⟩;unfold holds;rw[g,jVr];rcases hc a b with⟨e1,e2⟩ | ⟨e1,e2⟩ | ⟨e1,e2⟩<;>rw[e1,e2]<;>rfl
 ·have e:jAE op=jIc:=by unfold jAE;rw[g];rfl
  rw[e];refine⟨by decide +kernel,fun a b=>?_⟩;unfold holds;rw[g,jVs];rcases hc a b with⟨e1,e2⟩ | ⟨e1,e2⟩ | ⟨e1,e2⟩<;>rw[e1,e2]<;>rfl
 ·have e:jAE op=jIf:=by unfold jAE;rw[g];rfl
  rw[e];refine⟨by decide +kernel,fun a b=>?_⟩;unfold holds;rw[g,jVp];rcases hc a b with⟨e1,e2⟩ | ⟨e1,e2⟩ | ⟨e1,e2⟩<;>rw[e1,e2]<;>rfl
 have e:jAE op=jIe:=by unfold jAE;rw[g];rfl
 rw[e];refine⟨by decide +kernel,fun a b=>?_⟩;unfold holds;rw[g,jVq];rcases hc a b with⟨e1,e2⟩ | ⟨e1,e2⟩ | ⟨e1,e2⟩<;>rw[e1,e2]<;>rfl
theorem jSA {cols:List Col}{t:Term}{k:Int}{x:BA}{r:List Val}(h:jDr cols t=true):valueOf cols (⟨0,k,x⟩::r) t=⟨0,k,x⟩:=by
 unfold jDr at h;rw[cP] at h;obtain⟨h1,h2⟩:=h;have h3:find cols t.column=0:=by simpa using h2
 unfold valueOf cellOf;rw[cy (by simpa using h1),h3,cy (by decide)];rfl
theorem jSz {cols:List Col}{t:Term}{row:List Val}(h:jC7 t=true):∃x,valueOf cols row t=⟨0,t.lit.number,x⟩:=by
 unfold jC7 at h;rw[cP] at h;obtain⟨h1,h2⟩:=h;have h3:t.lit.kind=0:=by simpa using h2
 refine⟨t.lit.text,?_⟩;unfold valueOf;rw[cE h1];obtain⟨col,⟨kd,nu,te⟩⟩:=t
 dsimp only at h3
 subst h3;rfl
theorem qB7 (cols:List Col)(s:bd)(k:Int)(x:BA)(r:List Val)(h0:-2147483648<=k)(h1:k<=2147483647)(ha:jAf s.op=true):okS k (jCO cols (⟨0,k,x⟩::r) s) (jDh cols s):=by
 unfold jDh
 split
 ·rename_i h;rw[cP] at h;obtain⟨y,hy⟩:=jSz (cols:=cols) (row:=⟨0,k,x⟩::r) h.2;unfold jCO;rw[jSA h.1,hy,jPS];exact jU4 _ _ _ h0 h1 ha
 split
 ·rename_i h;rw[cP] at h;obtain⟨y,hy⟩:=jSz (cols:=cols) (row:=⟨0,k,x⟩::r) h.1;unfold jCO;rw[jSA h.2,hy,jPS,(jRe ha).2];exact jU4 _ _ _ h0 h1 (jRe ha).1
 exact jVt h0 h1 _
theorem jYY (cols:List Col)(aq:List bd)(k:Int)(x:BA)(r:List Val)(h0:-2147483648<=k)(h1:k<=2147483647)(h:meets cols (⟨0,k,x⟩::r) aq=true):inS (jBn cols aq) k:=by
 have hp:∀(l:List bd) (p:List Bool) (q:List bS),jE2 k p q->jE2 k (l.foldl (jEq cols (⟨0,k,x⟩::r)) p) (l.foldl (jEb cols) q):=by
  intro l
  induction l with
  | nil=>intro p q h;exact h
  | cons s l ih =>
   intro p q h;refine ih _ _ ?_;unfold jEq jEb
   by_cases hc:jAf s.op=true
   ·rw[cE hc,cE hc];exact h.push (qB7 cols s k x r h0 h1 hc)
   rw[cy hc,cy hc];exact h.join h0 h1 _
 have h2:=((hp aq [] [] ⟨[],rfl,rfl,fun y hy=>by cases hy⟩).pop h0 h1).1;unfold meets at h;unfold jBn
 split at h
 ·rename_i he;cases aq with
  | nil=>exact⟨h0,h1⟩
  | cons s l=>simp at he
 exact h2.1 h
end Sq
structure Sq.bY where
 jAP:BA
 makes:Bool
 tab:Sq.bQ
 puts:List (List Sq.Val)
 cuts:List Int
namespace Sq
def jCh:bQ:=⟨0,ar,[]⟩
def aE (e:Int):bY:=⟨jGS e,false,jCh,[],[]⟩
def jBE (n:BA):List bQ->Option bQ
 | []=>none
 | t::r=>if t.name.toList==n.toList then some t else jBE n r
def jCi (m:Int)(l:List bQ):Int:=l.foldl (fun m t=>if m<t.number then t.number else m) m
def jBh (b:Bool)(tr:Trl):Trl:=⟨tr.lost || b,tr.bc⟩
def jBI (e:Ent):Option bQ:=(jIu e).bind fun t=>if 1<=t.number/\t.number<=5 then some t else none
def bH (X:aj)(tr:Trl):List bQ×Trl :=
 ((X.jE4 (placeOf 0 (-2147483648)) (placeOf 0 2147483647) tr).1.filterMap jBI,jBh ((X.jE4 (placeOf 0 (-2147483648)) (placeOf 0 2147483647) tr).1.any fun e=>(jBI e).isNone) (X.jE4 (placeOf 0 (-2147483648)) (placeOf 0 2147483647) tr).2)
def jFh (X:aj)(t:bQ)(lo hi:Int)(tr:Trl):List (List Val)×Trl :=
 ((X.jE4 (placeOf t.number lo) (placeOf t.number hi) tr).1.filterMap (rowOf t.cols),jBh ((X.jE4 (placeOf t.number lo) (placeOf t.number hi) tr).1.any fun e=>(rowOf t.cols e).isNone) (X.jE4 (placeOf t.number lo) (placeOf t.number hi) tr).2)
def jAe (X:aj)(t:bQ)(aq:List bd)(tr:Trl):List (List Val)×Trl :=
 if jBZ (jBn t.cols aq) then jFh X t (jBn t.cols aq).lo (jBn t.cols aq).hi tr else([],tr)
def jCP (ts:List bQ)(size:Int)(st:PSt):bY :=
 if(jBE st.table ts).isSome then aE 5
 else if 4<st.cols.length then aE 6
 else if jEe st.cols then aE 5
 else if 5<=ts.length then aE 10
 else if 60<=size then aE 10
 else⟨jAH 0,true,⟨jCi 0 ts+1,st.table,st.cols⟩,[],[]⟩
def jDe (has:Bool)(size:Int)(t:bQ)(ax:List Val):bY :=
 if has then aE 8 else if 60<=size then aE 10 else⟨jAH 1,false,t,[ax],[]⟩
def jCR (X:aj)(t:bQ)(ax:List Val)(tr:Trl):bY×Trl :=
 (jDe (X.has (placeOf t.number (keyOf ax)) tr).1 X.head.rows t ax,(X.has (placeOf t.number (keyOf ax)) tr).2)
def jHL (t:bQ):Option (List (List Val))->bY
 | some puts=>⟨jAH puts.length,false,t,puts,[]⟩
 | none=>aE 9
def jCX (t:bQ)(rows:List (List Val))(ak:List bE):bY:=jHL t (jAd t.cols ak rows [])
def jEF (t:bQ)(rows:List (List Val)):bY:=⟨jAH rows.length,false,t,[],rows.map keyOf⟩
def jEx (t:bQ)(rows:List (List Val))(st:PSt):bY :=
 if st.act==3 then jCX t rows st.ak
 else if st.act==4 then jEF t rows
 else⟨jEN t.cols rows st,false,jCh,[],[]⟩
def jAO (X:aj)(t:bQ)(st:PSt)(tr:Trl):bY×Trl :=
 if check t.cols st != 0 then(aE (check t.cols st),tr)
 else if st.act==2 then jCR X t st.ax tr
 else(jEx t (jFH t.cols (jAe X t st.aq tr).1 st.aq) st,(jAe X t st.aq tr).2)
def jCe (X:aj)(st:PSt)(ts:List bQ)(tr:Trl):bY×Trl :=
 if st.act==1 then(jCP ts X.head.rows st,tr)
 else match jBE st.table ts with
  | some t=>jAO X t st tr
  | none=>(aE 4,tr)
def aL (X:aj)(ha:BA)(tr:Trl):bY×Trl :=
 if(parse ha).1 != 0 then(aE (parse ha).1,tr) else jCe X (parse ha).2 (bH X tr).1 (bH X tr).2
def jB0 (o:bY)(x:aj×Trl):aj×Trl:=if o.makes then x.1.put ⟨placeOf 0 o.tab.number,jAL o.tab.name o.tab.cols⟩ x.2 else x
def jCU (tb:Int)(puts:List (List Val))(x:aj×Trl):aj×Trl:=puts.foldl (fun x r=>x.1.put ⟨placeOf tb (keyOf r),jAu r⟩ x.2) x
def jDz (tb:Int)(cuts:List Int)(x:aj×Trl):aj×Trl:=cuts.foldl (fun x k=>x.1.del (placeOf tb k) x.2) x
def jBU (o:bY)(x:aj×Trl):aj×Trl:=jDz o.tab.number o.cuts (jCU o.tab.number o.puts (jB0 o x))
def bI (X:aj)(ha:BA)(tr:Trl):BA×aj×Trl:=((aL X ha tr).1.jAP,jBU (aL X ha tr).1 (X,(aL X ha tr).2))
end Sq
namespace Sq
def jBD {α:Type}(f:α->Head)(dg:α->BA)(t:af α):BA:=jAo f t (t.kids.map dg)
def jEY {α:Type}(H:BA->BA)(f:α->Head)(dg:α->BA)(t:af α):BA:=if aw t.hd then t.hd.sl else H (jBD f dg t)
def bj (H:BA->BA):(n:Nat)->Nd n->BA
 | 0,t=>jEY H (fun e:Empty=>e.elim) (fun e:Empty=>e.elim) t
 | n+1,t=>jEY H (aa n) (bj H n) t
def bK {α β:Type}(ρ:α->β->Prop)(l:List α)(m:List β):Prop:=∃z:List (α×β),l=z.map Prod.fst/\m=z.map Prod.snd/\∀x∈z,ρ x.1 x.2
def RF {α β:Type}(ρ:α->β->Prop)(Q:Head->Prop)(dg:BA)(p:af α)(t:af β):Prop :=
 p.hd.least=t.hd.least/\p.hd.rows=t.hd.rows/\aw t.hd=false /\
 ((aw p.hd=true/\p.hd.sl=dg/\p.hd.inner=false/\p.av=[]/\p.kids=[]/\Q t.hd)\/(aw p.hd=false/\p.hd.inner=t.hd.inner/\p.av=t.av/\bK ρ p.kids t.kids))
def jGD {α β:Type}(_:α)(_:β):Prop:=False
def RN (H:BA->BA)(Q:Head->Prop):(m n:Nat)->Nd m->Nd n->Prop
 | 0,0,p,t=>RF jGD Q (bj H 0 t) p t
 | 0,n+1,p,t=>RF jGD Q (bj H (n+1) t) p t
 | _+1,0,p,t=>RF jGD Q (bj H 0 t) p t
 | m+1,n+1,p,t=>RF (RN H Q m n) Q (bj H (n+1) t) p t
theorem bK.len {ρ:α->β->Prop}{l:List α}{m:List β}(h:bK ρ l m):l.length=m.length:=by
 obtain⟨z,rfl,rfl,-⟩:=h;simp
theorem bK.nil {ρ:α->β->Prop}:bK ρ ([]:List α) ([]:List β):=⟨[],rfl,rfl,fun x hx=>by cases hx⟩
theorem bK.append {ρ:α->β->Prop}{l l':List α}{m m':List β}(h:bK ρ l m)(k:bK ρ l' m'):bK ρ (l++l') (m++m'):=by
 obtain⟨z,rfl,rfl,h⟩:=h;obtain⟨y,rfl,rfl,k⟩:=k;refine⟨z++y,by simp,by simp,fun x hx=>?_⟩;rcases List.mem_append.1 hx with hx | hx
 ·exact h x hx
 exact k x hx
theorem bK.take {ρ:α->β->Prop}{l:List α}{m:List β}(h:bK ρ l m)(k:Nat):bK ρ (l.take k) (m.take k):=by
 obtain⟨z,rfl,rfl,h⟩:=h;exact⟨z.take k,by rw[List.map_take],by rw[List.map_take],fun x hx=>h x (eg hx)⟩
theorem bK.drop {ρ:α->β->Prop}{l:List α}{m:List β}(h:bK ρ l m)(k:Nat):bK ρ (l.drop k) (m.drop k):=by
 obtain⟨z,rfl,rfl,h⟩:=h;exact⟨z.drop k,by rw[List.map_drop],by rw[List.map_drop],fun x hx=>h x (dR hx)⟩
theorem bK.one {ρ:α->β->Prop}{a:α}{b:β}(h:ρ a b):bK ρ [a] [b]:=⟨[(a,b)],rfl,rfl,fun x hx=>by rw[dD] at hx;subst hx;exact h⟩
theorem bK.at {ρ:α->β->Prop}{l:List α}{m:List β}(h:bK ρ l m){a:α}(ha:l[i]?=some a):∃b,m[i]?=some b/\ρ a b:=by
 obtain⟨z,rfl,rfl,h⟩:=h;rw[dy] at ha;cases hz:z[i]? with
 | none=>rw[hz] at ha;cases ha
 | some x =>
  rw[hz] at ha;simp at ha;subst ha;exact⟨x.2,by rw[dy,hz];rfl,h x (cA hz)⟩
theorem bK.none {ρ:α->β->Prop}{l:List α}{m:List β}(h:bK ρ l m)(ha:l[i]?=none):m[i]?=none:=by
 rw[List.getElem?_eq_none_iff] at ha ⊢;rw[<-h.len];exact ha
theorem bK.cons {ρ:α->β->Prop}{a:α}{b:β}{l:List α}{m:List β}:bK ρ (a::l) (b::m)↔ρ a b/\bK ρ l m:=by
 constructor
 ·rintro⟨z,h1,h2,h⟩;cases z with
  | nil=>cases h1
  | cons x z =>
   rw[cM,List.cons.injEq] at h1 h2;obtain⟨rfl,rfl⟩:=h1;obtain⟨rfl,rfl⟩:=h2;exact⟨h x (by simp),z,rfl,rfl,fun y hy=>h y (by simp[hy])⟩
 rintro⟨h1,z,rfl,rfl,h⟩;refine⟨(a,b)::z,rfl,rfl,fun x hx=>?_⟩;rcases List.mem_cons.1 hx with rfl | hx
 ·exact h1
 exact h x hx
theorem bK.bm {ρ:α->β->Prop}{l o:List α}{m u:List β}(h:bK ρ l m)(k:bK ρ o u)(a c:Nat):bK ρ (bm l a c o) (bm m a c u):=((h.take a).append k).append (h.drop (a+c))
theorem jQT {tr:Trl}{h:Head}(hl:(aC tr h).lost=false):tr.lost=false/\aw h=false:=by
 unfold aC at hl;simpa using hl
theorem jJR {tr:Trl}{h:Head}(hl:aw h=false):(aC tr h).lost=tr.lost:=by
 unfold aC;simp[hl]
theorem jPZ {ρ:α->β->Prop}{f:α->Head}{g:β->Head}(ha:∀a b,ρ a b->(f a).least=(g b).least)(p:Int):∀{l:List α} {m:List β},bK ρ l m->∀i a,jA5 f p l i a=jA5 g p m i a
 | [],[],_,_,_=>rfl
 | [],_::_,h,_,_=>by have:=h.len;simp at this
 | _::_,[],h,_,_=>by have:=h.len;simp at this
 | a::l,b::m,h,i,c=>by
  obtain⟨h1,h2⟩:=bK.cons.1 h;rw[jA5,jA5,ha a b h1];exact jPZ ha p h2 _ _
theorem jOm {ρ:α->β->Prop}{f:α->Head}{g:β->Head}(ha:∀a b,ρ a b->(f a).least=(g b).least)(p:Int){l:List α}{m:List β}(h:bK ρ l m):bU f l p=bU g m p:=jPZ ha p (h.drop 1) 1 0
structure Kin {α β:Type}(ρ:α->β->Prop)(f:α->Head)(g:β->Head):Prop where
 least:∀a b,ρ a b->(f a).least=(g b).least
 rows:∀a b,ρ a b->(f a).rows=(g b).rows
 whole:∀a b,ρ a b->aw (g b)=false
theorem RF.open_ {ρ:α->β->Prop}{Q:Head->Prop}{p:af α}{t:af β}(h:RF ρ Q dg p t)(hs:aw p.hd=false):p.hd.inner=t.hd.inner/\p.av=t.av/\bK ρ p.kids t.kids:=by
 obtain⟨-,-,-,h | h⟩:=h
 ·rw[hs] at h;cases h.1
 exact h.2
theorem jNA {f:α->Head}{g:α->Int->Trl->Bool×Trl}(hg:∀a k tr,(g a k tr).2.lost=false->tr.lost=false){t:af α}{k:Int}{tr:Trl}(h:(jCK f g t k tr).2.lost=false):tr.lost=false/\aw t.hd=false:=by
 unfold jCK at h
 split at h
 ·split at h
  ·exact jQT (hg _ _ _ h)
  exact jQT h
 exact jQT h
theorem jLO {ρ:α->β->Prop}{f:α->Head}{f':β->Head}{g:α->Int->Trl->Bool×Trl}{g':β->Int->Trl->Bool×Trl}(hk:Kin ρ f f')(hm:∀a k tr,(g a k tr).2.lost=false->tr.lost=false)
  (hg:∀a b k tr ha,ρ a b->(g a k tr).2.lost=false->(g a k tr).1=(g' b k ha).1) {Q:Head->Prop}  {p:af α} {t:af β} (h:RF ρ Q dg p t) (k:Int) (tr ha:Trl) (hl:(jCK f g p k tr).2.lost=false):(jCK f g p k tr).1=(jCK f' g' t k ha).1:=by
 obtain⟨h1,h2,h3⟩:=h.open_ (jNA hm hl).2;unfold jCK at hl ⊢;rw[<-h1,<-h2];rw[jOm hk.least k h3] at hl ⊢
 split
 ·rename_i hi;rw[cE hi] at hl;cases hc:p.kids[bU f' t.kids k]? with
  | none=>rw[h3.none hc]
  | some c =>
   obtain⟨b,hb,hr⟩:=h3.at hc;rw[hc] at hl;rw[hb];exact hg c b k _ _ hr hl
 rfl
theorem jKV {f:α->Head}{g:α->Trl->List Ent×Trl}{lo hi:Int}(hg:∀a tr,(g a tr).2.lost=false->tr.lost=false):∀{l:List α} {x:List Ent×Trl},(jBd f g lo hi l x).2.lost=false->x.2.lost=false
 | [],x,h=>h
 | c::r,x,h=>by
  rw[jBd] at h
  split at h
  ·exact hg c x.2 (jKV (x:=(x.1++(g c x.2).1,(g c x.2).2)) hg h)
  exact jKV hg h
theorem jX8 {ρ:α->β->Prop}{f:α->Head}{f':β->Head}(hk:Kin ρ f f')(lo:Int):∀{l:List α} {m:List β},bK ρ l m->jCa f lo l=jCa f' lo m
 | [],[],_=>rfl
 | [],_::_,h=>by have:=h.len;simp at this
 | _::_,[],h=>by have:=h.len;simp at this
 | a::l,b::m,h=>by rw[jCa,jCa,hk.least a b (bK.cons.1 h).1]
theorem jNN {ρ:α->β->Prop}{f:α->Head}{f':β->Head}{g:α->Trl->List Ent×Trl}{g':β->Trl->List Ent×Trl}(hk:Kin ρ f f')(hm:∀a tr,(g a tr).2.lost=false->tr.lost=false)
  (hg:∀a b tr tr',ρ a b->(g a tr).2.lost=false->(g a tr).1=(g' b tr').1) (lo hi:Int):∀{l:List α} {m:List β},bK ρ l m->∀(x y:List Ent×Trl),x.1=y.1->(jBd f g lo hi l x).2.lost=false->(jBd f g lo hi l x).1=(jBd f' g' lo hi m y).1
 | [],[],_,x,y,hxy,_=>hxy
 | [],_::_,h,_,_,_,_=>by have:=h.len;simp at this
 | _::_,[],h,_,_,_,_=>by have:=h.len;simp at this
 | a::l,b::m,h,x,y,hxy,hl=>by
  obtain⟨h1,h2⟩:=bK.cons.1 h;rw[jBd] at hl ⊢;rw[jBd,<-hk.least a b h1,<-jX8 hk lo h2]
  split
  ·rename_i hc;rw[cE hc] at hl;refine jNN hk hm hg lo hi h2 _ _ ?_ hl;show x.1++(g a x.2).1=y.1++(g' b y.2).1;rw[hxy,hg a b x.2 y.2 h1 (jKV (x:=(x.1++(g a x.2).1,(g a x.2).2)) hm hl)]
  rename_i hc;rw[cy hc] at hl;exact jNN hk hm hg lo hi h2 x y hxy hl
theorem jJU {f:α->Head}{g:α->Int->Int->Trl->List Ent×Trl}(hg:∀a lo hi tr,(g a lo hi tr).2.lost=false->tr.lost=false){t:af α}{lo hi:Int}{tr:Trl}(h:(jBJ f g t lo hi tr).2.lost=false):tr.lost=false/\aw t.hd=false:=by
 unfold jBJ at h;exact jQT (jKV (fun a tr=>hg a lo hi tr) h)
theorem jLo {ρ:α->β->Prop}{f:α->Head}{f':β->Head}{g:α->Int->Int->Trl->List Ent×Trl}{g':β->Int->Int->Trl->List Ent×Trl}(hk:Kin ρ f f')(hm:∀a lo hi tr,(g a lo hi tr).2.lost=false->tr.lost=false)
  (hg:∀a b lo hi tr ha,ρ a b->(g a lo hi tr).2.lost=false->(g a lo hi tr).1=(g' b lo hi ha).1) {Q:Head->Prop}  {p:af α} {t:af β} (h:RF ρ Q dg p t) (lo hi:Int) (tr ha:Trl) (hl:(jBJ f g p lo hi tr).2.lost=false):(jBJ f g p lo hi tr).1=(jBJ f' g' t lo hi ha).1:=by
 obtain⟨h1,h2,h3⟩:=h.open_ (jJU hm hl).2;unfold jBJ at hl ⊢;rw[<-h2];exact jNN hk (fun a tr=>hm a lo hi tr) (fun a b tr ha hr=>hg a b lo hi tr ha hr) lo hi h3 _ _ rfl hl
theorem jH7 (es:List Ent):aw (bB (α:=α) es).hd=false:=rfl
theorem jH0 (f:α->Head)(cs:List α):aw (aV f cs).hd=false:=rfl
theorem jUo {ρ:α->β->Prop}{Q:Head->Prop}(dg:BA)(es:List Ent):RF ρ Q dg (bB es) (bB es):=⟨rfl,rfl,rfl,Or.inr ⟨rfl,rfl,rfl,bK.nil⟩⟩
theorem jNC {ρ:α->β->Prop}{f:α->Head}{f':β->Head}(hk:Kin ρ f f'):∀{l:List α} {m:List β},bK ρ l m->jBg f l=jBg f' m
 | [],[],_=>rfl
 | [],_::_,h=>by have:=h.len;simp at this
 | _::_,[],h=>by have:=h.len;simp at this
 | a::l,b::m,h=>hk.least a b (bK.cons.1 h).1
theorem jL5 {ρ:α->β->Prop}{f:α->Head}{f':β->Head}(hk:Kin ρ f f'):∀{l:List α} {m:List β},bK ρ l m->aH f l=aH f' m
 | [],[],_=>rfl
 | [],_::_,h=>by have:=h.len;simp at this
 | _::_,[],h=>by have:=h.len;simp at this
 | a::l,b::m,h=>by
  obtain⟨h1,h2⟩:=bK.cons.1 h
  have:=jL5 hk h2
  unfold aH at *;rw[cM,cM,dN,dN,this,hk.rows a b h1]
theorem jIR {ρ:α->β->Prop}{Q:Head->Prop}{f:α->Head}{f':β->Head}(hk:Kin ρ f f')(dg:BA){l:List α}{m:List β}(h:bK ρ l m):RF ρ Q dg (aV f l) (aV f' m):=⟨jNC hk h,jL5 hk h,rfl,Or.inr ⟨rfl,rfl,rfl,h⟩⟩
def RD {α β:Type}(ρ:α->β->Prop)(Q:Head->Prop)(D:af β->BA)(p:af α)(t:af β):Prop:=RF ρ Q (D t) p t
theorem jM4 {ρ:α->β->Prop}{Q:Head->Prop}(D:af β->BA)(es:List Ent):bK (RD ρ Q D) (jAT (α:=α) es) (jAT (α:=β) es):=by
 unfold jAT;refine⟨(bF es).map fun x=>(bB x,bB x),by rw[dG];rfl,by rw[dG];rfl,fun x hx=>?_⟩;obtain⟨y,-,rfl⟩:=List.mem_map.1 hx;exact jUo _ _
theorem jR6 {ρ:α->β->Prop}{Q:Head->Prop}{f:α->Head}{f':β->Head}(hk:Kin ρ f f')(D:af β->BA){l:List α}{m:List β}(h:bK ρ l m):bK (RD ρ Q D) (jAK f l) (jAK f' m):=by
 unfold jAK bF;rw[h.len]
 split
 ·exact bK.one (jIR hk _ h)
 exact(bK.one (ρ:=RD ρ Q D) (jIR hk _ (h.take 3))).append (bK.one (jIR hk _ (h.drop 3)))
theorem jNv {f:α->Head}{g:α->Ent->Trl->List α×Trl}(hg:∀a e tr,(g a e tr).2.lost=false->tr.lost=false){t:af α}{e:Ent}{tr:Trl}(h:(jDU f g t e tr).2.lost=false):tr.lost=false/\aw t.hd=false:=by
 unfold jDU at h
 split at h
 ·split at h
  ·exact jQT (hg _ _ _ h)
  exact jQT h
 exact jQT h
theorem jLJ {ρ:α->β->Prop}{f:α->Head}{f':β->Head}{g:α->Ent->Trl->List α×Trl}{g':β->Ent->Trl->List β×Trl}(hk:Kin ρ f f')(hm:∀a e tr,(g a e tr).2.lost=false->tr.lost=false)
  (hg:∀a b e tr ha,ρ a b->(g a e tr).2.lost=false->bK ρ (g a e tr).1 (g' b e ha).1) {Q:Head->Prop}  (D:af β->BA) {p:af α} {t:af β} (h:RF ρ Q dg p t) (e:Ent) (tr ha:Trl) (hl:(jDU f g p e tr).2.lost=false):bK (RD ρ Q D) (jDU f g p e tr).1 (jDU f' g' t e ha).1:=by
 obtain⟨h1,h2,h3⟩:=h.open_ (jNv hm hl).2;unfold jDU at hl ⊢;rw[<-h1,<-h2];rw[jOm hk.least e.place h3] at hl ⊢
 split
 ·rename_i hi;rw[cE hi] at hl;cases hc:p.kids[bU f' t.kids e.place]? with
  | none=>rw[h3.none hc];exact jM4 D _
  | some c =>
   obtain⟨b,hb,hr⟩:=h3.at hc;rw[hc] at hl;rw[hb];exact jR6 hk D (h3.bm (hg c b e _ _ hr hl) _ _)
 exact jM4 D _
theorem jPB {f:α->Head}{tg:α->α->List α}{cs:List α}{a:Nat}{tr:Trl}(h:(jAI f tg cs a tr).2.lost=false):tr.lost=false:=by
 unfold jAI at h
 split at h
 ·exact h
 split at h
 ·exact(jQT (jQT h).1).1
 exact h
theorem jYf {ρ:α->β->Prop}{f:α->Head}{f':β->Head}{tg:α->α->List α}{tg':β->β->List β}
  (ht:∀a b c d,ρ a b->ρ c d->aw (f a)=false->aw (f c)=false->bK ρ (tg a c) (tg' b d)) {l:List α} {m:List β} (h:bK ρ l m) (k:Nat) (tr ha:Trl) (hl:(jAI f tg l k tr).2.lost=false):bK ρ (jAI f tg l k tr).1 (jAI f' tg' m k ha).1:=by
 unfold jAI at hl ⊢;rw[h.len] at hl ⊢
 split
 ·exact h
 rename_i h0;rw[cy h0] at hl;cases hc:l[jDs m.length k]? with
 | none=>rw[h.none hc];exact h
 | some c =>
  obtain⟨b,hb,hr⟩:=h.at hc;rw[hb];rw[hc] at hl;cases hd:l[jDs m.length k+1]? with
  | none=>rw[h.none hd];exact h
  | some d =>
   obtain⟨e,he,hq⟩:=h.at hd;rw[he];rw[hd] at hl;have h1:=jQT hl;exact h.bm (ht c b d e hr hq (jQT h1.1).2 h1.2) _ _
theorem jNq {f:α->Head}{sz:α->Nat}{tg:α->α->List α}{g:α->Int->Trl->α×Trl}(hg:∀a k tr,(g a k tr).2.lost=false->tr.lost=false){t:af α}{k:Int}{tr:Trl}(h:(jC5 f sz tg g t k tr).2.lost=false):tr.lost=false/\aw t.hd=false/\aw (jC5 f sz tg g t k tr).1.hd=false:=by
 have hh:tr.lost=false/\aw t.hd=false:=by
  unfold jC5 at h
  split at h
  ·split at h
   ·split at h
    ·exact jQT (hg _ _ _ (jPB h))
    exact jQT (hg _ _ _ h)
   exact jQT h
  exact jQT h
 refine⟨hh.1,hh.2,?_⟩;unfold jC5
 split
 ·split
  ·split
   ·rfl
   rfl
  exact hh.2
 rfl
theorem jLF {ρ:α->β->Prop}{f:α->Head}{f':β->Head}{sz:α->Nat}{sz':β->Nat}{tg:α->α->List α}{tg':β->β->List β}{g:α->Int->Trl->α×Trl}{g':β->Int->Trl->β×Trl}(hk:Kin ρ f f')
  (hm:∀a k tr,(g a k tr).2.lost=false->tr.lost=false/\aw (f (g a k tr).1)=false) (hz:∀a b,ρ a b->aw (f a)=false->sz a=sz' b)
  (ht:∀a b c d,ρ a b->ρ c d->aw (f a)=false->aw (f c)=false->bK ρ (tg a c) (tg' b d))
  (hg:∀a b k tr hn,ρ a b->(g a k tr).2.lost=false->ρ (g a k tr).1 (g' b k hn).1) {Q:Head->Prop} (D:af β->BA) {p:af α} {t:af β} (h:RD ρ Q D p t) (k:Int) (tr hn:Trl) (hl:(jC5 f sz tg g p k tr).2.lost=false):RD ρ Q D (jC5 f sz tg g p k tr).1 (jC5 f' sz' tg' g' t k hn).1:=by
 have h0:=(jNq (fun a k tr h=>(hm a k tr h).1) hl).2.1;have hh:=RF.open_ h h0;obtain⟨h1,h2,h3⟩:=hh;unfold jC5 at hl ⊢;rw[<-h1,<-h2];rw[jOm hk.least k h3] at hl ⊢
 split
 ·rename_i hi;rw[cE hi] at hl;cases hc:p.kids[bU f' t.kids k]? with
  | none=>rw[h3.none hc];exact h
  | some c =>
   obtain⟨b,hb,hr⟩:=h3.at hc;rw[hc] at hl;rw[hb]
   dsimp only at hl ⊢
   have ha:(g c k (aC tr p.hd)).2.lost=false:=by
    split at hl
    ·exact jPB hl
    exact hl
   have hf:=hg c b k (aC tr p.hd) (aC hn t.hd) hr ha;have hj:=hz _ _ hf (hm _ _ _ ha).2;have he:=h3.bm (bK.one hf) (bU f' t.kids k) 1;rw[hj] at hl ⊢
   split
   ·rename_i hs;rw[cE hs] at hl;exact jIR hk _ (jYf ht he _ _ _ hl)
   exact jIR hk _ he
 exact jUo _ _
theorem jKC {ρ:α->β->Prop}{f:α->Head}{f':β->Head}(hk:Kin ρ f f'){Q:Head->Prop}(D:af β->BA){a c:af α}{b d:af β}(h:RD ρ Q D a b)(k:RD ρ Q D c d)(ha:aw a.hd=false)(hc:aw c.hd=false):bK (RD ρ Q D) (jAq f a c) (jAq f' b d):=by
 obtain⟨h1,h2,h3⟩:=RF.open_ h ha;obtain⟨-,k2,k3⟩:=RF.open_ k hc;unfold jAq;rw[h1,h2,k2]
 split
 ·exact jR6 hk D (h3.append k3)
 exact jM4 D _
theorem RN.head (H:BA->BA)(Q:Head->Prop):∀(m n:Nat) (p:Nd m) (t:Nd n),RN H Q m n p t->(aa m p).least=(aa n t).least/\(aa m p).rows=(aa n t).rows/\aw (aa n t)=false
 | 0,0,_,_,h=>⟨h.1,h.2.1,h.2.2.1⟩
 | 0,_+1,_,_,h=>⟨h.1,h.2.1,h.2.2.1⟩
 | _+1,0,_,_,h=>⟨h.1,h.2.1,h.2.2.1⟩
 | _+1,_+1,_,_,h=>⟨h.1,h.2.1,h.2.2.1⟩
theorem jG5 (H:BA->BA)(Q:Head->Prop)(m n:Nat):Kin (RN H Q m n) (aa m) (aa n):=⟨fun a b h=>(RN.head H Q m n a b h).1,fun a b h=>(RN.head H Q m n a b h).2.1,fun a b h=>(RN.head H Q m n a b h).2.2⟩
theorem jEn (f:α->Head)(g:β->Head):Kin jGD f g:=⟨fun _ _ h=>h.elim,fun _ _ h=>h.elim,fun _ _ h=>h.elim⟩
theorem jLc:∀(m:Nat) (p:Nd m) (k:Int) (tr:Trl),(jDq m p k tr).2.lost=false->tr.lost=false
 | 0,_,_,_,h=>(jNA (fun a=>a.elim) h).1
 | m+1,_,_,_,h=>(jNA (fun a k tr=>jLc m a k tr) h).1
theorem jT9 (H:BA->BA)(Q:Head->Prop):∀(m n:Nat) (p:Nd m) (t:Nd n) (k:Int) (tr ha:Trl),RN H Q m n p t->(jDq m p k tr).2.lost=false->(jDq m p k tr).1=(jDq n t k ha).1
 | 0,0,_,_,k,tr,ha,h,hl=>jLO (jEn _ _) (fun a=>a.elim) (fun _ _ _ _ _ hr=>hr.elim) h k tr ha hl
 | 0,n+1,_,_,k,tr,ha,h,hl=>jLO (f':=aa n) (g':=jDq n) (jEn _ _) (fun a=>a.elim) (fun _ _ _ _ _ hr=>hr.elim) h k tr ha hl
 | m+1,0,_,_,k,tr,ha,h,hl=>jLO (f:=aa m) (g:=jDq m) (jEn _ _) (fun a k tr=>jLc m a k tr) (fun _ _ _ _ _ hr=>hr.elim) h k tr ha hl
 | m+1,n+1,_,_,k,tr,ha,h,hl=>jLO (jG5 H Q m n) (fun a k tr=>jLc m a k tr) (fun a b k tr ha hr hl=>jT9 H Q m n a b k tr ha hr hl) h k tr ha hl
theorem jJT:∀(m:Nat) (p:Nd m) (lo hi:Int) (tr:Trl),(jAW m p lo hi tr).2.lost=false->tr.lost=false
 | 0,_,_,_,_,h=>(jJU (fun a=>a.elim) h).1
 | m+1,_,_,_,_,h=>(jJU (fun a lo hi tr=>jJT m a lo hi tr) h).1
theorem jNM (H:BA->BA)(Q:Head->Prop):∀(m n:Nat) (p:Nd m) (t:Nd n) (lo hi:Int) (tr ha:Trl),RN H Q m n p t->(jAW m p lo hi tr).2.lost=false->(jAW m p lo hi tr).1=(jAW n t lo hi ha).1
 | 0,0,_,_,lo,hi,tr,ha,h,hl=>jLo (jEn _ _) (fun a=>a.elim) (fun _ _ _ _ _ _ hr=>hr.elim) h lo hi tr ha hl
 | 0,n+1,_,_,lo,hi,tr,ha,h,hl=>jLo (f':=aa n) (g':=jAW n) (jEn _ _) (fun a=>a.elim) (fun _ _ _ _ _ _ hr=>hr.elim) h lo hi tr ha hl
 | m+1,0,_,_,lo,hi,tr,ha,h,hl=>jLo (f:=aa m) (g:=jAW m) (jEn _ _) (fun a lo hi tr=>jJT m a lo hi tr) (fun _ _ _ _ _ _ hr=>hr.elim) h lo hi tr ha hl
 | m+1,n+1,_,_,lo,hi,tr,ha,h,hl=>jLo (jG5 H Q m n) (fun a lo hi tr=>jJT m a lo hi tr) (fun a b lo hi tr ha hr hl=>jNM H Q m n a b lo hi tr ha hr hl) h lo hi tr ha hl
theorem jLw:∀(m:Nat) (p:Nd m) (e:Ent) (tr:Trl),(jCn m p e tr).2.lost=false->tr.lost=false
 | 0,_,_,_,h=>(jNv (fun a=>a.elim) h).1
 | m+1,_,_,_,h=>(jNv (fun a e tr=>jLw m a e tr) h).1
theorem jTM (H:BA->BA)(Q:Head->Prop):∀(m n:Nat) (p:Nd m) (t:Nd n) (e:Ent) (tr ha:Trl),RN H Q m n p t->(jCn m p e tr).2.lost=false->bK (RN H Q m n) (jCn m p e tr).1 (jCn n t e ha).1
 | 0,0,_,_,e,tr,ha,h,hl=>jLJ (jEn _ _) (fun a=>a.elim) (fun _ _ _ _ _ hr=>hr.elim) (bj H 0) h e tr ha hl
 | 0,n+1,_,_,e,tr,ha,h,hl=>jLJ (f':=aa n) (g':=jCn n) (jEn _ _) (fun a=>a.elim) (fun _ _ _ _ _ hr=>hr.elim) (bj H (n+1)) h e tr ha hl
 | m+1,0,_,_,e,tr,ha,h,hl=>jLJ (f:=aa m) (g:=jCn m) (jEn _ _) (fun a e tr=>jLw m a e tr) (fun _ _ _ _ _ hr=>hr.elim) (bj H 0) h e tr ha hl
 | m+1,n+1,_,_,e,tr,ha,h,hl=>jLJ (jG5 H Q m n) (fun a e tr=>jLw m a e tr) (fun a b e tr ha hr hl=>jTM H Q m n a b e tr ha hr hl) (bj H (n+1)) h e tr ha hl
theorem jLr {ρ:α->β->Prop}{Q:Head->Prop}{p:af α}{t:af β}(h:RF ρ Q dg p t)(hs:aw p.hd=false):bG p=bG t:=by
 obtain⟨h1,h2,h3⟩:=h.open_ hs;unfold bG;rw[h1,h2,h3.len]
theorem qAH (H:BA->BA)(Q:Head->Prop):∀(m n:Nat) (p:Nd m) (t:Nd n),RN H Q m n p t->aw (aa m p)=false->jCj m p=jCj n t
 | 0,0,_,_,h,hs=>jLr h hs
 | 0,_+1,_,_,h,hs=>jLr h hs
 | _+1,0,_,_,h,hs=>jLr h hs
 | _+1,_+1,_,_,h,hs=>jLr h hs
theorem jWu (H:BA->BA)(Q:Head->Prop):∀(m n:Nat) (a:Nd m) (b:Nd n) (c:Nd m) (d:Nd n),RN H Q m n a b->RN H Q m n c d->aw (aa m a)=false->aw (aa m c)=false->bK (RN H Q m n) (jAk m a c) (jAk n b d)
 | 0,0,_,_,_,_,h,k,ha,hc=>jKC (jEn _ _) (bj H 0) h k ha hc
 | 0,n+1,_,_,_,_,h,k,ha,hc=>jKC (jEn _ (aa n)) (bj H (n+1)) h k ha hc
 | m+1,0,_,_,_,_,h,k,ha,hc=>jKC (jEn (aa m) _) (bj H 0) h k ha hc
 | m+1,n+1,_,_,_,_,h,k,ha,hc=>jKC (jG5 H Q m n) (bj H (n+1)) h k ha hc
theorem jKc:∀(m:Nat) (p:Nd m) (k:Int) (tr:Trl),(jC0 m p k tr).2.lost=false->tr.lost=false/\aw (aa m (jC0 m p k tr).1)=false
 | 0,_,_,_,h=>have h1:=jNq (fun a=>a.elim) h;⟨h1.1,h1.2.2⟩
 | m+1,_,_,_,h=>have h1:=jNq (fun a k tr h=>(jKc m a k tr h).1) h;⟨h1.1,h1.2.2⟩
theorem jUJ (H:BA->BA)(Q:Head->Prop):∀(m n:Nat) (p:Nd m) (t:Nd n) (k:Int) (tr hb:Trl),RN H Q m n p t->(jC0 m p k tr).2.lost=false->RN H Q m n (jC0 m p k tr).1 (jC0 n t k hb).1
 | 0,0,_,_,k,tr,hb,h,hl=>jLF (jEn _ _) (fun a=>a.elim) (fun _ _ hr=>hr.elim) (fun _ _ _ _ hr=>hr.elim) (fun _ _ _ _ _ hr=>hr.elim) (bj H 0) h k tr hb hl
 | 0,n+1,_,_,k,tr,hb,h,hl=>jLF (f':=aa n) (sz':=jCj n) (tg':=jAk n) (g':=jC0 n) (jEn _ _) (fun a=>a.elim) (fun _ _ hr=>hr.elim) (fun _ _ _ _ hr=>hr.elim) (fun _ _ _ _ _ hr=>hr.elim) (bj H (n+1)) h k tr hb hl
 | m+1,0,_,_,k,tr,hb,h,hl=>jLF (f:=aa m) (sz:=jCj m) (tg:=jAk m) (g:=jC0 m) (jEn _ _) (fun a k tr h=>jKc m a k tr h) (fun _ _ hr=>hr.elim) (fun _ _ _ _ hr=>hr.elim) (fun _ _ _ _ _ hr=>hr.elim) (bj H 0) h k tr hb hl
 | m+1,n+1,_,_,k,tr,hb,h,hl=>jLF (jG5 H Q m n) (fun a k tr h=>jKc m a k tr h) (fun a b hr hs=>qAH H Q m n a b hr hs) (fun a b c d hr hq ha hc=>jWu H Q m n a b c d hr hq ha hc) (fun a b k tr hb hr hl=>jUJ H Q m n a b k tr hb hr hl) (bj H (n+1)) h k tr hb hl
end Sq
namespace Sq
theorem jLS (g:α->β)(h:α×β->γ):∀l:List α,(l.zip (l.map g)).map h=l.map fun c=>h (c,g c)
 | []=>rfl
 | a::l=>by rw[cM,List.zip_cons_cons,cM,jLS g h l,cM]
theorem jZ0 {ρ:α->β->Prop}{f:α->Head}{f':β->Head}{dg:α->BA}{dg':β->BA}(hk:Kin ρ f f')(hd:∀a b,ρ a b->dg a=dg' b){p:af α}{t:af β}(h1:p.hd.inner=t.hd.inner)(h2:p.av=t.av)(h3:bK ρ p.kids t.kids):jBD f dg p=jBD f' dg' t:=by
 unfold jBD jAo;rw[jLS,jLS]
 have e1:(p.kids.map fun c=>jAl (f (c,dg c).1) (c,dg c).2)=t.kids.map fun c=>jAl (f' (c,dg' c).1) (c,dg' c).2:=by
  obtain⟨z,e1,e2,h⟩:=h3;rw[e1,e2,dG,dG];refine List.map_congr_left fun x hx=>?_
  have hr:=h x hx;show jAl (f x.1) (dg x.1)=jAl (f' x.2) (dg' x.2);unfold jAl;rw[hk.least _ _ hr,hk.rows _ _ hr,hd _ _ hr]
 have e2:bG p=bG t:=by
  unfold bG;rw[h1,h2,h3.len]
 rw[e1,e2,h1,h2]
theorem jLR {H:BA->BA}{ρ:α->β->Prop}{f:α->Head}{f':β->Head}{dg:α->BA}{dg':β->BA}(hk:Kin ρ f f')(hd:∀a b,ρ a b->dg a=dg' b){Q:Head->Prop}{p:af α}{t:af β}(h:RF ρ Q (jEY H f' dg' t) p t):jEY H f dg p=jEY H f' dg' t:=by
 cases hs:aw p.hd with
 | true =>
  obtain⟨-,-,-,h | h⟩:=h
  ·unfold jEY;rw[hs,cE rfl,h.2.1];rfl
  rw[hs] at h;cases h.1
 | false =>
  obtain⟨h1,h2,h3⟩:=h.open_ hs;have ht:=h.2.2.1;unfold jEY;rw[hs,ht,jZ0 hk hd h1 h2 h3,cy (by simp),cy (by simp)]
theorem jUH (H:BA->BA)(Q:Head->Prop):∀(m n:Nat) (p:Nd m) (t:Nd n),RN H Q m n p t->bj H m p=bj H n t
 | 0,0,_,_,h=>jLR (jEn _ _) (fun _ _ hr=>hr.elim) h
 | 0,n+1,_,_,h=>jLR (f':=aa n) (dg':=bj H n) (jEn _ _) (fun _ _ hr=>hr.elim) h
 | m+1,0,_,_,h=>jLR (f:=aa m) (dg:=bj H m) (jEn _ _) (fun _ _ hr=>hr.elim) h
 | m+1,n+1,_,_,h=>jLR (jG5 H Q m n) (fun a b hr=>jUH H Q m n a b hr) h
def RT (H:BA->BA)(Q:Head->Prop)(P X:aj):Prop:=RN H Q P.d X.d P.t X.t
theorem RT.head {H:BA->BA}{Q:Head->Prop}{P X:aj}(h:RT H Q P X):P.head.rows=X.head.rows:=(RN.head H Q _ _ _ _ h).2.1
theorem RT.dig {H:BA->BA}{Q:Head->Prop}{P X:aj}(h:RT H Q P X):bj H P.d P.t=bj H X.d X.t:=jUH H Q _ _ _ _ h
theorem jUC {H:BA->BA}{Q:Head->Prop}{l:List (Nd m)}{k:List (Nd n)}(h:bK (RN H Q m n) l k):RN H Q (m+1) (n+1) (aV (aa m) l) (aV (aa n) k):=jIR (jG5 H Q m n) _ h
theorem RT.put {H:BA->BA}{Q:Head->Prop}{P X:aj}(h:RT H Q P X)(e:Ent)(tr ha:Trl)(hl:(P.put e tr).2.lost=false):RT H Q (P.put e tr).1 (X.put e ha).1:=by
 have hr:=jTM H Q P.d X.d P.t X.t e tr ha h hl;show RT H Q (upN P.d (jCn P.d P.t e tr).1) (upN X.d (jCn X.d X.t e ha).1);generalize (jCn P.d P.t e tr).1=l at *;generalize (jCn X.d X.t e ha).1=k at *
 match l,k,hr with
 | [],[],hr=>exact jUC hr
 | [a],[b],hr=>exact(bK.cons.1 hr).1
 | a::c::q,b::d::r,hr=>exact jUC hr
 | [],_::_,hr=>have:=hr.len;simp at this
 | _::_,[],hr=>have:=hr.len;simp at this
 | [a],_::_::_,hr=>have:=hr.len;simp at this
 | _::_::_,[b],hr=>have:=hr.len;simp at this
theorem jTd {l:List α}{m:List β}(h:bK jGD l m):l=[]/\m=[]:=by
 obtain⟨z,rfl,rfl,h⟩:=h;cases z with
 | nil=>exact⟨rfl,rfl⟩
 | cons x z=>exact(h x (by simp)).elim
theorem jUF {t:af (Nd n)}(h:t.kids=[]):jEZ (n+1) t=⟨n+1,t⟩:=by
 show(if t.hd.inner then(match t.kids with | [c]=>(⟨n,c⟩:aj) | _=>⟨n+1,t⟩) else⟨n+1,t⟩)=⟨n+1,t⟩
 rw[h]
 split<;>rfl
theorem RT.down {H:BA->BA}{Q:Head->Prop}:∀{m n:Nat} {p:Nd m} {t:Nd n},RN H Q m n p t->aw (aa m p)=false->RT H Q (jEZ m p) (jEZ n t)
 | 0,0,p,t,h,_=>h
 | 0,n+1,p,t,h,hs=>by
  obtain⟨-,-,h3⟩:=RF.open_ h hs;rw[jUF (t:=t) (jTd h3).2];exact h
 | m+1,0,p,t,h,hs=>by
  obtain⟨-,-,h3⟩:=RF.open_ h hs;rw[jUF (t:=p) (jTd h3).1];exact h
 | m+1,n+1,p,t,h,hs=>by
  obtain⟨h1,-,h3⟩:=RF.open_ h hs;show RT H Q (if(af.hd p).inner then(match af.kids p with | [c]=>⟨m,c⟩ | _=>⟨m+1,p⟩) else⟨m+1,p⟩) (if(af.hd t).inner then(match af.kids t with | [c]=>⟨n,c⟩ | _=>⟨n+1,t⟩) else⟨n+1,t⟩);rw[<-h1]
  split
  ·match hk:af.kids p,hj:af.kids t,h3 with
   | [a],[b],h3=>exact(bK.cons.1 h3).1
   | [],[],h3=>exact h
   | a::c::q,b::d::r,h3=>exact h
   | [],_::_,h3=>have:=h3.len;simp at this
   | _::_,[],h3=>have:=h3.len;simp at this
   | [a],_::_::_,h3=>have:=h3.len;simp at this
   | _::_::_,[b],h3=>have:=h3.len;simp at this
  ·exact h
theorem RT.del {H:BA->BA}{Q:Head->Prop}{P X:aj}(h:RT H Q P X)(k:Int)(tr ha:Trl)(hl:(P.del k tr).2.lost=false):RT H Q (P.del k tr).1 (X.del k ha).1 :=
 RT.down (jUJ H Q P.d X.d P.t X.t k tr ha h hl) (jKc P.d P.t k tr hl).2
theorem jOu {b:Bool}{tr:Trl}(h:(jBh b tr).lost=false):tr.lost=false/\b=false:=by
 unfold jBh at h;simpa using h
theorem jRC {X:aj}{tr:Trl}(h:(bH X tr).2.lost=false):(X.jE4 (placeOf 0 (-2147483648)) (placeOf 0 2147483647) tr).2.lost=false:=(jOu h).1
theorem qAA {H:BA->BA}{Q:Head->Prop}{P X:aj}(h:RT H Q P X)(tr ha:Trl)(hl:(bH P tr).2.lost=false):(bH P tr).1=(bH X ha).1:=by
 have h1:=jNM H Q P.d X.d P.t X.t (placeOf 0 (-2147483648)) (placeOf 0 2147483647) tr ha h (jRC hl);unfold bH aj.jE4
 dsimp only
 rw[h1]
theorem qAO {H:BA->BA}{Q:Head->Prop}{P X:aj}(h:RT H Q P X)(t:bQ)(lo hi:Int)(tr ha:Trl)(hl:(jFh P t lo hi tr).2.lost=false):(jFh P t lo hi tr).1=(jFh X t lo hi ha).1:=by
 have h1:=jNM H Q P.d X.d P.t X.t (placeOf t.number lo) (placeOf t.number hi) tr ha h (jOu hl).1;unfold jFh aj.jE4
 dsimp only
 rw[h1]
theorem jWm {X:aj}{t:bQ}{w:List bd}{tr:Trl}(h:(jAe X t w tr).2.lost=false):tr.lost=false:=by
 unfold jAe at h
 split at h
 ·exact jJT _ _ _ _ _ (jOu h).1
 exact h
theorem jWL {H:BA->BA}{Q:Head->Prop}{P X:aj}(h:RT H Q P X)(t:bQ)(w:List bd)(tr ha:Trl)(hl:(jAe P t w tr).2.lost=false):(jAe P t w tr).1=(jAe X t w ha).1:=by
 unfold jAe at hl ⊢
 split
 ·rename_i hc;rw[cE hc] at hl;exact qAO h t _ _ tr ha hl
 rfl
theorem jV1 {X:aj}{t:bQ}{st:PSt}{tr:Trl}(h:(jAO X t st tr).2.lost=false):tr.lost=false:=by
 unfold jAO at h
 split at h
 ·exact h
 split at h
 ·exact jLc _ _ _ _ h
 exact jWm h
theorem jV8 {H:BA->BA}{Q:Head->Prop}{P X:aj}(h:RT H Q P X)(t:bQ)(st:PSt)(tr ha:Trl)(hl:(jAO P t st tr).2.lost=false):(jAO P t st tr).1=(jAO X t st ha).1:=by
 unfold jAO at hl ⊢
 split
 ·rfl
 rename_i h1;rw[cy h1] at hl
 split
 ·rename_i h2;rw[cE h2] at hl;have h3:=jT9 H Q P.d X.d P.t X.t (placeOf t.number (keyOf st.ax)) tr ha h hl;unfold jCR aj.has
  dsimp only
  rw[h3,h.head]
 rename_i h2;rw[cy h2] at hl
 dsimp only at hl ⊢
 rw[jWL h t st.aq tr ha hl]
theorem jPa {X:aj}{st:PSt}{ts:List bQ}{tr:Trl}(h:(jCe X st ts tr).2.lost=false):tr.lost=false:=by
 unfold jCe at h
 split at h
 ·exact h
 split at h
 ·exact jV1 h
 exact h
theorem jXG {H:BA->BA}{Q:Head->Prop}{P X:aj}(h:RT H Q P X)(ha:BA)(tr hb:Trl)(hl:(aL P ha tr).2.lost=false):(aL P ha tr).1=(aL X ha hb).1:=by
 unfold aL at hl ⊢
 split
 ·rfl
 rename_i h1;rw[cy h1] at hl;have h2:=qAA h tr hb (jPa hl);rw[<-h2];unfold jCe at hl ⊢
 split
 ·rw[h.head]
 rename_i h3;rw[cy h3] at hl;cases hf:jBE (parse ha).2.table (bH P tr).1 with
 | none=>rfl
 | some t =>
  rw[hf] at hl;exact jV8 h t _ _ _ hl
theorem jTI {X:aj}{e:Ent}{tr:Trl}(h:(X.put e tr).2.lost=false):tr.lost=false:=jLw _ _ _ _ h
theorem qBI {X:aj}{k:Int}{tr:Trl}(h:(X.del k tr).2.lost=false):tr.lost=false:=(jKc _ _ _ _ h).1
theorem jRv {o:bY}{x:aj×Trl}(h:(jB0 o x).2.lost=false):x.2.lost=false:=by
 unfold jB0 at h
 split at h
 ·exact jTI h
 exact h
theorem jK0 (tb:Int):∀{l:List (List Val)} {x:aj×Trl},(jCU tb l x).2.lost=false->x.2.lost=false
 | [],_,h=>h
 | r::l,x,h=>jTI (jK0 tb (l:=l) h)
theorem jK5 (tb:Int):∀{l:List Int} {x:aj×Trl},(jDz tb l x).2.lost=false->x.2.lost=false
 | [],_,h=>h
 | k::l,x,h=>qBI (jK5 tb (l:=l) h)
theorem qAd {H:BA->BA}{Q:Head->Prop}(o:bY){x y:aj×Trl}(h:RT H Q x.1 y.1)(hl:(jB0 o x).2.lost=false):RT H Q (jB0 o x).1 (jB0 o y).1:=by
 unfold jB0 at hl ⊢
 split
 ·rename_i hc;rw[cE hc] at hl;exact h.put _ _ _ hl
 exact h
theorem jSt {H:BA->BA}{Q:Head->Prop}(tb:Int):∀{l:List (List Val)} {x y:aj×Trl},RT H Q x.1 y.1->(jCU tb l x).2.lost=false->RT H Q (jCU tb l x).1 (jCU tb l y).1
 | [],_,_,h,_=>h
 | r::l,x,y,h,hl=>jSt tb (l:=l) (h.put _ x.2 y.2 (jK0 tb (l:=l) hl)) hl
theorem jSV {H:BA->BA}{Q:Head->Prop}(tb:Int):∀{l:List Int} {x y:aj×Trl},RT H Q x.1 y.1->(jDz tb l x).2.lost=false->RT H Q (jDz tb l x).1 (jDz tb l y).1
 | [],_,_,h,_=>h
 | k::l,x,y,h,hl=>jSV tb (l:=l) (h.del _ x.2 y.2 (jK5 tb (l:=l) hl)) hl
theorem jZF {H:BA->BA}{Q:Head->Prop}(o:bY){x y:aj×Trl}(h:RT H Q x.1 y.1)(hl:(jBU o x).2.lost=false):RT H Q (jBU o x).1 (jBU o y).1/\x.2.lost=false:=by
 unfold jBU at hl ⊢;have h1:=jK5 _ hl;have h2:=jK0 _ h1;exact⟨jSV _ (jSt _ (qAd o h h2) h1) hl,jRv h2⟩
theorem qA0 {H:BA->BA}{Q:Head->Prop}{P X:aj}(h:RT H Q P X)(ha:BA)(tr hb:Trl)(hl:(bI P ha tr).2.2.lost=false):(bI P ha tr).1=(bI X ha hb).1/\RT H Q (bI P ha tr).2.1 (bI X ha hb).2.1:=by
 unfold bI at hl ⊢
 dsimp only at hl ⊢
 have h1:=jZF (H:=H) (Q:=Q) (aL P ha tr).1 (x:=(P,(aL P ha tr).2)) (y:=(X,(aL X ha hb).2)) h hl;have h2:=jXG h ha tr hb h1.2;rw[h2] at h1 ⊢;exact⟨rfl,h1.1⟩
end Sq
namespace Sq
theorem qBR (l:List UInt8)(b:UInt8):big (l++[b])=big l*256+(b.toNat:Int):=by
 unfold big;rw[List.foldl_append];rfl
theorem jSw (x:Int)(k:Nat):(bz x k).data.toList=(jFG k x).reverse:=by unfold bz;simp
theorem jUv:∀(k:Nat) (x:Int),0<=x->x<256^k->big (bz x k).data.toList=x
 | 0,x,h0,h1=>by
  rw[jSw]
  have:x=0:=by simp at h1;omega
  subst this;rfl
 | k+1,x,h0,h1=>by
  have h2:x / 256<256^k:=by
   rw[Int.pow_succ] at h1;exact Int.ediv_lt_of_lt_mul (by decide) h1
  have h3:=jUv k (x / 256) (Int.ediv_nonneg h0 (by decide)) h2;rw[jSw] at h3 ⊢;rw[jFG,List.reverse_cons,qBR,h3]
  have h4:(UInt8.ofNat (HMod.hMod x 256:Int).toNat).toNat=(HMod.hMod x 256:Int).toNat:=by
   rw[UInt8.toNat_ofNat'];omega
  rw[h4];omega
theorem jQs (a b:BA):(a++b).size=a.size+b.size:=cO
theorem jW5 (a b:BA):(a++b).extract 0 a.size=a:=by
 apply ey;simp
theorem jW4 (a b:BA):(a++b).extract a.size (a++b).size=b:=by
 apply ey;apply Array.ext';rw[ByteArray.data_extract,ByteArray.data_append,Array.toList_extract,Array.toList_append,jQs];have h1:a.data.toList.length=a.size:=by simp
 have h2:b.data.toList.length=b.size:=by simp
 rw[List.extract_eq_take_drop,List.drop_left' h1,cL (by omega)]
theorem jTR (a b:BA):jBa ⟨a++b,false⟩ (a.size:Nat)=false:=by
 unfold jBa;simp[jQs];omega
theorem jNP (a b:BA):br ⟨a++b,false⟩ (a.size:Nat)=a:=by
 unfold br;rw[jTR,cy (by simp),cC];exact jW5 a b
theorem jNR (a b:BA):takeN ⟨a++b,false⟩ (a.size:Nat)=⟨b,false⟩:=by
 unfold takeN;rw[jTR,cy (by simp),cC]
 dsimp only
 rw[jW4 a b]
theorem jHA (x:Int)(k:Nat)(b:BA)(h0:0<=x)(h1:x<256^k):aF ⟨bz x k++b,false⟩ (k:Nat)=x/\takeN ⟨bz x k++b,false⟩ (k:Nat)=⟨b,false⟩:=by
 have h2:=jNP (bz x k) b;have h3:=jNR (bz x k) b;rw[jQt] at h2 h3;refine⟨?_,h3⟩;unfold aF;rw[h2];exact jUv k x h0 h1
theorem jL4 (t b:BA)(h:t.size<256):jEm ⟨txt t++b,false⟩=t/\jCG ⟨txt t++b,false⟩=⟨b,false⟩:=by
 have e:txt t++b=bz t.size 1++(t++b):=by unfold txt;rw[dw]
 obtain⟨h1,h2⟩:=jHA (t.size:Nat) 1 (t++b) (by omega) (by simp;omega);unfold jEm jCG;rw[e];rw[show((1:Nat):Int)=1 from rfl] at h1 h2;rw[h1,h2];exact⟨jNP t b,jNR t b⟩
def jCY {α:Type}(f:α->Head)(wr:α->BA)(dg:BA)(tr:Trl)(t:af α):BA:=if jAt tr t.hd then jAo f t (t.kids.map wr) else bz 0 1++dg
def jBj (H:BA->BA)(tr:Trl):(n:Nat)->Nd n->BA
 | 0,t=>jCY (fun e:Empty=>e.elim) (fun e:Empty=>e.elim) (bj H 0 t) tr t
 | n+1,t=>jCY (aa n) (jBj H tr n) (bj H (n+1) t) tr t
def jDP (r:Rd):Rd:=⟨r.rest,true⟩
def bg:(n:Nat)->BA->Int->Int->Nd n
 | 0,sl,l,r=>jIt sl l r
 | _+1,sl,l,r=>jIt sl l r
def bN:Nat->Rd->List Ent×Rd
 | 0,r=>([],r)
 | k+1,r=>(⟨aF r 5,jEm (takeN r 5)⟩::(bN k (jCG (takeN r 5))).1,(bN k (jCG (takeN r 5))).2)
def jAD {α:Type}(f:α->Head)(mk:BA->Int->Int->α)(least rows:Int)(c:α×Rd):α×Rd :=
 if aw (f c.1) then(mk (f c.1).sl least rows,c.2)
 else if(f c.1).least=least/\(f c.1).rows=rows then c
 else(c.1,jDP c.2)
def bD {α:Type}(f:α->Head)(mk:BA->Int->Int->α)(rd:Rd->α×Rd):Nat->Rd->List α×Rd
 | 0,r=>([],r)
 | k+1,r=>((jAD f mk (aF r 5) (aF (takeN r 5) 1) (rd (takeN (takeN r 5) 1))).1::(bD f mk rd k (jAD f mk (aF r 5) (aF (takeN r 5) 1) (rd (takeN (takeN r 5) 1))).2).1,(bD f mk rd k (jAD f mk (aF r 5) (aF (takeN r 5) 1) (rd (takeN (takeN r 5) 1))).2).2)
def jKm {α:Type}:af α:=⟨⟨false,0,0,ar,0⟩,[],[]⟩
def jBc {α:Type}(wide:Nat)(f:α->Head)(mk:BA->Int->Int->α)(rd:Rd->α×Rd)(r:Rd):af α×Rd :=
 if aF r 1=0 then(jIt (br (takeN r 1) wide) 0 0,takeN (takeN r 1) wide)
 else if aF r 1=1 then(bB (bN (aF (takeN r 1) 1).toNat (takeN (takeN r 1) 1)).1,(bN (aF (takeN r 1) 1).toNat (takeN (takeN r 1) 1)).2)
 else if aF r 1=2 then(aV f (bD f mk rd (aF (takeN r 1) 1).toNat (takeN (takeN r 1) 1)).1,(bD f mk rd (aF (takeN r 1) 1).toNat (takeN (takeN r 1) 1)).2)
 else(jKm,jDP (takeN r 1))
def aN (wide:Nat):(n:Nat)->Rd->Nd n×Rd
 | 0,r=>(jIt (br (takeN r 1) wide) 0 0,takeN (takeN r 1) wide)
 | n+1,r=>jBc wide (aa n) (bg n) (aN wide n) r
def bW (l:List BA):BA:=l.foldr (·++·) ar
theorem jIU:∀(l:List BA) (b:BA),l.foldl (·++·) b=b++bW l
 | [],b=>by
  show b=b++ar;apply ey;simp[ar]
 | x::l,b=>by
  rw[de,jIU l,dw];rfl
theorem jIa (x:BA)(l:List BA):bW (x::l)=x++bW l:=rfl
theorem jHB (b:BA):ar++b=b:=by
 apply ey;simp[ar]
def jGF (e:Ent):Prop:=0<=e.place/\e.place<1099511627776/\e.row.size<256
theorem jNF:∀(es:List Ent) (b:BA),(∀e∈es,jGF e)->bN es.length ⟨bW (es.map jA3)++b,false⟩=(es,⟨b,false⟩)
 | [],b,_=>by
  show(([]:List Ent),(⟨ar++b,false⟩:Rd))=_
  rw[jHB]
 | e::es,b,h=>by
  obtain⟨h0,h1,h2⟩:=h e (by simp);have ih:=jNF es b fun x hx=>h x (by simp[hx])
  rw[cG,cM,jIa,bN]
  have e1:jA3 e++bW (es.map jA3)++b=bz e.place 5++(txt e.row++(bW (es.map jA3)++b)):=by
   unfold jA3;rw[dw,dw]
  rw[e1];obtain⟨g1,g2⟩:=jHA e.place 5 (txt e.row++(bW (es.map jA3)++b)) h0 (by simpa using h1);rw[show((5:Nat):Int)=5 from rfl] at g1 g2;obtain⟨g3,g4⟩:=jL4 e.row (bW (es.map jA3)++b) h2;rw[g1,g2,g3,g4,ih]
theorem jJN (f:α->Head)(t:af α)(wr:α->BA):jAo f t (t.kids.map wr)=bz (if t.hd.inner then 2 else 1) 1++(bz (bG t) 1++(bW (t.av.map jA3)++bW (t.kids.map fun c=>jAl (f c) (wr c)))):=by
 unfold jAo;rw[jLS,jIU,jIU,dw,dw]
theorem jLh {H:BA->BA}{wide:Nat}(hH:∀b,(H b).size=wide):∀{n:Nat} {t:Nd n},aw (aa n t)=false->(bj H n t).size=wide
 | 0,t,h=>by
  show(if aw (af.hd t) then _ else _:BA).size=wide
  rw[show aw (af.hd t)=false from h,cy (by simp)];exact hH _
 | n+1,t,h=>by
  show(if aw (af.hd t) then _ else _:BA).size=wide
  rw[show aw (af.hd t)=false from h,cy (by simp)];exact hH _
theorem jZk:∀(n:Nat) (sl:BA) (l r:Int),aa n (bg n sl l r)=⟨false,l,r,sl,0⟩
 | 0,_,_,_=>rfl
 | _+1,_,_,_=>rfl
end Sq
section
open Go.RowKit
theorem qB6 (n:Int)(b:UInt8)(h0:0<=n)(h1:n<4294967296):bits .or .i64 (n*256) ((b.toNat:Nat):Int)=n*256+((b.toNat:Nat):Int):=by
 obtain⟨m,rfl⟩:=cU h0;have hb:=b.toNat_lt;have e:((m:Nat):Int)*256=((2^8*m:Nat):Int):=by omega
 rw[e,jVo _ _ (by omega) (by omega),<-eE (by omega) m];omega
theorem Sq.jXb (l:List UInt8)(k:Nat)(h:k<=4):0<=big (l.take k)/\big (l.take k)<4294967296:=by
 have h1:=jJn (l.take k);have h2:(l.take k).length<=4:=cm (dW _ _) h
 have h3:(256:Int)^(l.take k).length<=4294967296:=by
  have:=dH (n:=256) (by decide) h2
  have e:(256:Int)^(l.take k).length=((256^(l.take k).length:Nat):Int):=by simp
  rw[e];exact Int.ofNat_le.2 (cm this (by decide))
 omega
theorem Sq.jUb (r:Rd)(k:Nat)(h:k<=5):0<=aF r k/\aF r k<1099511627776:=by
 have h1:=jJn (br r k).data.toList;have ha:=(jHW r k).2;rw[cC] at ha;have h2:(br r k).data.toList.length<=5:=by rw[dj];exact cm ha h
 have h3:(256:Int)^(br r k).data.toList.length<=1099511627776:=by
  have:=dH (n:=256) (by decide) h2
  have e:(256:Int)^(br r k).data.toList.length=((256^(br r k).data.toList.length:Nat):Int):=by simp
  rw[e];exact Int.ofNat_le.2 (cm this (by decide))
 unfold aF;omega
theorem Sq.jUc (r:Rd):0<=aF r 1/\aF r 1<256:=by
 have h1:=jJn (br r 1).data.toList;have ha:=(jHW r 1).2;have h2:(br r 1).data.toList.length<=1:=by rw[dj];exact ha
 have h3:(256:Int)^(br r 1).data.toList.length<=256:=by
  have:=dH (n:=256) (by decide) h2
  have e:(256:Int)^(br r 1).data.toList.length=((256^(br r 1).data.toList.length:Nat):Int):=by simp
  rw[e];exact Int.ofNat_le.2 (cm this (by decide))
 unfold aF;omega
theorem jRp (b:Nat)(r:Rd)(k:Nat)(w:World)(h:bJ b w r)(hs:r.rest.size<=1000000)(hk:k<=5) :
  Calls Tryz.prog 88 #[.pointer (some ⟨b,0,none⟩),.int .i64 k] w fun e w'=>e=.returned (.int .i64 (aF r k))/\bJ b w' (Sq.takeN r k)/\jB4 b w w':=by
 have hg:=(jHW r k).2;have HN:Hid (aF r k=big (br r k).data.toList):=rfl;obtain⟨s,ht⟩:∃x,x=br r k:=⟨_,rfl⟩;have hn:=HN.o;rw[<-ht] at hn hg;rw[cC] at hg;have hi:=hd hn;have HS:=hd ht;have H:=hd h;clear hn HN ht h;go_enter Tryz.func88,Tryz.ntmps88;go_wp2_with fail;refine(jLZ b r k _ H.o hs).mono ?_;rintro e w1 ⟨rfl,hx,hv⟩;rw[<-HS.o];have ho:=hd hx;have hl:=hd hv;clear hx hv;have hf:s.data.toList.length=s.size:=dj;have hc:=hd hf;clear hf;go_wp2
 go_loop [6,7] (fun nv i=>∃j:Nat,∃n:Int,j<=s.size/\i=.int .i64 j/\nv=.int .i64 n/\Hid (n=big (s.data.toList.take j))) (fun _ i=>s.size-(intOf i).toNat)
 case atStart=>exact⟨0,0,zR,rfl,rfl,rfl⟩
 case round =>
  obtain⟨j,n,hj,rfl,rfl,hr⟩:=hrel
  by_cases hjt:j<s.size
  ·have hp:j<s.data.toList.length:=by rw[hc.o];exact hjt
   have hb:=Sq.jUu s.data.toList j hp;have ha:=Sq.jXb s.data.toList j (by omega);rw[<-hr.o] at hb ha;have he:=qB6 n s.data.toList[j] ha.1 ha.2;obtain⟨hy,hz⟩:=ha;have hm:=hd he;have hh:=hd hb;clear he hb;go_wp2
   have hw:wrap64 ((s[j].toNat:Nat):Int)=((s.data.toList[j].toNat:Nat):Int):=by
    have hq:=s.data.toList[j].toNat_lt;show wrap64 ((s.data.toList[j].toNat:Nat):Int)=_;unfold wrap64;omega
   rw[hw,hm.o];go_round
   case rel=>exact⟨j+1,_,by omega,by go_num,rfl,hh.o.symm⟩
   case measure=>simp[intOf];omega
  have HE:Hid (aF r k=n):=by show _=_;rw[hi.o,hr.o,cL (by rw[hc.o];omega)]
  clear hr;go_wp2;go_ret;exact⟨by rw[HE.o];rfl,ho.o,hl.o⟩
theorem jOc (b:Nat)(r:Rd)(w:World)(h:bJ b w r) :
  Calls Tryz.prog 93 #[.pointer (some ⟨b,0,none⟩)] w fun e w'=>e=.returned (.tuple #[])/\bJ b w' (Sq.jDP r)/\jB4 b w w':=by
 obtain⟨s,sh⟩:=r;have c1:w.cell? ⟨b,1,none⟩=some (.bool sh):=by rw[jQb h];rfl
 have f1:=jQd h 1;have hz:=jQe h;have H:=hd h;clear h;go_enter Tryz.func93,Tryz.ntmps93;go_wp2;go_end0;exact⟨rfl,jLI H.o,jB4.set _ _⟩
theorem jUB (sl:BA)(l r:Int)(w:World) :
  Calls Tryz.prog 90 #[.string sl,.int .i64 l,.int .i64 r] w fun e w'=>e=.returned (.agg (ae ⟨false,l,r,sl,0⟩ (.slice none 0 0) (.slice none 0 0)).toArray)/\Below w.heap.size w w':=by
 rw[jQc];go_enter Tryz.func90,Tryz.ntmps90;go_wp2;exact cp (v:=.agg #[.bool false,.slice none 0 0,.slice none 0 0,.int .i64 l,.int .i64 r,.string sl,.int .i64 0]) (by simp[results,Tryz.results90,go_sem]) rfl ⟨rfl,bA⟩
end
structure Sq.Lv where
 hl:Int
 dl:Int
 di:Int
namespace Sq
def jDu {α:Type}(k:α->Bool)(l:Nat)(t:af α):Bool:=if aw t.hd then true else Decidable.decide (l<=bG t)&&Decidable.decide (bG t<=4)&&t.kids.all k
def jCb:(n:Nat)->Nat->Nd n->Bool
 | 0,l,t=>jDu (fun e:Empty=>e.elim) l t
 | n+1,l,t=>jDu (jCb n 2) l t
def jFb {α:Type}(f:α->Head)(g:α->List Int)(t:af α):List Int:=t.av.map Ent.place++t.kids.flatMap fun c=>if aw (f c) then[(f c).least] else g c
def jAC:(n:Nat)->Nd n->List Int
 | 0,t=>jFb (fun e:Empty=>e.elim) (fun e:Empty=>e.elim) t
 | n+1,t=>jFb (aa n) (jAC n) t
def jCV:List Int->Bool
 | a::b::r=>Decidable.decide (a<b)&&jCV (b::r)
 | _=>true
def jEM (d:Int)(l:Lv):Lv:=⟨l.hl,l.dl,if l.di<d then d else l.di⟩
def jFJ (d:Int)(l:Lv):Lv:=⟨if l.hl<0\/d<l.hl then d else l.hl,if l.dl<d then d else l.dl,l.di⟩
def jD8 {α:Type}(g:α->Int->Lv->Lv)(d:Int):List α->Lv->Lv
 | [],l=>l
 | c::r,l=>jD8 g d r (g c d l)
def jGE {α:Type}(g:α->Int->Lv->Lv)(t:af α)(d:Int)(l:Lv):Lv :=
 if aw t.hd then l else jD8 g (d+1) t.kids (if t.hd.inner then jEM d l else jFJ d l)
def jEo:(n:Nat)->Nd n->Int->Lv->Lv
 | 0,t=>jGE (fun e:Empty=>e.elim) t
 | n+1,t=>jGE (jEo n) t
def jEA (l:Lv):Bool:=Decidable.decide (l.dl<0) || (Decidable.decide (l.hl=l.dl)&&Decidable.decide (l.di<l.dl))
def jFl (n:Nat)(t:Nd n):Bool:=jCb n (if(aa n t).inner then 2 else 0) t&&jCV (jAC n t)&&jEA (jEo n t 0 ⟨-1,-1,-1⟩)
end Sq
namespace Sq
def jCs:(n:Nat)->List (Kid n)->Prop
 | 0,es=>List.length (α:=Ent) es<=4
 | n+1,cs=>List.length (α:=List (Kid n)) cs<=4/\∀c∈(show List (List (Kid n)) from cs),jCs n c
theorem jCs.len:∀{n:Nat} {t:List (Kid n)},jCs n t->t.length<=4
 | 0,_,h=>h
 | _+1,_,h=>h.1
theorem jIS {l x:List α}(h:x∈bF l)(h5:l.length<=5):x.length<=4/\∀y∈x,y∈l:=by
 unfold bF at h
 split at h
 ·rw[dD] at h;subst h;exact⟨by assumption,fun y hy=>hy⟩
 rcases List.mem_cons.1 h with rfl | h
 ·exact⟨by rw[dq];omega,fun y hy=>eg hy⟩
 rw[dD] at h;subst h;exact⟨by rw[ef];omega,fun y hy=>dR hy⟩
theorem jSc {l:List (List (Kid n))}(h5:l.length<=5)(h:∀c∈l,jCs n c):∀x∈bF l,jCs (n+1) x:=fun x hx=>⟨(jIS hx h5).1,fun c hc=>h c ((jIS hx h5).2 c hc)⟩
theorem jHx (l o:List α)(a m:Nat)(h:a+m<=l.length):(bm l a m o).length=l.length-m+o.length:=by
 unfold bm;simp only[cg,dq,ef];omega
theorem jH9 {l o:List α}{a:Nat}{y:α}(h:y∈bm l a m o):y∈l\/y∈o:=by
 unfold bm at h;rcases List.mem_append.1 h with h | h
 ·rcases List.mem_append.1 h with h | h
  ·exact Or.inl (eg h)
  exact Or.inr h
 exact Or.inl (dR h)
theorem jNH (es:List Ent)(e:Ent):(jAX es e).length<=es.length+1:=by
 unfold jAX;rw[cg,cG];have h1:=dE (fun x:Ent=>x.place != e.place) (es.dropWhile fun x=>Decidable.decide (x.place<e.place));have h2:=congrArg List.length (List.takeWhile_append_dropWhile (p:=fun x:Ent=>Decidable.decide (x.place<e.place)) (l:=es));rw[cg] at h2;omega
theorem jTK:∀(n:Nat) (t:List (Kid n)) (e:Ent),jCs n t->(jCE n t e).length<=2/\∀x∈jCE n t e,jCs n x
 | 0,es,e,h=>by
  show(bF (jAX es e)).length<=2/\∀x∈bF (jAX es e),jCs 0 x
  have h1:=jNH es e;have h2:List.length (α:=Ent) es<=4:=h;exact⟨(jIT _).2,fun x hx=>(jIS hx (by omega)).1⟩
 | n+1,cs,e,h=>by
  show(jHa cs (way n cs e.place) (fun c=>jCE n c e) ((show List (List (Kid n)) from cs)[way n cs e.place]?)).length<=2/\∀x∈jHa cs (way n cs e.place) (fun c=>jCE n c e) ((show List (List (Kid n)) from cs)[way n cs e.place]?),jCs (n+1) x
  cases hc:(show List (List (Kid n)) from cs)[way n cs e.place]? with
  | none =>
   exact⟨by show List.length [cs]<=2;simp,fun x hx=>by
    have:x=cs:=by simpa[jHa] using hx
    subst this;exact h⟩
  | some c =>
   have ha:way n cs e.place<List.length (α:=List (Kid n)) cs:=(List.getElem?_eq_some_iff.1 hc).1;have ih:=jTK n c e (h.2 c (cA hc));refine⟨(jIT _).2,?_⟩;refine jSc ?_ ?_
   ·have h3:List.length (α:=List (Kid n)) cs<=4:=h.1;have h6:(bm (α:=List (Kid n)) cs (way n cs e.place) 1 (jCE n c e)).length=List.length (α:=List (Kid n)) cs-1+(jCE n c e).length:=jHx _ _ _ _ (by omega)
    show(bm (α:=List (Kid n)) cs (way n cs e.place) 1 (jCE n c e)).length<=5
    omega
   ·intro y hy;rcases jH9 hy with hy | hy
    ·exact h.2 y hy
    ·exact ih.2 y hy
theorem jZe {cs:List (List (Kid n))}{a:Nat}(h4:cs.length<=4)(hf:∀c∈cs,c.length<=4)(hs:∀c,cs[a]?=some c->c.length<2)(ha:a<cs.length)(P:List (Kid n)->Prop)(hp:∀c∈cs,P c)(hj:∀l r,l∈cs->r∈cs->(l++r).length<=5->∀x∈bF (l++r),P x) :
  (jFX cs a).length<=4/\∀x∈jFX cs a,P x:=by
 unfold jFX;generalize hb:(if a+1==cs.length then a-1 else a)=b;cases hl:cs[b]? with
 | none=>exact⟨h4,hp⟩
 | some l =>
  cases hr:cs[b+1]? with
  | none=>exact⟨h4,hp⟩
  | some r =>
   have he:=(List.getElem?_eq_some_iff.1 hr).1
   have h5:(l++r).length<=5:=by
    rw[cg];have hh:=hf l (cA hl);have hi:=hf r (cA hr)
    split at hb
    ·rename_i hc;have hg:a+1=cs.length:=by simpa using hc
     by_cases h0:a=0
     ·subst h0;simp at hb;subst hb;omega
     have:b+1=a:=by omega
     rw[this] at hr
     have:=hs r hr
     omega
    subst hb
    have:=hs l hl
    omega
   refine⟨?_,?_⟩
   ·show(bm cs b 2 (bF (l++r))).length<=4
    rw[jHx _ _ _ _ (by omega)]
    have:=(jIT (l++r)).2
    omega
   intro x hx;rcases jH9 hx with hx | hx
   ·exact hp x hx
   exact hj l r (cA hl) (cA hr) h5 x hx
theorem qAq:∀{n:Nat} {l r:List (Kid n)},jCs n l->jCs n r->(l++r).length<=5->∀x∈bF (l++r),jCs n x
 | 0,_,_,_,_,h5,x,hx=>(jIS hx h5).1
 | n+1,l,r,hl,hr,h5,x,hx=>jSc (l:=(show List (List (Kid n)) from l++r)) h5 (fun c hc=>by
   rcases List.mem_append.1 hc with hc | hc
   ·exact hl.2 c hc
   exact hr.2 c hc) x hx
theorem jUI:∀(n:Nat) (t:List (Kid n)) (p:Int),jCs n t->jCs n (jDk n t p)
 | 0,es,p,h=>cm (dE _ _) h
 | n+1,cs,p,h=>by
  show jCs (n+1) (jKw cs (way n cs p) (fun c=>jDk n c p) (show List (List (Kid n)) from cs)[way n cs p]?);cases hc:(show List (List (Kid n)) from cs)[way n cs p]? with
  | none=>exact h
  | some c =>
   have hf:way n cs p<List.length (α:=List (Kid n)) cs:=(List.getElem?_eq_some_iff.1 hc).1;have ih:=jUI n c p (h.2 c (cA hc));show jCs (n+1) (jDS cs (way n cs p) (jDk n c p))
   have hb:(bm (α:=List (Kid n)) cs (way n cs p) 1 [jDk n c p]).length=List.length (α:=List (Kid n)) cs:=by
    have h6:(bm (α:=List (Kid n)) cs (way n cs p) 1 [jDk n c p]).length=List.length (α:=List (Kid n)) cs-1+1:=jHx _ _ _ _ (by omega);omega
   have ha:∀y∈bm (α:=List (Kid n)) cs (way n cs p) 1 [jDk n c p],jCs n y:=by
    intro y hy;rcases jH9 hy with hy | hy
    ·exact h.2 y hy
    rw[dD] at hy;subst hy;exact ih
   have h4:List.length (α:=List (Kid n)) cs<=4:=h.1;unfold jDS
   split
   ·rename_i hs
    have he:(bm (α:=List (Kid n)) cs (way n cs p) 1 [jDk n c p])[way n cs p]?=some (jDk n c p):=by
     unfold bm;rw[dm,ew (by rw[dq];omega),dq,Nat.min_eq_left (by omega),Nat.sub_self];rfl
    exact jZe (by rw[hb];exact h4) (fun y hy=>(ha y hy).len) (fun y hy=>by rw[he] at hy;cases hy;exact hs) (by rw[hb];exact hf) (jCs n) ha fun l r hl hr h5=>qAq (ha l hl) (ha r hr) h5
   exact⟨by rw[hb];exact h4,ha⟩
def Tree.full (x:Tree):Prop:=jCs x.d x.t
theorem jOS:jIv.full:=by show List.length (α:=Ent) []<=4;simp
theorem Tree.full.put {x:Tree}(h:x.full)(e:Ent):(x.put e).full:=by
 obtain⟨h1,h2⟩:=jTK x.d x.t e h;unfold Tree.put upT Tree.full;generalize jCE x.d x.t e=l at *
 match l,h1,h2 with
 | [],h1,h2=>exact⟨by simp,fun c hc=>by cases hc⟩
 | [y],h1,h2=>exact h2 y (by simp)
 | y::z::r,h1,h2=>exact⟨cm h1 (by omega),h2⟩
theorem Tree.full.del {x:Tree}(h:x.full)(p:Int):(x.del p).full:=by
 have h1:=jUI x.d x.t p h;unfold Tree.del Tree.full;generalize jDk x.d x.t p=l at *;generalize x.d=n at *
 match n,l,h1 with
 | 0,l,h1=>exact h1
 | n+1,l,h1 =>
  show jCs (match (show List (List (Kid n)) from l) with | [x]=>(⟨n,x⟩:Tree) | l=>⟨n+1,l⟩).d (match (show List (List (Kid n)) from l) with | [x]=>(⟨n,x⟩:Tree) | l=>⟨n+1,l⟩).t
  match (show List (List (Kid n)) from l),h1 with
  | [],h1=>exact h1
  | [y],h1=>exact h1.2 y (by simp)
  | y::z::r,h1=>exact h1
end Sq
end Go.Proofs.YtahpihjialbanaaGreatDoor
