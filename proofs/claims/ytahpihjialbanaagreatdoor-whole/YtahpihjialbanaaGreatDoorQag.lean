import Derived.Laws.BitsAllLaws
import Derived.Laws.CopyOwn
import Derived.Test.YtahpihjialbanaaGreatDoorQaf
set_option linter.unusedVariables false
set_option linter.unusedSimpArgs false
set_option maxRecDepth 100000
set_option maxHeartbeats 1000000
namespace Go.Proofs.YtahpihjialbanaaGreatDoor
open Sq (Ent takeN numV Rd nobytes pnum takeV)
section
open Go.RowKit
theorem Sq.jQjc (m:Int):((UInt8.ofNat (HMod.hMod m (256:Int)).toNat).toNat:Int)=HMod.hMod m (256:Int):=by
 rw[UInt8.toNat_ofNat'];omega
theorem Sq.jQqt (l:List UInt8)(k:Nat)(h:k<l.length):(l.drop (k+1)).reverse++[l[k]]=(l.drop k).reverse:=by
 rw[List.drop_eq_getElem_cons h,List.reverse_cons]
theorem BufAt.at {B:Nat}{w:World}{v:Value}{l:List UInt8}(h:BufAt B w v l)(k:Nat)(hk:k<l.length):∃g cap,v=.slice (some ⟨g,0,none⟩) l.length cap/\g<w.heap.size/\w.cell? ⟨g,k,none⟩=some (.int .u8 (l[k].toNat:Int)):=by
 obtain⟨g,cap,rfl,_,hlt⟩:=World.ownsRow.form h (by omega);refine⟨g,cap,rfl,hlt,?_⟩
 have:=World.ownsRow.cells h (g:=g) rfl k (.int .u8 (l[k].toNat:Int)) (by simp[List.getElem?_eq_getElem hk])
 rwa [show(⟨g,0,none⟩:Addr).add k=⟨g,k,none⟩ from by unfold Addr.add;split<;>simp_all] at this
theorem jQ7 (n:Int)(bytes:Nat)(w:World)(hk:bytes<=1000) :
  Calls Tryz.prog 56 #[.int .i64 n,.int .i64 bytes] w fun e w'=>e=.returned (.string (pnum n bytes))/\Below w.heap.size w w':=by
 go_enter Tryz.func56,Tryz.ntmps56;go_wp2
 go_loopw [0,5,6] (fun x v i wr=>∃k:Nat,∃m:Int,∃l:List UInt8,k<=bytes/\i=.int .i64 k/\x=.int .i64 m/\BufAt w.heap.size wr v l/\Hid (l.length=k)/\Hid (Sq.lowB bytes n=l++Sq.lowB (bytes-k) m)/\Below w.heap.size w wr) (fun _ _ i _=>bytes-(intOf i).toNat)
 case atStart=>exact⟨0,n,[],zR,rfl,rfl,World.ownsRow_nil _ _ _ _,rfl,rfl,bR⟩
 case round =>
  obtain⟨k,m,l,hk1,rfl,rfl,hbuf,hlen,hll,hb⟩:=hrel;obtain⟨wo,rfl⟩:∃wo:World,wo=wr:=⟨_,rfl⟩;obtain⟨vo,vcap,rfl⟩:=hbuf.slice;have hy:=hb.size;have HB:=hd hb;have hh:=hd hbuf;have hE:l.length<=1000:=by rw[hlen.o];omega
  clear hb hbuf
  by_cases hlt:k<bytes
  ·have hm:Hid (Sq.lowB bytes n=(l++[UInt8.ofNat (HMod.hMod m (256:Int)).toNat])++Sq.lowB (bytes-(k+1)) (m / 256)):=by
    show _=_;rw[hll.o,show bytes-k=(bytes-(k+1))+1 by omega,Sq.lowB,List.append_assoc];rfl
   have hw:=Sq.jQjc m;obtain⟨b,hbb⟩:∃b,b=UInt8.ofNat (HMod.hMod m (256:Int)).toNat:=⟨_,rfl⟩;have hp:=hm.o;rw[<-hbb] at hp hw;have ht:=hd hp;have hA:=hd hw;have hr:Hid ((l++[b]).length=k+1):=by show _=_;rw[List.length_append,hlen.o];rfl
   have hq:=hd (hh.o.below ((bR).alloc (nR) (.cells #[.int .u8 (HMod.hMod m (256:Int))] 5)));clear hp hw hbb hm hll hlen;go_wp2_with (at_builtin;refine jQaa rfl (.tmp 14) (.tmp 17) rfl w.heap.size _ l rfl hq.o b ⟨wo.heap.size,0,none⟩ 1 rfl (by rw[hA.o];simp[go_sem]) (by omega) (by simp;omega) ?_;intro v3 w3 hbuf3 hb3;have ha:=hd hbuf3;have hl:=hd hb3;clear hbuf3 hb3);go_roundw
   case rel=>exact⟨k+1,m / 256,l++[b],by omega,by go_num,rfl,ha.o,hr,ht,HB.o.trans ((Below.mono (B':=w.heap.size) ((bR).alloc (nR) _) hy).trans hl.o)⟩
   case measure=>simp[intOf];omega
  ·have hm:Hid (Sq.lowB bytes n=l):=by
    show _=_;rw[hll.o,show bytes-k=0 by omega,Sq.lowB,List.append_nil]
   clear hll hlen;go_wp2
   go_loopw [7,8] (fun v i wr=>∃k:Nat,k<=l.length/\i=.int .i64 ((k:Int)-1)/\BufAt wo.heap.size wr v (l.drop k).reverse/\Below wo.heap.size wo wr) (fun _ i _=>(intOf i+1).toNat)
   case atStart=>exact⟨l.length,nR,by go_num,by rw[List.drop_length];exact World.ownsRow_nil _ _ _ _,bR⟩
   case round =>
    obtain⟨j,hj,rfl,hc,hb3⟩:=hrel;obtain⟨xo,xcap,rfl⟩:=hc.slice;have hC:=hb3.size;have hn:=hd hc;have hl:=hd hb3;have hx:(l.drop j).reverse.length<=1000:=by simp;omega
    clear hc hb3
    by_cases hj0:j=0
    ·subst hj0;have HE:Hid ((⟨(l.drop 0).reverse.toArray⟩:ByteArray)=pnum n bytes):=by show _=_;unfold pnum;rw[hm.o];rfl
     obtain⟨dl,hdl⟩:∃x,x=(l.drop 0).reverse:=⟨_,rfl⟩;have hc:=hn.o;have he:=HE.o;rw[<-hdl] at hc he hx ⊢;have ho:=jQe6 _ _ _ _ hc;rw[he] at ho;have hD:=hd ho;clear ho HE he hc hn hdl;go_wp2;rw[hD.o];go_wp2;go_ret;exact⟨rfl,HB.o.trans (hl.o.mono hy)⟩
    ·obtain⟨q,rfl⟩:∃q,j=q+1:=⟨j-1,by omega⟩;obtain⟨g,cap',hv,hg,c0⟩:=(hh.o.below hl.o).at q (by omega);simp only[Value.slice.injEq] at hv;obtain⟨rfl,-,rfl⟩:=hv;have hz:=hd (Sq.jQqt l q (by omega));obtain⟨b,hbb⟩:∃b,b=l[q]:=⟨_,rfl⟩;have hs:=hz.o;rw[<-hbb] at hs c0;have hi:=hd hs;have i1:¬((l.length:Int)<=(q:Int)):=by omega
     have i2:((q+1:Nat):Int)-1=(q:Int):=by omega
     obtain⟨dl,hdl⟩:∃x,x=(l.drop (q+1)).reverse:=⟨_,rfl⟩;have hc:=hn.o;have hf:=hi.o;rw[<-hdl] at hc hf hx ⊢;rw[i2];have hq:=hd (hc.below ((bR).alloc (nR) (.cells #[.int .u8 (b.toNat:Int)] 5)));have hu:=hd hf;clear hs hz hf hi hbb hc hn hdl i2;go_wp2_with (at_builtin;refine jQaa rfl (.tmp 28) (.tmp 33) rfl wo.heap.size _ dl rfl hq.o b ⟨wr.heap.size,0,none⟩ 1 rfl (by simp[go_sem]) (by omega) (by simp;omega) ?_;intro v3 w3 hbuf3 hb3;have ha:=hd hbuf3;have hB:=hd hb3;clear hbuf3 hb3);go_roundw
     case rel=>exact⟨q,by omega,by go_num,by rw[<-hu.o];exact ha.o,hl.o.trans ((Below.mono (B':=wo.heap.size) ((bR).alloc (nR) _) hC).trans hB.o)⟩
     case measure=>simp[intOf]
theorem jQdi (t:ByteArray)(w:World)(hs:t.size<=1000000) :
  Calls Tryz.prog 84 #[.string t] w fun e w'=>e=.returned (.string (Sq.txt t))/\Below w.heap.size w w':=by
 have hn:=Sq.jQt t.size 1;have HE:Hid (Sq.txt t=pnum t.size 1++t):=rfl;go_enter Tryz.func84,Tryz.ntmps84;go_wp2_with fail;refine(jQ7 t.size 1 _ (by omega)).mono ?_;rintro e w2 ⟨rfl,hb2⟩;obtain⟨p,hp⟩:∃x,x=pnum t.size 1:=⟨_,rfl⟩;have he:=HE.o;rw[<-hp] at hn he ⊢;have ha:=hd he;clear hp he HE;go_wp2;go_ret;exact⟨by rw[ha.o];rfl,hb2⟩
end
section
open Go.RowKit
def RdAt (b:Nat)(w:World)(r:Rd):Prop:=w.heap[b]?=some (.cells #[.string r.rest,.bool r.short] 105)
structure Only (b:Nat)(w w':World):Prop where
 below:Below b w w'
 other:∀g,g≠b->w'.heap[g]?=w.heap[g]?
theorem Only.refl (b:Nat)(w:World):Only b w w:=⟨bR,fun _ _=>rfl⟩
theorem Only.trans {b:Nat}{w w1 w2:World}(h:Only b w w1)(k:Only b w1 w2):Only b w w2:=⟨h.below.trans k.below,fun g hg=>(k.other g hg).trans (h.other g hg)⟩
theorem Only.set {b:Nat}{w:World}(o:Nat)(x:Value):Only b w (w.setCell ⟨b,o,none⟩ x):=⟨Below.setCell (B:=b) (bR) (nR) _,fun _ hg=>jQg hg⟩
theorem jQgq {b:Nat}{w:World}{r:Rd}(h:RdAt b w r):RdAt b (w.setCell ⟨b,1,none⟩ (.bool true)) ⟨r.rest,true⟩:=by
 unfold RdAt at h ⊢;rw[jQe h];rfl
theorem jQrq {b:Nat}{w:World}{r:Rd}(h:RdAt b w r)(s:ByteArray):RdAt b (w.setCell ⟨b,0,none⟩ (.string s)) ⟨s,r.short⟩:=by
 unfold RdAt at h ⊢;rw[jQe h];rfl
theorem jQg3 (b:Nat)(r:Rd)(k:Int)(w:World)(h:RdAt b w r)(hs:r.rest.size<=1000000) :
  Calls Tryz.prog 89 #[.pointer (some ⟨b,0,none⟩),.int .i64 k] w fun e w'=>e=.returned (.string (takeV r k))/\RdAt b w' (takeN r k)/\Only b w w':=by
 obtain⟨s,sh⟩:=r;have c0:w.cell? ⟨b,0,none⟩=some (.string s):=by rw[jQb h];rfl
 have c1:w.cell? ⟨b,1,none⟩=some (.bool sh):=by rw[jQb h];rfl
 have f0:=jQd h 0;have f1:=jQd h 1;have hz:=jQf h;have H:=hd h;simp only at hs;clear h
 by_cases h1:k<0
 ·have HE:Hid (Sq.takeBad ⟨s,sh⟩ k=true):=by show _=_;unfold Sq.takeBad;simp[h1]
  have i1:decide (k<0)=true:=by simpa using h1
  go_enter Tryz.func89,Tryz.ntmps89;go_wp2;go_ret;refine⟨by unfold takeV;rw[HE.o];rfl,?_,Only.set _ _⟩;unfold takeN;rw[HE.o];exact jQgq H.o
 ·have i1:decide (k<0)=false:=by simpa using h1
  by_cases h2:(s.size:Int)<k
  ·have HE:Hid (Sq.takeBad ⟨s,sh⟩ k=true):=by show _=_;unfold Sq.takeBad;simp[h2]
   have i2:decide ((s.size:Int)<k)=true:=by simpa using h2
   go_enter Tryz.func89,Tryz.ntmps89;go_wp2;go_ret;refine⟨by unfold takeV;rw[HE.o];rfl,?_,Only.set _ _⟩;unfold takeN;rw[HE.o];exact jQgq H.o
  ·have i2:decide ((s.size:Int)<k)=false:=by simpa using h2
   cases sh
   case true =>
    have HE:Hid (Sq.takeBad ⟨s,true⟩ k=true):=by show _=_;unfold Sq.takeBad;simp
    go_enter Tryz.func89,Tryz.ntmps89;go_wp2;go_ret;refine⟨by unfold takeV;rw[HE.o];rfl,?_,Only.set _ _⟩;unfold takeN;rw[HE.o];exact jQgq H.o
   case false =>
    have HE:Hid (Sq.takeBad ⟨s,false⟩ k=false):=by show _=_;unfold Sq.takeBad;simp[h1,h2]
    obtain⟨n,rfl⟩:=Int.eq_ofNat_of_zero_le (show 0<=k by omega);have hn:n<=s.size:=by omega
    clear h1 h2;go_enter Tryz.func89,Tryz.ntmps89;go_wp2;go_ret;refine⟨by unfold takeV;rw[HE.o];rfl,?_,Only.set _ _⟩;unfold takeN;rw[HE.o];exact jQrq H.o _
theorem jQrw (a b:Nat)(ha:a<4611686018427387904)(hb:b<4611686018427387904):bits .or .i64 ((a:Nat):Int) ((b:Nat):Int)=((a ||| b:Nat):Int):=by
 have he:a ||| b<2^62:=Nat.or_lt_two_pow (by omega) (by omega)
 have ea:(BitVec.ofInt 64 (a:Int)).toNat=a:=by rw[BitVec.toNat_ofInt];omega
 have eb:(BitVec.ofInt 64 (b:Int)).toNat=b:=by rw[BitVec.toNat_ofInt];omega
 show IntKind.i64.wrap ((BitVec.ofInt 64 (a:Int) ||| BitVec.ofInt 64 (b:Int)).toNat:Int)=_;rw[BitVec.toNat_or,ea,eb];obtain⟨c,hc⟩:∃c,c=a ||| b:=⟨_,rfl⟩
 rw[<-hc] at he ⊢;simp[IntKind.wrap,IntKind.bits,IntKind.signed];omega
theorem jQrx (n:Int)(b:UInt8)(h0:0<=n)(h1:n<16777216):bits .or .i64 (n*256) ((b.toNat:Nat):Int)=n*256+((b.toNat:Nat):Int):=by
 obtain⟨m,rfl⟩:=Int.eq_ofNat_of_zero_le h0;have hb:=b.toNat_lt;have e:((m:Nat):Int)*256=((2^8*m:Nat):Int):=by omega
 rw[e,jQrw _ _ (by omega) (by omega),<-Nat.two_pow_add_eq_or_of_lt (by omega) m];omega
namespace Sq
theorem jQog (l:List UInt8)(k:Nat)(h:k<l.length):big (l.take (k+1))=big (l.take k)*256+(l[k].toNat:Int):=by
 unfold big;rw[List.take_succ_eq_append_getElem h,List.foldl_append];rfl
theorem jQlx (l:List UInt8)(k:Nat)(h:k<=3):0<=big (l.take k)/\big (l.take k)<16777216:=by
 have h1:=jQly (l.take k);have h2:(l.take k).length<=3:=Nat.le_trans (List.length_take_le _ _) h
 have h3:(256:Int)^(l.take k).length<=16777216:=by
  have:=Nat.pow_le_pow_right (n:=256) (by decide) h2
  have e:(256:Int)^(l.take k).length=((256^(l.take k).length:Nat):Int):=by simp
  rw[e];exact Int.ofNat_le.2 (Nat.le_trans this (by decide))
 omega
end Sq
theorem jQb8 (b:Nat)(r:Rd)(k:Nat)(w:World)(h:RdAt b w r)(hs:r.rest.size<=1000000)(hk:k<=4) :
  Calls Tryz.prog 88 #[.pointer (some ⟨b,0,none⟩),.int .i64 k] w fun e w'=>e=.returned (.int .i64 (numV r k))/\RdAt b w' (takeN r k)/\Only b w w':=by
 have he:=(Sq.jQaK r k).2;have HN:Hid (numV r k=Sq.big (takeV r k).data.toList):=rfl;obtain⟨s,hs'⟩:∃x,x=takeV r k:=⟨_,rfl⟩;have hn:=HN.o;rw[<-hs'] at hn he;rw[Int.toNat_natCast] at he;have hm:=hd hn;have HS:=hd hs';have H:=hd h;clear hn HN hs' h;go_enter Tryz.func88,Tryz.ntmps88;go_wp2_with fail;refine(jQg3 b r k _ H.o hs).mono ?_;rintro e w1 ⟨rfl,hr1,ho1⟩;rw[<-HS.o];have ho:=hd hr1;have hl:=hd ho1;clear hr1 ho1;have hc:s.data.toList.length=s.size:=Array.length_toList;have hf:=hd hc;clear hc;go_wp2
 go_loop [6,7] (fun nv i=>∃j:Nat,∃n:Int,j<=s.size/\i=.int .i64 j/\nv=.int .i64 n/\Hid (n=Sq.big (s.data.toList.take j))) (fun _ i=>s.size-(intOf i).toNat)
 case atStart=>exact⟨0,0,zR,rfl,rfl,rfl⟩
 case round =>
  obtain⟨j,n,hj,rfl,rfl,hbig⟩:=hrel
  by_cases hjt:j<s.size
  ·have hh:j<s.data.toList.length:=by rw[hf.o];exact hjt
   have hb:=Sq.jQog s.data.toList j hh;have ha:=Sq.jQlx s.data.toList j (by omega);rw[<-hbig.o] at hb ha;have hg:=jQrx n s.data.toList[j] ha.1 ha.2;obtain⟨hb0,hb1⟩:=ha;have hi:=hd hg;have hp:=hd hb;clear hg hb;go_wp2
   have hw:wrap64 ((s[j].toNat:Nat):Int)=((s.data.toList[j].toNat:Nat):Int):=by
    have hq:=s.data.toList[j].toNat_lt;show wrap64 ((s.data.toList[j].toNat:Nat):Int)=_;unfold wrap64;omega
   rw[hw,hi.o];go_round
   case rel=>exact⟨j+1,_,by omega,by go_num,rfl,hp.o.symm⟩
   case measure=>simp[intOf];omega
  ·have HE:Hid (numV r k=n):=by show _=_;rw[hm.o,hbig.o,List.take_of_length_le (by rw[hf.o];omega)]
   clear hbig;go_wp2;go_ret;exact⟨by rw[HE.o];rfl,ho.o,hl.o⟩
theorem jQbr (b:Nat)(r:Rd)(w:World)(h:RdAt b w r)(hs:r.rest.size<=1000000) :
  Calls Tryz.prog 131 #[.pointer (some ⟨b,0,none⟩)] w fun e w'=>e=.returned (.string (Sq.txtV r))/\RdAt b w' (Sq.txtN r)/\Only b w w':=by
 have H:=hd h;have hf:=Nat.le_trans (Sq.jQp r 1) hs;have HV:Hid (Sq.txtV r=takeV (takeN r 1) (numV r 1)):=rfl;have HN:Hid (Sq.txtN r=takeN (takeN r 1) (numV r 1)):=rfl;clear h;go_enter Tryz.func131,Tryz.ntmps131;go_wp2_with fail;refine(jQb8 b r 1 _ H.o hs (by decide)).mono ?_;rintro e w1 ⟨rfl,hr1,ho1⟩;have hc:=hd hr1;have hb:=hd ho1;clear hr1 ho1;obtain⟨n,hn⟩:∃n,n=numV r 1:=⟨_,rfl⟩;have hv:=HV.o;have ha:=HN.o;rw[<-hn] at hv ha;have hg:=hd hv;have he:=hd ha;rw[show numV r ((1:Nat):Int)=n from hn.symm];clear hv ha hn HV HN;go_wp2_with fail;refine(jQg3 b (takeN r 1) n _ hc.o hf).mono ?_;rintro e w2 ⟨rfl,hr2,ho2⟩;go_wp2;go_ret;exact⟨by rw[hg.o];rfl,by rw[he.o];exact hr2,hb.o.trans ho2⟩
theorem jQjp (b:Nat)(r:Rd)(w:World)(h:RdAt b w r) :
  Calls Tryz.prog 61 #[.pointer (some ⟨b,0,none⟩)] w fun e w'=>e=.returned (.bool (Sq.doneR r))/\w'=w:=by
 obtain⟨s,sh⟩:=r;have c0:w.cell? ⟨b,0,none⟩=some (.string s):=by rw[jQb h];rfl
 have c1:w.cell? ⟨b,1,none⟩=some (.bool sh):=by rw[jQb h];rfl
 have hz:=jQf h;clear h;have HE:Hid (Sq.doneR ⟨s,sh⟩=(s.toList.isEmpty && !sh)):=rfl;cases he:s.toList.isEmpty
 all_goals
  have h0:=he;cases sh
 all_goals
  go_enter Tryz.func61,Tryz.ntmps61;go_wp2;go_ret;exact⟨by rw[HE.o,he];rfl,rfl⟩
theorem jQnC (s:ByteArray)(w:World)(hs:s.size<=1000000) :
  Calls Tryz.prog 147 #[.string s] w fun e w'=>e=.returned (.bool (Sq.isNm s))/\w'=w:=by
 have HE:Hid (Sq.isNm s=(Decidable.decide (1<=s.size)&&Decidable.decide (s.size<=8))):=rfl
 by_cases h1:1<=s.size
 ·by_cases h2:s.size<=8
  ·have i1:decide ((1:Int)<=(s.size:Int))=true:=by simp;omega
   have i2:decide ((s.size:Int)<=8)=true:=by simp;omega
   go_enter Tryz.func147,Tryz.ntmps147;go_wp2;go_ret;exact⟨by rw[HE.o];simp[h1,h2],rfl⟩
  ·have i1:decide ((1:Int)<=(s.size:Int))=true:=by simp;omega
   have i2:decide ((s.size:Int)<=8)=false:=by simp;omega
   go_enter Tryz.func147,Tryz.ntmps147;go_wp2;go_ret;exact⟨by rw[HE.o];simp[h1,h2],rfl⟩
 ·have i1:decide ((1:Int)<=(s.size:Int))=false:=by simp;omega
  go_enter Tryz.func147,Tryz.ntmps147;go_wp2;go_ret;exact⟨by rw[HE.o];simp[h1],rfl⟩
end
structure Sq.Head where
 inner:Bool
 least:Int
 rows:Int
 sl:ByteArray
 num:Int
structure Sq.NodeF (α:Type) where
 hd:Sq.Head
 ents:List Ent
 kids:List α
abbrev Sq.Nd:Nat->Type
 | 0=>Sq.NodeF Empty
 | n+1=>Sq.NodeF (Sq.Nd n)
structure Sq.Trl where
 lost:Bool
 nums:List Int
namespace Sq
def headN:(n:Nat)->Nd n->Head
 | 0,t=>NodeF.hd t
 | _+1,t=>NodeF.hd t
def isShut (h:Head):Bool:=h.sl.size != 0
def touchedR (tr:Trl)(h:Head):Bool:=tr.nums.any (·==h.num)
def touchR (tr:Trl)(h:Head):Trl :=
 ⟨tr.lost || isShut h,if Decidable.decide (0<h.num) && !touchedR tr h then tr.nums++[h.num] else tr.nums⟩
def firstPlace:List Ent->Int
 | []=>0
 | e::_=>e.place
def firstLeast {α:Type}(f:α->Head):List α->Int
 | []=>0
 | c::_=>(f c).least
def sumRows2 {α:Type}(f:α->Head)(l:List α):Int:=(l.map fun c=>(f c).rows).sum
def leafF {α:Type}(es:List Ent):NodeF α:=⟨⟨false,firstPlace es,es.length,nobytes,0⟩,es,[]⟩
def innerF {α:Type}(f:α->Head)(cs:List α):NodeF α:=⟨⟨true,firstLeast f cs,sumRows2 f cs,nobytes,0⟩,[],cs⟩
def shutF {α:Type}(sl:ByteArray)(least rows:Int):NodeF α:=⟨⟨false,least,rows,sl,0⟩,[],[]⟩
def leavesF {α:Type}(es:List Ent):List (NodeF α):=(halve es).map leafF
def innersF {α:Type}(f:α->Head)(cs:List α):List (NodeF α):=(halve cs).map (innerF f)
def sizeF {α:Type}(t:NodeF α):Nat:=if t.hd.inner then t.kids.length else t.ents.length
def wayFromF {α:Type}(f:α->Head)(p:Int):List α->Nat->Nat->Nat
 | [],_,a=>a
 | c::r,i,a=>wayFromF f p r (i+1) (if(f c).least<=p then i else a)
def wayF {α:Type}(f:α->Head)(cs:List α)(p:Int):Nat:=wayFromF f p (cs.drop 1) 1 0
def hasF {α:Type}(f:α->Head)(g:α->Int->Trl->Bool×Trl)(t:NodeF α)(p:Int)(tr:Trl):Bool×Trl :=
 if t.hd.inner then
  match t.kids[wayF f t.kids p]? with
  | some c=>g c p (touchR tr t.hd)
  | none=>(false,touchR tr t.hd)
 else(t.ents.any (fun e=>e.place==p),touchR tr t.hd)
def hasN:(n:Nat)->Nd n->Int->Trl->Bool×Trl
 | 0,t=>hasF (fun e:Empty=>e.elim) (fun e:Empty=>e.elim) t
 | n+1,t=>hasF (headN n) (hasN n) t
def inSpan (lo hi:Int)(e:Ent):Bool:=Decidable.decide (lo<=e.place)&&Decidable.decide (e.place<=hi)
def nextLowF {α:Type}(f:α->Head)(lo:Int):List α->Bool
 | []=>true
 | d::_=>Decidable.decide (lo<(f d).least)
def thruL {α:Type}(f:α->Head)(g:α->Trl->List Ent×Trl)(lo hi:Int):List α->List Ent×Trl->List Ent×Trl
 | [],x=>x
 | c::r,x=>if Decidable.decide ((f c).least<=hi)&&nextLowF f lo r then thruL f g lo hi r (x.1++(g c x.2).1,(g c x.2).2) else thruL f g lo hi r x
def thruF {α:Type}(f:α->Head)(g:α->Int->Int->Trl->List Ent×Trl)(t:NodeF α)(lo hi:Int)(tr:Trl):List Ent×Trl :=
 thruL f (fun c=>g c lo hi) lo hi t.kids (t.ents.filter (inSpan lo hi),touchR tr t.hd)
def thruN:(n:Nat)->Nd n->Int->Int->Trl->List Ent×Trl
 | 0,t=>thruF (fun e:Empty=>e.elim) (fun e:Empty=>e.elim) t
 | n+1,t=>thruF (headN n) (thruN n) t
def putF {α:Type}(f:α->Head)(g:α->Ent->Trl->List α×Trl)(t:NodeF α)(e:Ent)(tr:Trl):List (NodeF α)×Trl :=
 if t.hd.inner then
  match t.kids[wayF f t.kids e.place]? with
  | some c=>(innersF f (exch t.kids (wayF f t.kids e.place) 1 (g c e (touchR tr t.hd)).1),(g c e (touchR tr t.hd)).2)
  | none=>(leavesF [e],touchR tr t.hd)
 else(leavesF (withE t.ents e),touchR tr t.hd)
def putN:(n:Nat)->Nd n->Ent->Trl->List (Nd n)×Trl
 | 0,t=>putF (fun e:Empty=>e.elim) (fun e:Empty=>e.elim) t
 | n+1,t=>putF (headN n) (putN n) t
def sizeN:(n:Nat)->Nd n->Nat
 | 0,t=>sizeF t
 | _+1,t=>sizeF t
def togetherF {α:Type}(f:α->Head)(l r:NodeF α):List (NodeF α) :=
 if l.hd.inner then innersF f (l.kids++r.kids) else leavesF (l.ents++r.ents)
def togetherN:(n:Nat)->Nd n->Nd n->List (Nd n)
 | 0,l,r=>togetherF (fun e:Empty=>e.elim) l r
 | n+1,l,r=>togetherF (headN n) l r
def joinAt (len a:Nat):Nat:=if a+1==len then a-1 else a
def joinedF {α:Type}(f:α->Head)(tg:α->α->List α)(cs:List α)(a:Nat)(tr:Trl):List α×Trl :=
 if a+1==cs.length&&a==0 then(cs,tr)
 else match cs[joinAt cs.length a]?,cs[joinAt cs.length a+1]? with
  | some l,some r=>(exch cs (joinAt cs.length a) 2 (tg l r),touchR (touchR tr (f l)) (f r))
  | _,_=>(cs,tr)
def delF {α:Type}(f:α->Head)(sz:α->Nat)(tg:α->α->List α)(g:α->Int->Trl->α×Trl)(t:NodeF α)(p:Int)(tr:Trl):NodeF α×Trl :=
 if t.hd.inner then
  match t.kids[wayF f t.kids p]? with
  | some c =>
   if sz (g c p (touchR tr t.hd)).1<2 then
    (innerF f (joinedF f tg (exch t.kids (wayF f t.kids p) 1 [(g c p (touchR tr t.hd)).1]) (wayF f t.kids p) (g c p (touchR tr t.hd)).2).1,
     (joinedF f tg (exch t.kids (wayF f t.kids p) 1 [(g c p (touchR tr t.hd)).1]) (wayF f t.kids p) (g c p (touchR tr t.hd)).2).2)
   else(innerF f (exch t.kids (wayF f t.kids p) 1 [(g c p (touchR tr t.hd)).1]),(g c p (touchR tr t.hd)).2)
  | none=>(t,touchR tr t.hd)
 else(leafF (t.ents.filter fun e=>e.place != p),touchR tr t.hd)
def delN:(n:Nat)->Nd n->Int->Trl->Nd n×Trl
 | 0,t=>delF (fun e:Empty=>e.elim) (fun e:Empty=>e.elim) (fun e:Empty=>e.elim) (fun e:Empty=>e.elim) t
 | n+1,t=>delF (headN n) (sizeN n) (togetherN n) (delN n) t
structure NTree where
 d:Nat
 t:Nd d
def ntree0:NTree:=⟨0,(⟨⟨false,0,0,nobytes,0⟩,[],[]⟩:NodeF Empty)⟩
def NTree.head (x:NTree):Head:=headN x.d x.t
def upN (n:Nat):List (Nd n)->NTree
 | [x]=>⟨n,x⟩
 | l=>⟨n+1,innerF (headN n) l⟩
def NTree.put (x:NTree)(e:Ent)(tr:Trl):NTree×Trl:=(upN x.d (putN x.d x.t e tr).1,(putN x.d x.t e tr).2)
def downN:(n:Nat)->Nd n->NTree
 | 0,t=>⟨0,t⟩
 | n+1,t=>if(NodeF.hd t).inner then(match NodeF.kids t with | [c]=>⟨n,c⟩ | _=>⟨n+1,t⟩) else⟨n+1,t⟩
def NTree.del (x:NTree)(p:Int)(tr:Trl):NTree×Trl:=(downN x.d (delN x.d x.t p tr).1,(delN x.d x.t p tr).2)
def NTree.has (x:NTree)(p:Int)(tr:Trl):Bool×Trl:=hasN x.d x.t p tr
def NTree.thru (x:NTree)(lo hi:Int)(tr:Trl):List Ent×Trl:=thruN x.d x.t lo hi tr
def numbL {α:Type}(g:α->Int->α×Int):List α->Int->List α×Int
 | [],k=>([],k)
 | c::r,k=>((g c k).1::(numbL g r (g c k).2).1,(numbL g r (g c k).2).2)
def numF {α:Type}(g:α->Int->α×Int)(t:NodeF α)(k:Int):NodeF α×Int :=
 (⟨{ t.hd with num:=k },t.ents,(numbL g t.kids (k+1)).1⟩,(numbL g t.kids (k+1)).2)
def numN:(n:Nat)->Nd n->Int->Nd n×Int
 | 0,t=>numF (fun e:Empty=>e.elim) t
 | n+1,t=>numF (numN n) t
def NTree.numbered (x:NTree):NTree:=⟨x.d,(numN x.d x.t 1).1⟩
def entBytes (e:Ent):ByteArray:=pnum e.place 5++txt e.row
def kidBytes (h:Head)(b:ByteArray):ByteArray:=pnum h.least 5++pnum h.rows 1++b
def writtenF {α:Type}(f:α->Head)(t:NodeF α)(below:List ByteArray):ByteArray :=
 ((t.kids.zip below).map fun x=>kidBytes (f x.1) x.2).foldl (·++·) ((t.ents.map entBytes).foldl (·++·) (pnum (if t.hd.inner then 2 else 1) 1++pnum (sizeF t) 1))
end Sq
namespace Sq
def eraseH (h:Head):Head:={ h with num:=0 }
def eraseF {α:Type}(g:α->α)(t:NodeF α):NodeF α:=⟨eraseH t.hd,t.ents,t.kids.map g⟩
def eraseN:(n:Nat)->Nd n->Nd n
 | 0,t=>eraseF (fun e:Empty=>e.elim) t
 | n+1,t=>eraseF (eraseN n) t
def toNd:(n:Nat)->List (Kid n)->Nd n
 | 0,es=>leafF es
 | n+1,cs=>innerF (headN n) (List.map (toNd n) (show List (List (Kid n)) from cs))
def rep (n:Nat)(t:Nd n)(x:List (Kid n)):Prop:=eraseN n t=toNd n x
def reps (n:Nat)(l:List (Nd n))(cs:List (List (Kid n))):Prop:=l.map (eraseN n)=cs.map (toNd n)
theorem jQpT {α β:Type}(g:α->List β):∀l:List α,((l.map fun c=>((g c).length:Int)).sum)=((l.flatMap g).length:Int)
 | []=>rfl
 | c::r=>by
  rw[List.map_cons,List.sum_cons,jQpT g r,List.flatMap_cons,List.length_append];omega
theorem jQdQ:∀(n:Nat) (x:List (Kid n)),headN n (toNd n x)=⟨n != 0,least n x,((ents n x).length:Nat),nobytes,0⟩
 | 0,es=>by
  show(leafF (α:=Empty) es).hd=_
  unfold leafF;cases es with
  | nil=>rfl
  | cons e r=>rfl
 | n+1,cs=>by
  show(innerF (headN n) (List.map (toNd n) (show List (List (Kid n)) from cs))).hd=_
  unfold innerF sumRows2;rw[List.map_map]
  have h1:((fun c=>(headN n c).rows) ∘ toNd n)=fun c=>((ents n c).length:Int):=by
   funext c
   show(headN n (toNd n c)).rows=_
   rw[jQdQ n c]
  rw[h1,jQpT]
  have h2:firstLeast (headN n) (List.map (toNd n) (show List (List (Kid n)) from cs))=least (n+1) cs:=by
   cases (show List (List (Kid n)) from cs) with
   | nil=>rfl
   | cons c r =>
    show(headN n (toNd n c)).least=least n c
    rw[jQdQ n c]
  rw[h2];rfl
theorem jQeP:∀(n:Nat) (t:Nd n),headN n (eraseN n t)=eraseH (headN n t)
 | 0,_=>rfl
 | _+1,_=>rfl
theorem rep.head {n:Nat}{t:Nd n}{x:List (Kid n)}(h:rep n t x):(headN n t).inner=(n != 0)/\(headN n t).least=least n x/\(headN n t).rows=((ents n x).length:Nat)/\(headN n t).sl=nobytes:=by
 have h1:=jQeP n t;rw[h,jQdQ] at h1
 have h2:∀{a b:Head},a=eraseH b->b.inner=a.inner/\b.least=a.least/\b.rows=a.rows/\b.sl=a.sl:=by
  intro a b hab;subst hab;exact⟨rfl,rfl,rfl,rfl⟩
 exact h2 h1
theorem rep.open {n:Nat}{t:Nd n}{x:List (Kid n)}(h:rep n t x):isShut (headN n t)=false:=by
 unfold isShut;rw[h.head.2.2.2];rfl
theorem rep.leaf {t:NodeF Empty}{es:List Ent}(h:rep 0 t es):t.hd.inner=false/\t.ents=es/\t.kids=[]:=by
 have h1:=h.head;have h2:(eraseF (fun e:Empty=>e.elim) t).ents=(leafF (α:=Empty) es).ents:=congrArg NodeF.ents h;refine⟨h1.1,h2,?_⟩;cases hk:t.kids with
 | nil=>rfl
 | cons e _=>exact e.elim
theorem rep.inner {n:Nat}{t:NodeF (Nd n)}{cs:List (List (Kid n))}(h:rep (n+1) t cs):t.hd.inner=true/\t.ents=[]/\reps n t.kids cs:=by
 have h1:=h.head;have h2:(eraseF (eraseN n) t).ents=(innerF (headN n) (List.map (toNd n) cs)).ents:=congrArg NodeF.ents h;have h3:(eraseF (eraseN n) t).kids=(innerF (headN n) (List.map (toNd n) cs)).kids:=congrArg NodeF.kids h;exact⟨by have h4:t.hd.inner=(n+1 != 0):=h1.1;simpa using h4,h2,h3⟩
theorem reps.len {n:Nat}{l:List (Nd n)}{cs:List (List (Kid n))}(h:reps n l cs):l.length=cs.length:=by
 have:=congrArg List.length h
 simpa using this
theorem reps.at {n:Nat}{l:List (Nd n)}{cs:List (List (Kid n))}(h:reps n l cs){i:Nat}{c:Nd n}(hc:l[i]?=some c):∃x,cs[i]?=some x/\rep n c x:=by
 have h1:(l.map (eraseN n))[i]?=(cs.map (toNd n))[i]?:=by rw[h]
 rw[List.getElem?_map,List.getElem?_map,hc] at h1;cases hx:cs[i]? with
 | none=>rw[hx] at h1;simp at h1
 | some x=>rw[hx] at h1;simp at h1;exact⟨x,rfl,h1⟩
theorem reps.none {n:Nat}{l:List (Nd n)}{cs:List (List (Kid n))}(h:reps n l cs){i:Nat}(hc:l[i]?=none):cs[i]?=none:=by
 rw[List.getElem?_eq_none_iff] at hc ⊢;rw[<-h.len];exact hc
theorem reps.cons {n:Nat}{c:Nd n}{l:List (Nd n)}{x:List (Kid n)}{cs:List (List (Kid n))}:reps n (c::l) (x::cs)↔rep n c x/\reps n l cs:=by
 unfold reps rep;rw[List.map_cons,List.map_cons,List.cons.injEq]
theorem reps.take {n:Nat}{l:List (Nd n)}{cs:List (List (Kid n))}(h:reps n l cs)(k:Nat):reps n (l.take k) (cs.take k):=by
 unfold reps;rw[List.map_take,List.map_take,h]
theorem reps.drop {n:Nat}{l:List (Nd n)}{cs:List (List (Kid n))}(h:reps n l cs)(k:Nat):reps n (l.drop k) (cs.drop k):=by
 unfold reps;rw[List.map_drop,List.map_drop,h]
theorem reps.append {n:Nat}{l m:List (Nd n)}{cs ds:List (List (Kid n))}(h:reps n l cs)(k:reps n m ds):reps n (l++m) (cs++ds):=by
 unfold reps;rw[List.map_append,List.map_append,h,k]
theorem reps.one {n:Nat}{c:Nd n}{x:List (Kid n)}(h:rep n c x):reps n [c] [x]:=by
 unfold reps;rw[List.map_singleton,List.map_singleton,h]
theorem reps.exch {n:Nat}{l o:List (Nd n)}{cs ds:List (List (Kid n))}(h:reps n l cs)(k:reps n o ds)(a m:Nat):reps n (exch l a m o) (exch cs a m ds):=((h.take a).append k).append (h.drop (a+m))
theorem jQd3 {n:Nat}(p:Int):∀{l:List (Nd n)} {cs:List (List (Kid n))},reps n l cs->∀i a,wayFromF (headN n) p l i a=wayFrom n p cs i a
 | [],[],_,_,_=>rfl
 | [],x::cs,h,_,_=>by have:=h.len;simp at this
 | c::l,[],h,_,_=>by have:=h.len;simp at this
 | c::l,x::cs,h,i,a=>by
  obtain⟨h1,h2⟩:=reps.cons.1 h;rw[wayFromF,wayFrom,h1.head.2.1];exact jQd3 p h2 _ _
theorem jQir {n:Nat}(p:Int){l:List (Nd n)}{cs:List (List (Kid n))}(h:reps n l cs):wayF (headN n) l p=way n cs p:=jQd3 p (h.drop 1) 1 0
theorem jQp4:∀(n:Nat) (t:Nd n) (x:List (Kid n)) (p:Int) (tr:Trl),rep n t x->(hasN n t p tr).1=hasT n x p
 | 0,t,x,p,tr,h=>by
  obtain⟨h1,h2,-⟩:=rep.leaf h
  show(hasF _ _ t p tr).1=_
  unfold hasF;rw[h1,h2];rfl
 | n+1,t,x,p,tr,h=>by
  obtain⟨h1,-,h3⟩:=rep.inner h
  show(hasF (headN n) (hasN n) t p tr).1=hasO (fun c=>hasT n c p) (show List (List (Kid n)) from x)[way n x p]?
  unfold hasF;rw[h1,jQir p h3];simp only[if_true];cases hc:t.kids[way n x p]? with
  | none=>rw[h3.none hc];rfl
  | some c =>
   obtain⟨y,hy,hr⟩:=h3.at hc;rw[hy];exact jQp4 n c y p _ hr
theorem jQiQ {n:Nat}(lo:Int):∀{l:List (Nd n)} {cs:List (List (Kid n))},reps n l cs->nextLowF (headN n) lo l=nextLow n lo cs
 | [],[],_=>rfl
 | [],x::cs,h=>by have:=h.len;simp at this
 | c::l,[],h=>by have:=h.len;simp at this
 | c::l,x::cs,h=>by
  rw[nextLowF,nextLow,(reps.cons.1 h).1.head.2.1]
theorem jQd8 {n:Nat}(lo hi:Int)(g:Nd n->Trl->List Ent×Trl)(f:List (Kid n)->List Ent)(hg:∀c x tr,rep n c x->(g c tr).1=f x):∀{l:List (Nd n)} {cs:List (List (Kid n))},reps n l cs->∀y,(thruL (headN n) g lo hi l y).1=y.1++btwL n f lo hi cs
 | [],[],_,y=>by rw[thruL,btwL];simp
 | [],x::cs,h,_=>by have:=h.len;simp at this
 | c::l,[],h,_=>by have:=h.len;simp at this
 | c::l,x::cs,h,y=>by
  obtain⟨h1,h2⟩:=reps.cons.1 h;rw[thruL,btwL,h1.head.2.1,jQiQ lo h2]
  split
  ·rw[jQd8 lo hi g f hg h2,hg c x _ h1,List.append_assoc]
  ·rw[jQd8 lo hi g f hg h2,List.nil_append]
theorem jQlZ:∀(n:Nat) (t:Nd n) (x:List (Kid n)) (lo hi:Int) (tr:Trl),rep n t x->(thruN n t lo hi tr).1=btwT n x lo hi
 | 0,t,x,lo,hi,tr,h=>by
  obtain⟨h1,h2,h3⟩:=rep.leaf h
  show(thruF _ _ t lo hi tr).1=_
  unfold thruF;rw[h2,h3,thruL];rfl
 | n+1,t,x,lo,hi,tr,h=>by
  obtain⟨h1,h2,h3⟩:=rep.inner h
  show(thruF (headN n) (thruN n) t lo hi tr).1=btwL n (fun c=>btwT n c lo hi) lo hi x
  unfold thruF;rw[jQd8 lo hi _ (fun c=>btwT n c lo hi) (fun c y tr hr=>jQlZ n c y lo hi tr hr) h3,h2];rfl
theorem jQiJ (es:List Ent):rep 0 (leafF (α:=Empty) es) es:=by
 show eraseF _ (leafF (α:=Empty) es)=leafF es;rfl
theorem jQfT {n:Nat}{l:List (Nd n)}{cs:List (List (Kid n))}(h:reps n l cs):(innerF (headN n) l).hd=(innerF (headN n) (cs.map (toNd n))).hd:=by
 have h1:∀(a b:List (Nd n)),a.map (eraseN n)=b.map (eraseN n)->firstLeast (headN n) a=firstLeast (headN n) b/\sumRows2 (headN n) a=sumRows2 (headN n) b:=by
  intro a b hab
  have hh:∀c d:Nd n,eraseN n c=eraseN n d->(headN n c).least=(headN n d).least/\(headN n c).rows=(headN n d).rows:=by
   intro c d hcd;have h2:=jQeP n c;rw[hcd,jQeP n d] at h2;exact⟨(congrArg Head.least h2).symm,(congrArg Head.rows h2).symm⟩
  refine⟨?_,?_⟩
  ·cases a with
   | nil=>cases b with
    | nil=>rfl
    | cons d r=>simp at hab
   | cons c q=>cases b with
    | nil=>simp at hab
    | cons d r=>simp at hab;exact(hh c d hab.1).1
  ·unfold sumRows2
   have h3:∀(a b:List (Nd n)),a.map (eraseN n)=b.map (eraseN n)->(a.map fun c=>(headN n c).rows)=(b.map fun c=>(headN n c).rows):=by
    intro a
    induction a with
    | nil=>intro b hb;cases b with
     | nil=>rfl
     | cons d r=>simp at hb
    | cons c q ih=>intro b hb;cases b with
     | nil=>simp at hb
     | cons d r =>
      rw[List.map_cons,List.map_cons,List.cons.injEq] at hb;rw[List.map_cons,List.map_cons,(hh c d hb.1).2,ih r hb.2]
   rw[h3 a b hab]
 have h2:∀(m:Nat) (x:List (Kid m)),eraseN m (toNd m x)=toNd m x:=by
  intro m
  induction m with
  | zero=>intro x;rfl
  | succ m ih =>
   intro x;show eraseF (eraseN m) (innerF (headN m) (List.map (toNd m) (show List (List (Kid m)) from x)))=innerF (headN m) (List.map (toNd m) (show List (List (Kid m)) from x));unfold eraseF innerF
   dsimp only
   rw[List.map_map,show(eraseN m ∘ toNd m)=toNd m from funext fun c=>ih c];rfl
 have h3:=h1 l (cs.map (toNd n)) (by rw[List.map_map,show(eraseN n ∘ toNd n)=toNd n from funext fun c=>h2 n c];exact h);unfold innerF
 dsimp only
 rw[h3.1,h3.2]
theorem jQbi {n:Nat}{l:List (Nd n)}{cs:List (List (Kid n))}(h:reps n l cs):rep (n+1) (innerF (headN n) l) cs:=by
 have h1:=jQfT h;show eraseF (eraseN n) (innerF (headN n) l)=innerF (headN n) (List.map (toNd n) cs);unfold eraseF;rw[h1]
 show(⟨_,[],l.map (eraseN n)⟩:NodeF (Nd n))=⟨_,[],cs.map (toNd n)⟩
 rw[h];rfl
theorem jQfH (es:List Ent):reps 0 (leavesF (α:=Empty) es) (halve es):=by
 unfold reps leavesF;rw[List.map_map];refine List.map_congr_left fun x _=>?_
 exact jQiJ x
theorem jQfI {n:Nat}{l:List (Nd n)}{cs:List (List (Kid n))}(h:reps n l cs):reps (n+1) (innersF (headN n) l) (halve cs):=by
 unfold innersF halve;rw[h.len]
 split
 ·exact reps.one (jQbi h)
 ·exact(reps.one (jQbi (h.take 3))).append (reps.one (jQbi (h.drop 3)))
theorem jQfz {α:Type}(f:α->Head)(p:Int):∀(l:List α) (i a:Nat),a<i->wayFromF f p l i a<i+l.length
 | [],i,a,h=>by rw[wayFromF];simpa using h
 | c::r,i,a,h=>by
  rw[wayFromF,List.length_cons];have h1:=jQfz f p r (i+1) (if(f c).least<=p then i else a) (by split<;>omega);omega
theorem jQjr {α:Type}(f:α->Head)(l:List α)(p:Int)(h:l≠[]):wayF f l p<l.length:=by
 unfold wayF;have h1:=jQfz f p (l.drop 1) 1 0 (by omega);have h2:0<l.length:=List.length_pos_iff.2 h;rw[List.length_drop] at h1;omega
theorem jQpV:∀(n:Nat) (t:Nd n) (x:List (Kid n)) (e:Ent) (tr:Trl),rep n t x->okT n x->(n=0\/x≠[])->reps n (putN n t e tr).1 (putT n x e)
 | 0,t,x,e,tr,h,_,_=>by
  obtain⟨h1,h2,-⟩:=rep.leaf h;show reps 0 (putF _ _ t e tr).1 (halve (withE x e));unfold putF;rw[h1,h2];exact jQfH _
 | n+1,t,x,e,tr,h,ho,hne=>by
  obtain⟨h1,-,h3⟩:=rep.inner h;have hc:=jQir e.place h3
  have hb:way n x e.place<t.kids.length:=by
   rw[<-hc];refine jQjr _ _ _ fun h0=>?_
   have hl:=h3.len;rw[h0] at hl;rcases hne with hne | hne
   ·omega
   ·exact hne (List.length_eq_zero_iff.1 hl.symm)
  show reps (n+1) (putF (headN n) (putN n) t e tr).1 (putO x (way n x e.place) (fun c=>putT n c e) ((show List (List (Kid n)) from x)[way n x e.place]?));unfold putF;rw[h1,hc];simp only[if_true];rw[List.getElem?_eq_getElem hb];obtain⟨y,hy,hr⟩:=h3.at (List.getElem?_eq_getElem hb);rw[hy];have ha:=jQ0 ho (List.mem_of_getElem? hy);exact jQfI (h3.exch (jQpV n _ y e _ hr ha.2 (Or.inr (jQad ha.1))) _ _)
theorem jQiG:∀(n:Nat) (t:Nd n) (x:List (Kid n)),rep n t x->sizeN n t=x.length
 | 0,t,x,h=>by
  obtain⟨h1,h2,-⟩:=rep.leaf h;show sizeF t=_;unfold sizeF;rw[h1,h2];rfl
 | n+1,t,x,h=>by
  obtain⟨h1,-,h3⟩:=rep.inner h;show sizeF t=_;unfold sizeF;rw[h1];exact h3.len
theorem jQiw:∀(n:Nat) (l r:Nd n) (x y:List (Kid n)),rep n l x->rep n r y->reps n (togetherN n l r) (halve (x++y))
 | 0,l,r,x,y,hl,hr=>by
  obtain⟨h1,h2,-⟩:=rep.leaf hl;obtain⟨-,k2,-⟩:=rep.leaf hr;show reps 0 (togetherF _ l r) _;unfold togetherF;rw[h1,h2,k2];exact jQfH _
 | n+1,l,r,x,y,hl,hr=>by
  obtain⟨h1,-,h3⟩:=rep.inner hl;obtain⟨-,-,k3⟩:=rep.inner hr;show reps (n+1) (togetherF (headN n) l r) _;unfold togetherF;rw[h1];exact jQfI (h3.append k3)
theorem jQnw {n:Nat}{l:List (Nd n)}{cs:List (List (Kid n))}(h:reps n l cs)(a:Nat)(tr:Trl):reps n (joinedF (headN n) (togetherN n) l a tr).1 (joinK cs a):=by
 unfold joinedF joinK joinAt;rw[h.len]
 split
 ·rename_i h0;rw[Bool.and_eq_true,beq_iff_eq,beq_iff_eq] at h0;obtain⟨h1,rfl⟩:=h0
  have e1:cs[(if 0+1==cs.length then 0-1 else 0)+1]?=none:=by
   rw[List.getElem?_eq_none_iff]
   split<;>omega
  rw[e1];cases cs[if 0+1==cs.length then 0-1 else 0]? <;> exact h
 ·generalize (if a+1==cs.length then a-1 else a)=b;cases hl:l[b]? with
  | none =>
   rw[h.none hl];exact h
  | some c =>
   obtain⟨y,hy,hr⟩:=h.at hl;rw[hy];cases hl2:l[b+1]? with
   | none =>
    rw[h.none hl2];exact h
   | some d =>
    obtain⟨z,hz,hq⟩:=h.at hl2;rw[hz];exact h.exch (jQiw n c d y z hr hq) b 2
theorem jQp8:∀(n:Nat) (t:Nd n) (x:List (Kid n)) (p:Int) (tr:Trl),rep n t x->rep n (delN n t p tr).1 (delT n x p)
 | 0,t,x,p,tr,h=>by
  obtain⟨h1,h2,-⟩:=rep.leaf h;show rep 0 (delF _ _ _ _ t p tr).1 _;unfold delF;rw[h1,h2];exact jQiJ _
 | n+1,t,x,p,tr,h=>by
  obtain⟨h1,-,h3⟩:=rep.inner h;show rep (n+1) (delF (headN n) (sizeN n) (togetherN n) (delN n) t p tr).1 (delO x (way n x p) (fun c=>delT n c p) (show List (List (Kid n)) from x)[way n x p]?);unfold delF;rw[h1,jQir p h3];simp only[if_true];cases hc:t.kids[way n x p]? with
  | none=>rw[h3.none hc];exact h
  | some c =>
   obtain⟨y,hy,hr⟩:=h3.at hc;rw[hy];have hd:=jQp8 n c y p (touchR tr (NodeF.hd t)) hr;have hz:=jQiG n _ _ hd;have he:=h3.exch (reps.one hd) (way n x p) 1;show rep (n+1) _ (mended x (way n x p) (delT n y p));unfold mended
   dsimp only
   rw[hz]
   split
   ·exact jQbi (jQnw he _ _)
   ·exact jQbi he
def repT (X:NTree)(x:Tree):Prop:=∃h:X.d=x.d,rep x.d (h ▸ X.t) x.t
theorem repT.mk' {n:Nat}{t:Nd n}{x:List (Kid n)}(h:rep n t x):repT ⟨n,t⟩ ⟨n,x⟩:=⟨rfl,h⟩
theorem repT.cases {X:NTree}{x:Tree}(h:repT X x):∃n t y,X=⟨n,t⟩/\x=⟨n,y⟩/\rep n t y:=by
 obtain⟨d,t⟩:=X;obtain⟨e,y⟩:=x;obtain⟨h1,h2⟩:=h
 dsimp only at h1
 subst h1;exact⟨d,t,y,rfl,rfl,h2⟩
theorem repT0:repT ntree0 tree0:=repT.mk' (jQiJ [])
theorem repT.put {X:NTree}{x:Tree}(h:repT X x)(ho:x.ok)(e:Ent)(tr:Trl):repT (X.put e tr).1 (x.put e):=by
 obtain⟨n,t,y,rfl,rfl,hr⟩:=h.cases;have hp:=jQpV n t y e tr hr ho.kids ho.ne;show repT (upN n (putN n t e tr).1) (upT n (putT n y e));generalize (putN n t e tr).1=l at *;generalize putT n y e=cs at *
 match l,cs,hp with
 | [],[],hp=>exact repT.mk' (jQbi (n:=n) hp)
 | [c],[z],hp=>exact repT.mk' (reps.cons.1 hp).1
 | c::d::q,z::u::r,hp=>exact repT.mk' (jQbi (n:=n) hp)
 | [],_::_,hp=>have:=hp.len;simp at this
 | _::_,[],hp=>have:=hp.len;simp at this
 | [c],_::_::_,hp=>have:=hp.len;simp at this
 | _::_::_,[z],hp=>have:=hp.len;simp at this
theorem repT.del {X:NTree}{x:Tree}(h:repT X x)(p:Int)(tr:Trl):repT (X.del p tr).1 (x.del p):=by
 obtain⟨n,t,y,rfl,rfl,hr⟩:=h.cases;have hp:=jQp8 n t y p tr hr;show repT (downN n (delN n t p tr).1) (downT n (delT n y p));generalize (delN n t p tr).1=t' at *;generalize delT n y p=z at *
 match n,t',z,hp with
 | 0,t',z,hp=>exact repT.mk' hp
 | n+1,t',z,hp =>
  obtain⟨h1,h2,h3⟩:=rep.inner hp;show repT (if(NodeF.hd t').inner then(match NodeF.kids t' with | [c]=>⟨n,c⟩ | _=>⟨n+1,t'⟩) else⟨n+1,t'⟩) (match (show List (List (Kid n)) from z) with | [x]=>⟨n,x⟩ | l=>⟨n+1,l⟩);rw[h1];simp only[if_true]
  match hk:NodeF.kids t',(show List (List (Kid n)) from z),hp,h3 with
  | [c],[w],hp,h3=>exact repT.mk' (reps.cons.1 h3).1
  | [],[],hp,h3=>exact repT.mk' hp
  | c::d::q,u::v::r,hp,h3=>exact repT.mk' hp
  | [],_::_,hp,h3=>have:=h3.len;simp at this
  | _::_,[],hp,h3=>have:=h3.len;simp at this
  | [c],_::_::_,hp,h3=>have:=h3.len;simp at this
  | _::_::_,[w],hp,h3=>have:=h3.len;simp at this
theorem repT.has {X:NTree}{x:Tree}(h:repT X x)(p:Int)(tr:Trl):(X.has p tr).1=hasT x.d x.t p:=by
 obtain⟨n,t,y,rfl,rfl,hr⟩:=h.cases;exact jQp4 n t y p tr hr
theorem repT.thru {X:NTree}{x:Tree}(h:repT X x)(lo hi:Int)(tr:Trl):(X.thru lo hi tr).1=btwT x.d x.t lo hi:=by
 obtain⟨n,t,y,rfl,rfl,hr⟩:=h.cases;exact jQlZ n t y lo hi tr hr
theorem jQkh:∀(n:Nat) (t:Nd n) (k:Int),eraseN n (numN n t k).1=eraseN n t
 | 0,t,k=>by
  show eraseF _ (numF _ t k).1=eraseF _ t;unfold eraseF numF;have h1:∀l:List Empty,l=[]:=fun l=>by cases l with | nil=>rfl | cons e _=>exact e.elim
  have h2:t.kids=[]:=h1 _;rw[h2];rfl
 | n+1,t,k=>by
  show eraseF (eraseN n) (numF (numN n) t k).1=eraseF (eraseN n) t;unfold eraseF numF
  have h1:∀(l:List (Nd n)) (k:Int),(numbL (numN n) l k).1.map (eraseN n)=l.map (eraseN n):=by
   intro l
   induction l with
   | nil=>intro k;rfl
   | cons c r ih =>
    intro k;rw[numbL,List.map_cons,List.map_cons,ih,jQkh n c k]
  dsimp only
  rw[h1];rfl
theorem repT.numbered {X:NTree}{x:Tree}(h:repT X x):repT X.numbered x:=by
 obtain⟨n,t,y,rfl,rfl,hr⟩:=h.cases;refine repT.mk' ?_;unfold rep;rw[jQkh];exact hr
end Sq
section
open Go.RowKit
def entCells (e:Ent):List Value:=[.int .i64 e.place,.string e.row]
def headCells (h:Sq.Head)(ev cv:Value):List Value:=[.bool h.inner,ev,cv,.int .i64 h.least,.int .i64 h.rows,.string h.sl,.int .i64 h.num]
def nodeCells (n:Nat)(x:Sq.Nd n×Value×Value):List Value:=headCells (Sq.headN n x.1) x.2.1 x.2.2
def EntsAt (B:Nat)(w:World)(v:Value)(es:List Ent):Prop:=w.ownsRow B 141 2 v es.length (es.flatMap entCells)
def offV (Z:Nat->Prop)(v:Value):Prop:=∀g o p k c,v=.slice (some ⟨g,o,p⟩) k c->¬Z g
def NodeAt (Z:Nat->Prop)(w:World):(n:Nat)->Sq.Nd n->Value->Value->Prop
 | 0,t,ev,cv=>EntsAt 0 w ev (Sq.NodeF.ents t)/\cv=.slice none 0 0
 | n+1,t,ev,cv=>EntsAt 0 w ev (Sq.NodeF.ents t)/\∃l:List (Sq.Nd n×Value×Value),Sq.NodeF.kids t=l.map Prod.fst/\w.ownsRow 0 60 7 cv l.length (l.flatMap (nodeCells n))/\offV Z cv/\∀x∈l,NodeAt Z w n x.1 x.2.1 x.2.2
variable {Z:Nat->Prop}
structure NodesAt (Z:Nat->Prop)(B:Nat)(w:World)(v:Value)(n:Nat)(l:List (Sq.Nd n×Value×Value)):Prop where
 own:w.ownsRow B 60 7 v l.length (l.flatMap (nodeCells n))
 each:∀x∈l,NodeAt Z w n x.1 x.2.1 x.2.2
theorem NodeAt.leaf {w:World}{t:Sq.NodeF Empty}{ev cv:Value}(h:NodeAt Z w 0 t ev cv):EntsAt 0 w ev t.ents/\cv=.slice none 0 0:=h
theorem NodeAt.inner {w:World}{n:Nat}{t:Sq.NodeF (Sq.Nd n)}{ev cv:Value}(h:NodeAt Z w (n+1) t ev cv):EntsAt 0 w ev t.ents/\∃l,t.kids=l.map Prod.fst/\NodesAt Z 0 w cv n l:=by
 obtain⟨h1,l,h2,h3,_,h4⟩:=h;exact⟨h1,l,h2,h3,h4⟩
theorem jQbW {B n:Nat}{w:World}{v:Value}{l:List (Sq.Nd n×Value×Value)}(h:NodesAt Z B w v n l)(hZ:∀g,B<=g->¬Z g):offV Z v:=by
 intro g o p k c hv;rcases h.own.2 with⟨h0,_⟩ | ⟨g',cap,cur,hv',hbg,_⟩
 ·rw[h0] at hv;simp at hv
 ·rw[hv'] at hv;simp only[Value.slice.injEq,Option.some.injEq,Addr.mk.injEq] at hv;rw[<-hv.1.1];exact hZ g' hbg
theorem NodeAt.mk {w:World}{n:Nat}{t:Sq.NodeF (Sq.Nd n)}{ev cv:Value}{l:List (Sq.Nd n×Value×Value)}(h0:EntsAt 0 w ev t.ents)(h1:t.kids=l.map Prod.fst)(h2:NodesAt Z 0 w cv n l)(hz:offV Z cv):NodeAt Z w (n+1) t ev cv:=⟨h0,l,h1,h2.own,hz,h2.each⟩
theorem EntsAt.below {B:Nat}{w w':World}{v:Value}{es:List Ent}(h:EntsAt B w v es)(hb:Below w.heap.size w w'):EntsAt B w' v es:=jQh h hb
theorem EntsAt.base {B B':Nat}{w:World}{v:Value}{es:List Ent}(h:EntsAt B w v es)(hb:B'<=B):EntsAt B' w v es:=jQj h hb
theorem EntsAt.nil (w:World):EntsAt 0 w (.slice none 0 0) []:=⟨rfl,Or.inl ⟨rfl,rfl⟩⟩
theorem NodeAt.below:∀{n:Nat} {w w':World} {t:Sq.Nd n} {ev cv:Value},NodeAt Z w n t ev cv->Below w.heap.size w w'->NodeAt Z w' n t ev cv
 | 0,_,_,_,_,_,h,hb=>⟨h.1.below hb,h.2⟩
 | _+1,_,_,_,_,_,h,hb=>by
  obtain⟨h1,l,h2,h3,hz,h4⟩:=h;exact⟨h1.below hb,l,h2,jQh h3 hb,hz,fun x hx=>(h4 x hx).below hb⟩
theorem NodesAt.below {B n:Nat}{w w':World}{v:Value}{l:List (Sq.Nd n×Value×Value)}(h:NodesAt Z B w v n l)(hb:Below w.heap.size w w'):NodesAt Z B w' v n l:=⟨jQh h.own hb,fun x hx=>(h.each x hx).below hb⟩
theorem NodesAt.base {B B' n:Nat}{w:World}{v:Value}{l:List (Sq.Nd n×Value×Value)}(h:NodesAt Z B w v n l)(hb:B'<=B):NodesAt Z B' w v n l:=⟨jQj h.own hb,h.each⟩
theorem NodeAt.slices:∀{n:Nat} {w:World} {t:Sq.Nd n} {ev cv:Value},NodeAt Z w n t ev cv->(∃a k c,ev=.slice a k c)/\∃a k c,cv=.slice a k c
 | 0,_,_,_,_,h=>by
  obtain⟨a,c,h2⟩:=jQa h.1;exact⟨⟨a,_,c,h2⟩,⟨none,0,0,h.2⟩⟩
 | n+1,_,_,_,_,h=>by
  obtain⟨h1,l,h2,h3,_,h4⟩:=h;obtain⟨a,c,h5⟩:=jQa h3;obtain⟨a',c',h6⟩:=jQa h1;exact⟨⟨a',_,c',h6⟩,⟨a,_,c,h5⟩⟩
theorem jQeS (es:List Ent):∀v∈es.flatMap entCells,v.oneCell'=true:=by
 intro v hv;obtain⟨x,_,hx⟩:=List.mem_flatMap.1 hv;simp only[entCells,List.mem_cons,List.not_mem_nil,or_false] at hx;rcases hx with rfl | rfl<;>rfl
theorem NodesAt.one {n:Nat}{w:World}{l:List (Sq.Nd n×Value×Value)}(h:∀x∈l,NodeAt Z w n x.1 x.2.1 x.2.2):∀u∈l.flatMap (nodeCells n),u.oneCell'=true:=by
 intro u hu;obtain⟨x,hx,hux⟩:=List.mem_flatMap.1 hu;obtain⟨⟨a,k,c,h1⟩,a',k',c',h2⟩:=(h x hx).slices;simp only[nodeCells,headCells,List.mem_cons,List.not_mem_nil,or_false] at hux;rcases hux with rfl | rfl | rfl | rfl | rfl | rfl | rfl
 ·rfl
 ·rw[h1];rfl
 ·rw[h2];rfl
 ·rfl
 ·rfl
 ·rfl
 ·rfl
theorem NodeAt.same:∀{n:Nat} {w w':World} {t:Sq.Nd n} {ev cv:Value},NodeAt Z w n t ev cv->(∀(g:Nat) (c:Array Value) (e:TypeId) (fr:Nat×Nat),w.heap[g]?=some (Obj.cells c e fr)->(e=141\/e=60)->w'.heap[g]?=w.heap[g]?)->NodeAt Z w' n t ev cv
 | 0,_,_,_,_,_,h,hs=>by
  refine⟨⟨h.1.1,?_⟩,h.2⟩;rcases h.1.2 with h0 | ⟨g,cap,cur,hv,hbg,hh,hn,hm,hc,ht⟩
  ·exact Or.inl h0
  ·exact Or.inr ⟨g,cap,cur,hv,hbg,(hs g _ _ _ hh (Or.inl rfl)).trans hh,hn,hm,hc,ht⟩
 | _+1,_,_,_,_,_,h,hs=>by
  obtain⟨h1,l,h2,h3,hz,h4⟩:=h;refine⟨⟨h1.1,?_⟩,l,h2,⟨h3.1,?_⟩,hz,fun x hx=>(h4 x hx).same hs⟩
  ·rcases h1.2 with h0 | ⟨g,cap,cur,hv,hbg,hh,hn,hm,hc,ht⟩
   ·exact Or.inl h0
   ·exact Or.inr ⟨g,cap,cur,hv,hbg,(hs g _ _ _ hh (Or.inl rfl)).trans hh,hn,hm,hc,ht⟩
  ·rcases h3.2 with h0 | ⟨g,cap,cur,hv,hbg,hh,hn,hm,hc,ht⟩
   ·exact Or.inl h0
   ·exact Or.inr ⟨g,cap,cur,hv,hbg,(hs g _ _ _ hh (Or.inr rfl)).trans hh,hn,hm,hc,ht⟩
theorem EntsAt.at {B:Nat}{w:World}{v:Value}{es:List Ent}(h:EntsAt B w v es)(k:Nat)(hk:k<es.length) :
  ∃g cap,v=.slice (some ⟨g,0,none⟩) es.length cap/\g<w.heap.size/\w.cell? ⟨g,k*2,none⟩=some (.int .i64 es[k].place)/\w.cell? ⟨g,k*2+1,none⟩=some (.string es[k].row):=by
 obtain⟨g,cap,hv,hg,hc⟩:=sl_at (f:=entCells) (fun _=>rfl) h k hk;have c0:=hc 0 (.int .i64 es[k].place) (by decide) rfl;have c1:=hc 1 (.string es[k].row) (by decide) rfl;exact⟨g,cap,hv,hg,by simpa using c0,c1⟩
structure SevenAt (w:World)(g o:Nat)(h:Sq.Head)(ev cv:Value):Prop where
 c0:w.cell? ⟨g,o,none⟩=some (.bool h.inner)
 c1:w.cell? ⟨g,o+1,none⟩=some ev
 c2:w.cell? ⟨g,o+2,none⟩=some cv
 c3:w.cell? ⟨g,o+3,none⟩=some (.int .i64 h.least)
 c4:w.cell? ⟨g,o+4,none⟩=some (.int .i64 h.rows)
 c5:w.cell? ⟨g,o+5,none⟩=some (.string h.sl)
 c6:w.cell? ⟨g,o+6,none⟩=some (.int .i64 h.num)
theorem NodesAt.at {B n:Nat}{w:World}{v:Value}{l:List (Sq.Nd n×Value×Value)}(h:NodesAt Z B w v n l)(k:Nat)(hk:k<l.length) :
  ∃g cap ea el ec ca cl cc,v=.slice (some ⟨g,0,none⟩) l.length cap/\g<w.heap.size/\SevenAt w g (k*7) (Sq.headN n l[k].1) (.slice ea el ec) (.slice ca cl cc)/\l[k].2=(.slice ea el ec,.slice ca cl cc)/\NodeAt Z w n l[k].1 (.slice ea el ec) (.slice ca cl cc):=by
 obtain⟨g,cap,hv,hg,hc⟩:=sl_at (f:=nodeCells n) (fun _=>rfl) h.own k hk;have ht:=h.each l[k] (List.getElem_mem hk);obtain⟨⟨ea,el,ec,h1⟩,ca,cl,cc,h2⟩:=ht.slices;have c0:=hc 0 (.bool (Sq.headN n l[k].1).inner) (by decide) rfl;have c1:=hc 1 l[k].2.1 (by decide) rfl;have c2:=hc 2 l[k].2.2 (by decide) rfl;have c3:=hc 3 (.int .i64 (Sq.headN n l[k].1).least) (by decide) rfl;have c4:=hc 4 (.int .i64 (Sq.headN n l[k].1).rows) (by decide) rfl;have c5:=hc 5 (.string (Sq.headN n l[k].1).sl) (by decide) rfl;have c6:=hc 6 (.int .i64 (Sq.headN n l[k].1).num) (by decide) rfl;rw[h1] at c1 ht;rw[h2] at c2 ht;exact⟨g,cap,ea,el,ec,ca,cl,cc,hv,hg,⟨by simpa using c0,c1,c2,c3,c4,c5,c6⟩,by rw[<-h1,<-h2],ht⟩
theorem NodeAt.less {Y:Nat->Prop}(hY:∀g,Y g->Z g):∀{n:Nat} {w:World} {t:Sq.Nd n} {ev cv:Value},NodeAt Z w n t ev cv->NodeAt Y w n t ev cv
 | 0,_,_,_,_,h=>h
 | _+1,_,_,_,_,h=>by
  obtain⟨h1,l,h2,h3,hz,h4⟩:=h;exact⟨h1,l,h2,h3,fun g o p k c hv hg=>hz g o p k c hv (hY g hg),fun x hx=>(h4 x hx).less hY⟩
theorem NodeAt.more {b:Nat}:∀{n:Nat} {w:World} {t:Sq.Nd n} {ev cv:Value},w.heap.size<=b->NodeAt Z w n t ev cv->NodeAt (fun g=>Z g\/g=b) w n t ev cv
 | 0,_,_,_,_,_,h=>h
 | _+1,_,_,_,_,hb,h=>by
  obtain⟨h1,l,h2,h3,hz,h4⟩:=h;refine⟨h1,l,h2,h3,fun g o p k c hv hg=>?_,fun x hx=>(h4 x hx).more hb⟩;rcases hg with hg | rfl
  ·exact hz g o p k c hv hg
  ·rcases h3.2 with⟨h0,_⟩ | ⟨g',cap,cur,hv',hbg,hh,_⟩
   ·rw[h0] at hv;simp at hv
   ·rw[hv'] at hv;simp only[Value.slice.injEq,Option.some.injEq,Addr.mk.injEq] at hv;rw[hv.1.1] at hh
    have:=jQf hh
    omega
theorem NodeAt.skip {b:Nat}:∀{n:Nat} {w w':World} {t:Sq.Nd n} {ev cv:Value} {c:Array Value},NodeAt Z w n t ev cv->Z b->w.heap[b]?=some (.cells c 60)->(∀g,g≠b->w'.heap[g]?=w.heap[g]?)->NodeAt Z w' n t ev cv
 | 0,_,_,_,_,_,_,h,hz,hb,ho=>by
  refine⟨⟨h.1.1,?_⟩,h.2⟩;rcases h.1.2 with h0 | ⟨g,cap,cur,hv,hbg,hh,hn,hm,hc,ht⟩
  ·exact Or.inl h0
  ·refine Or.inr ⟨g,cap,cur,hv,hbg,(ho g ?_).trans hh,hn,hm,hc,ht⟩;rintro rfl;rw[hb] at hh;simp at hh
 | _+1,_,_,_,_,_,_,h,hz,hb,ho=>by
  obtain⟨h1,l,h2,h3,hzv,h4⟩:=h;refine⟨⟨h1.1,?_⟩,l,h2,⟨h3.1,?_⟩,hzv,fun x hx=>(h4 x hx).skip hz hb ho⟩
  ·rcases h1.2 with h0 | ⟨g,cap,cur,hv,hbg,hh,hn,hm,hc,ht⟩
   ·exact Or.inl h0
   ·refine Or.inr ⟨g,cap,cur,hv,hbg,(ho g ?_).trans hh,hn,hm,hc,ht⟩;rintro rfl;rw[hb] at hh;simp at hh
  ·rcases h3.2 with h0 | ⟨g,cap,cur,hv,hbg,hh,hn,hm,hc,ht⟩
   ·exact Or.inl h0
   ·refine Or.inr ⟨g,cap,cur,hv,hbg,(ho g ?_).trans hh,hn,hm,hc,ht⟩;rintro rfl;exact hzv g 0 none _ _ hv hz
end
section
open Go.RowKit
def Reads (w:World)(v:Value)(n size:Nat)(cs:List Value):Prop :=
 cs.length=n*size/\((v=.slice none 0 0/\n=0)\/∃g off cap,v=.slice (some ⟨g,off,none⟩) n cap/\g<w.heap.size/\∀j u,cs[j]?=some u->w.cell? ⟨g,off+j,none⟩=some u)
theorem jQaQ (g off j:Nat):(⟨g,off,none⟩:Addr).add j=⟨g,off+j,none⟩:=by unfold Addr.add;split<;>simp_all
theorem Reads.of_own {w:World}{B:Nat}{e:TypeId}{size:Nat}{v:Value}{n:Nat}{cs:List Value}(h:w.ownsRow B e size v n cs):Reads w v n size cs:=by
 refine⟨h.1,?_⟩;rcases Nat.eq_zero_or_pos n with h0 | h0
 ·rcases h.2 with h1 | ⟨g,cap,cur,hv,hbg,hh,hn,hm,hc,ht⟩
  ·exact Or.inl h1
  ·refine Or.inr ⟨g,0,cap,hv,jQf hh,fun j u hj=>?_⟩
   have:cs=[]:=by have:=h.1;rw[h0] at this;simpa using this
   rw[this] at hj;simp at hj
 ·obtain⟨g,cap,rfl,_,hlt⟩:=h.form h0;refine Or.inr ⟨g,0,cap,rfl,hlt,fun j u hj=>?_⟩
  have:=h.cells (g:=g) rfl j u hj
  rwa [jQaQ] at this
theorem Reads.slice {w:World}{size:Nat}{v:Value}{n:Nat}{cs:List Value}(h:Reads w v n size cs):∃ao cap,v=.slice ao n cap:=by
 rcases h.2 with⟨h1,h2⟩ | ⟨g,off,cap,h1,_⟩
 ·exact⟨none,0,by rw[h1,h2]⟩
 ·exact⟨_,cap,h1⟩
theorem Reads.below {w w':World}{size:Nat}{v:Value}{n:Nat}{cs:List Value}(h:Reads w v n size cs)(hb:Below w.heap.size w w'):Reads w' v n size cs:=by
 refine⟨h.1,?_⟩;rcases h.2 with h1 | ⟨g,off,cap,h1,h2,h3⟩
 ·exact Or.inl h1
 ·exact Or.inr ⟨g,off,cap,h1,Nat.lt_of_lt_of_le h2 hb.size,fun j u hj=>((bcell hb).1 g (off+j) h2).trans (h3 j u hj)⟩
theorem jQbg {P:Program}(w:World)(t ty e:TypeId)(i:TypeInfo)(size:Nat)(hu:P.underlying t=some (.slice e))(hi:P.info? e=some i)(hz1:i.size=size)
  (base:Nat) (g n cap:Nat) (so:Option Addr) (sc:Nat) (zs cs:List Value)
  (hod:w.ownsRow base e size (.slice (some ⟨g,0,none⟩) n cap) n zs) (hos:Reads w (.slice so n sc) n size cs) (h1:∀v∈cs,v.oneCell'=true) :
  ∃w',(Builtin.copy_ #[t,t] ty #[.slice (some ⟨g,0,none⟩) n cap,.slice so n sc]).run P w=.ok (goInt n) w'/\w'.ownsRow base e size (.slice (some ⟨g,0,none⟩) n cap) n cs/\Below base w w':=by
 obtain⟨hzl,hz⟩:=hod;obtain⟨hcl,hc⟩:=hos;rcases hz with⟨h,_⟩ | ⟨g',cap',cur,hv,hbg,hh,hn,hmx,hcs,ht⟩
 ·simp at h
 simp only[Value.slice.injEq,Option.some.injEq,Addr.mk.injEq] at hv;obtain⟨⟨rfl,-,-⟩,-,rfl⟩:=hv;rcases hc with⟨h,h0⟩ | ⟨g2,off,cap2,hv2,hbg2,hsr⟩
 ·simp only[Value.slice.injEq] at h;obtain⟨rfl,-,rfl⟩:=h;subst h0;have hf:cs=[]:=by simpa using hcl
  have hg:zs=[]:=by simpa using hzl
  subst hf;refine⟨w,?_,⟨by simp,Or.inr ⟨g,cap,cur,rfl,hbg,hh,hn,hmx,hcs,by simp⟩⟩,bR⟩;simp[Builtin.copy_,run_underlying hu,Builtin.lenOf,Builtin.firstCells,sizeOf,typeInfo,hi,storeCells]
 ·simp only[Value.slice.injEq] at hv2;obtain⟨rfl,-,rfl⟩:=hv2
  have ha:∀j v,cs[j]?=some v->w.cell? ((⟨g2,off,none⟩:Addr).add j)=some v:=by
   intro j v hj;rw[jQaQ];exact hsr j v hj
  have hl:=run_loadCells_list (P:=P) w ⟨g2,off,none⟩ cs ha;have he:n*size<=cap*size:=Nat.mul_le_mul_right _ hn;have hb:=run_storeCells_at P g 0 e cs 0 cur w hh (by omega) h1;refine⟨_,?_,⟨hcl,Or.inr ⟨g,cap,(cur.toList.take 0++cs++cur.toList.drop (0+0+cs.length)).toArray,rfl,hbg,setRow_heap w g cur _ e _ hh,hn,hmx,?_,?_⟩⟩,below_setRow (bR) hbg _⟩
  ·rw[hcl] at hl;simp[Builtin.copy_,run_underlying hu,Builtin.lenOf,Builtin.firstCells,sizeOf,typeInfo,hi,hz1,hl,hb]
  ·simp;omega
  ·simp[hcl]
theorem Tryz.infoEnt:(Tryz.prog.info? 141).map (fun i=>(i.zero,i.size,i.bytes))=some (some (.agg #[.int .i64 0,.string ⟨#[]⟩]),2,24):=by kernel_rfl
theorem Tryz.infoNode:(Tryz.prog.info? 60).map (fun i=>(i.zero,i.size,i.bytes))=some (some (.agg #[.bool false,.slice none 0 0,.slice none 0 0,.int .i64 0,.int .i64 0,.string ⟨#[]⟩,.int .i64 0]),7,96):=by kernel_rfl
def node0:Array Value:=#[.bool false,.slice none 0 0,.slice none 0 0,.int .i64 0,.int .i64 0,.string ⟨#[]⟩,.int .i64 0]
theorem jQr (w:World)(o:Obj):(w.alloc o).heap.size=w.heap.size+1:=by simp
def set7 (w:World)(b:Nat)(x0 x1 x2 x3 x4 x5 x6:Value):World :=
 ((((((w.setCell ⟨b,0,none⟩ x0).setCell ⟨b,1,none⟩ x1).setCell ⟨b,2,none⟩ x2).setCell ⟨b,3,none⟩ x3).setCell ⟨b,4,none⟩ x4).setCell ⟨b,5,none⟩ x5).setCell ⟨b,6,none⟩ x6
theorem jQl (w:World)(b:Nat)(x0 x1 x2 x3 x4 x5 x6:Value){g:Nat}(h:g≠b):(set7 w b x0 x1 x2 x3 x4 x5 x6).heap[g]?=w.heap[g]?:=by
 unfold set7;rw[jQg h,jQg h,jQg h,jQg h,jQg h,jQg h,jQg h]
theorem jQu {B b:Nat}{W w:World}(hb:Below B W w)(h:B<=b)(x0 x1 x2 x3 x4 x5 x6:Value):Below B W (set7 w b x0 x1 x2 x3 x4 x5 x6):=by
 unfold set7;exact Below.setCell (B:=B) (Below.setCell (B:=B) (Below.setCell (B:=B) (Below.setCell (B:=B) (Below.setCell (B:=B) (Below.setCell (B:=B) (Below.setCell (B:=B) hb h _) h _) h _) h _) h _) h _) h _
theorem jQo5 {w:World}{B:Nat}{e:TypeId}{size g:Nat}{n cap:Nat}{cs:List Value}(h:w.ownsRow B e size (.slice (some ⟨g,0,none⟩) n cap) n cs):g<w.heap.size:=by
 rcases h.2 with⟨h1,_⟩ | ⟨g',cap',cur,hv,hbg,hh,hn,hm,hc,ht⟩
 ·simp at h1
 ·simp only[Value.slice.injEq,Option.some.injEq,Addr.mk.injEq] at hv;obtain⟨⟨rfl,-,-⟩,-,-⟩:=hv;exact jQf hh
theorem jQw {w:World}{b:Nat}(h:w.heap[b]?=some (.cells node0 60)) :
  w.cell? ⟨b,0,none⟩=some (.bool false)/\w.cell? ⟨b,1,none⟩=some (.slice none 0 0)/\w.cell? ⟨b,2,none⟩=some (.slice none 0 0)/\w.cell? ⟨b,3,none⟩=some (.int .i64 0)/\w.cell? ⟨b,4,none⟩=some (.int .i64 0)/\w.cell? ⟨b,5,none⟩=some (.string ⟨#[]⟩)/\w.cell? ⟨b,6,none⟩=some (.int .i64 0) :=
 ⟨by rw[jQb h];rfl,by rw[jQb h];rfl,by rw[jQb h];rfl,by rw[jQb h];rfl,by rw[jQb h];rfl,by rw[jQb h];rfl,by rw[jQb h];rfl⟩
theorem jQk {w:World}{b:Nat}{c:Array Value}(h:w.heap[b]?=some (.cells c 60)) :
  w.frozen? ⟨b,0,none⟩=false/\w.frozen? ⟨b,1,none⟩=false/\w.frozen? ⟨b,2,none⟩=false/\w.frozen? ⟨b,3,none⟩=false/\w.frozen? ⟨b,4,none⟩=false/\w.frozen? ⟨b,5,none⟩=false/\w.frozen? ⟨b,6,none⟩=false :=
 ⟨jQd h _,jQd h _,jQd h _,jQd h _,jQd h _,jQd h _,jQd h _⟩
theorem jQi (w:World)(o:Obj):(w.alloc o).heap[w.heap.size]?=some o:=by show(w.heap.push o)[w.heap.size]?=some o;simp
theorem jQg5 (es:List Ent)(v:Value)(w:World)(h:Reads w v es.length 2 (es.flatMap entCells))(hl:es.length<=1000) :
  Calls Tryz.prog 132 #[v] w fun e w'=>∃ev,e=.returned (.agg (headCells (Sq.leafF (α:=Empty) es).hd ev (.slice none 0 0)).toArray)/\EntsAt w.heap.size w' ev es/\Below w.heap.size w w':=by
 obtain⟨i0,hi,hz0,hz1,hz2⟩:=info_parts Tryz.infoEnt;obtain⟨ao,acap,rfl⟩:=h.slice;have hf:=jQeS es
 have hj:∀h:0<es.length,(es.flatMap entCells)[0]?=some (.int .i64 es[0].place):=by
  intro h;cases es with
  | nil=>simp at h
  | cons x r=>rfl
 have hg:∀h:0<es.length,Sq.firstPlace es=es[0].place:=by
  intro h;cases es with
  | nil=>simp at h
  | cons x r=>rfl
 obtain⟨cs,hcs⟩:∃x,x=es.flatMap entCells:=⟨_,rfl⟩;rw[<-hcs] at h hf hj;have hW:∀o,Below w.heap.size w (w.alloc o):=fun o=>(bR).alloc (nR) _
 have hp:=hd h;have hq:=hd hf;have hw:=hd hcs;have HF:=hd hj;have hx:=hd hg;have HW:=hd hW;clear h hf hcs hW hj hg;rcases Nat.eq_zero_or_pos es.length with h0 | h0
 ·have hy:es=[]:=by simpa using h0
  subst hy;go_enter Tryz.func132,Tryz.ntmps132;go_wp2_with (at_make;refine wpList_make_full _ rfl (.tmp 6) (.tmp 6) 57 rfl (w.heap.size+1) 141 i0 _ 2 Tryz.underlying57 hi hz0 hz1 .i64 .i64 _ _ 0 rfl rfl rfl rfl (by rw[hz2];omega) (by unfold maxLen;omega) (by simp) ?_;intro w1 hown1 hgrow1;rw[jQr] at hown1;have hh:=Tch.of_grown (pb:=w.heap.size+1) hgrow1 (fun k hk=>by cases hk) (by simp);have hc:=(HW.o _).trans (hh.mono (by omega));obtain⟨w2,hrun,hown2,hb2⟩:=jQbg w1 57 3 141 i0 2 Tryz.underlying57 hi hz1 (w.heap.size+1) _ 0 _ _ _ _ cs hown1 (hp.o.below hc) hq.o;have hb:=hh.trans hb2;have ha:=(hb.block w.heap.size (by omega)).trans (jQi w _);obtain⟨b0,b1,b2,b3,b4,b5,b6⟩:=jQw ha;obtain⟨f0,f1,f2,f3,f4,f5,f6⟩:=jQk ha;have hs:=jQo5 hown2;have ht:w.heap.size<w2.heap.size:=(by omega);have hu:=hd hb;have hr:=hd hown2;clear hown1 hgrow1 hh hc hown2 hb2 hb ha);have hm:Below w.heap.size w w2:=(HW.o _).trans (hu.o.mono (by omega));refine bodyPost_ret (v:=.agg (headCells (Sq.leafF (α:=Empty) []).hd (.slice (some ⟨w.heap.size+1,0,none⟩) 0 0) (.slice none 0 0)).toArray) (by simp[results,Tryz.results132,go_sem,headCells,Sq.leafF,Sq.firstPlace,nobytes, *]) rfl ⟨_,rfl,?_,?_⟩
  ·have ho:=hr.o;rw[hw.o] at ho;exact jQj (jQh (jQq ho fun k hk=>jQl w2 w.heap.size _ _ _ _ _ _ _ (fun e=>by have:=(World.ownsRow.lt ho k hk).1;omega)) ((bR).alloc (nR) _)) (by omega)
  ·exact Below.alloc (B:=w.heap.size) (jQu hm (nR) _ _ _ _ _ _ _) (by simp[set7];omega) _
 ·have hg:=hx.o h0;have hn:=hd hg;have he:=HF.o h0;have hv:=hd he;obtain⟨p0,hp0⟩:∃x,x=es[0].place:=⟨_,rfl⟩;rw[<-hp0] at he hg;have hv:=hd he;have hn:=hd hg;clear he hg hp0 HF hx;go_enter Tryz.func132,Tryz.ntmps132;go_wp2_with (at_make;refine wpList_make_full _ rfl (.tmp 6) (.tmp 6) 57 rfl (w.heap.size+1) 141 i0 _ 2 Tryz.underlying57 hi hz0 hz1 .i64 .i64 _ _ es.length rfl rfl rfl rfl (by rw[hz2];omega) (by unfold maxLen;omega) (by simp) ?_;intro w1 hown1 hgrow1;rw[jQr] at hown1;have hh:=Tch.of_grown (pb:=w.heap.size+1) hgrow1 (fun k hk=>by cases hk) (by simp);have hc:=(HW.o _).trans (hh.mono (by omega));obtain⟨w2,hrun,hown2,hb2⟩:=jQbg w1 57 3 141 i0 2 Tryz.underlying57 hi hz1 (w.heap.size+1) _ es.length _ _ _ _ cs hown1 (hp.o.below hc) hq.o;have hb:=hh.trans hb2;have ha:=(hb.block w.heap.size (by omega)).trans (jQi w _);obtain⟨b0,b1,b2,b3,b4,b5,b6⟩:=jQw ha;obtain⟨f0,f1,f2,f3,f4,f5,f6⟩:=jQk ha;have hs:=jQo5 hown2;have ht:w.heap.size<w2.heap.size:=(by omega);have e0:=hown2.cells (g:=w.heap.size+1) rfl 0 _ hv.o;rw[jQaQ] at e0;have hu:=hd hb;have hr:=hd hown2;clear hown1 hgrow1 hh hc hown2 hb2 hb ha);have hm:Below w.heap.size w w2:=(HW.o _).trans (hu.o.mono (by omega));refine bodyPost_ret (v:=.agg (headCells (Sq.leafF (α:=Empty) es).hd (.slice (some ⟨w.heap.size+1,0,none⟩) es.length es.length) (.slice none 0 0)).toArray) (by simp[results,Tryz.results132,go_sem,headCells,Sq.leafF,nobytes,hn.o, *]) rfl ⟨_,rfl,?_,?_⟩
  ·have ho:=hr.o;rw[hw.o] at ho;exact jQj (jQh (jQq ho fun k hk=>jQl w2 w.heap.size _ _ _ _ _ _ _ (fun e=>by have:=(World.ownsRow.lt ho k hk).1;omega)) ((bR).alloc (nR) _)) (by omega)
  ·exact Below.alloc (B:=w.heap.size) (jQu hm (nR) _ _ _ _ _ _ _) (by simp[set7];omega) _
end
section
open Go.RowKit
variable {Z:Nat->Prop}
structure NodesRd (Z:Nat->Prop)(w:World)(v:Value)(n:Nat)(l:List (Sq.Nd n×Value×Value)):Prop where
 rd:Reads w v l.length 7 (l.flatMap (nodeCells n))
 each:∀x∈l,NodeAt Z w n x.1 x.2.1 x.2.2
theorem NodesAt.rd {B n:Nat}{w:World}{v:Value}{l:List (Sq.Nd n×Value×Value)}(h:NodesAt Z B w v n l):NodesRd Z w v n l:=⟨Reads.of_own h.own,h.each⟩
theorem NodesRd.below {n:Nat}{w w':World}{v:Value}{l:List (Sq.Nd n×Value×Value)}(h:NodesRd Z w v n l)(hb:Below w.heap.size w w'):NodesRd Z w' v n l:=⟨h.rd.below hb,fun x hx=>(h.each x hx).below hb⟩
def rowsUp (n:Nat)(l:List (Sq.Nd n×Value×Value))(k:Nat):Int:=Sq.sumRows2 (Sq.headN n) ((l.take k).map Prod.fst)
def smallRows (n:Nat)(l:List (Sq.Nd n×Value×Value)):Prop:=∀x∈l,0<=(Sq.headN n x.1).rows/\(Sq.headN n x.1).rows<=1000000000
theorem jQfG (n:Nat)(l:List (Sq.Nd n×Value×Value))(k:Nat)(h:k<l.length):rowsUp n l (k+1)=rowsUp n l k+(Sq.headN n l[k].1).rows:=by
 unfold rowsUp Sq.sumRows2;rw[List.take_succ_eq_append_getElem h,List.map_append,List.map_append,List.sum_append];simp only[List.map_cons,List.map_nil,List.sum_cons,List.sum_nil,Int.add_zero]
theorem jQkS (n:Nat)(l:List (Sq.Nd n×Value×Value)):rowsUp n l 0=0:=rfl
theorem jQjN (n:Nat)(l:List (Sq.Nd n×Value×Value))(hs:smallRows n l):∀k,k<=l.length->0<=rowsUp n l k/\rowsUp n l k<=1000000000*(k:Int)
 | 0,_=>by rw[jQkS];omega
 | k+1,h=>by
  have ih:=jQjN n l hs k (by omega);have h1:=hs l[k] (List.getElem_mem (by omega));rw[jQfG n l k (by omega)];omega
theorem jQmq (n:Nat)(l:List (Sq.Nd n×Value×Value))(k:Nat)(h:l.length<=k):rowsUp n l k=Sq.sumRows2 (Sq.headN n) (l.map Prod.fst):=by
 unfold rowsUp;rw[List.take_of_length_le h]
theorem jQca (n:Nat)(l:List (Sq.Nd n×Value×Value))(v:Value)(w:World)(h:NodesRd Z w v n l)(hl:l.length<=1000)(hr:smallRows n l) :
  Calls Tryz.prog 133 #[v] w fun e w'=>∃cv,e=.returned (.agg (headCells (Sq.innerF (Sq.headN n) (l.map Prod.fst)).hd (.slice none 0 0) cv).toArray)/\NodesAt Z w.heap.size w' cv n l/\Below w.heap.size w w':=by
 obtain⟨i0,hi,hz0,hz1,hz2⟩:=info_parts Tryz.infoNode;obtain⟨ao,acap,rfl⟩:=h.rd.slice;have hf:=NodesAt.one h.each;obtain⟨cs,hcs⟩:∃x,x=l.flatMap (nodeCells n):=⟨_,rfl⟩;have hI:=h.rd;rw[<-hcs] at hI hf;have hW:∀o,Below w.heap.size w (w.alloc o):=fun o=>(bR).alloc (nR) _
 have hn:=hd hI;have he:=hd h.each;have hG:=hd hf;have hV:=hd hcs;have HW:=hd hW;have hO:=hd hr;clear h hI hf hcs hW hr;go_enter Tryz.func133,Tryz.ntmps133;go_wp2_with (at_make;refine wpList_make_full _ rfl (.tmp 7) (.tmp 7) 58 rfl (w.heap.size+1) 60 i0 _ 7 Tryz.underlying58 hi hz0 hz1 .i64 .i64 _ _ l.length rfl rfl rfl rfl (by rw[hz2];omega) (by unfold maxLen;omega) (by simp) ?_;intro w1 hown1 hgrow1;rw[jQr] at hown1;have hF:=Tch.of_grown (pb:=w.heap.size+1) hgrow1 (fun k hk=>by cases hk) (by simp);have hu:=(HW.o _).trans (hF.mono (by omega));obtain⟨w2,hrun,hown2,hy⟩:=jQbg w1 58 3 60 i0 7 Tryz.underlying58 hi hz1 (w.heap.size+1) _ l.length _ _ _ _ cs hown1 (hn.o.below hu) hG.o;have hj:=hF.trans hy;have ha:=(hj.block w.heap.size (by omega)).trans (jQi w _);have hS:=jQo5 hown2;have ht:w.heap.size<w2.heap.size:=(by omega);have hN:=hd hj;have hL:=hd hown2;have hH:=hd ha;clear hown1 hgrow1 hF hu hown2 hy hj ha);have hm:Below w.heap.size w w2:=(HW.o _).trans (hN.o.mono (by omega))
 have hA:Hid (NodesAt Z (w.heap.size+1) w2 (.slice (some ⟨w.heap.size+1,0,none⟩) l.length l.length) n l):=by
  refine⟨?_,fun x hx=>(he.o x hx).below hm⟩
  have:=hL.o
  rw[hV.o] at this;exact this
 have hp:=hd hm;clear hm hrun hL hN hn
 go_loopw [5] (fun i wr=>∃k:Nat,k<=l.length/\i=.int .i64 k/\wr.heap[w2.heap.size]?=some (.cells #[.bool true,.slice none 0 0,.slice (some ⟨w.heap.size+1,0,none⟩) l.length l.length,.int .i64 0,.int .i64 (rowsUp n l k),.string ⟨#[]⟩,.int .i64 0] 60)/\Below w2.heap.size w2 wr) (fun i _=>l.length-(intOf i).toNat)
 case atStart=>exact⟨0,zR,rfl,jQi w2 _,(bR).alloc (nR) _⟩
 case round =>
  obtain⟨k,hk,rfl,ha,hb⟩:=hrel;have c0:wr.cell? ⟨w2.heap.size,0,none⟩=some (.bool true):=by rw[jQb ha];rfl
  have c1:wr.cell? ⟨w2.heap.size,1,none⟩=some (.slice none 0 0):=by rw[jQb ha];rfl
  have c2:wr.cell? ⟨w2.heap.size,2,none⟩=some (.slice (some ⟨w.heap.size+1,0,none⟩) l.length l.length):=by rw[jQb ha];rfl
  have c3:wr.cell? ⟨w2.heap.size,3,none⟩=some (.int .i64 0):=by rw[jQb ha];rfl
  have c4:wr.cell? ⟨w2.heap.size,4,none⟩=some (.int .i64 (rowsUp n l k)):=by rw[jQb ha];rfl
  have c5:wr.cell? ⟨w2.heap.size,5,none⟩=some (.string ⟨#[]⟩):=by rw[jQb ha];rfl
  have c6:wr.cell? ⟨w2.heap.size,6,none⟩=some (.int .i64 0):=by rw[jQb ha];rfl
  obtain⟨f0,f1,f2,f3,f4,f5,f6⟩:=jQk ha;have hK:=jQjN n l hO.o k hk;have hU:=jQf ha;have hs:=hd ha;have HB:=hd hb;clear ha hb
  by_cases hlt:k<l.length
  ·obtain⟨g,cap',ea,el,ec,ca,cl,cc,hv,hg,d,d5,d6⟩:=(hA.o.below HB.o).at k hlt;simp only[Value.slice.injEq,Option.some.injEq,Addr.mk.injEq] at hv;obtain⟨⟨rfl,-,-⟩,-,rfl⟩:=hv;have d4:=d.c4;have hB:=jQfG n l k hlt;have hQ:=hO.o l[k] (List.getElem_mem hlt);obtain⟨q,hq⟩:∃x,x=(Sq.headN n l[k].1).rows:=⟨_,rfl⟩;obtain⟨z,hz⟩:∃x,x=rowsUp n l k:=⟨_,rfl⟩;rw[<-hq] at d4 hB hQ;rw[<-hz] at c4 hB hK;have HZ:=hd hz;have hJ:=hd hB;clear hB hq hz d d5 d6 c0 c1 c2 c3 c5 c6;go_wp2
   go_region
   all_goals(try go_wp2)
   go_roundw
   case rel =>
    refine⟨k+1,by omega,by go_num,?_,Below.drew (Below.setCell (B:=w2.heap.size) HB.o (nR) _)⟩;have hy:=hs.o;rw[<-HZ.o] at hy
    show(wr.setCell _ _).heap[w2.heap.size]?=_
    rw[jQe hy,hJ.o];simp
   case measure=>simp[intOf];omega
  ·have hM:Hid (rowsUp n l k=Sq.sumRows2 (Sq.headN n) (l.map Prod.fst)):=jQmq n l k (by omega);have hc:=(HB.o.block w.heap.size (by omega)).trans hH.o;obtain⟨b0,b1,b2,b3,b4,b5,b6⟩:=jQw hc;obtain⟨e0,e1,e2,e3,e4,e5,e6⟩:=jQk hc;have hP:=jQf hc;rw[hM.o] at c4;obtain⟨z,hz⟩:∃x,x=Sq.sumRows2 (Sq.headN n) (l.map Prod.fst):=⟨_,rfl⟩;rw[<-hz] at c4;have HZ:=hd hz;have hZ:¬(k<l.length):=hlt;have hY:=hd hc;clear hz hc hM hK;rcases Nat.eq_zero_or_pos l.length with h0 | h0
   ·have hR:l=[]:=by simpa using h0
    subst hR;have hw:Below w.heap.size w wr:=hp.o.trans (HB.o.mono (by omega));have ho:=(hA.o.below HB.o).own;have HO:=hd ho;have hC:=hd hw;have hD:Hid (Sq.firstLeast (Sq.headN n) (([]:List (Sq.Nd n×Value×Value)).map Prod.fst)=0):=rfl;clear ho hw;go_wp2;refine bodyPost_ret (v:=.agg (headCells (Sq.innerF (Sq.headN n) (([]:List (Sq.Nd n×Value×Value)).map Prod.fst)).hd (.slice none 0 0) (.slice (some ⟨w.heap.size+1,0,none⟩) 0 0)).toArray) (by simp only[headCells,Sq.innerF,hD.o,<-HZ.o,nobytes];simp[results,Tryz.results133,go_sem, *]) rfl ⟨_,rfl,⟨?_,fun x hx=>by cases hx⟩,?_⟩
    ·exact jQj (jQq HO.o fun k hk=>jQl wr w.heap.size _ _ _ _ _ _ _ (fun e=>by have:=(World.ownsRow.lt HO.o k hk).1;omega)) (by omega)
    ·exact jQu hC.o (nR) _ _ _ _ _ _ _
   ·obtain⟨g,cap',ea,el,ec,ca,cl,cc,hv,hg,d,d5,d6⟩:=(hA.o.below HB.o).at 0 h0;simp only[Value.slice.injEq,Option.some.injEq,Addr.mk.injEq] at hv;obtain⟨⟨rfl,-,-⟩,-,rfl⟩:=hv;have d3:=d.c3
    have hD:Hid (Sq.firstLeast (Sq.headN n) (l.map Prod.fst)=(Sq.headN n l[0].1).least):=by
     cases l with
     | nil=>simp at h0
     | cons x r=>rfl
    obtain⟨p0,hp0⟩:∃x,x=(Sq.headN n l[0].1).least:=⟨_,rfl⟩;have hh:=hD.o;rw[<-hp0] at d3 hh;have hE:=hd hh;clear hp0 hh hD d d5 d6;simp only[Nat.zero_mul,Nat.zero_add] at d3;have hw:Below w.heap.size w wr:=hp.o.trans (HB.o.mono (by omega));have ho:=(hA.o.below HB.o).own;have HO:=hd ho;have hC:=hd hw;clear ho hw;go_wp2;refine bodyPost_ret (v:=.agg (headCells (Sq.innerF (Sq.headN n) (l.map Prod.fst)).hd (.slice none 0 0) (.slice (some ⟨w.heap.size+1,0,none⟩) l.length l.length)).toArray) (by simp only[headCells,Sq.innerF,hE.o,<-HZ.o,nobytes];simp[results,Tryz.results133,go_sem, *]) rfl ⟨_,rfl,?_,?_⟩
    ·have hT:Below w.heap.size w (set7 (wr.setCell ⟨w2.heap.size,3,none⟩ (.int .i64 p0)) w.heap.size (.bool true) (.slice none 0 0) (.slice (some ⟨w.heap.size+1,0,none⟩) l.length l.length) (.int .i64 p0) (.int .i64 z) (.string ⟨#[]⟩) (.int .i64 0)):=jQu (Below.setCell (B:=w.heap.size) hC.o (Nat.le_of_lt ht) _) (nR) _ _ _ _ _ _ _;refine⟨jQj (jQq HO.o fun k hk=>?_) (by omega),fun x hx=>(he.o x hx).below hT⟩;have hX:w.heap.size+1=k:=by simpa[Value.ownBlock] using hk
     exact(jQl _ w.heap.size _ _ _ _ _ _ _ (by omega)).trans (jQg (by omega))
    ·exact jQu (Below.setCell (B:=w.heap.size) hC.o (Nat.le_of_lt ht) _) (nR) _ _ _ _ _ _ _
end
namespace Sq
def goodVal (v:Val):Prop:=(v.kind=0/\-2147483648<=v.number/\v.number<=2147483647/\v.text=nobytes)\/(v.kind=1/\v.number=0/\v.text.size<=12/\(39:UInt8) ∉ v.text.data.toList)
theorem goodVal0:goodVal val0:=Or.inl ⟨rfl,by decide,by decide,rfl⟩
theorem jQgx (l:List UInt8):∀a:Int,0<=a->(∀c∈l,isDigit c.toNat=true)->0<=l.foldl (fun n c=>n*10+dv c) a/\l.foldl (fun n c=>n*10+dv c) a+1<=(a+1)*((10^l.length:Nat):Int):=by
 induction l with
 | nil=>intro a h _;simp;omega
 | cons c r ih =>
  intro a h hd;have hc:=hd c (by simp)
  have h1:0<=dv c/\dv c<=9:=by
   unfold isDigit rng at hc;simp at hc;unfold dv;omega
  obtain⟨i1,i2⟩:=ih (a*10+dv c) (by omega) (fun x hx=>hd x (by simp[hx]));rw[List.foldl_cons,List.length_cons,Nat.pow_succ];refine⟨i1,?_⟩;have h2:(0:Int)<=((10^r.length:Nat):Int):=Int.natCast_nonneg _;have h3:(a*10+dv c+1)*((10^r.length:Nat):Int)<=((a+1)*10)*((10^r.length:Nat):Int):=Int.mul_le_mul_of_nonneg_right (by omega) h2
  have h4:(a+1)*((10^r.length*10:Nat):Int)=((a+1)*10)*((10^r.length:Nat):Int):=by
   rw[Int.natCast_mul,Int.mul_assoc,Int.mul_comm ((10^r.length:Nat):Int)];rfl
  rw[h4];omega
theorem jQmZ (t:ByteArray)(h:t.size<=9)(hd:∀c∈t.data.toList,isDigit c.toNat=true):0<=num t/\num t<=999999999:=by
 have h1:=jQgx t.data.toList 0 (by omega) hd;have h2:(10:Nat)^t.data.toList.length<=10^9:=Nat.pow_le_pow_right (by decide) (by simpa using h);have h3:(10:Nat)^9=1000000000:=by decide
 refine⟨h1.1,?_⟩;have h4:=h1.2;unfold num numL;omega
theorem jQbm (s:ByteArray)(a b:Nat):(s.extract a b).data.toList=(s.data.toList.drop a).take (b-a):=by
 simp[List.extract_eq_take_drop]
theorem jQcy {α:Type}(p:α->Bool)(l:List α):l.take (l.takeWhile p).length=l.takeWhile p:=by
 induction l with
 | nil=>rfl
 | cons x r ih =>
  rw[List.takeWhile_cons]
  split
  ·rw[List.length_cons,List.take_succ_cons,ih]
  ·rfl
theorem jQdq {α:Type}(p:α->Bool)(l:List α):∀x∈l.takeWhile p,p x=true:=by
 induction l with
 | nil=>intro x hx;simp at hx
 | cons y r ih =>
  intro x hx;rw[List.takeWhile_cons] at hx
  split at hx
  ·rename_i h;rcases List.mem_cons.1 hx with rfl | hx
   ·exact h
   ·exact ih x hx
  ·simp at hx
theorem jQq3 (p:Int->Bool)(s:ByteArray)(a:Nat):(s.extract a (a+cnt p s a)).data.toList=(s.data.toList.drop a).takeWhile fun c=>p c.toNat:=by
 rw[jQbm,Nat.add_sub_cancel_left];exact jQcy _ _
theorem jQfq (s:ByteArray)(a b:Nat)(h:a<b)(hb:b<=s.size):byteAt (s.extract a b) 0=byteAt s a:=by
 unfold byteAt;rw[jQbm];rw[List.getElem?_take,if_pos (by omega),List.getElem?_drop];simp
structure okWord (x:Word):Prop where
 num:x.kind=3->x.text.size<=9/\∀c∈x.text.data.toList,isDigit c.toNat=true
 text:x.kind=4->x.text.size<=12/\(39:UInt8) ∉ x.text.data.toList
 name:x.kind=2->x.text.size<=8
theorem jQoy (s:ByteArray)(a:Nat)(h:a<endOf s a)(hs:endOf s a<=s.size):okWord (wordOf (s.extract a (endOf s a))):=by
 have h0:=jQfq s a (endOf s a) h hs;obtain⟨t,ht⟩:∃t,t=s.extract a (endOf s a):=⟨_,rfl⟩;rw[<-ht] at h0 ⊢;unfold wordOf
 split
 ·exact⟨by simp,by simp,by simp⟩
 ·rw[h0]
  split
  ·refine⟨fun h=>?_,fun h=>?_,fun _=>jQbp 2 t 8⟩
   ·rcases jQX 2 t 8 with h3 | h3<;>rw[h3] at h<;>simp at h
   ·rcases jQX 2 t 8 with h3 | h3<;>rw[h3] at h<;>simp at h
  ·rename_i hl
   split
   ·rename_i hdg;refine⟨fun _=>⟨jQbp 3 t 9,?_⟩,fun h=>?_,fun h=>?_⟩
    ·unfold bounded
     split
     ·have he:endOf s a=a+cnt isDigit s a:=by unfold endOf;rw[if_neg hl,if_pos hdg]
      show ∀c∈t.data.toList,_;rw[ht,he,jQq3];exact fun c hc=>jQdq _ _ c hc
     ·intro c hc;simp at hc
    ·rcases jQX 3 t 9 with h3 | h3<;>rw[h3] at h<;>simp at h
    ·rcases jQX 3 t 9 with h3 | h3<;>rw[h3] at h<;>simp at h
   ·rename_i hdg
    split
    ·rename_i hq;simp only[Bool.and_eq_true,beq_iff_eq] at hq;refine⟨fun h=>?_,fun _=>⟨jQbp 4 _ 12,?_⟩,fun h=>?_⟩
     ·rcases jQX 4 (t.extract 1 (t.size-1)) 12 with h3 | h3<;>rw[h3] at h<;>simp at h
     ·unfold bounded
      split
      ·have he:endOf s a=endOfText s a:=by unfold endOf;rw[if_neg hl,if_neg hdg,if_pos (by simp[hq.1])]
       have hb:endOf s a=a+1+cnt isInText s (a+1)+1:=by
        rw[he];rw[he] at h;unfold endOfText at h ⊢
        split
        ·rfl
        ·rename_i hx;rw[if_neg hx] at h;omega
       show(39:UInt8) ∉ (t.extract 1 (t.size-1)).data.toList
       have ha:t.size=cnt isInText s (a+1)+2:=by
        rw[ht,ByteArray.size_extract];omega
       rw[jQbm,ha,ht,jQbm,List.drop_take,List.drop_drop,List.take_take]
       have hm:min (cnt isInText s (a+1)+2-1-1) (endOf s a-a-1)=(((s.data.toList.drop (a+1)).takeWhile fun c=>isInText c.toNat)).length:=by
        show _=cnt isInText s (a+1);omega
       rw[hm,jQcy];intro hc
       have:=jQdq _ _ _ hc
       exact absurd this (by decide)
      ·simp
     ·rcases jQX 4 (t.extract 1 (t.size-1)) 12 with h3 | h3<;>rw[h3] at h<;>simp at h
    ·exact⟨by simp,by simp,by simp⟩
theorem jQiD (s:ByteArray):∀f a ws,splitFrom s f a=some ws->(∀x∈ws,okWord x)/\ws.length<=f:=by
 intro f
 induction f with
 | zero=>intro a ws h;simp[splitFrom] at h;subst h;simp
 | succ f ih =>
  intro a ws h;rw[splitFrom] at h
  split at h
  ·split at h
   ·have:=ih _ _ h;exact⟨this.1,by omega⟩
   ·split at h
    ·simp at h
    ·rename_i he
     split at h
     ·simp at h
     ·cases h2:splitFrom s f (endOf s a) with
      | none=>rw[h2] at h;simp at h
      | some l =>
       rw[h2] at h;simp at h;subst h;have h3:=ih _ _ h2;refine⟨fun x hx=>?_,by simp;omega⟩;rcases List.mem_cons.1 hx with rfl | hx
       ·exact jQoy s a (by omega) (by omega)
       ·exact h3.1 x hx
  ·simp at h;subst h;simp
theorem jQmg (s:ByteArray)(ws:List Word)(h:split s=some ws):(∀x∈ws,okWord x)/\ws.length<=s.size+1:=jQiD s _ _ ws h
theorem jQqG (ws:List Word)(st:PSt)(h:∀x∈ws,okWord x):okWord (nextW ws st):=by
 unfold nextW
 split
 ·exact⟨by simp[word0],by simp[word0],by simp[word0]⟩
 ·cases h2:ws[st.pos]? with
  | none=>exact⟨by simp[word0],by simp[word0],by simp[word0]⟩
  | some x=>exact h x (List.mem_of_getElem? h2)
theorem jQj4 (ws:List Word)(st:PSt)(h:∀x∈ws,okWord x):goodVal (litR ws st):=by
 have hw:=jQqG ws (acceptS ws st bMinus) h;unfold litR
 split
 ·rename_i hk;have h3:=hw.num (by simpa using hk);have h4:=jQmZ _ h3.1 h3.2
  split
  ·exact Or.inl ⟨rfl,by show _<=-_;omega,by show -_<=_;omega,rfl⟩
  ·exact Or.inl ⟨rfl,by show _<=num _;omega,by show num _<=_;omega,rfl⟩
 ·split
  ·rename_i hk;simp only[Bool.and_eq_true,beq_iff_eq] at hk;exact Or.inr ⟨rfl,rfl,hw.text hk.1⟩
  ·exact goodVal0
theorem jQbA (ws:List Word)(st:PSt)(h:∀x∈ws,okWord x):goodVal (termR ws st).lit:=by
 unfold termR
 split
 ·exact goodVal0
 ·exact jQj4 ws st h
structure Same (a b:PSt):Prop where
 act:b.act=a.act
 table:b.table=a.table
 cols:b.cols=a.cols
 vals:b.vals=a.vals
 sets:b.sets=a.sets
 shw:b.shw=a.shw
 items:b.items=a.items
theorem Same.refl (a:PSt):Same a a:=⟨rfl,rfl,rfl,rfl,rfl,rfl,rfl⟩
theorem Same.trans {a b c:PSt}(h:Same a b)(k:Same b c):Same a c:=⟨k.1.trans h.1,k.2.trans h.2,k.3.trans h.3,k.4.trans h.4,k.5.trans h.5,k.6.trans h.6,k.7.trans h.7⟩
theorem jQb4 (a:PSt):Same a (fail a):=⟨rfl,rfl,rfl,rfl,rfl,rfl,rfl⟩
theorem jQI (a:PSt):Same a (step1 a):=⟨rfl,rfl,rfl,rfl,rfl,rfl,rfl⟩
theorem jQbq (a:PSt)(s:StepS):Same a (addStep a s):=⟨rfl,rfl,rfl,rfl,rfl,rfl,rfl⟩
theorem jQa7 (ws:List Word)(a:PSt):Same a (takeS ws a):=by unfold takeS;split;exact jQb4 a;exact jQI a
theorem jQfb (ws:List Word)(a:PSt)(m:ByteArray):Same a (acceptS ws a m):=by unfold acceptS;split;exact jQI a;exact Same.refl a
theorem jQZ (ws:List Word)(a:PSt)(m:ByteArray):Same a (wantS ws a m):=by unfold wantS;split;exact jQI a;exact jQb4 a
theorem jQ6 (ws:List Word)(a:PSt):Same a (nameS ws a):=by unfold nameS;split;exact jQa7 ws a;exact(jQa7 ws a).trans (jQb4 _)
theorem jQeI (ws:List Word)(a:PSt):Same a (kindS ws a):=by unfold kindS;split;exact jQfb ws a _;exact jQZ ws a _
theorem jQbX (ws:List Word)(a:PSt):Same a (litS ws a):=by
 have h:=(jQfb ws a bMinus).trans (jQa7 ws _);unfold litS
 split
 ·exact h
 ·split
  ·exact h
  ·exact h.trans (jQb4 _)
theorem jQaJ (ws:List Word)(a:PSt):Same a (termS ws a):=by unfold termS;split;exact jQI a;exact jQbX ws a
theorem jQn7 (ws:List Word)(a:PSt):Same a (compS ws a):=by
 have h1:=(jQaJ ws a).trans (jQa7 ws _);have h:Same a (compMid ws a):=by unfold compMid;split;exact h1;exact h1.trans (jQb4 _)
 exact(h.trans (jQaJ ws _)).trans (jQbq _ _)
theorem jQpB (ws:List Word):∀f t st,Same st (cond ws f t st):=by
 intro f
 induction f with
 | zero=>intro t st;exact Same.refl _
 | succ f ih =>
  intro t st
  match t with
  | 0=>rw[cond];exact(ih 1 st).trans (ih 3 _)
  | 1=>rw[cond];exact(ih 2 st).trans (ih 4 _)
  | 2 =>
   rw[cond]
   split
   ·exact((jQI st).trans (ih 2 _)).trans (jQbq _ _)
   ·split
    ·exact((jQI st).trans (ih 0 _)).trans (jQZ ws _ _)
    ·exact jQn7 ws st
  | 3 =>
   rw[cond]
   split
   ·exact(((jQI st).trans (ih 1 _)).trans (jQbq _ _)).trans (ih 3 _)
   ·exact Same.refl _
  | t+4 =>
   rw[cond]
   split
   ·exact(((jQI st).trans (ih 2 _)).trans (jQbq _ _)).trans (ih 4 _)
   ·exact Same.refl _
theorem jQab (ws:List Word)(st:PSt):Same st (whereS ws st):=by
 unfold whereS
 split
 ·exact(jQI st).trans (jQpB ws _ _ _)
 ·exact Same.refl _
structure okRead (P:Val->Prop)(n:Nat)(st:PSt):Prop where
 few:st.cols.length+st.vals.length+st.sets.length+st.items.length<=n
 vals:∀v∈st.vals,P v
 sets:∀s∈st.sets,P s.first.lit/\P s.second.lit
theorem okRead.same {P:Val->Prop}{n:Nat}{a b:PSt}(h:okRead P n a)(k:Same a b):okRead P n b:=by
 refine⟨?_,?_,?_⟩
 ·rw[k.cols,k.vals,k.sets,k.items];exact h.few
 ·rw[k.vals];exact h.vals
 ·rw[k.sets];exact h.sets
theorem okRead.mono {P:Val->Prop}{n m:Nat}{a:PSt}(h:okRead P n a)(k:n<=m):okRead P m a:=⟨Nat.le_trans h.few k,h.vals,h.sets⟩
theorem okRead.act {P:Val->Prop}{n:Nat}{a:PSt}(h:okRead P n a)(x:Int):okRead P n (setAct a x):=⟨h.few,h.vals,h.sets⟩
theorem okRead.shw {P:Val->Prop}{n:Nat}{a:PSt}(h:okRead P n a)(x:Int):okRead P n (setShow a x):=⟨h.few,h.vals,h.sets⟩
theorem okRead.table {P:Val->Prop}{n:Nat}{a:PSt}(h:okRead P n a)(ws:List Word):okRead P n (tableS ws a):=by
 have:=h.same (jQ6 ws a)
 exact⟨this.few,this.vals,this.sets⟩
theorem okRead.want {P:Val->Prop}{n:Nat}{a:PSt}(h:okRead P n a)(ws:List Word)(m:ByteArray):okRead P n (wantS ws a m):=h.same (jQZ ws a m)
theorem okRead.addCol {P:Val->Prop}{n:Nat}{a:PSt}(h:okRead P n a)(c:Col):okRead P (n+1) (addCol a c):=⟨by have:=h.few;simp[Sq.addCol];omega,h.vals,h.sets⟩
theorem okRead.addItem {P:Val->Prop}{n:Nat}{a:PSt}(h:okRead P n a)(c:ByteArray):okRead P (n+1) (addItem a c):=⟨by have:=h.few;simp[Sq.addItem];omega,h.vals,h.sets⟩
theorem okRead.addVal {P:Val->Prop}{n:Nat}{a:PSt}(h:okRead P n a)(v:Val)(hv:P v):okRead P (n+1) (addVal a v):=by
 refine⟨by have:=h.few;simp[Sq.addVal];omega,?_,h.sets⟩;intro x hx;rcases List.mem_append.1 hx with hx | hx
 ·exact h.vals x hx
 ·simp at hx;subst hx;exact hv
theorem okRead.addSet {P:Val->Prop}{n:Nat}{a:PSt}(h:okRead P n a)(v:SetS)(hv:P v.first.lit/\P v.second.lit):okRead P (n+1) (addSet a v):=by
 refine⟨by have:=h.few;simp[Sq.addSet];omega,h.vals,?_⟩;intro x hx;rcases List.mem_append.1 hx with hx | hx
 ·exact h.sets x hx
 ·simp at hx;subst hx;exact hv
theorem okRead.commas {P:Val->Prop}(ws:List Word)(body:PSt->PSt)(hb:∀n st,okRead P n st->okRead P (n+1) (body st)):∀f n st,okRead P n st->okRead P (n+f) (commas ws body f st):=by
 intro f
 induction f with
 | zero=>intro n st h;exact h
 | succ f ih =>
  intro n st h;rw[Sq.commas]
  split
  ·exact(ih (n+1) _ (hb n _ (h.same (jQI st)))).mono (by omega)
  ·exact h.mono (by omega)
theorem jQfA (ws:List Word)(hw:∀x∈ws,okWord x)(n:Nat)(st:PSt)(h:okRead goodVal n st):okRead goodVal (n+1) (valueS ws st):=(h.same (jQbX ws st)).addVal _ (jQj4 ws st hw)
theorem jQeN (ws:List Word)(n:Nat)(st:PSt)(h:okRead goodVal n st):okRead goodVal (n+1) (itemS ws st):=(h.same (jQ6 ws st)).addItem _
theorem jQpD (ws:List Word)(n:Nat)(st:PSt)(h:okRead goodVal n st):okRead goodVal (n+1) (colS ws st):=((h.same (jQ6 ws st)).same (jQeI ws _)).addCol _
theorem jQkB (ws:List Word)(st:PSt):Same st (asg2 ws st):=((jQ6 ws st).trans (jQZ ws _ _)).trans (jQaJ ws _)
theorem jQkA (ws:List Word)(hw:∀x∈ws,okWord x)(n:Nat)(st:PSt)(h:okRead goodVal n st):okRead goodVal (n+1) (asgS ws st):=by
 have h2:=jQkB ws st
 have h4:Same st (asg4 ws st):=by
  unfold asg4 asg3
  split
  ·exact(h2.trans (jQI _)).trans (jQaJ ws _)
  ·split
   ·exact(h2.trans (jQI _)).trans (jQaJ ws _)
   ·exact h2
 refine(h.same h4).addSet _ ⟨jQbA ws _ hw,?_⟩;show goodVal (asgSecond ws st).lit;unfold asgSecond
 split
 ·exact jQbA ws _ hw
 ·split
  ·exact jQbA ws _ hw
  ·exact goodVal0
theorem st0_read:okRead goodVal 0 st0:=⟨by simp[st0],by simp[st0],by simp[st0]⟩
theorem jQfg (ws:List Word)(hw:∀x∈ws,okWord x)(st:PSt)(h:okRead goodVal 0 st):okRead goodVal (ws.length+2) (statementS ws st):=by
 have h':=h.same (jQa7 ws st);unfold statementS
 split
 ·exact((okRead.commas ws _ (jQpD ws) (ws.length+1) 1 _ ((((((h'.act 1).want ws _).table ws).want ws _).same (jQ6 ws _)).want ws _ |>.addCol _)).want ws _).mono (by omega)
 ·split
  ·exact((okRead.commas ws _ (jQfA ws hw) (ws.length+1) 1 _ (jQfA ws hw 0 _ (((((h'.act 2).want ws _).table ws).want ws _).want ws _))).want ws _).mono (by omega)
  ·split
   ·exact((okRead.commas ws _ (jQkA ws hw) (ws.length+1) 1 _ (jQkA ws hw 0 _ (((h'.act 3).table ws).want ws _))).same (jQab ws _)).mono (by omega)
   ·split
    ·exact((((h'.act 4).want ws _).table ws).same (jQab ws _)).mono (by omega)
    ·split
     ·have h5:=h'.act 5
      have h6:okRead goodVal (ws.length+2) (chooseA ws (setAct (takeS ws st) 5)):=by
       unfold chooseA
       split
       ·exact((h5.same (jQI _)).shw 1).mono (by omega)
       ·split
        ·exact((h5.same (jQI _)).shw 2).mono (by omega)
        ·split
         ·exact((jQeN ws 0 _ (((h5.same (jQI _)).shw 3).want ws _)).want ws _).mono (by omega)
         ·exact(okRead.commas ws _ (jQeN ws) (ws.length+1) 1 _ (jQeN ws 0 _ (h5.shw 0))).mono (by omega)
      exact((h6.want ws _).table ws).same (jQab ws _)
     ·exact(h'.same (jQb4 _)).mono (by omega)
def okWher (st:PSt):Prop:=st.wher.length<=2*st.pos+1
theorem jQcX (ws:List Word)(st:PSt)(h:st.wher=[]):okWher (whereS ws st):=by
 unfold whereS okWher
 split
 ·have h1:=(jQdd ws (8*ws.length+7) 0 (step1 st)).2;have h2:(step1 st).wher=[]:=h;rw[h2] at h1;simp[more] at h1;omega
 ·rw[h];simp
theorem jQe2 (ws:List Word)(st:PSt):(chooseA ws st).wher=st.wher:=by
 unfold chooseA
 split
 ·rfl
 ·split
  ·rfl
  ·split
   ·rw[jQo,jQba,jQo];rfl
   ·unfold itemsS;rw[jQak ws _ (jQba ws),jQba];rfl
theorem jQff (ws:List Word)(st:PSt)(h:st.wher=[]):okWher (statementS ws st):=by
 have h':(takeS ws st).wher=[]:=(jQam ws st).trans h;have hz:∀a:PSt,a.wher=[]->okWher a:=fun a ha=>by unfold okWher;rw[ha];simp
 unfold statementS
 split
 ·refine hz _ ?_;unfold createS;simp only;rw[jQo,jQak ws _ (jQkv ws)]
  show(wantS ws _ _).wher=[]
  rw[jQo,jQa8,jQo,jQz,jQo];exact h'
 ·split
  ·refine hz _ ?_;unfold insertS;simp only;rw[jQo,jQak ws _ (jQaD ws),jQaD,jQo,jQo,jQz,jQo];exact h'
  ·split
   ·refine jQcX ws _ ?_;rw[jQak ws _ (jQb6 ws),jQb6,jQo,jQz];exact h'
   ·split
    ·refine jQcX ws _ ?_;rw[jQz,jQo];exact h'
    ·split
     ·refine jQcX ws _ ?_;rw[jQz,jQo,jQe2];exact h'
     ·exact hz _ h'
theorem jQcE (sql:ByteArray):okRead goodVal 163 (parse sql).2/\(parse sql).2.wher.length<=400:=by
 have h0:okRead goodVal 163 st0/\st0.wher.length<=400:=⟨st0_read.mono (by omega),by simp[st0]⟩;unfold parse
 split
 ·exact h0
 ·cases h:split sql with
  | none=>exact h0
  | some ws =>
   simp only;obtain⟨h1,h2⟩:=jQmg sql ws h
   split
   ·exact h0
   ·rename_i hs hx;simp at hx;have h3:=jQff ws st0 rfl;unfold okWher at h3;exact⟨(jQfg ws h1 st0 st0_read).mono (by omega),by show(statementS ws st0).wher.length<=_;omega⟩
end Sq
end Go.Proofs.YtahpihjialbanaaGreatDoor
