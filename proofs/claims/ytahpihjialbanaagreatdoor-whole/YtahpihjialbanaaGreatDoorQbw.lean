import Derived.Test.YtahpihjialbanaaGreatDoorQbu
import Derived.Test.YtahpihjialbanaaGreatDoorQbv
set_option linter.unusedVariables false
set_option linter.unusedSimpArgs false
set_option maxRecDepth 100000
set_option maxHeartbeats 1000000
namespace Go.Proofs.YtahpihjialbanaaGreatDoor
namespace Sq
def digs:List UInt8->Int->Option Int
 | [],n=>some n
 | c::r,n=>if c.toNat<48\/57<c.toNat then none else digs r (10*n+c.toNat-48)
def number (s:ByteArray):Int×Bool :=
 if s.size<(if byteAt s 0==45 then 1 else 0)+2\/16<s.size\/byteAt s (s.size-1)≠59 then(0,false)
 else match digs ((s.data.toList.drop (if byteAt s 0==45 then 1 else 0)).take (s.size-1-(if byteAt s 0==45 then 1 else 0))) 0 with
  | none=>(0,false)
  | some n=>(if byteAt s 0==45 then -n else n,true)
def upto (l:List UInt8):List UInt8:=l.takeWhile fun c=>c != 44&&c != 59
def key (s:ByteArray):Int×Bool:=number (⟨(upto s.data.toList).toArray⟩++bSemi)
def turn (q:Bool)(c:UInt8):Bool:=if c==39 then !q else q
def behind:Bool->List UInt8->List UInt8
 | _,[]=>[]
 | q,c::r=>if c==59 && !(turn q c) then r else behind (turn q c) r
end Sq
section
open Go.RowKit
def Sq.pick (c n:Int):Int:=(if c<0 then -(c+1) else c) % n
theorem Sq.jQmM (c n:Int)(h:0<n):0<=Sq.pick c n/\Sq.pick c n<n:=⟨Int.emod_nonneg _ (by omega),Int.emod_lt_of_pos _ h⟩
theorem jQpj (c n:Int)(w:World)(h0:-9223372036854775808<=c)(h1:c<=9223372036854775807)(hn:0<n)(hn2:n<=1000) :
  Calls Tryz.prog 13 #[.int .i64 c,.int .i64 n] w fun e w'=>e=.returned (.int .i64 (Sq.pick c n))/\w'=w:=by
 have hb:=Sq.jQmM c n hn
 by_cases hc:c<0
 ·have HE:Hid (Sq.pick c n=-(c+1).tmod n):=by show _=_;unfold Sq.pick;rw[if_pos hc,<-Int.neg_tmod,Int.tmod_eq_emod_of_nonneg (by omega)]
  go_enter Tryz.func13,Tryz.ntmps13;go_wp2;go_ret;exact⟨by rw[HE.o];rfl,rfl⟩
 ·have HE:Hid (Sq.pick c n=c % n):=by show _=_;unfold Sq.pick;rw[if_neg hc]
  go_enter Tryz.func13,Tryz.ntmps13;go_wp2;go_ret;exact⟨by rw[HE.o];rfl,rfl⟩
def Sq.rest (s:ByteArray)(k:Nat):List UInt8:=(s.data.toList.drop k).take (s.size-1-k)
end
section
open Go.RowKit
def Strs (w:World)(v:Value)(l:List ByteArray):Prop:=∃(a:Option Addr) (cap:Nat),v=.slice a l.length cap/\l.length<=1000000000000000/\(∀s∈l,s.size<=1000000000000000)/\∀k:Nat,∀_:k<l.length,∃b,a=some b/\b.block<w.heap.size/\w.cell? (b.add k)=some (.string l[k])
def Sq.bulk:List ByteArray->Nat->Option Nat
 | [],n=>some n
 | s::r,n=>if 1048576<n+s.size then none else Sq.bulk r (n+s.size)
def Sq.tooMuch (l:List ByteArray):Bool:=Decidable.decide (1048576<l.length) || (Sq.bulk l l.length).isNone
theorem jQqE (l:List ByteArray)(v:Value)(w:World)(h:Strs w v l) :
  Calls Tryz.prog 19 #[v] w fun e w'=>e=.returned (.bool (Sq.tooMuch l))/\w'=w:=by
 obtain⟨a,cap,rfl,hl,hsz,hat⟩:=h;have hf:Hid _:=hat;have he:Hid _:=hsz;clear hat hsz
 by_cases hbig:1048576<l.length
 ·have HE:Hid (Sq.tooMuch l=true):=by show _=_;unfold Sq.tooMuch;simp[hbig]
  go_enter Tryz.func19,Tryz.ntmps19;go_wp2;go_ret;exact⟨by rw[HE.o];rfl,rfl⟩
 ·have HE:Hid (Sq.tooMuch l=(Sq.bulk l l.length).isNone):=by show _=_;unfold Sq.tooMuch;simp[hbig]
  go_enter Tryz.func19,Tryz.ntmps19;go_wp2
  go_loop [3,4] (fun n i=>∃k m:Nat,k<=l.length/\m<=1048576/\n=.int .i64 m/\i=.int .i64 k/\Hid (Sq.bulk l l.length=Sq.bulk (l.drop k) m)) (fun _ i=>l.length-(intOf i).toNat)
  case atStart=>exact⟨0,l.length,zR,by omega,rfl,rfl,rfl⟩
  case round =>
   obtain⟨k,m,hk,hm,rfl,rfl,HR⟩:=hrel
   by_cases hlt:k<l.length
   ·obtain⟨b,rfl,hb,hc⟩:=hf.o k hlt;have hs:=he.o l[k] (List.getElem_mem hlt)
    have ha:Sq.bulk (l.drop k) m=if 1048576<m+l[k].size then none else Sq.bulk (l.drop (k+1)) (m+l[k].size):=by
     rw[List.drop_eq_getElem_cons hlt,Sq.bulk]
    have HS:Hid _:=ha;obtain⟨s,hs0⟩:∃s,s=l[k]:=⟨_,rfl⟩;rw[<-hs0] at hs hc HS;clear ha hs0
    by_cases hmm:1048576<m+s.size
    ·go_wp2;go_ret;refine⟨?_,rfl⟩;rw[HE.o,HR.o,HS.o,if_pos hmm];rfl
    ·go_wp2;go_round
     case rel=>exact⟨k+1,m+s.size,by omega,by omega,by go_num,by go_num,by show _=_;rw[HR.o,HS.o,if_neg hmm]⟩
     case measure=>simp[intOf];omega
   ·have HZ:Hid (l.drop k=[]):=List.drop_eq_nil_of_le (by omega);go_wp2;go_ret;refine⟨?_,rfl⟩;rw[HE.o,HR.o,HZ.o];rfl
end
section
open Go.RowKit
theorem jQpN (b:Addr)(k:Nat):(b.add k).block=b.block:=by unfold Addr.add;split<;>rfl
theorem Strs.below {w w':World}{v:Value}{l:List ByteArray}(h:Strs w v l){B:Nat}(hb:Below B w w')(hB:w.heap.size<=B):Strs w' v l:=by
 obtain⟨a,cap,hv,hl,hs,hat⟩:=h;refine⟨a,cap,hv,hl,hs,fun k hk=>?_⟩;obtain⟨b,hb1,hb2,hb3⟩:=hat k hk;refine⟨b,hb1,Nat.lt_of_lt_of_le hb2 hb.size,?_⟩;rw[hb.cell (p:=b.add k) (by rw[jQpN];omega)];exact hb3
end
namespace Sq
theorem jQpr:∀(n:Nat) (t:Nd n) (k:Int),headN n (numN n t k).1={ headN n t with num:=k }
 | 0,_,_=>rfl
 | _+1,_,_=>rfl
theorem jQjX {n:Nat}(H:ByteArray->ByteArray)(hd:∀(c:Nd n) (k:Int),digN H n (numN n c k).1=digN H n c):∀(l:List (Nd n)) (k:Int),(numbL (numN n) l k).1.length=l.length/\(((numbL (numN n) l k).1.zip ((numbL (numN n) l k).1.map (digN H n))).map fun x=>kidBytes (headN n x.1) x.2)=((l.zip (l.map (digN H n))).map fun x=>kidBytes (headN n x.1) x.2)
 | [],_=>⟨rfl,rfl⟩
 | c::r,k=>by
  have h:=jQjX H hd r (numN n c k).2;rw[numbL];refine⟨by simp[h.1],?_⟩;simp only[List.map_cons,List.zip_cons_cons];rw[h.2,hd c k,jQpr];rfl
theorem jQp7 (H:ByteArray->ByteArray):∀(n:Nat) (t:Nd n) (k:Int),digN H n (numN n t k).1=digN H n t
 | 0,t,k=>by
  have hk:NodeF.kids t=[]:=by
   cases hq:NodeF.kids t with
   | nil=>rfl
   | cons c _=>exact c.elim
  show digF H _ _ (numF _ t k).1=digF H _ _ t;unfold digF numF bytesF writtenF sizeF;simp only[hk,numbL];rfl
 | n+1,t,k=>by
  have h:=jQjX H (fun c k=>jQp7 H n c k) (NodeF.kids t) (k+1);show digF H _ _ (numF _ t k).1=digF H _ _ t;unfold digF numF bytesF writtenF sizeF;simp only[h.1,h.2];rfl
def runX (X:NTree):List ByteArray->NTree
 | []=>X
 | s::r=>runX (nextOf X s) r
theorem jQjM:∀(l:List ByteArray) (X:NTree) (j:Nat) (h:j<l.length),runX X (l.take (j+1))=nextOf (runX X (l.take j)) l[j]
 | s::r,X,0,_=>rfl
 | s::r,X,j+1,h=>by
  rw[List.take_succ_cons,runX,jQjM r (nextOf X s) j (by simpa using h)];rfl
def goodX (X:NTree):Prop:=∃db,Keeps2 X db
theorem goodX0:goodX ntree0:=⟨[],keeps0⟩
theorem goodX.next {X:NTree}(h:goodX X)(sql:ByteArray):goodX (nextOf X sql):=by
 obtain⟨db,h⟩:=h;exact⟨_,(h.next sql).1⟩
theorem jQgE:∀(l:List ByteArray) {X:NTree},goodX X->goodX (runX X l)
 | [],_,h=>h
 | s::r,_,h=>jQgE r (h.next s)
theorem goodX.dig {X:NTree}(h:goodX X){wide:Nat}(hw:wide<=32):(digOf wide X).size=wide:=by
 obtain⟨db,h⟩:=h;obtain⟨x,h1,h2,h3⟩:=h.st.fine h.good;obtain⟨n,t,y,rfl,rfl,hr⟩:=h1.cases;exact jQaX (jQf2 hw) hr.open
end Sq
end Go.Proofs.YtahpihjialbanaaGreatDoor
