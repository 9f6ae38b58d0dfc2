import Derived.BigQuiet
import Derived.Deep.AppendLies
import Derived.Deep.Cut
import Derived.Deep.LoopGhost
import Derived.Deep.QuietTactic
import Derived.Deep.RegionHeld3
import Derived.Deep.RegionLaw
import Derived.Lib.AtoiErrMem
import Derived.Lib.ConvBytes
import Derived.Lib.Strings
import Derived.Test.YtahpihjialbanaaGreatDoorProg
import Derived.WalkKit
import Derived.WalkLawsBesides
import Derived.WalkSpells
set_option linter.all false
set_option maxRecDepth 100000
set_option maxHeartbeats 1000000
namespace Go.RowKit
theorem Hid.o{p:Prop}(h:Hid p):p:=h.out
theorem Hid.t{a b c:World}(h:Hid (Below a.heap.size a b))(k:Below b.heap.size b c):Hid (Below a.heap.size a c):=h.out.trans (k.mono h.out.size)
end Go.RowKit
namespace Go.Proofs.YtahpihjialbanaaGreatDoor
abbrev BA:=ByteArray
def cg:=@List.length_append
def cj:=@Go.RowKit.Below.setCell
def cm:=@Nat.le_trans
def cp:=@Go.bodyPost_ret
def cr:=@List.drop_eq_getElem_cons
def cu:=@Go.World.ownsRow_nil
def cy:=@if_neg
def cz:=@List.getElem?_eq_getElem
def cA:=@List.mem_of_getElem?
def cB:=@Go.RowKit.Below.drew
def cC:=@Int.toNat_natCast
def cD:=@List.drop_eq_nil_of_le
def cE:=@if_pos
def cF:=@List.length_map
def cG:=@List.length_cons
def cH:=@Go.RowKit.Below.alloc
def cI:=@List.take_succ_eq_append_getElem
def cJ:=@List.getElem_mem
def cK:=@List.flatMap_cons
def cL:=@List.take_of_length_le
def cM:=@List.map_cons
def cN:=@List.flatMap_append
def cO:=@ByteArray.size_append
def cP:=@Bool.and_eq_true
def cQ:=@Nat.le_of_lt
def cR:=@List.map_append
def cS:=@Go.RowKit.Below.mono
def cT:=@Go.wpList_append_lies
def cU:=@Int.eq_ofNat_of_zero_le
def cV:=@Go.info_parts
def cW:=@List.append_nil
def cX:=@Go.World.cell?_alloc_past
def cY:=@List.mem_cons_of_mem
def cZ:=@decide_eq_true_eq
def da:=@List.getElem_map
def dc:=@List.length_singleton
def dd:=@Go.World.frozen?_alloc_past
def de:=@List.foldl_cons
def df:=@Nat.zero_add
def dh:=@List.mem_cons_self
def dj:=@Array.length_toList
def dk:=@ByteArray.size_extract
def dm:=@List.append_assoc
def dq:=@List.length_take
def dr:=@Bool.false_eq_true
def dt:=@List.getElem?_eq_none
def du:=@Go.ByteArray.toList_eq
def dw:=@ByteArray.append_assoc
def dy:=@List.getElem?_map
def dz:=@Nat.lt_of_lt_of_le
def dA:=@Int.le_refl
def dB:=@Nat.add_zero
def dC:=@Nat.le_of_succ_le
def dD:=@List.mem_singleton
def dE:=@List.length_filter_le
def dF:=@Int.le_trans
def dG:=@List.map_map
def dH:=@Nat.pow_le_pow_right
def dI:=@List.mem_cons
def dJ:=@Go.heap_alloc_new
def dK:=@List.filter_cons
def dL:=@Nat.lt_or_ge
def dM:=@Option.bind_some
def dN:=@List.sum_cons
def dO:=@List.map_nil
def dP:=@Nat.eq_zero_or_pos
def dQ:=@List.Pairwise.filter
def dR:=@List.mem_of_mem_drop
def dS:=@Nat.mul_le_mul_right
def dT:=@if_true
def dU:=@Go.IntKind.wrap_i64
def dV:=@Go.step_append_lies
def dW:=@List.length_take_le
def dX:=@List.mem_map_of_mem
def dY:=@List.takeWhile_cons
def dZ:=@List.length_set
def ed:=@Go.RowKit.Below.trans
def ee:=@List.take_append_drop
def ef:=@List.length_drop
def eg:=@List.mem_of_mem_take
def eh:=@List.mem_filter
def ei:=@Go.RowKit.ownsRow_setCell_below
def ej:=@Go.RowKit.Below.heap_alloc
def ep:=@List.not_mem_nil
def eu:=@Nat.lt_succ_self
def ew:=@List.getElem?_append_right
def ey:=@ByteArray.ext
def ez:=@Go.below_drewN
def eA:=@List.flatMap_nil
def eB:=@Nat.le_succ
def eC:=@Go.run_underlying
def eD:=@if_false
def eE:=@Nat.two_pow_add_eq_or_of_lt
variable {B b g n pb:Nat}{W w w' w1 w2:World}{c:Array Value}{e e':TypeId}{fr:Nat×Nat}{lv v:Value}{xs:List Value}
theorem bR:Go.RowKit.Below B w w:=Go.RowKit.Below.refl _ _
theorem nR:n<=n:=Nat.le_refl _
theorem zR:0<=n:=Nat.zero_le _
theorem bA{o:Obj}:Go.RowKit.Below w.heap.size w (w.alloc o):=(Go.RowKit.Below.refl _ _).alloc (Nat.le_refl _) _
theorem sI{a a2:Option Addr}{b2 c c2:Nat}(h:Value.slice a b c=Value.slice a2 b2 c2):a=a2/\b=b2/\c=c2:=by simpa using h
namespace Sq
def rng (lo hi c:Int):Bool:=decide (lo<=c)&&decide (c<=hi)
def jB8 (c:Int):Bool:=rng 97 122 c
def isDigit (c:Int):Bool:=rng 48 57 c
def isName (c:Int):Bool:=jB8 c || isDigit c
def jFf (c:Int):Bool:=c==32 || c==10
def jA9 (c:Int):Bool:=rng 32 126 c && !(c==39)
def jGW (c:Int):Bool:=[40,41,44,42,61,43,45,60,62].contains c
def jGV (c d:Int):Bool:=(c==60&&d==62) || (c==60&&d==61) || (c==62&&d==61)
def aJ (s:BA)(k:Nat):Int:=((s.data.toList[k]?).getD 0).toNat
def cnt (p:Int->Bool)(s:BA)(k:Nat):Nat:=((s.data.toList.drop k).takeWhile fun c=>p c.toNat).length
theorem jNU (s:BA)(k:Nat)(h:k<s.size):aJ s k=(s[k]).toNat:=by
 have h':k<s.data.toList.length:=by simpa using h
 unfold aJ;rw[cz h'];rfl
theorem jS0 (s:BA)(k:Nat)(h:s.size<=k):aJ s k=0:=by
 have h':s.data.toList.length<=k:=by simpa using h
 unfold aJ;rw[dt h'];rfl
theorem jNV (s:BA)(k:Nat):0<=aJ s k/\aJ s k<=255:=by
 unfold aJ
 have:=((s.data.toList[k]?).getD 0).toNat_lt
 omega
theorem jLG (p:Int->Bool)(h0:p 0=false)(s:BA)(k:Nat)(h:p (aJ s k)=true) :
  k<s.size/\cnt p s k=cnt p s (k+1)+1:=by
 by_cases hk:k<s.size
 ·refine⟨hk,?_⟩;have h':k<s.data.toList.length:=by simpa using hk
  have e:aJ s k=((s.data.toList[k]).toNat:Int):=by unfold aJ;rw[cz h'];rfl
  unfold cnt;rw[cr h',dY,cE (by rw[<-e];exact h),cG]
 rw[jS0 s k (by omega),h0] at h;cases h
theorem jOk (p:Int->Bool)(s:BA)(k:Nat)(h:p (aJ s k)=false):cnt p s k=0:=by
 unfold cnt
 by_cases hk:k<s.size
 ·have h':k<s.data.toList.length:=by simpa using hk
  have e:aJ s k=((s.data.toList[k]).toNat:Int):=by unfold aJ;rw[cz h'];rfl
  rw[cr h',dY,cy (by rw[<-e,h];simp)];rfl
 have h':s.data.toList.length<=k:=by simpa using Nat.le_of_not_lt hk
 rw[cD h'];rfl
def jDK (s:BA)(a:Nat):Nat:=if aJ s (a+1+cnt jA9 s (a+1))==39 then a+1+cnt jA9 s (a+1)+1 else a
def bw (s:BA)(a:Nat):Nat :=
 if jB8 (aJ s a) then a+cnt isName s a
 else if isDigit (aJ s a) then a+cnt isDigit s a
 else if aJ s a==39 then jDK s a
 else if jGV (aJ s a) (aJ s (a+1)) then a+2
 else if jGW (aJ s a) then a+1
 else a
structure Word where
 kind:Int
 text:BA
def jHD:List (List UInt8) :=
 [[99,114,101,97,116,101],[116,97,98,108,101],[105,110,115,101,114,116],[105,110,116,111],[118,97,108,117,101,115],[117,112,100,97,116,101],[115,101,116],[119,104,101,114,101],[100,101,108,101,116,101],
  [102,114,111,109],[115,101,108,101,99,116],[97,110,100],[111,114],[110,111,116],[105,110,116],[116,101,120,116],[99,111,117,110,116],[115,117,109]]
def jFa (s:BA):Bool:=jHD.contains s.data.toList
def bounded (kind:Int)(t:BA)(ha:Nat):Word:=if t.size<=ha then⟨kind,t⟩ else⟨0,⟨#[]⟩⟩
def jAB (s:BA):Word :=
 if jFa s then⟨1,s⟩
 else if jB8 (aJ s 0) then bounded 2 s 8
 else if isDigit (aJ s 0) then bounded 3 s 9
 else if aJ s 0==39&&decide (2<=s.size) then bounded 4 (s.extract 1 (s.size-1)) 12
 else⟨1,s⟩
def jAi (s:BA):Nat->Nat->Option (List Word)
 | 0,_=>some []
 | f+1,a =>
  if a<s.size then
   if jFf (aJ s a) then jAi s f (a+1)
   else if bw s a<=a\/s.size<bw s a then none
   else if(jAB (s.extract a (bw s a))).kind==0 then none
   else(jAi s f (bw s a)).map (jAB (s.extract a (bw s a)) :: ·)
  else some []
def split (s:BA):Option (List Word):=jAi s (s.size+1) 0
def Word.cells (x:Word):List Value:=[.int .i64 x.kind,.string x.text]
def jDZ (ws:List Word):List Value:=ws.flatMap Word.cells
theorem jXs (ws:List Word)(x:Word):jDZ (ws++[x])=jDZ ws++[.int .i64 x.kind,.string x.text]:=by simp[jDZ,Word.cells]
theorem qAF (s:BA)(f k:Nat)(h:s.size<=k):jAi s f k=some []:=by
 cases f with
 | zero=>rfl
 | succ f=>rw[jAi,cy (by omega)]
theorem qAE (s:BA)(f k:Nat)(h:k<s.size)(hg:jFf (aJ s k)=true):jAi s (f+1) k=jAi s f (k+1):=by
 rw[jAi,cE h,cE hg]
theorem qAG (s:BA)(f k:Nat)(h:k<s.size)(hg:jFf (aJ s k)=false)(he:bw s k<=k\/s.size<bw s k):jAi s (f+1) k=none:=by
 rw[jAi,cE h,cy (by simp[hg]),cE he]
theorem jYX (s:BA)(f k:Nat)(h:k<s.size)(hg:jFf (aJ s k)=false)(he:¬(bw s k<=k\/s.size<bw s k))(hk:(jAB (s.extract k (bw s k))).kind=0):jAi s (f+1) k=none:=by
 rw[jAi,cE h,cy (by simp[hg]),cy he,cE (by simp[hk])]
theorem jYW (s:BA)(f k:Nat)(h:k<s.size)(hg:jFf (aJ s k)=false)(he:¬(bw s k<=k\/s.size<bw s k))(hk:(jAB (s.extract k (bw s k))).kind≠0) :
  jAi s (f+1) k=(jAi s f (bw s k)).map (jAB (s.extract k (bw s k)) :: ·):=by
 rw[jAi,cE h,cy (by simp[hg]),cy he,cy (by simp[hk])]
end Sq
section
open Go.RowKit
theorem jQS (c:Int)(w:World) :
  Calls Tryz.prog 175 #[.int .u8 c] w fun e w'=>e=.returned (.bool (Sq.isDigit c))/\w'=w:=by
 unfold Sq.isDigit Sq.rng
 by_cases h1:48<=c
 all_goals(try by_cases h2:c<=57)
 all_goals
  go_enter Tryz.func175,Tryz.ntmps175;go_wp2;go_ret;exact⟨by simp[*]<;>omega,rfl⟩
theorem jQC (c:Int)(w:World) :
  Calls Tryz.prog 173 #[.int .u8 c] w fun e w'=>e=.returned (.bool (Sq.jB8 c))/\w'=w:=by
 unfold Sq.jB8 Sq.rng
 by_cases h1:97<=c
 all_goals(try by_cases h2:c<=122)
 all_goals
  go_enter Tryz.func173,Tryz.ntmps173;go_wp2;go_ret;exact⟨by simp[*]<;>omega,rfl⟩
theorem jJ9 (c:Int)(w:World) :
  Calls Tryz.prog 135 #[.int .u8 c] w fun e w'=>e=.returned (.bool (Sq.jFf c))/\w'=w:=by
 unfold Sq.jFf;go_enter Tryz.func135,Tryz.ntmps135;go_wp2
 all_goals
  go_ret;exact⟨by simp[*],rfl⟩
theorem jMI (c:Int)(w:World) :
  Calls Tryz.prog 213 #[.int .u8 c] w fun e w'=>e=.returned (.bool (Sq.jA9 c))/\w'=w:=by
 unfold Sq.jA9 Sq.rng;go_enter Tryz.func213,Tryz.ntmps213;go_wp2
 all_goals
  go_ret;exact⟨by simp_all [bne]<;>omega,rfl⟩
theorem jM9 (c d:Int)(w:World) :
  Calls Tryz.prog 178 #[.int .u8 c,.int .u8 d] w fun e w'=>e=.returned (.bool (Sq.jGV c d))/\w'=w:=by
 unfold Sq.jGV;go_enter Tryz.func178,Tryz.ntmps178;go_wp2
 all_goals
  go_ret;exact⟨by simp[*],rfl⟩
theorem jR5 (c:Int)(w:World) :
  Calls Tryz.prog 179 #[.int .u8 c] w fun e w'=>e=.returned (.bool (Sq.jGW c))/\w'=w:=by
 unfold Sq.jGW;go_enter Tryz.func179,Tryz.ntmps179;go_wp2
 all_goals
  go_ret;exact⟨by simp_all,rfl⟩
theorem jQA (s:BA)(i:Int)(w:World)(h0:0<=i)(hs:s.size<=1000) :
  Calls Tryz.prog 172 #[.string s,.int .i64 i] w fun e w'=>e=.returned (.int .u8 (Sq.aJ s i.toNat))/\w'=w:=by
 obtain⟨k,rfl⟩:=cU h0;rw[cC]
 by_cases hk:k<s.size
 ·have e:=Sq.jNU s k hk;have H:Hid _:=e;clear e;go_enter Tryz.func172,Tryz.ntmps172;go_wp2;go_ret;exact⟨by rw[H.o];rfl,rfl⟩
 have e:=Sq.jS0 s k (by omega);have H:Hid _:=e;clear e;go_enter Tryz.func172,Tryz.ntmps172;go_wp2;go_ret;exact⟨by rw[H.o];rfl,rfl⟩
theorem jV0 (s:BA)(i:Int)(w:World)(h0:0<=i)(hi:i<=s.size)(hs:s.size<=1000) :
  Calls Tryz.prog 176 #[.string s,.int .i64 i] w fun e w'=>e=.returned (.int .i64 ((i.toNat+Sq.cnt Sq.isDigit s i.toNat:Nat):Int))/\w'=w:=by
 obtain⟨a,rfl⟩:=cU h0;rw[cC];have ha:a<=s.size:=by omega
 clear hi h0;go_enter Tryz.func176,Tryz.ntmps176;go_wp2
 go_loop [5] (fun i=>∃k:Nat,k<=s.size/\i=.int .i64 k/\Hid (k+Sq.cnt Sq.isDigit s k=a+Sq.cnt Sq.isDigit s a)) (fun i=>s.size-(intOf i).toNat)
 case atStart=>exact⟨a,ha,rfl,rfl⟩
 case round =>
  obtain⟨k,hk,rfl,hr⟩:=hrel;cases hd:Sq.isDigit (Sq.aJ s k)
  ·have hz:=Sq.jOk Sq.isDigit s k hd;have HZ:Hid _:=hz;clear hz;go_wp2_with (first | (go_at_call 172;refine(jQA s k _ (by omega) hs).mono ?_;rintro e w' ⟨rfl,rfl⟩;rw[cC]) | (go_at_call 175;refine(jQS _ _).mono ?_;rintro e w' ⟨rfl,rfl⟩;rw[hd]));go_ret;have hr:=hr.o;have hz:=HZ.o;rw[hz] at hr;exact⟨by rw[<-hr];rfl,rfl⟩
  obtain⟨hb,hz⟩:=Sq.jLG Sq.isDigit rfl s k hd;have HZ:Hid _:=hz;clear hz;go_wp2_with (first | (go_at_call 172;refine(jQA s k _ (by omega) hs).mono ?_;rintro e w' ⟨rfl,rfl⟩;rw[cC]) | (go_at_call 175;refine(jQS _ _).mono ?_;rintro e w' ⟨rfl,rfl⟩;rw[hd]));go_round
  case rel=>exact⟨k+1,by omega,by go_num,by have:=HZ.o;have hr:=hr.o;show _=_;omega⟩
  case measure=>simp[intOf];omega
theorem jVR (s:BA)(i:Int)(w:World)(h0:0<=i)(hi:i<=s.size)(hs:s.size<=1000) :
  Calls Tryz.prog 174 #[.string s,.int .i64 i] w fun e w'=>e=.returned (.int .i64 ((i.toNat+Sq.cnt Sq.isName s i.toNat:Nat):Int))/\w'=w:=by
 obtain⟨a,rfl⟩:=cU h0;rw[cC];have ha:a<=s.size:=by omega
 clear hi h0;go_enter Tryz.func174,Tryz.ntmps174;go_wp2
 go_loop [5] (fun i=>∃k:Nat,k<=s.size/\i=.int .i64 k/\Hid (k+Sq.cnt Sq.isName s k=a+Sq.cnt Sq.isName s a)) (fun i=>s.size-(intOf i).toNat)
 case atStart=>exact⟨a,ha,rfl,rfl⟩
 case round =>
  obtain⟨k,hk,rfl,hr⟩:=hrel;have hb:Sq.isName (Sq.aJ s k)=(Sq.jB8 (Sq.aJ s k) || Sq.isDigit (Sq.aJ s k)):=rfl;cases hl:Sq.jB8 (Sq.aJ s k)
  ·cases hd:Sq.isDigit (Sq.aJ s k)
   ·rw[hl,hd] at hb;have hz:=Sq.jOk Sq.isName s k hb;have HZ:Hid _:=hz;clear hz hb;go_wp2_with (first | (go_at_call 172;refine(jQA s k _ (by omega) hs).mono ?_;rintro e w' ⟨rfl,rfl⟩;rw[cC]) | (go_at_call 175;refine(jQS _ _).mono ?_;rintro e w' ⟨rfl,rfl⟩;rw[hd]) | (go_at_call 173;refine(jQC _ _).mono ?_;rintro e w' ⟨rfl,rfl⟩;rw[hl]));go_ret;have hr:=hr.o;have hz:=HZ.o;rw[hz] at hr;exact⟨by rw[<-hr];rfl,rfl⟩
   rw[hl,hd] at hb;obtain⟨hc,hz⟩:=Sq.jLG Sq.isName rfl s k hb;have HZ:Hid _:=hz;clear hz hb;go_wp2_with (first | (go_at_call 172;refine(jQA s k _ (by omega) hs).mono ?_;rintro e w' ⟨rfl,rfl⟩;rw[cC]) | (go_at_call 175;refine(jQS _ _).mono ?_;rintro e w' ⟨rfl,rfl⟩;rw[hd]) | (go_at_call 173;refine(jQC _ _).mono ?_;rintro e w' ⟨rfl,rfl⟩;rw[hl]));go_round
   case rel=>exact⟨k+1,by omega,by go_num,by have:=HZ.o;have hr:=hr.o;show _=_;omega⟩
   case measure=>simp[intOf];omega
  rw[hl,Bool.true_or] at hb;obtain⟨hc,hz⟩:=Sq.jLG Sq.isName rfl s k hb;have HZ:Hid _:=hz;clear hz hb;go_wp2_with (first | (go_at_call 172;refine(jQA s k _ (by omega) hs).mono ?_;rintro e w' ⟨rfl,rfl⟩;rw[cC]) | (go_at_call 173;refine(jQC _ _).mono ?_;rintro e w' ⟨rfl,rfl⟩;rw[hl]));go_round
  case rel=>exact⟨k+1,by omega,by go_num,by have:=HZ.o;have hr:=hr.o;show _=_;omega⟩
  case measure=>simp[intOf];omega
theorem jWT (s:BA)(i:Int)(w:World)(h0:0<=i)(hi:i<s.size)(hs:s.size<=1000) :
  Calls Tryz.prog 177 #[.string s,.int .i64 i] w fun e w'=>e=.returned (.int .i64 ((Sq.jDK s i.toNat:Nat):Int))/\w'=w:=by
 obtain⟨a,rfl⟩:=cU h0;rw[cC];have ha:a<s.size:=by omega
 clear hi h0;have HE:Hid (Sq.jDK s a=if Sq.aJ s (a+1+Sq.cnt Sq.jA9 s (a+1))==39 then a+1+Sq.cnt Sq.jA9 s (a+1)+1 else a):=rfl;go_enter Tryz.func177,Tryz.ntmps177;go_wp2
 go_loop [5] (fun i=>∃k:Nat,k<=s.size/\i=.int .i64 k/\Hid (k+Sq.cnt Sq.jA9 s k=a+1+Sq.cnt Sq.jA9 s (a+1))) (fun i=>s.size-(intOf i).toNat)
 case atStart=>exact⟨a+1,by omega,by go_num,rfl⟩
 case round =>
  obtain⟨k,hk,rfl,hr⟩:=hrel;cases hd:Sq.jA9 (Sq.aJ s k)
  ·have hz:=Sq.jOk Sq.jA9 s k hd;have hr:=hr.o;rw[hz,dB] at hr;have HE:=HE.o;rw[<-hr] at HE;have HH:Hid _:=HE;clear HE hz hr
   by_cases hq:Sq.aJ s k=39
   ·have hb:(Sq.aJ s k != 39)=false:=by simp[hq]
    have HQ:Hid _:=hq;clear hq;go_wp2_with (first | (go_at_call 172;refine(jQA s k _ (by omega) hs).mono ?_;rintro e w' ⟨rfl,rfl⟩;rw[cC]) | (go_at_call 213;refine(jMI _ _).mono ?_;rintro e w' ⟨rfl,rfl⟩;rw[hd]));go_ret;exact⟨by rw[HH.o,HQ.o];rfl,rfl⟩
   have hb:(Sq.aJ s k != 39)=true:=by simp[hq]
   go_wp2_with (first | (go_at_call 172;refine(jQA s k _ (by omega) hs).mono ?_;rintro e w' ⟨rfl,rfl⟩;rw[cC]) | (go_at_call 213;refine(jMI _ _).mono ?_;rintro e w' ⟨rfl,rfl⟩;rw[hd]));go_ret;exact⟨by rw[HH.o,cy (by simp[hq])];rfl,rfl⟩
  obtain⟨hc,hz⟩:=Sq.jLG Sq.jA9 rfl s k hd;have HZ:Hid _:=hz;clear hz;go_wp2_with (first | (go_at_call 172;refine(jQA s k _ (by omega) hs).mono ?_;rintro e w' ⟨rfl,rfl⟩;rw[cC]) | (go_at_call 213;refine(jMI _ _).mono ?_;rintro e w' ⟨rfl,rfl⟩;rw[hd]));go_round
  case rel=>exact⟨k+1,by omega,by go_num,by have:=HZ.o;have hr:=hr.o;show _=_;omega⟩
  case measure=>simp[intOf];omega
theorem jLg (s:BA)(i:Int)(w:World)(h0:0<=i)(hi:i<s.size)(hs:s.size<=1000) :
  Calls Tryz.prog 136 #[.string s,.int .i64 i] w fun e w'=>e=.returned (.int .i64 ((Sq.bw s i.toNat:Nat):Int))/\w'=w:=by
 obtain⟨a,rfl⟩:=cU h0;rw[cC];have ha:a<s.size:=by omega
 clear hi h0;cases hl:Sq.jB8 (Sq.aJ s a)
 case true =>
  have HE:Hid (Sq.bw s a=a+Sq.cnt Sq.isName s a):=by show Sq.bw s a=_;unfold Sq.bw;rw[hl];rfl
  go_enter Tryz.func136,Tryz.ntmps136;go_wp2_with (first | (go_at_call 172;refine(jQA s _ _ (by omega) hs).mono ?_;rintro e w' ⟨rfl,rfl⟩;rw[cC]) | (go_at_call 173;refine(jQC _ _).mono ?_;rintro e w' ⟨rfl,rfl⟩;rw[hl]) | (go_at_call 174;refine(jVR s a _ (by omega) (by omega) hs).mono ?_;rintro e w' ⟨rfl,rfl⟩;rw[cC]));go_ret;exact⟨by rw[HE.o];rfl,rfl⟩
 cases hd:Sq.isDigit (Sq.aJ s a)
 case true =>
  have HE:Hid (Sq.bw s a=a+Sq.cnt Sq.isDigit s a):=by show Sq.bw s a=_;unfold Sq.bw;rw[hl,hd];rfl
  go_enter Tryz.func136,Tryz.ntmps136;go_wp2_with (first | (go_at_call 172;refine(jQA s _ _ (by omega) hs).mono ?_;rintro e w' ⟨rfl,rfl⟩;rw[cC]) | (go_at_call 173;refine(jQC _ _).mono ?_;rintro e w' ⟨rfl,rfl⟩;rw[hl]) | (go_at_call 175;refine(jQS _ _).mono ?_;rintro e w' ⟨rfl,rfl⟩;rw[hd]) | (go_at_call 176;refine(jV0 s a _ (by omega) (by omega) hs).mono ?_;rintro e w' ⟨rfl,rfl⟩;rw[cC]));go_ret;exact⟨by rw[HE.o];rfl,rfl⟩
 cases hq:Sq.aJ s a==39
 case true =>
  have HE:Hid (Sq.bw s a=Sq.jDK s a):=by show Sq.bw s a=_;unfold Sq.bw;rw[hl,hd,hq];rfl
  have HQ:Hid _:=hq;clear hq;go_enter Tryz.func136,Tryz.ntmps136;go_wp2_with (first | (go_at_call 172;refine(jQA s _ _ (by omega) hs).mono ?_;rintro e w' ⟨rfl,rfl⟩;rw[cC]) | (go_at_call 173;refine(jQC _ _).mono ?_;rintro e w' ⟨rfl,rfl⟩;rw[hl]) | (go_at_call 175;refine(jQS _ _).mono ?_;rintro e w' ⟨rfl,rfl⟩;rw[hd];have hq:=HQ.o) | (go_at_call 177;refine(jWT s a _ (by omega) (by omega) hs).mono ?_;rintro e w' ⟨rfl,rfl⟩;rw[cC]));go_ret;exact⟨by rw[HE.o];rfl,rfl⟩
 have hb:=Sq.jNV s (a+1);cases hp:Sq.jGV (Sq.aJ s a) (Sq.aJ s (a+1))
 case true =>
  have HE:Hid (Sq.bw s a=a+2):=by show Sq.bw s a=_;unfold Sq.bw;rw[hl,hd,hq,hp];rfl
  go_enter Tryz.func136,Tryz.ntmps136;go_wp2_with (first | (go_at_call 172;refine(jQA s _ _ (by omega) hs).mono ?_;rintro e w' ⟨rfl,rfl⟩;first | rw[cC] | rw[show((a:Int)+1).toNat=a+1 from by omega]) | (go_at_call 173;refine(jQC _ _).mono ?_;rintro e w' ⟨rfl,rfl⟩;rw[hl]) | (go_at_call 175;refine(jQS _ _).mono ?_;rintro e w' ⟨rfl,rfl⟩;rw[hd]) | (go_at_call 178;refine(jM9 _ _ _).mono ?_;rintro e w' ⟨rfl,rfl⟩;rw[hp]));go_ret;exact⟨by rw[HE.o];rfl,rfl⟩
 cases hg:Sq.jGW (Sq.aJ s a)
 case true =>
  have HE:Hid (Sq.bw s a=a+1):=by show Sq.bw s a=_;unfold Sq.bw;rw[hl,hd,hq,hp,hg];rfl
  go_enter Tryz.func136,Tryz.ntmps136;go_wp2_with (first | (go_at_call 172;refine(jQA s _ _ (by omega) hs).mono ?_;rintro e w' ⟨rfl,rfl⟩;first | rw[cC] | rw[show((a:Int)+1).toNat=a+1 from by omega]) | (go_at_call 173;refine(jQC _ _).mono ?_;rintro e w' ⟨rfl,rfl⟩;rw[hl]) | (go_at_call 175;refine(jQS _ _).mono ?_;rintro e w' ⟨rfl,rfl⟩;rw[hd]) | (go_at_call 178;refine(jM9 _ _ _).mono ?_;rintro e w' ⟨rfl,rfl⟩;rw[hp]) | (go_at_call 179;refine(jR5 _ _).mono ?_;rintro e w' ⟨rfl,rfl⟩;rw[hg]));go_ret;exact⟨by rw[HE.o];rfl,rfl⟩
 case false =>
  have HE:Hid (Sq.bw s a=a):=by show Sq.bw s a=_;unfold Sq.bw;rw[hl,hd,hq,hp,hg];rfl
  go_enter Tryz.func136,Tryz.ntmps136;go_wp2_with (first | (go_at_call 172;refine(jQA s _ _ (by omega) hs).mono ?_;rintro e w' ⟨rfl,rfl⟩;first | rw[cC] | rw[show((a:Int)+1).toNat=a+1 from by omega]) | (go_at_call 173;refine(jQC _ _).mono ?_;rintro e w' ⟨rfl,rfl⟩;rw[hl]) | (go_at_call 175;refine(jQS _ _).mono ?_;rintro e w' ⟨rfl,rfl⟩;rw[hd]) | (go_at_call 178;refine(jM9 _ _ _).mono ?_;rintro e w' ⟨rfl,rfl⟩;rw[hp]) | (go_at_call 179;refine(jR5 _ _).mono ?_;rintro e w' ⟨rfl,rfl⟩;rw[hg]));go_ret;exact⟨by rw[HE.o];rfl,rfl⟩
theorem jIK (s:BA)(w:World) :
  Calls Tryz.prog 180 #[.string s] w fun e w'=>e=.returned (.bool (Sq.jFa s))/\w'=w:=by
 unfold Sq.jFa Sq.jHD;go_enter Tryz.func180,Tryz.ntmps180;go_wp2
 all_goals
  go_ret;exact⟨by rw[<-du];simp_all,rfl⟩
theorem jMU (k:Int)(t:BA)(m:Int)(w:World)(h0:0<=m)(hs:t.size<=1000) :
  Calls Tryz.prog 181 #[.int .i64 k,.string t,.int .i64 m] w fun e w'=>e=.returned (.agg #[.int .i64 (Sq.bounded k t m.toNat).kind,.string (Sq.bounded k t m.toNat).text])/\Below w.heap.size w w':=by
 by_cases h:t.size<=m.toNat
 ·have h':(t.size:Int)<=m:=by omega
  have HE:Hid (Sq.bounded k t m.toNat=⟨k,t⟩):=by show _=_;unfold Sq.bounded;rw[cE h]
  go_enter Tryz.func181,Tryz.ntmps181;go_wp2;exact cp (v:=.agg #[.int .i64 k,.string t]) (by simp[results,Tryz.results181,go_sem]) rfl ⟨by rw[HE.o],bA⟩
 have h':m<(t.size:Int):=by omega
 have HE:Hid (Sq.bounded k t m.toNat=⟨0,⟨#[]⟩⟩):=by show _=_;unfold Sq.bounded;rw[cy h]
 go_enter Tryz.func181,Tryz.ntmps181;go_wp2;exact cp (v:=.agg #[.int .i64 0,.string ⟨#[]⟩]) (by simp[results,Tryz.results181,go_sem]) rfl ⟨by rw[HE.o],bA⟩
theorem aD (hb:Below W.heap.size W w1):(∀b o,b<W.heap.size->w1.cell? ⟨b,o,none⟩=W.cell? ⟨b,o,none⟩)/\(∀b o,b<W.heap.size->w1.frozen? ⟨b,o,none⟩=W.frozen? ⟨b,o,none⟩) :=
 ⟨fun b o h=>hb.cell (p:=⟨b,o,none⟩) h,fun b o h=>hb.frozen (p:=⟨b,o,none⟩) h⟩
theorem jZU (W:World)(s:BA):∃W1 cap,(convert 9 55 (.string s)).run Tryz.prog W=.ok (.slice (some ⟨W.heap.size,0,none⟩) s.size cap) W1 /\
  (convert 55 9 (.slice (some ⟨W.heap.size,0,none⟩) s.size cap)).run Tryz.prog W1=.ok (.string s) W1/\Below W.heap.size W W1/\W1.heap.size=W.heap.size+1:=by
 refine⟨Lib.bytesWorld W 5 s,_,Lib.run_convert_string_bytes W 9 55 5 s Tryz.underlying9 Tryz.underlying55 Tryz.underlying5,?_,Lib.bytesWorld_below W 5 s,Lib.bytesWorld_size W 5 s⟩
 have h:=run_convert_bytes_back (P:=Tryz.prog) (Lib.bytesWorld W 5 s) 55 9 5 ⟨W.heap.size,0,none⟩ (grownCap W s.size 0 5) s.data.toList Tryz.underlying55 Tryz.underlying5 Tryz.underlying9 (fun j hj=>by
  have h6:=Lib.bytesWorld_cell W 5 s j (by simpa using hj);have e:(⟨W.heap.size,0,none⟩:Addr).add j=⟨W.heap.size,j,none⟩:=by unfold Addr.add;split<;>simp_all
  rw[e,h6];simp[List.getD,cz hj])
 have e1:s.data.toList.length=s.size:=by simp
 have e2:(⟨s.data.toList.toArray⟩:BA)=s:=by cases s;simp
 rw[e1,e2] at h;exact h
theorem jPe (s:BA)(a b:Nat)(hs:s.size<=1000):(s.extract a b).size<=1000:=by
 have h:=Lib.size_eq (s.extract a b);rw[Lib.extract_data,dq,ef,<-Lib.size_eq] at h;omega
theorem qBo (s:BA)(h:2<=s.size)(wx:World):(Instr.slice 9 (.string s) (some (.int .i64 1)) (some (.int .i64 ((s.size:Int)-1))) none).run Tryz.prog wx=.ok (.string (s.extract 1 (s.size-1))) wx:=by
 have:=run_slice_string (P:=Tryz.prog) (w:=wx) 9 s .i64 .i64 1 ((s.size:Int)-1) Tryz.underlying9 (by omega) (by omega) (by omega)
 rw[this,show((s.size:Int)-1).toNat=s.size-1 from by omega,show(1:Int).toNat=1 from rfl]
theorem jRX (s:BA)(w:World)(hs:s.size<=1000) :
  Calls Tryz.prog 137 #[.string s] w fun e w'=>e=.returned (.agg #[.int .i64 (Sq.jAB s).kind,.string (Sq.jAB s).text])/\Below w.heap.size w w':=by
 obtain⟨W1,cap,hn,ho,hj,hp⟩:=jZU (w.alloc (.cells #[.int .i64 0,.string ⟨#[]⟩] 198)) s;simp only[World.size_alloc] at hn ho hp;have ha:Below w.heap.size w W1:=((Below.refl _ w).alloc nR _).trans (hj.mono (by simp));obtain⟨k1,k2⟩:=aD hj;have c0:=k1 w.heap.size 0 (by simp);have c1:=k1 w.heap.size 1 (by simp);have f0:=k2 w.heap.size 0 (by simp);have f1:=k2 w.heap.size 1 (by simp);simp[go_sem] at c0 c1 f0 f1;clear hj k1 k2
 have ext:∀w2,Below W1.heap.size W1 w2->w2.cell? ⟨w.heap.size,0,none⟩=some (.int .i64 0)/\w2.cell? ⟨w.heap.size,1,none⟩=some (.string ⟨#[]⟩)/\w2.frozen? ⟨w.heap.size,0,none⟩=false/\w2.frozen? ⟨w.heap.size,1,none⟩=false/\Below w.heap.size w w2:=by
  intro w2 hb;obtain⟨k1,k2⟩:=aD hb;exact⟨(k1 _ _ (by omega)).trans c0,(k1 _ _ (by omega)).trans c1,(k2 _ _ (by omega)).trans f0,(k2 _ _ (by omega)).trans f1,ha.trans (hb.mono (by omega))⟩
 have EX:Hid _:=ext;clear ext;cases hk:Sq.jFa s
 case true =>
  have HE:Hid (Sq.jAB s=⟨1,s⟩):=by show Sq.jAB s=_;unfold Sq.jAB;rw[hk];rfl
  go_enter Tryz.func137,Tryz.ntmps137;go_wp2_with (first | (go_at_call 172;refine(jQA s _ _ (by omega) hs).mono ?_;rintro e w' ⟨rfl,rfl⟩) | (go_at_call 180;refine(jIK s _).mono ?_;rintro e w' ⟨rfl,rfl⟩;rw[hk]));exact cp (v:=.agg #[.int .i64 1,.string s]) (by simp[results,Tryz.results137,go_sem,c0,c1]) rfl ⟨by rw[HE.o],(ha.setCell nR _).setCell nR _⟩
 cases hl:Sq.jB8 (Sq.aJ s 0)
 case true =>
  have HE:Hid (Sq.jAB s=Sq.bounded 2 s 8):=by show Sq.jAB s=_;unfold Sq.jAB;rw[hk,hl];rfl
  go_enter Tryz.func137,Tryz.ntmps137;go_wp2_with (first | (go_at_call 172;refine(jQA s _ _ (by omega) hs).mono ?_;rintro e w' ⟨rfl,rfl⟩;rw[show((0:Int)).toNat=0 from rfl]) | (go_at_call 180;refine(jIK s _).mono ?_;rintro e w' ⟨rfl,rfl⟩;rw[hk]) | (go_at_call 173;refine(jQC _ _).mono ?_;rintro e w' ⟨rfl,rfl⟩;rw[hl]) | (go_at_call 181;refine(jMU 2 s 8 _ (by omega) hs).mono ?_;rintro e w2 ⟨rfl,hh⟩;obtain⟨d0,d1,g0,g1,hg⟩:=EX.o w2 hh;rw[show(8:Int).toNat=8 from rfl]));exact cp (v:=.agg #[.int .i64 (Sq.bounded 2 s 8).kind,.string (Sq.bounded 2 s 8).text]) (by simp[results,Tryz.results137,go_sem,d0,d1]) rfl ⟨by rw[HE.o],(hg.setCell nR _).setCell nR _⟩
 cases hd:Sq.isDigit (Sq.aJ s 0)
 case true =>
  have HE:Hid (Sq.jAB s=Sq.bounded 3 s 9):=by show Sq.jAB s=_;unfold Sq.jAB;rw[hk,hl,hd];rfl
  go_enter Tryz.func137,Tryz.ntmps137;go_wp2_with (first | (go_at_call 172;refine(jQA s _ _ (by omega) hs).mono ?_;rintro e w' ⟨rfl,rfl⟩;rw[show((0:Int)).toNat=0 from rfl]) | (go_at_call 180;refine(jIK s _).mono ?_;rintro e w' ⟨rfl,rfl⟩;rw[hk]) | (go_at_call 173;refine(jQC _ _).mono ?_;rintro e w' ⟨rfl,rfl⟩;rw[hl]) | (go_at_call 175;refine(jQS _ _).mono ?_;rintro e w' ⟨rfl,rfl⟩;rw[hd]) | (go_at_call 181;refine(jMU 3 s 9 _ (by omega) hs).mono ?_;rintro e w2 ⟨rfl,hh⟩;obtain⟨d0,d1,g0,g1,hg⟩:=EX.o w2 hh;rw[show(9:Int).toNat=9 from rfl]));exact cp (v:=.agg #[.int .i64 (Sq.bounded 3 s 9).kind,.string (Sq.bounded 3 s 9).text]) (by simp[results,Tryz.results137,go_sem,d0,d1]) rfl ⟨by rw[HE.o],(hg.setCell nR _).setCell nR _⟩
 cases hq:Sq.aJ s 0==39
 case false =>
  have HE:Hid (Sq.jAB s=⟨1,s⟩):=by show Sq.jAB s=_;unfold Sq.jAB;rw[hk,hl,hd,hq];rfl
  go_enter Tryz.func137,Tryz.ntmps137;go_wp2_with (first | (go_at_call 172;refine(jQA s _ _ (by omega) hs).mono ?_;rintro e w' ⟨rfl,rfl⟩;rw[show((0:Int)).toNat=0 from rfl]) | (go_at_call 180;refine(jIK s _).mono ?_;rintro e w' ⟨rfl,rfl⟩;rw[hk]) | (go_at_call 173;refine(jQC _ _).mono ?_;rintro e w' ⟨rfl,rfl⟩;rw[hl]) | (go_at_call 175;refine(jQS _ _).mono ?_;rintro e w' ⟨rfl,rfl⟩;rw[hd]));exact cp (v:=.agg #[.int .i64 1,.string s]) (by simp[results,Tryz.results137,go_sem,c0,c1]) rfl ⟨by rw[HE.o],(ha.setCell nR _).setCell nR _⟩
 by_cases hz:2<=s.size
 ·have HE:Hid (Sq.jAB s=Sq.bounded 4 (s.extract 1 (s.size-1)) 12):=by show Sq.jAB s=_;unfold Sq.jAB;rw[hk,hl,hd,hq,decide_eq_true hz];rfl
  have HQ:Hid (Sq.aJ s 0=39):=eq_of_beq hq;have he:=qBo s hz;have hc:=jPe s 1 (s.size-1) hs;have hf:(2:Int)<=(s.size:Int):=by omega
  clear hq hl hd hz;go_enter Tryz.func137,Tryz.ntmps137;go_wp2_with (first | (go_at_call 172;refine(jQA s _ _ (by omega) hs).mono ?_;rintro e w' ⟨rfl,rfl⟩;rw[show((0:Int)).toNat=0 from rfl,HQ.o]) | (go_at_call 180;refine(jIK s _).mono ?_;rintro e w' ⟨rfl,rfl⟩;rw[hk]) | (go_at_call 173;refine(jQC _ _).mono ?_;rintro e w' ⟨rfl,rfl⟩;rw[show Sq.jB8 39=false from rfl]) | (go_at_call 175;refine(jQS _ _).mono ?_;rintro e w' ⟨rfl,rfl⟩;rw[show Sq.isDigit 39=false from rfl]) | (go_at_call 181;refine(jMU 4 (s.extract 1 (s.size-1)) 12 _ (by omega) hc).mono ?_;rintro e w2 ⟨rfl,hh⟩;obtain⟨d0,d1,g0,g1,hg⟩:=EX.o w2 hh;rw[show(12:Int).toNat=12 from rfl]));exact cp (v:=.agg #[.int .i64 (Sq.bounded 4 (s.extract 1 (s.size-1)) 12).kind,.string (Sq.bounded 4 (s.extract 1 (s.size-1)) 12).text]) (by simp[results,Tryz.results137,go_sem,d0,d1]) rfl ⟨by rw[HE.o],(hg.setCell nR _).setCell nR _⟩
 have HE:Hid (Sq.jAB s=⟨1,s⟩):=by show Sq.jAB s=_;unfold Sq.jAB;rw[hk,hl,hd,hq,decide_eq_false hz];rfl
 have HQ:Hid (Sq.aJ s 0=39):=eq_of_beq hq;have HZ:Hid (decide ((2:Int)<=(s.size:Int))=false):=decide_eq_false (by omega);clear hq hl hd hz;go_enter Tryz.func137,Tryz.ntmps137;go_wp2_with fail;refine(jQA s _ _ (by omega) hs).mono ?_;rintro e w' ⟨rfl,rfl⟩;rw[show((0:Int)).toNat=0 from rfl,HQ.o];go_wp2_with fail;refine(jIK s _).mono ?_;rintro e w' ⟨rfl,rfl⟩;rw[hk];go_wp2_with fail;refine(jQC _ _).mono ?_;rintro e w' ⟨rfl,rfl⟩;rw[show Sq.jB8 39=false from rfl];go_wp2_with fail;refine(jQS _ _).mono ?_;rintro e w' ⟨rfl,rfl⟩;rw[show Sq.isDigit 39=false from rfl]
 go_upto_if 25 with fail
 rw[HZ.o];go_wp2;exact cp (v:=.agg #[.int .i64 1,.string s]) (by simp[results,Tryz.results137,go_sem,c0,c1]) rfl ⟨by rw[HE.o],(ha.setCell nR _).setCell nR _⟩
theorem jQh {base:Nat}{size:Nat}(h:w.ownsRow base e size v n xs)(hb:Below w.heap.size w w'):w'.ownsRow base e size v n xs:=by
 refine⟨h.1,?_⟩;rcases h.2 with h2 | ⟨g,cap,cur,hv,hg,hh,r⟩
 ·exact Or.inl h2
 exact Or.inr ⟨g,cap,cur,hv,hg,by rw[hb.block g (Array.getElem?_eq_some_iff.1 hh).1];exact hh,r⟩
theorem jQN (w:World)(c:Array Value)(e:TypeId)(l:List Value)(hl:c.toList=l)(hb:b=w.heap.size):∀j u,l[j]?=some u->(w.alloc (.cells c e)).cell? ((⟨b,0,none⟩:Addr).add j)=some u:=by
 intro j u hu;subst hb;have e1:(⟨w.heap.size,0,none⟩:Addr).add j=⟨w.heap.size,j,none⟩:=by unfold Addr.add;split<;>simp_all
 rw[e1];subst hl;simpa using hu
theorem Tryz.jJM:(Tryz.prog.info? 198).map (fun i=>(i.zero,i.size,i.bytes))=some (some (.agg #[.int .i64 0,.string ⟨#[]⟩]),2,24):=by kernel_rfl
theorem qBr (s:BA)(w:World)(hs:s.size<=1000) :
  Calls Tryz.prog 100 #[.string s] w fun e w'=>Below w.heap.size w w' /\
   (
    (Sq.split s=none/\e=.returned (.tuple #[.slice none 0 0,.bool false])) \/
    (∃ws v,Sq.split s=some ws/\e=.returned (.tuple #[v,.bool true])/\ws.length<=1000/\w'.ownsRow w.heap.size 198 2 v ws.length (Sq.jDZ ws))):=by
 obtain⟨i0,hi,hy,hz,hA⟩:=cV Tryz.jJM;go_enter Tryz.func100,Tryz.ntmps100;go_wp2
 go_loopw [4,5] (fun v i wr=>∃(k f:Nat) (ws:List Sq.Word),k<=s.size/\s.size<k+f/\i=.int .i64 k/\wr.ownsRow w.heap.size 198 2 v ws.length (Sq.jDZ ws)/\Below w.heap.size w wr/\ws.length<=k/\Hid (Sq.split s=(Sq.jAi s f k).map (ws++·))) (fun _ i _=>s.size-(intOf i).toNat)
 case atStart=>exact⟨0,s.size+1,[],zR,by omega,rfl,cu _ _ _ _,bR,nR,by show _=_;simp[Sq.split]⟩
 case round =>
  obtain⟨k,f,ws,hk,hf,rfl,hp,ho,hB,ht⟩:=hrel;have hb:=ho.size
  by_cases hlt:k<s.size
  ·obtain⟨f,rfl⟩:∃g,f=g+1:=⟨f-1,by omega⟩;have eb:=Sq.jNU s k hlt;cases hg:Sq.jFf (Sq.aJ s k)
   ·have ha:Sq.jFf ((s[k]).toNat:Int)=false:=by rw[<-eb];exact hg
    by_cases he:Sq.bw s k<=k\/s.size<Sq.bw s k
    ·have hn:=Sq.qAG s f k hlt hg he;have HN:Hid _:=hn;clear hn hg eb;rcases he with he | he
     ·go_wp2_with (first | (go_at_call 135;refine(jJ9 _ _).mono ?_;rintro e w' ⟨rfl,rfl⟩;rw[ha]) | (go_at_call 136;refine(jLg s k _ (by omega) (by omega) hs).mono ?_;rintro e w' ⟨rfl,rfl⟩;simp only[cC]));go_ret2;refine⟨ho,Or.inl ⟨?_,rfl⟩⟩;rw[ht.o,HN.o];rfl
     go_wp2_with (first | (go_at_call 135;refine(jJ9 _ _).mono ?_;rintro e w' ⟨rfl,rfl⟩;rw[ha]) | (go_at_call 136;refine(jLg s k _ (by omega) (by omega) hs).mono ?_;rintro e w' ⟨rfl,rfl⟩;simp only[cC]));go_ret2;refine⟨ho,Or.inl ⟨?_,rfl⟩⟩;rw[ht.o,HN.o];rfl
    have hl:k<Sq.bw s k:=by omega
    have hj:Sq.bw s k<=s.size:=by omega
    have hc:=jPe s k (Sq.bw s k) hs;have HS:Hid (¬(Sq.bw s k<=k\/s.size<Sq.bw s k)):=he;clear he;obtain⟨x,hx⟩:∃x,x=Sq.jAB (s.extract k (Sq.bw s k)):=⟨_,rfl⟩;cases hkd:x.kind==0
    ·have hn:=Sq.jYW s f k hlt hg HS.o (by rw[<-hx];exact ne_of_beq_false hkd);rw[<-hx] at hn;have HN:Hid _:=hn;have HX:Hid _:=hx;clear hn hg eb hx;go_wp2_with (first | (go_at_call 135;refine(jJ9 _ _).mono ?_;rintro e w' ⟨rfl,rfl⟩;rw[ha]) | (go_at_call 136;refine(jLg s k _ (by omega) (by omega) hs).mono ?_;rintro e w' ⟨rfl,rfl⟩;simp only[cC]) | (go_at_call 137;refine(jRX (s.extract k (Sq.bw s k)) _ hc).mono ?_;rintro e w1 ⟨rfl,hq⟩;rw[<-HX.o]) | (at_builtin;refine wpList_append_own _ rfl (.tmp 38) (.tmp 40) 156 rfl w.heap.size 198 i0 (.agg #[.int .i64 0,.string ⟨#[]⟩]) 2 24 Tryz.underlying156 hi hy hz hA rfl (by decide) _ _ _ rfl (((jQh hp hq).alloc _).alloc _) ⟨w1.heap.size+1,0,none⟩ 1 1 [.int .i64 x.kind,.string x.text] rfl rfl ?c1 ?c2 ?c3 ?c4 ?c5 ?_))
     case c1=>exact jQN (w1.alloc (Obj.cells #[Value.int IntKind.i64 x.kind,Value.string x.text] 198)) _ _ _ rfl (by simp)
     case c2=>intro u hu;simp at hu;rcases hu with rfl | rfl<;>rfl
     case c3=>unfold maxLen;omega
     case c4=>omega
     case c5=>have:=hq.size;simp;omega
     intro v' w2 hv hr _;have hh:Below w.heap.size w w2:=(((ho.trans (hq.mono hb)).alloc (by have:=hq.size;omega) _).alloc (by have:=hq.size;simp;omega) _).grown hr (by have:=hq.size;simp;omega) (fun g hg=>(hp.lt g hg).1);clear hr ho hq hp;go_wp2;go_roundw;exact⟨Sq.bw s k,f,ws++[x],hj,by omega,rfl,by rw[Sq.jXs];simpa using hv,hh,by simp;omega,by show _=_;rw[ht.o,HN.o];simp[Option.map_map,Function.comp_def]⟩;simp[intOf];omega
    have hn:=Sq.jYX s f k hlt hg HS.o (by rw[<-hx];exact eq_of_beq hkd);have HN:Hid _:=hn;have HX:Hid _:=hx;clear hn hg eb hx;go_wp2_with (first | (go_at_call 135;refine(jJ9 _ _).mono ?_;rintro e w' ⟨rfl,rfl⟩;rw[ha]) | (go_at_call 136;refine(jLg s k _ (by omega) (by omega) hs).mono ?_;rintro e w' ⟨rfl,rfl⟩;simp only[cC]) | (go_at_call 137;refine(jRX (s.extract k (Sq.bw s k)) _ hc).mono ?_;rintro e w1 ⟨rfl,hq⟩;rw[<-HX.o]));go_ret2;refine⟨(ho.trans (hq.mono hb)).alloc (by have:=hq.size;omega) _,Or.inl ⟨?_,rfl⟩⟩;rw[ht.o,HN.o];rfl
   have ha:Sq.jFf ((s[k]).toNat:Int)=true:=by rw[<-eb];exact hg
   have hn:=Sq.qAE s f k hlt hg;have HN:Hid _:=hn;clear hn hg eb;go_wp2_with (first | (go_at_call 135;refine(jJ9 _ _).mono ?_;rintro e w' ⟨rfl,rfl⟩;rw[ha]));go_roundw;exact⟨k+1,f,ws,by omega,by omega,by go_num,hp,ho,by omega,by show _=_;rw[ht.o,HN.o]⟩;simp[intOf];omega
  have hn:=Sq.qAF s f k (by omega);have HN:Hid _:=hn;clear hn;go_wp2;go_ret2;refine⟨ho,Or.inr ⟨ws,_,?_,rfl,by omega,hp⟩⟩;rw[ht.o,HN.o];simp
end
namespace Sq
structure Col where
 name:BA
 kind:Int
structure Val where
 kind:Int
 number:Int
 text:BA
structure Term where
 column:BA
 lit:Val
structure bE where
 column:BA
 first:Term
 sign:BA
 second:Term
structure bd where
 op:BA
 left:Term
 right:Term
def ar:BA:=⟨#[]⟩
def jDY:Val:=⟨0,0,ar⟩
def jFN:Term:=⟨ar,jDY⟩
def Col.cells (c:Col):List Value:=[.string c.name,.int .i64 c.kind]
def Val.cells (v:Val):List Value:=[.int .i64 v.kind,.int .i64 v.number,.string v.text]
def Term.cells (t:Term):List Value:=[.string t.column,.int .i64 t.lit.kind,.int .i64 t.lit.number,.string t.lit.text]
def bE.cells (s:bE):List Value:=[.string s.column,.string s.first.column,.int .i64 s.first.lit.kind,.int .i64 s.first.lit.number,.string s.first.lit.text,.string s.sign,.string s.second.column,.int .i64 s.second.lit.kind,.int .i64 s.second.lit.number,.string s.second.lit.text]
def bd.cells (s:bd):List Value:=[.string s.op,.string s.left.column,.int .i64 s.left.lit.kind,.int .i64 s.left.lit.number,.string s.left.lit.text,.string s.right.column,.int .i64 s.right.lit.kind,.int .i64 s.right.lit.number,.string s.right.lit.text]
structure PSt where
 pos:Nat
 bad:Bool
 act:Int
 table:BA
 cols:List Col
 ax:List Val
 ak:List bE
 shw:Int
 items:List BA
 aq:List bd
def jEs:Word:=⟨0,ar⟩
def bP (ws:List Word)(st:PSt):Word:=if st.bad then jEs else(ws[st.pos]?).getD jEs
def fail (st:PSt):PSt:={ st with bad:=true }
def step1 (st:PSt):PSt:={ st with pos:=st.pos+1 }
def bn (ws:List Word)(st:PSt):PSt:=if(bP ws st).kind==0 then fail st else step1 st
def aU (ws:List Word)(st:PSt)(m:BA):Bool:=(bP ws st).kind==1&&(bP ws st).text.toList==m.toList
def aR (ws:List Word)(st:PSt)(m:BA):PSt:=if aU ws st m then step1 st else st
def aK (ws:List Word)(st:PSt)(m:BA):PSt:=if aU ws st m then step1 st else fail st
def bO (ws:List Word)(st:PSt):PSt:=if(bP ws st).kind==2 then bn ws st else fail (bn ws st)
def jAV (ws:List Word)(st:PSt):BA:=if(bP ws st).kind==2 then(bP ws st).text else ar
def jD7 (ws:List Word)(st:PSt):BA:=if(bP ws st).kind==1 then(bP ws st).text else ar
theorem jTf (ws:List Word)(st:PSt)(h:st.bad=true):bP ws st=jEs:=by simp[bP,h]
theorem jTe (ws:List Word)(st:PSt)(h:ws.length<=st.pos):bP ws st=jEs:=by
 unfold bP;split
 ·rfl
 rw[dt h];rfl
theorem jUi (ws:List Word)(st:PSt)(hb:st.bad=false)(h:st.pos<ws.length):bP ws st=ws[st.pos]:=by
 unfold bP;rw[hb,cz h];rfl
theorem jJ6 (ws:List Word)(st:PSt)(h:(bP ws st).kind≠0):st.pos<ws.length:=by
 rcases dL st.pos ws.length with h1 | h1
 ·exact h1
 rw[jTe ws st h1] at h;exact absurd rfl h
theorem jSy (ws:List Word)(k:Nat)(h:k<ws.length):(jDZ ws)[k*2]?=some (.int .i64 (ws[k]).kind)/\(jDZ ws)[k*2+1]?=some (.string (ws[k]).text):=by
 induction ws generalizing k with
 | nil=>simp at h
 | cons x r ih =>
  cases k with
  | zero=>simp[jDZ,Word.cells]
  | succ k =>
   have h':k<r.length:=by simpa using h
   have:=ih k h'
   simp only[jDZ,cK,Word.cells] at this ⊢;rw[show(k+1)*2=k*2+2 from by omega,show k*2+2+1=k*2+1+2 from by omega];simpa using this
theorem jKP (k:Int)(t:BA)(m:Nat):(bounded k t m).text.size<=m:=by
 unfold bounded;split
 ·assumption
 exact zR
theorem jQX (k:Int)(t:BA)(m:Nat):(bounded k t m).kind=k\/(bounded k t m).kind=0:=by
 unfold bounded;split<;>simp
theorem jZM (s:BA)(h:(jAB s).kind=3):(jAB s).text.size<=9:=by
 unfold jAB at h ⊢
 split
 ·rename_i h1;rw[cE h1] at h;simp at h
 rename_i h1;rw[cy h1] at h
 split
 ·rename_i h2;rw[cE h2] at h;rcases jQX 2 s 8 with h3 | h3<;>rw[h3] at h<;>simp at h
 rename_i h2;rw[cy h2] at h
 split
 ·exact jKP 3 s 9
 rename_i h3;rw[cy h3] at h
 split
 ·rename_i h4;rw[cE h4] at h;rcases jQX 4 (s.extract 1 (s.size-1)) 12 with h5 | h5<;>rw[h5] at h<;>simp at h
 rename_i h4;rw[cy h4] at h;simp at h
theorem jWI (s:BA):∀f a ws,jAi s f a=some ws->∀x∈ws,x.kind=3->x.text.size<=9:=by
 intro f
 induction f with
 | zero=>intro a ws h x hx;simp[jAi] at h;subst h;simp at hx
 | succ f ih =>
  intro a ws h x hx;rw[jAi] at h
  split at h
  ·split at h
   ·exact ih _ _ h x hx
   split at h
   ·simp at h
   split at h
   ·simp at h
   cases h2:jAi s f (bw s a) with
   | none=>rw[h2] at h;simp at h
   | some l =>
    rw[h2] at h;simp at h;subst h;rcases List.mem_cons.1 hx with rfl | hx
    ·exact jZM _
    exact ih _ _ h2 x hx
  simp at h;subst h;simp at hx
theorem qBi (s:BA)(ws:List Word)(h:split s=some ws):∀x∈ws,x.kind=3->x.text.size<=9:=jWI s _ _ ws h
theorem qCb (ws:List Word)(st:PSt)(h:∀x∈ws,x.kind=3->x.text.size<=9)(hk:(bP ws st).kind=3):(bP ws st).text.size<=9:=by
 have hp:=jJ6 ws st (by rw[hk];decide);cases hb:st.bad with
 | true=>rw[jTf ws st hb] at hk;simp[jEs] at hk
 | false=>rw[jUi ws st hb hp] at hk ⊢;exact h _ (cJ hp) hk
def dv (c:UInt8):Int:=((c.toNat:Int)-48) % 256
def jF5 (l:List UInt8):Int:=l.foldl (fun n c=>n*10+dv c) 0
def num (t:BA):Int:=jF5 t.data.toList
theorem qAV (l:List UInt8)(c:UInt8):jF5 (l++[c])=jF5 l*10+dv c:=by simp[jF5]
theorem jZo (l:List UInt8):∀a:Int,0<=a->0<=l.foldl (fun n c=>n*10+dv c) a/\l.foldl (fun n c=>n*10+dv c) a+29<=(a+29)*((10^l.length:Nat):Int):=by
 induction l with
 | nil=>intro a h;simp;omega
 | cons c r ih =>
  intro a h;have hd:0<=dv c/\dv c<=255:=by unfold dv;omega
  obtain⟨i1,i2⟩:=ih (a*10+dv c) (by omega);rw[de,cG,Nat.pow_succ];refine⟨i1,?_⟩;have h1:(0:Int)<=((10^r.length:Nat):Int):=Int.natCast_nonneg _;have h2:(a*10+dv c+29)*((10^r.length:Nat):Int)<=((a+29)*10)*((10^r.length:Nat):Int):=Int.mul_le_mul_of_nonneg_right (by omega) h1
  have h3:(a+29)*((10^r.length*10:Nat):Int)=((a+29)*10)*((10^r.length:Nat):Int):=by
   rw[Int.natCast_mul,Int.mul_assoc,Int.mul_comm ((10^r.length:Nat):Int)];rfl
  rw[h3];omega
theorem jRT (l:List UInt8)(h:l.length<=9):0<=jF5 l/\jF5 l<=29000000000:=by
 have h1:=jZo l 0 (by omega);have h2:(10:Nat)^l.length<=10^9:=dH (by decide) h;have h3:(10:Nat)^9=1000000000:=by decide
 refine⟨h1.1,?_⟩;have h4:=h1.2;unfold jF5;omega
theorem qAU (t:BA)(h:t.size<=9):0<=num t/\num t<=29000000000:=jRT _ (by simpa using h)
def bu:BA:=⟨#[45]⟩
def jFT (ws:List Word)(st:PSt):Val :=
 if(bP ws (aR ws st bu)).kind==3 then
  (if aU ws st bu then⟨0,-num (bP ws (aR ws st bu)).text,ar⟩ else⟨0,num (bP ws (aR ws st bu)).text,ar⟩)
 else if(bP ws (aR ws st bu)).kind==4 && !aU ws st bu then⟨1,0,(bP ws (aR ws st bu)).text⟩
 else jDY
def jEB (ws:List Word)(st:PSt):PSt :=
 if(bP ws (aR ws st bu)).kind==3 then bn ws (aR ws st bu)
 else if(bP ws (aR ws st bu)).kind==4 && !aU ws st bu then bn ws (aR ws st bu)
 else fail (bn ws (aR ws st bu))
def jCk (ws:List Word)(st:PSt):Term:=if(bP ws st).kind==2 then⟨(bP ws st).text,jDY⟩ else⟨ar,jFT ws st⟩
def jBM (ws:List Word)(st:PSt):PSt:=if(bP ws st).kind==2 then step1 st else jEB ws st
end Sq
section
open Go.RowKit
structure Rw where
 cv:Value
 vv:Value
 sv:Value
 iv:Value
 wv:Value
structure PS (pb:Nat)(lv:Value)(ws:List Sq.Word)(r:Rw)(w:World)(st:Sq.PSt):Prop where
 blk:w.heap[pb]?=some (.cells #[lv,.int .i64 st.pos,.bool st.bad,.int .i64 st.act,.string st.table,r.cv,r.vv,r.sv,.int .i64 st.shw,r.iv,r.wv] 160)
 list:w.ownsRow 0 198 2 lv ws.length (Sq.jDZ ws)
 small:ws.length<=1000
 wf:∀x∈ws,x.kind=3->x.text.size<=9
 inside:st.pos<=ws.length
 cols:w.ownsRow (pb+1) 205 2 r.cv st.cols.length (st.cols.flatMap Sq.Col.cells)
 ax:w.ownsRow (pb+1) 208 3 r.vv st.ax.length (st.ax.flatMap Sq.Val.cells)
 ak:w.ownsRow (pb+1) 213 10 r.sv st.ak.length (st.ak.flatMap Sq.bE.cells)
 items:w.ownsRow (pb+1) 9 1 r.iv st.items.length (st.items.map Value.string)
 aq:w.ownsRow (pb+1) 217 9 r.wv st.aq.length (st.aq.flatMap Sq.bd.cells)
theorem jQp {base:Nat}{size:Nat}(h:w.ownsRow base e size v n xs)(hb:∀g,v.ownBlock=some g->w'.heap[g]?=w.heap[g]?):w'.ownsRow base e size v n xs:=by
 refine⟨h.1,?_⟩;rcases h.2 with h2 | ⟨g,cap,cur,hv,hg,hh,r⟩
 ·exact Or.inl h2
 exact Or.inr ⟨g,cap,cur,hv,hg,by rw[hb g (by rw[hv];rfl)];exact hh,r⟩
theorem jMy {base:Nat}{size:Nat}(h:w.ownsRow base e size v n xs)(hg:v.ownBlock=some g):∃cur,w.heap[g]?=some (.cells cur e (0,0)):=by
 rcases h.2 with⟨rfl,_⟩ | ⟨g',cap,cur,rfl,_,hh,_⟩
 ·cases hg
 have:g'=g:=by simpa[Value.ownBlock] using hg
 subst this;exact⟨cur,hh⟩
theorem jWq {base ha:Nat}{size hb:Nat}{v':Value}{n':Nat}{hh:List Value}(h:w.ownsRow base e size v n xs)(h':w.ownsRow ha e' hb v' n' hh)(hf:e≠e')(hg:v.ownBlock=some g):v'.ownBlock≠some g:=by
 intro hc;obtain⟨c1,h1⟩:=jMy h hg;obtain⟨c2,h2⟩:=jMy h' hc;rw[h1] at h2;simp at h2;exact hf h2.2
theorem jQm {base:Nat}{size:Nat}(h:w.ownsRow base e size v n xs)(hb:w.heap[b]?=some (.cells c e' fr))(ha:e≠e'):v.ownBlock≠some b:=by
 intro hg;obtain⟨c1,h1⟩:=jMy h hg;rw[hb] at h1;simp at h1;exact ha h1.2.1.symm
theorem jQb (h:w.heap[b]?=some (.cells c e (0,0)))(j:Nat):w.cell? ⟨b,j,none⟩=c[j]?:=by simp[World.cell?,h]
theorem jQd (h:w.heap[b]?=some (.cells c e (0,0)))(j:Nat):w.frozen? ⟨b,j,none⟩=false:=by simp[World.frozen?,h]
theorem jQe {o:Obj}(h:w.heap[b]?=some o):b<w.heap.size:=(Array.getElem?_eq_some_iff.1 h).1
section
variable {pb:Nat} {lv:Value} {ws:List Sq.Word} {r:Rw} {w w':World} {st:Sq.PSt}
theorem PS.lt (h:PS pb lv ws r w st):pb<w.heap.size:=jQe h.blk
theorem PS.below (h:PS pb lv ws r w st)(hb:Below w.heap.size w w'):PS pb lv ws r w' st :=
 ⟨by rw[hb.block pb h.lt];exact h.blk,jQh h.list hb,h.small,h.wf,h.inside,jQh h.cols hb,jQh h.ax hb,jQh h.ak hb,jQh h.items hb,jQh h.aq hb⟩
theorem PS.alloc (h:PS pb lv ws r w st)(o:Obj):PS pb lv ws r (w.alloc o) st:=h.below (bA)
end
theorem qCT {ws:List Sq.Word}(h:w.ownsRow 0 198 2 lv ws.length (Sq.jDZ ws))(k:Nat)(hk:k<ws.length) :
  ∃g cap,lv=.slice (some ⟨g,0,none⟩) ws.length cap/\g<w.heap.size/\w.cell? ⟨g,k*2,none⟩=some (.int .i64 (ws[k]).kind)/\w.cell? ⟨g,k*2+1,none⟩=some (.string (ws[k]).text):=by
 obtain⟨g,cap,rfl,_,ha⟩:=h.form (by omega);refine⟨g,cap,rfl,ha,?_,?_⟩
 ·have:=h.cells (g:=g) rfl (k*2) _ (Sq.jSy ws k hk).1
  rwa [show(⟨g,0,none⟩:Addr).add (k*2)=⟨g,k*2,none⟩ from by unfold Addr.add;split<;>simp_all] at this
 have:=h.cells (g:=g) rfl (k*2+1) _ (Sq.jSy ws k hk).2
 rwa [show(⟨g,0,none⟩:Addr).add (k*2+1)=⟨g,k*2+1,none⟩ from by unfold Addr.add;split<;>simp_all] at this
theorem jN3 {ws:List Sq.Word}{r:Rw}{st:Sq.PSt}(h:PS pb lv ws r w st) :
  Calls Tryz.prog 214 #[.pointer (some ⟨pb,0,none⟩)] w fun e w'=>e=.returned (.agg #[.int .i64 (Sq.bP ws st).kind,.string (Sq.bP ws st).text])/\Below w.heap.size w w':=by
 have he:=h.lt;have c0:w.cell? ⟨pb,0,none⟩=some lv:=by rw[jQb h.blk];rfl
 have c1:w.cell? ⟨pb,1,none⟩=some (.int .i64 st.pos):=by rw[jQb h.blk];rfl
 have c2:w.cell? ⟨pb,2,none⟩=some (.bool st.bad):=by rw[jQb h.blk];rfl
 have hf:=h.small;have hc:=h.inside;have ha:=h.list;clear h;cases hb:st.bad
 case true =>
  have HE:Hid _:=Sq.jTf ws st hb;rw[hb] at c2;clear hb ha;go_enter Tryz.func214,Tryz.ntmps214;go_wp2
  go_quiet (fail)
  go_wp2;exact cp (v:=.agg #[.int .i64 0,.string ⟨#[]⟩]) (by simp[results,Tryz.results214,go_sem]) rfl ⟨by rw[HE.o];rfl,((ez (bA) _).setCell nR _).setCell nR _⟩
 case false =>
  rw[hb] at c2
  by_cases hp:st.pos<ws.length
  ·have HE:Hid _:=Sq.jUi ws st hb hp;obtain⟨g,cap,rfl,hg,k0,k1⟩:=qCT ha st.pos hp;clear hb ha;go_enter Tryz.func214,Tryz.ntmps214;go_wp2
   go_quiet (fail)
   go_wp2
   go_region
   go_wp2;exact cp (v:=.agg #[.int .i64 (ws[st.pos]).kind,.string (ws[st.pos]).text]) (by simp[results,Tryz.results214,go_sem]) rfl ⟨by rw[HE.o],((ez (bA) _).setCell nR _).setCell nR _⟩
  have HE:Hid _:=Sq.jTe ws st (by omega)
  obtain⟨ao,cap,rfl⟩:∃ao cap,lv=.slice ao ws.length cap:=by
   rcases ha.2 with⟨h1,h2⟩ | ⟨g,cap,_,h1,_⟩
   ·exact⟨none,0,by rw[h1,h2]⟩
   exact⟨_,_,h1⟩
  clear hb ha;go_enter Tryz.func214,Tryz.ntmps214;go_wp2
  go_quiet (fail)
  go_wp2;exact cp (v:=.agg #[.int .i64 0,.string ⟨#[]⟩]) (by simp[results,Tryz.results214,go_sem]) rfl ⟨by rw[HE.o];rfl,((ez (bA) _).setCell nR _).setCell nR _⟩
end
section
open Go.RowKit
def Tch (pb:Nat)(w w':World):Prop:=w.grownBy w' (some pb)
section
variable {pb:Nat} {w w1 w2:World}
theorem Tch.refl (pb:Nat)(w:World):Tch pb w w:=⟨rfl,rfl,rfl,nR,fun _ _ _=>rfl⟩
theorem Tch.trans (h:Tch pb w w1)(k:Tch pb w1 w2):Tch pb w w2 :=
 ⟨k.os.trans h.os,k.tape.trans h.tape,k.output.trans h.output,cm h.size k.size,fun i hi hn=>(k.block i (dz hi h.size) hn).trans (h.block i hi hn)⟩
theorem Tch.of (h:Below w.heap.size w w1):Tch pb w w1:=⟨h.os,h.tape,h.output,h.size,fun i hi _=>h.block i hi⟩
theorem Tch.below (h:Tch pb w w1)(hB:B<=pb)(hw:B<=w.heap.size):Below B w w1:=⟨h.os,h.tape,h.output,h.size,fun i hi=>h.block i (by omega) (by simp;omega)⟩
theorem Tch.alloc (h:Tch pb w w1)(o:Obj):Tch pb w (w1.alloc o):=h.trans (Tch.of (bA))
theorem Tch.store (h:Tch pb w w1){o:Nat}(hb:b=pb\/w.heap.size<=b)(x:Value):Tch pb w (w1.setCell ⟨b,o,none⟩ x):=by
 refine⟨h.os,h.tape,h.output,by simpa[World.setCell] using h.size,fun i hi hn=>?_⟩;rw[Below.heap_setCell _ _ _ _ (by show i≠b;rcases hb with rfl | hb;exact fun e=>hn (by rw[e]);omega)];exact h.block i hi hn
end
theorem jQf {o:Nat}(h:w.heap[b]?=some (.cells c e fr))(x:Value):(w.setCell ⟨b,o,none⟩ x).heap[b]?=some (.cells (c.setIfInBounds o x) e fr):=by
 simp only[World.setCell,Array.getElem?_modify,h];simp
theorem jQg {b' o:Nat}{x:Value}(h:b≠b'):(w.setCell ⟨b',o,none⟩ x).heap[b]?=w.heap[b]?:=Below.heap_setCell _ _ _ _ h
theorem PS.jB3 {ws:List Sq.Word}{r:Rw}{st ha:Sq.PSt}(h:PS pb lv ws r w st)(ht:Tch pb w w')
  (hb:w'.heap[pb]?=some (.cells #[lv,.int .i64 ha.pos,.bool ha.bad,.int .i64 ha.act,.string ha.table,r.cv,r.vv,r.sv,.int .i64 ha.shw,r.iv,r.wv] 160))
  (hc:ha.pos<=ws.length) (e1:ha.cols=st.cols) (e2:ha.ax=st.ax) (e3:ha.ak=st.ak) (e4:ha.items=st.items) (e5:ha.aq=st.aq):PS pb lv ws r w' ha:=by
 have k:∀{v:Value} {base:Nat} {e:TypeId} {size n:Nat} {xs:List Value},e≠160->w.ownsRow base e size v n xs->w'.ownsRow base e size v n xs:=by
  intro v base e size n xs hf ho;refine jQp ho fun g hg=>ht.block g (ho.lt g hg).2 ?_
  exact fun e=>jQm ho h.blk hf (by rw[hg,e])
 exact⟨hb,k (by decide) h.list,h.small,h.wf,hc,by rw[e1];exact k (by decide) h.cols,by rw[e2];exact k (by decide) h.ax,by rw[e3];exact k (by decide) h.ak,by rw[e4];exact k (by decide) h.items,by rw[e5];exact k (by decide) h.aq⟩
theorem PS.later {ws:List Sq.Word}{r:Rw}{st:Sq.PSt}(h:PS pb lv ws r w st)(hb:Below w.heap.size w w1) :
  w1.cell? ⟨pb,1,none⟩=some (.int .i64 st.pos)/\w1.frozen? ⟨pb,1,none⟩=false/\w1.cell? ⟨pb,2,none⟩=some (.bool st.bad)/\w1.frozen? ⟨pb,2,none⟩=false/\pb<w1.heap.size:=by
 have ha:=(h.below hb).blk;exact⟨by rw[jQb ha];rfl,jQd ha 1,by rw[jQb ha];rfl,jQd ha 2,jQe ha⟩
theorem PS.jG9 {ws:List Sq.Word}{r:Rw}{st:Sq.PSt}(h:PS pb lv ws r w st)(hb:Below w.heap.size w w1)(ht:Tch pb w w')(hp:st.pos<ws.length)
  (hw:w'.heap[pb]?=(w1.setCell ⟨pb,1,none⟩ (.int .i64 ((st.pos:Int)+1))).heap[pb]?):PS pb lv ws r w' (Sq.step1 st) :=
 h.jB3 ht (by rw[hw,jQf (h.below hb).blk];rfl) hp rfl rfl rfl rfl rfl
theorem PS.jE7 {ws:List Sq.Word}{r:Rw}{st:Sq.PSt}(h:PS pb lv ws r w st)(hb:Below w.heap.size w w1)(ht:Tch pb w w')
  (hw:w'.heap[pb]?=(w1.setCell ⟨pb,2,none⟩ (.bool true)).heap[pb]?):PS pb lv ws r w' (Sq.fail st) :=
 h.jB3 ht (by rw[hw,jQf (h.below hb).blk];rfl) h.inside rfl rfl rfl rfl rfl
theorem jN8 {ws:List Sq.Word}{r:Rw}{st:Sq.PSt}(h:PS pb lv ws r w st) :
  Calls Tryz.prog 182 #[.pointer (some ⟨pb,0,none⟩)] w fun e w'=>e=.returned (.agg #[.int .i64 (Sq.bP ws st).kind,.string (Sq.bP ws st).text])/\PS pb lv ws r w' (Sq.bn ws st)/\Tch pb w w':=by
 have hf:=h.lt;have hg:=h.small;have he:=h.inside;obtain⟨x,hx⟩:∃x,x=Sq.bP ws st:=⟨_,rfl⟩;rw[<-hx];have HX:Hid _:=hx;have H:Hid _:=h;clear hx h;go_enter Tryz.func182,Tryz.ntmps182;go_wp2_with fail;refine(jN3 (H.o.alloc _)).mono ?_;rintro e w1 ⟨rfl,hj⟩;rw[<-HX.o];obtain⟨k1,k2⟩:=aD hj;have c0:=k1 w.heap.size 0 (by simp);have c1:=k1 w.heap.size 1 (by simp);have f0:=k2 w.heap.size 0 (by simp);have f1:=k2 w.heap.size 1 (by simp);simp[go_sem] at c0 c1 f0 f1;have hz:w.heap.size<w1.heap.size:=by have:=hj.size;simp at this;omega
 have hb:w.heap.size≠pb:=by omega
 have ha:Below w.heap.size w w1:=((Below.refl _ w).alloc nR _).trans (hj.mono (by simp));obtain⟨d1,g1,d2,g2,hh⟩:=H.o.later ha;clear k1 k2 hj;cases hk:x.kind==0
 ·have hc:st.pos<ws.length:=Sq.jJ6 ws st (by rw[<-HX.o];exact ne_of_beq_false hk);go_wp2
  have ht:Tch pb w ((((w1.setCell ⟨pb,1,none⟩ (.int .i64 ((st.pos:Int)+1))).setCell ⟨w.heap.size,0,none⟩ (.int .i64 x.kind)).setCell ⟨w.heap.size,1,none⟩ (.string x.text)).alloc (.cells #[.int .i64 x.kind,.string x.text] 198)) :=
   ((((Tch.of ha).store (.inl rfl) _).store (.inr nR) _).store (.inr nR) _).alloc _
  refine cp (v:=.agg #[.int .i64 x.kind,.string x.text]) (by simp[results,Tryz.results182,go_sem, *]) rfl ⟨rfl,?_,ht⟩;rw[show Sq.bn ws st=Sq.step1 st from by unfold Sq.bn;rw[<-HX.o,hk];rfl];exact H.o.jG9 ha ht hc (by rw[ej _ _ _ (by simpa using hh),jQg hb.symm,jQg hb.symm])
 go_wp2
 have ht:Tch pb w ((((w1.setCell ⟨pb,2,none⟩ (.bool true)).setCell ⟨w.heap.size,0,none⟩ (.int .i64 x.kind)).setCell ⟨w.heap.size,1,none⟩ (.string x.text)).alloc (.cells #[.int .i64 x.kind,.string x.text] 198)) :=
  ((((Tch.of ha).store (.inl rfl) _).store (.inr nR) _).store (.inr nR) _).alloc _
 refine cp (v:=.agg #[.int .i64 x.kind,.string x.text]) (by simp[results,Tryz.results182,go_sem, *]) rfl ⟨rfl,?_,ht⟩;rw[show Sq.bn ws st=Sq.fail st from by unfold Sq.bn;rw[<-HX.o,hk];rfl];exact H.o.jE7 ha ht (by rw[ej _ _ _ (by simpa using hh),jQg hb.symm,jQg hb.symm])
theorem jQL {ws:List Sq.Word}{r:Rw}{st:Sq.PSt}(m:BA)(h:PS pb lv ws r w st) :
  Calls Tryz.prog 185 #[.pointer (some ⟨pb,0,none⟩),.string m] w fun e w'=>e=.returned (.bool (Sq.aU ws st m))/\PS pb lv ws r w' (Sq.aR ws st m)/\Tch pb w w':=by
 have hf:=h.lt;have hg:=h.small;have he:=h.inside;obtain⟨x,hx⟩:∃x,x=Sq.bP ws st:=⟨_,rfl⟩;have HB:Hid (Sq.aU ws st m=(x.kind==1&&x.text.toList==m.toList)):=by rw[hx];rfl
 have HX:Hid _:=hx;have H:Hid _:=h;clear hx h;go_enter Tryz.func185,Tryz.ntmps185;go_wp2_with fail;refine(jN3 H.o).mono ?_;rintro e w1 ⟨rfl,hj⟩;rw[<-HX.o];obtain⟨d1,g1,d2,g2,hn⟩:=H.o.later hj;cases hk:x.kind==1
 ·have hb:(x.kind != 1)=true:=by simp[bne,hk]
  have hB:Sq.aU ws st m=false:=by rw[HB.o,hk];rfl
  have ha:Hid _:=hB;clear hB;go_wp2;go_ret;exact⟨by rw[ha.o];rfl,by rw[show Sq.aR ws st m=st from by unfold Sq.aR;rw[ha.o];rfl];exact(H.o.below hj).alloc _,(Tch.of hj).alloc _⟩
 cases ht:x.text.toList==m.toList
 ·have hb:(x.kind != 1)=false:=by simp[bne,hk]
  have hB:Sq.aU ws st m=false:=by rw[HB.o,hk,ht];rfl
  have ha:Hid _:=hB;clear hB hk;go_wp2;go_ret;exact⟨by rw[ha.o];rfl,by rw[show Sq.aR ws st m=st from by unfold Sq.aR;rw[ha.o];rfl];exact(H.o.below hj).alloc _,(Tch.of hj).alloc _⟩
 have hb:(x.kind != 1)=false:=by simp[bne,hk]
 have hB:Sq.aU ws st m=true:=by rw[HB.o,hk,ht];rfl
 have ha:Hid _:=hB;have hc:st.pos<ws.length:=Sq.jJ6 ws st (by rw[<-HX.o,eq_of_beq hk];decide);have HT:Hid _:=ht;clear hB hk ht;have hh:(!(x.text.toList==m.toList))=false:=by rw[HT.o];rfl
 go_wp2;go_ret
 have ht:Tch pb w ((w1.setCell ⟨pb,1,none⟩ (.int .i64 ((st.pos:Int)+1))).alloc (.cells #[.int .i64 x.kind,.string x.text] 198)) :=
  ((Tch.of hj).store (.inl rfl) _).alloc _
 exact⟨by rw[ha.o];rfl,by rw[show Sq.aR ws st m=Sq.step1 st from by unfold Sq.aR;rw[ha.o];rfl];exact H.o.jG9 hj ht hc (by rw[ej _ _ _ (by simpa using hn)]),ht⟩
end
def Sq.jGh:BA:=⟨#[116,101,120,116]⟩
def Sq.jIx:BA:=⟨#[105,110,116]⟩
def Sq.jFg (ws:List Sq.Word)(st:Sq.PSt):Int:=if Sq.aU ws st Sq.jGh then 1 else 0
def Sq.jCS (ws:List Sq.Word)(st:Sq.PSt):Sq.PSt:=if Sq.aU ws st Sq.jGh then Sq.aR ws st Sq.jGh else Sq.aK ws st Sq.jIx
def Sq.jEW:List (List UInt8):=[[61],[60,62],[60],[60,61],[62],[62,61]]
def Sq.jAf (s:BA):Bool:=Sq.jEW.contains s.data.toList
def Sq.jBo (st:Sq.PSt)(s:Sq.bd):Sq.PSt:={ st with aq:=st.aq++[s] }
def Sq.jBY (ws:List Sq.Word)(st:Sq.PSt):Sq.PSt:=if Sq.jAf (Sq.jD7 ws (Sq.jBM ws st)) then Sq.bn ws (Sq.jBM ws st) else Sq.fail (Sq.bn ws (Sq.jBM ws st))
def Sq.jGi (ws:List Sq.Word)(st:Sq.PSt):Sq.PSt :=
 Sq.jBo (Sq.jBM ws (Sq.jBY ws st)) ⟨Sq.jD7 ws (Sq.jBM ws st),Sq.jCk ws st,Sq.jCk ws (Sq.jBY ws st)⟩
theorem Sq.jQ8 (ws:List Sq.Word)(st:Sq.PSt):(Sq.jBM ws st).aq=st.aq:=by
 unfold Sq.jBM Sq.jEB Sq.bn Sq.aR
 repeat (first | rfl | split)
theorem Sq.jG2 (ws:List Sq.Word)(st:Sq.PSt):(Sq.bn ws st).aq=st.aq:=by
 unfold Sq.bn
 repeat (first | rfl | split)
theorem Sq.jPp (ws:List Sq.Word)(st:Sq.PSt):(Sq.jBY ws st).aq=st.aq:=by
 unfold Sq.jBY
 split
 ·rw[Sq.jG2,Sq.jQ8]
 show(Sq.bn ws _).aq=_
 rw[Sq.jG2,Sq.jQ8]
namespace Sq
def bOr:BA:=⟨#[111,114]⟩
def jHh:BA:=⟨#[97,110,100]⟩
def jIy:BA:=⟨#[110,111,116]⟩
def jCN:BA:=⟨#[40]⟩
def jBO:BA:=⟨#[41]⟩
def jHR:BA:=⟨#[119,104,101,114,101]⟩
def jCD (m:BA):bd:=⟨m,jFN,jFN⟩
def cond (ws:List Word):Nat->Nat->PSt->PSt
 | 0,_,st=>st
 | f+1,0,st=>cond ws f 3 (cond ws f 1 st)
 | f+1,1,st=>cond ws f 4 (cond ws f 2 st)
 | f+1,2,st=>if aU ws st jIy then jBo (cond ws f 2 (step1 st)) (jCD jIy) else if aU ws st jCN then aK ws (cond ws f 0 (step1 st)) jBO else jGi ws st
 | f+1,3,st=>if aU ws st bOr then cond ws f 3 (jBo (cond ws f 1 (step1 st)) (jCD bOr)) else st
 | f+1,_+4,st=>if aU ws st jHh then cond ws f 4 (jBo (cond ws f 2 (step1 st)) (jCD jHh)) else st
theorem jNQ (ws:List Word)(st:PSt):st.pos<=(bn ws st).pos:=by unfold bn;split<;>simp[fail,step1]
theorem jRq (ws:List Word)(st:PSt)(m:BA):st.pos<=(aR ws st m).pos:=by unfold aR;split<;>simp[step1]
theorem jNK (ws:List Word)(st:PSt)(m:BA):st.pos<=(aK ws st m).pos:=by unfold aK;split<;>simp[step1,fail]
theorem jQn (ws:List Word)(st:PSt)(m:BA):(aK ws st m).aq=st.aq:=by unfold aK;split<;>rfl
theorem jUm (ws:List Word)(st:PSt):st.pos<=(jEB ws st).pos:=by
 have h1:=jNQ ws (aR ws st bu);have h2:=jRq ws st bu;unfold jEB
 repeat (first | split | (show _<=(bn ws _).pos;omega))
theorem jLp (ws:List Word)(st:PSt):st.pos<=(jBM ws st).pos:=by
 unfold jBM;split
 ·simp[step1]
 exact jUm ws st
theorem jXH (ws:List Word)(st:PSt):st.pos<=(jBY ws st).pos:=by
 have h1:=jLp ws st;have h2:=jNQ ws (jBM ws st);unfold jBY
 split
 ·omega
 show _<=(bn ws _).pos;omega
theorem qAz (ws:List Word)(st:PSt):st.pos<=(jGi ws st).pos:=cm (jXH ws st) (jLp ws (jBY ws st))
theorem jZV (ws:List Word)(st:PSt):(jGi ws st).aq.length=st.aq.length+1:=by
 show((jBM ws (jBY ws st)).aq++[_]).length=_
 rw[jQ8,jPp,cg];rfl
theorem jJ3 (st:PSt)(s:bd):(jBo st s).aq.length=st.aq.length+1:=by simp[jBo]
def more (t:Nat):Nat:=if t<=2 then 1 else 0
theorem jJg (ws:List Word):∀f t st,st.pos<=(cond ws f t st).pos/\(cond ws f t st).aq.length+2*st.pos<=st.aq.length+2*(cond ws f t st).pos+more t:=by
 intro f
 induction f with
 | zero=>intro t st;simp[cond]
 | succ f ih =>
  intro t st
  match t with
  | 0 =>
   rw[cond];have h1:=ih 1 st;have h2:=ih 3 (cond ws f 1 st);simp[more] at h1 h2 ⊢;omega
  | 1 =>
   rw[cond];have h1:=ih 2 st;have h2:=ih 4 (cond ws f 2 st);simp[more] at h1 h2 ⊢;omega
  | 2 =>
   rw[cond]
   split
   ·have h1:=ih 2 (step1 st);rw[jJ3];simp[more,step1] at h1 ⊢;show st.pos<=(cond ws f 2 _).pos/\_<=_+2*(cond ws f 2 _).pos+1;omega
   split
   ·have h1:=ih 0 (step1 st);have h2:=jNK ws (cond ws f 0 (step1 st)) jBO;rw[jQn];simp[more,step1] at h1 ⊢;simp[step1] at h2;omega
   have h1:=qAz ws st;have h2:=jZV ws st;simp[more];omega
  | 3 =>
   rw[cond]
   split
   ·have h1:=ih 1 (step1 st);have h2:=ih 3 (jBo (cond ws f 1 (step1 st)) (jCD bOr));rw[jJ3] at h2;have h3:(jBo (cond ws f 1 (step1 st)) (jCD bOr)).pos=(cond ws f 1 (step1 st)).pos:=rfl;have h4:(step1 st).aq=st.aq:=rfl;have h5:(step1 st).pos=st.pos+1:=rfl;rw[h3] at h2;rw[h4,h5] at h1;simp only[more] at h1 h2 ⊢;simp at h1 h2 ⊢;omega
   simp[more]
  | t+4 =>
   rw[cond]
   split
   ·have h1:=ih 2 (step1 st);have h2:=ih 4 (jBo (cond ws f 2 (step1 st)) (jCD jHh));rw[jJ3] at h2;have h3:(jBo (cond ws f 2 (step1 st)) (jCD jHh)).pos=(cond ws f 2 (step1 st)).pos:=rfl;have h4:(step1 st).aq=st.aq:=rfl;have h5:(step1 st).pos=st.pos+1:=rfl;rw[h3] at h2;rw[h4,h5] at h1;simp only[more] at h1 h2 ⊢;simp at h1 h2 ⊢;omega
   simp[more]
theorem jKX (ws:List Word)(st:PSt):(bn ws st).cols=st.cols:=by unfold bn;split<;>rfl
theorem jXg (ws:List Word)(st:PSt)(m:BA):(aR ws st m).cols=st.cols:=by unfold aR;split<;>rfl
theorem jIX (ws:List Word)(st:PSt)(m:BA):(aK ws st m).cols=st.cols:=by unfold aK;split<;>rfl
theorem jJ0 (ws:List Word)(st:PSt):(bO ws st).cols=st.cols:=by unfold bO;split<;>exact jKX ws st
theorem jRy (ws:List Word)(st:PSt):(jCS ws st).cols=st.cols:=by
 unfold jCS;split
 ·exact jXg ws st _
 exact jIX ws st _
theorem jNe (ws:List Word)(st:PSt):(bn ws st).ax=st.ax:=by unfold bn;split<;>rfl
theorem jXe (ws:List Word)(st:PSt)(m:BA):(aR ws st m).ax=st.ax:=by unfold aR;split<;>rfl
theorem jRZ (ws:List Word)(st:PSt)(m:BA):(aK ws st m).ax=st.ax:=by unfold aK;split<;>rfl
theorem jZp (ws:List Word)(st:PSt):(bO ws st).ax=st.ax:=by unfold bO;split<;>exact jNe ws st
theorem jTg (ws:List Word)(st:PSt):(jEB ws st).ax=st.ax:=by
 have h:(bn ws (aR ws st bu)).ax=st.ax:=by rw[jNe,jXe]
 unfold jEB
 repeat (first | exact h | split)
theorem jNf (ws:List Word)(st:PSt):(bn ws st).ak=st.ak:=by unfold bn;split<;>rfl
theorem jXf (ws:List Word)(st:PSt)(m:BA):(aR ws st m).ak=st.ak:=by unfold aR;split<;>rfl
theorem jID (ws:List Word)(st:PSt)(m:BA):(aK ws st m).ak=st.ak:=by unfold aK;split<;>rfl
theorem jJZ (ws:List Word)(st:PSt):(bO ws st).ak=st.ak:=by unfold bO;split<;>exact jNf ws st
theorem qAf (ws:List Word)(st:PSt):(jEB ws st).ak=st.ak:=by
 have h:(bn ws (aR ws st bu)).ak=st.ak:=by rw[jNf,jXf]
 unfold jEB
 repeat (first | exact h | split)
theorem jHs (ws:List Word)(st:PSt):(jBM ws st).ak=st.ak:=by
 unfold jBM;split
 ·rfl
 exact qAf ws st
theorem jP5 (ws:List Word)(st:PSt):(bn ws st).items=st.items:=by unfold bn;split<;>rfl
theorem jXt (ws:List Word)(st:PSt)(m:BA):(aK ws st m).items=st.items:=by unfold aK;split<;>rfl
theorem jMP (ws:List Word)(st:PSt):(bO ws st).items=st.items:=by unfold bO;split<;>exact jP5 ws st
def jBS (ws:List Word)(st:PSt):PSt:=if aU ws st jHR then cond ws (8*ws.length+7) 0 (step1 st) else st
end Sq
section
open Go.RowKit
theorem jQ2 {ws:List Sq.Word}{r:Rw}{st:Sq.PSt}(m:BA)(h:PS pb lv ws r w st) :
  Calls Tryz.prog 183 #[.pointer (some ⟨pb,0,none⟩),.string m] w fun e w'=>e=.returned (.tuple #[])/\PS pb lv ws r w' (Sq.aK ws st m)/\Tch pb w w':=by
 have H:Hid _:=h;clear h;go_enter Tryz.func183,Tryz.ntmps183;go_wp2_with fail;refine(jQL m H.o).mono ?_;rintro e w1 ⟨rfl,ha,hb⟩;obtain⟨d1,g1,d2,g2,hc⟩:=ha.later bR;cases hB:Sq.aU ws st m
 ·have e1:Sq.aR ws st m=st:=by unfold Sq.aR;rw[hB];rfl
  rw[e1] at ha d1 d2;have HP:Hid _:=ha;have HE:Hid (Sq.aK ws st m=Sq.fail st):=by show _=_;unfold Sq.aK;rw[hB];rfl
  clear ha e1 hB;go_wp2;go_end0;have ht:Tch pb w1 (w1.setCell ⟨pb,2,none⟩ (.bool true)):=(Tch.refl _ _).store (.inl rfl) _;exact⟨rfl,by rw[HE.o];exact HP.o.jE7 bR ht rfl,hb.trans ht⟩
 have e1:Sq.aR ws st m=Sq.aK ws st m:=by unfold Sq.aR Sq.aK;rw[hB];rfl
 rw[e1] at ha;have HP:Hid _:=ha;clear ha e1 hB d1 d2;go_wp2;go_end0;exact⟨rfl,HP.o,hb⟩
theorem jF1 {ws:List Sq.Word}{r:Rw}{st:Sq.PSt}(h:PS pb lv ws r w st) :
  Calls Tryz.prog 184 #[.pointer (some ⟨pb,0,none⟩)] w fun e w'=>e=.returned (.string (Sq.jAV ws st))/\PS pb lv ws r w' (Sq.bO ws st)/\Tch pb w w':=by
 obtain⟨x,hx⟩:∃x,x=Sq.bP ws st:=⟨_,rfl⟩;have HX:Hid _:=hx;have H:Hid _:=h;clear h hx;go_enter Tryz.func184,Tryz.ntmps184;go_wp2_with fail;refine(jN8 H.o).mono ?_;rintro e w1 ⟨rfl,hc,hf⟩;rw[<-HX.o];obtain⟨d1,g1,d2,g2,hb⟩:=hc.later bR;have HP:Hid _:=hc;clear hc;cases hk:x.kind==2
 ·have HE:Hid (Sq.bO ws st=Sq.fail (Sq.bn ws st)/\Sq.jAV ws st=Sq.ar):=by refine⟨?_,?_⟩<;>(first | unfold Sq.bO | unfold Sq.jAV)<;>rw[<-HX.o,hk]<;>rfl
  have ha:(x.kind != 2)=true:=by simp[bne,hk]
  go_wp2;go_ret;have ht:Tch pb w1 ((w1.setCell ⟨pb,2,none⟩ (.bool true)).alloc (.cells #[.int .i64 x.kind,.string x.text] 198)):=((Tch.refl _ _).store (.inl rfl) _).alloc _;exact⟨by rw[HE.o.2];rfl,by rw[HE.o.1];exact HP.o.jE7 bR ht (by rw[ej _ _ _ (by simpa using hb)]),hf.trans ht⟩
 have HE:Hid (Sq.bO ws st=Sq.bn ws st/\Sq.jAV ws st=x.text):=by refine⟨?_,?_⟩<;>(first | unfold Sq.bO | unfold Sq.jAV)<;>rw[<-HX.o,hk]<;>rfl
 have ha:(x.kind != 2)=false:=by simp[bne,hk]
 clear hk;go_wp2;go_ret;exact⟨by rw[HE.o.2];rfl,by rw[HE.o.1];exact HP.o.alloc _,hf.alloc _⟩
theorem jUj {ws:List Sq.Word}{r:Rw}{st:Sq.PSt}(h:PS pb lv ws r w st) :
  Calls Tryz.prog 138 #[.pointer (some ⟨pb,0,none⟩)] w fun e w'=>e=.returned (.string (Sq.jD7 ws st))/\PS pb lv ws r w' (Sq.bn ws st)/\Tch pb w w':=by
 obtain⟨x,hx⟩:∃x,x=Sq.bP ws st:=⟨_,rfl⟩;have HX:Hid _:=hx;have H:Hid _:=h;clear h hx;go_enter Tryz.func138,Tryz.ntmps138;go_wp2_with fail;refine(jN8 H.o).mono ?_;rintro e w1 ⟨rfl,hb,hc⟩;rw[<-HX.o];have HP:Hid _:=hb;clear hb;cases hk:x.kind==1
 ·have HE:Hid (Sq.jD7 ws st=Sq.ar):=by show _=_;unfold Sq.jD7;rw[<-HX.o,hk];rfl
  have ha:(x.kind != 1)=true:=by simp[bne,hk]
  go_wp2;go_ret;exact⟨by rw[HE.o];rfl,HP.o.alloc _,hc.alloc _⟩
 have HE:Hid (Sq.jD7 ws st=x.text):=by show _=_;unfold Sq.jD7;rw[<-HX.o,hk];rfl
 have ha:(x.kind != 1)=false:=by simp[bne,hk]
 clear hk;go_wp2;go_ret;exact⟨by rw[HE.o];rfl,HP.o.alloc _,hc.alloc _⟩
theorem qCg {ws:List Sq.Word}{r:Rw}{st:Sq.PSt}(h:PS pb lv ws r w st) :
  Calls Tryz.prog 186 #[.pointer (some ⟨pb,0,none⟩)] w fun e w'=>e=.returned (.int .i64 (Sq.jFg ws st))/\PS pb lv ws r w' (Sq.jCS ws st)/\Tch pb w w':=by
 have H:Hid _:=h;clear h;go_enter Tryz.func186,Tryz.ntmps186;go_wp2_with fail;refine(jQL Sq.jGh H.o).mono ?_;rintro e w1 ⟨rfl,hb,hf⟩;have HP:Hid _:=hb;clear hb;cases hB:Sq.aU ws st Sq.jGh
 ·have HE:Hid (Sq.jFg ws st=0/\Sq.jCS ws st=Sq.aK ws st Sq.jIx/\Sq.aR ws st Sq.jGh=st):=by refine⟨?_,?_,?_⟩<;>(first | unfold Sq.jFg | unfold Sq.jCS | unfold Sq.aR)<;>rw[hB]<;>rfl
  have h1:=HP.o;rw[HE.o.2.2] at h1;have HQ:Hid _:=h1;clear h1;go_wp2_with fail;refine(jQ2 Sq.jIx HQ.o).mono ?_;rintro e w2 ⟨rfl,hc,hg⟩;have ha:Hid _:=hc;clear hc;go_wp2;go_ret;exact⟨by rw[HE.o.1];rfl,by rw[HE.o.2.1];exact ha.o,hf.trans hg⟩
 have HE:Hid (Sq.jFg ws st=1/\Sq.jCS ws st=Sq.aR ws st Sq.jGh):=by refine⟨?_,?_⟩<;>(first | unfold Sq.jFg | unfold Sq.jCS)<;>rw[hB]<;>rfl
 go_wp2;go_ret;exact⟨by rw[HE.o.1];rfl,by rw[HE.o.2];exact HP.o,hf⟩
theorem jPw (t:BA)(w:World)(hs:t.size<=9) :
  Calls Tryz.prog 226 #[.string t] w fun e w'=>e=.returned (.int .i64 (Sq.num t))/\w'=w:=by
 go_enter Tryz.func226,Tryz.ntmps226;go_wp2
 go_loop [3,4] (fun n i=>∃k:Nat,k<=t.size/\i=.int .i64 k/\n=.int .i64 (Sq.jF5 (t.data.toList.take k))) (fun _ i=>t.size-(intOf i).toNat)
 case atStart=>exact⟨0,zR,rfl,rfl⟩
 case round =>
  obtain⟨k,hk,rfl,rfl⟩:=hrel;have hl:(t.data.toList.take k).length<=9:=by simp;omega
  obtain⟨n0,n1⟩:=Sq.jRT _ hl
  by_cases hlt:k<t.size
  ·have ha:t.data.toList.take (k+1)=t.data.toList.take k++[t[k]]:=by
    rw[cI (by simpa using hlt)];rfl
   have HS:Hid (Sq.jF5 (t.data.toList.take (k+1))=Sq.jF5 (t.data.toList.take k)*10+Sq.dv t[k]):=by show _=_;rw[ha,Sq.qAV]
   clear ha;obtain⟨n,hn⟩:∃n,n=Sq.jF5 (t.data.toList.take k):=⟨_,rfl⟩;rw[<-hn] at n0 n1;have HN:Hid _:=hn;rw[<-hn];clear hn;go_wp2;go_round
   case rel=>exact⟨k+1,by omega,by go_num,by rw[HS.o,<-HN.o];rfl⟩
   case measure=>simp[intOf];omega
  go_wp2;go_ret;exact⟨by unfold Sq.num;rw[cL (by simp;omega)];rfl,rfl⟩
theorem jIL (n:Int)(w:World) :
  Calls Tryz.prog 203 #[.int .i64 n] w fun e w'=>e=.returned (.agg #[.int .i64 0,.int .i64 n,.string ⟨#[]⟩])/\Below w.heap.size w w':=by
 go_enter Tryz.func203,Tryz.ntmps203;go_wp2;exact cp (v:=.agg #[.int .i64 0,.int .i64 n,.string ⟨#[]⟩]) (by simp[results,Tryz.results203,go_sem]) rfl ⟨rfl,bA⟩
theorem jKT (t:BA)(w:World) :
  Calls Tryz.prog 204 #[.string t] w fun e w'=>e=.returned (.agg #[.int .i64 1,.int .i64 0,.string t])/\Below w.heap.size w w':=by
 go_enter Tryz.func204,Tryz.ntmps204;go_wp2;exact cp (v:=.agg #[.int .i64 1,.int .i64 0,.string t]) (by simp[results,Tryz.results204,go_sem]) rfl ⟨rfl,bA⟩
theorem PS.bC {ws:List Sq.Word}{r:Rw}{st hf:Sq.PSt}(h:PS pb lv ws r w st)(h2:PS pb lv ws r w2 hf)(hb:Below w.heap.size w2 w'):PS pb lv ws r w' hf:=by
 have k:∀{v:Value} {base ha:Nat} {e e':TypeId} {size hc n n':Nat} {xs hh:List Value},w.ownsRow ha e' hc v n' hh->w2.ownsRow base e size v n xs->w'.ownsRow base e size v n xs :=
  fun ho h2=>jQp h2 fun g hg=>hb.block g (ho.lt g hg).2
 exact⟨by rw[hb.block pb h.lt];exact h2.blk,k h.list h2.list,h2.small,h2.wf,h2.inside,k h.cols h2.cols,k h.ax h2.ax,k h.ak h2.ak,k h.items h2.items,k h.aq h2.aq⟩
theorem Tch.then (h:Tch pb w w2)(hb:Below w.heap.size w2 w'):Tch pb w w' :=
 ⟨hb.os.trans h.os,hb.tape.trans h.tape,hb.output.trans h.output,cm h.size hb.size,fun i hi hn=>(hb.block i hi).trans (h.block i hi hn)⟩
theorem Tch.cells (h:Tch pb W w1):(∀b o,b<W.heap.size->b≠pb->w1.cell? ⟨b,o,none⟩=W.cell? ⟨b,o,none⟩)/\(∀b o,b<W.heap.size->b≠pb->w1.frozen? ⟨b,o,none⟩=W.frozen? ⟨b,o,none⟩) :=
 ⟨fun b o hb hn=>World.cell?_of_block (w:=W) (h.block b hb (by simp;exact hn)),fun b o hb hn=>World.frozen?_of_block (w:=W) (h.block b hb (by simp;exact hn))⟩
theorem jRf {ws:List Sq.Word}{r:Rw}{st:Sq.PSt}(h:PS pb lv ws r w st) :
  Calls Tryz.prog 215 #[.pointer (some ⟨pb,0,none⟩)] w fun e w'=>e=.returned (.agg #[.int .i64 (Sq.jFT ws st).kind,.int .i64 (Sq.jFT ws st).number,.string (Sq.jFT ws st).text])/\PS pb lv ws r w' (Sq.jEB ws st)/\Tch pb w w':=by
 have hu:=h.lt;have hi:w.heap.size≠pb:=by omega
 have H:Hid _:=h;clear h;go_enter Tryz.func215,Tryz.ntmps215;go_wp2_with fail;refine(jQL Sq.bu (H.o.alloc _)).mono ?_;rintro e w1 ⟨rfl,hy,hB⟩;have hr:Hid _:=hy;clear hy;go_wp2_with fail;refine(jN8 hr.o).mono ?_;rintro e w2 ⟨rfl,hA,hC⟩;have hj:Hid _:=hA;clear hA;obtain⟨x,hx⟩:∃x,x=Sq.bP ws (Sq.aR ws st Sq.bu):=⟨_,rfl⟩;rw[<-hx];have hs:Hid (x.kind=3->x.text.size<=9):=by show _->_;rw[hx];exact Sq.qCb ws _ H.o.wf
 have ht:=hB.trans hC;have ho:Tch pb w w2:=((Tch.refl pb w).alloc _).trans ht;obtain⟨k1,k2⟩:=ht.cells;have c0:=k1 w.heap.size 0 (by simp) hi;have c1:=k1 w.heap.size 1 (by simp) hi;have c2:=k1 w.heap.size 2 (by simp) hi;have f0:=k2 w.heap.size 0 (by simp) hi;have f1:=k2 w.heap.size 1 (by simp) hi;have f2:=k2 w.heap.size 2 (by simp) hi;simp[go_sem] at c0 c1 c2 f0 f1 f2;have hz:w.heap.size<w2.heap.size:=by have:=ht.size;simp at this;omega
 obtain⟨d1,g1,d2,g2,hD⟩:=hj.o.later bR;clear k1 k2 ht hB hC;obtain⟨m,hm⟩:∃m,m=Sq.aU ws st Sq.bu:=⟨_,rfl⟩;rw[<-hm];have hc:Hid (Sq.jFT ws st=if x.kind==3 then(if m then⟨0,-Sq.num x.text,Sq.ar⟩ else⟨0,Sq.num x.text,Sq.ar⟩) else if x.kind==4 && !m then⟨1,0,x.text⟩ else Sq.jDY):=by show _=_;rw[hx,hm];rfl
 have he:Hid (Sq.jEB ws st=if x.kind==3 then Sq.bn ws (Sq.aR ws st Sq.bu) else if x.kind==4 && !m then Sq.bn ws (Sq.aR ws st Sq.bu) else Sq.fail (Sq.bn ws (Sq.aR ws st Sq.bu))):=by show _=_;rw[hx,hm];rfl
 clear hx hm
 have ext:Hid (∀w3,Below w2.heap.size w2 w3->w3.cell? ⟨w.heap.size,0,none⟩=some (.int .i64 0)/\w3.cell? ⟨w.heap.size,1,none⟩=some (.int .i64 0)/\w3.cell? ⟨w.heap.size,2,none⟩=some (.string ⟨#[]⟩)/\w3.frozen? ⟨w.heap.size,0,none⟩=false/\w3.frozen? ⟨w.heap.size,1,none⟩=false/\w3.frozen? ⟨w.heap.size,2,none⟩=false):=by
  intro w3 hb;obtain⟨k1,k2⟩:=aD hb;exact⟨(k1 _ _ hz).trans c0,(k1 _ _ hz).trans c1,(k1 _ _ hz).trans c2,(k2 _ _ hz).trans f0,(k2 _ _ hz).trans f1,(k2 _ _ hz).trans f2⟩
 have fin:Hid (∀w3 (v0 v1 v2:Value),Below w2.heap.size w2 w3->PS pb lv ws r (((w3.setCell ⟨w.heap.size,0,none⟩ v0).setCell ⟨w.heap.size,1,none⟩ v1).setCell ⟨w.heap.size,2,none⟩ v2) (Sq.bn ws (Sq.aR ws st Sq.bu))/\Tch pb w (((w3.setCell ⟨w.heap.size,0,none⟩ v0).setCell ⟨w.heap.size,1,none⟩ v1).setCell ⟨w.heap.size,2,none⟩ v2)):=by
  intro w3 v0 v1 v2 hb;have hh:Below w.heap.size w2 (((w3.setCell ⟨w.heap.size,0,none⟩ v0).setCell ⟨w.heap.size,1,none⟩ v1).setCell ⟨w.heap.size,2,none⟩ v2):=(((cS (B':=w.heap.size) hb (by omega)).setCell nR _).setCell nR _).setCell nR _;exact⟨H.o.bC hj.o hh,ho.then hh⟩
 cases hk:x.kind==3
 case true =>
  have hn:=hs.o (eq_of_beq hk);obtain⟨n0,n1⟩:=Sq.qAU _ hn;cases m
  case true =>
   have HR:=hc.o;have HS:=he.o;rw[hk] at HR HS;have hf:Hid _:=HR;have hg:Hid _:=HS;clear hc he HR HS;go_wp2_with (first | (go_at_call 226;refine(jPw _ _ hn).mono ?_;rintro e w' ⟨rfl,rfl⟩) | (go_at_call 203;refine(jIL _ _).mono ?_;rintro e w3 ⟨rfl,hv⟩;have ha:=((Below.refl _ w2).alloc nR _).trans (hv.mono (by simp));obtain⟨p0,p1,p2,q0,q1,q2⟩:=ext.o w3 ha));exact cp (v:=.agg #[.int .i64 0,.int .i64 (-Sq.num x.text),.string ⟨#[]⟩]) (by simp[results,Tryz.results215,go_sem, *]) rfl ⟨by rw[hf.o];rfl,by rw[hg.o];exact(fin.o w3 _ _ _ ha).1,(fin.o w3 _ _ _ ha).2⟩
  case false =>
   have HR:=hc.o;have HS:=he.o;rw[hk] at HR HS;have hf:Hid _:=HR;have hg:Hid _:=HS;clear hc he HR HS;go_wp2_with (first | (go_at_call 226;refine(jPw _ _ hn).mono ?_;rintro e w' ⟨rfl,rfl⟩) | (go_at_call 203;refine(jIL _ _).mono ?_;rintro e w3 ⟨rfl,hv⟩;have ha:=((Below.refl _ w2).alloc nR _).trans (hv.mono (by simp));obtain⟨p0,p1,p2,q0,q1,q2⟩:=ext.o w3 ha));exact cp (v:=.agg #[.int .i64 0,.int .i64 (Sq.num x.text),.string ⟨#[]⟩]) (by simp[results,Tryz.results215,go_sem, *]) rfl ⟨by rw[hf.o];rfl,by rw[hg.o];exact(fin.o w3 _ _ _ ha).1,(fin.o w3 _ _ _ ha).2⟩
 cases hk4:(x.kind==4 && !m)
 case true =>
  have hl:(x.kind==4)=true/\m=false:=by simpa using hk4
  obtain⟨h4,rfl⟩:=hl;have HR:=hc.o;have HS:=he.o;rw[hk,hk4] at HR HS;have hf:Hid _:=HR;have hg:Hid _:=HS;clear hc he HR HS hk4;go_wp2_with (first | (go_at_call 204;refine(jKT _ _).mono ?_;rintro e w3 ⟨rfl,hv⟩;have ha:=((Below.refl _ w2).alloc nR _).trans (hv.mono (by simp));obtain⟨p0,p1,p2,q0,q1,q2⟩:=ext.o w3 ha));exact cp (v:=.agg #[.int .i64 1,.int .i64 0,.string x.text]) (by simp[results,Tryz.results215,go_sem, *]) rfl ⟨by rw[hf.o];rfl,by rw[hg.o];exact(fin.o w3 _ _ _ ha).1,(fin.o w3 _ _ _ ha).2⟩
 case false =>
  have HR:=hc.o;have HS:=he.o;rw[hk,hk4] at HR HS;have hf:Hid _:=HR;have hg:Hid _:=HS;clear hc he HR HS;have hq:PS pb lv ws r (w2.setCell ⟨pb,2,none⟩ (.bool true)) (Sq.fail (Sq.bn ws (Sq.aR ws st Sq.bu))):=hj.o.jE7 bR ((Tch.refl _ _).store (.inl rfl) _) rfl;have hp:Hid _:=hq;clear hq;cases h4:x.kind==4
  case false =>
   clear hk4;go_wp2;have hh:Below w.heap.size (w2.setCell ⟨pb,2,none⟩ (.bool true)) (((((w2.setCell ⟨pb,2,none⟩ (.bool true)).setCell ⟨w.heap.size,0,none⟩ (.int .i64 0)).setCell ⟨w.heap.size,1,none⟩ (.int .i64 0)).setCell ⟨w.heap.size,2,none⟩ (.string ⟨#[]⟩)).alloc (.cells #[.int .i64 x.kind,.string x.text] 198)):=cH (B:=w.heap.size) ((((Below.refl w.heap.size _).setCell nR _).setCell nR _).setCell nR _) (by simp;omega) _;exact cp (v:=.agg #[.int .i64 0,.int .i64 0,.string ⟨#[]⟩]) (by simp[results,Tryz.results215,go_sem, *]) rfl ⟨by rw[hf.o];rfl,by rw[hg.o];exact H.o.bC hp.o hh,(ho.store (.inl rfl) _).then hh⟩
  case true =>
   have hm:m=true:=by cases m<;>simp_all
   subst hm;clear hk4;go_wp2;have hh:Below w.heap.size (w2.setCell ⟨pb,2,none⟩ (.bool true)) (((((w2.setCell ⟨pb,2,none⟩ (.bool true)).setCell ⟨w.heap.size,0,none⟩ (.int .i64 0)).setCell ⟨w.heap.size,1,none⟩ (.int .i64 0)).setCell ⟨w.heap.size,2,none⟩ (.string ⟨#[]⟩)).alloc (.cells #[.int .i64 x.kind,.string x.text] 198)):=cH (B:=w.heap.size) ((((Below.refl w.heap.size _).setCell nR _).setCell nR _).setCell nR _) (by simp;omega) _;exact cp (v:=.agg #[.int .i64 0,.int .i64 0,.string ⟨#[]⟩]) (by simp[results,Tryz.results215,go_sem, *]) rfl ⟨by rw[hf.o];rfl,by rw[hg.o];exact H.o.bC hp.o hh,(ho.store (.inl rfl) _).then hh⟩
theorem jI4 {ws:List Sq.Word}{r:Rw}{st:Sq.PSt}(h:PS pb lv ws r w st) :
  Calls Tryz.prog 216 #[.pointer (some ⟨pb,0,none⟩)] w fun e w'=>e=.returned (.agg #[.string (Sq.jCk ws st).column,.int .i64 (Sq.jCk ws st).lit.kind,.int .i64 (Sq.jCk ws st).lit.number,.string (Sq.jCk ws st).lit.text])/\PS pb lv ws r w' (Sq.jBM ws st)/\Tch pb w w':=by
 have hm:=h.lt;have hn:=h.small;have hl:=h.inside;have ha:w.heap.size≠pb:=by omega
 obtain⟨x,hx⟩:∃x,x=Sq.bP ws st:=⟨_,rfl⟩;have HX:Hid _:=hx;have H:Hid _:=h;clear h hx;go_enter Tryz.func216,Tryz.ntmps216;go_wp2_with fail;refine(jN3 (H.o.alloc _)).mono ?_;rintro e w1 ⟨rfl,hp⟩;rw[<-HX.o];have hz:w.heap.size<w1.heap.size:=by have:=hp.size;simp at this;omega
 have hb:Below w.heap.size w w1:=((Below.refl _ w).alloc nR _).trans (hp.mono (by simp));obtain⟨k1,k2⟩:=aD hp;have c0:=k1 w.heap.size 0 (by simp);have c1:=k1 w.heap.size 1 (by simp);have c2:=k1 w.heap.size 2 (by simp);have c3:=k1 w.heap.size 3 (by simp);have f0:=k2 w.heap.size 0 (by simp);have f1:=k2 w.heap.size 1 (by simp);have f2:=k2 w.heap.size 2 (by simp);have f3:=k2 w.heap.size 3 (by simp);simp[go_sem] at c0 c1 c2 c3 f0 f1 f2 f3;obtain⟨d1,g1,d2,g2,hs⟩:=H.o.later hb;clear k1 k2 hp;cases hk:x.kind==2
 case true =>
  have hi:st.pos<ws.length:=Sq.jJ6 ws st (by rw[<-HX.o,eq_of_beq hk];decide);have HE:Hid (Sq.jCk ws st=⟨x.text,Sq.jDY⟩/\Sq.jBM ws st=Sq.step1 st):=by refine⟨?_,?_⟩<;>(first | unfold Sq.jCk | unfold Sq.jBM)<;>rw[<-HX.o,hk]<;>rfl
  have hf:PS pb lv ws r (w1.setCell ⟨pb,1,none⟩ (.int .i64 ((st.pos:Int)+1))) (Sq.step1 st):=H.o.jG9 hb ((Tch.of hb).store (.inl rfl) _) hi rfl;have HP:Hid _:=hf;clear hf;go_wp2;have hc:Below w.heap.size (w1.setCell ⟨pb,1,none⟩ (.int .i64 ((st.pos:Int)+1))) ((((((w1.setCell ⟨pb,1,none⟩ (.int .i64 ((st.pos:Int)+1))).setCell ⟨w.heap.size,0,none⟩ (.string x.text)).setCell ⟨w.heap.size,1,none⟩ (.int .i64 0)).setCell ⟨w.heap.size,2,none⟩ (.int .i64 0)).setCell ⟨w.heap.size,3,none⟩ (.string ⟨#[]⟩)).alloc (.cells #[.int .i64 x.kind,.string x.text] 198)):=cH (B:=w.heap.size) (((((Below.refl w.heap.size _).setCell nR _).setCell nR _).setCell nR _).setCell nR _) (by simp;omega) _;exact cp (v:=.agg #[.string x.text,.int .i64 0,.int .i64 0,.string ⟨#[]⟩]) (by simp[results,Tryz.results216,go_sem, *]) rfl ⟨by rw[HE.o.1];rfl,by rw[HE.o.2];exact H.o.bC HP.o hc,((Tch.of hb).store (.inl rfl) _).then hc⟩
 case false =>
  have HE:Hid (Sq.jCk ws st=⟨Sq.ar,Sq.jFT ws st⟩/\Sq.jBM ws st=Sq.jEB ws st):=by refine⟨?_,?_⟩<;>(first | unfold Sq.jCk | unfold Sq.jBM)<;>rw[<-HX.o,hk]<;>rfl
  have he:=(H.o.below hb).alloc (.cells #[.int .i64 x.kind,.string x.text] 198);have hg:Hid _:=he;clear he;go_wp2_with fail;refine(jRf hg.o).mono ?_;rintro e w2 ⟨rfl,hr,hq⟩;have hh:Hid _:=hr;clear hr;obtain⟨k1,k2⟩:=hq.cells;have a0:=(k1 w.heap.size 0 (by simp;omega) ha).trans (cX _ _ _ hz);have a1:=(k1 w.heap.size 1 (by simp;omega) ha).trans (cX _ _ _ hz);have a2:=(k1 w.heap.size 2 (by simp;omega) ha).trans (cX _ _ _ hz);have a3:=(k1 w.heap.size 3 (by simp;omega) ha).trans (cX _ _ _ hz);have b0:=(k2 w.heap.size 0 (by simp;omega) ha).trans (dd _ _ _ hz);have b1:=(k2 w.heap.size 1 (by simp;omega) ha).trans (dd _ _ _ hz);have b2:=(k2 w.heap.size 2 (by simp;omega) ha).trans (dd _ _ _ hz);have b3:=(k2 w.heap.size 3 (by simp;omega) ha).trans (dd _ _ _ hz);rw[c0] at a0;rw[c1] at a1;rw[c2] at a2;rw[c3] at a3;rw[f0] at b0;rw[f1] at b1;rw[f2] at b2;rw[f3] at b3;have ho:w.heap.size<w2.heap.size:=by have:=hq.size;simp at this;omega
  have hj:Tch pb w w2:=((Tch.of hb).alloc _).trans hq;clear c0 c1 c2 c3 f0 f1 f2 f3 k1 k2 hq d1 d2 g1 g2;go_wp2;have hc:∀v0 v1 v2 v3 o,Below w.heap.size w2 (((((w2.setCell ⟨w.heap.size,0,none⟩ v0).setCell ⟨w.heap.size,1,none⟩ v1).setCell ⟨w.heap.size,2,none⟩ v2).setCell ⟨w.heap.size,3,none⟩ v3).alloc o):=fun v0 v1 v2 v3 o=>cH (B:=w.heap.size) (((((Below.refl w.heap.size _).setCell nR _).setCell nR _).setCell nR _).setCell nR _) (by simp;omega) _
  exact cp (v:=.agg #[.string ⟨#[]⟩,.int .i64 (Sq.jFT ws st).kind,.int .i64 (Sq.jFT ws st).number,.string (Sq.jFT ws st).text]) (by simp[results,Tryz.results216,go_sem, *]) rfl ⟨by rw[HE.o.1];rfl,by rw[HE.o.2];exact H.o.bC hh.o (hc _ _ _ _ _),hj.then (hc _ _ _ _ _)⟩
theorem jMu (s:BA)(w:World) :
  Calls Tryz.prog 194 #[.string s] w fun e w'=>e=.returned (.bool (Sq.jAf s))/\w'=w:=by
 unfold Sq.jAf Sq.jEW;go_enter Tryz.func194,Tryz.ntmps194;go_wp2
 all_goals
  go_ret;exact⟨by rw[<-du];simp_all,rfl⟩
theorem Tryz.jJK:(Tryz.prog.info? 217).map (fun i=>(i.zero,i.size,i.bytes))=some (some (.agg (Sq.bd.cells ⟨Sq.ar,Sq.jFN,Sq.jFN⟩).toArray),9,112):=by kernel_rfl
theorem PS.jBe {ws:List Sq.Word}{r:Rw}{st:Sq.PSt}(h:PS pb lv ws r w st){base:Nat}{size:Nat}(ho:w.ownsRow base e size v n xs)(ha:e≠160)(hg:w.grownBy w' v.ownBlock) :
  w'.heap[pb]?=w.heap[pb]?:=hg.block pb h.lt (fun e=>jQm ho h.blk ha e.symm)
theorem jQx {v2:Value}{base ha:Nat}{e2:TypeId}{size hb n2:Nat}{hf:List Value}(h2:w.ownsRow ha e2 hb v2 n2 hf)(ho:w.ownsRow base e size v n xs)(hh:e2≠e)(hg:w.grownBy w' v.ownBlock):w'.ownsRow ha e2 hb v2 n2 hf :=
 jQp h2 fun g hc=>hg.block g (h2.lt g hc).2 (fun e=>jWq h2 ho hh hc e.symm)
theorem jQv {base o:Nat}{size:Nat}(ho:w.ownsRow base e size v n xs)(hb:w.heap[pb]?=some (.cells c 160 fr))(ha:e≠160)(x:Value):(w.setCell ⟨pb,o,none⟩ x).ownsRow base e size v n xs :=
 jQp ho fun g hg=>jQg (fun e=>jQm ho hb ha (by rw[hg,e]))
theorem PS.jJq {ws:List Sq.Word}{r:Rw}{st:Sq.PSt}(h:PS pb lv ws r w st)(s:Sq.bd){cap:Nat}
  (ha:w1.ownsRow (pb+1) 217 9 (.slice (some ⟨g,0,none⟩) (st.aq.length+1) cap) (st.aq.length+1) (st.aq.flatMap Sq.bd.cells++s.cells)) (hg:w.grownBy w1 r.wv.ownBlock) :
  PS pb lv ws { r with wv:=.slice (some ⟨g,0,none⟩) (st.aq.length+1) cap } (w1.setCell ⟨pb,10,none⟩ (.slice (some ⟨g,0,none⟩) (st.aq.length+1) cap)) (Sq.jBo st s):=by
 have hb:=(h.jBe h.aq (by decide) hg).trans h.blk
 refine⟨by rw[jQf hb];rfl,jQv (jQx h.list h.aq (by decide) hg) hb (by decide) _,h.small,h.wf,h.inside,jQv (jQx h.cols h.aq (by decide) hg) hb (by decide) _,jQv (jQx h.ax h.aq (by decide) hg) hb (by decide) _,
  jQv (jQx h.ak h.aq (by decide) hg) hb (by decide) _,jQv (jQx h.items h.aq (by decide) hg) hb (by decide) _,jQv ?_ hb (by decide) _⟩
 show w1.ownsRow (pb+1) 217 9 _ (st.aq++[s]).length ((st.aq++[s]).flatMap Sq.bd.cells);rw[cg,dc,cN];simpa using ha
theorem Tch.aO {row:Option Nat}(hg:w.grownBy w1 row)(h:∀k,row=some k->pb<=k)(hw:pb<=w.heap.size):Below pb w w1 :=
 ⟨hg.os,hg.tape,hg.output,hg.size,fun k hk=>hg.block k (by omega) (fun e=>by have:=h k e.symm;omega)⟩
theorem jKh {ws:List Sq.Word}{r:Rw}{st:Sq.PSt}(s:Sq.bd)(h:PS pb lv ws r w st)(hn:st.aq.length<=5000) :
  Calls Tryz.prog 228 #[.pointer (some ⟨pb,0,none⟩),.agg s.cells.toArray] w fun e w'=>e=.returned (.tuple #[])/\(∃r',PS pb lv ws r' w' (Sq.jBo st s))/\Below pb w w':=by
 obtain⟨i0,hi,ho,hp,hq⟩:=cV Tryz.jJK;have he:=h.lt;obtain⟨op,⟨lc,⟨lk,ln,lt⟩⟩,⟨rc,⟨rk,rn,rt⟩⟩⟩:=s;have H:Hid _:=h;have hr:w.cell? ⟨pb,10,none⟩=some r.wv:=by rw[jQb h.blk];rfl
 clear h;unfold Sq.bd.cells;go_enter Tryz.func228,Tryz.ntmps228;go_wp2;have hW:Below w.heap.size w ((w.alloc (.cells #[.string op,.string lc,.int .i64 lk,.int .i64 ln,.string lt,.string rc,.int .i64 rk,.int .i64 rn,.string rt] 217)).alloc (.cells #[.string op,.string lc,.int .i64 lk,.int .i64 ln,.string lt,.string rc,.int .i64 rk,.int .i64 rn,.string rt] 217)).drew:=((bA).alloc (by simp) _).drew;have ha:=H.o.below hW;have HP:Hid _:=ha;have HW:Hid _:=hW;clear ha hW
 go_region_law (first
  | (refine dV _ rfl (.tmp 9) (.tmp 11) 116 rfl (pb+1) 217 i0 _ 9 112 Tryz.underlying116 hi ho hp hq rfl (by decide) r.wv st.aq.length (st.aq.flatMap Sq.bd.cells) (by simp[Act.eval,Act.put]) HP.o.aq ⟨w.heap.size+1,0,none⟩ 1 1 [.string op,.string lc,.int .i64 lk,.int .i64 ln,.string lt,.string rc,.int .i64 rk,.int .i64 rn,.string rt] (by simp[Act.eval,Act.put]) rfl (by exact jQN (w.alloc _) _ _ _ rfl (by simp)) (by intro u hu;simp at hu;rcases hu with rfl | rfl | rfl | rfl | rfl | rfl | rfl | rfl | rfl<;>rfl) (by decide) (by unfold maxLen;omega) (by omega) (by simp;omega) _ rfl ?_;intro g cap w1 hg hf hh hj;have hb:=(HP.o.jBe HP.o.aq (by decide) hf).trans HP.o.blk;have hs:w1.cell? ⟨pb,10,none⟩=some r.wv:=(by rw[jQb hb];rfl);have f10:=jQd hb 10;have hc:=jQe hb;have HO:Hid _:=hg;have HG:Hid _:=hf;clear hg hf hh hb))
 all_goals
  go_end0;refine⟨rfl,⟨_,HP.o.jJq ⟨op,⟨lc,⟨lk,ln,lt⟩⟩,⟨rc,⟨rk,rn,rt⟩⟩⟩ HO.o HG.o⟩,?_⟩;refine cj (B:=pb) (ed (cS (B':=pb) HW.o (by omega)) (Tch.aO HG.o (fun k hk=>?_) (by simp;omega))) nR _;exact dC (HP.o.aq.lt k hk).1
theorem Tch.four {t:Sq.Term}(h:Tch pb (W.alloc (.cells #[.string t.column,.int .i64 t.lit.kind,.int .i64 t.lit.number,.string t.lit.text] e)) w1)(ha:W.heap.size≠pb) :
  w1.cell? ⟨W.heap.size,0,none⟩=some (.string t.column)/\w1.cell? ⟨W.heap.size,1,none⟩=some (.int .i64 t.lit.kind)/\w1.cell? ⟨W.heap.size,2,none⟩=some (.int .i64 t.lit.number)/\w1.cell? ⟨W.heap.size,3,none⟩=some (.string t.lit.text)/\W.heap.size<w1.heap.size:=by
 obtain⟨k1,k2⟩:=h.cells;have c0:=k1 W.heap.size 0 (by simp) ha;have c1:=k1 W.heap.size 1 (by simp) ha;have c2:=k1 W.heap.size 2 (by simp) ha;have c3:=k1 W.heap.size 3 (by simp) ha;simp[go_sem] at c0 c1 c2 c3;exact⟨c0,c1,c2,c3,by have:=h.size;simp at this;omega⟩
theorem jV9 {ws:List Sq.Word}{r:Rw}{st:Sq.PSt}(h:PS pb lv ws r w st)(hn:st.aq.length<=5000) :
  Calls Tryz.prog 237 #[.pointer (some ⟨pb,0,none⟩)] w fun e w'=>e=.returned (.tuple #[])/\(∃r',PS pb lv ws r' w' (Sq.jGi ws st))/\Below pb w w':=by
 have ht:=h.lt;have H:Hid _:=h;clear h;go_enter Tryz.func237,Tryz.ntmps237;go_wp2_with fail;refine(jI4 H.o).mono ?_;rintro e w1 ⟨rfl,hB,hE⟩;obtain⟨t1,hx⟩:∃t,t=Sq.jCk ws st:=⟨_,rfl⟩;obtain⟨s1,hC⟩:∃s,s=Sq.jBM ws st:=⟨_,rfl⟩;rw[<-hx];rw[<-hC] at hB;have ho:Hid _:=hx;have ha:Hid _:=hC;have hu:=hE.size;have he:w1.heap.size≠pb:=by omega
 have hr:Hid _:=hB;have hb:Hid _:=hE;clear hB hx hC hE;go_wp2_with fail;refine(jUj (hr.o.alloc _)).mono ?_;rintro e w2 ⟨rfl,hF,hG⟩;obtain⟨sg,hD⟩:∃s,s=Sq.jD7 ws s1:=⟨_,rfl⟩;rw[<-hD];have hg:Hid _:=hD;clear hD;have hi:Hid _:=hF;have hh:Hid _:=hG;obtain⟨d1,g1,d2,g2,hH⟩:=hi.o.later bR;clear hF hG;cases hc:Sq.jAf sg
 case true =>
  have HM:Hid (Sq.jBY ws st=Sq.bn ws s1):=by show _=_;unfold Sq.jBY;rw[<-ha.o,<-hg.o,hc];rfl
  go_wp2_with (go_at_call 194;refine(jMu _ _).mono ?_;rintro e w' ⟨rfl,rfl⟩;rw[hc]);refine(jI4 hi.o).mono ?_;rintro e w3 ⟨rfl,hy,hv⟩;obtain⟨c0,c1,c2,c3,hI⟩:=Tch.four (Tch.trans hh.o hv) he;have hf:=hv.size;have hj:Hid _:=hy;have hl:Hid _:=hv;clear hy hv;go_wp2_with fail;refine(jKh ⟨sg,t1,Sq.jCk ws (Sq.bn ws s1)⟩ (hj.o.alloc _) (by rw[Sq.jQ8,Sq.jG2,ha.o,Sq.jQ8];exact hn)).mono ?_;rintro e w4 ⟨rfl,⟨r',hz⟩,hA⟩;have hk:Hid _:=hz;clear hz;go_wp2;go_end0;refine⟨rfl,⟨r',?_⟩,?_⟩
  ·have:=hk.o
   rw[<-HM.o,hg.o,ha.o,ho.o] at this;exact this
  exact(Tch.below (Tch.trans (Tch.alloc hb.o _) (Tch.trans hh.o hl.o)) nR (by omega)).trans ((cH (B:=pb) bR (by omega) _).trans hA)
 case false =>
  have HM:Hid (Sq.jBY ws st=Sq.fail (Sq.bn ws s1)):=by show _=_;unfold Sq.jBY;rw[<-ha.o,<-hg.o,hc];rfl
  have hm:Tch pb w2 (w2.setCell ⟨pb,2,none⟩ (.bool true)):=(Tch.refl _ _).store (.inl rfl) _;have hp:Hid _:=hm;have hq:=hi.o.jE7 bR hm rfl;have hs:Hid _:=hq;clear hm hq;go_wp2_with (go_at_call 194;refine(jMu _ _).mono ?_;rintro e w' ⟨rfl,rfl⟩;rw[hc]);refine(jI4 hs.o).mono ?_;rintro e w3 ⟨rfl,hy,hv⟩;obtain⟨c0,c1,c2,c3,hI⟩:=Tch.four (Tch.trans hh.o (Tch.trans hp.o hv)) he;have hf:=hv.size;simp at hf;have hj:Hid _:=hy;have hl:Hid _:=hv;clear hy hv;go_wp2_with fail;refine(jKh ⟨sg,t1,Sq.jCk ws (Sq.fail (Sq.bn ws s1))⟩ (hj.o.alloc _) (by rw[Sq.jQ8];show(Sq.bn ws s1).aq.length<=_;rw[Sq.jG2,ha.o,Sq.jQ8];exact hn)).mono ?_;rintro e w4 ⟨rfl,⟨r',hz⟩,hA⟩;have hk:Hid _:=hz;clear hz;go_wp2;go_end0;refine⟨rfl,⟨r',?_⟩,?_⟩
  ·have:=hk.o
   rw[<-HM.o,hg.o,ha.o,ho.o] at this;exact this
  exact(Tch.below (Tch.trans (Tch.alloc hb.o _) (Tch.trans hh.o (Tch.trans hp.o hl.o))) nR (by omega)).trans ((cH (B:=pb) bR (by omega) _).trans hA)
def jCp (fn t k f:Nat):Prop :=
 ∀(pb:Nat) (lv:Value) (ws:List Sq.Word) (r:Rw) (w:World) (st:Sq.PSt),PS pb lv ws r w st->st.aq.length<=2*st.pos->8*(ws.length-st.pos)+k<=f ->
  Calls Tryz.prog fn #[.pointer (some ⟨pb,0,none⟩)] w fun e w'=>e=.returned (.tuple #[])/\(∃r',PS pb lv ws r' w' (Sq.cond ws f t st))/\Below pb w w'
theorem jQ9 {ws:List Sq.Word}{st:Sq.PSt}{m:BA}(h:Sq.aU ws st m=true):st.pos<ws.length:=by
 unfold Sq.aU at h;simp at h;exact Sq.jJ6 ws st (by rw[h.1];decide)
theorem jQO {ws:List Sq.Word}{st:Sq.PSt}{m:BA}(h:Sq.aU ws st m=true):Sq.aR ws st m=Sq.step1 st:=by unfold Sq.aR;rw[h];rfl
theorem jQW {ws:List Sq.Word}{st:Sq.PSt}{m:BA}(h:Sq.aU ws st m=false):Sq.aR ws st m=st:=by unfold Sq.aR;rw[h];rfl
theorem qCa (f:Nat)(hn:jCp 234 2 3 f)(ho:jCp 217 0 7 f):jCp 234 2 3 (f+1):=by
 intro pb lv ws r w st h hw hf;have hr:=h.lt;have hs:=h.small;have hq:=h.inside;have H:Hid _:=h;clear h;go_enter Tryz.func234,Tryz.ntmps234;go_wp2_with fail;refine(jQL Sq.jIy H.o).mono ?_;rintro e w1 ⟨rfl,hy,hA⟩;have ht:=hA.size;have hg:Hid _:=hA;clear hA;cases hB:Sq.aU ws st Sq.jIy
 case true =>
  have hp:=jQ9 hB;rw[jQO hB] at hy;have HE:Hid (Sq.cond ws (f+1) 2 st=Sq.jBo (Sq.cond ws f 2 (Sq.step1 st)) (Sq.jCD Sq.jIy)):=by show _=_;rw[Sq.cond,cE hB]
  have he:Hid _:=hy;clear hy hB;go_wp2_with fail;refine(hn pb lv ws r w1 (Sq.step1 st) he.o (by show st.aq.length<=2*(st.pos+1);omega) (by show 8*(ws.length-(st.pos+1))+3<=f;omega)).mono ?_;rintro e w2 ⟨rfl,⟨r2,hv⟩,hF⟩;have hl:=Sq.jJg ws f 2 (Sq.step1 st);have hk:=hv.inside
  have hc:(Sq.cond ws f 2 (Sq.step1 st)).aq.length<=5000:=by
   have h4:(Sq.step1 st).aq=st.aq:=rfl;have h5:(Sq.step1 st).pos=st.pos+1:=rfl;rw[h4,h5] at hl;simp[Sq.more] at hl;omega
  have ha:Hid _:=hv;clear hv hl hk;go_wp2_with fail;refine(jKh (Sq.jCD Sq.jIy) ha.o hc).mono ?_;rintro e w3 ⟨rfl,⟨r3,hx⟩,hz⟩;have hb:Hid _:=hx;clear hx;go_wp2;go_end0;exact⟨rfl,⟨r3,by rw[HE.o];exact hb.o⟩,(Tch.below hg.o nR (by omega)).trans (hF.trans hz)⟩
 case false =>
  rw[jQW hB] at hy;have he:Hid _:=hy;clear hy;go_wp2_with fail;refine(jQL Sq.jCN he.o).mono ?_;rintro e w2 ⟨rfl,hv,hC⟩;have hu:=hC.size;have hh:Hid _:=Tch.trans hg.o hC;clear hC;cases hB2:Sq.aU ws st Sq.jCN
  case true =>
   have hp:=jQ9 hB2;rw[jQO hB2] at hv;have HE:Hid (Sq.cond ws (f+1) 2 st=Sq.aK ws (Sq.cond ws f 0 (Sq.step1 st)) Sq.jBO):=by show _=_;rw[Sq.cond,cy (by simp[hB]),cE hB2]
   have ha:Hid _:=hv;clear hv hB hB2;go_wp2_with fail;refine(ho pb lv ws r w2 (Sq.step1 st) ha.o (by show st.aq.length<=2*(st.pos+1);omega) (by show 8*(ws.length-(st.pos+1))+7<=f;omega)).mono ?_;rintro e w3 ⟨rfl,⟨r3,hx⟩,hz⟩;have hm:=hx.lt;have hb:Hid _:=hx;clear hx;go_wp2_with fail;refine(jQ2 Sq.jBO hb.o).mono ?_;rintro e w4 ⟨rfl,hD,hE⟩;have hi:Hid _:=hD;have hj:Hid _:=hE;clear hD hE;go_wp2;go_end0;exact⟨rfl,⟨r3,by rw[HE.o];exact hi.o⟩,(Tch.below hh.o nR (by omega)).trans (hz.trans (Tch.below hj.o nR (by omega)))⟩
  case false =>
   rw[jQW hB2] at hv;have HE:Hid (Sq.cond ws (f+1) 2 st=Sq.jGi ws st):=by show _=_;rw[Sq.cond,cy (by simp[hB]),cy (by simp[hB2])]
   have ha:Hid _:=hv;clear hv hB hB2;go_wp2_with fail;refine(jV9 ha.o (by omega)).mono ?_;rintro e w3 ⟨rfl,⟨r3,hx⟩,hz⟩;have hb:Hid _:=hx;clear hx;go_wp2;go_end0;exact⟨rfl,⟨r3,by rw[HE.o];exact hb.o⟩,(Tch.below hh.o nR (by omega)).trans hz⟩
theorem qCN (f:Nat)(ha:∀g,g<=f->jCp 227 1 5 g):jCp 217 0 7 (f+1):=by
 intro pb lv ws r w st h hw hf;have hq:=h.lt;have hs:=h.small;have H:Hid _:=h;clear h;go_enter Tryz.func217,Tryz.ntmps217;go_wp2_with fail;refine(ha f nR pb lv ws r w st H.o hw (by omega)).mono ?_;rintro e w1 ⟨rfl,⟨r1,hG⟩,hD⟩;have hl:=Sq.jJg ws f 1 st;have hc:(Sq.cond ws f 1 st).aq.length<=2*(Sq.cond ws f 1 st).pos+1:=by simp[Sq.more] at hl;omega
 have hn:=hl.1;have he:Hid _:=hG;have HE:Hid (Sq.cond ws (f+1) 0 st=Sq.cond ws f 3 (Sq.cond ws f 1 st)):=by show _=_;rw[Sq.cond]
 clear hG hl;go_wp2_with fail
 go_loopg [] f (fun k wr=>∃(g:Nat) (sk:Sq.PSt) (rk:Rw),g=k/\g<=f/\PS pb lv ws rk wr sk/\sk.aq.length<=2*sk.pos+1/\8*(ws.length-sk.pos)+6<=g/\Below pb w wr/\Hid (Sq.cond ws (f+1) 0 st=Sq.cond ws g 3 sk))
 case atStart=>exact⟨f,_,r1,rfl,nR,he.o,hc,by omega,hD,HE⟩
 case round =>
  obtain⟨g,sk,rk,rfl,hJ,hA,hK,hI,hy,hx⟩:=hrel;have hj:Hid _:=hA;have ho:=hA.lt;clear hA he HE H hD hc;go_wp2_with fail;refine(jQL Sq.bOr hj.o).mono ?_;rintro e w2 ⟨rfl,hv,hC⟩;have ht:=hC.size;have hg:Hid _:=hC;clear hC;cases hB:Sq.aU ws sk Sq.bOr
  case true =>
   have hr:=jQ9 hB;obtain⟨g,rfl⟩:∃g',g=g'+1:=⟨g-1,by omega⟩;rw[jQO hB] at hv;have HE:Hid (Sq.cond ws (f+1) 0 st=Sq.cond ws g 3 (Sq.jBo (Sq.cond ws g 1 (Sq.step1 sk)) (Sq.jCD Sq.bOr))):=by show _=_;rw[hx.o,Sq.cond,cE hB]
   have hb:Hid _:=hv;clear hv hB hx;go_wp2_with fail;refine(ha g (by omega) pb lv ws rk w2 (Sq.step1 sk) hb.o (by show sk.aq.length<=2*(sk.pos+1);omega) (by show 8*(ws.length-(sk.pos+1))+5<=g;omega)).mono ?_;rintro e w3 ⟨rfl,⟨r3,hz⟩,hE⟩;have hl:=Sq.jJg ws g 1 (Sq.step1 sk);have hp:=hz.inside
   have hm:sk.pos+1<=(Sq.cond ws g 1 (Sq.step1 sk)).pos/\(Sq.cond ws g 1 (Sq.step1 sk)).aq.length<=2*(Sq.cond ws g 1 (Sq.step1 sk)).pos:=by
    have h4:(Sq.step1 sk).aq=sk.aq:=rfl;have h5:(Sq.step1 sk).pos=sk.pos+1:=rfl;rw[h4,h5] at hl;simp[Sq.more] at hl;omega
   obtain⟨hc,hn⟩:=hm;have hh:Hid _:=hz;clear hz hl;go_wp2_with fail;refine(jKh (Sq.jCD Sq.bOr) hh.o (by omega)).mono ?_;rintro e w4 ⟨rfl,⟨r4,hH⟩,hF⟩;have hi:Hid _:=hH;clear hH;have hk:Below pb w w4:=hy.trans ((Tch.below hg.o nR (by omega)).trans (hE.trans hF));clear hy hE hF;go_wp2;go_roundg g
   case measure=>omega
   case rel=>exact⟨g,_,r4,rfl,by omega,hi.o,by rw[Sq.jJ3];show _<=2*(Sq.cond ws g 1 (Sq.step1 sk)).pos+1;omega,by show 8*(ws.length-(Sq.cond ws g 1 (Sq.step1 sk)).pos)+6<=g;omega,hk,HE⟩
  case false =>
   rw[jQW hB] at hv
   have HE:Hid (Sq.cond ws (f+1) 0 st=sk):=by
    show _=_;rw[hx.o];obtain⟨g,rfl⟩:∃g',g=g'+1:=⟨g-1,by omega⟩;rw[Sq.cond,cy (by simp[hB])]
   have hb:Hid _:=hv;clear hv hB hx;go_wp2;go_end0;exact⟨rfl,⟨rk,by rw[HE.o];exact hb.o⟩,hy.trans (Tch.below hg.o nR (by omega))⟩
theorem qBX (f:Nat)(ha:∀g,g<=f->jCp 234 2 3 g):jCp 227 1 5 (f+1):=by
 intro pb lv ws r w st h hw hf;have hq:=h.lt;have hs:=h.small;have H:Hid _:=h;clear h;go_enter Tryz.func227,Tryz.ntmps227;go_wp2_with fail;refine(ha f nR pb lv ws r w st H.o hw (by omega)).mono ?_;rintro e w1 ⟨rfl,⟨r1,hG⟩,hD⟩;have hl:=Sq.jJg ws f 2 st;have hc:(Sq.cond ws f 2 st).aq.length<=2*(Sq.cond ws f 2 st).pos+1:=by simp[Sq.more] at hl;omega
 have hn:=hl.1;have he:Hid _:=hG;have HE:Hid (Sq.cond ws (f+1) 1 st=Sq.cond ws f 4 (Sq.cond ws f 2 st)):=by show _=_;rw[Sq.cond]
 clear hG hl;go_wp2_with fail
 go_loopg [] f (fun k wr=>∃(g:Nat) (sk:Sq.PSt) (rk:Rw),g=k/\g<=f/\PS pb lv ws rk wr sk/\sk.aq.length<=2*sk.pos+1/\8*(ws.length-sk.pos)+4<=g/\Below pb w wr/\Hid (Sq.cond ws (f+1) 1 st=Sq.cond ws g 4 sk))
 case atStart=>exact⟨f,_,r1,rfl,nR,he.o,hc,by omega,hD,HE⟩
 case round =>
  obtain⟨g,sk,rk,rfl,hJ,hA,hK,hI,hy,hx⟩:=hrel;have hj:Hid _:=hA;have ho:=hA.lt;clear hA he HE H hD hc;go_wp2_with fail;refine(jQL Sq.jHh hj.o).mono ?_;rintro e w2 ⟨rfl,hv,hC⟩;have ht:=hC.size;have hg:Hid _:=hC;clear hC;cases hB:Sq.aU ws sk Sq.jHh
  case true =>
   have hr:=jQ9 hB;obtain⟨g,rfl⟩:∃g',g=g'+1:=⟨g-1,by omega⟩;rw[jQO hB] at hv;have HE:Hid (Sq.cond ws (f+1) 1 st=Sq.cond ws g 4 (Sq.jBo (Sq.cond ws g 2 (Sq.step1 sk)) (Sq.jCD Sq.jHh))):=by show _=_;rw[hx.o,Sq.cond,cE hB]
   have hb:Hid _:=hv;clear hv hB hx;go_wp2_with fail;refine(ha g (by omega) pb lv ws rk w2 (Sq.step1 sk) hb.o (by show sk.aq.length<=2*(sk.pos+1);omega) (by show 8*(ws.length-(sk.pos+1))+3<=g;omega)).mono ?_;rintro e w3 ⟨rfl,⟨r3,hz⟩,hE⟩;have hl:=Sq.jJg ws g 2 (Sq.step1 sk);have hp:=hz.inside
   have hm:sk.pos+1<=(Sq.cond ws g 2 (Sq.step1 sk)).pos/\(Sq.cond ws g 2 (Sq.step1 sk)).aq.length<=2*(Sq.cond ws g 2 (Sq.step1 sk)).pos:=by
    have h4:(Sq.step1 sk).aq=sk.aq:=rfl;have h5:(Sq.step1 sk).pos=sk.pos+1:=rfl;rw[h4,h5] at hl;simp[Sq.more] at hl;omega
   obtain⟨hc,hn⟩:=hm;have hh:Hid _:=hz;clear hz hl;go_wp2_with fail;refine(jKh (Sq.jCD Sq.jHh) hh.o (by omega)).mono ?_;rintro e w4 ⟨rfl,⟨r4,hH⟩,hF⟩;have hi:Hid _:=hH;clear hH;have hk:Below pb w w4:=hy.trans ((Tch.below hg.o nR (by omega)).trans (hE.trans hF));clear hy hE hF;go_wp2;go_roundg g
   case measure=>omega
   case rel=>exact⟨g,_,r4,rfl,by omega,hi.o,by rw[Sq.jJ3];show _<=2*(Sq.cond ws g 2 (Sq.step1 sk)).pos+1;omega,by show 8*(ws.length-(Sq.cond ws g 2 (Sq.step1 sk)).pos)+4<=g;omega,hk,HE⟩
  case false =>
   rw[jQW hB] at hv
   have HE:Hid (Sq.cond ws (f+1) 1 st=sk):=by
    show _=_;rw[hx.o];obtain⟨g,rfl⟩:∃g',g=g'+1:=⟨g-1,by omega⟩;rw[Sq.cond,cy (by simp[hB])]
   have hb:Hid _:=hv;clear hv hB hx;go_wp2;go_end0;exact⟨rfl,⟨rk,by rw[HE.o];exact hb.o⟩,hy.trans (Tch.below hg.o nR (by omega))⟩
theorem qBK:∀f g,g<=f->jCp 217 0 7 g/\jCp 227 1 5 g/\jCp 234 2 3 g:=by
 intro f
 induction f with
 | zero =>
  intro g hg;obtain rfl:g=0:=by omega
  exact⟨fun _ _ _ _ _ _ _ _ hf=>absurd hf (by omega),fun _ _ _ _ _ _ _ _ hf=>absurd hf (by omega),fun _ _ _ _ _ _ _ _ hf=>absurd hf (by omega)⟩
 | succ f ih =>
  intro g hg;rcases dL g (f+1) with h | h
  ·exact ih g (by omega)
  obtain rfl:g=f+1:=by omega
  exact⟨qCN f fun g hg=>(ih g hg).2.1,qBX f fun g hg=>(ih g hg).2.2,qCa f (ih f nR).2.2 (ih f nR).1⟩
theorem jIV {ws:List Sq.Word}{r:Rw}{st:Sq.PSt}(h:PS pb lv ws r w st)(hn:st.aq.length<=2*st.pos) :
  Calls Tryz.prog 189 #[.pointer (some ⟨pb,0,none⟩)] w fun e w'=>e=.returned (.tuple #[])/\(∃r',PS pb lv ws r' w' (Sq.jBS ws st))/\Below pb w w':=by
 have he:=h.lt;have H:Hid _:=h;clear h;go_enter Tryz.func189,Tryz.ntmps189;go_wp2_with fail;refine(jQL Sq.jHR H.o).mono ?_;rintro e w1 ⟨rfl,hg,hj⟩;have hb:Hid _:=hj;clear hj;cases hB:Sq.aU ws st Sq.jHR
 case true =>
  have hf:=jQ9 hB;rw[jQO hB] at hg;have HE:Hid (Sq.jBS ws st=Sq.cond ws (8*ws.length+7) 0 (Sq.step1 st)):=by show _=_;unfold Sq.jBS;rw[cE hB]
  have ha:Hid _:=hg;clear hg hB;go_wp2_with fail;refine((qBK _ _ (Nat.le_refl (8*ws.length+7))).1 pb lv ws r w1 (Sq.step1 st) ha.o (by show st.aq.length<=2*(st.pos+1);omega) (by omega)).mono ?_;rintro e w2 ⟨rfl,⟨r2,hh⟩,hk⟩;have hc:Hid _:=hh;clear hh;go_wp2;go_end0;exact⟨rfl,⟨r2,by rw[HE.o];exact hc.o⟩,(Tch.below hb.o nR (by omega)).trans hk⟩
 case false =>
  rw[jQW hB] at hg;have HE:Hid (Sq.jBS ws st=st):=by show _=_;unfold Sq.jBS;rw[cy (by simp[hB])]
  have ha:Hid _:=hg;clear hg hB;go_wp2;go_end0;exact⟨rfl,⟨r,by rw[HE.o];exact ha.o⟩,Tch.below hb.o nR (by omega)⟩
end
namespace Sq
def jDM (st:PSt)(c:Col):PSt:={ st with cols:=st.cols++[c] }
def jFj (st:PSt)(v:Val):PSt:={ st with ax:=st.ax++[v] }
def jEw (st:PSt)(s:bE):PSt:={ st with ak:=st.ak++[s] }
def addItem (st:PSt)(n:BA):PSt:={ st with items:=st.items++[n] }
def bx (st:PSt)(a:Int):PSt:={ st with act:=a }
def setTable (st:PSt)(n:BA):PSt:={ st with table:=n }
def jAp (st:PSt)(a:Int):PSt:={ st with shw:=a }
def jEy:BA:=⟨#[44]⟩
def bEq:BA:=⟨#[61]⟩
def jDx:BA:=⟨#[43]⟩
def jJw:BA:=⟨#[42]⟩
def jGL:BA:=⟨#[99,114,101,97,116,101]⟩
def jEi:BA:=⟨#[116,97,98,108,101]⟩
def jGN:BA:=⟨#[105,110,115,101,114,116]⟩
def jGf:BA:=⟨#[105,110,116,111]⟩
def jGQ:BA:=⟨#[118,97,108,117,101,115]⟩
def jGP:BA:=⟨#[117,112,100,97,116,101]⟩
def jMq:BA:=⟨#[115,101,116]⟩
def jGM:BA:=⟨#[100,101,108,101,116,101]⟩
def jBy:BA:=⟨#[102,114,111,109]⟩
def jGO:BA:=⟨#[115,101,108,101,99,116]⟩
def jHQ:BA:=⟨#[99,111,117,110,116]⟩
def jMr:BA:=⟨#[115,117,109]⟩
def jBK (ws:List Word)(st:PSt):PSt:=jFj (jEB ws st) (jFT ws st)
def jCt (ws:List Word)(st:PSt):PSt:=addItem (bO ws st) (jAV ws st)
def jFm (ws:List Word)(st:PSt):PSt:=jDM (jCS ws (bO ws st)) ⟨jAV ws st,jFg ws (bO ws st)⟩
def jHg (ws:List Word)(st:PSt):PSt:=aK ws (bO ws st) bEq
def jDo (ws:List Word)(st:PSt):PSt:=jBM ws (jHg ws st)
def jGa (ws:List Word)(st:PSt):BA:=if aU ws (jDo ws st) jDx then jDx else if aU ws (jDo ws st) bu then bu else ar
def jFP (ws:List Word)(st:PSt):PSt:=if aU ws (jDo ws st) jDx then step1 (jDo ws st) else if aU ws (jDo ws st) bu then step1 (jDo ws st) else jDo ws st
def jDJ (ws:List Word)(st:PSt):Term:=if aU ws (jDo ws st) jDx then jCk ws (jFP ws st) else if aU ws (jDo ws st) bu then jCk ws (jFP ws st) else jFN
def jFk (ws:List Word)(st:PSt):PSt:=if aU ws (jDo ws st) jDx then jBM ws (jFP ws st) else if aU ws (jDo ws st) bu then jBM ws (jFP ws st) else jFP ws st
def jDj (ws:List Word)(st:PSt):PSt:=jEw (jFk ws st) ⟨jAV ws st,jCk ws (jHg ws st),jGa ws st,jDJ ws st⟩
def bp (ws:List Word)(body:PSt->PSt):Nat->PSt->PSt
 | 0,st=>st
 | f+1,st=>if aU ws st jEy then bp ws body f (body (step1 st)) else st
def jAN (ws:List Word)(st:PSt):PSt:=setTable (bO ws st) (jAV ws st)
def jDc (ws:List Word)(st:PSt):PSt :=
 let a:=aK ws (jAN ws (aK ws (bx st 1) jEi)) jCN
 let b:=jDM (aK ws (bO ws a) jIx) ⟨jAV ws a,0⟩
 aK ws (bp ws (jFm ws) (ws.length+1) b) jBO
def jDf (ws:List Word)(st:PSt):PSt :=
 let a:=aK ws (aK ws (jAN ws (aK ws (bx st 2) jGf)) jGQ) jCN
 aK ws (bp ws (jBK ws) (ws.length+1) (jBK ws a)) jBO
def jDI (ws:List Word)(st:PSt):PSt :=
 let a:=aK ws (jAN ws (bx st 3)) jMq
 jBS ws (bp ws (jDj ws) (ws.length+1) (jDj ws a))
def jD3 (ws:List Word)(st:PSt):PSt:=jBS ws (jAN ws (aK ws (bx st 4) jBy))
def jCB (ws:List Word)(st:PSt):PSt:=bp ws (jCt ws) (ws.length+1) (jCt ws (jAp st 0))
def jBp (ws:List Word)(st:PSt):PSt :=
 if aU ws st jJw then jAp (step1 st) 1
 else if aU ws st jHQ then jAp (step1 st) 2
 else if aU ws st jMr then aK ws (jCt ws (aK ws (jAp (step1 st) 3) jCN)) jBO
 else jCB ws st
def jBz (ws:List Word)(st:PSt):PSt:=jBS ws (jAN ws (aK ws (jBp ws (bx st 5)) jBy))
def jAg (ws:List Word)(st:PSt):PSt :=
 if(jD7 ws st).toList==jGL.toList then jDc ws (bn ws st)
 else if(jD7 ws st).toList==jGN.toList then jDf ws (bn ws st)
 else if(jD7 ws st).toList==jGP.toList then jDI ws (bn ws st)
 else if(jD7 ws st).toList==jGM.toList then jD3 ws (bn ws st)
 else if(jD7 ws st).toList==jGO.toList then jBz ws (bn ws st)
 else fail (bn ws st)
def st0:PSt:=⟨0,false,0,ar,[],[],[],0,[],[]⟩
def parse (ha:BA):Int×PSt :=
 if 160<ha.size then(2,st0)
 else match split ha with
  | none=>(3,st0)
  | some ws=>if(jAg ws st0).bad || (jAg ws st0).pos != ws.length then(3,st0) else(0,jAg ws st0)
theorem jNx (ws:List Word)(st:PSt):st.pos<=(bO ws st).pos:=by
 have:=jNQ ws st
 unfold bO;split
 ·exact this
 exact this
theorem qAi (ws:List Word)(st:PSt):st.pos<=(jCS ws st).pos:=by
 unfold jCS;split
 ·exact jRq ws st _
 exact jNK ws st _
theorem jMC (ws:List Word)(st:PSt):(jAN ws st).cols=st.cols:=jJ0 ws st
theorem jP6 (ws:List Word)(st:PSt):(jAN ws st).ax=st.ax:=jZp ws st
theorem jP7 (ws:List Word)(st:PSt):(jAN ws st).ak=st.ak:=jJZ ws st
theorem jI0 (ws:List Word)(st:PSt):(bO ws st).aq=st.aq:=by unfold bO;split<;>exact jG2 ws st
theorem jQz (ws:List Word)(st:PSt):(jAN ws st).aq=st.aq:=jI0 ws st
theorem qAe (ws:List Word)(st:PSt):(jEB ws st).aq=st.aq:=by
 have h:(bn ws (aR ws st bu)).aq=st.aq:=by rw[jG2];unfold aR;split<;>rfl
 unfold jEB
 repeat (first | exact h | split)
theorem jY7 (ws:List Word)(st:PSt):(jCS ws st).aq=st.aq:=by
 unfold jCS;split
 ·unfold aR;split<;>rfl
 exact jQn ws st _
theorem jR0 (ws:List Word)(st:PSt):(jBK ws st).ax.length=st.ax.length+1:=by
 show((jEB ws st).ax++[_]).length=_
 rw[jTg,cg];rfl
theorem jXB (ws:List Word)(st:PSt):st.pos<=(jBK ws st).pos:=jUm ws st
theorem jIE (ws:List Word)(st:PSt):(jBK ws st).aq=st.aq:=qAe ws st
theorem jNX (ws:List Word)(st:PSt):(jDo ws st).ak=st.ak:=by unfold jDo jHg;rw[jHs,jID,jJZ]
theorem jNW (ws:List Word)(st:PSt):(jDo ws st).aq=st.aq:=by unfold jDo jHg;rw[jQ8,jQn,jI0]
theorem qBV (ws:List Word)(st:PSt):st.pos<=(jDo ws st).pos:=cm (cm (jNx ws st) (jNK ws _ bEq)) (jLp ws _)
theorem jUy (ws:List Word)(st:PSt):(jDj ws st).ak.length=st.ak.length+1:=by
 show((jFk ws st).ak++[_]).length=_
 have h:(jFk ws st).ak=st.ak:=by
  unfold jFk jFP
  split
  ·rw[jHs];exact jNX ws st
  split
  ·rw[jHs];exact jNX ws st
  exact jNX ws st
 rw[h,cg];rfl
theorem jI8 (ws:List Word)(st:PSt):(jDj ws st).aq=st.aq:=by
 show(jFk ws st).aq=_
 unfold jFk jFP
 split
 ·rw[jQ8];exact jNW ws st
 split
 ·rw[jQ8];exact jNW ws st
 exact jNW ws st
theorem qBU (ws:List Word)(st:PSt):st.pos<=(jDj ws st).pos:=by
 show _<=(jFk ws st).pos;have h:=qBV ws st;have h2:=jLp ws (step1 (jDo ws st));have h3:(step1 (jDo ws st)).pos=(jDo ws st).pos+1:=rfl;unfold jFk jFP
 split
 ·omega
 split
 ·omega
 omega
theorem jSY (ws:List Word)(st:PSt):(jFm ws st).aq=st.aq:=by show(jCS ws (bO ws st)).aq=_;rw[jY7,jI0]
theorem jI1 (ws:List Word)(st:PSt):(jCt ws st).aq=st.aq:=jI0 ws st
theorem jHr (ws:List Word)(body:PSt->PSt)(hb:∀st,(body st).aq=st.aq):∀f st,(bp ws body f st).aq=st.aq:=by
 intro f
 induction f with
 | zero=>intro st;rfl
 | succ f ih =>
  intro st;rw[bp]
  split
  ·rw[ih,hb];rfl
  rfl
end Sq
end Go.Proofs.YtahpihjialbanaaGreatDoor
