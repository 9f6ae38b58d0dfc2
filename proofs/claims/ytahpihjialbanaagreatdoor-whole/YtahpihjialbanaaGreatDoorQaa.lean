import Derived.Deep.Cut
import Derived.Lib.AtoiErrMem
import Derived.Lib.ConvBytes
import Derived.Lib.Strings
import Derived.Test.YtahpihjialbanaaGreatDoorProg
import Derived.WalkKit
import Derived.WalkLawsBesides
import Derived.WalkSpells
set_option linter.unusedVariables false
set_option linter.unusedSimpArgs false
set_option maxRecDepth 100000
set_option maxHeartbeats 800000
namespace Go.RowKit
theorem Hid.o{p:Prop}(h:Hid p):p:=h.out
end Go.RowKit
namespace Go.Proofs.YtahpihjialbanaaGreatDoor
theorem bR{B:Nat}{w:World}:Go.RowKit.Below B w w:=Go.RowKit.Below.refl _ _
theorem nR{n:Nat}:n<=n:=Nat.le_refl _
theorem zR{n:Nat}:0<=n:=Nat.zero_le _
namespace Sq
def rng (lo hi c:Int):Bool:=decide (lo<=c)&&decide (c<=hi)
def isLetter (c:Int):Bool:=rng 97 122 c
def isDigit (c:Int):Bool:=rng 48 57 c
def isName (c:Int):Bool:=isLetter c || isDigit c
def isGap (c:Int):Bool:=c==32 || c==10
def isInText (c:Int):Bool:=rng 32 126 c && !(c==39)
def isSign (c:Int):Bool:=[40,41,44,42,61,43,45,60,62].contains c
def isPair (c d:Int):Bool:=(c==60&&d==62) || (c==60&&d==61) || (c==62&&d==61)
def byteAt (s:ByteArray)(k:Nat):Int:=((s.data.toList[k]?).getD 0).toNat
def cnt (p:Int->Bool)(s:ByteArray)(k:Nat):Nat:=((s.data.toList.drop k).takeWhile fun c=>p c.toNat).length
theorem jQkx (s:ByteArray)(k:Nat)(h:k<s.size):byteAt s k=(s[k]).toNat:=by
 have h':k<s.data.toList.length:=by simpa using h
 unfold byteAt;rw[List.getElem?_eq_getElem h'];rfl
theorem jQky (s:ByteArray)(k:Nat)(h:s.size<=k):byteAt s k=0:=by
 have h':s.data.toList.length<=k:=by simpa using h
 unfold byteAt;rw[List.getElem?_eq_none h'];rfl
theorem jQpK (s:ByteArray)(k:Nat):0<=byteAt s k/\byteAt s k<=255:=by
 unfold byteAt
 have:=((s.data.toList[k]?).getD 0).toNat_lt
 omega
theorem jQgS (p:Int->Bool)(h0:p 0=false)(s:ByteArray)(k:Nat)(h:p (byteAt s k)=true) :
  k<s.size/\cnt p s k=cnt p s (k+1)+1:=by
 by_cases hk:k<s.size
 ·refine⟨hk,?_⟩;have h':k<s.data.toList.length:=by simpa using hk
  have e:byteAt s k=((s.data.toList[k]).toNat:Int):=by unfold byteAt;rw[List.getElem?_eq_getElem h'];rfl
  unfold cnt;rw[List.drop_eq_getElem_cons h',List.takeWhile_cons,if_pos (by rw[<-e];exact h),List.length_cons]
 ·rw[jQky s k (by omega),h0] at h;cases h
theorem jQi9 (p:Int->Bool)(s:ByteArray)(k:Nat)(h:p (byteAt s k)=false):cnt p s k=0:=by
 unfold cnt
 by_cases hk:k<s.size
 ·have h':k<s.data.toList.length:=by simpa using hk
  have e:byteAt s k=((s.data.toList[k]).toNat:Int):=by unfold byteAt;rw[List.getElem?_eq_getElem h'];rfl
  rw[List.drop_eq_getElem_cons h',List.takeWhile_cons,if_neg (by rw[<-e,h];simp)];rfl
 ·have h':s.data.toList.length<=k:=by simpa using Nat.le_of_not_lt hk
  rw[List.drop_eq_nil_of_le h'];rfl
def endOfText (s:ByteArray)(a:Nat):Nat:=if byteAt s (a+1+cnt isInText s (a+1))==39 then a+1+cnt isInText s (a+1)+1 else a
def endOf (s:ByteArray)(a:Nat):Nat :=
 if isLetter (byteAt s a) then a+cnt isName s a
 else if isDigit (byteAt s a) then a+cnt isDigit s a
 else if byteAt s a==39 then endOfText s a
 else if isPair (byteAt s a) (byteAt s (a+1)) then a+2
 else if isSign (byteAt s a) then a+1
 else a
structure Word where
 kind:Int
 text:ByteArray
def keywords:List (List UInt8) :=
 [[99,114,101,97,116,101],[116,97,98,108,101],[105,110,115,101,114,116],[105,110,116,111],[118,97,108,117,101,115],[117,112,100,97,116,101],[115,101,116],[119,104,101,114,101],[100,101,108,101,116,101],
  [102,114,111,109],[115,101,108,101,99,116],[97,110,100],[111,114],[110,111,116],[105,110,116],[116,101,120,116],[99,111,117,110,116],[115,117,109]]
def isKeyword (s:ByteArray):Bool:=keywords.contains s.data.toList
def bounded (kind:Int)(t:ByteArray)(most:Nat):Word:=if t.size<=most then⟨kind,t⟩ else⟨0,⟨#[]⟩⟩
def wordOf (s:ByteArray):Word :=
 if isKeyword s then⟨1,s⟩
 else if isLetter (byteAt s 0) then bounded 2 s 8
 else if isDigit (byteAt s 0) then bounded 3 s 9
 else if byteAt s 0==39&&decide (2<=s.size) then bounded 4 (s.extract 1 (s.size-1)) 12
 else⟨1,s⟩
def splitFrom (s:ByteArray):Nat->Nat->Option (List Word)
 | 0,_=>some []
 | f+1,a =>
  if a<s.size then
   if isGap (byteAt s a) then splitFrom s f (a+1)
   else if endOf s a<=a\/s.size<endOf s a then none
   else if(wordOf (s.extract a (endOf s a))).kind==0 then none
   else(splitFrom s f (endOf s a)).map (wordOf (s.extract a (endOf s a)) :: ·)
  else some []
def split (s:ByteArray):Option (List Word):=splitFrom s (s.size+1) 0
def Word.cells (x:Word):List Value:=[.int .i64 x.kind,.string x.text]
def wcells (ws:List Word):List Value:=ws.flatMap Word.cells
theorem jQkG (ws:List Word)(x:Word):wcells (ws++[x])=wcells ws++[.int .i64 x.kind,.string x.text]:=by simp[wcells,Word.cells]
theorem jQoR (s:ByteArray)(f k:Nat)(h:s.size<=k):splitFrom s f k=some []:=by
 cases f with
 | zero=>rfl
 | succ f=>rw[splitFrom,if_neg (by omega)]
theorem jQoQ (s:ByteArray)(f k:Nat)(h:k<s.size)(hg:isGap (byteAt s k)=true):splitFrom s (f+1) k=splitFrom s f (k+1):=by
 rw[splitFrom,if_pos h,if_pos hg]
theorem jQoS (s:ByteArray)(f k:Nat)(h:k<s.size)(hg:isGap (byteAt s k)=false)(he:endOf s k<=k\/s.size<endOf s k):splitFrom s (f+1) k=none:=by
 rw[splitFrom,if_pos h,if_neg (by simp[hg]),if_pos he]
theorem jQmh (s:ByteArray)(f k:Nat)(h:k<s.size)(hg:isGap (byteAt s k)=false)(he:¬(endOf s k<=k\/s.size<endOf s k))(hk:(wordOf (s.extract k (endOf s k))).kind=0):splitFrom s (f+1) k=none:=by
 rw[splitFrom,if_pos h,if_neg (by simp[hg]),if_neg he,if_pos (by simp[hk])]
theorem jQmf (s:ByteArray)(f k:Nat)(h:k<s.size)(hg:isGap (byteAt s k)=false)(he:¬(endOf s k<=k\/s.size<endOf s k))(hk:(wordOf (s.extract k (endOf s k))).kind≠0) :
  splitFrom s (f+1) k=(splitFrom s f (endOf s k)).map (wordOf (s.extract k (endOf s k)) :: ·):=by
 rw[splitFrom,if_pos h,if_neg (by simp[hg]),if_neg he,if_neg (by simp[hk])]
end Sq
section
open Go.RowKit
theorem jQR (c:Int)(w:World) :
  Calls Tryz.prog 175 #[.int .u8 c] w fun e w'=>e=.returned (.bool (Sq.isDigit c))/\w'=w:=by
 unfold Sq.isDigit Sq.rng
 by_cases h1:48<=c
 all_goals(try by_cases h2:c<=57)
 all_goals
  go_enter Tryz.func175,Tryz.ntmps175;go_wp2;go_ret;exact⟨by simp[*]<;>omega,rfl⟩
theorem jQC (c:Int)(w:World) :
  Calls Tryz.prog 173 #[.int .u8 c] w fun e w'=>e=.returned (.bool (Sq.isLetter c))/\w'=w:=by
 unfold Sq.isLetter Sq.rng
 by_cases h1:97<=c
 all_goals(try by_cases h2:c<=122)
 all_goals
  go_enter Tryz.func173,Tryz.ntmps173;go_wp2;go_ret;exact⟨by simp[*]<;>omega,rfl⟩
theorem jQcL (c:Int)(w:World) :
  Calls Tryz.prog 135 #[.int .u8 c] w fun e w'=>e=.returned (.bool (Sq.isGap c))/\w'=w:=by
 unfold Sq.isGap;go_enter Tryz.func135,Tryz.ntmps135;go_wp2
 all_goals
  go_ret;exact⟨by simp[*],rfl⟩
theorem jQcg (c:Int)(w:World) :
  Calls Tryz.prog 213 #[.int .u8 c] w fun e w'=>e=.returned (.bool (Sq.isInText c))/\w'=w:=by
 unfold Sq.isInText Sq.rng;go_enter Tryz.func213,Tryz.ntmps213;go_wp2
 all_goals
  go_ret;exact⟨by simp_all [bne]<;>omega,rfl⟩
theorem jQeO (c d:Int)(w:World) :
  Calls Tryz.prog 178 #[.int .u8 c,.int .u8 d] w fun e w'=>e=.returned (.bool (Sq.isPair c d))/\w'=w:=by
 unfold Sq.isPair;go_enter Tryz.func178,Tryz.ntmps178;go_wp2
 all_goals
  go_ret;exact⟨by simp[*],rfl⟩
theorem jQhW (c:Int)(w:World) :
  Calls Tryz.prog 179 #[.int .u8 c] w fun e w'=>e=.returned (.bool (Sq.isSign c))/\w'=w:=by
 unfold Sq.isSign;go_enter Tryz.func179,Tryz.ntmps179;go_wp2
 all_goals
  go_ret;exact⟨by simp_all,rfl⟩
theorem jQA (s:ByteArray)(i:Int)(w:World)(h0:0<=i)(hs:s.size<=1000) :
  Calls Tryz.prog 172 #[.string s,.int .i64 i] w fun e w'=>e=.returned (.int .u8 (Sq.byteAt s i.toNat))/\w'=w:=by
 obtain⟨k,rfl⟩:=Int.eq_ofNat_of_zero_le h0;rw[Int.toNat_natCast]
 by_cases hk:k<s.size
 ·have e:=Sq.jQkx s k hk;have H:Hid _:=e;clear e;go_enter Tryz.func172,Tryz.ntmps172;go_wp2;go_ret;exact⟨by rw[H.o];rfl,rfl⟩
 ·have e:=Sq.jQky s k (by omega);have H:Hid _:=e;clear e;go_enter Tryz.func172,Tryz.ntmps172;go_wp2;go_ret;exact⟨by rw[H.o];rfl,rfl⟩
end
section
open Go.RowKit
theorem jQfk (s:ByteArray)(i:Int)(w:World)(h0:0<=i)(hi:i<=s.size)(hs:s.size<=1000) :
  Calls Tryz.prog 176 #[.string s,.int .i64 i] w fun e w'=>e=.returned (.int .i64 ((i.toNat+Sq.cnt Sq.isDigit s i.toNat:Nat):Int))/\w'=w:=by
 obtain⟨a,rfl⟩:=Int.eq_ofNat_of_zero_le h0;rw[Int.toNat_natCast];have ha:a<=s.size:=by omega
 clear hi h0;go_enter Tryz.func176,Tryz.ntmps176;go_wp2
 go_loop [5] (fun i=>∃k:Nat,k<=s.size/\i=.int .i64 k/\Hid (k+Sq.cnt Sq.isDigit s k=a+Sq.cnt Sq.isDigit s a)) (fun i=>s.size-(intOf i).toNat)
 case atStart=>exact⟨a,ha,rfl,rfl⟩
 case round =>
  obtain⟨k,hk,rfl,hr⟩:=hrel;cases hd:Sq.isDigit (Sq.byteAt s k)
  ·have hz:=Sq.jQi9 Sq.isDigit s k hd;have HZ:Hid _:=hz;clear hz;go_wp2_with (first | (go_at_call 172;refine(jQA s k _ (by omega) hs).mono ?_;rintro e w' ⟨rfl,rfl⟩;rw[Int.toNat_natCast]) | (go_at_call 175;refine(jQR _ _).mono ?_;rintro e w' ⟨rfl,rfl⟩;rw[hd]));go_ret;have hr:=hr.o;have hz:=HZ.o;rw[hz] at hr;exact⟨by rw[<-hr];rfl,rfl⟩
  ·obtain⟨hlt,hz⟩:=Sq.jQgS Sq.isDigit rfl s k hd;have HZ:Hid _:=hz;clear hz;go_wp2_with (first | (go_at_call 172;refine(jQA s k _ (by omega) hs).mono ?_;rintro e w' ⟨rfl,rfl⟩;rw[Int.toNat_natCast]) | (go_at_call 175;refine(jQR _ _).mono ?_;rintro e w' ⟨rfl,rfl⟩;rw[hd]));go_round
   case rel=>exact⟨k+1,by omega,by go_num,by have:=HZ.o;have hr:=hr.o;show _=_;omega⟩
   case measure=>simp[intOf];omega
theorem jQeT (s:ByteArray)(i:Int)(w:World)(h0:0<=i)(hi:i<=s.size)(hs:s.size<=1000) :
  Calls Tryz.prog 174 #[.string s,.int .i64 i] w fun e w'=>e=.returned (.int .i64 ((i.toNat+Sq.cnt Sq.isName s i.toNat:Nat):Int))/\w'=w:=by
 obtain⟨a,rfl⟩:=Int.eq_ofNat_of_zero_le h0;rw[Int.toNat_natCast];have ha:a<=s.size:=by omega
 clear hi h0;go_enter Tryz.func174,Tryz.ntmps174;go_wp2
 go_loop [5] (fun i=>∃k:Nat,k<=s.size/\i=.int .i64 k/\Hid (k+Sq.cnt Sq.isName s k=a+Sq.cnt Sq.isName s a)) (fun i=>s.size-(intOf i).toNat)
 case atStart=>exact⟨a,ha,rfl,rfl⟩
 case round =>
  obtain⟨k,hk,rfl,hr⟩:=hrel;have hb:Sq.isName (Sq.byteAt s k)=(Sq.isLetter (Sq.byteAt s k) || Sq.isDigit (Sq.byteAt s k)):=rfl;cases hl:Sq.isLetter (Sq.byteAt s k)
  ·cases hd:Sq.isDigit (Sq.byteAt s k)
   ·rw[hl,hd] at hb;have hz:=Sq.jQi9 Sq.isName s k hb;have HZ:Hid _:=hz;clear hz hb;go_wp2_with (first | (go_at_call 172;refine(jQA s k _ (by omega) hs).mono ?_;rintro e w' ⟨rfl,rfl⟩;rw[Int.toNat_natCast]) | (go_at_call 175;refine(jQR _ _).mono ?_;rintro e w' ⟨rfl,rfl⟩;rw[hd]) | (go_at_call 173;refine(jQC _ _).mono ?_;rintro e w' ⟨rfl,rfl⟩;rw[hl]));go_ret;have hr:=hr.o;have hz:=HZ.o;rw[hz] at hr;exact⟨by rw[<-hr];rfl,rfl⟩
   ·rw[hl,hd] at hb;obtain⟨hlt,hz⟩:=Sq.jQgS Sq.isName rfl s k hb;have HZ:Hid _:=hz;clear hz hb;go_wp2_with (first | (go_at_call 172;refine(jQA s k _ (by omega) hs).mono ?_;rintro e w' ⟨rfl,rfl⟩;rw[Int.toNat_natCast]) | (go_at_call 175;refine(jQR _ _).mono ?_;rintro e w' ⟨rfl,rfl⟩;rw[hd]) | (go_at_call 173;refine(jQC _ _).mono ?_;rintro e w' ⟨rfl,rfl⟩;rw[hl]));go_round
    case rel=>exact⟨k+1,by omega,by go_num,by have:=HZ.o;have hr:=hr.o;show _=_;omega⟩
    case measure=>simp[intOf];omega
  ·rw[hl,Bool.true_or] at hb;obtain⟨hlt,hz⟩:=Sq.jQgS Sq.isName rfl s k hb;have HZ:Hid _:=hz;clear hz hb;go_wp2_with (first | (go_at_call 172;refine(jQA s k _ (by omega) hs).mono ?_;rintro e w' ⟨rfl,rfl⟩;rw[Int.toNat_natCast]) | (go_at_call 173;refine(jQC _ _).mono ?_;rintro e w' ⟨rfl,rfl⟩;rw[hl]));go_round
   case rel=>exact⟨k+1,by omega,by go_num,by have:=HZ.o;have hr:=hr.o;show _=_;omega⟩
   case measure=>simp[intOf];omega
theorem jQh7 (s:ByteArray)(i:Int)(w:World)(h0:0<=i)(hi:i<s.size)(hs:s.size<=1000) :
  Calls Tryz.prog 177 #[.string s,.int .i64 i] w fun e w'=>e=.returned (.int .i64 ((Sq.endOfText s i.toNat:Nat):Int))/\w'=w:=by
 obtain⟨a,rfl⟩:=Int.eq_ofNat_of_zero_le h0;rw[Int.toNat_natCast];have ha:a<s.size:=by omega
 clear hi h0;have HE:Hid (Sq.endOfText s a=if Sq.byteAt s (a+1+Sq.cnt Sq.isInText s (a+1))==39 then a+1+Sq.cnt Sq.isInText s (a+1)+1 else a):=rfl;go_enter Tryz.func177,Tryz.ntmps177;go_wp2
 go_loop [5] (fun i=>∃k:Nat,k<=s.size/\i=.int .i64 k/\Hid (k+Sq.cnt Sq.isInText s k=a+1+Sq.cnt Sq.isInText s (a+1))) (fun i=>s.size-(intOf i).toNat)
 case atStart=>exact⟨a+1,by omega,by go_num,rfl⟩
 case round =>
  obtain⟨k,hk,rfl,hr⟩:=hrel;cases hd:Sq.isInText (Sq.byteAt s k)
  ·have hz:=Sq.jQi9 Sq.isInText s k hd;have hr:=hr.o;rw[hz,Nat.add_zero] at hr;have HE:=HE.o;rw[<-hr] at HE;have HH:Hid _:=HE;clear HE hz hr
   by_cases hq:Sq.byteAt s k=39
   ·have hb:(Sq.byteAt s k != 39)=false:=by simp[hq]
    have HQ:Hid _:=hq;clear hq;go_wp2_with (first | (go_at_call 172;refine(jQA s k _ (by omega) hs).mono ?_;rintro e w' ⟨rfl,rfl⟩;rw[Int.toNat_natCast]) | (go_at_call 213;refine(jQcg _ _).mono ?_;rintro e w' ⟨rfl,rfl⟩;rw[hd]));go_ret;exact⟨by rw[HH.o,HQ.o];rfl,rfl⟩
   ·have hb:(Sq.byteAt s k != 39)=true:=by simp[hq]
    go_wp2_with (first | (go_at_call 172;refine(jQA s k _ (by omega) hs).mono ?_;rintro e w' ⟨rfl,rfl⟩;rw[Int.toNat_natCast]) | (go_at_call 213;refine(jQcg _ _).mono ?_;rintro e w' ⟨rfl,rfl⟩;rw[hd]));go_ret;exact⟨by rw[HH.o,if_neg (by simp[hq])];rfl,rfl⟩
  ·obtain⟨hlt,hz⟩:=Sq.jQgS Sq.isInText rfl s k hd;have HZ:Hid _:=hz;clear hz;go_wp2_with (first | (go_at_call 172;refine(jQA s k _ (by omega) hs).mono ?_;rintro e w' ⟨rfl,rfl⟩;rw[Int.toNat_natCast]) | (go_at_call 213;refine(jQcg _ _).mono ?_;rintro e w' ⟨rfl,rfl⟩;rw[hd]));go_round
   case rel=>exact⟨k+1,by omega,by go_num,by have:=HZ.o;have hr:=hr.o;show _=_;omega⟩
   case measure=>simp[intOf];omega
end
section
open Go.RowKit
theorem jQdU (s:ByteArray)(i:Int)(w:World)(h0:0<=i)(hi:i<s.size)(hs:s.size<=1000) :
  Calls Tryz.prog 136 #[.string s,.int .i64 i] w fun e w'=>e=.returned (.int .i64 ((Sq.endOf s i.toNat:Nat):Int))/\w'=w:=by
 obtain⟨a,rfl⟩:=Int.eq_ofNat_of_zero_le h0;rw[Int.toNat_natCast];have ha:a<s.size:=by omega
 clear hi h0;cases hl:Sq.isLetter (Sq.byteAt s a)
 case true =>
  have HE:Hid (Sq.endOf s a=a+Sq.cnt Sq.isName s a):=by show Sq.endOf s a=_;unfold Sq.endOf;rw[hl];rfl
  go_enter Tryz.func136,Tryz.ntmps136;go_wp2_with (first | (go_at_call 172;refine(jQA s _ _ (by omega) hs).mono ?_;rintro e w' ⟨rfl,rfl⟩;rw[Int.toNat_natCast]) | (go_at_call 173;refine(jQC _ _).mono ?_;rintro e w' ⟨rfl,rfl⟩;rw[hl]) | (go_at_call 174;refine(jQeT s a _ (by omega) (by omega) hs).mono ?_;rintro e w' ⟨rfl,rfl⟩;rw[Int.toNat_natCast]));go_ret;exact⟨by rw[HE.o];rfl,rfl⟩
 cases hd:Sq.isDigit (Sq.byteAt s a)
 case true =>
  have HE:Hid (Sq.endOf s a=a+Sq.cnt Sq.isDigit s a):=by show Sq.endOf s a=_;unfold Sq.endOf;rw[hl,hd];rfl
  go_enter Tryz.func136,Tryz.ntmps136;go_wp2_with (first | (go_at_call 172;refine(jQA s _ _ (by omega) hs).mono ?_;rintro e w' ⟨rfl,rfl⟩;rw[Int.toNat_natCast]) | (go_at_call 173;refine(jQC _ _).mono ?_;rintro e w' ⟨rfl,rfl⟩;rw[hl]) | (go_at_call 175;refine(jQR _ _).mono ?_;rintro e w' ⟨rfl,rfl⟩;rw[hd]) | (go_at_call 176;refine(jQfk s a _ (by omega) (by omega) hs).mono ?_;rintro e w' ⟨rfl,rfl⟩;rw[Int.toNat_natCast]));go_ret;exact⟨by rw[HE.o];rfl,rfl⟩
 cases hq:Sq.byteAt s a==39
 case true =>
  have HE:Hid (Sq.endOf s a=Sq.endOfText s a):=by show Sq.endOf s a=_;unfold Sq.endOf;rw[hl,hd,hq];rfl
  have HQ:Hid _:=hq;clear hq;go_enter Tryz.func136,Tryz.ntmps136;go_wp2_with (first | (go_at_call 172;refine(jQA s _ _ (by omega) hs).mono ?_;rintro e w' ⟨rfl,rfl⟩;rw[Int.toNat_natCast]) | (go_at_call 173;refine(jQC _ _).mono ?_;rintro e w' ⟨rfl,rfl⟩;rw[hl]) | (go_at_call 175;refine(jQR _ _).mono ?_;rintro e w' ⟨rfl,rfl⟩;rw[hd];have hq:=HQ.o) | (go_at_call 177;refine(jQh7 s a _ (by omega) (by omega) hs).mono ?_;rintro e w' ⟨rfl,rfl⟩;rw[Int.toNat_natCast]));go_ret;exact⟨by rw[HE.o];rfl,rfl⟩
 have hb:=Sq.jQpK s (a+1);cases hp:Sq.isPair (Sq.byteAt s a) (Sq.byteAt s (a+1))
 case true =>
  have HE:Hid (Sq.endOf s a=a+2):=by show Sq.endOf s a=_;unfold Sq.endOf;rw[hl,hd,hq,hp];rfl
  go_enter Tryz.func136,Tryz.ntmps136;go_wp2_with (first | (go_at_call 172;refine(jQA s _ _ (by omega) hs).mono ?_;rintro e w' ⟨rfl,rfl⟩;first | rw[Int.toNat_natCast] | rw[show((a:Int)+1).toNat=a+1 from by omega]) | (go_at_call 173;refine(jQC _ _).mono ?_;rintro e w' ⟨rfl,rfl⟩;rw[hl]) | (go_at_call 175;refine(jQR _ _).mono ?_;rintro e w' ⟨rfl,rfl⟩;rw[hd]) | (go_at_call 178;refine(jQeO _ _ _).mono ?_;rintro e w' ⟨rfl,rfl⟩;rw[hp]));go_ret;exact⟨by rw[HE.o];rfl,rfl⟩
 cases hg:Sq.isSign (Sq.byteAt s a)
 case true =>
  have HE:Hid (Sq.endOf s a=a+1):=by show Sq.endOf s a=_;unfold Sq.endOf;rw[hl,hd,hq,hp,hg];rfl
  go_enter Tryz.func136,Tryz.ntmps136;go_wp2_with (first | (go_at_call 172;refine(jQA s _ _ (by omega) hs).mono ?_;rintro e w' ⟨rfl,rfl⟩;first | rw[Int.toNat_natCast] | rw[show((a:Int)+1).toNat=a+1 from by omega]) | (go_at_call 173;refine(jQC _ _).mono ?_;rintro e w' ⟨rfl,rfl⟩;rw[hl]) | (go_at_call 175;refine(jQR _ _).mono ?_;rintro e w' ⟨rfl,rfl⟩;rw[hd]) | (go_at_call 178;refine(jQeO _ _ _).mono ?_;rintro e w' ⟨rfl,rfl⟩;rw[hp]) | (go_at_call 179;refine(jQhW _ _).mono ?_;rintro e w' ⟨rfl,rfl⟩;rw[hg]));go_ret;exact⟨by rw[HE.o];rfl,rfl⟩
 case false =>
  have HE:Hid (Sq.endOf s a=a):=by show Sq.endOf s a=_;unfold Sq.endOf;rw[hl,hd,hq,hp,hg];rfl
  go_enter Tryz.func136,Tryz.ntmps136;go_wp2_with (first | (go_at_call 172;refine(jQA s _ _ (by omega) hs).mono ?_;rintro e w' ⟨rfl,rfl⟩;first | rw[Int.toNat_natCast] | rw[show((a:Int)+1).toNat=a+1 from by omega]) | (go_at_call 173;refine(jQC _ _).mono ?_;rintro e w' ⟨rfl,rfl⟩;rw[hl]) | (go_at_call 175;refine(jQR _ _).mono ?_;rintro e w' ⟨rfl,rfl⟩;rw[hd]) | (go_at_call 178;refine(jQeO _ _ _).mono ?_;rintro e w' ⟨rfl,rfl⟩;rw[hp]) | (go_at_call 179;refine(jQhW _ _).mono ?_;rintro e w' ⟨rfl,rfl⟩;rw[hg]));go_ret;exact⟨by rw[HE.o];rfl,rfl⟩
theorem jQaj (s:ByteArray)(w:World) :
  Calls Tryz.prog 180 #[.string s] w fun e w'=>e=.returned (.bool (Sq.isKeyword s))/\w'=w:=by
 unfold Sq.isKeyword Sq.keywords;go_enter Tryz.func180,Tryz.ntmps180;go_wp2
 all_goals
  go_ret;exact⟨by rw[<-ByteArray.toList_eq];simp_all,rfl⟩
theorem jQdf (k:Int)(t:ByteArray)(m:Int)(w:World)(h0:0<=m)(hs:t.size<=1000) :
  Calls Tryz.prog 181 #[.int .i64 k,.string t,.int .i64 m] w fun e w'=>e=.returned (.agg #[.int .i64 (Sq.bounded k t m.toNat).kind,.string (Sq.bounded k t m.toNat).text])/\Below w.heap.size w w':=by
 by_cases h:t.size<=m.toNat
 ·have h':(t.size:Int)<=m:=by omega
  have HE:Hid (Sq.bounded k t m.toNat=⟨k,t⟩):=by show _=_;unfold Sq.bounded;rw[if_pos h]
  go_enter Tryz.func181,Tryz.ntmps181;go_wp2;exact bodyPost_ret (v:=.agg #[.int .i64 k,.string t]) (by simp[results,Tryz.results181,go_sem]) rfl ⟨by rw[HE.o],(bR).alloc (nR) _⟩
 ·have h':m<(t.size:Int):=by omega
  have HE:Hid (Sq.bounded k t m.toNat=⟨0,⟨#[]⟩⟩):=by show _=_;unfold Sq.bounded;rw[if_neg h]
  go_enter Tryz.func181,Tryz.ntmps181;go_wp2;exact bodyPost_ret (v:=.agg #[.int .i64 0,.string ⟨#[]⟩]) (by simp[results,Tryz.results181,go_sem]) rfl ⟨by rw[HE.o],(bR).alloc (nR) _⟩
end
section
open Go.RowKit
theorem bcell {W w1:World}(hb:Below W.heap.size W w1):(∀b o,b<W.heap.size->w1.cell? ⟨b,o,none⟩=W.cell? ⟨b,o,none⟩)/\(∀b o,b<W.heap.size->w1.frozen? ⟨b,o,none⟩=W.frozen? ⟨b,o,none⟩) :=
 ⟨fun b o h=>hb.cell (p:=⟨b,o,none⟩) h,fun b o h=>hb.frozen (p:=⟨b,o,none⟩) h⟩
theorem jQn5 (W:World)(s:ByteArray):∃W1 cap,(convert 9 55 (.string s)).run Tryz.prog W=.ok (.slice (some ⟨W.heap.size,0,none⟩) s.size cap) W1 /\
  (convert 55 9 (.slice (some ⟨W.heap.size,0,none⟩) s.size cap)).run Tryz.prog W1=.ok (.string s) W1/\Below W.heap.size W W1/\W1.heap.size=W.heap.size+1:=by
 refine⟨Lib.bytesWorld W 5 s,_,Lib.run_convert_string_bytes W 9 55 5 s Tryz.underlying9 Tryz.underlying55 Tryz.underlying5,?_,Lib.bytesWorld_below W 5 s,Lib.bytesWorld_size W 5 s⟩
 have h:=run_convert_bytes_back (P:=Tryz.prog) (Lib.bytesWorld W 5 s) 55 9 5 ⟨W.heap.size,0,none⟩ (grownCap W s.size 0 5) s.data.toList Tryz.underlying55 Tryz.underlying5 Tryz.underlying9 (fun j hj=>by
  have h6:=Lib.bytesWorld_cell W 5 s j (by simpa using hj);have e:(⟨W.heap.size,0,none⟩:Addr).add j=⟨W.heap.size,j,none⟩:=by unfold Addr.add;split<;>simp_all
  rw[e,h6];simp[List.getD,List.getElem?_eq_getElem hj])
 have e1:s.data.toList.length=s.size:=by simp
 have e2:(⟨s.data.toList.toArray⟩:ByteArray)=s:=by cases s;simp
 rw[e1,e2] at h;exact h
theorem jQdt (s:ByteArray)(a b:Nat)(hs:s.size<=1000):(s.extract a b).size<=1000:=by
 have h:=Lib.size_eq (s.extract a b);rw[Lib.extract_data,List.length_take,List.length_drop,<-Lib.size_eq] at h;omega
theorem jQqm (s:ByteArray)(h:2<=s.size)(wx:World):(Instr.slice 9 (.string s) (some (.int .i64 1)) (some (.int .i64 ((s.size:Int)-1))) none).run Tryz.prog wx=.ok (.string (s.extract 1 (s.size-1))) wx:=by
 have:=run_slice_string (P:=Tryz.prog) (w:=wx) 9 s .i64 .i64 1 ((s.size:Int)-1) Tryz.underlying9 (by omega) (by omega) (by omega)
 rw[this,show((s.size:Int)-1).toNat=s.size-1 from by omega,show(1:Int).toNat=1 from rfl]
theorem jQg7 (s:ByteArray)(w:World)(hs:s.size<=1000) :
  Calls Tryz.prog 137 #[.string s] w fun e w'=>e=.returned (.agg #[.int .i64 (Sq.wordOf s).kind,.string (Sq.wordOf s).text])/\Below w.heap.size w w':=by
 obtain⟨W1,cap,hc1,hc2,hb1,hz1⟩:=jQn5 (w.alloc (.cells #[.int .i64 0,.string ⟨#[]⟩] 198)) s;simp only[World.size_alloc] at hc1 hc2 hz1;have ha:Below w.heap.size w W1:=((Below.refl _ w).alloc (nR) _).trans (hb1.mono (by simp));obtain⟨k1,k2⟩:=bcell hb1;have c0:=k1 w.heap.size 0 (by simp);have c1:=k1 w.heap.size 1 (by simp);have f0:=k2 w.heap.size 0 (by simp);have f1:=k2 w.heap.size 1 (by simp);simp[go_sem] at c0 c1 f0 f1;clear hb1 k1 k2
 have ext:∀w2,Below W1.heap.size W1 w2->w2.cell? ⟨w.heap.size,0,none⟩=some (.int .i64 0)/\w2.cell? ⟨w.heap.size,1,none⟩=some (.string ⟨#[]⟩)/\w2.frozen? ⟨w.heap.size,0,none⟩=false/\w2.frozen? ⟨w.heap.size,1,none⟩=false/\Below w.heap.size w w2:=by
  intro w2 hb;obtain⟨k1,k2⟩:=bcell hb;exact⟨(k1 _ _ (by omega)).trans c0,(k1 _ _ (by omega)).trans c1,(k2 _ _ (by omega)).trans f0,(k2 _ _ (by omega)).trans f1,ha.trans (hb.mono (by omega))⟩
 have EX:Hid _:=ext;clear ext;cases hk:Sq.isKeyword s
 case true =>
  have HE:Hid (Sq.wordOf s=⟨1,s⟩):=by show Sq.wordOf s=_;unfold Sq.wordOf;rw[hk];rfl
  go_enter Tryz.func137,Tryz.ntmps137;go_wp2_with (first | (go_at_call 172;refine(jQA s _ _ (by omega) hs).mono ?_;rintro e w' ⟨rfl,rfl⟩) | (go_at_call 180;refine(jQaj s _).mono ?_;rintro e w' ⟨rfl,rfl⟩;rw[hk]));exact bodyPost_ret (v:=.agg #[.int .i64 1,.string s]) (by simp[results,Tryz.results137,go_sem,c0,c1]) rfl ⟨by rw[HE.o],(ha.setCell (nR) _).setCell (nR) _⟩
 cases hl:Sq.isLetter (Sq.byteAt s 0)
 case true =>
  have HE:Hid (Sq.wordOf s=Sq.bounded 2 s 8):=by show Sq.wordOf s=_;unfold Sq.wordOf;rw[hk,hl];rfl
  go_enter Tryz.func137,Tryz.ntmps137;go_wp2_with (first | (go_at_call 172;refine(jQA s _ _ (by omega) hs).mono ?_;rintro e w' ⟨rfl,rfl⟩;rw[show((0:Int)).toNat=0 from rfl]) | (go_at_call 180;refine(jQaj s _).mono ?_;rintro e w' ⟨rfl,rfl⟩;rw[hk]) | (go_at_call 173;refine(jQC _ _).mono ?_;rintro e w' ⟨rfl,rfl⟩;rw[hl]) | (go_at_call 181;refine(jQdf 2 s 8 _ (by omega) hs).mono ?_;rintro e w2 ⟨rfl,hb2⟩;obtain⟨d0,d1,g0,g1,hbw2⟩:=EX.o w2 hb2;rw[show(8:Int).toNat=8 from rfl]));exact bodyPost_ret (v:=.agg #[.int .i64 (Sq.bounded 2 s 8).kind,.string (Sq.bounded 2 s 8).text]) (by simp[results,Tryz.results137,go_sem,d0,d1]) rfl ⟨by rw[HE.o],(hbw2.setCell (nR) _).setCell (nR) _⟩
 cases hd:Sq.isDigit (Sq.byteAt s 0)
 case true =>
  have HE:Hid (Sq.wordOf s=Sq.bounded 3 s 9):=by show Sq.wordOf s=_;unfold Sq.wordOf;rw[hk,hl,hd];rfl
  go_enter Tryz.func137,Tryz.ntmps137;go_wp2_with (first | (go_at_call 172;refine(jQA s _ _ (by omega) hs).mono ?_;rintro e w' ⟨rfl,rfl⟩;rw[show((0:Int)).toNat=0 from rfl]) | (go_at_call 180;refine(jQaj s _).mono ?_;rintro e w' ⟨rfl,rfl⟩;rw[hk]) | (go_at_call 173;refine(jQC _ _).mono ?_;rintro e w' ⟨rfl,rfl⟩;rw[hl]) | (go_at_call 175;refine(jQR _ _).mono ?_;rintro e w' ⟨rfl,rfl⟩;rw[hd]) | (go_at_call 181;refine(jQdf 3 s 9 _ (by omega) hs).mono ?_;rintro e w2 ⟨rfl,hb2⟩;obtain⟨d0,d1,g0,g1,hbw2⟩:=EX.o w2 hb2;rw[show(9:Int).toNat=9 from rfl]));exact bodyPost_ret (v:=.agg #[.int .i64 (Sq.bounded 3 s 9).kind,.string (Sq.bounded 3 s 9).text]) (by simp[results,Tryz.results137,go_sem,d0,d1]) rfl ⟨by rw[HE.o],(hbw2.setCell (nR) _).setCell (nR) _⟩
 cases hq:Sq.byteAt s 0==39
 case false =>
  have HE:Hid (Sq.wordOf s=⟨1,s⟩):=by show Sq.wordOf s=_;unfold Sq.wordOf;rw[hk,hl,hd,hq];rfl
  go_enter Tryz.func137,Tryz.ntmps137;go_wp2_with (first | (go_at_call 172;refine(jQA s _ _ (by omega) hs).mono ?_;rintro e w' ⟨rfl,rfl⟩;rw[show((0:Int)).toNat=0 from rfl]) | (go_at_call 180;refine(jQaj s _).mono ?_;rintro e w' ⟨rfl,rfl⟩;rw[hk]) | (go_at_call 173;refine(jQC _ _).mono ?_;rintro e w' ⟨rfl,rfl⟩;rw[hl]) | (go_at_call 175;refine(jQR _ _).mono ?_;rintro e w' ⟨rfl,rfl⟩;rw[hd]));exact bodyPost_ret (v:=.agg #[.int .i64 1,.string s]) (by simp[results,Tryz.results137,go_sem,c0,c1]) rfl ⟨by rw[HE.o],(ha.setCell (nR) _).setCell (nR) _⟩
 by_cases hz:2<=s.size
 ·have HE:Hid (Sq.wordOf s=Sq.bounded 4 (s.extract 1 (s.size-1)) 12):=by show Sq.wordOf s=_;unfold Sq.wordOf;rw[hk,hl,hd,hq,decide_eq_true hz];rfl
  have HQ:Hid (Sq.byteAt s 0=39):=eq_of_beq hq;have he:=jQqm s hz;have hc:=jQdt s 1 (s.size-1) hs;have hf:(2:Int)<=(s.size:Int):=by omega
  clear hq hl hd hz;go_enter Tryz.func137,Tryz.ntmps137;go_wp2_with (first | (go_at_call 172;refine(jQA s _ _ (by omega) hs).mono ?_;rintro e w' ⟨rfl,rfl⟩;rw[show((0:Int)).toNat=0 from rfl,HQ.o]) | (go_at_call 180;refine(jQaj s _).mono ?_;rintro e w' ⟨rfl,rfl⟩;rw[hk]) | (go_at_call 173;refine(jQC _ _).mono ?_;rintro e w' ⟨rfl,rfl⟩;rw[show Sq.isLetter 39=false from rfl]) | (go_at_call 175;refine(jQR _ _).mono ?_;rintro e w' ⟨rfl,rfl⟩;rw[show Sq.isDigit 39=false from rfl]) | (go_at_call 181;refine(jQdf 4 (s.extract 1 (s.size-1)) 12 _ (by omega) hc).mono ?_;rintro e w2 ⟨rfl,hb2⟩;obtain⟨d0,d1,g0,g1,hbw2⟩:=EX.o w2 hb2;rw[show(12:Int).toNat=12 from rfl]));exact bodyPost_ret (v:=.agg #[.int .i64 (Sq.bounded 4 (s.extract 1 (s.size-1)) 12).kind,.string (Sq.bounded 4 (s.extract 1 (s.size-1)) 12).text]) (by simp[results,Tryz.results137,go_sem,d0,d1]) rfl ⟨by rw[HE.o],(hbw2.setCell (nR) _).setCell (nR) _⟩
 ·have HE:Hid (Sq.wordOf s=⟨1,s⟩):=by show Sq.wordOf s=_;unfold Sq.wordOf;rw[hk,hl,hd,hq,decide_eq_false hz];rfl
  have HQ:Hid (Sq.byteAt s 0=39):=eq_of_beq hq;have HZ:Hid (decide ((2:Int)<=(s.size:Int))=false):=decide_eq_false (by omega);clear hq hl hd hz;go_enter Tryz.func137,Tryz.ntmps137;go_wp2_with fail;refine(jQA s _ _ (by omega) hs).mono ?_;rintro e w' ⟨rfl,rfl⟩;rw[show((0:Int)).toNat=0 from rfl,HQ.o];go_wp2_with fail;refine(jQaj s _).mono ?_;rintro e w' ⟨rfl,rfl⟩;rw[hk];go_wp2_with fail;refine(jQC _ _).mono ?_;rintro e w' ⟨rfl,rfl⟩;rw[show Sq.isLetter 39=false from rfl];go_wp2_with fail;refine(jQR _ _).mono ?_;rintro e w' ⟨rfl,rfl⟩;rw[show Sq.isDigit 39=false from rfl]
  go_upto_if 25 with fail
  rw[HZ.o];go_wp2;exact bodyPost_ret (v:=.agg #[.int .i64 1,.string s]) (by simp[results,Tryz.results137,go_sem,c0,c1]) rfl ⟨by rw[HE.o],(ha.setCell (nR) _).setCell (nR) _⟩
end
section
open Go.RowKit
theorem jQh {w w':World}{base:Nat}{e:TypeId}{size:Nat}{v:Value}{n:Nat}{xs:List Value}(h:w.ownsRow base e size v n xs)(hb:Below w.heap.size w w'):w'.ownsRow base e size v n xs:=by
 refine⟨h.1,?_⟩;rcases h.2 with h2 | ⟨g,cap,cur,hv,hg,hh,r⟩
 ·exact Or.inl h2
 ·exact Or.inr ⟨g,cap,cur,hv,hg,by rw[hb.block g (Array.getElem?_eq_some_iff.1 hh).1];exact hh,r⟩
theorem jQL (w:World)(c:Array Value)(e:TypeId)(l:List Value)(hl:c.toList=l){b:Nat}(hb:b=w.heap.size):∀j u,l[j]?=some u->(w.alloc (.cells c e)).cell? ((⟨b,0,none⟩:Addr).add j)=some u:=by
 intro j u hu;subst hb;have e1:(⟨w.heap.size,0,none⟩:Addr).add j=⟨w.heap.size,j,none⟩:=by unfold Addr.add;split<;>simp_all
 rw[e1];subst hl;simpa using hu
theorem Tryz.infoWord:(Tryz.prog.info? 198).map (fun i=>(i.zero,i.size,i.bytes))=some (some (.agg #[.int .i64 0,.string ⟨#[]⟩]),2,24):=by kernel_rfl
theorem jQpO (s:ByteArray)(w:World)(hs:s.size<=1000) :
  Calls Tryz.prog 100 #[.string s] w fun e w'=>Below w.heap.size w w' /\
   (
    (Sq.split s=none/\e=.returned (.tuple #[.slice none 0 0,.bool false])) \/
    (∃ws v,Sq.split s=some ws/\e=.returned (.tuple #[v,.bool true])/\ws.length<=1000/\w'.ownsRow w.heap.size 198 2 v ws.length (Sq.wcells ws))):=by
 obtain⟨i0,hi,hz0,hz1,hz2⟩:=info_parts Tryz.infoWord;go_enter Tryz.func100,Tryz.ntmps100;go_wp2
 go_loopw [4,5] (fun v i wr=>∃(k f:Nat) (ws:List Sq.Word),k<=s.size/\s.size<k+f/\i=.int .i64 k/\wr.ownsRow w.heap.size 198 2 v ws.length (Sq.wcells ws)/\Below w.heap.size w wr/\ws.length<=k/\Hid (Sq.split s=(Sq.splitFrom s f k).map (ws++·))) (fun _ i _=>s.size-(intOf i).toNat)
 case atStart=>exact⟨0,s.size+1,[],zR,by omega,rfl,World.ownsRow_nil _ _ _ _,bR,nR,by show _=_;simp[Sq.split]⟩
 case round =>
  obtain⟨k,f,ws,hk,hf,rfl,hown,hbel,hwl,hsp⟩:=hrel;have hb:=hbel.size
  by_cases hlt:k<s.size
  ·obtain⟨f,rfl⟩:∃g,f=g+1:=⟨f-1,by omega⟩;have eb:=Sq.jQkx s k hlt;cases hg:Sq.isGap (Sq.byteAt s k)
   ·have ha:Sq.isGap ((s[k]).toNat:Int)=false:=by rw[<-eb];exact hg
    by_cases he:Sq.endOf s k<=k\/s.size<Sq.endOf s k
    ·have hn:=Sq.jQoS s f k hlt hg he;have HN:Hid _:=hn;clear hn hg eb;rcases he with he | he
     ·go_wp2_with (first | (go_at_call 135;refine(jQcL _ _).mono ?_;rintro e w' ⟨rfl,rfl⟩;rw[ha]) | (go_at_call 136;refine(jQdU s k _ (by omega) (by omega) hs).mono ?_;rintro e w' ⟨rfl,rfl⟩;simp only[Int.toNat_natCast]));go_ret2;refine⟨hbel,Or.inl ⟨?_,rfl⟩⟩;rw[hsp.o,HN.o];rfl
     ·go_wp2_with (first | (go_at_call 135;refine(jQcL _ _).mono ?_;rintro e w' ⟨rfl,rfl⟩;rw[ha]) | (go_at_call 136;refine(jQdU s k _ (by omega) (by omega) hs).mono ?_;rintro e w' ⟨rfl,rfl⟩;simp only[Int.toNat_natCast]));go_ret2;refine⟨hbel,Or.inl ⟨?_,rfl⟩⟩;rw[hsp.o,HN.o];rfl
    ·have hl:k<Sq.endOf s k:=by omega
     have hh:Sq.endOf s k<=s.size:=by omega
     have hc:=jQdt s k (Sq.endOf s k) hs;have HS:Hid (¬(Sq.endOf s k<=k\/s.size<Sq.endOf s k)):=he;clear he;obtain⟨x,hx⟩:∃x,x=Sq.wordOf (s.extract k (Sq.endOf s k)):=⟨_,rfl⟩;cases hkd:x.kind==0
     ·have hn:=Sq.jQmf s f k hlt hg HS.o (by rw[<-hx];exact ne_of_beq_false hkd);rw[<-hx] at hn;have HN:Hid _:=hn;have HX:Hid _:=hx;clear hn hg eb hx;go_wp2_with (first | (go_at_call 135;refine(jQcL _ _).mono ?_;rintro e w' ⟨rfl,rfl⟩;rw[ha]) | (go_at_call 136;refine(jQdU s k _ (by omega) (by omega) hs).mono ?_;rintro e w' ⟨rfl,rfl⟩;simp only[Int.toNat_natCast]) | (go_at_call 137;refine(jQg7 (s.extract k (Sq.endOf s k)) _ hc).mono ?_;rintro e w1 ⟨rfl,hb1⟩;rw[<-HX.o]) | (at_builtin;refine wpList_append_own _ rfl (.tmp 38) (.tmp 40) 156 rfl w.heap.size 198 i0 (.agg #[.int .i64 0,.string ⟨#[]⟩]) 2 24 Tryz.underlying156 hi hz0 hz1 hz2 rfl (by decide) _ _ _ rfl (((jQh hown hb1).alloc _).alloc _) ⟨w1.heap.size+1,0,none⟩ 1 1 [.int .i64 x.kind,.string x.text] rfl rfl ?c1 ?c2 ?c3 ?c4 ?c5 ?_))
      case c1=>exact jQL (w1.alloc (Obj.cells #[Value.int IntKind.i64 x.kind,Value.string x.text] 198)) _ _ _ rfl (by simp)
      case c2=>intro u hu;simp at hu;rcases hu with rfl | rfl<;>rfl
      case c3=>unfold maxLen;omega
      case c4=>omega
      case c5=>have:=hb1.size;simp;omega
      ·intro v' w2 hown2 hgrow _;have hj:Below w.heap.size w w2:=(((hbel.trans (hb1.mono hb)).alloc (by have:=hb1.size;omega) _).alloc (by have:=hb1.size;simp;omega) _).grown hgrow (by have:=hb1.size;simp;omega) (fun g hg=>(hown.lt g hg).1);clear hgrow hbel hb1 hown;go_wp2;go_roundw
       case rel=>exact⟨Sq.endOf s k,f,ws++[x],hh,by omega,rfl,by rw[Sq.jQkG];simpa using hown2,hj,by simp;omega,by show _=_;rw[hsp.o,HN.o];simp[Option.map_map,Function.comp_def]⟩
       case measure=>simp[intOf];omega
     ·have hn:=Sq.jQmh s f k hlt hg HS.o (by rw[<-hx];exact eq_of_beq hkd);have HN:Hid _:=hn;have HX:Hid _:=hx;clear hn hg eb hx;go_wp2_with (first | (go_at_call 135;refine(jQcL _ _).mono ?_;rintro e w' ⟨rfl,rfl⟩;rw[ha]) | (go_at_call 136;refine(jQdU s k _ (by omega) (by omega) hs).mono ?_;rintro e w' ⟨rfl,rfl⟩;simp only[Int.toNat_natCast]) | (go_at_call 137;refine(jQg7 (s.extract k (Sq.endOf s k)) _ hc).mono ?_;rintro e w1 ⟨rfl,hb1⟩;rw[<-HX.o]));go_ret2;refine⟨(hbel.trans (hb1.mono hb)).alloc (by have:=hb1.size;omega) _,Or.inl ⟨?_,rfl⟩⟩;rw[hsp.o,HN.o];rfl
   ·have ha:Sq.isGap ((s[k]).toNat:Int)=true:=by rw[<-eb];exact hg
    have hn:=Sq.jQoQ s f k hlt hg;have HN:Hid _:=hn;clear hn hg eb;go_wp2_with (first | (go_at_call 135;refine(jQcL _ _).mono ?_;rintro e w' ⟨rfl,rfl⟩;rw[ha]));go_roundw
    case rel=>exact⟨k+1,f,ws,by omega,by omega,by go_num,hown,hbel,by omega,by show _=_;rw[hsp.o,HN.o]⟩
    case measure=>simp[intOf];omega
  ·have hn:=Sq.jQoR s f k (by omega);have HN:Hid _:=hn;clear hn;go_wp2;go_ret2;refine⟨hbel,Or.inr ⟨ws,_,?_,rfl,by omega,hown⟩⟩;rw[hsp.o,HN.o];simp
end
namespace Sq
structure Col where
 name:ByteArray
 kind:Int
structure Val where
 kind:Int
 number:Int
 text:ByteArray
structure Term where
 column:ByteArray
 lit:Val
structure SetS where
 column:ByteArray
 first:Term
 sign:ByteArray
 second:Term
structure StepS where
 op:ByteArray
 left:Term
 right:Term
def nobytes:ByteArray:=⟨#[]⟩
def val0:Val:=⟨0,0,nobytes⟩
def term0:Term:=⟨nobytes,val0⟩
def Col.cells (c:Col):List Value:=[.string c.name,.int .i64 c.kind]
def Val.cells (v:Val):List Value:=[.int .i64 v.kind,.int .i64 v.number,.string v.text]
def Term.cells (t:Term):List Value:=[.string t.column,.int .i64 t.lit.kind,.int .i64 t.lit.number,.string t.lit.text]
def SetS.cells (s:SetS):List Value:=[.string s.column,.string s.first.column,.int .i64 s.first.lit.kind,.int .i64 s.first.lit.number,.string s.first.lit.text,.string s.sign,.string s.second.column,.int .i64 s.second.lit.kind,.int .i64 s.second.lit.number,.string s.second.lit.text]
def StepS.cells (s:StepS):List Value:=[.string s.op,.string s.left.column,.int .i64 s.left.lit.kind,.int .i64 s.left.lit.number,.string s.left.lit.text,.string s.right.column,.int .i64 s.right.lit.kind,.int .i64 s.right.lit.number,.string s.right.lit.text]
structure PSt where
 pos:Nat
 bad:Bool
 act:Int
 table:ByteArray
 cols:List Col
 vals:List Val
 sets:List SetS
 shw:Int
 items:List ByteArray
 wher:List StepS
def word0:Word:=⟨0,nobytes⟩
def nextW (ws:List Word)(st:PSt):Word:=if st.bad then word0 else(ws[st.pos]?).getD word0
def fail (st:PSt):PSt:={ st with bad:=true }
def step1 (st:PSt):PSt:={ st with pos:=st.pos+1 }
def takeS (ws:List Word)(st:PSt):PSt:=if(nextW ws st).kind==0 then fail st else step1 st
def acceptB (ws:List Word)(st:PSt)(m:ByteArray):Bool:=(nextW ws st).kind==1&&(nextW ws st).text.toList==m.toList
def acceptS (ws:List Word)(st:PSt)(m:ByteArray):PSt:=if acceptB ws st m then step1 st else st
def wantS (ws:List Word)(st:PSt)(m:ByteArray):PSt:=if acceptB ws st m then step1 st else fail st
def nameS (ws:List Word)(st:PSt):PSt:=if(nextW ws st).kind==2 then takeS ws st else fail (takeS ws st)
def nameR (ws:List Word)(st:PSt):ByteArray:=if(nextW ws st).kind==2 then(nextW ws st).text else nobytes
def markR (ws:List Word)(st:PSt):ByteArray:=if(nextW ws st).kind==1 then(nextW ws st).text else nobytes
theorem jQj2 (ws:List Word)(st:PSt)(h:st.bad=true):nextW ws st=word0:=by simp[nextW,h]
theorem jQj1 (ws:List Word)(st:PSt)(h:ws.length<=st.pos):nextW ws st=word0:=by
 unfold nextW;split
 ·rfl
 ·rw[List.getElem?_eq_none h];rfl
theorem jQna (ws:List Word)(st:PSt)(hb:st.bad=false)(h:st.pos<ws.length):nextW ws st=ws[st.pos]:=by
 unfold nextW;rw[hb,List.getElem?_eq_getElem h];rfl
theorem jQcG (ws:List Word)(st:PSt)(h:(nextW ws st).kind≠0):st.pos<ws.length:=by
 rcases Nat.lt_or_ge st.pos ws.length with h1 | h1
 ·exact h1
 ·rw[jQj1 ws st h1] at h;exact absurd rfl h
theorem jQjq (ws:List Word)(k:Nat)(h:k<ws.length):(wcells ws)[k*2]?=some (.int .i64 (ws[k]).kind)/\(wcells ws)[k*2+1]?=some (.string (ws[k]).text):=by
 induction ws generalizing k with
 | nil=>simp at h
 | cons x r ih =>
  cases k with
  | zero=>simp[wcells,Word.cells]
  | succ k =>
   have h':k<r.length:=by simpa using h
   have:=ih k h'
   simp only[wcells,List.flatMap_cons,Word.cells] at this ⊢;rw[show(k+1)*2=k*2+2 from by omega,show k*2+2+1=k*2+1+2 from by omega];simpa using this
theorem jQbp (k:Int)(t:ByteArray)(m:Nat):(bounded k t m).text.size<=m:=by
 unfold bounded;split
 ·assumption
 ·exact zR
theorem jQX (k:Int)(t:ByteArray)(m:Nat):(bounded k t m).kind=k\/(bounded k t m).kind=0:=by
 unfold bounded;split<;>simp
theorem jQox (s:ByteArray)(h:(wordOf s).kind=3):(wordOf s).text.size<=9:=by
 unfold wordOf at h ⊢
 split
 ·rename_i h1;rw[if_pos h1] at h;simp at h
 ·rename_i h1;rw[if_neg h1] at h
  split
  ·rename_i h2;rw[if_pos h2] at h;rcases jQX 2 s 8 with h3 | h3<;>rw[h3] at h<;>simp at h
  ·rename_i h2;rw[if_neg h2] at h
   split
   ·exact jQbp 3 s 9
   ·rename_i h3;rw[if_neg h3] at h
    split
    ·rename_i h4;rw[if_pos h4] at h;rcases jQX 4 (s.extract 1 (s.size-1)) 12 with h5 | h5<;>rw[h5] at h<;>simp at h
    ·rename_i h4;rw[if_neg h4] at h;simp at h
theorem jQiC (s:ByteArray):∀f a ws,splitFrom s f a=some ws->∀x∈ws,x.kind=3->x.text.size<=9:=by
 intro f
 induction f with
 | zero=>intro a ws h x hx;simp[splitFrom] at h;subst h;simp at hx
 | succ f ih =>
  intro a ws h x hx;rw[splitFrom] at h
  split at h
  ·split at h
   ·exact ih _ _ h x hx
   ·split at h
    ·simp at h
    ·split at h
     ·simp at h
     ·cases h2:splitFrom s f (endOf s a) with
      | none=>rw[h2] at h;simp at h
      | some l =>
       rw[h2] at h;simp at h;subst h;rcases List.mem_cons.1 hx with rfl | hx
       ·exact jQox _
       ·exact ih _ _ h2 x hx
  ·simp at h;subst h;simp at hx
theorem jQql (s:ByteArray)(ws:List Word)(h:split s=some ws):∀x∈ws,x.kind=3->x.text.size<=9:=jQiC s _ _ ws h
theorem jQqF (ws:List Word)(st:PSt)(h:∀x∈ws,x.kind=3->x.text.size<=9)(hk:(nextW ws st).kind=3):(nextW ws st).text.size<=9:=by
 have hp:=jQcG ws st (by rw[hk];decide);cases hb:st.bad with
 | true=>rw[jQj2 ws st hb] at hk;simp[word0] at hk
 | false=>rw[jQna ws st hb hp] at hk ⊢;exact h _ (List.getElem_mem hp) hk
def dv (c:UInt8):Int:=((c.toNat:Int)-48) % 256
def numL (l:List UInt8):Int:=l.foldl (fun n c=>n*10+dv c) 0
def num (t:ByteArray):Int:=numL t.data.toList
theorem jQo9 (l:List UInt8)(c:UInt8):numL (l++[c])=numL l*10+dv c:=by simp[numL]
theorem jQm2 (l:List UInt8):∀a:Int,0<=a->0<=l.foldl (fun n c=>n*10+dv c) a/\l.foldl (fun n c=>n*10+dv c) a+29<=(a+29)*((10^l.length:Nat):Int):=by
 induction l with
 | nil=>intro a h;simp;omega
 | cons c r ih =>
  intro a h;have hd:0<=dv c/\dv c<=255:=by unfold dv;omega
  obtain⟨i1,i2⟩:=ih (a*10+dv c) (by omega);rw[List.foldl_cons,List.length_cons,Nat.pow_succ];refine⟨i1,?_⟩;have h1:(0:Int)<=((10^r.length:Nat):Int):=Int.natCast_nonneg _;have h2:(a*10+dv c+29)*((10^r.length:Nat):Int)<=((a+29)*10)*((10^r.length:Nat):Int):=Int.mul_le_mul_of_nonneg_right (by omega) h1
  have h3:(a+29)*((10^r.length*10:Nat):Int)=((a+29)*10)*((10^r.length:Nat):Int):=by
   rw[Int.natCast_mul,Int.mul_assoc,Int.mul_comm ((10^r.length:Nat):Int)];rfl
  rw[h3];omega
theorem jQhL (l:List UInt8)(h:l.length<=9):0<=numL l/\numL l<=29000000000:=by
 have h1:=jQm2 l 0 (by omega);have h2:(10:Nat)^l.length<=10^9:=Nat.pow_le_pow_right (by decide) h;have h3:(10:Nat)^9=1000000000:=by decide
 refine⟨h1.1,?_⟩;have h4:=h1.2;unfold numL;omega
theorem jQo8 (t:ByteArray)(h:t.size<=9):0<=num t/\num t<=29000000000:=jQhL _ (by simpa using h)
def bMinus:ByteArray:=⟨#[45]⟩
def litR (ws:List Word)(st:PSt):Val :=
 if(nextW ws (acceptS ws st bMinus)).kind==3 then
  (if acceptB ws st bMinus then⟨0,-num (nextW ws (acceptS ws st bMinus)).text,nobytes⟩ else⟨0,num (nextW ws (acceptS ws st bMinus)).text,nobytes⟩)
 else if(nextW ws (acceptS ws st bMinus)).kind==4 && !acceptB ws st bMinus then⟨1,0,(nextW ws (acceptS ws st bMinus)).text⟩
 else val0
def litS (ws:List Word)(st:PSt):PSt :=
 if(nextW ws (acceptS ws st bMinus)).kind==3 then takeS ws (acceptS ws st bMinus)
 else if(nextW ws (acceptS ws st bMinus)).kind==4 && !acceptB ws st bMinus then takeS ws (acceptS ws st bMinus)
 else fail (takeS ws (acceptS ws st bMinus))
def termR (ws:List Word)(st:PSt):Term:=if(nextW ws st).kind==2 then⟨(nextW ws st).text,val0⟩ else⟨nobytes,litR ws st⟩
def termS (ws:List Word)(st:PSt):PSt:=if(nextW ws st).kind==2 then step1 st else litS ws st
end Sq
end Go.Proofs.YtahpihjialbanaaGreatDoor
