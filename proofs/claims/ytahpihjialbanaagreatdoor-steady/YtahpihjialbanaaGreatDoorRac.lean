import Derived.ArgAppend
import Derived.BigQuiet
import Derived.BigRegion
import Derived.Carry
import Derived.ChangeSame
import Derived.ChangeVars
import Derived.Deep.AppendLies
import Derived.Deep.Cut
import Derived.Deep.CutRange
import Derived.Deep.LoopGhost
import Derived.Deep.QuietTactic
import Derived.Deep.RegionHeld3
import Derived.Deep.RegionLaw
import Derived.Deep.WholeRow
import Derived.JoinedOf
import Derived.LaidHandle
import Derived.LaidLaws
import Derived.LaidMore
import Derived.Laws.AppendOwnNone
import Derived.Laws.BitsAllLaws
import Derived.Laws.CopyOwn
import Derived.Laws.Rows
import Derived.Lib.AppendIntMem
import Derived.Lib.AppendStr
import Derived.Lib.AtoiErrMem
import Derived.Lib.ConvBytes
import Derived.Lib.ItoaLen
import Derived.Lib.ItoaNum
import Derived.Lib.LaidTab
import Derived.Lib.Strings
import Derived.OpenShut
import Derived.ProofKit
import Derived.RowKit
import Derived.RowKitTokens
import Derived.SevenTiedAt
import Derived.Shelf.LaysM
import Derived.Shelf.Strconv.Itoa0
import Derived.Shelf.Strconv.Itoa1
import Derived.Shelf.Strconv.Itoa2
import Derived.Shelf.Strconv.Itoa3
import Derived.Shelf.Strconv.Itoa4
import Derived.SizedLaws
import Derived.SliceStrings
import Derived.Stop.Joined
import Derived.Stop.LaidErr
import Derived.Test.YtahpihjialbanaaGreatDoorCards
import Derived.Test.YtahpihjialbanaaGreatDoorProg
import Derived.Test.YtahpihjialbanaaGreatDoorRows
import Derived.Test.YtahpihjialbanaaGreatDoorTie
import Derived.WalkKit
import Derived.WalkLawsBesides
import Derived.WalkSpells
import Derived.Test.YtahpihjialbanaaGreatDoorRaa
set_option linter.unusedVariables false
set_option linter.unusedSimpArgs false
set_option maxRecDepth 100000
set_option maxHeartbeats 4000000
namespace Go.Proofs.YtahpihjialbanaaGreatDoor
namespace Sq
theorem word_first (s:ByteArray)(h:(wordOf s).kind=1):(wordOf s).text=s:=by
 unfold wordOf at h ⊢
 split
 ·rfl
 ·rename_i h1
  rw[if_neg h1] at h
  split
  ·rename_i h2
   rw[if_pos h2] at h
   rcases jQV 2 s 8 with h3 | h3 <;> rw[h3] at h <;> simp at h
  ·rename_i h2
   rw[if_neg h2] at h
   split
   ·rename_i h3
    rw[if_pos h3] at h
    rcases jQV 3 s 9 with h4 | h4 <;> rw[h4] at h <;> simp at h
   ·rename_i h3
    rw[if_neg h3] at h
    split
    ·rename_i h4
     rw[if_pos h4] at h
     rcases jQV 4 (s.extract 1 (s.size - 1)) 12 with h5 | h5 <;> rw[h5] at h <;> simp at h
    ·rfl
theorem first_byte {s:ByteArray}{l:List UInt8}{c:UInt8}(h:s.toList=c :: l):byteAt s 0=c.toNat:=by
 unfold byteAt
 have:s.data.toList=s.toList:=(ba_toList s).symm
 rw[this,h]
 rfl
theorem split_first {s:ByteArray}{ws:List Word}(hs:0 < s.size)(hg:isGap (byteAt s 0)=false)(h:split s=some ws):∃r,ws=wordOf (s.extract 0 (endOf s 0)) :: r∧0 < endOf s 0∧endOf s 0≤s.size:=by
 unfold split at h
 rw[splitFrom,if_pos hs,if_neg (by rw[hg];simp)] at h
 split at h
 ·cases h
 ·rename_i h1
  split at h
  ·cases h
  ·cases h2:splitFrom s s.size (endOf s 0) with
   | none=>rw[h2] at h;cases h
   | some r =>
    rw[h2] at h
    simp at h
    exact⟨r,h.symm,by omega,by omega⟩
theorem parse_asks (sql:ByteArray)(h6:0 < sql.size)(hs:byteAt sql 0=115):(parse sql).1≠0∨(parse sql).2.act=5:=by
 unfold parse
 split
 ·left;simp
 ·cases h:split sql with
  | none=>left;simp
  | some ws =>
   simp only
   split
   ·left;simp
   ·rename_i hb
    right
    obtain⟨r,rfl,he0,he1⟩:=split_first h6 (by rw[hs];rfl) h
    have hmark:∀(c:UInt8) (l:List UInt8) (b:ByteArray),b.toList=c :: l→c≠115→((markR (wordOf (sql.extract 0 (endOf sql 0)) :: r) st0).toList==b.toList)=false:=by
     intro c l b hbl hc
     cases hq:((markR (wordOf (sql.extract 0 (endOf sql 0)) :: r) st0).toList==b.toList) with
     | false=>rfl
     | true =>
      exfalso
      have hq:=eq_of_beq hq
      rw[hbl] at hq
      have hn:nextW (wordOf (sql.extract 0 (endOf sql 0)) :: r) st0=wordOf (sql.extract 0 (endOf sql 0)):=rfl
      unfold markR at hq
      rw[hn] at hq
      split at hq
      ·rename_i hk
       rw[word_first _ (by simpa using hk)] at hq
       have h1:=first_byte hq
       rw[jQfl sql 0 _ he0 he1,hs] at h1
       exact hc (UInt8.toNat_inj.1 (by show c.toNat=115;omega))
      ·rw[ba_toList] at hq;cases hq
    have hst:statementS (wordOf (sql.extract 0 (endOf sql 0)) :: r) st0=chooseS (wordOf (sql.extract 0 (endOf sql 0)) :: r) (takeS (wordOf (sql.extract 0 (endOf sql 0)) :: r) st0)∨(statementS (wordOf (sql.extract 0 (endOf sql 0)) :: r) st0).bad=true:=by
     unfold statementS
     rw[hmark 99 [114,101,97,116,101] bCreate (ba_toList _) (by decide),hmark 105 [110,115,101,114,116] bInsert (ba_toList _) (by decide),hmark 117 [112,100,97,116,101] bUpdate (ba_toList _) (by decide),hmark 100 [101,108,101,116,101] bDelete (ba_toList _) (by decide)]
     simp only[Bool.false_eq_true,if_false]
     split
     ·left;rfl
     ·right;rfl
    rcases hst with h1 | h1
    ·rw[h1];exact jQla _ _
    ·rw[h1] at hb;simp at hb
end Sq
namespace Sq
theorem headN_num:∀(n:Nat) (t:Nd n) (k:Int),headN n (numN n t k).1={ headN n t with num:=k }
 | 0,_,_=>rfl
 | _+1,_,_=>rfl
theorem numbL_zip {n:Nat}(H:ByteArray→ByteArray)(hd:∀(c:Nd n) (k:Int),digN H n (numN n c k).1=digN H n c):∀(l:List (Nd n)) (k:Int),(numbL (numN n) l k).1.length=l.length∧(((numbL (numN n) l k).1.zip ((numbL (numN n) l k).1.map (digN H n))).map fun x=>kidBytes (headN n x.1) x.2)=((l.zip (l.map (digN H n))).map fun x=>kidBytes (headN n x.1) x.2)
 | [],_=>⟨rfl,rfl⟩
 | c :: r,k=>by
  have h:=numbL_zip H hd r (numN n c k).2
  rw[numbL]
  refine⟨by simp[h.1],?_⟩
  simp only[List.map_cons,List.zip_cons_cons]
  rw[h.2,hd c k,headN_num]
  rfl
theorem dig_num (H:ByteArray→ByteArray):∀(n:Nat) (t:Nd n) (k:Int),digN H n (numN n t k).1=digN H n t
 | 0,t,k=>by
  have hk:NodeF.kids t=[]:=by
   cases hq:NodeF.kids t with
   | nil=>rfl
   | cons c _=>exact c.elim
  show digF H _ _ (numF _ t k).1=digF H _ _ t
  unfold digF numF bytesF writtenF sizeF
  simp only[hk,numbL]
  rfl
 | n+1,t,k=>by
  have h:=numbL_zip H (fun c k=>dig_num H n c k) (NodeF.kids t) (k+1)
  show digF H _ _ (numF _ t k).1=digF H _ _ t
  unfold digF numF bytesF writtenF sizeF
  simp only[h.1,h.2]
  rfl
def idleR (o:OutR):Prop:=o.makes=false∧o.puts=[]∧o.cuts=[]
theorem idle_refusedR (e:Int):idleR (refusedR e):=⟨rfl,rfl,rfl⟩
theorem idle_apply {o:OutR}(h:idleR o)(x:NTree×Trl):applyR o x=x:=by
 unfold applyR madeR
 rw[h.1,h.2.1,h.2.2]
 rfl
theorem decideR_kind (X:NTree)(sql:ByteArray)(tr:Trl):idleR (decideR X sql tr).1∨∃n:Nat,(decideR X sql tr).1.reply=counted n:=by
 unfold decideR
 split
 ·exact Or.inl (idle_refusedR _)
 ·unfold decideStR
  split
  ·unfold createR
   repeat (first | exact Or.inl (idle_refusedR _) | exact Or.inr ⟨0,rfl⟩ | split)
  ·split
   ·unfold decideTabR
    split
    ·exact Or.inl (idle_refusedR _)
    ·split
     ·unfold insertR insertO
      simp only
      repeat (first | exact Or.inl (idle_refusedR _) | exact Or.inr ⟨1,rfl⟩ | split)
     ·unfold askedR
      simp only
      split
      ·unfold updateR
       generalize updateFrom _ _ _ _=u
       cases u with
       | some puts=>exact Or.inr ⟨_,rfl⟩
       | none=>exact Or.inl (idle_refusedR _)
      ·split
       ·exact Or.inr ⟨_,rfl⟩
       ·exact Or.inl ⟨rfl,rfl,rfl⟩
   ·exact Or.inl (idle_refusedR _)
theorem dec_head (u:Nat):(Lib.decDigits u).head?≠some 33∧Lib.decDigits u≠[]:=by
 induction u using Nat.strongRecOn with
 | ind u ih =>
  rw[Lib.decDigits]
  split
  ·rename_i h
   refine⟨?_,by simp⟩
   intro e
   simp at e
   have:=congrArg UInt8.toNat e
   simp at this
   omega
  ·rename_i h
   have h1:=ih (u / 10) (by omega)
   cases hd:Lib.decDigits (u / 10) with
   | nil=>exact absurd hd h1.2
   | cons a r=>rw[hd] at h1;exact⟨h1.1,by simp⟩
theorem bang_counted (n:Nat):bang (counted n)=false:=by
 have h:=dec_head n
 have e:(counted (n:Int)).data.toList=Lib.decDigits n++[59]:=by
  show(itoa n++bSemi).data.toList=_
  rw[ByteArray.data_append,Array.toList_append]
  show Lib.itoa (n:Int)++_=_
  unfold Lib.itoa
  rw[if_neg (by omega),Int.toNat_natCast]
  rfl
 unfold bang
 rw[e]
 cases hd:Lib.decDigits n with
 | nil=>exact absurd hd h.2
 | cons a r=>rw[hd] at h;simpa using h.1
theorem idle_next {X:NTree}{sql:ByteArray}(h:idleR (decideR X.numbered sql ⟨false,[]⟩).1)(wide:Nat):digOf wide (nextOf X sql)=digOf wide X:=by
 unfold nextOf runR
 simp only
 rw[idle_apply h]
 exact dig_num (HS wide) X.d X.t 1
theorem still_refused (X:NTree)(sql:ByteArray)(wide:Nat)(h:bang (repOf X sql)=true):digOf wide (nextOf X sql)=digOf wide X:=by
 rcases decideR_kind X.numbered sql ⟨false,[]⟩ with h1 | ⟨n,h1⟩
 ·exact idle_next h1 wide
 ·have e:repOf X sql=counted n:=h1
  rw[e,bang_counted] at h
  cases h
theorem still_asks (X:NTree)(sql:ByteArray)(wide:Nat)(h0:0 < sql.size)(h1:byteAt sql 0=115):digOf wide (nextOf X sql)=digOf wide X:=by
 apply idle_next
 have hp:=parse_asks sql h0 h1
 unfold decideR
 split
 ·exact idle_refusedR _
 ·rename_i h2
  rcases hp with hp | hp
  ·exact absurd (by simpa using hp) h2
  ·unfold decideStR
   rw[hp]
   split
   ·rename_i h3;simp at h3
   ·split
    ·unfold decideTabR
     rw[hp]
     split
     ·exact idle_refusedR _
     ·refine⟨?_,?_,?_⟩ <;> (unfold askedR;rw[hp];rfl)
    ·exact idle_refusedR _
theorem runX_snoc:∀(l:List ByteArray) (X:NTree) (j:Nat) (h:j < l.length),runX X (l.take (j+1))=nextOf (runX X (l.take j)) l[j]
 | s :: r,X,0,_=>rfl
 | s :: r,X,j+1,h=>by
  rw[List.take_succ_cons,runX,runX_snoc r (nextOf X s) j (by simpa using h)]
  rfl
theorem rep_size {X:NTree}(h:goodX X)(sql:ByteArray):(repOf X sql).size≤100000000:=by
 obtain⟨db,h⟩:=h
 rw[(h.next sql).2]
 exact jQX h.good.g sql
theorem goodX.prf {X:NTree}(h:goodX X){wide:Nat}(hw:wide≤32)(sql:ByteArray):(prfOf wide X sql).size≤6000:=by
 obtain⟨db,h⟩:=h
 obtain⟨x,g1,g2,g3⟩:=h.st.numbered.fine h.good
 unfold prfOf
 obtain⟨n,t,y,e1,rfl,hr⟩:=g1.cases
 rw[e1]
 exact jQmk (jQn1 hw) hw _ n t y hr g3 g2.two
end Sq
section
open Go.RowKit
theorem Sq.extract_first (s:ByteArray)(h:6 < s.size)(c:UInt8)(l:List UInt8)(ht:(s.extract 0 6).toList=c :: l):Sq.byteAt s 0=c.toNat:=by
 unfold Sq.byteAt
 have h2:(s.extract 0 6).data.toList=s.data.toList.take 6:=by simp
 rw[Sq.ba_toList,h2] at ht
 cases hs:s.data.toList with
 | nil=>rw[hs] at ht;simp at ht
 | cons a r=>rw[hs] at ht;simp at ht;simp[ht.1]
def AsksPost (s:ByteArray)(w:World)(e:Ending)(w':World):Prop:=∃b:Bool,e=.returned (.bool b)∧(b=true→0 < s.size∧Sq.byteAt s 0=115)∧w'=w
theorem asks_any (s:ByteArray)(w:World)(hs:s.size≤1000000000) :
  Calls Tryz.prog 36 #[.string s] w (AsksPost s w):=by
 by_cases hk:6 < s.size
 ·have HX:Hid (∀c l,(s.extract 0 6).toList=c :: l→Sq.byteAt s 0=c.toNat):=fun c l=>Sq.extract_first s hk c l
  go_enter Tryz.func36,Tryz.ntmps36
  go_wp2
  go_ret
  refine⟨_,rfl,fun hb=>⟨by omega,?_⟩,rfl⟩
  exact HX.out 115 [101,108,101,99,116] (by simpa using hb)
 ·go_enter Tryz.func36,Tryz.ntmps36
  go_wp2
  go_ret
  exact⟨_,rfl,fun hb=>(by cases hb),rfl⟩
end
section
open Go.RowKit
structure WorldX (B:Nat)(w:World)(wb sb wide:Nat)(x:Sq.NTree):Prop where
 blk:w.heap[wb]?=some (.cells #[.pointer (some ⟨sb,0,none⟩),.int .i64 wide] 43)
 srv:SrvAt sb w wide x
 le:B≤sb
theorem worldX_any (c:Int)(k:Nat)(hk:Sq.pick c 32=k)(h0:-9223372036854775808≤c)(h1:c≤9223372036854775807)(l:List ByteArray)(v:Value)(w:World)(h:Strs w v l)(hT:Tbl w)(hR:Rnd w) :
  Calls Tryz.prog 18 #[.int .i64 c,v] w fun e w' =>
   (Sq.tooMuch l=true∧e=.returned (.pointer none)∧w'=w)∨(∃wb sb,Sq.tooMuch l=false∧e=.returned (.pointer (some ⟨wb,0,none⟩))∧WorldX w.heap.size w' wb sb (k+1) (Sq.runX Sq.ntree0 l)∧Below w.heap.size w w'):=by
 have hpk:=Sq.jQjA c 32 (by decide)
 have hk32:k < 32:=by omega
 have HK:=hd hk
 have HS0:=hd h
 obtain⟨a,cap,rfl,hl,hsz,hat⟩:=h
 have HAT:=hd hat
 have HSZ:=hd hsz
 have HT:=hd hT
 have HR0:=hd hR
 have hnew:∀w:World,Calls Tryz.prog 14 #[.int .i64 ((k:Int)+1)] w fun e w'=>e=.returned (.tuple #[.pointer (some ⟨w.heap.size,0,none⟩),.int .i64 0])∧SrvAt w.heap.size w' (k+1) Sq.ntree0∧Below w.heap.size w w':=fun w=>(jQnZ (k+1) w (by omega) (by omega)).mono fun e w' hh=>⟨hh.1,by rw[hh.2];exact SrvAt.new _ _,by rw[hh.2];exact(Below.refl _ _).alloc (Nat.le_refl _) _⟩
 have HNEW:=hd hnew
 clear hat hsz hT hR hnew hpk hk
 by_cases hbig:1048576 < l.length
 ·have HE:Hid (Sq.tooMuch l=true):=by show _=_;unfold Sq.tooMuch;simp[hbig]
  go_enter Tryz.func18,Tryz.ntmps18
  go_wp2
  go_ret
  exact Or.inl ⟨HE.out,rfl,rfl⟩
 ·have HE:Hid (Sq.tooMuch l=(Sq.bulk l l.length).isNone):=by show _=_;unfold Sq.tooMuch;simp[hbig]
  go_enter Tryz.func18,Tryz.ntmps18
  go_wp2
  go_loop [5,6] (fun n i=>∃k m:Nat,k≤l.length∧m≤1048576∧n=.int .i64 m∧i=.int .i64 k∧Hid (Sq.bulk l l.length=Sq.bulk (l.drop k) m)) (fun _ i=>l.length - (intOf i).toNat)
  case atStart=>exact⟨0,l.length,Nat.zero_le _,by omega,rfl,rfl,rfl⟩
  case round =>
   obtain⟨q,m,hq,hm,rfl,rfl,HR⟩:=hrel
   by_cases hlt:q < l.length
   ·obtain⟨b,rfl,hb,hc⟩:=HAT.out q hlt
    have hs:=HSZ.out l[q] (List.getElem_mem hlt)
    have hst:Sq.bulk (l.drop q) m=if 1048576 < m+l[q].size then none else Sq.bulk (l.drop (q+1)) (m+l[q].size):=by
     rw[List.drop_eq_getElem_cons hlt,Sq.bulk]
    have HS:=hd hst
    obtain⟨s,hs0⟩:∃s,s=l[q]:=⟨_,rfl⟩
    rw[←hs0] at hs hc HS
    clear hst hs0
    by_cases hmm:1048576 < m+s.size
    ·go_wp2
     go_ret
     refine Or.inl ⟨?_,rfl,rfl⟩
     rw[HE.out,HR.out,HS.out,if_pos hmm];rfl
    ·go_wp2
     go_round
     case rel=>exact⟨q+1,m+s.size,by omega,by omega,by go_num,by go_num,by show _=_;rw[HR.out,HS.out,if_neg hmm]⟩
     case measure=>simp[intOf];omega
   ·have HNO:Hid (Sq.tooMuch l=false):=by
     show _=_
     rw[HE.out,HR.out,List.drop_eq_nil_of_le (by omega)];rfl
    clear HR HE
    go_wp2_with (go_at_call 13;refine(jQch c 32 _ h0 h1 (by decide) (by decide)).mono ?_;rintro e w' ⟨rfl,hw'⟩;rw[hw',HK.out];clear hw' w')
    refine(HNEW.out _).mono ?_
    rintro e w0 ⟨rfl,hsv0,hb0⟩
    have HSV0:=hd hsv0
    have HB0:=hd hb0
    clear hsv0 hb0
    go_wp2
    go_loopw [10] (fun i wr=>∃j:Nat,j≤l.length∧i=.int .i64 j∧SrvAt w.heap.size wr (k+1) (Sq.runX Sq.ntree0 (l.take j))∧Below w.heap.size w wr) (fun i _=>l.length - (intOf i).toNat)
    case atStart=>exact⟨0,Nat.zero_le _,rfl,HSV0.out,HB0.out⟩
    case round =>
     obtain⟨j,hj,rfl,hsv,hbr⟩:=hrel
     have hsw:=hsv.lt
     have HSVj:=hd hsv
     have HBR:=hd hbr
     clear hsv hbr
     by_cases hltj:j < l.length
     ·obtain⟨a2,cap2,hv2,-,-,hat2⟩:=HS0.out.below HBR.out (Nat.le_refl _)
      obtain⟨b,hb1,hb2,hc⟩:=hat2 j hltj
      simp only[Value.slice.injEq] at hv2
      obtain⟨hv3,-,-⟩:=hv2
      rw[←hv3] at hb1
      subst hb1
      have hsn:=Sq.runX_snoc l Sq.ntree0 j hltj
      obtain⟨sql,hsql⟩:∃x,x=l[j]:=⟨_,rfl⟩
      rw[←hsql] at hsn hc
      have hgood:Sq.goodX (Sq.runX Sq.ntree0 (l.take j)):=Sq.goodX_run _ Sq.goodX0
      have HSN:=hd hsn
      have HGOOD:=hd hgood
      have HTB:=hd (HT.out.below HBR.out)
      have HRB:=hd (HR0.out.below HBR.out)
      clear hsn hsql hgood hat2 hv3
      go_wp2_with fail
      obtain⟨dbj,hdbj⟩:=HGOOD.out
      refine(jQsj w.heap.size (k+1) _ dbj sql _ (by omega) HSVj.out hdbj HTB.out HRB.out).mono ?_
      rintro e w3 ⟨rfl,hsv3,hm3⟩
      rw[←HSN.out] at hsv3
      have HSV3:=hd hsv3
      have HB3:=hd (HBR.out.trans (hm3.below (Nat.le_refl _) (Nat.le_of_lt hsw)))
      clear hsv3 hm3
      go_wp2
      go_roundw
      case rel=>exact⟨j+1,by omega,by go_num,HSV3.out,HB3.out⟩
      case measure=>simp[intOf];omega
     ·have hke:l.take j=l:=List.take_of_length_le (by omega)
      have hsv:=HSVj.out
      rw[hke] at hsv
      have HSVe:=hd hsv
      clear hke hsv
      go_wp2
      go_ret
      refine Or.inr ⟨wr.heap.size,w.heap.size,HNO.out,rfl,⟨jQaB wr _,HSVe.out.below ((Below.refl _ _).alloc (Nat.le_refl _) _),Nat.le_refl _⟩,Below.alloc (B:=w.heap.size) HBR.out (by omega) _⟩
end
section
open Go.RowKit
structure LiveN (w:World)(wb sb wide:Nat)(x:Sq.NTree):Prop where
 blk:w.heap[wb]?=some (.cells #[.pointer (some ⟨sb,0,none⟩),.int .i64 wide] 43)
 srv:SrvAt sb w wide x
 good:Sq.goodX x
 tbl:Tbl w
 rnd:Rnd w
theorem LiveN.below {w w':World}{wb sb wide:Nat}{x:Sq.NTree}(h:LiveN w wb sb wide x)(hb:Below w.heap.size w w'):LiveN w' wb sb wide x:=⟨(hb.block wb (jQg h.blk)).trans h.blk,h.srv.below hb,h.good,h.tbl.below hb,h.rnd.below hb⟩
theorem LiveN.cells {w:World}{wb sb wide:Nat}{x:Sq.NTree}(h:LiveN w wb sb wide x):w.cell? ⟨wb,0,none⟩=some (.pointer (some ⟨sb,0,none⟩))∧w.cell? ⟨wb,1,none⟩=some (.int .i64 wide)∧wb < w.heap.size:=⟨by rw[jQb h.blk];rfl,by rw[jQb h.blk];rfl,jQg h.blk⟩
theorem LiveN.ne {w:World}{wb sb wide:Nat}{x:Sq.NTree}(h:LiveN w wb sb wide x):wb≠sb:=by
 intro e
 subst e
 obtain⟨ev,cv,h1,-⟩:=h.srv
 have:=h.blk
 rw[h1] at this
 simp at this
theorem xroot {w:World}{wb sb wide:Nat}{x:Sq.NTree}(h:LiveN w wb sb wide x)(hw:wide≤32):Calls Tryz.prog 29 #[.pointer (some ⟨sb,0,none⟩)] w fun e w'=>e=.returned (.string (Sq.digOf wide x))∧LiveN w' wb sb wide x∧Below w.heap.size w w' :=
 (SrvRoot_any sb wide x 99998 w hw h.srv h.good.choose_spec.tame h.rnd).mono fun e w' hh=>⟨hh.1,h.below hh.2,hh.2⟩
theorem xpeek {w:World}{wb sb wide:Nat}{x:Sq.NTree}(h:LiveN w wb sb wide x)(hw:wide≤32)(sql:ByteArray):Calls Tryz.prog 22 #[.pointer (some ⟨sb,0,none⟩),.string sql] w fun e w'=>e=.returned (.agg #[.string (Sq.repOf x sql),.string (Sq.prfOf wide x sql),.string (Sq.digOf wide (Sq.nextOf x sql))])∧LiveN w' wb sb wide x∧Below w.heap.size w w' :=
 (jQry sb wide x _ sql w hw h.srv h.good.choose_spec h.tbl h.rnd).mono fun e w' hh=>⟨hh.1,h.below hh.2,hh.2⟩
theorem xrun {w0 w:World}{wb sb wide:Nat}{x:Sq.NTree}(h:LiveN w wb sb wide x)(hw:wide≤32)(h0:Below w0.heap.size w0 w)(hl:w0.heap.size≤sb)(hT:Tbl w0)(hR:Rnd w0)(sql:ByteArray):Calls Tryz.prog 16 #[.pointer (some ⟨sb,0,none⟩),.string sql] w fun e w'=>e=.returned (.agg #[.string (Sq.repOf x sql),.string (Sq.prfOf wide x sql),.string (Sq.digOf wide (Sq.nextOf x sql))])∧LiveN w' wb sb wide (Sq.nextOf x sql)∧Moved sb w w'∧Below w0.heap.size w0 w' :=
 (jQsj sb wide x _ sql w hw h.srv h.good.choose_spec h.tbl h.rnd).mono fun e w' hh=>by
  have hb:Below w0.heap.size w0 w':=h0.trans (hh.2.2.below hl h0.size)
  exact⟨hh.1,⟨(hh.2.2.block wb (jQg h.blk) h.ne).trans h.blk,hh.2.1,h.good.next sql,hT.below hb,hR.below hb⟩,hh.2.2,hb⟩
theorem ansCells {w:World}{b:Nat}{a0 a1 a2:Value}(h:w.heap[b]?=some (.cells #[a0,a1,a2] 30)):w.cell? ⟨b,0,none⟩=some a0∧w.cell? ⟨b,1,none⟩=some a1∧w.cell? ⟨b,2,none⟩=some a2∧b < w.heap.size :=
 ⟨by rw[jQb h];rfl,by rw[jQb h];rfl,by rw[jQb h];rfl,jQg h⟩
theorem wsteady_any (wb sb wide:Nat)(x:Sq.NTree)(sql:ByteArray)(w0 w:World)(h:LiveN w wb sb wide x)(hw:wide≤32)(hs:sql.size≤1048576)(h0:Below w0.heap.size w0 w)(hl:w0.heap.size≤sb)(hT:Tbl w0)(hR:Rnd w0) :
  Calls Tryz.prog 28 #[.pointer (some ⟨wb,0,none⟩),.string sql] w fun e w'=>e=.returned (.bool true)∧Below w0.heap.size w0 w':=by
 have hrs:=Sq.rep_size h.good sql
 have hdz:(Sq.digOf wide x).size=wide:=h.good.dig hw
 have hpz:=h.good.prf hw sql
 have hstill1:Sq.bang (Sq.repOf x sql)=true→Sq.digOf wide (Sq.nextOf x sql)=Sq.digOf wide x:=fun hb=>Sq.still_refused x sql wide hb
 have hstill2:(0 < sql.size∧Sq.byteAt sql 0=115)→Sq.digOf wide (Sq.nextOf x sql)=Sq.digOf wide x:=fun hb=>Sq.still_asks x sql wide hb.1 hb.2
 have hkroot:∀w,LiveN w wb sb wide x→Calls Tryz.prog 29 #[.pointer (some ⟨sb,0,none⟩)] w fun e w'=>e=.returned (.string (Sq.digOf wide x))∧LiveN w' wb sb wide x∧Below w.heap.size w w':=fun w h=>xroot h hw
 have hkpeek:∀w,LiveN w wb sb wide x→Calls Tryz.prog 22 #[.pointer (some ⟨sb,0,none⟩),.string sql] w fun e w'=>e=.returned (.agg #[.string (Sq.repOf x sql),.string (Sq.prfOf wide x sql),.string (Sq.digOf wide (Sq.nextOf x sql))])∧LiveN w' wb sb wide x∧Below w.heap.size w w':=fun w h=>xpeek h hw sql
 have hkrun:∀w,LiveN w wb sb wide x→Below w0.heap.size w0 w→Calls Tryz.prog 16 #[.pointer (some ⟨sb,0,none⟩),.string sql] w fun e w'=>e=.returned (.agg #[.string (Sq.repOf x sql),.string (Sq.prfOf wide x sql),.string (Sq.digOf wide (Sq.nextOf x sql))])∧LiveN w' wb sb wide (Sq.nextOf x sql)∧Moved sb w w'∧Below w0.heap.size w0 w':=fun w h hb=>xrun h hw hb hl hT hR sql
 have hkroot2:∀w,LiveN w wb sb wide (Sq.nextOf x sql)→Calls Tryz.prog 29 #[.pointer (some ⟨sb,0,none⟩)] w fun e w'=>e=.returned (.string (Sq.digOf wide (Sq.nextOf x sql)))∧LiveN w' wb sb wide (Sq.nextOf x sql)∧Below w.heap.size w w':=fun w h=>xroot h hw
 have HST1:=hd hstill1
 have HST2:=hd hstill2
 have HKROOT:=hd hkroot
 have HKPEEK:=hd hkpeek
 have HKRUN:=hd hkrun
 have HKROOT2:=hd hkroot2
 have HL:=hd h
 have HB0:=hd h0
 have hsb:=h.srv.lt
 obtain⟨c0,c1,hz0⟩:=h.cells
 clear hstill1 hstill2 hkroot hkpeek hkrun hkroot2 h h0 hT hR
 generalize Sq.digOf wide (Sq.nextOf x sql)=dg2 at *
 generalize Sq.digOf wide x=dg at *
 generalize Sq.repOf x sql=rep at *
 generalize Sq.nextOf x sql=y at *
 generalize Sq.prfOf wide x sql=nb at *
 go_enter Tryz.func28,Tryz.ntmps28
 go_wp2_with fail
 refine(HKROOT.out _ HL.out).mono ?_
 rintro e w1 ⟨rfl,hl1,hb1⟩
 have HL1:=hd hl1
 have HB1:=hd (HB0.out.trans (hb1.mono HB0.out.size))
 have hs1:=hl1.srv.lt
 obtain⟨p0,p1,hz1⟩:=hl1.cells
 clear hl1 hb1 c0 c1 HL HB0 hz0
 go_wp2_with fail
 refine(HKPEEK.out _ HL1.out).mono ?_
 rintro e w2 ⟨rfl,hl2,hb2⟩
 have hA2:∀o,Below w2.heap.size w2 (w2.alloc o):=fun o=>(Below.refl _ _).alloc (Nat.le_refl _) _
 have HA2:=hd hA2
 have HL2:=hd hl2
 have HB2:=hd (HB1.out.trans (hb2.mono HB1.out.size))
 have hs2:=hl2.srv.lt
 obtain⟨q0,q1,hz2⟩:=hl2.cells
 clear hl2 hb2 hA2 p0 p1 HL1 HB1 hz1
 go_wp2_with fail
 refine(HKPEEK.out _ (HL2.out.below (HA2.out _))).mono ?_
 rintro e w3 ⟨rfl,hl3,hb3⟩
 have hk3:=(hb3.block w2.heap.size (by simp)).trans (jQaB w2 _)
 have hA3:∀o,Below w3.heap.size w3 (w3.alloc o):=fun o=>(Below.refl _ _).alloc (Nat.le_refl _) _
 have HA3:=hd hA3
 have HK3:=hd hk3
 have HL3:=hd hl3
 have HB3:=hd ((HB2.out.trans ((HA2.out _).mono HB2.out.size)).trans (hb3.mono (Nat.le_trans HB2.out.size (by simp))))
 have hs3:=hl3.srv.lt
 obtain⟨r0,r1,hz3⟩:=hl3.cells
 obtain⟨m0,m1,m2,hzm⟩:=ansCells hk3
 clear hl3 hb3 hA3 hk3 q0 q1 HL2 HB2 HA2 hz2
 go_wp2_with fail
 refine(HKROOT.out _ (HL3.out.below (HA3.out _))).mono ?_
 rintro e w4 ⟨rfl,hl4,hb4⟩
 have hk4:=(hb4.block w3.heap.size (by simp)).trans (jQaB w3 _)
 have hk4':=(hb4.block w2.heap.size (by simp;omega)).trans (((HA3.out _).block w2.heap.size hzm).trans HK3.out)
 have HK4:=hd hk4'
 have HL4:=hd hl4
 have HB4:=hd ((HB3.out.trans ((HA3.out _).mono HB3.out.size)).trans (hb4.mono (Nat.le_trans HB3.out.size (by simp))))
 have hs4:=hl4.srv.lt
 obtain⟨s0,s1,hz4⟩:=hl4.cells
 obtain⟨n0,n1,n2,hzn⟩:=ansCells hk4
 obtain⟨o0,o1,o2,hzo⟩:=ansCells hk4'
 clear hl4 hb4 hk4 hk4' r0 r1 m0 m1 m2 HL3 HB3 HA3 HK3 hz3
 go_wp2_with fail
 refine(jQ4 rep _ (by omega)).mono ?_
 rintro e w' ⟨rfl,hw'⟩
 rw[hw']
 clear hw' w'
 go_wp2_with fail
 refine(asks_any sql _ (by omega)).mono ?_
 rintro e w' ⟨b,rfl,hb,hw'⟩
 rw[hw']
 clear hw' w'
 have hq:dg2=dg∨(Sq.bang rep=false∧b=false):=by
  cases h1:Sq.bang rep with
  | true=>exact Or.inl (HST1.out h1)
  | false =>
   cases b with
   | true=>exact Or.inl (HST2.out (hb rfl))
   | false=>exact Or.inr ⟨rfl,rfl⟩
 clear hb
 rcases hq with hq | ⟨hq1,hq2⟩
 ·subst hq
  go_wp2_with fail
  all_goals
   refine(HKRUN.out _ HL4.out HB4.out).mono ?_
   rintro e w6 ⟨rfl,hl6,hm6,hb6⟩
   have hk6:=(hm6.block w2.heap.size hzo (by omega)).trans HK4.out
   have hA6:∀o,Below w6.heap.size w6 (w6.alloc o):=fun o=>(Below.refl _ _).alloc (Nat.le_refl _) _
   have HA6:=hd hA6
   have HK6:=hd hk6
   have HL6:=hd hl6
   have HB6:=hd hb6
   obtain⟨x0,x1,hz6⟩:=hl6.cells
   obtain⟨y0,y1,y2,hzy⟩:=ansCells hk6
   clear hl6 hm6 hb6 hA6 hk6 HL4 HB4 HK4 s0 s1 n0 n1 n2 o0 o1 o2
   go_wp2_with fail
   refine(HKROOT2.out _ (HL6.out.below (HA6.out _))).mono ?_
   rintro e w7 ⟨rfl,hl7,hb7⟩
   have hk7:=(hb7.block w6.heap.size (by simp)).trans (jQaB w6 _)
   have hk7':=(hb7.block w2.heap.size (by simp;omega)).trans (((HA6.out _).block w2.heap.size hzy).trans HK6.out)
   have HB7:=hd ((HB6.out.trans ((HA6.out _).mono HB6.out.size)).trans (hb7.mono (Nat.le_trans HB6.out.size (by simp))))
   obtain⟨a0,a1,a2,hza⟩:=ansCells hk7
   obtain⟨b0,b1,b2,hzb⟩:=ansCells hk7'
   clear hl7 hb7 hk7 hk7' x0 x1 y0 y1 y2 HL6 HB6 HK6 HA6
   go_wp2
   go_ret
   exact⟨rfl,HB7.out⟩
 ·subst hq2
  go_wp2_with fail
  all_goals
   refine(HKRUN.out _ HL4.out HB4.out).mono ?_
   rintro e w6 ⟨rfl,hl6,hm6,hb6⟩
   have hk6:=(hm6.block w2.heap.size hzo (by omega)).trans HK4.out
   have hA6:∀o,Below w6.heap.size w6 (w6.alloc o):=fun o=>(Below.refl _ _).alloc (Nat.le_refl _) _
   have HA6:=hd hA6
   have HK6:=hd hk6
   have HL6:=hd hl6
   have HB6:=hd hb6
   obtain⟨x0,x1,hz6⟩:=hl6.cells
   obtain⟨y0,y1,y2,hzy⟩:=ansCells hk6
   clear hl6 hm6 hb6 hA6 hk6 HL4 HB4 HK4 s0 s1 n0 n1 n2 o0 o1 o2
   go_wp2_with fail
   refine(HKROOT2.out _ (HL6.out.below (HA6.out _))).mono ?_
   rintro e w7 ⟨rfl,hl7,hb7⟩
   have hk7:=(hb7.block w6.heap.size (by simp)).trans (jQaB w6 _)
   have hk7':=(hb7.block w2.heap.size (by simp;omega)).trans (((HA6.out _).block w2.heap.size hzy).trans HK6.out)
   have HB7:=hd ((HB6.out.trans ((HA6.out _).mono HB6.out.size)).trans (hb7.mono (Nat.le_trans HB6.out.size (by simp))))
   obtain⟨a0,a1,a2,hza⟩:=ansCells hk7
   obtain⟨b0,b1,b2,hzb⟩:=ansCells hk7'
   clear hl7 hb7 hk7 hk7' x0 x1 y0 y1 y2 HL6 HB6 HK6 HA6
   go_wp2
   go_ret
   exact⟨rfl,HB7.out⟩
theorem steady_any (n0:Int)(v1:Value)(l1:List ByteArray)(s2:ByteArray)(w:World)(h0:-9223372036854775808≤n0)(h1:n0≤9223372036854775807)(hs:Strs w v1 l1)(h2:s2.size≤1000000000000000)(hT:Tbl w)(hR:Rnd w) :
  Calls Tryz.prog 8 #[.int .i64 n0,v1,.string s2] w fun e w'=>e=.returned (.bool true)∧Below w.heap.size w w':=by
 have hpk:=Sq.jQjA n0 32 (by decide)
 obtain⟨k,hk⟩:=Int.eq_ofNat_of_zero_le hpk.1
 have hk32:k < 32:=by omega
 have hworld:=worldX_any n0 k hk h0 h1 l1 v1 w hs hT hR
 have hgood:Sq.goodX (Sq.runX Sq.ntree0 l1):=Sq.goodX_run _ Sq.goodX0
 have HWORLD:=hd hworld
 have HGOOD:=hd hgood
 have HS:=hd hs
 have HT:=hd hT
 have HR:=hd hR
 clear hworld hgood hs hT hR hpk hk h0 h1
 go_enter Tryz.func8,Tryz.ntmps8
 go_wp2_with fail
 refine HWORLD.out.mono ?_
 rintro e w1 (⟨ht,rfl,hw1⟩ | ⟨wb,sb,ht,rfl,hwa,hb1⟩)
 ·rw[hw1]
  clear hw1 w1
  have HTM:=hd ht
  clear ht
  go_wp2_with fail
  refine(jQgo l1 v1 w HS.out).mono ?_
  rintro e w' ⟨rfl,hw'⟩
  rw[hw',HTM.out]
  clear hw' w'
  go_wp2
  go_ret
  exact⟨rfl,Below.refl _ _⟩
 ·have HL:=hd (LiveN.mk hwa.blk hwa.srv HGOOD.out (HT.out.below hb1) (HR.out.below hb1))
  have HB1:=hd hb1
  have hle:=hwa.le
  clear hwa hb1 ht
  by_cases hbig:1048576 < s2.size
  ·go_wp2
   go_ret
   exact⟨rfl,HB1.out⟩
  ·go_wp2_with fail
   refine(wsteady_any wb sb (k+1) _ s2 w w1 HL.out (by omega) (by omega) HB1.out hle HT.out HR.out).mono ?_
   rintro e w2 ⟨rfl,hb2⟩
   go_wp2
   go_ret
   exact⟨rfl,hb2⟩
end
section
open Go.ChangeShapes Go.WideShapes Go.ChangeMaps Go.RowKit
theorem steady_lifted (hk:∀(n0:Int) (v1:Value) (l1:List ByteArray) (s2:ByteArray) (w:World),-9223372036854775808≤n0→n0≤9223372036854775807→Strs w v1 l1→s2.size≤1000000000000000→Tbl w→Rnd w→Calls Tryz.prog 8 #[.int .i64 n0,v1,.string s2] w fun e w'=>e=.returned (.bool true)∧Below w.heap.size w w')
  (os:Os) (started:os.Started) (H:Type) (enc:TypeId×Value→H) :
  ReturnsInHanded {} Tryz.checked os 8 .any (fun w args=>(Rows.steadySpec.pre enc Tryz.prog Tryz.f8 [] false w args∧laidMetH Tryz.prog laid4 w)∧sizedMet enc Tryz.prog Tryz.f8 (OpenSpec.ofChange Rows.steadySpec) false w args)
   (Rows.steadySpec.post enc Tryz.prog Tryz.f8 false true false false):=by
 refine returnsInHanded_of_change_and (C:=Tryz.checked) (X:=fun w _=>laidMetH Tryz.prog laid4 w) (fun _ _ _ hh h=>h.of_heap hh) Tryz.own started (by kernel_rfl) Tryz.func8
  (ChangeSpec.witness_shaped (enc:=enc) (C:=Tryz.checked) (os:=os) (X:=fun w _=>laidMetH Tryz.prog laid4 w) false (World.doorLaid Tryz.prog 400 os) #[.int .i64 0,.slice none 0 0,.string ⟨#[]⟩] 8 rfl (World.shaped_of_RefB (by kernel_rfl) (by kernel_rfl)) (by kernel_rfl) (by kernel_rfl) (by kernel_rfl) (jQeU os _)) ?_
 intro W base args ds gs before hval0 hW _ hsz0 hL _
 have hsz:(DataW.weightsEach Tryz.prog (Tryz.f8.params.toList++Rows.steadySpec.plain.varTypes Tryz.prog) (ds++gs)).all (·≤reachBytes)=true:=hsz0
 have hval:∀(j:Nat) t v,Tryz.f8.params[j]?=some t→args[j]?=some v→Value.okWide Tryz.prog W .any base t v:=hval0
 have hW':=hW
 obtain⟨p,q,hA0,hV,rfl,hfz,hnd⟩:=hW
 have hA:DataW.TrodAll enc Tryz.prog W 0 (fun _=>true) true Tryz.f8.params.toList args.toList ds p:=hA0
 rw[Tryz.params8] at hA hval hsz
 obtain⟨v0,v1,v2,d0,d1,d2,p0,p1,p2,rfl,rfl,rfl,h0,h1,h2⟩:=trodAll_three hA
 obtain⟨rfl,rfl⟩:=trodVars_none hV
 obtain⟨n0,rfl,rfl,rfl,wn0⟩:=open_int Tryz.underlying3 (hval 0 3 v0 rfl rfl) h0
 have hn0:-9223372036854775808≤n0∧n0≤9223372036854775807:=by
  have h9:=wn0
  unfold Lit.wf at h9
  simp only[Bool.and_eq_true,decide_eq_true_eq] at h9
  exact h9
 obtain⟨a1,len1,cap1,rfl⟩:=okWide_slice Tryz.underlying35 (hval 1 35 v1 rfl rfl)
 have h1k:=h1
 obtain⟨fuel1,hf1⟩:=h1
 obtain⟨s2,rfl,rfl,rfl,ws2⟩:=open_string Tryz.underlying9 (hval 2 9 v2 rfl rfl) h2
 clear hA0 hval0
 simp only[List.append_nil] at hW' hsz
 have hlt:∀x∈p1,x.block < W.heap.size:=fun x hx=>hW'.lt x (by simp[hx])
 obtain⟨l1,hl1⟩:=jQdT hf1 hsz (j:=1) rfl rfl
 have hs2:s2.size≤1000000000000000:=by have h9:=sized_string hsz (j:=2) rfl rfl;have h8:reachBytes≤1000000000000000:=(by decide);have h7:s2.data.toList.length=s2.size:=(by simp);omega
 refine(hk n0 _ l1 s2 W hn0.1 hn0.2 hl1 hs2 (jQbh hL) (jQbj hL)).mono ?_
 rintro e W' ⟨rfl,bel⟩
 refine⟨_,rfl,_,_,_,[],[]++(p1++[]),[],hW',?_,?_,?_,bel.frame _,fun h=>by cases h⟩
 ·exact trodAll_mk1 (shut_bool Tryz.underlying4 true)
 ·exact trodAll_mk3 (shut_int Tryz.underlying3 wn0) (Below.trod Tryz.laidOut (by kernel_rfl) (of_decide_eq_true (by kernel_rfl)) h1k bel (fun x hx=>hlt x (by simpa using hx))) (shut_string Tryz.underlying9 ws2)
 ·rfl
end
section
open Go
theorem steady_said:Rows.SteadySaid :=
 OpenClaim.holds_of_wide 8 Tryz.f8 rfl rfl rfl rfl rfl rfl rfl ⟨rfl,rfl,rfl,rfl,rfl⟩ rfl rfl rfl rfl rfl (by kernel_rfl) Tryz.func8 (by kernel_rfl)
  (of_decide_eq_true (by kernel_rfl)) (by unfold Func.isWrapper;rw[if_neg (of_decide_eq_false (by kernel_rfl))];exact⟨rfl,rfl⟩)
  (fun os started H enc _=>steady_lifted steady_any os started H enc)
theorem steady_holds:Rows.SteadyCardSaid :=
 Claim7.holds_tied_plain_at .later [] [.data,.data,.data,.data] true (true,"ec40f028bf27107b1e2e7a6e246abdf04549d0a3ff8365d6173cd0d8cd25c100") false
  steady_said (fun _ h=>by cases h) (by kernel_rfl) (fun _ h=>by cases h) steady_row_tie rfl ⟨rfl,rfl⟩ (by kernel_rfl) rfl
  (fun f fn hf hfn=>by
   obtain rfl:f=8:=Option.some.inj ((show Tryz.prog.funcNamed "sqlproof/sqlproofkeep.Steady"=some 8 by kernel_rfl).symm.trans hf) |>.symm
   obtain rfl:fn=Tryz.f8:=(Option.some.inj (Tryz.func8.symm.trans hfn)).symm
   exact⟨by kernel_rfl,fun j t ht=>by
    rw[Tryz.params8] at ht
    match j,ht with
    | 0,ht =>
     have h3:t=3:=by simpa using ht.symm
     subst h3
     exact(show Tryz.prog.wantsStandIn 3=false by kernel_rfl)
    | 1,ht =>
     have h3:t=35:=by simpa using ht.symm
     subst h3
     exact(show Tryz.prog.wantsStandIn 35=false by kernel_rfl)
    | 2,ht =>
     have h3:t=9:=by simpa using ht.symm
     subst h3
     exact(show Tryz.prog.wantsStandIn 9=false by kernel_rfl)
    | j+3,ht=>simp at ht⟩)
  (by kernel_rfl)
#print axioms steady_holds
end
end Go.Proofs.YtahpihjialbanaaGreatDoor
