import Derived.Carry
import Derived.ChangeSame
import Derived.ChangeVars
import Derived.JoinedOf
import Derived.LaidHandle
import Derived.LaidLaws
import Derived.LaidMore
import Derived.OpenShut
import Derived.ProofKit
import Derived.RowKit
import Derived.RowKitTokens
import Derived.SizedLaws
import Derived.SliceStrings
import Derived.Stop.Joined
import Derived.Stop.LaidErr
import Derived.Test.YtahpihjialbanaaGreatDoorRows
import Derived.Test.YtahpihjialbanaaGreatDoorQbt
import Derived.Test.YtahpihjialbanaaGreatDoorQbw
set_option linter.unusedVariables false
set_option linter.unusedSimpArgs false
set_option maxRecDepth 100000
set_option maxHeartbeats 4000000
namespace Go.Proofs.YtahpihjialbanaaGreatDoor
open Sq (NTree nextOf)
section
open Go.RowKit
structure WorldX (B:Nat)(w:World)(wb sb wide:Nat)(x:NTree):Prop where
 blk:w.heap[wb]?=some (.cells #[.pointer (some ⟨sb,0,none⟩),.int .i64 wide] 43)
 srv:SrvAt sb w wide x
 le:B<=sb
theorem jQlI (c:Int)(k:Nat)(hk:Sq.pick c 32=k)(h0:-9223372036854775808<=c)(h1:c<=9223372036854775807)(l:List ByteArray)(v:Value)(w:World)(h:Strs w v l)(hT:Tbl w)(hR:Rnd w) :
  Calls Tryz.prog 18 #[.int .i64 c,v] w fun e w' =>
   (Sq.tooMuch l=true/\e=.returned (.pointer none)/\w'=w)\/(∃wb sb,Sq.tooMuch l=false/\e=.returned (.pointer (some ⟨wb,0,none⟩))/\WorldX w.heap.size w' wb sb (k+1) (Sq.runX Sq.ntree0 l)/\Below w.heap.size w w'):=by
 have hG:=Sq.jQmM c 32 (by decide);have hD:k<32:=by omega
 have HK:=hd hk;have hI:=hd h;obtain⟨a,cap,rfl,hl,hsz,hat⟩:=h;have hz:=hd hat;have hE:=hd hsz;have HT:=hd hT;have hC:=hd hR;have hf:∀w:World,Calls Tryz.prog 14 #[.int .i64 ((k:Int)+1)] w fun e w'=>e=.returned (.tuple #[.pointer (some ⟨w.heap.size,0,none⟩),.int .i64 0])/\SrvAt w.heap.size w' (k+1) Sq.ntree0/\Below w.heap.size w w':=fun w=>(jQrW (k+1) w (by omega) (by omega)).mono fun e w' hh=>⟨hh.1,by rw[hh.2];exact SrvAt.new _ _,by rw[hh.2];exact(bR).alloc (nR) _⟩
 have hp:=hd hf;clear hat hsz hT hR hf hG hk
 by_cases hbig:1048576<l.length
 ·have HE:Hid (Sq.tooMuch l=true):=by show _=_;unfold Sq.tooMuch;simp[hbig]
  go_enter Tryz.func18,Tryz.ntmps18;go_wp2;go_ret;exact Or.inl ⟨HE.o,rfl,rfl⟩
 ·have HE:Hid (Sq.tooMuch l=(Sq.bulk l l.length).isNone):=by show _=_;unfold Sq.tooMuch;simp[hbig]
  go_enter Tryz.func18,Tryz.ntmps18;go_wp2
  go_loop [5,6] (fun n i=>∃k m:Nat,k<=l.length/\m<=1048576/\n=.int .i64 m/\i=.int .i64 k/\Hid (Sq.bulk l l.length=Sq.bulk (l.drop k) m)) (fun _ i=>l.length-(intOf i).toNat)
  case atStart=>exact⟨0,l.length,zR,by omega,rfl,rfl,rfl⟩
  case round =>
   obtain⟨q,m,hq,hm,rfl,rfl,HR⟩:=hrel
   by_cases hlt:q<l.length
   ·obtain⟨b,rfl,hb,hc⟩:=hz.o q hlt;have hs:=hE.o l[q] (List.getElem_mem hlt)
    have hv:Sq.bulk (l.drop q) m=if 1048576<m+l[q].size then none else Sq.bulk (l.drop (q+1)) (m+l[q].size):=by
     rw[List.drop_eq_getElem_cons hlt,Sq.bulk]
    have HS:=hd hv;obtain⟨s,hs0⟩:∃s,s=l[q]:=⟨_,rfl⟩;rw[<-hs0] at hs hc HS;clear hv hs0
    by_cases hmm:1048576<m+s.size
    ·go_wp2;go_ret;refine Or.inl ⟨?_,rfl,rfl⟩;rw[HE.o,HR.o,HS.o,if_pos hmm];rfl
    ·go_wp2;go_round
     case rel=>exact⟨q+1,m+s.size,by omega,by omega,by go_num,by go_num,by show _=_;rw[HR.o,HS.o,if_neg hmm]⟩
     case measure=>simp[intOf];omega
   ·have hJ:Hid (Sq.tooMuch l=false):=by
     show _=_;rw[HE.o,HR.o,List.drop_eq_nil_of_le (by omega)];rfl
    clear HR HE;go_wp2_with (go_at_call 13;refine(jQpj c 32 _ h0 h1 (by decide) (by decide)).mono ?_;rintro e w' ⟨rfl,hw'⟩;rw[hw',HK.o];clear hw' w');refine(hp.o _).mono ?_;rintro e w0 ⟨rfl,hsv0,hb0⟩;have ho:=hd hsv0;have hA:=hd hb0;clear hsv0 hb0;go_wp2
    go_loopw [10] (fun i wr=>∃j:Nat,j<=l.length/\i=.int .i64 j/\SrvAt w.heap.size wr (k+1) (Sq.runX Sq.ntree0 (l.take j))/\Below w.heap.size w wr) (fun i _=>l.length-(intOf i).toNat)
    case atStart=>exact⟨0,zR,rfl,ho.o,hA.o⟩
    case round =>
     obtain⟨j,hj,rfl,he,hbr⟩:=hrel;have hF:=he.lt;have hi:=hd he;have hn:=hd hbr;clear he hbr
     by_cases hltj:j<l.length
     ·obtain⟨a2,cap2,hv2,-,-,hat2⟩:=hI.o.below hn.o (nR);obtain⟨b,hb1,hb2,hc⟩:=hat2 j hltj;simp only[Value.slice.injEq] at hv2;obtain⟨hv3,-,-⟩:=hv2;rw[<-hv3] at hb1;subst hb1;have hu:=Sq.jQjM l Sq.ntree0 j hltj;obtain⟨sql,hsql⟩:∃x,x=l[j]:=⟨_,rfl⟩;rw[<-hsql] at hu hc;have ha:Sq.goodX (Sq.runX Sq.ntree0 (l.take j)):=Sq.jQgE _ Sq.goodX0;have hx:=hd hu;have hg:=hd ha;have hB:=hd (HT.o.below hn.o);have hy:=hd (hC.o.below hn.o);clear hu hsql ha hat2 hv3;go_wp2_with fail;obtain⟨dbj,hdbj⟩:=hg.o;refine(jQrV w.heap.size (k+1) _ dbj sql _ (by omega) hi.o hdbj hB.o hy.o).mono ?_;rintro e w3 ⟨rfl,hsv3,hm3⟩;rw[<-hx.o] at hsv3;have ht:=hd hsv3;have hH:=hd (hn.o.trans (hm3.below (nR) (Nat.le_of_lt hF)));clear hsv3 hm3;go_wp2;go_roundw
      case rel=>exact⟨j+1,by omega,by go_num,ht.o,hH.o⟩
      case measure=>simp[intOf];omega
     ·have hw:l.take j=l:=List.take_of_length_le (by omega);have he:=hi.o;rw[hw] at he;have hr:=hd he;clear hw he;go_wp2;go_ret;refine Or.inr ⟨wr.heap.size,w.heap.size,hJ.o,rfl,⟨jQap wr _,hr.o.below ((bR).alloc (nR) _),nR⟩,Below.alloc (B:=w.heap.size) hn.o (by omega) _⟩
end
section
open Go.RowKit
structure LiveN (w:World)(wb sb wide:Nat)(x:NTree):Prop where
 blk:w.heap[wb]?=some (.cells #[.pointer (some ⟨sb,0,none⟩),.int .i64 wide] 43)
 srv:SrvAt sb w wide x
 good:Sq.goodX x
 tbl:Tbl w
 rnd:Rnd w
theorem LiveN.below {w w':World}{wb sb wide:Nat}{x:NTree}(h:LiveN w wb sb wide x)(hb:Below w.heap.size w w'):LiveN w' wb sb wide x:=⟨(hb.block wb (jQf h.blk)).trans h.blk,h.srv.below hb,h.good,h.tbl.below hb,h.rnd.below hb⟩
theorem LiveN.cells {w:World}{wb sb wide:Nat}{x:NTree}(h:LiveN w wb sb wide x):w.cell? ⟨wb,0,none⟩=some (.pointer (some ⟨sb,0,none⟩))/\w.cell? ⟨wb,1,none⟩=some (.int .i64 wide)/\wb<w.heap.size:=⟨by rw[jQb h.blk];rfl,by rw[jQb h.blk];rfl,jQf h.blk⟩
theorem xroot {w:World}{wb sb wide:Nat}{x:NTree}(h:LiveN w wb sb wide x)(hw:wide<=32):Calls Tryz.prog 29 #[.pointer (some ⟨sb,0,none⟩)] w fun e w'=>e=.returned (.string (Sq.digOf wide x))/\LiveN w' wb sb wide x/\Below w.heap.size w w' :=
 (jQlC sb wide x 99998 w hw h.srv h.good.choose_spec.tame h.rnd).mono fun e w' hh=>⟨hh.1,h.below hh.2,hh.2⟩
theorem xpeek {w:World}{wb sb wide:Nat}{x:NTree}(h:LiveN w wb sb wide x)(hw:wide<=32)(sql:ByteArray):Calls Tryz.prog 22 #[.pointer (some ⟨sb,0,none⟩),.string sql] w fun e w'=>e=.returned (.agg #[.string (Sq.repOf x sql),.string (Sq.prfOf wide x sql),.string (Sq.digOf wide (nextOf x sql))])/\LiveN w' wb sb wide x/\Below w.heap.size w w' :=
 (jQrg sb wide x _ sql w hw h.srv h.good.choose_spec h.tbl h.rnd).mono fun e w' hh=>⟨hh.1,h.below hh.2,hh.2⟩
theorem ansCells {w:World}{b:Nat}{a0 a1 a2:Value}(h:w.heap[b]?=some (.cells #[a0,a1,a2] 30)):w.cell? ⟨b,0,none⟩=some a0/\w.cell? ⟨b,1,none⟩=some a1/\w.cell? ⟨b,2,none⟩=some a2/\b<w.heap.size :=
 ⟨by rw[jQb h];rfl,by rw[jQb h];rfl,by rw[jQb h];rfl,jQf h⟩
end
section
open Go.RowKit
namespace Sq
theorem jQlO {X:NTree}(h:goodX X){wide:Nat}(hw1:1<=wide)(hw2:wide<=32)(sql:ByteArray) :
  checkR (HS wide) wide (digOf wide X) sql (repOf X sql) (prfOf wide X sql)=(digOf wide (nextOf X sql),true):=by
 obtain⟨db,h⟩:=h;have hp:posN X.numbered.d X.numbered.t:=(jQmI X.d X.t 1 (by decide)).1;have h1:=jQqg (jQf2 hw2) hw1 hw2 h.st.numbered h.good hp sql;have h2:=(jQcD h.st.numbered h.good sql ⟨false,[]⟩).1;rw[<-h2] at h1;have h3:digN (HS wide) X.numbered.d X.numbered.t=digOf wide X:=jQp7 (HS wide) X.d X.t 1;rw[h3] at h1;exact h1
theorem jQlM {X:NTree}(h:goodX X){wide:Nat}(hw1:1<=wide)(hw2:wide<=32)(sql root:ByteArray){P:NTree}(hP:readTop wide (prfOf wide X sql)=some P):Told wide root sql P:=by
 obtain⟨db,h⟩:=h;have hs:=jQmz hw2 hP;have hp:posN X.numbered.d X.numbered.t:=(jQmI X.d X.t 1 (by decide)).1;obtain⟨x,h1,h2,h3⟩:=h.st.numbered.fine h.good;have hl:=(jQcD h.st.numbered h.good sql ⟨false,[]⟩).2.2;have ho:=jQoB (jQf2 hw2) hw1 hw2 h1 h2 h3 hp sql hl hP;obtain⟨hnt,hnc,hnr⟩:=h.numbered;refine⟨hs.1,hs.2,fun _=>?_⟩;rw[ho];exact h.st.numbered.okOut h.good hnt (TameR.none 100) hnc sql
end Sq
theorem jQow {X:NTree}(h:Sq.goodX X){wide:Nat}(hw1:1<=wide)(hw2:wide<=32)(sql:ByteArray)(w:World)(hT:Tbl w)(hR:Rnd w) :
  Calls Tryz.prog 38 #[.int .i64 wide,.string (Sq.digOf wide X),.string sql,.string (Sq.repOf X sql),.string (Sq.prfOf wide X sql)] w fun e w'=>e=.returned (.tuple #[.string (Sq.digOf wide (nextOf X sql)),.bool true])/\Below w.heap.size w w':=by
 have hc:=Sq.jQlO h hw1 hw2 sql;cases hP:Sq.readTop wide (Sq.prfOf wide X sql) with
 | none =>
  exfalso
  unfold Sq.checkR at hc;rw[hP] at hc;have h2:=congrArg Prod.snd hc;cases h2
 | some P =>
  have:=jQov wide hw1 hw2 (Sq.digOf wide X) sql (Sq.repOf X sql) (Sq.prfOf wide X sql) P w hP (Sq.jQlM h hw1 hw2 sql _ hP) hT hR
  rw[hc] at this;exact this
theorem jQlH (wb sb wide:Nat)(x:NTree)(sql:ByteArray)(w:World)(h:LiveN w wb sb wide x)(hw1:1<=wide)(hw:wide<=32)(hs:sql.size<=1048576) :
  Calls Tryz.prog 30 #[.pointer (some ⟨wb,0,none⟩),.string sql] w fun e w'=>e=.returned (.bool true)/\Below w.heap.size w w':=by
 have hk:(Sq.digOf wide (nextOf x sql)).size=wide:=(h.good.next sql).dig hw;have ha:∀w,LiveN w wb sb wide x->Calls Tryz.prog 29 #[.pointer (some ⟨sb,0,none⟩)] w fun e w'=>e=.returned (.string (Sq.digOf wide x))/\LiveN w' wb sb wide x/\Below w.heap.size w w':=fun w h=>xroot h hw
 have hb:∀w,LiveN w wb sb wide x->Calls Tryz.prog 22 #[.pointer (some ⟨sb,0,none⟩),.string sql] w fun e w'=>e=.returned (.agg #[.string (Sq.repOf x sql),.string (Sq.prfOf wide x sql),.string (Sq.digOf wide (nextOf x sql))])/\LiveN w' wb sb wide x/\Below w.heap.size w w':=fun w h=>xpeek h hw sql
 have hc:∀w,LiveN w wb sb wide x->Calls Tryz.prog 38 #[.int .i64 wide,.string (Sq.digOf wide x),.string sql,.string (Sq.repOf x sql),.string (Sq.prfOf wide x sql)] w fun e w'=>e=.returned (.tuple #[.string (Sq.digOf wide (nextOf x sql)),.bool true])/\LiveN w' wb sb wide x/\Below w.heap.size w w':=fun w h=>(jQow h.good hw1 hw sql w h.tbl h.rnd).mono fun e w' hh=>⟨hh.1,h.below hh.2,hh.2⟩
 have hg:=hd ha;have he:=hd hb;have hi:=hd hc;have HL:=hd h;have hy:=h.srv.lt;obtain⟨c0,c1,hz0⟩:=h.cells;clear ha hb hc h;generalize Sq.digOf wide (nextOf x sql)=dg2 at *;generalize Sq.digOf wide x=dg at *;generalize Sq.repOf x sql=rep at *;generalize Sq.prfOf wide x sql=nb at *;have ht:=hd hk;clear hk;go_enter Tryz.func30,Tryz.ntmps30;go_wp2_with fail;refine(hg.o _ HL.o).mono ?_;rintro e w1 ⟨rfl,hl1,hb1⟩;have hq:=hd hl1;have hj:=hd hb1;have hx:=hl1.srv.lt;obtain⟨p0,p1,hz1⟩:=hl1.cells;clear hl1 hb1 c0 c1 HL hz0;go_wp2_with fail;refine(he.o _ hq.o).mono ?_;rintro e w2 ⟨rfl,hl2,hb2⟩;obtain⟨V,hV⟩:∃V:World,V=w2.alloc (.cells #[.string rep,.string nb,.string dg2] 30):=⟨_,rfl⟩;have hl:Below w2.heap.size w2 V:=by rw[hV];exact(bR).alloc (nR) _
 have hm:V.heap[w2.heap.size]?=some (.cells #[.string rep,.string nb,.string dg2] 30):=by rw[hV];exact jQi _ _
 have hn:=hd (hl2.below hl);have hp:=hd ((hj.o.trans (hb2.mono hj.o.size)).trans (hl.mono (Nat.le_trans hj.o.size hb2.size)));have hu:=hd hm;obtain⟨q0,q1,hz2⟩:=hl2.cells;obtain⟨r0,r1,hz3⟩:=hn.o.cells;obtain⟨m0,m1,m2,hzm⟩:=ansCells hm;clear hl2 hb2 hl hm p0 p1 hq hj hz1;go_wp2;rw[<-hV];clear hV
 go_region_with (go_at_call 38;refine(hi.o _ (hn.o.below (Below.drew (bR)))).mono ?_;rintro e w5 ⟨rfl,hl5,hb5⟩;have hf:Below V.heap.size V w5:=(Below.drew (bR)).trans hb5;have ho:=(hf.block _ hzm).trans hu.o;obtain⟨n0,n1,n2,hzn⟩:=ansCells ho;have hv:=hd (hp.o.trans (hf.mono hp.o.size));obtain⟨s0,s1,hz5⟩:=hl5.cells;clear hl5 hb5 hf ho)
 all_goals
  have hk:=ht.o;have hr:((dg2.size:Int)=(wide:Int)):=by rw[hk]
  go_wp2;go_ret;exact⟨rfl,hv.o⟩
theorem jQiq (n0:Int)(v1:Value)(l1:List ByteArray)(s2:ByteArray)(w:World)(h0:-9223372036854775808<=n0)(h1:n0<=9223372036854775807)(hs:Strs w v1 l1)(h2:s2.size<=1000000000000000)(hT:Tbl w)(hR:Rnd w) :
  Calls Tryz.prog 10 #[.int .i64 n0,v1,.string s2] w fun e w'=>e=.returned (.bool true)/\Below w.heap.size w w':=by
 have hg:=Sq.jQmM n0 32 (by decide);obtain⟨k,hk⟩:=Int.eq_ofNat_of_zero_le hg.1;have hh:k<32:=by omega
 have ha:=jQlI n0 k hk h0 h1 l1 v1 w hs hT hR;have hb:Sq.goodX (Sq.runX Sq.ntree0 l1):=Sq.jQgE _ Sq.goodX0;have hc:=hd ha;have he:=hd hb;have HS:=hd hs;have HT:=hd hT;have HR:=hd hR;clear ha hb hs hT hR hg hk h0 h1;go_enter Tryz.func10,Tryz.ntmps10;go_wp2_with fail;refine hc.o.mono ?_;rintro e w1 (⟨ht,rfl,hw1⟩ | ⟨wb,sb,ht,rfl,hwa,hb1⟩)
 ·rw[hw1];clear hw1 w1;have hi:=hd ht;clear ht;go_wp2_with fail;refine(jQqE l1 v1 w HS.o).mono ?_;rintro e w' ⟨rfl,hw'⟩;rw[hw',hi.o];clear hw' w';go_wp2;go_ret;exact⟨rfl,bR⟩
 ·have HL:=hd (LiveN.mk hwa.blk hwa.srv he.o (HT.o.below hb1) (HR.o.below hb1));have hf:=hd hb1;clear hwa hb1 ht
  by_cases hbig:1048576<s2.size
  ·go_wp2;go_ret;exact⟨rfl,hf.o⟩
  ·go_wp2_with fail;refine(jQlH wb sb (k+1) _ s2 w1 HL.o (by omega) (by omega) (by omega)).mono ?_;rintro e w2 ⟨rfl,hb2⟩;have hj:=hd (hf.o.trans (hb2.mono hf.o.size));clear hb2;go_wp2;go_ret;exact⟨rfl,hj.o⟩
end
section
open Go.ChangeShapes Go.WideShapes Go.RowKit
theorem Tryz.own:ownKnob Tryz.prog.godebug=none:=by kernel_rfl
theorem Tryz.laidOut:laidOutB Tryz.prog=true:=by kernel_rfl
theorem Tryz.gPow:Tryz.prog.globalNamed "internal/strconv.uint64pow10"=some 1:=by kernel_rfl
theorem Tryz.tPow:(Tryz.prog.globals[1]?).map (·.type)=some 279:=by kernel_rfl
theorem Tryz.cellsU64:Tryz.prog.cellsOf 186=1:=by kernel_rfl
theorem Tryz.cellsPow:Tryz.prog.cellsOf 279=20:=by kernel_rfl
theorem Tryz.gRnd:Tryz.prog.globalNamed "sqlproof/digest.rounds"=some 0:=by kernel_rfl
theorem Tryz.tRnd:(Tryz.prog.globals[0]?).map (·.type)=some 146:=by kernel_rfl
theorem Tryz.cellsU32:Tryz.prog.cellsOf 143=1:=by kernel_rfl
theorem Tryz.cellsRnd:Tryz.prog.cellsOf 146=64:=by kernel_rfl
def laid4:List (String×DataW Unit):=[("math/bits.deBruijn32tab",Rows.laid_math_bits_deBruijn32tab),("math/bits.deBruijn64tab",Rows.laid_math_bits_deBruijn64tab),("internal/strconv.uint64pow10",Rows.laid_internal_strconv_uint64pow10),("sqlproof/digest.rounds",Rows.laid_sqlproof_digest_rounds)]
theorem jQqJ:(Rows.laid_sqlproof_digest_rounds:DataW Unit)=Lib.tabData .u32 Sq.roundTab:=by rfl
theorem jQqK:(Rows.laid_internal_strconv_uint64pow10:DataW Unit)=Lib.tabData .u64 Lib.pow10Tab:=by rfl
theorem jQqW (os:Os)(args:Array Value):laidMetH Tryz.prog laid4 ((World.doorLaid Tryz.prog 400 os).forCall (fun _ _=>0) ⟨#[],args,[]⟩).memory :=
 laidMetH_of_parts3 (fuel:=8) (laidMet_of_run' 8 (by kernel_rfl) (by kernel_rfl)) (by kernel_rfl) (by kernel_rfl)
theorem jQkM {W:World}(h:laidMetH Tryz.prog laid4 W):Tbl W:=by
 rw[MakeChecks.laidMetH_plain _ _ _ (by kernel_rfl)] at h;have h2:=laidMet.tail (laidMet.tail h);rw[jQqK] at h2;exact Lib.tabIs_of_head Tryz.gPow Tryz.tPow Tryz.underlying279 Tryz.underlying186 Tryz.cellsU64 Tryz.cellsPow h2
theorem jQkU {W:World}(h:laidMetH Tryz.prog laid4 W):Rnd W:=by
 rw[MakeChecks.laidMetH_plain _ _ _ (by kernel_rfl)] at h;have h2:=laidMet.tail (laidMet.tail (laidMet.tail h));rw[jQqJ] at h2;exact Lib.tabIs_of_head Tryz.gRnd Tryz.tRnd Tryz.underlying146 Tryz.underlying143 Tryz.cellsU32 Tryz.cellsRnd h2
end
end Go.Proofs.YtahpihjialbanaaGreatDoor
