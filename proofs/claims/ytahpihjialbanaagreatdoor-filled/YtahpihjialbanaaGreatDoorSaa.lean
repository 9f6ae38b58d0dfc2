import Derived.ArgAppend
import Derived.BigQuiet
import Derived.BigRegion
import Derived.Carry
import Derived.ChangeSame
import Derived.ChangeVars
import Derived.Deep.AppendLies
import Derived.Deep.Cut
import Derived.Deep.CutRange
import Derived.Deep.LoopGhost
import Derived.Deep.QuietTactic
import Derived.Deep.RegionHeld3
import Derived.Deep.RegionLaw
import Derived.Deep.WholeRow
import Derived.JoinedOf
import Derived.LaidHandle
import Derived.LaidLaws
import Derived.LaidMore
import Derived.Laws.AppendOwnNone
import Derived.Laws.BitsAllLaws
import Derived.Laws.CopyOwn
import Derived.Laws.Rows
import Derived.Lib.AppendIntMem
import Derived.Lib.AppendStr
import Derived.Lib.AtoiErrMem
import Derived.Lib.ConvBytes
import Derived.Lib.ItoaLen
import Derived.Lib.ItoaNum
import Derived.Lib.LaidTab
import Derived.Lib.Strings
import Derived.OpenShut
import Derived.ProofKit
import Derived.RowKit
import Derived.RowKitTokens
import Derived.SevenTiedAt
import Derived.Shelf.LaysM
import Derived.Shelf.Strconv.Itoa0
import Derived.Shelf.Strconv.Itoa1
import Derived.Shelf.Strconv.Itoa2
import Derived.Shelf.Strconv.Itoa3
import Derived.Shelf.Strconv.Itoa4
import Derived.SizedLaws
import Derived.SliceStrings
import Derived.Stop.Joined
import Derived.Stop.LaidErr
import Derived.Test.YtahpihjialbanaaGreatDoorCards
import Derived.Test.YtahpihjialbanaaGreatDoorProg
import Derived.Test.YtahpihjialbanaaGreatDoorRows
import Derived.Test.YtahpihjialbanaaGreatDoorTie
import Derived.WalkKit
import Derived.WalkLawsBesides
import Derived.WalkSpells
import Derived.Test.YtahpihjialbanaaGreatDoorQbm
set_option linter.unusedVariables false
set_option linter.unusedSimpArgs false
set_option maxRecDepth 100000
set_option maxHeartbeats 4000000
namespace Go.Proofs.YtahpihjialbanaaGreatDoor
section
open Go.RowKit
theorem SrvRoot_any (sb wide:Nat)(X:Sq.NTree)(K:Int)(w:World)(hw:wide≤32)(h:SrvAt sb w wide X)(ht:Sq.tameN K X.d X.t)(hR:Rnd w) :
  Calls Tryz.prog 29 #[.pointer (some ⟨sb,0,none⟩)] w fun e w'=>e=.returned (.string (Sq.digN (HS wide) X.d X.t))∧Below w.heap.size w w':=by
 obtain⟨ev,cv,hblk,hn⟩:=h
 obtain⟨⟨e1,e2,e3,hev⟩,k1,k2,k3,hcv⟩:=hn.slices
 subst hev hcv
 have hk:∀w',Below w.heap.size w w'→Calls Tryz.prog 37 #[.agg (headCells X.head (.slice e1 e2 e3) (.slice k1 k2 k3)).toArray,.int .i64 wide] w' fun e w''=>e=.returned (.string (Sq.digN (HS wide) X.d X.t))∧Below w'.heap.size w' w'':=fun w' hb=>(jQc7 wide hw K _ _ _ _ w' (hn.below hb) ht (hR.below hb)).2
 rw[jQc] at hk hblk
 have hb2:w.heap[sb]?=some (.cells #[.int .i64 wide,.bool X.head.inner,.slice e1 e2 e3,.slice k1 k2 k3,.int .i64 X.head.least,.int .i64 X.head.rows,.string X.head.sl,.int .i64 X.head.num] 62):=hblk
 obtain⟨c0,c1,c2,c3,c4,c5,c6,c7⟩:=jQge hb2
 have hz:=jQg hb2
 have HK:=hd hk
 clear hk hn hblk hb2 ht hR
 generalize Sq.digN (HS wide) X.d X.t=dg at *
 generalize X.head=xh at *
 go_enter Tryz.func29,Tryz.ntmps29
 go_wp2
 go_region_with (go_at_call 37;refine(HK.out _ (Below.drew (Below.refl _ _))).mono ?_;rintro e w5 ⟨rfl,hb5⟩;have HB5:Hid (Below w.heap.size w w5):=(Below.drew (Below.refl _ _)).trans hb5;clear hb5)
 all_goals(try go_wp2)
 all_goals
  go_ret
  exact⟨rfl,HB5.out⟩
end
namespace Sq
def runX (X:NTree):List ByteArray→NTree
 | []=>X
 | s :: r=>runX (nextOf X s) r
def goodX (X:NTree):Prop:=∃db,Keeps2 X db
theorem goodX0:goodX ntree0:=⟨[],keeps0⟩
theorem goodX.next {X:NTree}(h:goodX X)(sql:ByteArray):goodX (nextOf X sql):=by
 obtain⟨db,h⟩:=h
 exact⟨_,(h.next sql).1⟩
theorem goodX_run:∀(l:List ByteArray) {X:NTree},goodX X→goodX (runX X l)
 | [],_,h=>h
 | s :: r,_,h=>goodX_run r (h.next s)
theorem goodX.dig {X:NTree}(h:goodX X){wide:Nat}(hw:wide≤32):(digOf wide X).size=wide:=by
 obtain⟨db,h⟩:=h
 obtain⟨x,h1,h2,h3⟩:=h.st.fine h.good
 obtain⟨n,t,y,rfl,rfl,hr⟩:=h1.cases
 exact jQgA (jQn1 hw) hr.open
end Sq
namespace Sq
def dgM (n:Nat):ByteArray:=if n < 10 then⟨[UInt8.ofNat (48+n)].toArray⟩ else⟨[UInt8.ofNat (48+n / 10),UInt8.ofNat (48+(HMod.hMod n 10:Nat))].toArray⟩
def createM:ByteArray:=⟨#[99,114,101,97,116,101,32,116,97,98,108,101,32,109,32,40,105,100,32,105,110,116,41]⟩
def insP:ByteArray:=⟨#[105,110,115,101,114,116,32,105,110,116,111,32,109,32,118,97,108,117,101,115,32,40]⟩
def shutM:ByteArray:=⟨#[41]⟩
def insM (n:Nat):ByteArray:=insP++dgM n++shutM
def delP:ByteArray:=⟨#[100,101,108,101,116,101,32,102,114,111,109,32,109,32,119,104,101,114,101,32,105,100,32,61,32]⟩
def delM (n:Nat):ByteArray:=delP++dgM n
def countM:ByteArray:=⟨#[115,101,108,101,99,116,32,99,111,117,110,116,32,102,114,111,109,32,109]⟩
def wipeM:ByteArray:=⟨#[100,101,108,101,116,101,32,102,114,111,109,32,109]⟩
def insR (i:Nat):ByteArray:=if i < 59 then⟨#[49,59]⟩ else⟨#[33,49,48]⟩
def delR (i:Nat):ByteArray:=if i=43 then⟨#[48,59]⟩ else⟨#[49,59]⟩
def insL:List (ByteArray×ByteArray):=(List.range 60).map fun i=>(insM (HMod.hMod (i * 7) 60),insR i)
def delL:List (ByteArray×ByteArray):=(List.range 59).map fun i=>(delM (HMod.hMod (i * 11) 60),delR i)
def scriptM:List (ByteArray×ByteArray):=(createM,⟨#[48,59]⟩) :: (insL++((countM,⟨#[53,57,59]⟩) :: (delL++[(wipeM,⟨#[49,59]⟩)])))
def tells:List Tab→List (ByteArray×ByteArray)→Bool
 | _,[]=>true
 | db,(s,r) :: q=>((Sq.decide db s).reply.data.toList==r.data.toList) && tells (after db s) q
def entsQ (a b:List Ent):Bool:=(a.map fun e=>(e.place,e.row.data.toList))==(b.map fun e=>(e.place,e.row.data.toList))
theorem bytes_eqL {a b:ByteArray}(h:a.data.toList=b.data.toList):a=b:=by
 cases a;cases b;simp at h;rw[h]
theorem mapM_inj {α β:Type}{f:α→β}(hf:∀a b,f a=f b→a=b):∀l m:List α,l.map f=m.map f→l=m
 | [],[],_=>rfl
 | [],_ :: _,h=>by simp at h
 | _ :: _,[],h=>by simp at h
 | a :: l,b :: m,h=>by
  simp only[List.map_cons,List.cons.injEq] at h
  rw[hf a b h.1,mapM_inj hf l m h.2]
theorem entsQ_eq {a b:List Ent}(h:entsQ a b=true):a=b:=by
 have h1:(a.map fun e=>(e.place,e.row.data.toList))=(b.map fun e=>(e.place,e.row.data.toList)):=by simpa[entsQ] using h
 refine mapM_inj ?_ _ _ h1
 intro e f he
 cases e;cases f
 simp only[Prod.mk.injEq] at he
 obtain⟨h3,h4⟩:=he
 subst h3
 rw[bytes_eqL h4]
def runD (db:List Tab):List ByteArray→List Tab
 | []=>db
 | s :: r=>runD (after db s) r
theorem tells_at:∀(l:List (ByteArray×ByteArray)) (X:NTree) (db:List Tab) (j:Nat) (s r:ByteArray),Keeps2 X db→tells db l=true→l[j]?=some (s,r)→repOf (runX X ((l.map Prod.fst).take j)) s=r∧runX X ((l.map Prod.fst).take (j+1))=nextOf (runX X ((l.map Prod.fst).take j)) s
 | (s,r) :: q,X,db,0,s',r',hk,h,hj=>by
  simp at hj
  obtain⟨rfl,rfl⟩:=hj
  rw[tells,Bool.and_eq_true] at h
  have h1:(Sq.decide db s).reply.data.toList=r.data.toList:=by simpa using h.1
  exact⟨bytes_eqL (by show(repOf X s).data.toList=_;rw[(hk.next s).2];exact h1),rfl⟩
 | (s,r) :: q,X,db,j+1,s',r',hk,h,hj=>by
  rw[tells,Bool.and_eq_true] at h
  exact tells_at q (nextOf X s) (after db s) j s' r' (hk.next s).1 h.2 (by simpa using hj)
theorem keeps_run:∀(l:List ByteArray) {X:NTree} {db:List Tab},Keeps2 X db→Keeps2 (runX X l) (runD db l)
 | [],_,_,h=>h
 | s :: r,_,_,h=>keeps_run r (h.next s).1
theorem few_dig (wide:Nat){X Y:NTree}{a b:List Tab}(h:Keeps2 X a)(k:Keeps2 Y b)(he:encDB a=encDB b)(hl:(encDB a).length≤3):digOf wide X=digOf wide Y:=by
 have key:∀{X:NTree} {db:List Tab},Keeps2 X db→encDB db=encDB a→∃t,X=⟨0,t⟩∧rep 0 t (encDB a):=by
  intro X db h he
  obtain⟨x,h1,h2,h3⟩:=h.st.fine h.good
  obtain⟨x',g1,g2,g3,g4⟩:=h.st.at_
  obtain⟨n,t,y,rfl,rfl,hr⟩:=g1.cases
  cases n with
  | zero =>
   have e:y=encDB a:=by rw[←he];exact g4
   subst e
   exact⟨t,rfl,hr⟩
  | succ n =>
   exfalso
   have hk:=g2.kids
   have htw:2≤y.length:=g2.two.resolve_left (by simp)
   have hen:(ents (n+1) y).length≤3:=by
    have:ents (n+1) y=encDB db:=g4
    rw[this,he];exact hl
   have h4:4≤(ents (n+1) y).length:=by
    have hs:∀l:List (List (Kid n)),(∀c∈l,c∈(show List (List (Kid n)) from y))→2 * l.length≤(l.flatMap (ents n)).length:=by
     intro l
     induction l with
     | nil=>intro _;simp
     | cons c r ih =>
      intro hl
      have h2:=jQ0 hk (hl c (by simp))
      have h3:=jQmx h2.2
      have h4:=ih fun x hx=>hl x (by simp[hx])
      rw[List.flatMap_cons,List.length_append,List.length_cons]
      omega
    have:=hs y fun c hc=>hc
    have h9:List.length (α:=List (Kid n)) y=y.length:=rfl
    have h10:(List.flatMap (ents n) y).length=(ents (n+1) y).length:=rfl
    omega
   omega
 obtain⟨t,rfl,ht⟩:=key h rfl
 obtain⟨u,rfl,hu⟩:=key k he.symm
 have hrel:eraseN 0 t=eraseN 0 u:=ht.trans hu.symm
 have hd:∀v:Nd 0,digN (HS wide) 0 (eraseN 0 v)=digN (HS wide) 0 v:=by
  intro v
  have hk:NodeF.kids v=[]:=by
   cases hq:NodeF.kids v with
   | nil=>rfl
   | cons c _=>exact c.elim
  show digF _ _ _ (eraseF _ v)=digF _ _ _ v
  unfold digF eraseF bytesF writtenF sizeF
  simp only[hk]
  rfl
 show digN (HS wide) 0 t=digN (HS wide) 0 u
 rw[←hd t,←hd u,hrel]
def allM:Bool:=tells [] scriptM && entsQ (encDB (runD [] (scriptM.map Prod.fst))) (encDB (runD [] [createM])) && Decidable.decide ((encDB (runD [] [createM])).length≤3)
theorem allM_so:allM=true:=by decide +kernel
def TM (j:Nat):NTree:=runX ntree0 ((scriptM.map Prod.fst).take j)
theorem TM_at (j:Nat)(s r:ByteArray)(h:scriptM[j]?=some (s,r)):repOf (TM j) s=r∧TM (j+1)=nextOf (TM j) s:=by
 have h1:=allM_so
 unfold allM at h1
 rw[Bool.and_eq_true,Bool.and_eq_true] at h1
 exact tells_at scriptM ntree0 [] j s r keeps0 h1.1.1 h
theorem TM_end (wide:Nat):digOf wide (TM 122)=digOf wide (TM 1):=by
 have h1:=allM_so
 unfold allM at h1
 rw[Bool.and_eq_true,Bool.and_eq_true] at h1
 have h2:=entsQ_eq h1.1.2
 have e1:TM 122=runX ntree0 (scriptM.map Prod.fst):=by
  unfold TM
  rw[List.take_of_length_le]
  simp[scriptM,insL,delL]
 have e2:TM 1=runX ntree0 [createM]:=rfl
 rw[e1,e2]
 exact few_dig wide (keeps_run _ keeps0) (keeps_run _ keeps0) h2 (by rw[h2];exact of_decide_eq_true h1.2)
theorem TM_good (j:Nat):goodX (TM j):=goodX_run _ goodX0
theorem at_create:scriptM[0]?=some (createM,⟨#[48,59]⟩):=rfl
theorem at_ins (i:Nat)(h:i < 60):scriptM[i+1]?=some (insM (HMod.hMod (i * 7) 60),insR i):=by
 unfold scriptM
 rw[List.getElem?_cons_succ,List.getElem?_append_left (by simp[insL];exact h)]
 unfold insL
 rw[List.getElem?_map,List.getElem?_range h]
 rfl
theorem at_count:scriptM[61]?=some (countM,⟨#[53,57,59]⟩):=by
 unfold scriptM
 rw[List.getElem?_cons_succ,List.getElem?_append_right (by simp[insL])]
 simp[insL]
theorem at_del (i:Nat)(h:i < 59):scriptM[i+62]?=some (delM (HMod.hMod (i * 11) 60),delR i):=by
 unfold scriptM
 rw[List.getElem?_cons_succ,List.getElem?_append_right (by simp[insL])]
 rw[show i+61 - insL.length=i+1 by simp[insL],List.getElem?_cons_succ,List.getElem?_append_left (by simp[delL];exact h)]
 unfold delL
 rw[List.getElem?_map,List.getElem?_range h]
 rfl
theorem at_wipe:scriptM[121]?=some (wipeM,⟨#[49,59]⟩):=by
 unfold scriptM
 rw[List.getElem?_cons_succ,List.getElem?_append_right (by simp[insL])]
 rw[show 120 - insL.length=59+1 by simp[insL],List.getElem?_cons_succ,List.getElem?_append_right (by simp[delL])]
 simp[delL]
end Sq
section
open Go.RowKit
theorem ownM_fresh (w:World)(e:TypeId)(n:Nat)(cs:Array Value)(h:cs.size=n)(hn:n≤1000):(w.alloc (.cells cs e)).ownsRow w.heap.size e 1 (.slice (some ⟨w.heap.size,0,none⟩) n n) n cs.toList:=by
 refine⟨by simpa using h,Or.inr ⟨w.heap.size,n,cs,rfl,Nat.le_refl _,jQaB w _,Nat.le_refl _,by unfold maxLen;omega,by omega,?_⟩⟩
 exact List.take_of_length_le (by simp[h])
theorem u8M_nat (n:Nat)(h:n < 256):(UInt8.ofNat n).toNat=n:=by rw[UInt8.toNat_ofNat'];omega
theorem digitsM_any (n:Nat)(w:World)(hn:n < 100) :
  Calls Tryz.prog 27 #[.int .i64 n] w fun e w'=>e=.returned (.string (Sq.dgM n))∧Below w.heap.size w w':=by
 by_cases h:n < 10
 ·have HE:Hid (Sq.dgM n=⟨[UInt8.ofNat (48+n)].toArray⟩):=by show _=_;unfold Sq.dgM;rw[if_pos h]
  have hbuf:BufAt w.heap.size (w.alloc (.cells #[.int .u8 (48+(n:Int))] 5)) (.slice (some ⟨w.heap.size,0,none⟩) 1 1) [UInt8.ofNat (48+n)]:=by
   have h1:=ownM_fresh w 5 1 #[.int .u8 (48+(n:Int))] rfl (by omega)
   unfold BufAt
   simp only[List.map_cons,List.map_nil,u8M_nat (48+n) (by omega),List.length_cons,List.length_nil]
   rw[show((48+n:Nat):Int)=48+(n:Int) by omega]
   exact h1
  have hcv:=jQb5 _ _ _ _ hbuf
  rw[←HE.out] at hcv
  have HCV:=hd hcv
  clear hbuf hcv
  go_enter Tryz.func27,Tryz.ntmps27
  go_wp2
  rw[HCV.out]
  go_wp2
  go_ret
  exact⟨rfl,(Below.refl _ _).alloc (Nat.le_refl _) _⟩
 ·have HE:Hid (Sq.dgM n=⟨[UInt8.ofNat (48+n / 10),UInt8.ofNat (48+(HMod.hMod n 10:Nat))].toArray⟩):=by show _=_;unfold Sq.dgM;rw[if_neg h]
  have hbuf:BufAt w.heap.size (w.alloc (.cells #[.int .u8 (48+(n:Int) / 10),.int .u8 ((48:Int)+HMod.hMod (n:Int) (10:Int))] 5)) (.slice (some ⟨w.heap.size,0,none⟩) 2 2) [UInt8.ofNat (48+n / 10),UInt8.ofNat (48+(HMod.hMod n 10:Nat))]:=by
   have h1:=ownM_fresh w 5 2 #[.int .u8 (48+(n:Int) / 10),.int .u8 ((48:Int)+HMod.hMod (n:Int) (10:Int))] rfl (by omega)
   unfold BufAt
   simp only[List.map_cons,List.map_nil,u8M_nat (48+n / 10) (by omega),u8M_nat (48+(HMod.hMod n 10:Nat)) (by omega),List.length_cons,List.length_nil]
   rw[show((48+n / 10:Nat):Int)=48+(n:Int) / 10 by omega,show((48+(HMod.hMod n 10:Nat):Nat):Int)=(48:Int)+HMod.hMod (n:Int) (10:Int) by omega]
   exact h1
  have hcv:=jQb5 _ _ _ _ hbuf
  rw[←HE.out] at hcv
  have HCV:=hd hcv
  clear hbuf hcv
  go_enter Tryz.func27,Tryz.ntmps27
  go_wp2
  rw[HCV.out]
  go_wp2
  go_ret
  exact⟨rfl,(Below.refl _ _).alloc (Nat.le_refl _) _⟩
end
section
open Go.RowKit
theorem Sq.dgM_size (n:Nat):(Sq.dgM n).size≤2:=by unfold Sq.dgM;split <;> simp[ByteArray.size]
theorem filled_any (c:Int)(w:World)(h0:-9223372036854775808≤c)(h1:c≤9223372036854775807)(hT:Tbl w)(hR:Rnd w) :
  Calls Tryz.prog 9 #[.int .i64 c] w fun e w'=>e=.returned (.bool true)∧Below w.heap.size w w':=by
 have hpk:=Sq.jQjA c 32 (by decide)
 obtain⟨k,hk⟩:=Int.eq_ofNat_of_zero_le hpk.1
 have hk32:k < 32:=by omega
 have HK:=hd hk
 obtain⟨P,hP⟩:∃P:Nat→World→Prop,∀j w',P j w'↔(SrvAt w.heap.size w' (k+1) (Sq.TM j)∧Below w.heap.size w w'):=⟨_,fun _ _=>Iff.rfl⟩
 obtain⟨D,hD⟩:∃D:Nat→ByteArray,∀j,Sq.digOf (k+1) (Sq.TM j)=D j:=⟨_,fun _=>rfl⟩
 have hD1:(D 1).size=k+1:=by rw[←hD];exact(Sq.TM_good 1).dig (by omega)
 have hDE:D 122=D 1:=by rw[←hD,←hD];exact Sq.TM_end _
 have hnew:Calls Tryz.prog 14 #[.int .i64 ((k:Int)+1)] w fun e w'=>e=.returned (.tuple #[.pointer (some ⟨w.heap.size,0,none⟩),.int .i64 0])∧P 0 w' :=
  (jQnZ (k+1) w (by omega) (by omega)).mono fun e w' hh=>⟨hh.1,(hP _ _).2 ⟨by rw[hh.2];exact SrvAt.new _ _,by rw[hh.2];exact(Below.refl _ _).alloc (Nat.le_refl _) _⟩⟩
 have hroot:∀j w',P j w'→Calls Tryz.prog 29 #[.pointer (some ⟨w.heap.size,0,none⟩)] w' fun e w''=>e=.returned (.string (D j))∧P j w'':=fun j w' hp =>
  (SrvRoot_any w.heap.size (k+1) (Sq.TM j) 99998 w' (by omega) ((hP _ _).1 hp).1 (Sq.TM_good j).choose_spec.tame (hR.below ((hP _ _).1 hp).2)).mono fun e w'' hh=>⟨by rw[hh.1];show _=Ending.returned (Value.string (D j));rw[←hD];rfl,(hP _ _).2 ⟨((hP _ _).1 hp).1.below hh.2,((hP _ _).1 hp).2.trans (hh.2.mono ((hP _ _).1 hp).2.size)⟩⟩
 have hrun:∀j s r w',Sq.scriptM[j]?=some (s,r)→P j w'→Calls Tryz.prog 16 #[.pointer (some ⟨w.heap.size,0,none⟩),.string s] w' fun e w''=>∃nb,e=.returned (.agg #[.string r,.string nb,.string (D (j+1))])∧P (j+1) w''∧Moved w.heap.size w' w'':=fun j s r w' hs hp=>by
  have ht:=Sq.TM_at j s r hs
  refine(jQsj w.heap.size (k+1) (Sq.TM j) _ s w' (by omega) ((hP _ _).1 hp).1 (Sq.TM_good j).choose_spec (hT.below ((hP _ _).1 hp).2) (hR.below ((hP _ _).1 hp).2)).mono fun e w'' hh=>?_
  rw[ht.1,←ht.2,hD] at hh
  exact⟨_,hh.1,(hP _ _).2 ⟨hh.2.1,((hP _ _).1 hp).2.trans (hh.2.2.below (Nat.le_refl _) ((hP _ _).1 hp).2.size)⟩,hh.2.2⟩
 have hal:∀j w' o,P j w'→P j (w'.alloc o):=fun j w' o hp=>(hP _ _).2 ⟨((hP _ _).1 hp).1.below ((Below.refl _ _).alloc (Nat.le_refl _) _),((hP _ _).1 hp).2.alloc ((hP _ _).1 hp).2.size _⟩
 have hlt:∀j w',P j w'→w.heap.size < w'.heap.size:=fun j w' hp=>((hP _ _).1 hp).1.lt
 have hbl:∀j w',P j w'→Below w.heap.size w w':=fun j w' hp=>((hP _ _).1 hp).2
 have hdn:∀j w' w'',P j w'→Below w'.heap.size w' w''→P j w'':=fun j w' w'' hp hb=>(hP _ _).2 ⟨((hP _ _).1 hp).1.below hb,((hP _ _).1 hp).2.trans (hb.mono ((hP _ _).1 hp).2.size)⟩
 have hst:∀j w' A c x y z,P j w'→w.heap.size < A→w'.heap[A]?=some (.cells c 30)→P j (((w'.setCell ⟨A,0,none⟩ x).setCell ⟨A,1,none⟩ y).setCell ⟨A,2,none⟩ z):=fun j w' A c x y z hp hA hc=>by
  obtain⟨⟨ev,cv,g1,g2⟩,hb⟩:=(hP _ _).1 hp
  exact(hP _ _).2 ⟨⟨ev,cv,(jQD (by omega) _ _ _ _ _ _).trans g1,g2.keep ((((Keep.refl _ w').setA _ hc).setA _ hc).setA _ hc)⟩,jQaE hb (Nat.le_of_lt hA) _ _ _⟩
 have HST:=hd hst
 have HNEW:=hd hnew
 have HROOT:=hd hroot
 have HRUN:=hd hrun
 have HAL:=hd hal
 have HLT:=hd hlt
 have HBL:=hd hbl
 have HDN:=hd hdn
 have HDE:=hd hDE
 clear hnew hst hroot hrun hal hlt hbl hdn hDE hD hP hT hR hpk hk
 go_enter Tryz.func9,Tryz.ntmps9
 go_wp2_with (first
  | (go_at_call 13;refine(jQch c 32 _ h0 h1 (by decide) (by decide)).mono ?_;rintro e w' ⟨rfl,hw'⟩;rw[hw',HK.out];clear hw' w')
  | (go_at_call 14;refine HNEW.out.mono ?_;rintro e w0 ⟨rfl,hp0⟩;have HP0:=hd hp0;clear hp0))
 refine(HRUN.out 0 _ _ _ Sq.at_create HP0.out).mono ?_
 rintro e w1 ⟨nbw1,rfl,hp1,-⟩
 have HP1:=hd hp1
 clear hp1 HP0
 go_wp2_with fail
 refine(HROOT.out 1 _ HP1.out).mono ?_
 rintro e w2 ⟨rfl,hp2⟩
 have HP2:=hd hp2
 clear hp2 HP1
 go_wp2
 go_loopw [8] (fun i wr=>∃j:Nat,j≤60∧i=.int .i64 j∧P (j+1) wr) (fun i _=>60 - (intOf i).toNat)
 case atStart=>exact⟨0,by omega,rfl,HP2.out⟩
 case round =>
  obtain⟨j,hj,rfl,hpj⟩:=hrel
  have HPJ:=hd hpj
  clear hpj HP2
  by_cases hjl:j < 60
  ·have hins:=Sq.at_ins j hjl
   obtain⟨n,hn⟩:∃n:Nat,n=HMod.hMod (j * 7) 60:=⟨_,rfl⟩
   rw[←hn] at hins
   have hn60:n < 60:=by omega
   have HN:=hd (show(HMod.hMod ((j:Int) * 7) (60:Int))=(n:Int) by omega)
   have hj59:(j:Int)≤59:=by omega
   have hrep:Sq.insR j=if j < 59 then⟨#[49,59]⟩ else⟨#[33,49,48]⟩:=rfl
   by_cases hj9:j < 59
   ·have hj9':(j:Int) < 59:=by omega
    rw[hrep,if_pos hj9] at hins
    have HINS:=hd hins
    clear hins hn hrep
    go_wp2_with fail
    rw[HN.out]
    refine(digitsM_any n _ (by omega)).mono ?_
    rintro e w3 ⟨rfl,hb3⟩
    have hgz:=Sq.dgM_size n
    have HP3:=hd (HDN.out _ _ _ HPJ.out hb3)
    clear hb3 HPJ
    go_wp2_with fail
    refine(HRUN.out (j+1) (Sq.insM n) _ _ HINS.out HP3.out).mono ?_
    rintro e w4 ⟨nbw4,rfl,hp4,-⟩
    have HP4:=hd hp4
    clear hp4 HP3
    go_wp2
    go_roundw
    case rel=>exact⟨j+1,by omega,by go_num,HAL.out _ _ _ HP4.out⟩
    case measure=>simp[intOf];omega
   ·have hj9':¬((j:Int) < 59):=by omega
    obtain rfl:j=59:=by omega
    obtain rfl:n=53:=by omega
    rw[hrep,if_neg hj9] at hins
    have HINS:=hd hins
    clear hins hn hrep
    go_wp2_with fail
    refine(digitsM_any 53 _ (by omega)).mono ?_
    rintro e w3 ⟨rfl,hb3⟩
    have hgz:=Sq.dgM_size 53
    have HP3:=hd (HDN.out _ _ _ HPJ.out hb3)
    clear hb3 HPJ
    go_wp2_with fail
    refine(HRUN.out (59+1) (Sq.insM 53) _ _ HINS.out HP3.out).mono ?_
    rintro e w4 ⟨nbw4,rfl,hp4,-⟩
    have HP4:=hd hp4
    clear hp4 HP3
    go_wp2
    go_roundw
    case rel=>exact⟨59+1,by omega,by go_num,HAL.out _ _ _ HP4.out⟩
    case measure=>simp[intOf]
  ·obtain rfl:j=60:=by omega
   go_wp2_with fail
   refine(HRUN.out 61 Sq.countM _ _ Sq.at_count HPJ.out).mono ?_
   rintro e w3 ⟨nbw3,rfl,hp3,-⟩
   have HP3:=hd hp3
   clear hp3 HPJ
   go_wp2
   have hz3:=HLT.out _ _ HP3.out
   go_loopw [12] (fun i wr=>∃j:Nat,j≤59∧i=.int .i64 j∧P (j+62) wr∧∃s0 s1 s2,wr.heap[w3.heap.size]?=some (.cells #[.string s0,.string s1,.string s2] 30)) (fun i _=>59 - (intOf i).toNat)
   case atStart=>exact⟨0,by omega,rfl,HAL.out _ _ _ HP3.out,_,_,_,jQaB _ _⟩
   case round =>
    obtain⟨j,hj,rfl,hpj,s0,s1,s2,hans⟩:=hrel
    have HPJ:=hd hpj
    clear hpj HP3
    by_cases hjl:j < 59
    ·have hdel:=Sq.at_del j hjl
     obtain⟨n,hn⟩:∃n:Nat,n=HMod.hMod (j * 11) 60:=⟨_,rfl⟩
     rw[←hn] at hdel
     have hn60:n < 60:=by omega
     have HN:=hd (show(HMod.hMod ((j:Int) * 11) (60:Int))=(n:Int) by omega)
     have hrep:Sq.delR j=if j=43 then⟨#[48,59]⟩ else⟨#[49,59]⟩:=rfl
     have hj2:(j:Int) < 59:=by omega
     obtain⟨r,hr,hrr⟩:∃r,Sq.delR j=r∧(r=⟨#[48,59]⟩∨r=⟨#[49,59]⟩):=by
      refine⟨_,rfl,?_⟩
      rw[hrep]
      split
      ·exact Or.inl rfl
      ·exact Or.inr rfl
     rw[hr] at hdel
     have HDEL:=hd hdel
     clear hdel hn hr hrep
     go_wp2_with fail
     rw[HN.out]
     refine(digitsM_any n _ (by omega)).mono ?_
     rintro e w4 ⟨rfl,hb4⟩
     have hgz:=Sq.dgM_size n
     have hk4:=(hb4.block w3.heap.size (jQg hans)).trans hans
     have HP4:=hd (HDN.out _ _ _ HPJ.out hb4)
     have HK4:=hd hk4
     have hz4:=jQg hk4
     clear hb4 hk4 hans HPJ
     go_wp2_with fail
     refine(HRUN.out (j+62) (Sq.delM n) _ _ HDEL.out HP4.out).mono ?_
     rintro e w5 ⟨nbw5,rfl,hp5,hm5⟩
     have hk5:=(hm5.block w3.heap.size hz4 (by omega)).trans HK4.out
     obtain⟨m0,m1,m2,f0,f1,f2⟩:=ans3 hk5
     have hz5:=jQg hk5
     have HP5:=hd (HST.out _ _ _ _ (.string r) (.string nbw5) (.string (D (j+62+1))) hp5 hz3 hk5)
     have HK5:=hd (jQdb hk5 (.string r) (.string nbw5) (.string (D (j+62+1))))
     clear hp5 hm5 hk5 HP4 HK4
     rcases hrr with rfl | rfl
     ·go_wp2
      go_roundw
      case rel=>exact⟨j+1,by omega,by go_num,(by have:=HP5.out;rw[show j+62+1=j+1+62 by omega] at this;exact this),_,_,_,HK5.out⟩
      case measure=>simp[intOf];omega
     ·go_wp2
      go_roundw
      case rel=>exact⟨j+1,by omega,by go_num,(by have:=HP5.out;rw[show j+62+1=j+1+62 by omega] at this;exact this),_,_,_,HK5.out⟩
      case measure=>simp[intOf];omega
    ·obtain rfl:j=59:=by omega
     clear hans
     go_wp2_with fail
     refine(HRUN.out 121 Sq.wipeM _ _ Sq.at_wipe HPJ.out).mono ?_
     rintro e w4 ⟨nbw4,rfl,hp4,-⟩
     have HP4:=hd hp4
     clear hp4 HPJ
     go_wp2_with fail
     refine(HROOT.out 122 _ HP4.out).mono ?_
     rintro e w5 ⟨rfl,hp5⟩
     rw[HDE.out]
     have HP5:=hd hp5
     clear hp5 HP4
     go_wp2
     go_ret
     exact⟨rfl,HBL.out _ _ HP5.out⟩
end
section
open Go.ChangeShapes Go.WideShapes Go.RowKit
theorem filled_lifted (hk:∀(c:Int) (w:World),-9223372036854775808≤c→c≤9223372036854775807→Tbl w→Rnd w→Calls Tryz.prog 9 #[.int .i64 c] w fun e w'=>e=.returned (.bool true)∧Below w.heap.size w w')
  (os:Os) (started:os.Started) (H:Type) (enc:TypeId×Value→H) :
  ReturnsInHanded {} Tryz.checked os 9 .any (fun w args=>(Rows.filledSpec.pre enc Tryz.prog Tryz.f9 [] false w args∧laidMetH Tryz.prog laid4 w)∧sizedMet enc Tryz.prog Tryz.f9 (OpenSpec.ofChange Rows.filledSpec) false w args)
   (Rows.filledSpec.post enc Tryz.prog Tryz.f9 false true false false):=by
 refine returnsInHanded_of_change_and (C:=Tryz.checked) (X:=fun w _=>laidMetH Tryz.prog laid4 w) (fun _ _ _ hh h=>h.of_heap hh) Tryz.own started (by kernel_rfl) Tryz.func9
  (ChangeSpec.witness_shaped (enc:=enc) (C:=Tryz.checked) (os:=os) (X:=fun w _=>laidMetH Tryz.prog laid4 w) false (World.doorLaid Tryz.prog 400 os) #[.int .i64 0] 8 rfl (World.shaped_of_RefB (by kernel_rfl) (by kernel_rfl)) (by kernel_rfl) (by kernel_rfl) (by kernel_rfl) (jQeU os _)) ?_
 intro W base args ds gs before hval0 hW _ _ hL _
 have hval:∀(j:Nat) t v,Tryz.f9.params[j]?=some t→args[j]?=some v→Value.okWide Tryz.prog W .any base t v:=hval0
 have hW':=hW
 obtain⟨p,q,hA0,hV,rfl,hfz,hnd⟩:=hW
 have hA:DataW.TrodAll enc Tryz.prog W 0 (fun _=>true) true Tryz.f9.params.toList args.toList ds p:=hA0
 rw[Tryz.params9] at hA hval
 obtain⟨v0,d0,rfl,rfl,h0⟩:=trodAll_one hA
 obtain⟨rfl,rfl⟩:=trodVars_none hV
 obtain⟨n,rfl,rfl,rfl,hwn⟩:=open_int Tryz.underlying3 (hval 0 3 v0 rfl rfl) h0
 have hn:-9223372036854775808≤n∧n≤9223372036854775807:=by
  have h9:=hwn
  unfold Lit.wf at h9
  simp only[Bool.and_eq_true,decide_eq_true_eq] at h9
  exact h9
 clear hA0 hval0
 simp only[List.append_nil] at hW'
 refine(hk n W hn.1 hn.2 (jQbh hL) (jQbj hL)).mono ?_
 rintro e W' ⟨rfl,bel⟩
 refine⟨_,rfl,_,_,_,[],[],[],hW',?_,?_,?_,bel.frame _,fun h=>by cases h⟩
 ·exact trodAll_mk1 (shut_bool Tryz.underlying4 true)
 ·exact trodAll_mk1 (shut_int Tryz.underlying3 hwn)
 ·rfl
end
section
open Go
theorem filled_said:Rows.FilledSaid :=
 OpenClaim.holds_of_wide 9 Tryz.f9 rfl rfl rfl rfl rfl rfl rfl ⟨rfl,rfl,rfl,rfl,rfl⟩ rfl rfl rfl rfl rfl (by kernel_rfl) Tryz.func9 (by kernel_rfl)
  (of_decide_eq_true (by kernel_rfl)) (by unfold Func.isWrapper;rw[if_neg (of_decide_eq_false (by kernel_rfl))];exact⟨rfl,rfl⟩)
  (fun os started H enc _=>filled_lifted filled_any os started H enc)
theorem filled_holds:Rows.FilledCardSaid :=
 Claim7.holds_tied_plain_at .later [] [.data,.data,.data,.data] true (true,"ec40f028bf27107b1e2e7a6e246abdf04549d0a3ff8365d6173cd0d8cd25c100") false
  filled_said (fun _ h=>by cases h) (by kernel_rfl) (fun _ h=>by cases h) filled_row_tie rfl ⟨rfl,rfl⟩ (by kernel_rfl) rfl
  (fun f fn hf hfn=>by
   obtain rfl:f=9:=Option.some.inj ((show Tryz.prog.funcNamed "sqlproof/sqlproofkeep.Filled"=some 9 by kernel_rfl).symm.trans hf) |>.symm
   obtain rfl:fn=Tryz.f9:=(Option.some.inj (Tryz.func9.symm.trans hfn)).symm
   exact⟨by kernel_rfl,fun j t ht=>by
    rw[Tryz.params9] at ht
    have h3:t=3:=by
     rcases j with _ | j
     ·simpa using ht.symm
     ·simp at ht
    subst h3
    exact(show Tryz.prog.wantsStandIn 3=false by kernel_rfl)⟩)
  (by kernel_rfl)
#print axioms filled_holds
end
end Go.Proofs.YtahpihjialbanaaGreatDoor
