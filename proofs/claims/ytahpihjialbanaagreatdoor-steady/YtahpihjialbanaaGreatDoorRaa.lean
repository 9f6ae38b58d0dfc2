import Derived.ArgAppend
import Derived.BigQuiet
import Derived.BigRegion
import Derived.Deep.AppendLies
import Derived.Deep.Cut
import Derived.Deep.CutRange
import Derived.Deep.LoopGhost
import Derived.Deep.QuietTactic
import Derived.Deep.RegionHeld3
import Derived.Deep.RegionLaw
import Derived.Deep.WholeRow
import Derived.Laws.AppendOwnNone
import Derived.Laws.BitsAllLaws
import Derived.Laws.CopyOwn
import Derived.Laws.Rows
import Derived.Lib.AppendIntMem
import Derived.Lib.AppendStr
import Derived.Lib.AtoiErrMem
import Derived.Lib.ConvBytes
import Derived.Lib.ItoaLen
import Derived.Lib.ItoaNum
import Derived.Lib.LaidTab
import Derived.Lib.Strings
import Derived.Shelf.LaysM
import Derived.Shelf.Strconv.Itoa0
import Derived.Shelf.Strconv.Itoa1
import Derived.Shelf.Strconv.Itoa2
import Derived.Shelf.Strconv.Itoa3
import Derived.Shelf.Strconv.Itoa4
import Derived.Test.YtahpihjialbanaaGreatDoorProg
import Derived.WalkKit
import Derived.WalkLawsBesides
import Derived.WalkSpells
import Derived.Test.YtahpihjialbanaaGreatDoorQcf
set_option linter.unusedVariables false
set_option linter.unusedSimpArgs false
set_option maxRecDepth 100000
set_option maxHeartbeats 1000000
namespace Go.Proofs.YtahpihjialbanaaGreatDoor
section
open Go.RowKit
theorem SrvRoot_any (sb wide:Nat)(X:Sq.NTree)(K:Int)(w:World)(hw:wide≤32)(h:SrvAt sb w wide X)(ht:Sq.tameN K X.d X.t)(hR:Rnd w) :
  Calls Tryz.prog 29 #[.pointer (some ⟨sb,0,none⟩)] w fun e w'=>e=.returned (.string (Sq.digN (HS wide) X.d X.t))∧Below w.heap.size w w':=by
 obtain⟨ev,cv,hblk,hn⟩:=h
 obtain⟨⟨e1,e2,e3,hev⟩,k1,k2,k3,hcv⟩:=hn.slices
 subst hev hcv
 have hk:∀w',Below w.heap.size w w'→Calls Tryz.prog 37 #[.agg (headCells X.head (.slice e1 e2 e3) (.slice k1 k2 k3)).toArray,.int .i64 wide] w' fun e w''=>e=.returned (.string (Sq.digN (HS wide) X.d X.t))∧Below w'.heap.size w' w'':=fun w' hb=>(jQc7 wide hw K _ _ _ _ w' (hn.below hb) ht (hR.below hb)).2
 rw[jQc] at hk hblk
 have hb2:w.heap[sb]?=some (.cells #[.int .i64 wide,.bool X.head.inner,.slice e1 e2 e3,.slice k1 k2 k3,.int .i64 X.head.least,.int .i64 X.head.rows,.string X.head.sl,.int .i64 X.head.num] 62):=hblk
 obtain⟨c0,c1,c2,c3,c4,c5,c6,c7⟩:=jQge hb2
 have hz:=jQg hb2
 have HK:=hd hk
 clear hk hn hblk hb2 ht hR
 generalize Sq.digN (HS wide) X.d X.t=dg at *
 generalize X.head=xh at *
 go_enter Tryz.func29,Tryz.ntmps29
 go_wp2
 go_region_with (go_at_call 37;refine(HK.out _ (Below.drew (Below.refl _ _))).mono ?_;rintro e w5 ⟨rfl,hb5⟩;have HB5:Hid (Below w.heap.size w w5):=(Below.drew (Below.refl _ _)).trans hb5;clear hb5)
 all_goals(try go_wp2)
 all_goals
  go_ret
  exact⟨rfl,HB5.out⟩
end
namespace Sq
def runX (X:NTree):List ByteArray→NTree
 | []=>X
 | s :: r=>runX (nextOf X s) r
def goodX (X:NTree):Prop:=∃db,Keeps2 X db
theorem goodX0:goodX ntree0:=⟨[],keeps0⟩
theorem goodX.next {X:NTree}(h:goodX X)(sql:ByteArray):goodX (nextOf X sql):=by
 obtain⟨db,h⟩:=h
 exact⟨_,(h.next sql).1⟩
theorem goodX_run:∀(l:List ByteArray) {X:NTree},goodX X→goodX (runX X l)
 | [],_,h=>h
 | s :: r,_,h=>goodX_run r (h.next s)
theorem goodX.dig {X:NTree}(h:goodX X){wide:Nat}(hw:wide≤32):(digOf wide X).size=wide:=by
 obtain⟨db,h⟩:=h
 obtain⟨x,h1,h2,h3⟩:=h.st.fine h.good
 obtain⟨n,t,y,rfl,rfl,hr⟩:=h1.cases
 exact jQgA (jQn1 hw) hr.open
end Sq
end Go.Proofs.YtahpihjialbanaaGreatDoor
