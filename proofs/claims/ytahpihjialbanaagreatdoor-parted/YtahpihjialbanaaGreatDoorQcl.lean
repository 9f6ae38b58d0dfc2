import Derived.Test.YtahpihjialbanaaGreatDoorQck
set_option linter.unusedVariables false
set_option linter.unusedSimpArgs false
set_option maxRecDepth 100000
set_option maxHeartbeats 2000000
namespace Go.Proofs.YtahpihjialbanaaGreatDoor
section
open Go.RowKit
theorem jQmp (v:Value)(l:List ByteArray)(cond:ByteArray)(w:World)(h:Strs w v l)(hc:cond.size≤1000000000000000)(hT:Tb2 w) :
  Calls Tryz.prog 4 #[v,.string cond] w fun e w'=>e=.returned (.bool true)∧Below w.heap.size w w':=by
 have HS:=hd h
 have HT:=hd hT
 clear h hT
 go_enter Tryz.func4,Tryz.ntmps4
 go_wp2_with fail
 refine(jQd3 w HT.out).mono ?_
 rintro e w1 ⟨rfl,hb1⟩
 have hz1:=hb1.size
 have HB1:=hd hb1
 have HS1:=hd (HS.out.below hb1 (Nat.le_refl _))
 have HT1:=hd (HT.out.below hb1)
 clear hb1
 go_wp2_with fail
 refine(jQdK l v w1 HS1.out HT1.out).mono ?_
 rintro e w2 (⟨hbig,rfl,hw2⟩ | ⟨wb,sb,hno,rfl,hW,hb2⟩)
 ·subst hw2
  have HBG:=hd hbig
  clear hbig
  go_wp2_with fail
  refine(jQgo l v _ HS1.out).mono ?_
  rintro e w3 ⟨rfl,hw3⟩
  rw[hw3,HBG.out]
  clear hw3 w3
  go_wp2
  go_ret
  exact⟨rfl,HB1.out⟩
 ·have hlive:Live w2 wb sb (Sq.afterAll [] l):=⟨hW.blk,hW.db,Sq.jQad _ Sq.jQbc,HT1.out.below hb2⟩
  have HLV:=hd hlive
  have HB2:=hd (HB1.out.trans (hb2.mono hz1))
  have hz2:=hb2.size
  clear hno hW hb2 hlive
  by_cases hlen:160 < cond.size
  ·go_wp2
   go_ret
   exact⟨rfl,HB2.out⟩
  ·go_wp2_with fail
   refine(jQoF wb sb _ cond w2 HLV.out (by omega)).mono ?_
   rintro e w3 ⟨rfl,hb3⟩
   have HB3:=hd (HB2.out.trans (hb3.mono (by omega)))
   clear hb3
   go_wp2
   go_ret
   exact⟨rfl,HB3.out⟩
end
end Go.Proofs.YtahpihjialbanaaGreatDoor
