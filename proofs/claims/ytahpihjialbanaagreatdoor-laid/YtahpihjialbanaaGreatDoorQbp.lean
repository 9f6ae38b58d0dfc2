import Derived.Test.YtahpihjialbanaaGreatDoorQbl
import Derived.Test.YtahpihjialbanaaGreatDoorQbo
set_option linter.unusedVariables false
set_option linter.unusedSimpArgs false
set_option maxRecDepth 100000
set_option maxHeartbeats 400000
namespace Go.Proofs.YtahpihjialbanaaGreatDoor
section
open Go.RowKit
theorem jQd6 (sb:Nat)(db:List Sq.Tab)(sql:ByteArray)(w:World)(h:DB sb w db)(_hg:Sq.good db)(hT:Tb2 w) :
  Calls Tryz.prog 22 #[.pointer (some ⟨sb,0,none⟩),.string sql] w fun e w'=>∃pf dg,e=.returned (answer (Sq.decide db sql).reply pf dg)∧Below w.heap.size w w':=by
 obtain⟨wide,X,h1,h2,h3,h4⟩:=h
 refine(jQry sb wide X db sql w h2 h3 h4 hT.t hT.r).mono ?_
 rintro e w' ⟨rfl,hb⟩
 exact⟨_,_,by rw[(h4.next sql).2];rfl,hb⟩
end
namespace Sq
theorem jQG (s:ByteArray):s.size=s.data.toList.length:=by simp
theorem jQj (a b:ByteArray):(a++b).data.toList=a.data.toList++b.data.toList:=by simp
theorem jQaz (cols:List Col)(items:List ByteArray)(r:List Val)(q:List (List Val)):listed cols items (r :: q)=rowText cols r items++59 :: listed cols items q:=by
 unfold listed;rw[List.flatMap_cons];simp
end Sq
section
open Go.RowKit
def Sq.bang (s:ByteArray):Bool:=s.data.toList.head?==some 33
theorem Sq.jQsg (s:ByteArray)(h:0 < s.size):Sq.bang s=((s[0].toNat:Int)==33):=by
 have h':0 < s.data.toList.length:=by simpa using h
 unfold Sq.bang
 rw[List.head?_eq_getElem?,List.getElem?_eq_getElem h']
 show(some s[0]==some 33)=_
 rw[Bool.eq_iff_iff]
 simp
 constructor
 ·intro h;rw[h];rfl
 ·intro h;apply UInt8.toNat_inj.1;show _=33;omega
theorem Sq.jQsh (s:ByteArray)(h:¬0 < s.size):Sq.bang s=false:=by
 have h':s.data.toList=[]:=List.eq_nil_of_length_eq_zero (by rw[←Sq.jQG];omega)
 unfold Sq.bang
 rw[h'];rfl
theorem jQ4 (s:ByteArray)(w:World)(hs:s.size≤1000000000) :
  Calls Tryz.prog 23 #[.string s] w fun e w'=>e=.returned (.bool (Sq.bang s))∧w'=w:=by
 by_cases hk:0 < s.size
 ·have H:Hid _:=Sq.jQsg s hk
  go_enter Tryz.func23,Tryz.ntmps23
  go_wp2
  go_ret
  exact⟨by rw[H.out];rfl,rfl⟩
 ·have H:Hid _:=Sq.jQsh s hk
  go_enter Tryz.func23,Tryz.ntmps23
  go_wp2
  go_ret
  exact⟨by rw[H.out];rfl,rfl⟩
end
end Go.Proofs.YtahpihjialbanaaGreatDoor
