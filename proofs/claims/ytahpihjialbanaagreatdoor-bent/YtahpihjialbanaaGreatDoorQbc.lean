import Derived.Test.YtahpihjialbanaaGreatDoorQbb
set_option linter.all false
set_option maxRecDepth 100000
namespace Go.Proofs.YtahpihjialbanaaGreatDoor
namespace Sq
def jDW (k:Nat):Bool:=(List.range 8).all fun i=>jFo ((8*k+i:Nat):Int) true==some (at0 jAz (8*k+i))
theorem jOE:jDW 0=true:=by decide +kernel
theorem jOF:jDW 1=true:=by decide +kernel
theorem jOG:jDW 2=true:=by decide +kernel
theorem jOH:jDW 3=true:=by decide +kernel
theorem jOI:jDW 4=true:=by decide +kernel
theorem jOJ:jDW 5=true:=by decide +kernel
theorem jOK:jDW 6=true:=by decide +kernel
theorem jOL:jDW 7=true:=by decide +kernel
theorem jOM:((List.range 8).all fun i=>jFo ((i:Nat):Int) false==some (at0 iv i))=true:=by decide +kernel
theorem qAs (i:Nat)(hi:i<64):jFo (i:Int) true=some (at0 jAz i):=by
 have h:∀k,jDW k=true->∀j,j<8->jFo ((8*k+j:Nat):Int) true=some (at0 jAz (8*k+j)):=fun k hk j hj=>by
  unfold jDW at hk;rw[List.all_eq_true] at hk;simpa using hk j (List.mem_range.2 hj)
 have e:8*(i / 8)+HMod.hMod i 8=i:=Nat.div_add_mod i 8;have hm:HMod.hMod i 8<8:=Nat.mod_lt _ (by omega);have hk:i / 8<8:=by omega
 have hr:jDW (i / 8)=true:=by
  generalize i / 8=k at hk
  match k,hk with
  | 0,_=>exact jOE
  | 1,_=>exact jOF
  | 2,_=>exact jOG
  | 3,_=>exact jOH
  | 4,_=>exact jOI
  | 5,_=>exact jOJ
  | 6,_=>exact jOK
  | 7,_=>exact jOL
  | k+8,h=>omega
 have:=h (i / 8) hr (HMod.hMod i 8) hm
 rwa [e] at this
theorem qCp (i:Nat)(hi:i<8):jFo (i:Int) false=some (at0 iv i):=by
 have hk:=jOM;rw[List.all_eq_true] at hk;simpa using hk i (List.mem_range.2 hi)
end Sq
end Go.Proofs.YtahpihjialbanaaGreatDoor
