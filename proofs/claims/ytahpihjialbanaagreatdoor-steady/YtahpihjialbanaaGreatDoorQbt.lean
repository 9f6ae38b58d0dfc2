import Derived.Test.YtahpihjialbanaaGreatDoorQbp
set_option linter.unusedVariables false
set_option linter.unusedSimpArgs false
set_option maxRecDepth 100000
set_option maxHeartbeats 2000000
namespace Go.Proofs.YtahpihjialbanaaGreatDoor
namespace Sq
theorem jQfS:∀(l r:List UInt8) (n:Int),digs (l++r) n=(digs l n).bind (digs r)
 | [],r,n=>rfl
 | c :: l,r,n=>by
  rw[List.cons_append,digs,digs]
  split
  ·rfl
  ·exact jQfS l r _
theorem jQnr (u:Nat):digs (Lib.decDigits u) 0=some (u:Int):=by
 induction u using Nat.strongRecOn with
 | ind u ih =>
  have e:∀d:Nat,d < 10→(UInt8.ofNat (48+d)).toNat=48+d:=fun d hd=>by rw[UInt8.toNat_ofNat'];omega
  rw[Lib.decDigits]
  split
  ·rename_i h
   rw[digs,e u h,if_neg (by omega),digs]
   congr 1;omega
  ·rename_i h
   rw[jQfS,ih (u / 10) (by omega)]
   show digs [_] _=_
   rw[digs,e (u % 10) (by omega),if_neg (by omega),digs]
   congr 1;omega
theorem jQj8 (u:Nat):∀c∈Lib.decDigits u,48≤c.toNat∧c.toNat≤57:=by
 induction u using Nat.strongRecOn with
 | ind u ih =>
  have e:∀d:Nat,d < 10→(UInt8.ofNat (48+d)).toNat=48+d:=fun d hd=>by rw[UInt8.toNat_ofNat'];omega
  rw[Lib.decDigits]
  split
  ·intro c hc;rw[List.mem_singleton] at hc;subst hc;rw[e u (by assumption)];omega
  ·intro c hc
   rcases List.mem_append.1 hc with hc | hc
   ·exact ih (u / 10) (by omega) c hc
   ·rw[List.mem_singleton] at hc;subst hc;rw[e (u % 10) (by omega)];omega
theorem jQj7 (u:Nat):0 < (Lib.decDigits u).length:=by rw[Lib.decDigits_length];exact Lib.nDigits_pos u
theorem jQY (u:Nat)(h:u < 10 ^ 14):Lib.nDigits u≤14:=by
 rcases Nat.lt_or_ge 14 (Lib.nDigits u) with h1 | h1
 ·exfalso
  have h2:∀k u,Lib.nDigits u=k+1→u ≥ 10 ^ k∨k=0:=by
   intro k
   induction k with
   | zero=>intro u _;right;rfl
   | succ k ih =>
    intro u hu
    left
    by_cases hs:u < 10
    ·rw[Lib.nDigits_small hs] at hu;omega
    ·rw[Lib.nDigits_big hs] at hu
     rcases ih (u / 10) (by omega) with h3 | h3
     ·rw[Nat.pow_succ];omega
     ·subst h3;simp;omega
  obtain⟨k,hk⟩:∃k,Lib.nDigits u=k+1:=⟨Lib.nDigits u - 1,by omega⟩
  rcases h2 k u hk with h3 | h3
  ·have:10 ^ 14≤10 ^ k:=Nat.pow_le_pow_right (by decide) (by omega)
   omega
  ·omega
 ·exact h1
theorem jQbl (n:Int)(h0:-100000000000000 < n)(h1:n < 100000000000000)(s:ByteArray)(hs:s.data.toList=Lib.itoa n++[59]):number s=(n,true):=by
 have hsz:=jQG s
 unfold Lib.itoa at hs
 have hlast:byteAt s (s.size - 1)=59:=by
  unfold byteAt
  rw[hsz,hs]
  simp
 by_cases hn:n < 0
 ·rw[if_pos hn] at hs
  have hb0:byteAt s 0=45:=by unfold byteAt;rw[hs];rfl
  have hl:s.size=(Lib.decDigits n.natAbs).length+2:=by rw[hsz,hs];simp
  have hp:=jQj7 n.natAbs
  have hu:=jQY n.natAbs (by omega)
  rw[←Lib.decDigits_length] at hu
  unfold number
  rw[hb0,if_neg (by simp;omega)]
  have e:(s.data.toList.drop (if(45:Int)==45 then 1 else 0)).take (s.size - 1 - (if(45:Int)==45 then 1 else 0))=Lib.decDigits n.natAbs:=by
   rw[hs,hl]
   show(((45:UInt8) :: Lib.decDigits n.natAbs++[59]).drop 1).take ((Lib.decDigits n.natAbs).length+2 - 1 - 1)=_
   simp
  rw[e,jQnr]
  show(-((n.natAbs:Nat):Int),true)=(n,true)
  congr 1;omega
 ·rw[if_neg hn] at hs
  have hp:=jQj7 n.toNat
  have hl:s.size=(Lib.decDigits n.toNat).length+1:=by rw[hsz,hs];simp
  have hb0:byteAt s 0≠45:=by
   unfold byteAt
   rw[hs]
   cases hd:Lib.decDigits n.toNat with
   | nil=>rw[hd] at hp;simp at hp
   | cons c r =>
    have:=jQj8 n.toNat c (by rw[hd];simp)
    show((c.toNat:Nat):Int)≠45
    omega
  have hb:(byteAt s 0==45)=false:=by simpa using hb0
  have hu:=jQY n.toNat (by omega)
  rw[←Lib.decDigits_length] at hu
  unfold number
  rw[hb,if_neg (by simp;omega)]
  have e:(s.data.toList.drop (if false=true then 1 else 0)).take (s.size - 1 - (if false=true then 1 else 0))=Lib.decDigits n.toNat:=by
   rw[hs,hl]
   simp
  rw[e,jQnr]
  show(((n.toNat:Nat):Int),true)=(n,true)
  congr 1;omega
end Sq
section
open Go.RowKit
theorem Sq.jQco (s:ByteArray)(k:Nat)(h:k < s.size):Sq.byteAt s k=(s[k].toNat:Int):=Sq.jQgN s k h
theorem Sq.jQmc (s:ByteArray)(k:Nat)(h:s.size - 1≤k):Sq.rest s k=[]:=by
 unfold Sq.rest;rw[Nat.sub_eq_zero_of_le h];rfl
theorem Sq.jQju (s:ByteArray)(k:Nat)(h:k < s.size - 1)(hk:k < s.size):Sq.rest s k=s[k] :: Sq.rest s (k+1):=by
 have h':k < s.data.toList.length:=by rw[←Sq.jQG];exact hk
 unfold Sq.rest
 rw[List.drop_eq_getElem_cons h',show s.size - 1 - k=s.size - 1 - (k+1)+1 from by omega,List.take_succ_cons]
 rfl
theorem Sq.jQa8 (s:ByteArray)(a:Nat)(ha:(if Sq.byteAt s 0==45 then 1 else 0)=a)(h:s.size < a+2∨16 < s.size∨Sq.byteAt s (s.size - 1)≠59):Sq.number s=(0,false):=by
 unfold Sq.number
 rw[ha,if_pos h]
theorem Sq.jQeB (s:ByteArray)(a:Nat)(ha:(if Sq.byteAt s 0==45 then 1 else 0)=a)(h1:a+2≤s.size)(h2:s.size≤16)(h3:Sq.byteAt s (s.size - 1)=59) :
  Sq.number s=match Sq.digs (Sq.rest s a) 0 with | none=>(0,false) | some n=>(if Sq.byteAt s 0==45 then -n else n,true):=by
 unfold Sq.number
 rw[ha,if_neg (by omega)]
 rfl
theorem Sq.pow15 (n a k:Nat)(h:n < 10 ^ (k - a))(hk:k≤15):n≤1000000000000000:=by
 have:10 ^ (k - a)≤10 ^ 15:=Nat.pow_le_pow_right (by decide) (by omega)
 have e:10 ^ 15=1000000000000000:=by decide
 omega
theorem Sq.jQml (n a k c:Nat)(h:n < 10 ^ (k - a))(hak:a≤k)(hc:c≤9):10 * n+c < 10 ^ (k+1 - a):=by
 rw[show k+1 - a=(k - a)+1 from by omega,Nat.pow_succ]
 omega
theorem jQac (s:ByteArray)(w:World)(hs:s.size≤1000000000) :
  Calls Tryz.prog 26 #[.string s] w fun e w'=>e=.returned (.tuple #[.int .i64 (Sq.number s).1,.bool (Sq.number s).2])∧w'=w:=by
 by_cases hk:0 < s.size
 ·cases hm:((s[0].toNat:Int)==45)
  ·skip
   have ha:(if Sq.byteAt s 0==45 then 1 else 0)=0:=by rw[Sq.jQco s 0 hk,hm];rfl
   by_cases hz:s.size < 2
   ·have HN:Hid _:=Sq.jQa8 s 0 ha (Or.inl hz)
    clear ha
    go_enter Tryz.func26,Tryz.ntmps26
    go_wp2
    go_ret2
    exact⟨by rw[HN.out];rfl,rfl⟩
   ·by_cases hz2:16 < s.size
    ·have HN:Hid _:=Sq.jQa8 s 0 ha (Or.inr (Or.inl hz2))
     clear ha
     go_enter Tryz.func26,Tryz.ntmps26
     go_wp2
     go_ret2
     exact⟨by rw[HN.out];rfl,rfl⟩
    ·have hlt:s.size - 1 < s.size:=by omega
     have hby:=Sq.jQco s (s.size - 1) hlt
     cases hl:((s[s.size - 1].toNat:Int) != 59)
     ·have h59:Sq.byteAt s (s.size - 1)=59:=by rw[hby];simpa using hl
      have HN:Hid _:=Sq.jQeB s 0 ha (by omega) (by omega) h59
      have HM:Hid ((Sq.byteAt s 0==45)=false):=by show _=_;rw[Sq.jQco s 0 hk,hm]
      clear ha hby h59
      go_enter Tryz.func26,Tryz.ntmps26
      go_wp2
      go_loop [4,7] (fun n i=>∃k v:Nat,0≤k∧k≤s.size - 1∧n=.int .i64 v∧i=.int .i64 k∧Hid (v < 10 ^ (k - 0)∧Sq.digs (Sq.rest s 0) 0=Sq.digs (Sq.rest s k) v)) (fun _ i=>s.size - (intOf i).toNat)
      case atStart=>exact⟨0,0,by omega,by omega,rfl,rfl,by decide,rfl⟩
      case round =>
       obtain⟨k,v,hak,hk1,rfl,rfl,HR⟩:=hrel
       have hv:=Sq.pow15 v 0 k HR.out.1 (by omega)
       by_cases hkl:k < s.size - 1
       ·have hks:k < s.size:=by omega
        obtain⟨c,hc⟩:∃c:Nat,c=s[k].toNat:=⟨_,rfl⟩
        have hst:Sq.digs (Sq.rest s k) v=if c < 48∨57 < c then none else Sq.digs (Sq.rest s (k+1)) (10 * v+c - 48):=by
         rw[Sq.jQju s k hkl hks,Sq.digs,←hc]
        have HS:Hid _:=hst
        have HC:Hid _:=hc
        clear hst
        by_cases h48:c < 48
        ·have hcc:(s[k].toNat:Int) < 48:=by omega
         clear hc
         go_wp2
         go_ret2
         refine⟨?_,rfl⟩
         rw[HN.out,HR.out.2,HS.out,if_pos (Or.inl h48)];rfl
        ·have hcc:¬(s[k].toNat:Int) < 48:=by omega
         by_cases h57:57 < c
         ·have hcd:(57:Int) < (s[k].toNat:Int):=by omega
          clear hc
          go_wp2
          go_ret2
          refine⟨?_,rfl⟩
          rw[HN.out,HR.out.2,HS.out,if_pos (Or.inr h57)];rfl
         ·have hcd:¬(57:Int) < (s[k].toNat:Int):=by omega
          have HV:Hid (10 * v+(c - 48) < 10 ^ (k+1 - 0)):=Sq.jQml v 0 k (c - 48) HR.out.1 hak (by omega)
          clear hc
          go_wp2
          go_round
          case rel =>
           refine⟨k+1,10 * v+(c - 48),by omega,by omega,?_,by go_num,HV.out,?_⟩
           ·have:=HC.out
            rw[←this]
            congr 1
            omega
           ·rw[HR.out.2,HS.out,if_neg (by omega)]
            congr 1
            omega
          case measure=>simp[intOf];omega
       ·have HZ:Hid (Sq.digs (Sq.rest s k) v=some (v:Int)):=by show _=_;rw[Sq.jQmc s k (by omega)];rfl
        go_wp2
        go_ret2
        refine⟨?_,rfl⟩
        rw[HN.out,HR.out.2,HZ.out,HM.out];rfl
     ·have HN:Hid _:=Sq.jQa8 s 0 ha (Or.inr (Or.inr (by rw[hby];simpa using hl)))
      clear ha hby
      go_enter Tryz.func26,Tryz.ntmps26
      go_wp2
      go_ret2
      exact⟨by rw[HN.out];rfl,rfl⟩
  ·skip
   have ha:(if Sq.byteAt s 0==45 then 1 else 0)=1:=by rw[Sq.jQco s 0 hk,hm];rfl
   by_cases hz:s.size < 3
   ·have HN:Hid _:=Sq.jQa8 s 1 ha (Or.inl hz)
    clear ha
    go_enter Tryz.func26,Tryz.ntmps26
    go_wp2
    go_ret2
    exact⟨by rw[HN.out];rfl,rfl⟩
   ·by_cases hz2:16 < s.size
    ·have HN:Hid _:=Sq.jQa8 s 1 ha (Or.inr (Or.inl hz2))
     clear ha
     go_enter Tryz.func26,Tryz.ntmps26
     go_wp2
     go_ret2
     exact⟨by rw[HN.out];rfl,rfl⟩
    ·have hlt:s.size - 1 < s.size:=by omega
     have hby:=Sq.jQco s (s.size - 1) hlt
     cases hl:((s[s.size - 1].toNat:Int) != 59)
     ·have h59:Sq.byteAt s (s.size - 1)=59:=by rw[hby];simpa using hl
      have HN:Hid _:=Sq.jQeB s 1 ha (by omega) (by omega) h59
      have HM:Hid ((Sq.byteAt s 0==45)=true):=by show _=_;rw[Sq.jQco s 0 hk,hm]
      clear ha hby h59
      go_enter Tryz.func26,Tryz.ntmps26
      go_wp2
      go_loop [4,7] (fun n i=>∃k v:Nat,1≤k∧k≤s.size - 1∧n=.int .i64 v∧i=.int .i64 k∧Hid (v < 10 ^ (k - 1)∧Sq.digs (Sq.rest s 1) 0=Sq.digs (Sq.rest s k) v)) (fun _ i=>s.size - (intOf i).toNat)
      case atStart=>exact⟨1,0,by omega,by omega,rfl,rfl,by decide,rfl⟩
      case round =>
       obtain⟨k,v,hak,hk1,rfl,rfl,HR⟩:=hrel
       have hv:=Sq.pow15 v 1 k HR.out.1 (by omega)
       by_cases hkl:k < s.size - 1
       ·have hks:k < s.size:=by omega
        obtain⟨c,hc⟩:∃c:Nat,c=s[k].toNat:=⟨_,rfl⟩
        have hst:Sq.digs (Sq.rest s k) v=if c < 48∨57 < c then none else Sq.digs (Sq.rest s (k+1)) (10 * v+c - 48):=by
         rw[Sq.jQju s k hkl hks,Sq.digs,←hc]
        have HS:Hid _:=hst
        have HC:Hid _:=hc
        clear hst
        by_cases h48:c < 48
        ·have hcc:(s[k].toNat:Int) < 48:=by omega
         clear hc
         go_wp2
         go_ret2
         refine⟨?_,rfl⟩
         rw[HN.out,HR.out.2,HS.out,if_pos (Or.inl h48)];rfl
        ·have hcc:¬(s[k].toNat:Int) < 48:=by omega
         by_cases h57:57 < c
         ·have hcd:(57:Int) < (s[k].toNat:Int):=by omega
          clear hc
          go_wp2
          go_ret2
          refine⟨?_,rfl⟩
          rw[HN.out,HR.out.2,HS.out,if_pos (Or.inr h57)];rfl
         ·have hcd:¬(57:Int) < (s[k].toNat:Int):=by omega
          have HV:Hid (10 * v+(c - 48) < 10 ^ (k+1 - 1)):=Sq.jQml v 1 k (c - 48) HR.out.1 hak (by omega)
          clear hc
          go_wp2
          go_round
          case rel =>
           refine⟨k+1,10 * v+(c - 48),by omega,by omega,?_,by go_num,HV.out,?_⟩
           ·have:=HC.out
            rw[←this]
            congr 1
            omega
           ·rw[HR.out.2,HS.out,if_neg (by omega)]
            congr 1
            omega
          case measure=>simp[intOf];omega
       ·have HZ:Hid (Sq.digs (Sq.rest s k) v=some (v:Int)):=by show _=_;rw[Sq.jQmc s k (by omega)];rfl
        go_wp2
        go_ret2
        refine⟨?_,rfl⟩
        rw[HN.out,HR.out.2,HZ.out,HM.out];rfl
     ·have HN:Hid _:=Sq.jQa8 s 1 ha (Or.inr (Or.inr (by rw[hby];simpa using hl)))
      clear ha hby
      go_enter Tryz.func26,Tryz.ntmps26
      go_wp2
      go_ret2
      exact⟨by rw[HN.out];rfl,rfl⟩
 ·have HN:Hid (Sq.number s=(0,false)):=by
   refine Sq.jQa8 s _ rfl (Or.inl ?_)
   omega
  go_enter Tryz.func26,Tryz.ntmps26
  go_wp2
  go_ret2
  exact⟨by rw[HN.out];rfl,rfl⟩
end
end Go.Proofs.YtahpihjialbanaaGreatDoor
