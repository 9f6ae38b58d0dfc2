import Derived.Test.YtahpihjialbanaaGreatDoorQby
import Derived.Test.YtahpihjialbanaaGreatDoorQcn
set_option linter.unusedVariables false
set_option linter.unusedSimpArgs false
set_option maxRecDepth 100000
set_option maxHeartbeats 4000000
namespace Go.Proofs.YtahpihjialbanaaGreatDoor
section
open Go.RowKit
def Sq.qOr (c:ByteArray):ByteArray:=(⟨#[115,101,108,101,99,116,32,42,32,102,114,111,109,32]⟩:ByteArray)++Sq.bT++(⟨#[32,119,104,101,114,101,32,40]⟩:ByteArray)++c++(⟨#[41,32,111,114,32,105,100,32,60,62,32,105,100]⟩:ByteArray)
def Sq.qAnd (c:ByteArray):ByteArray:=(⟨#[115,101,108,101,99,116,32,42,32,102,114,111,109,32]⟩:ByteArray)++Sq.bT++(⟨#[32,119,104,101,114,101,32,105,100,32,61,32,105,100,32,97,110,100,32,40]⟩:ByteArray)++c++(⟨#[41]⟩:ByteArray)
theorem Sq.jQqz (c:ByteArray):(Sq.qOr c).data.toList=Sq.p_star++(40 :: (c.data.toList++(41 :: Sq.por))):=by
 unfold Sq.qOr;rw[Sq.jQj,Sq.jQj,Sq.jQj,Sq.jQj]
 show((Sq.p_star++[40])++c.data.toList)++(41 :: Sq.por)=_
 simp
theorem Sq.jQoC (c:ByteArray):(Sq.qAnd c).data.toList=Sq.p_star++(Sq.pid++40 :: (c.data.toList++[41])):=by
 unfold Sq.qAnd;rw[Sq.jQj,Sq.jQj,Sq.jQj,Sq.jQj]
 show((Sq.p_star++(Sq.pid++[40]))++c.data.toList)++[41]=_
 simp
theorem jQqp (wb sb:Nat)(db:List Sq.Tab)(cond:ByteArray)(w:World)(h:Live w wb sb db)(hc:cond.size≤160) :
  Calls Tryz.prog 21 #[.pointer (some ⟨wb,0,none⟩),.string Sq.bT,.string cond] w fun e w'=>e=.returned (.bool true)∧Below w.heap.size w w':=by
 have H:=hd h
 obtain⟨p0,hl0⟩:=h.cell
 have hbt:Sq.bT.size=1:=rfl
 have hal:=Sq.jQlj db (Sq.qStar cond) (Sq.qOr cond) (Sq.qAnd cond) cond.data.toList (Sq.jQeo cond) (Sq.jQqz cond) (Sq.jQoC cond)
 have hsa:=Sq.jQX h.good (Sq.qStar cond)
 have hsb:=Sq.jQX h.good (Sq.qOr cond)
 have hsc:=Sq.jQX h.good (Sq.qAnd cond)
 obtain⟨ra,hra⟩:∃x,x=(Sq.decide db (Sq.qStar cond)).reply:=⟨_,rfl⟩
 obtain⟨rb,hrb⟩:∃x,x=(Sq.decide db (Sq.qOr cond)).reply:=⟨_,rfl⟩
 obtain⟨rc,hrc⟩:∃x,x=(Sq.decide db (Sq.qAnd cond)).reply:=⟨_,rfl⟩
 rw[←hra,←hrb,←hrc] at hal
 rw[←hra] at hsa
 rw[←hrb] at hsb
 rw[←hrc] at hsc
 have HAL:=hd hal
 have HRA:=hd hra
 have HRB:=hd hrb
 have HRC:=hd hrc
 clear h hal hra hrb hrc
 go_enter Tryz.func21,Tryz.ntmps21
 go_wp2_with fail
 refine(lpeek wb sb db (Sq.qStar cond) w H.out).mono ?_
 rintro e w1 ⟨pf101,dg101,rfl,hL1,hb1⟩
 rw[←HRA.out]
 unfold answer
 have hA1:∀o,Below w1.heap.size w1 (w1.alloc o):=fun o=>(Below.refl _ _).alloc (Nat.le_refl _) _
 have HA1:=hd hA1
 obtain⟨p1,hl1⟩:=hL1.cell
 have HL1:=hd hL1
 have HB1:=hd hb1
 have hz1:=hb1.size
 clear hL1 hb1 hA1 p0
 cases hba:Sq.bang ra
 case true =>
  go_wp2_with (go_at_call 23;refine(jQ4 ra _ (by omega)).mono ?_;rintro e w' ⟨rfl,hw'⟩;rw[hw',hba];clear hw' w')
  go_ret
  exact⟨rfl,Below.alloc (B:=w.heap.size) HB1.out hz1 _⟩
 case false =>
  have hk:ra.data.toList.head?≠some 33:=fun e=>by rw[(Sq.jQe5 ra).2 e] at hba;cases hba
  have HPL:=hd (HAL.out hk)
  have HBA:=hd hba
  clear hk hba HAL
  go_wp2_with (go_at_call 23;refine(jQ4 ra _ (by omega)).mono ?_;rintro e w' ⟨rfl,hw'⟩;rw[hw',HBA.out];clear hw' w')
  refine(lpeek wb sb db (Sq.qOr cond) _ (HL1.out.below (HA1.out _))).mono ?_
  rintro e w2 ⟨pf102,dg102,rfl,hL2,hb2⟩
  rw[←HRB.out]
  unfold answer
  have hA2:∀o,Below w2.heap.size w2 (w2.alloc o):=fun o=>(Below.refl _ _).alloc (Nat.le_refl _) _
  have HA2:=hd hA2
  obtain⟨p2,hl2⟩:=hL2.cell
  have hk1:=(hb2.block w1.heap.size (by simp)).trans (heap_alloc_new w1 _)
  have HK1:=hd hk1
  have hlk1:=jQg hk1
  have HL2:=hd hL2
  have HB2:=hd ((HB1.out.trans ((HA1.out _).mono hz1)).trans (hb2.mono (by simp;omega)))
  have hz2:=hb2.size
  simp at hz2
  clear hL2 hb2 hA2 hk1 p1
  go_wp2_with fail
  refine(lpeek wb sb db (Sq.qAnd cond) _ (HL2.out.below (HA2.out _))).mono ?_
  rintro e w3 ⟨pf103,dg103,rfl,hL3,hb3⟩
  rw[←HRC.out]
  unfold answer
  have hk1:=(hb3.block w1.heap.size (by simp;omega)).trans ((jQax hlk1 _).trans HK1.out)
  have hk2:=(hb3.block w2.heap.size (by simp)).trans (heap_alloc_new w2 _)
  have a1:=jQb hk1 0
  have a2:=jQb hk2 0
  simp at a1 a2
  have hlk1':=jQg hk1
  have hlk2:=jQg hk2
  have HB3:=hd ((HB2.out.trans ((HA2.out _).mono (by omega))).trans (hb3.mono (by simp;omega)))
  have hz3:=hb3.size
  simp at hz3
  clear hL3 hb3 hk1 hk2 p2
  have hfin:((Sq.bang rb=true)∨(Sq.bang rb=false∧rb=ra))∧((Sq.bang rc=true)∨(Sq.bang rc=false∧rc=ra)):=by
   refine⟨?_,?_⟩
   ·rcases HPL.out.1 with e | e
    ·exact Or.inl ((Sq.jQe5 rb).2 e)
    ·exact Or.inr ⟨by rw[←e];exact HBA.out,e.symm⟩
   ·rcases HPL.out.2 with e | e
    ·exact Or.inl ((Sq.jQe5 rc).2 e)
    ·exact Or.inr ⟨by rw[←e];exact HBA.out,e.symm⟩
  clear HPL HRA HRB HRC
  go_wp2_with fail
  refine(jQ4 rb _ (by omega)).mono ?_
  rintro e w' ⟨rfl,hw'⟩
  rw[hw']
  clear hw' w'
  obtain⟨bb,hbb⟩:∃x,x=Sq.bang rb:=⟨_,rfl⟩
  rw[←hbb] at hfin
  rw[←hbb]
  clear hbb
  go_wp2_with fail
  refine(jQ4 rc _ (by omega)).mono ?_
  rintro e w' ⟨rfl,hw'⟩
  rw[hw']
  clear hw' w'
  obtain⟨bc,hbc⟩:∃x,x=Sq.bang rc:=⟨_,rfl⟩
  rw[←hbc] at hfin
  rw[←hbc]
  clear hbc
  obtain⟨f1,f2⟩:=hfin
  rcases f1 with rfl | ⟨rfl,rfl⟩ <;> rcases f2 with rfl | ⟨rfl,rfl⟩
  all_goals
   go_wp2
   go_ret
   exact⟨rfl,Below.alloc (B:=w.heap.size) HB3.out (by omega) _⟩
theorem jQpA (v:Value)(l:List ByteArray)(cond:ByteArray)(w:World)(h:Strs w v l)(hc:cond.size≤1000000000000000)(hT:Tb2 w) :
  Calls Tryz.prog 5 #[v,.string cond] w fun e w'=>e=.returned (.bool true)∧Below w.heap.size w w':=by
 have HS:=hd h
 have HT:=hd hT
 clear h hT
 go_enter Tryz.func5,Tryz.ntmps5
 go_wp2_with fail
 refine(jQd3 w HT.out).mono ?_
 rintro e w1 ⟨rfl,hb1⟩
 have hz1:=hb1.size
 have HB1:=hd hb1
 have HS1:=hd (HS.out.below hb1 (Nat.le_refl _))
 have HT1:=hd (HT.out.below hb1)
 clear hb1
 go_wp2_with fail
 refine(jQdK l v w1 HS1.out HT1.out).mono ?_
 rintro e w2 (⟨hbig,rfl,hw2⟩ | ⟨wb,sb,hno,rfl,hW,hb2⟩)
 ·subst hw2
  have HBG:=hd hbig
  clear hbig
  go_wp2_with fail
  refine(jQgo l v _ HS1.out).mono ?_
  rintro e w3 ⟨rfl,hw3⟩
  rw[hw3,HBG.out]
  clear hw3 w3
  go_wp2
  go_ret
  exact⟨rfl,HB1.out⟩
 ·have hlive:Live w2 wb sb (Sq.afterAll [] l):=⟨hW.blk,hW.db,Sq.jQad _ Sq.jQbc,HT1.out.below hb2⟩
  have HLV:=hd hlive
  have HB2:=hd (HB1.out.trans (hb2.mono hz1))
  have hz2:=hb2.size
  clear hno hW hb2 hlive
  by_cases hlen:160 < cond.size
  ·go_wp2
   go_ret
   exact⟨rfl,HB2.out⟩
  ·go_wp2_with fail
   refine(jQqp wb sb _ cond w2 HLV.out (by omega)).mono ?_
   rintro e w3 ⟨rfl,hb3⟩
   have HB3:=hd (HB2.out.trans (hb3.mono (by omega)))
   clear hb3
   go_wp2
   go_ret
   exact⟨rfl,HB3.out⟩
end
end Go.Proofs.YtahpihjialbanaaGreatDoor
