import Derived.Test.YtahpihjialbanaaGreatDoorQby
import Derived.Test.YtahpihjialbanaaGreatDoorQcj
set_option linter.unusedVariables false
set_option linter.unusedSimpArgs false
set_option maxRecDepth 100000
set_option maxHeartbeats 8000000
namespace Go.Proofs.YtahpihjialbanaaGreatDoor
section
open Go.RowKit
theorem Sq.jQpX:∀(l:List UInt8) (n m:Int),0≤n→Sq.digs l n=some m→0≤m∧m+1≤(n+1) * ((10 ^ l.length:Nat):Int)
 | [],n,m,h0,h=>by simp[Sq.digs] at h;subst h;simp;omega
 | c :: r,n,m,h0,h=>by
  rw[Sq.digs] at h
  split at h
  ·simp at h
  ·rename_i hc
   have h1:=Sq.jQpX r _ m (by omega) h
   refine⟨h1.1,?_⟩
   rw[List.length_cons,Nat.pow_succ]
   have h2:(0:Int)≤((10 ^ r.length:Nat):Int):=Int.natCast_nonneg _
   have h3:(10 * n+c.toNat - 48+1) * ((10 ^ r.length:Nat):Int)≤((n+1) * 10) * ((10 ^ r.length:Nat):Int):=Int.mul_le_mul_of_nonneg_right (by omega) h2
   have h4:(n+1) * ((10 ^ r.length * 10:Nat):Int)=((n+1) * 10) * ((10 ^ r.length:Nat):Int):=by
    rw[Int.natCast_mul,Int.mul_assoc,Int.mul_comm ((10 ^ r.length:Nat):Int)]
    rfl
   rw[h4]
   omega
theorem Sq.jQcf (s:ByteArray):-10000000000000000≤(Sq.number s).1∧(Sq.number s).1≤10000000000000000:=by
 obtain⟨a,ha⟩:∃a:Nat,(if Sq.byteAt s 0==45 then 1 else 0)=a:=⟨_,rfl⟩
 by_cases hc:s.size < a+2∨16 < s.size∨Sq.byteAt s (s.size - 1)≠59
 ·rw[Sq.jQa8 s a ha hc];exact⟨by decide,by decide⟩
 ·rw[Sq.jQeB s a ha (by omega) (by omega) (by omega)]
  cases hd:Sq.digs (Sq.rest s a) 0 with
  | none=>refine⟨?_,?_⟩ <;> simp
  | some m =>
   have h1:=Sq.jQpX _ 0 m (by omega) hd
   have h2:(Sq.rest s a).length≤15:=by unfold Sq.rest;rw[List.length_take];omega
   have h3:(10:Nat) ^ (Sq.rest s a).length≤10 ^ 15:=Nat.pow_le_pow_right (by decide) h2
   have h4:(10:Nat) ^ 15=1000000000000000:=by decide
   simp only
   split <;> omega
def Sq.qa0:ByteArray:=(⟨#[115,101,108,101,99,116,32]⟩:ByteArray)++(⟨#[99,111,117,110,116]⟩:ByteArray)++(⟨#[32,102,114,111,109,32]⟩:ByteArray)++Sq.bT
def Sq.qb0 (c:ByteArray):ByteArray:=Sq.qa0++(⟨#[32,119,104,101,114,101,32]⟩:ByteArray)++c
def Sq.qc0 (c:ByteArray):ByteArray:=Sq.qa0++(⟨#[32,119,104,101,114,101,32,110,111,116,32,40]⟩:ByteArray)++c++(⟨#[41]⟩:ByteArray)
theorem Sq.jQqy:Sq.qa0=Sq.selCount:=by
 apply Sq.jQaG
 unfold Sq.qa0
 rw[Sq.jQj,Sq.jQj,Sq.jQj];rfl
theorem Sq.jQio (c:ByteArray):(Sq.qb0 c).data.toList=Sq.p_count++c.data.toList:=by
 unfold Sq.qb0;rw[Sq.jQqy,Sq.jQj,Sq.jQj];rfl
theorem Sq.jQqv (c:ByteArray):(Sq.qc0 c).data.toList=Sq.p_count++(Sq.pnot++40 :: (c.data.toList++[41])):=by
 unfold Sq.qc0;rw[Sq.jQqy,Sq.jQj,Sq.jQj,Sq.jQj]
 show((Sq.p_count++(Sq.pnot++[40]))++c.data.toList)++[41]=_
 simp
def Sq.qa1:ByteArray:=(⟨#[115,101,108,101,99,116,32]⟩:ByteArray)++(⟨#[115,117,109,32,40,105,100,41]⟩:ByteArray)++(⟨#[32,102,114,111,109,32]⟩:ByteArray)++Sq.bT
def Sq.qb1 (c:ByteArray):ByteArray:=Sq.qa1++(⟨#[32,119,104,101,114,101,32]⟩:ByteArray)++c
def Sq.qc1 (c:ByteArray):ByteArray:=Sq.qa1++(⟨#[32,119,104,101,114,101,32,110,111,116,32,40]⟩:ByteArray)++c++(⟨#[41]⟩:ByteArray)
theorem Sq.jQqx:Sq.qa1=Sq.selSum:=by
 apply Sq.jQaG
 unfold Sq.qa1
 rw[Sq.jQj,Sq.jQj,Sq.jQj];rfl
theorem Sq.jQqw (c:ByteArray):(Sq.qb1 c).data.toList=Sq.p_sum++c.data.toList:=by
 unfold Sq.qb1;rw[Sq.jQqx,Sq.jQj,Sq.jQj];rfl
theorem Sq.jQqu (c:ByteArray):(Sq.qc1 c).data.toList=Sq.p_sum++(Sq.pnot++40 :: (c.data.toList++[41])):=by
 unfold Sq.qc1;rw[Sq.jQqx,Sq.jQj,Sq.jQj,Sq.jQj]
 show((Sq.p_sum++(Sq.pnot++[40]))++c.data.toList)++[41]=_
 simp
theorem jQoF (wb sb:Nat)(db:List Sq.Tab)(cond:ByteArray)(w:World)(h:Live w wb sb db)(hc:cond.size≤160) :
  Calls Tryz.prog 20 #[.pointer (some ⟨wb,0,none⟩),.string Sq.bT,.string cond] w fun e w'=>e=.returned (.bool true)∧Below w.heap.size w w':=by
 have H:=hd h
 have hbt:Sq.bT.size=1:=rfl
 have hq0:Sq.qa0.size=19:=by decide +kernel
 have hq1:Sq.qa1.size=22:=by decide +kernel
 clear h
 go_enter Tryz.func20,Tryz.ntmps20
 go_wp2
 obtain⟨w0,hw0⟩:∃x,x=w.alloc (.cells #[.string (⟨#[99,111,117,110,116]⟩:ByteArray),.string (⟨#[115,117,109,32,40,105,100,41]⟩:ByteArray)] 9):=⟨_,rfl⟩
 have hbw0:Below w.heap.size w w0:=by rw[hw0];exact(Below.refl _ _).alloc (Nat.le_refl _) _
 have hkb:w0.heap[w.heap.size]?=some (.cells #[.string (⟨#[99,111,117,110,116]⟩:ByteArray),.string (⟨#[115,117,109,32,40,105,100,41]⟩:ByteArray)] 9):=by rw[hw0];exact heap_alloc_new w _
 have hkc:w0.cell? ⟨w.heap.size,0,none⟩=some (.string (⟨#[99,111,117,110,116]⟩:ByteArray))∧w0.cell? ⟨w.heap.size,1,none⟩=some (.string (⟨#[115,117,109,32,40,105,100,41]⟩:ByteArray)):=⟨by rw[jQb hkb];rfl,by rw[jQb hkb];rfl⟩
 have hsz:w0.heap.size=w.heap.size+1:=by rw[hw0];simp
 rw[←hw0]
 have HKC:=hd hkc
 have HB0:=hd hbw0
 have HSZ:=hd hsz
 have HL0:=hd (H.out.below hbw0)
 clear hbw0 hkb hkc hsz hw0
 go_loopw [8] (fun i wr=>∃k:Nat,k≤2∧i=.int .i64 k∧Live wr wb sb db∧Below w0.heap.size w0 wr) (fun i _=>2 - (intOf i).toNat)
 case atStart=>exact⟨0,by omega,rfl,HL0.out,Below.refl _ _⟩
 case round =>
  obtain⟨k,hk,rfl,hL,hbw⟩:=hrel
  have hzw:=hbw.size
  have HL:=hd hL
  have HBW:=hd hbw
  have hsw:w.heap.size < wr.heap.size:=by have:=HSZ.out;omega
  clear hL hbw
  rcases(show k=0∨k=1∨k=2 by omega) with rfl | rfl | rfl
  ·clear hk
   have hf:=Sq.jQk6 HL.out.good (Sq.qb0 cond) (Sq.qc0 cond) cond.data.toList (Sq.jQio cond) (Sq.jQqv cond)
   have hln:=Sq.jQfM HL.out.good (Sq.qb0 cond) (Sq.qStar cond) cond.data.toList (Sq.jQio cond) (Sq.jQeo cond)
   rw[←Sq.jQqy] at hf
   have hsa:=Sq.jQX HL.out.good Sq.qa0
   have hsb:=Sq.jQX HL.out.good (Sq.qb0 cond)
   have hsc:=Sq.jQX HL.out.good (Sq.qc0 cond)
   have hsl:=Sq.jQX HL.out.good (Sq.qStar cond)
   obtain⟨ra,hra⟩:∃x,x=(Sq.decide db Sq.qa0).reply:=⟨_,rfl⟩
   obtain⟨rb,hrb⟩:∃x,x=(Sq.decide db (Sq.qb0 cond)).reply:=⟨_,rfl⟩
   obtain⟨rc,hrc⟩:∃x,x=(Sq.decide db (Sq.qc0 cond)).reply:=⟨_,rfl⟩
   obtain⟨rl,hrl⟩:∃x,x=(Sq.decide db (Sq.qStar cond)).reply:=⟨_,rfl⟩
   rw[←hra] at hsa
   rw[←hrb] at hsb
   rw[←hrc] at hsc
   rw[←hrl] at hsl
   rw[←hra,←hrb,←hrc] at hf
   rw[←hrb,←hrl] at hln
   have bda:=Sq.jQcf ra
   have bdb:=Sq.jQcf rb
   have bdc:=Sq.jQcf rc
   obtain⟨⟨na,oa⟩,hna⟩:∃p,p=Sq.number ra:=⟨_,rfl⟩
   obtain⟨⟨nb,ob⟩,hnb⟩:∃p,p=Sq.number rb:=⟨_,rfl⟩
   obtain⟨⟨nc,oc⟩,hnc⟩:∃p,p=Sq.number rc:=⟨_,rfl⟩
   rw[←hna,←hnb,←hnc] at hf
   rw[←hna] at bda
   rw[←hnb] at bdb
   rw[←hnc] at bdc
   rw[←hnb] at hln
   simp only at hf bda bdb bdc hln
   obtain⟨nl,hnl⟩:∃x,x=Sq.lines false rl.data.toList:=⟨_,rfl⟩
   rw[←hnl] at hln
   have hln':ob=true→Sq.bang rl=false→(nl:Int)=nb:=fun h1 h2=>hln h1 (fun e=>by rw[(Sq.jQe5 rl).2 e] at h2;cases h2)
   have HLN:=hd hln'
   have HF:=hd hf
   have HRA:=hd hra
   have HRB:=hd hrb
   have HRC:=hd hrc
   have HRL:=hd hrl
   have HNA:=hd hna
   have HNB:=hd hnb
   have HNC:=hd hnc
   have HNL:=hd hnl
   clear hf hln hra hrb hrc hrl hna hnb hnc hnl hln'
   obtain⟨p0,hl0⟩:=HL.out.cell
   have k0:=((bcell HBW.out).1 w.heap.size 0 (by rw[HSZ.out];omega)).trans (HKC.out.1)
   go_wp2_with fail
   refine(lpeek wb sb db Sq.qa0 _ HL.out).mono ?_
   rintro e w1 ⟨pf101,dg101,rfl,hL1,hb1⟩
   rw[←HRA.out]
   unfold answer
   have HA1:=hd (fun o=>(Below.refl w1.heap.size w1).alloc (Nat.le_refl _) o)
   obtain⟨p1,hl1⟩:=hL1.cell
   have HL1:=hd hL1
   have HB1:=hd (HBW.out.trans (hb1.mono hzw))
   have hz1:=hb1.size
   clear hL1 hb1 p0 k0
   go_wp2_with fail
   refine(lpeek wb sb db (Sq.qb0 cond) _ (HL1.out.below (HA1.out _))).mono ?_
   rintro e w2 ⟨pf102,dg102,rfl,hL2,hb2⟩
   rw[←HRB.out]
   unfold answer
   have HA2:=hd (fun o=>(Below.refl w2.heap.size w2).alloc (Nat.le_refl _) o)
   obtain⟨p2,hl2⟩:=hL2.cell
   have HK1:=hd ((hb2.block w1.heap.size (by simp)).trans (heap_alloc_new w1 _))
   have hlk1:=jQg HK1.out
   have HL2:=hd hL2
   have HB2:=hd ((HB1.out.trans ((HA1.out _).mono (by omega))).trans (hb2.mono (by simp;omega)))
   have hz2:=hb2.size
   simp at hz2
   clear hL2 hb2 p1
   go_wp2_with fail
   refine(lpeek wb sb db (Sq.qc0 cond) _ (HL2.out.below (HA2.out _))).mono ?_
   rintro e w3 ⟨pf103,dg103,rfl,hL3,hb3⟩
   rw[←HRC.out]
   unfold answer
   have HA3:=hd (fun o=>(Below.refl w3.heap.size w3).alloc (Nat.le_refl _) o)
   obtain⟨p3,hl3⟩:=hL3.cell
   have hk1:=(hb3.block w1.heap.size (by simp;omega)).trans ((jQax hlk1 _).trans HK1.out)
   have hk2:=(hb3.block w2.heap.size (by simp)).trans (heap_alloc_new w2 _)
   have a1:=jQb hk1 0
   have a2:=jQb hk2 0
   simp at a1 a2
   have hlk1':=jQg hk1
   have hlk2:=jQg hk2
   have HL3:=hd hL3
   have HB3:=hd ((HB2.out.trans ((HA2.out _).mono (by omega))).trans (hb3.mono (by simp;omega)))
   have hz3:=hb3.size
   simp at hz3
   clear hL3 hb3 hk1 hk2 p2
   go_wp2_with fail
   refine(jQac ra _ (by omega)).mono ?_
   rintro e w' ⟨rfl,hw'⟩
   rw[hw',←HNA.out]
   clear hw' w'
   go_wp2_with fail
   refine(jQac rb _ (by omega)).mono ?_
   rintro e w' ⟨rfl,hw'⟩
   rw[hw',←HNB.out]
   clear hw' w'
   go_wp2_with fail
   refine(jQac rc _ (by omega)).mono ?_
   rintro e w' ⟨rfl,hw'⟩
   rw[hw',←HNC.out]
   clear hw' w' a1 a2
   have htt:oa=true→ob=true→oc=true→na=nb+nc:=HF.out
   clear HF HNA HNB HNC HK1
   cases oa <;> cases ob <;> cases oc
   all_goals
    try(have hq:=htt rfl rfl rfl;subst hq)
    clear htt
    go_wp2_with fail
    refine(lpeek wb sb db (Sq.qStar cond) _ (HL3.out.below (HA3.out _))).mono ?_
    rintro e w4 ⟨pf104,dg104,rfl,hL4,hb4⟩
    rw[←HRL.out]
    unfold answer
    have HL4:=hd hL4
    have HB4:=hd ((HB3.out.trans ((HA3.out _).mono (by omega))).trans (hb4.mono (by simp;omega)))
    have hz4:=hb4.size
    simp at hz4
    clear hL4 hb4 p3
    go_wp2_with fail
    refine(jQ4 rl _ (by omega)).mono ?_
    rintro e w' ⟨rfl,hw'⟩
    rw[hw']
    clear hw' w'
    go_wp2_with fail
    refine(jQjP rl _ (by omega)).mono ?_
    rintro e w' ⟨rfl,hw'⟩
    rw[hw',←HNL.out]
    clear hw' w'
    cases hbl:Sq.bang rl
    all_goals
     first | (have hq2:=HLN.out trivial hbl) | (have hq2:=HLN.out rfl hbl) | skip
     clear hbl
     go_wp2
     go_roundw
     case rel=>exact⟨0+1,by omega,rfl,HL4.out.below ((Below.refl _ _).alloc (Nat.le_refl _) _),Below.alloc (B:=w0.heap.size) HB4.out (by omega) _⟩
     case measure=>simp[intOf]
  ·clear hk
   have hf:=Sq.jQok HL.out.good (Sq.qb1 cond) (Sq.qc1 cond) cond.data.toList (Sq.jQqw cond) (Sq.jQqu cond)
   have hln:=Sq.jQfM HL.out.good (Sq.qb0 cond) (Sq.qStar cond) cond.data.toList (Sq.jQio cond) (Sq.jQeo cond)
   rw[←Sq.jQqx] at hf
   have hsa:=Sq.jQX HL.out.good Sq.qa1
   have hsb:=Sq.jQX HL.out.good (Sq.qb1 cond)
   have hsc:=Sq.jQX HL.out.good (Sq.qc1 cond)
   have hsl:=Sq.jQX HL.out.good (Sq.qStar cond)
   obtain⟨ra,hra⟩:∃x,x=(Sq.decide db Sq.qa1).reply:=⟨_,rfl⟩
   obtain⟨rb,hrb⟩:∃x,x=(Sq.decide db (Sq.qb1 cond)).reply:=⟨_,rfl⟩
   obtain⟨rc,hrc⟩:∃x,x=(Sq.decide db (Sq.qc1 cond)).reply:=⟨_,rfl⟩
   obtain⟨rl,hrl⟩:∃x,x=(Sq.decide db (Sq.qStar cond)).reply:=⟨_,rfl⟩
   rw[←hra] at hsa
   rw[←hrb] at hsb
   rw[←hrc] at hsc
   rw[←hrl] at hsl
   rw[←hra,←hrb,←hrc] at hf
   have bda:=Sq.jQcf ra
   have bdb:=Sq.jQcf rb
   have bdc:=Sq.jQcf rc
   obtain⟨⟨na,oa⟩,hna⟩:∃p,p=Sq.number ra:=⟨_,rfl⟩
   obtain⟨⟨nb,ob⟩,hnb⟩:∃p,p=Sq.number rb:=⟨_,rfl⟩
   obtain⟨⟨nc,oc⟩,hnc⟩:∃p,p=Sq.number rc:=⟨_,rfl⟩
   rw[←hna,←hnb,←hnc] at hf
   rw[←hna] at bda
   rw[←hnb] at bdb
   rw[←hnc] at bdc
   simp only at hf bda bdb bdc
   obtain⟨nl,hnl⟩:∃x,x=Sq.lines false rl.data.toList:=⟨_,rfl⟩
   have HF:=hd hf
   have HRA:=hd hra
   have HRB:=hd hrb
   have HRC:=hd hrc
   have HRL:=hd hrl
   have HNA:=hd hna
   have HNB:=hd hnb
   have HNC:=hd hnc
   have HNL:=hd hnl
   clear hf hln hra hrb hrc hrl hna hnb hnc hnl
   obtain⟨p0,hl0⟩:=HL.out.cell
   have k0:=((bcell HBW.out).1 w.heap.size 1 (by rw[HSZ.out];omega)).trans (HKC.out.2)
   go_wp2_with fail
   refine(lpeek wb sb db Sq.qa1 _ HL.out).mono ?_
   rintro e w1 ⟨pf105,dg105,rfl,hL1,hb1⟩
   rw[←HRA.out]
   unfold answer
   have HA1:=hd (fun o=>(Below.refl w1.heap.size w1).alloc (Nat.le_refl _) o)
   obtain⟨p1,hl1⟩:=hL1.cell
   have HL1:=hd hL1
   have HB1:=hd (HBW.out.trans (hb1.mono hzw))
   have hz1:=hb1.size
   clear hL1 hb1 p0 k0
   go_wp2_with fail
   refine(lpeek wb sb db (Sq.qb1 cond) _ (HL1.out.below (HA1.out _))).mono ?_
   rintro e w2 ⟨pf106,dg106,rfl,hL2,hb2⟩
   rw[←HRB.out]
   unfold answer
   have HA2:=hd (fun o=>(Below.refl w2.heap.size w2).alloc (Nat.le_refl _) o)
   obtain⟨p2,hl2⟩:=hL2.cell
   have HK1:=hd ((hb2.block w1.heap.size (by simp)).trans (heap_alloc_new w1 _))
   have hlk1:=jQg HK1.out
   have HL2:=hd hL2
   have HB2:=hd ((HB1.out.trans ((HA1.out _).mono (by omega))).trans (hb2.mono (by simp;omega)))
   have hz2:=hb2.size
   simp at hz2
   clear hL2 hb2 p1
   go_wp2_with fail
   refine(lpeek wb sb db (Sq.qc1 cond) _ (HL2.out.below (HA2.out _))).mono ?_
   rintro e w3 ⟨pf107,dg107,rfl,hL3,hb3⟩
   rw[←HRC.out]
   unfold answer
   have HA3:=hd (fun o=>(Below.refl w3.heap.size w3).alloc (Nat.le_refl _) o)
   obtain⟨p3,hl3⟩:=hL3.cell
   have hk1:=(hb3.block w1.heap.size (by simp;omega)).trans ((jQax hlk1 _).trans HK1.out)
   have hk2:=(hb3.block w2.heap.size (by simp)).trans (heap_alloc_new w2 _)
   have a1:=jQb hk1 0
   have a2:=jQb hk2 0
   simp at a1 a2
   have hlk1':=jQg hk1
   have hlk2:=jQg hk2
   have HL3:=hd hL3
   have HB3:=hd ((HB2.out.trans ((HA2.out _).mono (by omega))).trans (hb3.mono (by simp;omega)))
   have hz3:=hb3.size
   simp at hz3
   clear hL3 hb3 hk1 hk2 p2
   go_wp2_with fail
   refine(jQac ra _ (by omega)).mono ?_
   rintro e w' ⟨rfl,hw'⟩
   rw[hw',←HNA.out]
   clear hw' w'
   go_wp2_with fail
   refine(jQac rb _ (by omega)).mono ?_
   rintro e w' ⟨rfl,hw'⟩
   rw[hw',←HNB.out]
   clear hw' w'
   go_wp2_with fail
   refine(jQac rc _ (by omega)).mono ?_
   rintro e w' ⟨rfl,hw'⟩
   rw[hw',←HNC.out]
   clear hw' w' a1 a2
   have htt:oa=true→ob=true→oc=true→na=nb+nc:=HF.out
   clear HF HNA HNB HNC HK1
   cases oa <;> cases ob <;> cases oc
   all_goals
    try(have hq:=htt rfl rfl rfl;subst hq)
    clear htt
    go_wp2_with fail
    refine(lpeek wb sb db (Sq.qStar cond) _ (HL3.out.below (HA3.out _))).mono ?_
    rintro e w4 ⟨pf108,dg108,rfl,hL4,hb4⟩
    rw[←HRL.out]
    unfold answer
    have HL4:=hd hL4
    have HB4:=hd ((HB3.out.trans ((HA3.out _).mono (by omega))).trans (hb4.mono (by simp;omega)))
    have hz4:=hb4.size
    simp at hz4
    clear hL4 hb4 p3
    go_wp2_with fail
    refine(jQ4 rl _ (by omega)).mono ?_
    rintro e w' ⟨rfl,hw'⟩
    rw[hw']
    clear hw' w'
    go_wp2_with fail
    refine(jQjP rl _ (by omega)).mono ?_
    rintro e w' ⟨rfl,hw'⟩
    rw[hw',←HNL.out]
    clear hw' w'
    cases hbl:Sq.bang rl
    all_goals
     skip
     clear hbl
     go_wp2
     go_roundw
     case rel=>exact⟨1+1,by omega,rfl,HL4.out.below ((Below.refl _ _).alloc (Nat.le_refl _) _),Below.alloc (B:=w0.heap.size) HB4.out (by omega) _⟩
     case measure=>simp[intOf]
  ·go_wp2
   go_ret
   exact⟨rfl,HB0.out.trans (HBW.out.mono (by have:=HSZ.out;omega))⟩
end
end Go.Proofs.YtahpihjialbanaaGreatDoor
