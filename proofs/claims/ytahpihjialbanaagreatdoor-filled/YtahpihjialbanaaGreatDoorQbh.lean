import Derived.Test.YtahpihjialbanaaGreatDoorQbg
set_option linter.unusedVariables false
set_option linter.unusedSimpArgs false
set_option maxRecDepth 100000
set_option maxHeartbeats 2000000
namespace Go.Proofs.YtahpihjialbanaaGreatDoor
section
open Go.RowKit
theorem jQfa (es:List Sq.Ent)(ev:Value)(hle hro hnu:Int)(hsl:ByteArray)(co:Option Addr)(cc:Nat)(vo:Option Addr)(vl vc:Nat)(w:World)(h:EntsAt 0 w ev es)(hl:es.length≤100)(hs:∀e∈es,e.row.size≤1000)(B:ByteArray)(HE:Hid (B=Sq.entsB (Sq.pnum 1 1++Sq.pnum es.length 1) es)) :
  Calls Tryz.prog 57 #[.agg #[.bool false,ev,.slice co 0 cc,.int .i64 hle,.int .i64 hro,.string hsl,.int .i64 hnu],.slice vo vl vc] w fun e w'=>e=.returned (.string B)∧Below w.heap.size w w':=by
 obtain⟨ao,acap,rfl⟩:=jQa h
 have H:=hd h
 have HS:=hd hs
 have hp1:=Sq.jQt 1 1
 have hp2:=Sq.jQt es.length 1
 obtain⟨p1,hq1⟩:∃x,x=Sq.pnum 1 1:=⟨_,rfl⟩
 obtain⟨p2,hq2⟩:∃x,x=Sq.pnum es.length 1:=⟨_,rfl⟩
 have he:=HE.out
 rw[←hq1,←hq2] at he
 rw[←hq1] at hp1
 rw[←hq2] at hp2
 have HE2:=hd he
 have HQ1:=hd hq1
 have HQ2:=hd hq2
 have hp1':p1.size≤1:=by omega
 have hp2':p2.size≤1:=by omega
 have hap:(p1++p2).size=p1.size+p2.size:=ByteArray.size_append
 have HAP:Hid ((p1++p2).size≤2000):=by show _≤_;omega
 clear h hs HE he hq1 hq2 hp1 hp2 hap
 go_enter Tryz.func57,Tryz.ntmps57
 go_wp2
 obtain⟨W,hW⟩:∃W:World,W=w.alloc (.cells #[.bool false,.slice ao es.length acap,.slice co 0 cc,.int .i64 hle,.int .i64 hro,.string hsl,.int .i64 hnu] 60):=⟨_,rfl⟩
 rw[←hW]
 have hbW:Below w.heap.size w W:=by rw[hW];exact(Below.refl _ _).alloc (Nat.le_refl _) _
 have hblk:W.heap[w.heap.size]?=some (.cells #[.bool false,.slice ao es.length acap,.slice co 0 cc,.int .i64 hle,.int .i64 hro,.string hsl,.int .i64 hnu] 60):=by rw[hW];exact jQk w _
 have hzW:=jQg hblk
 have HC:=hd (jQaS hblk)
 obtain⟨c0,c1,c2,c3,c4,c5,c6⟩:=node7 hblk
 have HBW:=hd hbW
 clear hW hbW hblk
 go_cut [6] from 11 (fun bv wx=>bv=.string (p1++p2)∧Below W.heap.size W wx)
 case first =>
  have HBr:Hid (Below W.heap.size W W):=Below.refl _ _
  go_region_with (first
   | (go_at_call 83;refine(jQos hle hro hnu hsl ao es.length acap co 0 cc _).mono ?_;rintro e w5 ⟨rfl,hb5⟩;have hb5':Below W.heap.size W w5:=(by first | exact HBr.out.trans (hb5.mono (by omega)) | exact(HBr.out.drew).trans (hb5.mono (by simp)));obtain⟨k0,k1,k2,k3,k4,k5,k6⟩:=HC.out w5 hb5';have hz5:=hb5'.size;have hz5':w.heap.size < w5.heap.size:=(by omega);clear HBr;have HBr:=hd hb5';clear hb5 hb5')
   | (go_at_call 56;refine(jQ8 _ 1 _ (by omega)).mono ?_;rintro e w5 ⟨rfl,hb5⟩;have hb5':Below W.heap.size W w5:=(by first | exact HBr.out.trans (hb5.mono (by omega)) | exact(HBr.out.drew).trans (hb5.mono (by simp)));obtain⟨k0,k1,k2,k3,k4,k5,k6⟩:=HC.out w5 hb5';have hz5:=hb5'.size;have hz5':w.heap.size < w5.heap.size:=(by omega);clear HBr;have HBr:=hd hb5';clear hb5 hb5';first | rw[←HQ1.out] | rw[←HQ2.out]))
  all_goals(try go_wp2_with fail)
  all_goals go_meet
  all_goals exact⟨rfl,HBr.out⟩
 case rest =>
  obtain⟨rfl,hbc⟩:=hcut
  have HBC:=hd hbc
  obtain⟨m0,m1,m2,m3,m4,m5,m6⟩:=HC.out wc hbc
  have hzc:=hbc.size
  have hzc':w.heap.size < wc.heap.size:=by omega
  clear hbc c0 c1 c2 c3 c4 c5 c6
  go_wp2
  go_loopw [6,7] (fun bv i wr=>∃(k:Nat) (b:ByteArray),bv=.string b∧i=.int .i64 k∧k≤es.length∧b.size≤2000 * (k+1)∧Below W.heap.size W wr∧Hid (B=Sq.entsB b (es.drop k))) (fun _ i _=>es.length - (intOf i).toNat)
  case atStart=>exact⟨0,p1++p2,rfl,rfl,Nat.zero_le _,HAP.out,HBC.out,HE2⟩
  case round =>
   obtain⟨k,b,rfl,rfl,hk,hbs,hb,HQ⟩:=hrel
   clear HAP HBC HE2 HQ1 HQ2 hp1' hp2' m0 m1 m2 m3 m4 m5 m6
   obtain⟨wo,rfl⟩:∃wo:World,wo=wr:=⟨_,rfl⟩
   have hzr:=hb.size
   have hzw:w.heap.size < wo.heap.size:=by omega
   obtain⟨m0,m1,m2,m3,m4,m5,m6⟩:=HC.out wo hb
   have HB:=hd hb
   by_cases hkt:k < es.length
   ·obtain⟨g,cap',hv,hg,hce⟩:=sl_at (f:=entCells) (fun _=>rfl) ((H.out.below HBW.out).below hb) k hkt
    simp only[Value.slice.injEq] at hv
    obtain⟨rfl,-,rfl⟩:=hv
    have c0:=hce 0 (.int .i64 es[k].place) (by decide) rfl
    have c1:=hce 1 (.string es[k].row) (by decide) rfl
    have hm:=HS.out es[k] (List.getElem_mem hkt)
    have hq:=HQ.out
    rw[Sq.jQnn es k hkt] at hq
    clear hce HQ hb
    generalize es[k]=x at *
    obtain⟨xp,xr⟩:=x
    simp only[Nat.add_zero] at c0 c1 hm hq
    have hts:=Sq.jQcu xr
    have hps:=Sq.jQt xp 5
    obtain⟨q1,hq1⟩:∃x,x=Sq.pnum xp 5:=⟨_,rfl⟩
    obtain⟨q2,hq2⟩:∃x,x=Sq.txt xr:=⟨_,rfl⟩
    rw[←hq1,←hq2] at hq
    rw[←hq2] at hts
    rw[←hq1] at hps
    have HQ:=hd hq
    have hps':q1.size≤5:=by omega
    have hts':q2.size≤1001:=by omega
    have hap1:(q1++q2).size=q1.size+q2.size:=ByteArray.size_append
    have hap2:(b++(q1++q2)).size=b.size+(q1++q2).size:=ByteArray.size_append
    have HAP:Hid ((b++(q1++q2)).size≤2000 * (k+1+1)):=by show _≤_;omega
    have hap3:(q1++q2).size≤1006:=by omega
    have HQ1:=hd hq1
    have HQ2:=hd hq2
    have i1:(k:Int) < (es.length:Int):=by omega
    have i2:¬((es.length:Int)≤(k:Int)):=by omega
    have i0:¬((k:Int) < 0):=by omega
    clear hq hts hps hq1 hq2 hap1 hap2
    go_wp2
    go_region_with (first
     | (have hx:=HB5;clear hx;go_at_call 56;refine(jQ8 xp 5 _ (by omega)).mono ?_;rintro e w6 ⟨rfl,hb6⟩;rw[←HQ1.out];have HB6:=hd (HB5.out.trans (hb6.mono (by omega)));clear hb6)
     | (have hx:=HB5;clear hx;go_at_call 84;refine(jQdt xr _ (by omega)).mono ?_;rintro e w6 ⟨rfl,hb6⟩;rw[←HQ2.out];have HB6:=hd (HB5.out.trans (hb6.mono (by omega)));clear hb6)
     | (go_at_call 56;refine(jQ8 xp 5 _ (by omega)).mono ?_;rintro e w5 ⟨rfl,hb5⟩;rw[←HQ1.out];have hb5':Below wo.heap.size wo w5:=(Below.drew (Below.refl _ _)).trans hb5;have k0:=((bcell hb5').1 g (k * 2) hg).trans c0;have k1:=((bcell hb5').1 g (k * 2+1) hg).trans c1;have k2:=((bcell hb5').1 w.heap.size 1 hzw).trans m1;have hz5:=hb5'.size;have HB5:=hd hb5';clear hb5 hb5')
     | (go_at_call 84;refine(jQdt xr _ (by omega)).mono ?_;rintro e w5 ⟨rfl,hb5⟩;rw[←HQ2.out];have hb5':Below wo.heap.size wo w5:=(Below.drew (Below.refl _ _)).trans hb5;have k0:=((bcell hb5').1 g (k * 2) hg).trans c0;have k1:=((bcell hb5').1 g (k * 2+1) hg).trans c1;have k2:=((bcell hb5').1 w.heap.size 1 hzw).trans m1;have hz5:=hb5'.size;have HB5:=hd hb5';clear hb5 hb5'))
    all_goals(try go_wp2)
    all_goals
     go_roundw
     case rel=>exact⟨k+1,b++(q1++q2),rfl,by go_num,by omega,HAP.out,HB.out.trans (HB6.out.mono hzr),HQ⟩
     case measure=>simp[intOf];omega
   ·have i1:¬((k:Int) < (es.length:Int)):=by omega
    have HN:Hid (B=b):=by show _=_;rw[HQ.out,List.drop_eq_nil_of_le (by omega)];rfl
    clear hb HQ
    go_wp2
    go_loopw [6,8] (fun bv i wr=>bv=.string b∧i=.int .i64 0∧wr=wo) (fun _ _ _=>0)
    case atStart=>exact⟨rfl,rfl,rfl⟩
    case round =>
     obtain⟨rfl,rfl,rfl⟩:=hrel
     go_wp2
     go_ret
     exact⟨by rw[HN.out];rfl,HBW.out.trans (HB.out.mono (by omega))⟩
end
end Go.Proofs.YtahpihjialbanaaGreatDoor
