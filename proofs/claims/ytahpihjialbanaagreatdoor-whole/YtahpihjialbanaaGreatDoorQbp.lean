import Derived.Test.YtahpihjialbanaaGreatDoorQbo
set_option linter.unusedVariables false
set_option linter.unusedSimpArgs false
set_option maxRecDepth 100000
set_option maxHeartbeats 2000000
namespace Go.Proofs.YtahpihjialbanaaGreatDoor
open Sq (pnum)
section
open Go.RowKit
theorem jQfc (es:List Sq.Ent)(ev:Value)(hle hro hnu:Int)(hsl:ByteArray)(co:Option Addr)(cc:Nat)(vo:Option Addr)(vl vc:Nat)(w:World)(h:EntsAt 0 w ev es)(hl:es.length<=100)(hs:∀e∈es,e.row.size<=1000)(B:ByteArray)(HE:Hid (B=Sq.entsB (pnum 1 1++pnum es.length 1) es)) :
  Calls Tryz.prog 57 #[.agg #[.bool false,ev,.slice co 0 cc,.int .i64 hle,.int .i64 hro,.string hsl,.int .i64 hnu],.slice vo vl vc] w fun e w'=>e=.returned (.string B)/\Below w.heap.size w w':=by
 obtain⟨ao,acap,rfl⟩:=jQa h;have H:=hd h;have HS:=hd hs;have hE:=Sq.jQt 1 1;have hB:=Sq.jQt es.length 1;obtain⟨p1,hq1⟩:∃x,x=pnum 1 1:=⟨_,rfl⟩;obtain⟨p2,hq2⟩:∃x,x=pnum es.length 1:=⟨_,rfl⟩;have he:=HE.o;rw[<-hq1,<-hq2] at he;rw[<-hq1] at hE;rw[<-hq2] at hB;have hz:=hd he;have hi:=hd hq1;have hh:=hd hq2;have hp:p1.size<=1:=by omega
 have ht:p2.size<=1:=by omega
 have hL:(p1++p2).size=p1.size+p2.size:=ByteArray.size_append;have hn:Hid ((p1++p2).size<=2000):=by show _<=_;omega
 clear h hs HE he hq1 hq2 hE hB hL;go_enter Tryz.func57,Tryz.ntmps57;go_wp2;obtain⟨W,hW⟩:∃W:World,W=w.alloc (.cells #[.bool false,.slice ao es.length acap,.slice co 0 cc,.int .i64 hle,.int .i64 hro,.string hsl,.int .i64 hnu] 60):=⟨_,rfl⟩;rw[<-hW];have hD:Below w.heap.size w W:=by rw[hW];exact(bR).alloc (nR) _
 have hf:W.heap[w.heap.size]?=some (.cells #[.bool false,.slice ao es.length acap,.slice co 0 cc,.int .i64 hle,.int .i64 hro,.string hsl,.int .i64 hnu] 60):=by rw[hW];exact jQi w _
 have hO:=jQf hf;have HC:=hd (jQaF hf);obtain⟨c0,c1,c2,c3,c4,c5,c6⟩:=node7 hf;have hC:=hd hD;clear hW hD hf
 go_cut [6] from 11 (fun bv wx=>bv=.string (p1++p2)/\Below W.heap.size W wx)
 case first =>
  have hc:Hid (Below W.heap.size W W):=bR
  go_region_with (first
   | (go_at_call 83;refine(jQoT hle hro hnu hsl ao es.length acap co 0 cc _).mono ?_;rintro e w5 ⟨rfl,hb5⟩;have ha:Below W.heap.size W w5:=(by first | exact hc.o.trans (hb5.mono (by omega)) | exact(hc.o.drew).trans (hb5.mono (by simp)));obtain⟨k0,k1,k2,k3,k4,k5,k6⟩:=HC.o w5 ha;have ho:=ha.size;have hu:w.heap.size<w5.heap.size:=(by omega);clear hc;have hc:=hd ha;clear hb5 ha)
   | (go_at_call 56;refine(jQ7 _ 1 _ (by omega)).mono ?_;rintro e w5 ⟨rfl,hb5⟩;have ha:Below W.heap.size W w5:=(by first | exact hc.o.trans (hb5.mono (by omega)) | exact(hc.o.drew).trans (hb5.mono (by simp)));obtain⟨k0,k1,k2,k3,k4,k5,k6⟩:=HC.o w5 ha;have ho:=ha.size;have hu:w.heap.size<w5.heap.size:=(by omega);clear hc;have hc:=hd ha;clear hb5 ha;first | rw[<-hi.o] | rw[<-hh.o]))
  all_goals(try go_wp2_with fail)
  all_goals go_meet
  all_goals exact⟨rfl,hc.o⟩
 case rest =>
  obtain⟨rfl,hbc⟩:=hcut;have hy:=hd hbc;obtain⟨m0,m1,m2,m3,m4,m5,m6⟩:=HC.o wc hbc;have hP:=hbc.size;have hM:w.heap.size<wc.heap.size:=by omega
  clear hbc c0 c1 c2 c3 c4 c5 c6;go_wp2
  go_loopw [6,7] (fun bv i wr=>∃(k:Nat) (b:ByteArray),bv=.string b/\i=.int .i64 k/\k<=es.length/\b.size<=2000*(k+1)/\Below W.heap.size W wr/\Hid (B=Sq.entsB b (es.drop k))) (fun _ i _=>es.length-(intOf i).toNat)
  case atStart=>exact⟨0,p1++p2,rfl,rfl,zR,hn.o,hy.o,hz⟩
  case round =>
   obtain⟨k,b,rfl,rfl,hk,hbs,hb,HQ⟩:=hrel;clear hn hy hz hi hh hp ht m0 m1 m2 m3 m4 m5 m6;obtain⟨wo,rfl⟩:∃wo:World,wo=wr:=⟨_,rfl⟩;have hN:=hb.size;have hA:w.heap.size<wo.heap.size:=by omega
   obtain⟨m0,m1,m2,m3,m4,m5,m6⟩:=HC.o wo hb;have HB:=hd hb
   by_cases hkt:k<es.length
   ·obtain⟨g,cap',hv,hg,hce⟩:=sl_at (f:=entCells) (fun _=>rfl) ((H.o.below hC.o).below hb) k hkt;simp only[Value.slice.injEq] at hv;obtain⟨rfl,-,rfl⟩:=hv;have c0:=hce 0 (.int .i64 es[k].place) (by decide) rfl;have c1:=hce 1 (.string es[k].row) (by decide) rfl;have hm:=HS.o es[k] (List.getElem_mem hkt);have hq:=HQ.o;rw[Sq.jQnT es k hkt] at hq;clear hce HQ hb;generalize es[k]=x at *;obtain⟨xp,xr⟩:=x;simp only[Nat.add_zero] at c0 c1 hm hq;have hH:=Sq.jQcc xr;have hG:=Sq.jQt xp 5;obtain⟨q1,hq1⟩:∃x,x=pnum xp 5:=⟨_,rfl⟩;obtain⟨q2,hq2⟩:∃x,x=Sq.txt xr:=⟨_,rfl⟩;rw[<-hq1,<-hq2] at hq;rw[<-hq2] at hH;rw[<-hq1] at hG;have HQ:=hd hq;have hJ:q1.size<=5:=by omega
    have hK:q2.size<=1001:=by omega
    have hr:(q1++q2).size=q1.size+q2.size:=ByteArray.size_append;have hw:(b++(q1++q2)).size=b.size+(q1++q2).size:=ByteArray.size_append;have hn:Hid ((b++(q1++q2)).size<=2000*(k+1+1)):=by show _<=_;omega
    have hI:(q1++q2).size<=1006:=by omega
    have hi:=hd hq1;have hh:=hd hq2;have i1:(k:Int)<(es.length:Int):=by omega
    have i2:¬((es.length:Int)<=(k:Int)):=by omega
    have i0:¬((k:Int)<0):=by omega
    clear hq hH hG hq1 hq2 hr hw;go_wp2
    go_region_with (first
     | (have hx:=hj;clear hx;go_at_call 56;refine(jQ7 xp 5 _ (by omega)).mono ?_;rintro e w6 ⟨rfl,hb6⟩;rw[<-hi.o];have hF:=hd (hj.o.trans (hb6.mono (by omega)));clear hb6)
     | (have hx:=hj;clear hx;go_at_call 84;refine(jQdi xr _ (by omega)).mono ?_;rintro e w6 ⟨rfl,hb6⟩;rw[<-hh.o];have hF:=hd (hj.o.trans (hb6.mono (by omega)));clear hb6)
     | (go_at_call 56;refine(jQ7 xp 5 _ (by omega)).mono ?_;rintro e w5 ⟨rfl,hb5⟩;rw[<-hi.o];have ha:Below wo.heap.size wo w5:=(Below.drew (bR)).trans hb5;have k0:=((bcell ha).1 g (k*2) hg).trans c0;have k1:=((bcell ha).1 g (k*2+1) hg).trans c1;have k2:=((bcell ha).1 w.heap.size 1 hA).trans m1;have ho:=ha.size;have hj:=hd ha;clear hb5 ha)
     | (go_at_call 84;refine(jQdi xr _ (by omega)).mono ?_;rintro e w5 ⟨rfl,hb5⟩;rw[<-hh.o];have ha:Below wo.heap.size wo w5:=(Below.drew (bR)).trans hb5;have k0:=((bcell ha).1 g (k*2) hg).trans c0;have k1:=((bcell ha).1 g (k*2+1) hg).trans c1;have k2:=((bcell ha).1 w.heap.size 1 hA).trans m1;have ho:=ha.size;have hj:=hd ha;clear hb5 ha))
    all_goals(try go_wp2)
    all_goals
     go_roundw
     case rel=>exact⟨k+1,b++(q1++q2),rfl,by go_num,by omega,hn.o,HB.o.trans (hF.o.mono hN),HQ⟩
     case measure=>simp[intOf];omega
   ·have i1:¬((k:Int)<(es.length:Int)):=by omega
    have HN:Hid (B=b):=by show _=_;rw[HQ.o,List.drop_eq_nil_of_le (by omega)];rfl
    clear hb HQ;go_wp2
    go_loopw [6,8] (fun bv i wr=>bv=.string b/\i=.int .i64 0/\wr=wo) (fun _ _ _=>0)
    case atStart=>exact⟨rfl,rfl,rfl⟩
    case round =>
     obtain⟨rfl,rfl,rfl⟩:=hrel;go_wp2;go_ret;exact⟨by rw[HN.o];rfl,hC.o.trans (HB.o.mono (by omega))⟩
end
end Go.Proofs.YtahpihjialbanaaGreatDoor
