import Derived.Test.YtahpihjialbanaaGreatDoorQav
set_option linter.all false
set_option maxRecDepth 100000
set_option maxHeartbeats 2000000
namespace Go.Proofs.YtahpihjialbanaaGreatDoor
open Sq (bz jGB jQt)
section
open Go.RowKit
theorem jRo (es:List Sq.Ent)(ev:Value)(hle hY hX:Int)(hZ:BA)(co:Option Addr)(cc:Nat)(vo:Option Addr)(vl vc:Nat)(w:World)(h:aM 0 w ev es)(hl:es.length<=100)(hs:∀e∈es,e.row.size<=1000)(B:BA)(HE:Hid (B=jGB (bz 1 1++bz es.length 1) es)) :
  Calls Tryz.prog 57 #[.agg #[.bool false,ev,.slice co 0 cc,.int .i64 hle,.int .i64 hY,.string hZ,.int .i64 hX],.slice vo vl vc] w fun e w'=>e=.returned (.string B)/\Below w.heap.size w w':=by
 obtain⟨ao,hT,rfl⟩:=jQa h;have H:=hd h;have HS:=hd hs;have hD:=jQt 1 1;have hE:=jQt es.length 1;obtain⟨p1,hR⟩:∃x,x=bz 1 1:=⟨_,rfl⟩;obtain⟨p2,hS⟩:∃x,x=bz es.length 1:=⟨_,rfl⟩;have he:=HE.o;rw[<-hR,<-hS] at he;rw[<-hR] at hD;rw[<-hS] at hE;have hB:=hd he;have hi:=hd hR;have hj:=hd hS;have hr:p1.size<=1:=by omega
 have ht:p2.size<=1:=by omega
 have hI:(p1++p2).size=p1.size+p2.size:=cO;have hn:Hid ((p1++p2).size<=2000):=by show _<=_;omega
 clear h hs HE he hR hS hD hE hI;go_enter Tryz.func57,Tryz.ntmps57;go_wp2;obtain⟨W,hW⟩:∃W:World,W=w.alloc (.cells #[.bool false,.slice ao es.length hT,.slice co 0 cc,.int .i64 hle,.int .i64 hY,.string hZ,.int .i64 hX] 60):=⟨_,rfl⟩;rw[<-hW];have hC:Below w.heap.size w W:=by rw[hW];exact bA
 have hf:W.heap[w.heap.size]?=some (.cells #[.bool false,.slice ao es.length hT,.slice co 0 cc,.int .i64 hle,.int .i64 hY,.string hZ,.int .i64 hX] 60):=by rw[hW];exact jQi w _
 have hO:=jQe hf;have HC:=hd (jIG hf);obtain⟨c0,c1,c2,c3,c4,c5,c6⟩:=node7 hf;have hA:=hd hC;clear hW hC hf
 go_cut [6] from 11 (fun bv wx=>bv=.string (p1++p2)/\Below W.heap.size W wx)
 case first =>
  have hc:Hid (Below W.heap.size W W):=bR
  go_region_with (first
   | (go_at_call 83;refine(qAI hle hY hX hZ ao es.length hT co 0 cc _).mono ?_;rintro e w5 ⟨rfl,hQ⟩;have ha:Below W.heap.size W w5:=(by first | exact hc.o.trans (hQ.mono (by omega)) | exact(hc.o.drew).trans (hQ.mono (by simp)));obtain⟨k0,k1,k2,k3,k4,k5,k6⟩:=HC.o w5 ha;have hu:=ha.size;have hw:w.heap.size<w5.heap.size:=(by omega);clear hc;have hc:=hd ha;clear hQ ha)
   | (go_at_call 56;refine(jQ6 _ 1 _ (by omega)).mono ?_;rintro e w5 ⟨rfl,hQ⟩;have ha:Below W.heap.size W w5:=(by first | exact hc.o.trans (hQ.mono (by omega)) | exact(hc.o.drew).trans (hQ.mono (by simp)));obtain⟨k0,k1,k2,k3,k4,k5,k6⟩:=HC.o w5 ha;have hu:=ha.size;have hw:w.heap.size<w5.heap.size:=(by omega);clear hc;have hc:=hd ha;clear hQ ha;first | rw[<-hi.o] | rw[<-hj.o]))
  all_goals(try go_wp2_with fail)
  all_goals go_meet
  all_goals exact⟨rfl,hc.o⟩
 case rest =>
  obtain⟨rfl,hV⟩:=hcut;have hz:=hd hV;obtain⟨m0,m1,m2,m3,m4,m5,m6⟩:=HC.o wc hV;have hP:=hV.size;have hM:w.heap.size<wc.heap.size:=by omega
  clear hV c0 c1 c2 c3 c4 c5 c6;go_wp2
  go_loopw [6,7] (fun bv i wr=>∃(k:Nat) (b:BA),bv=.string b/\i=.int .i64 k/\k<=es.length/\b.size<=2000*(k+1)/\Below W.heap.size W wr/\Hid (B=jGB b (es.drop k))) (fun _ i _=>es.length-(intOf i).toNat)
  case atStart=>exact⟨0,p1++p2,rfl,rfl,zR,hn.o,hz.o,hB⟩
  case round =>
   obtain⟨k,b,rfl,rfl,hk,h2,hb,HQ⟩:=hrel;clear hn hz hB hi hj hr ht m0 m1 m2 m3 m4 m5 m6;obtain⟨wo,rfl⟩:∃wo:World,wo=wr:=⟨_,rfl⟩;have hN:=hb.size;have hH:w.heap.size<wo.heap.size:=by omega
   obtain⟨m0,m1,m2,m3,m4,m5,m6⟩:=HC.o wo hb;have HB:=hd hb
   by_cases hkt:k<es.length
   ·obtain⟨g,h1,hv,hg,h0⟩:=jCc (f:=jAw) (fun _=>rfl) ((H.o.below hA.o).below hb) k hkt;obtain⟨rfl,-,rfl⟩:=sI hv;have c0:=h0 0 (.int .i64 es[k].place) (by decide) rfl;have c1:=h0 1 (.string es[k].row) (by decide) rfl;have hm:=HS.o es[k] (cJ hkt);have hq:=HQ.o;rw[Sq.jY6 es k hkt] at hq;clear h0 HQ hb;generalize es[k]=x at *;obtain⟨xp,xr⟩:=x;simp only[dB] at c0 c1 hm hq;have hG:=Sq.jHt xr;have hF:=jQt xp 5;obtain⟨q1,hR⟩:∃x,x=bz xp 5:=⟨_,rfl⟩;obtain⟨q2,hS⟩:∃x,x=Sq.txt xr:=⟨_,rfl⟩;rw[<-hR,<-hS] at hq;rw[<-hS] at hG;rw[<-hR] at hF;have HQ:=hd hq;have hK:q1.size<=5:=by omega
    have hL:q2.size<=1001:=by omega
    have ho:(q1++q2).size=q1.size+q2.size:=cO;have hp:(b++(q1++q2)).size=b.size+(q1++q2).size:=cO;have hn:Hid ((b++(q1++q2)).size<=2000*(k+1+1)):=by show _<=_;omega
    have hJ:(q1++q2).size<=1006:=by omega
    have hi:=hd hR;have hj:=hd hS;have i1:(k:Int)<(es.length:Int):=by omega
    have i2:¬((es.length:Int)<=(k:Int)):=by omega
    have i0:¬((k:Int)<0):=by omega
    clear hq hG hF hR hS ho hp;go_wp2
    go_region_with (first
     | (have hx:=hh;clear hx;go_at_call 56;refine(jQ6 xp 5 _ (by omega)).mono ?_;rintro e w6 ⟨rfl,hU⟩;rw[<-hi.o];have hy:=hd (hh.o.trans (hU.mono (by omega)));clear hU)
     | (have hx:=hh;clear hx;go_at_call 84;refine(jJh xr _ (by omega)).mono ?_;rintro e w6 ⟨rfl,hU⟩;rw[<-hj.o];have hy:=hd (hh.o.trans (hU.mono (by omega)));clear hU)
     | (go_at_call 56;refine(jQ6 xp 5 _ (by omega)).mono ?_;rintro e w5 ⟨rfl,hQ⟩;rw[<-hi.o];have ha:Below wo.heap.size wo w5:=(cB bR).trans hQ;have k0:=((aD ha).1 g (k*2) hg).trans c0;have k1:=((aD ha).1 g (k*2+1) hg).trans c1;have k2:=((aD ha).1 w.heap.size 1 hH).trans m1;have hu:=ha.size;have hh:=hd ha;clear hQ ha)
     | (go_at_call 84;refine(jJh xr _ (by omega)).mono ?_;rintro e w5 ⟨rfl,hQ⟩;rw[<-hj.o];have ha:Below wo.heap.size wo w5:=(cB bR).trans hQ;have k0:=((aD ha).1 g (k*2) hg).trans c0;have k1:=((aD ha).1 g (k*2+1) hg).trans c1;have k2:=((aD ha).1 w.heap.size 1 hH).trans m1;have hu:=ha.size;have hh:=hd ha;clear hQ ha))
    all_goals(try go_wp2)
    all_goals
     go_roundw;exact⟨k+1,b++(q1++q2),rfl,by go_num,by omega,hn.o,HB.o.trans (hy.o.mono hN),HQ⟩;simp[intOf];omega
   have i1:¬((k:Int)<(es.length:Int)):=by omega
   have HN:Hid (B=b):=by show _=_;rw[HQ.o,cD (by omega)];rfl
   clear hb HQ;go_wp2
   go_loopw [6,8] (fun bv i wr=>bv=.string b/\i=.int .i64 0/\wr=wo) (fun _ _ _=>0)
   case atStart=>exact⟨rfl,rfl,rfl⟩
   case round =>
    obtain⟨rfl,rfl,rfl⟩:=hrel;go_wp2;go_ret;exact⟨by rw[HN.o];rfl,hA.o.trans (HB.o.mono (by omega))⟩
end
end Go.Proofs.YtahpihjialbanaaGreatDoor
