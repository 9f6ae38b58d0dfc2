import Derived.Test.YtahpihjialbanaaGreatDoorQat
import Derived.Test.YtahpihjialbanaaGreatDoorQaw
set_option linter.all false
set_option maxRecDepth 100000
set_option maxHeartbeats 40000000
namespace Go.Proofs.YtahpihjialbanaaGreatDoor
open Sq (aa af Nd Trl aj ar bI bz aT bj aN Tab aS aw bG bq jA3 jAM jAl jAo jAt jBW jBX jBb jBj jCY jDA jDn jEY jFl jGC jKO jMV jOf jQt)
variable {K:Int}{a:Act}{a0 a1 a2 a3 a4 a5 a6 cv ev:Value}{b i k m n sb tb:Nat}{c:Array Value}{dg:BA}{fr:Nat×Nat}{o:Oper}{w w':World}{α β γ:Type}
section
open Go.RowKit
variable {Z:Nat->Prop}
theorem jWV (n:Nat)(l:List (Nd n×Value×Value))(cv:Value)(hle h7 h6:Int)(h8:BA)(eo:Option Addr)(h4:Nat)(bs:List BA)(bv:Value)(w:World)(h:aB Z 0 w cv n l)(hS:jC3 w bv bs)(hl:l.length<=100)(h9:bs.length=l.length)(Ha:∀b∈bs,b.size<=10000)(B:BA)(HE:Hid (B=jGC (aa n) (bz 2 1++bz l.length 1) ((l.map Prod.fst).zip bs))) :
  Calls Tryz.prog 57 #[.agg #[.bool true,.slice eo 0 h4,cv,.int .i64 hle,.int .i64 h7,.string h8,.int .i64 h6],bv] w fun e w'=>e=.returned (.string B)/\Below w.heap.size w w':=by
 obtain⟨ao,h0,rfl⟩:=jQa h.own;obtain⟨vo,Hh,rfl⟩:=jQa hS.1;have H:=hd h;have hI:=hd hS;have HS:=hd Ha;have hU:=hd h9;have hM:bs.length<=l.length:=by omega
 have hN:l.length<=bs.length:=by omega
 have hE:=jQt 2 1;have hF:=jQt l.length 1;obtain⟨p1,h1⟩:∃x,x=bz 2 1:=⟨_,rfl⟩;obtain⟨p2,h2⟩:∃x,x=bz l.length 1:=⟨_,rfl⟩;have he:=HE.o;rw[<-h1,<-h2] at he;rw[<-h1] at hE;rw[<-h2] at hF;have hA:=hd he;have hi:=hd h1;have hj:=hd h2;have ht:p1.size<=1:=by omega
 have hu:p2.size<=1:=by omega
 have hJ:(p1++p2).size=p1.size+p2.size:=cO;have hh:Hid ((p1++p2).size<=2000):=by show _<=_;omega
 clear h Ha hS h9 HE he h1 h2 hE hF hJ;go_enter Tryz.func57,Tryz.ntmps57;go_wp2;obtain⟨W,hW⟩:∃W:World,W=w.alloc (.cells #[.bool true,.slice eo 0 h4,.slice ao l.length h0,.int .i64 hle,.int .i64 h7,.string h8,.int .i64 h6] 60):=⟨_,rfl⟩;rw[<-hW];have hB:Below w.heap.size w W:=by rw[hW];exact bA
 have hf:W.heap[w.heap.size]?=some (.cells #[.bool true,.slice eo 0 h4,.slice ao l.length h0,.int .i64 hle,.int .i64 h7,.string h8,.int .i64 h6] 60):=by rw[hW];exact jQi w _
 have hV:=jQe hf;have HC:=hd (jIG hf);obtain⟨c0,c1,c2,c3,c4,c5,c6⟩:=node7 hf;have hn:=hd hB;clear hW hB hf
 go_cut [6] from 11 (fun bv wx=>bv=.string (p1++p2)/\Below W.heap.size W wx)
 case first =>
  have hc:Hid (Below W.heap.size W W):=bR
  go_region_with (first
   | (go_at_call 83;refine(qAJ hle h7 h6 h8 eo 0 h4 ao l.length h0 _).mono ?_;rintro e w5 ⟨rfl,hZ⟩;have ha:Below W.heap.size W w5:=(by first | exact hc.o.trans (hZ.mono (by omega)) | exact(hc.o.drew).trans (hZ.mono (by simp)));obtain⟨k0,k1,k2,k3,k4,k5,k6⟩:=HC.o w5 ha;have hQ:=ha.size;have hw:w.heap.size<w5.heap.size:=(by omega);clear hc;have hc:=hd ha;clear hZ ha)
   | (go_at_call 56;refine(jQ6 _ 1 _ (by omega)).mono ?_;rintro e w5 ⟨rfl,hZ⟩;have ha:Below W.heap.size W w5:=(by first | exact hc.o.trans (hZ.mono (by omega)) | exact(hc.o.drew).trans (hZ.mono (by simp)));obtain⟨k0,k1,k2,k3,k4,k5,k6⟩:=HC.o w5 ha;have hQ:=ha.size;have hw:w.heap.size<w5.heap.size:=(by omega);clear hc;have hc:=hd ha;clear hZ ha;first | rw[<-hi.o] | rw[<-hj.o]))
  all_goals(try go_wp2_with fail)
  all_goals go_meet
  all_goals exact⟨rfl,hc.o⟩
 case rest =>
  obtain⟨rfl,h5⟩:=hcut;have hy:=hd h5;obtain⟨m0,m1,m2,m3,m4,m5,m6⟩:=HC.o wc h5;have hX:=h5.size;have hR:w.heap.size<wc.heap.size:=by omega
  clear h5 c0 c1 c2 c3 c4 c5 c6 hi hj ht hu;go_wp2
  go_loopw [6,7] (fun bv i wr=>bv=.string (p1++p2)/\i=.int .i64 0/\wr=wc) (fun _ _ _=>0)
  case atStart=>exact⟨rfl,rfl,rfl⟩
  case round =>
   obtain⟨rfl,rfl,rfl⟩:=hrel;obtain⟨wd,rfl⟩:∃wd:World,wd=wr:=⟨_,rfl⟩;go_wp2
   go_loopw [6,8] (fun bv i wr=>∃(k:Nat) (b:BA),bv=.string b/\i=.int .i64 k/\k<=l.length/\b.size<=11000*(k+1)/\Below W.heap.size W wr/\Hid (B=jGC (aa n) b (((l.map Prod.fst).zip bs).drop k))) (fun _ i _=>l.length-(intOf i).toNat)
   case atStart=>exact⟨0,p1++p2,rfl,rfl,zR,by have:=hh.o;omega,hy.o,hA⟩
   case round =>
    obtain⟨k,b,rfl,rfl,hk,Hi,hb,HQ⟩:=hrel;clear hh hy hA m0 m1 m2 m3 m4 m5 m6;obtain⟨wo,rfl⟩:∃wo:World,wo=wr:=⟨_,rfl⟩;have hY:=hb.size;have hT:w.heap.size<wo.heap.size:=by omega
    obtain⟨m0,m1,m2,m3,m4,m5,m6⟩:=HC.o wo hb;have HB:=hd hb
    by_cases hkt:k<l.length
    ·obtain⟨g,Hb,ea,el,ec,ca,cl,cc,hv,hg,⟨d0,d1,d2,d3,d4,He,Hd⟩,d5,d6⟩:=((H.o.below hn.o).below hb).at k hkt;obtain⟨rfl,-,rfl⟩:=sI hv;obtain⟨gs,Hc,Hg,Hf,ds⟩:=((hI.o.below hn.o).below hb).at k (by omega);obtain⟨rfl,-,rfl⟩:=sI Hg;have hm:=HS.o bs[k] (cJ (by omega));have hq:=HQ.o;rw[Sq.jY8 _ _ k (by rw[List.length_zip,cF];omega),List.getElem_zip,da] at hq;simp only at hq;clear HQ hb d0 d1 d2 d5 d6 He Hd;generalize aa n l[k].1=xh at *;obtain⟨xi,xl,xc,xs,xn⟩:=xh;simp only at hq d3 d4;generalize bs[k]=xd at *;have hG:=jQt xl 5;have hC:=jQt xc 1;obtain⟨q1,h1⟩:∃x,x=bz xl 5:=⟨_,rfl⟩;obtain⟨q2,h2⟩:∃x,x=bz xc 1:=⟨_,rfl⟩;rw[<-h1,<-h2] at hq;rw[<-h2] at hC;rw[<-h1] at hG;have HQ:=hd hq;have hP:q1.size<=5:=by omega
     have hO:q2.size<=1:=by omega
     have ho:(q1++q2).size=q1.size+q2.size:=cO;have hp:(q1++q2++xd).size=(q1++q2).size+xd.size:=cO;have hr:(b++(q1++q2++xd)).size=b.size+(q1++q2++xd).size:=cO;have hh:Hid ((b++(q1++q2++xd)).size<=11000*(k+1+1)):=by show _<=_;omega
     have hK:(q1++q2++xd).size<=10010:=by omega
     have hL:(q1++q2).size<=6:=by omega
     have hi:=hd h1;have hj:=hd h2;have i1:(k:Int)<(l.length:Int):=by omega
     have i2:¬((l.length:Int)<=(k:Int)):=by omega
     have i0:¬((k:Int)<0):=by omega
     have i3:decide ((k:Int)<(bs.length:Int))=true:=by simp;omega
     have i4:¬((bs.length:Int)<=(k:Int)):=by omega
     have hD:g<wo.heap.size:=hg;have hs:gs<wo.heap.size:=Hf;have hz:Hid (∀w',Below wo.heap.size wo w'->w'.cell? ⟨g,k*7+3,none⟩=some (.int .i64 xl)/\w'.cell? ⟨g,k*7+4,none⟩=some (.int .i64 xc)/\w'.cell? ⟨gs,k,none⟩=some (.string xd)/\w'.cell? ⟨w.heap.size,2,none⟩=some (.slice (some ⟨g,0,none⟩) l.length h0)/\g<w'.heap.size/\gs<w'.heap.size/\w.heap.size<w'.heap.size):=fun w' h3=>⟨((aD h3).1 g _ hD).trans d3,((aD h3).1 g _ hD).trans d4,((aD h3).1 gs _ hs).trans ds,((aD h3).1 w.heap.size 2 hT).trans m2,by have:=h3.size;omega,by have:=h3.size;omega,by have:=h3.size;omega⟩
     have j1:(9223372036854775807<q1.size+q2.size)=False:=by simp;omega
     have j2:(9223372036854775807<q1.size+q2.size+xd.size)=False:=by simp;omega
     have j3:(9223372036854775807<b.size+(q1.size+q2.size+xd.size))=False:=by simp;omega
     clear hq hC hG h1 h2 ho hp hr;go_wp2;have hc:Hid (Below wo.heap.size wo wo):=bR
     go_region_held3 (fun w'=>w'.cell? ⟨g,k*7+3,none⟩=some (.int .i64 xl)/\w'.cell? ⟨g,k*7+4,none⟩=some (.int .i64 xc)/\w'.cell? ⟨gs,k,none⟩=some (.string xd)/\w'.cell? ⟨w.heap.size,2,none⟩=some (.slice (some ⟨g,0,none⟩) l.length h0)) (go_keep) (first | (go_at_call 56;have hx:=hH;clear hx;refine(jQ6 xc 1 _ (by omega)).mono ?_;rintro e w5 ⟨rfl,hZ⟩;have ha:Below wo.heap.size wo w5:=(by first | exact hc.o.trans (hZ.mono hc.o.size) | exact(hc.o.drew).trans (hZ.mono (by first | (simp;done) | (have:=hc.o.size;simp;omega) | exact hc.o.size)));obtain⟨k3,k4,ks,k2,k5,k6,k7⟩:=hz.o w5 ha;clear hc;have hc:=hd ha;clear hZ ha;rw[<-hj.o]) | (go_at_call 56;have hH:True:=trivial;refine(jQ6 xl 5 _ (by omega)).mono ?_;rintro e w5 ⟨rfl,hZ⟩;have ha:Below wo.heap.size wo w5:=(by first | exact hc.o.trans (hZ.mono hc.o.size) | exact(hc.o.drew).trans (hZ.mono (by first | (simp;done) | (have:=hc.o.size;simp;omega) | exact hc.o.size)));obtain⟨k3,k4,ks,k2,k5,k6,k7⟩:=hz.o w5 ha;clear hc;have hc:=hd ha;clear hZ ha;rw[<-hi.o]))
     all_goals(try go_wp2)
     all_goals
      go_roundw;exact⟨k+1,b++(q1++q2++xd),rfl,by go_num,by omega,hh.o,HB.o.trans (hc.o.mono (by omega)),HQ⟩;simp[intOf];omega
    have i1:¬((k:Int)<(l.length:Int)):=by omega
    have HN:Hid (B=b):=by show _=_;rw[HQ.o,cD (by rw[List.length_zip,cF];omega)];rfl
    clear hb HQ;go_wp2;go_ret;exact⟨by rw[HN.o];rfl,hn.o.trans (HB.o.mono (by omega))⟩
theorem jO1 {ops:Array Oper}{rest:List Oper}{Q:Exit->Act->World->Prop}(hf:o.guard=none)(sl x:Operand)
  (ho:o.op=.call { callee:=.builtin .append,args:=#[sl,x],argTypes:=#[35,35] }) (B:Nat) (v:Value) (l:List BA) (hs:a.eval sl=v) (hb:w.ownsRow B 9 1 v l.length (l.map Value.string))
  (b:BA) (g c:Nat) (hx:a.eval x=.slice (some ⟨g,0,none⟩) 1 c) (ha:w.cell? ⟨g,0,none⟩=some (.string b)) (h1:l.length+1<=1000000) (hB:B<=w.heap.size)
  (h:∀v' w',w'.ownsRow B 9 1 v' (l++[b]).length ((l++[b]).map Value.string)->Below B w w'->wpList Tryz.prog ops Q rest (a.put o.dst v') w'):wpList Tryz.prog ops Q (o::rest) a w:=by
 obtain⟨i0,hi,hh,hj,hn⟩:=cV Tryz.jIn
 refine cT _ hf sl x 35 ho B 9 i0 _ 1 16 Tryz.underlying35 hi hh hj hn rfl (by decide) v l.length _ hs hb ⟨g,0,none⟩ 1 c [.string b] hx rfl (by
  intro j u hu;rw[jFp]
  match j,hu with
  | 0,hu=>simp at hu;subst hu;exact ha
  | j+1,hu=>simp at hu) (by intro u hu;simp at hu;subst hu;rfl) (by decide) (by unfold maxLen;omega) (by omega) hB _ rfl ?_
 intro g' cap w' hg hc _ _;refine h _ w' ?_ (Tch.aO hc (fun k hk=>(World.ownsRow.lt hb k hk).1) hB);rw[cg,cR];exact hg
def jJs (wide:Nat)(c:List Value)(d:BA)(w:World):Prop :=
 ∀w',Below w.heap.size w w'->Calls Tryz.prog 37 #[.agg c.toArray,.int .i64 wide] w' fun e ha=>e=.returned (.string d)/\Below w'.heap.size w' ha
theorem jS5 (wide n:Nat)(h:Sq.Head)(es:List Sq.Ent)(l:List (Nd n×Value×Value))(ev cv:Value)(w:World)(h5:∃a k c,ev=.slice a k c)(hn:aB Z 0 w cv n l)(hl:l.length<=100)(dg:Nd n->BA)
  (h3:∀x∈l,jJs wide (au n x) (dg x.1) w) (B:BA)
  (hV:∀w' bv,Below w.heap.size w w'->jC3 w' bv (l.map fun x=>dg x.1)->Calls Tryz.prog 57 #[.agg (ae h ev cv).toArray,bv] w' fun e h6=>e=.returned (.string B)/\Below w'.heap.size w' h6) :
  Calls Tryz.prog 47 #[.agg (ae h ev cv).toArray,.int .i64 wide] w fun e w'=>e=.returned (.string B)/\Below w.heap.size w w':=by
 obtain⟨eo,el,hS,rfl⟩:=h5;obtain⟨co,hR,rfl⟩:=jQa hn.own;rw[jQc] at hV ⊢;obtain⟨W,hT⟩:∃W,W=w.alloc (.cells #[.bool h.inner,.slice eo el hS,.slice co l.length hR,.int .i64 h.least,.int .i64 h.rows,.string h.sl,.int .i64 h.num] 60):=⟨_,rfl⟩;have hW:Below w.heap.size w W:=by rw[hT];exact bA
 have hw:W.heap.size=w.heap.size+1:=by rw[hT];exact jQr w _
 have hi:W.heap[w.heap.size]?=some (.cells #[.bool h.inner,.slice eo el hS,.slice co l.length hR,.int .i64 h.least,.int .i64 h.rows,.string h.sl,.int .i64 h.num] 60):=by rw[hT];exact jQi w _
 have HC:=hd (jIG hi);have HW:=hd hW;have hc:=hd hw;have HN:=hd (hn.below hW);have hF:=hd h3;have hI:=hd hV;clear hW hw hi hn h3 hV;go_enter Tryz.func47,Tryz.ntmps47;go_wp2;rw[<-hT];clear hT
 go_loopw [5,6] (fun v i wr=>∃k:Nat,k<=l.length/\i=.int .i64 k/\Hid (wr.ownsRow (w.heap.size+1) 9 1 v ((l.take k).map fun x=>dg x.1).length (((l.take k).map fun x=>dg x.1).map Value.string))/\Hid (Below W.heap.size W wr)) (fun _ i _=>l.length-(intOf i).toNat)
 case atStart=>exact⟨0,zR,rfl,cu _ _ _ _,bR⟩
 case round =>
  obtain⟨k,hk,rfl,hU,hb⟩:=hrel;obtain⟨wo,rfl⟩:∃wo:World,wo=wr:=⟨_,rfl⟩;have hs:((l.take k).map fun x=>dg x.1).length=k:=by simp;omega
  obtain⟨acc,hP⟩:∃acc,acc=(l.take k).map fun x=>dg x.1:=⟨_,rfl⟩
  rw[<-hP] at hU hs;obtain⟨yo,hY,rfl⟩:=jQa hU.o;obtain⟨m0,m1,m2,m3,m4,m5,m6⟩:=HC.o wo hb.o;have hK:=hb.o.size;rw[hc.o] at hK;have hN:w.heap.size<wo.heap.size:=by omega
  have he:=hd hP;have hL:=hd hs;have hJ:acc.length<=100:=by omega
  clear hP hs
  by_cases hkt:k<l.length
  ·obtain⟨g,h4,ea,h1,ec,ca,cl,cc,hv,hg,⟨d0,d1,d2,d3,d4,h0,hZ⟩,d5,d6⟩:=(HN.o.below hb.o).at k hkt;obtain⟨rfl,-,rfl⟩:=sI hv;have hj:=cJ hkt;have ht:=hF.o _ hj;have hm:acc++[dg l[k].1]=(l.take (k+1)).map fun x=>dg x.1:=by rw[he.o,cI hkt,cR];rfl
   obtain⟨x,hx⟩:∃x,x=l[k]:=⟨_,rfl⟩;rw[<-hx] at d0 d3 d4 h0 hZ d5 d6 ht hm;obtain⟨t,h8,h7⟩:=x;simp only[Prod.mk.injEq] at d5;obtain⟨rfl,rfl⟩:=d5;have hH:=hd hm;have hu:=hd (ht wo (HW.o.trans (hb.o.mono (by rw[hc.o];omega))));obtain⟨xh,hX⟩:∃x,x=aa n t:=⟨_,rfl⟩;have ha:=hu.o;have hz:au n (t,.slice ea h1 ec,.slice ca cl cc)=ae xh (.slice ea h1 ec) (.slice ca cl cc):=by rw[hX];rfl
   rw[hz,jQc] at ha;rw[<-hX] at d0 d3 d4 h0 hZ;simp only at ha hm;obtain⟨D,hD⟩:∃D,D=dg t:=⟨_,rfl⟩;rw[<-hD] at ha;have ho:acc++[D]=(l.take (k+1)).map fun x=>dg x.1:=by rw[hD];exact hm
   have hr:=hd ho;have hf:=hd ha;have i1:¬((l.length:Int)<=(k:Int)):=by omega
   clear hj ht hm hx d6 hH hu hX ha hz hD ho;go_wp2_with fail;refine hf.o.mono ?_;rintro e w1 ⟨rfl,hQ⟩;have hp:=hd (jQh hU.o hQ);have hC:=hd hQ;have hM:=hQ.size;have hA:Below w1.heap.size w1 (w1.alloc (.cells #[.string D] 9)):=bA;have hB:=hd (jQh hp.o hA);have HA:=hd hA;clear hQ hA hf;go_wp2_with (at_builtin;refine jO1 rfl (.tmp 14) (.tmp 22) rfl (w.heap.size+1) _ acc rfl hB.o D w1.heap.size 1 rfl (by simp[go_sem]) (by omega) (by simp;omega) ?_;intro v5 w5 hO h2;have hG:=hd hO;have hE:=hd h2;clear hO h2);go_roundw;exact⟨k+1,by omega,by go_num,by have:=hG.o;rw[hr.o] at this;exact this,hb.o.trans ((hC.o.mono (by rw[hc.o];omega)).trans ((HA.o.mono (by rw[hc.o];omega)).trans (by rw[hc.o];exact hE.o)))⟩;simp[intOf];omega
  have hy:k=l.length:=by omega
  have hh:acc=l.map fun x=>dg x.1:=by rw[he.o,hy,List.take_length]
  have HS:Hid (jC3 wo (.slice yo acc.length hY) (l.map fun x=>dg x.1)):=⟨by have:=hU.o;rw[hh] at this ⊢;exact jQj this zR,by simp;omega⟩;have hq:=hd (HW.o.trans (hb.o.mono (by rw[hc.o];omega)));have i1:¬((k:Int)<(l.length:Int)):=by omega
  clear hy hh;go_wp2_with fail;refine(hI.o wo _ hq.o HS.o).mono ?_;rintro e w1 ⟨rfl,hQ⟩;go_wp2;go_ret;exact⟨rfl,hq.o.trans (hQ.mono hq.o.size)⟩
theorem jPi (f:α->Sq.Head)(t:af α)(hi:t.hd.inner=false)(hk:t.kids=[])(bs:List BA):jAo f t bs=Sq.jGB (bz 1 1++bz (t.av.length:Nat) 1) t.av:=by
 unfold jAo bG;rw[hi,hk];rfl
theorem jWe (f:α->Sq.Head)(t:af α)(hi:t.hd.inner=true)(he:t.av=[])(bs:List BA):jAo f t bs=jGC f (bz 2 1++bz (t.kids.length:Nat) 1) (t.kids.zip bs):=by
 unfold jAo bG;rw[hi,he];rfl
def jFO:(n:Nat)->Sq.Nd n->List BA->BA
 | 0,t,bs=>jAo (fun e:Empty=>e.elim) t bs
 | n+1,t,bs=>jAo (aa n) t bs
def jMa:(n:Nat)->Sq.Nd n->Nat
 | 0,_=>0
 | _+1,t=>(af.kids t).length
theorem jKI (K:Int):∀(n:Nat) (t:Nd n) (ev cv:Value) (bs:List BA) (bv:Value) (w:World),ag Z w n t ev cv->aT K n t->jC3 w bv bs->bs.length=jMa n t->(∀b∈bs,b.size<=10000) ->
  Calls Tryz.prog 57 #[.agg (ae (aa n t) ev cv).toArray,bv] w fun e w'=>e=.returned (.string (jFO n t bs))/\Below w.heap.size w w'
 | 0,t,ev,cv,bs,bv,w,h,hf,hS,_,_=>by
  obtain⟨h1,rfl⟩:=h.leaf;obtain⟨vo,vc,rfl⟩:=jQa hS.1
  have hk:(t:af Empty).kids=[]:=by
   cases hq:(t:af Empty).kids with
   | nil=>rfl
   | cons c _=>exact c.elim
  have h4:=hf.at0.av;have hr:=hf.at0.row;rw[jQc,show(aa 0 t).inner=false from hf.jE0];exact jRo (af.av t) ev _ _ _ _ none 0 vo _ vc w h1 (by omega) (fun e he=>cm (hr e he) (by omega)) _ (jPi _ t hf.jE0 hk bs)
 | n+1,t,ev,cv,bs,bv,w,h,hf,hS,hbl,hbs=>by
  obtain⟨h1,l,h2,h3⟩:=h.inner;have h4:=hf.at1.av;have hg:=hf.at1.kids;have hr:=hf.at1.row;have ha:bs.length=l.length:=by rw[hbl];show(af.kids t).length=_;rw[h2,cF]
  cases hin:(af.hd t).inner with
  | false =>
   have hk:=(hf.at1.lf hin).2;have hh:l=[]:=by rw[hk] at h2;exact List.map_eq_nil_iff.1 h2.symm
   subst hh;obtain⟨vo,vc,rfl⟩:=jQa hS.1;obtain⟨co,cc,hj⟩:=jQa h3.own;have hb:cv=.slice co 0 cc:=hj;subst hb;rw[jQc,show(aa (n+1) t).inner=false from hin];exact jRo (af.av t) ev _ _ _ _ co cc vo _ vc w h1 (by omega) (fun e he=>cm (hr e he) (by omega)) _ (jPi _ t hin hk bs)
  | true =>
   have he:=(hf.at1.inn hin).2;rw[he] at h1;obtain⟨eo,ec,hn⟩:=jQa h1;have hc:ev=.slice eo 0 ec:=hn;subst hc;rw[jQc,show(aa (n+1) t).inner=true from hin];rw[h2,cF] at hg;refine jWV (Z:=Z) n l cv _ _ _ _ eo ec bs bv w h3 hS (by omega) ha hbs _ ?_;show _=_;rw[<-h2];show jAo (aa n) t bs=_;rw[jWe _ t hin he bs];rw[h2,cF]
theorem jML:∀(l:List BA) (m:Nat) (b:BA),(∀x∈l,x.size<=m)->(l.foldl (·++·) b).size<=b.size+l.length*m
 | [],m,b,_=>by simp
 | x::r,m,b,h=>by
  rw[de];have h1:=jML r m (b++x) fun y hy=>h y (cY _ hy)
  have h2:=h x (dh ..);rw[cO] at h1;rw[cG,Nat.add_mul];omega
theorem jKF {f:α->Sq.Head}{G:α->Prop}{t:af α}(h:Sq.jCM f G K t)(bs:List BA)(m:Nat)(hm:∀b∈bs,b.size<=m):(jAo f t bs).size<=2000+4*m:=by
 unfold jAo
 have h1:=jML ((t.kids.zip bs).map fun x=>jAl (f x.1) x.2) (m+6) ((t.av.map jA3).foldl (·++·) (bz (if t.hd.inner then 2 else 1) 1++bz (bG t) 1)) (fun x hx=>by
  obtain⟨y,hy,rfl⟩:=List.mem_map.1 hx;rw[jOf]
  have:=hm y.2 (List.of_mem_zip hy).2
  omega)
 have h2:=jML (t.av.map jA3) 306 (bz (if t.hd.inner then 2 else 1) 1++bz (bG t) 1) (fun x hx=>by
  obtain⟨y,hy,rfl⟩:=List.mem_map.1 hx;rw[Sq.jT0]
  have:=h.row y hy
  omega)
 have h3:(bz (if t.hd.inner then 2 else 1) 1++bz (bG t) 1).size=2:=by rw[cO,jQt,jQt]
 have h4:=h.av;have h5:=h.kids;have h6:((t.kids.zip bs).map fun x=>jAl (f x.1) x.2).length<=4:=by rw[cF,List.length_zip];omega
 rw[cF] at h2;have h7:((t.kids.zip bs).map fun x=>jAl (f x.1) x.2).length*(m+6)<=4*(m+6):=dS _ h6;have h8:t.av.length*306<=4*306:=dS _ h4;omega
def HS (wide:Nat)(b:BA):BA:=Sq.jHI b wide
theorem jJm {wide:Nat}(hw:wide<=32)(b:BA):(HS wide b).size=wide:=Sq.jYz b wide hw
theorem jLQ (wide:Nat)(hw:wide<=32)(K:Int):∀(n:Nat) (t:Nd n),aT K n t->(bj (HS wide) n t).size<=32
 | 0,t,h=>by
  show(jEY _ _ _ t).size<=32
  unfold jEY
  split
  ·exact h.at0.sl
  ·rw[jJm hw];exact hw
 | n+1,t,h=>by
  show(jEY _ _ _ t).size<=32
  unfold jEY
  split
  ·exact h.at1.sl
  ·rw[jJm hw];exact hw
theorem jSS (wide:Nat)(hw:wide<=32)(h:Sq.Head)(ev cv:Value)(bs:BA)(hr:bs.size<=1000000)(w:World)(hv:∃a k c,ev=.slice a k c)(ht:∃a k c,cv=.slice a k c)(hR:Rnd w)
  (hB:∀w',Below w.heap.size w w'->Calls Tryz.prog 47 #[.agg (ae h ev cv).toArray,.int .i64 wide] w' fun e hx=>e=.returned (.string bs)/\Below w'.heap.size w' hx) :
  Calls Tryz.prog 37 #[.agg (ae h ev cv).toArray,.int .i64 wide] w fun e w'=>e=.returned (.string (if aw h then h.sl else HS wide bs))/\Below w.heap.size w w':=by
 obtain⟨eo,el,hk,rfl⟩:=hv;obtain⟨co,cl,hj,rfl⟩:=ht;rw[jQc] at hB ⊢;obtain⟨D,hD⟩:∃D,D=(if aw h then h.sl else HS wide bs):=⟨_,rfl⟩;rw[<-hD];obtain⟨W,hn⟩:∃W,W=w.alloc (.cells #[.bool h.inner,.slice eo el hk,.slice co cl hj,.int .i64 h.least,.int .i64 h.rows,.string h.sl,.int .i64 h.num] 60):=⟨_,rfl⟩;have hW:Below w.heap.size w W:=by rw[hn];exact bA
 have ha:W.heap[w.heap.size]?=some (.cells #[.bool h.inner,.slice eo el hk,.slice co cl hj,.int .i64 h.least,.int .i64 h.rows,.string h.sl,.int .i64 h.num] 60):=by rw[hn];exact jQi w _
 obtain⟨a0,a1,a2,a3,a4,a5,a6⟩:=node7 ha;have hg:=jQe ha;have HR:=hd hR;have HB:=hd hB;have HW:=hd hW;have he:=hd ha;clear hR hB hW ha;go_enter Tryz.func37,Tryz.ntmps37;go_wp2_with fail;rw[<-hn];clear hn;refine(jH2 h _ _ W ⟨_,_,_,rfl⟩ ⟨_,_,_,rfl⟩).mono ?_;rintro e w1 ⟨rfl,ho⟩;obtain⟨k0,k1,k2,k3,k4,k5,k6⟩:=jIG he.o w1 ho;have hf:=ho.size;have hh:w.heap.size<w1.heap.size:=by omega
 have hb:=hd (HW.o.trans (ho.mono (by omega)));clear ho a0 a1 a2 a3 a4 a5 a6;cases hs:aw h
 ·have HD:Hid (D=HS wide bs):=by show _=_;rw[hD,hs];rfl
  clear hs hD;go_wp2_with fail;refine(HB.o _ hb.o).mono ?_;rintro e w2 ⟨rfl,hp⟩;have hc:=hb.t hp;clear hp;go_wp2_with fail;refine(qCK bs wide _ hr hw (HR.o.below hc.o)).mono ?_;rintro e w3 ⟨rfl,hq⟩;go_wp2;go_ret;exact⟨by rw[HD.o];rfl,hc.o.trans (hq.mono hc.o.size)⟩
 have HD:Hid (D=h.sl):=by show _=_;rw[hD,hs];rfl
 clear hs hD;go_wp2;go_ret;exact⟨by rw[HD.o];rfl,hb.o⟩
theorem jT2 {t:Nd (n+1)}{l:List (Nd n×Value×Value)}(h:af.kids t=l.map Prod.fst)(dg:Nd n->BA):(l.map fun x=>dg x.1)=(af.kids t).map dg:=by rw[h,dG];rfl
theorem jG3 (wide:Nat)(hw:wide<=32)(K:Int):∀(n:Nat) (t:Nd n) (ev cv:Value) (w:World),ag Z w n t ev cv->aT K n t->Rnd w ->
  (Calls Tryz.prog 47 #[.agg (ae (aa n t) ev cv).toArray,.int .i64 wide] w fun e w'=>e=.returned (.string (bq (HS wide) n t))/\Below w.heap.size w w')/\Calls Tryz.prog 37 #[.agg (ae (aa n t) ev cv).toArray,.int .i64 wide] w fun e w'=>e=.returned (.string (bj (HS wide) n t))/\Below w.heap.size w w'
 | 0,t,ev,cv,w,h,hf,hR=>by
  have hk:(t:af Empty).kids=[]:=by
   cases hq:(t:af Empty).kids with
   | nil=>rfl
   | cons c _=>exact c.elim
  have key:∀w',Below w.heap.size w w'->Calls Tryz.prog 47 #[.agg (ae (aa 0 t) ev cv).toArray,.int .i64 wide] w' fun e hn=>e=.returned (.string (bq (HS wide) 0 t))/\Below w'.heap.size w' hn:=by
   intro w' hb;obtain⟨h1,rfl⟩:=(h.below hb).leaf;refine jS5 (Z:=Z) wide 0 (aa 0 t) (af.av t) [] ev (.slice none 0 0) w' (ag.aG (h.below hb)).1 ⟨cu _ _ _ _,fun x hx=>by cases hx⟩ zR (fun _=>ar) (fun x hx=>by cases hx) _ (fun hn bv ho hS=>?_)
   have:=jKI K 0 t ev (.slice none 0 0) [] bv hn ((h.below hb).below ho) hf hS rfl (fun b hb=>by cases hb)
   have e:bq (HS wide) 0 t=jFO 0 t []:=by
    show jAo _ t ((t:af Empty).kids.map _)=_;rw[hk];rfl
   rw[e];exact this
  refine⟨key w bR,?_⟩
  have he:(bq (HS wide) 0 t).size<=1000000:=by
   show(jAo (fun e:Empty=>e.elim) t ((t:af Empty).kids.map _)).size<=_
   rw[hk]
   have:=jKF hf.at0 [] 0 (fun b hb=>by cases hb)
   rw[dO];omega
  have hg:=jSS wide hw (aa 0 t) ev cv _ he w (ag.aG h).1 (ag.aG h).2 hR key;exact hg
 | n+1,t,ev,cv,w,h,hf,hR=>by
  obtain⟨h1,l,h2,h3⟩:=h.inner;have hi:=hf.at1.kids;have ha:=hf.at1.each
  have hh:∀b∈(af.kids t).map (bj (HS wide) n),b.size<=32:=fun b hb=>by
   obtain⟨c,hc,rfl⟩:=List.mem_map.1 hb;exact jLQ wide hw K n c (ha c hc)
  have key:∀w',Below w.heap.size w w'->Calls Tryz.prog 47 #[.agg (ae (aa (n+1) t) ev cv).toArray,.int .i64 wide] w' fun e hn=>e=.returned (.string (bq (HS wide) (n+1) t))/\Below w'.heap.size w' hn:=by
   intro w' hb;have hj:l.length<=4:=by rw[h2,cF] at hi;exact hi
   refine jS5 (Z:=Z) wide n (aa (n+1) t) (af.av t) l ev cv w' (ag.aG h).1 (h3.below hb) (by omega) (bj (HS wide) n) (fun x hx hn ho=>?_) _ (fun hn bv ho hS=>?_)
   ·exact(jG3 wide hw K n x.1 x.2.1 x.2.2 hn (((h3.below hb).each x hx).below ho) (ha x.1 (by rw[h2];exact List.mem_map.2 ⟨x,hx,rfl⟩)) ((hR.below hb).below ho)).2
   ·rw[jT2 h2] at hS;exact jKI K (n+1) t ev cv _ bv hn ((h.below hb).below ho) hf hS (by rw[cF];rfl) (fun b hb=>cm (hh b hb) (by omega))
  refine⟨key w bR,?_⟩
  have he:(bq (HS wide) (n+1) t).size<=1000000:=by
   have:=jKF hf.at1 ((af.kids t).map (bj (HS wide) n)) 32 hh
   show(jAo _ t _).size<=_
   omega
  exact jSS wide hw (aa (n+1) t) ev cv _ he w (ag.aG h).1 (ag.aG h).2 hR key
theorem jSn (wide:Nat)(h:Sq.Head)(ev cv:Value)(tb:Nat)(tr:Trl)(w:World)(hB:∃a k c,ev=.slice a k c)(hA:∃a k c,cv=.slice a k c)(ht:bk tb w tr)(hz:jAt tr h=false)(dg:BA)(hD:dg.size<=32)
  (hy:jJs wide (ae h ev cv) dg w) :
  Calls Tryz.prog 44 #[.agg (ae h ev cv).toArray,.pointer (some ⟨tb,0,none⟩),.int .i64 wide] w fun e w'=>e=.returned (.string (bz 0 1++dg))/\Below w.heap.size w w':=by
 obtain⟨eo,el,hr,rfl⟩:=hB;obtain⟨co,cl,ho,rfl⟩:=hA;unfold jJs at hy;rw[jQc] at hy ⊢;obtain⟨W,hv⟩:∃W,W=w.alloc (.cells #[.bool h.inner,.slice eo el hr,.slice co cl ho,.int .i64 h.least,.int .i64 h.rows,.string h.sl,.int .i64 h.num] 60):=⟨_,rfl⟩;have hW:Below w.heap.size w W:=by rw[hv];exact bA
 have he:W.heap[w.heap.size]?=some (.cells #[.bool h.inner,.slice eo el hr,.slice co cl ho,.int .i64 h.least,.int .i64 h.rows,.string h.sl,.int .i64 h.num] 60):=by rw[hv];exact jQi w _
 obtain⟨a0,a1,a2,a3,a4,a5,a6⟩:=node7 he;have hn:=jQe he;have HC:=hd (jIG he);have HW:=hd hW;have HT:=hd (ht.below hW);have hi:=hd hy;have hj:=hd hz;have hp:=jQt 0 1;obtain⟨q,hq⟩:∃x,x=bz 0 1:=⟨_,rfl⟩;rw[<-hq] at hp ⊢;have hm:q.size<=1:=by omega
 have HQ:=hd hq;clear hW he ht hy hz hq hp;go_enter Tryz.func44,Tryz.ntmps44;go_wp2_with fail;rw[<-hv];clear hv;refine(jK6 tb tr h _ _ W ⟨_,_,_,rfl⟩ ⟨_,_,_,rfl⟩ HT.o).mono ?_;rintro e w1 ⟨rfl,hx⟩;rw[hj.o];obtain⟨k0,k1,k2,k3,k4,k5,k6⟩:=HC.o w1 hx;have hg:=hx.size;have hk:w.heap.size<w1.heap.size:=by omega
 have hf:=hd hx;have hc:Hid (Below w1.heap.size w1 w1):=bR;have HG:Hid (∀w',Below w1.heap.size w1 w'->Calls Tryz.prog 37 #[.agg #[.bool h.inner,.slice eo el hr,.slice co cl ho,.int .i64 h.least,.int .i64 h.rows,.string h.sl,.int .i64 h.num],.int .i64 wide] w' fun e hC=>e=.returned (.string dg)/\Below w'.heap.size w' hC):=fun w' hb=>hi.o w' (HW.o.trans ((hf.o.trans (hb.mono hg)).mono (by omega)))
 clear hx a0 a1 a2 a3 a4 a5 a6;go_wp2
 go_region_with (first
  | (go_at_call 56;refine(jQ6 0 1 _ (by omega)).mono ?_;rintro e w5 ⟨rfl,hs⟩;have ha:Below w1.heap.size w1 w5:=(by first | exact hc.o.trans (hs.mono hc.o.size) | exact(hc.o.drew).trans (hs.mono (by first | (simp;done) | (have:=hc.o.size;simp;omega))));obtain⟨m0,m1,m2,m3,m4,m5,m6⟩:=HC.o w5 (hf.o.trans (ha.mono hg));have hl:=ha.size;have hh:w.heap.size<w5.heap.size:=(by omega);clear hc;have hc:=hd ha;clear hs ha;rw[<-HQ.o])
  | (go_at_call 37;refine(HG.o _ (by first | exact hc.o | exact hc.o.drew)).mono ?_;rintro e w5 ⟨rfl,hs⟩;have ha:Below w1.heap.size w1 w5:=(by first | exact hc.o.trans (hs.mono hc.o.size) | exact(hc.o.drew).trans (hs.mono (by first | (simp;done) | (have:=hc.o.size;simp;omega))));obtain⟨m0,m1,m2,m3,m4,m5,m6⟩:=HC.o w5 (hf.o.trans (ha.mono hg));have hl:=ha.size;have hh:w.heap.size<w5.heap.size:=(by omega);clear hc;have hc:=hd ha;clear hs ha))
 all_goals(try go_wp2)
 all_goals
  go_ret;exact⟨rfl,HW.o.trans ((hf.o.trans (hc.o.mono hg)).mono (by omega))⟩
def jVI (wide tb:Nat)(c:List Value)(d:BA)(w:World):Prop :=
 ∀w',Below w.heap.size w w'->Calls Tryz.prog 44 #[.agg c.toArray,.pointer (some ⟨tb,0,none⟩),.int .i64 wide] w' fun e ha=>e=.returned (.string d)/\Below w'.heap.size w' ha
theorem jSo (wide n:Nat)(h:Sq.Head)(l:List (Nd n×Value×Value))(ev cv:Value)(tb:Nat)(tr:Trl)(w:World)(Ha:∃a k c,ev=.slice a k c)(hn:aB Z 0 w cv n l)(hl:l.length<=100)(ht:bk tb w tr)(h8:jAt tr h=true)(dg:Nd n->BA)
  (h7:∀x∈l,jVI wide tb (au n x) (dg x.1) w) (B:BA)
  (hZ:∀w' bv,Below w.heap.size w w'->jC3 w' bv (l.map fun x=>dg x.1)->Calls Tryz.prog 57 #[.agg (ae h ev cv).toArray,bv] w' fun e Hb=>e=.returned (.string B)/\Below w'.heap.size w' Hb) :
  Calls Tryz.prog 44 #[.agg (ae h ev cv).toArray,.pointer (some ⟨tb,0,none⟩),.int .i64 wide] w fun e w'=>e=.returned (.string B)/\Below w.heap.size w w':=by
 obtain⟨eo,el,hV,rfl⟩:=Ha;obtain⟨co,hU,rfl⟩:=jQa hn.own;rw[jQc] at hZ ⊢;obtain⟨W,hX⟩:∃W,W=w.alloc (.cells #[.bool h.inner,.slice eo el hV,.slice co l.length hU,.int .i64 h.least,.int .i64 h.rows,.string h.sl,.int .i64 h.num] 60):=⟨_,rfl⟩;have hW:Below w.heap.size w W:=by rw[hX];exact bA
 have hy:W.heap.size=w.heap.size+1:=by rw[hX];exact jQr w _
 have hc:W.heap[w.heap.size]?=some (.cells #[.bool h.inner,.slice eo el hV,.slice co l.length hU,.int .i64 h.least,.int .i64 h.rows,.string h.sl,.int .i64 h.num] 60):=by rw[hX];exact jQi w _
 obtain⟨a0,a1,a2,a3,a4,a5,a6⟩:=node7 hc;have hO:=jQe hc;have HC:=hd (jIG hc);have HW:=hd hW;have he:=hd hy;have HN:=hd (hn.below hW);have HT:=hd (ht.below hW);have hH:=hd h7;have hL:=hd hZ;have hI:=hd h8;clear hW hy hc hn h7 hZ ht h8;go_enter Tryz.func44,Tryz.ntmps44;go_wp2_with fail;rw[<-hX];clear hX;refine(jK6 tb tr h _ _ W ⟨_,_,_,rfl⟩ ⟨_,_,_,rfl⟩ HT.o).mono ?_;rintro e w0 ⟨rfl,h5⟩;rw[hI.o];have hE:=hd h5;clear h5 a0 a1 a2 a3 a4 a5 a6;go_wp2
 go_loopw [7,8] (fun v i wr=>∃k:Nat,k<=l.length/\i=.int .i64 k/\Hid (wr.ownsRow (w.heap.size+1) 9 1 v ((l.take k).map fun x=>dg x.1).length (((l.take k).map fun x=>dg x.1).map Value.string))/\Hid (Below W.heap.size W wr)) (fun _ i _=>l.length-(intOf i).toNat)
 case atStart=>exact⟨0,zR,rfl,cu _ _ _ _,hE⟩
 case round =>
  obtain⟨k,hk,rfl,hY,hb⟩:=hrel;obtain⟨wo,rfl⟩:∃wo:World,wo=wr:=⟨_,rfl⟩;have hs:((l.take k).map fun x=>dg x.1).length=k:=by simp;omega
  obtain⟨acc,hS⟩:∃acc,acc=(l.take k).map fun x=>dg x.1:=⟨_,rfl⟩
  rw[<-hS] at hY hs;obtain⟨yo,h1,rfl⟩:=jQa hY.o;obtain⟨m0,m1,m2,m3,m4,m5,m6⟩:=HC.o wo hb.o;have hN:=hb.o.size;rw[he.o] at hN;have hO:w.heap.size<wo.heap.size:=by omega
  have hf:=hd hS;have hP:=hd hs;have hM:acc.length<=100:=by omega
  clear hS hs
  by_cases hkt:k<l.length
  ·obtain⟨g,h9,ea,h4,ec,ca,cl,cc,hv,hg,⟨d0,d1,d2,d3,d4,h3,h2⟩,d5,d6⟩:=(HN.o.below hb.o).at k hkt;obtain⟨rfl,-,rfl⟩:=sI hv;have hj:=cJ hkt;have hu:=hH.o _ hj;have hm:acc++[dg l[k].1]=(l.take (k+1)).map fun x=>dg x.1:=by rw[hf.o,cI hkt,cR];rfl
   obtain⟨x,hx⟩:∃x,x=l[k]:=⟨_,rfl⟩;rw[<-hx] at d0 d3 d4 h3 h2 d5 d6 hu hm;obtain⟨t,Hd,Hc⟩:=x;simp only[Prod.mk.injEq] at d5;obtain⟨rfl,rfl⟩:=d5;have hK:=hd hm;have hw:=hd (hu wo (HW.o.trans (hb.o.mono (by rw[he.o];omega))));obtain⟨xh,h0⟩:∃x,x=aa n t:=⟨_,rfl⟩;have ha:=hw.o;have hB:au n (t,.slice ea h4 ec,.slice ca cl cc)=ae xh (.slice ea h4 ec) (.slice ca cl cc):=by rw[h0];rfl
   rw[hB,jQc] at ha;rw[<-h0] at d0 d3 d4 h3 h2;simp only at ha hm;obtain⟨D,hD⟩:∃D,D=dg t:=⟨_,rfl⟩;rw[<-hD] at ha;have ho:acc++[D]=(l.take (k+1)).map fun x=>dg x.1:=by rw[hD];exact hm
   have hr:=hd ho;have hh:=hd ha;have i1:¬((l.length:Int)<=(k:Int)):=by omega
   clear hj hu hm hx d6 hK hw h0 ha hB hD ho;go_wp2_with fail;refine hh.o.mono ?_;rintro e w1 ⟨rfl,hT⟩;have hp:=hd (jQh hY.o hT);have hF:=hd hT;have hQ:=hT.size;have hA:Below w1.heap.size w1 (w1.alloc (.cells #[.string D] 9)):=bA;have hC:=hd (jQh hp.o hA);have HA:=hd hA;clear hT hA hh;go_wp2_with (at_builtin;refine jO1 rfl (.tmp 25) (.tmp 34) rfl (w.heap.size+1) _ acc rfl hC.o D w1.heap.size 1 rfl (by simp[go_sem]) (by omega) (by simp;omega) ?_;intro v5 w5 hR h6;have hJ:=hd hR;have hG:=hd h6;clear hR h6);go_roundw;exact⟨k+1,by omega,by go_num,by have:=hJ.o;rw[hr.o] at this;exact this,hb.o.trans ((hF.o.mono (by rw[he.o];omega)).trans ((HA.o.mono (by rw[he.o];omega)).trans (by rw[he.o];exact hG.o)))⟩;simp[intOf];omega
  have hz:k=l.length:=by omega
  have hi:acc=l.map fun x=>dg x.1:=by rw[hf.o,hz,List.take_length]
  have HS:Hid (jC3 wo (.slice yo acc.length h1) (l.map fun x=>dg x.1)):=⟨by have:=hY.o;rw[hi] at this ⊢;exact jQj this zR,by simp;omega⟩;have hq:=hd (HW.o.trans (hb.o.mono (by rw[he.o];omega)));have i1:¬((k:Int)<(l.length:Int)):=by omega
  clear hz hi;go_wp2_with fail;refine(hL.o wo _ hq.o HS.o).mono ?_;rintro e w1 ⟨rfl,hT⟩;go_wp2;go_ret;exact⟨rfl,hq.o.trans (hT.mono hq.o.size)⟩
theorem jPX (f:α->Sq.Head)(wr:α->BA)(dg:BA)(tr:Trl)(t:af α)(h:jAt tr t.hd=true):jCY f wr dg tr t=jAo f t (t.kids.map wr):=by unfold jCY;rw[h];rfl
theorem jPW (f:α->Sq.Head)(wr:α->BA)(dg:BA)(tr:Trl)(t:af α)(h:jAt tr t.hd=false):jCY f wr dg tr t=bz 0 1++dg:=by unfold jCY;rw[h];rfl
theorem jRj:∀{l:List BA} {b x:BA},x∈l->x.size<=(l.foldl (·++·) b).size
 | y::r,b,x,h=>by
  rw[de];rcases List.mem_cons.1 h with rfl | h
  ·rw[Sq.jIU,cO,cO];omega
  exact jRj h
theorem jVT (f:α->Sq.Head)(t:af α)(wr:α->BA){c:α}(hc:c∈t.kids):(wr c).size<=(jAo f t (t.kids.map wr)).size:=by
 unfold jAo
 have hz:(c,wr c)∈t.kids.zip (t.kids.map wr):=by
  obtain⟨i,hi,he⟩:=List.getElem_of_mem hc
  have:(t.kids.zip (t.kids.map wr))[i]'(by rw[List.length_zip,cF];omega)=(c,wr c):=by rw[List.getElem_zip,da,he]
  rw[<-this];exact cJ _
 have h2:jAl (f c) (wr c)∈(t.kids.zip (t.kids.map wr)).map fun x=>jAl (f x.1) x.2:=List.mem_map.2 ⟨_,hz,rfl⟩
 have h3:=jRj (b:=(t.av.map jA3).foldl (·++·) (bz (if t.hd.inner then 2 else 1) 1++bz (bG t) 1)) h2;rw[jOf] at h3;omega
theorem jS4 (wide:Nat)(hw:wide<=32)(K:Int)(tb:Nat)(tr:Trl):∀(n:Nat) (t:Nd n) (ev cv:Value) (w:World),ag Z w n t ev cv->aT K n t->Rnd w->bk tb w tr->(jBj (HS wide) tr n t).size<=10000 ->
  Calls Tryz.prog 44 #[.agg (ae (aa n t) ev cv).toArray,.pointer (some ⟨tb,0,none⟩),.int .i64 wide] w fun e w'=>e=.returned (.string (jBj (HS wide) tr n t))/\Below w.heap.size w w'
 | 0,t,ev,cv,w,h,hf,hR,ht,hsz=>by
  have hk:(t:af Empty).kids=[]:=by
   cases hq:(t:af Empty).kids with
   | nil=>rfl
   | cons c _=>exact c.elim
  cases hto:jAt tr (aa 0 t) with
  | false =>
   have e:jBj (HS wide) tr 0 t=bz 0 1++bj (HS wide) 0 t:=jPW _ _ _ tr t hto;rw[e];exact jSn wide (aa 0 t) ev cv tb tr w (ag.aG h).1 (ag.aG h).2 ht hto _ (jLQ wide hw K 0 t hf) (fun w' hb=>(jG3 wide hw K 0 t ev cv w' (h.below hb) hf (hR.below hb)).2)
  | true =>
   have e:jBj (HS wide) tr 0 t=jFO 0 t []:=by
    have:=jPX (fun e:Empty=>e.elim) (fun e:Empty=>e.elim) (bj (HS wide) 0 t) tr t hto
    rw[hk] at this;exact this
   rw[e];obtain⟨h1,rfl⟩:=h.leaf;refine jSo (Z:=Z) wide 0 (aa 0 t) [] ev (.slice none 0 0) tb tr w (ag.aG h).1 ⟨cu _ _ _ _,fun x hx=>by cases hx⟩ zR ht hto (fun _=>ar) (fun x hx=>by cases hx) _ (fun w' bv hb hS=>?_);exact jKI K 0 t ev (.slice none 0 0) [] bv w' (h.below hb) hf hS rfl (fun b hb=>by cases hb)
 | n+1,t,ev,cv,w,h,hf,hR,ht,hsz=>by
  cases hto:jAt tr (aa (n+1) t) with
  | false =>
   have e:jBj (HS wide) tr (n+1) t=bz 0 1++bj (HS wide) (n+1) t:=jPW _ _ _ tr t hto;rw[e];exact jSn wide (aa (n+1) t) ev cv tb tr w (ag.aG h).1 (ag.aG h).2 ht hto _ (jLQ wide hw K (n+1) t hf) (fun w' hb=>(jG3 wide hw K (n+1) t ev cv w' (h.below hb) hf (hR.below hb)).2)
  | true =>
   have e:jBj (HS wide) tr (n+1) t=jFO (n+1) t ((af.kids t).map (jBj (HS wide) tr n)):=jPX (aa n) (jBj (HS wide) tr n) _ tr t hto;rw[e] at hsz ⊢;obtain⟨h1,l,h2,h3⟩:=h.inner;have hg:=hf.at1.kids;have ha:=hf.at1.each;have hh:l.length<=4:=by rw[h2,cF] at hg;exact hg
   have he:∀c∈af.kids t,(jBj (HS wide) tr n c).size<=10000:=fun c hc=>cm (jVT (aa n) t (jBj (HS wide) tr n) hc) hsz
   refine jSo (Z:=Z) wide n (aa (n+1) t) l ev cv tb tr w (ag.aG h).1 h3 (by omega) ht hto (jBj (HS wide) tr n) (fun x hx w' hb=>?_) _ (fun w' bv hb hS=>?_)
   ·have hm:x.1∈af.kids t:=by rw[h2];exact List.mem_map.2 ⟨x,hx,rfl⟩
    exact jS4 wide hw K tb tr n x.1 x.2.1 x.2.2 w' ((h3.each x hx).below hb) (ha x.1 hm) (hR.below hb) (ht.below hb) (he x.1 hm)
   ·rw[jT2 h2] at hS
    exact jKI K (n+1) t ev cv _ bv w' (h.below hb) hf hS (by rw[cF];rfl) (fun b hb=>by
     obtain⟨c,hc,rfl⟩:=List.mem_map.1 hb;exact he c hc)
end
section
open Go.RowKit
theorem Rnd.bX (h:Rnd w)(hl:Low tb)(hf:aA tb w w'):Rnd w':=jRD h (fun g hg=>hl _ g (Or.inr rfl) hg) hf
theorem Low.of (hT:Tbl w)(hR:Rnd w)(h:w.heap.size<=tb):Low tb:=by
 intro name g hn hg;rcases hn with rfl | rfl
 ·have:=jTT hT hg;omega
 have:=jTT hR hg;omega
theorem bk.new (h:w.heap[b]?=some (.cells #[.bool false,.slice none 0 0] 74)):bk b w ⟨false,[]⟩:=⟨⟨.slice none 0 0,h,cu _ _ _ _⟩,by simp⟩
theorem jFZ (h:w.heap[b]?=some (.cells #[a0,a1,a2] 30)):w.cell? ⟨b,0,none⟩=some a0/\w.cell? ⟨b,1,none⟩=some a1/\w.cell? ⟨b,2,none⟩=some a2/\w.frozen? ⟨b,0,none⟩=false/\w.frozen? ⟨b,1,none⟩=false/\w.frozen? ⟨b,2,none⟩=false :=
 ⟨by rw[jQb h];rfl,by rw[jQb h];rfl,by rw[jQb h];rfl,jQd h _,jQd h _,jQd h _⟩
theorem ag.jVE {Z:Nat->Prop}{t:Nd n}{e0:TypeId}(h:ag Z w n t ev cv)(hb:w.heap[b]?=some (.cells c e0 fr))(h1:141≠e0)(h2:60≠e0)(ho:∀g,g≠b->w'.heap[g]?=w.heap[g]?):ag Z w' n t ev cv :=
 h.same fun g c' e hc hg he=>ho g fun ha=>by
  subst ha;rw[hb] at hg;simp only[Option.some.injEq,Obj.cells.injEq] at hg;rcases he with rfl | rfl
  ·exact h1 hg.2.1.symm
  exact h2 hg.2.1.symm
def jGK (Z:Nat->Prop)(rep pf dg:BA)(n:Nat)(t:Nd n)(w:World)(e:Ending)(w':World):Prop :=
 ∃ev cv,e=.returned (.tuple #[.agg #[.string rep,.string pf,.string dg],.agg (ae (aa n t) ev cv).toArray])/\ag Z w' n t ev cv/\Below w.heap.size w w'
structure jHN (w:World)(X:World):Prop where
 below:Below w.heap.size w X
 ans:X.heap[w.heap.size+1]?=some (.cells #[.string ⟨#[]⟩,.string ⟨#[]⟩,.string ⟨#[]⟩] 30)
 res:X.heap[w.heap.size+1+1]?=some (.cells #[.bool false,.slice none 0 0,.slice none 0 0,.int .i64 0,.int .i64 0,.string ⟨#[]⟩,.int .i64 0] 60)
theorem jHN.next {X Y:World}(h:jHN w X)(hb:Below X.heap.size X Y):jHN w Y :=
 ⟨h.below.trans (hb.mono h.below.size),(hb.block _ (jQe h.ans)).trans h.ans,(hb.block _ (jQe h.res)).trans h.res⟩
theorem jHN.jHF {X Y:World}(h:jHN w X)(ht:w.heap.size<=tb)(hf:aA tb X Y):jHN w Y :=
 ⟨h.below.trans (hf.below.mono ht),(hf.bC _ _ _ _ h.ans (by decide) (by decide)).trans h.ans,(hf.bC _ _ _ _ h.res (by decide) (by decide)).trans h.res⟩
theorem jRl (wide:Nat)(hw:wide<=32)(X:aj)(db:List Tab)(ev cv:Value)(Hu:BA)(w:World)(Z0:Nat->Prop)(hZ:∀g,w.heap.size<=g->¬Z0 g)(h:ag Z0 w X.d X.t ev cv)(hk:jDn X db)(hT:Tbl w)(hR:Rnd w) :
  Calls Tryz.prog 34 #[.int .i64 wide,.agg (ae X.head ev cv).toArray,.string Hu] w
   (jGK Z0 (bI X.ay Hu ⟨false,[]⟩).1 (jBj (HS wide) (bI X.ay Hu ⟨false,[]⟩).2.2 X.ay.d X.ay.t) (bj (HS wide) (bI X.ay Hu ⟨false,[]⟩).2.1.d (bI X.ay Hu ⟨false,[]⟩).2.1.t) (bI X.ay Hu ⟨false,[]⟩).2.1.d (bI X.ay Hu ⟨false,[]⟩).2.1.t w):=by
 obtain⟨⟨e1,e2,e3,HA⟩,k1,k2,k3,Hz⟩:=h.aG;subst HA Hz;obtain⟨HC,HJ,HQ⟩:=hk.ay;have hK:=hk.st.ay.jGm hk.bV HC (aS.none 100) HJ Hu;have hO:jBb 100 800000000 X.ay:=⟨HC,by omega⟩;have h9:aT 100 (bI X.ay Hu ⟨false,[]⟩).2.1.d (bI X.ay Hu ⟨false,[]⟩).2.1.t:=(jMV (by decide) hK hO (jKO HC (aS.none 100) Hu)).1.t
 have h8:(jBj (HS wide) (bI X.ay Hu ⟨false,[]⟩).2.2 X.ay.d X.ay.t).size<=10000:=by
  obtain⟨x,g1,g2,g3⟩:=hk.st.ay.jDp hk.bV;obtain⟨n,t,y,e1,rfl,hr⟩:=g1.cases;rw[e1];exact cm (Sq.jRL (jJm hw) hw _ n t y hr g3 g2.two) (by omega)
 have hu:=hk.many.1;obtain⟨Z,Hx⟩:∃Z:Nat->Prop,Z=fun g=>Z0 g\/g=w.heap.size+1+1:=⟨_,rfl⟩
 have h7:ag Z w X.d X.t (.slice e1 e2 e3) (.slice k1 k2 k3):=by rw[Hx];exact h.more (by omega)
 have hI:∀g,w.heap.size+1+1<g->¬Z g:=fun g hg hz=>by rw[Hx] at hz;rcases hz with hz | hz;exact hZ g (by omega) hz;omega
 have h6:∀g,Z0 g->Z g:=fun g hg=>by rw[Hx];exact Or.inl hg
 have h5:Z (w.heap.size+1+1):=by rw[Hx];exact Or.inr rfl
 have hJ:∀w',ag Z w' X.d X.t (.slice e1 e2 e3) (.slice k1 k2 k3)->w.heap.size+1+1<w'.heap.size->Calls Tryz.prog 42 #[.agg (ae X.head (.slice e1 e2 e3) (.slice k1 k2 k3)).toArray] w' fun e Hw=>∃ev' cv',e=.returned (.agg (ae X.ay.head ev' cv').toArray)/\ag Z Hw X.ay.d X.ay.t ev' cv'/\Below w'.heap.size w' Hw:=fun w' hn hs=>jWZ X _ _ 99998 w' hn hk.jGr (fun g hg=>hI g (by omega)) (by omega)
 have hj:∀ev cv tb w',ag Z w' X.ay.d X.ay.t ev cv->bk tb w' ⟨false,[]⟩->Tbl w'->Low tb->w.heap.size+1+1<w'.heap.size->Calls Tryz.prog 43 #[.agg (ae X.ay.head ev cv).toArray,.string Hu,.pointer (some ⟨tb,0,none⟩)] w' (jEv Z tb (bI X.ay Hu ⟨false,[]⟩) w'):=fun ev cv tb w' hn ht HO hL hs=>jT1 100 (by decide) (by decide) X.ay ev cv Hu tb _ w' hn hO HJ ht (aS.none 100) HO hL (fun g hg=>hI g (by omega)) hK
 have hf:∀ev cv tb w',ag Z w' X.ay.d X.ay.t ev cv->Rnd w'->bk tb w' (bI X.ay Hu ⟨false,[]⟩).2.2->Calls Tryz.prog 44 #[.agg (ae X.ay.head ev cv).toArray,.pointer (some ⟨tb,0,none⟩),.int .i64 wide] w' fun e Hw=>e=.returned (.string (jBj (HS wide) (bI X.ay Hu ⟨false,[]⟩).2.2 X.ay.d X.ay.t))/\Below w'.heap.size w' Hw:=fun ev cv tb w' hn HG ht=>jS4 wide hw 100 tb _ X.ay.d X.ay.t ev cv w' hn HC HG ht h8
 have he:∀ev cv w',ag Z w' (bI X.ay Hu ⟨false,[]⟩).2.1.d (bI X.ay Hu ⟨false,[]⟩).2.1.t ev cv->Rnd w'->Calls Tryz.prog 37 #[.agg (ae (bI X.ay Hu ⟨false,[]⟩).2.1.head ev cv).toArray,.int .i64 wide] w' fun e Hw=>e=.returned (.string (bj (HS wide) (bI X.ay Hu ⟨false,[]⟩).2.1.d (bI X.ay Hu ⟨false,[]⟩).2.1.t))/\Below w'.heap.size w' Hw:=fun ev cv w' hn HG=>(jG3 wide hw 100 _ _ ev cv w' hn h9 HG).2
 clear HC HJ HQ hK hO h9 h8 hu hk h Hx hZ;generalize X.ay=N at *;generalize jBj (HS wide) (bI N Hu ⟨false,[]⟩).2.2 N.d N.t=pf at *;generalize bj (HS wide) (bI N Hu ⟨false,[]⟩).2.1.d (bI N Hu ⟨false,[]⟩).2.1.t=dg at *;generalize bI N Hu ⟨false,[]⟩=rr at *;obtain⟨rep,Y,HY⟩:=rr;simp only at hf he ⊢;have hx:aa Y.d Y.t=Y.head:=rfl;have h4:=hd hx;clear hx;generalize X.head=hh at *;rw[jQc] at hJ ⊢;have hU:=hd hJ;have hS:=hd hj;have hX:=hd hf;have hQ:=hd he;have hY:=hd h7;have HT:=hd hT;have HR:=hd hR;have He:=hd h5;have Hf:=hd h6;clear hJ hj hf he h7 hT hR hI h5 h6;obtain⟨W,hW⟩:∃W:World,W=((w.alloc (.cells #[.bool hh.inner,.slice e1 e2 e3,.slice k1 k2 k3,.int .i64 hh.least,.int .i64 hh.rows,.string hh.sl,.int .i64 hh.num] 60)).alloc (.cells #[.string ⟨#[]⟩,.string ⟨#[]⟩,.string ⟨#[]⟩] 30)).alloc (.cells #[.bool false,.slice none 0 0,.slice none 0 0,.int .i64 0,.int .i64 0,.string ⟨#[]⟩,.int .i64 0] 60):=⟨_,rfl⟩;obtain⟨HN,HP,Hv,HH⟩:=jQU hW;have Hs:=jQe HH;have hC:Hid (jHN w W):=⟨HN,Hv,HH⟩;clear HN HP Hv HH;go_enter Tryz.func34,Tryz.ntmps34;go_wp2_with fail;rw[<-hW];clear hW;refine(hU.o _ (hY.o.below hC.o.below) (by omega)).mono ?_;rintro e w1 ⟨HW,HU,rfl,hA,Hv⟩;obtain⟨⟨a1,a2,a3,HA⟩,b1,b2,b3,Hz⟩:=hA.aG;subst HA Hz;generalize hnh:N.head=nh at *;rw[jQc];obtain⟨V,hV⟩:∃V:World,V=(w1.alloc (.cells #[.bool nh.inner,.slice a1 a2 a3,.slice b1 b2 b3,.int .i64 nh.least,.int .i64 nh.rows,.string nh.sl,.int .i64 nh.num] 60)).alloc (.cells #[.bool false,.slice none 0 0] 74):=⟨_,rfl⟩;obtain⟨HI,HK,HL⟩:=jIY hV;have hy:=hd ((hC.o.next Hv).next HI);have hE:=hd (hA.below HI);have hp:=hd (bk.new HL);have hG:=hd HK;have Hl:=Hv.size;have Hr:=jQe HL;obtain⟨s0,s1,s2,s3,s4,s5,s6⟩:=jQq HK;clear hA Hv HI HK HL hC hU hY;go_wp2_with fail;rw[<-hV];clear hV;have hj:=hS.o (.slice a1 a2 a3) (.slice b1 b2 b3) (w1.heap.size+1) V hE.o hp.o (HT.o.below hy.o.below) (Low.of HT.o HR.o (by omega)) (by omega)
 rw[jQc] at hj;refine hj.mono ?_;clear hj;rintro e w2 ⟨HX,HV,rfl,hv,HE,HB⟩;simp only at hv HE ⊢;obtain⟨⟨g1,g2,g3,HA⟩,j1,j2,j3,Hz⟩:=hv.aG;subst HA Hz;obtain⟨yh,HF⟩:∃x,x=Y.head:=⟨_,rfl⟩;rw[<-HF];rw[jQc];have he:=hQ.o (.slice g1 g2 g3) (.slice j1 j2 j3);rw[<-HF,jQc] at he;have hD:=hd he;have hH:=hd (h4.o.trans HF.symm);obtain⟨V2,HD⟩:∃V2:World,V2=w2.alloc (.cells #[.bool yh.inner,.slice g1 g2 g3,.slice j1 j2 j3,.int .i64 yh.least,.int .i64 yh.rows,.string yh.sl,.int .i64 yh.num] 60):=⟨_,rfl⟩;have ha:Below w2.heap.size w2 V2:=by rw[HD];exact bA
 have hM:V2.heap[w2.heap.size]?=some (.cells #[.bool yh.inner,.slice g1 g2 g3,.slice j1 j2 j3,.int .i64 yh.least,.int .i64 yh.rows,.string yh.sl,.int .i64 yh.num] 60):=by rw[HD];exact jQi _ _
 have hq:Low (w1.heap.size+1):=Low.of HT.o HR.o (by omega);have Ht:=HE.lt;have hP:=hd ((hy.o.jHF (by omega) HB).next ha);have ho:=hd ((hE.o.bX HB).below ha);have h0:=hd (hv.below ha);have h3:=hd (HE.below ha);have hF:Hid (Rnd V2):=((HR.o.below hy.o.below).bX hq HB).below ha;have hi:=(HB.bC _ _ _ _ hG.o (by decide) (by decide)).trans hG.o;clear s0 s1 s2 s3 s4 s5 s6;obtain⟨s0,s1,s2,s3,s4,s5,s6⟩:=jQq hi;have Ha:=jQe hM;have Hh:=jQe hi;have h2:=hd hM;have hf:=hX.o (.slice a1 a2 a3) (.slice b1 b2 b3) (w1.heap.size+1) V2 ho.o hF.o h3.o;rw[jQc] at hf;have hm:=hd hf;clear hv HE HB ha hM hq hi hf he HF hQ hX hS hy hE hp hG ho h3 h4;go_wp2_with fail;rw[<-HD];clear HD;refine hm.o.mono ?_;rintro e w3 ⟨rfl,Hy⟩;have hl:=hd (hP.o.next Hy);have h1:=hd (h0.o.below Hy);have Hd:=hd (hF.o.below Hy);have hB:=(Hy.block _ Ha).trans h2.o;have Hg:=jQe hB;clear s0 s1 s2 s3 s4 s5 s6;obtain⟨s0,s1,s2,s3,s4,s5,s6⟩:=jQq hB;obtain⟨m0,m1,m2,n0,n1,n2⟩:=jFZ hl.o.ans;obtain⟨t0,t1,t2,t3,t4,t5,t6⟩:=jQq hl.o.res;obtain⟨f0,f1,f2,f3,f4,f5,f6⟩:=jQk hl.o.res;have Hc:=hd hB;have Hm:=jQe hl.o.res;have Hn:w.heap.size+1<w3.heap.size:=by omega
 have Hk:w.heap.size+1+1<w2.heap.size:=by omega
 have hA:¬(w2.heap.size=w.heap.size+1):=by omega
 have hv:¬(w.heap.size+1=w2.heap.size):=by omega
 have Hi:¬(w2.heap.size=w.heap.size+1+1):=by omega
 have Hj:¬(w.heap.size+1+1=w2.heap.size):=by omega
 clear Hy hB hP h0 hF h2 hm Ha Hh;go_wp2
 go_region_with (go_at_call 37;refine(hD.o _ (h1.o.below (cB bR)) (Hd.o.below (cB bR))).mono ?_;rintro e w5 ⟨rfl,HM⟩;have hb:=(cB (Below.refl w3.heap.size w3)).trans HM;have hc:=hd (hl.o.next hb);have Hb:=hd (h1.o.below hb);have hN:=(hb.block _ Hg).trans Hc.o;obtain⟨p0,p1,p2,p3,p4,p5,p6⟩:=jQq hN;obtain⟨u0,u1,u2,v0,v1,v2⟩:=jFZ hc.o.ans;obtain⟨x0,x1,x2,x3,x4,x5,x6⟩:=jQq hc.o.res;obtain⟨y0,y1,y2,y3,y4,y5,y6⟩:=jQk hc.o.res;have Ho:=jQe hN;have Hp:=jQe hc.o.res;have Hq:w.heap.size+1<w5.heap.size:=(by omega);clear HM hb hN)
 all_goals(try go_wp2_with fail)
 all_goals(refine cp (v:=.tuple #[.agg #[.string rep,.string pf,.string dg],.agg #[.bool yh.inner,.slice g1 g2 g3,.slice j1 j2 j3,.int .i64 yh.least,.int .i64 yh.rows,.string yh.sl,.int .i64 yh.num]]) (by simp[results,Tryz.results34,go_sem, *]) rfl ⟨.slice g1 g2 g3,.slice j1 j2 j3,by rw[hH.o,jQc],?_,?_⟩)
 all_goals first
  | (refine ag.less (Z:=Z) Hf.o ?_;exact ag.skip (b:=w.heap.size+1+1) (ag.jVE (b:=w.heap.size+1) Hb.o hc.o.ans (by decide) (by decide) fun g hg=>jQM hg _ _ _ _ _ _) He.o ((jQM (by omega) _ _ _ _ _ _).trans hc.o.res) fun g hg=>jQl _ _ _ _ _ _ _ _ _ hg)
  | exact jQu (jHn hc.o.below (by omega) _ _ _) (by omega) _ _ _ _ _ _ _
def jBB (sb:Nat)(w:World)(wide:Nat)(X:aj):Prop :=
 ∃ev cv,w.heap[sb]?=some (.cells (#[.int .i64 wide]++(ae X.head ev cv).toArray) 62)/\ag (fun _=>False) w X.d X.t ev cv
theorem jBB.lt {wide:Nat}{X:aj}(h:jBB sb w wide X):sb<w.heap.size:=by obtain⟨_,_,h1,_⟩:=h;exact jQe h1
theorem jBB.below {wide:Nat}{X:aj}(h:jBB sb w wide X)(hb:Below w.heap.size w w'):jBB sb w' wide X:=by
 obtain⟨ev,cv,h1,h2⟩:=h;exact⟨ev,cv,(hb.block sb (jQe h1)).trans h1,h2.below hb⟩
theorem jGl {a7:Value}(h:w.heap[sb]?=some (.cells #[a0,a1,a2,a3,a4,a5,a6,a7] 62)) :
  w.cell? ⟨sb,0,none⟩=some a0/\w.cell? ⟨sb,1,none⟩=some a1/\w.cell? ⟨sb,2,none⟩=some a2/\w.cell? ⟨sb,3,none⟩=some a3/\w.cell? ⟨sb,4,none⟩=some a4/\w.cell? ⟨sb,5,none⟩=some a5/\w.cell? ⟨sb,6,none⟩=some a6/\w.cell? ⟨sb,7,none⟩=some a7 :=
 ⟨by rw[jQb h];rfl,by rw[jQb h];rfl,by rw[jQb h];rfl,by rw[jQb h];rfl,by rw[jQb h];rfl,by rw[jQb h];rfl,by rw[jQb h];rfl,by rw[jQb h];rfl⟩
def jMh (wide:Nat):Array Value:=#[.int .i64 wide,.bool false,.slice none 0 0,.slice none 0 0,.int .i64 0,.int .i64 0,.string ⟨#[]⟩,.int .i64 0]
theorem jBB.new (wide:Nat)(w:World):jBB w.heap.size (w.alloc (.cells (jMh wide) 62)) wide jBX:=by
 refine⟨.slice none 0 0,.slice none 0 0,jQi _ _,?_⟩;exact⟨cu _ _ _ _,rfl⟩
theorem jMX (wide:Nat)(w:World)(h1:1<=wide)(h2:wide<=32):Calls Tryz.prog 33 #[.int .i64 wide] w fun e w'=>e=.returned (.bool true)/\w'=w:=by
 have i1:(1:Int)<=(wide:Int):=by omega
 have i2:(wide:Int)<=32:=by omega
 have i3:¬((wide:Int)<1):=by omega
 have i4:¬((32:Int)<(wide:Int)):=by omega
 go_enter Tryz.func33,Tryz.ntmps33;go_wp2;go_ret;exact⟨rfl,rfl⟩
theorem jUT (wide:Nat)(w:World)(h1:1<=wide)(h2:wide<=32) :
  Calls Tryz.prog 14 #[.int .i64 wide] w fun e w'=>e=.returned (.tuple #[.pointer (some ⟨w.heap.size,0,none⟩),.int .i64 0])/\w'=w.alloc (.cells (jMh wide) 62):=by
 unfold jMh;go_enter Tryz.func14,Tryz.ntmps14;go_wp2_with fail;refine(jMX wide _ h1 h2).mono ?_;rintro e w' ⟨rfl,ha⟩;rw[ha];clear ha w';go_wp2;go_ret2;exact⟨rfl,rfl⟩
theorem jK7 (sb wide:Nat)(X:aj)(K:Int)(w:World)(hw:wide<=32)(h:jBB sb w wide X)(ht:aT K X.d X.t)(hR:Rnd w) :
  Calls Tryz.prog 29 #[.pointer (some ⟨sb,0,none⟩)] w fun e w'=>e=.returned (.string (bj (HS wide) X.d X.t))/\Below w.heap.size w w':=by
 obtain⟨ev,cv,hf,hn⟩:=h;obtain⟨⟨e1,e2,e3,hj⟩,k1,k2,k3,hh⟩:=hn.aG;subst hj hh;have hk:∀w',Below w.heap.size w w'->Calls Tryz.prog 37 #[.agg (ae X.head (.slice e1 e2 e3) (.slice k1 k2 k3)).toArray,.int .i64 wide] w' fun e ho=>e=.returned (.string (bj (HS wide) X.d X.t))/\Below w'.heap.size w' ho:=fun w' hb=>(jG3 wide hw K _ _ _ _ w' (hn.below hb) ht (hR.below hb)).2
 rw[jQc] at hk hf;have ha:w.heap[sb]?=some (.cells #[.int .i64 wide,.bool X.head.inner,.slice e1 e2 e3,.slice k1 k2 k3,.int .i64 X.head.least,.int .i64 X.head.rows,.string X.head.sl,.int .i64 X.head.num] 62):=hf;obtain⟨c0,c1,c2,c3,c4,c5,c6,c7⟩:=jGl ha;have hz:=jQe ha;have HK:=hd hk;clear hk hn hf ha ht hR;generalize bj (HS wide) X.d X.t=dg at *;generalize X.head=xh at *;go_enter Tryz.func29,Tryz.ntmps29;go_wp2
 go_region_with (go_at_call 37;refine(HK.o _ (cB bR)).mono ?_;rintro e w5 ⟨rfl,hg⟩;have hc:Hid (Below w.heap.size w w5):=(cB bR).trans hg;clear hg)
 all_goals(try go_wp2)
 all_goals
  go_ret;exact⟨rfl,hc.o⟩
structure jCz (Z:Nat->Prop)(w w':World):Prop where
 size:w.heap.size<=w'.heap.size
 blk:∀(g:Nat) (c:Array Value) (e:TypeId) (fr:Nat×Nat),w.heap[g]?=some (.cells c e fr)->e≠30->e≠62->¬(e=60/\Z g)->w'.heap[g]?=w.heap[g]?
theorem jCz.refl (Z:Nat->Prop)(w:World):jCz Z w w:=⟨nR,fun _ _ _ _ _ _ _ _=>rfl⟩
theorem jCz.alloc {Z:Nat->Prop}(h:jCz Z w w')(o:Obj):jCz Z w (w'.alloc o) :=
 ⟨cm h.size (by show w'.heap.size<=(w'.heap.push o).size;simp),fun g c e fr hg h1 h2 h3=>(jHy (dz (jQe hg) h.size) o).trans (h.blk g c e fr hg h1 h2 h3)⟩
theorem jCz.set {Z:Nat->Prop}(h:jCz Z w w')(v:Value)(hb:w.heap.size<=b):jCz Z w (w'.setCell ⟨b,i,none⟩ v) :=
 ⟨cm h.size (by simp),fun g c e fr hg h1 h2 h3=>(jQg (fun e=>by have:=jQe hg;omega)).trans (h.blk g c e fr hg h1 h2 h3)⟩
theorem jCz.jKs {Z:Nat->Prop}(h:jCz Z w w')(v:Value)(hb:w.heap[b]?=some (.cells c 30 fr)):jCz Z w (w'.setCell ⟨b,i,none⟩ v) :=
 ⟨cm h.size (by simp),fun g c e fr hg h1 h2 h3=>(jQg (fun e=>by subst e;rw[hb] at hg;simp at hg;exact h1 hg.2.1.symm)).trans (h.blk g c e fr hg h1 h2 h3)⟩
theorem jCz.jVC {Z:Nat->Prop}(h:jCz Z w w')(v:Value)(hb:w.heap[b]?=some (.cells c 60 fr))(hz:Z b):jCz Z w (w'.setCell ⟨b,i,none⟩ v) :=
 ⟨cm h.size (by simp),fun g c e fr hg h1 h2 h3=>(jQg (fun e=>by subst e;rw[hb] at hg;simp at hg;exact h3 ⟨hg.2.1.symm,hz⟩)).trans (h.blk g c e fr hg h1 h2 h3)⟩
theorem jCz.jIg {Z:Nat->Prop}(h:jCz Z w w')(v:Value)(hb:w.heap[b]?=some (.cells c 62 fr)):jCz Z w (w'.setCell ⟨b,i,none⟩ v) :=
 ⟨cm h.size (by simp),fun g c e fr hg h1 h2 h3=>(jQg (fun e=>by subst e;rw[hb] at hg;simp at hg;exact h2 hg.2.1.symm)).trans (h.blk g c e fr hg h1 h2 h3)⟩
theorem ag.bC {Z:Nat->Prop}{t:Nd n}(h:ag Z w n t ev cv)(hk:jCz Z w w'):ag Z w' n t ev cv :=
 h.move fun g c e fr hg he=>hk.blk g c e fr hg (by rcases he with rfl | ⟨rfl,_⟩<;>decide) (by rcases he with rfl | ⟨rfl,_⟩<;>decide) (by
  rintro⟨h1,h2⟩;rcases he with rfl | ⟨rfl,h3⟩
  ·exact absurd h1 (by decide)
  exact h3 h2)
theorem ag.jVD {Z Y:Nat->Prop}{t:Nd n}(h:ag Z w n t ev cv)(hY:∀g,Y g->w.heap.size<=g):ag Y w n t ev cv:=by
 induction n generalizing ev cv with
 | zero=>exact h
 | succ n ih =>
  obtain⟨h1,l,h2,h3,hz,h4⟩:=h;refine⟨h1,l,h2,h3,fun g o p k c hv hg=>?_,fun x hx=>ih (h4 x hx)⟩;rcases h3.2 with⟨h0,_⟩ | ⟨g',cap,cur,hv',hbg,hh,_⟩
  ·rw[h0] at hv;simp at hv
  rw[hv'] at hv;simp only[Value.slice.injEq,Option.some.injEq,Addr.mk.injEq] at hv;rw[hv.1.1] at hh
  have:=jQe hh
  have:=hY g hg
  omega
theorem jI3 {ty:TypeId}(h:w.heap[b]?=some (.cells #[a0,a1,a2] ty fr))(x y z:Value):(((w.setCell ⟨b,0,none⟩ x).setCell ⟨b,1,none⟩ y).setCell ⟨b,2,none⟩ z).heap[b]?=some (.cells #[x,y,z] ty fr):=by
 rw[jQf (jQf (jQf h _) _) _];rfl
theorem jF0 {ty:TypeId}(h:w.heap[b]?=some (.cells #[a0,a1,a2,a3,a4,a5,a6] ty))(x0 x1 x2 x3 x4 x5 x6:Value):(((((((w.setCell ⟨b,0,none⟩ x0).setCell ⟨b,1,none⟩ x1).setCell ⟨b,2,none⟩ x2).setCell ⟨b,3,none⟩ x3).setCell ⟨b,4,none⟩ x4).setCell ⟨b,5,none⟩ x5).setCell ⟨b,6,none⟩ x6).heap[b]?=some (.cells #[x0,x1,x2,x3,x4,x5,x6] ty):=jTo h x0 x1 x2 x3 x4 x5 x6
theorem jMN {c:Nat}(h:c≠b)(x0 x1 x2 x3 x4 x5 x6:Value):(((((((w.setCell ⟨b,0,none⟩ x0).setCell ⟨b,1,none⟩ x1).setCell ⟨b,2,none⟩ x2).setCell ⟨b,3,none⟩ x3).setCell ⟨b,4,none⟩ x4).setCell ⟨b,5,none⟩ x5).setCell ⟨b,6,none⟩ x6).heap[c]?=w.heap[c]?:=jQl w b x0 x1 x2 x3 x4 x5 x6 h
theorem jOl (o:Obj)(h:k=w.heap.size):(w.alloc o).heap[k]?=some o:=jLD h o
def jHM (ND:World->Value->Value->Prop)(rep nb dg:BA)(yh:Sq.Head)(w:World)(e:Ending)(w':World):Prop :=
 ∃g1 g2 g3 j1 j2 j3,e=.returned (.tuple #[.agg #[.string rep,.string nb,.string dg],.agg #[.bool yh.inner,.slice g1 g2 g3,.slice j1 j2 j3,.int .i64 yh.least,.int .i64 yh.rows,.string yh.sl,.int .i64 yh.num]])/\ND w' (.slice g1 g2 g3) (.slice j1 j2 j3)/\Below w.heap.size w w'
theorem jGK.gen {Z:Nat->Prop}{rep pf:BA}{t:Nd n}{e:Ending}(h:jGK Z rep pf dg n t w e w'):jHM (fun w a b=>ag Z w n t a b) rep pf dg (aa n t) w e w':=by
 obtain⟨ev,cv,rfl,hn,hb⟩:=h;obtain⟨⟨g1,g2,g3,hc⟩,j1,j2,j3,ha⟩:=hn.aG;subst hc ha;exact⟨g1,g2,g3,j1,j2,j3,by rw[jQc],hn,hb⟩
def Sq.jEa (X:aj)(ha:BA):BA:=(bI X.ay ha ⟨false,[]⟩).1
def Sq.ba (X:aj)(ha:BA):aj:=(bI X.ay ha ⟨false,[]⟩).2.1
def Sq.jB2 (wide:Nat)(X:aj)(ha:BA):BA:=jBj (HS wide) (bI X.ay ha ⟨false,[]⟩).2.2 X.ay.d X.ay.t
def Sq.jBf (wide:Nat)(X:aj):BA:=bj (HS wide) X.d X.t
theorem Sq.jDn.next {X:aj}{db:List Tab}(h:jDn X db)(hf:BA):jDn (Sq.ba X hf) (Sq.after db hf)/\Sq.jEa X hf=(Sq.decide db hf).jAP:=by
 have hr:=Sq.jNk h.st.ay h.bV hf ⟨false,[]⟩;obtain⟨hg,hh,hj⟩:=h.ay;have ha:=h.st.ay.jGm h.bV hg (aS.none 100) hh hf;have hb:jBb 100 800000000 X.ay:=⟨hg,by omega⟩;have hc:aT 100 (Sq.ba X hf).d (Sq.ba X hf).t:=(jMV (by decide) ha hb (jKO hg (aS.none 100) hf)).1.t;exact⟨⟨hr.2.1,Sq.jYk h.bV hf,Sq.aT.mono (by decide) hc⟩,hr.1⟩
theorem Sq.jOD:Sq.jDn jBX []:=⟨Sq.jMi,Sq.qAp,Sq.jVG⟩
end
section
open Go.RowKit
variable {Z:Nat->Prop}
def jES (Z:Nat->Prop)(x:Option aj)(w:World)(e:Ending)(w':World):Prop :=
 Below w.heap.size w w'/\match x with
 | none=>e=.returned (.tuple #[.agg #[.bool false,.slice none 0 0,.slice none 0 0,.int .i64 0,.int .i64 0,.string ⟨#[]⟩,.int .i64 0],.bool false])
 | some P=>∃ev cv,e=.returned (.tuple #[.agg (ae P.head ev cv).toArray,.bool true])/\ag Z w' P.d P.t ev cv
theorem jK8 (wide:Nat)(h1:1<=wide)(h2:wide<=32)(text:BA)(w:World)(hZ:∀g,w.heap.size<=g->¬Z g) :
  Calls Tryz.prog 48 #[.string text,.int .i64 wide] w (jES Z (jAM wide text) w):=by
 obtain⟨Y,hY⟩:∃Y:Nat->Prop,Y=fun g=>Z g\/g=w.heap.size:=⟨_,rfl⟩
 have h4:Hid (∀g,w.heap.size+1<=g->¬Y g):=by
  intro g hg;rw[hY];rintro(hz | hz)
  ·exact hZ g (by omega) hz
  omega
 have h5:Hid (∀g,Z g->Y g):=by intro g hg;rw[hY];exact Or.inl hg
 have h0:Hid (Y w.heap.size):=by show Y _;rw[hY];exact Or.inr rfl
 clear hY hZ;obtain⟨W,hW⟩:∃W:World,W=w.alloc (.cells jAR 60):=⟨_,rfl⟩;have hQ:Below w.heap.size w W:=by rw[hW];exact bA
 have hl:W.heap[w.heap.size]?=some (.cells jAR 60):=by rw[hW];exact jQi _ _
 have Hb:=jQe hl;have hM:=hd hQ;have hD:=hd hl;obtain⟨b0,b1,b2,b3,b4,b5,b6⟩:=jQw hl;obtain⟨f0,f1,f2,f3,f4,f5,f6⟩:=jQk hl;clear hQ hl;obtain⟨rt,Hj⟩:∃y,y=jAM wide text:=⟨_,rfl⟩;rw[<-Hj]
 by_cases hsz:text.size<=6000
 ·have hy:Hid (rt=if jDA (aN wide text.size ⟨text,false⟩).2&&jFl text.size (aN wide text.size ⟨text,false⟩).1 then some ⟨text.size,(aN wide text.size ⟨text,false⟩).1⟩ else none):=by
   show _=_;rw[Hj];unfold jAM;rw[cE ⟨h1,h2,hsz⟩]
  have i1:¬((6000:Int)<(text.size:Int)):=by omega
  clear Hj;go_enter Tryz.func48,Tryz.ntmps48;go_wp2_with fail;rw[<-show jAR=#[.bool false,.slice none 0 0,.slice none 0 0,.int .i64 0,.int .i64 0,.string ⟨#[]⟩,.int .i64 0] from rfl,<-hW];clear hW;refine(jMX wide _ h1 h2).mono ?_;rintro e w' ⟨rfl,Hg⟩;rw[Hg];clear Hg w';go_wp2_with fail;refine(jOb text _).mono ?_;rintro e w1 ⟨rfl,Hm⟩;have hm:=(Hm.block _ Hb).trans hD.o;have hI:=hM.t Hm;have h7:=jQe hm;have hw:=hd hm;have hH:=hI.o.size;clear Hm hm b0 b1 b2 b3 b4 b5 b6 f0 f1 f2 f3 f4 f5 f6;obtain⟨V,hV⟩:∃V:World,V=w1.alloc (.cells #[.string text,.bool false] 105):=⟨_,rfl⟩;have hE:Below w1.heap.size w1 V:=by rw[hV];exact bA
  have hG:bJ w1.heap.size V ⟨text,false⟩:=by rw[hV];exact jQi _ _
  have hP:=hd hG;have hB:=hd hE;have ho:=(hE.block _ h7).trans hw.o;have hs:=hd ho;have Ha:=jQe ho;have Hf:=jQe hG;have hF:w.heap.size≠w1.heap.size:=by omega
  clear hG hE ho;go_wp2_with fail;rw[<-hV];clear hV;refine(jPK wide w1.heap.size h2 text.size ⟨text,false⟩ V Y (fun g hg=>h4.o g (by omega)) hP.o (by show text.size<=_;omega) (Or.inl nR)).mono ?_;rintro e w2 ⟨ev,cv,rfl,Hh,Hl,Ho⟩;obtain⟨⟨x1,x2,x3,Hs⟩,y1,y2,y3,Hr⟩:=Hh.aG;subst Hs Hr;have hh:=Sq.jRH wide text.size ⟨text,false⟩;have h6:=Sq.jPL wide text.size ⟨text,false⟩
  have hq:(Sq.jAC text.size (aN wide text.size ⟨text,false⟩).1).length<=1000000000:=by
   have:(⟨text,false⟩:Sq.Rd).rest.size=text.size:=rfl
   omega
  have hn:=(Ho.block _ Ha hF).trans hs.o;have hr:=hd hn;have h8:=jQe hn;have hJ:=hd (hI.o.trans ((hB.o.mono hH).trans (Ho.below (B:=w.heap.size) (by omega) (by have:=hB.o.size;omega))));obtain⟨p,hp⟩:∃p,p=aN wide text.size ⟨text,false⟩:=⟨_,rfl⟩;have hj:=hy.o;rw[<-hp] at Hh Hl hh hq hj ⊢;obtain⟨p1,p2⟩:=p;simp only at Hh Hl hh hq hj ⊢;have hN:=hd Hh;have hO:=hd Hl;have hk:∀w',Below w2.heap.size w2 w'->Calls Tryz.prog 62 #[.agg (ae (aa text.size p1) (.slice x1 x2 x3) (.slice y1 y2 y3)).toArray] w' fun e Ht=>e=.returned (.bool (jFl text.size p1))/\Below w'.heap.size w' Ht:=fun w' hb=>jZ7 text.size p1 _ _ w' (Hh.below hb) hh (by omega) hq
  obtain⟨yh,Hp⟩:∃y,y=aa text.size p1:=⟨_,rfl⟩;rw[<-Hp] at hk ⊢;rw[jQc] at hk ⊢;obtain⟨cb,Hq⟩:∃y,y=jFl text.size p1:=⟨_,rfl⟩;obtain⟨dn,Hn⟩:∃y,y=jDA p2:=⟨_,rfl⟩;rw[<-Hq] at hk hj;rw[<-Hn] at hj;have hv:=hd hk;have hR:=hd Hn;have ht:=hd hj;have h3:=hd Hp;clear hk Hn hj Hq Hp Hh Hl Ho hh h6 hq hn hp hy hP hs hB;obtain⟨V2,Hk⟩:∃V2:World,V2=w2.alloc (.cells #[.bool yh.inner,.slice x1 x2 x3,.slice y1 y2 y3,.int .i64 yh.least,.int .i64 yh.rows,.string yh.sl,.int .i64 yh.num] 60):=⟨_,rfl⟩;have hi:Below w2.heap.size w2 V2:=by rw[Hk];exact bA
  have hA:V2.heap[w2.heap.size]?=some (.cells #[.bool yh.inner,.slice x1 x2 x3,.slice y1 y2 y3,.int .i64 yh.least,.int .i64 yh.rows,.string yh.sl,.int .i64 yh.num] 60):=by rw[Hk];exact jQi _ _
  have hC:=hd hi;have hU:=hd hA;have hf:=hd ((hi.block _ h8).trans hr.o);have hS:=hd (hN.o.below hi);have hX:=hd (hO.o.below hi);have hK:=hJ.t hi;have Hc:=jQe hA;obtain⟨m0,m1,m2,m3,m4,m5,m6⟩:=jQq hA;have h9:=jQe hf.o;clear hi hA hN hO hJ hr;go_wp2_with fail;rw[<-Hk];clear Hk;refine(jOd w1.heap.size p2 V2 hX.o).mono ?_;rintro e w' ⟨rfl,Hg⟩;rw[Hg,<-hR.o];clear Hg w';obtain⟨b0,b1,b2,b3,b4,b5,b6⟩:=jQw hf.o;obtain⟨f0,f1,f2,f3,f4,f5,f6⟩:=jQk hf.o;cases dn
  ·have ha:jES Z rt w (.returned (.tuple #[.agg #[.bool false,.slice none 0 0,.slice none 0 0,.int .i64 0,.int .i64 0,.string ⟨#[]⟩,.int .i64 0],.bool false])) (bT V2 w.heap.size (.bool false) (.slice none 0 0) (.slice none 0 0) (.int .i64 0) (.int .i64 0) (.string ⟨#[]⟩) (.int .i64 0)):=by
    rw[ht.o];exact⟨jQu hK.o nR _ _ _ _ _ _ _,rfl⟩
   have he:=hd ha;clear ha;go_wp2;exact cp (v:=.tuple #[.agg #[.bool false,.slice none 0 0,.slice none 0 0,.int .i64 0,.int .i64 0,.string ⟨#[]⟩,.int .i64 0],.bool false]) (by simp[results,Tryz.results48,go_sem, *]) rfl he.o
  go_wp2_with fail;refine(hv.o V2 hC.o).mono ?_;rintro e w4 ⟨rfl,Hi⟩;have hu:=(Hi.block _ Hc).trans hU.o;have hc:=(Hi.block _ h9).trans hf.o;have hT:=hd (hS.o.below Hi);have hL:=hK.t Hi;have hx:=hd hc;clear m0 m1 m2 m3 m4 m5 m6 b0 b1 b2 b3 b4 b5 b6 f0 f1 f2 f3 f4 f5 f6;obtain⟨m0,m1,m2,m3,m4,m5,m6⟩:=jQq hu;obtain⟨b0,b1,b2,b3,b4,b5,b6⟩:=jQw hc;obtain⟨f0,f1,f2,f3,f4,f5,f6⟩:=jQk hc;have He:=jQe hc;have Hd:=jQe hu;clear Hi hu hc hv;cases cb
  ·have ha:jES Z rt w (.returned (.tuple #[.agg #[.bool false,.slice none 0 0,.slice none 0 0,.int .i64 0,.int .i64 0,.string ⟨#[]⟩,.int .i64 0],.bool false])) (bT w4 w.heap.size (.bool false) (.slice none 0 0) (.slice none 0 0) (.int .i64 0) (.int .i64 0) (.string ⟨#[]⟩) (.int .i64 0)):=by
    rw[ht.o];exact⟨jQu hL.o nR _ _ _ _ _ _ _,rfl⟩
   have he:=hd ha;clear ha;go_wp2;exact cp (v:=.tuple #[.agg #[.bool false,.slice none 0 0,.slice none 0 0,.int .i64 0,.int .i64 0,.string ⟨#[]⟩,.int .i64 0],.bool false]) (by simp[results,Tryz.results48,go_sem, *]) rfl he.o
  have ha:jES Z rt w (.returned (.tuple #[.agg #[.bool yh.inner,.slice x1 x2 x3,.slice y1 y2 y3,.int .i64 yh.least,.int .i64 yh.rows,.string yh.sl,.int .i64 yh.num],.bool true])) (bT w4 w.heap.size (.bool yh.inner) (.slice x1 x2 x3) (.slice y1 y2 y3) (.int .i64 yh.least) (.int .i64 yh.rows) (.string yh.sl) (.int .i64 yh.num)):=by
   rw[ht.o];refine⟨jQu hL.o nR _ _ _ _ _ _ _,.slice x1 x2 x3,.slice y1 y2 y3,?_,?_⟩
   ·show _=Ending.returned (.tuple #[.agg (ae (aa text.size p1) (.slice x1 x2 x3) (.slice y1 y2 y3)).toArray,.bool true]);rw[<-h3.o,jQc]
   exact(hT.o.skip h0.o hx.o (fun g hg=>jQl _ _ _ _ _ _ _ _ _ hg)).less h5.o
  have he:=hd ha;clear ha;go_wp2;exact cp (v:=.tuple #[.agg #[.bool yh.inner,.slice x1 x2 x3,.slice y1 y2 y3,.int .i64 yh.least,.int .i64 yh.rows,.string yh.sl,.int .i64 yh.num],.bool true]) (by simp[results,Tryz.results48,go_sem, *]) rfl he.o
 have hy:Hid (rt=none):=by
  show _=_;rw[Hj];unfold jAM;rw[cy (by omega)]
 have i1:(6000:Int)<(text.size:Int):=by omega
 clear Hj
 have ha:jES Z rt w (.returned (.tuple #[.agg #[.bool false,.slice none 0 0,.slice none 0 0,.int .i64 0,.int .i64 0,.string ⟨#[]⟩,.int .i64 0],.bool false])) (bT W w.heap.size (.bool false) (.slice none 0 0) (.slice none 0 0) (.int .i64 0) (.int .i64 0) (.string ⟨#[]⟩) (.int .i64 0)):=by
  rw[hy.o];exact⟨jQu hM.o nR _ _ _ _ _ _ _,rfl⟩
 have he:=hd ha;clear ha;go_enter Tryz.func48,Tryz.ntmps48;go_wp2_with fail;rw[<-show jAR=#[.bool false,.slice none 0 0,.slice none 0 0,.int .i64 0,.int .i64 0,.string ⟨#[]⟩,.int .i64 0] from rfl,<-hW];clear hW;refine(jMX wide _ h1 h2).mono ?_;rintro e w' ⟨rfl,Hg⟩;rw[Hg];clear Hg w';go_wp2;exact cp (v:=.tuple #[.agg #[.bool false,.slice none 0 0,.slice none 0 0,.int .i64 0,.int .i64 0,.string ⟨#[]⟩,.int .i64 0],.bool false]) (by simp[results,Tryz.results48,go_sem, *]) rfl he.o
end
section
open Go.RowKit
def jIm (ND:World->Value->Value->Prop)(h:Sq.Head)(w:World)(e:Ending)(w':World):Prop :=
 ∃g1 g2 g3 j1 j2 j3,e=.returned (.tuple #[.agg #[.bool h.inner,.slice g1 g2 g3,.slice j1 j2 j3,.int .i64 h.least,.int .i64 h.rows,.string h.sl,.int .i64 h.num],.bool true])/\ND w' (.slice g1 g2 g3) (.slice j1 j2 j3)/\Below w.heap.size w w'
theorem jZL (wide:Nat)(h1:1<=wide)(h2:wide<=32)(root hf jAP proof:BA)(w:World)(hn:jAM wide proof=none) :
  Calls Tryz.prog 38 #[.int .i64 wide,.string root,.string hf,.string jAP,.string proof] w fun e w'=>e=.returned (.tuple #[.string ⟨#[]⟩,.bool false])/\Below w.heap.size w w':=by
 have hk:∀w',Calls Tryz.prog 48 #[.string proof,.int .i64 wide] w' fun e hc=>e=.returned (.tuple #[.agg #[.bool false,.slice none 0 0,.slice none 0 0,.int .i64 0,.int .i64 0,.string ⟨#[]⟩,.int .i64 0],.bool false])/\Below w'.heap.size w' hc:=fun w'=>by
  have:=jK8 (Z:=fun _=>False) wide h1 h2 proof w' (fun _ _ h=>h)
  rw[hn] at this;exact this.mono fun e hc hh=>⟨hh.2,hh.1⟩
 have HK:=hd hk;clear hk hn;go_enter Tryz.func38,Tryz.ntmps38;go_wp2_with fail;refine(HK.o _).mono ?_;rintro e w1 ⟨rfl,hb⟩;have ha:=hd (hb.alloc (Nat.le_of_lt_succ (Nat.lt_succ_of_le hb.size)) (.cells #[.bool false,.slice none 0 0,.slice none 0 0,.int .i64 0,.int .i64 0,.string ⟨#[]⟩,.int .i64 0] 60));clear hb HK;go_wp2;go_ret2;exact⟨rfl,ha.o⟩
theorem jJS {a b:BA}(h:a.toList=b.toList):a=b:=by
 rw[du,du] at h;apply ey;exact Array.toList_inj.1 h
structure Told (wide:Nat)(root sql:BA)(P:aj):Prop where
 jGr:jBb 100 800000000 P
 few:Sq.jAx P.d P.t<=900
 ok:bj (HS wide) P.d P.t=root->jGA (Sq.aL P sql ⟨false,[]⟩).1
theorem jZK (wide:Nat)(h1:1<=wide)(h2:wide<=32)(root h7 jAP proof:BA)(P:aj)(w:World)(hn:jAM wide proof=some P)(hP:Told wide root h7 P)(hT:Tbl w)(hR:Rnd w) :
  Calls Tryz.prog 38 #[.int .i64 wide,.string root,.string h7,.string jAP,.string proof] w fun e w'=>e=.returned (.tuple #[.string (jBW (HS wide) wide root h7 jAP proof).1,.bool (jBW (HS wide) wide root h7 jAP proof).2])/\Below w.heap.size w w':=by
 have hk:∀w',Calls Tryz.prog 48 #[.string proof,.int .i64 wide] w' (jIm (fun w a b=>ag (fun _=>False) w P.d P.t a b) P.head w'):=fun w'=>by
  have:=jK8 (Z:=fun _=>False) wide h1 h2 proof w' (fun _ _ h=>h)
  rw[hn] at this;refine this.mono fun e Hi hh=>?_
  obtain⟨hb,ev,cv,rfl,Ha⟩:=hh;obtain⟨⟨a1,a2,a3,rfl⟩,b1,b2,b3,rfl⟩:=Ha.aG;exact⟨a1,a2,a3,b1,b2,b3,by rw[jQc],Ha,hb⟩
 have he:∀ev cv w',ag (fun _=>False) w' P.d P.t ev cv->Rnd w'->Calls Tryz.prog 37 #[.agg (ae P.head ev cv).toArray,.int .i64 wide] w' fun e Hi=>e=.returned (.string (bj (HS wide) P.d P.t))/\Below w'.heap.size w' Hi:=fun ev cv w' Hd Hj=>(jG3 wide h2 100 _ _ ev cv w' Hd hP.jGr.t Hj).2
 have ha:jBW (HS wide) wide root h7 jAP proof=if bj (HS wide) P.d P.t≠root then(ar,false) else if(bI P h7 ⟨false,[]⟩).2.2.lost=true\/(bI P h7 ⟨false,[]⟩).1≠jAP then(ar,false) else(bj (HS wide) (bI P h7 ⟨false,[]⟩).2.1.d (bI P h7 ⟨false,[]⟩).2.1.t,true):=by
  unfold jBW;rw[hn]
 obtain⟨res,Hf⟩:∃y,y=jBW (HS wide) wide root h7 jAP proof:=⟨_,rfl⟩;rw[<-Hf] at ha ⊢;have HK:=hd hk;have hf:=hd he;have HT:=hd hT;have HR:=hd hR;clear hk he Hf hn hT hR
 by_cases hroot:bj (HS wide) P.d P.t=root
 ·have hz:=hP.ok hroot;rw[cy (by simp[hroot])] at ha;have hK:aT 100 (bI P h7 ⟨false,[]⟩).2.1.d (bI P h7 ⟨false,[]⟩).2.1.t:=(jMV (by decide) hz hP.jGr (jKO hP.jGr.t (aS.none 100) h7)).1.t;have ho:∀ev cv tb w',ag (fun _=>False) w' P.d P.t ev cv->bk tb w' ⟨false,[]⟩->Tbl w'->Low tb->Calls Tryz.prog 43 #[.agg (ae P.head ev cv).toArray,.string h7,.pointer (some ⟨tb,0,none⟩)] w' (jEv (fun _=>False) tb (bI P h7 ⟨false,[]⟩) w'):=fun ev cv tb w' Hd ht Ho hL=>jT1 100 (by decide) (by decide) P ev cv h7 tb _ w' Hd hP.jGr hP.few ht (aS.none 100) Ho hL (fun _ _ h=>h) hz
  have hj:∀ev cv w',ag (fun _=>False) w' (bI P h7 ⟨false,[]⟩).2.1.d (bI P h7 ⟨false,[]⟩).2.1.t ev cv->Rnd w'->Calls Tryz.prog 37 #[.agg (ae (bI P h7 ⟨false,[]⟩).2.1.head ev cv).toArray,.int .i64 wide] w' fun e Hi=>e=.returned (.string (bj (HS wide) (bI P h7 ⟨false,[]⟩).2.1.d (bI P h7 ⟨false,[]⟩).2.1.t))/\Below w'.heap.size w' Hi:=fun ev cv w' Hd Hj=>(jG3 wide h2 100 _ _ ev cv w' Hd hK Hj).2
  have he:=hf.o;rw[hroot] at he;have hf:=hd he;generalize bj (HS wide) (bI P h7 ⟨false,[]⟩).2.1.d (bI P h7 ⟨false,[]⟩).2.1.t=dg at *;generalize bI P h7 ⟨false,[]⟩=rr at *;obtain⟨rep,Y,Hn⟩:=rr;simp only at hj ha;have hC:=hd ho;have hB:=hd hj;have hq:=hd ha;clear ho hj he hK hz hroot ha hP;generalize hph:P.head=ph at *;go_enter Tryz.func38,Tryz.ntmps38;go_wp2_with fail;refine(HK.o _).mono ?_;rintro e w1 ⟨e1,e2,e3,k1,k2,k3,rfl,He,h8⟩;obtain⟨V,hV⟩:∃V:World,V=w1.alloc (.cells #[.bool ph.inner,.slice e1 e2 e3,.slice k1 k2 k3,.int .i64 ph.least,.int .i64 ph.rows,.string ph.sl,.int .i64 ph.num] 60):=⟨_,rfl⟩;have hi:Below w1.heap.size w1 V:=by rw[hV];exact bA
  have hv:V.heap[w1.heap.size]?=some (.cells #[.bool ph.inner,.slice e1 e2 e3,.slice k1 k2 k3,.int .i64 ph.least,.int .i64 ph.rows,.string ph.sl,.int .i64 ph.num] 60):=by rw[hV];exact jQi _ _
  have hg:=hd (h8.trans (hi.mono h8.size));have hm:=hd (He.below hi);have hG:=hd hv;have hY:=jQe hv;have h0:=h8.size;obtain⟨s0,s1,s2,s3,s4,s5,s6⟩:=jQq hv;clear He h8 hi hv HK;go_wp2_with fail;rw[<-hV];clear hV;have he:=hf.o (.slice e1 e2 e3) (.slice k1 k2 k3) V hm.o (HR.o.below hg.o);rw[jQc] at he;refine he.mono ?_;clear he;rintro e w2 ⟨rfl,Hb⟩;have hw:=(Hb.block _ hY).trans hG.o;have hr:=hg.t Hb;have hD:=hd (hm.o.below Hb);have hZ:=jQe hw;have hH:=hd hw;clear s0 s1 s2 s3 s4 s5 s6;obtain⟨s0,s1,s2,s3,s4,s5,s6⟩:=jQq hw;clear Hb hw hG hm hg hf;obtain⟨U,hU⟩:∃U:World,U=w2.alloc (.cells #[.bool false,.slice none 0 0] 74):=⟨_,rfl⟩;have hs:Below w2.heap.size w2 U:=by rw[hU];exact bA
  have hA:U.heap[w2.heap.size]?=some (.cells #[.bool false,.slice none 0 0] 74):=by rw[hU];exact jQi _ _
  have hI:=(hs.block _ hZ).trans hH.o;have hF:=hd (bk.new hA);have hE:=hd (hD.o.below hs);have hp:=hr.t hs;have h4:=jQe hA;have h5:=jQe hI;have hM:=hr.o.size;clear hs hA hI hD hH;go_wp2_with fail;rw[<-hU];clear hU;have hl:Low w2.heap.size:=Low.of HT.o HR.o hM;have ho:=hC.o (.slice e1 e2 e3) (.slice k1 k2 k3) w2.heap.size U hE.o hF.o (HT.o.below hp.o) hl;rw[jQc] at ho;refine ho.mono ?_;clear ho;rintro e w3 ⟨Hs,Hr,rfl,Hh,Hk,Hg⟩;simp only at Hh Hk ⊢;obtain⟨⟨g1,g2,g3,Hq⟩,j1,j2,j3,Hp⟩:=Hh.aG;subst Hq Hp;generalize hyh:Y.head=yh at *;rw[jQc];have hj:=hB.o (.slice g1 g2 g3) (.slice j1 j2 j3);rw[jQc] at hj;have hy:=hd hj;obtain⟨X,hX⟩:∃X:World,X=w3.alloc (.cells #[.bool yh.inner,.slice g1 g2 g3,.slice j1 j2 j3,.int .i64 yh.least,.int .i64 yh.rows,.string yh.sl,.int .i64 yh.num] 60):=⟨_,rfl⟩;have hu:Below w3.heap.size w3 X:=by rw[hX];exact bA
  have hJ:X.heap[w3.heap.size]?=some (.cells #[.bool yh.inner,.slice g1 g2 g3,.slice j1 j2 j3,.int .i64 yh.least,.int .i64 yh.rows,.string yh.sl,.int .i64 yh.num] 60):=by rw[hX];exact jQi _ _
  have hx:Hid (Below w.heap.size w X):=(hp.o.trans (Hg.below.mono hM)).trans (hu.mono (cm hp.o.size Hg.below.size));have hO:=hd (Hh.below hu);have hQ:Hid (Rnd X):=((HR.o.below hp.o).bX hl Hg).below hu;obtain⟨tv,Hl,-⟩:=Hk.row;have hW:w3.cell? ⟨w2.heap.size,0,none⟩=some (.bool Hn.lost):=by rw[jQb Hl];rfl
  have h3:=jQe Hl;have h6:=jQe hJ;clear s0 s1 s2 s3 s4 s5 s6;obtain⟨lost,h9⟩:∃y,y=Hn.lost:=⟨_,rfl⟩;have ha:=hq.o;rw[<-h9] at hW ha;have hc:=hd ha;clear Hh Hk Hg hu hJ Hl hj hl h9 ha hB hC hq hF hE hp hyh;cases lost
  ·by_cases hrep:rep=jAP
   ·subst hrep;have HE:Hid (res=(dg,true)):=by show _=_;rw[hc.o];simp
    clear hc;go_wp2_with fail;rw[<-hX];clear hX;refine(hy.o X hO.o hQ.o).mono ?_;rintro e w4 ⟨rfl,Hm⟩;have hN:=hx.t Hm;clear Hm;go_wp2;go_ret2;exact⟨by rw[HE.o];rfl,hN.o⟩
   have HE:Hid (res=(ar,false)):=by show _=_;rw[hc.o];simp[hrep]
   have hS:(rep.toList==jAP.toList)=false:=by
    simp only[beq_eq_false_iff_ne,ne_eq];intro e;apply hrep;exact jJS e
   clear hc;go_wp2;go_ret2;rw[<-hX];exact⟨by rw[HE.o];rfl,hx.o⟩
  have HE:Hid (res=(ar,false)):=by show _=_;rw[hc.o];simp
  clear hc;go_wp2;go_ret2;rw[<-hX];exact⟨by rw[HE.o];rfl,hx.o⟩
 have HE:Hid (res=(ar,false)):=by show _=_;rw[ha,cE hroot]
 obtain⟨dg,Hc⟩:∃y,y=bj (HS wide) P.d P.t:=⟨_,rfl⟩;have he:=hf.o;rw[<-Hc] at he hroot;have hf:=hd he
 have hS:(dg.toList==root.toList)=false:=by
  simp only[beq_eq_false_iff_ne,ne_eq];intro e;apply hroot;exact jJS e
 clear ha he Hc hP;generalize hph:P.head=ph at *;go_enter Tryz.func38,Tryz.ntmps38;go_wp2_with fail;refine(HK.o _).mono ?_;rintro e w1 ⟨e1,e2,e3,k1,k2,k3,rfl,He,h8⟩;obtain⟨V,hV⟩:∃V:World,V=w1.alloc (.cells #[.bool ph.inner,.slice e1 e2 e3,.slice k1 k2 k3,.int .i64 ph.least,.int .i64 ph.rows,.string ph.sl,.int .i64 ph.num] 60):=⟨_,rfl⟩;have hi:Below w1.heap.size w1 V:=by rw[hV];exact bA
 have hg:=hd (h8.trans (hi.mono h8.size));have hm:=hd (He.below hi);clear He h8 hi HK;go_wp2_with fail;rw[<-hV];clear hV;have he:=hf.o (.slice e1 e2 e3) (.slice k1 k2 k3) V hm.o (HR.o.below hg.o);rw[jQc] at he;refine he.mono ?_;clear he;rintro e w2 ⟨rfl,Hb⟩;have hr:=hg.t Hb;clear Hb hm hg hf;go_wp2;go_ret2;exact⟨by rw[HE.o];rfl,hr.o⟩
end
namespace Sq
theorem qBC {wide:Nat}(hw:wide<=32):∀(n:Nat) (r:Rd),(aa n (aN wide n r).1).sl.size<=32
 | 0,r=>by
  show(br (takeN r 1) wide).size<=32
  have:=jI5 (takeN r 1) wide
  omega
 | n+1,r=>by
  show(af.hd (jBc wide (aa n) (bg n) (aN wide n) r).1).sl.size<=32
  unfold jBc
  split
  ·have:=jI5 (takeN r 1) wide
   show(br (takeN r 1) wide).size<=32
   omega
  ·split
   ·exact zR
   ·split
    ·exact zR
    ·exact zR
theorem jLq:∀(n:Nat) (sl:BA) (l q:Int),sl.size<=32->0<=q->aT 0 n (bg n sl l q)
 | 0,sl,l,q,h,hq=>⟨⟨zR,zR,fun c hc=>(by cases hc),dA _,hq,fun hi=>(by cases hi),fun _=>⟨hq,rfl⟩,h,fun e he=>(by cases he)⟩,rfl⟩
 | n+1,sl,l,q,h,hq=>⟨zR,zR,fun c hc=>(by cases hc),dA _,hq,fun hi=>(by cases hi),fun _=>⟨hq,rfl⟩,h,fun e he=>(by cases he)⟩
theorem jRA {wide:Nat}(hw:wide<=32)(hr:∀r,jCb n 2 (aN wide n r).1=true->aT 0 n (aN wide n r).1) :
  ∀(k:Nat) (r:Rd),(∀c∈(bD (aa n) (bg n) (aN wide n) k r).1,jCb n 2 c=true)->∀c∈(bD (aa n) (bg n) (aN wide n) k r).1,aT 0 n c
 | 0,r,_,c,hc=>by cases hc
 | k+1,r,hs,c,hc=>by
  rw[jK2] at hs hc;simp only at hs hc;rcases List.mem_cons.1 hc with rfl | hc
  ·have h1:=hs _ (dh ..);unfold jAD at h1 ⊢
   split
   ·exact jLq n _ _ _ (qBC hw n _) (jHG _).1
   rename_i ha;rw[cy ha] at h1
   split
   ·rename_i h2;rw[cE h2] at h1;exact hr _ h1
   rename_i h2;rw[cy h2] at h1;exact hr _ h1
  exact jRA hw hr k _ (fun c hc=>hs c (cY _ hc)) c hc
theorem qCr (k:Nat)(r:Rd):∀e∈(bN k r).1,e.row.size<=300:=by
 induction k generalizing r with
 | zero=>intro e he;cases he
 | succ k ih =>
  intro e he;rcases List.mem_cons.1 he with rfl | he
  ·have:=jTP (takeN r 5)
   show(jEm (takeN r 5)).size<=300
   omega
  exact ih _ e he
theorem jSG {wide:Nat}(hw:wide<=32):∀(n:Nat) (r:Rd) (l:Nat),jCb n l (aN wide n r).1=true->aT 0 n (aN wide n r).1
 | 0,r,l,h=>by
  have:=jI5 (takeN r 1) wide
  exact jLq 0 (br (takeN r 1) wide) 0 0 (by omega) (dA _)
 | n+1,r,l,h=>by
  have hk:∀r,jCb n 2 (aN wide n r).1=true->aT 0 n (aN wide n r).1:=fun r h=>jSG hw n r 2 h
  have h':jDu (jCb n 2) l (jBc wide (aa n) (bg n) (aN wide n) r).1=true:=h;show aT 0 (n+1) (jBc wide (aa n) (bg n) (aN wide n) r).1;unfold jBc at h' ⊢
  split
  ·have:=jI5 (takeN r 1) wide
   exact jLq (n+1) (br (takeN r 1) wide) 0 0 (by omega) (dA _)
  ·rename_i c0;rw[cy c0] at h'
   split
   ·rename_i c1;rw[cE c1] at h';unfold jDu at h';rw[jH7] at h';simp only[dr,eD,cP,cZ] at h';have h4:(bN (aF (takeN r 1) 1).toNat (takeN (takeN r 1) 1)).1.length<=4:=h'.1.2;exact⟨h4,zR,fun c hc=>(by cases hc),dA _,Int.natCast_nonneg _,fun hi=>(by cases hi),fun _=>⟨dA _,rfl⟩,zR,qCr _ _⟩
   ·rename_i c1;rw[cy c1] at h'
    split
    ·rename_i c2;rw[cE c2] at h';unfold jDu at h';rw[jH0] at h';simp only[dr,eD,cP,cZ,List.all_eq_true] at h';have h4:(bD (aa n) (bg n) (aN wide n) (aF (takeN r 1) 1).toNat (takeN (takeN r 1) 1)).1.length<=4:=h'.1.2;have h5:=jRA hw hk _ _ h'.2;have h6:=(jJ2 (f:=aa n) (mk:=bg n) (jKY n) (fun r=>jHq wide n r) (aF (takeN r 1) 1).toNat (takeN (takeN r 1) 1)).2.2.2.2.2;exact⟨zR,h4,h5,dA _,h6,fun _=>⟨rfl,rfl⟩,fun hi=>(by cases hi),zR,fun e he=>(by cases he)⟩
    ·exact jLq (n+1) ar 0 0 zR (dA _)
theorem jTu:∀(k:Nat) (r:Rd),(bN k r).2.short=false->(bN k r).2.rest.size+6*k<=r.rest.size
 | 0,r,_=>by show r.rest.size+0<=_;omega
 | k+1,r,h=>by
  have h0:(bN k (jCG (takeN r 5))).2.short=false:=h;have h1:=jTu k _ h0;have h2:=jK4 k h0;have h3:(takeN (takeN r 5) 1).short=false:=jQF h2;have h4:=jHX (k:=1) h3;have h5:=jHX (k:=5) (jQF h3);have h6:=jQG (takeN (takeN r 5) 1) (aF (takeN r 5) 1);have h7:(jCG (takeN r 5)).rest.size<=(takeN (takeN r 5) 1).rest.size:=h6;have e4:(takeN (takeN r 5) ((1:Nat):Int))=takeN (takeN r 5) 1:=rfl;have e5:(takeN r ((5:Nat):Int))=takeN r 5:=rfl;rw[e4] at h4;rw[e5] at h5
  show(bN k (jCG (takeN r 5))).2.rest.size+6*(k+1)<=_
  omega
theorem jZT:∀(n:Nat) (s:BA) (l q:Int),jAx n (bg n s l q)=0
 | 0,_,_,_=>rfl
 | _+1,_,_,_=>rfl
theorem jRg {wide:Nat}(hr:∀r,(aN wide n r).2.short=false->jCb n 2 (aN wide n r).1=true->8*jAx n (aN wide n r).1+(aN wide n r).2.rest.size<=r.rest.size+6) :
  ∀(k:Nat) (r:Rd),(bD (aa n) (bg n) (aN wide n) k r).2.short=false->(∀c∈(bD (aa n) (bg n) (aN wide n) k r).1,jCb n 2 c=true)->8*((bD (aa n) (bg n) (aN wide n) k r).1.map (jAx n)).sum+(bD (aa n) (bg n) (aN wide n) k r).2.rest.size<=r.rest.size
 | 0,r,_,_=>by show 8*0+r.rest.size<=_;omega
 | k+1,r,h,hs=>by
  have ha:=jMO wide n;rw[jK2] at h hs ⊢;simp only at h hs ⊢;have hb:=(jIH (f:=aa n) (mk:=bg n) ha k).stay _ h;obtain⟨h1,h2⟩:=jOi hb;have h3:=jRg hr k _ h (fun c hc=>hs c (cY _ hc));have h4:=hs _ (dh ..);have hd:=jOj (aa n) (bg n) (aF r 5) (aF (takeN r 5) 1) (aN wide n (takeN (takeN r 5) 1));have h5:(takeN (takeN r 5) 1).short=false:=ha.stay _ h1;have h6:=jHX (k:=1) h5;have h7:=jHX (k:=5) (jQF h5);have e4:(takeN (takeN r 5) ((1:Nat):Int))=takeN (takeN r 5) 1:=rfl;have e5:(takeN r ((5:Nat):Int))=takeN r 5:=rfl;rw[e4] at h6;rw[e5] at h7
  have h8:8*jAx n (jAD (aa n) (bg n) (aF r 5) (aF (takeN r 5) 1) (aN wide n (takeN (takeN r 5) 1))).1+(aN wide n (takeN (takeN r 5) 1)).2.rest.size<=(takeN (takeN r 5) 1).rest.size+6:=by
   rcases h2 with⟨s1,s2⟩ | ⟨s1,s2,s3,s4⟩
   ·rw[s2,jZT]
    have:=ha.down (takeN (takeN r 5) 1)
    omega
   rw[s4] at h4 ⊢;exact hr _ h1 h4
  rw[cM,dN];rw[hd] at h3;omega
theorem jSi {wide:Nat}:∀(n:Nat) (r:Rd) (l:Nat),(aN wide n r).2.short=false->jCb n l (aN wide n r).1=true->8*jAx n (aN wide n r).1+(aN wide n r).2.rest.size<=r.rest.size+6
 | 0,r,l,h,_=>by
  have h1:=jQo r 1;have h2:=jQo (takeN r 1) wide;show 8*0+(takeN (takeN r 1) wide).rest.size<=_;omega
 | n+1,r,l,h,hs=>by
  have h':jDu (jCb n 2) l (jBc wide (aa n) (bg n) (aN wide n) r).1=true:=hs;have g':(jBc wide (aa n) (bg n) (aN wide n) r).2.short=false:=h;show 8*jFn (jAx n) (jBc wide (aa n) (bg n) (aN wide n) r).1+(jBc wide (aa n) (bg n) (aN wide n) r).2.rest.size<=_;have h1:=jQo r 1;unfold jBc at h' g' ⊢
  split
  ·have h2:=jQo (takeN r 1) wide;show 8*0+(takeN (takeN r 1) wide).rest.size<=_;omega
  ·rename_i c0;rw[cy c0] at h' g';have h4:=jQo (takeN r 1) 1;have h0:=(jLU c0).1
   split
   ·rename_i c1;rw[cE c1] at h' g';unfold jDu at h';rw[jH7] at h';simp only[dr,eD,cP,cZ] at h';have h5:(bN (aF (takeN r 1) 1).toNat (takeN (takeN r 1) 1)).1.length<=4:=h'.1.2;have h6:=jTu _ _ g';have h7:=(jI7 (aF (takeN r 1) 1).toNat (takeN (takeN r 1) 1)).1;have h8:=jHX (k:=1) (jK4 _ g');have e8:(takeN (takeN r 1) ((1:Nat):Int))=takeN (takeN r 1) 1:=rfl;rw[e8] at h8;show 8*((bN (aF (takeN r 1) 1).toNat (takeN (takeN r 1) 1)).1.length+0)+(bN (aF (takeN r 1) 1).toNat (takeN (takeN r 1) 1)).2.rest.size<=_;rw[h7] at h5 ⊢;omega
   ·rename_i c1;rw[cy c1] at h' g'
    split
    ·rename_i c2;rw[cE c2] at h' g';unfold jDu at h';rw[jH0] at h';simp only[dr,eD,cP,cZ,List.all_eq_true] at h';have h6:=jRg (fun r a b=>jSi n r 2 a b) _ _ g' h'.2;show 8*(0+((bD (aa n) (bg n) (aN wide n) (aF (takeN r 1) 1).toNat (takeN (takeN r 1) 1)).1.map (jAx n)).sum)+(bD (aa n) (bg n) (aN wide n) (aF (takeN r 1) 1).toNat (takeN (takeN r 1) 1)).2.rest.size<=_;omega
    ·show 8*0+(takeN r 1).rest.size<=_;omega
theorem jNl {wide:Nat}(hw:wide<=32){text:BA}{P:aj}(h:jAM wide text=some P):jBb 100 800000000 P/\jAx P.d P.t<=900:=by
 unfold jAM at h
 split at h
 ·rename_i h1
  split at h
  ·rename_i h2;simp only[cP] at h2
   have hb:(aN wide text.size ⟨text,false⟩).2.short=false:=by
    have:=h2.1
    unfold jDA at this;simp only[cP] at this;simpa using this.2
   have ha:jCb text.size (if(aa text.size (aN wide text.size ⟨text,false⟩).1).inner then 2 else 0) (aN wide text.size ⟨text,false⟩).1=true:=by
    have:=h2.2
    unfold jFl at this;simp only[cP] at this;exact this.1.1
   have h3:=jSG hw text.size ⟨text,false⟩ _ ha;have h4:=jSi text.size ⟨text,false⟩ _ hb ha;have h5:=jHq wide text.size ⟨text,false⟩;have e:(⟨text,false⟩:Rd).rest.size=text.size:=rfl;obtain rfl:=Option.some.inj h;refine⟨⟨aT.mono (by decide) h3,?_⟩,?_⟩
   ·have h6:=h5.2.2.2
    show(aa text.size (aN wide text.size ⟨text,false⟩).1).rows<=_
    omega
   show jAx text.size (aN wide text.size ⟨text,false⟩).1<=900;omega
  cases h
 cases h
end Sq
namespace Sq
def jBl {α β γ:Type}(f:α->β->Option γ):List α->List β->Option γ
 | a::l,b::r=>match f a b with
  | some x=>some x
  | none=>jBl f l r
 | _,_=>none
theorem jPm {f:α->β->Option γ}:∀{l:List α} {r:List β},jBl f l r=none->∀(i:Nat) a b,l[i]?=some a->r[i]?=some b->f a b=none
 | [],_,_,i,a,b,ha,_=>by simp at ha
 | _::_,[],_,i,a,b,_,hb=>by simp at hb
 | x::l,y::r,h,i,a,b,ha,hb=>by
  rw[jBl] at h;cases hx:f x y with
  | some z=>rw[hx] at h;cases h
  | none =>
   rw[hx] at h;cases i with
   | zero=>simp at ha hb;subst ha hb;exact hx
   | succ i=>exact jPm (f:=f) h i a b (by simpa using ha) (by simpa using hb)
theorem jMK {f:α->β->Option γ}{z:γ}:∀{l:List α} {r:List β},jBl f l r=some z->∃(i:Nat) (a:α) (b:β),l[i]?=some a/\r[i]?=some b/\f a b=some z
 | [],_,h=>by simp[jBl] at h
 | _::_,[],h=>by simp[jBl] at h
 | x::l,y::r,h=>by
  rw[jBl] at h;cases hx:f x y with
  | some u=>rw[hx] at h;cases h;exact⟨0,x,y,rfl,rfl,hx⟩
  | none =>
   rw[hx] at h;obtain⟨i,a,b,h1,h2,h3⟩:=jMK h;exact⟨i+1,a,b,by simpa using h1,by simpa using h2,h3⟩
def jBu (H:BA->BA):(n m:Nat)->Nd n->Nd m->Option (BA×BA)
 | 0,m,t,p=>if aw (aa m p) then none else if bq H 0 t=bq H m p then none else some (bq H 0 t,bq H m p)
 | n+1,0,t,p=>if aw (aa 0 p) then none else if bq H (n+1) t=bq H 0 p then none else some (bq H (n+1) t,bq H 0 p)
 | n+1,m+1,t,p=>if aw (aa (m+1) p) then none else if bq H (n+1) t=bq H (m+1) p then jBl (jBu H n m) (af.kids t) (af.kids p) else some (bq H (n+1) t,bq H (m+1) p)
theorem jSk (H:BA->BA):∀(n m:Nat) (t:Nd n) (p:Nd m),jBu H n m t p=none->calm H m n p t
 | 0,0,t,p,h=>by
  unfold jBu at h
  split at h
  ·rename_i hs;exact Or.inl hs
  ·split at h
   ·rename_i hb;exact Or.inr hb.symm
   ·cases h
 | 0,m+1,t,p,h=>by
  unfold jBu at h
  split at h
  ·rename_i hs;exact Or.inl hs
  ·split at h
   ·rename_i hb;exact Or.inr hb.symm
   ·cases h
 | n+1,0,t,p,h=>by
  unfold jBu at h
  split at h
  ·rename_i hs;exact Or.inl hs
  ·split at h
   ·rename_i hb;exact Or.inr hb.symm
   ·cases h
 | n+1,m+1,t,p,h=>by
  unfold jBu at h
  split at h
  ·rename_i hs;exact Or.inl hs
  ·split at h
   ·rename_i hb;exact Or.inr ⟨hb.symm,fun i a b ha hc=>jSk H n m b a (jPm h i b a hc ha)⟩
   ·cases h
theorem jNs {H:BA->BA}{t:Nd n}{p:Nd m}(hr:aw (aa n t)=false)(hs:aw (aa m p)=false)(hd:bj H m p=bj H n t)(hb:bq H n t≠bq H m p){a b:BA}(h:some (bq H n t,bq H m p)=some (a,b)):a≠b/\H a=H b:=by
 cases h;rw[jKb H hs,jKb H hr] at hd;exact⟨hb,hd.symm⟩
theorem jSj {H:BA->BA}{wide:Nat}(hH:∀b,(H b).size=wide)(hw:1<=wide):∀(n m:Nat) (t:Nd n) (p:Nd m) (x:List (Kid n)),okP wide m p->rep n t x->jDp n x->bj H m p=bj H n t->∀a b,jBu H n m t p=some (a,b)->a≠b/\H a=H b
 | 0,m,t,p,x,ho,hr,hf,hd,a,b,h=>by
  unfold jBu at h
  split at h
  ·cases h
  ·rename_i hs
   split at h
   ·cases h
   ·rename_i hb;exact jNs hr.open (by simpa using hs) hd hb h
 | n+1,0,t,p,x,ho,hr,hf,hd,a,b,h=>by
  unfold jBu at h
  split at h
  ·cases h
  ·rename_i hs
   split at h
   ·cases h
   ·rename_i hb;exact jNs hr.open (by simpa using hs) hd hb h
 | n+1,m+1,t,p,x,ho,hr,hf,hd,a,b,h=>by
  unfold jBu at h
  split at h
  ·cases h
  ·rename_i hs;have ha:aw (aa (m+1) p)=false:=by simpa using hs
   split at h
   ·rename_i hb;obtain⟨i,u,v,h1,h2,h3⟩:=jMK h;obtain⟨a1,a2,a3⟩:=jJ5 (dg:=bj H m) (fun c hc=>jOn hH hc) ho hw ha;obtain⟨b1,b2,b3,b4,b5⟩:=jNu hH hr hf;obtain⟨c1,c2,c3⟩:=jJ4 a1 b1 hb.symm;have d1:=a3 (c1.trans b2);obtain⟨y,hh,hg,-⟩:=b5 u (cA h1);have e:=congrArg (·[i]?) c3;simp only[dy,h1,h2,Option.map_some,Option.some.injEq,Prod.mk.injEq] at e;exact jSj hH hw n m u v y (d1.2.2 v (cA h2)) hh hg e.2.2 a b h3
   ·rename_i hb;exact jNs hr.open ha hd hb h
end Sq
end Go.Proofs.YtahpihjialbanaaGreatDoor
