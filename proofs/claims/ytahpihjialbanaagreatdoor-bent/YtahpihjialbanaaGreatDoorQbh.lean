import Derived.ChangeSlices
import Derived.SevenTiedAt
import Derived.Test.YtahpihjialbanaaGreatDoorCards
import Derived.Test.YtahpihjialbanaaGreatDoorTie
import Derived.Test.YtahpihjialbanaaGreatDoorQbe
set_option linter.all false
set_option maxRecDepth 100000
set_option maxHeartbeats 8000000
namespace Go.Proofs.YtahpihjialbanaaGreatDoor
open Sq (jB2 jBX jCY jF7 jJk jQs jQt)
variable {B b n:Nat}{W w w':World}{c:Array Value}{e:TypeId}{fr:Nat×Nat}{v:Value}
namespace Sq
theorem jDB.prf {X:aj}(h:jDB X){wide:Nat}(hw:wide<=32)(ha:BA):(jB2 wide X ha).size<=6000:=by
 obtain⟨db,h⟩:=h;obtain⟨x,g1,g2,g3⟩:=h.st.ay.jDp h.bV;unfold jB2;obtain⟨n,t,y,e1,rfl,hr⟩:=g1.cases;rw[e1];exact jRL (jJm hw) hw _ n t y hr g3 g2.two
end Sq
section
open Go.RowKit
def jIw (w:World)(v:Value)(l:List Int):Prop:=∃(a:Option Addr) (cap:Nat),v=.slice a l.length cap/\l.length<=1000000000000000/\(∀x∈l,-9223372036854775808<=x/\x<=9223372036854775807)/\∀k:Nat,∀_:k<l.length,∃b,a=some b/\b.block<w.heap.size/\w.cell? (b.add k)=some (.int .i64 l[k])
theorem jIw.below {l:List Int}(h:jIw w v l)(hb:Below w.heap.size w w'):jIw w' v l:=by
 obtain⟨a,cap,h1,h2,h3,h4⟩:=h;refine⟨a,cap,h1,h2,h3,fun k hk=>?_⟩;obtain⟨b,g1,g2,g3⟩:=h4 k hk;refine⟨b,g1,dz g2 hb.size,?_⟩;rw[hb.cell (p:=b.add k) (by rw[show(b.add k).block=b.block from by unfold Addr.add;split<;>rfl];exact g2)];exact g3
def ByR (B n:Nat)(w:World)(v:Value)(l:List UInt8):Prop:=∃g cap cur n0,v=.slice (some ⟨g,0,none⟩) n cap/\l.length=n/\B<=g/\w.heap[g]?=some (.cells cur 5 (n0,n0+1))/\n<=n0/\∀(j:Nat) (h:j<l.length),cur[j]?=some (.int .u8 (l[j].toNat:Int))
theorem jNt (h:w.heap[b]?=some (.cells c e fr))(j:Nat):w.cell? ⟨b,j,none⟩=c[j]?:=by simp[World.cell?,h]
theorem jYl (h:w.heap[b]?=some (.cells c e (n,n+1)))(j:Nat)(hj:j<n):w.frozen? ⟨b,j,none⟩=false:=by
 simp[World.frozen?,h];omega
theorem qA9 (x y:Int):∃b:UInt8,(b.toNat:Int)=bits .xor .u8 x y:=⟨_,Sq.jFB _⟩
theorem jZs (c n:Int)(w:World)(h0:-9223372036854775808<=c)(h1:c<=9223372036854775807)(hn:0<n)(ha:n<=1000000) :
  Calls Tryz.prog 13 #[.int .i64 c,.int .i64 n] w fun e w'=>e=.returned (.int .i64 (Sq.pick c n))/\w'=w:=by
 have hb:=jJk c n hn
 by_cases hc:c<0
 ·have HE:Hid (Sq.pick c n=-(c+1).tmod n):=by show _=_;unfold Sq.pick;rw[cE hc,<-Int.neg_tmod,Int.tmod_eq_emod_of_nonneg (by omega)]
  go_enter Tryz.func13,Tryz.ntmps13;go_wp2;go_ret;exact⟨by rw[HE.o];rfl,rfl⟩
 have HE:Hid (Sq.pick c n=HMod.hMod c n):=by show _=_;unfold Sq.pick;rw[cy hc]
 go_enter Tryz.func13,Tryz.ntmps13;go_wp2;go_ret;exact⟨by rw[HE.o];rfl,rfl⟩
theorem ByR.conv (w:World)(s:BA):∃V v,(convert 9 55 (.string s)).run Tryz.prog w=.ok v V/\ByR w.heap.size s.size V v s.data.toList/\Below w.heap.size w V:=by
 refine⟨Lib.bytesWorld w 5 s,_,Lib.run_convert_string_bytes w 9 55 5 s Tryz.underlying9 Tryz.underlying55 Tryz.underlying5,?_,Lib.bytesWorld_below w 5 s⟩;have ha:=Lib.bytesWorld_at_new w 5 s;have hl:s.data.toList.length=s.size:=dj
 have hc:∀(j:Nat) (h:j<s.data.toList.length),(Lib.bytesCells w 5 s)[j]?=some (.int .u8 (s.data.toList[j].toNat:Int)):=fun j h=>by
  have h6:=Lib.bytesWorld_cell w 5 s j (by omega);rw[jNt ha] at h6;rw[h6];simp[List.getD,cz h]
 refine⟨w.heap.size,_,_,_,rfl,hl,nR,ha,?_,hc⟩;rcases dP s.size with h0 | h0
 ·omega
 have:=hc (s.size-1) (by omega)
 have:=(Array.getElem?_eq_some_iff.1 this).1
 omega
theorem ByR.back {l:List UInt8}(h:ByR B n w v l):(convert 55 9 v).run Tryz.prog w=.ok (.string ⟨l.toArray⟩) w:=by
 obtain⟨g,cap,cur,n0,rfl,rfl,h3,h4,h5,h6⟩:=h;refine run_convert_bytes_back w 55 9 5 ⟨g,0,none⟩ cap l Tryz.underlying55 Tryz.underlying5 Tryz.underlying9 fun j hj=>?_
 rw[jHP,jNt h4];exact h6 j hj
theorem jOr:∀(l:List BA) (b:BA),b.size<=(l.foldl (·++·) b).size
 | [],_=>nR
 | x::l,b=>by
  have:=jOr l (b++x)
  rw[jQs] at this;rw[de];omega
theorem jX1 (H:BA->BA)(tr:Sq.Trl):∀(n:Nat) (t:Sq.Nd n),0<(Sq.jBj H tr n t).size:=by
 have key:∀{α:Type} (f:α->Sq.Head) (wr:α->BA) (dg:BA) (t:Sq.af α),0<(jCY f wr dg tr t).size:=fun f wr dg t=>by
  unfold jCY
  split
  ·unfold Sq.jAo;refine dz ?_ (jOr _ _);refine dz ?_ (jOr _ _);rw[jQs,jQt];omega
  rw[jQs,jQt];omega
 intro n t;cases n with
 | zero=>exact key _ _ _ _
 | succ n=>exact key _ _ _ _
theorem jXS (n0:Int)(v1:Value)(l1:List BA)(s2 s3:BA)(v4:Value)(l4:List Int)(w:World)(h0:-9223372036854775808<=n0)(h1:n0<=9223372036854775807)(hs:jGs w v1 l1)(h2:s2.size<=1000000000000000)(h3:s3.size<=1000000000000000)(h4:jIw w v4 l4)(hT:Tbl w)(hR:Rnd w) :
  Calls Tryz.prog 12 #[.int .i64 n0,v1,.string s2,.string s3,v4] w fun e w'=>e=.returned (.bool true)/\Below w.heap.size w w':=by
 have hm:=jJk n0 32 (by decide);obtain⟨k,hk⟩:=cU hm.1;have hG:k<32:=by omega
 have ha:=fun w' (hb:Below w.heap.size w w')=>jRW n0 k hk h0 h1 l1 v1 w' (hs.below hb nR) (hT.below hb) (hR.below hb)
 have hg:Sq.jDB (jF7 jBX l1):=Sq.jLd _ Sq.jFQ;obtain⟨ao,Hk,rfl,Hp,-⟩:=id h4;have HI:=hd h4;have hi:=hd ha;have he:=hd hg;have HS:=hd hs;have HT:=hd hT;have HR:=hd hR;clear ha hg hs hT hR hm hk h0 h1 h4;go_enter Tryz.func12,Tryz.ntmps12;go_wp2_with fail;refine(jSl w HT.o HR.o).mono ?_;rintro e w0 ⟨rfl,Ha⟩;have hl:=hd Ha;clear Ha;go_wp2_with fail;refine(hi.o _ hl.o).mono ?_;rintro e w1 (⟨ht,rfl,Hj⟩ | ⟨wb,sb,ht,rfl,h9,Hb⟩)
 ·rw[Hj];clear Hj w1;have hF:=hd ht;clear ht;go_wp2_with fail;refine(jUg l1 v1 w0 (HS.o.below hl.o nR)).mono ?_;rintro e w' ⟨rfl,Hi⟩;rw[Hi,hF.o];clear Hi w';go_wp2;go_ret;exact⟨rfl,hl.o⟩
 have hc:=hl.t Hb;have HL:=hd (jCH.mk h9.blk h9.srv he.o (HT.o.below hc.o) (HR.o.below hc.o));obtain⟨c0,c1,Hq⟩:=HL.o.cells;clear h9 Hb ht hl
 by_cases hbig:1048576<s2.size
 ·have i1:(1048576:Int)<(s2.size:Int):=by omega
  go_wp2;go_ret;exact⟨rfl,hc.o⟩
 have i1:¬((1048576:Int)<(s2.size:Int)):=by omega
 by_cases hbig3:1048576<s3.size
 ·have i2:(1048576:Int)<(s3.size:Int):=by omega
  go_wp2;go_ret;exact⟨rfl,hc.o⟩
 have i2:¬((1048576:Int)<(s3.size:Int)):=by omega
 by_cases hbig4:1048576<l4.length
 ·have i3:(1048576:Int)<(l4.length:Int):=by omega
  go_wp2;go_ret;exact⟨rfl,hc.o⟩
 have i3:¬((1048576:Int)<(l4.length:Int)):=by omega
 have hh:=jMo HL.o (by omega) s2;have hK:0<(jB2 (k+1) (jF7 jBX l1) s2).size:=jX1 _ _ _ _;have hN:=he.o.prf (wide:=k+1) (by omega) s2;generalize jF7 jBX l1=x at *;generalize Sq.jBf (k+1) (Sq.ba x s2)=dg2 at *;generalize Sq.jEa x s2=rep at *;generalize jB2 (k+1) x s2=nb at *;have hf:=hd hh;clear hh;go_wp2_with fail;refine hf.o.mono ?_;rintro e w2 ⟨rfl,Hg,hW⟩;obtain⟨V,hV⟩:∃V:World,V=w2.alloc (.cells #[.string rep,.string nb,.string dg2] 30):=⟨_,rfl⟩;have hr:Below w2.heap.size w2 V:=by rw[hV];exact bA
 have hv:V.heap[w2.heap.size]?=some (.cells #[.string rep,.string nb,.string dg2] 30):=by rw[hV];exact jQi _ _
 have hD:=hd (Hg.below hr);have hn:=hd ((hc.t hW).o.trans (hr.mono (cm hc.o.size hW.size)));have hB:=hd (HI.o.below hn.o);obtain⟨m0,m1,m2,Hr⟩:=jEV hv;obtain⟨U,bv,He,hX,Hd⟩:=ByR.conv V nb;obtain⟨g,cap,-,-,Hn,-⟩:=id hX;subst Hn;have hu:=hd He;have hA:=hd hX;have hz:=hd Hd;clear Hg hW hr hv c0 c1 HL hc hf He hX Hd;have hO:=hn.o.size;have d1:Decidable.decide ((1048576:Int)<(s2.size:Int))=false:=by simpa using i1
 have d2:Decidable.decide ((1048576:Int)<(s3.size:Int))=false:=by simpa using i2
 have d3:Decidable.decide ((1048576:Int)<(l4.length:Int))=false:=by simpa using i3
 have hI:¬((nb.size:Int)=0):=by omega
 have hL:((nb.size:Int)==0)=false:=by simpa using hI
 by_cases hemp:s3=⟨#[]⟩
 case' pos =>
  subst hemp;go_wp2
 case' neg =>
  have hM:(s3.toList==[])=false:=by
   simp only[beq_eq_false_iff_ne,ne_eq];intro e;exact hemp (jJS (e.trans (by rw[du])))
  go_wp2
 all_goals
  rw[<-hV,hu.o];clear hV hu;go_wp2
  go_loopw [15] (fun i wr=>∃(j:Nat) (l:List UInt8),i=.int .i64 j/\j<=l4.length+1/\Hid (ByR V.heap.size nb.size wr (.slice (some ⟨g,0,none⟩) nb.size cap) l)/\Hid (Below V.heap.size V wr)) (fun i _=>l4.length+1-(intOf i).toNat)
  case atStart=>exact⟨0,_,rfl,by omega,hA,hz⟩
  case round =>
   obtain⟨j,l,rfl,hj,hU,hb⟩:=hrel
   by_cases hjt:j+1<l4.length
   ·have q1:(j:Int)+1<(l4.length:Int):=by omega
    obtain⟨a1,a2,h5,h6,h7,h8⟩:=hB.o.below hb.o;obtain⟨b0,g1,g2,g3⟩:=h8 j (by omega);obtain⟨b1,g4,g5,g6⟩:=h8 (j+1) hjt;obtain⟨rfl,-,rfl⟩:=sI h5;subst g1;simp only[Option.some.injEq] at g4;subst g4;obtain⟨t0,t1⟩:=h7 l4[j] (cJ _);obtain⟨t2,t3⟩:=h7 l4[j+1] (cJ _);generalize l4[j]=y0 at *;generalize l4[j+1]=y1 at *;have hm:=jJk y0 (nb.size:Int) (by omega);obtain⟨p,hp⟩:=cU hm.1;obtain⟨g',Hm,cur,n1,Hh,Ho,Hf,hS,hZ,hQ⟩:=hU.o;simp only[Value.slice.injEq,Option.some.injEq,Addr.mk.injEq,and_true,true_and] at Hh;obtain⟨rfl,rfl⟩:=Hh;have hJ:p<l.length:=by omega
    have e1:wr.cell? ⟨g,p,none⟩=some (.int .u8 (l[p].toNat:Int)):=by rw[jNt hS];exact hQ p hJ
    have f1:=jYl hS p (by omega);obtain⟨Hl,hY⟩:=qA9 (l[p].toNat:Int) (HMod.hMod y1 (256:Int));have hP:=jQe hS
    have ho:Hid (ByR V.heap.size nb.size (wr.setCell ⟨g,p,none⟩ (.int .u8 (bits .xor .u8 (l[p].toNat:Int) (HMod.hMod y1 (256:Int))))) (.slice (some ⟨g,0,none⟩) nb.size cap) (l.set p Hl)):=by
     refine⟨g,cap,_,n1,rfl,by rw[dZ];exact Ho,Hf,jQf hS _,hZ,fun q hq=>?_⟩;rw[dZ] at hq;rw[Array.getElem?_setIfInBounds]
     by_cases hpq:p=q
     ·subst hpq;have hH:=(Array.getElem?_eq_some_iff.1 (hQ p hq)).1;rw[cE rfl,cE hH,List.getElem_set_self,hY]
     rw[cy hpq,List.getElem_set_ne hpq];exact hQ q hq
    have hE:Hid (Sq.pick y0 (nb.size:Int)=(p:Int)):=hp;clear hp hQ hS hU h8 h7;generalize l[p].toNat=z at *
    have g7:wr.cell? ⟨b0.block,b0.off+(j+1),none⟩=some (.int .i64 y1):=by
     rw[Addr.add,cy (by omega)] at g6;exact g6
    have q8:(0:Int)<=(j:Int)+1:=by omega
    have q2:¬((l4.length:Int)<=(j:Int)):=by omega
    have q3:¬((l4.length:Int)<=(j:Int)+1):=by omega
    have q4:¬((nb.size:Int)<=(p:Int)):=by omega
    have q5:(p:Int)<(nb.size:Int):=by omega
    have q6:((j:Int)+1).toNat=j+1:=by omega
    have q7:IntKind.i64.wrap ((j:Int)+1)=(j:Int)+1:=by rw[dU];omega
    go_wp2_with fail;refine(jZs y0 (nb.size:Int) wr t0 t1 (by omega) (by omega)).mono ?_;rintro e wq ⟨rfl,hq⟩;rw[hq,hE.o];clear hq wq;go_wp2
    go_region
    all_goals(try go_wp2)
    all_goals
     go_roundw;exact⟨j+2,_,by go_num,by omega,ho,cj (B:=V.heap.size) hb.o.drew Hf _⟩;simp[intOf];omega
   have q1:¬((j:Int)+1<(l4.length:Int)):=by omega
   have hx:=hd hU.o.back;have hC:=hd (hD.o.below hb.o);have hy:=hn.t hb.o;clear hU hb;go_wp2;rw[hx.o];go_wp2_with fail;refine(jRU wb sb (k+1) x s2 _ _ wr hC.o (by omega) (by omega)).mono ?_;rintro e w9 ⟨rfl,Hc⟩;have hw:=hy.t Hc;clear Hc;go_wp2;go_ret;exact⟨rfl,hw.o⟩
end
section
open Go.ChangeShapes Go.WideShapes Go.ChangeMaps Go.RowKit
theorem Tryz.jJA:Tryz.prog.cellsOf 3=1:=by kernel_rfl
theorem Tryz.jJy:Tryz.prog.bytesOf 3=8:=by kernel_rfl
theorem jYv {H:Type}{enc:TypeId×Value->H}{a0:Option Addr}{len cap fuel:Nat}{x:DataW H×List MemPlace}{ts:List TypeId}{ds:List (DataW H)}{j:Nat}
  (hf:DataW.trod enc Tryz.prog W 0 (fun _=>true) true fuel 54 [.slice a0 len cap]=some x)
  (hg:(DataW.weightsEach Tryz.prog ts ds).all (·<=reachBytes)=true) (ht:ts[j]?=some 54) (hd:ds[j]?=some x.1):∃l,jIw W (.slice a0 len cap) l:=by
 have hb:reachBytes<=1000000000000000:=by decide
 rcases open_ints Tryz.underlying54 Tryz.underlying3 Tryz.jJA hf with⟨hcs,hx⟩ | ⟨a,len',cap',zs,hcs,_,hl,hm,hz,hx,hcell,hwf⟩
 ·simp at hcs;obtain⟨rfl,rfl,rfl⟩:=hcs;exact⟨[],none,0,rfl,by simp,by simp,fun k hk=>by simp at hk⟩
 simp at hcs;obtain⟨rfl,rfl,rfl⟩:=hcs;subst hx;simp only[dT] at hz;have ha:(zs.take len).length=len:=by rw[dq];omega
 have h1:=sized_slice hg ht hd Tryz.underlying54;rw[Tryz.jJy] at h1;simp only[lits,cF] at h1;refine⟨zs.take len,some a,cap,by rw[ha],by omega,fun s hs=>?_,fun k hk=>?_⟩
 ·have h9:=hwf s (eg hs);unfold Lit.wf at h9;simp only[cP,cZ] at h9;exact h9
 rw[ha] at hk;have hc:=hcell k (by omega);refine⟨a,rfl,by have:=jUP (hcell 0 (by omega));rwa [show(a.add 0).block=a.block from by unfold Addr.add;split<;>rfl] at this,?_⟩;rw[hc]
 congr 2
 rw[List.getElem_take];simp[List.getD,show k<zs.length by omega]
theorem jXQ (hk:∀(n0:Int) (v1:Value) (l1:List BA) (s2 s3:BA) (v4:Value) (l4:List Int) (w:World),-9223372036854775808<=n0->n0<=9223372036854775807->jGs w v1 l1->s2.size<=1000000000000000->s3.size<=1000000000000000->jIw w v4 l4->Tbl w->Rnd w->Calls Tryz.prog 12 #[.int .i64 n0,v1,.string s2,.string s3,v4] w fun e w'=>e=.returned (.bool true)/\Below w.heap.size w w')
  (os:Os) (started:os.Started) (H:Type) (enc:TypeId×Value->H) :
  ReturnsInHanded {} Tryz.checked os 12 .any (fun w args=>(Rows.bentSpec.pre enc Tryz.prog Tryz.f12 [] false w args/\laidMetH Tryz.prog jFF w)/\sizedMet enc Tryz.prog Tryz.f12 (OpenSpec.ofChange Rows.bentSpec) false w args)
   (Rows.bentSpec.post enc Tryz.prog Tryz.f12 false true false false):=by
 refine returnsInHanded_of_change_and (C:=Tryz.checked) (X:=fun w _=>laidMetH Tryz.prog jFF w) (fun _ _ _ hh h=>h.of_heap hh) Tryz.own started (by kernel_rfl) Tryz.func12
  (ChangeSpec.witness_shaped (enc:=enc) (C:=Tryz.checked) (os:=os) (X:=fun w _=>laidMetH Tryz.prog jFF w) false (World.doorLaid Tryz.prog 400 os) #[.int .i64 0,.slice none 0 0,.string ⟨#[]⟩,.string ⟨#[]⟩,.slice none 0 0] 8 rfl (World.shaped_of_RefB (by kernel_rfl) (by kernel_rfl)) (by kernel_rfl) (by kernel_rfl) (by kernel_rfl) (jUG os _)) ?_
 intro W base args ds gs before hn hW _ hp hL _;have hb:(DataW.weightsEach Tryz.prog (Tryz.f12.params.toList++Rows.bentSpec.plain.varTypes Tryz.prog) (ds++gs)).all (·<=reachBytes)=true:=hp;have ha:∀(j:Nat) t v,Tryz.f12.params[j]?=some t->args[j]?=some v->Value.okWide Tryz.prog W .any base t v:=hn;have hc:=hW;obtain⟨p,q,hs,hV,rfl,hI,hJ⟩:=hW;have hA:DataW.TrodAll enc Tryz.prog W 0 (fun _=>true) true Tryz.f12.params.toList args.toList ds p:=hs;rw[Tryz.params12] at hA ha hb;obtain⟨v0,v1,v2,v3,v4,d0,d1,d2,d3,d4,p0,p1,p2,p3,p4,rfl,rfl,rfl,h0,h1,h2,h3,h4⟩:=jPH hA;obtain⟨rfl,rfl⟩:=trodVars_none hV;obtain⟨n0,rfl,rfl,rfl,ht⟩:=open_int Tryz.underlying3 (ha 0 3 v0 rfl rfl) h0
 have hf:-9223372036854775808<=n0/\n0<=9223372036854775807:=by
  have h9:=ht;unfold Lit.wf at h9;simp only[cP,cZ] at h9;exact h9
 obtain⟨a1,hE,hv,rfl⟩:=okWide_slice Tryz.underlying35 (ha 1 35 v1 rfl rfl);have hg:=h1;obtain⟨hq,hz⟩:=h1;obtain⟨s2,rfl,rfl,rfl,hG⟩:=open_string Tryz.underlying9 (ha 2 9 v2 rfl rfl) h2;obtain⟨s3,rfl,rfl,rfl,hH⟩:=open_string Tryz.underlying9 (ha 3 9 v3 rfl rfl) h3;obtain⟨a4,hF,hy,rfl⟩:=okWide_slice Tryz.underlying54 (ha 4 54 v4 rfl rfl);have hi:=h4;obtain⟨hr,hB⟩:=h4;clear hs hn;simp only[cW] at hc hb;have hj:∀x∈p1,x.block<W.heap.size:=fun x hx=>hc.lt x (by simp[hx])
 obtain⟨l1,hC⟩:=jSx hz hb (j:=1) rfl rfl;have hl:s2.size<=1000000000000000:=by have h9:=sized_string hb (j:=2) rfl rfl;have h8:reachBytes<=1000000000000000:=(by decide);have h7:s2.data.toList.length=s2.size:=(by simp);omega
 have hm:s3.size<=1000000000000000:=by have h9:=sized_string hb (j:=3) rfl rfl;have h8:reachBytes<=1000000000000000:=(by decide);have h7:s3.data.toList.length=s3.size:=(by simp);omega
 have he:∀x∈p4,x.block<W.heap.size:=fun x hx=>hc.lt x (by simp[hx])
 obtain⟨l4,hD⟩:=jYv hB hb (j:=4) rfl rfl;refine(hk n0 _ l1 s2 s3 _ l4 W hf.1 hf.2 hC hl hm hD (jP4 hL) (jP9 hL)).mono ?_;rintro e W' ⟨rfl,ho⟩;refine⟨_,rfl,_,_,_,[],[]++(p1++([]++([]++p4))),[],hc,?_,?_,?_,ho.frame _,fun h=>by cases h⟩
 ·exact trodAll_mk1 (shut_bool Tryz.underlying4 true)
 ·exact jP3 (shut_int Tryz.underlying3 ht) (Below.trod Tryz.laidOut (by kernel_rfl) (of_decide_eq_true (by kernel_rfl)) hg ho (fun x hx=>hj x (by simpa using hx))) (shut_string Tryz.underlying9 hG) (shut_string Tryz.underlying9 hH) (Below.trod Tryz.laidOut (by kernel_rfl) (of_decide_eq_true (by kernel_rfl)) hi ho (fun x hx=>he x (by simpa using hx)))
 rfl
end
section
open Go
theorem qCB:(Rows.bentRow.inPlace==Tryz.prog.inPlace 12)=true:=by kernel_rfl
theorem qCA:(Rows.bentRow.unfollowed==Tryz.prog.unfollowed 12)=true:=by kernel_rfl
theorem qCz:(Rows.bentRow.recurses==Tryz.prog.recurses 12)=true:=by kernel_rfl
theorem qCy:(Rows.bentRow.named==Tryz.prog.varsNamed 12)=true:=by kernel_rfl
theorem jXR:joinedFacts Tryz.prog 12 Tryz.f12 Rows.bentSpec Rows.bentRow=true:=by
 unfold joinedFacts;rw[qCB,qCA,qCz,qCy]
 kernel_rfl
theorem jZ8:Rows.BentSaid :=
 OpenClaim.holds_of_wide 12 Tryz.f12 rfl rfl rfl rfl rfl rfl rfl ⟨rfl,rfl,rfl,rfl,rfl⟩ rfl rfl rfl rfl rfl (by kernel_rfl) Tryz.func12 jXR
  (of_decide_eq_true (by kernel_rfl)) (by unfold Func.isWrapper;rw[cy (of_decide_eq_false (by kernel_rfl))];exact⟨rfl,rfl⟩)
  (fun os started H enc _=>jXQ jXS os started H enc)
theorem bent_holds:Rows.BentCardSaid :=
 Claim7.holds_tied_plain_at .later [] [.data,.data,.data,.data] true (true,"ec40f028bf27107b1e2e7a6e246abdf04549d0a3ff8365d6173cd0d8cd25c100") false
  jZ8 (fun _ h=>by cases h) (by kernel_rfl) (fun _ h=>by cases h) bent_row_tie rfl ⟨rfl,rfl⟩ (by kernel_rfl) rfl
  (fun f fn hf ha=>by
   obtain rfl:f=12:=Option.some.inj ((show Tryz.prog.funcNamed "sqlproof/sqlproofkeep.Bent"=some 12 by kernel_rfl).symm.trans hf) |>.symm
   obtain rfl:fn=Tryz.f12:=(Option.some.inj (Tryz.func12.symm.trans ha)).symm
   exact⟨by kernel_rfl,fun j t ht=>by
    rw[Tryz.params12] at ht
    match j,ht with
    | 0,ht =>
     have h3:t=3:=by simpa using ht.symm
     subst h3;exact(show Tryz.prog.wantsStandIn 3=false by kernel_rfl)
    | 1,ht =>
     have h3:t=35:=by simpa using ht.symm
     subst h3;exact(show Tryz.prog.wantsStandIn 35=false by kernel_rfl)
    | 2,ht =>
     have h3:t=9:=by simpa using ht.symm
     subst h3;exact(show Tryz.prog.wantsStandIn 9=false by kernel_rfl)
    | 3,ht =>
     have h3:t=9:=by simpa using ht.symm
     subst h3;exact(show Tryz.prog.wantsStandIn 9=false by kernel_rfl)
    | 4,ht =>
     have h3:t=54:=by simpa using ht.symm
     subst h3;exact(show Tryz.prog.wantsStandIn 54=false by kernel_rfl)
    | j+5,ht=>simp at ht⟩)
  (by kernel_rfl)
#print axioms bent_holds
end
end Go.Proofs.YtahpihjialbanaaGreatDoor
