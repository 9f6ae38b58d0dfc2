import Derived.Test.YtahpihjialbanaaGreatDoorQbe
set_option linter.all false
set_option maxRecDepth 100000
set_option maxHeartbeats 4000000
namespace Go.Proofs.YtahpihjialbanaaGreatDoor
section
open Go.RowKit
theorem jWO (n0:Int)(v1:Value)(l1:List BA)(s2 s3 s4:BA)(w:World)(h0:-9223372036854775808<=n0)(h1:n0<=9223372036854775807)(hs:jGs w v1 l1)(h2:s2.size<=1000000000000000)(h3:s3.size<=1000000000000000)(h4:s4.size<=1000000000000000)(hT:Tbl w)(hR:Rnd w) :
  Calls Tryz.prog 11 #[.int .i64 n0,v1,.string s2,.string s3,.string s4] w fun e w'=>e=.returned (.bool true)/\Below w.heap.size w w':=by
 have hj:=Sq.jJk n0 32 (by decide);obtain⟨k,hk⟩:=cU hj.1;have hn:k<32:=by omega
 have ha:=fun w' (hb:Below w.heap.size w w')=>jRW n0 k hk h0 h1 l1 v1 w' (hs.below hb nR) (hT.below hb) (hR.below hb)
 have hc:Sq.jDB (Sq.jF7 Sq.jBX l1):=Sq.jLd _ Sq.jFQ;have he:=hd ha;have hh:=hd hc;have HS:=hd hs;have HT:=hd hT;have HR:=hd hR;clear ha hc hs hT hR hj hk h0 h1;go_enter Tryz.func11,Tryz.ntmps11;go_wp2_with fail;refine(jSl w HT.o HR.o).mono ?_;rintro e w0 ⟨rfl,hp⟩;have hg:=hd hp;clear hp;go_wp2_with fail;refine(he.o _ hg.o).mono ?_;rintro e w1 (⟨ht,rfl,hx⟩ | ⟨wb,sb,ht,rfl,ho,hq⟩)
 ·rw[hx];clear hx w1;have hm:=hd ht;clear ht;go_wp2_with fail;refine(jUg l1 v1 w0 (HS.o.below hg.o nR)).mono ?_;rintro e w' ⟨rfl,hv⟩;rw[hv,hm.o];clear hv w';go_wp2;go_ret;exact⟨rfl,hg.o⟩
 have hf:=hg.t hq;have HL:=hd (jCH.mk ho.blk ho.srv hh.o (HT.o.below hf.o) (HR.o.below hf.o));clear ho hq ht hg;have hi:=hd (jRU wb sb (k+1) _ s2 s3 s4 w1 HL.o (by omega) (by omega))
 by_cases hbig:1048576<s2.size
 ·have i1:(1048576:Int)<(s2.size:Int):=by omega
  go_wp2;go_ret;exact⟨rfl,hf.o⟩
 have i1:¬((1048576:Int)<(s2.size:Int)):=by omega
 by_cases hbig3:1048576<s3.size
 ·have i2:(1048576:Int)<(s3.size:Int):=by omega
  go_wp2;go_ret;exact⟨rfl,hf.o⟩
 have i2:¬((1048576:Int)<(s3.size:Int)):=by omega
 by_cases hbig4:1048576<s4.size
 ·have i3:(1048576:Int)<(s4.size:Int):=by omega
  go_wp2;go_ret;exact⟨rfl,hf.o⟩
 have i3:¬((1048576:Int)<(s4.size:Int)):=by omega
 go_wp2_with fail;refine hi.o.mono ?_;rintro e w2 ⟨rfl,hr⟩;have hl:=hf.t hr;clear hr;go_wp2;go_ret;exact⟨rfl,hl.o⟩
end
section
open Go.ChangeShapes Go.WideShapes Go.ChangeMaps Go.RowKit
theorem jWM (hk:∀(n0:Int) (v1:Value) (l1:List BA) (s2 s3 s4:BA) (w:World),-9223372036854775808<=n0->n0<=9223372036854775807->jGs w v1 l1->s2.size<=1000000000000000->s3.size<=1000000000000000->s4.size<=1000000000000000->Tbl w->Rnd w->Calls Tryz.prog 11 #[.int .i64 n0,v1,.string s2,.string s3,.string s4] w fun e w'=>e=.returned (.bool true)/\Below w.heap.size w w')
  (os:Os) (started:os.Started) (H:Type) (enc:TypeId×Value->H) :
  ReturnsInHanded {} Tryz.checked os 11 .any (fun w args=>(Rows.soundSpec.pre enc Tryz.prog Tryz.f11 [] false w args/\laidMetH Tryz.prog jFF w)/\sizedMet enc Tryz.prog Tryz.f11 (OpenSpec.ofChange Rows.soundSpec) false w args)
   (Rows.soundSpec.post enc Tryz.prog Tryz.f11 false true false false):=by
 refine returnsInHanded_of_change_and (C:=Tryz.checked) (X:=fun w _=>laidMetH Tryz.prog jFF w) (fun _ _ _ hh h=>h.of_heap hh) Tryz.own started (by kernel_rfl) Tryz.func11
  (ChangeSpec.witness_shaped (enc:=enc) (C:=Tryz.checked) (os:=os) (X:=fun w _=>laidMetH Tryz.prog jFF w) false (World.doorLaid Tryz.prog 400 os) #[.int .i64 0,.slice none 0 0,.string ⟨#[]⟩,.string ⟨#[]⟩,.string ⟨#[]⟩] 8 rfl (World.shaped_of_RefB (by kernel_rfl) (by kernel_rfl)) (by kernel_rfl) (by kernel_rfl) (by kernel_rfl) (jUG os _)) ?_
 intro W base args ds gs before hn hW _ ho hL _;have hb:(DataW.weightsEach Tryz.prog (Tryz.f11.params.toList++Rows.soundSpec.plain.varTypes Tryz.prog) (ds++gs)).all (·<=reachBytes)=true:=ho;have ha:∀(j:Nat) t v,Tryz.f11.params[j]?=some t->args[j]?=some v->Value.okWide Tryz.prog W .any base t v:=hn;have hc:=hW;obtain⟨p,q,hr,hV,rfl,hE,hF⟩:=hW;have hA:DataW.TrodAll enc Tryz.prog W 0 (fun _=>true) true Tryz.f11.params.toList args.toList ds p:=hr;rw[Tryz.params11] at hA ha hb;obtain⟨v0,v1,v2,v3,v4,d0,d1,d2,d3,d4,p0,p1,p2,p3,p4,rfl,rfl,rfl,h0,h1,h2,h3,h4⟩:=jPH hA;obtain⟨rfl,rfl⟩:=trodVars_none hV;obtain⟨n0,rfl,rfl,rfl,hs⟩:=open_int Tryz.underlying3 (ha 0 3 v0 rfl rfl) h0
 have he:-9223372036854775808<=n0/\n0<=9223372036854775807:=by
  have h9:=hs;unfold Lit.wf at h9;simp only[cP,cZ] at h9;exact h9
 obtain⟨a1,hz,ht,rfl⟩:=okWide_slice Tryz.underlying35 (ha 1 35 v1 rfl rfl);have hf:=h1;obtain⟨hq,hv⟩:=h1;obtain⟨s2,rfl,rfl,rfl,hB⟩:=open_string Tryz.underlying9 (ha 2 9 v2 rfl rfl) h2;obtain⟨s3,rfl,rfl,rfl,hC⟩:=open_string Tryz.underlying9 (ha 3 9 v3 rfl rfl) h3;obtain⟨s4,rfl,rfl,rfl,hD⟩:=open_string Tryz.underlying9 (ha 4 9 v4 rfl rfl) h4;clear hr hn;simp only[cW] at hc hb;have hg:∀x∈p1,x.block<W.heap.size:=fun x hx=>hc.lt x (by simp[hx])
 obtain⟨l1,hy⟩:=jSx hv hb (j:=1) rfl rfl;have hi:s2.size<=1000000000000000:=by have h9:=sized_string hb (j:=2) rfl rfl;have h8:reachBytes<=1000000000000000:=(by decide);have h7:s2.data.toList.length=s2.size:=(by simp);omega
 have hj:s3.size<=1000000000000000:=by have h9:=sized_string hb (j:=3) rfl rfl;have h8:reachBytes<=1000000000000000:=(by decide);have h7:s3.data.toList.length=s3.size:=(by simp);omega
 have hl:s4.size<=1000000000000000:=by have h9:=sized_string hb (j:=4) rfl rfl;have h8:reachBytes<=1000000000000000:=(by decide);have h7:s4.data.toList.length=s4.size:=(by simp);omega
 refine(hk n0 _ l1 s2 s3 s4 W he.1 he.2 hy hi hj hl (jP4 hL) (jP9 hL)).mono ?_;rintro e W' ⟨rfl,hp⟩;refine⟨_,rfl,_,_,_,[],[]++(p1++[]),[],hc,?_,?_,?_,hp.frame _,fun h=>by cases h⟩
 ·exact trodAll_mk1 (shut_bool Tryz.underlying4 true)
 ·exact jP3 (shut_int Tryz.underlying3 hs) (Below.trod Tryz.laidOut (by kernel_rfl) (of_decide_eq_true (by kernel_rfl)) hf hp (fun x hx=>hg x (by simpa using hx))) (shut_string Tryz.underlying9 hB) (shut_string Tryz.underlying9 hC) (shut_string Tryz.underlying9 hD)
 rfl
end
end Go.Proofs.YtahpihjialbanaaGreatDoor
