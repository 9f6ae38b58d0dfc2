import Derived.Test.YtahpihjialbanaaGreatDoorQbx
set_option linter.unusedVariables false
set_option linter.unusedSimpArgs false
set_option maxRecDepth 100000
namespace Go.Proofs.YtahpihjialbanaaGreatDoor
section
open Go.ChangeShapes Go.WideShapes Go.ChangeMaps Go.RowKit
theorem Tryz.cellsStr:Tryz.prog.cellsOf 9=1:=by kernel_rfl
theorem Tryz.bytesStr:Tryz.prog.bytesOf 9=16:=by kernel_rfl
theorem jQrT {w:World}{a:Addr}{v:Value}(h:w.cell? a=some v):a.block<w.heap.size:=by
 rcases Nat.lt_or_ge a.block w.heap.size with h' | h'
 ·exact h'
 ·simp[World.cell?,Array.getElem?_eq_none h'] at h
theorem jQdm {H:Type}{P:Program}{e:TypeId}:∀{l:List (DataW H)} {d:DataW H},d∈l->∀n∈d.weights P e,n∈DataW.weightsAll P e l
 | d0::l,d,hd,n,hn=>by
  simp only[DataW.weightsAll,List.mem_append];rcases List.mem_cons.1 hd with rfl | h
  ·exact Or.inl hn
  ·exact Or.inr (jQdm h n hn)
theorem jQo6 {H:Type}{enc:TypeId×Value->H}{W:World}{a0:Option Addr}{len cap fuel:Nat}{x:DataW H×List MemPlace}{ts:List TypeId}{ds:List (DataW H)}{j:Nat}
  (hf:DataW.trod enc Tryz.prog W 0 (fun _=>true) true fuel 35 [.slice a0 len cap]=some x)
  (hsz:(DataW.weightsEach Tryz.prog ts ds).all (·<=reachBytes)=true) (ht:ts[j]?=some 35) (hd:ds[j]?=some x.1):∃l,Strs W (.slice a0 len cap) l:=by
 have hb:reachBytes<=1000000000000000:=by decide
 rcases open_strings Tryz.underlying35 Tryz.underlying9 Tryz.cellsStr hf with⟨hcs,hx⟩ | ⟨a,len',cap',ss,hcs,_,hl,hm,hz,hx,hcell,_⟩
 ·simp at hcs;obtain⟨rfl,rfl,rfl⟩:=hcs;exact⟨[],none,0,rfl,by simp,by simp,fun k hk=>by simp at hk⟩
 ·simp at hcs;obtain⟨rfl,rfl,rfl⟩:=hcs;subst hx;simp only[if_true] at hz;have ha:(ss.take len).length=len:=by rw[List.length_take];omega
  have h1:=sized_slice hsz ht hd Tryz.underlying35;rw[Tryz.bytesStr] at h1;simp only[strs,List.length_map] at h1;refine⟨ss.take len,some a,cap,by rw[ha],by omega,fun s hs=>?_,fun k hk=>?_⟩
  ·have h2:=List.all_eq_true.1 hsz s.size (DataW.weights_mem_each ht hd _ (by
    simp only[DataW.weights,Tryz.underlying35,List.mem_cons,List.mem_append];refine Or.inr (Or.inl (jQdm (d:=.lit (.string s.data.toList)) ?_ _ (by simp[DataW.weights])));unfold strs;exact List.mem_map.2 ⟨s,hs,rfl⟩))
   have h3:s.size<=reachBytes:=of_decide_eq_true h2;omega
  ·rw[ha] at hk;have hc:=hcell k (by omega);refine⟨a,rfl,by have:=jQrT (hcell 0 (by omega));rwa [show(a.add 0).block=a.block from by unfold Addr.add;split<;>rfl] at this,?_⟩;rw[hc]
   congr 2
   rw[List.getElem_take];simp[List.getD,show k<ss.length by omega]
end
section
open Go.ChangeShapes Go.WideShapes Go.ChangeMaps Go.RowKit
theorem jQip (hk:∀(n0:Int) (v1:Value) (l1:List ByteArray) (s2:ByteArray) (w:World),-9223372036854775808<=n0->n0<=9223372036854775807->Strs w v1 l1->s2.size<=1000000000000000->Tbl w->Rnd w->Calls Tryz.prog 10 #[.int .i64 n0,v1,.string s2] w fun e w'=>e=.returned (.bool true)/\Below w.heap.size w w')
  (os:Os) (started:os.Started) (H:Type) (enc:TypeId×Value->H) :
  ReturnsInHanded {} Tryz.checked os 10 .any (fun w args=>(Rows.wholeSpec.pre enc Tryz.prog Tryz.f10 [] false w args/\laidMetH Tryz.prog laid4 w)/\sizedMet enc Tryz.prog Tryz.f10 (OpenSpec.ofChange Rows.wholeSpec) false w args)
   (Rows.wholeSpec.post enc Tryz.prog Tryz.f10 false true false false):=by
 refine returnsInHanded_of_change_and (C:=Tryz.checked) (X:=fun w _=>laidMetH Tryz.prog laid4 w) (fun _ _ _ hh h=>h.of_heap hh) Tryz.own started (by kernel_rfl) Tryz.func10
  (ChangeSpec.witness_shaped (enc:=enc) (C:=Tryz.checked) (os:=os) (X:=fun w _=>laidMetH Tryz.prog laid4 w) false (World.doorLaid Tryz.prog 400 os) #[.int .i64 0,.slice none 0 0,.string ⟨#[]⟩] 8 rfl (World.shaped_of_RefB (by kernel_rfl) (by kernel_rfl)) (by kernel_rfl) (by kernel_rfl) (by kernel_rfl) (jQqW os _)) ?_
 intro W base args ds gs before hval0 hW _ hsz0 hL _;have hb:(DataW.weightsEach Tryz.prog (Tryz.f10.params.toList++Rows.wholeSpec.plain.varTypes Tryz.prog) (ds++gs)).all (·<=reachBytes)=true:=hsz0;have ha:∀(j:Nat) t v,Tryz.f10.params[j]?=some t->args[j]?=some v->Value.okWide Tryz.prog W .any base t v:=hval0;have hc:=hW;obtain⟨p,q,hA0,hV,rfl,hfz,hnd⟩:=hW;have hA:DataW.TrodAll enc Tryz.prog W 0 (fun _=>true) true Tryz.f10.params.toList args.toList ds p:=hA0;rw[Tryz.params10] at hA ha hb;obtain⟨v0,v1,v2,d0,d1,d2,p0,p1,p2,rfl,rfl,rfl,h0,h1,h2⟩:=trodAll_three hA;obtain⟨rfl,rfl⟩:=trodVars_none hV;obtain⟨n0,rfl,rfl,rfl,wn0⟩:=open_int Tryz.underlying3 (ha 0 3 v0 rfl rfl) h0
 have he:-9223372036854775808<=n0/\n0<=9223372036854775807:=by
  have h9:=wn0;unfold Lit.wf at h9;simp only[Bool.and_eq_true,decide_eq_true_eq] at h9;exact h9
 obtain⟨a1,len1,cap1,rfl⟩:=okWide_slice Tryz.underlying35 (ha 1 35 v1 rfl rfl);have hg:=h1;obtain⟨fuel1,hf1⟩:=h1;obtain⟨s2,rfl,rfl,rfl,ws2⟩:=open_string Tryz.underlying9 (ha 2 9 v2 rfl rfl) h2;clear hA0 hval0;simp only[List.append_nil] at hc hb;have hf:∀x∈p1,x.block<W.heap.size:=fun x hx=>hc.lt x (by simp[hx])
 obtain⟨l1,hl1⟩:=jQo6 hf1 hb (j:=1) rfl rfl;have hi:s2.size<=1000000000000000:=by have h9:=sized_string hb (j:=2) rfl rfl;have h8:reachBytes<=1000000000000000:=(by decide);have h7:s2.data.toList.length=s2.size:=(by simp);omega
 refine(hk n0 _ l1 s2 W he.1 he.2 hl1 hi (jQkM hL) (jQkU hL)).mono ?_;rintro e W' ⟨rfl,bel⟩;refine⟨_,rfl,_,_,_,[],[]++(p1++[]),[],hc,?_,?_,?_,bel.frame _,fun h=>by cases h⟩
 ·exact trodAll_mk1 (shut_bool Tryz.underlying4 true)
 ·exact trodAll_mk3 (shut_int Tryz.underlying3 wn0) (Below.trod Tryz.laidOut (by kernel_rfl) (of_decide_eq_true (by kernel_rfl)) hg bel (fun x hx=>hf x (by simpa using hx))) (shut_string Tryz.underlying9 ws2)
 ·rfl
end
end Go.Proofs.YtahpihjialbanaaGreatDoor
