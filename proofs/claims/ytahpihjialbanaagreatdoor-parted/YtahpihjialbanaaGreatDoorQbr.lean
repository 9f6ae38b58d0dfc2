import Derived.Test.YtahpihjialbanaaGreatDoorQbq
set_option linter.unusedVariables false
set_option linter.unusedSimpArgs false
namespace Go.Proofs.YtahpihjialbanaaGreatDoor
section
open Go.ChangeShapes Go.WideShapes Go.ChangeMaps Go.RowKit
theorem Tryz.cellsStr:Tryz.prog.cellsOf 9=1:=by kernel_rfl
theorem Tryz.bytesStr:Tryz.prog.bytesOf 9=16:=by kernel_rfl
theorem jQsd {w:World}{a:Addr}{v:Value}(h:w.cell? a=some v):a.block < w.heap.size:=by
 rcases Nat.lt_or_ge a.block w.heap.size with h' | h'
 ·exact h'
 ·simp[World.cell?,Array.getElem?_eq_none h'] at h
theorem jQdx {H:Type}{P:Program}{e:TypeId}:∀{l:List (DataW H)} {d:DataW H},d∈l→∀n∈d.weights P e,n∈DataW.weightsAll P e l
 | d0 :: l,d,hd,n,hn=>by
  simp only[DataW.weightsAll,List.mem_append]
  rcases List.mem_cons.1 hd with rfl | h
  ·exact Or.inl hn
  ·exact Or.inr (jQdx h n hn)
theorem jQdT {H:Type}{enc:TypeId×Value→H}{W:World}{a0:Option Addr}{len cap fuel:Nat}{x:DataW H×List MemPlace}{ts:List TypeId}{ds:List (DataW H)}{j:Nat}
  (hf:DataW.trod enc Tryz.prog W 0 (fun _=>true) true fuel 35 [.slice a0 len cap]=some x)
  (hsz:(DataW.weightsEach Tryz.prog ts ds).all (·≤reachBytes)=true) (ht:ts[j]?=some 35) (hd:ds[j]?=some x.1):∃l,Strs W (.slice a0 len cap) l:=by
 have hrb:reachBytes≤1000000000000000:=by decide
 rcases open_strings Tryz.underlying35 Tryz.underlying9 Tryz.cellsStr hf with⟨hcs,hx⟩ | ⟨a,len',cap',ss,hcs,_,hl,hm,hz,hx,hcell,_⟩
 ·simp at hcs
  obtain⟨rfl,rfl,rfl⟩:=hcs
  exact⟨[],none,0,rfl,by simp,by simp,fun k hk=>by simp at hk⟩
 ·simp at hcs
  obtain⟨rfl,rfl,rfl⟩:=hcs
  subst hx
  simp only[if_true] at hz
  have hlen:(ss.take len).length=len:=by rw[List.length_take];omega
  have h1:=sized_slice hsz ht hd Tryz.underlying35
  rw[Tryz.bytesStr] at h1
  simp only[strs,List.length_map] at h1
  refine⟨ss.take len,some a,cap,by rw[hlen],by omega,fun s hs=>?_,fun k hk=>?_⟩
  ·have h2:=List.all_eq_true.1 hsz s.size (DataW.weights_mem_each ht hd _ (by
    simp only[DataW.weights,Tryz.underlying35,List.mem_cons,List.mem_append]
    refine Or.inr (Or.inl (jQdx (d:=.lit (.string s.data.toList)) ?_ _ (by simp[DataW.weights])))
    unfold strs
    exact List.mem_map.2 ⟨s,hs,rfl⟩))
   have h3:s.size≤reachBytes:=of_decide_eq_true h2
   omega
  ·rw[hlen] at hk
   have hc:=hcell k (by omega)
   refine⟨a,rfl,by have:=jQsd (hcell 0 (by omega));rwa [show(a.add 0).block=a.block from by unfold Addr.add;split <;> rfl] at this,?_⟩
   rw[hc]
   congr 2
   rw[List.getElem_take]
   simp[List.getD,show k < ss.length by omega]
end
end Go.Proofs.YtahpihjialbanaaGreatDoor
