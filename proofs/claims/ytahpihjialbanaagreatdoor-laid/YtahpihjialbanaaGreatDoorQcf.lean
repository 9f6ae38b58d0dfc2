import Derived.Test.YtahpihjialbanaaGreatDoorQbr
import Derived.Test.YtahpihjialbanaaGreatDoorQbv
import Derived.Test.YtahpihjialbanaaGreatDoorQbw
import Derived.Test.YtahpihjialbanaaGreatDoorQbz
set_option linter.unusedVariables false
set_option linter.unusedSimpArgs false
set_option maxRecDepth 100000
namespace Go.Proofs.YtahpihjialbanaaGreatDoor
theorem Sq.jQgt (n:ByteArray)(l:List Sq.Tab):∀i:Int,0≤i→Sq.findTabFrom n l i=-1∨(i≤Sq.findTabFrom n l i∧Sq.findTabFrom n l i < i+l.length):=by
 induction l with
 | nil=>intro i _;left;rfl
 | cons c r ih =>
  intro i hi
  rw[Sq.findTabFrom]
  split
  ·right;simp;omega
  ·rcases ih (i+1) (by omega) with h | h
   ·left;exact h
   ·right;simp;omega
section
open Go.RowKit
theorem DB.out {sb rb:Nat}{w w':World}{db:List Sq.Tab}{c:Array Value}{fr:Nat×Nat}(h:DB sb w db)(hb:w.heap[rb]?=some (.cells c 30 fr))(ho:∀g,g≠rb→w'.heap[g]?=w.heap[g]?):DB sb w' db:=by
 obtain⟨wide,X,h1,h2,⟨ev,cv,h3,h4⟩,h5⟩:=h
 refine⟨wide,X,h1,h2,⟨ev,cv,(ho sb fun e=>?_).trans h3,h4.skipA hb (by decide) (by decide) ho⟩,h5⟩
 subst e
 rw[h3] at hb
 simp only[Option.some.injEq,Obj.cells.injEq] at hb
 exact absurd hb.2.1 (by decide)
end
section
open Go.ChangeShapes Go.WideShapes Go.ChangeMaps Go.RowKit
theorem jQkN (hk:∀(v0:Value) (l0:List ByteArray) (n1:Int) (n2:Int) (w:World),Strs w v0 l0→-9223372036854775808≤n1→n1≤9223372036854775807→-9223372036854775808≤n2→n2≤9223372036854775807→Tb2 w→Calls Tryz.prog 7 #[v0,.int .i64 n1,.int .i64 n2] w fun e w'=>e=.returned (.bool true)∧Below w.heap.size w w')
  (os:Os) (started:os.Started) (H:Type) (enc:TypeId×Value→H) :
  ReturnsInHanded {} Tryz.checked os 7 .any (fun w args=>(Rows.laidSpec.pre enc Tryz.prog Tryz.f7 [] false w args∧laidMetH Tryz.prog laid4 w)∧sizedMet enc Tryz.prog Tryz.f7 (OpenSpec.ofChange Rows.laidSpec) false w args)
   (Rows.laidSpec.post enc Tryz.prog Tryz.f7 false true false false):=by
 refine returnsInHanded_of_change_and (C:=Tryz.checked) (X:=fun w _=>laidMetH Tryz.prog laid4 w) (fun _ _ _ hh h=>h.of_heap hh) Tryz.own started (by kernel_rfl) Tryz.func7
  (ChangeSpec.witness_shaped (enc:=enc) (C:=Tryz.checked) (os:=os) (X:=fun w _=>laidMetH Tryz.prog laid4 w) false (World.doorLaid Tryz.prog 400 os) #[.slice none 0 0,.int .i64 0,.int .i64 0] 8 rfl (World.shaped_of_RefB (by kernel_rfl) (by kernel_rfl)) (by kernel_rfl) (by kernel_rfl) (by kernel_rfl) (jQeU os _)) ?_
 intro W base args ds gs before hval0 hW _ hsz0 hL _
 have hsz:(DataW.weightsEach Tryz.prog (Tryz.f7.params.toList++Rows.laidSpec.plain.varTypes Tryz.prog) (ds++gs)).all (·≤reachBytes)=true:=hsz0
 have hval:∀(j:Nat) t v,Tryz.f7.params[j]?=some t→args[j]?=some v→Value.okWide Tryz.prog W .any base t v:=hval0
 have hW':=hW
 obtain⟨p,q,hA0,hV,rfl,hfz,hnd⟩:=hW
 have hA:DataW.TrodAll enc Tryz.prog W 0 (fun _=>true) true Tryz.f7.params.toList args.toList ds p:=hA0
 rw[Tryz.params7] at hA hval hsz
 obtain⟨v0,v1,v2,d0,d1,d2,p0,p1,p2,rfl,rfl,rfl,h0,h1,h2⟩:=trodAll_three hA
 obtain⟨rfl,rfl⟩:=trodVars_none hV
 obtain⟨a0,len0,cap0,rfl⟩:=okWide_slice Tryz.underlying35 (hval 0 35 v0 rfl rfl)
 have h0k:=h0
 obtain⟨fuel0,hf0⟩:=h0
 obtain⟨n1,rfl,rfl,rfl,wn1⟩:=open_int Tryz.underlying3 (hval 1 3 v1 rfl rfl) h1
 have hn1:-9223372036854775808≤n1∧n1≤9223372036854775807:=by
  have h9:=wn1
  unfold Lit.wf at h9
  simp only[Bool.and_eq_true,decide_eq_true_eq] at h9
  exact h9
 obtain⟨n2,rfl,rfl,rfl,wn2⟩:=open_int Tryz.underlying3 (hval 2 3 v2 rfl rfl) h2
 have hn2:-9223372036854775808≤n2∧n2≤9223372036854775807:=by
  have h9:=wn2
  unfold Lit.wf at h9
  simp only[Bool.and_eq_true,decide_eq_true_eq] at h9
  exact h9
 clear hA0 hval0
 simp only[List.append_nil] at hW' hsz
 have hlt:∀x∈p0,x.block < W.heap.size:=fun x hx=>hW'.lt x (by simp[hx])
 obtain⟨l0,hl0⟩:=jQdT hf0 hsz (j:=0) rfl rfl
 refine(hk _ l0 n1 n2 W hl0 hn1.1 hn1.2 hn2.1 hn2.2 ⟨jQbh hL,jQbj hL⟩).mono ?_
 rintro e W' ⟨rfl,bel⟩
 refine⟨_,rfl,_,_,_,[],p0++([]++[]),[],hW',?_,?_,?_,bel.frame _,fun h=>by cases h⟩
 ·exact trodAll_mk1 (shut_bool Tryz.underlying4 true)
 ·exact trodAll_mk3 (Below.trod Tryz.laidOut (by kernel_rfl) (of_decide_eq_true (by kernel_rfl)) h0k bel (fun x hx=>hlt x (by simpa using hx))) (shut_int Tryz.underlying3 wn1) (shut_int Tryz.underlying3 wn2)
 ·rfl
end
namespace Sq
theorem jQqE (sql:ByteArray)(ws:List Word)(hs:sql.size≤160)(h:split sql=some ws)(hb:(statementS ws st0).bad=false)(hp:(statementS ws st0).pos=ws.length):parse sql=(0,statementS ws st0):=by
 unfold parse
 rw[if_neg (by omega),h]
 simp only
 rw[hb,hp]
 simp
end Sq
end Go.Proofs.YtahpihjialbanaaGreatDoor
