import Derived.Test.YtahpihjialbanaaGreatDoorQcb
set_option linter.unusedVariables false
set_option linter.unusedSimpArgs false
set_option maxRecDepth 100000
set_option maxHeartbeats 4000000
namespace Go.Proofs.YtahpihjialbanaaGreatDoor
section
open Go.RowKit
def strCells (l:List (ByteArray×ByteArray)):List Value:=l.flatMap fun p=>[.string p.1,.string p.2]
theorem jQer (w:World)(e:TypeId)(size n:Nat)(cs:Array Value)(h:cs.size=n * size)(hn:n≤1000):(w.alloc (.cells cs e)).ownsRow w.heap.size e size (.slice (some ⟨w.heap.size,0,none⟩) n n) n cs.toList:=by
 refine⟨by simpa using h,Or.inr ⟨w.heap.size,n,cs,rfl,Nat.le_refl _,heap_alloc_new w _,Nat.le_refl _,by unfold maxLen;omega,h,?_⟩⟩
 exact List.take_of_length_le (by simp[h])
theorem jQcv (l:List (ByteArray×ByteArray)):∀u∈strCells l,u.oneCell'=true:=by
 intro u hu
 obtain⟨p,_,hp⟩:=List.mem_flatMap.1 hu
 simp at hp
 rcases hp with rfl | rfl <;> rfl
def Sq.lot (k:Nat):List (ByteArray×ByteArray):=if k=0 then Sq.lot0 else if k=1 then Sq.lot1 else if k=2 then Sq.lot2 else if k=3 then Sq.lot3 else Sq.lot4
theorem Sq.jQqO (k:Nat)(hk:k < 5):Sq.replies [] ((Sq.lot k).map Prod.fst)=(Sq.lot k).map fun p=>p.2.data.toList:=by
 rcases(show k=0∨k=1∨k=2∨k=3∨k=4 by omega) with rfl | rfl | rfl | rfl | rfl
 ·exact Sq.jQoY
 ·exact Sq.jQoX
 ·exact Sq.jQoW
 ·exact Sq.jQoV
 ·exact Sq.jQoU
theorem Tryz.infopair:(Tryz.prog.info? 33).map (fun i=>(i.zero,i.size,i.bytes))=some (some (.agg #[.string ⟨#[]⟩,.string ⟨#[]⟩]),2,32):=by kernel_rfl
def PairsAt (B:Nat)(w:World)(v:Value)(l:List (ByteArray×ByteArray)):Prop:=w.ownsRow B 33 2 v l.length (strCells l)
theorem jQoT (w:World):Calls Tryz.prog 15 #[.int .i64 0] w fun e w'=>∃v,e=.returned v∧PairsAt w.heap.size w' v Sq.lot0∧Below w.heap.size w w':=by
 obtain⟨i0,hi,hz0,hz1,hz2⟩:=info_parts Tryz.infopair
 have HOWN:∀o,Hid (((w.alloc (.cells (strCells (Sq.lot0.take 4)).toArray 33)).alloc o).ownsRow w.heap.size 33 2 (.slice (some ⟨w.heap.size,0,none⟩) 4 4) 4 (strCells (Sq.lot0.take 4))):=fun o=>(jQer w 33 2 4 (strCells (Sq.lot0.take 4)).toArray rfl (by omega)).alloc o
 have HW:Hid (Below w.heap.size w (w.alloc (.cells (strCells (Sq.lot0.take 4)).toArray 33))):=(Below.refl _ _).alloc (Nat.le_refl _) _
 have hsz:(w.alloc (.cells (strCells (Sq.lot0.take 4)).toArray 33)).heap.size=w.heap.size+1:=by simp
 have HSZ:=hd hsz
 clear hsz
 go_enter Tryz.func15,Tryz.ntmps15
 go_wp2_with (at_builtin;refine wpList_append_lies _ rfl (.tmp 12) (.tmp 21) 27 rfl w.heap.size 33 i0 _ 2 32 Tryz.underlying27 hi hz0 hz1 hz2 rfl (by decide) _ 4 _ rfl (HOWN _).out ⟨w.heap.size+1,0,none⟩ 8 8 (strCells (Sq.lot0.drop 4)) rfl rfl (jQB _ _ _ _ rfl HSZ.out.symm) (jQcv _) (by decide) (by decide) (by decide) (by simp;omega) _ rfl ?_;intro gg cap3 w3 hown3 hgrow3 hat3 hlt3;have HO3:=hd hown3;have HG3:=hd hgrow3;clear hown3 hgrow3 hat3)
 go_ret
 refine⟨_,rfl,HO3.out,?_⟩
 exact(Below.alloc HW.out (by simp) _).trans (Tch.of_grown HG3.out (fun k hk=>((HOWN (.cells #[] 0)).out.lt k hk).1) (by simp;omega))
theorem jQoS (w:World):Calls Tryz.prog 15 #[.int .i64 1] w fun e w'=>∃v,e=.returned v∧PairsAt w.heap.size w' v Sq.lot1∧Below w.heap.size w w':=by
 obtain⟨i0,hi,hz0,hz1,hz2⟩:=info_parts Tryz.infopair
 have HOWN:∀o,Hid (((w.alloc (.cells (strCells (Sq.lot1.take 4)).toArray 33)).alloc o).ownsRow w.heap.size 33 2 (.slice (some ⟨w.heap.size,0,none⟩) 4 4) 4 (strCells (Sq.lot1.take 4))):=fun o=>(jQer w 33 2 4 (strCells (Sq.lot1.take 4)).toArray rfl (by omega)).alloc o
 have HW:Hid (Below w.heap.size w (w.alloc (.cells (strCells (Sq.lot1.take 4)).toArray 33))):=(Below.refl _ _).alloc (Nat.le_refl _) _
 have hsz:(w.alloc (.cells (strCells (Sq.lot1.take 4)).toArray 33)).heap.size=w.heap.size+1:=by simp
 have HSZ:=hd hsz
 clear hsz
 go_enter Tryz.func15,Tryz.ntmps15
 go_wp2_with (at_builtin;refine wpList_append_lies _ rfl (.tmp 25) (.tmp 36) 27 rfl w.heap.size 33 i0 _ 2 32 Tryz.underlying27 hi hz0 hz1 hz2 rfl (by decide) _ 4 _ rfl (HOWN _).out ⟨w.heap.size+1,0,none⟩ 10 10 (strCells (Sq.lot1.drop 4)) rfl rfl (jQB _ _ _ _ rfl HSZ.out.symm) (jQcv _) (by decide) (by decide) (by decide) (by simp;omega) _ rfl ?_;intro gg cap3 w3 hown3 hgrow3 hat3 hlt3;have HO3:=hd hown3;have HG3:=hd hgrow3;clear hown3 hgrow3 hat3)
 go_ret
 refine⟨_,rfl,HO3.out,?_⟩
 exact(Below.alloc HW.out (by simp) _).trans (Tch.of_grown HG3.out (fun k hk=>((HOWN (.cells #[] 0)).out.lt k hk).1) (by simp;omega))
theorem jQoR (w:World):Calls Tryz.prog 15 #[.int .i64 2] w fun e w'=>∃v,e=.returned v∧PairsAt w.heap.size w' v Sq.lot2∧Below w.heap.size w w':=by
 obtain⟨i0,hi,hz0,hz1,hz2⟩:=info_parts Tryz.infopair
 have HOWN:∀o,Hid (((w.alloc (.cells (strCells (Sq.lot2.take 4)).toArray 33)).alloc o).ownsRow w.heap.size 33 2 (.slice (some ⟨w.heap.size,0,none⟩) 4 4) 4 (strCells (Sq.lot2.take 4))):=fun o=>(jQer w 33 2 4 (strCells (Sq.lot2.take 4)).toArray rfl (by omega)).alloc o
 have HW:Hid (Below w.heap.size w (w.alloc (.cells (strCells (Sq.lot2.take 4)).toArray 33))):=(Below.refl _ _).alloc (Nat.le_refl _) _
 have hsz:(w.alloc (.cells (strCells (Sq.lot2.take 4)).toArray 33)).heap.size=w.heap.size+1:=by simp
 have HSZ:=hd hsz
 clear hsz
 go_enter Tryz.func15,Tryz.ntmps15
 go_wp2_with (at_builtin;refine wpList_append_lies _ rfl (.tmp 40) (.tmp 59) 27 rfl w.heap.size 33 i0 _ 2 32 Tryz.underlying27 hi hz0 hz1 hz2 rfl (by decide) _ 4 _ rfl (HOWN _).out ⟨w.heap.size+1,0,none⟩ 18 18 (strCells (Sq.lot2.drop 4)) rfl rfl (jQB _ _ _ _ rfl HSZ.out.symm) (jQcv _) (by decide) (by decide) (by decide) (by simp;omega) _ rfl ?_;intro gg cap3 w3 hown3 hgrow3 hat3 hlt3;have HO3:=hd hown3;have HG3:=hd hgrow3;clear hown3 hgrow3 hat3)
 go_ret
 refine⟨_,rfl,HO3.out,?_⟩
 exact(Below.alloc HW.out (by simp) _).trans (Tch.of_grown HG3.out (fun k hk=>((HOWN (.cells #[] 0)).out.lt k hk).1) (by simp;omega))
theorem jQoQ (w:World):Calls Tryz.prog 15 #[.int .i64 3] w fun e w'=>∃v,e=.returned v∧PairsAt w.heap.size w' v Sq.lot3∧Below w.heap.size w w':=by
 go_enter Tryz.func15,Tryz.ntmps15
 go_wp2
 go_ret
 refine⟨_,rfl,?_,((Below.refl _ _).alloc (Nat.le_refl _) _).alloc (by simp) _⟩
 have h:=jQer (w.alloc (.cells (strCells (Sq.lot0.take 4)).toArray 33)) 33 2 15 (strCells Sq.lot3).toArray rfl (by omega)
 rw[show(w.alloc (.cells (strCells (Sq.lot0.take 4)).toArray 33)).heap.size=w.heap.size+1 from by simp] at h
 exact jQi h (by omega)
theorem jQoP (w:World):Calls Tryz.prog 15 #[.int .i64 4] w fun e w'=>∃v,e=.returned v∧PairsAt w.heap.size w' v Sq.lot4∧Below w.heap.size w w':=by
 go_enter Tryz.func15,Tryz.ntmps15
 go_wp2
 go_ret
 refine⟨_,rfl,?_,((Below.refl _ _).alloc (Nat.le_refl _) _).alloc (by simp) _⟩
 have h:=jQer (w.alloc (.cells (strCells (Sq.lot0.take 4)).toArray 33)) 33 2 2 (strCells Sq.lot4).toArray rfl (by omega)
 rw[show(w.alloc (.cells (strCells (Sq.lot0.take 4)).toArray 33)).heap.size=w.heap.size+1 from by simp] at h
 exact jQi h (by omega)
end
end Go.Proofs.YtahpihjialbanaaGreatDoor
