import Derived.Lib.AppendIntMem
import Derived.Lib.ItoaLen
import Derived.Shelf.LaysM
import Derived.Shelf.Strconv.Itoa0
import Derived.Shelf.Strconv.Itoa1
import Derived.Shelf.Strconv.Itoa2
import Derived.Shelf.Strconv.Itoa3
import Derived.Shelf.Strconv.Itoa4
import Derived.Test.YtahpihjialbanaaGreatDoorQae
set_option linter.unusedVariables false
set_option linter.unusedSimpArgs false
set_option maxRecDepth 100000
set_option maxHeartbeats 1000000
namespace Go.Proofs.YtahpihjialbanaaGreatDoor
section
open Go.RowKit
theorem jQiK (cols:List Sq.Col)(row:List Sq.Val)(cv rv:Value)(s:Sq.StepS)(w:World)(h:ColsAt w cv cols)(hr:RowAt w rv row) :
  Calls Tryz.prog 159 #[cv,.agg #[rv],.agg s.cells.toArray] w fun e w'=>e=.returned (.bool (Sq.compared cols row s))∧Below w.heap.size w w':=by
 obtain⟨ao,cap,rfl⟩:=jQa hr.1
 have HE:Hid (Sq.compared cols row s=Sq.holds s.op (Sq.compare (Sq.valueOf cols row s.left) (Sq.valueOf cols row s.right))):=rfl
 obtain⟨op,⟨lc,⟨lk,ln,lt⟩⟩,⟨rc,⟨rk,rn,rt⟩⟩⟩:=s
 obtain⟨x,hx⟩:∃x,x=Sq.valueOf cols row ⟨lc,⟨lk,ln,lt⟩⟩:=⟨_,rfl⟩
 obtain⟨y,hy⟩:∃x,x=Sq.valueOf cols row ⟨rc,⟨rk,rn,rt⟩⟩:=⟨_,rfl⟩
 have hE:=HE.out
 simp only[←hx,←hy] at hE
 have HE2:=hd hE
 have HX:=hd hx
 have HY:=hd hy
 clear hE HE hx hy
 unfold Sq.StepS.cells
 have H:=hd h
 have HR:=hd hr
 have hW:∀o o2,Below w.heap.size w ((w.alloc o).alloc o2):=fun o o2=>((Below.refl _ _).alloc (Nat.le_refl _) _).alloc (by simp) _
 have HW:=hd hW
 clear h hr hW
 go_enter Tryz.func159,Tryz.ntmps159
 go_wp2_with fail
 refine(jQb8 cols row cv _ ⟨lc,⟨lk,ln,lt⟩⟩ _ (H.out.below (HW.out _ _)) (HR.out.below (HW.out _ _))).mono ?_
 rintro e w1 ⟨rfl,hb1⟩
 rw[←HX.out]
 have hbw:Below w.heap.size w w1:=(HW.out _ _).trans (hb1.mono (by simp;omega))
 obtain⟨k1,k2⟩:=bcell hb1
 have a0:=k1 w.heap.size 0 (by simp;omega)
 have b0:=k1 (w.heap.size+1) 0 (by simp)
 have b5:=k1 (w.heap.size+1) 5 (by simp)
 have b6:=k1 (w.heap.size+1) 6 (by simp)
 have b7:=k1 (w.heap.size+1) 7 (by simp)
 have b8:=k1 (w.heap.size+1) 8 (by simp)
 simp[go_sem] at a0 b0 b5 b6 b7 b8
 have hz:w.heap.size+1 < w1.heap.size:=by have:=hb1.size;simp at this;omega
 have hz0:w.heap.size < w1.heap.size:=by omega
 clear k1 k2 hb1
 obtain⟨xk,xn,xt⟩:=x
 unfold Sq.Val.cells
 have hW1:Below w.heap.size w (w1.alloc (.cells #[.int .i64 xk,.int .i64 xn,.string xt] 208)):=Below.alloc (B:=w.heap.size) hbw (by omega) _
 have HW1:=hd hW1
 clear hW1
 go_wp2_with fail
 refine(jQb8 cols row cv _ ⟨rc,⟨rk,rn,rt⟩⟩ _ (H.out.below HW1.out) (HR.out.below HW1.out)).mono ?_
 rintro e w2 ⟨rfl,hb2⟩
 rw[←HY.out]
 have hbw2:Below w.heap.size w w2:=HW1.out.trans (hb2.mono (by simp;omega))
 obtain⟨k1,k2⟩:=bcell hb2
 have d0:=k1 w1.heap.size 0 (by simp)
 have d1:=k1 w1.heap.size 1 (by simp)
 have d2:=k1 w1.heap.size 2 (by simp)
 have b0':=(k1 (w.heap.size+1) 0 (by simp;omega)).trans ((World.cell?_alloc_past _ _ _ hz).trans b0)
 simp[go_sem] at d0 d1 d2
 have hz2:w1.heap.size < w2.heap.size:=by have:=hb2.size;simp at this;omega
 have hz3:w.heap.size+1 < w2.heap.size:=by omega
 clear k1 k2 hb2 a0 b0 b5 b6 b7 b8
 obtain⟨yk,yn,yt⟩:=y
 unfold Sq.Val.cells
 have hW2:Below w.heap.size w (w2.alloc (.cells #[.int .i64 yk,.int .i64 yn,.string yt] 208)):=Below.alloc (B:=w.heap.size) hbw2 (by omega) _
 go_wp2_with fail
 refine(jQlq ⟨xk,xn,xt⟩ ⟨yk,yn,yt⟩ _).mono ?_
 rintro e w3 ⟨rfl,hb3⟩
 have hbw3:Below w.heap.size w w3:=hW2.trans (hb3.mono (by simp;omega))
 obtain⟨k1,k2⟩:=bcell hb3
 have b0'':=(k1 (w.heap.size+1) 0 (by simp;omega)).trans ((World.cell?_alloc_past _ _ _ hz3).trans b0')
 obtain⟨sd,hsd⟩:∃x,x=Sq.compare ⟨xk,xn,xt⟩ ⟨yk,yn,yt⟩:=⟨_,rfl⟩
 have hE:=HE2.out
 rw[←hsd] at hE ⊢
 have HE3:Hid (Sq.compared cols row ⟨op,⟨lc,⟨lk,ln,lt⟩⟩,⟨rc,⟨rk,rn,rt⟩⟩⟩=Sq.holds op sd):=hE
 clear k1 k2 hb3 d0 d1 d2 b0' hW2 hE hsd HE2
 cases h1:op.toList==[61]
 case true =>
  go_wp2
  go_ret
  exact⟨by rw[HE3.out];unfold Sq.holds;rw[h1];rfl,hbw3⟩
 cases h2:op.toList==[60,62]
 case true =>
  go_wp2
  go_ret
  exact⟨by rw[HE3.out];unfold Sq.holds;rw[h1,h2];rfl,hbw3⟩
 cases h3:op.toList==[60]
 case true =>
  go_wp2
  go_ret
  exact⟨by rw[HE3.out];unfold Sq.holds;rw[h1,h2,h3];rfl,hbw3⟩
 cases h4:op.toList==[60,61]
 case true =>
  go_wp2
  go_ret
  exact⟨by rw[HE3.out];unfold Sq.holds;rw[h1,h2,h3,h4];rfl,hbw3⟩
 cases h5:op.toList==[62]
 case true =>
  go_wp2
  go_ret
  exact⟨by rw[HE3.out];unfold Sq.holds;rw[h1,h2,h3,h4,h5];rfl,hbw3⟩
 case false =>
  go_wp2
  go_ret
  exact⟨by rw[HE3.out];unfold Sq.holds;rw[h1,h2,h3,h4,h5];rfl,hbw3⟩
structure PL (pb:Nat)(w:World)(l:List Bool):Prop where
 row:∃v,w.heap[pb]?=some (.cells #[v] 233)∧w.ownsRow (pb+1) 4 1 v l.length (l.map Value.bool)
 few:l.length≤100000
theorem PL.lt {pb:Nat}{w:World}{l:List Bool}(h:PL pb w l):pb < w.heap.size:=by obtain⟨v,h1,_⟩:=h.row;exact jQg h1
theorem PL.below {pb:Nat}{w w':World}{l:List Bool}(h:PL pb w l)(hb:Below w.heap.size w w'):PL pb w' l:=by
 have hlt:=h.lt
 obtain⟨v,h1,h2⟩:=h.row
 exact⟨⟨v,by rw[hb.block pb hlt];exact h1,jQh h2 hb⟩,h.few⟩
theorem Tryz.infoBool:(Tryz.prog.info? 4).map (fun i=>(i.zero,i.size,i.bytes))=some (some (.bool false),1,1):=by kernel_rfl
theorem jQgl {pb:Nat}{w:World}{l:List Bool}(b:Bool)(h:PL pb w l)(hn:l.length+1≤100000) :
  Calls Tryz.prog 160 #[.pointer (some ⟨pb,0,none⟩),.bool b] w fun e w'=>e=.returned (.tuple #[])∧PL pb w' (l++[b])∧Below pb w w':=by
 obtain⟨i0,hi,hz0,hz1,hz2⟩:=info_parts Tryz.infoBool
 have hlt:=h.lt
 obtain⟨v,hb,hown⟩:=h.row
 have c0:w.cell? ⟨pb,0,none⟩=some v:=by rw[jQb hb];rfl
 have hW:Below w.heap.size w (w.alloc (.cells #[.bool b] 4)):=(Below.refl _ _).alloc (Nat.le_refl _) _
 have HO:=hd (jQh hown hW)
 have HB:Hid ((w.alloc (.cells #[.bool b] 4)).heap[pb]?=some (.cells #[v] 233)):=(hW.block pb hlt).trans hb
 have HW:=hd hW
 clear hb hown hW h
 go_enter Tryz.func160,Tryz.ntmps160
 go_wp2_with (at_builtin;refine wpList_append_lies _ rfl (.tmp 8) (.tmp 10) 231 rfl (pb+1) 4 i0 _ 1 1 Tryz.underlying231 hi hz0 hz1 hz2 rfl (by decide) v l.length (l.map Value.bool) rfl HO.out ⟨w.heap.size,0,none⟩ 1 1 [.bool b] rfl rfl (by exact jQB w _ _ _ rfl rfl) (by intro u hu;simp at hu;subst hu;rfl) (by decide) (by unfold maxLen;omega) (by omega) (by simp;omega) _ rfl ?_;intro g cap w1 hown1 hgrow hat hltg;have hb1:=(hgrow.block pb (by simp;omega) (fun e=>jQl HO.out HB.out (by decide) e.symm)).trans HB.out;have k0:w1.cell? ⟨pb,0,none⟩=some v:=(by rw[jQb hb1];rfl);have f0:=jQd hb1 0;have hlt1:=jQg hb1;have HO1:=hd hown1;have HG:=hd hgrow;have HB1:=hd hb1;clear hown1 hgrow hat hb1)
 go_end0
 refine⟨rfl,⟨⟨.slice (some ⟨g,0,none⟩) (l.length+1) cap,by rw[jQf HB1.out];rfl,?_⟩,by simpa using hn⟩,?_⟩
 ·have:=HO1.out
  rw[List.length_append,List.length_singleton,List.map_append]
  exact jQn this fun k hk=>jQe (fun e=>jQl this HB1.out (by decide) (by rw[hk,e]))
 ·refine Below.setCell (B:=pb) (Below.trans (Below.mono (B':=pb) HW.out (by omega)) (Tch.of_grown HG.out (fun k hk=>?_) (by simp;omega))) (Nat.le_refl _) _
  exact Nat.le_of_succ_le (HO.out.lt k hk).1
end
section
open Go.RowKit
theorem jQcT {w:World}{base:Nat}{e:TypeId}{size:Nat}{g n cap:Nat}{xs ys:List Value}(h:w.ownsRow base e size (.slice (some ⟨g,0,none⟩) n cap) n (xs++ys))(m:Nat)(hm:m≤n)(hx:xs.length=m * size):w.ownsRow base e size (.slice (some ⟨g,0,none⟩) m cap) m xs:=by
 refine⟨hx,?_⟩
 rcases h.2 with⟨h1,h2⟩ | ⟨g',cap',cur,h1,hg,hh,hn,hmx,hc,ht⟩
 ·simp at h1
 ·simp only[Value.slice.injEq,Option.some.injEq,Addr.mk.injEq] at h1
  obtain⟨⟨rfl,-,-⟩,-,rfl⟩:=h1
  refine Or.inr ⟨g,cap,cur,rfl,hg,hh,by omega,hmx,hc,?_⟩
  have:cur.toList.take (m * size)=(cur.toList.take (n * size)).take (m * size):=by
   rw[List.take_take]
   congr 1
   have:=Nat.mul_le_mul_right size hm
   omega
  rw[this,ht,List.take_left' hx]
theorem jQmm {pb:Nat}{w:World}{l:List Bool}(h:PL pb w l) :
  Calls Tryz.prog 162 #[.pointer (some ⟨pb,0,none⟩)] w fun e w'=>e=.returned (.bool (Sq.popB l))∧PL pb w' l.dropLast∧Below pb w w':=by
 have hlt:=h.lt
 have hfew:=h.few
 obtain⟨v,hb,hown⟩:=h.row
 have HPL:=hd h
 clear h
 rcases List.eq_nil_or_concat l with rfl | ⟨l',b,rfl⟩
 ·have hv:v=.slice none 0 0∨∃g cap,v=.slice (some ⟨g,0,none⟩) 0 cap:=by
   rcases hown.2 with⟨h1,_⟩ | ⟨g,cap,_,h1,_⟩
   ·exact Or.inl h1
   ·exact Or.inr ⟨g,cap,h1⟩
  have c0:w.cell? ⟨pb,0,none⟩=some v:=by rw[jQb hb];rfl
  clear hown hb
  rcases hv with rfl | ⟨g,cap,rfl⟩
  all_goals
   go_enter Tryz.func162,Tryz.ntmps162
   go_wp2
   go_ret
   exact⟨rfl,HPL.out,Below.refl _ _⟩
 ·rw[List.concat_eq_append] at hown hfew
  have hle:(l'++[b]).length=l'.length+1:=by simp
  obtain⟨g,cap,rfl,hg1,hg2⟩:=hown.form (by rw[hle];omega)
  rw[hle] at hown hb hfew
  rw[List.concat_eq_append]
  have hE:Sq.popB (l'++[b])=b:=by simp[Sq.popB]
  have HE:=hd hE
  have c0:w.cell? ⟨pb,0,none⟩=some (.slice (some ⟨g,0,none⟩) (l'.length+1) cap):=by rw[jQb hb];rfl
  have f0:=jQd hb 0
  have ct:=hown.cells (g:=g) rfl l'.length (.bool b) (by simp)
  rw[show(⟨g,0,none⟩:Addr).add l'.length=⟨g,l'.length,none⟩ from by unfold Addr.add;split <;> simp_all] at ct
  have hcap:l'.length+1≤cap∧cap≤9223372036854775807:=by
   rcases hown.2 with⟨h1,h2⟩ | ⟨g',cap',cur,h1,hg,hh,hn,hm,_⟩
   ·omega
   ·simp only[Value.slice.injEq] at h1
    obtain⟨-,-,rfl⟩:=h1
    exact⟨hn,hm⟩
  obtain⟨hcap1,hcap2⟩:=hcap
  have HO:=hd hown
  have HB:=hd hb
  clear hown hb hE hle HPL
  go_enter Tryz.func162,Tryz.ntmps162
  go_wp2
  go_ret
  refine⟨by rw[HE.out];rfl,⟨⟨.slice (some ⟨g,0,none⟩) l'.length cap,by rw[jQf HB.out];rfl,?_⟩,by simp;omega⟩,Below.setCell (B:=pb) (Below.refl _ _) (Nat.le_refl _) _⟩
  have h1:=HO.out
  rw[List.map_append] at h1
  have h2:=jQcT h1 l'.length (by omega) (by simp)
  rw[List.dropLast_concat]
  exact jQn h2 fun k hk=>jQe (fun e=>jQl h2 HB.out (by decide) (by rw[hk,e]))
theorem Sq.jQeT (l:List Bool):l.dropLast.length≤l.length:=by simp
theorem jQqX {pb:Nat}{w:World}{l:List Bool}(op:ByteArray)(h:PL pb w l)(hn:l.length+1≤100000) :
  Calls Tryz.prog 161 #[.pointer (some ⟨pb,0,none⟩),.string op] w fun e w'=>e=.returned (.tuple #[])∧PL pb w' (Sq.joinB l op)∧Below pb w w':=by
 have hlt:=h.lt
 have H:=hd h
 have hd1:=Sq.jQeT l
 have hd2:=Sq.jQeT l.dropLast
 clear h
 go_enter Tryz.func161,Tryz.ntmps161
 go_wp2_with fail
 refine(jQmm H.out).mono ?_
 rintro e w1 ⟨rfl,hp1,hb1⟩
 have HP1:=hd hp1
 obtain⟨x,hx⟩:∃x,x=Sq.popB l:=⟨_,rfl⟩
 rw[←hx]
 have HX:=hd hx
 clear hp1 hx
 cases h1:op.toList==[110,111,116]
 case true =>
  have HE:Hid (Sq.joinB l op=l.dropLast++[!x]):=by show _=_;unfold Sq.joinB;rw[h1,HX.out];rfl
  go_wp2_with fail
  refine(jQgl (!x) HP1.out (by omega)).mono ?_
  rintro e w2 ⟨rfl,hp2,hb2⟩
  have HP2:=hd hp2
  clear hp2
  go_wp2
  exact bodyPost_ret (v:=.tuple #[]) (by simp[results,Tryz.results161,go_sem]) rfl ⟨rfl,by rw[HE.out];exact HP2.out,hb1.trans hb2⟩
 case false =>
  go_wp2_with fail
  refine(jQmm HP1.out).mono ?_
  rintro e w2 ⟨rfl,hp2,hb2⟩
  have HP2:=hd hp2
  obtain⟨y,hy⟩:∃x,x=Sq.popB l.dropLast:=⟨_,rfl⟩
  rw[←hy]
  have HY:=hd hy
  clear hp2 hy
  cases h2:op.toList==[97,110,100]
  case true =>
   have HE:Hid (Sq.joinB l op=l.dropLast.dropLast++[y && x]):=by show _=_;unfold Sq.joinB;rw[h1,h2,HX.out,HY.out];rfl
   cases y
   all_goals
    go_wp2_with fail
    refine(jQgl _ HP2.out (by omega)).mono ?_
    rintro e w3 ⟨rfl,hp3,hb3⟩
    have HP3:=hd hp3
    clear hp3
    go_wp2
    go_end0
    exact⟨rfl,by rw[HE.out];exact HP3.out,hb1.trans (hb2.trans hb3)⟩
  case false =>
   have HE:Hid (Sq.joinB l op=l.dropLast.dropLast++[y || x]):=by show _=_;unfold Sq.joinB;rw[h1,h2,HX.out,HY.out];rfl
   cases y
   all_goals
    go_wp2_with fail
    refine(jQgl _ HP2.out (by omega)).mono ?_
    rintro e w3 ⟨rfl,hp3,hb3⟩
    have HP3:=hd hp3
    clear hp3
    go_wp2
    go_end0
    exact⟨rfl,by rw[HE.out];exact HP3.out,hb1.trans (hb2.trans hb3)⟩
theorem Sq.jQjT (l:List Bool)(op:ByteArray):(Sq.joinB l op).length≤l.length+1:=by
 unfold Sq.joinB
 split
 ·simp
 ·split <;> (simp;omega)
theorem Sq.jQom (cols:List Sq.Col)(row:List Sq.Val)(l:List Bool)(s:Sq.StepS):(Sq.stepB cols row l s).length≤l.length+1:=by
 unfold Sq.stepB
 split
 ·simp
 ·exact Sq.jQjT l s.op
theorem Sq.jQnf (f:List Bool→Sq.StepS→List Bool)(l:List Sq.StepS)(k:Nat)(h:k < l.length):(l.take (k+1)).foldl f []=f ((l.take k).foldl f []) l[k]:=by
 rw[List.take_succ_eq_append_getElem h,List.foldl_append];rfl
theorem jQoO (cols:List Sq.Col)(row:List Sq.Val)(l:List Sq.StepS)(cv rv sv:Value)(w:World)(h:ColsAt w cv cols)(hr:RowAt w rv row)(hs:StepsAt w sv l)(hl:l.length≤50000) :
  Calls Tryz.prog 119 #[cv,.agg #[rv],sv] w fun e w'=>e=.returned (.bool (Sq.meets cols row l))∧Below w.heap.size w w':=by
 obtain⟨ao,cap,rfl⟩:=jQa hr.1
 obtain⟨bo,bap,rfl⟩:=jQa hs.1
 have H:=hd h
 have HR:=hd hr
 have HS:=hd hs
 clear h hr hs
 cases hz:l.isEmpty
 case true =>
  have HE:Hid (Sq.meets cols row l=true):=by show _=_;unfold Sq.meets;rw[hz];rfl
  have hz':l.length=0:=by simpa using hz
  clear hz
  go_enter Tryz.func119,Tryz.ntmps119
  go_wp2
  go_ret
  exact⟨by rw[HE.out];rfl,(Below.refl _ _).alloc (Nat.le_refl _) _⟩
 case false =>
  have HE:Hid (Sq.meets cols row l=Sq.popB (l.foldl (Sq.stepB cols row) [])):=by show _=_;unfold Sq.meets;rw[hz];rfl
  have hz':¬l=[]:=by simpa using hz
  have hzl:0 < l.length:=by cases l with | nil=>exact absurd rfl hz' | cons _ _=>simp
  have hc0:((l.length:Int)==0)=false:=by simp;omega
  clear hz hz'
  have hW:Below w.heap.size w (w.alloc (.cells #[.slice ao row.length cap] 138)):=(Below.refl _ _).alloc (Nat.le_refl _) _
  have HW:=hd hW
  clear hW
  go_enter Tryz.func119,Tryz.ntmps119
  go_wp2
  go_loopw [8] (fun i wr=>∃k:Nat,k≤l.length∧i=.int .i64 k∧PL (w.heap.size+1) wr ((l.take k).foldl (Sq.stepB cols row) [])∧((l.take k).foldl (Sq.stepB cols row) []).length≤k∧Below (w.heap.size+1) (w.alloc (.cells #[.slice ao row.length cap] 138)) wr) (fun i _=>l.length - (intOf i).toNat)
  case atStart =>
   refine⟨0,Nat.zero_le _,rfl,⟨⟨.slice none 0 0,?_,World.ownsRow_nil _ _ _ _⟩,by simp⟩,by simp,(Below.refl _ _).alloc (by simp) _⟩
   have:=heap_alloc_new (w.alloc (.cells #[.slice ao row.length cap] 138)) (.cells #[.slice none 0 0] 233)
   simpa using this
  case round =>
   obtain⟨k,hk,rfl,hpl,hlen,hb⟩:=hrel
   have hbw:Below w.heap.size w wr:=HW.out.trans (hb.mono (by omega))
   have a0:wr.cell? ⟨w.heap.size,0,none⟩=some (.slice ao row.length cap):=(hb.cell (p:=⟨w.heap.size,0,none⟩) (by simp)).trans (by simp[go_sem])
   have hzw:=hpl.lt
   have HPL:=hd hpl
   have HB:=hd hb
   clear hpl hb
   by_cases hlt:k < l.length
   ·obtain⟨x,hx⟩:∃x,x=l[k]:=⟨_,rfl⟩
    have HX:=hd hx
    have cells:∀W,Below w.heap.size w W→∃g,bo=some ⟨g,0,none⟩∧g < W.heap.size∧∀j u,j < 9→x.cells[j]?=some u→W.cell? ⟨g,k * 9+j,none⟩=some u:=by
     intro W hW
     obtain⟨g,cap',hv,hg,hc⟩:=sl_at (f:=Sq.StepS.cells) (fun _=>rfl) (HS.out.below hW).1 k hlt
     simp only[Value.slice.injEq] at hv
     exact⟨g,hv.1,hg,by rw[hx];exact hc⟩
    have HC:=hd cells
    obtain⟨ls,hls⟩:∃x,x=(l.take k).foldl (Sq.stepB cols row) []:=⟨_,rfl⟩
    have hft:=Sq.jQnf (Sq.stepB cols row) l k hlt
    rw[←hls,←hx] at hft
    have hsl:=Sq.jQom cols row ls x
    rw[←hls] at hlen
    have hpl:=HPL.out
    rw[←hls] at hpl
    have HPL2:=hd hpl
    have HFT:=hd hft
    clear cells hx hls hft hpl HPL
    obtain⟨g,hbo,hg,hc⟩:=HC.out wr hbw
    subst hbo
    have HSTB:Hid (Sq.stepB cols row ls x=if Sq.isComparison x.op then ls++[Sq.compared cols row x] else Sq.joinB ls x.op):=rfl
    obtain⟨op,⟨lc,⟨lk,ln,lt⟩⟩,⟨rc,⟨rk,rn,rt⟩⟩⟩:=x
    have c0:=hc 0 _ (by decide) rfl
    have c1:=hc 1 _ (by decide) rfl
    have c2:=hc 2 _ (by decide) rfl
    have c3:=hc 3 _ (by decide) rfl
    have c4:=hc 4 _ (by decide) rfl
    have c5:=hc 5 _ (by decide) rfl
    have c6:=hc 6 _ (by decide) rfl
    have c7:=hc 7 _ (by decide) rfl
    have c8:=hc 8 _ (by decide) rfl
    simp only[Nat.add_zero] at c0
    clear hc
    go_wp2_with fail
    refine(jQcI ⟨op,⟨lc,⟨lk,ln,lt⟩⟩,⟨rc,⟨rk,rn,rt⟩⟩⟩ _).mono ?_
    rintro e w1 ⟨rfl,hb1⟩
    have hbw1:Below w.heap.size w w1:=hbw.trans (hb1.mono hbw.size)
    have HB1:=hd (HB.out.trans (hb1.mono (by omega)))
    have HPL3:=hd (HPL2.out.below hb1)
    have a0':=((bcell hb1).1 w.heap.size 0 (by omega)).trans a0
    have hz1:=hb1.size
    clear c0 c1 c2 c3 c4 c5 c6 c7 c8 hb1 a0 HPL2 HB
    obtain⟨g',hg',hg1,hc⟩:=HC.out w1 hbw1
    have hgg:g=g':=by simpa using hg'
    subst hgg
    have c0:=hc 0 _ (by decide) rfl
    have c1:=hc 1 _ (by decide) rfl
    have c2:=hc 2 _ (by decide) rfl
    have c3:=hc 3 _ (by decide) rfl
    have c4:=hc 4 _ (by decide) rfl
    have c5:=hc 5 _ (by decide) rfl
    have c6:=hc 6 _ (by decide) rfl
    have c7:=hc 7 _ (by decide) rfl
    have c8:=hc 8 _ (by decide) rfl
    simp only[Nat.add_zero] at c0
    clear hc hg'
    cases hcmp:Sq.isComparison op
    case true =>
     have HE2:Hid ((l.take (k+1)).foldl (Sq.stepB cols row) []=ls++[Sq.compared cols row ⟨op,⟨lc,⟨lk,ln,lt⟩⟩,⟨rc,⟨rk,rn,rt⟩⟩⟩]):=by show _=_;rw[HFT.out,HSTB.out,hcmp];rfl
     clear HFT HSTB hsl
     go_wp2
     go_region_with (go_at_call 159;refine(jQiK cols row cv _ ⟨op,⟨lc,⟨lk,ln,lt⟩⟩,⟨rc,⟨rk,rn,rt⟩⟩⟩ _ (H.out.below hbw1.drew) (HR.out.below hbw1.drew)).mono ?_;rintro e w2 ⟨rfl,hb2⟩)
     all_goals
      have hb2':Below w1.heap.size w1 w2:=(Below.drew (Below.refl _ _)).trans hb2
      have HPL4:=hd (HPL3.out.below hb2')
      have HB2:=hd (HB1.out.trans (hb2'.mono (by omega)))
      clear hb2 hb2' c0 c1 c2 c3 c4 c5 c6 c7 c8
      go_wp2_with fail
      refine(jQgl _ HPL4.out (by omega)).mono ?_
      rintro e w3 ⟨rfl,hp3,hb3⟩
      have HP3:=hd hp3
      clear hp3
      go_wp2
      go_roundw
      case rel=>exact⟨k+1,by omega,by go_num,by rw[HE2.out];exact HP3.out,by rw[HE2.out];simp;omega,HB2.out.trans hb3⟩
      case measure=>simp[intOf];omega
    case false =>
     have HE2:Hid ((l.take (k+1)).foldl (Sq.stepB cols row) []=Sq.joinB ls op):=by show _=_;rw[HFT.out,HSTB.out,hcmp];rfl
     have hjl:=Sq.jQjT ls op
     clear HFT HSTB hsl
     go_wp2_with fail
     refine(jQqX op HPL3.out (by omega)).mono ?_
     rintro e w3 ⟨rfl,hp3,hb3⟩
     have HP3:=hd hp3
     clear hp3
     go_wp2
     go_roundw
     case rel=>exact⟨k+1,by omega,by go_num,by rw[HE2.out];exact HP3.out,by rw[HE2.out];omega,HB1.out.trans hb3⟩
     case measure=>simp[intOf];omega
   ·have hkl:l.take k=l:=List.take_of_length_le (by omega)
    have hpl:=HPL.out
    rw[hkl] at hpl
    have HPL2:=hd hpl
    clear hpl hkl HPL
    go_wp2_with fail
    refine(jQmm HPL2.out).mono ?_
    rintro e w3 ⟨rfl,hp3,hb3⟩
    go_wp2
    go_ret
    exact⟨by rw[HE.out];rfl,hbw.trans (hb3.mono (by omega))⟩
end
def Sq.meeting (t:Sq.Tab)(steps:List Sq.StepS):List (List Sq.Val):=t.rows.filter fun row=>Sq.meets t.cols row steps
theorem Sq.jQkV (p:List Sq.Val→Bool)(l:List (List Sq.Val))(k:Nat)(h:k < l.length):(l.take (k+1)).filter p=(l.take k).filter p++(if p l[k] then[l[k]] else[]):=by
 rw[List.take_succ_eq_append_getElem h,List.filter_append]
 congr 1
 simp only[List.filter_cons,List.filter_nil]
theorem Sq.jQnl (p:List Sq.Val→Bool)(l:List (List Sq.Val))(k:Nat):((l.take k).filter p).length≤k:=Nat.le_trans (List.length_filter_le _ _) (List.length_take_le _ _)
def Sq.hasKey (rows:List (List Sq.Val))(k:Int):Bool:=rows.any fun r=>Sq.keyOf r==k
def Sq.findTabFrom (n:ByteArray):List Sq.Tab→Int→Int
 | [],_=>-1
 | t :: r,i=>if t.name.toList==n.toList then i else Sq.findTabFrom n r (i+1)
def Sq.findTab (db:List Sq.Tab)(n:ByteArray):Int:=Sq.findTabFrom n db 0
structure Sq.Out where
 reply:ByteArray
 makes:Bool
 name:ByteArray
 cols:List Sq.Col
 table:Int
 puts:List (List Sq.Val)
 cuts:List Int
def Sq.refused (e:Int):Sq.Out:=⟨Sq.bBang++Sq.itoa e,false,Sq.nobytes,[],0,[],[]⟩
def Sq.sumItems (cols:List Sq.Col)(row:List Sq.Val)(items:List ByteArray):Int:=(items.map fun n=>(Sq.cellOf cols row n).number).sum
def Sq.sumRows (cols:List Sq.Col)(items:List ByteArray)(rows:List (List Sq.Val)):Int:=(rows.map fun r=>Sq.sumItems cols r items).sum
def Sq.rowText (cols:List Sq.Col)(row:List Sq.Val)(items:List ByteArray):List UInt8:=Sq.joined (items.map fun n=>(Sq.written (Sq.cellOf cols row n)).data.toList)
def Sq.listed (cols:List Sq.Col)(items:List ByteArray)(rows:List (List Sq.Val)):List UInt8:=rows.flatMap fun r=>Sq.rowText cols r items++[59]
def Sq.bytesOf (l:List UInt8):ByteArray:=⟨l.toArray⟩
def Sq.showRows (t:Sq.Tab)(st:Sq.PSt)(rows:List (List Sq.Val)):ByteArray :=
 if st.shw==2 then Sq.counted rows.length
 else if st.shw==3 then Sq.itoa (Sq.sumRows t.cols st.items rows)++Sq.bSemi
 else if st.shw==1 then Sq.bytesOf (Sq.listed t.cols (t.cols.map Sq.Col.name) rows)
 else Sq.bytesOf (Sq.listed t.cols st.items rows)
def Sq.show (t:Sq.Tab)(st:Sq.PSt):ByteArray:=Sq.showRows t st (Sq.meeting t st.wher)
def Sq.remove (t:Sq.Tab)(at_:Int)(l:List Sq.StepS):Sq.Out:=⟨Sq.counted (Sq.meeting t l).length,false,Sq.nobytes,[],at_,[],(Sq.meeting t l).map Sq.keyOf⟩
def Sq.updated (at_:Int):Option (List (List Sq.Val))→Sq.Out
 | some puts=>⟨Sq.counted puts.length,false,Sq.nobytes,[],at_,puts,[]⟩
 | none=>Sq.refused 9
def Sq.update (t:Sq.Tab)(at_:Int)(st:Sq.PSt):Sq.Out:=Sq.updated at_ (Sq.updateFrom t.cols st.sets (Sq.meeting t st.wher) [])
def Sq.rowsSum (db:List Sq.Tab):Nat:=(db.map fun t=>t.rows.length).sum
def Sq.dbSize (db:List Sq.Tab):Nat:=db.length+Sq.rowsSum db
def Sq.insert (t:Sq.Tab)(at_ size:Int)(vals:List Sq.Val):Sq.Out :=
 if Sq.hasKey t.rows (Sq.keyOf vals) then Sq.refused 8 else if 60≤size then Sq.refused 10 else⟨Sq.counted 1,false,Sq.nobytes,[],at_,[vals],[]⟩
def Sq.create (db:List Sq.Tab)(st:Sq.PSt):Sq.Out :=
 if 0≤Sq.findTab db st.table then Sq.refused 5
 else if 4 < st.cols.length then Sq.refused 6
 else if Sq.twoOf st.cols then Sq.refused 5
 else if 5≤db.length then Sq.refused 10
 else if 60≤Sq.dbSize db then Sq.refused 10
 else⟨Sq.counted 0,true,st.table,st.cols,0,[],[]⟩
def Sq.decideTab (db:List Sq.Tab)(t:Sq.Tab)(at_:Int)(st:Sq.PSt):Sq.Out :=
 if Sq.check t.cols st != 0 then Sq.refused (Sq.check t.cols st)
 else if st.act==2 then Sq.insert t at_ (Sq.dbSize db) st.vals
 else if st.act==3 then Sq.update t at_ st
 else if st.act==4 then Sq.remove t at_ st.wher
 else⟨Sq.show t st,false,Sq.nobytes,[],0,[],[]⟩
def Sq.decideSt (db:List Sq.Tab)(st:Sq.PSt):Sq.Out :=
 if st.act==1 then Sq.create db st
 else match db[(Sq.findTab db st.table).toNat]? with
  | some t=>if Sq.findTab db st.table < 0 then Sq.refused 4 else Sq.decideTab db t (Sq.findTab db st.table) st
  | none=>Sq.refused 4
def Sq.decide (db:List Sq.Tab)(sql:ByteArray):Sq.Out:=if(Sq.parse sql).1 != 0 then Sq.refused (Sq.parse sql).1 else Sq.decideSt db (Sq.parse sql).2
structure Sq.okStm (st:Sq.PSt):Prop where
 cols:st.cols.length≤1000
 vals:st.vals.length≤1000
 sets:st.sets.length≤1000
 items:st.items.length≤1000
 wher:st.wher.length≤1000
 okv:∀v∈st.vals,Sq.okVal v
 oks:∀s∈st.sets,Sq.okSet s
section
open Go.RowKit
def RowsOwn (B:Nat)(w:World)(v:Value)(rows:List (List Sq.Val)):Prop :=
 ∃rvs:List Value,w.ownsRow B 138 1 v rows.length rvs∧∀(i:Nat) (row:List Sq.Val),rows[i]?=some row→∃rv,rvs[i]?=some rv∧RowAt w rv row
theorem RowsOwn.below {B:Nat}{w w':World}{v:Value}{rows:List (List Sq.Val)}(h:RowsOwn B w v rows)(hb:Below w.heap.size w w'):RowsOwn B w' v rows:=by
 obtain⟨rvs,h1,h2⟩:=h
 exact⟨rvs,jQh h1 hb,fun i row hi=>let ⟨rv,h3,h4⟩:=h2 i row hi;⟨rv,h3,h4.below hb⟩⟩
theorem RowsOwn.base {B B':Nat}{w:World}{v:Value}{rows:List (List Sq.Val)}(h:RowsOwn B w v rows)(hb:B'≤B):RowsOwn B' w v rows:=by
 obtain⟨rvs,h1,h2⟩:=h
 exact⟨rvs,jQi h1 hb,h2⟩
theorem RowsOwn.nil (B:Nat)(w:World):RowsOwn B w (.slice none 0 0) []:=⟨[],World.ownsRow_nil _ _ _ _,fun i row h=>by simp at h⟩
theorem RowsOwn.slice {B:Nat}{w:World}{v:Value}{rows:List (List Sq.Val)}(h:RowsOwn B w v rows):∃ao cap,v=.slice ao rows.length cap:=by
 obtain⟨rvs,h1,_⟩:=h;exact jQa h1
theorem RowsOwn.at {B:Nat}{w:World}{v:Value}{rows:List (List Sq.Val)}(h:RowsOwn B w v rows)(k:Nat)(hk:k < rows.length) :
  ∃g cap ra rc,v=.slice (some ⟨g,0,none⟩) rows.length cap∧g < w.heap.size∧w.cell? ⟨g,k,none⟩=some (.slice ra rows[k].length rc)∧RowAt w (.slice ra rows[k].length rc) rows[k]:=by
 obtain⟨rvs,h1,h2⟩:=h
 obtain⟨g,cap,rfl,_,hlt⟩:=h1.form (by omega)
 obtain⟨rv,h3,h4⟩:=h2 k rows[k] (List.getElem?_eq_getElem hk)
 obtain⟨ra,rc,rfl⟩:=jQa h4.1
 refine⟨g,cap,ra,rc,rfl,hlt,?_,h4⟩
 have:=h1.cells (g:=g) rfl k _ h3
 rwa [show(⟨g,0,none⟩:Addr).add k=⟨g,k,none⟩ from by unfold Addr.add;split <;> simp_all] at this
theorem RowAt.one {w:World}{v:Value}{row:List Sq.Val}(h:RowAt w v row):v.oneCell'=true:=by
 obtain⟨a,c,rfl⟩:=jQa h.1;rfl
theorem Tryz.infoRow:(Tryz.prog.info? 138).map (fun i=>(i.zero,i.size,i.bytes))=some (some (.agg #[.slice none 0 0]),1,24):=by kernel_rfl
theorem RowsOwn.snoc {B:Nat}{w1:World}{v' rv:Value}{rows:List (List Sq.Val)}{rvs:List Value}{row:List Sq.Val}
  (h1:w1.ownsRow B 138 1 v' (rows.length+1) (rvs++[rv])) (hl:rvs.length=rows.length)
  (h2:∀(i:Nat) (row:List Sq.Val),rows[i]?=some row→∃rv,rvs[i]?=some rv∧RowAt w1 rv row) (h3:RowAt w1 rv row):RowsOwn B w1 v' (rows++[row]):=by
 refine⟨rvs++[rv],by simpa using h1,fun i r hi=>?_⟩
 rcases Nat.lt_or_ge i rows.length with h | h
 ·rw[List.getElem?_append_left h] at hi
  obtain⟨x,h4,h5⟩:=h2 i r hi
  exact⟨x,by rw[List.getElem?_append_left (by omega)];exact h4,h5⟩
 ·rw[List.getElem?_append_right h] at hi
  have h0:i - rows.length=0:=by
   rcases Nat.eq_zero_or_pos (i - rows.length) with h4 | h4
   ·exact h4
   ·rw[List.getElem?_eq_none (by simp;omega)] at hi;cases hi
  rw[h0] at hi
  simp at hi
  subst hi
  exact⟨rv,by rw[List.getElem?_append_right (by omega),show i - rvs.length=0 from by omega];rfl,h3⟩
theorem RowAt.grown {w w1:World}{v rv:Value}{row:List Sq.Val}{B n:Nat}{xs:List Value}(h:RowAt w rv row)(ho:w.ownsRow B 138 1 v n xs)(hg:w.grownBy w1 v.ownBlock):RowAt w1 rv row :=
 ⟨jQv h.1 ho (by decide) hg,h.2⟩
theorem jQkJ (cols:List Sq.Col)(rows:List (List Sq.Val))(l:List Sq.StepS)(cv rv sv:Value)(w:World)(hcols:ColsAt w cv cols)(hrows:RowsOwn 0 w rv rows)(hfew:rows.length≤100000)(hs:StepsAt w sv l)(hl:l.length≤50000) :
  Calls Tryz.prog 76 #[cv,rv,sv] w fun e w'=>∃v,e=.returned v∧RowsOwn w.heap.size w' v (rows.filter fun row=>Sq.meets cols row l)∧Below w.heap.size w w':=by
 obtain⟨i0,hi,hz0,hz1,hz2⟩:=info_parts Tryz.infoRow
 obtain⟨ao,cap,rfl⟩:=hrows.slice
 obtain⟨co,cap2,rfl⟩:=jQa hcols.1
 obtain⟨bo,bap,rfl⟩:=jQa hs.1
 have HC:=hd hcols
 have H:=hd hrows
 have HS:=hd hs
 clear hcols hrows hs
 go_enter Tryz.func76,Tryz.ntmps76
 go_wp2
 go_loopw [7,8] (fun v i wr=>∃k:Nat,k≤rows.length∧i=.int .i64 k∧RowsOwn w.heap.size wr v ((rows.take k).filter fun row=>Sq.meets cols row l)∧Below w.heap.size w wr) (fun _ i _=>rows.length - (intOf i).toNat)
 case atStart=>exact⟨0,Nat.zero_le _,rfl,RowsOwn.nil _ _,Below.refl _ _⟩
 case round =>
  obtain⟨k,hk,rfl,hro,hb⟩:=hrel
  have hbw:Below w.heap.size w wr:=hb
  have hzw:w.heap.size≤wr.heap.size:=hb.size
  have HRO:=hd hro
  have HB:=hd hb
  clear hro hb
  by_cases hlt:k < rows.length
  ·obtain⟨g,cap',ra,rc,hv,hg,c0,hrow⟩:=(H.out.below hbw).at k hlt
   simp only[Value.slice.injEq] at hv
   obtain⟨rfl,-,rfl⟩:=hv
   have HFT:=hd (Sq.jQkV (fun row=>Sq.meets cols row l) rows k hlt)
   have hfl:=Sq.jQnl (fun row=>Sq.meets cols row l) rows k
   obtain⟨row,hrw⟩:∃x,x=rows[k]:=⟨_,rfl⟩
   have hft:=HFT.out
   rw[←hrw] at hft c0 hrow
   have HFT2:=hd hft
   have HROW:=hd hrow
   clear hft hrow HFT hrw
   go_wp2_with fail
   refine(jQoO cols row l _ _ _ _ (HC.out.below hbw) HROW.out (HS.out.below hbw) hl).mono ?_
   rintro e w2 ⟨rfl,hb2⟩
   ·have hb2':Below wr.heap.size wr w2:=hb2
    have HB2:=hd (HB.out.trans (hb2'.mono (by omega)))
    have HRO2:=hd (HRO.out.below hb2')
    have HROW2:=hd (HROW.out.below hb2')
    have c0':=((bcell hb2').1 g k hg).trans c0
    have hz2':=hb2'.size
    clear hb2 hb2' c0
    cases hm:Sq.meets cols row l
    case false =>
     have HE:Hid ((rows.take (k+1)).filter (fun row=>Sq.meets cols row l)=(rows.take k).filter fun row=>Sq.meets cols row l):=by show _=_;rw[HFT2.out];simp only[hm];simp
     go_wp2
     go_roundw
     case rel=>exact⟨k+1,by omega,by go_num,by rw[HE.out];exact HRO2.out,HB2.out⟩
     case measure=>simp[intOf];omega
    case true =>
     have HE:Hid ((rows.take (k+1)).filter (fun row=>Sq.meets cols row l)=((rows.take k).filter fun row=>Sq.meets cols row l)++[row]):=by show _=_;rw[HFT2.out];simp only[hm];simp
     obtain⟨fl,hfle⟩:∃x,x=(rows.take k).filter fun row=>Sq.meets cols row l:=⟨_,rfl⟩
     have hro:=HRO2.out
     have hee:=HE.out
     rw[←hfle] at hro hee hfl
     obtain⟨rvs,ho,hrs⟩:=hro
     have HEE:=hd hee
     have hlr:rvs.length=fl.length:=by have:=ho.1;omega
     have HLR:=hd hlr
     have HOA:=hd (ho.alloc (.cells #[.slice ra row.length rc] 138))
     have HRS:=hd hrs
     clear ho hrs hee hfle HE HRO2 hlr
     go_wp2_with (at_builtin;refine wpList_append_lies _ rfl (.tmp 22) (.tmp 27) 95 rfl w.heap.size 138 i0 _ 1 24 Tryz.underlying95 hi hz0 hz1 hz2 rfl (by decide) _ fl.length rvs rfl HOA.out ⟨w2.heap.size,0,none⟩ 1 1 [.slice ra row.length rc] rfl rfl (by exact jQB w2 _ _ _ rfl rfl) (by intro u hu;simp at hu;subst hu;rfl) (by decide) (by unfold maxLen;omega) (by omega) (by simp;omega) _ rfl ?_;intro gg cap3 w3 hown3 hgrow3 hat3 hlt3;have HO3:=hd hown3;have HG3:=hd hgrow3;clear hown3 hgrow3 hat3)
     have hW2:Below w2.heap.size w2 (w2.alloc (.cells #[.slice ra row.length rc] 138)):=(Below.refl _ _).alloc (Nat.le_refl _) _
     have hrel':RowsOwn w.heap.size w3 (.slice (some ⟨gg,0,none⟩) (fl.length+1) cap3) (fl++[row]) :=
      RowsOwn.snoc HO3.out HLR.out (fun i r hi=>let ⟨x,h4,h5⟩:=HRS.out i r hi;⟨x,h4,(h5.below hW2).grown HOA.out HG3.out⟩) ((HROW2.out.below hW2).grown HOA.out HG3.out)
     have hbel:Below w.heap.size w w3 :=
      HB2.out.trans ((Below.mono (B':=w.heap.size) hW2 (by omega)).trans (Tch.of_grown HG3.out (fun k hk=>(HOA.out.lt k hk).1) (by simp;omega)))
     clear hW2
     go_roundw
     case rel=>exact⟨k+1,by omega,by go_num,by rw[HEE.out];exact hrel',hbel⟩
     case measure=>simp[intOf];omega
  ·have HE:Hid ((rows.filter fun row=>Sq.meets cols row l)=(rows.take k).filter fun row=>Sq.meets cols row l):=by show _=_;rw[List.take_of_length_le (by omega)]
   go_wp2
   go_ret
   exact⟨_,rfl,by rw[HE.out];exact HRO.out.base (by omega),hbw⟩
end
section
open Go.RowKit
theorem jQn0 (row:List Sq.Val)(rv:Value)(w:World)(h:RowAt w rv row) :
  Calls Tryz.prog 115 #[.agg #[rv]] w fun e w'=>e=.returned (.int .i64 (Sq.keyOf row))∧Below w.heap.size w w':=by
 obtain⟨ao,cap,rfl⟩:=jQa h.1
 have hl:=h.2
 have H:=hd h
 clear h
 cases row with
 | nil =>
  go_enter Tryz.func115,Tryz.ntmps115
  go_wp2
  go_ret
  exact⟨rfl,(Below.refl _ _).alloc (Nat.le_refl _) _⟩
 | cons v r =>
  obtain⟨g,cap',hv,hg,hc⟩:=sl_at (f:=Sq.Val.cells) (fun _=>rfl) H.out.1 0 (by simp)
  simp only[Value.slice.injEq] at hv
  obtain⟨rfl,-,rfl⟩:=hv
  have c1:=hc 1 (.int .i64 v.number) (by decide) rfl
  simp only[Nat.zero_mul,Nat.zero_add] at c1
  have hn:(((v :: r).length:Int)==0)=false:=by simp;omega
  have hp:0 < (v :: r).length:=by simp
  obtain⟨n,hnn⟩:∃n,n=(v :: r).length:=⟨_,rfl⟩
  rw[←hnn] at hn hp hl ⊢
  clear hc hnn H
  go_enter Tryz.func115,Tryz.ntmps115
  go_wp2
  go_ret
  exact⟨rfl,(Below.refl _ _).alloc (Nat.le_refl _) _⟩
end
section
open Go.RowKit
def tabCells (x:Sq.TabN×Value):List Value:=[.int .i64 x.1.number,.string x.1.name,x.2]
structure TabsOwn (B:Nat)(w:World)(v:Value)(l:List (Sq.TabN×Value)):Prop where
 own:w.ownsRow B 94 3 v l.length (l.flatMap tabCells)
 each:∀x∈l,ColsAt w x.2 x.1.cols
 few:l.length≤1000
theorem TabsOwn.below {B:Nat}{w w':World}{v:Value}{l:List (Sq.TabN×Value)}(h:TabsOwn B w v l)(hb:Below w.heap.size w w'):TabsOwn B w' v l:=⟨jQh h.own hb,fun x hx=>(h.each x hx).below hb,h.few⟩
theorem TabsOwn.base {B B':Nat}{w:World}{v:Value}{l:List (Sq.TabN×Value)}(h:TabsOwn B w v l)(hb:B'≤B):TabsOwn B' w v l:=⟨jQi h.own hb,h.each,h.few⟩
theorem TabsOwn.at {B:Nat}{w:World}{v:Value}{l:List (Sq.TabN×Value)}(h:TabsOwn B w v l)(k:Nat)(hk:k < l.length) :
  ∃g cap ca cc,v=.slice (some ⟨g,0,none⟩) l.length cap∧g < w.heap.size∧w.cell? ⟨g,k * 3,none⟩=some (.int .i64 l[k].1.number)∧w.cell? ⟨g,k * 3+1,none⟩=some (.string l[k].1.name)∧w.cell? ⟨g,k * 3+2,none⟩=some (.slice ca l[k].1.cols.length cc)∧ColsAt w (.slice ca l[k].1.cols.length cc) l[k].1.cols:=by
 obtain⟨g,cap,hv,hg,hc⟩:=sl_at (f:=tabCells) (fun _=>rfl) h.own k hk
 have ht:=h.each l[k] (List.getElem_mem hk)
 obtain⟨ca,cc,h1⟩:=jQa ht.1
 have c0:=hc 0 (.int .i64 l[k].1.number) (by decide) rfl
 have c1:=hc 1 (.string l[k].1.name) (by decide) rfl
 have c2:=hc 2 l[k].2 (by decide) rfl
 rw[h1] at c2 ht
 exact⟨g,cap,ca,cc,hv,hg,by simpa using c0,c1,c2,ht⟩
end
namespace Sq
def goodVal (v:Val):Prop:=(v.kind=0∧-2147483648≤v.number∧v.number≤2147483647∧v.text=nobytes)∨(v.kind=1∧v.number=0∧v.text.size≤12∧(39:UInt8) ∉ v.text.data.toList)
theorem goodVal0:goodVal val0:=Or.inl ⟨rfl,by decide,by decide,rfl⟩
theorem jQgn (l:List UInt8):∀a:Int,0≤a→(∀c∈l,isDigit c.toNat=true)→0≤l.foldl (fun n c=>n * 10+dv c) a∧l.foldl (fun n c=>n * 10+dv c) a+1≤(a+1) * ((10 ^ l.length:Nat):Int):=by
 induction l with
 | nil=>intro a h _;simp;omega
 | cons c r ih =>
  intro a h hd
  have hc:=hd c (by simp)
  have h1:0≤dv c∧dv c≤9:=by
   unfold isDigit rng at hc
   simp at hc
   unfold dv
   omega
  obtain⟨i1,i2⟩:=ih (a * 10+dv c) (by omega) (fun x hx=>hd x (by simp[hx]))
  rw[List.foldl_cons,List.length_cons,Nat.pow_succ]
  refine⟨i1,?_⟩
  have h2:(0:Int)≤((10 ^ r.length:Nat):Int):=Int.natCast_nonneg _
  have h3:(a * 10+dv c+1) * ((10 ^ r.length:Nat):Int)≤((a+1) * 10) * ((10 ^ r.length:Nat):Int):=Int.mul_le_mul_of_nonneg_right (by omega) h2
  have h4:(a+1) * ((10 ^ r.length * 10:Nat):Int)=((a+1) * 10) * ((10 ^ r.length:Nat):Int):=by
   rw[Int.natCast_mul,Int.mul_assoc,Int.mul_comm ((10 ^ r.length:Nat):Int)]
   rfl
  rw[h4]
  omega
theorem jQmB (t:ByteArray)(h:t.size≤9)(hd:∀c∈t.data.toList,isDigit c.toNat=true):0≤num t∧num t≤999999999:=by
 have h1:=jQgn t.data.toList 0 (by omega) hd
 have h2:(10:Nat) ^ t.data.toList.length≤10 ^ 9:=Nat.pow_le_pow_right (by decide) (by simpa using h)
 have h3:(10:Nat) ^ 9=1000000000:=by decide
 refine⟨h1.1,?_⟩
 have h4:=h1.2
 unfold num numL
 omega
theorem jQao (s:ByteArray)(a b:Nat):(s.extract a b).data.toList=(s.data.toList.drop a).take (b - a):=by
 simp[List.extract_eq_take_drop]
theorem jQbv {α:Type}(p:α→Bool)(l:List α):l.take (l.takeWhile p).length=l.takeWhile p:=by
 induction l with
 | nil=>rfl
 | cons x r ih =>
  rw[List.takeWhile_cons]
  split
  ·rw[List.length_cons,List.take_succ_cons,ih]
  ·rfl
theorem jQdB {α:Type}(p:α→Bool)(l:List α):∀x∈l.takeWhile p,p x=true:=by
 induction l with
 | nil=>intro x hx;simp at hx
 | cons y r ih =>
  intro x hx
  rw[List.takeWhile_cons] at hx
  split at hx
  ·rename_i h
   rcases List.mem_cons.1 hx with rfl | hx
   ·exact h
   ·exact ih x hx
  ·simp at hx
theorem jQre (p:Int→Bool)(s:ByteArray)(a:Nat):(s.extract a (a+cnt p s a)).data.toList=(s.data.toList.drop a).takeWhile fun c=>p c.toNat:=by
 rw[jQao,Nat.add_sub_cancel_left]
 exact jQbv _ _
theorem jQfl (s:ByteArray)(a b:Nat)(h:a < b)(hb:b≤s.size):byteAt (s.extract a b) 0=byteAt s a:=by
 unfold byteAt
 rw[jQao]
 rw[List.getElem?_take,if_pos (by omega),List.getElem?_drop]
 simp
structure okWord (x:Word):Prop where
 num:x.kind=3→x.text.size≤9∧∀c∈x.text.data.toList,isDigit c.toNat=true
 text:x.kind=4→x.text.size≤12∧(39:UInt8) ∉ x.text.data.toList
 name:x.kind=2→x.text.size≤8
theorem jQn5 (s:ByteArray)(a:Nat)(h:a < endOf s a)(hs:endOf s a≤s.size):okWord (wordOf (s.extract a (endOf s a))):=by
 have h0:=jQfl s a (endOf s a) h hs
 obtain⟨t,ht⟩:∃t,t=s.extract a (endOf s a):=⟨_,rfl⟩
 rw[←ht] at h0 ⊢
 unfold wordOf
 split
 ·exact⟨by simp,by simp,by simp⟩
 ·rw[h0]
  split
  ·refine⟨fun h=>?_,fun h=>?_,fun _=>jQbH 2 t 8⟩
   ·rcases jQV 2 t 8 with h3 | h3 <;> rw[h3] at h <;> simp at h
   ·rcases jQV 2 t 8 with h3 | h3 <;> rw[h3] at h <;> simp at h
  ·rename_i hl
   split
   ·rename_i hdg
    refine⟨fun _=>⟨jQbH 3 t 9,?_⟩,fun h=>?_,fun h=>?_⟩
    ·unfold bounded
     split
     ·have he:endOf s a=a+cnt isDigit s a:=by unfold endOf;rw[if_neg hl,if_pos hdg]
      show ∀c∈t.data.toList,_
      rw[ht,he,jQre]
      exact fun c hc=>jQdB _ _ c hc
     ·intro c hc;simp at hc
    ·rcases jQV 3 t 9 with h3 | h3 <;> rw[h3] at h <;> simp at h
    ·rcases jQV 3 t 9 with h3 | h3 <;> rw[h3] at h <;> simp at h
   ·rename_i hdg
    split
    ·rename_i hq
     simp only[Bool.and_eq_true,beq_iff_eq] at hq
     refine⟨fun h=>?_,fun _=>⟨jQbH 4 _ 12,?_⟩,fun h=>?_⟩
     ·rcases jQV 4 (t.extract 1 (t.size - 1)) 12 with h3 | h3 <;> rw[h3] at h <;> simp at h
     ·unfold bounded
      split
      ·have he:endOf s a=endOfText s a:=by unfold endOf;rw[if_neg hl,if_neg hdg,if_pos (by simp[hq.1])]
       have he2:endOf s a=a+1+cnt isInText s (a+1)+1:=by
        rw[he];rw[he] at h;unfold endOfText at h ⊢
        split
        ·rfl
        ·rename_i hx;rw[if_neg hx] at h;omega
       show(39:UInt8) ∉ (t.extract 1 (t.size - 1)).data.toList
       have hts:t.size=cnt isInText s (a+1)+2:=by
        rw[ht,ByteArray.size_extract];omega
       rw[jQao,hts,ht,jQao,List.drop_take,List.drop_drop,List.take_take]
       have hm:min (cnt isInText s (a+1)+2 - 1 - 1) (endOf s a - a - 1)=(((s.data.toList.drop (a+1)).takeWhile fun c=>isInText c.toNat)).length:=by
        show _=cnt isInText s (a+1)
        omega
       rw[hm,jQbv]
       intro hc
       have:=jQdB _ _ _ hc
       exact absurd this (by decide)
      ·simp
     ·rcases jQV 4 (t.extract 1 (t.size - 1)) 12 with h3 | h3 <;> rw[h3] at h <;> simp at h
    ·exact⟨by simp,by simp,by simp⟩
theorem jQih (s:ByteArray):∀f a ws,splitFrom s f a=some ws→(∀x∈ws,okWord x)∧ws.length≤f:=by
 intro f
 induction f with
 | zero=>intro a ws h;simp[splitFrom] at h;subst h;simp
 | succ f ih =>
  intro a ws h
  rw[splitFrom] at h
  split at h
  ·split at h
   ·have:=ih _ _ h;exact⟨this.1,by omega⟩
   ·split at h
    ·simp at h
    ·rename_i he
     split at h
     ·simp at h
     ·cases h2:splitFrom s f (endOf s a) with
      | none=>rw[h2] at h;simp at h
      | some l =>
       rw[h2] at h
       simp at h
       subst h
       have h3:=ih _ _ h2
       refine⟨fun x hx=>?_,by simp;omega⟩
       rcases List.mem_cons.1 hx with rfl | hx
       ·exact jQn5 s a (by omega) (by omega)
       ·exact h3.1 x hx
  ·simp at h;subst h;simp
theorem jQlX (s:ByteArray)(ws:List Word)(h:split s=some ws):(∀x∈ws,okWord x)∧ws.length≤s.size+1:=jQih s _ _ ws h
theorem jQqL (ws:List Word)(st:PSt)(h:∀x∈ws,okWord x):okWord (nextW ws st):=by
 unfold nextW
 split
 ·exact⟨by simp[word0],by simp[word0],by simp[word0]⟩
 ·cases h2:ws[st.pos]? with
  | none=>exact⟨by simp[word0],by simp[word0],by simp[word0]⟩
  | some x=>exact h x (List.mem_of_getElem? h2)
theorem jQjN (ws:List Word)(st:PSt)(h:∀x∈ws,okWord x):goodVal (litR ws st):=by
 have hw:=jQqL ws (acceptS ws st bMinus) h
 unfold litR
 split
 ·rename_i hk
  have h3:=hw.num (by simpa using hk)
  have h4:=jQmB _ h3.1 h3.2
  split
  ·exact Or.inl ⟨rfl,by show _≤-_;omega,by show -_≤_;omega,rfl⟩
  ·exact Or.inl ⟨rfl,by show _≤num _;omega,by show num _≤_;omega,rfl⟩
 ·split
  ·rename_i hk
   simp only[Bool.and_eq_true,beq_iff_eq] at hk
   exact Or.inr ⟨rfl,rfl,hw.text hk.1⟩
  ·exact goodVal0
theorem jQbS (ws:List Word)(st:PSt)(h:∀x∈ws,okWord x):goodVal (termR ws st).lit:=by
 unfold termR
 split
 ·exact goodVal0
 ·exact jQjN ws st h
structure Same (a b:PSt):Prop where
 act:b.act=a.act
 table:b.table=a.table
 cols:b.cols=a.cols
 vals:b.vals=a.vals
 sets:b.sets=a.sets
 shw:b.shw=a.shw
 items:b.items=a.items
theorem Same.refl (a:PSt):Same a a:=⟨rfl,rfl,rfl,rfl,rfl,rfl,rfl⟩
theorem Same.trans {a b c:PSt}(h:Same a b)(k:Same b c):Same a c:=⟨k.1.trans h.1,k.2.trans h.2,k.3.trans h.3,k.4.trans h.4,k.5.trans h.5,k.6.trans h.6,k.7.trans h.7⟩
theorem jQcm (a:PSt):Same a (fail a):=⟨rfl,rfl,rfl,rfl,rfl,rfl,rfl⟩
theorem jQH (a:PSt):Same a (step1 a):=⟨rfl,rfl,rfl,rfl,rfl,rfl,rfl⟩
theorem jQbI (a:PSt)(s:StepS):Same a (addStep a s):=⟨rfl,rfl,rfl,rfl,rfl,rfl,rfl⟩
theorem jQbi (ws:List Word)(a:PSt):Same a (takeS ws a):=by unfold takeS;split;exact jQcm a;exact jQH a
theorem jQe9 (ws:List Word)(a:PSt)(m:ByteArray):Same a (acceptS ws a m):=by unfold acceptS;split;exact jQH a;exact Same.refl a
theorem jQW (ws:List Word)(a:PSt)(m:ByteArray):Same a (wantS ws a m):=by unfold wantS;split;exact jQH a;exact jQcm a
theorem jQ7 (ws:List Word)(a:PSt):Same a (nameS ws a):=by unfold nameS;split;exact jQbi ws a;exact(jQbi ws a).trans (jQcm _)
theorem jQeI (ws:List Word)(a:PSt):Same a (kindS ws a):=by unfold kindS;split;exact jQe9 ws a _;exact jQW ws a _
theorem jQcg (ws:List Word)(a:PSt):Same a (litS ws a):=by
 have h:=(jQe9 ws a bMinus).trans (jQbi ws _)
 unfold litS
 split
 ·exact h
 ·split
  ·exact h
  ·exact h.trans (jQcm _)
theorem jQaX (ws:List Word)(a:PSt):Same a (termS ws a):=by unfold termS;split;exact jQH a;exact jQcg ws a
theorem jQnD (ws:List Word)(a:PSt):Same a (compS ws a):=by
 have h1:=(jQaX ws a).trans (jQbi ws _)
 have h:Same a (compMid ws a):=by unfold compMid;split;exact h1;exact h1.trans (jQcm _)
 exact(h.trans (jQaX ws _)).trans (jQbI _ _)
theorem jQj9 (ws:List Word):∀f t st,Same st (cond ws f t st):=by
 intro f
 induction f with
 | zero=>intro t st;exact Same.refl _
 | succ f ih =>
  intro t st
  match t with
  | 0=>rw[cond];exact(ih 1 st).trans (ih 3 _)
  | 1=>rw[cond];exact(ih 2 st).trans (ih 4 _)
  | 2 =>
   rw[cond]
   split
   ·exact((jQH st).trans (ih 2 _)).trans (jQbI _ _)
   ·split
    ·exact((jQH st).trans (ih 0 _)).trans (jQW ws _ _)
    ·exact jQnD ws st
  | 3 =>
   rw[cond]
   split
   ·exact(((jQH st).trans (ih 1 _)).trans (jQbI _ _)).trans (ih 3 _)
   ·exact Same.refl _
  | t+4 =>
   rw[cond]
   split
   ·exact(((jQH st).trans (ih 2 _)).trans (jQbI _ _)).trans (ih 4 _)
   ·exact Same.refl _
theorem jQah (ws:List Word)(st:PSt):Same st (whereS ws st):=by
 unfold whereS
 split
 ·exact(jQH st).trans (jQj9 ws _ _ _)
 ·exact Same.refl _
structure okRead (P:Val→Prop)(n:Nat)(st:PSt):Prop where
 few:st.cols.length+st.vals.length+st.sets.length+st.items.length≤n
 vals:∀v∈st.vals,P v
 sets:∀s∈st.sets,P s.first.lit∧P s.second.lit
theorem okRead.same {P:Val→Prop}{n:Nat}{a b:PSt}(h:okRead P n a)(k:Same a b):okRead P n b:=by
 refine⟨?_,?_,?_⟩
 ·rw[k.cols,k.vals,k.sets,k.items];exact h.few
 ·rw[k.vals];exact h.vals
 ·rw[k.sets];exact h.sets
theorem okRead.mono {P:Val→Prop}{n m:Nat}{a:PSt}(h:okRead P n a)(k:n≤m):okRead P m a:=⟨Nat.le_trans h.few k,h.vals,h.sets⟩
theorem okRead.act {P:Val→Prop}{n:Nat}{a:PSt}(h:okRead P n a)(x:Int):okRead P n (setAct a x):=⟨h.few,h.vals,h.sets⟩
theorem okRead.shw {P:Val→Prop}{n:Nat}{a:PSt}(h:okRead P n a)(x:Int):okRead P n (setShow a x):=⟨h.few,h.vals,h.sets⟩
theorem okRead.table {P:Val→Prop}{n:Nat}{a:PSt}(h:okRead P n a)(ws:List Word):okRead P n (tableS ws a):=by
 have:=h.same (jQ7 ws a)
 exact⟨this.few,this.vals,this.sets⟩
theorem okRead.want {P:Val→Prop}{n:Nat}{a:PSt}(h:okRead P n a)(ws:List Word)(m:ByteArray):okRead P n (wantS ws a m):=h.same (jQW ws a m)
theorem okRead.addCol {P:Val→Prop}{n:Nat}{a:PSt}(h:okRead P n a)(c:Col):okRead P (n+1) (addCol a c):=⟨by have:=h.few;simp[Sq.addCol];omega,h.vals,h.sets⟩
theorem okRead.addItem {P:Val→Prop}{n:Nat}{a:PSt}(h:okRead P n a)(c:ByteArray):okRead P (n+1) (addItem a c):=⟨by have:=h.few;simp[Sq.addItem];omega,h.vals,h.sets⟩
theorem okRead.addVal {P:Val→Prop}{n:Nat}{a:PSt}(h:okRead P n a)(v:Val)(hv:P v):okRead P (n+1) (addVal a v):=by
 refine⟨by have:=h.few;simp[Sq.addVal];omega,?_,h.sets⟩
 intro x hx
 rcases List.mem_append.1 hx with hx | hx
 ·exact h.vals x hx
 ·simp at hx;subst hx;exact hv
theorem okRead.addSet {P:Val→Prop}{n:Nat}{a:PSt}(h:okRead P n a)(v:SetS)(hv:P v.first.lit∧P v.second.lit):okRead P (n+1) (addSet a v):=by
 refine⟨by have:=h.few;simp[Sq.addSet];omega,h.vals,?_⟩
 intro x hx
 rcases List.mem_append.1 hx with hx | hx
 ·exact h.sets x hx
 ·simp at hx;subst hx;exact hv
theorem okRead.commas {P:Val→Prop}(ws:List Word)(body:PSt→PSt)(hb:∀n st,okRead P n st→okRead P (n+1) (body st)):∀f n st,okRead P n st→okRead P (n+f) (commas ws body f st):=by
 intro f
 induction f with
 | zero=>intro n st h;exact h
 | succ f ih =>
  intro n st h
  rw[Sq.commas]
  split
  ·exact(ih (n+1) _ (hb n _ (h.same (jQH st)))).mono (by omega)
  ·exact h.mono (by omega)
theorem jQfu (ws:List Word)(hw:∀x∈ws,okWord x)(n:Nat)(st:PSt)(h:okRead goodVal n st):okRead goodVal (n+1) (valueS ws st):=(h.same (jQcg ws st)).addVal _ (jQjN ws st hw)
theorem jQeM (ws:List Word)(n:Nat)(st:PSt)(h:okRead goodVal n st):okRead goodVal (n+1) (itemS ws st):=(h.same (jQ7 ws st)).addItem _
theorem jQpt (ws:List Word)(n:Nat)(st:PSt)(h:okRead goodVal n st):okRead goodVal (n+1) (colS ws st):=((h.same (jQ7 ws st)).same (jQeI ws _)).addCol _
theorem jQki (ws:List Word)(st:PSt):Same st (asg2 ws st):=((jQ7 ws st).trans (jQW ws _ _)).trans (jQaX ws _)
theorem jQkh (ws:List Word)(hw:∀x∈ws,okWord x)(n:Nat)(st:PSt)(h:okRead goodVal n st):okRead goodVal (n+1) (asgS ws st):=by
 have h2:=jQki ws st
 have h4:Same st (asg4 ws st):=by
  unfold asg4 asg3
  split
  ·exact(h2.trans (jQH _)).trans (jQaX ws _)
  ·split
   ·exact(h2.trans (jQH _)).trans (jQaX ws _)
   ·exact h2
 refine(h.same h4).addSet _ ⟨jQbS ws _ hw,?_⟩
 show goodVal (asgSecond ws st).lit
 unfold asgSecond
 split
 ·exact jQbS ws _ hw
 ·split
  ·exact jQbS ws _ hw
  ·exact goodVal0
theorem st0_read:okRead goodVal 0 st0:=⟨by simp[st0],by simp[st0],by simp[st0]⟩
theorem jQfd (ws:List Word)(hw:∀x∈ws,okWord x)(st:PSt)(h:okRead goodVal 0 st):okRead goodVal (ws.length+2) (statementS ws st):=by
 have h':=h.same (jQbi ws st)
 unfold statementS
 split
 ·exact((okRead.commas ws _ (jQpt ws) (ws.length+1) 1 _ ((((((h'.act 1).want ws _).table ws).want ws _).same (jQ7 ws _)).want ws _ |>.addCol _)).want ws _).mono (by omega)
 ·split
  ·exact((okRead.commas ws _ (jQfu ws hw) (ws.length+1) 1 _ (jQfu ws hw 0 _ (((((h'.act 2).want ws _).table ws).want ws _).want ws _))).want ws _).mono (by omega)
  ·split
   ·exact((okRead.commas ws _ (jQkh ws hw) (ws.length+1) 1 _ (jQkh ws hw 0 _ (((h'.act 3).table ws).want ws _))).same (jQah ws _)).mono (by omega)
   ·split
    ·exact((((h'.act 4).want ws _).table ws).same (jQah ws _)).mono (by omega)
    ·split
     ·have h5:=h'.act 5
      have h6:okRead goodVal (ws.length+2) (chooseA ws (setAct (takeS ws st) 5)):=by
       unfold chooseA
       split
       ·exact((h5.same (jQH _)).shw 1).mono (by omega)
       ·split
        ·exact((h5.same (jQH _)).shw 2).mono (by omega)
        ·split
         ·exact((jQeM ws 0 _ (((h5.same (jQH _)).shw 3).want ws _)).want ws _).mono (by omega)
         ·exact(okRead.commas ws _ (jQeM ws) (ws.length+1) 1 _ (jQeM ws 0 _ (h5.shw 0))).mono (by omega)
      exact((h6.want ws _).table ws).same (jQah ws _)
     ·exact(h'.same (jQcm _)).mono (by omega)
def okWher (st:PSt):Prop:=st.wher.length≤2 * st.pos+1
theorem jQda (ws:List Word)(st:PSt)(h:st.wher=[]):okWher (whereS ws st):=by
 unfold whereS okWher
 split
 ·have h1:=(jQcD ws (8 * ws.length+7) 0 (step1 st)).2
  have h2:(step1 st).wher=[]:=h
  rw[h2] at h1
  simp[more] at h1
  omega
 ·rw[h];simp
theorem jQeZ (ws:List Word)(st:PSt):(chooseA ws st).wher=st.wher:=by
 unfold chooseA
 split
 ·rfl
 ·split
  ·rfl
  ·split
   ·rw[jQm,jQbp,jQm];rfl
   ·unfold itemsS
    rw[jQar ws _ (jQbp ws),jQbp];rfl
theorem jQfc (ws:List Word)(st:PSt)(h:st.wher=[]):okWher (statementS ws st):=by
 have h':(takeS ws st).wher=[]:=(jQau ws st).trans h
 have hz:∀a:PSt,a.wher=[]→okWher a:=fun a ha=>by unfold okWher;rw[ha];simp
 unfold statementS
 split
 ·refine hz _ ?_
  unfold createS
  simp only
  rw[jQm,jQar ws _ (jQkc ws)]
  show(wantS ws _ _).wher=[]
  rw[jQm,jQbm,jQm,jQx,jQm];exact h'
 ·split
  ·refine hz _ ?_
   unfold insertS
   simp only
   rw[jQm,jQar ws _ (jQaR ws),jQaR,jQm,jQm,jQx,jQm];exact h'
  ·split
   ·refine jQda ws _ ?_
    rw[jQar ws _ (jQcp ws),jQcp,jQm,jQx];exact h'
   ·split
    ·refine jQda ws _ ?_
     rw[jQx,jQm];exact h'
    ·split
     ·refine jQda ws _ ?_
      rw[jQx,jQm,jQeZ];exact h'
     ·exact hz _ h'
theorem jQbV (sql:ByteArray):okRead goodVal 163 (parse sql).2∧(parse sql).2.wher.length≤400:=by
 have h0:okRead goodVal 163 st0∧st0.wher.length≤400:=⟨st0_read.mono (by omega),by simp[st0]⟩
 unfold parse
 split
 ·exact h0
 ·cases h:split sql with
  | none=>exact h0
  | some ws =>
   simp only
   obtain⟨h1,h2⟩:=jQlX sql ws h
   split
   ·exact h0
   ·rename_i hs hx
    simp at hx
    have h3:=jQfc ws st0 rfl
    unfold okWher at h3
    exact⟨(jQfd ws h1 st0 st0_read).mono (by omega),by show(statementS ws st0).wher.length≤_;omega⟩
end Sq
namespace Sq
theorem jQnE (ws:List Word)(body:PSt→PSt)(hb:∀st,(body st).act=st.act):∀f st,(commas ws body f st).act=st.act:=by
 intro f
 induction f with
 | zero=>intro st;rfl
 | succ f ih =>
  intro st
  rw[Sq.commas]
  split
  ·rw[ih,hb];rfl
  ·rfl
theorem jQci (ws:List Word)(st:PSt):(itemS ws st).act=st.act:=(jQ7 ws st).act
theorem jQlb (ws:List Word)(st:PSt):(chooseA ws st).act=st.act:=by
 unfold chooseA
 split
 ·rfl
 ·split
  ·rfl
  ·split
   ·rw[(jQW ws _ _).act,jQci,(jQW ws _ _).act];rfl
   ·unfold itemsS
    rw[jQnE ws _ (jQci ws),jQci];rfl
theorem jQla (ws:List Word)(st:PSt):(chooseS ws st).act=5:=by
 unfold chooseS
 rw[(jQah ws _).act]
 show(nameS ws _).act=5
 rw[(jQ7 ws _).act,(jQW ws _ _).act,jQlb]
 rfl
theorem loop_eq (bs:ByteArray):∀(n i:Nat) (r:List UInt8),bs.size - i=n→ByteArray.toList.loop bs i r=r.reverse++bs.data.toList.drop i:=by
 intro n
 induction n with
 | zero =>
  intro i r h
  unfold ByteArray.toList.loop
  rw[if_neg (by omega),List.drop_eq_nil_of_le (by simp;omega)]
  simp
 | succ n ih =>
  intro i r h
  unfold ByteArray.toList.loop
  have hi:i < bs.data.toList.length:=by simp;omega
  rw[if_pos (by omega),ih (i+1) _ (by omega),List.drop_eq_getElem_cons hi]
  have:bs.get! i=bs.data.toList[i]:=by
   unfold ByteArray.get!
   simp at hi
   simp[hi]
  rw[this]
  simp
theorem ba_toList (b:ByteArray):b.toList=b.data.toList:=by
 show ByteArray.toList.loop b 0 []=_
 rw[loop_eq b _ 0 [] rfl];simp
end Sq
structure Sq.Span where
 lo:Int
 hi:Int
structure Sq.Sides where
 yes:Sq.Span
 no:Sq.Span
namespace Sq
def allKeys:Span:=⟨-2147483648,2147483647⟩
def hasKeys (s:Span):Bool:=Decidable.decide (s.lo≤s.hi)
def bothS (a b:Span):Span:=⟨if a.lo < b.lo then b.lo else a.lo,if b.hi < a.hi then b.hi else a.hi⟩
def eitherS (a b:Span):Span:=if hasKeys a then(if hasKeys b then⟨if b.lo < a.lo then b.lo else a.lo,if a.hi < b.hi then b.hi else a.hi⟩ else a) else b
def allSides:Sides:=⟨allKeys,allKeys⟩
def popV (l:List Sides):Sides:=l.getLast?.getD allSides
def joinV (l:List Sides)(op:ByteArray):List Sides :=
 if op.toList==[110,111,116] then l.dropLast++[⟨(popV l).no,(popV l).yes⟩]
 else if op.toList==[97,110,100] then l.dropLast.dropLast++[⟨bothS (popV l.dropLast).yes (popV l).yes,eitherS (popV l.dropLast).no (popV l).no⟩]
 else l.dropLast.dropLast++[⟨eitherS (popV l.dropLast).yes (popV l).yes,bothS (popV l.dropLast).no (popV l).no⟩]
def keysThat (op:ByteArray)(n:Int):Span :=
 if op.toList==[61] then⟨n,n⟩
 else if op.toList==[60] then⟨-2147483648,n - 1⟩
 else if op.toList==[60,61] then⟨-2147483648,n⟩
 else if op.toList==[62] then⟨n+1,2147483647⟩
 else if op.toList==[62,61] then⟨n,2147483647⟩
 else allKeys
def opEq:ByteArray:=⟨#[61]⟩
def opNe:ByteArray:=⟨#[60,62]⟩
def opLt:ByteArray:=⟨#[60]⟩
def opLe:ByteArray:=⟨#[60,61]⟩
def opGt:ByteArray:=⟨#[62]⟩
def opGe:ByteArray:=⟨#[62,61]⟩
def mirrored (op:ByteArray):ByteArray :=
 if op.toList==[60] then opGt
 else if op.toList==[60,61] then opGe
 else if op.toList==[62] then opLt
 else if op.toList==[62,61] then opLe
 else op
def contrary (op:ByteArray):ByteArray :=
 if op.toList==[61] then opNe
 else if op.toList==[60,62] then opEq
 else if op.toList==[60] then opGe
 else if op.toList==[60,61] then opGt
 else if op.toList==[62] then opLe
 else opLt
def keySides (op:ByteArray)(n:Int):Sides:=⟨keysThat op n,keysThat (contrary op) n⟩
def isKeyT (cols:List Col)(t:Term):Bool:=!t.column.toList.isEmpty && (find cols t.column==0)
def isNumT (t:Term):Bool:=t.column.toList.isEmpty && (t.lit.kind==0)
def sidesOf (cols:List Col)(s:StepS):Sides :=
 if isKeyT cols s.left && isNumT s.right then keySides s.op s.right.lit.number
 else if isNumT s.left && isKeyT cols s.right then keySides (mirrored s.op) s.left.lit.number
 else allSides
def stepV (cols:List Col)(l:List Sides)(s:StepS):List Sides:=if isComparison s.op then l++[sidesOf cols s] else joinV l s.op
def spanOf (cols:List Col)(wher:List StepS):Span:=(popV (wher.foldl (stepV cols) [])).yes
def inS (s:Span)(k:Int):Prop:=s.lo≤k∧k≤s.hi
def okS (k:Int)(b:Bool)(s:Sides):Prop:=(b=true→inS s.yes k)∧(b=false→inS s.no k)
theorem jQr5 {k:Int}(h0:-2147483648≤k)(h1:k≤2147483647):inS allKeys k:=⟨h0,h1⟩
theorem jQrT {k:Int}(h0:-2147483648≤k)(h1:k≤2147483647)(b:Bool):okS k b allSides:=⟨fun _=>jQr5 h0 h1,fun _=>jQr5 h0 h1⟩
theorem jQpS {a b:Span}{k:Int}(h:inS a k)(g:inS b k):inS (bothS a b) k:=by
 unfold inS bothS at *
 dsimp only at *
 constructor <;> split <;> omega
theorem jQdY {a b:Span}{k:Int}(h:inS a k∨inS b k):inS (eitherS a b) k:=by
 unfold inS eitherS hasKeys at *
 by_cases ha:a.lo≤a.hi
 ·rw[decide_eq_true ha,if_pos rfl]
  by_cases hb:b.lo≤b.hi
  ·rw[decide_eq_true hb,if_pos rfl]
   dsimp only
   constructor <;> split <;> omega
  ·rw[decide_eq_false hb,if_neg (by simp)]
   omega
 ·rw[decide_eq_false ha,if_neg (by simp)]
  omega
def piles (k:Int)(p:List Bool)(q:List Sides):Prop:=∃l:List (Bool×Sides),p=l.map Prod.fst∧q=l.map Prod.snd∧∀x∈l,okS k x.1 x.2
theorem piles.push {k:Int}{p:List Bool}{q:List Sides}(h:piles k p q){b:Bool}{s:Sides}(hs:okS k b s):piles k (p++[b]) (q++[s]):=by
 obtain⟨l,rfl,rfl,h3⟩:=h
 refine⟨l++[(b,s)],by simp,by simp,fun x hx=>?_⟩
 rcases List.mem_append.1 hx with hx | hx
 ·exact h3 x hx
 ·rw[List.mem_singleton] at hx;subst hx;exact hs
theorem piles.pop {k:Int}{p:List Bool}{q:List Sides}(h:piles k p q)(h0:-2147483648≤k)(h1:k≤2147483647):okS k (popB p) (popV q)∧piles k p.dropLast q.dropLast:=by
 obtain⟨l,rfl,rfl,h3⟩:=h
 refine⟨?_,l.dropLast,by rw[List.map_dropLast],by rw[List.map_dropLast],fun x hx=>h3 x ((List.dropLast_sublist l).subset hx)⟩
 unfold popB popV
 rw[List.getLast?_map,List.getLast?_map]
 cases hl:l.getLast? with
 | none=>exact jQrT h0 h1 _
 | some x=>exact h3 x (List.mem_of_getLast? hl)
theorem piles.join {k:Int}{p:List Bool}{q:List Sides}(h:piles k p q)(h0:-2147483648≤k)(h1:k≤2147483647)(op:ByteArray):piles k (joinB p op) (joinV q op):=by
 obtain⟨g1,g2⟩:=h.pop h0 h1
 obtain⟨g3,g4⟩:=g2.pop h0 h1
 unfold joinB joinV
 split
 ·refine g2.push ?_
  cases hb:popB p with
  | true=>exact⟨fun h=>by simp at h,fun _=>g1.1 hb⟩
  | false=>exact⟨fun _=>g1.2 hb,fun h=>by simp at h⟩
 ·split
  ·refine g4.push ?_
   cases hb:popB p.dropLast with
   | true=>cases hc:popB p with
    | true=>exact⟨fun _=>jQpS (g3.1 hb) (g1.1 hc),fun h=>by simp at h⟩
    | false=>exact⟨fun h=>by simp at h,fun _=>jQdY (Or.inr (g1.2 hc))⟩
   | false=>exact⟨fun h=>by simp at h,fun _=>jQdY (Or.inl (g3.2 hb))⟩
  ·refine g4.push ?_
   cases hb:popB p.dropLast with
   | true=>exact⟨fun _=>jQdY (Or.inl (g3.1 hb)),fun h=>by simp at h⟩
   | false=>cases hc:popB p with
    | true=>exact⟨fun _=>jQdY (Or.inr (g1.1 hc)),fun h=>by simp at h⟩
    | false=>exact⟨fun h=>by simp at h,fun _=>jQpS (g3.2 hb) (g1.2 hc)⟩
def cmpI (a b:Int):Int:=if a=b then 0 else if a < b then -1 else 1
theorem jQfV (a b:Int)(x y:ByteArray):compare ⟨0,a,x⟩ ⟨0,b,y⟩=cmpI a b:=by
 unfold compare cmpI sideOf
 by_cases h:a=b
 ·subst h;simp
 ·by_cases h2:a < b <;> simp[h,h2]
theorem jQso:opEq.toList=[61]:=by decide +kernel
theorem jQsn:opNe.toList=[60,62]:=by decide +kernel
theorem jQrP:opLt.toList=[60]:=by decide +kernel
theorem jQrQ:opLe.toList=[60,61]:=by decide +kernel
theorem jQrR:opGt.toList=[62]:=by decide +kernel
theorem jQrS:opGe.toList=[62,61]:=by decide +kernel
theorem is_op {op:ByteArray}(h:isComparison op=true):op.toList=[61]∨op.toList=[60,62]∨op.toList=[60]∨op.toList=[60,61]∨op.toList=[62]∨op.toList=[62,61]:=by
 unfold isComparison comparisons at h
 rw[←ba_toList] at h
 simpa using h
theorem jQnF {a b:Int}(h:a < b):cmpI a b=-1:=by unfold cmpI;rw[if_neg (by omega),if_pos h]
theorem jQnG {a b:Int}(h:b < a):cmpI a b=1:=by unfold cmpI;rw[if_neg (by omega),if_neg (by omega)]
theorem jQnH (a:Int):cmpI a a=0:=by unfold cmpI;rw[if_pos rfl]
theorem jQpO (op:ByteArray)(k n:Int)(h0:-2147483648≤k)(h1:k≤2147483647)(hop:isComparison op=true):okS k (holds op (cmpI k n)) (keySides op n):=by
 have hc:(k < n∧cmpI k n=-1)∨(k=n∧cmpI k n=0)∨(n < k∧cmpI k n=1):=by
  rcases Int.lt_trichotomy k n with h | h | h
  ·exact Or.inl ⟨h,jQnF h⟩
  ·subst h;exact Or.inr (Or.inl ⟨rfl,jQnH k⟩)
  ·exact Or.inr (Or.inr ⟨h,jQnG h⟩)
 unfold okS keySides
 rcases is_op hop with h | h | h | h | h | h
 ·have e1:keysThat op n=⟨n,n⟩:=by unfold keysThat;rw[h];rfl
  have e2:keysThat (contrary op) n=allKeys:=by have ec:contrary op=opNe:=(by unfold contrary;rw[h];rfl);rw[ec];unfold keysThat;rw[jQsn];rfl
  have e3:holds op (cmpI k n)=(cmpI k n==0):=by unfold holds;rw[h];rfl
  rw[e1,e2,e3]
  rcases hc with⟨g,e⟩ | ⟨g,e⟩ | ⟨g,e⟩ <;> rw[e] <;> refine⟨fun q=>?_,fun q=>?_⟩ <;> first | (exfalso;simp at q;done) | (unfold inS allKeys;constructor <;> dsimp only <;> omega) | (unfold inS;constructor <;> dsimp only <;> omega)
 ·have e1:keysThat op n=allKeys:=by unfold keysThat;rw[h];rfl
  have e2:keysThat (contrary op) n=⟨n,n⟩:=by have ec:contrary op=opEq:=(by unfold contrary;rw[h];rfl);rw[ec];unfold keysThat;rw[jQso];rfl
  have e3:holds op (cmpI k n)=(cmpI k n != 0):=by unfold holds;rw[h];rfl
  rw[e1,e2,e3]
  rcases hc with⟨g,e⟩ | ⟨g,e⟩ | ⟨g,e⟩ <;> rw[e] <;> refine⟨fun q=>?_,fun q=>?_⟩ <;> first | (exfalso;simp at q;done) | (unfold inS allKeys;constructor <;> dsimp only <;> omega) | (unfold inS;constructor <;> dsimp only <;> omega)
 ·have e1:keysThat op n=⟨-2147483648,n - 1⟩:=by unfold keysThat;rw[h];rfl
  have e2:keysThat (contrary op) n=⟨n,2147483647⟩:=by have ec:contrary op=opGe:=(by unfold contrary;rw[h];rfl);rw[ec];unfold keysThat;rw[jQrS];rfl
  have e3:holds op (cmpI k n)=Decidable.decide (cmpI k n < 0):=by unfold holds;rw[h];rfl
  rw[e1,e2,e3]
  rcases hc with⟨g,e⟩ | ⟨g,e⟩ | ⟨g,e⟩ <;> rw[e] <;> refine⟨fun q=>?_,fun q=>?_⟩ <;> first | (exfalso;simp at q;done) | (unfold inS allKeys;constructor <;> dsimp only <;> omega) | (unfold inS;constructor <;> dsimp only <;> omega)
 ·have e1:keysThat op n=⟨-2147483648,n⟩:=by unfold keysThat;rw[h];rfl
  have e2:keysThat (contrary op) n=⟨n+1,2147483647⟩:=by have ec:contrary op=opGt:=(by unfold contrary;rw[h];rfl);rw[ec];unfold keysThat;rw[jQrR];rfl
  have e3:holds op (cmpI k n)=Decidable.decide (cmpI k n≤0):=by unfold holds;rw[h];rfl
  rw[e1,e2,e3]
  rcases hc with⟨g,e⟩ | ⟨g,e⟩ | ⟨g,e⟩ <;> rw[e] <;> refine⟨fun q=>?_,fun q=>?_⟩ <;> first | (exfalso;simp at q;done) | (unfold inS allKeys;constructor <;> dsimp only <;> omega) | (unfold inS;constructor <;> dsimp only <;> omega)
 ·have e1:keysThat op n=⟨n+1,2147483647⟩:=by unfold keysThat;rw[h];rfl
  have e2:keysThat (contrary op) n=⟨-2147483648,n⟩:=by have ec:contrary op=opLe:=(by unfold contrary;rw[h];rfl);rw[ec];unfold keysThat;rw[jQrQ];rfl
  have e3:holds op (cmpI k n)=Decidable.decide (0 < cmpI k n):=by unfold holds;rw[h];rfl
  rw[e1,e2,e3]
  rcases hc with⟨g,e⟩ | ⟨g,e⟩ | ⟨g,e⟩ <;> rw[e] <;> refine⟨fun q=>?_,fun q=>?_⟩ <;> first | (exfalso;simp at q;done) | (unfold inS allKeys;constructor <;> dsimp only <;> omega) | (unfold inS;constructor <;> dsimp only <;> omega)
 ·have e1:keysThat op n=⟨n,2147483647⟩:=by unfold keysThat;rw[h];rfl
  have e2:keysThat (contrary op) n=⟨-2147483648,n - 1⟩:=by have ec:contrary op=opLt:=(by unfold contrary;rw[h];rfl);rw[ec];unfold keysThat;rw[jQrP];rfl
  have e3:holds op (cmpI k n)=Decidable.decide (0≤cmpI k n):=by unfold holds;rw[h];rfl
  rw[e1,e2,e3]
  rcases hc with⟨g,e⟩ | ⟨g,e⟩ | ⟨g,e⟩ <;> rw[e] <;> refine⟨fun q=>?_,fun q=>?_⟩ <;> first | (exfalso;simp at q;done) | (unfold inS allKeys;constructor <;> dsimp only <;> omega) | (unfold inS;constructor <;> dsimp only <;> omega)
theorem jQfK {op:ByteArray}(h:isComparison op=true):isComparison (mirrored op)=true∧∀a b:Int,holds op (cmpI a b)=holds (mirrored op) (cmpI b a):=by
 have hc:∀a b:Int,(cmpI a b=-1∧cmpI b a=1)∨(cmpI a b=0∧cmpI b a=0)∨(cmpI a b=1∧cmpI b a=-1):=by
  intro a b
  rcases Int.lt_trichotomy a b with h | h | h
  ·exact Or.inl ⟨jQnF h,jQnG h⟩
  ·subst h;exact Or.inr (Or.inl ⟨jQnH a,jQnH a⟩)
  ·exact Or.inr (Or.inr ⟨jQnG h,jQnF h⟩)
 rcases is_op h with g | g | g | g | g | g
 ·have e:mirrored op=op:=by unfold mirrored;rw[g];rfl
  rw[e]
  refine⟨h,fun a b=>?_⟩
  unfold holds
  rw[g]
  rcases hc a b with⟨e1,e2⟩ | ⟨e1,e2⟩ | ⟨e1,e2⟩ <;> rw[e1,e2] <;> rfl
 ·have e:mirrored op=op:=by unfold mirrored;rw[g];rfl
  rw[e]
  refine⟨h,fun a b=>?_⟩
  unfold holds
  rw[g]
  rcases hc a b with⟨e1,e2⟩ | ⟨e1,e2⟩ | ⟨e1,e2⟩ <;> rw[e1,e2] <;> rfl
 ·have e:mirrored op=opGt:=by unfold mirrored;rw[g];rfl
  rw[e]
  refine⟨by decide +kernel,fun a b=>?_⟩
  unfold holds
  rw[g,jQrR]
  rcases hc a b with⟨e1,e2⟩ | ⟨e1,e2⟩ | ⟨e1,e2⟩ <;> rw[e1,e2] <;> rfl
 ·have e:mirrored op=opGe:=by unfold mirrored;rw[g];rfl
  rw[e]
  refine⟨by decide +kernel,fun a b=>?_⟩
  unfold holds
  rw[g,jQrS]
  rcases hc a b with⟨e1,e2⟩ | ⟨e1,e2⟩ | ⟨e1,e2⟩ <;> rw[e1,e2] <;> rfl
 ·have e:mirrored op=opLt:=by unfold mirrored;rw[g];rfl
  rw[e]
  refine⟨by decide +kernel,fun a b=>?_⟩
  unfold holds
  rw[g,jQrP]
  rcases hc a b with⟨e1,e2⟩ | ⟨e1,e2⟩ | ⟨e1,e2⟩ <;> rw[e1,e2] <;> rfl
 ·have e:mirrored op=opLe:=by unfold mirrored;rw[g];rfl
  rw[e]
  refine⟨by decide +kernel,fun a b=>?_⟩
  unfold holds
  rw[g,jQrQ]
  rcases hc a b with⟨e1,e2⟩ | ⟨e1,e2⟩ | ⟨e1,e2⟩ <;> rw[e1,e2] <;> rfl
theorem jQi7 {cols:List Col}{t:Term}{k:Int}{x:ByteArray}{r:List Val}(h:isKeyT cols t=true):valueOf cols (⟨0,k,x⟩ :: r) t=⟨0,k,x⟩:=by
 unfold isKeyT at h
 rw[Bool.and_eq_true] at h
 obtain⟨h1,h2⟩:=h
 have h3:find cols t.column=0:=by simpa using h2
 unfold valueOf cellOf
 rw[if_neg (by simpa using h1),h3,if_neg (by decide)]
 rfl
theorem jQi6 {cols:List Col}{t:Term}{row:List Val}(h:isNumT t=true):∃x,valueOf cols row t=⟨0,t.lit.number,x⟩:=by
 unfold isNumT at h
 rw[Bool.and_eq_true] at h
 obtain⟨h1,h2⟩:=h
 have h3:t.lit.kind=0:=by simpa using h2
 refine⟨t.lit.text,?_⟩
 unfold valueOf
 rw[if_pos h1]
 obtain⟨col,⟨kd,nu,te⟩⟩:=t
 dsimp only at h3
 subst h3
 rfl
theorem jQqG (cols:List Col)(s:StepS)(k:Int)(x:ByteArray)(r:List Val)(h0:-2147483648≤k)(h1:k≤2147483647)(hop:isComparison s.op=true):okS k (compared cols (⟨0,k,x⟩ :: r) s) (sidesOf cols s):=by
 unfold sidesOf
 split
 ·rename_i h
  rw[Bool.and_eq_true] at h
  obtain⟨y,hy⟩:=jQi6 (cols:=cols) (row:=⟨0,k,x⟩ :: r) h.2
  unfold compared
  rw[jQi7 h.1,hy,jQfV]
  exact jQpO _ _ _ h0 h1 hop
 ·split
  ·rename_i h
   rw[Bool.and_eq_true] at h
   obtain⟨y,hy⟩:=jQi6 (cols:=cols) (row:=⟨0,k,x⟩ :: r) h.1
   unfold compared
   rw[jQi7 h.2,hy,jQfV,(jQfK hop).2]
   exact jQpO _ _ _ h0 h1 (jQfK hop).1
  ·exact jQrT h0 h1 _
theorem jQlZ (cols:List Col)(wher:List StepS)(k:Int)(x:ByteArray)(r:List Val)(h0:-2147483648≤k)(h1:k≤2147483647)(h:meets cols (⟨0,k,x⟩ :: r) wher=true):inS (spanOf cols wher) k:=by
 have hp:∀(l:List StepS) (p:List Bool) (q:List Sides),piles k p q→piles k (l.foldl (stepB cols (⟨0,k,x⟩ :: r)) p) (l.foldl (stepV cols) q):=by
  intro l
  induction l with
  | nil=>intro p q h;exact h
  | cons s l ih =>
   intro p q h
   refine ih _ _ ?_
   unfold stepB stepV
   by_cases hc:isComparison s.op=true
   ·rw[if_pos hc,if_pos hc]
    exact h.push (jQqG cols s k x r h0 h1 hc)
   ·rw[if_neg hc,if_neg hc]
    exact h.join h0 h1 _
 have h2:=((hp wher [] [] ⟨[],rfl,rfl,fun y hy=>by cases hy⟩).pop h0 h1).1
 unfold meets at h
 unfold spanOf
 split at h
 ·rename_i he
  cases wher with
  | nil=>exact⟨h0,h1⟩
  | cons s l=>simp at he
 ·exact h2.1 h
end Sq
structure Sq.OutR where
 reply:ByteArray
 makes:Bool
 tab:Sq.TabN
 puts:List (List Sq.Val)
 cuts:List Int
namespace Sq
def tabNone:TabN:=⟨0,nobytes,[]⟩
def refusedR (e:Int):OutR:=⟨errText e,false,tabNone,[],[]⟩
def findR (n:ByteArray):List TabN→Option TabN
 | []=>none
 | t :: r=>if t.name.toList==n.toList then some t else findR n r
def lastR (m:Int)(l:List TabN):Int:=l.foldl (fun m t=>if m < t.number then t.number else m) m
def loseIf (b:Bool)(tr:Trl):Trl:=⟨tr.lost || b,tr.nums⟩
def tabOk (e:Ent):Option TabN:=(tabOf e).bind fun t=>if 1≤t.number∧t.number≤5 then some t else none
def tabsR (X:NTree)(tr:Trl):List TabN×Trl :=
 ((X.thru (placeOf 0 (-2147483648)) (placeOf 0 2147483647) tr).1.filterMap tabOk,loseIf ((X.thru (placeOf 0 (-2147483648)) (placeOf 0 2147483647) tr).1.any fun e=>(tabOk e).isNone) (X.thru (placeOf 0 (-2147483648)) (placeOf 0 2147483647) tr).2)
def rowsR (X:NTree)(t:TabN)(lo hi:Int)(tr:Trl):List (List Val)×Trl :=
 ((X.thru (placeOf t.number lo) (placeOf t.number hi) tr).1.filterMap (rowOf t.cols),loseIf ((X.thru (placeOf t.number lo) (placeOf t.number hi) tr).1.any fun e=>(rowOf t.cols e).isNone) (X.thru (placeOf t.number lo) (placeOf t.number hi) tr).2)
def spannedR (X:NTree)(t:TabN)(wher:List StepS)(tr:Trl):List (List Val)×Trl :=
 if hasKeys (spanOf t.cols wher) then rowsR X t (spanOf t.cols wher).lo (spanOf t.cols wher).hi tr else([],tr)
def createR (ts:List TabN)(size:Int)(st:PSt):OutR :=
 if(findR st.table ts).isSome then refusedR 5
 else if 4 < st.cols.length then refusedR 6
 else if twoOf st.cols then refusedR 5
 else if 5≤ts.length then refusedR 10
 else if 60≤size then refusedR 10
 else⟨counted 0,true,⟨lastR 0 ts+1,st.table,st.cols⟩,[],[]⟩
def insertO (has:Bool)(size:Int)(t:TabN)(vals:List Val):OutR :=
 if has then refusedR 8 else if 60≤size then refusedR 10 else⟨counted 1,false,t,[vals],[]⟩
def insertR (X:NTree)(t:TabN)(vals:List Val)(tr:Trl):OutR×Trl :=
 (insertO (X.has (placeOf t.number (keyOf vals)) tr).1 X.head.rows t vals,(X.has (placeOf t.number (keyOf vals)) tr).2)
def updatedR (t:TabN):Option (List (List Val))→OutR
 | some puts=>⟨counted puts.length,false,t,puts,[]⟩
 | none=>refusedR 9
def updateR (t:TabN)(rows:List (List Val))(sets:List SetS):OutR:=updatedR t (updateFrom t.cols sets rows [])
def removeR (t:TabN)(rows:List (List Val)):OutR:=⟨counted rows.length,false,t,[],rows.map keyOf⟩
def askedR (t:TabN)(rows:List (List Val))(st:PSt):OutR :=
 if st.act==3 then updateR t rows st.sets
 else if st.act==4 then removeR t rows
 else⟨showR t.cols rows st,false,tabNone,[],[]⟩
def decideTabR (X:NTree)(t:TabN)(st:PSt)(tr:Trl):OutR×Trl :=
 if check t.cols st != 0 then(refusedR (check t.cols st),tr)
 else if st.act==2 then insertR X t st.vals tr
 else(askedR t (metN t.cols (spannedR X t st.wher tr).1 st.wher) st,(spannedR X t st.wher tr).2)
def decideStR (X:NTree)(st:PSt)(ts:List TabN)(tr:Trl):OutR×Trl :=
 if st.act==1 then(createR ts X.head.rows st,tr)
 else match findR st.table ts with
  | some t=>decideTabR X t st tr
  | none=>(refusedR 4,tr)
def decideR (X:NTree)(sql:ByteArray)(tr:Trl):OutR×Trl :=
 if(parse sql).1 != 0 then(refusedR (parse sql).1,tr) else decideStR X (parse sql).2 (tabsR X tr).1 (tabsR X tr).2
def madeR (o:OutR)(x:NTree×Trl):NTree×Trl:=if o.makes then x.1.put ⟨placeOf 0 o.tab.number,ofTable o.tab.name o.tab.cols⟩ x.2 else x
def putsR (tb:Int)(puts:List (List Val))(x:NTree×Trl):NTree×Trl:=puts.foldl (fun x r=>x.1.put ⟨placeOf tb (keyOf r),ofCells r⟩ x.2) x
def cutsR (tb:Int)(cuts:List Int)(x:NTree×Trl):NTree×Trl:=cuts.foldl (fun x k=>x.1.del (placeOf tb k) x.2) x
def applyR (o:OutR)(x:NTree×Trl):NTree×Trl:=cutsR o.tab.number o.cuts (putsR o.tab.number o.puts (madeR o x))
def runR (X:NTree)(sql:ByteArray)(tr:Trl):ByteArray×NTree×Trl:=((decideR X sql tr).1.reply,applyR (decideR X sql tr).1 (X,(decideR X sql tr).2))
end Sq
end Go.Proofs.YtahpihjialbanaaGreatDoor
namespace Go.Proofs
open Go.Shelf
def Tryz.laysM246_ren : Go.Shelf.Ren := ⟨fun | 246 => 192 | 283 => 218 | 284 => 219 | 285 => 220 | 286 => 221 | 129 => 230 | 317 => 229 | 318 => 231 | 319 => 232 | 320 => 233 | 337 => 235 | 338 => 236 | n => n, fun | 2 => 2 | 3 => 3 | 9 => 9 | 4 => 4 | 171 => 269 | 0 => 0 | 53 => 186 | 37 => 55 | 5 => 5 | 173 => 272 | 212 => 279 | 51 => 143 | 20 => 20 | 213 => 280 | 46 => 86 | 232 => 283 | 233 => 284 | n => n, fun | 17 => 1 | 18 => 2 | 19 => 3 | n => n⟩
def Tryz.laysM243_ren : Go.Shelf.Ren := ⟨fun | 243 => 144 | 246 => 192 | 283 => 218 | 284 => 219 | 285 => 220 | 286 => 221 | 129 => 230 | 317 => 229 | 318 => 231 | 319 => 232 | 320 => 233 | 337 => 235 | 338 => 236 | n => n, fun | 3 => 3 | 9 => 9 | 2 => 2 | 4 => 4 | 171 => 269 | 0 => 0 | 53 => 186 | 37 => 55 | 5 => 5 | 173 => 272 | 212 => 279 | 51 => 143 | 20 => 20 | 213 => 280 | 46 => 86 | 232 => 283 | 233 => 284 | n => n, fun | 17 => 1 | 18 => 2 | 19 => 3 | n => n⟩
def Tryz.laysM171_ren : Go.Shelf.Ren := ⟨fun | 171 => 102 | 243 => 144 | 246 => 192 | 283 => 218 | 284 => 219 | 285 => 220 | 286 => 221 | 129 => 230 | 317 => 229 | 318 => 231 | 319 => 232 | 320 => 233 | 337 => 235 | 338 => 236 | n => n, fun | 3 => 3 | 9 => 9 | 2 => 2 | 4 => 4 | 171 => 269 | 0 => 0 | 53 => 186 | 37 => 55 | 5 => 5 | 173 => 272 | 212 => 279 | 51 => 143 | 20 => 20 | 213 => 280 | 46 => 86 | 232 => 283 | 233 => 284 | n => n, fun | 17 => 1 | 18 => 2 | 19 => 3 | n => n⟩
theorem Tryz.laysM171 : Go.Proofs.LaysM.n171 Tryz.prog Tryz.laysM171_ren := {
  mixed := by kernel_rfl
  f129 := Tryz.func230.trans (congrArg some (by kernel_rfl))
  f171 := Tryz.func102.trans (congrArg some (by kernel_rfl))
  f243 := Tryz.func144.trans (congrArg some (by kernel_rfl))
  f246 := Tryz.func192.trans (congrArg some (by kernel_rfl))
  f283 := Tryz.func218.trans (congrArg some (by kernel_rfl))
  f284 := Tryz.func219.trans (congrArg some (by kernel_rfl))
  f285 := Tryz.func220.trans (congrArg some (by kernel_rfl))
  f286 := Tryz.func221.trans (congrArg some (by kernel_rfl))
  f317 := Tryz.func229.trans (congrArg some (by kernel_rfl))
  f318 := Tryz.func231.trans (congrArg some (by kernel_rfl))
  f319 := Tryz.func232.trans (congrArg some (by kernel_rfl))
  f320 := Tryz.func233.trans (congrArg some (by kernel_rfl))
  f337 := Tryz.func235.trans (congrArg some (by kernel_rfl))
  f338 := Tryz.func236.trans (congrArg some (by kernel_rfl))
  t0 := Tryz.underlying0
  a0 := Tryz.isAgg0
  z0 := Tryz.sizeOf0
  v0 := Tryz.zeroValue0
  t2 := Tryz.underlying2
  a2 := Tryz.isAgg2
  z2 := Tryz.sizeOf2
  v2 := Tryz.zeroValue2
  t3 := Tryz.underlying3
  a3 := Tryz.isAgg3
  z3 := Tryz.sizeOf3
  v3 := Tryz.zeroValue3
  t4 := Tryz.underlying4
  a4 := Tryz.isAgg4
  z4 := Tryz.sizeOf4
  v4 := Tryz.zeroValue4
  t5 := Tryz.underlying5
  a5 := Tryz.isAgg5
  z5 := Tryz.sizeOf5
  v5 := Tryz.zeroValue5
  t9 := Tryz.underlying9
  a9 := Tryz.isAgg9
  z9 := Tryz.sizeOf9
  v9 := Tryz.zeroValue9
  t20 := Tryz.underlying20
  a20 := Tryz.isAgg20
  z20 := Tryz.sizeOf20
  v20 := Tryz.zeroValue20
  t37 := Tryz.underlying55
  a37 := Tryz.isAgg55
  z37 := Tryz.sizeOf55
  v37 := Tryz.zeroValue55
  t46 := Tryz.underlying86
  a46 := Tryz.isAgg86
  z46 := Tryz.sizeOf86
  v46 := Tryz.zeroValue86
  t51 := Tryz.underlying143
  a51 := Tryz.isAgg143
  z51 := Tryz.sizeOf143
  v51 := Tryz.zeroValue143
  t53 := Tryz.underlying186
  a53 := Tryz.isAgg186
  z53 := Tryz.sizeOf186
  v53 := Tryz.zeroValue186
  t171 := Tryz.underlying269
  a171 := Tryz.isAgg269
  z171 := Tryz.sizeOf269
  v171 := Tryz.zeroValue269
  t173 := Tryz.underlying272
  a173 := Tryz.isAgg272
  z173 := Tryz.sizeOf272
  v173 := Tryz.zeroValue272
  t212 := Tryz.underlying279
  a212 := Tryz.isAgg279
  z212 := Tryz.sizeOf279
  v212 := Tryz.zeroValue279
  t213 := Tryz.underlying280
  a213 := Tryz.isAgg280
  z213 := Tryz.sizeOf280
  t232 := Tryz.underlying283
  a232 := Tryz.isAgg283
  z232 := Tryz.sizeOf283
  v232 := Tryz.zeroValue283
  t233 := Tryz.underlying284
  a233 := Tryz.isAgg284
  z233 := Tryz.sizeOf284
  v233 := Tryz.zeroValue284
  g17 := by kernel_rfl
  g18 := by kernel_rfl
  g19 := by kernel_rfl
  i0 := by kernel_rfl
  i2 := by kernel_rfl
  i3 := by kernel_rfl
  i4 := by kernel_rfl
  i5 := by kernel_rfl
  i9 := by kernel_rfl
  i20 := by kernel_rfl
  i37 := by kernel_rfl
  i46 := by kernel_rfl
  i51 := by kernel_rfl
  i53 := by kernel_rfl
  i171 := by kernel_rfl
  i173 := by kernel_rfl
  i212 := by kernel_rfl
  i232 := by kernel_rfl
  i233 := by kernel_rfl
  m17 := by kernel_rfl
  m18 := by kernel_rfl
  m19 := by kernel_rfl }
open Go.RowKit Go.Sort Go.Lib in
theorem Tryz.strconv_Itoa (n : Int) (h0 : -9223372036854775808 ≤ n) (h1 : n ≤ 9223372036854775807) (w : World) (htab : Lib.TabIs Tryz.prog w "internal/strconv.uint64pow10" .u64 Lib.pow10Tab) :
    Calls Tryz.prog 102 #[.int .i64 n] w fun e w' => e = .returned (.string ⟨(Lib.itoa n).toArray⟩) ∧ ∃ k os, w' = grow (w.drewN k) os := Any.strconv_Itoa Tryz.laysM171 n h0 h1 w htab
def Tryz.laysM173_ren : Go.Shelf.Ren := ⟨fun | 173 => 166 | 246 => 192 | 283 => 218 | 284 => 219 | 285 => 220 | 286 => 221 | 129 => 230 | 317 => 229 | 318 => 231 | 319 => 232 | 320 => 233 | 337 => 235 | 338 => 236 | n => n, fun | 2 => 2 | 3 => 3 | 9 => 9 | 4 => 4 | 171 => 269 | 0 => 0 | 53 => 186 | 37 => 55 | 5 => 5 | 173 => 272 | 212 => 279 | 51 => 143 | 20 => 20 | 213 => 280 | 46 => 86 | 232 => 283 | 233 => 284 | n => n, fun | 17 => 1 | 18 => 2 | 19 => 3 | n => n⟩
theorem Tryz.laysM173 : Go.Proofs.LaysM.n173 Tryz.prog Tryz.laysM173_ren := {
  mixed := by kernel_rfl
  f129 := Tryz.func230.trans (congrArg some (by kernel_rfl))
  f173 := Tryz.func166.trans (congrArg some (by kernel_rfl))
  f246 := Tryz.func192.trans (congrArg some (by kernel_rfl))
  f283 := Tryz.func218.trans (congrArg some (by kernel_rfl))
  f284 := Tryz.func219.trans (congrArg some (by kernel_rfl))
  f285 := Tryz.func220.trans (congrArg some (by kernel_rfl))
  f286 := Tryz.func221.trans (congrArg some (by kernel_rfl))
  f317 := Tryz.func229.trans (congrArg some (by kernel_rfl))
  f318 := Tryz.func231.trans (congrArg some (by kernel_rfl))
  f319 := Tryz.func232.trans (congrArg some (by kernel_rfl))
  f320 := Tryz.func233.trans (congrArg some (by kernel_rfl))
  f337 := Tryz.func235.trans (congrArg some (by kernel_rfl))
  f338 := Tryz.func236.trans (congrArg some (by kernel_rfl))
  t0 := Tryz.underlying0
  a0 := Tryz.isAgg0
  z0 := Tryz.sizeOf0
  v0 := Tryz.zeroValue0
  t2 := Tryz.underlying2
  a2 := Tryz.isAgg2
  z2 := Tryz.sizeOf2
  v2 := Tryz.zeroValue2
  t3 := Tryz.underlying3
  a3 := Tryz.isAgg3
  z3 := Tryz.sizeOf3
  v3 := Tryz.zeroValue3
  t4 := Tryz.underlying4
  a4 := Tryz.isAgg4
  z4 := Tryz.sizeOf4
  v4 := Tryz.zeroValue4
  t5 := Tryz.underlying5
  a5 := Tryz.isAgg5
  z5 := Tryz.sizeOf5
  v5 := Tryz.zeroValue5
  t9 := Tryz.underlying9
  a9 := Tryz.isAgg9
  z9 := Tryz.sizeOf9
  v9 := Tryz.zeroValue9
  t20 := Tryz.underlying20
  a20 := Tryz.isAgg20
  z20 := Tryz.sizeOf20
  v20 := Tryz.zeroValue20
  t37 := Tryz.underlying55
  a37 := Tryz.isAgg55
  z37 := Tryz.sizeOf55
  v37 := Tryz.zeroValue55
  t46 := Tryz.underlying86
  a46 := Tryz.isAgg86
  z46 := Tryz.sizeOf86
  v46 := Tryz.zeroValue86
  t51 := Tryz.underlying143
  a51 := Tryz.isAgg143
  z51 := Tryz.sizeOf143
  v51 := Tryz.zeroValue143
  t53 := Tryz.underlying186
  a53 := Tryz.isAgg186
  z53 := Tryz.sizeOf186
  v53 := Tryz.zeroValue186
  t171 := Tryz.underlying269
  a171 := Tryz.isAgg269
  z171 := Tryz.sizeOf269
  v171 := Tryz.zeroValue269
  t173 := Tryz.underlying272
  a173 := Tryz.isAgg272
  z173 := Tryz.sizeOf272
  v173 := Tryz.zeroValue272
  t212 := Tryz.underlying279
  a212 := Tryz.isAgg279
  z212 := Tryz.sizeOf279
  v212 := Tryz.zeroValue279
  t213 := Tryz.underlying280
  a213 := Tryz.isAgg280
  z213 := Tryz.sizeOf280
  t232 := Tryz.underlying283
  a232 := Tryz.isAgg283
  z232 := Tryz.sizeOf283
  v232 := Tryz.zeroValue283
  t233 := Tryz.underlying284
  a233 := Tryz.isAgg284
  z233 := Tryz.sizeOf284
  v233 := Tryz.zeroValue284
  g17 := by kernel_rfl
  g18 := by kernel_rfl
  g19 := by kernel_rfl
  i0 := by kernel_rfl
  i2 := by kernel_rfl
  i3 := by kernel_rfl
  i4 := by kernel_rfl
  i5 := by kernel_rfl
  i9 := by kernel_rfl
  i20 := by kernel_rfl
  i37 := by kernel_rfl
  i46 := by kernel_rfl
  i51 := by kernel_rfl
  i53 := by kernel_rfl
  i171 := by kernel_rfl
  i173 := by kernel_rfl
  i212 := by kernel_rfl
  i232 := by kernel_rfl
  i233 := by kernel_rfl
  m17 := by kernel_rfl
  m18 := by kernel_rfl
  m19 := by kernel_rfl }
open Go.RowKit Go.Sort Go.Lib in
theorem Tryz.strconv_FormatInt_10 (n : Int) (h0 : -9223372036854775808 ≤ n) (h1 : n ≤ 9223372036854775807) (w : World) (htab : Lib.TabIs Tryz.prog w "internal/strconv.uint64pow10" .u64 Lib.pow10Tab) :
    Calls Tryz.prog 166 #[.int .i64 n, .int .i64 10] w fun e w' => e = .returned (.string ⟨(Lib.itoa n).toArray⟩) ∧ ∃ k os, w' = grow (w.drewN k) os := Any.strconv_FormatInt_10 Tryz.laysM173 n h0 h1 w htab
end Go.Proofs
namespace Go.Proofs.YtahpihjialbanaaGreatDoor
section
open Go.RowKit
def Tbl (w:World):Prop:=Lib.TabIs Tryz.prog w "internal/strconv.uint64pow10" .u64 Lib.pow10Tab
theorem Tbl.below {w w':World}(h:Tbl w)(hb:Below w.heap.size w w'):Tbl w':=Lib.tabBelow_of_tabIs h w' hb
theorem Tbl.alloc {w:World}(h:Tbl w)(o:Obj):Tbl (w.alloc o):=h.below ((Below.refl _ _).alloc (Nat.le_refl _) _)
theorem jQna (n:Int)(w:World)(h0:-1000000000000000000≤n)(h1:n≤1000000000000000000)(hT:Tbl w) :
  Calls Tryz.prog 102 #[.int .i64 n] w fun e w'=>e=.returned (.string (Sq.itoa n))∧Below w.heap.size w w':=by
 refine(Tryz.strconv_Itoa n (by omega) (by omega) w hT).mono ?_
 rintro e w' ⟨rfl,k,os,rfl⟩
 exact⟨rfl,Lib.below_grow _ _ (Nat.le_refl _) _ _⟩
theorem jQdD (n:Int)(w:World)(h0:-1000000000000000000≤n)(h1:n≤1000000000000000000)(hT:Tbl w) :
  Calls Tryz.prog 166 #[.int .i64 n,.int .i64 10] w fun e w'=>e=.returned (.string (Sq.itoa n))∧Below w.heap.size w w':=by
 refine(Tryz.strconv_FormatInt_10 n (by omega) (by omega) w hT).mono ?_
 rintro e w' ⟨rfl,k,os,rfl⟩
 exact⟨rfl,Lib.below_grow _ _ (Nat.le_refl _) _ _⟩
theorem jQbE (n:Int)(h0:-1000000000000000000≤n)(h1:n≤1000000000000000000):(Sq.itoa n).size≤21:=by
 have:=Lib.itoa_length_le n (by omega) (by omega)
 show(Lib.itoa n).toArray.size≤21
 simpa using this
theorem jQaT (n:Int)(w:World)(h0:0≤n)(h1:n≤1000000)(hT:Tbl w) :
  Calls Tryz.prog 109 #[.int .i64 n] w fun e w'=>e=.returned (.string (Sq.counted n))∧Below w.heap.size w w':=by
 have HT:=hd hT
 have hsz:=jQbE n (by omega) (by omega)
 clear hT
 go_enter Tryz.func109,Tryz.ntmps109
 go_wp2_with fail
 refine(jQna n _ (by omega) (by omega) HT.out).mono ?_
 rintro e w1 ⟨rfl,hb1⟩
 go_wp2
 go_ret
 exact⟨rfl,hb1⟩
structure OutAt (w:World)(o:Sq.OutR)(cv pv kv:Value):Prop where
 cols:ColsAt w cv o.tab.cols
 puts:RowsOwn 0 w pv o.puts
 cuts:w.ownsRow 0 2 1 kv o.cuts.length (o.cuts.map (Value.int .i64))
 nputs:o.puts.length≤100000
 ncuts:o.cuts.length≤100000
def outCells (o:Sq.OutR)(cv pv kv:Value):Array Value:=#[.string o.reply,.bool o.makes,.int .i64 o.tab.number,.string o.tab.name,cv,pv,kv]
theorem OutAt.below {w w':World}{o:Sq.OutR}{cv pv kv:Value}(h:OutAt w o cv pv kv)(hb:Below w.heap.size w w'):OutAt w' o cv pv kv :=
 ⟨h.cols.below hb,h.puts.below hb,jQh h.cuts hb,h.nputs,h.ncuts⟩
theorem OutAt.none (w:World)(o:Sq.OutR)(h1:o.tab.cols=[])(h2:o.puts=[])(h3:o.cuts=[]):OutAt w o (.slice none 0 0) (.slice none 0 0) (.slice none 0 0):=by
 refine⟨⟨?_,?_⟩,?_,?_,?_,?_⟩
 ·rw[h1];exact World.ownsRow_nil _ _ _ _
 ·rw[h1];simp
 ·rw[h2];exact RowsOwn.nil _ _
 ·rw[h3];exact World.ownsRow_nil _ _ _ _
 ·rw[h2];simp
 ·rw[h3];simp
theorem jQaj (n:Int)(w:World)(h0:0≤n)(h1:n≤1000000)(hT:Tbl w) :
  Calls Tryz.prog 68 #[.int .i64 n] w fun e w'=>e=.returned (.agg (outCells (Sq.refusedR n) (.slice none 0 0) (.slice none 0 0) (.slice none 0 0)))∧Below w.heap.size w w':=by
 have HT:=hd hT
 have hsz:=jQbE n (by omega) (by omega)
 clear hT
 go_enter Tryz.func68,Tryz.ntmps68
 go_wp2_with fail
 refine(jQna n _ (by omega) (by omega) (HT.out.alloc _)).mono ?_
 rintro e w1 ⟨rfl,hb1⟩
 have hbw:Below w.heap.size w w1:=((Below.refl _ w).alloc (Nat.le_refl _) _).trans (hb1.mono (by simp))
 obtain⟨k1,k2⟩:=bcell hb1
 have a0:=k1 w.heap.size 0 (by simp)
 have a1:=k1 w.heap.size 1 (by simp)
 have a2:=k1 w.heap.size 2 (by simp)
 have a3:=k1 w.heap.size 3 (by simp)
 have a4:=k1 w.heap.size 4 (by simp)
 have a5:=k1 w.heap.size 5 (by simp)
 have a6:=k1 w.heap.size 6 (by simp)
 have b0:=k2 w.heap.size 0 (by simp)
 have b1:=k2 w.heap.size 1 (by simp)
 have b2:=k2 w.heap.size 2 (by simp)
 have b3:=k2 w.heap.size 3 (by simp)
 have b4:=k2 w.heap.size 4 (by simp)
 have b5:=k2 w.heap.size 5 (by simp)
 have b6:=k2 w.heap.size 6 (by simp)
 simp[go_sem] at a0 a1 a2 a3 a4 a5 a6 b0 b1 b2 b3 b4 b5 b6
 have hz:w.heap.size < w1.heap.size:=by have:=hb1.size;simp at this;omega
 clear k1 k2 hb1
 go_wp2
 refine bodyPost_ret (v:=.agg (outCells (Sq.refusedR n) (.slice none 0 0) (.slice none 0 0) (.slice none 0 0))) (by simp[results,Tryz.results68,go_sem,outCells,Sq.refusedR,Sq.tabNone,Sq.errText,Sq.nobytes,Sq.bBang, *]) rfl ⟨rfl,?_⟩
 exact Below.setCell (B:=w.heap.size) (Below.setCell (B:=w.heap.size) (Below.setCell (B:=w.heap.size) (Below.setCell (B:=w.heap.size) (Below.setCell (B:=w.heap.size) (Below.setCell (B:=w.heap.size) (Below.setCell (B:=w.heap.size) hbw (Nat.le_refl _) _) (Nat.le_refl _) _) (Nat.le_refl _) _) (Nat.le_refl _) _) (Nat.le_refl _) _) (Nat.le_refl _) _) (Nat.le_refl _) _
theorem jQfY (v:Sq.Val)(w:World)(h0:-1000000000000000000≤v.number)(h1:v.number≤1000000000000000000)(hs:v.text.size≤1000)(hT:Tbl w) :
  Calls Tryz.prog 167 #[.agg v.cells.toArray] w fun e w'=>e=.returned (.string (Sq.written v))∧Below w.heap.size w w':=by
 have HT:=hd hT
 clear hT
 have HE:Hid (Sq.written v=if v.kind==1 then Sq.bQuote++v.text++Sq.bQuote else Sq.itoa v.number):=rfl
 obtain⟨vk,vn,vt⟩:=v
 unfold Sq.Val.cells
 dsimp only at h0 h1 hs
 cases hk:vk==1
 case true =>
  have hq:((⟨#[39]⟩:ByteArray)++vt).size≤1001:=by
   have:((⟨#[39]⟩:ByteArray)++vt).size=1+vt.size:=ByteArray.size_append
   omega
  go_enter Tryz.func167,Tryz.ntmps167
  go_wp2
  go_ret
  exact⟨by rw[HE.out];simp only[hk];rfl,(Below.refl _ _).alloc (Nat.le_refl _) _⟩
 case false =>
  go_enter Tryz.func167,Tryz.ntmps167
  go_wp2_with fail
  refine(jQdD vn _ h0 h1 (HT.out.alloc _)).mono ?_
  rintro e w1 ⟨rfl,hb1⟩
  go_wp2
  go_ret
  exact⟨by rw[HE.out];simp only[hk];rfl,((Below.refl _ _).alloc (Nat.le_refl _) _).trans (hb1.mono (by simp))⟩
end
end Go.Proofs.YtahpihjialbanaaGreatDoor
