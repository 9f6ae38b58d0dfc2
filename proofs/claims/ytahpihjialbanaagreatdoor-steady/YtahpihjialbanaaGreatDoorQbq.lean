import Derived.Test.YtahpihjialbanaaGreatDoorQbm
import Derived.Test.YtahpihjialbanaaGreatDoorQbp
set_option linter.unusedVariables false
set_option linter.unusedSimpArgs false
set_option maxRecDepth 100000
set_option maxHeartbeats 2000000
namespace Go.Proofs.YtahpihjialbanaaGreatDoor
section
open Go.ChangeShapes Go.WideShapes Go.RowKit
theorem Tryz.laidOut:laidOutB Tryz.prog=true:=by kernel_rfl
end
section
open Go.RowKit
def Strs (w:World)(v:Value)(l:List ByteArray):Prop:=∃(a:Option Addr) (cap:Nat),v=.slice a l.length cap∧l.length≤1000000000000000∧(∀s∈l,s.size≤1000000000000000)∧∀k:Nat,∀_:k < l.length,∃b,a=some b∧b.block < w.heap.size∧w.cell? (b.add k)=some (.string l[k])
def Sq.bulk:List ByteArray→Nat→Option Nat
 | [],n=>some n
 | s :: r,n=>if 1048576 < n+s.size then none else Sq.bulk r (n+s.size)
def Sq.tooMuch (l:List ByteArray):Bool:=Decidable.decide (1048576 < l.length) || (Sq.bulk l l.length).isNone
theorem jQgo (l:List ByteArray)(v:Value)(w:World)(h:Strs w v l) :
  Calls Tryz.prog 19 #[v] w fun e w'=>e=.returned (.bool (Sq.tooMuch l))∧w'=w:=by
 obtain⟨a,cap,rfl,hl,hsz,hat⟩:=h
 have HAT:Hid _:=hat
 have HSZ:Hid _:=hsz
 clear hat hsz
 by_cases hbig:1048576 < l.length
 ·have HE:Hid (Sq.tooMuch l=true):=by show _=_;unfold Sq.tooMuch;simp[hbig]
  go_enter Tryz.func19,Tryz.ntmps19
  go_wp2
  go_ret
  exact⟨by rw[HE.out];rfl,rfl⟩
 ·have HE:Hid (Sq.tooMuch l=(Sq.bulk l l.length).isNone):=by show _=_;unfold Sq.tooMuch;simp[hbig]
  go_enter Tryz.func19,Tryz.ntmps19
  go_wp2
  go_loop [3,4] (fun n i=>∃k m:Nat,k≤l.length∧m≤1048576∧n=.int .i64 m∧i=.int .i64 k∧Hid (Sq.bulk l l.length=Sq.bulk (l.drop k) m)) (fun _ i=>l.length - (intOf i).toNat)
  case atStart=>exact⟨0,l.length,Nat.zero_le _,by omega,rfl,rfl,rfl⟩
  case round =>
   obtain⟨k,m,hk,hm,rfl,rfl,HR⟩:=hrel
   by_cases hlt:k < l.length
   ·obtain⟨b,rfl,hb,hc⟩:=HAT.out k hlt
    have hs:=HSZ.out l[k] (List.getElem_mem hlt)
    have hst:Sq.bulk (l.drop k) m=if 1048576 < m+l[k].size then none else Sq.bulk (l.drop (k+1)) (m+l[k].size):=by
     rw[List.drop_eq_getElem_cons hlt,Sq.bulk]
    have HS:Hid _:=hst
    obtain⟨s,hs0⟩:∃s,s=l[k]:=⟨_,rfl⟩
    rw[←hs0] at hs hc HS
    clear hst hs0
    by_cases hmm:1048576 < m+s.size
    ·go_wp2
     go_ret
     refine⟨?_,rfl⟩
     rw[HE.out,HR.out,HS.out,if_pos hmm];rfl
    ·go_wp2
     go_round
     case rel=>exact⟨k+1,m+s.size,by omega,by omega,by go_num,by go_num,by show _=_;rw[HR.out,HS.out,if_neg hmm]⟩
     case measure=>simp[intOf];omega
   ·have HZ:Hid (l.drop k=[]):=List.drop_eq_nil_of_le (by omega)
    go_wp2
    go_ret
    refine⟨?_,rfl⟩
    rw[HE.out,HR.out,HZ.out];rfl
end
section
open Go.RowKit
def Sq.aw1:ByteArray:=⟨#[99,114,101,97,116,101,32,116,97,98,108,101,32,116,32,40,105,100,32,105,110,116,44,32,97,32,105,110,116,44,32,98,32,116,101,120,116,41]⟩
def Sq.aw2:ByteArray:=⟨#[105,110,115,101,114,116,32,105,110,116,111,32,116,32,118,97,108,117,101,115,32,40,50,44,32,45,53,44,32,39,120,39,41]⟩
def Sq.aw3:ByteArray:=⟨#[115,101,108,101,99,116,32,98,44,32,105,100,32,102,114,111,109,32,116,32,119,104,101,114,101,32,97,32,61,32,45,53]⟩
theorem Sq.jQrq:(Sq.decide [] Sq.aw1).reply=⟨#[48,59]⟩:=by decide +kernel
theorem Sq.jQrp:(Sq.decide (Sq.after [] Sq.aw1) Sq.aw2).reply=⟨#[49,59]⟩:=by decide +kernel
theorem Sq.jQro:(Sq.decide (Sq.after (Sq.after [] Sq.aw1) Sq.aw2) Sq.aw3).reply=⟨#[39,120,39,44,50,59]⟩:=by decide +kernel
theorem jQd3 (w:World)(hT:Tb2 w):Calls Tryz.prog 17 #[] w fun e w'=>e=.returned (.bool true)∧Below w.heap.size w w':=by
 have HT:=hd hT
 have HN:=hd (DB.new w)
 have hbn:Below w.heap.size w (w.alloc (.cells (srv0 32) 62)):=(Below.refl _ _).alloc (Nat.le_refl _) _
 have HBN:=hd hbn
 have HG1:=hd (Sq.jQbq Sq.jQbc Sq.aw1)
 have HG2:=hd (Sq.jQbq (Sq.jQbq Sq.jQbc Sq.aw1) Sq.aw2)
 clear hT hbn
 go_enter Tryz.func17,Tryz.ntmps17
 go_wp2_with (go_at_call 14;refine(jQnZ 32 _ (by decide) (by decide)).mono ?_;rintro e w' ⟨rfl,hw'⟩;rw[hw'];clear hw' w')
 refine(jQdu w.heap.size [] Sq.aw1 _ HN.out Sq.jQbc (HT.out.below HBN.out)).mono ?_
 rintro e w1 ⟨pf1,dg1,rfl,hdb1,hf1⟩
 rw[Sq.jQrq]
 unfold answer
 have hb1:Below w.heap.size w w1:=HBN.out.trans hf1.below
 have HB1:=hd hb1
 have HDB1:=hd hdb1
 have hs1:=hdb1.lt
 clear hdb1 hf1 hb1
 go_wp2_with fail
 have hA1:∀o,Below w1.heap.size w1 (w1.alloc o):=fun o=>(Below.refl _ _).alloc (Nat.le_refl _) _
 refine(jQdu w.heap.size _ Sq.aw2 _ (HDB1.out.below (hA1 _)) HG1.out (HT.out.below (HB1.out.trans ((hA1 _).mono (by omega))))).mono ?_
 rintro e w2 ⟨pf2,dg2,rfl,hdb2,hf2⟩
 rw[Sq.jQrp]
 unfold answer
 have hk1:=(hf2.other w1.heap.size _ _ _ (heap_alloc_new w1 _) (by decide) (by decide)).trans (heap_alloc_new w1 _)
 have hb2:Below w.heap.size w w2:=(HB1.out.trans ((hA1 _).mono (by omega))).trans hf2.below
 have HB2:=hd hb2
 have HDB2:=hd hdb2
 have HK1:=hd hk1
 have hs2:=hdb2.lt
 have hl1:=jQg hk1
 clear hdb2 hf2 hb2 hA1 hk1
 go_wp2_with fail
 have hA2:∀o,Below w2.heap.size w2 (w2.alloc o):=fun o=>(Below.refl _ _).alloc (Nat.le_refl _) _
 refine(jQdu w.heap.size _ Sq.aw3 _ (HDB2.out.below (hA2 _)) HG2.out (HT.out.below (HB2.out.trans ((hA2 _).mono (by omega))))).mono ?_
 rintro e w3 ⟨pf3,dg3,rfl,hdb3,hf3⟩
 rw[Sq.jQro]
 unfold answer
 have hk2:=(hf3.other w2.heap.size _ _ _ (heap_alloc_new w2 _) (by decide) (by decide)).trans (heap_alloc_new w2 _)
 have hk1':=(hf3.other w1.heap.size _ _ _ ((jQax hl1 _).trans HK1.out) (by decide) (by decide)).trans ((jQax hl1 _).trans HK1.out)
 have hb3:Below w.heap.size w w3:=(HB2.out.trans ((hA2 _).mono (by omega))).trans hf3.below
 have a1:=jQb hk1' 0
 have a2:=jQb hk2 0
 simp at a1 a2
 have HB3:=hd hb3
 have hl1':=jQg hk1'
 have hl2':=jQg hk2
 have hs3:=hdb3.lt
 clear hdb3 hf3 hb3 hA2 hk1' hk2
 go_wp2
 go_ret
 exact⟨rfl,Below.alloc (B:=w.heap.size) HB3.out (by omega) _⟩
theorem jQpC (b:Addr)(k:Nat):(b.add k).block=b.block:=by unfold Addr.add;split <;> rfl
theorem Strs.below {w w':World}{v:Value}{l:List ByteArray}(h:Strs w v l){B:Nat}(hb:Below B w w')(hB:w.heap.size≤B):Strs w' v l:=by
 obtain⟨a,cap,hv,hl,hs,hat⟩:=h
 refine⟨a,cap,hv,hl,hs,fun k hk=>?_⟩
 obtain⟨b,hb1,hb2,hb3⟩:=hat k hk
 refine⟨b,hb1,Nat.lt_of_lt_of_le hb2 hb.size,?_⟩
 rw[hb.cell (p:=b.add k) (by rw[jQpC];omega)]
 exact hb3
structure WorldAt (B:Nat)(w:World)(wb sb:Nat)(db:List Sq.Tab):Prop where
 blk:w.heap[wb]?=some (.cells #[.pointer (some ⟨sb,0,none⟩),.int .i64 32] 43)
 db:DB sb w db
 le:B≤sb
theorem jQdK (l:List ByteArray)(v:Value)(w:World)(h:Strs w v l)(hT:Tb2 w) :
  Calls Tryz.prog 18 #[.int .i64 31,v] w fun e w' =>
   (Sq.tooMuch l=true∧e=.returned (.pointer none)∧w'=w)∨(∃wb sb,Sq.tooMuch l=false∧e=.returned (.pointer (some ⟨wb,0,none⟩))∧WorldAt w.heap.size w' wb sb (Sq.afterAll [] l)∧Below w.heap.size w w'):=by
 have HS0:=hd h
 obtain⟨a,cap,rfl,hl,hsz,hat⟩:=h
 have HAT:=hd hat
 have HSZ:=hd hsz
 have HT:=hd hT
 clear hat hsz hT
 have hbn:Below w.heap.size w (w.alloc (.cells (srv0 32) 62)):=(Below.refl _ _).alloc (Nat.le_refl _) _
 have HBN:=hd hbn
 have HN:=hd (DB.new w)
 clear hbn
 by_cases hbig:1048576 < l.length
 ·have HE:Hid (Sq.tooMuch l=true):=by show _=_;unfold Sq.tooMuch;simp[hbig]
  go_enter Tryz.func18,Tryz.ntmps18
  go_wp2
  go_ret
  exact Or.inl ⟨HE.out,rfl,rfl⟩
 ·have HE:Hid (Sq.tooMuch l=(Sq.bulk l l.length).isNone):=by show _=_;unfold Sq.tooMuch;simp[hbig]
  go_enter Tryz.func18,Tryz.ntmps18
  go_wp2
  go_loop [5,6] (fun n i=>∃k m:Nat,k≤l.length∧m≤1048576∧n=.int .i64 m∧i=.int .i64 k∧Hid (Sq.bulk l l.length=Sq.bulk (l.drop k) m)) (fun _ i=>l.length - (intOf i).toNat)
  case atStart=>exact⟨0,l.length,Nat.zero_le _,by omega,rfl,rfl,rfl⟩
  case round =>
   obtain⟨k,m,hk,hm,rfl,rfl,HR⟩:=hrel
   by_cases hlt:k < l.length
   ·obtain⟨b,rfl,hb,hc⟩:=HAT.out k hlt
    have hs:=HSZ.out l[k] (List.getElem_mem hlt)
    have hst:Sq.bulk (l.drop k) m=if 1048576 < m+l[k].size then none else Sq.bulk (l.drop (k+1)) (m+l[k].size):=by
     rw[List.drop_eq_getElem_cons hlt,Sq.bulk]
    have HS:=hd hst
    obtain⟨s,hs0⟩:∃s,s=l[k]:=⟨_,rfl⟩
    rw[←hs0] at hs hc HS
    clear hst hs0
    by_cases hmm:1048576 < m+s.size
    ·go_wp2
     go_ret
     refine Or.inl ⟨?_,rfl,rfl⟩
     rw[HE.out,HR.out,HS.out,if_pos hmm];rfl
    ·go_wp2
     go_round
     case rel=>exact⟨k+1,m+s.size,by omega,by omega,by go_num,by go_num,by show _=_;rw[HR.out,HS.out,if_neg hmm]⟩
     case measure=>simp[intOf];omega
   ·have HNO:Hid (Sq.tooMuch l=false):=by
     show _=_
     rw[HE.out,HR.out,List.drop_eq_nil_of_le (by omega)];rfl
    clear HR HE
    go_wp2_with (first
     | (go_at_call 13;refine(jQch 31 32 _ (by decide) (by decide) (by decide) (by decide)).mono ?_;rintro e w' ⟨rfl,hw'⟩;rw[hw',show Sq.pick 31 32=31 from rfl];clear hw' w')
     | (go_at_call 14;refine(jQnZ 32 _ (by decide) (by decide)).mono ?_;rintro e w' ⟨rfl,hw'⟩;rw[hw'];clear hw' w'))
    obtain⟨w0,hw0⟩:∃x,x=w.alloc (.cells (srv0 32) 62):=⟨_,rfl⟩
    have hn:=HN.out
    have hbn:=HBN.out
    rw[←hw0] at hn hbn
    rw[←hw0]
    have HN0:=hd hn
    have HBN0:=hd hbn
    clear hn hbn hw0
    go_loopw [10] (fun i wr=>∃j:Nat,j≤l.length∧i=.int .i64 j∧DB w.heap.size wr (Sq.afterAll [] (l.take j))∧Below w.heap.size w wr) (fun i _=>l.length - (intOf i).toNat)
    case atStart=>exact⟨0,Nat.zero_le _,rfl,HN0.out,HBN0.out⟩
    case round =>
     obtain⟨j,hj,rfl,hdb,hbr⟩:=hrel
     have hsw:=hdb.lt
     have HDBj:=hd hdb
     have HBR:=hd hbr
     clear hdb hbr
     by_cases hltj:j < l.length
     ·obtain⟨a2,cap2,hv2,-,-,hat2⟩:=HS0.out.below HBR.out (Nat.le_refl _)
      obtain⟨b,hb1,hb2,hc⟩:=hat2 j hltj
      simp only[Value.slice.injEq] at hv2
      obtain⟨hv3,-,-⟩:=hv2
      rw[←hv3] at hb1
      subst hb1
      have hsn:Sq.afterAll [] (l.take (j+1))=Sq.after (Sq.afterAll [] (l.take j)) l[j]:=by
       unfold Sq.afterAll
       rw[List.take_succ_eq_append_getElem hltj,List.foldl_append]
       rfl
      obtain⟨sql,hsql⟩:∃x,x=l[j]:=⟨_,rfl⟩
      rw[←hsql] at hsn hc
      have hgood:Sq.good (Sq.afterAll [] (l.take j)):=Sq.jQad _ Sq.jQbc
      have HSN:=hd hsn
      have HGOOD:=hd hgood
      have htb:Tb2 wr:=HT.out.below HBR.out
      have HTB:=hd htb
      clear hsn hsql hgood htb hat2 hv3
      go_wp2_with fail
      refine(jQdu w.heap.size _ sql _ HDBj.out HGOOD.out HTB.out).mono ?_
      rintro e w3 ⟨pf4,dg4,rfl,hdb3,hf3⟩
      rw[←HSN.out] at hdb3
      have HDB3:=hd hdb3
      have HB3:=hd (HBR.out.trans hf3.below)
      clear hdb3 hf3
      go_wp2
      go_roundw
      case rel=>exact⟨j+1,by omega,by go_num,HDB3.out,HB3.out⟩
      case measure=>simp[intOf];omega
     ·have hke:l.take j=l:=List.take_of_length_le (by omega)
      have hdb:=HDBj.out
      rw[hke] at hdb
      have HDBe:=hd hdb
      clear hke hdb
      go_wp2
      go_ret
      refine Or.inr ⟨wr.heap.size,w.heap.size,HNO.out,rfl,⟨heap_alloc_new wr _,HDBe.out.below ((Below.refl _ _).alloc (Nat.le_refl _) _),Nat.le_refl _⟩,Below.alloc (B:=w.heap.size) HBR.out (by omega) _⟩
end
namespace Sq
theorem jQT {α:Type}{l:List α}(h:l.length=0):l=[]:=List.eq_nil_of_length_eq_zero h
end Sq
section
open Go.RowKit
theorem Sq.jQkA (cols:List Sq.Col)(row:List Sq.Val)(items:List ByteArray)(h:Sq.okRow row):(Sq.rowText cols row items).length≤1003 * items.length:=by
 rw[←Sq.jQhi]
 have:=Sq.jQen row (Sq.placedR cols items) h
 simpa[Sq.placedR] using this
theorem Sq.jQbo (cols:List Sq.Col)(items:List ByteArray)(hi:items.length≤163):∀rows:List (List Sq.Val),(∀r∈rows,Sq.okRow r)→(Sq.listed cols items rows).length≤170000 * rows.length
 | [],_=>Nat.le_refl _
 | r :: q,h=>by
  have h1:=Sq.jQkA cols r items (h r (by simp))
  have h2:=Sq.jQbo cols items hi q (fun x hx=>h x (by simp[hx]))
  rw[Sq.jQaz]
  simp only[List.length_append,List.length_cons]
  omega
theorem Sq.goodRow.ok {r:List Sq.Val}(h:Sq.goodRow r):Sq.okRow r:=fun v hv=>(h.vals v hv).ok
end
end Go.Proofs.YtahpihjialbanaaGreatDoor
