import Derived.Test.YtahpihjialbanaaGreatDoorQbr
import Derived.Test.YtahpihjialbanaaGreatDoorQbz
import Derived.Test.YtahpihjialbanaaGreatDoorQca
set_option linter.unusedVariables false
set_option linter.unusedSimpArgs false
set_option maxRecDepth 100000
set_option maxHeartbeats 2000000
namespace Go.Proofs.YtahpihjialbanaaGreatDoor
namespace Sq
theorem jQlh:∀(l r:List UInt8) (q:Bool),scan q l=some false→behind q (l++59 :: r)=r:=by
 intro l
 induction l with
 | nil=>intro r q h;simp[scan] at h;subst h;rfl
 | cons c l ih =>
  intro r q h
  rw[scan] at h
  rw[List.cons_append,behind]
  split
  ·rename_i hc;rw[if_pos hc] at h;simp at h
  ·rename_i hc;rw[if_neg hc] at h;exact ih r _ h
theorem jQhU (cols:List Col)(items:List ByteArray)(r:List Val)(q:List (List Val))(h:∀v∈r,goodVal v):behind false (listed cols items (r :: q))=listed cols items q:=by
 rw[jQaz];exact jQlh _ _ _ (jQl3 cols r items h)
theorem jQjt (c:Col)(cq:List Col)(r:List Val)(h:goodRow r):∃l,rowText (c :: cq) r ((c :: cq).map Col.name)=Lib.itoa (keyOf r)++l∧(l=[]∨∃m,l=44 :: m):=by
 obtain⟨v,q,rfl,hk⟩:=h.head
 unfold rowText
 rw[List.map_cons,List.map_cons]
 have e:cellOf (c :: cq) (v :: q) c.name=v:=by
  unfold cellOf find findFrom
  simp
 rw[e]
 have e2:(written v).data.toList=Lib.itoa v.number:=by unfold written;rw[hk,if_neg (by decide)];rfl
 rw[e2]
 refine⟨_,rfl,?_⟩
 cases cq with
 | nil=>left;rfl
 | cons d r=>right;exact⟨_,rfl⟩
theorem jQbw {α:Type}(p:α→Bool):∀(l:List α) (c:α) (r:List α),(∀x∈l,p x=true)→p c=false→(l++c :: r).takeWhile p=l
 | [],c,r,_,hc=>by simp[hc]
 | x :: l,c,r,h,hc=>by
  rw[List.cons_append,List.takeWhile_cons,if_pos (h x (by simp)),jQbw p l c r (fun y hy=>h y (by simp[hy])) hc]
theorem jQp8 (c:Col)(cq:List Col)(r:List Val)(h:goodRow r)(l:List UInt8):upto (rowText (c :: cq) r ((c :: cq).map Col.name)++59 :: l)=Lib.itoa (keyOf r):=by
 have hn:∀x∈Lib.itoa (keyOf r),(x != 44 && x != 59)=true:=by
  intro x hx
  have:=jQeL _ x hx
  unfold isNum at this
  have h1:x≠44:=fun e=>by subst e;simp at this
  have h2:x≠59:=fun e=>by subst e;simp at this
  simp[h1,h2]
 obtain⟨m,hm,hm2⟩:=jQjt c cq r h
 rw[hm]
 rcases hm2 with rfl | ⟨m,rfl⟩
 ·rw[List.append_nil];exact jQbw _ _ _ _ hn (by decide)
 ·rw[List.append_assoc];exact jQbw _ _ _ _ hn (by decide)
theorem jQgq (r:List Val)(h:goodRow r):-2147483648≤keyOf r∧keyOf r≤2147483647:=by
 obtain⟨v,q,rfl,hk⟩:=h.head
 rcases h.vals v (by simp) with⟨_,h1,h2,_⟩ | ⟨h1,_⟩
 ·exact⟨h1,h2⟩
 ·rw[hk] at h1;simp at h1
theorem jQm0 (cols:List Col)(hc:∃c q,cols=c :: q∧c.kind=0)(r:List Val)(q:List (List Val))(h:goodRow r)(s:ByteArray)(hs:s.data.toList=listed cols (cols.map Col.name) (r :: q)):key s=(keyOf r,true):=by
 obtain⟨c,cq,rfl,_⟩:=hc
 have hb:=jQgq r h
 refine jQbl _ (by omega) (by omega) _ ?_
 rw[jQj,hs,jQaz,jQp8 c cq r h]
 rfl
theorem jQkL (cols:List Col)(hc:∃c q,cols=c :: q∧c.kind=0)(rows:List (List Val))(h:∀r∈rows,goodRow r):(listed cols (cols.map Col.name) rows).head?≠some 33:=by
 obtain⟨c,cq,rfl,_⟩:=hc
 cases rows with
 | nil=>simp[listed]
 | cons r q =>
  rw[jQaz]
  obtain⟨m,hm,_⟩:=jQjt c cq r (h r (by simp))
  rw[hm]
  have hp:=jQm8 (keyOf r)
  cases hi:Lib.itoa (keyOf r) with
  | nil=>rw[hi] at hp;simp at hp
  | cons x y =>
   have:=jQeL (keyOf r) x (by rw[hi];simp)
   simp
   intro e;subst e;unfold isNum at this;simp at this
end Sq
section
open Go.RowKit
theorem Sq.jQgM {a b:ByteArray}(h:a.data.toList=b.data.toList):a=b:=by
 cases a;cases b;simp at h;rw[h]
theorem Sq.jQnm (s:ByteArray)(k:Nat):s.extract k s.size=Sq.bytesOf (s.data.toList.drop k):=by
 apply Sq.jQgM
 rw[Sq.jQao]
 show _=s.data.toList.drop k
 exact List.take_of_length_le (by rw[List.length_drop,←Sq.jQG];omega)
theorem Sq.eq44 (c:UInt8):(c==44)=((c.toNat:Int)==44):=Sq.jQq2 c 44 (by omega)
theorem jQnN (s:ByteArray)(w:World)(hs:s.size≤1000000000) :
  Calls Tryz.prog 24 #[.string s] w fun e w'=>e=.returned (.string (Sq.bytesOf (Sq.behind false s.data.toList)))∧w'=w:=by
 go_enter Tryz.func24,Tryz.ntmps24
 go_wp2
 go_loop [3,4] (fun q i=>∃(k:Nat) (b:Bool),k≤s.size∧q=.bool b∧i=.int .i64 k∧Hid (Sq.behind false s.data.toList=Sq.behind b (s.data.toList.drop k))) (fun _ i=>s.size - (intOf i).toNat)
 case atStart=>exact⟨0,false,Nat.zero_le _,rfl,rfl,rfl⟩
 case round =>
  obtain⟨k,b,hk,rfl,rfl,HR⟩:=hrel
  by_cases hlt:k < s.size
  ·have hst:Sq.behind b (s.data.toList.drop k)=if((s[k].toNat:Int)==59) && !(if((s[k].toNat:Int)==39) then !b else b) then s.data.toList.drop (k+1) else Sq.behind (if((s[k].toNat:Int)==39) then !b else b) (s.data.toList.drop (k+1)):=by
    rw[Sq.jQnq s k hlt,Sq.behind]
    unfold Sq.turn
    rw[Sq.eq39,Sq.eq59]
   have HS:Hid _:=hst
   clear hst
   cases h39:((s[k].toNat:Int)==39)
   ·cases h59:((s[k].toNat:Int)==59)
    ·have HT:=HS.out
     rw[h39,h59] at HT
     have HT2:Hid _:=HT
     clear HT
     go_wp2
     go_round
     case rel=>exact⟨k+1,b,by omega,rfl,by go_num,HR.out.trans HT2.out⟩
     case measure=>simp[intOf];omega
    ·have HT:=HS.out
     rw[h39,h59] at HT
     have HT2:Hid _:=HT
     clear HT
     cases b
     ·go_wp2
      go_ret
      refine⟨?_,rfl⟩
      rw[HR.out,HT2.out]
      exact congrArg (fun x=>Ending.returned (.string x)) (Sq.jQnm s (k+1))
     ·go_wp2
      go_round
      case rel=>exact⟨k+1,true,by omega,rfl,by go_num,HR.out.trans HT2.out⟩
      case measure=>simp[intOf];omega
   ·have h59:((s[k].toNat:Int)==59)=false:=by simp at h39;simp;omega
    have HT:=HS.out
    rw[h39,h59] at HT
    have HT2:Hid _:=HT
    clear HT
    go_wp2
    go_round
    case rel=>exact⟨k+1,!b,by omega,rfl,by go_num,HR.out.trans HT2.out⟩
    case measure=>simp[intOf];omega
  ·have HZ:Hid _:=Sq.jQiF s k (by omega)
   go_wp2
   go_ret
   refine⟨?_,rfl⟩
   rw[HR.out,HZ.out];rfl
theorem Sq.jQoa (l:List UInt8):l.take (Sq.upto l).length=Sq.upto l:=Sq.jQbv _ l
def Sq.uptoN (l:List UInt8):Nat:=(Sq.upto l).length
theorem Sq.jQob (c:UInt8)(r:List UInt8):Sq.uptoN (c :: r)=if !((c.toNat:Int)==44) && !((c.toNat:Int)==59) then Sq.uptoN r+1 else 0:=by
 unfold Sq.uptoN Sq.upto
 rw[List.takeWhile_cons]
 simp only[bne,Sq.eq44,Sq.eq59]
 split <;> rfl
theorem Sq.jQqW (s:ByteArray)(k:Nat)(h:k=Sq.uptoN s.data.toList):Sq.number (s.extract 0 k++Sq.bSemi)=Sq.key s:=by
 unfold Sq.key
 congr 2
 apply Sq.jQgM
 rw[Sq.jQao,h]
 show(s.data.toList.drop 0).take _=Sq.upto s.data.toList
 rw[List.drop_zero]
 exact Sq.jQoa _
theorem jQr2 (s:ByteArray)(w:World)(hs:s.size≤100000000) :
  Calls Tryz.prog 25 #[.string s] w fun e w'=>e=.returned (.tuple #[.int .i64 (Sq.key s).1,.bool (Sq.key s).2])∧w'=w:=by
 go_enter Tryz.func25,Tryz.ntmps25
 go_wp2
 go_loop [4] (fun i=>∃k:Nat,k≤s.size∧i=.int .i64 k∧Hid (k+Sq.uptoN (s.data.toList.drop k)=Sq.uptoN s.data.toList)) (fun i=>s.size - (intOf i).toNat)
 case atStart=>exact⟨0,Nat.zero_le _,rfl,Nat.zero_add _⟩
 case round =>
  obtain⟨k,hk,rfl,HR⟩:=hrel
  by_cases hlt:k < s.size
  ·have hst:Sq.uptoN (s.data.toList.drop k)=if !((s[k].toNat:Int)==44) && !((s[k].toNat:Int)==59) then Sq.uptoN (s.data.toList.drop (k+1))+1 else 0:=by
    rw[Sq.jQnq s k hlt,Sq.jQob]
   have HS:Hid _:=hst
   clear hst
   cases h44:((s[k].toNat:Int)==44)
   ·cases h59:((s[k].toNat:Int)==59)
    ·have HT:=HS.out
     rw[h44,h59] at HT
     have HT2:Hid _:=HT
     have n44:((s[k].toNat:Int) != 44)=true:=by simp[bne,h44]
     have n59:((s[k].toNat:Int) != 59)=true:=by simp[bne,h59]
     clear HT
     go_wp2
     go_round
     case rel=>exact⟨k+1,by omega,by go_num,by have h1:=HR.out;have h2:=HT2.out;simp at h2;show _=_;omega⟩
     case measure=>simp[intOf];omega
    ·have HT:=HS.out
     rw[h44,h59] at HT
     have HT2:Hid (k=Sq.uptoN s.data.toList):=by have h1:=HR.out;simp at HT;show _=_;omega
     have n44:((s[k].toNat:Int) != 44)=true:=by simp[bne,h44]
     have n59:((s[k].toNat:Int) != 59)=false:=by simp[bne,h59]
     clear HT
     go_wp2_with fail
     refine(jQac _ _ ?_).mono ?_
     ·have:(⟨#[59]⟩:ByteArray).size=1:=rfl
      simp[this];omega
     ·rintro e w' ⟨rfl,rfl⟩
      rw[show(⟨#[59]⟩:ByteArray)=Sq.bSemi from rfl,Sq.jQqW s k HT2.out]
      go_wp2
      go_ret2
      exact⟨rfl,rfl⟩
   ·have HT:=HS.out
    rw[h44] at HT
    have HT2:Hid (k=Sq.uptoN s.data.toList):=by have h1:=HR.out;simp at HT;show _=_;omega
    have n44:((s[k].toNat:Int) != 44)=false:=by simp[bne,h44]
    clear HT
    go_wp2_with fail
    refine(jQac _ _ ?_).mono ?_
    ·have:(⟨#[59]⟩:ByteArray).size=1:=rfl
     simp[this];omega
    ·rintro e w' ⟨rfl,rfl⟩
     rw[show(⟨#[59]⟩:ByteArray)=Sq.bSemi from rfl,Sq.jQqW s k HT2.out]
     go_wp2
     go_ret2
     exact⟨rfl,rfl⟩
  ·have HT2:Hid (k=Sq.uptoN s.data.toList):=by
    have h1:=HR.out
    rw[Sq.jQiF s k (by omega)] at h1
    have h2:k=Sq.uptoN s.data.toList:=by simpa[Sq.uptoN,Sq.upto] using h1
    exact h2
   go_wp2_with fail
   refine(jQac _ _ ?_).mono ?_
   ·have:(⟨#[59]⟩:ByteArray).size=1:=rfl
    simp[this];omega
   ·rintro e w' ⟨rfl,rfl⟩
    rw[show(⟨#[59]⟩:ByteArray)=Sq.bSemi from rfl,Sq.jQqW s k HT2.out]
    go_wp2
    go_ret2
    exact⟨rfl,rfl⟩
end
namespace Sq
def selStar:ByteArray:=⟨#[115,101,108,101,99,116,32,42,32,102,114,111,109,32,116]⟩
theorem jQeV (db:List Tab)(sql:ByteArray)(h0:(parse sql).1=0)(h1:(parse sql).2.act=5)(h2:(parse sql).2.items=[])(h3:(parse sql).2.wher=[]) :
  Sq.decide db sql=match db[(findTab db (parse sql).2.table).toNat]? with
   | some t=>if findTab db (parse sql).2.table < 0 then refused 4 else⟨showRows t (parse sql).2 t.rows,false,nobytes,[],0,[],[]⟩
   | none=>refused 4:=by
 unfold Sq.decide
 rw[h0,if_neg (by decide)]
 unfold decideSt
 rw[h1,if_neg (by decide)]
 cases hx:db[(findTab db (parse sql).2.table).toNat]? with
 | none=>rfl
 | some t =>
  simp only
  split
  ·rfl
  ·have hc:check t.cols (parse sql).2=0:=by
    unfold check checkAct
    rw[h1,h2,h3]
    simp[checkItemsFrom,checkWhereFrom]
   unfold decideTab
   rw[hc,h1,if_neg (by decide),if_neg (by decide),if_neg (by decide),if_neg (by decide)]
   unfold Sq.show
   rw[h3,jQdi]
theorem jQon:(parse selStar).1=0∧(parse selStar).2.act=5∧(parse selStar).2.items.length=0∧(parse selStar).2.wher.length=0∧(parse selStar).2.table=bT∧(parse selStar).2.shw=1:=by decide +kernel
theorem jQnx:(parse selCount).1=0∧(parse selCount).2.act=5∧(parse selCount).2.items.length=0∧(parse selCount).2.wher.length=0∧(parse selCount).2.table=bT∧(parse selCount).2.shw=2:=by decide +kernel
theorem bang4:(refused 4).reply.data.toList=[33,52]:=by decide +kernel
theorem jQlS {db:List Tab}(h:good db) :
  ((Sq.decide db selStar).reply.data.toList=[33,52]∧(Sq.decide db selCount).reply.data.toList=[33,52]) ∨
  ∃t,goodTab t∧t.rows.length≤60∧(Sq.decide db selStar).reply.data.toList=listed t.cols (t.cols.map Col.name) t.rows∧(Sq.decide db selCount).reply.data.toList=Lib.itoa t.rows.length++[59]:=by
 obtain⟨a0,a1,a2,a3,a4,a5⟩:=jQon
 obtain⟨b0,b1,b2,b3,b4,b5⟩:=jQnx
 rw[jQeV db selStar a0 a1 (jQT a2) (jQT a3),jQeV db selCount b0 b1 (jQT b2) (jQT b3),a4,b4]
 cases hx:db[(findTab db bT).toNat]? with
 | none=>left;exact⟨bang4,bang4⟩
 | some t =>
  simp only
  split
  ·left;exact⟨bang4,bang4⟩
  ·right
   have ht:t∈db:=List.mem_of_getElem? hx
   have h1:=jQfC db t ht
   have h2:=h.size
   unfold dbSize at h2
   refine⟨t,h.each t ht,by omega,?_,?_⟩
   ·show(showRows t (parse selStar).2 t.rows).data.toList=_
    unfold showRows
    rw[a5]
    simp[bytesOf]
   ·show(showRows t (parse selCount).2 t.rows).data.toList=_
    unfold showRows
    rw[b5]
    simp[jQeY]
end Sq
section
open Go.RowKit
theorem Sq.jQk1 (rows:List (List Sq.Val))(j:Nat)(h:j < rows.length)(hs:Sq.sorted rows):∀r∈rows.drop (j+1),Sq.keyOf rows[j] < Sq.keyOf r:=by
 have h1:Sq.sorted (rows.drop j):=List.Pairwise.sublist (List.drop_sublist j rows) hs
 rw[List.drop_eq_getElem_cons h] at h1
 exact(List.pairwise_cons.1 h1).1
theorem jQoB (v:Value)(l:List ByteArray)(w:World)(h:Strs w v l)(hT:Tb2 w) :
  Calls Tryz.prog 6 #[v] w fun e w'=>e=.returned (.bool true)∧Below w.heap.size w w':=by
 have HS:=hd h
 have HT:=hd hT
 clear h hT
 go_enter Tryz.func6,Tryz.ntmps6
 go_wp2_with fail
 refine(jQd3 w HT.out).mono ?_
 rintro e w1 ⟨rfl,hb1⟩
 have hz1:=hb1.size
 have HB1:=hd hb1
 have HS1:=hd (HS.out.below hb1 (Nat.le_refl _))
 have HT1:=hd (HT.out.below hb1)
 clear hb1
 go_wp2_with fail
 refine(jQdK l v w1 HS1.out HT1.out).mono ?_
 rintro e w2 (⟨hbig,rfl,hw2⟩ | ⟨wb,sb,hno,rfl,hW,hb2⟩)
 ·subst hw2
  have HBG:=hd hbig
  clear hbig
  go_wp2_with fail
  refine(jQgo l v _ HS1.out).mono ?_
  rintro e w3 ⟨rfl,hw3⟩
  rw[hw3,HBG.out]
  clear hw3 w3
  go_wp2
  go_ret
  exact⟨rfl,HB1.out⟩
 ·have hz2:=hb2.size
  have hblk:=hW.blk
  have hlw:=jQg hblk
  have p0:=jQb hblk 0
  simp at p0
  have hgood:Sq.good (Sq.afterAll [] l):=Sq.jQad _ Sq.jQbc
  obtain⟨db,hdb⟩:∃x,x=Sq.afterAll [] l:=⟨_,rfl⟩
  have hD:=hW.db
  rw[←hdb] at hgood hD
  have hsl:=hD.lt
  have HD:=hd hD
  have HG:=hd hgood
  have HBLK:=hd hblk
  have HB2:=hd (HB1.out.trans (hb2.mono hz1))
  have HT2:=hd (HT1.out.below hb2)
  have hsc:=Sq.jQlS hgood
  have HSC:=hd hsc
  clear hno hW hb2 hblk hgood hdb hD hsc
  go_wp2_with fail
  refine(jQd6 sb db Sq.selStar w2 HD.out HG.out HT2.out).mono ?_
  rintro e w3 ⟨pf1,dg1,rfl,hb3⟩
  have hz3:=hb3.size
  obtain⟨ra,hra⟩:∃x,x=(Sq.decide db Sq.selStar).reply:=⟨_,rfl⟩
  obtain⟨rb,hrb⟩:∃x,x=(Sq.decide db Sq.selCount).reply:=⟨_,rfl⟩
  have hsc:=HSC.out
  rw[←hra,←hrb] at hsc
  rw[←hra]
  have HRB:=hd hrb
  have HSC2:=hd hsc
  unfold answer
  have hb3a:∀o,Below w2.heap.size w2 (w3.alloc o):=fun o=>Below.alloc (B:=w2.heap.size) hb3 hz3 o
  have HB3A:=hd hb3a
  have p0':w3.cell? ⟨wb,0,none⟩=some (.pointer (some ⟨sb,0,none⟩)):=((bcell hb3).1 wb 0 hlw).trans p0
  have hl3:wb < w3.heap.size:=by omega
  clear hb3 hb3a hra hrb hsc p0
  go_wp2_with fail
  refine(jQd6 sb db Sq.selCount _ (HD.out.below (HB3A.out _)) HG.out (HT2.out.below (HB3A.out _))).mono ?_
  rintro e w4 ⟨pf2,dg2,rfl,hb4⟩
  rw[←HRB.out]
  unfold answer
  have hk4:=(hb4.block w3.heap.size (by simp)).trans (heap_alloc_new w3 _)
  have q0:=jQb hk4 0
  simp at q0
  have hlk:=jQg hk4
  have hz4:=hb4.size
  simp at hz4
  have HB4:=hd ((HB2.out.trans ((HB3A.out _).mono (by omega))).trans (hb4.mono (by simp;omega)))
  clear hb4 p0' hk4
  rcases HSC2.out with⟨e1,e2⟩ | ⟨t,ht,hr60,e1,e2⟩
  ·have f1:ra=⟨#[33,52]⟩:=Sq.jQgM e1
   have f2:rb=⟨#[33,52]⟩:=Sq.jQgM e2
   subst f1
   subst f2
   clear e1 e2 HSC2 HRB
   go_wp2_with (go_at_call 23;refine(jQ4 ⟨#[33,52]⟩ _ (by decide)).mono ?_;rintro e w' ⟨rfl,hw'⟩;rw[hw',show Sq.bang ⟨#[33,52]⟩=true from by decide +kernel];clear hw' w')
   go_ret
   exact⟨rfl,Below.alloc (B:=w.heap.size) HB4.out (by omega) _⟩
  ·have hcols:=ht.cols
   have hsz:ra.size≤100000000:=by
    have h1:=Sq.jQbo t.cols (t.cols.map Sq.Col.name) (by simp;omega) t.rows (fun r hr=>(ht.rows r hr).ok)
    rw[Sq.jQG,e1]
    omega
   have hbang:Sq.bang ra=false:=by
    unfold Sq.bang
    rw[e1]
    have:=Sq.jQkL t.cols ht.head t.rows ht.rows
    simpa using this
   have hnum:Sq.number rb=((t.rows.length:Int),true):=Sq.jQbl _ (by omega) (by omega) rb e2
   have hrbs:rb.size≤1000000000:=by
    have h1:=Lib.itoa_length_le (t.rows.length:Int) (by omega) (by omega)
    rw[Sq.jQG,e2]
    simp
    omega
   have HBANG:=hd hbang
   have HNUM:=hd hnum
   have HT0:=hd ht
   have HE1:=hd e1
   have hall:∀r∈t.rows.drop 0,(-2147483649:Int) < Sq.keyOf r:=fun r hr=>by have:=Sq.jQgq r (ht.rows r hr);omega
   have HALL:=hd hall
   clear hbang hnum ht e1 e2 HSC2 HSC HRB hall
   go_wp2_with (go_at_call 23;refine(jQ4 ra _ (by omega)).mono ?_;rintro e w' ⟨rfl,hw'⟩;rw[hw',HBANG.out];clear hw' w')
   go_loop [8,9,10] (fun la n x=>∃(j:Nat) (lv:Int) (sj:ByteArray),j≤t.rows.length∧-2147483649≤lv∧lv≤2147483647∧sj.size≤100000000∧la=.int .i64 lv∧n=.int .i64 j∧x=.string sj∧Hid (sj.data.toList=Sq.listed t.cols (t.cols.map Sq.Col.name) (t.rows.drop j)∧∀r∈t.rows.drop j,lv < Sq.keyOf r)) (fun _ n _=>t.rows.length - (intOf n).toNat)
   case atStart=>exact⟨0,-2147483649,ra,Nat.zero_le _,by decide,by decide,hsz,rfl,rfl,rfl,HE1.out,HALL.out⟩
   case round =>
    obtain⟨j,lv,sj,hj,hlv0,hlv1,hsj,rfl,rfl,rfl,HR⟩:=hrel
    by_cases hlt:j < t.rows.length
    ·have hdr:=List.drop_eq_getElem_cons hlt
     have hmem:t.rows[j]∈t.rows:=List.getElem_mem hlt
     have hgr:=HT0.out.rows _ hmem
     have hkb:=Sq.jQgq _ hgr
     have h1:=HR.out.1
     have h2:=HR.out.2 t.rows[j] (by rw[hdr];exact List.mem_cons_self)
     rw[hdr] at h1
     have hkey:=Sq.jQm0 t.cols HT0.out.head t.rows[j] _ hgr sj h1
     have hbeh:Sq.behind false sj.data.toList=Sq.listed t.cols (t.cols.map Sq.Col.name) (t.rows.drop (j+1)):=by rw[h1];exact Sq.jQhU _ _ _ _ hgr.vals
     have hpos:0 < sj.size:=by
      rw[Sq.jQG,h1,Sq.jQaz,List.length_append,List.length_cons];omega
     have hnext:=Sq.jQk1 t.rows j hlt HT0.out.sorted
     have hbs:(Sq.bytesOf (Sq.behind false sj.data.toList)).size≤100000000:=by
      rw[hbeh]
      have h3:=Sq.jQbo t.cols (t.cols.map Sq.Col.name) (by simp;omega) (t.rows.drop (j+1)) (fun r hr=>(HT0.out.rows r (List.mem_of_mem_drop hr)).ok)
      have h4:(t.rows.drop (j+1)).length≤60:=by rw[List.length_drop];omega
      rw[Sq.jQG]
      show(Sq.listed _ _ _).length≤_
      omega
     obtain⟨kr,hkr⟩:∃x,x=Sq.keyOf t.rows[j]:=⟨_,rfl⟩
     rw[←hkr] at hkey h2 hkb
     simp only[←hkr] at hnext
     have HKEY:=hd hkey
     have HBEH:=hd hbeh
     have HNEXT:=hd hnext
     obtain⟨sn,hsn⟩:∃x,x=Sq.bytesOf (Sq.behind false sj.data.toList):=⟨_,rfl⟩
     rw[←hsn] at hbs
     have HSN:=hd hsn
     clear hdr hmem hgr h1 hkey hbeh hnext hkr hsn
     have hnl:¬kr≤lv:=by omega
     go_wp2_with (first
      | (go_at_call 25;refine(jQr2 sj _ hsj).mono ?_;rintro e w' ⟨rfl,hw'⟩;rw[hw',HKEY.out];clear hw' w')
      | (go_at_call 24;refine(jQnN sj _ (by omega)).mono ?_;rintro e w' ⟨rfl,hw'⟩;rw[hw',←HSN.out];clear hw' w'))
     go_round
     case rel=>exact⟨j+1,kr,sn,by omega,by omega,by omega,hbs,rfl,by go_num,rfl,by rw[HSN.out];exact HBEH.out,HNEXT.out⟩
     case measure=>simp[intOf];omega
    ·have hz:sj.size=0:=by
      rw[Sq.jQG,HR.out.1,List.drop_eq_nil_of_le (by omega)];rfl
     have hje:j=t.rows.length:=by omega
     subst hje
     have hnp:¬(0:Int) < (sj.size:Int):=by omega
     clear hz hsj
     go_wp2_with (go_at_call 26;refine(jQac rb _ hrbs).mono ?_;rintro e w' ⟨rfl,hw'⟩;rw[hw',HNUM.out];clear hw' w')
     go_ret
     exact⟨rfl,Below.alloc (B:=w.heap.size) HB4.out (by omega) _⟩
end
section
open Go.ChangeShapes Go.WideShapes Go.ChangeMaps Go.RowKit
theorem jQil (hk:∀(v0:Value) (l0:List ByteArray) (w:World),Strs w v0 l0→Tb2 w→Calls Tryz.prog 6 #[v0] w fun e w'=>e=.returned (.bool true)∧Below w.heap.size w w')
  (os:Os) (started:os.Started) (H:Type) (enc:TypeId×Value→H) :
  ReturnsInHanded {} Tryz.checked os 6 .any (fun w args=>(Rows.risenSpec.pre enc Tryz.prog Tryz.f6 [] false w args∧laidMetH Tryz.prog laid4 w)∧sizedMet enc Tryz.prog Tryz.f6 (OpenSpec.ofChange Rows.risenSpec) false w args)
   (Rows.risenSpec.post enc Tryz.prog Tryz.f6 false true false false):=by
 refine returnsInHanded_of_change_and (C:=Tryz.checked) (X:=fun w _=>laidMetH Tryz.prog laid4 w) (fun _ _ _ hh h=>h.of_heap hh) Tryz.own started (by kernel_rfl) Tryz.func6
  (ChangeSpec.witness_shaped (enc:=enc) (C:=Tryz.checked) (os:=os) (X:=fun w _=>laidMetH Tryz.prog laid4 w) false (World.doorLaid Tryz.prog 400 os) #[.slice none 0 0] 8 rfl (World.shaped_of_RefB (by kernel_rfl) (by kernel_rfl)) (by kernel_rfl) (by kernel_rfl) (by kernel_rfl) (jQeU os _)) ?_
 intro W base args ds gs before hval0 hW _ hsz0 hL _
 have hsz:(DataW.weightsEach Tryz.prog (Tryz.f6.params.toList++Rows.risenSpec.plain.varTypes Tryz.prog) (ds++gs)).all (·≤reachBytes)=true:=hsz0
 have hval:∀(j:Nat) t v,Tryz.f6.params[j]?=some t→args[j]?=some v→Value.okWide Tryz.prog W .any base t v:=hval0
 have hW':=hW
 obtain⟨p,q,hA0,hV,rfl,hfz,hnd⟩:=hW
 have hA:DataW.TrodAll enc Tryz.prog W 0 (fun _=>true) true Tryz.f6.params.toList args.toList ds p:=hA0
 rw[Tryz.params6] at hA hval hsz
 obtain⟨v0,d0,rfl,rfl,h0⟩:=trodAll_one hA
 obtain⟨rfl,rfl⟩:=trodVars_none hV
 obtain⟨a0,len0,cap0,rfl⟩:=okWide_slice Tryz.underlying35 (hval 0 35 v0 rfl rfl)
 have h0k:=h0
 obtain⟨fuel0,hf0⟩:=h0
 clear hA0 hval0
 simp only[List.append_nil] at hW' hsz
 have hlt:∀x∈p,x.block < W.heap.size:=fun x hx=>hW'.lt x (by simp[hx])
 obtain⟨l0,hl0⟩:=jQdT hf0 hsz (j:=0) rfl rfl
 refine(hk _ l0 W hl0 ⟨jQbh hL,jQbj hL⟩).mono ?_
 rintro e W' ⟨rfl,bel⟩
 refine⟨_,rfl,_,_,_,[],p,[],hW',?_,?_,?_,bel.frame _,fun h=>by cases h⟩
 ·exact trodAll_mk1 (shut_bool Tryz.underlying4 true)
 ·exact trodAll_mk1 (Below.trod Tryz.laidOut (by kernel_rfl) (of_decide_eq_true (by kernel_rfl)) h0k bel (fun x hx=>hlt x (by simpa using hx)))
 ·rfl
end
end Go.Proofs.YtahpihjialbanaaGreatDoor
