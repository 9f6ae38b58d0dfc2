import Derived.Test.YtahpihjialbanaaGreatDoorQbt
import Derived.Test.YtahpihjialbanaaGreatDoorQbu
set_option linter.unusedVariables false
set_option linter.unusedSimpArgs false
namespace Go.Proofs.YtahpihjialbanaaGreatDoor
namespace Sq
def isNum (c:UInt8):Prop:=c.toNat=45∨(48≤c.toNat∧c.toNat≤57)
theorem jQeL (n:Int):∀c∈Lib.itoa n,isNum c:=by
 unfold Lib.itoa
 split
 ·intro c hc
  rcases List.mem_cons.1 hc with rfl | hc
  ·exact Or.inl rfl
  ·exact Or.inr (jQj8 _ c hc)
 ·intro c hc;exact Or.inr (jQj8 _ c hc)
theorem jQm8 (n:Int):0 < (Lib.itoa n).length:=by
 unfold Lib.itoa
 split
 ·simp
 ·exact jQj7 _
def turn (q:Bool)(c:UInt8):Bool:=if c==39 then !q else q
def behind:Bool→List UInt8→List UInt8
 | _,[]=>[]
 | q,c :: r=>if c==59 && !(turn q c) then r else behind (turn q c) r
def scan:Bool→List UInt8→Option Bool
 | q,[]=>some q
 | q,c :: r=>if c==59 && !(turn q c) then none else scan (turn q c) r
def shut (l:List UInt8):Prop:=scan false l=some false
theorem jQcc:∀(l r:List UInt8) (q:Bool),scan q (l++r)=(scan q l).bind fun p=>scan p r
 | [],r,q=>rfl
 | c :: l,r,q=>by
  rw[List.cons_append,scan,scan]
  split
  ·rfl
  ·exact jQcc l r _
theorem shut.append {l r:List UInt8}(h:shut l)(k:shut r):shut (l++r):=by
 unfold shut at h k ⊢
 rw[jQcc,h];exact k
theorem jQhg:∀(l:List UInt8) (q:Bool),(39:UInt8) ∉ l→(q=false→(59:UInt8) ∉ l)→scan q l=some q:=by
 intro l
 induction l with
 | nil=>intro q _ _;rfl
 | cons c l ih =>
  intro q h1 h2
  have hc:(c==39)=false:=by
   have:c≠39:=fun e=>h1 (by simp[e])
   simpa using this
  have ht:turn q c=q:=by unfold turn;rw[hc];rfl
  rw[scan,ht]
  rw[if_neg]
  ·exact ih q (fun h=>h1 (by simp[h])) (fun hq h=>h2 hq (by simp[h]))
  ·intro he
   simp at he
   exact h2 he.2 (by simp[he.1])
theorem jQou (n:Int):shut (Lib.itoa n):=by
 refine jQhg _ _ (fun h=>?_) (fun _ h=>?_)
 ·have:=jQeL n _ h;unfold isNum at this;simp at this
 ·have:=jQeL n _ h;unfold isNum at this;simp at this
theorem jQij (v:Val)(h:goodVal v):shut (written v).data.toList:=by
 unfold written
 rcases h with⟨hk,_⟩ | ⟨hk,_,_,h⟩
 ·rw[hk,if_neg (by decide)]
  exact jQou _
 ·rw[hk,if_pos (by decide),jQj,jQj]
  unfold shut
  rw[jQcc,jQcc]
  show((some true).bind fun p=>scan p v.text.data.toList).bind _=_
  show(scan true v.text.data.toList).bind _=_
  rw[jQhg _ true h (by simp)]
  rfl
theorem jQjr:∀l:List (List UInt8),(∀x∈l,shut x)→shut (l.flatMap fun y=>44 :: y)
 | [],_=>rfl
 | x :: r,h=>by
  rw[List.flatMap_cons]
  have h1:shut (44 :: x):=h x (by simp)
  exact h1.append (jQjr r (fun y hy=>h y (by simp[hy])))
theorem jQkx (l:List (List UInt8))(h:∀x∈l,shut x):shut (joined l):=by
 cases l with
 | nil=>rfl
 | cons x r=>exact(h x (by simp)).append (jQjr r (fun y hy=>h y (by simp[hy])))
theorem jQl3 (cols:List Col)(row:List Val)(items:List ByteArray)(h:∀v∈row,goodVal v):shut (rowText cols row items):=by
 refine jQkx _ ?_
 intro x hx
 obtain⟨n,_,rfl⟩:=List.mem_map.1 hx
 exact jQij _ (jQdp cols row n h)
end Sq
section
open Go.RowKit
theorem Sq.jQnq (s:ByteArray)(k:Nat)(h:k < s.size):s.data.toList.drop k=s[k] :: s.data.toList.drop (k+1):=by
 have h':k < s.data.toList.length:=by rw[←Sq.jQG];exact h
 rw[List.drop_eq_getElem_cons h']
 rfl
theorem Sq.jQiF (s:ByteArray)(k:Nat)(h:s.size≤k):s.data.toList.drop k=[]:=List.drop_eq_nil_of_le (by rw[←Sq.jQG];exact h)
theorem Sq.jQq2 (c:UInt8)(n:Nat)(hn:n < 256):(c==UInt8.ofNat n)=((c.toNat:Int)==(n:Int)):=by
 rw[Bool.eq_iff_iff]
 simp only[beq_iff_eq]
 constructor
 ·intro h;rw[h,UInt8.toNat_ofNat'];omega
 ·intro h;apply UInt8.toNat_inj.1;rw[UInt8.toNat_ofNat'];omega
theorem Sq.eq39 (c:UInt8):(c==39)=((c.toNat:Int)==39):=Sq.jQq2 c 39 (by omega)
theorem Sq.eq59 (c:UInt8):(c==59)=((c.toNat:Int)==59):=Sq.jQq2 c 59 (by omega)
end
namespace Sq
def selCount:ByteArray:=⟨#[115,101,108,101,99,116,32,99,111,117,110,116,32,102,114,111,109,32,116]⟩
theorem jQeY (n:Int):(counted n).data.toList=Lib.itoa n++[59]:=by unfold counted;rw[jQj];rfl
end Sq
end Go.Proofs.YtahpihjialbanaaGreatDoor
