import Derived.Test.YtahpihjialbanaaGreatDoorQbk
set_option linter.unusedVariables false
set_option linter.unusedSimpArgs false
set_option maxRecDepth 100000
set_option maxHeartbeats 400000
namespace Go.Proofs.YtahpihjialbanaaGreatDoor
section
open Go.RowKit
structure Tb2 (w:World):Prop where
 t:Tbl w
 r:Rnd w
theorem Tb2.below {w w':World}(h:Tb2 w)(hb:Below w.heap.size w w'):Tb2 w':=⟨h.t.below hb,h.r.below hb⟩
def DB (sb:Nat)(w:World)(db:List Sq.Tab):Prop:=∃wide X,1≤wide∧wide≤32∧SrvAt sb w wide X∧Sq.Keeps2 X db
theorem DB.lt {sb:Nat}{w:World}{db:List Sq.Tab}(h:DB sb w db):sb < w.heap.size:=by obtain⟨_,_,_,_,h1,_⟩:=h;exact h1.lt
theorem DB.below {sb:Nat}{w w':World}{db:List Sq.Tab}(h:DB sb w db)(hb:Below w.heap.size w w'):DB sb w' db:=by
 obtain⟨a,X,h1,h2,h3,h4⟩:=h
 exact⟨a,X,h1,h2,h3.below hb,h4⟩
theorem DB.new (w:World):DB w.heap.size (w.alloc (.cells (srv0 32) 62)) []:=⟨32,Sq.ntree0,by decide,by decide,SrvAt.new 32 w,Sq.keeps0⟩
structure Frm (sb:Nat)(w w':World):Prop where
 below:Below sb w w'
 other:∀(g:Nat) (c:Array Value) (e:TypeId) (fr:Nat×Nat),w.heap[g]?=some (Obj.cells c e fr)→e≠62→e≠94→w'.heap[g]?=w.heap[g]?
def answer (s pf dg:ByteArray):Value:=.agg #[.string s,.string pf,.string dg]
theorem jQdu (sb:Nat)(db:List Sq.Tab)(sql:ByteArray)(w:World)(h:DB sb w db)(_hg:Sq.good db)(hT:Tb2 w) :
  Calls Tryz.prog 16 #[.pointer (some ⟨sb,0,none⟩),.string sql] w fun e w'=>∃pf dg,e=.returned (answer (Sq.decide db sql).reply pf dg)∧DB sb w' (Sq.after db sql)∧Frm sb w w':=by
 obtain⟨wide,X,h1,h2,h3,h4⟩:=h
 have hsb:=h3.lt
 have hblk:∃c,w.heap[sb]?=some (.cells c 62):=by obtain⟨_,_,h5,_⟩:=h3;exact⟨_,h5⟩
 refine(jQsj sb wide X db sql w h2 h3 h4 hT.t hT.r).mono ?_
 rintro e w' ⟨rfl,hs,hm⟩
 refine⟨_,_,by rw[(h4.next sql).2];rfl,⟨wide,Sq.nextOf X sql,h1,h2,hs,(h4.next sql).1⟩,hm.below (Nat.le_refl _) (by omega),fun g c e fr hg he _=>hm.block g (jQg hg) fun hgs=>?_⟩
 subst hgs
 obtain⟨c',hc⟩:=hblk
 rw[hc] at hg
 simp only[Option.some.injEq,Obj.cells.injEq] at hg
 exact he hg.2.1.symm
end
namespace Sq
def digs:List UInt8→Int→Option Int
 | [],n=>some n
 | c :: r,n=>if c.toNat < 48∨57 < c.toNat then none else digs r (10 * n+c.toNat - 48)
def number (s:ByteArray):Int×Bool :=
 if s.size < (if byteAt s 0==45 then 1 else 0)+2∨16 < s.size∨byteAt s (s.size - 1)≠59 then(0,false)
 else match digs ((s.data.toList.drop (if byteAt s 0==45 then 1 else 0)).take (s.size - 1 - (if byteAt s 0==45 then 1 else 0))) 0 with
  | none=>(0,false)
  | some n=>(if byteAt s 0==45 then -n else n,true)
def upto (l:List UInt8):List UInt8:=l.takeWhile fun c=>c != 44 && c != 59
def key (s:ByteArray):Int×Bool:=number (⟨(upto s.data.toList).toArray⟩++bSemi)
end Sq
section
open Go.RowKit
def Sq.pick (c n:Int):Int:=(if c < 0 then -(c+1) else c) % n
theorem Sq.jQjA (c n:Int)(h:0 < n):0≤Sq.pick c n∧Sq.pick c n < n:=⟨Int.emod_nonneg _ (by omega),Int.emod_lt_of_pos _ h⟩
theorem jQch (c n:Int)(w:World)(h0:-9223372036854775808≤c)(h1:c≤9223372036854775807)(hn:0 < n)(hn2:n≤1000) :
  Calls Tryz.prog 13 #[.int .i64 c,.int .i64 n] w fun e w'=>e=.returned (.int .i64 (Sq.pick c n))∧w'=w:=by
 have hb:=Sq.jQjA c n hn
 by_cases hc:c < 0
 ·have HE:Hid (Sq.pick c n=-(c+1).tmod n):=by show _=_;unfold Sq.pick;rw[if_pos hc,←Int.neg_tmod,Int.tmod_eq_emod_of_nonneg (by omega)]
  go_enter Tryz.func13,Tryz.ntmps13
  go_wp2
  go_ret
  exact⟨by rw[HE.out];rfl,rfl⟩
 ·have HE:Hid (Sq.pick c n=c % n):=by show _=_;unfold Sq.pick;rw[if_neg hc]
  go_enter Tryz.func13,Tryz.ntmps13
  go_wp2
  go_ret
  exact⟨by rw[HE.out];rfl,rfl⟩
def Sq.rest (s:ByteArray)(k:Nat):List UInt8:=(s.data.toList.drop k).take (s.size - 1 - k)
end
end Go.Proofs.YtahpihjialbanaaGreatDoor
