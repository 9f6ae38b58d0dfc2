import Derived.Test.YtahpihjialbanaaGreatDoorQac
set_option linter.unusedVariables false
set_option linter.unusedSimpArgs false
set_option maxRecDepth 100000
set_option maxHeartbeats 2000000
namespace Go.Proofs.YtahpihjialbanaaGreatDoor
section
open Go.RowKit
structure Stm (B:Nat)(w:World)(st:Sq.PSt)(r:Rw):Prop where
 cols:w.ownsRow B 205 2 r.cv st.cols.length (st.cols.flatMap Sq.Col.cells)
 vals:w.ownsRow B 208 3 r.vv st.vals.length (st.vals.flatMap Sq.Val.cells)
 sets:w.ownsRow B 213 10 r.sv st.sets.length (st.sets.flatMap Sq.SetS.cells)
 items:w.ownsRow B 9 1 r.iv st.items.length (st.items.map Value.string)
 wher:w.ownsRow B 217 9 r.wv st.wher.length (st.wher.flatMap Sq.StepS.cells)
def stmCells (st:Sq.PSt)(r:Rw):Array Value:=#[.int .i64 st.act,.string st.table,r.cv,r.vv,r.sv,.int .i64 st.shw,r.iv,r.wv]
theorem jQi {w:World}{base base':Nat}{e:TypeId}{size:Nat}{v:Value}{n:Nat}{xs:List Value}(h:w.ownsRow base e size v n xs)(hb:base'≤base):w.ownsRow base' e size v n xs:=by
 refine⟨h.1,?_⟩
 rcases h.2 with h2 | ⟨g,cap,cur,hv,hg,r⟩
 ·exact Or.inl h2
 ·exact Or.inr ⟨g,cap,cur,hv,Nat.le_trans hb hg,r⟩
theorem jQa {w:World}{base:Nat}{e:TypeId}{size:Nat}{v:Value}{n:Nat}{xs:List Value}(h:w.ownsRow base e size v n xs):∃ao cap,v=.slice ao n cap:=by
 rcases h.2 with⟨h1,h2⟩ | ⟨g,cap,_,h1,_⟩
 ·exact⟨none,0,by rw[h1,h2]⟩
 ·exact⟨_,_,h1⟩
theorem Stm.base {B B':Nat}{w:World}{st:Sq.PSt}{r:Rw}(h:Stm B w st r)(hb:B'≤B):Stm B' w st r :=
 ⟨jQi h.cols hb,jQi h.vals hb,jQi h.sets hb,jQi h.items hb,jQi h.wher hb⟩
theorem PS.stm {pb B:Nat}{lv:Value}{ws:List Sq.Word}{r:Rw}{w:World}{st:Sq.PSt}(h:PS pb lv ws r w st)(hB:B≤pb+1):Stm B w st r :=
 ⟨jQi h.cols hB,jQi h.vals hB,jQi h.sets hB,jQi h.items hB,jQi h.wher hB⟩
theorem Stm.setCell {B:Nat}{w:World}{st:Sq.PSt}{r:Rw}(h:Stm B w st r){b o:Nat}(hb:b < B)(x:Value):Stm B (w.setCell ⟨b,o,none⟩ x) st r :=
 ⟨ownsRow_setCell_below h.cols (a:=⟨b,o,none⟩) hb x,ownsRow_setCell_below h.vals (a:=⟨b,o,none⟩) hb x,ownsRow_setCell_below h.sets (a:=⟨b,o,none⟩) hb x,ownsRow_setCell_below h.items (a:=⟨b,o,none⟩) hb x,ownsRow_setCell_below h.wher (a:=⟨b,o,none⟩) hb x⟩
theorem below8 {B:Nat}{a w:World}(h:Below B a w)(v0 v1 v2 v3 v4 v5 v6 v7:Value):Below B a ((((((((w.setCell ⟨B,0,none⟩ v0).setCell ⟨B,1,none⟩ v1).setCell ⟨B,2,none⟩ v2).setCell ⟨B,3,none⟩ v3).setCell ⟨B,4,none⟩ v4).setCell ⟨B,5,none⟩ v5).setCell ⟨B,6,none⟩ v6).setCell ⟨B,7,none⟩ v7) :=
 (((((((h.setCell (Nat.le_refl _) _).setCell (Nat.le_refl _) _).setCell (Nat.le_refl _) _).setCell (Nat.le_refl _) _).setCell (Nat.le_refl _) _).setCell (Nat.le_refl _) _).setCell (Nat.le_refl _) _).setCell (Nat.le_refl _) _
def r0:Rw:=⟨.slice none 0 0,.slice none 0 0,.slice none 0 0,.slice none 0 0,.slice none 0 0⟩
theorem jQpE (s:ByteArray)(w:World) :
  Calls Tryz.prog 67 #[.string s] w fun e w'=>Below w.heap.size w w' ∧
   ∃r,e=.returned (.tuple #[.agg (stmCells (Sq.parse s).2 r),.int .i64 (Sq.parse s).1])∧Stm w.heap.size w' (Sq.parse s).2 r:=by
 have hnil:∀W,Stm w.heap.size W Sq.st0 r0:=fun W=>⟨World.ownsRow_nil _ _ _ _,World.ownsRow_nil _ _ _ _,World.ownsRow_nil _ _ _ _,World.ownsRow_nil _ _ _ _,World.ownsRow_nil _ _ _ _⟩
 have HNIL:Hid _:=hnil
 clear hnil
 by_cases hlen:160 < s.size
 ·have HE:Hid (Sq.parse s=(2,Sq.st0)):=by show _=_;unfold Sq.parse;rw[if_pos hlen]
  go_enter Tryz.func67,Tryz.ntmps67
  go_wp2
  refine bodyPost_ret (v:=.tuple #[.agg (stmCells Sq.st0 r0),.int .i64 2]) (by simp[results,Tryz.results67,go_sem,stmCells,Sq.st0,r0,Sq.nobytes]) rfl ⟨?_,r0,by rw[HE.out],by rw[HE.out];exact HNIL.out _⟩
  exact(Below.refl _ _).alloc (Nat.le_refl _) _
 ·have hs:s.size≤1000:=by omega
  have hlen':(s.size:Int)≤160:=by omega
  go_enter Tryz.func67,Tryz.ntmps67
  go_wp2_with fail
  refine(jQpD s _ hs).mono ?_
  rintro e w1 ⟨hb1,hr1⟩
  have hz1:w.heap.size < w1.heap.size:=by have:=hb1.size;simp at this;omega
  have hbw:Below w.heap.size w w1:=((Below.refl _ w).alloc (Nat.le_refl _) _).trans (hb1.mono (by simp))
  obtain⟨k1,k2⟩:=bcell hb1
  have a0:=k1 w.heap.size 0 (by simp)
  have a1:=k1 w.heap.size 1 (by simp)
  have a2:=k1 w.heap.size 2 (by simp)
  have a3:=k1 w.heap.size 3 (by simp)
  have a4:=k1 w.heap.size 4 (by simp)
  have a5:=k1 w.heap.size 5 (by simp)
  have a6:=k1 w.heap.size 6 (by simp)
  have a7:=k1 w.heap.size 7 (by simp)
  have b0:=k2 w.heap.size 0 (by simp)
  have b1:=k2 w.heap.size 1 (by simp)
  have b2:=k2 w.heap.size 2 (by simp)
  have b3:=k2 w.heap.size 3 (by simp)
  have b4:=k2 w.heap.size 4 (by simp)
  have b5:=k2 w.heap.size 5 (by simp)
  have b6:=k2 w.heap.size 6 (by simp)
  have b7:=k2 w.heap.size 7 (by simp)
  simp[go_sem] at a0 a1 a2 a3 a4 a5 a6 a7 b0 b1 b2 b3 b4 b5 b6 b7
  clear k1 k2
  rcases hr1 with⟨hn,rfl⟩ | ⟨ws,v,hsp,rfl,hwl,hown⟩
  ·have HE:Hid (Sq.parse s=(3,Sq.st0)):=by show _=_;unfold Sq.parse;rw[if_neg hlen,hn]
   clear hb1 hn
   go_wp2
   refine bodyPost_ret (v:=.tuple #[.agg (stmCells Sq.st0 r0),.int .i64 3]) (by simp[results,Tryz.results67,go_sem,stmCells,Sq.st0,r0,Sq.nobytes, *]) rfl ⟨?_,r0,by rw[HE.out],by rw[HE.out];exact HNIL.out _⟩
   exact below8 hbw _ _ _ _ _ _ _ _
  ·have hps:PS w1.heap.size v ws r0 (w1.alloc (.cells #[v,.int .i64 0,.bool false,.int .i64 0,.string ⟨#[]⟩,.slice none 0 0,.slice none 0 0,.slice none 0 0,.int .i64 0,.slice none 0 0,.slice none 0 0] 160)) Sq.st0 :=
    ⟨heap_alloc_new w1 _,jQi (hown.alloc _) (Nat.zero_le _),hwl,Sq.jQqh s ws hsp,Nat.zero_le _,World.ownsRow_nil _ _ _ _,World.ownsRow_nil _ _ _ _,World.ownsRow_nil _ _ _ _,World.ownsRow_nil _ _ _ _,World.ownsRow_nil _ _ _ _⟩
   have HPS:Hid _:=hps
   have HSP:Hid _:=hsp
   obtain⟨la,lcap,hlv⟩:∃ao cap,v=.slice ao ws.length cap:=by
    rcases hown.2 with⟨h1,h2⟩ | ⟨g,cap,_,h1,_⟩
    ·exact⟨none,0,by rw[h1,h2]⟩
    ·exact⟨_,_,h1⟩
   subst hlv
   clear hps hsp hown hb1
   go_wp2_with fail
   refine(jQg9 HPS.out).mono ?_
   rintro e w2 ⟨rfl,⟨r2,hp2⟩,hb2⟩
   obtain⟨st,hst⟩:∃x,x=Sq.statementS ws Sq.st0:=⟨_,rfl⟩
   rw[←hst] at hp2
   have HST:Hid _:=hst
   obtain⟨cv,vv,sv,iv,wv⟩:=r2
   obtain⟨q5,c5,hcv⟩:=jQa hp2.cols
   obtain⟨q6,c6,hvv⟩:=jQa hp2.vals
   obtain⟨q7,c7,hsv⟩:=jQa hp2.sets
   obtain⟨q9,c9,hiv⟩:=jQa hp2.items
   obtain⟨q10,c10,hwv⟩:=jQa hp2.wher
   dsimp only at hcv hvv hsv hiv hwv
   subst hcv hvv hsv hiv hwv
   have hz2:w1.heap.size < w2.heap.size:=hp2.lt
   have p0:=hp2.cell 0 (.slice la ws.length lcap) rfl
   have p1:=hp2.cell 1 (.int .i64 st.pos) rfl
   have p2:=hp2.cell 2 (.bool st.bad) rfl
   have p3:=hp2.cell 3 (.int .i64 st.act) rfl
   have p4:=hp2.cell 4 (.string st.table) rfl
   have p5:=hp2.cell 5 (.slice q5 st.cols.length c5) rfl
   have p6:=hp2.cell 6 (.slice q6 st.vals.length c6) rfl
   have p7:=hp2.cell 7 (.slice q7 st.sets.length c7) rfl
   have p8:=hp2.cell 8 (.int .i64 st.shw) rfl
   have p9:=hp2.cell 9 (.slice q9 st.items.length c9) rfl
   have p10:=hp2.cell 10 (.slice q10 st.wher.length c10) rfl
   have hin:=hp2.inside
   have HS2:Hid (Stm (w.heap.size+1) w2 st ⟨.slice q5 st.cols.length c5,.slice q6 st.vals.length c6,.slice q7 st.sets.length c7,.slice q9 st.items.length c9,.slice q10 st.wher.length c10⟩):=hp2.stm (by omega)
   have hbw2:Below w.heap.size w w2:=(Below.alloc (B:=w.heap.size) hbw (by omega) _).trans (Below.mono (B':=w.heap.size) hb2 (by omega))
   have hb2':Below w1.heap.size w1 w2:=(Below.alloc (B:=w1.heap.size) (Below.refl _ _) (Nat.le_refl _) _).trans hb2
   obtain⟨k1,k2⟩:=bcell hb2'
   have a0':=(k1 w.heap.size 0 hz1).trans a0
   have a1':=(k1 w.heap.size 1 hz1).trans a1
   have a2':=(k1 w.heap.size 2 hz1).trans a2
   have a3':=(k1 w.heap.size 3 hz1).trans a3
   have a4':=(k1 w.heap.size 4 hz1).trans a4
   have a5':=(k1 w.heap.size 5 hz1).trans a5
   have a6':=(k1 w.heap.size 6 hz1).trans a6
   have a7':=(k1 w.heap.size 7 hz1).trans a7
   have b0':=(k2 w.heap.size 0 hz1).trans b0
   have b1':=(k2 w.heap.size 1 hz1).trans b1
   have b2':=(k2 w.heap.size 2 hz1).trans b2
   have b3':=(k2 w.heap.size 3 hz1).trans b3
   have b4':=(k2 w.heap.size 4 hz1).trans b4
   have b5':=(k2 w.heap.size 5 hz1).trans b5
   have b6':=(k2 w.heap.size 6 hz1).trans b6
   have b7':=(k2 w.heap.size 7 hz1).trans b7
   have hzz:w.heap.size < w2.heap.size:=by omega
   clear a0 a1 a2 a3 a4 a5 a6 a7 b0 b1 b2 b3 b4 b5 b6 b7 k1 k2 hp2 hb2 hb2' hst
   have HPa:Hid (Sq.parse s=if st.bad || st.pos != ws.length then(3,Sq.st0) else(0,st)):=by show _=_;unfold Sq.parse;rw[if_neg hlen,HSP.out,HST.out]
   cases hbad:st.bad
   case true =>
    have HE:Hid (Sq.parse s=(3,Sq.st0)):=by show _=_;rw[HPa.out,hbad];rfl
    rw[hbad] at p2
    clear hbad
    go_wp2
    refine bodyPost_ret (v:=.tuple #[.agg (stmCells Sq.st0 r0),.int .i64 3]) (by simp[results,Tryz.results67,go_sem,stmCells,Sq.st0,r0,Sq.nobytes, *]) rfl ⟨?_,r0,by rw[HE.out],by rw[HE.out];exact HNIL.out _⟩
    exact below8 hbw2 _ _ _ _ _ _ _ _
   case false =>
    rw[hbad] at p2
    by_cases hpos:st.pos=ws.length
    ·have HE:Hid (Sq.parse s=(0,st)):=by show _=_;rw[HPa.out,hbad,hpos];simp
     have hpos':((st.pos:Int) != (ws.length:Int))=false:=by simp[hpos]
     clear hbad hpos
     go_wp2
     refine bodyPost_ret (v:=.tuple #[.agg (stmCells st ⟨.slice q5 st.cols.length c5,.slice q6 st.vals.length c6,.slice q7 st.sets.length c7,.slice q9 st.items.length c9,.slice q10 st.wher.length c10⟩),.int .i64 0]) (by simp[results,Tryz.results67,go_sem,stmCells, *]) rfl ⟨?_,_,by rw[HE.out],?_⟩
     ·exact below8 hbw2 _ _ _ _ _ _ _ _
     ·rw[HE.out]
      refine Stm.base (B:=w.heap.size+1) ?_ (Nat.le_succ _)
      exact(((((((HS2.out.setCell (Nat.lt_succ_self _) _).setCell (Nat.lt_succ_self _) _).setCell (Nat.lt_succ_self _) _).setCell (Nat.lt_succ_self _) _).setCell (Nat.lt_succ_self _) _).setCell (Nat.lt_succ_self _) _).setCell (Nat.lt_succ_self _) _).setCell (Nat.lt_succ_self _) _
    ·have HE:Hid (Sq.parse s=(3,Sq.st0)):=by show _=_;rw[HPa.out,hbad];simp[hpos]
     have hpos':((st.pos:Int) != (ws.length:Int))=true:=by simp;omega
     have hpos2:st.pos < ws.length:=by omega
     clear hbad hpos
     go_wp2
     refine bodyPost_ret (v:=.tuple #[.agg (stmCells Sq.st0 r0),.int .i64 3]) (by simp[results,Tryz.results67,go_sem,stmCells,Sq.st0,r0,Sq.nobytes, *]) rfl ⟨?_,r0,by rw[HE.out],by rw[HE.out];exact HNIL.out _⟩
     exact below8 hbw2 _ _ _ _ _ _ _ _
end
namespace Sq
def findFrom (n:ByteArray):List Col→Int→Int
 | [],_=>-1
 | c :: r,i=>if c.name.toList==n.toList then i else findFrom n r (i+1)
def find (cols:List Col)(n:ByteArray):Int:=findFrom n cols 0
theorem jQkU (n:ByteArray)(l:List Col):∀i:Int,0≤i→findFrom n l i=-1∨(i≤findFrom n l i∧findFrom n l i < i+l.length):=by
 induction l with
 | nil=>intro i _;left;rfl
 | cons c r ih =>
  intro i hi
  rw[findFrom]
  split
  ·right;simp;omega
  ·rcases ih (i+1) (by omega) with h | h
   ·left;exact h
   ·right;simp;omega
theorem jQpW (cols:List Col)(n:ByteArray):find cols n=-1∨(0≤find cols n∧find cols n < cols.length):=by
 have:=jQkU n cols 0 (by omega)
 unfold find
 rcases this with h | h
 ·left;exact h
 ·right;omega
theorem jQhH (cols:List Col)(n:ByteArray)(k:Nat)(h:k < cols.length):findFrom n (cols.drop k) k=if cols[k].name.toList==n.toList then(k:Int) else findFrom n (cols.drop (k+1)) ((k:Int)+1):=by
 rw[List.drop_eq_getElem_cons h,findFrom]
def sideOf (b:Bool):Int:=if b then -1 else 1
def compare (v x:Val):Int :=
 if v.kind != x.kind then sideOf (decide (v.kind < x.kind))
 else if v.kind==0 && v.number != x.number then sideOf (decide (v.number < x.number))
 else if v.kind==1 && !(v.text.toList==x.text.toList) then sideOf (Op.bytesLess v.text.toList x.text.toList)
 else 0
theorem jQni {α:Type}(f:α→List Value)(size:Nat)(hf:∀x,(f x).length=size):∀(l:List α) (k j:Nat) (hk:k < l.length),j < size→(l.flatMap f)[k * size+j]?=(f l[k])[j]?:=by
 intro l
 induction l with
 | nil=>intro k j hk;simp at hk
 | cons x r ih =>
  intro k j hk hj
  rw[List.flatMap_cons]
  cases k with
  | zero =>
   rw[List.getElem?_append_left (by rw[hf];omega)]
   simp
  | succ k =>
   rw[List.getElem?_append_right (by rw[hf,Nat.add_mul];omega),hf]
   have e:(k+1) * size+j - size=k * size+j:=by rw[Nat.add_mul];omega
   rw[e,ih k j (by simpa using hk) hj]
   rfl
theorem jQfO {α:Type}(f:α→List Value)(size:Nat)(hf:∀x,(f x).length=size)(l:List α):(l.flatMap f).length=l.length * size:=by
 induction l with
 | nil=>simp
 | cons x r ih=>rw[List.flatMap_cons,List.length_append,hf,ih,List.length_cons,Nat.add_mul];omega
def columnKind (cols:List Col)(n:ByteArray):Int×Bool:=match cols[(find cols n).toNat]? with
 | some c=>if find cols n < 0 then(0,false) else(c.kind,true)
 | none=>(0,false)
def kindOf (cols:List Col)(t:Term):Int×Bool:=if t.column.toList.isEmpty then(t.lit.kind,true) else columnKind cols t.column
def checkValuesFrom:List Val→List Col→Int
 | v :: r,c :: q=>if v.kind != c.kind then 7 else checkValuesFrom r q
 | _,_=>0
def checkValues (cols:List Col)(vals:List Val):Int:=if vals.length != cols.length then 6 else checkValuesFrom vals cols
def checkSum (cols:List Col)(target:Int)(s:SetS):Int :=
 if !(kindOf cols s.first).2 then 4
 else if(kindOf cols s.first).1 != target then 7
 else if s.sign.toList.isEmpty then 0
 else if !(kindOf cols s.second).2 then 4
 else if(kindOf cols s.first).1==1 || (kindOf cols s.second).1==1 then 7
 else 0
def setBefore (sets:List SetS)(n:ByteArray):Bool:=sets.any fun s=>s.column.toList==n.toList
def checkSet (cols:List Col)(earlier:List SetS)(s:SetS):Int:=match cols[(find cols s.column).toNat]? with
 | some c=>if find cols s.column < 0 then 4 else if find cols s.column==0 then 8 else if setBefore earlier s.column then 5 else checkSum cols c.kind s
 | none=>4
def checkSetsFrom (cols:List Col):List SetS→List SetS→Int
 | _,[]=>0
 | e,s :: r=>if checkSet cols e s != 0 then checkSet cols e s else checkSetsFrom cols (e++[s]) r
def checkSets (cols:List Col)(sets:List SetS):Int:=checkSetsFrom cols [] sets
def checkItemsFrom (cols:List Col)(shw:Int):List ByteArray→Int
 | []=>0
 | n :: r=>if !(columnKind cols n).2 then 4 else if shw==3 && (columnKind cols n).1==1 then 7 else checkItemsFrom cols shw r
def checkWhereFrom (cols:List Col):List StepS→Int
 | []=>0
 | s :: r =>
  if !isComparison s.op then checkWhereFrom cols r
  else if !(kindOf cols s.left).2 then 4
  else if !(kindOf cols s.right).2 then 4
  else if(kindOf cols s.left).1 != (kindOf cols s.right).1 then 7
  else checkWhereFrom cols r
def checkAct (cols:List Col)(st:PSt):Int :=
 if st.act==2 then checkValues cols st.vals else if st.act==3 then checkSets cols st.sets else if st.act==5 then checkItemsFrom cols st.shw st.items else 0
def check (cols:List Col)(st:PSt):Int:=if checkAct cols st != 0 then checkAct cols st else checkWhereFrom cols st.wher
theorem jQdG (cols:List Col)(n:ByteArray)(h:find cols n=-1):columnKind cols n=(0,false):=by
 unfold columnKind;rw[h];split <;> simp
theorem jQc2 (cols:List Col)(n:ByteArray)(k:Nat)(hk:k < cols.length)(h:find cols n=k):columnKind cols n=(cols[k].kind,true):=by
 unfold columnKind;rw[h,Int.toNat_natCast,List.getElem?_eq_getElem hk];simp only;rw[if_neg (by omega)]
theorem jQc0 (cols:List Col)(n:ByteArray):find cols n=-1∨∃k:Nat,∃_:k < cols.length,find cols n=k:=by
 rcases jQpW cols n with h | ⟨h1,h2⟩
 ·left;exact h
 ·right
  obtain⟨k,hk⟩:=Int.eq_ofNat_of_zero_le h1
  exact⟨k,by omega,hk⟩
def keyOf (row:List Val):Int:=match row with | []=>0 | v :: _=>v.number
def cellOf (cols:List Col)(row:List Val)(n:ByteArray):Val:=if find cols n < 0 then val0 else(row[(find cols n).toNat]?).getD val0
def valueOf (cols:List Col)(row:List Val)(t:Term):Val:=if t.column.toList.isEmpty then t.lit else cellOf cols row t.column
def holds (op:ByteArray)(side:Int):Bool :=
 if op.toList==[61] then side==0
 else if op.toList==[60,62] then side != 0
 else if op.toList==[60] then decide (side < 0)
 else if op.toList==[60,61] then decide (side≤0)
 else if op.toList==[62] then decide (0 < side)
 else decide (0≤side)
def compared (cols:List Col)(row:List Val)(s:StepS):Bool:=holds s.op (compare (valueOf cols row s.left) (valueOf cols row s.right))
def popB (l:List Bool):Bool:=l.getLast?.getD false
def joinB (l:List Bool)(op:ByteArray):List Bool :=
 if op.toList==[110,111,116] then l.dropLast++[!popB l]
 else if op.toList==[97,110,100] then l.dropLast.dropLast++[popB l.dropLast && popB l]
 else l.dropLast.dropLast++[popB l.dropLast || popB l]
def stepB (cols:List Col)(row:List Val)(l:List Bool)(s:StepS):List Bool:=if isComparison s.op then l++[compared cols row s] else joinB l s.op
def meets (cols:List Col)(row:List Val)(steps:List StepS):Bool:=if steps.isEmpty then true else popB (steps.foldl (stepB cols row) [])
structure Tab where
 name:ByteArray
 cols:List Col
 rows:List (List Val)
end Sq
section
open Go.RowKit
theorem hd {p:Prop}(h:p):Hid p:=h
theorem sl_at {α:Type}{f:α→List Value}{size:Nat}(hf:∀x,(f x).length=size){w:World}{base:Nat}{e:TypeId}{v:Value}{l:List α}(h:w.ownsRow base e size v l.length (l.flatMap f))(k:Nat)(hk:k < l.length) :
  ∃g cap,v=.slice (some ⟨g,0,none⟩) l.length cap∧g < w.heap.size∧∀j u,j < size→(f l[k])[j]?=some u→w.cell? ⟨g,k * size+j,none⟩=some u:=by
 obtain⟨g,cap,rfl,_,hlt⟩:=h.form (by omega)
 refine⟨g,cap,rfl,hlt,fun j u hj hu=>?_⟩
 have:=h.cells (g:=g) rfl (k * size+j) u (by rw[Sq.jQni f size hf l k j hk hj];exact hu)
 rwa [show(⟨g,0,none⟩:Addr).add (k * size+j)=⟨g,k * size+j,none⟩ from by unfold Addr.add;split <;> simp_all] at this
theorem jQem (b:Bool)(w:World) :
  Calls Tryz.prog 224 #[.bool b] w fun e w'=>e=.returned (.int .i64 (Sq.sideOf b))∧w'=w:=by
 cases b
 all_goals
  go_enter Tryz.func224,Tryz.ntmps224
  go_wp2
  go_ret
  exact⟨rfl,rfl⟩
theorem jQaD (cols:List Sq.Col)(v:Value)(n:ByteArray)(w:World)(h:w.ownsRow 0 205 2 v cols.length (cols.flatMap Sq.Col.cells))(hl:cols.length≤100000) :
  Calls Tryz.prog 148 #[v,.string n] w fun e w'=>e=.returned (.int .i64 (Sq.find cols n))∧w'=w:=by
 obtain⟨ao,cap,rfl⟩:=jQa h
 have H:=hd h
 clear h
 go_enter Tryz.func148,Tryz.ntmps148
 go_wp2
 go_loop [5] (fun i=>∃k:Nat,k≤cols.length∧i=.int .i64 k∧Hid (Sq.find cols n=Sq.findFrom n (cols.drop k) k)) (fun i=>cols.length - (intOf i).toNat)
 case atStart=>exact⟨0,Nat.zero_le _,rfl,rfl⟩
 case round =>
  obtain⟨k,hk,rfl,hr⟩:=hrel
  by_cases hlt:k < cols.length
  ·obtain⟨g,cap',hv,hg,hc⟩:=sl_at (f:=Sq.Col.cells) (fun _=>rfl) H.out k hlt
   simp only[Value.slice.injEq] at hv
   obtain⟨rfl,-,rfl⟩:=hv
   have c0:=hc 0 (.string cols[k].name) (by decide) rfl
   simp only[Nat.add_zero] at c0
   have hs:=Sq.jQhH cols n k hlt
   have HS:Hid _:=hs
   clear hc hs
   cases he:cols[k].name.toList==n.toList
   ·have hs:=HS.out
    rw[he] at hs
    have HR:Hid (Sq.find cols n=Sq.findFrom n (cols.drop (k+1)) ((k:Int)+1)):=hr.out.trans hs
    clear hs HS hr
    go_wp2
    go_round
    case rel=>exact⟨k+1,by omega,by go_num,HR.out⟩
    case measure=>simp[intOf];omega
   ·have hs:=HS.out
    rw[he] at hs
    have HR:Hid (Sq.find cols n=(k:Int)):=hr.out.trans hs
    clear hs HS hr
    go_wp2
    go_ret
    exact⟨by rw[HR.out];rfl,rfl⟩
  ·have HR:Hid (Sq.find cols n=-1):=by show _=_;rw[hr.out,List.drop_eq_nil_of_le (by omega)];rfl
   clear hr
   go_wp2
   go_ret
   exact⟨by rw[HR.out];rfl,rfl⟩
theorem jQlq (v x:Sq.Val)(w:World) :
  Calls Tryz.prog 206 #[.agg v.cells.toArray,.agg x.cells.toArray] w fun e w'=>e=.returned (.int .i64 (Sq.compare v x))∧Below w.heap.size w w':=by
 obtain⟨vk,vn,vt⟩:=v
 obtain⟨xk,xn,xt⟩:=x
 unfold Sq.Val.cells
 have hbl:∀a b,Below w.heap.size w ((w.alloc a).alloc b):=fun a b=>((Below.refl _ _).alloc (Nat.le_refl _) _).alloc (by simp) _
 have HBL:Hid _:=hbl
 clear hbl
 cases h1:vk != xk
 case true =>
  have HE:Hid (Sq.compare ⟨vk,vn,vt⟩ ⟨xk,xn,xt⟩=Sq.sideOf (decide (vk < xk))):=by show _=_;unfold Sq.compare;simp only;rw[h1];rfl
  go_enter Tryz.func206,Tryz.ntmps206
  go_wp2_with (go_at_call 224;refine(jQem _ _).mono ?_;rintro e w' ⟨rfl,rfl⟩)
  go_ret
  exact⟨by rw[HE.out];rfl,HBL.out _ _⟩
 cases h2:(vk==0 && vn != xn)
 case true =>
  have HE:Hid (Sq.compare ⟨vk,vn,vt⟩ ⟨xk,xn,xt⟩=Sq.sideOf (decide (vn < xn))):=by show _=_;unfold Sq.compare;simp only;rw[h1,h2];rfl
  obtain⟨h2a,h2b⟩:(vk==0)=true∧(vn != xn)=true:=by simpa using h2
  clear h2
  go_enter Tryz.func206,Tryz.ntmps206
  go_wp2_with (go_at_call 224;refine(jQem _ _).mono ?_;rintro e w' ⟨rfl,rfl⟩)
  go_ret
  exact⟨by rw[HE.out];rfl,HBL.out _ _⟩
 cases h3:(vk==1 && !(vt.toList==xt.toList))
 case true =>
  have HE:Hid (Sq.compare ⟨vk,vn,vt⟩ ⟨xk,xn,xt⟩=Sq.sideOf (Op.bytesLess vt.toList xt.toList)):=by show _=_;unfold Sq.compare;simp only;rw[h1,h2,h3];rfl
  obtain⟨h3a,h3b⟩:(vk==1)=true∧(vt.toList==xt.toList)=false:=by simpa using h3
  have h0:(vk==0)=false:=by rw[eq_of_beq h3a];rfl
  clear h2 h3
  go_enter Tryz.func206,Tryz.ntmps206
  go_wp2_with (go_at_call 224;refine(jQem _ _).mono ?_;rintro e w' ⟨rfl,rfl⟩)
  go_ret
  exact⟨by rw[HE.out];rfl,HBL.out _ _⟩
 case false =>
  have HE:Hid (Sq.compare ⟨vk,vn,vt⟩ ⟨xk,xn,xt⟩=0):=by show _=_;unfold Sq.compare;simp only;rw[h1,h2,h3];rfl
  cases h0:vk==0
  ·cases h4:vk==1
   ·clear h2 h3
    go_enter Tryz.func206,Tryz.ntmps206
    go_wp2
    go_ret
    exact⟨by rw[HE.out];rfl,HBL.out _ _⟩
   ·have h5:(vt.toList==xt.toList)=true:=by rw[h4] at h3;simpa using h3
    clear h2 h3
    go_enter Tryz.func206,Tryz.ntmps206
    go_wp2
    go_ret
    exact⟨by rw[HE.out];rfl,HBL.out _ _⟩
  ·have h5:(vn != xn)=false:=by rw[h0] at h2;simpa using h2
   have h4:(vk==1)=false:=by rw[eq_of_beq h0];rfl
   clear h2 h3
   go_enter Tryz.func206,Tryz.ntmps206
   go_wp2
   go_ret
   exact⟨by rw[HE.out];rfl,HBL.out _ _⟩
end
section
open Go.RowKit
def ColsAt (w:World)(v:Value)(cols:List Sq.Col):Prop:=w.ownsRow 0 205 2 v cols.length (cols.flatMap Sq.Col.cells)∧cols.length≤100000
theorem ColsAt.below {w w':World}{v:Value}{cols:List Sq.Col}(h:ColsAt w v cols)(hb:Below w.heap.size w w'):ColsAt w' v cols:=⟨jQh h.1 hb,h.2⟩
theorem ColsAt.alloc {w:World}{v:Value}{cols:List Sq.Col}(h:ColsAt w v cols)(o:Obj):ColsAt (w.alloc o) v cols:=h.below ((Below.refl _ _).alloc (Nat.le_refl _) _)
theorem jQav (cols:List Sq.Col)(v:Value)(n:ByteArray)(w:World)(h:ColsAt w v cols) :
  Calls Tryz.prog 150 #[v,.string n] w fun e w'=>e=.returned (.tuple #[.int .i64 (Sq.columnKind cols n).1,.bool (Sq.columnKind cols n).2])∧w'=w:=by
 obtain⟨ao,cap,rfl⟩:=jQa h.1
 have hl:=h.2
 have H:=hd h
 clear h
 rcases Sq.jQc0 cols n with hf | ⟨k,hk,hf⟩
 ·have HE:=hd (Sq.jQdG cols n hf)
  have HF:=hd hf
  clear hf
  go_enter Tryz.func150,Tryz.ntmps150
  go_wp2_with (go_at_call 148;refine(jQaD cols _ n _ H.out.1 hl).mono ?_;rintro e w' ⟨rfl,rfl⟩;rw[HF.out])
  go_ret2
  exact⟨by rw[HE.out];rfl,rfl⟩
 ·have HE:=hd (Sq.jQc2 cols n k hk hf)
  have HF:=hd hf
  obtain⟨g,cap',hv,hg,hc⟩:=sl_at (f:=Sq.Col.cells) (fun _=>rfl) H.out.1 k hk
  simp only[Value.slice.injEq] at hv
  obtain⟨rfl,-,rfl⟩:=hv
  have c1:=hc 1 (.int .i64 cols[k].kind) (by decide) rfl
  clear hf hc
  go_enter Tryz.func150,Tryz.ntmps150
  go_wp2_with (go_at_call 148;refine(jQaD cols _ n _ H.out.1 hl).mono ?_;rintro e w' ⟨rfl,rfl⟩;rw[HF.out])
  go_ret2
  exact⟨by rw[HE.out];rfl,rfl⟩
theorem jQcY (cols:List Sq.Col)(v:Value)(t:Sq.Term)(w:World)(h:ColsAt w v cols) :
  Calls Tryz.prog 152 #[v,.agg t.cells.toArray] w fun e w'=>e=.returned (.tuple #[.int .i64 (Sq.kindOf cols t).1,.bool (Sq.kindOf cols t).2])∧Below w.heap.size w w':=by
 obtain⟨tc,⟨tk,tn,tt⟩⟩:=t
 unfold Sq.Term.cells
 have H:=hd h
 clear h
 cases he:tc.toList.isEmpty
 ·have HE:Hid (Sq.kindOf cols ⟨tc,⟨tk,tn,tt⟩⟩=Sq.columnKind cols tc):=by show _=_;unfold Sq.kindOf;simp only;rw[he];rfl
  go_enter Tryz.func152,Tryz.ntmps152
  go_wp2_with (go_at_call 150;refine(jQav cols v tc _ (H.out.alloc _)).mono ?_;rintro e w' ⟨rfl,rfl⟩)
  go_ret2
  exact⟨by rw[HE.out];rfl,(Below.refl _ _).alloc (Nat.le_refl _) _⟩
 ·have HE:Hid (Sq.kindOf cols ⟨tc,⟨tk,tn,tt⟩⟩=(tk,true)):=by show _=_;unfold Sq.kindOf;simp only;rw[he];rfl
  go_enter Tryz.func152,Tryz.ntmps152
  go_wp2
  go_ret2
  exact⟨by rw[HE.out];rfl,(Below.refl _ _).alloc (Nat.le_refl _) _⟩
end
section
open Go.RowKit
theorem Sq.jQcF (vals:List Sq.Val)(cols:List Sq.Col)(k:Nat)(h1:k < vals.length)(h2:k < cols.length) :
  Sq.checkValuesFrom (vals.drop k) (cols.drop k)=if vals[k].kind != cols[k].kind then 7 else Sq.checkValuesFrom (vals.drop (k+1)) (cols.drop (k+1)):=by
 rw[List.drop_eq_getElem_cons h1,List.drop_eq_getElem_cons h2,Sq.checkValuesFrom]
theorem jQfj (cols:List Sq.Col)(vals:List Sq.Val)(cv vv:Value)(w:World)(h:ColsAt w cv cols)(hv:w.ownsRow 0 208 3 vv vals.length (vals.flatMap Sq.Val.cells))(hn:vals.length≤100000) :
  Calls Tryz.prog 110 #[cv,vv] w fun e w'=>e=.returned (.int .i64 (Sq.checkValues cols vals))∧Below w.heap.size w w':=by
 obtain⟨ao,cap,rfl⟩:=jQa h.1
 obtain⟨bo,bap,rfl⟩:=jQa hv
 have hl:=h.2
 have H:=hd h
 have HV:=hd hv
 clear h hv
 cases hne:vals.length != cols.length
 case true =>
  have HE:Hid (Sq.checkValues cols vals=6):=by show _=_;unfold Sq.checkValues;rw[hne];rfl
  have hne':((vals.length:Int) != (cols.length:Int))=true:=by rw[bne_iff_ne] at hne ⊢;omega
  clear hne
  go_enter Tryz.func110,Tryz.ntmps110
  go_wp2
  go_ret
  exact⟨by rw[HE.out];rfl,Below.refl _ _⟩
 case false =>
  have HE:Hid (Sq.checkValues cols vals=Sq.checkValuesFrom vals cols):=by show _=_;unfold Sq.checkValues;rw[hne];rfl
  have heq:Hid (vals.length=cols.length):=by show _=_;simpa using hne
  have hne':((vals.length:Int) != (cols.length:Int))=false:=by rw[heq.out];simp
  have hle:vals.length≤cols.length:=by rw[heq.out];omega
  clear hne
  go_enter Tryz.func110,Tryz.ntmps110
  go_wp2
  go_loopw [5] (fun i wr=>∃k:Nat,k≤vals.length∧i=.int .i64 k∧(∃n,wr=w.drewN n)∧Hid (Sq.checkValues cols vals=Sq.checkValuesFrom (vals.drop k) (cols.drop k))) (fun i _=>vals.length - (intOf i).toNat)
  case atStart=>exact⟨0,Nat.zero_le _,rfl,⟨0,rfl⟩,HE⟩
  case round =>
   obtain⟨k,hk,rfl,⟨nd,rfl⟩,hr⟩:=hrel
   by_cases hlt:k < vals.length
   ·obtain⟨g,cap',hv1,hg,hc⟩:=sl_at (f:=Sq.Val.cells) (fun _=>rfl) HV.out k hlt
    simp only[Value.slice.injEq] at hv1
    obtain⟨rfl,-,rfl⟩:=hv1
    have c0:=hc 0 (.int .i64 vals[k].kind) (by decide) rfl
    simp only[Nat.add_zero] at c0
    have hlt2:k < cols.length:=by omega
    obtain⟨g2,cap2,hv2,hg2,hc2⟩:=sl_at (f:=Sq.Col.cells) (fun _=>rfl) H.out.1 k hlt2
    simp only[Value.slice.injEq] at hv2
    obtain⟨rfl,-,rfl⟩:=hv2
    have c1:=hc2 1 (.int .i64 cols[k].kind) (by decide) rfl
    have HS:=hd (Sq.jQcF vals cols k hlt hlt2)
    clear hc hc2
    cases he:vals[k].kind != cols[k].kind
    ·have HR:Hid (Sq.checkValues cols vals=Sq.checkValuesFrom (vals.drop (k+1)) (cols.drop (k+1))):=by show _=_;rw[hr.out,HS.out,he];rfl
     clear hr HS
     go_wp2
     go_quiet (fail)
     go_wp2
     go_roundw
     case rel=>exact⟨k+1,by omega,by go_num,⟨_,rfl⟩,HR⟩
     case measure=>simp[intOf];omega
    ·have HR:Hid (Sq.checkValues cols vals=7):=by show _=_;rw[hr.out,HS.out,he];rfl
     clear hr HS
     go_wp2
     go_quiet (fail)
     go_wp2
     go_ret
     exact⟨by rw[HR.out];rfl,by first | exact below_drewN (Below.refl _ _) _ | exact below_drewN (below_drewN (Below.refl _ _) _) _⟩
   ·have HR:Hid (Sq.checkValues cols vals=0):=by show _=_;rw[hr.out,List.drop_eq_nil_of_le (by omega)];rfl
    clear hr
    go_wp2
    go_ret
    exact⟨by rw[HR.out];rfl,below_drewN (Below.refl _ _) _⟩
theorem jQiN (cols:List Sq.Col)(v:Value)(k:Int)(s:Sq.SetS)(w:World)(h:ColsAt w v cols) :
  Calls Tryz.prog 193 #[v,.int .i64 k,.agg s.cells.toArray] w fun e w'=>e=.returned (.int .i64 (Sq.checkSum cols k s))∧Below w.heap.size w w':=by
 have hE:Sq.checkSum cols k s=if !(Sq.kindOf cols s.first).2 then 4 else if(Sq.kindOf cols s.first).1 != k then 7 else if s.sign.toList.isEmpty then 0 else if !(Sq.kindOf cols s.second).2 then 4 else if(Sq.kindOf cols s.first).1==1 || (Sq.kindOf cols s.second).1==1 then 7 else 0:=rfl
 have HE:=hd hE
 clear hE
 obtain⟨sc,⟨fc,⟨fk,fn,ft⟩⟩,sg,⟨rc,⟨rk,rn,rt⟩⟩⟩:=s
 obtain⟨k1,hk1⟩:∃x,x=Sq.kindOf cols ⟨fc,⟨fk,fn,ft⟩⟩:=⟨_,rfl⟩
 obtain⟨k2,hk2⟩:∃x,x=Sq.kindOf cols ⟨rc,⟨rk,rn,rt⟩⟩:=⟨_,rfl⟩
 have hE:=HE.out
 simp only[←hk1,←hk2] at hE
 have HE:=hd hE
 clear hE
 have HK1:=hd hk1
 have HK2:=hd hk2
 clear hk1 hk2
 unfold Sq.SetS.cells
 have H:=hd h
 clear h
 have hW:∀o,Below w.heap.size w (w.alloc o):=fun o=>(Below.refl _ _).alloc (Nat.le_refl _) _
 have HW:=hd hW
 clear hW
 go_enter Tryz.func193,Tryz.ntmps193
 go_wp2_with fail
 refine(jQcY cols v ⟨fc,⟨fk,fn,ft⟩⟩ _ (H.out.alloc _)).mono ?_
 rintro e w1 ⟨rfl,hb1⟩
 rw[←HK1.out]
 have hbw:Below w.heap.size w w1:=(HW.out _).trans (hb1.mono (by simp))
 obtain⟨q1,q2⟩:=bcell hb1
 have a5:=q1 w.heap.size 5 (by simp)
 have a6:=q1 w.heap.size 6 (by simp)
 have a7:=q1 w.heap.size 7 (by simp)
 have a8:=q1 w.heap.size 8 (by simp)
 have a9:=q1 w.heap.size 9 (by simp)
 simp[go_sem] at a5 a6 a7 a8 a9
 have HB1:=hd hb1
 clear q1 q2 hb1
 obtain⟨k1a,k1b⟩:=k1
 obtain⟨k2a,k2b⟩:=k2
 have hE:=HE.out
 simp only at hE
 have HE:=hd hE
 clear hE
 cases k1b
 case false =>
  go_wp2
  go_ret
  exact⟨by rw[HE.out];rfl,hbw⟩
 cases hkk:k1a != k
 case true =>
  go_wp2
  go_ret
  exact⟨by rw[HE.out,hkk];rfl,hbw⟩
 cases hsg:sg.toList.isEmpty
 case true =>
  go_wp2
  go_ret
  exact⟨by rw[HE.out,hkk,hsg];rfl,hbw⟩
 go_wp2_with fail
 refine(jQcY cols v ⟨rc,⟨rk,rn,rt⟩⟩ _ (H.out.below hbw)).mono ?_
 rintro e w2 ⟨rfl,hb2⟩
 rw[←HK2.out]
 have hbw2:Below w.heap.size w w2:=hbw.trans (hb2.mono hbw.size)
 clear hb2
 cases k2b
 case false =>
  go_wp2
  go_ret
  exact⟨by rw[HE.out,hkk,hsg];rfl,hbw2⟩
 cases h1:k1a==1
 case true =>
  go_wp2
  go_ret
  exact⟨by rw[HE.out,hkk,hsg,h1];rfl,hbw2⟩
 cases h2:k2a==1
 case true =>
  go_wp2
  go_ret
  exact⟨by rw[HE.out,hkk,hsg,h1,h2];rfl,hbw2⟩
 case false =>
  go_wp2
  go_ret
  exact⟨by rw[HE.out,hkk,hsg,h1,h2];rfl,hbw2⟩
end
section
open Go.RowKit
theorem Sq.jQgh (sets:List Sq.SetS)(n:ByteArray)(k:Nat)(h:k < sets.length):Sq.setBefore (sets.drop k) n=(sets[k].column.toList==n.toList || Sq.setBefore (sets.drop (k+1)) n):=by
 rw[List.drop_eq_getElem_cons h];rfl
def SetsAt (w:World)(v:Value)(sets:List Sq.SetS):Prop:=w.ownsRow 0 213 10 v sets.length (sets.flatMap Sq.SetS.cells)∧sets.length≤100000
theorem SetsAt.below {w w':World}{v:Value}{l:List Sq.SetS}(h:SetsAt w v l)(hb:Below w.heap.size w w'):SetsAt w' v l:=⟨jQh h.1 hb,h.2⟩
theorem jQiO (cols:List Sq.Col)(earlier:List Sq.SetS)(cv ev:Value)(s:Sq.SetS)(w:World)(h:ColsAt w cv cols)(he:SetsAt w ev earlier) :
  Calls Tryz.prog 149 #[cv,ev,.agg s.cells.toArray] w fun e w'=>e=.returned (.int .i64 (Sq.checkSet cols earlier s))∧Below w.heap.size w w':=by
 obtain⟨ao,cap,rfl⟩:=jQa h.1
 obtain⟨bo,bap,rfl⟩:=jQa he.1
 have hl:=h.2
 have hle:=he.2
 have hE:Sq.checkSet cols earlier s=match cols[(Sq.find cols s.column).toNat]? with | some c=>if Sq.find cols s.column < 0 then 4 else if Sq.find cols s.column==0 then 8 else if Sq.setBefore earlier s.column then 5 else Sq.checkSum cols c.kind s | none=>4:=rfl
 have HE:=hd hE
 clear hE
 obtain⟨S,hS⟩:∃x,x=s:=⟨_,rfl⟩
 have HS:=hd hS
 clear hS
 obtain⟨sc,⟨fc,⟨fk,fn,ft⟩⟩,sg,⟨rc,⟨rk,rn,rt⟩⟩⟩:=s
 unfold Sq.SetS.cells
 have H:=hd h
 have HEa:=hd he
 clear h he
 have hW:∀o,Below w.heap.size w (w.alloc o):=fun o=>(Below.refl _ _).alloc (Nat.le_refl _) _
 have HW:=hd hW
 clear hW
 rcases Sq.jQc0 cols sc with hf | ⟨k,hk,hf⟩
 ·have hE:=HE.out
  simp only at hE
  rw[hf] at hE
  have HE4:Hid (Sq.checkSet cols earlier ⟨sc,⟨fc,⟨fk,fn,ft⟩⟩,sg,⟨rc,⟨rk,rn,rt⟩⟩⟩=4):=by show _=_;rw[hE];split <;> rfl
  have HF:=hd hf
  clear hf hE
  go_enter Tryz.func149,Tryz.ntmps149
  go_wp2_with (go_at_call 148;refine(jQaD cols _ sc _ (H.out.alloc _).1 hl).mono ?_;rintro e w' ⟨rfl,rfl⟩;rw[HF.out])
  go_ret
  exact⟨by rw[HE4.out];rfl,HW.out _⟩
 have hE:=HE.out
 simp only at hE
 rw[hf,Int.toNat_natCast,List.getElem?_eq_getElem hk] at hE
 simp only at hE
 rw[if_neg (by omega)] at hE
 have HEk:=hd hE
 have HF:=hd hf
 clear hf hE
 by_cases hk0:k=0
 ·subst hk0
  have hnn:¬cols=[]:=by intro h;rw[h] at hk;simp at hk
  have HE8:Hid (Sq.checkSet cols earlier ⟨sc,⟨fc,⟨fk,fn,ft⟩⟩,sg,⟨rc,⟨rk,rn,rt⟩⟩⟩=8):=by show _=_;rw[HEk.out];rfl
  go_enter Tryz.func149,Tryz.ntmps149
  go_wp2_with (go_at_call 148;refine(jQaD cols _ sc _ (H.out.alloc _).1 hl).mono ?_;rintro e w' ⟨rfl,rfl⟩;rw[HF.out])
  go_ret
  exact⟨by rw[HE8.out];rfl,HW.out _⟩
 have hk1:0 < k:=by omega
 have HE5:Hid (Sq.checkSet cols earlier ⟨sc,⟨fc,⟨fk,fn,ft⟩⟩,sg,⟨rc,⟨rk,rn,rt⟩⟩⟩=if Sq.setBefore earlier sc then 5 else Sq.checkSum cols cols[k].kind ⟨sc,⟨fc,⟨fk,fn,ft⟩⟩,sg,⟨rc,⟨rk,rn,rt⟩⟩⟩):=by
  show _=_
  rw[HEk.out]
  have:((k:Int)==0)=false:=by simp;omega
  rw[this]
  rfl
 obtain⟨g,cap',hv,hg,hc⟩:=sl_at (f:=Sq.Col.cells) (fun _=>rfl) H.out.1 k hk
 simp only[Value.slice.injEq] at hv
 obtain⟨rfl,-,rfl⟩:=hv
 have c1:=hc 1 (.int .i64 cols[k].kind) (by decide) rfl
 clear hc hk0
 go_enter Tryz.func149,Tryz.ntmps149
 go_wp2_with (go_at_call 148;refine(jQaD cols _ sc _ (H.out.alloc _).1 hl).mono ?_;rintro e w' ⟨rfl,rfl⟩;rw[HF.out])
 go_loopw [8] (fun i wr=>∃j:Nat,j≤earlier.length∧i=.int .i64 j∧(∃n,wr=(w.alloc (.cells #[.string sc,.string fc,.int .i64 fk,.int .i64 fn,.string ft,.string sg,.string rc,.int .i64 rk,.int .i64 rn,.string rt] 213)).drewN n)∧Hid (Sq.setBefore earlier sc=Sq.setBefore (earlier.drop j) sc)) (fun i _=>earlier.length - (intOf i).toNat)
 case atStart=>exact⟨0,Nat.zero_le _,rfl,⟨0,rfl⟩,rfl⟩
 case round =>
  obtain⟨j,hj,rfl,⟨nd,rfl⟩,hr⟩:=hrel
  by_cases hlt:j < earlier.length
  ·obtain⟨g2,cap2,hv2,hg2,hc2⟩:=sl_at (f:=Sq.SetS.cells) (fun _=>rfl) HEa.out.1 j hlt
   simp only[Value.slice.injEq] at hv2
   obtain⟨rfl,-,rfl⟩:=hv2
   have c0:=hc2 0 (.string earlier[j].column) (by decide) rfl
   simp only[Nat.add_zero] at c0
   have HST:=hd (Sq.jQgh earlier sc j hlt)
   clear hc2
   cases hq:earlier[j].column.toList==sc.toList
   ·have HR:Hid (Sq.setBefore earlier sc=Sq.setBefore (earlier.drop (j+1)) sc):=by show _=_;rw[hr.out,HST.out,hq];rfl
    clear hr HST
    go_wp2
    go_quiet (fail)
    go_wp2
    go_roundw
    case rel=>exact⟨j+1,by omega,by go_num,⟨_,rfl⟩,HR⟩
    case measure=>simp[intOf];omega
   ·have HR:Hid (Sq.setBefore earlier sc=true):=by show _=_;rw[hr.out,HST.out,hq];rfl
    clear hr HST
    go_wp2
    go_quiet (fail)
    go_wp2
    go_ret
    exact⟨by rw[HE5.out,HR.out];rfl,below_drewN (below_drewN (HW.out _) _) _⟩
  ·have HR:Hid (Sq.setBefore earlier sc=false):=by show _=_;rw[hr.out,List.drop_eq_nil_of_le (by omega)];rfl
   clear hr
   go_wp2
   go_region_with (go_at_call 193;refine(jQiN cols _ _ ⟨sc,⟨fc,⟨fk,fn,ft⟩⟩,sg,⟨rc,⟨rk,rn,rt⟩⟩⟩ _ (H.out.below (by exact below_drewN (HW.out _) _))).mono ?_;rintro e w5 ⟨rfl,hb5⟩)
   all_goals
    go_wp2
    go_ret
    exact⟨by rw[HE5.out,HR.out];rfl,(below_drewN (HW.out _) _).trans (Below.mono (B':=w.heap.size) hb5 (by simp))⟩
theorem jQog {w:World}{sets:List Sq.SetS}{ao:Option Addr}{cap:Nat}(h:SetsAt w (.slice ao sets.length cap) sets)(k:Nat)(hk:k < sets.length):SetsAt w (.slice ao k cap) (sets.take k):=by
 have hl:(sets.take k).length=k:=by simp;omega
 refine⟨?_,by rw[hl];have:=h.2;omega⟩
 rw[hl]
 rcases h.1.2 with⟨h1,h2⟩ | ⟨g,cap',cur,h1,hg,hh,hn,hm,hc,ht⟩
 ·omega
 ·simp only[Value.slice.injEq] at h1
  obtain⟨rfl,-,rfl⟩:=h1
  refine⟨by rw[Sq.jQfO Sq.SetS.cells 10 (fun _=>rfl),hl],Or.inr ⟨g,cap,cur,rfl,hg,hh,by omega,hm,hc,?_⟩⟩
  have e1:(sets.take k).flatMap Sq.SetS.cells=(sets.flatMap Sq.SetS.cells).take (k * 10):=by
   conv=>rhs;rw[←List.take_append_drop k sets,List.flatMap_append]
   rw[List.take_left' (by rw[Sq.jQfO Sq.SetS.cells 10 (fun _=>rfl),hl])]
  rw[e1,←ht,List.take_take]
  congr 1
  omega
theorem Sq.jQdo (cols:List Sq.Col)(sets:List Sq.SetS)(k:Nat)(h:k < sets.length):Sq.checkSetsFrom cols (sets.take k) (sets.drop k)=if Sq.checkSet cols (sets.take k) sets[k] != 0 then Sq.checkSet cols (sets.take k) sets[k] else Sq.checkSetsFrom cols (sets.take (k+1)) (sets.drop (k+1)):=by
 conv=>lhs;rw[List.drop_eq_getElem_cons h]
 rw[Sq.checkSetsFrom,List.take_succ_eq_append_getElem h]
end
section
open Go.RowKit
theorem jQhR (cols:List Sq.Col)(sets:List Sq.SetS)(cv sv:Value)(w:World)(h:ColsAt w cv cols)(hs:SetsAt w sv sets) :
  Calls Tryz.prog 111 #[cv,sv] w fun e w'=>e=.returned (.int .i64 (Sq.checkSets cols sets))∧Below w.heap.size w w':=by
 obtain⟨bo,bap,rfl⟩:=jQa hs.1
 have hl:=hs.2
 have H:=hd h
 have HS:=hd hs
 have hcap:sets.length≤bap:=by
  rcases hs.1.2 with⟨h1,h2⟩ | ⟨g,cap',cur,h1,hg,hh,hn,_⟩
  ·simp only[Value.slice.injEq] at h1;omega
  ·simp only[Value.slice.injEq] at h1
   obtain⟨-,-,rfl⟩:=h1
   exact hn
 have hcm:bap≤9223372036854775807:=by
  rcases hs.1.2 with⟨h1,h2⟩ | ⟨g,cap',cur,h1,hg,hh,hn,hm,_⟩
  ·simp only[Value.slice.injEq] at h1;omega
  ·simp only[Value.slice.injEq] at h1
   obtain⟨-,-,rfl⟩:=h1
   exact hm
 clear h hs
 go_enter Tryz.func111,Tryz.ntmps111
 go_wp2
 go_loopw [5] (fun i wr=>∃k:Nat,k≤sets.length∧i=.int .i64 k∧Below w.heap.size w wr∧Hid (Sq.checkSets cols sets=Sq.checkSetsFrom cols (sets.take k) (sets.drop k))) (fun i _=>sets.length - (intOf i).toNat)
 case atStart=>exact⟨0,Nat.zero_le _,rfl,Below.refl _ _,rfl⟩
 case round =>
  obtain⟨k,hk,rfl,hb,hr⟩:=hrel
  by_cases hlt:k < sets.length
  ·have HSW:=hd (HS.out.below hb)
   obtain⟨g,cap',hv,hg,hc⟩:=sl_at (f:=Sq.SetS.cells) (fun _=>rfl) HSW.out.1 k hlt
   simp only[Value.slice.injEq] at hv
   obtain⟨rfl,-,rfl⟩:=hv
   obtain⟨x,hx⟩:∃x,x=sets[k]:=⟨_,rfl⟩
   rw[←hx] at hc
   have HST:=hd (Sq.jQdo cols sets k hlt)
   have HX:=hd hx
   clear hx
   obtain⟨sc,⟨fc,⟨fk,fn,ft⟩⟩,sg,⟨rc,⟨rk,rn,rt⟩⟩⟩:=x
   have c0:=hc 0 _ (by decide) rfl
   have c1:=hc 1 _ (by decide) rfl
   have c2:=hc 2 _ (by decide) rfl
   have c3:=hc 3 _ (by decide) rfl
   have c4:=hc 4 _ (by decide) rfl
   have c5:=hc 5 _ (by decide) rfl
   have c6:=hc 6 _ (by decide) rfl
   have c7:=hc 7 _ (by decide) rfl
   have c8:=hc 8 _ (by decide) rfl
   have c9:=hc 9 _ (by decide) rfl
   simp only[Nat.add_zero] at c0
   have hkb:k≤bap:=by omega
   have HT:=hd (jQog (HS.out.below hb.drew) k hlt)
   have HCW:=hd (H.out.below hb.drew)
   clear hc
   go_wp2
   go_region_with (go_at_call 149;refine(jQiO cols (sets.take k) cv _ ⟨sc,⟨fc,⟨fk,fn,ft⟩⟩,sg,⟨rc,⟨rk,rn,rt⟩⟩⟩ _ HCW.out HT.out).mono ?_;rintro e w5 ⟨rfl,hb5⟩)
   all_goals
    obtain⟨er,her⟩:∃x,x=Sq.checkSet cols (sets.take k) ⟨sc,⟨fc,⟨fk,fn,ft⟩⟩,sg,⟨rc,⟨rk,rn,rt⟩⟩⟩:=⟨_,rfl⟩
    rw[←her]
    have hbw:Below w.heap.size w w5:=hb.drew.trans (Below.mono (B':=w.heap.size) hb5 hb.size)
    have hst:=HST.out
    rw[←HX.out,←her] at hst
    have HST2:=hd hst
    clear hst her HST hb5 c0 c1 c2 c3 c4 c5 c6 c7 c8 c9
    cases hz:er != 0
    ·have HR:Hid (Sq.checkSets cols sets=Sq.checkSetsFrom cols (sets.take (k+1)) (sets.drop (k+1))):=by show _=_;rw[hr.out,HST2.out,hz];rfl
     clear hr HST2
     go_wp2
     go_roundw
     case rel=>exact⟨k+1,by omega,by go_num,hbw,HR⟩
     case measure=>simp[intOf];omega
    ·have HR:Hid (Sq.checkSets cols sets=er):=by show _=_;rw[hr.out,HST2.out,hz];rfl
     clear hr HST2
     go_wp2
     go_ret
     exact⟨by rw[HR.out];rfl,hbw⟩
  ·have HR:Hid (Sq.checkSets cols sets=0):=by show _=_;rw[hr.out,List.drop_eq_nil_of_le (by omega)];unfold Sq.checkSetsFrom;rfl
   clear hr
   go_wp2
   go_ret
   exact⟨by rw[HR.out];rfl,hb⟩
theorem Sq.jQfk (cols:List Sq.Col)(shw:Int)(l:List ByteArray)(k:Nat)(h:k < l.length):Sq.checkItemsFrom cols shw (l.drop k)=if !(Sq.columnKind cols l[k]).2 then 4 else if shw==3 && (Sq.columnKind cols l[k]).1==1 then 7 else Sq.checkItemsFrom cols shw (l.drop (k+1)):=by
 rw[List.drop_eq_getElem_cons h,Sq.checkItemsFrom]
def StrsAt (w:World)(v:Value)(l:List ByteArray):Prop:=w.ownsRow 0 9 1 v l.length (l.map Value.string)∧l.length≤100000
theorem StrsAt.below {w w':World}{v:Value}{l:List ByteArray}(h:StrsAt w v l)(hb:Below w.heap.size w w'):StrsAt w' v l:=⟨jQh h.1 hb,h.2⟩
theorem StrsAt.at {w:World}{v:Value}{l:List ByteArray}(h:StrsAt w v l)(k:Nat)(hk:k < l.length):∃g cap,v=.slice (some ⟨g,0,none⟩) l.length cap∧g < w.heap.size∧w.cell? ⟨g,k,none⟩=some (.string l[k]):=by
 obtain⟨g,cap,rfl,_,hlt⟩:=h.1.form (by omega)
 refine⟨g,cap,rfl,hlt,?_⟩
 have:=h.1.cells (g:=g) rfl k (.string l[k]) (by simp[hk])
 rwa [show(⟨g,0,none⟩:Addr).add k=⟨g,k,none⟩ from by unfold Addr.add;split <;> simp_all] at this
structure StmAt (w:World)(st:Sq.PSt)(r:Rw):Prop where
 cols:ColsAt w r.cv st.cols
 vals:w.ownsRow 0 208 3 r.vv st.vals.length (st.vals.flatMap Sq.Val.cells)
 nvals:st.vals.length≤100000
 sets:SetsAt w r.sv st.sets
 items:StrsAt w r.iv st.items
 wher:w.ownsRow 0 217 9 r.wv st.wher.length (st.wher.flatMap Sq.StepS.cells)
 nwher:st.wher.length≤100000
theorem StmAt.below {w w':World}{st:Sq.PSt}{r:Rw}(h:StmAt w st r)(hb:Below w.heap.size w w'):StmAt w' st r :=
 ⟨h.cols.below hb,jQh h.vals hb,h.nvals,h.sets.below hb,h.items.below hb,jQh h.wher hb,h.nwher⟩
theorem jQgJ (cols:List Sq.Col)(cv:Value)(st:Sq.PSt)(r:Rw)(w:World)(h:ColsAt w cv cols)(hs:StmAt w st r) :
  Calls Tryz.prog 112 #[cv,.agg (stmCells st r)] w fun e w'=>e=.returned (.int .i64 (Sq.checkItemsFrom cols st.shw st.items))∧Below w.heap.size w w':=by
 obtain⟨cvx,vvx,svx,ivx,wvx⟩:=r
 obtain⟨q5,c5,hcv⟩:=jQa hs.cols.1
 obtain⟨q6,c6,hvv⟩:=jQa hs.vals
 obtain⟨q7,c7,hsv⟩:=jQa hs.sets.1
 obtain⟨q9,c9,hiv⟩:=jQa hs.items.1
 obtain⟨q10,c10,hwv⟩:=jQa hs.wher
 dsimp only at hcv hvv hsv hiv hwv
 subst hcv hvv hsv hiv hwv
 unfold stmCells
 have hl:=hs.items.2
 have H:=hd h
 have HS:=hd hs
 clear h hs
 go_enter Tryz.func112,Tryz.ntmps112
 go_wp2
 go_loop [5] (fun i=>∃k:Nat,k≤st.items.length∧i=.int .i64 k∧Hid (Sq.checkItemsFrom cols st.shw st.items=Sq.checkItemsFrom cols st.shw (st.items.drop k))) (fun i=>st.items.length - (intOf i).toNat)
 case atStart=>exact⟨0,Nat.zero_le _,rfl,rfl⟩
 case round =>
  obtain⟨k,hk,rfl,hr⟩:=hrel
  by_cases hlt:k < st.items.length
  ·obtain⟨g,cap',hv,hg,c0⟩:=HS.out.items.at k hlt
   simp only[Value.slice.injEq] at hv
   obtain⟨rfl,-,rfl⟩:=hv
   have HST:=hd (Sq.jQfk cols st.shw st.items k hlt)
   obtain⟨kd,hkd⟩:∃x,x=Sq.columnKind cols st.items[k]:=⟨_,rfl⟩
   have hst:=HST.out
   rw[←hkd] at hst
   have HST2:=hd hst
   have HKD:=hd hkd
   clear hst hkd HST
   obtain⟨ka,kb⟩:=kd
   cases kb
   case false =>
    have HR:Hid (Sq.checkItemsFrom cols st.shw st.items=4):=by show _=_;rw[hr.out,HST2.out];rfl
    go_wp2_with (go_at_call 150;refine(jQav cols cv _ _ (H.out.alloc _)).mono ?_;rintro e w' ⟨rfl,rfl⟩;rw[←HKD.out])
    go_ret
    exact⟨by rw[HR.out];rfl,(Below.refl _ _).alloc (Nat.le_refl _) _⟩
   cases h3:st.shw==3
   case false =>
    have HR:Hid (Sq.checkItemsFrom cols st.shw st.items=Sq.checkItemsFrom cols st.shw (st.items.drop (k+1))):=by show _=_;rw[hr.out,HST2.out,h3];rfl
    clear hr HST2
    go_wp2_with (go_at_call 150;refine(jQav cols cv _ _ (H.out.alloc _)).mono ?_;rintro e w' ⟨rfl,rfl⟩;rw[←HKD.out])
    go_round
    case rel=>exact⟨k+1,by omega,by go_num,HR⟩
    case measure=>simp[intOf];omega
   cases h1:ka==1
   case false =>
    have HR:Hid (Sq.checkItemsFrom cols st.shw st.items=Sq.checkItemsFrom cols st.shw (st.items.drop (k+1))):=by show _=_;rw[hr.out,HST2.out,h3];simp only[h1];rfl
    clear hr HST2
    go_wp2_with (go_at_call 150;refine(jQav cols cv _ _ (H.out.alloc _)).mono ?_;rintro e w' ⟨rfl,rfl⟩;rw[←HKD.out])
    go_round
    case rel=>exact⟨k+1,by omega,by go_num,HR⟩
    case measure=>simp[intOf];omega
   case true =>
    have HR:Hid (Sq.checkItemsFrom cols st.shw st.items=7):=by show _=_;rw[hr.out,HST2.out,h3];simp only[h1];rfl
    go_wp2_with (go_at_call 150;refine(jQav cols cv _ _ (H.out.alloc _)).mono ?_;rintro e w' ⟨rfl,rfl⟩;rw[←HKD.out])
    go_ret
    exact⟨by rw[HR.out];rfl,(Below.refl _ _).alloc (Nat.le_refl _) _⟩
  ·have HR:Hid (Sq.checkItemsFrom cols st.shw st.items=0):=by show _=_;rw[hr.out,List.drop_eq_nil_of_le (by omega)];rfl
   clear hr
   go_wp2
   go_ret
   exact⟨by rw[HR.out];rfl,(Below.refl _ _).alloc (Nat.le_refl _) _⟩
end
end Go.Proofs.YtahpihjialbanaaGreatDoor
