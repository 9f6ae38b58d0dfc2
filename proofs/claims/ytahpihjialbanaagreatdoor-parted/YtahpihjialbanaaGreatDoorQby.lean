import Derived.Test.YtahpihjialbanaaGreatDoorQbx
set_option linter.unusedVariables false
set_option linter.unusedSimpArgs false
set_option maxRecDepth 100000
namespace Go.Proofs.YtahpihjialbanaaGreatDoor
section
open Go.RowKit
structure Live (w:World)(wb sb:Nat)(db:List Sq.Tab):Prop where
 blk:w.heap[wb]?=some (.cells #[.pointer (some ⟨sb,0,none⟩),.int .i64 32] 43)
 here:DB sb w db
 good:Sq.good db
 tbl:Tb2 w
theorem Live.below {w w':World}{wb sb:Nat}{db:List Sq.Tab}(h:Live w wb sb db)(hb:Below w.heap.size w w'):Live w' wb sb db:=⟨(hb.block wb (jQg h.blk)).trans h.blk,h.here.below hb,h.good,h.tbl.below hb⟩
theorem Live.cell {w:World}{wb sb:Nat}{db:List Sq.Tab}(h:Live w wb sb db):w.cell? ⟨wb,0,none⟩=some (.pointer (some ⟨sb,0,none⟩))∧wb < w.heap.size:=⟨by rw[jQb h.blk];rfl,jQg h.blk⟩
theorem lpeek (wb sb:Nat)(db:List Sq.Tab)(sql:ByteArray)(w:World)(h:Live w wb sb db) :
  Calls Tryz.prog 22 #[.pointer (some ⟨sb,0,none⟩),.string sql] w fun e w'=>∃pf dg,e=.returned (answer (Sq.decide db sql).reply pf dg)∧Live w' wb sb db∧Below w.heap.size w w':=by
 refine(jQd6 sb db sql w h.here h.good h.tbl).mono ?_
 rintro e w' ⟨pf1,dg1,rfl,hb⟩
 exact⟨_,_,rfl,h.below hb,hb⟩
def Sq.qStar (c:ByteArray):ByteArray:=(⟨#[115,101,108,101,99,116,32,42,32,102,114,111,109,32]⟩:ByteArray)++Sq.bT++(⟨#[32,119,104,101,114,101,32]⟩:ByteArray)++c
theorem Sq.jQeo (c:ByteArray):(Sq.qStar c).data.toList=Sq.p_star++c.data.toList:=by
 unfold Sq.qStar;rw[Sq.jQj,Sq.jQj,Sq.jQj];rfl
end
end Go.Proofs.YtahpihjialbanaaGreatDoor
