import Derived.Test.YtahpihjialbanaaGreatDoorQax
set_option linter.unusedVariables false
set_option linter.unusedSimpArgs false
namespace Go.Proofs.YtahpihjialbanaaGreatDoor
section
open Go.RowKit
variable {Z:Nat->Prop}
structure App (Z:Nat->Prop)(tb b:Nat)(o:Sq.OutR)(cv pv kv:Value)(w w':World)(Y:Sq.NTree×Sq.Trl):Prop where
 box:BoxAt Z tb b w' Y
 ot:OutAt w' o cv pv kv
 ob:w'.heap[b+1]?=some (.cells #[.string o.reply,.bool o.makes,.int .i64 o.tab.number,.string o.tab.name,cv,pv,kv] 98)
 res:w'.heap[b+2]?=some (.cells #[.bool false,.slice none 0 0,.slice none 0 0,.int .i64 0,.int .i64 0,.string ⟨#[]⟩,.int .i64 0] 91)
 frm:TFrm tb w w'
theorem App.next {tb b:Nat}{o:Sq.OutR}{cv pv kv:Value}{w w1 w2:World}{Y Y':Sq.NTree×Sq.Trl}(h:App Z tb b o cv pv kv w w1 Y)(hw:w.heap.size<=b)(ht:tb<w.heap.size){g1 g3:Option Addr}{e2 e3 c2 c3:Nat}(hn:NodeAt Z w2 Y'.1.d Y'.1.t (.slice g1 e2 e3) (.slice g3 c2 c3))(htr:TrAt tb w2 Y'.2)(hf:TFrm tb w1 w2) :
  App Z tb b o cv pv kv w (set7 w2 b (.bool Y'.1.head.inner) (.slice g1 e2 e3) (.slice g3 c2 c3) (.int .i64 Y'.1.head.least) (.int .i64 Y'.1.head.rows) (.string Y'.1.head.sl) (.int .i64 Y'.1.head.num)) Y':=by
 obtain⟨q1,q2,q3,q4,q5,q6,hb,_⟩:=h.box.box;have ha:=(hf.keep b _ _ _ hb (by decide) (by decide)).trans hb;have he:=endS hn htr (h.frm.trans hf) ha hw (by omega) (.bool Y'.1.head.inner) (.slice g1 e2 e3) (.slice g3 c2 c3) (.int .i64 Y'.1.head.least) (.int .i64 Y'.1.head.rows) (.string Y'.1.head.sl) (.int .i64 Y'.1.head.num)
 have hk:Keeps 91 w2 (set7 w2 b (.bool Y'.1.head.inner) (.slice g1 e2 e3) (.slice g3 c2 c3) (.int .i64 Y'.1.head.least) (.int .i64 Y'.1.head.rows) (.string Y'.1.head.sl) (.int .i64 Y'.1.head.num)):=by
  intro q cq e fr hq hne;refine jQl _ _ _ _ _ _ _ _ _ fun e2=>?_
  subst e2;rw[ha] at hq;simp only[Option.some.injEq,Obj.cells.injEq] at hq;exact hne hq.2.1.symm
 refine⟨⟨⟨g1,e2,e3,g3,c2,c3,jQkb ha _ _ _ _ _ _ _,he.1⟩,he.2.1⟩,(h.ot.tfrm (Or.inr hf)).tfrm (tb:=tb) (Or.inl hk),?_,?_,he.2.2⟩
 ·rw[jQl _ _ _ _ _ _ _ _ _ (by omega)];exact(hf.keep _ _ _ _ h.ob (by decide) (by decide)).trans h.ob
 ·rw[jQl _ _ _ _ _ _ _ _ _ (by omega)];exact(hf.keep _ _ _ _ h.res (by decide) (by decide)).trans h.res
end
end Go.Proofs.YtahpihjialbanaaGreatDoor
