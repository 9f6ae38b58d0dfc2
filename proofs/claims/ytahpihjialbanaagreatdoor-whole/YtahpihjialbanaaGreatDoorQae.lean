import Derived.Test.YtahpihjialbanaaGreatDoorQad
set_option linter.unusedVariables false
set_option linter.unusedSimpArgs false
set_option maxRecDepth 100000
set_option maxHeartbeats 2000000
namespace Go.Proofs.YtahpihjialbanaaGreatDoor
open Sq (nobytes PSt wantS)
section
open Go.RowKit
theorem jQoc {pb:Nat}{lv:Value}{ws:List Sq.Word}{r:Rw}{w:World}{st:PSt}(h:PS pb lv ws r w st)(hn:st.items.length=0)(hq:st.wher=[]) :
  Calls Tryz.prog 143 #[.pointer (some ⟨pb,0,none⟩)] w fun e w'=>e=.returned (.tuple #[])/\(∃r',PS pb lv ws r' w' (Sq.chooseS ws st))/\Below pb w w':=by
 have hN:=h.lt;have hL:=h.small;have c3:=h.cell 3 (.int .i64 st.act) rfl;have f3:=h.frozen 3;have HQ:Hid _:=hq;have HN:Hid _:=hn;have hs:=h.setAct 5;obtain⟨s0,hs0⟩:∃s,s=Sq.setAct st 5:=⟨_,rfl⟩;rw[<-hs0] at hs;have ho:Hid (s0.wher=[]):=by show _=_;rw[hs0];exact hq
 have hw:Hid (s0.items.length=0):=by show _=_;rw[hs0];exact hn
 have hr:Hid _:=hs0;have hx:Hid _:=hs;have hF:Hid (Below pb w (w.setCell ⟨pb,3,none⟩ (.int .i64 5))):=Below.setCell (B:=pb) (bR) (nR) _;clear h hq hn hs0 hs;go_enter Tryz.func143,Tryz.ntmps143;go_wp2_with fail;refine(jQJ Sq.bStar hx.o).mono ?_;rintro e w2 ⟨rfl,hp2,ht⟩;have hE:Hid (Below pb w w2):=hF.o.trans (Tch.below ht (nR) (Nat.le_of_lt hx.o.lt));clear ht c3 f3;cases hA:Sq.acceptB ws s0 Sq.bStar
 case true =>
  rw[jQM hA] at hp2;have c8:=hp2.cell 8 (.int .i64 _) rfl;have f8:=hp2.frozen 8;have hm:=hp2.lt;have ha:Hid _:=hp2.setShow 1;have hl:Hid (Below pb w (w2.setCell ⟨pb,8,none⟩ (.int .i64 1))):=Below.setCell (B:=pb) hE.o (nR) _;clear hp2;have hk:Hid (Sq.chooseA ws (Sq.setAct st 5)=Sq.setShow (Sq.step1 s0) 1):=by show _=_;rw[<-hr.o];unfold Sq.chooseA;rw[if_pos hA]
  clear hA;go_wp2_with fail;refine(jQ3 Sq.bFrom ha.o).mono ?_;rintro e wf ⟨rfl,hp,ht⟩;have hi:Hid (Below pb w wf):=hl.o.trans (Tch.below ht (nR) (Nat.le_of_lt ha.o.lt));have hc:Hid _:=hp;clear hp ht;go_wp2_with fail;refine(jQay hc.o).mono ?_;rintro e wg ⟨rfl,hp,ht⟩;have c4:=hp.cell 4 (.string _) rfl;have f4:=hp.frozen 4;have he:=hp.lt;have hj:Hid (Below pb w (wg.setCell ⟨pb,4,none⟩ (.string (Sq.nameR ws (wantS ws (Sq.setShow (Sq.step1 s0) 1) Sq.bFrom))))):=Below.setCell (B:=pb) (hi.o.trans (Tch.below ht (nR) (Nat.le_of_lt hc.o.lt))) (nR) _;have hg:Hid (PS pb lv ws _ (wg.setCell ⟨pb,4,none⟩ (.string (Sq.nameR ws (wantS ws (Sq.setShow (Sq.step1 s0) 1) Sq.bFrom)))) (Sq.tableS ws (wantS ws (Sq.setShow (Sq.step1 s0) 1) Sq.bFrom))):=hp.setTable _;clear hp ht;go_wp2_with fail;refine(jQbN hg.o (by rw[Sq.jQz,Sq.jQo,show(Sq.setShow (Sq.step1 s0) 1).wher=[] from ho.o];exact zR)).mono ?_;rintro e wz ⟨rfl,⟨rz,hp⟩,hb⟩;have hh:Hid _:=hp;have hf:Hid (Below pb w wz):=hj.o.trans hb;clear hp hb c4 f4;go_wp2;go_end0;refine⟨rfl,⟨rz,?_⟩,hf.o⟩
  have e1:Sq.chooseS ws st=Sq.whereS ws (Sq.tableS ws (wantS ws (Sq.setShow (Sq.step1 s0) 1) Sq.bFrom)):=by
   unfold Sq.chooseS;rw[hk.o]
  rw[e1];exact hh.o
 case false =>
  rw[jQW hA] at hp2;have hz:Hid _:=hp2;clear hp2;go_wp2_with fail;refine(jQJ Sq.bCount hz.o).mono ?_;rintro e w3 ⟨rfl,hp3,ht⟩;have hB:Hid (Below pb w w3):=hE.o.trans (Tch.below ht (nR) (Nat.le_of_lt hz.o.lt));clear ht;cases hC:Sq.acceptB ws s0 Sq.bCount
  case true =>
   rw[jQM hC] at hp3;have c8:=hp3.cell 8 (.int .i64 _) rfl;have f8:=hp3.frozen 8;have hm:=hp3.lt;have ha:Hid _:=hp3.setShow 2;have hl:Hid (Below pb w (w3.setCell ⟨pb,8,none⟩ (.int .i64 2))):=Below.setCell (B:=pb) hB.o (nR) _;clear hp3;have hk:Hid (Sq.chooseA ws (Sq.setAct st 5)=Sq.setShow (Sq.step1 s0) 2):=by show _=_;rw[<-hr.o];unfold Sq.chooseA;rw[if_neg (by simp[hA]),if_pos hC]
   clear hA hC;go_wp2_with fail;refine(jQ3 Sq.bFrom ha.o).mono ?_;rintro e wf ⟨rfl,hp,ht⟩;have hi:Hid (Below pb w wf):=hl.o.trans (Tch.below ht (nR) (Nat.le_of_lt ha.o.lt));have hc:Hid _:=hp;clear hp ht;go_wp2_with fail;refine(jQay hc.o).mono ?_;rintro e wg ⟨rfl,hp,ht⟩;have c4:=hp.cell 4 (.string _) rfl;have f4:=hp.frozen 4;have he:=hp.lt;have hj:Hid (Below pb w (wg.setCell ⟨pb,4,none⟩ (.string (Sq.nameR ws (wantS ws (Sq.setShow (Sq.step1 s0) 2) Sq.bFrom))))):=Below.setCell (B:=pb) (hi.o.trans (Tch.below ht (nR) (Nat.le_of_lt hc.o.lt))) (nR) _;have hg:Hid (PS pb lv ws _ (wg.setCell ⟨pb,4,none⟩ (.string (Sq.nameR ws (wantS ws (Sq.setShow (Sq.step1 s0) 2) Sq.bFrom)))) (Sq.tableS ws (wantS ws (Sq.setShow (Sq.step1 s0) 2) Sq.bFrom))):=hp.setTable _;clear hp ht;go_wp2_with fail;refine(jQbN hg.o (by rw[Sq.jQz,Sq.jQo,show(Sq.setShow (Sq.step1 s0) 2).wher=[] from ho.o];exact zR)).mono ?_;rintro e wz ⟨rfl,⟨rz,hp⟩,hb⟩;have hh:Hid _:=hp;have hf:Hid (Below pb w wz):=hj.o.trans hb;clear hp hb c4 f4;go_wp2;go_end0;refine⟨rfl,⟨rz,?_⟩,hf.o⟩
   have e1:Sq.chooseS ws st=Sq.whereS ws (Sq.tableS ws (wantS ws (Sq.setShow (Sq.step1 s0) 2) Sq.bFrom)):=by
    unfold Sq.chooseS;rw[hk.o]
   rw[e1];exact hh.o
  case false =>
   rw[jQW hC] at hp3;have hy:Hid _:=hp3;clear hp3;go_wp2_with fail;refine(jQJ Sq.bSum hy.o).mono ?_;rintro e w4 ⟨rfl,hp4,ht⟩;have hv:Hid (Below pb w w4):=hB.o.trans (Tch.below ht (nR) (Nat.le_of_lt hy.o.lt));clear ht;cases hM:Sq.acceptB ws s0 Sq.bSum
   case true =>
    rw[jQM hM] at hp4;have c8:=hp4.cell 8 (.int .i64 _) rfl;have f8:=hp4.frozen 8;have hm:=hp4.lt;have hu:Hid _:=hp4.setShow 3;have hK:Hid (Below pb w (w4.setCell ⟨pb,8,none⟩ (.int .i64 3))):=Below.setCell (B:=pb) hv.o (nR) _;clear hp4;have hk:Hid (Sq.chooseA ws (Sq.setAct st 5)=wantS ws (Sq.itemS ws (wantS ws (Sq.setShow (Sq.step1 s0) 3) Sq.bOpen)) Sq.bClose):=by show _=_;rw[<-hr.o];unfold Sq.chooseA;rw[if_neg (by simp[hA]),if_neg (by simp[hC]),if_pos hM]
    clear hA hC hM;go_wp2_with fail;refine(jQ3 Sq.bOpen hu.o).mono ?_;rintro e w5 ⟨rfl,hp,ht⟩;have hJ:Hid (Below pb w w5):=hK.o.trans (Tch.below ht (nR) (Nat.le_of_lt hu.o.lt));have hH:Hid _:=hp;clear hp ht c8 f8;go_wp2_with fail;refine(jQiZ hH.o (by rw[Sq.jQkH];show s0.items.length<=5000;rw[hw.o];omega)).mono ?_;rintro e w6 ⟨rfl,⟨r6,hp⟩,hb⟩;have hI:Hid (Below pb w w6):=hJ.o.trans hb;have hD:Hid _:=hp;clear hp hb;go_wp2_with fail;refine(jQ3 Sq.bClose hD.o).mono ?_;rintro e w7 ⟨rfl,hp,ht⟩;have hl:Hid (Below pb w w7):=hI.o.trans (Tch.below ht (nR) (Nat.le_of_lt hD.o.lt));have ha:Hid _:=hp;clear hp ht;go_wp2_with fail;refine(jQ3 Sq.bFrom ha.o).mono ?_;rintro e wf ⟨rfl,hp,ht⟩;have hi:Hid (Below pb w wf):=hl.o.trans (Tch.below ht (nR) (Nat.le_of_lt ha.o.lt));have hc:Hid _:=hp;clear hp ht;go_wp2_with fail;refine(jQay hc.o).mono ?_;rintro e wg ⟨rfl,hp,ht⟩;have c4:=hp.cell 4 (.string _) rfl;have f4:=hp.frozen 4;have he:=hp.lt;have hj:Hid (Below pb w (wg.setCell ⟨pb,4,none⟩ (.string (Sq.nameR ws (wantS ws (wantS ws (Sq.itemS ws (wantS ws (Sq.setShow (Sq.step1 s0) 3) Sq.bOpen)) Sq.bClose) Sq.bFrom))))):=Below.setCell (B:=pb) (hi.o.trans (Tch.below ht (nR) (Nat.le_of_lt hc.o.lt))) (nR) _;have hg:Hid (PS pb lv ws _ (wg.setCell ⟨pb,4,none⟩ (.string (Sq.nameR ws (wantS ws (wantS ws (Sq.itemS ws (wantS ws (Sq.setShow (Sq.step1 s0) 3) Sq.bOpen)) Sq.bClose) Sq.bFrom)))) (Sq.tableS ws (wantS ws (wantS ws (Sq.itemS ws (wantS ws (Sq.setShow (Sq.step1 s0) 3) Sq.bOpen)) Sq.bClose) Sq.bFrom))):=hp.setTable _;clear hp ht;go_wp2_with fail;refine(jQbN hg.o (by rw[Sq.jQz,Sq.jQo,Sq.jQo,Sq.jQba,Sq.jQo,show(Sq.setShow (Sq.step1 s0) 3).wher=[] from ho.o];exact zR)).mono ?_;rintro e wz ⟨rfl,⟨rz,hp⟩,hb⟩;have hh:Hid _:=hp;have hf:Hid (Below pb w wz):=hj.o.trans hb;clear hp hb c4 f4;go_wp2;go_end0;refine⟨rfl,⟨rz,?_⟩,hf.o⟩
    have e1:Sq.chooseS ws st=Sq.whereS ws (Sq.tableS ws (wantS ws (wantS ws (Sq.itemS ws (wantS ws (Sq.setShow (Sq.step1 s0) 3) Sq.bOpen)) Sq.bClose) Sq.bFrom)):=by
     unfold Sq.chooseS;rw[hk.o]
    rw[e1];exact hh.o
   case false =>
    rw[jQW hM] at hp4;have hG:Hid _:=hp4;clear hp4;have hk:Hid (Sq.chooseA ws (Sq.setAct st 5)=Sq.itemsS ws s0):=by show _=_;rw[<-hr.o];unfold Sq.chooseA;rw[if_neg (by simp[hA]),if_neg (by simp[hC]),if_neg (by simp[hM])]
    clear hA hC hM;go_wp2_with fail;refine(jQpp hG.o hw.o).mono ?_;rintro e w5 ⟨rfl,⟨r5,hp⟩,hb⟩;have hl:Hid (Below pb w w5):=hv.o.trans hb;have ha:Hid _:=hp;clear hp hb;go_wp2_with fail;refine(jQ3 Sq.bFrom ha.o).mono ?_;rintro e wf ⟨rfl,hp,ht⟩;have hi:Hid (Below pb w wf):=hl.o.trans (Tch.below ht (nR) (Nat.le_of_lt ha.o.lt));have hc:Hid _:=hp;clear hp ht;go_wp2_with fail;refine(jQay hc.o).mono ?_;rintro e wg ⟨rfl,hp,ht⟩;have c4:=hp.cell 4 (.string _) rfl;have f4:=hp.frozen 4;have he:=hp.lt;have hj:Hid (Below pb w (wg.setCell ⟨pb,4,none⟩ (.string (Sq.nameR ws (wantS ws (Sq.itemsS ws s0) Sq.bFrom))))):=Below.setCell (B:=pb) (hi.o.trans (Tch.below ht (nR) (Nat.le_of_lt hc.o.lt))) (nR) _;have hg:Hid (PS pb lv ws _ (wg.setCell ⟨pb,4,none⟩ (.string (Sq.nameR ws (wantS ws (Sq.itemsS ws s0) Sq.bFrom)))) (Sq.tableS ws (wantS ws (Sq.itemsS ws s0) Sq.bFrom))):=hp.setTable _;clear hp ht;go_wp2_with fail;refine(jQbN hg.o (by rw[Sq.jQz,Sq.jQo,show(Sq.itemsS ws s0).wher=[] from by unfold Sq.itemsS;rw[Sq.jQak ws _ (Sq.jQba ws),Sq.jQba];exact ho.o];exact zR)).mono ?_;rintro e wz ⟨rfl,⟨rz,hp⟩,hb⟩;have hh:Hid _:=hp;have hf:Hid (Below pb w wz):=hj.o.trans hb;clear hp hb c4 f4;go_wp2;go_end0;refine⟨rfl,⟨rz,?_⟩,hf.o⟩
    have e1:Sq.chooseS ws st=Sq.whereS ws (Sq.tableS ws (wantS ws (Sq.itemsS ws s0) Sq.bFrom)):=by
     unfold Sq.chooseS;rw[hk.o]
    rw[e1];exact hh.o
theorem jQhl {pb:Nat}{lv:Value}{ws:List Sq.Word}{r:Rw}{w:World}(h:PS pb lv ws r w Sq.st0) :
  Calls Tryz.prog 101 #[.pointer (some ⟨pb,0,none⟩)] w fun e w'=>e=.returned (.tuple #[])/\(∃r',PS pb lv ws r' w' (Sq.statementS ws Sq.st0))/\Below pb w w':=by
 have ho:=h.lt;have H:Hid _:=h;clear h;go_enter Tryz.func101,Tryz.ntmps101;go_wp2_with fail;refine(jQne H.o).mono ?_;rintro e w1 ⟨rfl,hp,ht⟩;have he:Hid (Below pb w w1):=Tch.below ht (nR) (Nat.le_of_lt ho);have d2:=hp.cell 2 (.bool _) rfl;have g2:=hp.frozen 2;have hl:=hp.lt;have hc:Hid _:=hp;clear hp ht;obtain⟨m,hm⟩:∃m,m=Sq.markR ws Sq.st0:=⟨_,rfl⟩;rw[<-hm];obtain⟨s1,hs1⟩:∃s,s=Sq.takeS ws Sq.st0:=⟨_,rfl⟩;have hi:Hid (s1.cols.length=0):=by show _=_;rw[hs1,Sq.jQcz];rfl
 have hn:Hid (s1.vals.length=0):=by show _=_;rw[hs1,Sq.jQec];rfl
 have hf:Hid (s1.sets.length=0):=by show _=_;rw[hs1,Sq.jQed];rfl
 have hg:Hid (s1.items.length=0):=by show _=_;rw[hs1,Sq.jQfC];rfl
 have hj:Hid (s1.wher=[]):=by show _=_;rw[hs1,Sq.jQam];rfl
 have HE:Hid (Sq.statementS ws Sq.st0=if m.toList==Sq.bCreate.toList then Sq.createS ws s1 else if m.toList==Sq.bInsert.toList then Sq.insertS ws s1 else if m.toList==Sq.bUpdate.toList then Sq.updateS ws s1 else if m.toList==Sq.bDelete.toList then Sq.deleteS ws s1 else if m.toList==Sq.bSelect.toList then Sq.chooseS ws s1 else Sq.fail s1):=by show _=_;rw[hm,hs1];rfl
 have hk:=hc.o;rw[<-hs1] at hk d2;have hc:Hid _:=hk;clear hk hm hs1;have e1:Sq.bCreate.toList=[99,114,101,97,116,101]:=by rw[ByteArray.toList_eq];rfl
 have e2:Sq.bInsert.toList=[105,110,115,101,114,116]:=by rw[ByteArray.toList_eq];rfl
 have e3:Sq.bUpdate.toList=[117,112,100,97,116,101]:=by rw[ByteArray.toList_eq];rfl
 have e4:Sq.bDelete.toList=[100,101,108,101,116,101]:=by rw[ByteArray.toList_eq];rfl
 have e5:Sq.bSelect.toList=[115,101,108,101,99,116]:=by rw[ByteArray.toList_eq];rfl
 have hh:=HE.o;rw[e1,e2,e3,e4,e5] at hh;have HE:Hid _:=hh;clear hh e1 e2 e3 e4 e5;cases h0:(m.toList==[99,114,101,97,116,101])
 case true =>
  have HF:Hid (Sq.statementS ws Sq.st0=Sq.createS ws s1):=by show _=_;rw[HE.o,h0];rfl
  go_wp2_with fail;refine(jQn3 hc.o hi.o).mono ?_;rintro e w2 ⟨rfl,⟨r2,hp⟩,hb⟩;have ha:Hid _:=hp;clear hp;go_wp2;go_end0;exact⟨rfl,⟨r2,by rw[HF.o];exact ha.o⟩,he.o.trans hb⟩
 cases h1:(m.toList==[105,110,115,101,114,116])
 case true =>
  have HF:Hid (Sq.statementS ws Sq.st0=Sq.insertS ws s1):=by show _=_;rw[HE.o,h0,h1];rfl
  go_wp2_with fail;refine(jQnD hc.o hn.o).mono ?_;rintro e w2 ⟨rfl,⟨r2,hp⟩,hb⟩;have ha:Hid _:=hp;clear hp;go_wp2;go_end0;exact⟨rfl,⟨r2,by rw[HF.o];exact ha.o⟩,he.o.trans hb⟩
 cases h2:(m.toList==[117,112,100,97,116,101])
 case true =>
  have HF:Hid (Sq.statementS ws Sq.st0=Sq.updateS ws s1):=by show _=_;rw[HE.o,h0,h1,h2];rfl
  go_wp2_with fail;refine(jQlQ hc.o hf.o hj.o).mono ?_;rintro e w2 ⟨rfl,⟨r2,hp⟩,hb⟩;have ha:Hid _:=hp;clear hp;go_wp2;go_end0;exact⟨rfl,⟨r2,by rw[HF.o];exact ha.o⟩,he.o.trans hb⟩
 cases h3:(m.toList==[100,101,108,101,116,101])
 case true =>
  have HF:Hid (Sq.statementS ws Sq.st0=Sq.deleteS ws s1):=by show _=_;rw[HE.o,h0,h1,h2,h3];rfl
  go_wp2_with fail;refine(jQnZ hc.o hj.o).mono ?_;rintro e w2 ⟨rfl,⟨r2,hp⟩,hb⟩;have ha:Hid _:=hp;clear hp;go_wp2;go_end0;exact⟨rfl,⟨r2,by rw[HF.o];exact ha.o⟩,he.o.trans hb⟩
 cases h4:(m.toList==[115,101,108,101,99,116])
 case true =>
  have HF:Hid (Sq.statementS ws Sq.st0=Sq.chooseS ws s1):=by show _=_;rw[HE.o,h0,h1,h2,h3,h4];rfl
  go_wp2_with fail;refine(jQoc hc.o hg.o hj.o).mono ?_;rintro e w2 ⟨rfl,⟨r2,hp⟩,hb⟩;have ha:Hid _:=hp;clear hp;go_wp2;go_end0;exact⟨rfl,⟨r2,by rw[HF.o];exact ha.o⟩,he.o.trans hb⟩
 have HF:Hid (Sq.statementS ws Sq.st0=Sq.fail s1):=by show _=_;rw[HE.o,h0,h1,h2,h3,h4];rfl
 go_wp2;go_end0;have ht:Tch pb w1 (w1.setCell ⟨pb,2,none⟩ (.bool true)):=(Tch.refl _ _).store (.inl rfl) _;exact⟨rfl,⟨r,by rw[HF.o];exact hc.o.bad_end (bR) ht rfl⟩,he.o.trans (Tch.below ht (nR) (Nat.le_of_lt hl))⟩
end
section
open Go.RowKit
structure Stm (B:Nat)(w:World)(st:PSt)(r:Rw):Prop where
 cols:w.ownsRow B 205 2 r.cv st.cols.length (st.cols.flatMap Sq.Col.cells)
 vals:w.ownsRow B 208 3 r.vv st.vals.length (st.vals.flatMap Sq.Val.cells)
 sets:w.ownsRow B 213 10 r.sv st.sets.length (st.sets.flatMap Sq.SetS.cells)
 items:w.ownsRow B 9 1 r.iv st.items.length (st.items.map Value.string)
 wher:w.ownsRow B 217 9 r.wv st.wher.length (st.wher.flatMap Sq.StepS.cells)
def stmCells (st:PSt)(r:Rw):Array Value:=#[.int .i64 st.act,.string st.table,r.cv,r.vv,r.sv,.int .i64 st.shw,r.iv,r.wv]
theorem jQj {w:World}{base base':Nat}{e:TypeId}{size:Nat}{v:Value}{n:Nat}{xs:List Value}(h:w.ownsRow base e size v n xs)(hb:base'<=base):w.ownsRow base' e size v n xs:=by
 refine⟨h.1,?_⟩;rcases h.2 with h2 | ⟨g,cap,cur,hv,hg,r⟩
 ·exact Or.inl h2
 ·exact Or.inr ⟨g,cap,cur,hv,Nat.le_trans hb hg,r⟩
theorem jQa {w:World}{base:Nat}{e:TypeId}{size:Nat}{v:Value}{n:Nat}{xs:List Value}(h:w.ownsRow base e size v n xs):∃ao cap,v=.slice ao n cap:=by
 rcases h.2 with⟨h1,h2⟩ | ⟨g,cap,_,h1,_⟩
 ·exact⟨none,0,by rw[h1,h2]⟩
 ·exact⟨_,_,h1⟩
theorem Stm.base {B B':Nat}{w:World}{st:PSt}{r:Rw}(h:Stm B w st r)(hb:B'<=B):Stm B' w st r :=
 ⟨jQj h.cols hb,jQj h.vals hb,jQj h.sets hb,jQj h.items hb,jQj h.wher hb⟩
theorem PS.stm {pb B:Nat}{lv:Value}{ws:List Sq.Word}{r:Rw}{w:World}{st:PSt}(h:PS pb lv ws r w st)(hB:B<=pb+1):Stm B w st r :=
 ⟨jQj h.cols hB,jQj h.vals hB,jQj h.sets hB,jQj h.items hB,jQj h.wher hB⟩
theorem Stm.setCell {B:Nat}{w:World}{st:PSt}{r:Rw}(h:Stm B w st r){b o:Nat}(hb:b<B)(x:Value):Stm B (w.setCell ⟨b,o,none⟩ x) st r :=
 ⟨ownsRow_setCell_below h.cols (a:=⟨b,o,none⟩) hb x,ownsRow_setCell_below h.vals (a:=⟨b,o,none⟩) hb x,ownsRow_setCell_below h.sets (a:=⟨b,o,none⟩) hb x,ownsRow_setCell_below h.items (a:=⟨b,o,none⟩) hb x,ownsRow_setCell_below h.wher (a:=⟨b,o,none⟩) hb x⟩
theorem below8 {B:Nat}{a w:World}(h:Below B a w)(v0 v1 v2 v3 v4 v5 v6 v7:Value):Below B a ((((((((w.setCell ⟨B,0,none⟩ v0).setCell ⟨B,1,none⟩ v1).setCell ⟨B,2,none⟩ v2).setCell ⟨B,3,none⟩ v3).setCell ⟨B,4,none⟩ v4).setCell ⟨B,5,none⟩ v5).setCell ⟨B,6,none⟩ v6).setCell ⟨B,7,none⟩ v7) :=
 (((((((h.setCell (nR) _).setCell (nR) _).setCell (nR) _).setCell (nR) _).setCell (nR) _).setCell (nR) _).setCell (nR) _).setCell (nR) _
def r0:Rw:=⟨.slice none 0 0,.slice none 0 0,.slice none 0 0,.slice none 0 0,.slice none 0 0⟩
theorem jQpQ (s:ByteArray)(w:World) :
  Calls Tryz.prog 67 #[.string s] w fun e w'=>Below w.heap.size w w' /\
   ∃r,e=.returned (.tuple #[.agg (stmCells (Sq.parse s).2 r),.int .i64 (Sq.parse s).1])/\Stm w.heap.size w' (Sq.parse s).2 r:=by
 have hg:∀W,Stm w.heap.size W Sq.st0 r0:=fun W=>⟨World.ownsRow_nil _ _ _ _,World.ownsRow_nil _ _ _ _,World.ownsRow_nil _ _ _ _,World.ownsRow_nil _ _ _ _,World.ownsRow_nil _ _ _ _⟩
 have hb:Hid _:=hg;clear hg
 by_cases hlen:160<s.size
 ·have HE:Hid (Sq.parse s=(2,Sq.st0)):=by show _=_;unfold Sq.parse;rw[if_pos hlen]
  go_enter Tryz.func67,Tryz.ntmps67;go_wp2;refine bodyPost_ret (v:=.tuple #[.agg (stmCells Sq.st0 r0),.int .i64 2]) (by simp[results,Tryz.results67,go_sem,stmCells,Sq.st0,r0,nobytes]) rfl ⟨?_,r0,by rw[HE.o],by rw[HE.o];exact hb.o _⟩;exact(bR).alloc (nR) _
 ·have hs:s.size<=1000:=by omega
  have hl:(s.size:Int)<=160:=by omega
  go_enter Tryz.func67,Tryz.ntmps67;go_wp2_with fail;refine(jQpO s _ hs).mono ?_;rintro e w1 ⟨hb1,hr1⟩;have ha:w.heap.size<w1.heap.size:=by have:=hb1.size;simp at this;omega
  have hj:Below w.heap.size w w1:=((Below.refl _ w).alloc (nR) _).trans (hb1.mono (by simp));obtain⟨k1,k2⟩:=bcell hb1;have a0:=k1 w.heap.size 0 (by simp);have a1:=k1 w.heap.size 1 (by simp);have a2:=k1 w.heap.size 2 (by simp);have a3:=k1 w.heap.size 3 (by simp);have a4:=k1 w.heap.size 4 (by simp);have a5:=k1 w.heap.size 5 (by simp);have a6:=k1 w.heap.size 6 (by simp);have a7:=k1 w.heap.size 7 (by simp);have b0:=k2 w.heap.size 0 (by simp);have b1:=k2 w.heap.size 1 (by simp);have b2:=k2 w.heap.size 2 (by simp);have b3:=k2 w.heap.size 3 (by simp);have b4:=k2 w.heap.size 4 (by simp);have b5:=k2 w.heap.size 5 (by simp);have b6:=k2 w.heap.size 6 (by simp);have b7:=k2 w.heap.size 7 (by simp);simp[go_sem] at a0 a1 a2 a3 a4 a5 a6 a7 b0 b1 b2 b3 b4 b5 b6 b7;clear k1 k2;rcases hr1 with⟨hn,rfl⟩ | ⟨ws,v,hsp,rfl,hwl,hown⟩
  ·have HE:Hid (Sq.parse s=(3,Sq.st0)):=by show _=_;unfold Sq.parse;rw[if_neg hlen,hn]
   clear hb1 hn;go_wp2;refine bodyPost_ret (v:=.tuple #[.agg (stmCells Sq.st0 r0),.int .i64 3]) (by simp[results,Tryz.results67,go_sem,stmCells,Sq.st0,r0,nobytes, *]) rfl ⟨?_,r0,by rw[HE.o],by rw[HE.o];exact hb.o _⟩;exact below8 hj _ _ _ _ _ _ _ _
  ·have hk:PS w1.heap.size v ws r0 (w1.alloc (.cells #[v,.int .i64 0,.bool false,.int .i64 0,.string ⟨#[]⟩,.slice none 0 0,.slice none 0 0,.slice none 0 0,.int .i64 0,.slice none 0 0,.slice none 0 0] 160)) Sq.st0 :=
    ⟨heap_alloc_new w1 _,jQj (hown.alloc _) (zR),hwl,Sq.jQql s ws hsp,zR,World.ownsRow_nil _ _ _ _,World.ownsRow_nil _ _ _ _,World.ownsRow_nil _ _ _ _,World.ownsRow_nil _ _ _ _,World.ownsRow_nil _ _ _ _⟩
   have hm:Hid _:=hk;have ho:Hid _:=hsp
   obtain⟨la,lcap,hlv⟩:∃ao cap,v=.slice ao ws.length cap:=by
    rcases hown.2 with⟨h1,h2⟩ | ⟨g,cap,_,h1,_⟩
    ·exact⟨none,0,by rw[h1,h2]⟩
    ·exact⟨_,_,h1⟩
   subst hlv;clear hk hsp hown hb1;go_wp2_with fail;refine(jQhl hm.o).mono ?_;rintro e w2 ⟨rfl,⟨r2,hp2⟩,hb2⟩;obtain⟨st,hst⟩:∃x,x=Sq.statementS ws Sq.st0:=⟨_,rfl⟩;rw[<-hst] at hp2;have hp:Hid _:=hst;obtain⟨cv,vv,sv,iv,wv⟩:=r2;obtain⟨q5,c5,hcv⟩:=jQa hp2.cols;obtain⟨q6,c6,hvv⟩:=jQa hp2.vals;obtain⟨q7,c7,hsv⟩:=jQa hp2.sets;obtain⟨q9,c9,hiv⟩:=jQa hp2.items;obtain⟨q10,c10,hwv⟩:=jQa hp2.wher
   dsimp only at hcv hvv hsv hiv hwv
   subst hcv hvv hsv hiv hwv;have hu:w1.heap.size<w2.heap.size:=hp2.lt;have p0:=hp2.cell 0 (.slice la ws.length lcap) rfl;have p1:=hp2.cell 1 (.int .i64 st.pos) rfl;have p2:=hp2.cell 2 (.bool st.bad) rfl;have p3:=hp2.cell 3 (.int .i64 st.act) rfl;have p4:=hp2.cell 4 (.string st.table) rfl;have p5:=hp2.cell 5 (.slice q5 st.cols.length c5) rfl;have p6:=hp2.cell 6 (.slice q6 st.vals.length c6) rfl;have p7:=hp2.cell 7 (.slice q7 st.sets.length c7) rfl;have p8:=hp2.cell 8 (.int .i64 st.shw) rfl;have p9:=hp2.cell 9 (.slice q9 st.items.length c9) rfl;have p10:=hp2.cell 10 (.slice q10 st.wher.length c10) rfl;have hr:=hp2.inside;have hq:Hid (Stm (w.heap.size+1) w2 st ⟨.slice q5 st.cols.length c5,.slice q6 st.vals.length c6,.slice q7 st.sets.length c7,.slice q9 st.items.length c9,.slice q10 st.wher.length c10⟩):=hp2.stm (by omega);have hc:Below w.heap.size w w2:=(Below.alloc (B:=w.heap.size) hj (by omega) _).trans (Below.mono (B':=w.heap.size) hb2 (by omega));have he:Below w1.heap.size w1 w2:=(Below.alloc (B:=w1.heap.size) (bR) (nR) _).trans hb2;obtain⟨k1,k2⟩:=bcell he;have a0':=(k1 w.heap.size 0 ha).trans a0;have a1':=(k1 w.heap.size 1 ha).trans a1;have a2':=(k1 w.heap.size 2 ha).trans a2;have a3':=(k1 w.heap.size 3 ha).trans a3;have a4':=(k1 w.heap.size 4 ha).trans a4;have a5':=(k1 w.heap.size 5 ha).trans a5;have a6':=(k1 w.heap.size 6 ha).trans a6;have a7':=(k1 w.heap.size 7 ha).trans a7;have b0':=(k2 w.heap.size 0 ha).trans b0;have b1':=(k2 w.heap.size 1 ha).trans b1;have b2':=(k2 w.heap.size 2 ha).trans b2;have b3':=(k2 w.heap.size 3 ha).trans b3;have b4':=(k2 w.heap.size 4 ha).trans b4;have b5':=(k2 w.heap.size 5 ha).trans b5;have b6':=(k2 w.heap.size 6 ha).trans b6;have b7':=(k2 w.heap.size 7 ha).trans b7;have ht:w.heap.size<w2.heap.size:=by omega
   clear a0 a1 a2 a3 a4 a5 a6 a7 b0 b1 b2 b3 b4 b5 b6 b7 k1 k2 hp2 hb2 he hst;have hh:Hid (Sq.parse s=if st.bad || st.pos != ws.length then(3,Sq.st0) else(0,st)):=by show _=_;unfold Sq.parse;rw[if_neg hlen,ho.o,hp.o]
   cases hbad:st.bad
   case true =>
    have HE:Hid (Sq.parse s=(3,Sq.st0)):=by show _=_;rw[hh.o,hbad];rfl
    rw[hbad] at p2;clear hbad;go_wp2;refine bodyPost_ret (v:=.tuple #[.agg (stmCells Sq.st0 r0),.int .i64 3]) (by simp[results,Tryz.results67,go_sem,stmCells,Sq.st0,r0,nobytes, *]) rfl ⟨?_,r0,by rw[HE.o],by rw[HE.o];exact hb.o _⟩;exact below8 hc _ _ _ _ _ _ _ _
   case false =>
    rw[hbad] at p2
    by_cases hpos:st.pos=ws.length
    ·have HE:Hid (Sq.parse s=(0,st)):=by show _=_;rw[hh.o,hbad,hpos];simp
     have hf:((st.pos:Int) != (ws.length:Int))=false:=by simp[hpos]
     clear hbad hpos;go_wp2;refine bodyPost_ret (v:=.tuple #[.agg (stmCells st ⟨.slice q5 st.cols.length c5,.slice q6 st.vals.length c6,.slice q7 st.sets.length c7,.slice q9 st.items.length c9,.slice q10 st.wher.length c10⟩),.int .i64 0]) (by simp[results,Tryz.results67,go_sem,stmCells, *]) rfl ⟨?_,_,by rw[HE.o],?_⟩
     ·exact below8 hc _ _ _ _ _ _ _ _
     ·rw[HE.o];refine Stm.base (B:=w.heap.size+1) ?_ (Nat.le_succ _);exact(((((((hq.o.setCell (Nat.lt_succ_self _) _).setCell (Nat.lt_succ_self _) _).setCell (Nat.lt_succ_self _) _).setCell (Nat.lt_succ_self _) _).setCell (Nat.lt_succ_self _) _).setCell (Nat.lt_succ_self _) _).setCell (Nat.lt_succ_self _) _).setCell (Nat.lt_succ_self _) _
    ·have HE:Hid (Sq.parse s=(3,Sq.st0)):=by show _=_;rw[hh.o,hbad];simp[hpos]
     have hf:((st.pos:Int) != (ws.length:Int))=true:=by simp;omega
     have hi:st.pos<ws.length:=by omega
     clear hbad hpos;go_wp2;refine bodyPost_ret (v:=.tuple #[.agg (stmCells Sq.st0 r0),.int .i64 3]) (by simp[results,Tryz.results67,go_sem,stmCells,Sq.st0,r0,nobytes, *]) rfl ⟨?_,r0,by rw[HE.o],by rw[HE.o];exact hb.o _⟩;exact below8 hc _ _ _ _ _ _ _ _
end
namespace Sq
def findFrom (n:ByteArray):List Col->Int->Int
 | [],_=>-1
 | c::r,i=>if c.name.toList==n.toList then i else findFrom n r (i+1)
def find (cols:List Col)(n:ByteArray):Int:=findFrom n cols 0
theorem jQlf (n:ByteArray)(l:List Col):∀i:Int,0<=i->findFrom n l i=-1\/(i<=findFrom n l i/\findFrom n l i<i+l.length):=by
 induction l with
 | nil=>intro i _;left;rfl
 | cons c r ih =>
  intro i hi;rw[findFrom]
  split
  ·right;simp;omega
  ·rcases ih (i+1) (by omega) with h | h
   ·left;exact h
   ·right;simp;omega
theorem jQp6 (cols:List Col)(n:ByteArray):find cols n=-1\/(0<=find cols n/\find cols n<cols.length):=by
 have:=jQlf n cols 0 (by omega)
 unfold find;rcases this with h | h
 ·left;exact h
 ·right;omega
theorem jQh4 (cols:List Col)(n:ByteArray)(k:Nat)(h:k<cols.length):findFrom n (cols.drop k) k=if cols[k].name.toList==n.toList then(k:Int) else findFrom n (cols.drop (k+1)) ((k:Int)+1):=by
 rw[List.drop_eq_getElem_cons h,findFrom]
def sideOf (b:Bool):Int:=if b then -1 else 1
def compare (v x:Val):Int :=
 if v.kind != x.kind then sideOf (decide (v.kind<x.kind))
 else if v.kind==0&&v.number != x.number then sideOf (decide (v.number<x.number))
 else if v.kind==1 && !(v.text.toList==x.text.toList) then sideOf (Op.bytesLess v.text.toList x.text.toList)
 else 0
theorem jQrO {α:Type}(f:α->List Value)(size:Nat)(hf:∀x,(f x).length=size):∀(l:List α) (k j:Nat) (hk:k<l.length),j<size->(l.flatMap f)[k*size+j]?=(f l[k])[j]?:=by
 intro l
 induction l with
 | nil=>intro k j hk;simp at hk
 | cons x r ih =>
  intro k j hk hj;rw[List.flatMap_cons];cases k with
  | zero =>
   rw[List.getElem?_append_left (by rw[hf];omega)];simp
  | succ k =>
   rw[List.getElem?_append_right (by rw[hf,Nat.add_mul];omega),hf];have e:(k+1)*size+j-size=k*size+j:=by rw[Nat.add_mul];omega
   rw[e,ih k j (by simpa using hk) hj];rfl
theorem jQfU {α:Type}(f:α->List Value)(size:Nat)(hf:∀x,(f x).length=size)(l:List α):(l.flatMap f).length=l.length*size:=by
 induction l with
 | nil=>simp
 | cons x r ih=>rw[List.flatMap_cons,List.length_append,hf,ih,List.length_cons,Nat.add_mul];omega
def columnKind (cols:List Col)(n:ByteArray):Int×Bool:=match cols[(find cols n).toNat]? with
 | some c=>if find cols n<0 then(0,false) else(c.kind,true)
 | none=>(0,false)
def kindOf (cols:List Col)(t:Term):Int×Bool:=if t.column.toList.isEmpty then(t.lit.kind,true) else columnKind cols t.column
def checkValuesFrom:List Val->List Col->Int
 | v::r,c::q=>if v.kind != c.kind then 7 else checkValuesFrom r q
 | _,_=>0
def checkValues (cols:List Col)(vals:List Val):Int:=if vals.length != cols.length then 6 else checkValuesFrom vals cols
def checkSum (cols:List Col)(target:Int)(s:SetS):Int :=
 if !(kindOf cols s.first).2 then 4
 else if(kindOf cols s.first).1 != target then 7
 else if s.sign.toList.isEmpty then 0
 else if !(kindOf cols s.second).2 then 4
 else if(kindOf cols s.first).1==1 || (kindOf cols s.second).1==1 then 7
 else 0
def setBefore (sets:List SetS)(n:ByteArray):Bool:=sets.any fun s=>s.column.toList==n.toList
def checkSet (cols:List Col)(earlier:List SetS)(s:SetS):Int:=match cols[(find cols s.column).toNat]? with
 | some c=>if find cols s.column<0 then 4 else if find cols s.column==0 then 8 else if setBefore earlier s.column then 5 else checkSum cols c.kind s
 | none=>4
def checkSetsFrom (cols:List Col):List SetS->List SetS->Int
 | _,[]=>0
 | e,s::r=>if checkSet cols e s != 0 then checkSet cols e s else checkSetsFrom cols (e++[s]) r
def checkSets (cols:List Col)(sets:List SetS):Int:=checkSetsFrom cols [] sets
def checkItemsFrom (cols:List Col)(shw:Int):List ByteArray->Int
 | []=>0
 | n::r=>if !(columnKind cols n).2 then 4 else if shw==3&&(columnKind cols n).1==1 then 7 else checkItemsFrom cols shw r
def checkWhereFrom (cols:List Col):List StepS->Int
 | []=>0
 | s::r =>
  if !isComparison s.op then checkWhereFrom cols r
  else if !(kindOf cols s.left).2 then 4
  else if !(kindOf cols s.right).2 then 4
  else if(kindOf cols s.left).1 != (kindOf cols s.right).1 then 7
  else checkWhereFrom cols r
def checkAct (cols:List Col)(st:PSt):Int :=
 if st.act==2 then checkValues cols st.vals else if st.act==3 then checkSets cols st.sets else if st.act==5 then checkItemsFrom cols st.shw st.items else 0
def check (cols:List Col)(st:PSt):Int:=if checkAct cols st != 0 then checkAct cols st else checkWhereFrom cols st.wher
theorem jQdv (cols:List Col)(n:ByteArray)(h:find cols n=-1):columnKind cols n=(0,false):=by
 unfold columnKind;rw[h];split<;>simp
theorem jQcS (cols:List Col)(n:ByteArray)(k:Nat)(hk:k<cols.length)(h:find cols n=k):columnKind cols n=(cols[k].kind,true):=by
 unfold columnKind;rw[h,Int.toNat_natCast,List.getElem?_eq_getElem hk];simp only;rw[if_neg (by omega)]
theorem jQcN (cols:List Col)(n:ByteArray):find cols n=-1\/∃k:Nat,∃_:k<cols.length,find cols n=k:=by
 rcases jQp6 cols n with h | ⟨h1,h2⟩
 ·left;exact h
 ·right
  obtain⟨k,hk⟩:=Int.eq_ofNat_of_zero_le h1;exact⟨k,by omega,hk⟩
def keyOf (row:List Val):Int:=match row with | []=>0 | v::_=>v.number
def cellOf (cols:List Col)(row:List Val)(n:ByteArray):Val:=if find cols n<0 then val0 else(row[(find cols n).toNat]?).getD val0
def valueOf (cols:List Col)(row:List Val)(t:Term):Val:=if t.column.toList.isEmpty then t.lit else cellOf cols row t.column
def holds (op:ByteArray)(side:Int):Bool :=
 if op.toList==[61] then side==0
 else if op.toList==[60,62] then side != 0
 else if op.toList==[60] then decide (side<0)
 else if op.toList==[60,61] then decide (side<=0)
 else if op.toList==[62] then decide (0<side)
 else decide (0<=side)
def compared (cols:List Col)(row:List Val)(s:StepS):Bool:=holds s.op (compare (valueOf cols row s.left) (valueOf cols row s.right))
def popB (l:List Bool):Bool:=l.getLast?.getD false
def joinB (l:List Bool)(op:ByteArray):List Bool :=
 if op.toList==[110,111,116] then l.dropLast++[!popB l]
 else if op.toList==[97,110,100] then l.dropLast.dropLast++[popB l.dropLast&&popB l]
 else l.dropLast.dropLast++[popB l.dropLast || popB l]
def stepB (cols:List Col)(row:List Val)(l:List Bool)(s:StepS):List Bool:=if isComparison s.op then l++[compared cols row s] else joinB l s.op
def meets (cols:List Col)(row:List Val)(steps:List StepS):Bool:=if steps.isEmpty then true else popB (steps.foldl (stepB cols row) [])
structure Tab where
 name:ByteArray
 cols:List Col
 rows:List (List Val)
end Sq
section
open Go.RowKit
theorem hd {p:Prop}(h:p):Hid p:=h
theorem sl_at {α:Type}{f:α->List Value}{size:Nat}(hf:∀x,(f x).length=size){w:World}{base:Nat}{e:TypeId}{v:Value}{l:List α}(h:w.ownsRow base e size v l.length (l.flatMap f))(k:Nat)(hk:k<l.length) :
  ∃g cap,v=.slice (some ⟨g,0,none⟩) l.length cap/\g<w.heap.size/\∀j u,j<size->(f l[k])[j]?=some u->w.cell? ⟨g,k*size+j,none⟩=some u:=by
 obtain⟨g,cap,rfl,_,hlt⟩:=h.form (by omega);refine⟨g,cap,rfl,hlt,fun j u hj hu=>?_⟩
 have:=h.cells (g:=g) rfl (k*size+j) u (by rw[Sq.jQrO f size hf l k j hk hj];exact hu)
 rwa [show(⟨g,0,none⟩:Addr).add (k*size+j)=⟨g,k*size+j,none⟩ from by unfold Addr.add;split<;>simp_all] at this
theorem jQeh (b:Bool)(w:World) :
  Calls Tryz.prog 224 #[.bool b] w fun e w'=>e=.returned (.int .i64 (Sq.sideOf b))/\w'=w:=by
 cases b
 all_goals
  go_enter Tryz.func224,Tryz.ntmps224;go_wp2;go_ret;exact⟨rfl,rfl⟩
theorem jQas (cols:List Sq.Col)(v:Value)(n:ByteArray)(w:World)(h:w.ownsRow 0 205 2 v cols.length (cols.flatMap Sq.Col.cells))(hl:cols.length<=100000) :
  Calls Tryz.prog 148 #[v,.string n] w fun e w'=>e=.returned (.int .i64 (Sq.find cols n))/\w'=w:=by
 obtain⟨ao,cap,rfl⟩:=jQa h;have H:=hd h;clear h;go_enter Tryz.func148,Tryz.ntmps148;go_wp2
 go_loop [5] (fun i=>∃k:Nat,k<=cols.length/\i=.int .i64 k/\Hid (Sq.find cols n=Sq.findFrom n (cols.drop k) k)) (fun i=>cols.length-(intOf i).toNat)
 case atStart=>exact⟨0,zR,rfl,rfl⟩
 case round =>
  obtain⟨k,hk,rfl,hr⟩:=hrel
  by_cases hlt:k<cols.length
  ·obtain⟨g,cap',hv,hg,hc⟩:=sl_at (f:=Sq.Col.cells) (fun _=>rfl) H.o k hlt;simp only[Value.slice.injEq] at hv;obtain⟨rfl,-,rfl⟩:=hv;have c0:=hc 0 (.string cols[k].name) (by decide) rfl;simp only[Nat.add_zero] at c0;have hs:=Sq.jQh4 cols n k hlt;have HS:Hid _:=hs;clear hc hs;cases he:cols[k].name.toList==n.toList
   ·have hs:=HS.o;rw[he] at hs;have HR:Hid (Sq.find cols n=Sq.findFrom n (cols.drop (k+1)) ((k:Int)+1)):=hr.o.trans hs;clear hs HS hr;go_wp2;go_round
    case rel=>exact⟨k+1,by omega,by go_num,HR.o⟩
    case measure=>simp[intOf];omega
   ·have hs:=HS.o;rw[he] at hs;have HR:Hid (Sq.find cols n=(k:Int)):=hr.o.trans hs;clear hs HS hr;go_wp2;go_ret;exact⟨by rw[HR.o];rfl,rfl⟩
  ·have HR:Hid (Sq.find cols n=-1):=by show _=_;rw[hr.o,List.drop_eq_nil_of_le (by omega)];rfl
   clear hr;go_wp2;go_ret;exact⟨by rw[HR.o];rfl,rfl⟩
theorem jQlG (v x:Sq.Val)(w:World) :
  Calls Tryz.prog 206 #[.agg v.cells.toArray,.agg x.cells.toArray] w fun e w'=>e=.returned (.int .i64 (Sq.compare v x))/\Below w.heap.size w w':=by
 obtain⟨vk,vn,vt⟩:=v;obtain⟨xk,xn,xt⟩:=x;unfold Sq.Val.cells;have hb:∀a b,Below w.heap.size w ((w.alloc a).alloc b):=fun a b=>((bR).alloc (nR) _).alloc (by simp) _
 have ha:Hid _:=hb;clear hb;cases h1:vk != xk
 case true =>
  have HE:Hid (Sq.compare ⟨vk,vn,vt⟩ ⟨xk,xn,xt⟩=Sq.sideOf (decide (vk<xk))):=by show _=_;unfold Sq.compare;simp only;rw[h1];rfl
  go_enter Tryz.func206,Tryz.ntmps206;go_wp2_with (go_at_call 224;refine(jQeh _ _).mono ?_;rintro e w' ⟨rfl,rfl⟩);go_ret;exact⟨by rw[HE.o];rfl,ha.o _ _⟩
 cases h2:(vk==0&&vn != xn)
 case true =>
  have HE:Hid (Sq.compare ⟨vk,vn,vt⟩ ⟨xk,xn,xt⟩=Sq.sideOf (decide (vn<xn))):=by show _=_;unfold Sq.compare;simp only;rw[h1,h2];rfl
  obtain⟨h2a,h2b⟩:(vk==0)=true/\(vn != xn)=true:=by simpa using h2
  clear h2;go_enter Tryz.func206,Tryz.ntmps206;go_wp2_with (go_at_call 224;refine(jQeh _ _).mono ?_;rintro e w' ⟨rfl,rfl⟩);go_ret;exact⟨by rw[HE.o];rfl,ha.o _ _⟩
 cases h3:(vk==1 && !(vt.toList==xt.toList))
 case true =>
  have HE:Hid (Sq.compare ⟨vk,vn,vt⟩ ⟨xk,xn,xt⟩=Sq.sideOf (Op.bytesLess vt.toList xt.toList)):=by show _=_;unfold Sq.compare;simp only;rw[h1,h2,h3];rfl
  obtain⟨h3a,h3b⟩:(vk==1)=true/\(vt.toList==xt.toList)=false:=by simpa using h3
  have h0:(vk==0)=false:=by rw[eq_of_beq h3a];rfl
  clear h2 h3;go_enter Tryz.func206,Tryz.ntmps206;go_wp2_with (go_at_call 224;refine(jQeh _ _).mono ?_;rintro e w' ⟨rfl,rfl⟩);go_ret;exact⟨by rw[HE.o];rfl,ha.o _ _⟩
 case false =>
  have HE:Hid (Sq.compare ⟨vk,vn,vt⟩ ⟨xk,xn,xt⟩=0):=by show _=_;unfold Sq.compare;simp only;rw[h1,h2,h3];rfl
  cases h0:vk==0
  ·cases h4:vk==1
   ·clear h2 h3;go_enter Tryz.func206,Tryz.ntmps206;go_wp2;go_ret;exact⟨by rw[HE.o];rfl,ha.o _ _⟩
   ·have h5:(vt.toList==xt.toList)=true:=by rw[h4] at h3;simpa using h3
    clear h2 h3;go_enter Tryz.func206,Tryz.ntmps206;go_wp2;go_ret;exact⟨by rw[HE.o];rfl,ha.o _ _⟩
  ·have h5:(vn != xn)=false:=by rw[h0] at h2;simpa using h2
   have h4:(vk==1)=false:=by rw[eq_of_beq h0];rfl
   clear h2 h3;go_enter Tryz.func206,Tryz.ntmps206;go_wp2;go_ret;exact⟨by rw[HE.o];rfl,ha.o _ _⟩
end
section
open Go.RowKit
def ColsAt (w:World)(v:Value)(cols:List Sq.Col):Prop:=w.ownsRow 0 205 2 v cols.length (cols.flatMap Sq.Col.cells)/\cols.length<=100000
theorem ColsAt.below {w w':World}{v:Value}{cols:List Sq.Col}(h:ColsAt w v cols)(hb:Below w.heap.size w w'):ColsAt w' v cols:=⟨jQh h.1 hb,h.2⟩
theorem ColsAt.alloc {w:World}{v:Value}{cols:List Sq.Col}(h:ColsAt w v cols)(o:Obj):ColsAt (w.alloc o) v cols:=h.below ((bR).alloc (nR) _)
theorem jQan (cols:List Sq.Col)(v:Value)(n:ByteArray)(w:World)(h:ColsAt w v cols) :
  Calls Tryz.prog 150 #[v,.string n] w fun e w'=>e=.returned (.tuple #[.int .i64 (Sq.columnKind cols n).1,.bool (Sq.columnKind cols n).2])/\w'=w:=by
 obtain⟨ao,cap,rfl⟩:=jQa h.1;have hl:=h.2;have H:=hd h;clear h;rcases Sq.jQcN cols n with hf | ⟨k,hk,hf⟩
 ·have HE:=hd (Sq.jQdv cols n hf);have HF:=hd hf;clear hf;go_enter Tryz.func150,Tryz.ntmps150;go_wp2_with (go_at_call 148;refine(jQas cols _ n _ H.o.1 hl).mono ?_;rintro e w' ⟨rfl,rfl⟩;rw[HF.o]);go_ret2;exact⟨by rw[HE.o];rfl,rfl⟩
 ·have HE:=hd (Sq.jQcS cols n k hk hf);have HF:=hd hf;obtain⟨g,cap',hv,hg,hc⟩:=sl_at (f:=Sq.Col.cells) (fun _=>rfl) H.o.1 k hk;simp only[Value.slice.injEq] at hv;obtain⟨rfl,-,rfl⟩:=hv;have c1:=hc 1 (.int .i64 cols[k].kind) (by decide) rfl;clear hf hc;go_enter Tryz.func150,Tryz.ntmps150;go_wp2_with (go_at_call 148;refine(jQas cols _ n _ H.o.1 hl).mono ?_;rintro e w' ⟨rfl,rfl⟩;rw[HF.o]);go_ret2;exact⟨by rw[HE.o];rfl,rfl⟩
theorem jQcJ (cols:List Sq.Col)(v:Value)(t:Sq.Term)(w:World)(h:ColsAt w v cols) :
  Calls Tryz.prog 152 #[v,.agg t.cells.toArray] w fun e w'=>e=.returned (.tuple #[.int .i64 (Sq.kindOf cols t).1,.bool (Sq.kindOf cols t).2])/\Below w.heap.size w w':=by
 obtain⟨tc,⟨tk,tn,tt⟩⟩:=t;unfold Sq.Term.cells;have H:=hd h;clear h;cases he:tc.toList.isEmpty
 ·have HE:Hid (Sq.kindOf cols ⟨tc,⟨tk,tn,tt⟩⟩=Sq.columnKind cols tc):=by show _=_;unfold Sq.kindOf;simp only;rw[he];rfl
  go_enter Tryz.func152,Tryz.ntmps152;go_wp2_with (go_at_call 150;refine(jQan cols v tc _ (H.o.alloc _)).mono ?_;rintro e w' ⟨rfl,rfl⟩);go_ret2;exact⟨by rw[HE.o];rfl,(bR).alloc (nR) _⟩
 ·have HE:Hid (Sq.kindOf cols ⟨tc,⟨tk,tn,tt⟩⟩=(tk,true)):=by show _=_;unfold Sq.kindOf;simp only;rw[he];rfl
  go_enter Tryz.func152,Tryz.ntmps152;go_wp2;go_ret2;exact⟨by rw[HE.o];rfl,(bR).alloc (nR) _⟩
end
section
open Go.RowKit
theorem Sq.jQcj (vals:List Sq.Val)(cols:List Sq.Col)(k:Nat)(h1:k<vals.length)(h2:k<cols.length) :
  Sq.checkValuesFrom (vals.drop k) (cols.drop k)=if vals[k].kind != cols[k].kind then 7 else Sq.checkValuesFrom (vals.drop (k+1)) (cols.drop (k+1)):=by
 rw[List.drop_eq_getElem_cons h1,List.drop_eq_getElem_cons h2,Sq.checkValuesFrom]
theorem jQfo (cols:List Sq.Col)(vals:List Sq.Val)(cv vv:Value)(w:World)(h:ColsAt w cv cols)(hv:w.ownsRow 0 208 3 vv vals.length (vals.flatMap Sq.Val.cells))(hn:vals.length<=100000) :
  Calls Tryz.prog 110 #[cv,vv] w fun e w'=>e=.returned (.int .i64 (Sq.checkValues cols vals))/\Below w.heap.size w w':=by
 obtain⟨ao,cap,rfl⟩:=jQa h.1;obtain⟨bo,bap,rfl⟩:=jQa hv;have hl:=h.2;have H:=hd h;have HV:=hd hv;clear h hv;cases hne:vals.length != cols.length
 case true =>
  have HE:Hid (Sq.checkValues cols vals=6):=by show _=_;unfold Sq.checkValues;rw[hne];rfl
  have hb:((vals.length:Int) != (cols.length:Int))=true:=by rw[bne_iff_ne] at hne ⊢;omega
  clear hne;go_enter Tryz.func110,Tryz.ntmps110;go_wp2;go_ret;exact⟨by rw[HE.o];rfl,bR⟩
 case false =>
  have HE:Hid (Sq.checkValues cols vals=Sq.checkValuesFrom vals cols):=by show _=_;unfold Sq.checkValues;rw[hne];rfl
  have hf:Hid (vals.length=cols.length):=by show _=_;simpa using hne
  have hb:((vals.length:Int) != (cols.length:Int))=false:=by rw[hf.o];simp
  have hh:vals.length<=cols.length:=by rw[hf.o];omega
  clear hne;go_enter Tryz.func110,Tryz.ntmps110;go_wp2
  go_loopw [5] (fun i wr=>∃k:Nat,k<=vals.length/\i=.int .i64 k/\(∃n,wr=w.drewN n)/\Hid (Sq.checkValues cols vals=Sq.checkValuesFrom (vals.drop k) (cols.drop k))) (fun i _=>vals.length-(intOf i).toNat)
  case atStart=>exact⟨0,zR,rfl,⟨0,rfl⟩,HE⟩
  case round =>
   obtain⟨k,hk,rfl,⟨nd,rfl⟩,hr⟩:=hrel
   by_cases hlt:k<vals.length
   ·obtain⟨g,cap',hv1,hg,hc⟩:=sl_at (f:=Sq.Val.cells) (fun _=>rfl) HV.o k hlt;simp only[Value.slice.injEq] at hv1;obtain⟨rfl,-,rfl⟩:=hv1;have c0:=hc 0 (.int .i64 vals[k].kind) (by decide) rfl;simp only[Nat.add_zero] at c0;have ha:k<cols.length:=by omega
    obtain⟨g2,cap2,hv2,hg2,hc2⟩:=sl_at (f:=Sq.Col.cells) (fun _=>rfl) H.o.1 k ha;simp only[Value.slice.injEq] at hv2;obtain⟨rfl,-,rfl⟩:=hv2;have c1:=hc2 1 (.int .i64 cols[k].kind) (by decide) rfl;have HS:=hd (Sq.jQcj vals cols k hlt ha);clear hc hc2;cases he:vals[k].kind != cols[k].kind
    ·have HR:Hid (Sq.checkValues cols vals=Sq.checkValuesFrom (vals.drop (k+1)) (cols.drop (k+1))):=by show _=_;rw[hr.o,HS.o,he];rfl
     clear hr HS;go_wp2
     go_quiet (fail)
     go_wp2;go_roundw
     case rel=>exact⟨k+1,by omega,by go_num,⟨_,rfl⟩,HR⟩
     case measure=>simp[intOf];omega
    ·have HR:Hid (Sq.checkValues cols vals=7):=by show _=_;rw[hr.o,HS.o,he];rfl
     clear hr HS;go_wp2
     go_quiet (fail)
     go_wp2;go_ret;exact⟨by rw[HR.o];rfl,by first | exact below_drewN (bR) _ | exact below_drewN (below_drewN (bR) _) _⟩
   ·have HR:Hid (Sq.checkValues cols vals=0):=by show _=_;rw[hr.o,List.drop_eq_nil_of_le (by omega)];rfl
    clear hr;go_wp2;go_ret;exact⟨by rw[HR.o];rfl,below_drewN (bR) _⟩
theorem jQja (cols:List Sq.Col)(v:Value)(k:Int)(s:Sq.SetS)(w:World)(h:ColsAt w v cols) :
  Calls Tryz.prog 193 #[v,.int .i64 k,.agg s.cells.toArray] w fun e w'=>e=.returned (.int .i64 (Sq.checkSum cols k s))/\Below w.heap.size w w':=by
 have hE:Sq.checkSum cols k s=if !(Sq.kindOf cols s.first).2 then 4 else if(Sq.kindOf cols s.first).1 != k then 7 else if s.sign.toList.isEmpty then 0 else if !(Sq.kindOf cols s.second).2 then 4 else if(Sq.kindOf cols s.first).1==1 || (Sq.kindOf cols s.second).1==1 then 7 else 0:=rfl
 have HE:=hd hE;clear hE;obtain⟨sc,⟨fc,⟨fk,fn,ft⟩⟩,sg,⟨rc,⟨rk,rn,rt⟩⟩⟩:=s;obtain⟨k1,hk1⟩:∃x,x=Sq.kindOf cols ⟨fc,⟨fk,fn,ft⟩⟩:=⟨_,rfl⟩;obtain⟨k2,hk2⟩:∃x,x=Sq.kindOf cols ⟨rc,⟨rk,rn,rt⟩⟩:=⟨_,rfl⟩;have hE:=HE.o;simp only[<-hk1,<-hk2] at hE;have HE:=hd hE;clear hE;have hc:=hd hk1;have he:=hd hk2;clear hk1 hk2;unfold Sq.SetS.cells;have H:=hd h;clear h;have hW:∀o,Below w.heap.size w (w.alloc o):=fun o=>(bR).alloc (nR) _
 have HW:=hd hW;clear hW;go_enter Tryz.func193,Tryz.ntmps193;go_wp2_with fail;refine(jQcJ cols v ⟨fc,⟨fk,fn,ft⟩⟩ _ (H.o.alloc _)).mono ?_;rintro e w1 ⟨rfl,hb1⟩;rw[<-hc.o];have hb:Below w.heap.size w w1:=(HW.o _).trans (hb1.mono (by simp));obtain⟨q1,q2⟩:=bcell hb1;have a5:=q1 w.heap.size 5 (by simp);have a6:=q1 w.heap.size 6 (by simp);have a7:=q1 w.heap.size 7 (by simp);have a8:=q1 w.heap.size 8 (by simp);have a9:=q1 w.heap.size 9 (by simp);simp[go_sem] at a5 a6 a7 a8 a9;have hf:=hd hb1;clear q1 q2 hb1;obtain⟨k1a,k1b⟩:=k1;obtain⟨k2a,k2b⟩:=k2;have hE:=HE.o;simp only at hE;have HE:=hd hE;clear hE;cases k1b
 case false =>
  go_wp2;go_ret;exact⟨by rw[HE.o];rfl,hb⟩
 cases hkk:k1a != k
 case true =>
  go_wp2;go_ret;exact⟨by rw[HE.o,hkk];rfl,hb⟩
 cases hsg:sg.toList.isEmpty
 case true =>
  go_wp2;go_ret;exact⟨by rw[HE.o,hkk,hsg];rfl,hb⟩
 go_wp2_with fail;refine(jQcJ cols v ⟨rc,⟨rk,rn,rt⟩⟩ _ (H.o.below hb)).mono ?_;rintro e w2 ⟨rfl,hb2⟩;rw[<-he.o];have ha:Below w.heap.size w w2:=hb.trans (hb2.mono hb.size);clear hb2;cases k2b
 case false =>
  go_wp2;go_ret;exact⟨by rw[HE.o,hkk,hsg];rfl,ha⟩
 cases h1:k1a==1
 case true =>
  go_wp2;go_ret;exact⟨by rw[HE.o,hkk,hsg,h1];rfl,ha⟩
 cases h2:k2a==1
 case true =>
  go_wp2;go_ret;exact⟨by rw[HE.o,hkk,hsg,h1,h2];rfl,ha⟩
 case false =>
  go_wp2;go_ret;exact⟨by rw[HE.o,hkk,hsg,h1,h2];rfl,ha⟩
end
end Go.Proofs.YtahpihjialbanaaGreatDoor
