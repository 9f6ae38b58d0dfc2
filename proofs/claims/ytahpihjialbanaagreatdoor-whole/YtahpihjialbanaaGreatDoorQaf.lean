import Derived.Lib.AppendIntMem
import Derived.Test.YtahpihjialbanaaGreatDoorQae
set_option linter.unusedVariables false
set_option linter.unusedSimpArgs false
set_option maxRecDepth 100000
set_option maxHeartbeats 1000000
namespace Go.Proofs.YtahpihjialbanaaGreatDoor
open Sq (PSt StepS SetS)
section
open Go.RowKit
theorem Sq.jQgm (sets:List SetS)(n:ByteArray)(k:Nat)(h:k<sets.length):Sq.setBefore (sets.drop k) n=(sets[k].column.toList==n.toList || Sq.setBefore (sets.drop (k+1)) n):=by
 rw[List.drop_eq_getElem_cons h];rfl
def SetsAt (w:World)(v:Value)(sets:List SetS):Prop:=w.ownsRow 0 213 10 v sets.length (sets.flatMap Sq.SetS.cells)/\sets.length<=100000
theorem SetsAt.below {w w':World}{v:Value}{l:List SetS}(h:SetsAt w v l)(hb:Below w.heap.size w w'):SetsAt w' v l:=⟨jQh h.1 hb,h.2⟩
theorem jQjb (cols:List Sq.Col)(earlier:List SetS)(cv ev:Value)(s:SetS)(w:World)(h:ColsAt w cv cols)(he:SetsAt w ev earlier) :
  Calls Tryz.prog 149 #[cv,ev,.agg s.cells.toArray] w fun e w'=>e=.returned (.int .i64 (Sq.checkSet cols earlier s))/\Below w.heap.size w w':=by
 obtain⟨ao,cap,rfl⟩:=jQa h.1;obtain⟨bo,bap,rfl⟩:=jQa he.1;have hl:=h.2;have hs:=he.2;have hE:Sq.checkSet cols earlier s=match cols[(Sq.find cols s.column).toNat]? with | some c=>if Sq.find cols s.column<0 then 4 else if Sq.find cols s.column==0 then 8 else if Sq.setBefore earlier s.column then 5 else Sq.checkSum cols c.kind s | none=>4:=rfl
 have HE:=hd hE;clear hE;obtain⟨S,hS⟩:∃x,x=s:=⟨_,rfl⟩;have HS:=hd hS;clear hS;obtain⟨sc,⟨fc,⟨fk,fn,ft⟩⟩,sg,⟨rc,⟨rk,rn,rt⟩⟩⟩:=s;unfold Sq.SetS.cells;have H:=hd h;have hm:=hd he;clear h he;have hW:∀o,Below w.heap.size w (w.alloc o):=fun o=>(bR).alloc (nR) _
 have HW:=hd hW;clear hW;rcases Sq.jQcN cols sc with hf | ⟨k,hk,hf⟩
 ·have hE:=HE.o;simp only at hE;rw[hf] at hE;have hi:Hid (Sq.checkSet cols earlier ⟨sc,⟨fc,⟨fk,fn,ft⟩⟩,sg,⟨rc,⟨rk,rn,rt⟩⟩⟩=4):=by show _=_;rw[hE];split<;>rfl
  have HF:=hd hf;clear hf hE;go_enter Tryz.func149,Tryz.ntmps149;go_wp2_with (go_at_call 148;refine(jQas cols _ sc _ (H.o.alloc _).1 hl).mono ?_;rintro e w' ⟨rfl,rfl⟩;rw[HF.o]);go_ret;exact⟨by rw[hi.o];rfl,HW.o _⟩
 have hE:=HE.o;simp only at hE;rw[hf,Int.toNat_natCast,List.getElem?_eq_getElem hk] at hE;simp only at hE;rw[if_neg (by omega)] at hE;have hb:=hd hE;have HF:=hd hf;clear hf hE
 by_cases hk0:k=0
 ·subst hk0;have hp:¬cols=[]:=by intro h;rw[h] at hk;simp at hk
  have hn:Hid (Sq.checkSet cols earlier ⟨sc,⟨fc,⟨fk,fn,ft⟩⟩,sg,⟨rc,⟨rk,rn,rt⟩⟩⟩=8):=by show _=_;rw[hb.o];rfl
  go_enter Tryz.func149,Tryz.ntmps149;go_wp2_with (go_at_call 148;refine(jQas cols _ sc _ (H.o.alloc _).1 hl).mono ?_;rintro e w' ⟨rfl,rfl⟩;rw[HF.o]);go_ret;exact⟨by rw[hn.o];rfl,HW.o _⟩
 have ho:0<k:=by omega
 have hh:Hid (Sq.checkSet cols earlier ⟨sc,⟨fc,⟨fk,fn,ft⟩⟩,sg,⟨rc,⟨rk,rn,rt⟩⟩⟩=if Sq.setBefore earlier sc then 5 else Sq.checkSum cols cols[k].kind ⟨sc,⟨fc,⟨fk,fn,ft⟩⟩,sg,⟨rc,⟨rk,rn,rt⟩⟩⟩):=by
  show _=_;rw[hb.o]
  have:((k:Int)==0)=false:=by simp;omega
  rw[this];rfl
 obtain⟨g,cap',hv,hg,hc⟩:=sl_at (f:=Sq.Col.cells) (fun _=>rfl) H.o.1 k hk;simp only[Value.slice.injEq] at hv;obtain⟨rfl,-,rfl⟩:=hv;have c1:=hc 1 (.int .i64 cols[k].kind) (by decide) rfl;clear hc hk0;go_enter Tryz.func149,Tryz.ntmps149;go_wp2_with (go_at_call 148;refine(jQas cols _ sc _ (H.o.alloc _).1 hl).mono ?_;rintro e w' ⟨rfl,rfl⟩;rw[HF.o])
 go_loopw [8] (fun i wr=>∃j:Nat,j<=earlier.length/\i=.int .i64 j/\(∃n,wr=(w.alloc (.cells #[.string sc,.string fc,.int .i64 fk,.int .i64 fn,.string ft,.string sg,.string rc,.int .i64 rk,.int .i64 rn,.string rt] 213)).drewN n)/\Hid (Sq.setBefore earlier sc=Sq.setBefore (earlier.drop j) sc)) (fun i _=>earlier.length-(intOf i).toNat)
 case atStart=>exact⟨0,zR,rfl,⟨0,rfl⟩,rfl⟩
 case round =>
  obtain⟨j,hj,rfl,⟨nd,rfl⟩,hr⟩:=hrel
  by_cases hlt:j<earlier.length
  ·obtain⟨g2,cap2,hv2,hg2,hc2⟩:=sl_at (f:=Sq.SetS.cells) (fun _=>rfl) hm.o.1 j hlt;simp only[Value.slice.injEq] at hv2;obtain⟨rfl,-,rfl⟩:=hv2;have c0:=hc2 0 (.string earlier[j].column) (by decide) rfl;simp only[Nat.add_zero] at c0;have ha:=hd (Sq.jQgm earlier sc j hlt);clear hc2;cases hq:earlier[j].column.toList==sc.toList
   ·have HR:Hid (Sq.setBefore earlier sc=Sq.setBefore (earlier.drop (j+1)) sc):=by show _=_;rw[hr.o,ha.o,hq];rfl
    clear hr ha;go_wp2
    go_quiet (fail)
    go_wp2;go_roundw
    case rel=>exact⟨j+1,by omega,by go_num,⟨_,rfl⟩,HR⟩
    case measure=>simp[intOf];omega
   ·have HR:Hid (Sq.setBefore earlier sc=true):=by show _=_;rw[hr.o,ha.o,hq];rfl
    clear hr ha;go_wp2
    go_quiet (fail)
    go_wp2;go_ret;exact⟨by rw[hh.o,HR.o];rfl,below_drewN (below_drewN (HW.o _) _) _⟩
  ·have HR:Hid (Sq.setBefore earlier sc=false):=by show _=_;rw[hr.o,List.drop_eq_nil_of_le (by omega)];rfl
   clear hr;go_wp2
   go_region_with (go_at_call 193;refine(jQja cols _ _ ⟨sc,⟨fc,⟨fk,fn,ft⟩⟩,sg,⟨rc,⟨rk,rn,rt⟩⟩⟩ _ (H.o.below (by exact below_drewN (HW.o _) _))).mono ?_;rintro e w5 ⟨rfl,hb5⟩)
   all_goals
    go_wp2;go_ret;exact⟨by rw[hh.o,HR.o];rfl,(below_drewN (HW.o _) _).trans (Below.mono (B':=w.heap.size) hb5 (by simp))⟩
theorem jQoK {w:World}{sets:List SetS}{ao:Option Addr}{cap:Nat}(h:SetsAt w (.slice ao sets.length cap) sets)(k:Nat)(hk:k<sets.length):SetsAt w (.slice ao k cap) (sets.take k):=by
 have hl:(sets.take k).length=k:=by simp;omega
 refine⟨?_,by rw[hl];have:=h.2;omega⟩;rw[hl];rcases h.1.2 with⟨h1,h2⟩ | ⟨g,cap',cur,h1,hg,hh,hn,hm,hc,ht⟩
 ·omega
 ·simp only[Value.slice.injEq] at h1;obtain⟨rfl,-,rfl⟩:=h1;refine⟨by rw[Sq.jQfU Sq.SetS.cells 10 (fun _=>rfl),hl],Or.inr ⟨g,cap,cur,rfl,hg,hh,by omega,hm,hc,?_⟩⟩
  have e1:(sets.take k).flatMap Sq.SetS.cells=(sets.flatMap Sq.SetS.cells).take (k*10):=by
   conv=>rhs;rw[<-List.take_append_drop k sets,List.flatMap_append]
   rw[List.take_left' (by rw[Sq.jQfU Sq.SetS.cells 10 (fun _=>rfl),hl])]
  rw[e1,<-ht,List.take_take]
  congr 1
  omega
theorem Sq.jQde (cols:List Sq.Col)(sets:List SetS)(k:Nat)(h:k<sets.length):Sq.checkSetsFrom cols (sets.take k) (sets.drop k)=if Sq.checkSet cols (sets.take k) sets[k] != 0 then Sq.checkSet cols (sets.take k) sets[k] else Sq.checkSetsFrom cols (sets.take (k+1)) (sets.drop (k+1)):=by
 conv=>lhs;rw[List.drop_eq_getElem_cons h]
 rw[Sq.checkSetsFrom,List.take_succ_eq_append_getElem h]
end
section
open Go.RowKit
theorem jQie (cols:List Sq.Col)(sets:List SetS)(cv sv:Value)(w:World)(h:ColsAt w cv cols)(hs:SetsAt w sv sets) :
  Calls Tryz.prog 111 #[cv,sv] w fun e w'=>e=.returned (.int .i64 (Sq.checkSets cols sets))/\Below w.heap.size w w':=by
 obtain⟨bo,bap,rfl⟩:=jQa hs.1;have hl:=hs.2;have H:=hd h;have HS:=hd hs
 have hj:sets.length<=bap:=by
  rcases hs.1.2 with⟨h1,h2⟩ | ⟨g,cap',cur,h1,hg,hh,hn,_⟩
  ·simp only[Value.slice.injEq] at h1;omega
  ·simp only[Value.slice.injEq] at h1;obtain⟨-,-,rfl⟩:=h1;exact hn
 have hq:bap<=9223372036854775807:=by
  rcases hs.1.2 with⟨h1,h2⟩ | ⟨g,cap',cur,h1,hg,hh,hn,hm,_⟩
  ·simp only[Value.slice.injEq] at h1;omega
  ·simp only[Value.slice.injEq] at h1;obtain⟨-,-,rfl⟩:=h1;exact hm
 clear h hs;go_enter Tryz.func111,Tryz.ntmps111;go_wp2
 go_loopw [5] (fun i wr=>∃k:Nat,k<=sets.length/\i=.int .i64 k/\Below w.heap.size w wr/\Hid (Sq.checkSets cols sets=Sq.checkSetsFrom cols (sets.take k) (sets.drop k))) (fun i _=>sets.length-(intOf i).toNat)
 case atStart=>exact⟨0,zR,rfl,bR,rfl⟩
 case round =>
  obtain⟨k,hk,rfl,hb,hr⟩:=hrel
  by_cases hlt:k<sets.length
  ·have ho:=hd (HS.o.below hb);obtain⟨g,cap',hv,hg,hc⟩:=sl_at (f:=Sq.SetS.cells) (fun _=>rfl) ho.o.1 k hlt;simp only[Value.slice.injEq] at hv;obtain⟨rfl,-,rfl⟩:=hv;obtain⟨x,hx⟩:∃x,x=sets[k]:=⟨_,rfl⟩;rw[<-hx] at hc;have hf:=hd (Sq.jQde cols sets k hlt);have HX:=hd hx;clear hx;obtain⟨sc,⟨fc,⟨fk,fn,ft⟩⟩,sg,⟨rc,⟨rk,rn,rt⟩⟩⟩:=x;have c0:=hc 0 _ (by decide) rfl;have c1:=hc 1 _ (by decide) rfl;have c2:=hc 2 _ (by decide) rfl;have c3:=hc 3 _ (by decide) rfl;have c4:=hc 4 _ (by decide) rfl;have c5:=hc 5 _ (by decide) rfl;have c6:=hc 6 _ (by decide) rfl;have c7:=hc 7 _ (by decide) rfl;have c8:=hc 8 _ (by decide) rfl;have c9:=hc 9 _ (by decide) rfl;simp only[Nat.add_zero] at c0;have ht:k<=bap:=by omega
   have HT:=hd (jQoK (HS.o.below hb.drew) k hlt);have hp:=hd (H.o.below hb.drew);clear hc;go_wp2
   go_region_with (go_at_call 149;refine(jQjb cols (sets.take k) cv _ ⟨sc,⟨fc,⟨fk,fn,ft⟩⟩,sg,⟨rc,⟨rk,rn,rt⟩⟩⟩ _ hp.o HT.o).mono ?_;rintro e w5 ⟨rfl,hb5⟩)
   all_goals
    obtain⟨er,her⟩:∃x,x=Sq.checkSet cols (sets.take k) ⟨sc,⟨fc,⟨fk,fn,ft⟩⟩,sg,⟨rc,⟨rk,rn,rt⟩⟩⟩:=⟨_,rfl⟩;rw[<-her];have hi:Below w.heap.size w w5:=hb.drew.trans (Below.mono (B':=w.heap.size) hb5 hb.size);have he:=hf.o;rw[<-HX.o,<-her] at he;have ha:=hd he;clear he her hf hb5 c0 c1 c2 c3 c4 c5 c6 c7 c8 c9;cases hz:er != 0
    ·have HR:Hid (Sq.checkSets cols sets=Sq.checkSetsFrom cols (sets.take (k+1)) (sets.drop (k+1))):=by show _=_;rw[hr.o,ha.o,hz];rfl
     clear hr ha;go_wp2;go_roundw
     case rel=>exact⟨k+1,by omega,by go_num,hi,HR⟩
     case measure=>simp[intOf];omega
    ·have HR:Hid (Sq.checkSets cols sets=er):=by show _=_;rw[hr.o,ha.o,hz];rfl
     clear hr ha;go_wp2;go_ret;exact⟨by rw[HR.o];rfl,hi⟩
  ·have HR:Hid (Sq.checkSets cols sets=0):=by show _=_;rw[hr.o,List.drop_eq_nil_of_le (by omega)];unfold Sq.checkSetsFrom;rfl
   clear hr;go_wp2;go_ret;exact⟨by rw[HR.o];rfl,hb⟩
theorem Sq.jQfp (cols:List Sq.Col)(shw:Int)(l:List ByteArray)(k:Nat)(h:k<l.length):Sq.checkItemsFrom cols shw (l.drop k)=if !(Sq.columnKind cols l[k]).2 then 4 else if shw==3&&(Sq.columnKind cols l[k]).1==1 then 7 else Sq.checkItemsFrom cols shw (l.drop (k+1)):=by
 rw[List.drop_eq_getElem_cons h,Sq.checkItemsFrom]
def StrsAt (w:World)(v:Value)(l:List ByteArray):Prop:=w.ownsRow 0 9 1 v l.length (l.map Value.string)/\l.length<=100000
theorem StrsAt.below {w w':World}{v:Value}{l:List ByteArray}(h:StrsAt w v l)(hb:Below w.heap.size w w'):StrsAt w' v l:=⟨jQh h.1 hb,h.2⟩
theorem StrsAt.at {w:World}{v:Value}{l:List ByteArray}(h:StrsAt w v l)(k:Nat)(hk:k<l.length):∃g cap,v=.slice (some ⟨g,0,none⟩) l.length cap/\g<w.heap.size/\w.cell? ⟨g,k,none⟩=some (.string l[k]):=by
 obtain⟨g,cap,rfl,_,hlt⟩:=h.1.form (by omega);refine⟨g,cap,rfl,hlt,?_⟩
 have:=h.1.cells (g:=g) rfl k (.string l[k]) (by simp[hk])
 rwa [show(⟨g,0,none⟩:Addr).add k=⟨g,k,none⟩ from by unfold Addr.add;split<;>simp_all] at this
structure StmAt (w:World)(st:PSt)(r:Rw):Prop where
 cols:ColsAt w r.cv st.cols
 vals:w.ownsRow 0 208 3 r.vv st.vals.length (st.vals.flatMap Sq.Val.cells)
 nvals:st.vals.length<=100000
 sets:SetsAt w r.sv st.sets
 items:StrsAt w r.iv st.items
 wher:w.ownsRow 0 217 9 r.wv st.wher.length (st.wher.flatMap Sq.StepS.cells)
 nwher:st.wher.length<=100000
theorem StmAt.below {w w':World}{st:PSt}{r:Rw}(h:StmAt w st r)(hb:Below w.heap.size w w'):StmAt w' st r :=
 ⟨h.cols.below hb,jQh h.vals hb,h.nvals,h.sets.below hb,h.items.below hb,jQh h.wher hb,h.nwher⟩
theorem jQgV (cols:List Sq.Col)(cv:Value)(st:PSt)(r:Rw)(w:World)(h:ColsAt w cv cols)(hs:StmAt w st r) :
  Calls Tryz.prog 112 #[cv,.agg (stmCells st r)] w fun e w'=>e=.returned (.int .i64 (Sq.checkItemsFrom cols st.shw st.items))/\Below w.heap.size w w':=by
 obtain⟨cvx,vvx,svx,ivx,wvx⟩:=r;obtain⟨q5,c5,hcv⟩:=jQa hs.cols.1;obtain⟨q6,c6,hvv⟩:=jQa hs.vals;obtain⟨q7,c7,hsv⟩:=jQa hs.sets.1;obtain⟨q9,c9,hiv⟩:=jQa hs.items.1;obtain⟨q10,c10,hwv⟩:=jQa hs.wher
 dsimp only at hcv hvv hsv hiv hwv
 subst hcv hvv hsv hiv hwv;unfold stmCells;have hl:=hs.items.2;have H:=hd h;have HS:=hd hs;clear h hs;go_enter Tryz.func112,Tryz.ntmps112;go_wp2
 go_loop [5] (fun i=>∃k:Nat,k<=st.items.length/\i=.int .i64 k/\Hid (Sq.checkItemsFrom cols st.shw st.items=Sq.checkItemsFrom cols st.shw (st.items.drop k))) (fun i=>st.items.length-(intOf i).toNat)
 case atStart=>exact⟨0,zR,rfl,rfl⟩
 case round =>
  obtain⟨k,hk,rfl,hr⟩:=hrel
  by_cases hlt:k<st.items.length
  ·obtain⟨g,cap',hv,hg,c0⟩:=HS.o.items.at k hlt;simp only[Value.slice.injEq] at hv;obtain⟨rfl,-,rfl⟩:=hv;have he:=hd (Sq.jQfp cols st.shw st.items k hlt);obtain⟨kd,hkd⟩:∃x,x=Sq.columnKind cols st.items[k]:=⟨_,rfl⟩;have hc:=he.o;rw[<-hkd] at hc;have ha:=hd hc;have hb:=hd hkd;clear hc hkd he;obtain⟨ka,kb⟩:=kd;cases kb
   case false =>
    have HR:Hid (Sq.checkItemsFrom cols st.shw st.items=4):=by show _=_;rw[hr.o,ha.o];rfl
    go_wp2_with (go_at_call 150;refine(jQan cols cv _ _ (H.o.alloc _)).mono ?_;rintro e w' ⟨rfl,rfl⟩;rw[<-hb.o]);go_ret;exact⟨by rw[HR.o];rfl,(bR).alloc (nR) _⟩
   cases h3:st.shw==3
   case false =>
    have HR:Hid (Sq.checkItemsFrom cols st.shw st.items=Sq.checkItemsFrom cols st.shw (st.items.drop (k+1))):=by show _=_;rw[hr.o,ha.o,h3];rfl
    clear hr ha;go_wp2_with (go_at_call 150;refine(jQan cols cv _ _ (H.o.alloc _)).mono ?_;rintro e w' ⟨rfl,rfl⟩;rw[<-hb.o]);go_round
    case rel=>exact⟨k+1,by omega,by go_num,HR⟩
    case measure=>simp[intOf];omega
   cases h1:ka==1
   case false =>
    have HR:Hid (Sq.checkItemsFrom cols st.shw st.items=Sq.checkItemsFrom cols st.shw (st.items.drop (k+1))):=by show _=_;rw[hr.o,ha.o,h3];simp only[h1];rfl
    clear hr ha;go_wp2_with (go_at_call 150;refine(jQan cols cv _ _ (H.o.alloc _)).mono ?_;rintro e w' ⟨rfl,rfl⟩;rw[<-hb.o]);go_round
    case rel=>exact⟨k+1,by omega,by go_num,HR⟩
    case measure=>simp[intOf];omega
   case true =>
    have HR:Hid (Sq.checkItemsFrom cols st.shw st.items=7):=by show _=_;rw[hr.o,ha.o,h3];simp only[h1];rfl
    go_wp2_with (go_at_call 150;refine(jQan cols cv _ _ (H.o.alloc _)).mono ?_;rintro e w' ⟨rfl,rfl⟩;rw[<-hb.o]);go_ret;exact⟨by rw[HR.o];rfl,(bR).alloc (nR) _⟩
  ·have HR:Hid (Sq.checkItemsFrom cols st.shw st.items=0):=by show _=_;rw[hr.o,List.drop_eq_nil_of_le (by omega)];rfl
   clear hr;go_wp2;go_ret;exact⟨by rw[HR.o];rfl,(bR).alloc (nR) _⟩
end
section
open Go.RowKit
theorem jQcm (s:StepS)(w:World) :
  Calls Tryz.prog 151 #[.agg s.cells.toArray] w fun e w'=>e=.returned (.bool (Sq.isComparison s.op))/\Below w.heap.size w w':=by
 obtain⟨op,⟨lc,⟨lk,ln,lt⟩⟩,⟨rc,⟨rk,rn,rt⟩⟩⟩:=s;unfold Sq.StepS.cells;go_enter Tryz.func151,Tryz.ntmps151;go_wp2_with (go_at_call 194;refine(jQaP _ _).mono ?_;rintro e w' ⟨rfl,rfl⟩);go_ret;exact⟨rfl,(bR).alloc (nR) _⟩
theorem Sq.jQfn (cols:List Sq.Col)(l:List StepS)(k:Nat)(h:k<l.length):Sq.checkWhereFrom cols (l.drop k)=if !Sq.isComparison l[k].op then Sq.checkWhereFrom cols (l.drop (k+1)) else if !(Sq.kindOf cols l[k].left).2 then 4 else if !(Sq.kindOf cols l[k].right).2 then 4 else if(Sq.kindOf cols l[k].left).1 != (Sq.kindOf cols l[k].right).1 then 7 else Sq.checkWhereFrom cols (l.drop (k+1)):=by
 rw[List.drop_eq_getElem_cons h,Sq.checkWhereFrom]
def StepsAt (w:World)(v:Value)(l:List StepS):Prop:=w.ownsRow 0 217 9 v l.length (l.flatMap Sq.StepS.cells)/\l.length<=100000
theorem StepsAt.below {w w':World}{v:Value}{l:List StepS}(h:StepsAt w v l)(hb:Below w.heap.size w w'):StepsAt w' v l:=⟨jQh h.1 hb,h.2⟩
theorem StmAt.steps {w:World}{st:PSt}{r:Rw}(h:StmAt w st r):StepsAt w r.wv st.wher:=⟨h.wher,h.nwher⟩
theorem jQaC (cols:List Sq.Col)(l:List StepS)(cv sv:Value)(w:World)(h:ColsAt w cv cols)(hs:StepsAt w sv l) :
  Calls Tryz.prog 113 #[cv,sv] w fun e w'=>e=.returned (.int .i64 (Sq.checkWhereFrom cols l))/\Below w.heap.size w w':=by
 obtain⟨bo,bap,rfl⟩:=jQa hs.1;have hl:=hs.2;have H:=hd h;have HS:=hd hs;clear h hs;go_enter Tryz.func113,Tryz.ntmps113;go_wp2
 go_loopw [5] (fun i wr=>∃k:Nat,k<=l.length/\i=.int .i64 k/\Below w.heap.size w wr/\Hid (Sq.checkWhereFrom cols l=Sq.checkWhereFrom cols (l.drop k))) (fun i _=>l.length-(intOf i).toNat)
 case atStart=>exact⟨0,zR,rfl,bR,rfl⟩
 case round =>
  obtain⟨k,hk,rfl,hb,hr⟩:=hrel
  by_cases hlt:k<l.length
  ·obtain⟨x,hx⟩:∃x,x=l[k]:=⟨_,rfl⟩;have HX:=hd hx
   have cells:∀W,Below w.heap.size w W->∃g,bo=some ⟨g,0,none⟩/\g<W.heap.size/\∀j u,j<9->x.cells[j]?=some u->W.cell? ⟨g,k*9+j,none⟩=some u:=by
    intro W hW;obtain⟨g,cap',hv,hg,hc⟩:=sl_at (f:=Sq.StepS.cells) (fun _=>rfl) (HS.o.below hW).1 k hlt;simp only[Value.slice.injEq] at hv;exact⟨g,hv.1,hg,by rw[hx];exact hc⟩
   have HC:=hd cells;have ho:=hd (Sq.jQfn cols l k hlt);have hh:=ho.o;rw[<-hx] at hh;have hj:=hd hh;clear hh ho cells hx;obtain⟨g,hbo,hg,hc⟩:=HC.o wr hb;subst hbo;obtain⟨op,⟨lc,⟨lk,ln,lt⟩⟩,⟨rc,⟨rk,rn,rt⟩⟩⟩:=x;have c0:=hc 0 _ (by decide) rfl;have c1:=hc 1 _ (by decide) rfl;have c2:=hc 2 _ (by decide) rfl;have c3:=hc 3 _ (by decide) rfl;have c4:=hc 4 _ (by decide) rfl;have c5:=hc 5 _ (by decide) rfl;have c6:=hc 6 _ (by decide) rfl;have c7:=hc 7 _ (by decide) rfl;have c8:=hc 8 _ (by decide) rfl;simp only[Nat.add_zero] at c0;clear hc;go_wp2_with fail;refine(jQcm ⟨op,⟨lc,⟨lk,ln,lt⟩⟩,⟨rc,⟨rk,rn,rt⟩⟩⟩ _).mono ?_;rintro e w1 ⟨rfl,hb1⟩;have he:Below w.heap.size w w1:=hb.trans (hb1.mono hb.size);clear hb1 c0 c1 c2 c3 c4 c5 c6 c7 c8;obtain⟨g',hg',hg1,hc⟩:=HC.o w1 he;have hm:g=g':=by simpa using hg'
   subst hm;have c1:=hc 1 _ (by decide) rfl;have c2:=hc 2 _ (by decide) rfl;have c3:=hc 3 _ (by decide) rfl;have c4:=hc 4 _ (by decide) rfl;clear hc hg';have hh:=hj.o;obtain⟨k1,hk1⟩:∃x,x=Sq.kindOf cols ⟨lc,⟨lk,ln,lt⟩⟩:=⟨_,rfl⟩;obtain⟨k2,hk2⟩:∃x,x=Sq.kindOf cols ⟨rc,⟨rk,rn,rt⟩⟩:=⟨_,rfl⟩;rw[<-hk1,<-hk2] at hh;have ha:=hd hh;have hp:=hd hk1;have hq:=hd hk2;clear hh hj hk1 hk2;cases hc:Sq.isComparison op
   case false =>
    have HR:Hid (Sq.checkWhereFrom cols l=Sq.checkWhereFrom cols (l.drop (k+1))):=by show _=_;rw[hr.o,ha.o,hc];rfl
    clear hr ha;go_wp2;go_roundw
    case rel=>exact⟨k+1,by omega,by go_num,he,HR⟩
    case measure=>simp[intOf];omega
   go_wp2_with fail;refine(jQcJ cols cv ⟨lc,⟨lk,ln,lt⟩⟩ _ (H.o.below he)).mono ?_;rintro e w2 ⟨rfl,hb2⟩;rw[<-hp.o];have hf:Below w.heap.size w w2:=he.trans (hb2.mono he.size);clear hb2 c1 c2 c3 c4;obtain⟨g',hg',hg2,hc9⟩:=HC.o w2 hf;have hm:g=g':=by simpa using hg'
   subst hm;have c5:=hc9 5 _ (by decide) rfl;have c6:=hc9 6 _ (by decide) rfl;have c7:=hc9 7 _ (by decide) rfl;have c8:=hc9 8 _ (by decide) rfl;clear hc9 hg';obtain⟨k1a,k1b⟩:=k1;obtain⟨k2a,k2b⟩:=k2;cases k1b
   case false =>
    have HR:Hid (Sq.checkWhereFrom cols l=4):=by show _=_;rw[hr.o,ha.o,hc];rfl
    go_wp2;go_ret;exact⟨by rw[HR.o];rfl,hf⟩
   go_wp2_with fail;refine(jQcJ cols cv ⟨rc,⟨rk,rn,rt⟩⟩ _ (H.o.below hf)).mono ?_;rintro e w3 ⟨rfl,hb3⟩;rw[<-hq.o];have hi:Below w.heap.size w w3:=hf.trans (hb3.mono hf.size);clear hb3 c5 c6 c7 c8;cases k2b
   case false =>
    have HR:Hid (Sq.checkWhereFrom cols l=4):=by show _=_;rw[hr.o,ha.o,hc];rfl
    go_wp2;go_ret;exact⟨by rw[HR.o];rfl,hi⟩
   cases hn:k1a != k2a
   case true =>
    have HR:Hid (Sq.checkWhereFrom cols l=7):=by show _=_;rw[hr.o,ha.o,hc];simp only[hn];rfl
    go_wp2;go_ret;exact⟨by rw[HR.o];rfl,hi⟩
   case false =>
    have HR:Hid (Sq.checkWhereFrom cols l=Sq.checkWhereFrom cols (l.drop (k+1))):=by show _=_;rw[hr.o,ha.o,hc];simp only[hn];rfl
    clear hr ha;go_wp2;go_roundw
    case rel=>exact⟨k+1,by omega,by go_num,hi,HR⟩
    case measure=>simp[intOf];omega
  ·have HR:Hid (Sq.checkWhereFrom cols l=0):=by show _=_;rw[hr.o,List.drop_eq_nil_of_le (by omega)];rfl
   clear hr;go_wp2;go_ret;exact⟨by rw[HR.o];rfl,hb⟩
theorem jQpF (cols:List Sq.Col)(cv:Value)(st:PSt)(r:Rw)(w:World)(h:ColsAt w cv cols)(hs:StmAt w st r) :
  Calls Tryz.prog 73 #[cv,.agg (stmCells st r)] w fun e w'=>e=.returned (.int .i64 (Sq.check cols st))/\Below w.heap.size w w':=by
 obtain⟨cvx,vvx,svx,ivx,wvx⟩:=r;obtain⟨q5,c5,hcv⟩:=jQa hs.cols.1;obtain⟨q6,c6,hvv⟩:=jQa hs.vals;obtain⟨q7,c7,hsv⟩:=jQa hs.sets.1;obtain⟨q9,c9,hiv⟩:=jQa hs.items.1;obtain⟨q10,c10,hwv⟩:=jQa hs.wher
 dsimp only at hcv hvv hsv hiv hwv
 subst hcv hvv hsv hiv hwv;unfold stmCells;have hW:∀o,Below w.heap.size w (w.alloc o):=fun o=>(bR).alloc (nR) _
 have HW:=hd hW;have H:=hd h;have HS:=hd hs;have HE:Hid (Sq.check cols st=if Sq.checkAct cols st != 0 then Sq.checkAct cols st else Sq.checkWhereFrom cols st.wher):=rfl;have HA:Hid (Sq.checkAct cols st=if st.act==2 then Sq.checkValues cols st.vals else if st.act==3 then Sq.checkSets cols st.sets else if st.act==5 then Sq.checkItemsFrom cols st.shw st.items else 0):=rfl;clear h hs hW;cases h2:st.act==2
 case true =>
  go_enter Tryz.func73,Tryz.ntmps73;go_wp2_with fail;refine(jQfo cols st.vals cv _ _ (H.o.alloc _) (HS.o.below (HW.o _)).vals HS.o.nvals).mono ?_;rintro e w1 ⟨rfl,hb1⟩;obtain⟨er,her⟩:∃x,x=Sq.checkAct cols st:=⟨_,rfl⟩;rw[show Sq.checkValues cols st.vals=er from by rw[her,HA.o,h2];rfl];have hE:=HE.o;rw[<-her] at hE;have hb:=hd hE;have ha:Below w.heap.size w w1:=(HW.o _).trans (hb1.mono (by simp));obtain⟨q1,q2⟩:=bcell hb1;have a7:=q1 w.heap.size 7 (by simp);simp[go_sem] at a7;clear hE her hb1 q1 q2;cases hz:er != 0
  case true =>
   go_wp2;go_ret;exact⟨by rw[hb.o,hz];rfl,ha⟩
  case false =>
   go_wp2_with fail;refine(jQaC cols st.wher cv _ _ (H.o.below ha) (HS.o.below ha).steps).mono ?_;rintro e w2 ⟨rfl,hb2⟩;go_wp2;go_ret;exact⟨by rw[hb.o,hz];rfl,ha.trans (hb2.mono ha.size)⟩
 cases h3:st.act==3
 case true =>
  go_enter Tryz.func73,Tryz.ntmps73;go_wp2_with fail;refine(jQie cols st.sets cv _ _ (H.o.alloc _) (HS.o.below (HW.o _)).sets).mono ?_;rintro e w1 ⟨rfl,hb1⟩;obtain⟨er,her⟩:∃x,x=Sq.checkAct cols st:=⟨_,rfl⟩;rw[show Sq.checkSets cols st.sets=er from by rw[her,HA.o,h2,h3];rfl];have hE:=HE.o;rw[<-her] at hE;have hb:=hd hE;have ha:Below w.heap.size w w1:=(HW.o _).trans (hb1.mono (by simp));obtain⟨q1,q2⟩:=bcell hb1;have a7:=q1 w.heap.size 7 (by simp);simp[go_sem] at a7;clear hE her hb1 q1 q2;cases hz:er != 0
  case true =>
   go_wp2;go_ret;exact⟨by rw[hb.o,hz];rfl,ha⟩
  case false =>
   go_wp2_with fail;refine(jQaC cols st.wher cv _ _ (H.o.below ha) (HS.o.below ha).steps).mono ?_;rintro e w2 ⟨rfl,hb2⟩;go_wp2;go_ret;exact⟨by rw[hb.o,hz];rfl,ha.trans (hb2.mono ha.size)⟩
 cases h5:st.act==5
 case true =>
  go_enter Tryz.func73,Tryz.ntmps73;go_wp2_with fail;refine(jQgV cols cv st _ _ (H.o.alloc _) (HS.o.below (HW.o _))).mono ?_;rintro e w1 ⟨rfl,hb1⟩;obtain⟨er,her⟩:∃x,x=Sq.checkAct cols st:=⟨_,rfl⟩;rw[show Sq.checkItemsFrom cols st.shw st.items=er from by rw[her,HA.o,h2,h3,h5];rfl];have hE:=HE.o;rw[<-her] at hE;have hb:=hd hE;have ha:Below w.heap.size w w1:=(HW.o _).trans (hb1.mono (by simp));obtain⟨q1,q2⟩:=bcell hb1;have a7:=q1 w.heap.size 7 (by simp);simp[go_sem] at a7;clear hE her hb1 q1 q2;cases hz:er != 0
  case true =>
   go_wp2;go_ret;exact⟨by rw[hb.o,hz];rfl,ha⟩
  case false =>
   go_wp2_with fail;refine(jQaC cols st.wher cv _ _ (H.o.below ha) (HS.o.below ha).steps).mono ?_;rintro e w2 ⟨rfl,hb2⟩;go_wp2;go_ret;exact⟨by rw[hb.o,hz];rfl,ha.trans (hb2.mono ha.size)⟩
 have hE:Sq.check cols st=Sq.checkWhereFrom cols st.wher:=by rw[HE.o,HA.o,h2,h3,h5];rfl
 have hb:=hd hE;clear hE;go_enter Tryz.func73,Tryz.ntmps73;go_wp2_with fail;refine(jQaC cols st.wher cv _ _ (H.o.alloc _) (HS.o.below (HW.o _)).steps).mono ?_;rintro e w2 ⟨rfl,hb2⟩;go_wp2;go_ret;exact⟨by rw[hb.o];rfl,(HW.o _).trans (hb2.mono (by simp))⟩
end
section
open Go.RowKit
def BufAt (B:Nat)(w:World)(v:Value)(l:List UInt8):Prop:=w.ownsRow B 5 1 v l.length (l.map fun b=>Value.int .u8 b.toNat)
theorem BufAt.below {B:Nat}{w w':World}{v:Value}{l:List UInt8}(h:BufAt B w v l)(hb:Below w.heap.size w w'):BufAt B w' v l:=jQh h hb
theorem BufAt.slice {B:Nat}{w:World}{v:Value}{l:List UInt8}(h:BufAt B w v l):∃ao cap,v=.slice ao l.length cap:=jQa h
theorem Tryz.infoU8:(Tryz.prog.info? 5).map (fun i=>(i.zero,i.size,i.bytes))=some (some (.int .u8 0),1,1):=by kernel_rfl
theorem jQe6 (w:World)(v:Value)(l:List UInt8)(B:Nat)(h:BufAt B w v l):(convert 55 9 v).run Tryz.prog w=.ok (.string ⟨l.toArray⟩) w:=by
 rcases Nat.eq_zero_or_pos l.length with h0 | h0
 ·have hn:l=[]:=by simpa using h0
  subst hn;obtain⟨ao,cap,rfl⟩:=h.slice;refine(run_convert_bytes_string w 55 9 5 ao 0 cap Tryz.underlying55 Tryz.underlying5 Tryz.underlying9).trans ?_;cases ao<;>simp[go_sem,loadCells,Conv.bytesToString]<;>rfl
 ·obtain⟨g,cap,rfl,_,hlt⟩:=World.ownsRow.form h h0;refine run_convert_bytes_back w 55 9 5 ⟨g,0,none⟩ cap l Tryz.underlying55 Tryz.underlying5 Tryz.underlying9 fun j hj=>?_
  exact World.ownsRow.cells h (g:=g) rfl j _ (by simp[List.getElem?_eq_getElem hj])
theorem BufAt.snoc {B:Nat}{w1:World}{v':Value}{l:List UInt8}{b:UInt8}(h:w1.ownsRow B 5 1 v' (l.length+1) ((l.map fun b=>Value.int .u8 b.toNat)++[.int .u8 b.toNat])):BufAt B w1 v' (l++[b]):=by
 unfold BufAt;simpa using h
theorem BufAt.more {B:Nat}{w1:World}{v':Value}{l:List UInt8}{s:ByteArray}(h:w1.ownsRow B 5 1 v' (l.length+s.size) ((l.map fun b=>Value.int .u8 b.toNat)++Lib.strCells s)):BufAt B w1 v' (l++s.data.toList):=by
 unfold BufAt;rw[List.length_append,List.map_append,Array.length_toList];exact h
theorem jQbt {ops:Array Oper}{rest:List Oper}{o:Oper}{a:Act}{Q:Exit->Act->World->Prop}{w:World}(hgd:o.guard=none)(sl x:Operand)
  (ho:o.op=.call { callee:=.builtin .append,args:=#[sl,x],argTypes:=#[55,9] }) (B:Nat) (v:Value) (l:List UInt8) (hs:a.eval sl=v) (hb:BufAt B w v l)
  (s:ByteArray) (hx:a.eval x=.string s) (h1:l.length+s.size<=100000000000) (hB:B<=w.heap.size)
  (h:∀v' w',BufAt B w' v' (l++s.data.toList)->Below B w w'->wpList Tryz.prog ops Q rest (a.put o.dst v') w'):wpList Tryz.prog ops Q (o::rest) a w:=by
 obtain⟨i0,hi,hz0,hz1,hz2⟩:=info_parts Tryz.infoU8;refine Lib.wpList_append_own_string _ hgd sl x 55 9 ho B 5 i0 Tryz.underlying55 Tryz.underlying9 hi hz0 hz1 hz2 v l.length _ hs hb s hx (by unfold maxLen;omega) (by omega) hB ?_;intro v' w' ho' hg' _;exact h v' w' (BufAt.more ho') (Tch.of_grown hg' (fun k hk=>(World.ownsRow.lt hb k hk).1) hB)
theorem jQaa {ops:Array Oper}{rest:List Oper}{o:Oper}{a:Act}{Q:Exit->Act->World->Prop}{w:World}(hgd:o.guard=none)(sl x:Operand)
  (ho:o.op=.call { callee:=.builtin .append,args:=#[sl,x],argTypes:=#[55,55] }) (B:Nat) (v:Value) (l:List UInt8) (hs:a.eval sl=v) (hb:BufAt B w v l)
  (b:UInt8) (ad:Addr) (c:Nat) (hx:a.eval x=.slice (some ad) 1 c) (hc:w.cell? ad=some (.int .u8 b.toNat)) (h1:l.length+1<=100000000000) (hB:B<=w.heap.size)
  (h:∀v' w',BufAt B w' v' (l++[b])->Below B w w'->wpList Tryz.prog ops Q rest (a.put o.dst v') w'):wpList Tryz.prog ops Q (o::rest) a w:=by
 obtain⟨i0,hi,hz0,hz1,hz2⟩:=info_parts Tryz.infoU8
 refine wpList_append_lies _ hgd sl x 55 ho B 5 i0 _ 1 1 Tryz.underlying55 hi hz0 hz1 hz2 rfl (by decide) v l.length _ hs hb ad 1 c [.int .u8 b.toNat] hx rfl (by
  intro j u hu;cases j with
  | zero =>
   rw[show ad.add 0=ad from by unfold Addr.add;split<;>simp_all];simp at hu;subst hu;exact hc
  | succ j=>simp at hu) (by intro u hu;simp at hu;subst hu;rfl) (by decide) (by unfold maxLen;omega) (by omega) hB _ rfl ?_
 intro g cap w' ho' hg' _ _;exact h _ w' (BufAt.snoc ho') (Tch.of_grown hg' (fun k hk=>(World.ownsRow.lt hb k hk).1) hB)
end
def Sq.setRows (db:List Sq.Tab)(k:Nat)(rows:List (List Sq.Val)):List Sq.Tab:=match db[k]? with | some t=>db.set k { t with rows:=rows } | none=>db
def Sq.rowsAt (db:List Sq.Tab)(k:Nat):List (List Sq.Val):=match db[k]? with | some t=>t.rows | none=>[]
def Sq.cutRows (key:Int)(rows:List (List Sq.Val)):List (List Sq.Val):=rows.filter fun r=>Sq.keyOf r != key
def Sq.put (row:List Sq.Val):List (List Sq.Val)->List (List Sq.Val)
 | []=>[row]
 | r::q=>if Sq.keyOf r<Sq.keyOf row then r::Sq.put row q else row::Sq.cutRows (Sq.keyOf row) (r::q)
def Sq.putAll (puts:List (List Sq.Val))(rows:List (List Sq.Val)):List (List Sq.Val):=puts.foldl (fun rows r=>Sq.put r rows) rows
def Sq.cutAll (cuts:List Int)(rows:List (List Sq.Val)):List (List Sq.Val):=cuts.foldl (fun rows k=>Sq.cutRows k rows) rows
namespace Sq
theorem jQah (db:List Tab)(k:Nat):setRows db k (rowsAt db k)=db:=by
 unfold setRows rowsAt;cases h:db[k]? with
 | none=>rfl
 | some t =>
  obtain⟨hk,ht⟩:=List.getElem?_eq_some_iff.1 h;subst ht;exact List.set_getElem_self hk
theorem jQaz (db:List Tab)(k:Nat)(rows:List (List Val)):(setRows db k rows).length=db.length:=by
 unfold setRows;split<;>simp
theorem jQaM (db:List Tab)(k:Nat)(hk:k<db.length)(rows:List (List Val)):setRows db k rows=db.set k { db[k] with rows:=rows }:=by
 unfold setRows;rw[List.getElem?_eq_getElem hk]
theorem jQbD (db:List Tab)(k:Nat)(x y:List (List Val)):setRows (setRows db k x) k y=setRows db k y:=by
 by_cases hk:k<db.length
 ·have h:=jQaM (setRows db k x) k (by rw[jQaz];exact hk) y;rw[h,jQaM db k hk y];simp[jQaM db k hk x]
 ·have h:db[k]?=none:=List.getElem?_eq_none (by omega);have h2:∀x,setRows db k x=db:=fun x=>by unfold setRows;rw[h]
  rw[h2,h2]
theorem jQbh (db:List Tab)(k:Nat)(hk:k<db.length):rowsAt db k=db[k].rows:=by
 unfold rowsAt;rw[List.getElem?_eq_getElem hk]
def sorted (rows:List (List Val)):Prop:=rows.Pairwise fun r q=>keyOf r<keyOf q
theorem jQfX {k:Int}{rows:List (List Val)}{x:List Val}(h:x∈cutRows k rows):x∈rows/\keyOf x≠k:=by
 unfold cutRows at h;rw[List.mem_filter] at h;exact⟨h.1,by simpa using h.2⟩
theorem jQnd {k:Int}{rows:List (List Val)}{x:List Val}(h:x∈rows)(hk:keyOf x≠k):x∈cutRows k rows:=by
 unfold cutRows;rw[List.mem_filter];exact⟨h,by simpa using hk⟩
theorem jQeZ {k:Int}{rows:List (List Val)}(h:sorted rows):sorted (cutRows k rows):=List.Pairwise.filter _ h
theorem jQqa (k:Int)(rows:List (List Val)):(cutRows k rows).length<=rows.length:=List.length_filter_le _ _
theorem jQjP {row:List Val}:∀{rows:List (List Val)} {x:List Val},x∈put row rows->x=row\/x∈rows:=by
 intro rows
 induction rows with
 | nil=>intro x h;rw[put] at h;simpa using h
 | cons r q ih =>
  intro x h;rw[put] at h
  split at h
  ·rcases List.mem_cons.1 h with rfl | h
   ·exact Or.inr (by simp)
   ·rcases ih h with h | h
    ·exact Or.inl h
    ·exact Or.inr (by simp[h])
  ·rcases List.mem_cons.1 h with rfl | h
   ·exact Or.inl rfl
   ·exact Or.inr (jQfX h).1
theorem jQep {row:List Val}:∀{rows:List (List Val)},sorted rows->sorted (put row rows):=by
 intro rows
 induction rows with
 | nil=>intro _;rw[put];exact List.pairwise_singleton _ _
 | cons r q ih =>
  intro h;rw[put];have h':=List.pairwise_cons.1 h
  split
  ·rename_i hlt;refine List.pairwise_cons.2 ⟨?_,ih h'.2⟩;intro x hx;rcases jQjP hx with rfl | hx
   ·exact hlt
   ·exact h'.1 x hx
  ·rename_i hlt;refine List.pairwise_cons.2 ⟨?_,jQeZ h⟩;intro x hx;obtain⟨h1,h2⟩:=jQfX hx;rcases List.mem_cons.1 h1 with rfl | h1
   ·omega
   ·have:=h'.1 x h1;omega
def hasK (rows:List (List Val))(k:Int):Prop:=∃r∈rows,keyOf r=k
theorem jQqv {row:List Val}{k:Int}:∀{rows:List (List Val)},hasK rows k->hasK (put row rows) k:=by
 intro rows
 induction rows with
 | nil=>rintro⟨r,hr,_⟩;simp at hr
 | cons r q ih =>
  rintro⟨x,hx,hk⟩;rw[put]
  split
  ·rcases List.mem_cons.1 hx with rfl | hx
   ·exact⟨x,by simp,hk⟩
   ·obtain⟨y,hy,hk⟩:=ih ⟨x,hx,hk⟩;exact⟨y,by simp[hy],hk⟩
  ·by_cases he:keyOf row=k
   ·exact⟨row,by simp,he⟩
   ·exact⟨x,List.mem_cons.2 (Or.inr (jQnd hx (by omega))),hk⟩
theorem jQrs (row:List Val):∀rows:List (List Val),(put row rows).length<=rows.length+1:=by
 intro rows
 induction rows with
 | nil=>simp[put]
 | cons r q ih =>
  rw[put]
  split
  ·simp;omega
  ·have:=jQqa (keyOf row) (r::q)
   simp only[List.length_cons] at this ⊢;omega
theorem jQkY (row:List Val):∀rows:List (List Val),hasK rows (keyOf row)->(put row rows).length<=rows.length:=by
 intro rows
 induction rows with
 | nil=>rintro⟨r,hr,_⟩;simp at hr
 | cons r q ih =>
  rintro⟨x,hx,hk⟩;rw[put]
  split
  ·rename_i hlt;rcases List.mem_cons.1 hx with rfl | hx
   ·omega
   ·have:=ih ⟨x,hx,hk⟩
    simp;omega
  ·have h1:(cutRows (keyOf row) (r::q)).length<(r::q).length:=by
    unfold cutRows;rw[<-List.countP_eq_length_filter];rcases Nat.lt_or_ge (List.countP (fun r=>keyOf r != keyOf row) (r::q)) (r::q).length with h | h
    ·exact h
    ·have h2:List.countP (fun r=>keyOf r != keyOf row) (r::q)=(r::q).length:=Nat.le_antisymm (List.countP_le_length) h;rw[List.countP_eq_length] at h2
     have:=h2 x hx
     simp[hk] at this
   simp only[List.length_cons] at h1 ⊢;omega
theorem jQdp:∀(puts:List (List Val)) {rows:List (List Val)},sorted rows->sorted (putAll puts rows)
 | [],_,h=>h
 | p::r,_,h=>jQdp r (jQep (row:=p) h)
theorem jQer:∀(puts:List (List Val)) {rows:List (List Val)} {x:List Val},x∈putAll puts rows->x∈puts\/x∈rows
 | [],_,_,h=>Or.inr h
 | p::r,rows,x,h=>by
  rcases jQer r (rows:=put p rows) h with h | h
  ·exact Or.inl (by simp[h])
  ·rcases jQjP h with rfl | h
   ·exact Or.inl (by simp)
   ·exact Or.inr h
theorem jQhz:∀(puts:List (List Val)) {rows:List (List Val)},(∀p∈puts,hasK rows (keyOf p))->(putAll puts rows).length<=rows.length
 | [],_,_=>nR
 | p::r,rows,h=>by
  have h1:=jQkY p rows (h p (by simp));have h2:=jQhz r (rows:=put p rows) (fun x hx=>jQqv (h x (by simp[hx])));exact Nat.le_trans h2 h1
theorem jQdu:∀(cuts:List Int) {rows:List (List Val)},sorted rows->sorted (cutAll cuts rows)
 | [],_,h=>h
 | p::r,_,h=>jQdu r (jQeZ (k:=p) h)
theorem jQe0:∀(cuts:List Int) {rows:List (List Val)} {x:List Val},x∈cutAll cuts rows->x∈rows
 | [],_,_,h=>h
 | p::r,rows,x,h=>(jQfX (jQe0 r (rows:=cutRows p rows) h)).1
theorem jQic:∀(cuts:List Int) {rows:List (List Val)},(cutAll cuts rows).length<=rows.length
 | [],_=>nR
 | p::r,rows=>Nat.le_trans (jQic r (rows:=cutRows p rows)) (jQqa p rows)
end Sq
structure Sq.Ent where
 place:Int
 row:ByteArray
abbrev Sq.Kid:Nat->Type
 | 0=>Sq.Ent
 | n+1=>List (Sq.Kid n)
namespace Sq
def ents:(n:Nat)->List (Kid n)->List Ent
 | 0,es=>es
 | n+1,cs=>List.flatMap (ents n) cs
def least:(n:Nat)->List (Kid n)->Int
 | 0,[]=>0
 | 0,e::_=>Ent.place e
 | _+1,[]=>0
 | n+1,c::_=>least n c
def wayFrom (n:Nat)(p:Int):List (List (Kid n))->Nat->Nat->Nat
 | [],_,a=>a
 | c::r,i,a=>wayFrom n p r (i+1) (if least n c<=p then i else a)
def way (n:Nat)(cs:List (List (Kid n)))(p:Int):Nat:=wayFrom n p (cs.drop 1) 1 0
def halve {α:Type}(l:List α):List (List α):=if l.length<=4 then[l] else[l.take 3,l.drop 3]
def exch {α:Type}(l:List α)(a m:Nat)(o:List α):List α:=l.take a++o++l.drop (a+m)
def withE (es:List Ent)(e:Ent):List Ent :=
 es.takeWhile (fun x=>Decidable.decide (x.place<e.place))++e::(es.dropWhile (fun x=>Decidable.decide (x.place<e.place))).filter (fun x=>x.place != e.place)
def putO {α:Type}(cs:List (List α))(a:Nat)(f:List α->List (List α)):Option (List α)->List (List (List α))
 | none=>[cs]
 | some c=>halve (exch cs a 1 (f c))
def putT:(n:Nat)->List (Kid n)->Ent->List (List (Kid n))
 | 0,es,e=>halve (withE es e)
 | n+1,cs,e=>putO cs (way n cs e.place) (fun c=>putT n c e) ((show List (List (Kid n)) from cs)[way n cs e.place]?)
def joinK {α:Type}(cs:List (List α))(a:Nat):List (List α) :=
 match cs[if a+1==cs.length then a-1 else a]?,cs[(if a+1==cs.length then a-1 else a)+1]? with
 | some l,some r=>exch cs (if a+1==cs.length then a-1 else a) 2 (halve (l++r))
 | _,_=>cs
def mended {α:Type}(cs:List (List α))(a:Nat)(c:List α):List (List α) :=
 if c.length<2 then joinK (exch cs a 1 [c]) a else exch cs a 1 [c]
def delO {α:Type}(cs:List (List α))(a:Nat)(f:List α->List α):Option (List α)->List (List α)
 | none=>cs
 | some c=>mended cs a (f c)
def delT:(n:Nat)->List (Kid n)->Int->List (Kid n)
 | 0,es,p=>List.filter (fun x:Ent=>x.place != p) es
 | n+1,cs,p=>delO cs (way n cs p) (fun c=>delT n c p) (show List (List (Kid n)) from cs)[way n cs p]?
def hasO {α:Type}(f:List α->Bool):Option (List α)->Bool
 | none=>false
 | some c=>f c
def hasT:(n:Nat)->List (Kid n)->Int->Bool
 | 0,es,p=>List.any es (fun x:Ent=>x.place==p)
 | n+1,cs,p=>hasO (fun c=>hasT n c p) (show List (List (Kid n)) from cs)[way n cs p]?
def nextLow (n:Nat)(lo:Int):List (List (Kid n))->Bool
 | []=>true
 | d::_=>Decidable.decide (lo<least n d)
def btwL (n:Nat)(f:List (Kid n)->List Ent)(lo hi:Int):List (List (Kid n))->List Ent
 | []=>[]
 | c::r=>(if Decidable.decide (least n c<=hi)&&nextLow n lo r then f c else[])++btwL n f lo hi r
def btwT:(n:Nat)->List (Kid n)->Int->Int->List Ent
 | 0,es,lo,hi=>List.filter (fun x:Ent=>Decidable.decide (lo<=x.place)&&Decidable.decide (x.place<=hi)) es
 | n+1,cs,lo,hi=>btwL n (fun c=>btwT n c lo hi) lo hi cs
def okT:(n:Nat)->List (Kid n)->Prop
 | 0,_=>True
 | n+1,cs=>∀c:List (Kid n),c∈(show List (List (Kid n)) from cs)->2<=c.length/\okT n c
def srt (es:List Ent):Prop:=es.Pairwise fun a b=>a.place<b.place
def ins (es:List Ent)(e:Ent):List Ent:=es.filter (fun x=>Decidable.decide (x.place<e.place))++e::es.filter (fun x=>Decidable.decide (e.place<x.place))
theorem jQfV:∀(n:Nat) (a b:List (Kid n)),ents n (a++b)=ents n a++ents n b
 | 0,_,_=>rfl
 | n+1,a,b=>by
  show List.flatMap (ents n) (a++b)=List.flatMap (ents n) a++List.flatMap (ents n) b;exact List.flatMap_append
theorem jQ0 {n:Nat}{cs:List (List (Kid n))}(h:okT (n+1) cs){c:List (Kid n)}(hc:c∈cs):2<=c.length/\okT n c:=h c hc
theorem jQeu {n:Nat}{cs:List (List (Kid n))}(h:∀c∈cs,2<=c.length/\okT n c):okT (n+1) cs:=h
theorem jQpZ:∀{n:Nat} {a b:List (Kid n)},okT n b->(∀x∈a,x∈b)->okT n a
 | 0,_,_,_,_=>trivial
 | _+1,_,_,h,hs=>fun c hc=>h c (hs c hc)
theorem jQrD:∀{n:Nat} {a b:List (Kid n)},okT n a->okT n b->okT n (a++b)
 | 0,_,_,_,_=>trivial
 | _+1,_,_,ha,hb=>fun c hc=>by
  rcases List.mem_append.1 hc with h | h
  ·exact ha c h
  ·exact hb c h
theorem jQeH:∀(n:Nat) (t:List (Kid n)),okT n t->t≠[]->∃e r,ents n t=e::r/\least n t=e.place
 | 0,t,_,h=>by
  cases t with
  | nil=>exact absurd rfl h
  | cons e r=>exact⟨e,r,rfl,rfl⟩
 | n+1,t,ho,h=>by
  cases t with
  | nil=>exact absurd rfl h
  | cons c r =>
   obtain⟨h2,hc⟩:=ho c List.mem_cons_self;obtain⟨e,q,he,hl⟩:=jQeH n c hc (by intro h;subst h;simp at h2);refine⟨e,q++List.flatMap (ents n) r,?_,hl⟩;show List.flatMap (ents n) (c::r)=_;rw[List.flatMap_cons,he];rfl
theorem jQad {α:Type}{l:List α}(h:2<=l.length):l≠[]:=by intro e;subst e;simp at h
theorem jQj6 {n:Nat}{t:List (Kid n)}(ho:okT n t)(h:t≠[]):∃e∈ents n t,least n t=e.place:=by
 obtain⟨e,r,he,hl⟩:=jQeH n t ho h;exact⟨e,by rw[he];exact List.mem_cons_self,hl⟩
theorem jQnl {n:Nat}{t:List (Kid n)}(ho:okT n t)(h:t≠[])(hs:srt (ents n t)):∀e∈ents n t,least n t<=e.place:=by
 obtain⟨e,r,he,hl⟩:=jQeH n t ho h;rw[he] at hs;intro x hx;rw[he] at hx;rcases List.mem_cons.1 hx with rfl | hx
 ·omega
 ·have:=(List.pairwise_cons.1 hs).1 x hx
  omega
theorem jQdo {a b:List Ent}(h:srt (a++b)):srt a/\srt b/\∀x∈a,∀y∈b,x.place<y.place:=List.pairwise_append.1 h
theorem jQd2 (n:Nat)(p:Int):∀(r:List (List (Kid n))) (i a:Nat),
  (wayFrom n p r i a=a/\∀c∈r,p<least n c)\/∃r1 c r2,r=r1++c::r2/\wayFrom n p r i a=i+r1.length/\least n c<=p/\∀x∈r2,p<least n x
 | [],_,_=>Or.inl ⟨rfl,fun _ h=>by cases h⟩
 | c::r,i,a=>by
  rcases jQd2 n p r (i+1) (if least n c<=p then i else a) with⟨h1,h2⟩ | ⟨r1,d,r2,h1,h2,h3,h4⟩
  ·by_cases hc:least n c<=p
   ·refine Or.inr ⟨[],c,r,rfl,?_,hc,h2⟩;rw[wayFrom,h1,if_pos hc];simp
   ·refine Or.inl ⟨by rw[wayFrom,h1,if_neg hc],?_⟩;intro x hx;rcases List.mem_cons.1 hx with rfl | hx
    ·omega
    ·exact h2 x hx
  ·refine Or.inr ⟨c::r1,d,r2,by rw[h1];rfl,?_,h3,h4⟩;rw[wayFrom,h2];simp;omega
theorem jQf9 (n:Nat)(cs:List (List (Kid n)))(p:Int)(ho:okT (n+1) cs)(hne:cs≠[])(hs:srt (ents (n+1) cs)) :
  ∃pre c post,cs=pre++c::post/\way n cs p=pre.length/\(∀e∈pre.flatMap (ents n),e.place<p)/\(∀e∈post.flatMap (ents n),p<e.place):=by
 have after:∀l:List (List (Kid n)),(∀x∈l,x∈cs)->(∀x∈l,srt (ents n x))->(∀x∈l,p<least n x)->∀e∈l.flatMap (ents n),p<e.place:=by
  intro l hl hsl hp e he;obtain⟨x,hx,hex⟩:=List.mem_flatMap.1 he;obtain⟨h2,hox⟩:=jQ0 ho (hl x hx)
  have:=jQnl hox (jQad h2) (hsl x hx) e hex
  have:=hp x hx
  omega
 have each:∀x∈cs,srt (ents n x):=by
  intro x hx;obtain⟨l1,l2,rfl⟩:=List.append_of_mem hx;have h1:srt ((l1.flatMap (ents n))++((x::l2).flatMap (ents n))):=by rw[<-List.flatMap_append];exact hs
  have h2:=(jQdo h1).2.1;rw[List.flatMap_cons] at h2;exact(jQdo h2).1
 cases cs with
 | nil=>exact absurd rfl hne
 | cons c0 r =>
  rcases jQd2 n p r 1 0 with⟨h1,h2⟩ | ⟨r1,d,r2,h1,h2,h3,h4⟩
  ·exact⟨[],c0,r,rfl,h1,(fun e he=>by simp at he),after r (fun x hx=>List.mem_cons_of_mem _ hx) (fun x hx=>each x (List.mem_cons_of_mem _ hx)) h2⟩
  ·subst h1;refine⟨c0::r1,d,r2,rfl,?_,?_,after r2 (fun x hx=>by simp[hx]) (fun x hx=>each x (by simp[hx])) h4⟩
   ·show wayFrom n p (r1++d::r2) 1 0=_;rw[h2];simp;omega
   ·have hd:d∈c0::(r1++d::r2):=by simp
    obtain⟨k2,hod⟩:=jQ0 ho hd;obtain⟨z,hz,hzl⟩:=jQj6 hod (jQad k2);have h5:srt (((c0::r1).flatMap (ents n))++((d::r2).flatMap (ents n))):=by rw[<-List.flatMap_append];exact hs
    intro e he
    have:=(jQdo h5).2.2 e he z (by rw[List.flatMap_cons];exact List.mem_append_left _ hz)
    omega
theorem exch_at {α:Type}(pre post:List α)(c:α)(o:List α):exch (pre++c::post) pre.length 1 o=pre++o++post:=by
 unfold exch;rw[List.take_left,(by simp:(pre++c::post).drop (pre.length+1)=post)]
theorem jQpt {α:Type}(pre post:List α)(c:α):(pre++c::post)[pre.length]?=some c:=by simp
theorem jQeR (n:Nat)(l:List (Kid n)):(halve l).flatMap (ents n)=ents n l:=by
 unfold halve
 split
 ·simp
 ·rw[List.flatMap_cons,List.flatMap_cons,List.flatMap_nil,List.append_nil,<-jQfV,List.take_append_drop]
theorem jQnI {n:Nat}{l:List (Kid n)}(h:okT n l):∀x∈halve l,okT n x:=by
 unfold halve
 split
 ·intro x hx;rw[List.mem_singleton.1 hx];exact h
 ·intro x hx;simp only[List.mem_cons,List.not_mem_nil,or_false] at hx;rcases hx with rfl | rfl
  ·exact jQpZ h fun y hy=>List.mem_of_mem_take hy
  ·exact jQpZ h fun y hy=>List.mem_of_mem_drop hy
theorem jQgD {α:Type}{l:List α}(h:2<=l.length):∀x∈halve l,2<=x.length:=by
 unfold halve
 split
 ·intro x hx;rw[List.mem_singleton.1 hx];exact h
 ·intro x hx;simp only[List.mem_cons,List.not_mem_nil,or_false] at hx;rcases hx with rfl | rfl
  ·simp;omega
  ·simp;omega
theorem jQb2 {α:Type}(l:List α):1<=(halve l).length/\(halve l).length<=2:=by
 unfold halve;split<;>simp
theorem jQbI {l:List Ent}{q:Ent->Bool}(h:∀x∈l,q x=true):l.filter q=l:=List.filter_eq_self.2 h
theorem jQcO {l:List Ent}{q:Ent->Bool}(h:∀x∈l,q x=false):l.filter q=[]:=List.filter_eq_nil_iff.2 fun x hx=>by rw[h x hx];simp
theorem jQf7:∀(es:List Ent) (e:Ent),srt es->withE es e=ins es e
 | [],_,_=>rfl
 | x::r,e,hs=>by
  have⟨h1,h2⟩:=List.pairwise_cons.1 hs
  have ih:=jQf7 r e h2;unfold withE ins at ih ⊢
  by_cases hx:x.place<e.place
  ·simp only[List.takeWhile_cons,List.dropWhile_cons,List.filter_cons,hx,decide_true,if_true]
   have:¬(e.place<x.place):=by omega
   simp only[this,decide_false];rw[List.cons_append,ih];rfl
  ·have hr:∀y∈r,e.place<y.place:=fun y hy=>by have:=h1 y hy;omega
   simp only[List.takeWhile_cons,List.dropWhile_cons,List.filter_cons,hx,decide_false,List.nil_append];have e1:r.filter (fun x=>Decidable.decide (x.place<e.place))=[]:=jQcO fun y hy=>by have:=hr y hy;simp;omega
   have e2:r.filter (fun x=>Decidable.decide (e.place<x.place))=r:=jQbI fun y hy=>by have:=hr y hy;simpa using this
   have e3:r.filter (fun x=>x.place != e.place)=r:=jQbI fun y hy=>by have:=hr y hy;simp;omega
   simp only[e1,e2]
   by_cases hxe:x.place=e.place
   ·have hb:(x.place != e.place)=false:=by simp[hxe]
    have hc:¬(e.place<x.place):=by omega
    simp only[hc,decide_false,Bool.false_eq_true,if_false,List.filter_cons,hb,e3,List.nil_append]
   ·have hb:(x.place != e.place)=true:=by simp[hxe]
    have hc:e.place<x.place:=by omega
    simp only[hc,decide_true,Bool.false_eq_true,if_false,if_true,List.filter_cons,hb,e3,List.nil_append]
theorem jQrJ {pre mid post:List Ent}{e:Ent}(h1:∀x∈pre,x.place<e.place)(h2:∀x∈post,e.place<x.place):ins (pre++mid++post) e=pre++ins mid e++post:=by
 unfold ins;simp only[List.filter_append]
 rw[jQbI (l:=pre) (fun x hx=>by simpa using h1 x hx),jQcO (l:=post) (q:=fun x=>Decidable.decide (x.place<e.place)) (fun x hx=>by have:=h2 x hx;simp;omega),
  jQcO (l:=pre) (q:=fun x=>Decidable.decide (e.place<x.place)) (fun x hx=>by have:=h1 x hx;simp;omega),jQbI (l:=post) (fun x hx=>by simpa using h2 x hx)]
 simp
theorem jQjG {pre mid post:List Ent}(h:srt (pre++mid++post)):srt mid:=(jQdo (jQdo h).1).2.1
theorem jQhU {n:Nat}{pre post:List (List (Kid n))}{c:List (Kid n)}:ents (n+1) (pre++c::post)=pre.flatMap (ents n)++ents n c++post.flatMap (ents n):=by
 show List.flatMap (ents n) (pre++c::post)=_;rw[List.flatMap_append,List.flatMap_cons,List.append_assoc]
theorem jQmF:∀(n:Nat) (t:List (Kid n)) (e:Ent),okT n t->(n=0\/t≠[])->srt (ents n t)->(putT n t e).flatMap (ents n)=ins (ents n t) e
 | 0,t,e,_,_,hs=>by
  show(halve (withE t e)).flatMap (ents 0)=_
  rw[jQeR 0];exact jQf7 t e hs
 | n+1,cs,e,ho,hne,hs=>by
  obtain⟨pre,c,post,rfl,hw,h1,h2⟩:=jQf9 n cs e.place ho (by rcases hne with h | h;cases h;exact h) hs;obtain⟨k2,hoc⟩:=jQ0 ho (c:=c) (by simp);have hm:=jQhU (n:=n) (pre:=pre) (post:=post) (c:=c);rw[hm] at hs
  have hp:putT (n+1) (pre++c::post) e=halve (pre++putT n c e++post):=by
   show putO (pre++c::post) (way n (pre++c::post) e.place) (fun c=>putT n c e) (pre++c::post)[way n (pre++c::post) e.place]?=_;rw[hw,jQpt];exact congrArg halve (exch_at _ _ _ _)
  rw[hp];refine(jQeR (n+1) _).trans ?_;show List.flatMap (ents n) (pre++putT n c e++post)=_;rw[List.flatMap_append,List.flatMap_append,jQmF n c e hoc (Or.inr (jQad k2)) (jQjG hs),hm,jQrJ h1 h2]
theorem jQrP:∀{es:List Ent},srt es->∀p:Int,es.length<=(es.filter fun x=>x.place != p).length+1
 | [],_,_=>by simp
 | x::r,hs,p=>by
  have⟨h1,h2⟩:=List.pairwise_cons.1 hs
  by_cases hx:x.place=p
  ·have:r.filter (fun x=>x.place != p)=r:=jQbI fun y hy=>by have:=h1 y hy;simp;omega
   simp[List.filter_cons,hx,this]
  ·have:=jQrP h2 p
   simp[List.filter_cons,hx];omega
theorem jQrK {es:List Ent}(hs:srt es)(e:Ent):es.length<=(ins es e).length/\(ins es e).length<=es.length+1:=by
 induction es with
 | nil=>simp[ins]
 | cons x r ih =>
  have⟨h1,h2⟩:=List.pairwise_cons.1 hs
  have ih:=ih h2;unfold ins at ih ⊢;simp only[List.filter_cons,List.length_append,List.length_cons] at ih ⊢
  by_cases a:x.place<e.place
  ·have b:¬(e.place<x.place):=by omega
   simp only[a,b,decide_true,decide_false,if_true,List.length_cons] at ih ⊢;simp;omega
  ·by_cases b:e.place<x.place
   ·simp only[a,b,decide_true,decide_false,if_true,List.length_cons] at ih ⊢;simp;omega
   ·have e1:r.filter (fun x=>Decidable.decide (x.place<e.place))=[]:=jQcO fun y hy=>by have:=h1 y hy;simp;omega
    have e2:r.filter (fun x=>Decidable.decide (e.place<x.place))=r:=jQbI fun y hy=>by have:=h1 y hy;simp;omega
    simp[a,b,e1,e2]
theorem jQrr:∀(n:Nat) (t:List (Kid n)) (e:Ent),okT n t->(n=0\/t≠[])->srt (ents n t)->(∀x∈putT n t e,okT n x/\(2<=t.length->2<=x.length))/\1<=(putT n t e).length/\(putT n t e).length<=2
 | 0,t,e,_,_,hs=>by
  refine⟨fun x hx=>⟨trivial,fun h2=>?_⟩,jQb2 _⟩;refine jQgD ?_ x hx
  have:=(jQrK (es:=t) hs e).1
  rw[jQf7 t e hs];exact Nat.le_trans h2 this
 | n+1,cs,e,ho,hne,hs=>by
  obtain⟨pre,c,post,rfl,hw,h1,h2⟩:=jQf9 n cs e.place ho (by rcases hne with h | h;cases h;exact h) hs;obtain⟨k2,hoc⟩:=jQ0 ho (c:=c) (by simp);have hm:=jQhU (n:=n) (pre:=pre) (post:=post) (c:=c);rw[hm] at hs
  have hp:putT (n+1) (pre++c::post) e=halve (pre++putT n c e++post):=by
   show putO (pre++c::post) (way n (pre++c::post) e.place) (fun c=>putT n c e) (pre++c::post)[way n (pre++c::post) e.place]?=_;rw[hw,jQpt];exact congrArg halve (exch_at _ _ _ _)
  obtain⟨hx,hl1,hl2⟩:=jQrr n c e hoc (Or.inr (jQad k2)) (jQjG hs);rw[hp];refine⟨fun x hxm=>⟨?_,fun hc=>?_⟩,jQb2 _⟩
  ·refine jQnI (n:=n+1) ?_ x hxm;refine jQeu fun y hy=>?_
   rcases List.mem_append.1 hy with hy | hy
   ·rcases List.mem_append.1 hy with hy | hy
    ·exact jQ0 ho (by simp[hy])
    ·exact⟨(hx y hy).2 k2,(hx y hy).1⟩
   ·exact jQ0 ho (by simp[hy])
  ·refine jQgD ?_ x hxm;simp only[List.length_append,List.length_cons] at hc ⊢;have ha:1<=List.length (putT n c e):=hl1;omega
theorem jQhV {α:Type}{cs:List (List α)}{a:Nat}(ha:a<cs.length)(h2:2<=cs.length) :
  ∃pre l r post,cs=pre++l::r::post/\joinK cs a=pre++halve (l++r)++post/\(pre.length=a\/pre.length+1=a):=by
 obtain⟨b,hb⟩:∃b,b=(if a+1==cs.length then a-1 else a):=⟨_,rfl⟩
 have hf:b+1<cs.length:=by
  rw[hb]
  by_cases h:a+1=cs.length
  ·simp[h];omega
  ·simp[h];omega
 have he:b=a\/b+1=a:=by
  rw[hb]
  by_cases h:a+1=cs.length
  ·simp[h];omega
  ·simp[h]
 have hc:cs=cs.take b++cs[b]::cs[b+1]::cs.drop (b+2):=by
  conv=>lhs;rw[<-List.take_append_drop b cs,List.drop_eq_getElem_cons (by omega),List.drop_eq_getElem_cons (by omega)]
 have hl:(cs.take b).length=b:=by simp;omega
 refine⟨cs.take b,cs[b],cs[b+1],cs.drop (b+2),hc,?_,by rw[hl];exact he⟩;unfold joinK;rw[<-hb,List.getElem?_eq_getElem (by omega),List.getElem?_eq_getElem (by omega)];rfl
theorem jQqS {pre mid post:List Ent}{p:Int}(h1:∀x∈pre,x.place<p)(h2:∀x∈post,p<x.place):(pre++mid++post).filter (fun x=>x.place != p)=pre++mid.filter (fun x=>x.place != p)++post:=by
 simp only[List.filter_append];rw[jQbI (l:=pre) (fun x hx=>by have:=h1 x hx;simp;omega),jQbI (l:=post) (fun x hx=>by have:=h2 x hx;simp;omega)]
theorem jQk3 {n:Nat}{pre post:List (List (Kid n))}{c:List (Kid n)}(d:List (Kid n))(h2:2<=(pre++c::post).length) :
  ents (n+1) (mended (pre++c::post) pre.length d)=ents (n+1) (pre++d::post):=by
 unfold mended;rw[exch_at]
 split
 ·have e1:pre++[d]++post=pre++d::post:=by simp
  rw[e1];obtain⟨p,l,r,q,hc,hj,_⟩:=jQhV (cs:=pre++d::post) (a:=pre.length) (by simp) (by simpa using h2);rw[hj,hc];show List.flatMap (ents n) (p++halve (l++r)++q)=List.flatMap (ents n) (p++l::r::q);rw[List.flatMap_append,List.flatMap_append,jQeR n,jQfV,List.flatMap_append,List.flatMap_cons,List.flatMap_cons];simp
 ·have e1:pre++[d]++post=pre++d::post:=by simp
  rw[e1]
theorem jQpe {n:Nat}{pre post:List (List (Kid n))}{c:List (Kid n)}{d:List (Kid n)}(ho:okT (n+1) (pre++c::post))(hd:okT n d)(h1:1<=d.length)(h2:2<=(pre++c::post).length) :
  okT (n+1) (mended (pre++c::post) pre.length d)/\(pre++c::post).length<=(mended (pre++c::post) pre.length d).length+1:=by
 unfold mended;rw[exch_at];have e1:pre++[d]++post=pre++d::post:=by simp
 rw[e1]
 have each:∀y∈pre++d::post,okT n y/\(y=d\/2<=y.length):=by
  intro y hy;rcases List.mem_append.1 hy with hy | hy
  ·exact⟨(jQ0 ho (by simp[hy])).2,Or.inr (jQ0 ho (by simp[hy])).1⟩
  ·rcases List.mem_cons.1 hy with rfl | hy
   ·exact⟨hd,Or.inl rfl⟩
   ·exact⟨(jQ0 ho (by simp[hy])).2,Or.inr (jQ0 ho (by simp[hy])).1⟩
 split
 next hlt =>
  obtain⟨p,l,r,q,hc,hj,hpos⟩:=jQhV (cs:=pre++d::post) (a:=pre.length) (by simp) (by simpa using h2)
  have ha:(∀y∈p,2<=y.length)/\(∀y∈q,2<=y.length)/\2<=(l++r).length:=by
   rcases hpos with hp | hp
   ·have h:=List.append_inj hc (by rw[hp]);obtain⟨rfl,h⟩:=h;obtain⟨rfl,rfl⟩:=List.cons.inj h;refine⟨fun y hy=>(jQ0 ho (by simp[hy])).1,fun y hy=>(jQ0 ho (by simp[hy])).1,?_⟩
    have:=(jQ0 ho (c:=r) (by simp)).1
    rw[List.length_append];omega
   ·have hb:pre++d::post=(p++[l])++r::q:=by rw[hc];simp
    have h:=List.append_inj hb (by simp[hp]);obtain⟨rfl,h⟩:=h;obtain⟨rfl,rfl⟩:=List.cons.inj h;refine⟨fun y hy=>(jQ0 ho (by simp[hy])).1,fun y hy=>(jQ0 ho (by simp[hy])).1,?_⟩
    have:=(jQ0 ho (c:=l) (by simp)).1
    rw[List.length_append];omega
  rw[hj];rw[hc] at each;refine⟨jQeu fun y hy=>?_,?_⟩
  ·rcases List.mem_append.1 hy with hy | hy
   ·rcases List.mem_append.1 hy with hy | hy
    ·exact⟨ha.1 y hy,(each y (by simp[hy])).1⟩
    ·exact⟨jQgD ha.2.2 y hy,jQnI (jQrD (each l (by simp)).1 (each r (by simp)).1) y hy⟩
   ·exact⟨ha.2.1 y hy,(each y (by simp[hy])).1⟩
  ·have hl:=congrArg List.length hc
   have:=(jQb2 (l++r)).1
   simp only[List.length_append,List.length_cons] at hl this ⊢;omega
 next hge =>
  refine⟨jQeu fun y hy=>?_,by simp⟩;rcases(each y hy).2 with rfl | h
  ·exact⟨by omega,hd⟩
  ·exact⟨h,(each y hy).1⟩
theorem jQqZ {n:Nat}{pre post:List (List (Kid n))}{c:List (Kid n)}{p:Int}(hw:way n (pre++c::post) p=pre.length):delT (n+1) (pre++c::post) p=mended (pre++c::post) pre.length (delT n c p):=by
 show delO (pre++c::post) (way n (pre++c::post) p) (fun c=>delT n c p) (pre++c::post)[way n (pre++c::post) p]?=_;rw[hw,jQpt];rfl
theorem jQp9:∀(n:Nat) (t:List (Kid n)) (p:Int),okT n t->(n=0\/2<=t.length)->srt (ents n t) ->
  ents n (delT n t p)=(ents n t).filter (fun x=>x.place != p)/\okT n (delT n t p)/\t.length<=(delT n t p).length+1
 | 0,t,p,_,_,hs=>⟨rfl,trivial,jQrP (es:=t) hs p⟩
 | n+1,cs,p,ho,hne,hs=>by
  have hl:2<=List.length cs:=by rcases hne with h | h;cases h;exact h
  obtain⟨pre,c,post,rfl,hw,h1,h2⟩:=jQf9 n cs p ho (jQad hl) hs;obtain⟨k2,hoc⟩:=jQ0 ho (c:=c) (by simp);have hm:=jQhU (n:=n) (pre:=pre) (post:=post) (c:=c);rw[hm] at hs;obtain⟨he,hod,hdl⟩:=jQp9 n c p hoc (Or.inr k2) (jQjG hs);rw[jQqZ hw];obtain⟨m1,m2⟩:=jQpe (d:=delT n c p) ho hod (by omega) hl;refine⟨?_,m1,m2⟩;rw[jQk3 _ hl,jQhU,he,hm,jQqS h1 h2]
theorem jQp5:∀(n:Nat) (t:List (Kid n)) (p:Int),okT n t->(n=0\/t≠[])->srt (ents n t)->hasT n t p=(ents n t).any fun x=>x.place==p
 | 0,_,_,_,_,_=>rfl
 | n+1,cs,p,ho,hne,hs=>by
  obtain⟨pre,c,post,rfl,hw,h1,h2⟩:=jQf9 n cs p ho (by rcases hne with h | h;cases h;exact h) hs;obtain⟨k2,hoc⟩:=jQ0 ho (c:=c) (by simp);have hm:=jQhU (n:=n) (pre:=pre) (post:=post) (c:=c);rw[hm] at hs
  have hh:hasT (n+1) (pre++c::post) p=hasT n c p:=by
   show hasO (fun c=>hasT n c p) (pre++c::post)[way n (pre++c::post) p]?=_;rw[hw,jQpt];rfl
  rw[hh,jQp5 n c p hoc (Or.inr (jQad k2)) (jQjG hs),hm,List.any_append,List.any_append]
  have a1:(pre.flatMap (ents n)).any (fun x=>x.place==p)=false:=by
   rw[List.any_eq_false];intro x hx;have:=h1 x hx;simp;omega
  have a2:(post.flatMap (ents n)).any (fun x=>x.place==p)=false:=by
   rw[List.any_eq_false];intro x hx;have:=h2 x hx;simp;omega
  rw[a1,a2];simp
def inside (lo hi:Int)(x:Ent):Bool:=Decidable.decide (lo<=x.place)&&Decidable.decide (x.place<=hi)
theorem jQoe (n:Nat)(f:List (Kid n)->List Ent)(lo hi:Int):∀cs:List (List (Kid n)),okT (n+1) cs->srt (cs.flatMap (ents n))->(∀c∈cs,f c=(ents n c).filter (inside lo hi))->btwL n f lo hi cs=(cs.flatMap (ents n)).filter (inside lo hi)
 | [],_,_,_=>rfl
 | c::r,ho,hs,hf=>by
  obtain⟨k2,hoc⟩:=jQ0 ho (c:=c) (by simp);rw[List.flatMap_cons] at hs
  have⟨s1,s2,s3⟩:=jQdo hs
  rw[btwL,jQoe n f lo hi r (jQeu fun x hx=>jQ0 ho (by simp[hx])) s2 (fun x hx=>hf x (by simp[hx])),List.flatMap_cons,List.filter_append]
  congr 1
  split
  ·exact hf c (by simp)
  next hno =>
   symm
   refine jQcO fun x hx=>?_
   have hb:=jQnl hoc (jQad k2) s1 x hx;unfold inside
   by_cases hh:least n c<=hi
   ·cases r with
    | nil=>simp[hh,nextLow] at hno
    | cons d q =>
     obtain⟨j2,hod⟩:=jQ0 ho (c:=d) (by simp);obtain⟨z,hz,hzl⟩:=jQj6 hod (jQad j2);have ha:least n d<=lo:=by simp[hh,nextLow] at hno;omega
     have:=s3 x hx z (by rw[List.flatMap_cons];exact List.mem_append_left _ hz)
     simp;omega
   ·simp;omega
theorem jQqb:∀(n:Nat) (t:List (Kid n)) (lo hi:Int),okT n t->srt (ents n t)->btwT n t lo hi=(ents n t).filter (inside lo hi)
 | 0,_,_,_,_,_=>rfl
 | n+1,cs,lo,hi,ho,hs=>by
  refine jQoe n _ lo hi cs ho hs fun c hc=>?_
  obtain⟨k2,hoc⟩:=jQ0 ho hc;refine jQqb n c lo hi hoc ?_;obtain⟨l1,l2,rfl⟩:=List.append_of_mem hc;have h1:srt ((List.flatMap (ents n) l1)++(List.flatMap (ents n) (c::l2))):=by rw[<-List.flatMap_append];exact hs
  have h2:=(jQdo h1).2.1;rw[List.flatMap_cons] at h2;exact(jQdo h2).1
structure Tree where
 d:Nat
 t:List (Kid d)
def Tree.ents (x:Tree):List Ent:=Sq.ents x.d x.t
def tree0:Tree:=⟨0,[]⟩
def upT (n:Nat)(l:List (List (Kid n))):Tree:=match l with | [x]=>⟨n,x⟩ | l=>⟨n+1,l⟩
def Tree.put (x:Tree)(e:Ent):Tree:=upT x.d (putT x.d x.t e)
def downT:(n:Nat)->List (Kid n)->Tree
 | 0,l=>⟨0,l⟩
 | n+1,l=>match l with | [x]=>⟨n,x⟩ | l=>⟨n+1,l⟩
def Tree.del (x:Tree)(p:Int):Tree:=downT x.d (delT x.d x.t p)
structure Tree.ok (x:Tree):Prop where
 kids:okT x.d x.t
 two:x.d=0\/2<=x.t.length
 sorted:srt x.ents
theorem Tree.ok.ne {x:Tree}(h:x.ok):x.d=0\/x.t≠[]:=h.two.imp id jQad
theorem jQme {es:List Ent}(hs:srt es)(e:Ent):srt (ins es e):=by
 unfold ins srt;rw[List.pairwise_append];refine⟨List.Pairwise.filter _ hs,?_,?_⟩
 ·rw[List.pairwise_cons];exact⟨fun x hx=>by simpa using(List.mem_filter.1 hx).2,List.Pairwise.filter _ hs⟩
 ·intro a ha b hb;have h1:a.place<e.place:=by simpa using(List.mem_filter.1 ha).2
  rcases List.mem_cons.1 hb with rfl | hb
  ·exact h1
  ·have h2:e.place<b.place:=by simpa using(List.mem_filter.1 hb).2
   omega
theorem jQqw:∀(n:Nat) (t:List (Kid n)) (e:Ent),∃q:List (Kid n),putT n t e=Sq.halve q\/putT n t e=[t]
 | 0,_,_=>⟨_,Or.inl rfl⟩
 | n+1,t,e=>by
  show ∃q:List (Kid (n+1)),putO t (way n t e.place) (fun c=>putT n c e) (show List (List (Kid n)) from t)[way n t e.place]?=Sq.halve q\/putO t (way n t e.place) (fun c=>putT n c e) (show List (List (Kid n)) from t)[way n t e.place]?=[t];cases (show List (List (Kid n)) from t)[way n t e.place]? with
  | none=>exact⟨[],Or.inr rfl⟩
  | some c=>exact⟨_,Or.inl rfl⟩
theorem jQqu {x:Tree}(h:x.ok)(e:Ent):(x.put e).ok/\(x.put e).ents=ins x.ents e:=by
 have hp:=jQmF x.d x.t e h.kids h.ne h.sorted;obtain⟨hx,h1,h2⟩:=jQrr x.d x.t e h.kids h.ne h.sorted;have hb:=jQme h.sorted e;unfold Tree.put upT;obtain⟨l,hl⟩:∃l,l=putT x.d x.t e:=⟨_,rfl⟩;rw[<-hl] at hp hx h1 h2 ⊢
 match l,hl,hp,hx,h1,h2 with
 | [],_,_,_,h1,_=>simp at h1
 | [y],hl,hp,hx,_,_ =>
  have he:(⟨x.d,y⟩:Tree).ents=ins x.ents e:=by
   rw[<-(show _=ins x.ents e from hp)];show Sq.ents x.d y=_;simp
  refine⟨⟨(hx y (by simp)).1,?_,?_⟩,he⟩
  ·rcases h.two with h | h
   ·exact Or.inl h
   ·exact Or.inr ((hx y (by simp)).2 h)
  ·rw[he];exact hb
 | y::z::r,hl,hp,hx,_,h2 =>
  have he:(⟨x.d+1,y::z::r⟩:Tree).ents=ins x.ents e:=hp
  have ha:∀u∈y::z::r,2<=u.length:=by
   -- two parts: they come of five entries
   intro u hu;have h5:=jQqw x.d x.t e;obtain⟨q,hq | hq⟩:=h5
   ·rw[hq] at hl;unfold Sq.halve at hl
    split at hl
    ·cases hl
    ·cases hl;simp only[List.mem_cons,List.not_mem_nil,or_false] at hu;rcases hu with rfl | rfl
     ·simp;omega
     ·simp;omega
   ·rw[hq] at hl;cases hl
  refine⟨⟨jQeu fun u hu=>⟨ha u hu,(hx u hu).1⟩,Or.inr (by simp),?_⟩,he⟩;rw[he];exact hb
theorem jQqY {x:Tree}(h:x.ok)(p:Int):(x.del p).ok/\(x.del p).ents=x.ents.filter (fun y=>y.place != p):=by
 obtain⟨d,t⟩:=x;obtain⟨he,ho,hl⟩:=jQp9 d t p h.kids h.two h.sorted;have hs:srt ((Sq.ents d t).filter (fun y=>y.place != p)):=List.Pairwise.filter _ h.sorted;cases d with
 | zero=>exact⟨⟨trivial,Or.inl rfl,hs⟩,he⟩
 | succ n =>
  have h2:2<=t.length:=by rcases h.two with h | h;cases h;exact h
  show(match delT (n+1) t p with | [x]=>(⟨n,x⟩:Tree) | l=>⟨n+1,l⟩).ok/\(match delT (n+1) t p with | [x]=>(⟨n,x⟩:Tree) | l=>⟨n+1,l⟩).ents=_
  obtain⟨l,hq⟩:∃l,l=delT (n+1) t p:=⟨_,rfl⟩;rw[<-hq] at he ho hl ⊢
  match l,he,ho,hl with
  | [],_,_,hl=>simp at hl;omega
  | [y],he,ho,_ =>
   have hy:=jQ0 (n:=n) (cs:=[y]) ho (c:=y) (by simp)
   have ha:(⟨n,y⟩:Tree).ents=(Sq.ents (n+1) t).filter (fun y=>y.place != p):=by
    rw[<-he];show Sq.ents n y=List.flatMap (Sq.ents n) [y];simp
   exact⟨⟨hy.2,Or.inr hy.1,by rw[ha];exact hs⟩,ha⟩
  | y::z::r,he,ho,_=>exact⟨⟨ho,Or.inr (by simp),by rw[show(⟨n+1,y::z::r⟩:Tree).ents=_ from he];exact hs⟩,he⟩
theorem jQqj:tree0.ok:=⟨trivial,Or.inl rfl,List.Pairwise.nil⟩
end Sq
namespace Sq
def lowB:Nat->Int->List UInt8
 | 0,_=>[]
 | k+1,n=>UInt8.ofNat (n % 256).toNat::lowB k (n / 256)
def pnum (n:Int)(k:Nat):ByteArray:=⟨(lowB k n).reverse.toArray⟩
def txt (t:ByteArray):ByteArray:=pnum t.size 1++t
structure Rd where
 rest:ByteArray
 short:Bool
def takeBad (r:Rd)(k:Int):Bool:=Decidable.decide (k<0) || Decidable.decide ((r.rest.size:Int)<k) || r.short
def takeV (r:Rd)(k:Int):ByteArray:=if takeBad r k then nobytes else r.rest.extract 0 k.toNat
def takeN (r:Rd)(k:Int):Rd:=if takeBad r k then⟨r.rest,true⟩ else⟨r.rest.extract k.toNat r.rest.size,r.short⟩
def big (l:List UInt8):Int:=l.foldl (fun n b=>n*256+(b.toNat:Int)) 0
def numV (r:Rd)(k:Int):Int:=big (takeV r k).data.toList
def txtV (r:Rd):ByteArray:=takeV (takeN r 1) (numV r 1)
def txtN (r:Rd):Rd:=takeN (takeN r 1) (numV r 1)
def doneR (r:Rd):Bool:=r.rest.toList.isEmpty && !r.short
def isNm (n:ByteArray):Bool:=Decidable.decide (1<=n.size)&&Decidable.decide (n.size<=8)
def colV (r:Rd):Col:=⟨txtV (takeN r 1),numV r 1⟩
def colN (r:Rd):Rd:=txtN (takeN r 1)
def colGood (c:Col)(i:Nat):Bool:=isNm c.name&&(c.kind==0 || (c.kind==1&&Decidable.decide (0<i)))
structure ColsR where
 cols:List Col
 rd:Rd
 good:Bool
def colsR:Nat->Nat->Rd->List Col->ColsR
 | 0,_,r,acc=>⟨acc,r,true⟩
 | f+1,i,r,acc=>if colGood (colV r) i then colsR f (i+1) (colN r) (acc++[colV r]) else⟨acc++[colV r],colN r,false⟩
def tabHead (row:ByteArray):ByteArray×Int×Rd:=(txtV ⟨row,false⟩,numV (txtN ⟨row,false⟩) 1,takeN (txtN ⟨row,false⟩) 1)
def tabGood (row:ByteArray):Bool:=isNm (tabHead row).1&&Decidable.decide (1<=(tabHead row).2.1)&&Decidable.decide ((tabHead row).2.1<=4)
def tabCols (row:ByteArray):ColsR:=if tabGood row then colsR (tabHead row).2.1.toNat 0 (tabHead row).2.2 [] else⟨[],(tabHead row).2.2,false⟩
def toTable (row:ByteArray):Option (ByteArray×List Col):=if(tabCols row).good&&doneR (tabCols row).rd then some ((tabHead row).1,(tabCols row).cols) else none
structure CellsR where
 cells:List Val
 rd:Rd
 good:Bool
def cellStep (c:Col)(x:CellsR):CellsR :=
 if c.kind==1 then⟨x.cells++[⟨1,0,txtV x.rd⟩],txtN x.rd,x.good&&Decidable.decide ((txtV x.rd).size<=12)⟩
 else⟨x.cells++[⟨0,numV x.rd 4-2147483648,nobytes⟩],takeN x.rd 4,x.good⟩
def cellsR (cols:List Col)(x:CellsR):CellsR:=cols.foldl (fun x c=>cellStep c x) x
def rowCells (cols:List Col)(key:Int)(row:ByteArray):CellsR:=cellsR (cols.drop 1) ⟨[⟨0,key,nobytes⟩],⟨row,false⟩,true⟩
def toCells (cols:List Col)(key:Int)(row:ByteArray):Option (List Val):=if(rowCells cols key row).good&&doneR (rowCells cols key row).rd then some (rowCells cols key row).cells else none
def ofCol (c:Col):ByteArray:=pnum c.kind 1++txt c.name
def ofCols (b:ByteArray)(cols:List Col):ByteArray:=cols.foldl (fun b c=>b++ofCol c) b
def ofTable (name:ByteArray)(cols:List Col):ByteArray:=ofCols (txt name++pnum cols.length 1) cols
def ofVal (v:Val):ByteArray:=if v.kind==1 then txt v.text else pnum (v.number+2147483648) 4
def ofVals (b:ByteArray)(l:List Val):ByteArray:=l.foldl (fun b v=>b++ofVal v) b
def ofCells (l:List Val):ByteArray:=ofVals nobytes (l.drop 1)
def placeOf (t k:Int):Int:=t*4294967296+k+2147483648
def keyAt (p:Int):Int:=p % 4294967296-2147483648
structure TabN where
 number:Int
 name:ByteArray
 cols:List Col
def tabOf (e:Ent):Option TabN:=(toTable e.row).map fun x=>⟨keyAt e.place,x.1,x.2⟩
def rowOf (cols:List Col)(e:Ent):Option (List Val):=toCells cols (keyAt e.place) e.row
theorem jQni:∀(k:Nat) (n:Int),(lowB k n).length=k
 | 0,_=>rfl
 | k+1,n=>by rw[lowB,List.length_cons,jQni k]
theorem jQt (n:Int)(k:Nat):(pnum n k).size=k:=by
 show(lowB k n).reverse.toArray.size=k
 simp[jQni]
theorem jQcc (t:ByteArray):(txt t).size=t.size+1:=by
 unfold txt;rw[ByteArray.size_append,jQt];omega
theorem jQaK (r:Rd)(k:Int):(takeV r k).size<=r.rest.size/\(takeV r k).size<=k.toNat:=by
 unfold takeV
 split
 ·exact⟨zR,zR⟩
 ·simp only[ByteArray.size_extract];omega
theorem jQp (r:Rd)(k:Int):(takeN r k).rest.size<=r.rest.size:=by
 unfold takeN
 split
 ·exact nR
 ·simp only[ByteArray.size_extract];omega
theorem jQbP (r:Rd):(txtN r).rest.size<=r.rest.size:=Nat.le_trans (jQp _ _) (jQp _ _)
theorem jQco (r:Rd):(txtV r).size<=r.rest.size:=Nat.le_trans (jQaK _ _).1 (jQp _ _)
theorem jQrU:∀(l:List UInt8) (a:Int) (m:Nat),0<=a->a<(256:Int)^m->0<=l.foldl (fun n b=>n*256+(b.toNat:Int)) a/\l.foldl (fun n b=>n*256+(b.toNat:Int)) a<(256:Int)^(m+l.length)
 | [],a,m,h0,h1=>⟨h0,by simpa using h1⟩
 | b::l,a,m,h0,h1=>by
  have hb:=b.toNat_lt
  have:=jQrU l (a*256+(b.toNat:Int)) (m+1) (by omega) (by rw[Int.pow_succ];omega)
  rw[List.foldl_cons,List.length_cons,show m+(l.length+1)=m+1+l.length by omega];exact this
theorem jQly (l:List UInt8):0<=big l/\big l<(256:Int)^l.length:=by
 have:=jQrU l 0 0 (by omega) (by decide)
 simpa[big] using this
theorem jQrE (r:Rd)(k:Nat)(hk:k<=4):0<=numV r k/\numV r k<4294967296/\(k=1->numV r k<256):=by
 have h:=jQly (takeV r k).data.toList;have hs:=(jQaK r k).2
 have hl:(takeV r k).data.toList.length<=k:=by
  have:(takeV r k).data.toList.length=(takeV r k).size:=Array.length_toList
  rw[this];rw[Int.toNat_natCast] at hs;exact hs
 unfold numV
 have mono:∀a b:Nat,a<=b->(256:Int)^a<=(256:Int)^b:=fun a b hab=>by
  have:=Nat.pow_le_pow_right (n:=256) (by decide) hab
  have e:∀m:Nat,(256:Int)^m=((256^m:Nat):Int):=fun m=>by simp
  rw[e,e];exact Int.ofNat_le.2 this
 have h4:=mono _ 4 (Nat.le_trans hl hk);refine⟨h.1,?_,fun h1=>?_⟩
 ·have:(256:Int)^4=4294967296:=by decide
  omega
 ·subst h1;have h5:=mono _ 1 hl
  have:(256:Int)^1=256:=by decide
  omega
theorem jQkt:∀(f i:Nat) (r:Rd) (acc:List Col),(colsR f i r acc).cols.length<=acc.length+f
 | 0,_,_,_=>nR
 | f+1,i,r,acc=>by
  rw[colsR]
  split
  ·have:=jQkt f (i+1) (colN r) (acc++[colV r])
   simp at this;omega
  ·simp
theorem jQkN (row:ByteArray):(tabCols row).cols.length<=4:=by
 unfold tabCols
 split
 ·rename_i h
  have:=jQkt (tabHead row).2.1.toNat 0 (tabHead row).2.2 []
  unfold tabGood at h;simp at h;simp at this;omega
 ·simp
theorem jQd6 {row:ByteArray}{x:ByteArray×List Col}(h:toTable row=some x):x.2.length<=4:=by
 unfold toTable at h
 split at h
 ·cases h;exact jQkN row
 ·cases h
theorem jQif:∀(cols:List Col) (x:CellsR),(cellsR cols x).cells.length=x.cells.length+cols.length
 | [],_=>rfl
 | c::q,x=>by
  have:=jQif q (cellStep c x)
  unfold cellsR at this ⊢;rw[List.foldl_cons,this];unfold cellStep
  split<;>simp<;>omega
theorem jQkw:∀(cols:List Col) (x:CellsR),x.rd.rest.size<=1000->(∀v∈x.cells,v.text.size<=1000/\-100000000000<=v.number/\v.number<=100000000000)->∀v∈(cellsR cols x).cells,v.text.size<=1000/\-100000000000<=v.number/\v.number<=100000000000
 | [],_,_,h=>h
 | c::q,x,hs,h=>by
  have:=jQkw q (cellStep c x)
  unfold cellsR at this ⊢;rw[List.foldl_cons];refine this ?_ ?_
  ·unfold cellStep
   split
   ·exact Nat.le_trans (jQbP _) hs
   ·exact Nat.le_trans (jQp _ _) hs
  ·unfold cellStep
   split
   ·intro v hv;rcases List.mem_append.1 hv with hv | hv
    ·exact h v hv
    ·rw[List.mem_singleton.1 hv];exact⟨Nat.le_trans (jQco _) hs,by show(-100000000000:Int)<=0;decide,by show(0:Int)<=100000000000;decide⟩
   ·intro v hv;rcases List.mem_append.1 hv with hv | hv
    ·exact h v hv
    ·rw[List.mem_singleton.1 hv]
     have:=jQrE x.rd 4 (nR)
     refine⟨by show nobytes.size<=1000;decide,?_,?_⟩
     ·show(-100000000000:Int)<=numV x.rd 4-2147483648
      have h1:0<=numV x.rd 4:=this.1;omega
     ·show numV x.rd 4-2147483648<=100000000000;have h1:numV x.rd 4<4294967296:=this.2.1;omega
end Sq
end Go.Proofs.YtahpihjialbanaaGreatDoor
