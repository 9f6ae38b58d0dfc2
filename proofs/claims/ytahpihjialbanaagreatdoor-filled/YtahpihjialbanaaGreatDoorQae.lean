import Derived.Laws.CopyOwn
import Derived.Lib.ItoaNum
import Derived.Test.YtahpihjialbanaaGreatDoorQad
set_option linter.unusedVariables false
set_option linter.unusedSimpArgs false
set_option maxRecDepth 100000
set_option maxHeartbeats 1000000
namespace Go.Proofs.YtahpihjialbanaaGreatDoor
section
open Go.RowKit
theorem jQcI (s:Sq.StepS)(w:World) :
  Calls Tryz.prog 151 #[.agg s.cells.toArray] w fun e w'=>e=.returned (.bool (Sq.isComparison s.op))∧Below w.heap.size w w':=by
 obtain⟨op,⟨lc,⟨lk,ln,lt⟩⟩,⟨rc,⟨rk,rn,rt⟩⟩⟩:=s
 unfold Sq.StepS.cells
 go_enter Tryz.func151,Tryz.ntmps151
 go_wp2_with (go_at_call 194;refine(jQa3 _ _).mono ?_;rintro e w' ⟨rfl,rfl⟩)
 go_ret
 exact⟨rfl,(Below.refl _ _).alloc (Nat.le_refl _) _⟩
theorem Sq.jQfi (cols:List Sq.Col)(l:List Sq.StepS)(k:Nat)(h:k < l.length):Sq.checkWhereFrom cols (l.drop k)=if !Sq.isComparison l[k].op then Sq.checkWhereFrom cols (l.drop (k+1)) else if !(Sq.kindOf cols l[k].left).2 then 4 else if !(Sq.kindOf cols l[k].right).2 then 4 else if(Sq.kindOf cols l[k].left).1 != (Sq.kindOf cols l[k].right).1 then 7 else Sq.checkWhereFrom cols (l.drop (k+1)):=by
 rw[List.drop_eq_getElem_cons h,Sq.checkWhereFrom]
def StepsAt (w:World)(v:Value)(l:List Sq.StepS):Prop:=w.ownsRow 0 217 9 v l.length (l.flatMap Sq.StepS.cells)∧l.length≤100000
theorem StepsAt.below {w w':World}{v:Value}{l:List Sq.StepS}(h:StepsAt w v l)(hb:Below w.heap.size w w'):StepsAt w' v l:=⟨jQh h.1 hb,h.2⟩
theorem StmAt.steps {w:World}{st:Sq.PSt}{r:Rw}(h:StmAt w st r):StepsAt w r.wv st.wher:=⟨h.wher,h.nwher⟩
theorem jQaQ (cols:List Sq.Col)(l:List Sq.StepS)(cv sv:Value)(w:World)(h:ColsAt w cv cols)(hs:StepsAt w sv l) :
  Calls Tryz.prog 113 #[cv,sv] w fun e w'=>e=.returned (.int .i64 (Sq.checkWhereFrom cols l))∧Below w.heap.size w w':=by
 obtain⟨bo,bap,rfl⟩:=jQa hs.1
 have hl:=hs.2
 have H:=hd h
 have HS:=hd hs
 clear h hs
 go_enter Tryz.func113,Tryz.ntmps113
 go_wp2
 go_loopw [5] (fun i wr=>∃k:Nat,k≤l.length∧i=.int .i64 k∧Below w.heap.size w wr∧Hid (Sq.checkWhereFrom cols l=Sq.checkWhereFrom cols (l.drop k))) (fun i _=>l.length - (intOf i).toNat)
 case atStart=>exact⟨0,Nat.zero_le _,rfl,Below.refl _ _,rfl⟩
 case round =>
  obtain⟨k,hk,rfl,hb,hr⟩:=hrel
  by_cases hlt:k < l.length
  ·obtain⟨x,hx⟩:∃x,x=l[k]:=⟨_,rfl⟩
   have HX:=hd hx
   have cells:∀W,Below w.heap.size w W→∃g,bo=some ⟨g,0,none⟩∧g < W.heap.size∧∀j u,j < 9→x.cells[j]?=some u→W.cell? ⟨g,k * 9+j,none⟩=some u:=by
    intro W hW
    obtain⟨g,cap',hv,hg,hc⟩:=sl_at (f:=Sq.StepS.cells) (fun _=>rfl) (HS.out.below hW).1 k hlt
    simp only[Value.slice.injEq] at hv
    exact⟨g,hv.1,hg,by rw[hx];exact hc⟩
   have HC:=hd cells
   have HST:=hd (Sq.jQfi cols l k hlt)
   have hst:=HST.out
   rw[←hx] at hst
   have HST2:=hd hst
   clear hst HST cells hx
   obtain⟨g,hbo,hg,hc⟩:=HC.out wr hb
   subst hbo
   obtain⟨op,⟨lc,⟨lk,ln,lt⟩⟩,⟨rc,⟨rk,rn,rt⟩⟩⟩:=x
   have c0:=hc 0 _ (by decide) rfl
   have c1:=hc 1 _ (by decide) rfl
   have c2:=hc 2 _ (by decide) rfl
   have c3:=hc 3 _ (by decide) rfl
   have c4:=hc 4 _ (by decide) rfl
   have c5:=hc 5 _ (by decide) rfl
   have c6:=hc 6 _ (by decide) rfl
   have c7:=hc 7 _ (by decide) rfl
   have c8:=hc 8 _ (by decide) rfl
   simp only[Nat.add_zero] at c0
   clear hc
   go_wp2_with fail
   refine(jQcI ⟨op,⟨lc,⟨lk,ln,lt⟩⟩,⟨rc,⟨rk,rn,rt⟩⟩⟩ _).mono ?_
   rintro e w1 ⟨rfl,hb1⟩
   have hbw1:Below w.heap.size w w1:=hb.trans (hb1.mono hb.size)
   clear hb1 c0 c1 c2 c3 c4 c5 c6 c7 c8
   obtain⟨g',hg',hg1,hc⟩:=HC.out w1 hbw1
   have hgg:g=g':=by simpa using hg'
   subst hgg
   have c1:=hc 1 _ (by decide) rfl
   have c2:=hc 2 _ (by decide) rfl
   have c3:=hc 3 _ (by decide) rfl
   have c4:=hc 4 _ (by decide) rfl
   clear hc hg'
   have hst:=HST2.out
   obtain⟨k1,hk1⟩:∃x,x=Sq.kindOf cols ⟨lc,⟨lk,ln,lt⟩⟩:=⟨_,rfl⟩
   obtain⟨k2,hk2⟩:∃x,x=Sq.kindOf cols ⟨rc,⟨rk,rn,rt⟩⟩:=⟨_,rfl⟩
   rw[←hk1,←hk2] at hst
   have HST3:=hd hst
   have HK1:=hd hk1
   have HK2:=hd hk2
   clear hst HST2 hk1 hk2
   cases hc:Sq.isComparison op
   case false =>
    have HR:Hid (Sq.checkWhereFrom cols l=Sq.checkWhereFrom cols (l.drop (k+1))):=by show _=_;rw[hr.out,HST3.out,hc];rfl
    clear hr HST3
    go_wp2
    go_roundw
    case rel=>exact⟨k+1,by omega,by go_num,hbw1,HR⟩
    case measure=>simp[intOf];omega
   go_wp2_with fail
   refine(jQcY cols cv ⟨lc,⟨lk,ln,lt⟩⟩ _ (H.out.below hbw1)).mono ?_
   rintro e w2 ⟨rfl,hb2⟩
   rw[←HK1.out]
   have hbw2:Below w.heap.size w w2:=hbw1.trans (hb2.mono hbw1.size)
   clear hb2 c1 c2 c3 c4
   obtain⟨g',hg',hg2,hc9⟩:=HC.out w2 hbw2
   have hgg:g=g':=by simpa using hg'
   subst hgg
   have c5:=hc9 5 _ (by decide) rfl
   have c6:=hc9 6 _ (by decide) rfl
   have c7:=hc9 7 _ (by decide) rfl
   have c8:=hc9 8 _ (by decide) rfl
   clear hc9 hg'
   obtain⟨k1a,k1b⟩:=k1
   obtain⟨k2a,k2b⟩:=k2
   cases k1b
   case false =>
    have HR:Hid (Sq.checkWhereFrom cols l=4):=by show _=_;rw[hr.out,HST3.out,hc];rfl
    go_wp2
    go_ret
    exact⟨by rw[HR.out];rfl,hbw2⟩
   go_wp2_with fail
   refine(jQcY cols cv ⟨rc,⟨rk,rn,rt⟩⟩ _ (H.out.below hbw2)).mono ?_
   rintro e w3 ⟨rfl,hb3⟩
   rw[←HK2.out]
   have hbw3:Below w.heap.size w w3:=hbw2.trans (hb3.mono hbw2.size)
   clear hb3 c5 c6 c7 c8
   cases k2b
   case false =>
    have HR:Hid (Sq.checkWhereFrom cols l=4):=by show _=_;rw[hr.out,HST3.out,hc];rfl
    go_wp2
    go_ret
    exact⟨by rw[HR.out];rfl,hbw3⟩
   cases hn:k1a != k2a
   case true =>
    have HR:Hid (Sq.checkWhereFrom cols l=7):=by show _=_;rw[hr.out,HST3.out,hc];simp only[hn];rfl
    go_wp2
    go_ret
    exact⟨by rw[HR.out];rfl,hbw3⟩
   case false =>
    have HR:Hid (Sq.checkWhereFrom cols l=Sq.checkWhereFrom cols (l.drop (k+1))):=by show _=_;rw[hr.out,HST3.out,hc];simp only[hn];rfl
    clear hr HST3
    go_wp2
    go_roundw
    case rel=>exact⟨k+1,by omega,by go_num,hbw3,HR⟩
    case measure=>simp[intOf];omega
  ·have HR:Hid (Sq.checkWhereFrom cols l=0):=by show _=_;rw[hr.out,List.drop_eq_nil_of_le (by omega)];rfl
   clear hr
   go_wp2
   go_ret
   exact⟨by rw[HR.out];rfl,hb⟩
theorem jQpv (cols:List Sq.Col)(cv:Value)(st:Sq.PSt)(r:Rw)(w:World)(h:ColsAt w cv cols)(hs:StmAt w st r) :
  Calls Tryz.prog 73 #[cv,.agg (stmCells st r)] w fun e w'=>e=.returned (.int .i64 (Sq.check cols st))∧Below w.heap.size w w':=by
 obtain⟨cvx,vvx,svx,ivx,wvx⟩:=r
 obtain⟨q5,c5,hcv⟩:=jQa hs.cols.1
 obtain⟨q6,c6,hvv⟩:=jQa hs.vals
 obtain⟨q7,c7,hsv⟩:=jQa hs.sets.1
 obtain⟨q9,c9,hiv⟩:=jQa hs.items.1
 obtain⟨q10,c10,hwv⟩:=jQa hs.wher
 dsimp only at hcv hvv hsv hiv hwv
 subst hcv hvv hsv hiv hwv
 unfold stmCells
 have hW:∀o,Below w.heap.size w (w.alloc o):=fun o=>(Below.refl _ _).alloc (Nat.le_refl _) _
 have HW:=hd hW
 have H:=hd h
 have HS:=hd hs
 have HE:Hid (Sq.check cols st=if Sq.checkAct cols st != 0 then Sq.checkAct cols st else Sq.checkWhereFrom cols st.wher):=rfl
 have HA:Hid (Sq.checkAct cols st=if st.act==2 then Sq.checkValues cols st.vals else if st.act==3 then Sq.checkSets cols st.sets else if st.act==5 then Sq.checkItemsFrom cols st.shw st.items else 0):=rfl
 clear h hs hW
 cases h2:st.act==2
 case true =>
  go_enter Tryz.func73,Tryz.ntmps73
  go_wp2_with fail
  refine(jQfj cols st.vals cv _ _ (H.out.alloc _) (HS.out.below (HW.out _)).vals HS.out.nvals).mono ?_
  rintro e w1 ⟨rfl,hb1⟩
  obtain⟨er,her⟩:∃x,x=Sq.checkAct cols st:=⟨_,rfl⟩
  rw[show Sq.checkValues cols st.vals=er from by rw[her,HA.out,h2];rfl]
  have hE:=HE.out
  rw[←her] at hE
  have HE2:=hd hE
  have hbw:Below w.heap.size w w1:=(HW.out _).trans (hb1.mono (by simp))
  obtain⟨q1,q2⟩:=bcell hb1
  have a7:=q1 w.heap.size 7 (by simp)
  simp[go_sem] at a7
  clear hE her hb1 q1 q2
  cases hz:er != 0
  case true =>
   go_wp2
   go_ret
   exact⟨by rw[HE2.out,hz];rfl,hbw⟩
  case false =>
   go_wp2_with fail
   refine(jQaQ cols st.wher cv _ _ (H.out.below hbw) (HS.out.below hbw).steps).mono ?_
   rintro e w2 ⟨rfl,hb2⟩
   go_wp2
   go_ret
   exact⟨by rw[HE2.out,hz];rfl,hbw.trans (hb2.mono hbw.size)⟩
 cases h3:st.act==3
 case true =>
  go_enter Tryz.func73,Tryz.ntmps73
  go_wp2_with fail
  refine(jQhR cols st.sets cv _ _ (H.out.alloc _) (HS.out.below (HW.out _)).sets).mono ?_
  rintro e w1 ⟨rfl,hb1⟩
  obtain⟨er,her⟩:∃x,x=Sq.checkAct cols st:=⟨_,rfl⟩
  rw[show Sq.checkSets cols st.sets=er from by rw[her,HA.out,h2,h3];rfl]
  have hE:=HE.out
  rw[←her] at hE
  have HE2:=hd hE
  have hbw:Below w.heap.size w w1:=(HW.out _).trans (hb1.mono (by simp))
  obtain⟨q1,q2⟩:=bcell hb1
  have a7:=q1 w.heap.size 7 (by simp)
  simp[go_sem] at a7
  clear hE her hb1 q1 q2
  cases hz:er != 0
  case true =>
   go_wp2
   go_ret
   exact⟨by rw[HE2.out,hz];rfl,hbw⟩
  case false =>
   go_wp2_with fail
   refine(jQaQ cols st.wher cv _ _ (H.out.below hbw) (HS.out.below hbw).steps).mono ?_
   rintro e w2 ⟨rfl,hb2⟩
   go_wp2
   go_ret
   exact⟨by rw[HE2.out,hz];rfl,hbw.trans (hb2.mono hbw.size)⟩
 cases h5:st.act==5
 case true =>
  go_enter Tryz.func73,Tryz.ntmps73
  go_wp2_with fail
  refine(jQgJ cols cv st _ _ (H.out.alloc _) (HS.out.below (HW.out _))).mono ?_
  rintro e w1 ⟨rfl,hb1⟩
  obtain⟨er,her⟩:∃x,x=Sq.checkAct cols st:=⟨_,rfl⟩
  rw[show Sq.checkItemsFrom cols st.shw st.items=er from by rw[her,HA.out,h2,h3,h5];rfl]
  have hE:=HE.out
  rw[←her] at hE
  have HE2:=hd hE
  have hbw:Below w.heap.size w w1:=(HW.out _).trans (hb1.mono (by simp))
  obtain⟨q1,q2⟩:=bcell hb1
  have a7:=q1 w.heap.size 7 (by simp)
  simp[go_sem] at a7
  clear hE her hb1 q1 q2
  cases hz:er != 0
  case true =>
   go_wp2
   go_ret
   exact⟨by rw[HE2.out,hz];rfl,hbw⟩
  case false =>
   go_wp2_with fail
   refine(jQaQ cols st.wher cv _ _ (H.out.below hbw) (HS.out.below hbw).steps).mono ?_
   rintro e w2 ⟨rfl,hb2⟩
   go_wp2
   go_ret
   exact⟨by rw[HE2.out,hz];rfl,hbw.trans (hb2.mono hbw.size)⟩
 have hE:Sq.check cols st=Sq.checkWhereFrom cols st.wher:=by rw[HE.out,HA.out,h2,h3,h5];rfl
 have HE2:=hd hE
 clear hE
 go_enter Tryz.func73,Tryz.ntmps73
 go_wp2_with fail
 refine(jQaQ cols st.wher cv _ _ (H.out.alloc _) (HS.out.below (HW.out _)).steps).mono ?_
 rintro e w2 ⟨rfl,hb2⟩
 go_wp2
 go_ret
 exact⟨by rw[HE2.out];rfl,(HW.out _).trans (hb2.mono (by simp))⟩
end
def Sq.setRows (db:List Sq.Tab)(k:Nat)(rows:List (List Sq.Val)):List Sq.Tab:=match db[k]? with | some t=>db.set k { t with rows:=rows } | none=>db
def Sq.rowsAt (db:List Sq.Tab)(k:Nat):List (List Sq.Val):=match db[k]? with | some t=>t.rows | none=>[]
def Sq.cutRows (key:Int)(rows:List (List Sq.Val)):List (List Sq.Val):=rows.filter fun r=>Sq.keyOf r != key
def Sq.put (row:List Sq.Val):List (List Sq.Val)→List (List Sq.Val)
 | []=>[row]
 | r :: q=>if Sq.keyOf r < Sq.keyOf row then r :: Sq.put row q else row :: Sq.cutRows (Sq.keyOf row) (r :: q)
def Sq.putAll (puts:List (List Sq.Val))(rows:List (List Sq.Val)):List (List Sq.Val):=puts.foldl (fun rows r=>Sq.put r rows) rows
def Sq.cutAll (cuts:List Int)(rows:List (List Sq.Val)):List (List Sq.Val):=cuts.foldl (fun rows k=>Sq.cutRows k rows) rows
namespace Sq
theorem jQ3 (db:List Tab)(k:Nat):setRows db k (rowsAt db k)=db:=by
 unfold setRows rowsAt
 cases h:db[k]? with
 | none=>rfl
 | some t =>
  obtain⟨hk,ht⟩:=List.getElem?_eq_some_iff.1 h
  subst ht
  exact List.set_getElem_self hk
theorem jQaO (db:List Tab)(k:Nat)(rows:List (List Val)):(setRows db k rows).length=db.length:=by
 unfold setRows;split <;> simp
theorem jQa0 (db:List Tab)(k:Nat)(hk:k < db.length)(rows:List (List Val)):setRows db k rows=db.set k { db[k] with rows:=rows }:=by
 unfold setRows;rw[List.getElem?_eq_getElem hk]
theorem jQbU (db:List Tab)(k:Nat)(x y:List (List Val)):setRows (setRows db k x) k y=setRows db k y:=by
 by_cases hk:k < db.length
 ·have h:=jQa0 (setRows db k x) k (by rw[jQaO];exact hk) y
  rw[h,jQa0 db k hk y]
  simp[jQa0 db k hk x]
 ·have h:db[k]?=none:=List.getElem?_eq_none (by omega)
  have h2:∀x,setRows db k x=db:=fun x=>by unfold setRows;rw[h]
  rw[h2,h2]
theorem jQby (db:List Tab)(k:Nat)(hk:k < db.length):rowsAt db k=db[k].rows:=by
 unfold rowsAt;rw[List.getElem?_eq_getElem hk]
def sorted (rows:List (List Val)):Prop:=rows.Pairwise fun r q=>keyOf r < keyOf q
theorem jQfU {k:Int}{rows:List (List Val)}{x:List Val}(h:x∈cutRows k rows):x∈rows∧keyOf x≠k:=by
 unfold cutRows at h
 rw[List.mem_filter] at h
 exact⟨h.1,by simpa using h.2⟩
theorem jQmJ {k:Int}{rows:List (List Val)}{x:List Val}(h:x∈rows)(hk:keyOf x≠k):x∈cutRows k rows:=by
 unfold cutRows
 rw[List.mem_filter]
 exact⟨h,by simpa using hk⟩
theorem jQeW {k:Int}{rows:List (List Val)}(h:sorted rows):sorted (cutRows k rows):=List.Pairwise.filter _ h
theorem jQp1 (k:Int)(rows:List (List Val)):(cutRows k rows).length≤rows.length:=List.length_filter_le _ _
theorem jQjw {row:List Val}:∀{rows:List (List Val)} {x:List Val},x∈put row rows→x=row∨x∈rows:=by
 intro rows
 induction rows with
 | nil=>intro x h;rw[put] at h;simpa using h
 | cons r q ih =>
  intro x h
  rw[put] at h
  split at h
  ·rcases List.mem_cons.1 h with rfl | h
   ·exact Or.inr (by simp)
   ·rcases ih h with h | h
    ·exact Or.inl h
    ·exact Or.inr (by simp[h])
  ·rcases List.mem_cons.1 h with rfl | h
   ·exact Or.inl rfl
   ·exact Or.inr (jQfU h).1
theorem jQep {row:List Val}:∀{rows:List (List Val)},sorted rows→sorted (put row rows):=by
 intro rows
 induction rows with
 | nil=>intro _;rw[put];exact List.pairwise_singleton _ _
 | cons r q ih =>
  intro h
  rw[put]
  have h':=List.pairwise_cons.1 h
  split
  ·rename_i hlt
   refine List.pairwise_cons.2 ⟨?_,ih h'.2⟩
   intro x hx
   rcases jQjw hx with rfl | hx
   ·exact hlt
   ·exact h'.1 x hx
  ·rename_i hlt
   refine List.pairwise_cons.2 ⟨?_,jQeW h⟩
   intro x hx
   obtain⟨h1,h2⟩:=jQfU hx
   rcases List.mem_cons.1 h1 with rfl | h1
   ·omega
   ·have:=h'.1 x h1;omega
def hasK (rows:List (List Val))(k:Int):Prop:=∃r∈rows,keyOf r=k
theorem jQqB {row:List Val}{k:Int}:∀{rows:List (List Val)},hasK rows k→hasK (put row rows) k:=by
 intro rows
 induction rows with
 | nil=>rintro⟨r,hr,_⟩;simp at hr
 | cons r q ih =>
  rintro⟨x,hx,hk⟩
  rw[put]
  split
  ·rcases List.mem_cons.1 hx with rfl | hx
   ·exact⟨x,by simp,hk⟩
   ·obtain⟨y,hy,hk⟩:=ih ⟨x,hx,hk⟩
    exact⟨y,by simp[hy],hk⟩
  ·by_cases he:keyOf row=k
   ·exact⟨row,by simp,he⟩
   ·exact⟨x,List.mem_cons.2 (Or.inr (jQmJ hx (by omega))),hk⟩
theorem jQrM (row:List Val):∀rows:List (List Val),(put row rows).length≤rows.length+1:=by
 intro rows
 induction rows with
 | nil=>simp[put]
 | cons r q ih =>
  rw[put]
  split
  ·simp;omega
  ·have:=jQp1 (keyOf row) (r :: q)
   simp only[List.length_cons] at this ⊢
   omega
theorem jQkC (row:List Val):∀rows:List (List Val),hasK rows (keyOf row)→(put row rows).length≤rows.length:=by
 intro rows
 induction rows with
 | nil=>rintro⟨r,hr,_⟩;simp at hr
 | cons r q ih =>
  rintro⟨x,hx,hk⟩
  rw[put]
  split
  ·rename_i hlt
   rcases List.mem_cons.1 hx with rfl | hx
   ·omega
   ·have:=ih ⟨x,hx,hk⟩
    simp;omega
  ·have h1:(cutRows (keyOf row) (r :: q)).length < (r :: q).length:=by
    unfold cutRows
    rw[←List.countP_eq_length_filter]
    rcases Nat.lt_or_ge (List.countP (fun r=>keyOf r != keyOf row) (r :: q)) (r :: q).length with h | h
    ·exact h
    ·have h2:List.countP (fun r=>keyOf r != keyOf row) (r :: q)=(r :: q).length:=Nat.le_antisymm (List.countP_le_length) h
     rw[List.countP_eq_length] at h2
     have:=h2 x hx
     simp[hk] at this
   simp only[List.length_cons] at h1 ⊢
   omega
theorem jQdA:∀(puts:List (List Val)) {rows:List (List Val)},sorted rows→sorted (putAll puts rows)
 | [],_,h=>h
 | p :: r,_,h=>jQdA r (jQep (row:=p) h)
theorem jQeq:∀(puts:List (List Val)) {rows:List (List Val)} {x:List Val},x∈putAll puts rows→x∈puts∨x∈rows
 | [],_,_,h=>Or.inr h
 | p :: r,rows,x,h=>by
  rcases jQeq r (rows:=put p rows) h with h | h
  ·exact Or.inl (by simp[h])
  ·rcases jQjw h with rfl | h
   ·exact Or.inl (by simp)
   ·exact Or.inr h
theorem jQho:∀(puts:List (List Val)) {rows:List (List Val)},(∀p∈puts,hasK rows (keyOf p))→(putAll puts rows).length≤rows.length
 | [],_,_=>Nat.le_refl _
 | p :: r,rows,h=>by
  have h1:=jQkC p rows (h p (by simp))
  have h2:=jQho r (rows:=put p rows) (fun x hx=>jQqB (h x (by simp[hx])))
  exact Nat.le_trans h2 h1
theorem jQdF:∀(cuts:List Int) {rows:List (List Val)},sorted rows→sorted (cutAll cuts rows)
 | [],_,h=>h
 | p :: r,_,h=>jQdF r (jQeW (k:=p) h)
theorem jQeX:∀(cuts:List Int) {rows:List (List Val)} {x:List Val},x∈cutAll cuts rows→x∈rows
 | [],_,_,h=>h
 | p :: r,rows,x,h=>(jQfU (jQeX r (rows:=cutRows p rows) h)).1
theorem jQhO:∀(cuts:List Int) {rows:List (List Val)},(cutAll cuts rows).length≤rows.length
 | [],_=>Nat.le_refl _
 | p :: r,rows=>Nat.le_trans (jQhO r (rows:=cutRows p rows)) (jQp1 p rows)
end Sq
namespace Sq
def itoa (n:Int):ByteArray:=⟨(Lib.itoa n).toArray⟩
def bSemi:ByteArray:=⟨#[59]⟩
def bBang:ByteArray:=⟨#[33]⟩
def bQuote:ByteArray:=⟨#[39]⟩
def counted (n:Int):ByteArray:=itoa n++bSemi
def errText (e:Int):ByteArray:=bBang++itoa e
def written (v:Val):ByteArray:=if v.kind==1 then bQuote++v.text++bQuote else itoa v.number
def okVal (v:Val):Prop:=-100000000000≤v.number∧v.number≤100000000000∧v.text.size≤1000
def okRow (row:List Val):Prop:=∀v∈row,okVal v
def okTerm (t:Term):Prop:=okVal t.lit
def okSet (s:SetS):Prop:=okTerm s.first∧okTerm s.second
def numOf (sign:ByteArray)(x y:Int):Int:=if sign.toList==[45] then x - y else x+y
def result (cols:List Col)(row:List Val)(s:SetS):Val×Bool :=
 if s.sign.toList.isEmpty then(valueOf cols row s.first,true)
 else if numOf s.sign (valueOf cols row s.first).number (valueOf cols row s.second).number < -2147483648 then(val0,false)
 else if 2147483647 < numOf s.sign (valueOf cols row s.first).number (valueOf cols row s.second).number then(val0,false)
 else(⟨0,numOf s.sign (valueOf cols row s.first).number (valueOf cols row s.second).number,nobytes⟩,true)
def assignStep (cols:List Col)(old row:List Val)(s:SetS):List Val:=if find cols s.column < 0 then row else row.set (find cols s.column).toNat (result cols old s).1
def assignFrom (cols:List Col)(old:List Val):List SetS→List Val→List Val×Bool
 | [],row=>(row,true)
 | s :: r,row=>if(result cols old s).2 then assignFrom cols old r (assignStep cols old row s) else([],false)
def assigned (cols:List Col)(old:List Val)(sets:List SetS):List Val×Bool:=assignFrom cols old sets old
def updateFrom (cols:List Col)(sets:List SetS):List (List Val)→List (List Val)→Option (List (List Val))
 | [],acc=>some acc
 | r :: q,acc=>if(assigned cols r sets).2 then updateFrom cols sets q (acc++[(assigned cols r sets).1]) else none
def twoFrom (cols:List Col):List Col→Int→Bool
 | [],_=>false
 | c :: r,i=>if find cols c.name != i then true else twoFrom cols r (i+1)
def twoOf (cols:List Col):Bool:=twoFrom cols cols 0
def joined:List (List UInt8)→List UInt8
 | []=>[]
 | x :: r=>x++r.flatMap fun y=>44 :: y
def cellNo (row:List Val)(k:Int):Val:=if k < 0 then val0 else(row[k.toNat]?).getD val0
def rowTextR (row:List Val)(nums:List Int):List UInt8:=joined (nums.map fun k=>(written (cellNo row k)).data.toList)
def listedR (nums:List Int)(rows:List (List Val)):List UInt8:=rows.flatMap fun r=>rowTextR r nums++[59]
def sumRow (nums:List Int)(row:List Val):Int:=(nums.map fun k=>(cellNo row k).number).sum
def summedR (nums:List Int)(rows:List (List Val)):Int:=(rows.map (sumRow nums)).sum
def placedR (cols:List Col)(items:List ByteArray):List Int:=items.map (find cols)
def upToR (n:Nat):List Int:=(List.range n).map fun k:Nat=>(k:Int)
def showR (cols:List Col)(rows:List (List Val))(st:PSt):ByteArray :=
 if st.shw==2 then counted rows.length
 else if st.shw==3 then itoa (summedR (placedR cols st.items) rows)++bSemi
 else if st.shw==1 then⟨(listedR (upToR cols.length) rows).toArray⟩
 else⟨(listedR (placedR cols st.items) rows).toArray⟩
def metN (cols:List Col)(rows:List (List Val))(l:List StepS):List (List Val):=rows.filter fun r=>meets cols r l
end Sq
structure Sq.Ent where
 place:Int
 row:ByteArray
abbrev Sq.Kid:Nat→Type
 | 0=>Sq.Ent
 | n+1=>List (Sq.Kid n)
namespace Sq
def ents:(n:Nat)→List (Kid n)→List Ent
 | 0,es=>es
 | n+1,cs=>List.flatMap (ents n) cs
def least:(n:Nat)→List (Kid n)→Int
 | 0,[]=>0
 | 0,e :: _=>Ent.place e
 | _+1,[]=>0
 | n+1,c :: _=>least n c
def wayFrom (n:Nat)(p:Int):List (List (Kid n))→Nat→Nat→Nat
 | [],_,a=>a
 | c :: r,i,a=>wayFrom n p r (i+1) (if least n c≤p then i else a)
def way (n:Nat)(cs:List (List (Kid n)))(p:Int):Nat:=wayFrom n p (cs.drop 1) 1 0
def halve {α:Type}(l:List α):List (List α):=if l.length≤4 then[l] else[l.take 3,l.drop 3]
def exch {α:Type}(l:List α)(a m:Nat)(o:List α):List α:=l.take a++o++l.drop (a+m)
def withE (es:List Ent)(e:Ent):List Ent :=
 es.takeWhile (fun x=>Decidable.decide (x.place < e.place))++e :: (es.dropWhile (fun x=>Decidable.decide (x.place < e.place))).filter (fun x=>x.place != e.place)
def putO {α:Type}(cs:List (List α))(a:Nat)(f:List α→List (List α)):Option (List α)→List (List (List α))
 | none=>[cs]
 | some c=>halve (exch cs a 1 (f c))
def putT:(n:Nat)→List (Kid n)→Ent→List (List (Kid n))
 | 0,es,e=>halve (withE es e)
 | n+1,cs,e=>putO cs (way n cs e.place) (fun c=>putT n c e) ((show List (List (Kid n)) from cs)[way n cs e.place]?)
def joinK {α:Type}(cs:List (List α))(a:Nat):List (List α) :=
 match cs[if a+1==cs.length then a - 1 else a]?,cs[(if a+1==cs.length then a - 1 else a)+1]? with
 | some l,some r=>exch cs (if a+1==cs.length then a - 1 else a) 2 (halve (l++r))
 | _,_=>cs
def mended {α:Type}(cs:List (List α))(a:Nat)(c:List α):List (List α) :=
 if c.length < 2 then joinK (exch cs a 1 [c]) a else exch cs a 1 [c]
def delO {α:Type}(cs:List (List α))(a:Nat)(f:List α→List α):Option (List α)→List (List α)
 | none=>cs
 | some c=>mended cs a (f c)
def delT:(n:Nat)→List (Kid n)→Int→List (Kid n)
 | 0,es,p=>List.filter (fun x:Ent=>x.place != p) es
 | n+1,cs,p=>delO cs (way n cs p) (fun c=>delT n c p) (show List (List (Kid n)) from cs)[way n cs p]?
def hasO {α:Type}(f:List α→Bool):Option (List α)→Bool
 | none=>false
 | some c=>f c
def hasT:(n:Nat)→List (Kid n)→Int→Bool
 | 0,es,p=>List.any es (fun x:Ent=>x.place==p)
 | n+1,cs,p=>hasO (fun c=>hasT n c p) (show List (List (Kid n)) from cs)[way n cs p]?
def nextLow (n:Nat)(lo:Int):List (List (Kid n))→Bool
 | []=>true
 | d :: _=>Decidable.decide (lo < least n d)
def btwL (n:Nat)(f:List (Kid n)→List Ent)(lo hi:Int):List (List (Kid n))→List Ent
 | []=>[]
 | c :: r=>(if Decidable.decide (least n c≤hi) && nextLow n lo r then f c else[])++btwL n f lo hi r
def btwT:(n:Nat)→List (Kid n)→Int→Int→List Ent
 | 0,es,lo,hi=>List.filter (fun x:Ent=>Decidable.decide (lo≤x.place) && Decidable.decide (x.place≤hi)) es
 | n+1,cs,lo,hi=>btwL n (fun c=>btwT n c lo hi) lo hi cs
def okT:(n:Nat)→List (Kid n)→Prop
 | 0,_=>True
 | n+1,cs=>∀c:List (Kid n),c∈(show List (List (Kid n)) from cs)→2≤c.length∧okT n c
def srt (es:List Ent):Prop:=es.Pairwise fun a b=>a.place < b.place
def ins (es:List Ent)(e:Ent):List Ent:=es.filter (fun x=>Decidable.decide (x.place < e.place))++e :: es.filter (fun x=>Decidable.decide (e.place < x.place))
theorem jQfR:∀(n:Nat) (a b:List (Kid n)),ents n (a++b)=ents n a++ents n b
 | 0,_,_=>rfl
 | n+1,a,b=>by
  show List.flatMap (ents n) (a++b)=List.flatMap (ents n) a++List.flatMap (ents n) b
  exact List.flatMap_append
theorem jQ0 {n:Nat}{cs:List (List (Kid n))}(h:okT (n+1) cs){c:List (Kid n)}(hc:c∈cs):2≤c.length∧okT n c:=h c hc
theorem jQeu {n:Nat}{cs:List (List (Kid n))}(h:∀c∈cs,2≤c.length∧okT n c):okT (n+1) cs:=h
theorem jQpP:∀{n:Nat} {a b:List (Kid n)},okT n b→(∀x∈a,x∈b)→okT n a
 | 0,_,_,_,_=>trivial
 | _+1,_,_,h,hs=>fun c hc=>h c (hs c hc)
theorem jQrU:∀{n:Nat} {a b:List (Kid n)},okT n a→okT n b→okT n (a++b)
 | 0,_,_,_,_=>trivial
 | _+1,_,_,ha,hb=>fun c hc=>by
  rcases List.mem_append.1 hc with h | h
  ·exact ha c h
  ·exact hb c h
theorem jQeH:∀(n:Nat) (t:List (Kid n)),okT n t→t≠[]→∃e r,ents n t=e :: r∧least n t=e.place
 | 0,t,_,h=>by
  cases t with
  | nil=>exact absurd rfl h
  | cons e r=>exact⟨e,r,rfl,rfl⟩
 | n+1,t,ho,h=>by
  cases t with
  | nil=>exact absurd rfl h
  | cons c r =>
   obtain⟨h2,hc⟩:=ho c List.mem_cons_self
   obtain⟨e,q,he,hl⟩:=jQeH n c hc (by intro h;subst h;simp at h2)
   refine⟨e,q++List.flatMap (ents n) r,?_,hl⟩
   show List.flatMap (ents n) (c :: r)=_
   rw[List.flatMap_cons,he]
   rfl
theorem jQaF {α:Type}{l:List α}(h:2≤l.length):l≠[]:=by intro e;subst e;simp at h
theorem jQjQ {n:Nat}{t:List (Kid n)}(ho:okT n t)(h:t≠[]):∃e∈ents n t,least n t=e.place:=by
 obtain⟨e,r,he,hl⟩:=jQeH n t ho h
 exact⟨e,by rw[he];exact List.mem_cons_self,hl⟩
theorem jQmQ {n:Nat}{t:List (Kid n)}(ho:okT n t)(h:t≠[])(hs:srt (ents n t)):∀e∈ents n t,least n t≤e.place:=by
 obtain⟨e,r,he,hl⟩:=jQeH n t ho h
 rw[he] at hs
 intro x hx
 rw[he] at hx
 rcases List.mem_cons.1 hx with rfl | hx
 ·omega
 ·have:=(List.pairwise_cons.1 hs).1 x hx
  omega
theorem jQdz {a b:List Ent}(h:srt (a++b)):srt a∧srt b∧∀x∈a,∀y∈b,x.place < y.place:=List.pairwise_append.1 h
theorem jQea (n:Nat)(p:Int):∀(r:List (List (Kid n))) (i a:Nat),
  (wayFrom n p r i a=a∧∀c∈r,p < least n c)∨∃r1 c r2,r=r1++c :: r2∧wayFrom n p r i a=i+r1.length∧least n c≤p∧∀x∈r2,p < least n x
 | [],_,_=>Or.inl ⟨rfl,fun _ h=>by cases h⟩
 | c :: r,i,a=>by
  rcases jQea n p r (i+1) (if least n c≤p then i else a) with⟨h1,h2⟩ | ⟨r1,d,r2,h1,h2,h3,h4⟩
  ·by_cases hc:least n c≤p
   ·refine Or.inr ⟨[],c,r,rfl,?_,hc,h2⟩
    rw[wayFrom,h1,if_pos hc];simp
   ·refine Or.inl ⟨by rw[wayFrom,h1,if_neg hc],?_⟩
    intro x hx
    rcases List.mem_cons.1 hx with rfl | hx
    ·omega
    ·exact h2 x hx
  ·refine Or.inr ⟨c :: r1,d,r2,by rw[h1];rfl,?_,h3,h4⟩
   rw[wayFrom,h2];simp;omega
theorem jQf5 (n:Nat)(cs:List (List (Kid n)))(p:Int)(ho:okT (n+1) cs)(hne:cs≠[])(hs:srt (ents (n+1) cs)) :
  ∃pre c post,cs=pre++c :: post∧way n cs p=pre.length∧(∀e∈pre.flatMap (ents n),e.place < p)∧(∀e∈post.flatMap (ents n),p < e.place):=by
 have after:∀l:List (List (Kid n)),(∀x∈l,x∈cs)→(∀x∈l,srt (ents n x))→(∀x∈l,p < least n x)→∀e∈l.flatMap (ents n),p < e.place:=by
  intro l hl hsl hp e he
  obtain⟨x,hx,hex⟩:=List.mem_flatMap.1 he
  obtain⟨h2,hox⟩:=jQ0 ho (hl x hx)
  have:=jQmQ hox (jQaF h2) (hsl x hx) e hex
  have:=hp x hx
  omega
 have each:∀x∈cs,srt (ents n x):=by
  intro x hx
  obtain⟨l1,l2,rfl⟩:=List.append_of_mem hx
  have h1:srt ((l1.flatMap (ents n))++((x :: l2).flatMap (ents n))):=by rw[←List.flatMap_append];exact hs
  have h2:=(jQdz h1).2.1
  rw[List.flatMap_cons] at h2
  exact(jQdz h2).1
 cases cs with
 | nil=>exact absurd rfl hne
 | cons c0 r =>
  rcases jQea n p r 1 0 with⟨h1,h2⟩ | ⟨r1,d,r2,h1,h2,h3,h4⟩
  ·exact⟨[],c0,r,rfl,h1,(fun e he=>by simp at he),after r (fun x hx=>List.mem_cons_of_mem _ hx) (fun x hx=>each x (List.mem_cons_of_mem _ hx)) h2⟩
  ·subst h1
   refine⟨c0 :: r1,d,r2,rfl,?_,?_,after r2 (fun x hx=>by simp[hx]) (fun x hx=>each x (by simp[hx])) h4⟩
   ·show wayFrom n p (r1++d :: r2) 1 0=_
    rw[h2];simp;omega
   ·have hd:d∈c0 :: (r1++d :: r2):=by simp
    obtain⟨k2,hod⟩:=jQ0 ho hd
    obtain⟨z,hz,hzl⟩:=jQjQ hod (jQaF k2)
    have h5:srt (((c0 :: r1).flatMap (ents n))++((d :: r2).flatMap (ents n))):=by rw[←List.flatMap_append];exact hs
    intro e he
    have:=(jQdz h5).2.2 e he z (by rw[List.flatMap_cons];exact List.mem_append_left _ hz)
    omega
theorem exch_at {α:Type}(pre post:List α)(c:α)(o:List α):exch (pre++c :: post) pre.length 1 o=pre++o++post:=by
 unfold exch
 rw[List.take_left,(by simp:(pre++c :: post).drop (pre.length+1)=post)]
theorem jQpg {α:Type}(pre post:List α)(c:α):(pre++c :: post)[pre.length]?=some c:=by simp
theorem jQeP (n:Nat)(l:List (Kid n)):(halve l).flatMap (ents n)=ents n l:=by
 unfold halve
 split
 ·simp
 ·rw[List.flatMap_cons,List.flatMap_cons,List.flatMap_nil,List.append_nil,←jQfR,List.take_append_drop]
theorem jQne {n:Nat}{l:List (Kid n)}(h:okT n l):∀x∈halve l,okT n x:=by
 unfold halve
 split
 ·intro x hx;rw[List.mem_singleton.1 hx];exact h
 ·intro x hx
  simp only[List.mem_cons,List.not_mem_nil,or_false] at hx
  rcases hx with rfl | rfl
  ·exact jQpP h fun y hy=>List.mem_of_mem_take hy
  ·exact jQpP h fun y hy=>List.mem_of_mem_drop hy
theorem jQgs {α:Type}{l:List α}(h:2≤l.length):∀x∈halve l,2≤x.length:=by
 unfold halve
 split
 ·intro x hx;rw[List.mem_singleton.1 hx];exact h
 ·intro x hx
  simp only[List.mem_cons,List.not_mem_nil,or_false] at hx
  rcases hx with rfl | rfl
  ·simp;omega
  ·simp;omega
theorem jQck {α:Type}(l:List α):1≤(halve l).length∧(halve l).length≤2:=by
 unfold halve;split <;> simp
theorem jQb0 {l:List Ent}{q:Ent→Bool}(h:∀x∈l,q x=true):l.filter q=l:=List.filter_eq_self.2 h
theorem jQc1 {l:List Ent}{q:Ent→Bool}(h:∀x∈l,q x=false):l.filter q=[]:=List.filter_eq_nil_iff.2 fun x hx=>by rw[h x hx];simp
theorem jQf3:∀(es:List Ent) (e:Ent),srt es→withE es e=ins es e
 | [],_,_=>rfl
 | x :: r,e,hs=>by
  have⟨h1,h2⟩:=List.pairwise_cons.1 hs
  have ih:=jQf3 r e h2
  unfold withE ins at ih ⊢
  by_cases hx:x.place < e.place
  ·simp only[List.takeWhile_cons,List.dropWhile_cons,List.filter_cons,hx,decide_true,if_true]
   have:¬(e.place < x.place):=by omega
   simp only[this,decide_false]
   rw[List.cons_append,ih]
   rfl
  ·have hr:∀y∈r,e.place < y.place:=fun y hy=>by have:=h1 y hy;omega
   simp only[List.takeWhile_cons,List.dropWhile_cons,List.filter_cons,hx,decide_false,List.nil_append]
   have e1:r.filter (fun x=>Decidable.decide (x.place < e.place))=[]:=jQc1 fun y hy=>by have:=hr y hy;simp;omega
   have e2:r.filter (fun x=>Decidable.decide (e.place < x.place))=r:=jQb0 fun y hy=>by have:=hr y hy;simpa using this
   have e3:r.filter (fun x=>x.place != e.place)=r:=jQb0 fun y hy=>by have:=hr y hy;simp;omega
   simp only[e1,e2]
   by_cases hxe:x.place=e.place
   ·have hb:(x.place != e.place)=false:=by simp[hxe]
    have hc:¬(e.place < x.place):=by omega
    simp only[hc,decide_false,Bool.false_eq_true,if_false,List.filter_cons,hb,e3,List.nil_append]
   ·have hb:(x.place != e.place)=true:=by simp[hxe]
    have hc:e.place < x.place:=by omega
    simp only[hc,decide_true,Bool.false_eq_true,if_false,if_true,List.filter_cons,hb,e3,List.nil_append]
theorem jQr3 {pre mid post:List Ent}{e:Ent}(h1:∀x∈pre,x.place < e.place)(h2:∀x∈post,e.place < x.place):ins (pre++mid++post) e=pre++ins mid e++post:=by
 unfold ins
 simp only[List.filter_append]
 rw[jQb0 (l:=pre) (fun x hx=>by simpa using h1 x hx),jQc1 (l:=post) (q:=fun x=>Decidable.decide (x.place < e.place)) (fun x hx=>by have:=h2 x hx;simp;omega),
  jQc1 (l:=pre) (q:=fun x=>Decidable.decide (e.place < x.place)) (fun x hx=>by have:=h1 x hx;simp;omega),jQb0 (l:=post) (fun x hx=>by simpa using h2 x hx)]
 simp
theorem jQjn {pre mid post:List Ent}(h:srt (pre++mid++post)):srt mid:=(jQdz (jQdz h).1).2.1
theorem jQhA {n:Nat}{pre post:List (List (Kid n))}{c:List (Kid n)}:ents (n+1) (pre++c :: post)=pre.flatMap (ents n)++ents n c++post.flatMap (ents n):=by
 show List.flatMap (ents n) (pre++c :: post)=_
 rw[List.flatMap_append,List.flatMap_cons,List.append_assoc]
theorem jQmi:∀(n:Nat) (t:List (Kid n)) (e:Ent),okT n t→(n=0∨t≠[])→srt (ents n t)→(putT n t e).flatMap (ents n)=ins (ents n t) e
 | 0,t,e,_,_,hs=>by
  show(halve (withE t e)).flatMap (ents 0)=_
  rw[jQeP 0]
  exact jQf3 t e hs
 | n+1,cs,e,ho,hne,hs=>by
  obtain⟨pre,c,post,rfl,hw,h1,h2⟩:=jQf5 n cs e.place ho (by rcases hne with h | h;cases h;exact h) hs
  obtain⟨k2,hoc⟩:=jQ0 ho (c:=c) (by simp)
  have hm:=jQhA (n:=n) (pre:=pre) (post:=post) (c:=c)
  rw[hm] at hs
  have hp:putT (n+1) (pre++c :: post) e=halve (pre++putT n c e++post):=by
   show putO (pre++c :: post) (way n (pre++c :: post) e.place) (fun c=>putT n c e) (pre++c :: post)[way n (pre++c :: post) e.place]?=_
   rw[hw,jQpg]
   exact congrArg halve (exch_at _ _ _ _)
  rw[hp]
  refine(jQeP (n+1) _).trans ?_
  show List.flatMap (ents n) (pre++putT n c e++post)=_
  rw[List.flatMap_append,List.flatMap_append,jQmi n c e hoc (Or.inr (jQaF k2)) (jQjn hs),hm,jQr3 h1 h2]
theorem jQr8:∀{es:List Ent},srt es→∀p:Int,es.length≤(es.filter fun x=>x.place != p).length+1
 | [],_,_=>by simp
 | x :: r,hs,p=>by
  have⟨h1,h2⟩:=List.pairwise_cons.1 hs
  by_cases hx:x.place=p
  ·have:r.filter (fun x=>x.place != p)=r:=jQb0 fun y hy=>by have:=h1 y hy;simp;omega
   simp[List.filter_cons,hx,this]
  ·have:=jQr8 h2 p
   simp[List.filter_cons,hx]
   omega
theorem jQr4 {es:List Ent}(hs:srt es)(e:Ent):es.length≤(ins es e).length∧(ins es e).length≤es.length+1:=by
 induction es with
 | nil=>simp[ins]
 | cons x r ih =>
  have⟨h1,h2⟩:=List.pairwise_cons.1 hs
  have ih:=ih h2
  unfold ins at ih ⊢
  simp only[List.filter_cons,List.length_append,List.length_cons] at ih ⊢
  by_cases a:x.place < e.place
  ·have b:¬(e.place < x.place):=by omega
   simp only[a,b,decide_true,decide_false,if_true,List.length_cons] at ih ⊢
   simp
   omega
  ·by_cases b:e.place < x.place
   ·simp only[a,b,decide_true,decide_false,if_true,List.length_cons] at ih ⊢
    simp
    omega
   ·have e1:r.filter (fun x=>Decidable.decide (x.place < e.place))=[]:=jQc1 fun y hy=>by have:=h1 y hy;simp;omega
    have e2:r.filter (fun x=>Decidable.decide (e.place < x.place))=r:=jQb0 fun y hy=>by have:=h1 y hy;simp;omega
    simp[a,b,e1,e2]
theorem jQrL:∀(n:Nat) (t:List (Kid n)) (e:Ent),okT n t→(n=0∨t≠[])→srt (ents n t)→(∀x∈putT n t e,okT n x∧(2≤t.length→2≤x.length))∧1≤(putT n t e).length∧(putT n t e).length≤2
 | 0,t,e,_,_,hs=>by
  refine⟨fun x hx=>⟨trivial,fun h2=>?_⟩,jQck _⟩
  refine jQgs ?_ x hx
  have:=(jQr4 (es:=t) hs e).1
  rw[jQf3 t e hs]
  exact Nat.le_trans h2 this
 | n+1,cs,e,ho,hne,hs=>by
  obtain⟨pre,c,post,rfl,hw,h1,h2⟩:=jQf5 n cs e.place ho (by rcases hne with h | h;cases h;exact h) hs
  obtain⟨k2,hoc⟩:=jQ0 ho (c:=c) (by simp)
  have hm:=jQhA (n:=n) (pre:=pre) (post:=post) (c:=c)
  rw[hm] at hs
  have hp:putT (n+1) (pre++c :: post) e=halve (pre++putT n c e++post):=by
   show putO (pre++c :: post) (way n (pre++c :: post) e.place) (fun c=>putT n c e) (pre++c :: post)[way n (pre++c :: post) e.place]?=_
   rw[hw,jQpg]
   exact congrArg halve (exch_at _ _ _ _)
  obtain⟨hx,hl1,hl2⟩:=jQrL n c e hoc (Or.inr (jQaF k2)) (jQjn hs)
  rw[hp]
  refine⟨fun x hxm=>⟨?_,fun hc=>?_⟩,jQck _⟩
  ·refine jQne (n:=n+1) ?_ x hxm
   refine jQeu fun y hy=>?_
   rcases List.mem_append.1 hy with hy | hy
   ·rcases List.mem_append.1 hy with hy | hy
    ·exact jQ0 ho (by simp[hy])
    ·exact⟨(hx y hy).2 k2,(hx y hy).1⟩
   ·exact jQ0 ho (by simp[hy])
  ·refine jQgs ?_ x hxm
   simp only[List.length_append,List.length_cons] at hc ⊢
   have hl1':1≤List.length (putT n c e):=hl1
   omega
theorem jQhB {α:Type}{cs:List (List α)}{a:Nat}(ha:a < cs.length)(h2:2≤cs.length) :
  ∃pre l r post,cs=pre++l :: r :: post∧joinK cs a=pre++halve (l++r)++post∧(pre.length=a∨pre.length+1=a):=by
 obtain⟨b,hb⟩:∃b,b=(if a+1==cs.length then a - 1 else a):=⟨_,rfl⟩
 have hb1:b+1 < cs.length:=by
  rw[hb]
  by_cases h:a+1=cs.length
  ·simp[h];omega
  ·simp[h];omega
 have hba:b=a∨b+1=a:=by
  rw[hb]
  by_cases h:a+1=cs.length
  ·simp[h];omega
  ·simp[h]
 have hcs:cs=cs.take b++cs[b] :: cs[b+1] :: cs.drop (b+2):=by
  conv=>lhs;rw[←List.take_append_drop b cs,List.drop_eq_getElem_cons (by omega),List.drop_eq_getElem_cons (by omega)]
 have hl:(cs.take b).length=b:=by simp;omega
 refine⟨cs.take b,cs[b],cs[b+1],cs.drop (b+2),hcs,?_,by rw[hl];exact hba⟩
 unfold joinK
 rw[←hb,List.getElem?_eq_getElem (by omega),List.getElem?_eq_getElem (by omega)]
 rfl
theorem jQq1 {pre mid post:List Ent}{p:Int}(h1:∀x∈pre,x.place < p)(h2:∀x∈post,p < x.place):(pre++mid++post).filter (fun x=>x.place != p)=pre++mid.filter (fun x=>x.place != p)++post:=by
 simp only[List.filter_append]
 rw[jQb0 (l:=pre) (fun x hx=>by have:=h1 x hx;simp;omega),jQb0 (l:=post) (fun x hx=>by have:=h2 x hx;simp;omega)]
theorem jQkI {n:Nat}{pre post:List (List (Kid n))}{c:List (Kid n)}(d:List (Kid n))(h2:2≤(pre++c :: post).length) :
  ents (n+1) (mended (pre++c :: post) pre.length d)=ents (n+1) (pre++d :: post):=by
 unfold mended
 rw[exch_at]
 split
 ·have e1:pre++[d]++post=pre++d :: post:=by simp
  rw[e1]
  obtain⟨p,l,r,q,hc,hj,_⟩:=jQhB (cs:=pre++d :: post) (a:=pre.length) (by simp) (by simpa using h2)
  rw[hj,hc]
  show List.flatMap (ents n) (p++halve (l++r)++q)=List.flatMap (ents n) (p++l :: r :: q)
  rw[List.flatMap_append,List.flatMap_append,jQeP n,jQfR,List.flatMap_append,List.flatMap_cons,List.flatMap_cons]
  simp
 ·have e1:pre++[d]++post=pre++d :: post:=by simp
  rw[e1]
theorem jQoN {n:Nat}{pre post:List (List (Kid n))}{c:List (Kid n)}{d:List (Kid n)}(ho:okT (n+1) (pre++c :: post))(hd:okT n d)(h1:1≤d.length)(h2:2≤(pre++c :: post).length) :
  okT (n+1) (mended (pre++c :: post) pre.length d)∧(pre++c :: post).length≤(mended (pre++c :: post) pre.length d).length+1:=by
 unfold mended
 rw[exch_at]
 have e1:pre++[d]++post=pre++d :: post:=by simp
 rw[e1]
 have each:∀y∈pre++d :: post,okT n y∧(y=d∨2≤y.length):=by
  intro y hy
  rcases List.mem_append.1 hy with hy | hy
  ·exact⟨(jQ0 ho (by simp[hy])).2,Or.inr (jQ0 ho (by simp[hy])).1⟩
  ·rcases List.mem_cons.1 hy with rfl | hy
   ·exact⟨hd,Or.inl rfl⟩
   ·exact⟨(jQ0 ho (by simp[hy])).2,Or.inr (jQ0 ho (by simp[hy])).1⟩
 split
 next hlt =>
  obtain⟨p,l,r,q,hc,hj,hpos⟩:=jQhB (cs:=pre++d :: post) (a:=pre.length) (by simp) (by simpa using h2)
  have hpq:(∀y∈p,2≤y.length)∧(∀y∈q,2≤y.length)∧2≤(l++r).length:=by
   rcases hpos with hp | hp
   ·have h:=List.append_inj hc (by rw[hp])
    obtain⟨rfl,h⟩:=h
    obtain⟨rfl,rfl⟩:=List.cons.inj h
    refine⟨fun y hy=>(jQ0 ho (by simp[hy])).1,fun y hy=>(jQ0 ho (by simp[hy])).1,?_⟩
    have:=(jQ0 ho (c:=r) (by simp)).1
    rw[List.length_append]
    omega
   ·have hc':pre++d :: post=(p++[l])++r :: q:=by rw[hc];simp
    have h:=List.append_inj hc' (by simp[hp])
    obtain⟨rfl,h⟩:=h
    obtain⟨rfl,rfl⟩:=List.cons.inj h
    refine⟨fun y hy=>(jQ0 ho (by simp[hy])).1,fun y hy=>(jQ0 ho (by simp[hy])).1,?_⟩
    have:=(jQ0 ho (c:=l) (by simp)).1
    rw[List.length_append]
    omega
  rw[hj]
  rw[hc] at each
  refine⟨jQeu fun y hy=>?_,?_⟩
  ·rcases List.mem_append.1 hy with hy | hy
   ·rcases List.mem_append.1 hy with hy | hy
    ·exact⟨hpq.1 y hy,(each y (by simp[hy])).1⟩
    ·exact⟨jQgs hpq.2.2 y hy,jQne (jQrU (each l (by simp)).1 (each r (by simp)).1) y hy⟩
   ·exact⟨hpq.2.1 y hy,(each y (by simp[hy])).1⟩
  ·have hl:=congrArg List.length hc
   have:=(jQck (l++r)).1
   simp only[List.length_append,List.length_cons] at hl this ⊢
   omega
 next hge =>
  refine⟨jQeu fun y hy=>?_,by simp⟩
  rcases(each y hy).2 with rfl | h
  ·exact⟨by omega,hd⟩
  ·exact⟨h,(each y hy).1⟩
theorem jQq7 {n:Nat}{pre post:List (List (Kid n))}{c:List (Kid n)}{p:Int}(hw:way n (pre++c :: post) p=pre.length):delT (n+1) (pre++c :: post) p=mended (pre++c :: post) pre.length (delT n c p):=by
 show delO (pre++c :: post) (way n (pre++c :: post) p) (fun c=>delT n c p) (pre++c :: post)[way n (pre++c :: post) p]?=_
 rw[hw,jQpg]
 rfl
theorem jQp0:∀(n:Nat) (t:List (Kid n)) (p:Int),okT n t→(n=0∨2≤t.length)→srt (ents n t) →
  ents n (delT n t p)=(ents n t).filter (fun x=>x.place != p)∧okT n (delT n t p)∧t.length≤(delT n t p).length+1
 | 0,t,p,_,_,hs=>⟨rfl,trivial,jQr8 (es:=t) hs p⟩
 | n+1,cs,p,ho,hne,hs=>by
  have hl:2≤List.length cs:=by rcases hne with h | h;cases h;exact h
  obtain⟨pre,c,post,rfl,hw,h1,h2⟩:=jQf5 n cs p ho (jQaF hl) hs
  obtain⟨k2,hoc⟩:=jQ0 ho (c:=c) (by simp)
  have hm:=jQhA (n:=n) (pre:=pre) (post:=post) (c:=c)
  rw[hm] at hs
  obtain⟨he,hod,hdl⟩:=jQp0 n c p hoc (Or.inr k2) (jQjn hs)
  rw[jQq7 hw]
  obtain⟨m1,m2⟩:=jQoN (d:=delT n c p) ho hod (by omega) hl
  refine⟨?_,m1,m2⟩
  rw[jQkI _ hl,jQhA,he,hm,jQq1 h1 h2]
theorem jQpU:∀(n:Nat) (t:List (Kid n)) (p:Int),okT n t→(n=0∨t≠[])→srt (ents n t)→hasT n t p=(ents n t).any fun x=>x.place==p
 | 0,_,_,_,_,_=>rfl
 | n+1,cs,p,ho,hne,hs=>by
  obtain⟨pre,c,post,rfl,hw,h1,h2⟩:=jQf5 n cs p ho (by rcases hne with h | h;cases h;exact h) hs
  obtain⟨k2,hoc⟩:=jQ0 ho (c:=c) (by simp)
  have hm:=jQhA (n:=n) (pre:=pre) (post:=post) (c:=c)
  rw[hm] at hs
  have hh:hasT (n+1) (pre++c :: post) p=hasT n c p:=by
   show hasO (fun c=>hasT n c p) (pre++c :: post)[way n (pre++c :: post) p]?=_
   rw[hw,jQpg]
   rfl
  rw[hh,jQpU n c p hoc (Or.inr (jQaF k2)) (jQjn hs),hm,List.any_append,List.any_append]
  have a1:(pre.flatMap (ents n)).any (fun x=>x.place==p)=false:=by
   rw[List.any_eq_false];intro x hx;have:=h1 x hx;simp;omega
  have a2:(post.flatMap (ents n)).any (fun x=>x.place==p)=false:=by
   rw[List.any_eq_false];intro x hx;have:=h2 x hx;simp;omega
  rw[a1,a2]
  simp
def inside (lo hi:Int)(x:Ent):Bool:=Decidable.decide (lo≤x.place) && Decidable.decide (x.place≤hi)
theorem jQnK (n:Nat)(f:List (Kid n)→List Ent)(lo hi:Int):∀cs:List (List (Kid n)),okT (n+1) cs→srt (cs.flatMap (ents n))→(∀c∈cs,f c=(ents n c).filter (inside lo hi))→btwL n f lo hi cs=(cs.flatMap (ents n)).filter (inside lo hi)
 | [],_,_,_=>rfl
 | c :: r,ho,hs,hf=>by
  obtain⟨k2,hoc⟩:=jQ0 ho (c:=c) (by simp)
  rw[List.flatMap_cons] at hs
  have⟨s1,s2,s3⟩:=jQdz hs
  rw[btwL,jQnK n f lo hi r (jQeu fun x hx=>jQ0 ho (by simp[hx])) s2 (fun x hx=>hf x (by simp[hx])),List.flatMap_cons,List.filter_append]
  congr 1
  split
  ·exact hf c (by simp)
  next hno =>
   symm
   refine jQc1 fun x hx=>?_
   have hx1:=jQmQ hoc (jQaF k2) s1 x hx
   unfold inside
   by_cases hh:least n c≤hi
   ·cases r with
    | nil=>simp[hh,nextLow] at hno
    | cons d q =>
     obtain⟨j2,hod⟩:=jQ0 ho (c:=d) (by simp)
     obtain⟨z,hz,hzl⟩:=jQjQ hod (jQaF j2)
     have hlow:least n d≤lo:=by simp[hh,nextLow] at hno;omega
     have:=s3 x hx z (by rw[List.flatMap_cons];exact List.mem_append_left _ hz)
     simp;omega
   ·simp;omega
theorem jQp2:∀(n:Nat) (t:List (Kid n)) (lo hi:Int),okT n t→srt (ents n t)→btwT n t lo hi=(ents n t).filter (inside lo hi)
 | 0,_,_,_,_,_=>rfl
 | n+1,cs,lo,hi,ho,hs=>by
  refine jQnK n _ lo hi cs ho hs fun c hc=>?_
  obtain⟨k2,hoc⟩:=jQ0 ho hc
  refine jQp2 n c lo hi hoc ?_
  obtain⟨l1,l2,rfl⟩:=List.append_of_mem hc
  have h1:srt ((List.flatMap (ents n) l1)++(List.flatMap (ents n) (c :: l2))):=by rw[←List.flatMap_append];exact hs
  have h2:=(jQdz h1).2.1
  rw[List.flatMap_cons] at h2
  exact(jQdz h2).1
structure Tree where
 d:Nat
 t:List (Kid d)
def Tree.ents (x:Tree):List Ent:=Sq.ents x.d x.t
def tree0:Tree:=⟨0,[]⟩
def upT (n:Nat)(l:List (List (Kid n))):Tree:=match l with | [x]=>⟨n,x⟩ | l=>⟨n+1,l⟩
def Tree.put (x:Tree)(e:Ent):Tree:=upT x.d (putT x.d x.t e)
def downT:(n:Nat)→List (Kid n)→Tree
 | 0,l=>⟨0,l⟩
 | n+1,l=>match l with | [x]=>⟨n,x⟩ | l=>⟨n+1,l⟩
def Tree.del (x:Tree)(p:Int):Tree:=downT x.d (delT x.d x.t p)
structure Tree.ok (x:Tree):Prop where
 kids:okT x.d x.t
 two:x.d=0∨2≤x.t.length
 sorted:srt x.ents
theorem Tree.ok.ne {x:Tree}(h:x.ok):x.d=0∨x.t≠[]:=h.two.imp id jQaF
theorem jQlW {es:List Ent}(hs:srt es)(e:Ent):srt (ins es e):=by
 unfold ins srt
 rw[List.pairwise_append]
 refine⟨List.Pairwise.filter _ hs,?_,?_⟩
 ·rw[List.pairwise_cons]
  exact⟨fun x hx=>by simpa using(List.mem_filter.1 hx).2,List.Pairwise.filter _ hs⟩
 ·intro a ha b hb
  have h1:a.place < e.place:=by simpa using(List.mem_filter.1 ha).2
  rcases List.mem_cons.1 hb with rfl | hb
  ·exact h1
  ·have h2:e.place < b.place:=by simpa using(List.mem_filter.1 hb).2
   omega
theorem jQqC:∀(n:Nat) (t:List (Kid n)) (e:Ent),∃q:List (Kid n),putT n t e=Sq.halve q∨putT n t e=[t]
 | 0,_,_=>⟨_,Or.inl rfl⟩
 | n+1,t,e=>by
  show ∃q:List (Kid (n+1)),putO t (way n t e.place) (fun c=>putT n c e) (show List (List (Kid n)) from t)[way n t e.place]?=Sq.halve q∨putO t (way n t e.place) (fun c=>putT n c e) (show List (List (Kid n)) from t)[way n t e.place]?=[t]
  cases (show List (List (Kid n)) from t)[way n t e.place]? with
  | none=>exact⟨[],Or.inr rfl⟩
  | some c=>exact⟨_,Or.inl rfl⟩
theorem jQqA {x:Tree}(h:x.ok)(e:Ent):(x.put e).ok∧(x.put e).ents=ins x.ents e:=by
 have hp:=jQmi x.d x.t e h.kids h.ne h.sorted
 obtain⟨hx,h1,h2⟩:=jQrL x.d x.t e h.kids h.ne h.sorted
 have hsi:=jQlW h.sorted e
 unfold Tree.put upT
 obtain⟨l,hl⟩:∃l,l=putT x.d x.t e:=⟨_,rfl⟩
 rw[←hl] at hp hx h1 h2 ⊢
 match l,hl,hp,hx,h1,h2 with
 | [],_,_,_,h1,_=>simp at h1
 | [y],hl,hp,hx,_,_ =>
  have he:(⟨x.d,y⟩:Tree).ents=ins x.ents e:=by
   rw[←(show _=ins x.ents e from hp)]
   show Sq.ents x.d y=_
   simp
  refine⟨⟨(hx y (by simp)).1,?_,?_⟩,he⟩
  ·rcases h.two with h | h
   ·exact Or.inl h
   ·exact Or.inr ((hx y (by simp)).2 h)
  ·rw[he];exact hsi
 | y :: z :: r,hl,hp,hx,_,h2 =>
  have he:(⟨x.d+1,y :: z :: r⟩:Tree).ents=ins x.ents e:=hp
  have hlen:∀u∈y :: z :: r,2≤u.length:=by
   -- two parts: they come of five entries
   intro u hu
   have h5:=jQqC x.d x.t e
   obtain⟨q,hq | hq⟩:=h5
   ·rw[hq] at hl
    unfold Sq.halve at hl
    split at hl
    ·cases hl
    ·cases hl
     simp only[List.mem_cons,List.not_mem_nil,or_false] at hu
     rcases hu with rfl | rfl
     ·simp;omega
     ·simp;omega
   ·rw[hq] at hl;cases hl
  refine⟨⟨jQeu fun u hu=>⟨hlen u hu,(hx u hu).1⟩,Or.inr (by simp),?_⟩,he⟩
  rw[he];exact hsi
theorem jQq6 {x:Tree}(h:x.ok)(p:Int):(x.del p).ok∧(x.del p).ents=x.ents.filter (fun y=>y.place != p):=by
 obtain⟨d,t⟩:=x
 obtain⟨he,ho,hl⟩:=jQp0 d t p h.kids h.two h.sorted
 have hs:srt ((Sq.ents d t).filter (fun y=>y.place != p)):=List.Pairwise.filter _ h.sorted
 cases d with
 | zero=>exact⟨⟨trivial,Or.inl rfl,hs⟩,he⟩
 | succ n =>
  have h2:2≤t.length:=by rcases h.two with h | h;cases h;exact h
  show(match delT (n+1) t p with | [x]=>(⟨n,x⟩:Tree) | l=>⟨n+1,l⟩).ok∧(match delT (n+1) t p with | [x]=>(⟨n,x⟩:Tree) | l=>⟨n+1,l⟩).ents=_
  obtain⟨l,hq⟩:∃l,l=delT (n+1) t p:=⟨_,rfl⟩
  rw[←hq] at he ho hl ⊢
  match l,he,ho,hl with
  | [],_,_,hl=>simp at hl;omega
  | [y],he,ho,_ =>
   have hy:=jQ0 (n:=n) (cs:=[y]) ho (c:=y) (by simp)
   have he':(⟨n,y⟩:Tree).ents=(Sq.ents (n+1) t).filter (fun y=>y.place != p):=by
    rw[←he]
    show Sq.ents n y=List.flatMap (Sq.ents n) [y]
    simp
   exact⟨⟨hy.2,Or.inr hy.1,by rw[he'];exact hs⟩,he'⟩
  | y :: z :: r,he,ho,_=>exact⟨⟨ho,Or.inr (by simp),by rw[show(⟨n+1,y :: z :: r⟩:Tree).ents=_ from he];exact hs⟩,he⟩
theorem jQqc:tree0.ok:=⟨trivial,Or.inl rfl,List.Pairwise.nil⟩
end Sq
namespace Sq
def lowB:Nat→Int→List UInt8
 | 0,_=>[]
 | k+1,n=>UInt8.ofNat (n % 256).toNat :: lowB k (n / 256)
def pnum (n:Int)(k:Nat):ByteArray:=⟨(lowB k n).reverse.toArray⟩
def txt (t:ByteArray):ByteArray:=pnum t.size 1++t
structure Rd where
 rest:ByteArray
 short:Bool
def takeBad (r:Rd)(k:Int):Bool:=Decidable.decide (k < 0) || Decidable.decide ((r.rest.size:Int) < k) || r.short
def takeV (r:Rd)(k:Int):ByteArray:=if takeBad r k then nobytes else r.rest.extract 0 k.toNat
def takeN (r:Rd)(k:Int):Rd:=if takeBad r k then⟨r.rest,true⟩ else⟨r.rest.extract k.toNat r.rest.size,r.short⟩
def big (l:List UInt8):Int:=l.foldl (fun n b=>n * 256+(b.toNat:Int)) 0
def numV (r:Rd)(k:Int):Int:=big (takeV r k).data.toList
def txtV (r:Rd):ByteArray:=takeV (takeN r 1) (numV r 1)
def txtN (r:Rd):Rd:=takeN (takeN r 1) (numV r 1)
def doneR (r:Rd):Bool:=r.rest.toList.isEmpty && !r.short
def isNm (n:ByteArray):Bool:=Decidable.decide (1≤n.size) && Decidable.decide (n.size≤8)
def colV (r:Rd):Col:=⟨txtV (takeN r 1),numV r 1⟩
def colN (r:Rd):Rd:=txtN (takeN r 1)
def colGood (c:Col)(i:Nat):Bool:=isNm c.name && (c.kind==0 || (c.kind==1 && Decidable.decide (0 < i)))
structure ColsR where
 cols:List Col
 rd:Rd
 good:Bool
def colsR:Nat→Nat→Rd→List Col→ColsR
 | 0,_,r,acc=>⟨acc,r,true⟩
 | f+1,i,r,acc=>if colGood (colV r) i then colsR f (i+1) (colN r) (acc++[colV r]) else⟨acc++[colV r],colN r,false⟩
def tabHead (row:ByteArray):ByteArray×Int×Rd:=(txtV ⟨row,false⟩,numV (txtN ⟨row,false⟩) 1,takeN (txtN ⟨row,false⟩) 1)
def tabGood (row:ByteArray):Bool:=isNm (tabHead row).1 && Decidable.decide (1≤(tabHead row).2.1) && Decidable.decide ((tabHead row).2.1≤4)
def tabCols (row:ByteArray):ColsR:=if tabGood row then colsR (tabHead row).2.1.toNat 0 (tabHead row).2.2 [] else⟨[],(tabHead row).2.2,false⟩
def toTable (row:ByteArray):Option (ByteArray×List Col):=if(tabCols row).good && doneR (tabCols row).rd then some ((tabHead row).1,(tabCols row).cols) else none
structure CellsR where
 cells:List Val
 rd:Rd
 good:Bool
def cellStep (c:Col)(x:CellsR):CellsR :=
 if c.kind==1 then⟨x.cells++[⟨1,0,txtV x.rd⟩],txtN x.rd,x.good && Decidable.decide ((txtV x.rd).size≤12)⟩
 else⟨x.cells++[⟨0,numV x.rd 4 - 2147483648,nobytes⟩],takeN x.rd 4,x.good⟩
def cellsR (cols:List Col)(x:CellsR):CellsR:=cols.foldl (fun x c=>cellStep c x) x
def rowCells (cols:List Col)(key:Int)(row:ByteArray):CellsR:=cellsR (cols.drop 1) ⟨[⟨0,key,nobytes⟩],⟨row,false⟩,true⟩
def toCells (cols:List Col)(key:Int)(row:ByteArray):Option (List Val):=if(rowCells cols key row).good && doneR (rowCells cols key row).rd then some (rowCells cols key row).cells else none
def ofCol (c:Col):ByteArray:=pnum c.kind 1++txt c.name
def ofCols (b:ByteArray)(cols:List Col):ByteArray:=cols.foldl (fun b c=>b++ofCol c) b
def ofTable (name:ByteArray)(cols:List Col):ByteArray:=ofCols (txt name++pnum cols.length 1) cols
def ofVal (v:Val):ByteArray:=if v.kind==1 then txt v.text else pnum (v.number+2147483648) 4
def ofVals (b:ByteArray)(l:List Val):ByteArray:=l.foldl (fun b v=>b++ofVal v) b
def ofCells (l:List Val):ByteArray:=ofVals nobytes (l.drop 1)
def placeOf (t k:Int):Int:=t * 4294967296+k+2147483648
def keyAt (p:Int):Int:=p % 4294967296 - 2147483648
structure TabN where
 number:Int
 name:ByteArray
 cols:List Col
def tabOf (e:Ent):Option TabN:=(toTable e.row).map fun x=>⟨keyAt e.place,x.1,x.2⟩
def rowOf (cols:List Col)(e:Ent):Option (List Val):=toCells cols (keyAt e.place) e.row
theorem jQmM:∀(k:Nat) (n:Int),(lowB k n).length=k
 | 0,_=>rfl
 | k+1,n=>by rw[lowB,List.length_cons,jQmM k]
theorem jQt (n:Int)(k:Nat):(pnum n k).size=k:=by
 show(lowB k n).reverse.toArray.size=k
 simp[jQmM]
theorem jQcu (t:ByteArray):(txt t).size=t.size+1:=by
 unfold txt;rw[ByteArray.size_append,jQt];omega
theorem jQcO (r:Rd)(k:Int):(takeV r k).size≤r.rest.size∧(takeV r k).size≤k.toNat:=by
 unfold takeV
 split
 ·exact⟨Nat.zero_le _,Nat.zero_le _⟩
 ·simp only[ByteArray.size_extract];omega
theorem jQaJ (r:Rd)(k:Int):(takeN r k).rest.size≤r.rest.size:=by
 unfold takeN
 split
 ·exact Nat.le_refl _
 ·simp only[ByteArray.size_extract];omega
theorem jQdM (r:Rd):(txtN r).rest.size≤r.rest.size:=Nat.le_trans (jQaJ _ _) (jQaJ _ _)
theorem jQdL (r:Rd):(txtV r).size≤r.rest.size:=Nat.le_trans (jQcO _ _).1 (jQaJ _ _)
theorem jQsf:∀(l:List UInt8) (a:Int) (m:Nat),0≤a→a < (256:Int) ^ m→0≤l.foldl (fun n b=>n * 256+(b.toNat:Int)) a∧l.foldl (fun n b=>n * 256+(b.toNat:Int)) a < (256:Int) ^ (m+l.length)
 | [],a,m,h0,h1=>⟨h0,by simpa using h1⟩
 | b :: l,a,m,h0,h1=>by
  have hb:=b.toNat_lt
  have:=jQsf l (a * 256+(b.toNat:Int)) (m+1) (by omega) (by rw[Int.pow_succ];omega)
  rw[List.foldl_cons,List.length_cons,show m+(l.length+1)=m+1+l.length by omega]
  exact this
theorem jQrm (l:List UInt8):0≤big l∧big l < (256:Int) ^ l.length:=by
 have:=jQsf l 0 0 (by omega) (by decide)
 simpa[big] using this
theorem jQrW (r:Rd)(k:Nat)(hk:k≤4):0≤numV r k∧numV r k < 4294967296∧(k=1→numV r k < 256):=by
 have h:=jQrm (takeV r k).data.toList
 have hs:=(jQcO r k).2
 have hl:(takeV r k).data.toList.length≤k:=by
  have:(takeV r k).data.toList.length=(takeV r k).size:=Array.length_toList
  rw[this];rw[Int.toNat_natCast] at hs;exact hs
 unfold numV
 have mono:∀a b:Nat,a≤b→(256:Int) ^ a≤(256:Int) ^ b:=fun a b hab=>by
  have:=Nat.pow_le_pow_right (n:=256) (by decide) hab
  have e:∀m:Nat,(256:Int) ^ m=((256 ^ m:Nat):Int):=fun m=>by simp
  rw[e,e];exact Int.ofNat_le.2 this
 have h4:=mono _ 4 (Nat.le_trans hl hk)
 refine⟨h.1,?_,fun h1=>?_⟩
 ·have:(256:Int) ^ 4=4294967296:=by decide
  omega
 ·subst h1
  have h5:=mono _ 1 hl
  have:(256:Int) ^ 1=256:=by decide
  omega
theorem jQka:∀(f i:Nat) (r:Rd) (acc:List Col),(colsR f i r acc).cols.length≤acc.length+f
 | 0,_,_,_=>Nat.le_refl _
 | f+1,i,r,acc=>by
  rw[colsR]
  split
  ·have:=jQka f (i+1) (colN r) (acc++[colV r])
   simp at this;omega
  ·simp
theorem jQkq (row:ByteArray):(tabCols row).cols.length≤4:=by
 unfold tabCols
 split
 ·rename_i h
  have:=jQka (tabHead row).2.1.toNat 0 (tabHead row).2.2 []
  unfold tabGood at h
  simp at h
  simp at this
  omega
 ·simp
theorem jQee {row:ByteArray}{x:ByteArray×List Col}(h:toTable row=some x):x.2.length≤4:=by
 unfold toTable at h
 split at h
 ·cases h;exact jQkq row
 ·cases h
theorem jQhS:∀(cols:List Col) (x:CellsR),(cellsR cols x).cells.length=x.cells.length+cols.length
 | [],_=>rfl
 | c :: q,x=>by
  have:=jQhS q (cellStep c x)
  unfold cellsR at this ⊢
  rw[List.foldl_cons,this]
  unfold cellStep
  split <;> simp <;> omega
theorem jQkd:∀(cols:List Col) (x:CellsR),x.rd.rest.size≤1000→(∀v∈x.cells,v.text.size≤1000∧-100000000000≤v.number∧v.number≤100000000000)→∀v∈(cellsR cols x).cells,v.text.size≤1000∧-100000000000≤v.number∧v.number≤100000000000
 | [],_,_,h=>h
 | c :: q,x,hs,h=>by
  have:=jQkd q (cellStep c x)
  unfold cellsR at this ⊢
  rw[List.foldl_cons]
  refine this ?_ ?_
  ·unfold cellStep
   split
   ·exact Nat.le_trans (jQdM _) hs
   ·exact Nat.le_trans (jQaJ _ _) hs
  ·unfold cellStep
   split
   ·intro v hv
    rcases List.mem_append.1 hv with hv | hv
    ·exact h v hv
    ·rw[List.mem_singleton.1 hv]
     exact⟨Nat.le_trans (jQdL _) hs,by show(-100000000000:Int)≤0;decide,by show(0:Int)≤100000000000;decide⟩
   ·intro v hv
    rcases List.mem_append.1 hv with hv | hv
    ·exact h v hv
    ·rw[List.mem_singleton.1 hv]
     have:=jQrW x.rd 4 (Nat.le_refl _)
     refine⟨by show nobytes.size≤1000;decide,?_,?_⟩
     ·show(-100000000000:Int)≤numV x.rd 4 - 2147483648
      have h1:0≤numV x.rd 4:=this.1
      omega
     ·show numV x.rd 4 - 2147483648≤100000000000
      have h1:numV x.rd 4 < 4294967296:=this.2.1
      omega
end Sq
structure Sq.Head where
 inner:Bool
 least:Int
 rows:Int
 sl:ByteArray
 num:Int
structure Sq.NodeF (α:Type) where
 hd:Sq.Head
 ents:List Sq.Ent
 kids:List α
abbrev Sq.Nd:Nat→Type
 | 0=>Sq.NodeF Empty
 | n+1=>Sq.NodeF (Sq.Nd n)
structure Sq.Trl where
 lost:Bool
 nums:List Int
namespace Sq
def headN:(n:Nat)→Nd n→Head
 | 0,t=>NodeF.hd t
 | _+1,t=>NodeF.hd t
def isShut (h:Head):Bool:=h.sl.size != 0
def touchedR (tr:Trl)(h:Head):Bool:=tr.nums.any (·==h.num)
def touchR (tr:Trl)(h:Head):Trl :=
 ⟨tr.lost || isShut h,if Decidable.decide (0 < h.num) && !touchedR tr h then tr.nums++[h.num] else tr.nums⟩
def firstPlace:List Ent→Int
 | []=>0
 | e :: _=>e.place
def firstLeast {α:Type}(f:α→Head):List α→Int
 | []=>0
 | c :: _=>(f c).least
def sumRows2 {α:Type}(f:α→Head)(l:List α):Int:=(l.map fun c=>(f c).rows).sum
def leafF {α:Type}(es:List Ent):NodeF α:=⟨⟨false,firstPlace es,es.length,nobytes,0⟩,es,[]⟩
def innerF {α:Type}(f:α→Head)(cs:List α):NodeF α:=⟨⟨true,firstLeast f cs,sumRows2 f cs,nobytes,0⟩,[],cs⟩
def leavesF {α:Type}(es:List Ent):List (NodeF α):=(halve es).map leafF
def innersF {α:Type}(f:α→Head)(cs:List α):List (NodeF α):=(halve cs).map (innerF f)
def sizeF {α:Type}(t:NodeF α):Nat:=if t.hd.inner then t.kids.length else t.ents.length
def wayFromF {α:Type}(f:α→Head)(p:Int):List α→Nat→Nat→Nat
 | [],_,a=>a
 | c :: r,i,a=>wayFromF f p r (i+1) (if(f c).least≤p then i else a)
def wayF {α:Type}(f:α→Head)(cs:List α)(p:Int):Nat:=wayFromF f p (cs.drop 1) 1 0
def hasF {α:Type}(f:α→Head)(g:α→Int→Trl→Bool×Trl)(t:NodeF α)(p:Int)(tr:Trl):Bool×Trl :=
 if t.hd.inner then
  match t.kids[wayF f t.kids p]? with
  | some c=>g c p (touchR tr t.hd)
  | none=>(false,touchR tr t.hd)
 else(t.ents.any (fun e=>e.place==p),touchR tr t.hd)
def hasN:(n:Nat)→Nd n→Int→Trl→Bool×Trl
 | 0,t=>hasF (fun e:Empty=>e.elim) (fun e:Empty=>e.elim) t
 | n+1,t=>hasF (headN n) (hasN n) t
def inSpan (lo hi:Int)(e:Ent):Bool:=Decidable.decide (lo≤e.place) && Decidable.decide (e.place≤hi)
def nextLowF {α:Type}(f:α→Head)(lo:Int):List α→Bool
 | []=>true
 | d :: _=>Decidable.decide (lo < (f d).least)
def thruL {α:Type}(f:α→Head)(g:α→Trl→List Ent×Trl)(lo hi:Int):List α→List Ent×Trl→List Ent×Trl
 | [],x=>x
 | c :: r,x=>if Decidable.decide ((f c).least≤hi) && nextLowF f lo r then thruL f g lo hi r (x.1++(g c x.2).1,(g c x.2).2) else thruL f g lo hi r x
def thruF {α:Type}(f:α→Head)(g:α→Int→Int→Trl→List Ent×Trl)(t:NodeF α)(lo hi:Int)(tr:Trl):List Ent×Trl :=
 thruL f (fun c=>g c lo hi) lo hi t.kids (t.ents.filter (inSpan lo hi),touchR tr t.hd)
def thruN:(n:Nat)→Nd n→Int→Int→Trl→List Ent×Trl
 | 0,t=>thruF (fun e:Empty=>e.elim) (fun e:Empty=>e.elim) t
 | n+1,t=>thruF (headN n) (thruN n) t
def putF {α:Type}(f:α→Head)(g:α→Ent→Trl→List α×Trl)(t:NodeF α)(e:Ent)(tr:Trl):List (NodeF α)×Trl :=
 if t.hd.inner then
  match t.kids[wayF f t.kids e.place]? with
  | some c=>(innersF f (exch t.kids (wayF f t.kids e.place) 1 (g c e (touchR tr t.hd)).1),(g c e (touchR tr t.hd)).2)
  | none=>(leavesF [e],touchR tr t.hd)
 else(leavesF (withE t.ents e),touchR tr t.hd)
def putN:(n:Nat)→Nd n→Ent→Trl→List (Nd n)×Trl
 | 0,t=>putF (fun e:Empty=>e.elim) (fun e:Empty=>e.elim) t
 | n+1,t=>putF (headN n) (putN n) t
def sizeN:(n:Nat)→Nd n→Nat
 | 0,t=>sizeF t
 | _+1,t=>sizeF t
def togetherF {α:Type}(f:α→Head)(l r:NodeF α):List (NodeF α) :=
 if l.hd.inner then innersF f (l.kids++r.kids) else leavesF (l.ents++r.ents)
def togetherN:(n:Nat)→Nd n→Nd n→List (Nd n)
 | 0,l,r=>togetherF (fun e:Empty=>e.elim) l r
 | n+1,l,r=>togetherF (headN n) l r
def joinAt (len a:Nat):Nat:=if a+1==len then a - 1 else a
def joinedF {α:Type}(f:α→Head)(tg:α→α→List α)(cs:List α)(a:Nat)(tr:Trl):List α×Trl :=
 if a+1==cs.length && a==0 then(cs,tr)
 else match cs[joinAt cs.length a]?,cs[joinAt cs.length a+1]? with
  | some l,some r=>(exch cs (joinAt cs.length a) 2 (tg l r),touchR (touchR tr (f l)) (f r))
  | _,_=>(cs,tr)
def delF {α:Type}(f:α→Head)(sz:α→Nat)(tg:α→α→List α)(g:α→Int→Trl→α×Trl)(t:NodeF α)(p:Int)(tr:Trl):NodeF α×Trl :=
 if t.hd.inner then
  match t.kids[wayF f t.kids p]? with
  | some c =>
   if sz (g c p (touchR tr t.hd)).1 < 2 then
    (innerF f (joinedF f tg (exch t.kids (wayF f t.kids p) 1 [(g c p (touchR tr t.hd)).1]) (wayF f t.kids p) (g c p (touchR tr t.hd)).2).1,
     (joinedF f tg (exch t.kids (wayF f t.kids p) 1 [(g c p (touchR tr t.hd)).1]) (wayF f t.kids p) (g c p (touchR tr t.hd)).2).2)
   else(innerF f (exch t.kids (wayF f t.kids p) 1 [(g c p (touchR tr t.hd)).1]),(g c p (touchR tr t.hd)).2)
  | none=>(t,touchR tr t.hd)
 else(leafF (t.ents.filter fun e=>e.place != p),touchR tr t.hd)
def delN:(n:Nat)→Nd n→Int→Trl→Nd n×Trl
 | 0,t=>delF (fun e:Empty=>e.elim) (fun e:Empty=>e.elim) (fun e:Empty=>e.elim) (fun e:Empty=>e.elim) t
 | n+1,t=>delF (headN n) (sizeN n) (togetherN n) (delN n) t
structure NTree where
 d:Nat
 t:Nd d
def ntree0:NTree:=⟨0,(⟨⟨false,0,0,nobytes,0⟩,[],[]⟩:NodeF Empty)⟩
def NTree.head (x:NTree):Head:=headN x.d x.t
def upN (n:Nat):List (Nd n)→NTree
 | [x]=>⟨n,x⟩
 | l=>⟨n+1,innerF (headN n) l⟩
def NTree.put (x:NTree)(e:Ent)(tr:Trl):NTree×Trl:=(upN x.d (putN x.d x.t e tr).1,(putN x.d x.t e tr).2)
def downN:(n:Nat)→Nd n→NTree
 | 0,t=>⟨0,t⟩
 | n+1,t=>if(NodeF.hd t).inner then(match NodeF.kids t with | [c]=>⟨n,c⟩ | _=>⟨n+1,t⟩) else⟨n+1,t⟩
def NTree.del (x:NTree)(p:Int)(tr:Trl):NTree×Trl:=(downN x.d (delN x.d x.t p tr).1,(delN x.d x.t p tr).2)
def NTree.has (x:NTree)(p:Int)(tr:Trl):Bool×Trl:=hasN x.d x.t p tr
def NTree.thru (x:NTree)(lo hi:Int)(tr:Trl):List Ent×Trl:=thruN x.d x.t lo hi tr
def numbL {α:Type}(g:α→Int→α×Int):List α→Int→List α×Int
 | [],k=>([],k)
 | c :: r,k=>((g c k).1 :: (numbL g r (g c k).2).1,(numbL g r (g c k).2).2)
def numF {α:Type}(g:α→Int→α×Int)(t:NodeF α)(k:Int):NodeF α×Int :=
 (⟨{ t.hd with num:=k },t.ents,(numbL g t.kids (k+1)).1⟩,(numbL g t.kids (k+1)).2)
def numN:(n:Nat)→Nd n→Int→Nd n×Int
 | 0,t=>numF (fun e:Empty=>e.elim) t
 | n+1,t=>numF (numN n) t
def NTree.numbered (x:NTree):NTree:=⟨x.d,(numN x.d x.t 1).1⟩
def entBytes (e:Ent):ByteArray:=pnum e.place 5++txt e.row
def kidBytes (h:Head)(b:ByteArray):ByteArray:=pnum h.least 5++pnum h.rows 1++b
def writtenF {α:Type}(f:α→Head)(t:NodeF α)(below:List ByteArray):ByteArray :=
 ((t.kids.zip below).map fun x=>kidBytes (f x.1) x.2).foldl (·++·) ((t.ents.map entBytes).foldl (·++·) (pnum (if t.hd.inner then 2 else 1) 1++pnum (sizeF t) 1))
end Sq
namespace Sq
def eraseH (h:Head):Head:={ h with num:=0 }
def eraseF {α:Type}(g:α→α)(t:NodeF α):NodeF α:=⟨eraseH t.hd,t.ents,t.kids.map g⟩
def eraseN:(n:Nat)→Nd n→Nd n
 | 0,t=>eraseF (fun e:Empty=>e.elim) t
 | n+1,t=>eraseF (eraseN n) t
def toNd:(n:Nat)→List (Kid n)→Nd n
 | 0,es=>leafF es
 | n+1,cs=>innerF (headN n) (List.map (toNd n) (show List (List (Kid n)) from cs))
def rep (n:Nat)(t:Nd n)(x:List (Kid n)):Prop:=eraseN n t=toNd n x
def reps (n:Nat)(l:List (Nd n))(cs:List (List (Kid n))):Prop:=l.map (eraseN n)=cs.map (toNd n)
theorem jQpK {α β:Type}(g:α→List β):∀l:List α,((l.map fun c=>((g c).length:Int)).sum)=((l.flatMap g).length:Int)
 | []=>rfl
 | c :: r=>by
  rw[List.map_cons,List.sum_cons,jQpK g r,List.flatMap_cons,List.length_append]
  omega
theorem jQgr:∀(n:Nat) (x:List (Kid n)),headN n (toNd n x)=⟨n != 0,least n x,((ents n x).length:Nat),nobytes,0⟩
 | 0,es=>by
  show(leafF (α:=Empty) es).hd=_
  unfold leafF
  cases es with
  | nil=>rfl
  | cons e r=>rfl
 | n+1,cs=>by
  show(innerF (headN n) (List.map (toNd n) (show List (List (Kid n)) from cs))).hd=_
  unfold innerF sumRows2
  rw[List.map_map]
  have h1:((fun c=>(headN n c).rows) ∘ toNd n)=fun c=>((ents n c).length:Int):=by
   funext c
   show(headN n (toNd n c)).rows=_
   rw[jQgr n c]
  rw[h1,jQpK]
  have h2:firstLeast (headN n) (List.map (toNd n) (show List (List (Kid n)) from cs))=least (n+1) cs:=by
   cases (show List (List (Kid n)) from cs) with
   | nil=>rfl
   | cons c r =>
    show(headN n (toNd n c)).least=least n c
    rw[jQgr n c]
  rw[h2]
  rfl
theorem jQeO:∀(n:Nat) (t:Nd n),headN n (eraseN n t)=eraseH (headN n t)
 | 0,_=>rfl
 | _+1,_=>rfl
theorem rep.head {n:Nat}{t:Nd n}{x:List (Kid n)}(h:rep n t x):(headN n t).inner=(n != 0)∧(headN n t).least=least n x∧(headN n t).rows=((ents n x).length:Nat)∧(headN n t).sl=nobytes:=by
 have h1:=jQeO n t
 rw[h,jQgr] at h1
 have h2:∀{a b:Head},a=eraseH b→b.inner=a.inner∧b.least=a.least∧b.rows=a.rows∧b.sl=a.sl:=by
  intro a b hab
  subst hab
  exact⟨rfl,rfl,rfl,rfl⟩
 exact h2 h1
theorem rep.open {n:Nat}{t:Nd n}{x:List (Kid n)}(h:rep n t x):isShut (headN n t)=false:=by
 unfold isShut
 rw[h.head.2.2.2]
 rfl
theorem rep.leaf {t:NodeF Empty}{es:List Ent}(h:rep 0 t es):t.hd.inner=false∧t.ents=es∧t.kids=[]:=by
 have h1:=h.head
 have h2:(eraseF (fun e:Empty=>e.elim) t).ents=(leafF (α:=Empty) es).ents:=congrArg NodeF.ents h
 refine⟨h1.1,h2,?_⟩
 cases hk:t.kids with
 | nil=>rfl
 | cons e _=>exact e.elim
theorem rep.inner {n:Nat}{t:NodeF (Nd n)}{cs:List (List (Kid n))}(h:rep (n+1) t cs):t.hd.inner=true∧t.ents=[]∧reps n t.kids cs:=by
 have h1:=h.head
 have h2:(eraseF (eraseN n) t).ents=(innerF (headN n) (List.map (toNd n) cs)).ents:=congrArg NodeF.ents h
 have h3:(eraseF (eraseN n) t).kids=(innerF (headN n) (List.map (toNd n) cs)).kids:=congrArg NodeF.kids h
 exact⟨by have h4:t.hd.inner=(n+1 != 0):=h1.1;simpa using h4,h2,h3⟩
theorem reps.len {n:Nat}{l:List (Nd n)}{cs:List (List (Kid n))}(h:reps n l cs):l.length=cs.length:=by
 have:=congrArg List.length h
 simpa using this
theorem reps.at {n:Nat}{l:List (Nd n)}{cs:List (List (Kid n))}(h:reps n l cs){i:Nat}{c:Nd n}(hc:l[i]?=some c):∃x,cs[i]?=some x∧rep n c x:=by
 have h1:(l.map (eraseN n))[i]?=(cs.map (toNd n))[i]?:=by rw[h]
 rw[List.getElem?_map,List.getElem?_map,hc] at h1
 cases hx:cs[i]? with
 | none=>rw[hx] at h1;simp at h1
 | some x=>rw[hx] at h1;simp at h1;exact⟨x,rfl,h1⟩
theorem reps.none {n:Nat}{l:List (Nd n)}{cs:List (List (Kid n))}(h:reps n l cs){i:Nat}(hc:l[i]?=none):cs[i]?=none:=by
 rw[List.getElem?_eq_none_iff] at hc ⊢
 rw[←h.len]
 exact hc
theorem reps.cons {n:Nat}{c:Nd n}{l:List (Nd n)}{x:List (Kid n)}{cs:List (List (Kid n))}:reps n (c :: l) (x :: cs)↔rep n c x∧reps n l cs:=by
 unfold reps rep
 rw[List.map_cons,List.map_cons,List.cons.injEq]
theorem reps.take {n:Nat}{l:List (Nd n)}{cs:List (List (Kid n))}(h:reps n l cs)(k:Nat):reps n (l.take k) (cs.take k):=by
 unfold reps
 rw[List.map_take,List.map_take,h]
theorem reps.drop {n:Nat}{l:List (Nd n)}{cs:List (List (Kid n))}(h:reps n l cs)(k:Nat):reps n (l.drop k) (cs.drop k):=by
 unfold reps
 rw[List.map_drop,List.map_drop,h]
theorem reps.append {n:Nat}{l m:List (Nd n)}{cs ds:List (List (Kid n))}(h:reps n l cs)(k:reps n m ds):reps n (l++m) (cs++ds):=by
 unfold reps
 rw[List.map_append,List.map_append,h,k]
theorem reps.one {n:Nat}{c:Nd n}{x:List (Kid n)}(h:rep n c x):reps n [c] [x]:=by
 unfold reps
 rw[List.map_singleton,List.map_singleton,h]
theorem reps.exch {n:Nat}{l o:List (Nd n)}{cs ds:List (List (Kid n))}(h:reps n l cs)(k:reps n o ds)(a m:Nat):reps n (exch l a m o) (exch cs a m ds):=((h.take a).append k).append (h.drop (a+m))
theorem jQeb {n:Nat}(p:Int):∀{l:List (Nd n)} {cs:List (List (Kid n))},reps n l cs→∀i a,wayFromF (headN n) p l i a=wayFrom n p cs i a
 | [],[],_,_,_=>rfl
 | [],x :: cs,h,_,_=>by have:=h.len;simp at this
 | c :: l,[],h,_,_=>by have:=h.len;simp at this
 | c :: l,x :: cs,h,i,a=>by
  obtain⟨h1,h2⟩:=reps.cons.1 h
  rw[wayFromF,wayFrom,h1.head.2.1]
  exact jQeb p h2 _ _
theorem jQh4 {n:Nat}(p:Int){l:List (Nd n)}{cs:List (List (Kid n))}(h:reps n l cs):wayF (headN n) l p=way n cs p:=jQeb p (h.drop 1) 1 0
theorem jQpT:∀(n:Nat) (t:Nd n) (x:List (Kid n)) (p:Int) (tr:Trl),rep n t x→(hasN n t p tr).1=hasT n x p
 | 0,t,x,p,tr,h=>by
  obtain⟨h1,h2,-⟩:=rep.leaf h
  show(hasF _ _ t p tr).1=_
  unfold hasF
  rw[h1,h2]
  rfl
 | n+1,t,x,p,tr,h=>by
  obtain⟨h1,-,h3⟩:=rep.inner h
  show(hasF (headN n) (hasN n) t p tr).1=hasO (fun c=>hasT n c p) (show List (List (Kid n)) from x)[way n x p]?
  unfold hasF
  rw[h1,jQh4 p h3]
  simp only[if_true]
  cases hc:t.kids[way n x p]? with
  | none=>rw[h3.none hc];rfl
  | some c =>
   obtain⟨y,hy,hr⟩:=h3.at hc
   rw[hy]
   exact jQpT n c y p _ hr
theorem jQit {n:Nat}(lo:Int):∀{l:List (Nd n)} {cs:List (List (Kid n))},reps n l cs→nextLowF (headN n) lo l=nextLow n lo cs
 | [],[],_=>rfl
 | [],x :: cs,h=>by have:=h.len;simp at this
 | c :: l,[],h=>by have:=h.len;simp at this
 | c :: l,x :: cs,h=>by
  rw[nextLowF,nextLow,(reps.cons.1 h).1.head.2.1]
theorem jQef {n:Nat}(lo hi:Int)(g:Nd n→Trl→List Ent×Trl)(f:List (Kid n)→List Ent)(hg:∀c x tr,rep n c x→(g c tr).1=f x):∀{l:List (Nd n)} {cs:List (List (Kid n))},reps n l cs→∀y,(thruL (headN n) g lo hi l y).1=y.1++btwL n f lo hi cs
 | [],[],_,y=>by rw[thruL,btwL];simp
 | [],x :: cs,h,_=>by have:=h.len;simp at this
 | c :: l,[],h,_=>by have:=h.len;simp at this
 | c :: l,x :: cs,h,y=>by
  obtain⟨h1,h2⟩:=reps.cons.1 h
  rw[thruL,btwL,h1.head.2.1,jQit lo h2]
  split
  ·rw[jQef lo hi g f hg h2,hg c x _ h1,List.append_assoc]
  ·rw[jQef lo hi g f hg h2,List.nil_append]
theorem jQlH:∀(n:Nat) (t:Nd n) (x:List (Kid n)) (lo hi:Int) (tr:Trl),rep n t x→(thruN n t lo hi tr).1=btwT n x lo hi
 | 0,t,x,lo,hi,tr,h=>by
  obtain⟨h1,h2,h3⟩:=rep.leaf h
  show(thruF _ _ t lo hi tr).1=_
  unfold thruF
  rw[h2,h3,thruL]
  rfl
 | n+1,t,x,lo,hi,tr,h=>by
  obtain⟨h1,h2,h3⟩:=rep.inner h
  show(thruF (headN n) (thruN n) t lo hi tr).1=btwL n (fun c=>btwT n c lo hi) lo hi x
  unfold thruF
  rw[jQef lo hi _ (fun c=>btwT n c lo hi) (fun c y tr hr=>jQlH n c y lo hi tr hr) h3,h2]
  rfl
theorem jQim (es:List Ent):rep 0 (leafF (α:=Empty) es) es:=by
 show eraseF _ (leafF (α:=Empty) es)=leafF es
 rfl
theorem jQkR {n:Nat}{l:List (Nd n)}{cs:List (List (Kid n))}(h:reps n l cs):(innerF (headN n) l).hd=(innerF (headN n) (cs.map (toNd n))).hd:=by
 have h1:∀(a b:List (Nd n)),a.map (eraseN n)=b.map (eraseN n)→firstLeast (headN n) a=firstLeast (headN n) b∧sumRows2 (headN n) a=sumRows2 (headN n) b:=by
  intro a b hab
  have hh:∀c d:Nd n,eraseN n c=eraseN n d→(headN n c).least=(headN n d).least∧(headN n c).rows=(headN n d).rows:=by
   intro c d hcd
   have h2:=jQeO n c
   rw[hcd,jQeO n d] at h2
   exact⟨(congrArg Head.least h2).symm,(congrArg Head.rows h2).symm⟩
  refine⟨?_,?_⟩
  ·cases a with
   | nil=>cases b with
    | nil=>rfl
    | cons d r=>simp at hab
   | cons c q=>cases b with
    | nil=>simp at hab
    | cons d r=>simp at hab;exact(hh c d hab.1).1
  ·unfold sumRows2
   have h3:∀(a b:List (Nd n)),a.map (eraseN n)=b.map (eraseN n)→(a.map fun c=>(headN n c).rows)=(b.map fun c=>(headN n c).rows):=by
    intro a
    induction a with
    | nil=>intro b hb;cases b with
     | nil=>rfl
     | cons d r=>simp at hb
    | cons c q ih=>intro b hb;cases b with
     | nil=>simp at hb
     | cons d r =>
      rw[List.map_cons,List.map_cons,List.cons.injEq] at hb
      rw[List.map_cons,List.map_cons,(hh c d hb.1).2,ih r hb.2]
   rw[h3 a b hab]
 have h2:∀(m:Nat) (x:List (Kid m)),eraseN m (toNd m x)=toNd m x:=by
  intro m
  induction m with
  | zero=>intro x;rfl
  | succ m ih =>
   intro x
   show eraseF (eraseN m) (innerF (headN m) (List.map (toNd m) (show List (List (Kid m)) from x)))=innerF (headN m) (List.map (toNd m) (show List (List (Kid m)) from x))
   unfold eraseF innerF
   dsimp only
   rw[List.map_map,show(eraseN m ∘ toNd m)=toNd m from funext fun c=>ih c]
   rfl
 have h3:=h1 l (cs.map (toNd n)) (by rw[List.map_map,show(eraseN n ∘ toNd n)=toNd n from funext fun c=>h2 n c];exact h)
 unfold innerF
 dsimp only
 rw[h3.1,h3.2]
theorem jQbz {n:Nat}{l:List (Nd n)}{cs:List (List (Kid n))}(h:reps n l cs):rep (n+1) (innerF (headN n) l) cs:=by
 have h1:=jQkR h
 show eraseF (eraseN n) (innerF (headN n) l)=innerF (headN n) (List.map (toNd n) cs)
 unfold eraseF
 rw[h1]
 show(⟨_,[],l.map (eraseN n)⟩:NodeF (Nd n))=⟨_,[],cs.map (toNd n)⟩
 rw[h]
 rfl
theorem jQfE (es:List Ent):reps 0 (leavesF (α:=Empty) es) (halve es):=by
 unfold reps leavesF
 rw[List.map_map]
 refine List.map_congr_left fun x _=>?_
 exact jQim x
theorem jQfF {n:Nat}{l:List (Nd n)}{cs:List (List (Kid n))}(h:reps n l cs):reps (n+1) (innersF (headN n) l) (halve cs):=by
 unfold innersF halve
 rw[h.len]
 split
 ·exact reps.one (jQbz h)
 ·exact(reps.one (jQbz (h.take 3))).append (reps.one (jQbz (h.drop 3)))
theorem jQft {α:Type}(f:α→Head)(p:Int):∀(l:List α) (i a:Nat),a < i→wayFromF f p l i a < i+l.length
 | [],i,a,h=>by rw[wayFromF];simpa using h
 | c :: r,i,a,h=>by
  rw[wayFromF,List.length_cons]
  have h1:=jQft f p r (i+1) (if(f c).least≤p then i else a) (by split <;> omega)
  omega
theorem jQi4 {α:Type}(f:α→Head)(l:List α)(p:Int)(h:l≠[]):wayF f l p < l.length:=by
 unfold wayF
 have h1:=jQft f p (l.drop 1) 1 0 (by omega)
 have h2:0 < l.length:=List.length_pos_iff.2 h
 rw[List.length_drop] at h1
 omega
theorem jQpL:∀(n:Nat) (t:Nd n) (x:List (Kid n)) (e:Ent) (tr:Trl),rep n t x→okT n x→(n=0∨x≠[])→reps n (putN n t e tr).1 (putT n x e)
 | 0,t,x,e,tr,h,_,_=>by
  obtain⟨h1,h2,-⟩:=rep.leaf h
  show reps 0 (putF _ _ t e tr).1 (halve (withE x e))
  unfold putF
  rw[h1,h2]
  exact jQfE _
 | n+1,t,x,e,tr,h,ho,hne=>by
  obtain⟨h1,-,h3⟩:=rep.inner h
  have hwp:=jQh4 e.place h3
  have hlt:way n x e.place < t.kids.length:=by
   rw[←hwp]
   refine jQi4 _ _ _ fun h0=>?_
   have hl:=h3.len
   rw[h0] at hl
   rcases hne with hne | hne
   ·omega
   ·exact hne (List.length_eq_zero_iff.1 hl.symm)
  show reps (n+1) (putF (headN n) (putN n) t e tr).1 (putO x (way n x e.place) (fun c=>putT n c e) ((show List (List (Kid n)) from x)[way n x e.place]?))
  unfold putF
  rw[h1,hwp]
  simp only[if_true]
  rw[List.getElem?_eq_getElem hlt]
  obtain⟨y,hy,hr⟩:=h3.at (List.getElem?_eq_getElem hlt)
  rw[hy]
  have hok:=jQ0 ho (List.mem_of_getElem? hy)
  exact jQfF (h3.exch (jQpL n _ y e _ hr hok.2 (Or.inr (jQaF hok.1))) _ _)
theorem jQql:∀(n:Nat) (t:Nd n) (x:List (Kid n)),rep n t x→sizeN n t=x.length
 | 0,t,x,h=>by
  obtain⟨h1,h2,-⟩:=rep.leaf h
  show sizeF t=_
  unfold sizeF
  rw[h1,h2]
  rfl
 | n+1,t,x,h=>by
  obtain⟨h1,-,h3⟩:=rep.inner h
  show sizeF t=_
  unfold sizeF
  rw[h1]
  exact h3.len
theorem jQh9:∀(n:Nat) (l r:Nd n) (x y:List (Kid n)),rep n l x→rep n r y→reps n (togetherN n l r) (halve (x++y))
 | 0,l,r,x,y,hl,hr=>by
  obtain⟨h1,h2,-⟩:=rep.leaf hl
  obtain⟨-,k2,-⟩:=rep.leaf hr
  show reps 0 (togetherF _ l r) _
  unfold togetherF
  rw[h1,h2,k2]
  exact jQfE _
 | n+1,l,r,x,y,hl,hr=>by
  obtain⟨h1,-,h3⟩:=rep.inner hl
  obtain⟨-,-,k3⟩:=rep.inner hr
  show reps (n+1) (togetherF (headN n) l r) _
  unfold togetherF
  rw[h1]
  exact jQfF (h3.append k3)
theorem jQm3 {n:Nat}{l:List (Nd n)}{cs:List (List (Kid n))}(h:reps n l cs)(a:Nat)(tr:Trl):reps n (joinedF (headN n) (togetherN n) l a tr).1 (joinK cs a):=by
 unfold joinedF joinK joinAt
 rw[h.len]
 split
 ·rename_i h0
  rw[Bool.and_eq_true,beq_iff_eq,beq_iff_eq] at h0
  obtain⟨h1,rfl⟩:=h0
  have e1:cs[(if 0+1==cs.length then 0 - 1 else 0)+1]?=none:=by
   rw[List.getElem?_eq_none_iff]
   split <;> omega
  rw[e1]
  cases cs[if 0+1==cs.length then 0 - 1 else 0]? <;> exact h
 ·generalize (if a+1==cs.length then a - 1 else a)=b
  cases hl:l[b]? with
  | none =>
   rw[h.none hl]
   exact h
  | some c =>
   obtain⟨y,hy,hr⟩:=h.at hl
   rw[hy]
   cases hl2:l[b+1]? with
   | none =>
    rw[h.none hl2]
    exact h
   | some d =>
    obtain⟨z,hz,hq⟩:=h.at hl2
    rw[hz]
    exact h.exch (jQh9 n c d y z hr hq) b 2
theorem jQpZ:∀(n:Nat) (t:Nd n) (x:List (Kid n)) (p:Int) (tr:Trl),rep n t x→rep n (delN n t p tr).1 (delT n x p)
 | 0,t,x,p,tr,h=>by
  obtain⟨h1,h2,-⟩:=rep.leaf h
  show rep 0 (delF _ _ _ _ t p tr).1 _
  unfold delF
  rw[h1,h2]
  exact jQim _
 | n+1,t,x,p,tr,h=>by
  obtain⟨h1,-,h3⟩:=rep.inner h
  show rep (n+1) (delF (headN n) (sizeN n) (togetherN n) (delN n) t p tr).1 (delO x (way n x p) (fun c=>delT n c p) (show List (List (Kid n)) from x)[way n x p]?)
  unfold delF
  rw[h1,jQh4 p h3]
  simp only[if_true]
  cases hc:t.kids[way n x p]? with
  | none=>rw[h3.none hc];exact h
  | some c =>
   obtain⟨y,hy,hr⟩:=h3.at hc
   rw[hy]
   have hd:=jQpZ n c y p (touchR tr (NodeF.hd t)) hr
   have hz:=jQql n _ _ hd
   have he:=h3.exch (reps.one hd) (way n x p) 1
   show rep (n+1) _ (mended x (way n x p) (delT n y p))
   unfold mended
   dsimp only
   rw[hz]
   split
   ·exact jQbz (jQm3 he _ _)
   ·exact jQbz he
def repT (X:NTree)(x:Tree):Prop:=∃h:X.d=x.d,rep x.d (h ▸ X.t) x.t
theorem repT.mk' {n:Nat}{t:Nd n}{x:List (Kid n)}(h:rep n t x):repT ⟨n,t⟩ ⟨n,x⟩:=⟨rfl,h⟩
theorem repT.cases {X:NTree}{x:Tree}(h:repT X x):∃n t y,X=⟨n,t⟩∧x=⟨n,y⟩∧rep n t y:=by
 obtain⟨d,t⟩:=X
 obtain⟨e,y⟩:=x
 obtain⟨h1,h2⟩:=h
 dsimp only at h1
 subst h1
 exact⟨d,t,y,rfl,rfl,h2⟩
theorem repT0:repT ntree0 tree0:=repT.mk' (jQim [])
theorem repT.put {X:NTree}{x:Tree}(h:repT X x)(ho:x.ok)(e:Ent)(tr:Trl):repT (X.put e tr).1 (x.put e):=by
 obtain⟨n,t,y,rfl,rfl,hr⟩:=h.cases
 have hp:=jQpL n t y e tr hr ho.kids ho.ne
 show repT (upN n (putN n t e tr).1) (upT n (putT n y e))
 generalize (putN n t e tr).1=l at *
 generalize putT n y e=cs at *
 match l,cs,hp with
 | [],[],hp=>exact repT.mk' (jQbz (n:=n) hp)
 | [c],[z],hp=>exact repT.mk' (reps.cons.1 hp).1
 | c :: d :: q,z :: u :: r,hp=>exact repT.mk' (jQbz (n:=n) hp)
 | [],_ :: _,hp=>have:=hp.len;simp at this
 | _ :: _,[],hp=>have:=hp.len;simp at this
 | [c],_ :: _ :: _,hp=>have:=hp.len;simp at this
 | _ :: _ :: _,[z],hp=>have:=hp.len;simp at this
theorem repT.del {X:NTree}{x:Tree}(h:repT X x)(p:Int)(tr:Trl):repT (X.del p tr).1 (x.del p):=by
 obtain⟨n,t,y,rfl,rfl,hr⟩:=h.cases
 have hp:=jQpZ n t y p tr hr
 show repT (downN n (delN n t p tr).1) (downT n (delT n y p))
 generalize (delN n t p tr).1=t' at *
 generalize delT n y p=z at *
 match n,t',z,hp with
 | 0,t',z,hp=>exact repT.mk' hp
 | n+1,t',z,hp =>
  obtain⟨h1,h2,h3⟩:=rep.inner hp
  show repT (if(NodeF.hd t').inner then(match NodeF.kids t' with | [c]=>⟨n,c⟩ | _=>⟨n+1,t'⟩) else⟨n+1,t'⟩) (match (show List (List (Kid n)) from z) with | [x]=>⟨n,x⟩ | l=>⟨n+1,l⟩)
  rw[h1]
  simp only[if_true]
  match hk:NodeF.kids t',(show List (List (Kid n)) from z),hp,h3 with
  | [c],[w],hp,h3=>exact repT.mk' (reps.cons.1 h3).1
  | [],[],hp,h3=>exact repT.mk' hp
  | c :: d :: q,u :: v :: r,hp,h3=>exact repT.mk' hp
  | [],_ :: _,hp,h3=>have:=h3.len;simp at this
  | _ :: _,[],hp,h3=>have:=h3.len;simp at this
  | [c],_ :: _ :: _,hp,h3=>have:=h3.len;simp at this
  | _ :: _ :: _,[w],hp,h3=>have:=h3.len;simp at this
theorem repT.has {X:NTree}{x:Tree}(h:repT X x)(p:Int)(tr:Trl):(X.has p tr).1=hasT x.d x.t p:=by
 obtain⟨n,t,y,rfl,rfl,hr⟩:=h.cases
 exact jQpT n t y p tr hr
theorem repT.thru {X:NTree}{x:Tree}(h:repT X x)(lo hi:Int)(tr:Trl):(X.thru lo hi tr).1=btwT x.d x.t lo hi:=by
 obtain⟨n,t,y,rfl,rfl,hr⟩:=h.cases
 exact jQlH n t y lo hi tr hr
theorem jQjY:∀(n:Nat) (t:Nd n) (k:Int),eraseN n (numN n t k).1=eraseN n t
 | 0,t,k=>by
  show eraseF _ (numF _ t k).1=eraseF _ t
  unfold eraseF numF
  have h1:∀l:List Empty,l=[]:=fun l=>by cases l with | nil=>rfl | cons e _=>exact e.elim
  have h2:t.kids=[]:=h1 _
  rw[h2]
  rfl
 | n+1,t,k=>by
  show eraseF (eraseN n) (numF (numN n) t k).1=eraseF (eraseN n) t
  unfold eraseF numF
  have h1:∀(l:List (Nd n)) (k:Int),(numbL (numN n) l k).1.map (eraseN n)=l.map (eraseN n):=by
   intro l
   induction l with
   | nil=>intro k;rfl
   | cons c r ih =>
    intro k
    rw[numbL,List.map_cons,List.map_cons,ih,jQjY n c k]
  dsimp only
  rw[h1]
  rfl
theorem repT.numbered {X:NTree}{x:Tree}(h:repT X x):repT X.numbered x:=by
 obtain⟨n,t,y,rfl,rfl,hr⟩:=h.cases
 refine repT.mk' ?_
 unfold rep
 rw[jQjY]
 exact hr
end Sq
section
open Go.RowKit
def entCells (e:Sq.Ent):List Value:=[.int .i64 e.place,.string e.row]
def headCells (h:Sq.Head)(ev cv:Value):List Value:=[.bool h.inner,ev,cv,.int .i64 h.least,.int .i64 h.rows,.string h.sl,.int .i64 h.num]
def nodeCells (n:Nat)(x:Sq.Nd n×Value×Value):List Value:=headCells (Sq.headN n x.1) x.2.1 x.2.2
def EntsAt (B:Nat)(w:World)(v:Value)(es:List Sq.Ent):Prop:=w.ownsRow B 141 2 v es.length (es.flatMap entCells)
def offV (Z:Nat→Prop)(v:Value):Prop:=∀g o p k c,v=.slice (some ⟨g,o,p⟩) k c→¬Z g
def NodeAt (Z:Nat→Prop)(w:World):(n:Nat)→Sq.Nd n→Value→Value→Prop
 | 0,t,ev,cv=>EntsAt 0 w ev (Sq.NodeF.ents t)∧cv=.slice none 0 0
 | n+1,t,ev,cv=>EntsAt 0 w ev (Sq.NodeF.ents t)∧∃l:List (Sq.Nd n×Value×Value),Sq.NodeF.kids t=l.map Prod.fst∧w.ownsRow 0 60 7 cv l.length (l.flatMap (nodeCells n))∧offV Z cv∧∀x∈l,NodeAt Z w n x.1 x.2.1 x.2.2
variable {Z:Nat→Prop}
structure NodesAt (Z:Nat→Prop)(B:Nat)(w:World)(v:Value)(n:Nat)(l:List (Sq.Nd n×Value×Value)):Prop where
 own:w.ownsRow B 60 7 v l.length (l.flatMap (nodeCells n))
 each:∀x∈l,NodeAt Z w n x.1 x.2.1 x.2.2
theorem NodeAt.leaf {w:World}{t:Sq.NodeF Empty}{ev cv:Value}(h:NodeAt Z w 0 t ev cv):EntsAt 0 w ev t.ents∧cv=.slice none 0 0:=h
theorem NodeAt.inner {w:World}{n:Nat}{t:Sq.NodeF (Sq.Nd n)}{ev cv:Value}(h:NodeAt Z w (n+1) t ev cv):EntsAt 0 w ev t.ents∧∃l,t.kids=l.map Prod.fst∧NodesAt Z 0 w cv n l:=by
 obtain⟨h1,l,h2,h3,_,h4⟩:=h
 exact⟨h1,l,h2,h3,h4⟩
theorem jQce {B n:Nat}{w:World}{v:Value}{l:List (Sq.Nd n×Value×Value)}(h:NodesAt Z B w v n l)(hZ:∀g,B≤g→¬Z g):offV Z v:=by
 intro g o p k c hv
 rcases h.own.2 with⟨h0,_⟩ | ⟨g',cap,cur,hv',hbg,_⟩
 ·rw[h0] at hv;simp at hv
 ·rw[hv'] at hv
  simp only[Value.slice.injEq,Option.some.injEq,Addr.mk.injEq] at hv
  rw[←hv.1.1]
  exact hZ g' hbg
theorem NodeAt.mk {w:World}{n:Nat}{t:Sq.NodeF (Sq.Nd n)}{ev cv:Value}{l:List (Sq.Nd n×Value×Value)}(h0:EntsAt 0 w ev t.ents)(h1:t.kids=l.map Prod.fst)(h2:NodesAt Z 0 w cv n l)(hz:offV Z cv):NodeAt Z w (n+1) t ev cv:=⟨h0,l,h1,h2.own,hz,h2.each⟩
theorem EntsAt.below {B:Nat}{w w':World}{v:Value}{es:List Sq.Ent}(h:EntsAt B w v es)(hb:Below w.heap.size w w'):EntsAt B w' v es:=jQh h hb
theorem EntsAt.base {B B':Nat}{w:World}{v:Value}{es:List Sq.Ent}(h:EntsAt B w v es)(hb:B'≤B):EntsAt B' w v es:=jQi h hb
theorem EntsAt.nil (w:World):EntsAt 0 w (.slice none 0 0) []:=⟨rfl,Or.inl ⟨rfl,rfl⟩⟩
theorem NodeAt.below:∀{n:Nat} {w w':World} {t:Sq.Nd n} {ev cv:Value},NodeAt Z w n t ev cv→Below w.heap.size w w'→NodeAt Z w' n t ev cv
 | 0,_,_,_,_,_,h,hb=>⟨h.1.below hb,h.2⟩
 | _+1,_,_,_,_,_,h,hb=>by
  obtain⟨h1,l,h2,h3,hz,h4⟩:=h
  exact⟨h1.below hb,l,h2,jQh h3 hb,hz,fun x hx=>(h4 x hx).below hb⟩
theorem NodesAt.below {B n:Nat}{w w':World}{v:Value}{l:List (Sq.Nd n×Value×Value)}(h:NodesAt Z B w v n l)(hb:Below w.heap.size w w'):NodesAt Z B w' v n l:=⟨jQh h.own hb,fun x hx=>(h.each x hx).below hb⟩
theorem NodesAt.base {B B' n:Nat}{w:World}{v:Value}{l:List (Sq.Nd n×Value×Value)}(h:NodesAt Z B w v n l)(hb:B'≤B):NodesAt Z B' w v n l:=⟨jQi h.own hb,h.each⟩
theorem NodeAt.slices:∀{n:Nat} {w:World} {t:Sq.Nd n} {ev cv:Value},NodeAt Z w n t ev cv→(∃a k c,ev=.slice a k c)∧∃a k c,cv=.slice a k c
 | 0,_,_,_,_,h=>by
  obtain⟨a,c,h2⟩:=jQa h.1
  exact⟨⟨a,_,c,h2⟩,⟨none,0,0,h.2⟩⟩
 | n+1,_,_,_,_,h=>by
  obtain⟨h1,l,h2,h3,_,h4⟩:=h
  obtain⟨a,c,h5⟩:=jQa h3
  obtain⟨a',c',h6⟩:=jQa h1
  exact⟨⟨a',_,c',h6⟩,⟨a,_,c,h5⟩⟩
theorem jQeR (es:List Sq.Ent):∀v∈es.flatMap entCells,v.oneCell'=true:=by
 intro v hv
 obtain⟨x,_,hx⟩:=List.mem_flatMap.1 hv
 simp only[entCells,List.mem_cons,List.not_mem_nil,or_false] at hx
 rcases hx with rfl | rfl <;> rfl
theorem NodesAt.one {n:Nat}{w:World}{l:List (Sq.Nd n×Value×Value)}(h:∀x∈l,NodeAt Z w n x.1 x.2.1 x.2.2):∀u∈l.flatMap (nodeCells n),u.oneCell'=true:=by
 intro u hu
 obtain⟨x,hx,hux⟩:=List.mem_flatMap.1 hu
 obtain⟨⟨a,k,c,h1⟩,a',k',c',h2⟩:=(h x hx).slices
 simp only[nodeCells,headCells,List.mem_cons,List.not_mem_nil,or_false] at hux
 rcases hux with rfl | rfl | rfl | rfl | rfl | rfl | rfl
 ·rfl
 ·rw[h1];rfl
 ·rw[h2];rfl
 ·rfl
 ·rfl
 ·rfl
 ·rfl
theorem NodeAt.same:∀{n:Nat} {w w':World} {t:Sq.Nd n} {ev cv:Value},NodeAt Z w n t ev cv→(∀(g:Nat) (c:Array Value) (e:TypeId) (fr:Nat×Nat),w.heap[g]?=some (Obj.cells c e fr)→(e=141∨e=60)→w'.heap[g]?=w.heap[g]?)→NodeAt Z w' n t ev cv
 | 0,_,_,_,_,_,h,hs=>by
  refine⟨⟨h.1.1,?_⟩,h.2⟩
  rcases h.1.2 with h0 | ⟨g,cap,cur,hv,hbg,hh,hn,hm,hc,ht⟩
  ·exact Or.inl h0
  ·exact Or.inr ⟨g,cap,cur,hv,hbg,(hs g _ _ _ hh (Or.inl rfl)).trans hh,hn,hm,hc,ht⟩
 | _+1,_,_,_,_,_,h,hs=>by
  obtain⟨h1,l,h2,h3,hz,h4⟩:=h
  refine⟨⟨h1.1,?_⟩,l,h2,⟨h3.1,?_⟩,hz,fun x hx=>(h4 x hx).same hs⟩
  ·rcases h1.2 with h0 | ⟨g,cap,cur,hv,hbg,hh,hn,hm,hc,ht⟩
   ·exact Or.inl h0
   ·exact Or.inr ⟨g,cap,cur,hv,hbg,(hs g _ _ _ hh (Or.inl rfl)).trans hh,hn,hm,hc,ht⟩
  ·rcases h3.2 with h0 | ⟨g,cap,cur,hv,hbg,hh,hn,hm,hc,ht⟩
   ·exact Or.inl h0
   ·exact Or.inr ⟨g,cap,cur,hv,hbg,(hs g _ _ _ hh (Or.inr rfl)).trans hh,hn,hm,hc,ht⟩
theorem EntsAt.at {B:Nat}{w:World}{v:Value}{es:List Sq.Ent}(h:EntsAt B w v es)(k:Nat)(hk:k < es.length) :
  ∃g cap,v=.slice (some ⟨g,0,none⟩) es.length cap∧g < w.heap.size∧w.cell? ⟨g,k * 2,none⟩=some (.int .i64 es[k].place)∧w.cell? ⟨g,k * 2+1,none⟩=some (.string es[k].row):=by
 obtain⟨g,cap,hv,hg,hc⟩:=sl_at (f:=entCells) (fun _=>rfl) h k hk
 have c0:=hc 0 (.int .i64 es[k].place) (by decide) rfl
 have c1:=hc 1 (.string es[k].row) (by decide) rfl
 exact⟨g,cap,hv,hg,by simpa using c0,c1⟩
structure SevenAt (w:World)(g o:Nat)(h:Sq.Head)(ev cv:Value):Prop where
 c0:w.cell? ⟨g,o,none⟩=some (.bool h.inner)
 c1:w.cell? ⟨g,o+1,none⟩=some ev
 c2:w.cell? ⟨g,o+2,none⟩=some cv
 c3:w.cell? ⟨g,o+3,none⟩=some (.int .i64 h.least)
 c4:w.cell? ⟨g,o+4,none⟩=some (.int .i64 h.rows)
 c5:w.cell? ⟨g,o+5,none⟩=some (.string h.sl)
 c6:w.cell? ⟨g,o+6,none⟩=some (.int .i64 h.num)
theorem NodesAt.at {B n:Nat}{w:World}{v:Value}{l:List (Sq.Nd n×Value×Value)}(h:NodesAt Z B w v n l)(k:Nat)(hk:k < l.length) :
  ∃g cap ea el ec ca cl cc,v=.slice (some ⟨g,0,none⟩) l.length cap∧g < w.heap.size∧SevenAt w g (k * 7) (Sq.headN n l[k].1) (.slice ea el ec) (.slice ca cl cc)∧l[k].2=(.slice ea el ec,.slice ca cl cc)∧NodeAt Z w n l[k].1 (.slice ea el ec) (.slice ca cl cc):=by
 obtain⟨g,cap,hv,hg,hc⟩:=sl_at (f:=nodeCells n) (fun _=>rfl) h.own k hk
 have ht:=h.each l[k] (List.getElem_mem hk)
 obtain⟨⟨ea,el,ec,h1⟩,ca,cl,cc,h2⟩:=ht.slices
 have c0:=hc 0 (.bool (Sq.headN n l[k].1).inner) (by decide) rfl
 have c1:=hc 1 l[k].2.1 (by decide) rfl
 have c2:=hc 2 l[k].2.2 (by decide) rfl
 have c3:=hc 3 (.int .i64 (Sq.headN n l[k].1).least) (by decide) rfl
 have c4:=hc 4 (.int .i64 (Sq.headN n l[k].1).rows) (by decide) rfl
 have c5:=hc 5 (.string (Sq.headN n l[k].1).sl) (by decide) rfl
 have c6:=hc 6 (.int .i64 (Sq.headN n l[k].1).num) (by decide) rfl
 rw[h1] at c1 ht
 rw[h2] at c2 ht
 exact⟨g,cap,ea,el,ec,ca,cl,cc,hv,hg,⟨by simpa using c0,c1,c2,c3,c4,c5,c6⟩,by rw[←h1,←h2],ht⟩
theorem NodeAt.less {Y:Nat→Prop}(hY:∀g,Y g→Z g):∀{n:Nat} {w:World} {t:Sq.Nd n} {ev cv:Value},NodeAt Z w n t ev cv→NodeAt Y w n t ev cv
 | 0,_,_,_,_,h=>h
 | _+1,_,_,_,_,h=>by
  obtain⟨h1,l,h2,h3,hz,h4⟩:=h
  exact⟨h1,l,h2,h3,fun g o p k c hv hg=>hz g o p k c hv (hY g hg),fun x hx=>(h4 x hx).less hY⟩
theorem NodeAt.more {b:Nat}:∀{n:Nat} {w:World} {t:Sq.Nd n} {ev cv:Value},w.heap.size≤b→NodeAt Z w n t ev cv→NodeAt (fun g=>Z g∨g=b) w n t ev cv
 | 0,_,_,_,_,_,h=>h
 | _+1,_,_,_,_,hb,h=>by
  obtain⟨h1,l,h2,h3,hz,h4⟩:=h
  refine⟨h1,l,h2,h3,fun g o p k c hv hg=>?_,fun x hx=>(h4 x hx).more hb⟩
  rcases hg with hg | rfl
  ·exact hz g o p k c hv hg
  ·rcases h3.2 with⟨h0,_⟩ | ⟨g',cap,cur,hv',hbg,hh,_⟩
   ·rw[h0] at hv;simp at hv
   ·rw[hv'] at hv
    simp only[Value.slice.injEq,Option.some.injEq,Addr.mk.injEq] at hv
    rw[hv.1.1] at hh
    have:=jQg hh
    omega
theorem NodeAt.skip {b:Nat}:∀{n:Nat} {w w':World} {t:Sq.Nd n} {ev cv:Value} {c:Array Value},NodeAt Z w n t ev cv→Z b→w.heap[b]?=some (.cells c 60)→(∀g,g≠b→w'.heap[g]?=w.heap[g]?)→NodeAt Z w' n t ev cv
 | 0,_,_,_,_,_,_,h,hz,hb,ho=>by
  refine⟨⟨h.1.1,?_⟩,h.2⟩
  rcases h.1.2 with h0 | ⟨g,cap,cur,hv,hbg,hh,hn,hm,hc,ht⟩
  ·exact Or.inl h0
  ·refine Or.inr ⟨g,cap,cur,hv,hbg,(ho g ?_).trans hh,hn,hm,hc,ht⟩
   rintro rfl
   rw[hb] at hh
   simp at hh
 | _+1,_,_,_,_,_,_,h,hz,hb,ho=>by
  obtain⟨h1,l,h2,h3,hzv,h4⟩:=h
  refine⟨⟨h1.1,?_⟩,l,h2,⟨h3.1,?_⟩,hzv,fun x hx=>(h4 x hx).skip hz hb ho⟩
  ·rcases h1.2 with h0 | ⟨g,cap,cur,hv,hbg,hh,hn,hm,hc,ht⟩
   ·exact Or.inl h0
   ·refine Or.inr ⟨g,cap,cur,hv,hbg,(ho g ?_).trans hh,hn,hm,hc,ht⟩
    rintro rfl
    rw[hb] at hh
    simp at hh
  ·rcases h3.2 with h0 | ⟨g,cap,cur,hv,hbg,hh,hn,hm,hc,ht⟩
   ·exact Or.inl h0
   ·refine Or.inr ⟨g,cap,cur,hv,hbg,(ho g ?_).trans hh,hn,hm,hc,ht⟩
    rintro rfl
    exact hzv g 0 none _ _ hv hz
end
section
open Go.RowKit
def Reads (w:World)(v:Value)(n size:Nat)(cs:List Value):Prop :=
 cs.length=n * size∧((v=.slice none 0 0∧n=0)∨∃g off cap,v=.slice (some ⟨g,off,none⟩) n cap∧g < w.heap.size∧∀j u,cs[j]?=some u→w.cell? ⟨g,off+j,none⟩=some u)
theorem jQbt (g off j:Nat):(⟨g,off,none⟩:Addr).add j=⟨g,off+j,none⟩:=by unfold Addr.add;split <;> simp_all
theorem Reads.of_own {w:World}{B:Nat}{e:TypeId}{size:Nat}{v:Value}{n:Nat}{cs:List Value}(h:w.ownsRow B e size v n cs):Reads w v n size cs:=by
 refine⟨h.1,?_⟩
 rcases Nat.eq_zero_or_pos n with h0 | h0
 ·rcases h.2 with h1 | ⟨g,cap,cur,hv,hbg,hh,hn,hm,hc,ht⟩
  ·exact Or.inl h1
  ·refine Or.inr ⟨g,0,cap,hv,jQg hh,fun j u hj=>?_⟩
   have:cs=[]:=by have:=h.1;rw[h0] at this;simpa using this
   rw[this] at hj;simp at hj
 ·obtain⟨g,cap,rfl,_,hlt⟩:=h.form h0
  refine Or.inr ⟨g,0,cap,rfl,hlt,fun j u hj=>?_⟩
  have:=h.cells (g:=g) rfl j u hj
  rwa [jQbt] at this
theorem Reads.slice {w:World}{size:Nat}{v:Value}{n:Nat}{cs:List Value}(h:Reads w v n size cs):∃ao cap,v=.slice ao n cap:=by
 rcases h.2 with⟨h1,h2⟩ | ⟨g,off,cap,h1,_⟩
 ·exact⟨none,0,by rw[h1,h2]⟩
 ·exact⟨_,cap,h1⟩
theorem Reads.below {w w':World}{size:Nat}{v:Value}{n:Nat}{cs:List Value}(h:Reads w v n size cs)(hb:Below w.heap.size w w'):Reads w' v n size cs:=by
 refine⟨h.1,?_⟩
 rcases h.2 with h1 | ⟨g,off,cap,h1,h2,h3⟩
 ·exact Or.inl h1
 ·exact Or.inr ⟨g,off,cap,h1,Nat.lt_of_lt_of_le h2 hb.size,fun j u hj=>((bcell hb).1 g (off+j) h2).trans (h3 j u hj)⟩
theorem jQbx {P:Program}(w:World)(t ty e:TypeId)(i:TypeInfo)(size:Nat)(hu:P.underlying t=some (.slice e))(hi:P.info? e=some i)(hz1:i.size=size)
  (base:Nat) (g n cap:Nat) (so:Option Addr) (sc:Nat) (zs cs:List Value)
  (hod:w.ownsRow base e size (.slice (some ⟨g,0,none⟩) n cap) n zs) (hos:Reads w (.slice so n sc) n size cs) (h1:∀v∈cs,v.oneCell'=true) :
  ∃w',(Builtin.copy_ #[t,t] ty #[.slice (some ⟨g,0,none⟩) n cap,.slice so n sc]).run P w=.ok (goInt n) w'∧w'.ownsRow base e size (.slice (some ⟨g,0,none⟩) n cap) n cs∧Below base w w':=by
 obtain⟨hzl,hz⟩:=hod
 obtain⟨hcl,hc⟩:=hos
 rcases hz with⟨h,_⟩ | ⟨g',cap',cur,hv,hbg,hh,hn,hmx,hcs,ht⟩
 ·simp at h
 simp only[Value.slice.injEq,Option.some.injEq,Addr.mk.injEq] at hv
 obtain⟨⟨rfl,-,-⟩,-,rfl⟩:=hv
 rcases hc with⟨h,h0⟩ | ⟨g2,off,cap2,hv2,hbg2,hsr⟩
 ·simp only[Value.slice.injEq] at h
  obtain⟨rfl,-,rfl⟩:=h
  subst h0
  have hc0:cs=[]:=by simpa using hcl
  have hz0:zs=[]:=by simpa using hzl
  subst hc0
  refine⟨w,?_,⟨by simp,Or.inr ⟨g,cap,cur,rfl,hbg,hh,hn,hmx,hcs,by simp⟩⟩,Below.refl _ _⟩
  simp[Builtin.copy_,run_underlying hu,Builtin.lenOf,Builtin.firstCells,sizeOf,typeInfo,hi,storeCells]
 ·simp only[Value.slice.injEq] at hv2
  obtain⟨rfl,-,rfl⟩:=hv2
  have hsrc:∀j v,cs[j]?=some v→w.cell? ((⟨g2,off,none⟩:Addr).add j)=some v:=by
   intro j v hj
   rw[jQbt]
   exact hsr j v hj
  have hl:=run_loadCells_list (P:=P) w ⟨g2,off,none⟩ cs hsrc
  have hmul:n * size≤cap * size:=Nat.mul_le_mul_right _ hn
  have hst:=run_storeCells_at P g 0 e cs 0 cur w hh (by omega) h1
  refine⟨_,?_,⟨hcl,Or.inr ⟨g,cap,(cur.toList.take 0++cs++cur.toList.drop (0+0+cs.length)).toArray,rfl,hbg,setRow_heap w g cur _ e _ hh,hn,hmx,?_,?_⟩⟩,below_setRow (Below.refl _ _) hbg _⟩
  ·rw[hcl] at hl
   simp[Builtin.copy_,run_underlying hu,Builtin.lenOf,Builtin.firstCells,sizeOf,typeInfo,hi,hz1,hl,hst]
  ·simp;omega
  ·simp[hcl]
theorem Tryz.infoEnt:(Tryz.prog.info? 141).map (fun i=>(i.zero,i.size,i.bytes))=some (some (.agg #[.int .i64 0,.string ⟨#[]⟩]),2,24):=by kernel_rfl
theorem Tryz.infoNode:(Tryz.prog.info? 60).map (fun i=>(i.zero,i.size,i.bytes))=some (some (.agg #[.bool false,.slice none 0 0,.slice none 0 0,.int .i64 0,.int .i64 0,.string ⟨#[]⟩,.int .i64 0]),7,96):=by kernel_rfl
def node0:Array Value:=#[.bool false,.slice none 0 0,.slice none 0 0,.int .i64 0,.int .i64 0,.string ⟨#[]⟩,.int .i64 0]
theorem jQo (w:World)(o:Obj):(w.alloc o).heap.size=w.heap.size+1:=by simp
def set7 (w:World)(b:Nat)(x0 x1 x2 x3 x4 x5 x6:Value):World :=
 ((((((w.setCell ⟨b,0,none⟩ x0).setCell ⟨b,1,none⟩ x1).setCell ⟨b,2,none⟩ x2).setCell ⟨b,3,none⟩ x3).setCell ⟨b,4,none⟩ x4).setCell ⟨b,5,none⟩ x5).setCell ⟨b,6,none⟩ x6
theorem jQq (w:World)(b:Nat)(x0 x1 x2 x3 x4 x5 x6:Value){g:Nat}(h:g≠b):(set7 w b x0 x1 x2 x3 x4 x5 x6).heap[g]?=w.heap[g]?:=by
 unfold set7
 rw[jQe h,jQe h,jQe h,jQe h,jQe h,jQe h,jQe h]
theorem jQA {B b:Nat}{W w:World}(hb:Below B W w)(h:B≤b)(x0 x1 x2 x3 x4 x5 x6:Value):Below B W (set7 w b x0 x1 x2 x3 x4 x5 x6):=by
 unfold set7
 exact Below.setCell (B:=B) (Below.setCell (B:=B) (Below.setCell (B:=B) (Below.setCell (B:=B) (Below.setCell (B:=B) (Below.setCell (B:=B) (Below.setCell (B:=B) hb h _) h _) h _) h _) h _) h _) h _
theorem jQoG {w:World}{B:Nat}{e:TypeId}{size g:Nat}{n cap:Nat}{cs:List Value}(h:w.ownsRow B e size (.slice (some ⟨g,0,none⟩) n cap) n cs):g < w.heap.size:=by
 rcases h.2 with⟨h1,_⟩ | ⟨g',cap',cur,hv,hbg,hh,hn,hm,hc,ht⟩
 ·simp at h1
 ·simp only[Value.slice.injEq,Option.some.injEq,Addr.mk.injEq] at hv
  obtain⟨⟨rfl,-,-⟩,-,-⟩:=hv
  exact jQg hh
theorem jQR {w:World}{b:Nat}(h:w.heap[b]?=some (.cells node0 60)) :
  w.cell? ⟨b,0,none⟩=some (.bool false)∧w.cell? ⟨b,1,none⟩=some (.slice none 0 0)∧w.cell? ⟨b,2,none⟩=some (.slice none 0 0)∧w.cell? ⟨b,3,none⟩=some (.int .i64 0)∧w.cell? ⟨b,4,none⟩=some (.int .i64 0)∧w.cell? ⟨b,5,none⟩=some (.string ⟨#[]⟩)∧w.cell? ⟨b,6,none⟩=some (.int .i64 0) :=
 ⟨by rw[jQb h];rfl,by rw[jQb h];rfl,by rw[jQb h];rfl,by rw[jQb h];rfl,by rw[jQb h];rfl,by rw[jQb h];rfl,by rw[jQb h];rfl⟩
theorem jQp {w:World}{b:Nat}{c:Array Value}(h:w.heap[b]?=some (.cells c 60)) :
  w.frozen? ⟨b,0,none⟩=false∧w.frozen? ⟨b,1,none⟩=false∧w.frozen? ⟨b,2,none⟩=false∧w.frozen? ⟨b,3,none⟩=false∧w.frozen? ⟨b,4,none⟩=false∧w.frozen? ⟨b,5,none⟩=false∧w.frozen? ⟨b,6,none⟩=false :=
 ⟨jQd h _,jQd h _,jQd h _,jQd h _,jQd h _,jQd h _,jQd h _⟩
theorem jQk (w:World)(o:Obj):(w.alloc o).heap[w.heap.size]?=some o:=by show(w.heap.push o)[w.heap.size]?=some o;simp
theorem jQi2 (es:List Sq.Ent)(v:Value)(w:World)(h:Reads w v es.length 2 (es.flatMap entCells))(hl:es.length≤1000) :
  Calls Tryz.prog 132 #[v] w fun e w'=>∃ev,e=.returned (.agg (headCells (Sq.leafF (α:=Empty) es).hd ev (.slice none 0 0)).toArray)∧EntsAt w.heap.size w' ev es∧Below w.heap.size w w':=by
 obtain⟨i0,hi,hz0,hz1,hz2⟩:=info_parts Tryz.infoEnt
 obtain⟨ao,acap,rfl⟩:=h.slice
 have hone:=jQeR es
 have hfst:∀h:0 < es.length,(es.flatMap entCells)[0]?=some (.int .i64 es[0].place):=by
  intro h
  cases es with
  | nil=>simp at h
  | cons x r=>rfl
 have hle:∀h:0 < es.length,Sq.firstPlace es=es[0].place:=by
  intro h
  cases es with
  | nil=>simp at h
  | cons x r=>rfl
 obtain⟨cs,hcs⟩:∃x,x=es.flatMap entCells:=⟨_,rfl⟩
 rw[←hcs] at h hone hfst
 have hW:∀o,Below w.heap.size w (w.alloc o):=fun o=>(Below.refl _ _).alloc (Nat.le_refl _) _
 have HOWN:=hd h
 have HONE:=hd hone
 have HCS:=hd hcs
 have HF:=hd hfst
 have HLE:=hd hle
 have HW:=hd hW
 clear h hone hcs hW hfst hle
 rcases Nat.eq_zero_or_pos es.length with h0 | h0
 ·have h0':es=[]:=by simpa using h0
  subst h0'
  go_enter Tryz.func132,Tryz.ntmps132
  go_wp2_with (at_make;refine wpList_make_full _ rfl (.tmp 6) (.tmp 6) 57 rfl (w.heap.size+1) 141 i0 _ 2 Tryz.underlying57 hi hz0 hz1 .i64 .i64 _ _ 0 rfl rfl rfl rfl (by rw[hz2];omega) (by unfold maxLen;omega) (by simp) ?_;intro w1 hown1 hgrow1;rw[jQo] at hown1;have hb1:=Tch.of_grown (pb:=w.heap.size+1) hgrow1 (fun k hk=>by cases hk) (by simp);have hbw1:=(HW.out _).trans (hb1.mono (by omega));obtain⟨w2,hrun,hown2,hb2⟩:=jQbx w1 57 3 141 i0 2 Tryz.underlying57 hi hz1 (w.heap.size+1) _ 0 _ _ _ _ cs hown1 (HOWN.out.below hbw1) HONE.out;have hb12:=hb1.trans hb2;have hblk:=(hb12.block w.heap.size (by omega)).trans (jQk w _);obtain⟨b0,b1,b2,b3,b4,b5,b6⟩:=jQR hblk;obtain⟨f0,f1,f2,f3,f4,f5,f6⟩:=jQp hblk;have hlt2:=jQoG hown2;have hlt3:w.heap.size < w2.heap.size:=(by omega);have HB2:=hd hb12;have HO2:=hd hown2;clear hown1 hgrow1 hb1 hbw1 hown2 hb2 hb12 hblk)
  have hbw2:Below w.heap.size w w2:=(HW.out _).trans (HB2.out.mono (by omega))
  refine bodyPost_ret (v:=.agg (headCells (Sq.leafF (α:=Empty) []).hd (.slice (some ⟨w.heap.size+1,0,none⟩) 0 0) (.slice none 0 0)).toArray) (by simp[results,Tryz.results132,go_sem,headCells,Sq.leafF,Sq.firstPlace,Sq.nobytes, *]) rfl ⟨_,rfl,?_,?_⟩
  ·have ho:=HO2.out
   rw[HCS.out] at ho
   exact jQi (jQh (jQn ho fun k hk=>jQq w2 w.heap.size _ _ _ _ _ _ _ (fun e=>by have:=(World.ownsRow.lt ho k hk).1;omega)) ((Below.refl _ _).alloc (Nat.le_refl _) _)) (by omega)
  ·exact Below.alloc (B:=w.heap.size) (jQA hbw2 (Nat.le_refl _) _ _ _ _ _ _ _) (by simp[set7];omega) _
 ·have hle:=HLE.out h0
  have HLE2:=hd hle
  have hcs0:=HF.out h0
  have HC0:=hd hcs0
  obtain⟨p0,hp0⟩:∃x,x=es[0].place:=⟨_,rfl⟩
  rw[←hp0] at hcs0 hle
  have HC0:=hd hcs0
  have HLE2:=hd hle
  clear hcs0 hle hp0 HF HLE
  go_enter Tryz.func132,Tryz.ntmps132
  go_wp2_with (at_make;refine wpList_make_full _ rfl (.tmp 6) (.tmp 6) 57 rfl (w.heap.size+1) 141 i0 _ 2 Tryz.underlying57 hi hz0 hz1 .i64 .i64 _ _ es.length rfl rfl rfl rfl (by rw[hz2];omega) (by unfold maxLen;omega) (by simp) ?_;intro w1 hown1 hgrow1;rw[jQo] at hown1;have hb1:=Tch.of_grown (pb:=w.heap.size+1) hgrow1 (fun k hk=>by cases hk) (by simp);have hbw1:=(HW.out _).trans (hb1.mono (by omega));obtain⟨w2,hrun,hown2,hb2⟩:=jQbx w1 57 3 141 i0 2 Tryz.underlying57 hi hz1 (w.heap.size+1) _ es.length _ _ _ _ cs hown1 (HOWN.out.below hbw1) HONE.out;have hb12:=hb1.trans hb2;have hblk:=(hb12.block w.heap.size (by omega)).trans (jQk w _);obtain⟨b0,b1,b2,b3,b4,b5,b6⟩:=jQR hblk;obtain⟨f0,f1,f2,f3,f4,f5,f6⟩:=jQp hblk;have hlt2:=jQoG hown2;have hlt3:w.heap.size < w2.heap.size:=(by omega);have e0:=hown2.cells (g:=w.heap.size+1) rfl 0 _ HC0.out;rw[jQbt] at e0;have HB2:=hd hb12;have HO2:=hd hown2;clear hown1 hgrow1 hb1 hbw1 hown2 hb2 hb12 hblk)
  have hbw2:Below w.heap.size w w2:=(HW.out _).trans (HB2.out.mono (by omega))
  refine bodyPost_ret (v:=.agg (headCells (Sq.leafF (α:=Empty) es).hd (.slice (some ⟨w.heap.size+1,0,none⟩) es.length es.length) (.slice none 0 0)).toArray) (by simp[results,Tryz.results132,go_sem,headCells,Sq.leafF,Sq.nobytes,HLE2.out, *]) rfl ⟨_,rfl,?_,?_⟩
  ·have ho:=HO2.out
   rw[HCS.out] at ho
   exact jQi (jQh (jQn ho fun k hk=>jQq w2 w.heap.size _ _ _ _ _ _ _ (fun e=>by have:=(World.ownsRow.lt ho k hk).1;omega)) ((Below.refl _ _).alloc (Nat.le_refl _) _)) (by omega)
  ·exact Below.alloc (B:=w.heap.size) (jQA hbw2 (Nat.le_refl _) _ _ _ _ _ _ _) (by simp[set7];omega) _
end
section
open Go.RowKit
def RowAt (w:World)(v:Value)(row:List Sq.Val):Prop:=w.ownsRow 0 208 3 v row.length (row.flatMap Sq.Val.cells)∧row.length≤100000
theorem RowAt.below {w w':World}{v:Value}{l:List Sq.Val}(h:RowAt w v l)(hb:Below w.heap.size w w'):RowAt w' v l:=⟨jQh h.1 hb,h.2⟩
theorem jQbs (row:List Sq.Val)(rv:Value)(k:Int)(w:World)(hr:RowAt w rv row) :
  Calls Tryz.prog 165 #[.agg #[rv],.int .i64 k] w fun e w'=>e=.returned (.agg (Sq.cellNo row k).cells.toArray)∧Below w.heap.size w w':=by
 obtain⟨ao,cap,rfl⟩:=jQa hr.1
 have hl2:=hr.2
 have HR:=hd hr
 have hW:∀o o2,Below w.heap.size w ((w.alloc o).alloc o2):=fun o o2=>((Below.refl _ _).alloc (Nat.le_refl _) _).alloc (by simp) _
 have HW:=hd hW
 clear hr hW
 by_cases hk0:k < 0
 ·have HE:Hid (Sq.cellNo row k=Sq.val0):=by show _=_;unfold Sq.cellNo;rw[if_pos hk0]
  go_enter Tryz.func165,Tryz.ntmps165
  go_wp2
  exact bodyPost_ret (v:=.agg #[.int .i64 0,.int .i64 0,.string ⟨#[]⟩]) (by simp[results,Tryz.results165,go_sem]) rfl ⟨by rw[HE.out];rfl,HW.out _ _⟩
 ·obtain⟨k,rfl⟩:∃n:Nat,k=n:=⟨k.toNat,by omega⟩
  have i0:¬((k:Int) < 0):=by omega
  by_cases hkr:k < row.length
  ·have HE:Hid (Sq.cellNo row k=row[k]):=by show _=_;unfold Sq.cellNo;rw[if_neg (by omega),Int.toNat_natCast,List.getElem?_eq_getElem hkr];rfl
   obtain⟨g,cap',hv,hg,hc⟩:=sl_at (f:=Sq.Val.cells) (fun _=>rfl) HR.out.1 k hkr
   simp only[Value.slice.injEq] at hv
   obtain⟨rfl,-,rfl⟩:=hv
   have c0:=hc 0 (.int .i64 row[k].kind) (by decide) rfl
   have c1:=hc 1 (.int .i64 row[k].number) (by decide) rfl
   have c2:=hc 2 (.string row[k].text) (by decide) rfl
   simp only[Nat.add_zero] at c0
   have i1:¬((row.length:Int)≤(k:Int)):=by omega
   clear hc
   go_enter Tryz.func165,Tryz.ntmps165
   go_wp2
   exact bodyPost_ret (v:=.agg #[.int .i64 row[k].kind,.int .i64 row[k].number,.string row[k].text]) (by simp[results,Tryz.results165,go_sem]) rfl ⟨by rw[HE.out];rfl,HW.out _ _⟩
  ·have HE:Hid (Sq.cellNo row k=Sq.val0):=by show _=_;unfold Sq.cellNo;rw[if_neg (by omega),Int.toNat_natCast,List.getElem?_eq_none (by omega)];rfl
   have i1:(row.length:Int)≤(k:Int):=by omega
   go_enter Tryz.func165,Tryz.ntmps165
   go_wp2
   exact bodyPost_ret (v:=.agg #[.int .i64 0,.int .i64 0,.string ⟨#[]⟩]) (by simp[results,Tryz.results165,go_sem]) rfl ⟨by rw[HE.out];rfl,HW.out _ _⟩
theorem jQb8 (cols:List Sq.Col)(row:List Sq.Val)(cv rv:Value)(t:Sq.Term)(w:World)(h:ColsAt w cv cols)(hr:RowAt w rv row) :
  Calls Tryz.prog 205 #[cv,.agg #[rv],.agg t.cells.toArray] w fun e w'=>e=.returned (.agg (Sq.valueOf cols row t).cells.toArray)∧Below w.heap.size w w':=by
 obtain⟨ao,cap,rfl⟩:=jQa hr.1
 obtain⟨tc,⟨tk,tn,tt⟩⟩:=t
 unfold Sq.Term.cells
 have H:=hd h
 have HR:=hd hr
 have hW:∀o o2 o3,Below w.heap.size w (((w.alloc o).alloc o2).alloc o3):=fun o o2 o3=>(((Below.refl _ _).alloc (Nat.le_refl _) _).alloc (by simp) _).alloc (by simp;omega) _
 have HW:=hd hW
 clear h hr hW
 cases he:tc.toList.isEmpty
 case true =>
  have HE:Hid (Sq.valueOf cols row ⟨tc,⟨tk,tn,tt⟩⟩=⟨tk,tn,tt⟩):=by show _=_;unfold Sq.valueOf;simp only;rw[he];rfl
  go_enter Tryz.func205,Tryz.ntmps205
  go_wp2
  exact bodyPost_ret (v:=.agg #[.int .i64 tk,.int .i64 tn,.string tt]) (by simp[results,Tryz.results205,go_sem]) rfl ⟨by rw[HE.out];rfl,HW.out _ _ _⟩
 case false =>
  have HE:Hid (Sq.valueOf cols row ⟨tc,⟨tk,tn,tt⟩⟩=Sq.cellOf cols row tc):=by show _=_;unfold Sq.valueOf;simp only;rw[he];rfl
  obtain⟨x,hx⟩:∃x,x=Sq.cellOf cols row tc:=⟨_,rfl⟩
  have HX:=hd hx
  clear hx
  have hl:=H.out.2
  have hco:Sq.cellOf cols row tc=Sq.cellNo row (Sq.find cols tc):=rfl
  have HCO:=hd hco
  clear hco
  go_enter Tryz.func205,Tryz.ntmps205
  go_wp2
  obtain⟨W,hWW⟩:∃W:World,W=((w.alloc (.cells #[.slice ao row.length cap] 138)).alloc (.cells #[.string tc,.int .i64 tk,.int .i64 tn,.string tt] 211)).alloc (.cells #[.int .i64 0,.int .i64 0,.string ⟨#[]⟩] 208):=⟨_,rfl⟩
  rw[←hWW]
  have hbW:Below w.heap.size w W:=by rw[hWW];exact HW.out _ _ _
  have hs2:((w.alloc (.cells #[.slice ao row.length cap] 138)).alloc (.cells #[.string tc,.int .i64 tk,.int .i64 tn,.string tt] 211)).heap.size=w.heap.size+2:=by simp
  have hs1:(w.alloc (.cells #[.slice ao row.length cap] 138)).heap.size=w.heap.size+1:=by simp
  have hblk:W.heap[w.heap.size+1+1]?=some (.cells #[.int .i64 0,.int .i64 0,.string ⟨#[]⟩] 208):=by
   rw[hWW,show w.heap.size+1+1=w.heap.size+2 from rfl,←hs2]
   exact jQk _ _
  have hblk1:W.heap[w.heap.size+1]?=some (.cells #[.string tc,.int .i64 tk,.int .i64 tn,.string tt] 211):=by
   rw[hWW,←hs1]
   exact(((Below.refl _ _).alloc (Nat.le_refl _) _).block _ (by simp)).trans (jQk _ _)
  have hblk0:W.heap[w.heap.size]?=some (.cells #[.slice ao row.length cap] 138):=by
   rw[hWW]
   exact(((Below.refl (w.alloc (.cells #[.slice ao row.length cap] 138)).heap.size (w.alloc (.cells #[.slice ao row.length cap] 138))).alloc (Nat.le_refl _) _).alloc (by simp) _ |>.block _ (by simp)).trans (jQk _ _)
  have p0:W.cell? ⟨w.heap.size,0,none⟩=some (.slice ao row.length cap):=by rw[jQb hblk0];rfl
  have p1:W.cell? ⟨w.heap.size+1,0,none⟩=some (.string tc):=by rw[jQb hblk1];rfl
  have hz0:=jQg hblk0
  have hz1:=jQg hblk1
  have HBW:=hd hbW
  have HBLK:=hd hblk
  clear hWW hbW hs2 hs1 hblk hblk0 hblk1
  go_region_with (first
   | (go_at_call 148;refine(jQaD cols _ tc _ (H.out.below (HBW.out.drew)).1 hl).mono ?_;rintro e w' ⟨rfl,rfl⟩)
   | (go_at_call 165;refine(jQbs row _ _ _ (HR.out.below (HBW.out.drew))).mono ?_;rintro e w1 ⟨rfl,hb1⟩;rw[←HCO.out,←HX.out];have hb2:Below W.heap.size W w1:=(Below.drew (Below.refl _ _)).trans hb1;have hblk1:=(hb2.block (w.heap.size+1+1) (jQg HBLK.out)).trans HBLK.out;have a0:w1.cell? ⟨w.heap.size+1+1,0,none⟩=some (.int .i64 0):=(by rw[jQb hblk1];rfl);have a1:w1.cell? ⟨w.heap.size+1+1,1,none⟩=some (.int .i64 0):=(by rw[jQb hblk1];rfl);have a2:w1.cell? ⟨w.heap.size+1+1,2,none⟩=some (.string ⟨#[]⟩):=(by rw[jQb hblk1];rfl);have b0:=jQd hblk1 0;have b1:=jQd hblk1 1;have b2:=jQd hblk1 2;have hz:=jQg hblk1;have hbw:=hd (HBW.out.trans (hb2.mono HBW.out.size));clear hb1 hb2 hblk1;obtain⟨xk,xn,xt⟩:=x;unfold Sq.Val.cells))
  all_goals(try go_wp2)
  all_goals
   refine bodyPost_ret (v:=.agg #[.int .i64 xk,.int .i64 xn,.string xt]) (by simp[results,Tryz.results205,go_sem, *]) rfl ⟨by rw[HE.out,←HX.out];rfl,?_⟩
   exact Below.setCell (B:=w.heap.size) (Below.setCell (B:=w.heap.size) (Below.setCell (B:=w.heap.size) hbw.out (by simp;omega) _) (by simp;omega) _) (by simp;omega) _
end
end Go.Proofs.YtahpihjialbanaaGreatDoor
