import Derived.Lib.ItoaLen
import Derived.Shelf.LaysM
import Derived.Shelf.Strconv.Itoa0
import Derived.Shelf.Strconv.Itoa1
import Derived.Shelf.Strconv.Itoa2
import Derived.Shelf.Strconv.Itoa3
import Derived.Shelf.Strconv.Itoa4
import Derived.Test.YtahpihjialbanaaGreatDoorQak
set_option linter.unusedVariables false
set_option linter.unusedSimpArgs false
set_option maxRecDepth 100000
set_option maxHeartbeats 1000000
namespace Go.Proofs.YtahpihjialbanaaGreatDoor
open Sq (nobytes PSt StepS TabN OutR)
section
open Go.RowKit
theorem jQcF {w:World}{base:Nat}{e:TypeId}{size:Nat}{g n cap:Nat}{xs ys:List Value}(h:w.ownsRow base e size (.slice (some ⟨g,0,none⟩) n cap) n (xs++ys))(m:Nat)(hm:m<=n)(hx:xs.length=m*size):w.ownsRow base e size (.slice (some ⟨g,0,none⟩) m cap) m xs:=by
 refine⟨hx,?_⟩;rcases h.2 with⟨h1,h2⟩ | ⟨g',cap',cur,h1,hg,hh,hn,hmx,hc,ht⟩
 ·simp at h1
 ·simp only[Value.slice.injEq,Option.some.injEq,Addr.mk.injEq] at h1;obtain⟨⟨rfl,-,-⟩,-,rfl⟩:=h1;refine Or.inr ⟨g,cap,cur,rfl,hg,hh,by omega,hmx,hc,?_⟩
  have:cur.toList.take (m*size)=(cur.toList.take (n*size)).take (m*size):=by
   rw[List.take_take]
   congr 1
   have:=Nat.mul_le_mul_right size hm
   omega
  rw[this,ht,List.take_left' hx]
theorem jQmJ {pb:Nat}{w:World}{l:List Bool}(h:PL pb w l) :
  Calls Tryz.prog 162 #[.pointer (some ⟨pb,0,none⟩)] w fun e w'=>e=.returned (.bool (Sq.popB l))/\PL pb w' l.dropLast/\Below pb w w':=by
 have hi:=h.lt;have ha:=h.few;obtain⟨v,hb,hown⟩:=h.row;have hf:=hd h;clear h;rcases List.eq_nil_or_concat l with rfl | ⟨l',b,rfl⟩
 ·have hv:v=.slice none 0 0\/∃g cap,v=.slice (some ⟨g,0,none⟩) 0 cap:=by
   rcases hown.2 with⟨h1,_⟩ | ⟨g,cap,_,h1,_⟩
   ·exact Or.inl h1
   ·exact Or.inr ⟨g,cap,h1⟩
  have c0:w.cell? ⟨pb,0,none⟩=some v:=by rw[jQb hb];rfl
  clear hown hb;rcases hv with rfl | ⟨g,cap,rfl⟩
  all_goals
   go_enter Tryz.func162,Tryz.ntmps162;go_wp2;go_ret;exact⟨rfl,hf.o,bR⟩
 ·rw[List.concat_eq_append] at hown ha;have he:(l'++[b]).length=l'.length+1:=by simp
  obtain⟨g,cap,rfl,hg1,hg2⟩:=hown.form (by rw[he];omega);rw[he] at hown hb ha;rw[List.concat_eq_append];have hE:Sq.popB (l'++[b])=b:=by simp[Sq.popB]
  have HE:=hd hE;have c0:w.cell? ⟨pb,0,none⟩=some (.slice (some ⟨g,0,none⟩) (l'.length+1) cap):=by rw[jQb hb];rfl
  have f0:=jQd hb 0;have ct:=hown.cells (g:=g) rfl l'.length (.bool b) (by simp);rw[show(⟨g,0,none⟩:Addr).add l'.length=⟨g,l'.length,none⟩ from by unfold Addr.add;split<;>simp_all] at ct
  have hc:l'.length+1<=cap/\cap<=9223372036854775807:=by
   rcases hown.2 with⟨h1,h2⟩ | ⟨g',cap',cur,h1,hg,hh,hn,hm,_⟩
   ·omega
   ·simp only[Value.slice.injEq] at h1;obtain⟨-,-,rfl⟩:=h1;exact⟨hn,hm⟩
  obtain⟨hcap1,hcap2⟩:=hc;have HO:=hd hown;have HB:=hd hb;clear hown hb hE he hf;go_enter Tryz.func162,Tryz.ntmps162;go_wp2;go_ret;refine⟨by rw[HE.o];rfl,⟨⟨.slice (some ⟨g,0,none⟩) l'.length cap,by rw[jQe HB.o];rfl,?_⟩,by simp;omega⟩,Below.setCell (B:=pb) (bR) (nR) _⟩;have h1:=HO.o;rw[List.map_append] at h1;have h2:=jQcF h1 l'.length (by omega) (by simp);rw[List.dropLast_concat];exact jQq h2 fun k hk=>jQg (fun e=>jQn h2 HB.o (by decide) (by rw[hk,e]))
theorem Sq.jQeU (l:List Bool):l.dropLast.length<=l.length:=by simp
theorem jQqN {pb:Nat}{w:World}{l:List Bool}(op:ByteArray)(h:PL pb w l)(hn:l.length+1<=100000) :
  Calls Tryz.prog 161 #[.pointer (some ⟨pb,0,none⟩),.string op] w fun e w'=>e=.returned (.tuple #[])/\PL pb w' (Sq.joinB l op)/\Below pb w w':=by
 have he:=h.lt;have H:=hd h;have hg:=Sq.jQeU l;have hf:=Sq.jQeU l.dropLast;clear h;go_enter Tryz.func161,Tryz.ntmps161;go_wp2_with fail;refine(jQmJ H.o).mono ?_;rintro e w1 ⟨rfl,hp1,hb1⟩;have hc:=hd hp1;obtain⟨x,hx⟩:∃x,x=Sq.popB l:=⟨_,rfl⟩;rw[<-hx];have HX:=hd hx;clear hp1 hx;cases h1:op.toList==[110,111,116]
 case true =>
  have HE:Hid (Sq.joinB l op=l.dropLast++[!x]):=by show _=_;unfold Sq.joinB;rw[h1,HX.o];rfl
  go_wp2_with fail;refine(jQgv (!x) hc.o (by omega)).mono ?_;rintro e w2 ⟨rfl,hp2,hb2⟩;have ha:=hd hp2;clear hp2;go_wp2;exact bodyPost_ret (v:=.tuple #[]) (by simp[results,Tryz.results161,go_sem]) rfl ⟨rfl,by rw[HE.o];exact ha.o,hb1.trans hb2⟩
 case false =>
  go_wp2_with fail;refine(jQmJ hc.o).mono ?_;rintro e w2 ⟨rfl,hp2,hb2⟩;have ha:=hd hp2;obtain⟨y,hy⟩:∃x,x=Sq.popB l.dropLast:=⟨_,rfl⟩;rw[<-hy];have HY:=hd hy;clear hp2 hy;cases h2:op.toList==[97,110,100]
  case true =>
   have HE:Hid (Sq.joinB l op=l.dropLast.dropLast++[y&&x]):=by show _=_;unfold Sq.joinB;rw[h1,h2,HX.o,HY.o];rfl
   cases y
   all_goals
    go_wp2_with fail;refine(jQgv _ ha.o (by omega)).mono ?_;rintro e w3 ⟨rfl,hp3,hb3⟩;have hb:=hd hp3;clear hp3;go_wp2;go_end0;exact⟨rfl,by rw[HE.o];exact hb.o,hb1.trans (hb2.trans hb3)⟩
  case false =>
   have HE:Hid (Sq.joinB l op=l.dropLast.dropLast++[y || x]):=by show _=_;unfold Sq.joinB;rw[h1,h2,HX.o,HY.o];rfl
   cases y
   all_goals
    go_wp2_with fail;refine(jQgv _ ha.o (by omega)).mono ?_;rintro e w3 ⟨rfl,hp3,hb3⟩;have hb:=hd hp3;clear hp3;go_wp2;go_end0;exact⟨rfl,by rw[HE.o];exact hb.o,hb1.trans (hb2.trans hb3)⟩
theorem Sq.jQka (l:List Bool)(op:ByteArray):(Sq.joinB l op).length<=l.length+1:=by
 unfold Sq.joinB
 split
 ·simp
 ·split<;>(simp;omega)
theorem Sq.jQoP (cols:List Sq.Col)(row:List Sq.Val)(l:List Bool)(s:StepS):(Sq.stepB cols row l s).length<=l.length+1:=by
 unfold Sq.stepB
 split
 ·simp
 ·exact Sq.jQka l s.op
theorem Sq.jQnK (f:List Bool->StepS->List Bool)(l:List StepS)(k:Nat)(h:k<l.length):(l.take (k+1)).foldl f []=f ((l.take k).foldl f []) l[k]:=by
 rw[List.take_succ_eq_append_getElem h,List.foldl_append];rfl
theorem jQpf (cols:List Sq.Col)(row:List Sq.Val)(l:List StepS)(cv rv sv:Value)(w:World)(h:ColsAt w cv cols)(hr:RowAt w rv row)(hs:StepsAt w sv l)(hl:l.length<=50000) :
  Calls Tryz.prog 119 #[cv,.agg #[rv],sv] w fun e w'=>e=.returned (.bool (Sq.meets cols row l))/\Below w.heap.size w w':=by
 obtain⟨ao,cap,rfl⟩:=jQa hr.1;obtain⟨bo,bap,rfl⟩:=jQa hs.1;have H:=hd h;have HR:=hd hr;have HS:=hd hs;clear h hr hs;cases hz:l.isEmpty
 case true =>
  have HE:Hid (Sq.meets cols row l=true):=by show _=_;unfold Sq.meets;rw[hz];rfl
  have ht:l.length=0:=by simpa using hz
  clear hz;go_enter Tryz.func119,Tryz.ntmps119;go_wp2;go_ret;exact⟨by rw[HE.o];rfl,(bR).alloc (nR) _⟩
 case false =>
  have HE:Hid (Sq.meets cols row l=Sq.popB (l.foldl (Sq.stepB cols row) [])):=by show _=_;unfold Sq.meets;rw[hz];rfl
  have ht:¬l=[]:=by simpa using hz
  have hF:0<l.length:=by cases l with | nil=>exact absurd rfl ht | cons _ _=>simp
  have hI:((l.length:Int)==0)=false:=by simp;omega
  clear hz ht;have hW:Below w.heap.size w (w.alloc (.cells #[.slice ao row.length cap] 138)):=(bR).alloc (nR) _;have HW:=hd hW;clear hW;go_enter Tryz.func119,Tryz.ntmps119;go_wp2
  go_loopw [8] (fun i wr=>∃k:Nat,k<=l.length/\i=.int .i64 k/\PL (w.heap.size+1) wr ((l.take k).foldl (Sq.stepB cols row) [])/\((l.take k).foldl (Sq.stepB cols row) []).length<=k/\Below (w.heap.size+1) (w.alloc (.cells #[.slice ao row.length cap] 138)) wr) (fun i _=>l.length-(intOf i).toNat)
  case atStart =>
   refine⟨0,zR,rfl,⟨⟨.slice none 0 0,?_,World.ownsRow_nil _ _ _ _⟩,by simp⟩,by simp,(bR).alloc (by simp) _⟩
   have:=heap_alloc_new (w.alloc (.cells #[.slice ao row.length cap] 138)) (.cells #[.slice none 0 0] 233)
   simpa using this
  case round =>
   obtain⟨k,hk,rfl,ha,hlen,hb⟩:=hrel;have hp:Below w.heap.size w wr:=HW.o.trans (hb.mono (by omega));have a0:wr.cell? ⟨w.heap.size,0,none⟩=some (.slice ao row.length cap):=(hb.cell (p:=⟨w.heap.size,0,none⟩) (by simp)).trans (by simp[go_sem]);have hE:=ha.lt;have hn:=hd ha;have HB:=hd hb;clear ha hb
   by_cases hlt:k<l.length
   ·obtain⟨x,hx⟩:∃x,x=l[k]:=⟨_,rfl⟩;have HX:=hd hx
    have cells:∀W,Below w.heap.size w W->∃g,bo=some ⟨g,0,none⟩/\g<W.heap.size/\∀j u,j<9->x.cells[j]?=some u->W.cell? ⟨g,k*9+j,none⟩=some u:=by
     intro W hW;obtain⟨g,cap',hv,hg,hc⟩:=sl_at (f:=Sq.StepS.cells) (fun _=>rfl) (HS.o.below hW).1 k hlt;simp only[Value.slice.injEq] at hv;exact⟨g,hv.1,hg,by rw[hx];exact hc⟩
    have HC:=hd cells;obtain⟨ls,hls⟩:∃x,x=(l.take k).foldl (Sq.stepB cols row) []:=⟨_,rfl⟩;have hq:=Sq.jQnK (Sq.stepB cols row) l k hlt;rw[<-hls,<-hx] at hq;have hy:=Sq.jQoP cols row ls x;rw[<-hls] at hlen;have ha:=hn.o;rw[<-hls] at ha;have he:=hd ha;have ho:=hd hq;clear cells hx hls hq ha hn;obtain⟨g,hbo,hg,hc⟩:=HC.o wr hp;subst hbo;have hf:Hid (Sq.stepB cols row ls x=if Sq.isComparison x.op then ls++[Sq.compared cols row x] else Sq.joinB ls x.op):=rfl;obtain⟨op,⟨lc,⟨lk,ln,lt⟩⟩,⟨rc,⟨rk,rn,rt⟩⟩⟩:=x;have c0:=hc 0 _ (by decide) rfl;have c1:=hc 1 _ (by decide) rfl;have c2:=hc 2 _ (by decide) rfl;have c3:=hc 3 _ (by decide) rfl;have c4:=hc 4 _ (by decide) rfl;have c5:=hc 5 _ (by decide) rfl;have c6:=hc 6 _ (by decide) rfl;have c7:=hc 7 _ (by decide) rfl;have c8:=hc 8 _ (by decide) rfl;simp only[Nat.add_zero] at c0;clear hc;go_wp2_with fail;refine(jQcm ⟨op,⟨lc,⟨lk,ln,lt⟩⟩,⟨rc,⟨rk,rn,rt⟩⟩⟩ _).mono ?_;rintro e w1 ⟨rfl,hb1⟩;have hh:Below w.heap.size w w1:=hp.trans (hb1.mono hp.size);have hA:=hd (HB.o.trans (hb1.mono (by omega)));have hm:=hd (he.o.below hb1);have a0':=((bcell hb1).1 w.heap.size 0 (by omega)).trans a0;have hG:=hb1.size;clear c0 c1 c2 c3 c4 c5 c6 c7 c8 hb1 a0 he HB;obtain⟨g',hg',hg1,hc⟩:=HC.o w1 hh;have hD:g=g':=by simpa using hg'
    subst hD;have c0:=hc 0 _ (by decide) rfl;have c1:=hc 1 _ (by decide) rfl;have c2:=hc 2 _ (by decide) rfl;have c3:=hc 3 _ (by decide) rfl;have c4:=hc 4 _ (by decide) rfl;have c5:=hc 5 _ (by decide) rfl;have c6:=hc 6 _ (by decide) rfl;have c7:=hc 7 _ (by decide) rfl;have c8:=hc 8 _ (by decide) rfl;simp only[Nat.add_zero] at c0;clear hc hg';cases hcmp:Sq.isComparison op
    case true =>
     have hj:Hid ((l.take (k+1)).foldl (Sq.stepB cols row) []=ls++[Sq.compared cols row ⟨op,⟨lc,⟨lk,ln,lt⟩⟩,⟨rc,⟨rk,rn,rt⟩⟩⟩]):=by show _=_;rw[ho.o,hf.o,hcmp];rfl
     clear ho hf hy;go_wp2
     go_region_with (go_at_call 159;refine(jQi8 cols row cv _ ⟨op,⟨lc,⟨lk,ln,lt⟩⟩,⟨rc,⟨rk,rn,rt⟩⟩⟩ _ (H.o.below hh.drew) (HR.o.below hh.drew)).mono ?_;rintro e w2 ⟨rfl,hb2⟩)
     all_goals
      have hi:Below w1.heap.size w1 w2:=(Below.drew (bR)).trans hb2;have hu:=hd (hm.o.below hi);have hC:=hd (hA.o.trans (hi.mono (by omega)));clear hb2 hi c0 c1 c2 c3 c4 c5 c6 c7 c8;go_wp2_with fail;refine(jQgv _ hu.o (by omega)).mono ?_;rintro e w3 ⟨rfl,hp3,hb3⟩;have hw:=hd hp3;clear hp3;go_wp2;go_roundw
      case rel=>exact⟨k+1,by omega,by go_num,by rw[hj.o];exact hw.o,by rw[hj.o];simp;omega,hC.o.trans hb3⟩
      case measure=>simp[intOf];omega
    case false =>
     have hj:Hid ((l.take (k+1)).foldl (Sq.stepB cols row) []=Sq.joinB ls op):=by show _=_;rw[ho.o,hf.o,hcmp];rfl
     have hH:=Sq.jQka ls op;clear ho hf hy;go_wp2_with fail;refine(jQqN op hm.o (by omega)).mono ?_;rintro e w3 ⟨rfl,hp3,hb3⟩;have hw:=hd hp3;clear hp3;go_wp2;go_roundw
     case rel=>exact⟨k+1,by omega,by go_num,by rw[hj.o];exact hw.o,by rw[hj.o];omega,hA.o.trans hb3⟩
     case measure=>simp[intOf];omega
   ·have hB:l.take k=l:=List.take_of_length_le (by omega);have ha:=hn.o;rw[hB] at ha;have he:=hd ha;clear ha hB hn;go_wp2_with fail;refine(jQmJ he.o).mono ?_;rintro e w3 ⟨rfl,hp3,hb3⟩;go_wp2;go_ret;exact⟨by rw[HE.o];rfl,hp.trans (hb3.mono (by omega))⟩
end
def Sq.meeting (t:Sq.Tab)(steps:List StepS):List (List Sq.Val):=t.rows.filter fun row=>Sq.meets t.cols row steps
theorem Sq.jQlg (p:List Sq.Val->Bool)(l:List (List Sq.Val))(k:Nat)(h:k<l.length):(l.take (k+1)).filter p=(l.take k).filter p++(if p l[k] then[l[k]] else[]):=by
 rw[List.take_succ_eq_append_getElem h,List.filter_append]
 congr 1
 simp only[List.filter_cons,List.filter_nil]
theorem Sq.jQnR (p:List Sq.Val->Bool)(l:List (List Sq.Val))(k:Nat):((l.take k).filter p).length<=k:=Nat.le_trans (List.length_filter_le _ _) (List.length_take_le _ _)
def Sq.hasKey (rows:List (List Sq.Val))(k:Int):Bool:=rows.any fun r=>Sq.keyOf r==k
def Sq.findTabFrom (n:ByteArray):List Sq.Tab->Int->Int
 | [],_=>-1
 | t::r,i=>if t.name.toList==n.toList then i else Sq.findTabFrom n r (i+1)
def Sq.findTab (db:List Sq.Tab)(n:ByteArray):Int:=Sq.findTabFrom n db 0
structure Sq.Out where
 reply:ByteArray
 makes:Bool
 name:ByteArray
 cols:List Sq.Col
 table:Int
 puts:List (List Sq.Val)
 cuts:List Int
def Sq.refused (e:Int):Sq.Out:=⟨Sq.bBang++Sq.itoa e,false,nobytes,[],0,[],[]⟩
def Sq.sumItems (cols:List Sq.Col)(row:List Sq.Val)(items:List ByteArray):Int:=(items.map fun n=>(Sq.cellOf cols row n).number).sum
def Sq.sumRows (cols:List Sq.Col)(items:List ByteArray)(rows:List (List Sq.Val)):Int:=(rows.map fun r=>Sq.sumItems cols r items).sum
def Sq.rowText (cols:List Sq.Col)(row:List Sq.Val)(items:List ByteArray):List UInt8:=Sq.joined (items.map fun n=>(Sq.written (Sq.cellOf cols row n)).data.toList)
def Sq.listed (cols:List Sq.Col)(items:List ByteArray)(rows:List (List Sq.Val)):List UInt8:=rows.flatMap fun r=>Sq.rowText cols r items++[59]
def Sq.bytesOf (l:List UInt8):ByteArray:=⟨l.toArray⟩
def Sq.showRows (t:Sq.Tab)(st:PSt)(rows:List (List Sq.Val)):ByteArray :=
 if st.shw==2 then Sq.counted rows.length
 else if st.shw==3 then Sq.itoa (Sq.sumRows t.cols st.items rows)++Sq.bSemi
 else if st.shw==1 then Sq.bytesOf (Sq.listed t.cols (t.cols.map Sq.Col.name) rows)
 else Sq.bytesOf (Sq.listed t.cols st.items rows)
def Sq.show (t:Sq.Tab)(st:PSt):ByteArray:=Sq.showRows t st (Sq.meeting t st.wher)
def Sq.remove (t:Sq.Tab)(at_:Int)(l:List StepS):Sq.Out:=⟨Sq.counted (Sq.meeting t l).length,false,nobytes,[],at_,[],(Sq.meeting t l).map Sq.keyOf⟩
def Sq.updated (at_:Int):Option (List (List Sq.Val))->Sq.Out
 | some puts=>⟨Sq.counted puts.length,false,nobytes,[],at_,puts,[]⟩
 | none=>Sq.refused 9
def Sq.update (t:Sq.Tab)(at_:Int)(st:PSt):Sq.Out:=Sq.updated at_ (Sq.updateFrom t.cols st.sets (Sq.meeting t st.wher) [])
def Sq.rowsSum (db:List Sq.Tab):Nat:=(db.map fun t=>t.rows.length).sum
def Sq.dbSize (db:List Sq.Tab):Nat:=db.length+Sq.rowsSum db
def Sq.insert (t:Sq.Tab)(at_ size:Int)(vals:List Sq.Val):Sq.Out :=
 if Sq.hasKey t.rows (Sq.keyOf vals) then Sq.refused 8 else if 60<=size then Sq.refused 10 else⟨Sq.counted 1,false,nobytes,[],at_,[vals],[]⟩
def Sq.create (db:List Sq.Tab)(st:PSt):Sq.Out :=
 if 0<=Sq.findTab db st.table then Sq.refused 5
 else if 4<st.cols.length then Sq.refused 6
 else if Sq.twoOf st.cols then Sq.refused 5
 else if 5<=db.length then Sq.refused 10
 else if 60<=Sq.dbSize db then Sq.refused 10
 else⟨Sq.counted 0,true,st.table,st.cols,0,[],[]⟩
def Sq.decideTab (db:List Sq.Tab)(t:Sq.Tab)(at_:Int)(st:PSt):Sq.Out :=
 if Sq.check t.cols st != 0 then Sq.refused (Sq.check t.cols st)
 else if st.act==2 then Sq.insert t at_ (Sq.dbSize db) st.vals
 else if st.act==3 then Sq.update t at_ st
 else if st.act==4 then Sq.remove t at_ st.wher
 else⟨Sq.show t st,false,nobytes,[],0,[],[]⟩
def Sq.decideSt (db:List Sq.Tab)(st:PSt):Sq.Out :=
 if st.act==1 then Sq.create db st
 else match db[(Sq.findTab db st.table).toNat]? with
  | some t=>if Sq.findTab db st.table<0 then Sq.refused 4 else Sq.decideTab db t (Sq.findTab db st.table) st
  | none=>Sq.refused 4
def Sq.decide (db:List Sq.Tab)(sql:ByteArray):Sq.Out:=if(Sq.parse sql).1 != 0 then Sq.refused (Sq.parse sql).1 else Sq.decideSt db (Sq.parse sql).2
structure Sq.okStm (st:PSt):Prop where
 cols:st.cols.length<=1000
 vals:st.vals.length<=1000
 sets:st.sets.length<=1000
 items:st.items.length<=1000
 wher:st.wher.length<=1000
 okv:∀v∈st.vals,Sq.okVal v
 oks:∀s∈st.sets,Sq.okSet s
section
open Go.RowKit
def RowsOwn (B:Nat)(w:World)(v:Value)(rows:List (List Sq.Val)):Prop :=
 ∃rvs:List Value,w.ownsRow B 138 1 v rows.length rvs/\∀(i:Nat) (row:List Sq.Val),rows[i]?=some row->∃rv,rvs[i]?=some rv/\RowAt w rv row
theorem RowsOwn.below {B:Nat}{w w':World}{v:Value}{rows:List (List Sq.Val)}(h:RowsOwn B w v rows)(hb:Below w.heap.size w w'):RowsOwn B w' v rows:=by
 obtain⟨rvs,h1,h2⟩:=h;exact⟨rvs,jQh h1 hb,fun i row hi=>let ⟨rv,h3,h4⟩:=h2 i row hi;⟨rv,h3,h4.below hb⟩⟩
theorem RowsOwn.base {B B':Nat}{w:World}{v:Value}{rows:List (List Sq.Val)}(h:RowsOwn B w v rows)(hb:B'<=B):RowsOwn B' w v rows:=by
 obtain⟨rvs,h1,h2⟩:=h;exact⟨rvs,jQj h1 hb,h2⟩
theorem RowsOwn.nil (B:Nat)(w:World):RowsOwn B w (.slice none 0 0) []:=⟨[],World.ownsRow_nil _ _ _ _,fun i row h=>by simp at h⟩
theorem RowsOwn.slice {B:Nat}{w:World}{v:Value}{rows:List (List Sq.Val)}(h:RowsOwn B w v rows):∃ao cap,v=.slice ao rows.length cap:=by
 obtain⟨rvs,h1,_⟩:=h;exact jQa h1
theorem RowsOwn.at {B:Nat}{w:World}{v:Value}{rows:List (List Sq.Val)}(h:RowsOwn B w v rows)(k:Nat)(hk:k<rows.length) :
  ∃g cap ra rc,v=.slice (some ⟨g,0,none⟩) rows.length cap/\g<w.heap.size/\w.cell? ⟨g,k,none⟩=some (.slice ra rows[k].length rc)/\RowAt w (.slice ra rows[k].length rc) rows[k]:=by
 obtain⟨rvs,h1,h2⟩:=h;obtain⟨g,cap,rfl,_,hlt⟩:=h1.form (by omega);obtain⟨rv,h3,h4⟩:=h2 k rows[k] (List.getElem?_eq_getElem hk);obtain⟨ra,rc,rfl⟩:=jQa h4.1;refine⟨g,cap,ra,rc,rfl,hlt,?_,h4⟩
 have:=h1.cells (g:=g) rfl k _ h3
 rwa [show(⟨g,0,none⟩:Addr).add k=⟨g,k,none⟩ from by unfold Addr.add;split<;>simp_all] at this
theorem RowAt.one {w:World}{v:Value}{row:List Sq.Val}(h:RowAt w v row):v.oneCell'=true:=by
 obtain⟨a,c,rfl⟩:=jQa h.1;rfl
theorem Tryz.infoRow:(Tryz.prog.info? 138).map (fun i=>(i.zero,i.size,i.bytes))=some (some (.agg #[.slice none 0 0]),1,24):=by kernel_rfl
theorem RowsOwn.snoc {B:Nat}{w1:World}{v' rv:Value}{rows:List (List Sq.Val)}{rvs:List Value}{row:List Sq.Val}
  (h1:w1.ownsRow B 138 1 v' (rows.length+1) (rvs++[rv])) (hl:rvs.length=rows.length)
  (h2:∀(i:Nat) (row:List Sq.Val),rows[i]?=some row->∃rv,rvs[i]?=some rv/\RowAt w1 rv row) (h3:RowAt w1 rv row):RowsOwn B w1 v' (rows++[row]):=by
 refine⟨rvs++[rv],by simpa using h1,fun i r hi=>?_⟩;rcases Nat.lt_or_ge i rows.length with h | h
 ·rw[List.getElem?_append_left h] at hi;obtain⟨x,h4,h5⟩:=h2 i r hi;exact⟨x,by rw[List.getElem?_append_left (by omega)];exact h4,h5⟩
 ·rw[List.getElem?_append_right h] at hi
  have h0:i-rows.length=0:=by
   rcases Nat.eq_zero_or_pos (i-rows.length) with h4 | h4
   ·exact h4
   ·rw[List.getElem?_eq_none (by simp;omega)] at hi;cases hi
  rw[h0] at hi;simp at hi;subst hi;exact⟨rv,by rw[List.getElem?_append_right (by omega),show i-rvs.length=0 from by omega];rfl,h3⟩
theorem RowAt.grown {w w1:World}{v rv:Value}{row:List Sq.Val}{B n:Nat}{xs:List Value}(h:RowAt w rv row)(ho:w.ownsRow B 138 1 v n xs)(hg:w.grownBy w1 v.ownBlock):RowAt w1 rv row :=
 ⟨jQx h.1 ho (by decide) hg,h.2⟩
theorem jQk4 (cols:List Sq.Col)(rows:List (List Sq.Val))(l:List StepS)(cv rv sv:Value)(w:World)(hcols:ColsAt w cv cols)(hrows:RowsOwn 0 w rv rows)(hfew:rows.length<=100000)(hs:StepsAt w sv l)(hl:l.length<=50000) :
  Calls Tryz.prog 76 #[cv,rv,sv] w fun e w'=>∃v,e=.returned v/\RowsOwn w.heap.size w' v (rows.filter fun row=>Sq.meets cols row l)/\Below w.heap.size w w':=by
 obtain⟨i0,hi,hz0,hz1,hz2⟩:=info_parts Tryz.infoRow;obtain⟨ao,cap,rfl⟩:=hrows.slice;obtain⟨co,cap2,rfl⟩:=jQa hcols.1;obtain⟨bo,bap,rfl⟩:=jQa hs.1;have HC:=hd hcols;have H:=hd hrows;have HS:=hd hs;clear hcols hrows hs;go_enter Tryz.func76,Tryz.ntmps76;go_wp2
 go_loopw [7,8] (fun v i wr=>∃k:Nat,k<=rows.length/\i=.int .i64 k/\RowsOwn w.heap.size wr v ((rows.take k).filter fun row=>Sq.meets cols row l)/\Below w.heap.size w wr) (fun _ i _=>rows.length-(intOf i).toNat)
 case atStart=>exact⟨0,zR,rfl,RowsOwn.nil _ _,bR⟩
 case round =>
  obtain⟨k,hk,rfl,he,hb⟩:=hrel;have hq:Below w.heap.size w wr:=hb;have hJ:w.heap.size<=wr.heap.size:=hb.size;have hC:=hd he;have HB:=hd hb;clear he hb
  by_cases hlt:k<rows.length
  ·obtain⟨g,cap',ra,rc,hv,hg,c0,hrow⟩:=(H.o.below hq).at k hlt;simp only[Value.slice.injEq] at hv;obtain⟨rfl,-,rfl⟩:=hv;have hz:=hd (Sq.jQlg (fun row=>Sq.meets cols row l) rows k hlt);have hF:=Sq.jQnR (fun row=>Sq.meets cols row l) rows k;obtain⟨row,hrw⟩:∃x,x=rows[k]:=⟨_,rfl⟩;have hw:=hz.o;rw[<-hrw] at hw c0 hrow;have hf:=hd hw;have hh:=hd hrow;clear hw hrow hz hrw;go_wp2_with fail;refine(jQpf cols row l _ _ _ _ (HC.o.below hq) hh.o (HS.o.below hq) hl).mono ?_;rintro e w2 ⟨rfl,hb2⟩
   ·have ha:Below wr.heap.size wr w2:=hb2;have hB:=hd (HB.o.trans (ha.mono (by omega)));have hc:=hd (hC.o.below ha);have hn:=hd (hh.o.below ha);have c0':=((bcell ha).1 g k hg).trans c0;have hI:=ha.size;clear hb2 ha c0;cases hm:Sq.meets cols row l
    case false =>
     have HE:Hid ((rows.take (k+1)).filter (fun row=>Sq.meets cols row l)=(rows.take k).filter fun row=>Sq.meets cols row l):=by show _=_;rw[hf.o];simp only[hm];simp
     go_wp2;go_roundw
     case rel=>exact⟨k+1,by omega,by go_num,by rw[HE.o];exact hc.o,hB.o⟩
     case measure=>simp[intOf];omega
    case true =>
     have HE:Hid ((rows.take (k+1)).filter (fun row=>Sq.meets cols row l)=((rows.take k).filter fun row=>Sq.meets cols row l)++[row]):=by show _=_;rw[hf.o];simp only[hm];simp
     obtain⟨fl,hfle⟩:∃x,x=(rows.take k).filter fun row=>Sq.meets cols row l:=⟨_,rfl⟩
     have he:=hc.o;have ht:=HE.o;rw[<-hfle] at he ht hF;obtain⟨rvs,ho,hrs⟩:=he;have hG:=hd ht;have hA:rvs.length=fl.length:=by have:=ho.1;omega
     have hH:=hd hA;have hr:=hd (ho.alloc (.cells #[.slice ra row.length rc] 138));have hD:=hd hrs;clear ho hrs ht hfle HE hc hA;go_wp2_with (at_builtin;refine wpList_append_lies _ rfl (.tmp 22) (.tmp 27) 95 rfl w.heap.size 138 i0 _ 1 24 Tryz.underlying95 hi hz0 hz1 hz2 rfl (by decide) _ fl.length rvs rfl hr.o ⟨w2.heap.size,0,none⟩ 1 1 [.slice ra row.length rc] rfl rfl (by exact jQL w2 _ _ _ rfl rfl) (by intro u hu;simp at hu;subst hu;rfl) (by decide) (by unfold maxLen;omega) (by omega) (by simp;omega) _ rfl ?_;intro gg cap3 w3 hown3 hgrow3 hat3 hlt3;have hE:=hd hown3;have hx:=hd hgrow3;clear hown3 hgrow3 hat3);have hp:Below w2.heap.size w2 (w2.alloc (.cells #[.slice ra row.length rc] 138)):=(bR).alloc (nR) _
     have hj:RowsOwn w.heap.size w3 (.slice (some ⟨gg,0,none⟩) (fl.length+1) cap3) (fl++[row]) :=
      RowsOwn.snoc hE.o hH.o (fun i r hi=>let ⟨x,h4,h5⟩:=hD.o i r hi;⟨x,h4,(h5.below hp).grown hr.o hx.o⟩) ((hn.o.below hp).grown hr.o hx.o)
     have hy:Below w.heap.size w w3 :=
      hB.o.trans ((Below.mono (B':=w.heap.size) hp (by omega)).trans (Tch.of_grown hx.o (fun k hk=>(hr.o.lt k hk).1) (by simp;omega)))
     clear hp;go_roundw
     case rel=>exact⟨k+1,by omega,by go_num,by rw[hG.o];exact hj,hy⟩
     case measure=>simp[intOf];omega
  ·have HE:Hid ((rows.filter fun row=>Sq.meets cols row l)=(rows.take k).filter fun row=>Sq.meets cols row l):=by show _=_;rw[List.take_of_length_le (by omega)]
   go_wp2;go_ret;exact⟨_,rfl,by rw[HE.o];exact hC.o.base (by omega),hq⟩
end
section
open Go.RowKit
theorem jQot (row:List Sq.Val)(rv:Value)(w:World)(h:RowAt w rv row) :
  Calls Tryz.prog 115 #[.agg #[rv]] w fun e w'=>e=.returned (.int .i64 (Sq.keyOf row))/\Below w.heap.size w w':=by
 obtain⟨ao,cap,rfl⟩:=jQa h.1;have hl:=h.2;have H:=hd h;clear h;cases row with
 | nil =>
  go_enter Tryz.func115,Tryz.ntmps115;go_wp2;go_ret;exact⟨rfl,(bR).alloc (nR) _⟩
 | cons v r =>
  obtain⟨g,cap',hv,hg,hc⟩:=sl_at (f:=Sq.Val.cells) (fun _=>rfl) H.o.1 0 (by simp);simp only[Value.slice.injEq] at hv;obtain⟨rfl,-,rfl⟩:=hv;have c1:=hc 1 (.int .i64 v.number) (by decide) rfl;simp only[Nat.zero_mul,Nat.zero_add] at c1;have hn:(((v::r).length:Int)==0)=false:=by simp;omega
  have hp:0<(v::r).length:=by simp
  obtain⟨n,hnn⟩:∃n,n=(v::r).length:=⟨_,rfl⟩;rw[<-hnn] at hn hp hl ⊢;clear hc hnn H;go_enter Tryz.func115,Tryz.ntmps115;go_wp2;go_ret;exact⟨rfl,(bR).alloc (nR) _⟩
end
section
open Go.RowKit
def tabCells (x:TabN×Value):List Value:=[.int .i64 x.1.number,.string x.1.name,x.2]
structure TabsOwn (B:Nat)(w:World)(v:Value)(l:List (TabN×Value)):Prop where
 own:w.ownsRow B 94 3 v l.length (l.flatMap tabCells)
 each:∀x∈l,ColsAt w x.2 x.1.cols
 few:l.length<=1000
theorem TabsOwn.below {B:Nat}{w w':World}{v:Value}{l:List (TabN×Value)}(h:TabsOwn B w v l)(hb:Below w.heap.size w w'):TabsOwn B w' v l:=⟨jQh h.own hb,fun x hx=>(h.each x hx).below hb,h.few⟩
theorem TabsOwn.base {B B':Nat}{w:World}{v:Value}{l:List (TabN×Value)}(h:TabsOwn B w v l)(hb:B'<=B):TabsOwn B' w v l:=⟨jQj h.own hb,h.each,h.few⟩
theorem TabsOwn.at {B:Nat}{w:World}{v:Value}{l:List (TabN×Value)}(h:TabsOwn B w v l)(k:Nat)(hk:k<l.length) :
  ∃g cap ca cc,v=.slice (some ⟨g,0,none⟩) l.length cap/\g<w.heap.size/\w.cell? ⟨g,k*3,none⟩=some (.int .i64 l[k].1.number)/\w.cell? ⟨g,k*3+1,none⟩=some (.string l[k].1.name)/\w.cell? ⟨g,k*3+2,none⟩=some (.slice ca l[k].1.cols.length cc)/\ColsAt w (.slice ca l[k].1.cols.length cc) l[k].1.cols:=by
 obtain⟨g,cap,hv,hg,hc⟩:=sl_at (f:=tabCells) (fun _=>rfl) h.own k hk;have ht:=h.each l[k] (List.getElem_mem hk);obtain⟨ca,cc,h1⟩:=jQa ht.1;have c0:=hc 0 (.int .i64 l[k].1.number) (by decide) rfl;have c1:=hc 1 (.string l[k].1.name) (by decide) rfl;have c2:=hc 2 l[k].2 (by decide) rfl;rw[h1] at c2 ht;exact⟨g,cap,ca,cc,hv,hg,by simpa using c0,c1,c2,ht⟩
end
end Go.Proofs.YtahpihjialbanaaGreatDoor
namespace Go.Proofs
open Go.Shelf
def Tryz.laysM246_ren : Go.Shelf.Ren := ⟨fun | 246 => 192 | 283 => 218 | 284 => 219 | 285 => 220 | 286 => 221 | 129 => 230 | 317 => 229 | 318 => 231 | 319 => 232 | 320 => 233 | 337 => 235 | 338 => 236 | n => n, fun | 2 => 2 | 3 => 3 | 9 => 9 | 4 => 4 | 171 => 269 | 0 => 0 | 53 => 186 | 37 => 55 | 5 => 5 | 173 => 272 | 212 => 279 | 51 => 143 | 20 => 20 | 213 => 280 | 46 => 86 | 232 => 283 | 233 => 284 | n => n, fun | 17 => 1 | 18 => 2 | 19 => 3 | n => n⟩
def Tryz.laysM243_ren : Go.Shelf.Ren := ⟨fun | 243 => 144 | 246 => 192 | 283 => 218 | 284 => 219 | 285 => 220 | 286 => 221 | 129 => 230 | 317 => 229 | 318 => 231 | 319 => 232 | 320 => 233 | 337 => 235 | 338 => 236 | n => n, fun | 3 => 3 | 9 => 9 | 2 => 2 | 4 => 4 | 171 => 269 | 0 => 0 | 53 => 186 | 37 => 55 | 5 => 5 | 173 => 272 | 212 => 279 | 51 => 143 | 20 => 20 | 213 => 280 | 46 => 86 | 232 => 283 | 233 => 284 | n => n, fun | 17 => 1 | 18 => 2 | 19 => 3 | n => n⟩
def Tryz.laysM171_ren : Go.Shelf.Ren := ⟨fun | 171 => 102 | 243 => 144 | 246 => 192 | 283 => 218 | 284 => 219 | 285 => 220 | 286 => 221 | 129 => 230 | 317 => 229 | 318 => 231 | 319 => 232 | 320 => 233 | 337 => 235 | 338 => 236 | n => n, fun | 3 => 3 | 9 => 9 | 2 => 2 | 4 => 4 | 171 => 269 | 0 => 0 | 53 => 186 | 37 => 55 | 5 => 5 | 173 => 272 | 212 => 279 | 51 => 143 | 20 => 20 | 213 => 280 | 46 => 86 | 232 => 283 | 233 => 284 | n => n, fun | 17 => 1 | 18 => 2 | 19 => 3 | n => n⟩
theorem Tryz.laysM171 : Go.Proofs.LaysM.n171 Tryz.prog Tryz.laysM171_ren := {
  mixed := by kernel_rfl
  f129 := Tryz.func230.trans (congrArg some (by kernel_rfl))
  f171 := Tryz.func102.trans (congrArg some (by kernel_rfl))
  f243 := Tryz.func144.trans (congrArg some (by kernel_rfl))
  f246 := Tryz.func192.trans (congrArg some (by kernel_rfl))
  f283 := Tryz.func218.trans (congrArg some (by kernel_rfl))
  f284 := Tryz.func219.trans (congrArg some (by kernel_rfl))
  f285 := Tryz.func220.trans (congrArg some (by kernel_rfl))
  f286 := Tryz.func221.trans (congrArg some (by kernel_rfl))
  f317 := Tryz.func229.trans (congrArg some (by kernel_rfl))
  f318 := Tryz.func231.trans (congrArg some (by kernel_rfl))
  f319 := Tryz.func232.trans (congrArg some (by kernel_rfl))
  f320 := Tryz.func233.trans (congrArg some (by kernel_rfl))
  f337 := Tryz.func235.trans (congrArg some (by kernel_rfl))
  f338 := Tryz.func236.trans (congrArg some (by kernel_rfl))
  t0 := Tryz.underlying0
  a0 := Tryz.isAgg0
  z0 := Tryz.sizeOf0
  v0 := Tryz.zeroValue0
  t2 := Tryz.underlying2
  a2 := Tryz.isAgg2
  z2 := Tryz.sizeOf2
  v2 := Tryz.zeroValue2
  t3 := Tryz.underlying3
  a3 := Tryz.isAgg3
  z3 := Tryz.sizeOf3
  v3 := Tryz.zeroValue3
  t4 := Tryz.underlying4
  a4 := Tryz.isAgg4
  z4 := Tryz.sizeOf4
  v4 := Tryz.zeroValue4
  t5 := Tryz.underlying5
  a5 := Tryz.isAgg5
  z5 := Tryz.sizeOf5
  v5 := Tryz.zeroValue5
  t9 := Tryz.underlying9
  a9 := Tryz.isAgg9
  z9 := Tryz.sizeOf9
  v9 := Tryz.zeroValue9
  t20 := Tryz.underlying20
  a20 := Tryz.isAgg20
  z20 := Tryz.sizeOf20
  v20 := Tryz.zeroValue20
  t37 := Tryz.underlying55
  a37 := Tryz.isAgg55
  z37 := Tryz.sizeOf55
  v37 := Tryz.zeroValue55
  t46 := Tryz.underlying86
  a46 := Tryz.isAgg86
  z46 := Tryz.sizeOf86
  v46 := Tryz.zeroValue86
  t51 := Tryz.underlying143
  a51 := Tryz.isAgg143
  z51 := Tryz.sizeOf143
  v51 := Tryz.zeroValue143
  t53 := Tryz.underlying186
  a53 := Tryz.isAgg186
  z53 := Tryz.sizeOf186
  v53 := Tryz.zeroValue186
  t171 := Tryz.underlying269
  a171 := Tryz.isAgg269
  z171 := Tryz.sizeOf269
  v171 := Tryz.zeroValue269
  t173 := Tryz.underlying272
  a173 := Tryz.isAgg272
  z173 := Tryz.sizeOf272
  v173 := Tryz.zeroValue272
  t212 := Tryz.underlying279
  a212 := Tryz.isAgg279
  z212 := Tryz.sizeOf279
  v212 := Tryz.zeroValue279
  t213 := Tryz.underlying280
  a213 := Tryz.isAgg280
  z213 := Tryz.sizeOf280
  t232 := Tryz.underlying283
  a232 := Tryz.isAgg283
  z232 := Tryz.sizeOf283
  v232 := Tryz.zeroValue283
  t233 := Tryz.underlying284
  a233 := Tryz.isAgg284
  z233 := Tryz.sizeOf284
  v233 := Tryz.zeroValue284
  g17 := by kernel_rfl
  g18 := by kernel_rfl
  g19 := by kernel_rfl
  i0 := by kernel_rfl
  i2 := by kernel_rfl
  i3 := by kernel_rfl
  i4 := by kernel_rfl
  i5 := by kernel_rfl
  i9 := by kernel_rfl
  i20 := by kernel_rfl
  i37 := by kernel_rfl
  i46 := by kernel_rfl
  i51 := by kernel_rfl
  i53 := by kernel_rfl
  i171 := by kernel_rfl
  i173 := by kernel_rfl
  i212 := by kernel_rfl
  i232 := by kernel_rfl
  i233 := by kernel_rfl
  m17 := by kernel_rfl
  m18 := by kernel_rfl
  m19 := by kernel_rfl }
open Go.RowKit Go.Sort Go.Lib in
theorem Tryz.strconv_Itoa (n : Int) (h0 : -9223372036854775808 <= n) (h1 : n <= 9223372036854775807) (w : World) (htab : Lib.TabIs Tryz.prog w "internal/strconv.uint64pow10" .u64 Lib.pow10Tab) :
    Calls Tryz.prog 102 #[.int .i64 n] w fun e w' => e = .returned (.string ⟨(Lib.itoa n).toArray⟩) /\ ∃ k os, w' = grow (w.drewN k) os := Any.strconv_Itoa Tryz.laysM171 n h0 h1 w htab
def Tryz.laysM173_ren : Go.Shelf.Ren := ⟨fun | 173 => 166 | 246 => 192 | 283 => 218 | 284 => 219 | 285 => 220 | 286 => 221 | 129 => 230 | 317 => 229 | 318 => 231 | 319 => 232 | 320 => 233 | 337 => 235 | 338 => 236 | n => n, fun | 2 => 2 | 3 => 3 | 9 => 9 | 4 => 4 | 171 => 269 | 0 => 0 | 53 => 186 | 37 => 55 | 5 => 5 | 173 => 272 | 212 => 279 | 51 => 143 | 20 => 20 | 213 => 280 | 46 => 86 | 232 => 283 | 233 => 284 | n => n, fun | 17 => 1 | 18 => 2 | 19 => 3 | n => n⟩
theorem Tryz.laysM173 : Go.Proofs.LaysM.n173 Tryz.prog Tryz.laysM173_ren := {
  mixed := by kernel_rfl
  f129 := Tryz.func230.trans (congrArg some (by kernel_rfl))
  f173 := Tryz.func166.trans (congrArg some (by kernel_rfl))
  f246 := Tryz.func192.trans (congrArg some (by kernel_rfl))
  f283 := Tryz.func218.trans (congrArg some (by kernel_rfl))
  f284 := Tryz.func219.trans (congrArg some (by kernel_rfl))
  f285 := Tryz.func220.trans (congrArg some (by kernel_rfl))
  f286 := Tryz.func221.trans (congrArg some (by kernel_rfl))
  f317 := Tryz.func229.trans (congrArg some (by kernel_rfl))
  f318 := Tryz.func231.trans (congrArg some (by kernel_rfl))
  f319 := Tryz.func232.trans (congrArg some (by kernel_rfl))
  f320 := Tryz.func233.trans (congrArg some (by kernel_rfl))
  f337 := Tryz.func235.trans (congrArg some (by kernel_rfl))
  f338 := Tryz.func236.trans (congrArg some (by kernel_rfl))
  t0 := Tryz.underlying0
  a0 := Tryz.isAgg0
  z0 := Tryz.sizeOf0
  v0 := Tryz.zeroValue0
  t2 := Tryz.underlying2
  a2 := Tryz.isAgg2
  z2 := Tryz.sizeOf2
  v2 := Tryz.zeroValue2
  t3 := Tryz.underlying3
  a3 := Tryz.isAgg3
  z3 := Tryz.sizeOf3
  v3 := Tryz.zeroValue3
  t4 := Tryz.underlying4
  a4 := Tryz.isAgg4
  z4 := Tryz.sizeOf4
  v4 := Tryz.zeroValue4
  t5 := Tryz.underlying5
  a5 := Tryz.isAgg5
  z5 := Tryz.sizeOf5
  v5 := Tryz.zeroValue5
  t9 := Tryz.underlying9
  a9 := Tryz.isAgg9
  z9 := Tryz.sizeOf9
  v9 := Tryz.zeroValue9
  t20 := Tryz.underlying20
  a20 := Tryz.isAgg20
  z20 := Tryz.sizeOf20
  v20 := Tryz.zeroValue20
  t37 := Tryz.underlying55
  a37 := Tryz.isAgg55
  z37 := Tryz.sizeOf55
  v37 := Tryz.zeroValue55
  t46 := Tryz.underlying86
  a46 := Tryz.isAgg86
  z46 := Tryz.sizeOf86
  v46 := Tryz.zeroValue86
  t51 := Tryz.underlying143
  a51 := Tryz.isAgg143
  z51 := Tryz.sizeOf143
  v51 := Tryz.zeroValue143
  t53 := Tryz.underlying186
  a53 := Tryz.isAgg186
  z53 := Tryz.sizeOf186
  v53 := Tryz.zeroValue186
  t171 := Tryz.underlying269
  a171 := Tryz.isAgg269
  z171 := Tryz.sizeOf269
  v171 := Tryz.zeroValue269
  t173 := Tryz.underlying272
  a173 := Tryz.isAgg272
  z173 := Tryz.sizeOf272
  v173 := Tryz.zeroValue272
  t212 := Tryz.underlying279
  a212 := Tryz.isAgg279
  z212 := Tryz.sizeOf279
  v212 := Tryz.zeroValue279
  t213 := Tryz.underlying280
  a213 := Tryz.isAgg280
  z213 := Tryz.sizeOf280
  t232 := Tryz.underlying283
  a232 := Tryz.isAgg283
  z232 := Tryz.sizeOf283
  v232 := Tryz.zeroValue283
  t233 := Tryz.underlying284
  a233 := Tryz.isAgg284
  z233 := Tryz.sizeOf284
  v233 := Tryz.zeroValue284
  g17 := by kernel_rfl
  g18 := by kernel_rfl
  g19 := by kernel_rfl
  i0 := by kernel_rfl
  i2 := by kernel_rfl
  i3 := by kernel_rfl
  i4 := by kernel_rfl
  i5 := by kernel_rfl
  i9 := by kernel_rfl
  i20 := by kernel_rfl
  i37 := by kernel_rfl
  i46 := by kernel_rfl
  i51 := by kernel_rfl
  i53 := by kernel_rfl
  i171 := by kernel_rfl
  i173 := by kernel_rfl
  i212 := by kernel_rfl
  i232 := by kernel_rfl
  i233 := by kernel_rfl
  m17 := by kernel_rfl
  m18 := by kernel_rfl
  m19 := by kernel_rfl }
open Go.RowKit Go.Sort Go.Lib in
theorem Tryz.strconv_FormatInt_10 (n : Int) (h0 : -9223372036854775808 <= n) (h1 : n <= 9223372036854775807) (w : World) (htab : Lib.TabIs Tryz.prog w "internal/strconv.uint64pow10" .u64 Lib.pow10Tab) :
    Calls Tryz.prog 166 #[.int .i64 n, .int .i64 10] w fun e w' => e = .returned (.string ⟨(Lib.itoa n).toArray⟩) /\ ∃ k os, w' = grow (w.drewN k) os := Any.strconv_FormatInt_10 Tryz.laysM173 n h0 h1 w htab
end Go.Proofs
namespace Go.Proofs.YtahpihjialbanaaGreatDoor
open Sq (nobytes PSt StepS TabN OutR)
section
open Go.RowKit
def Tbl (w:World):Prop:=Lib.TabIs Tryz.prog w "internal/strconv.uint64pow10" .u64 Lib.pow10Tab
theorem Tbl.below {w w':World}(h:Tbl w)(hb:Below w.heap.size w w'):Tbl w':=Lib.tabBelow_of_tabIs h w' hb
theorem Tbl.alloc {w:World}(h:Tbl w)(o:Obj):Tbl (w.alloc o):=h.below ((bR).alloc (nR) _)
theorem jQnB (n:Int)(w:World)(h0:-1000000000000000000<=n)(h1:n<=1000000000000000000)(hT:Tbl w) :
  Calls Tryz.prog 102 #[.int .i64 n] w fun e w'=>e=.returned (.string (Sq.itoa n))/\Below w.heap.size w w':=by
 refine(Tryz.strconv_Itoa n (by omega) (by omega) w hT).mono ?_;rintro e w' ⟨rfl,k,os,rfl⟩;exact⟨rfl,Lib.below_grow _ _ (nR) _ _⟩
theorem jQds (n:Int)(w:World)(h0:-1000000000000000000<=n)(h1:n<=1000000000000000000)(hT:Tbl w) :
  Calls Tryz.prog 166 #[.int .i64 n,.int .i64 10] w fun e w'=>e=.returned (.string (Sq.itoa n))/\Below w.heap.size w w':=by
 refine(Tryz.strconv_FormatInt_10 n (by omega) (by omega) w hT).mono ?_;rintro e w' ⟨rfl,k,os,rfl⟩;exact⟨rfl,Lib.below_grow _ _ (nR) _ _⟩
theorem jQdO (n:Int)(h0:-1000000000000000000<=n)(h1:n<=1000000000000000000):(Sq.itoa n).size<=21:=by
 have:=Lib.itoa_length_le n (by omega) (by omega)
 show(Lib.itoa n).toArray.size<=21
 simpa using this
theorem jQaG (n:Int)(w:World)(h0:0<=n)(h1:n<=1000000)(hT:Tbl w) :
  Calls Tryz.prog 109 #[.int .i64 n] w fun e w'=>e=.returned (.string (Sq.counted n))/\Below w.heap.size w w':=by
 have HT:=hd hT;have ha:=jQdO n (by omega) (by omega);clear hT;go_enter Tryz.func109,Tryz.ntmps109;go_wp2_with fail;refine(jQnB n _ (by omega) (by omega) HT.o).mono ?_;rintro e w1 ⟨rfl,hb1⟩;go_wp2;go_ret;exact⟨rfl,hb1⟩
structure OutAt (w:World)(o:OutR)(cv pv kv:Value):Prop where
 cols:ColsAt w cv o.tab.cols
 puts:RowsOwn 0 w pv o.puts
 cuts:w.ownsRow 0 2 1 kv o.cuts.length (o.cuts.map (Value.int .i64))
 nputs:o.puts.length<=100000
 ncuts:o.cuts.length<=100000
def outCells (o:OutR)(cv pv kv:Value):Array Value:=#[.string o.reply,.bool o.makes,.int .i64 o.tab.number,.string o.tab.name,cv,pv,kv]
theorem OutAt.below {w w':World}{o:OutR}{cv pv kv:Value}(h:OutAt w o cv pv kv)(hb:Below w.heap.size w w'):OutAt w' o cv pv kv :=
 ⟨h.cols.below hb,h.puts.below hb,jQh h.cuts hb,h.nputs,h.ncuts⟩
theorem OutAt.none (w:World)(o:OutR)(h1:o.tab.cols=[])(h2:o.puts=[])(h3:o.cuts=[]):OutAt w o (.slice none 0 0) (.slice none 0 0) (.slice none 0 0):=by
 refine⟨⟨?_,?_⟩,?_,?_,?_,?_⟩
 ·rw[h1];exact World.ownsRow_nil _ _ _ _
 ·rw[h1];simp
 ·rw[h2];exact RowsOwn.nil _ _
 ·rw[h3];exact World.ownsRow_nil _ _ _ _
 ·rw[h2];simp
 ·rw[h3];simp
theorem jQac (n:Int)(w:World)(h0:0<=n)(h1:n<=1000000)(hT:Tbl w) :
  Calls Tryz.prog 68 #[.int .i64 n] w fun e w'=>e=.returned (.agg (outCells (Sq.refusedR n) (.slice none 0 0) (.slice none 0 0) (.slice none 0 0)))/\Below w.heap.size w w':=by
 have HT:=hd hT;have hb:=jQdO n (by omega) (by omega);clear hT;go_enter Tryz.func68,Tryz.ntmps68;go_wp2_with fail;refine(jQnB n _ (by omega) (by omega) (HT.o.alloc _)).mono ?_;rintro e w1 ⟨rfl,hb1⟩;have ha:Below w.heap.size w w1:=((Below.refl _ w).alloc (nR) _).trans (hb1.mono (by simp));obtain⟨k1,k2⟩:=bcell hb1;have a0:=k1 w.heap.size 0 (by simp);have a1:=k1 w.heap.size 1 (by simp);have a2:=k1 w.heap.size 2 (by simp);have a3:=k1 w.heap.size 3 (by simp);have a4:=k1 w.heap.size 4 (by simp);have a5:=k1 w.heap.size 5 (by simp);have a6:=k1 w.heap.size 6 (by simp);have b0:=k2 w.heap.size 0 (by simp);have b1:=k2 w.heap.size 1 (by simp);have b2:=k2 w.heap.size 2 (by simp);have b3:=k2 w.heap.size 3 (by simp);have b4:=k2 w.heap.size 4 (by simp);have b5:=k2 w.heap.size 5 (by simp);have b6:=k2 w.heap.size 6 (by simp);simp[go_sem] at a0 a1 a2 a3 a4 a5 a6 b0 b1 b2 b3 b4 b5 b6;have hz:w.heap.size<w1.heap.size:=by have:=hb1.size;simp at this;omega
 clear k1 k2 hb1;go_wp2;refine bodyPost_ret (v:=.agg (outCells (Sq.refusedR n) (.slice none 0 0) (.slice none 0 0) (.slice none 0 0))) (by simp[results,Tryz.results68,go_sem,outCells,Sq.refusedR,Sq.tabNone,Sq.errText,nobytes,Sq.bBang, *]) rfl ⟨rfl,?_⟩;exact Below.setCell (B:=w.heap.size) (Below.setCell (B:=w.heap.size) (Below.setCell (B:=w.heap.size) (Below.setCell (B:=w.heap.size) (Below.setCell (B:=w.heap.size) (Below.setCell (B:=w.heap.size) (Below.setCell (B:=w.heap.size) ha (nR) _) (nR) _) (nR) _) (nR) _) (nR) _) (nR) _) (nR) _
theorem jQf0 (v:Sq.Val)(w:World)(h0:-1000000000000000000<=v.number)(h1:v.number<=1000000000000000000)(hs:v.text.size<=1000)(hT:Tbl w) :
  Calls Tryz.prog 167 #[.agg v.cells.toArray] w fun e w'=>e=.returned (.string (Sq.written v))/\Below w.heap.size w w':=by
 have HT:=hd hT;clear hT;have HE:Hid (Sq.written v=if v.kind==1 then Sq.bQuote++v.text++Sq.bQuote else Sq.itoa v.number):=rfl;obtain⟨vk,vn,vt⟩:=v;unfold Sq.Val.cells
 dsimp only at h0 h1 hs
 cases hk:vk==1
 case true =>
  have hq:((⟨#[39]⟩:ByteArray)++vt).size<=1001:=by
   have:((⟨#[39]⟩:ByteArray)++vt).size=1+vt.size:=ByteArray.size_append
   omega
  go_enter Tryz.func167,Tryz.ntmps167;go_wp2;go_ret;exact⟨by rw[HE.o];simp only[hk];rfl,(bR).alloc (nR) _⟩
 case false =>
  go_enter Tryz.func167,Tryz.ntmps167;go_wp2_with fail;refine(jQds vn _ h0 h1 (HT.o.alloc _)).mono ?_;rintro e w1 ⟨rfl,hb1⟩;go_wp2;go_ret;exact⟨by rw[HE.o];simp only[hk];rfl,((bR).alloc (nR) _).trans (hb1.mono (by simp))⟩
end
end Go.Proofs.YtahpihjialbanaaGreatDoor
