import Derived.Laws.AppendOwnNone
import Derived.Test.YtahpihjialbanaaGreatDoorQaj
import Derived.Test.YtahpihjialbanaaGreatDoorQan
import Derived.Test.YtahpihjialbanaaGreatDoorQap
set_option linter.unusedVariables false
set_option linter.unusedSimpArgs false
set_option maxRecDepth 100000
set_option maxHeartbeats 4000000
namespace Go.Proofs.YtahpihjialbanaaGreatDoor
open Sq (headN Nd Trl Ent takeN numV touchR Rd thruN)
section
open Go.RowKit
def out0:Array Value:=#[.string ⟨#[]⟩,.bool false,.int .i64 0,.string ⟨#[]⟩,.slice none 0 0,.slice none 0 0,.slice none 0 0]
theorem jQap (w:World)(o:Obj):(w.alloc o).heap[w.heap.size]?=some o:=by show(w.heap.push o)[w.heap.size]?=some o;simp
theorem jQbM {w:World}{k:Nat}(h:k<w.heap.size)(o:Obj):(w.alloc o).heap[k]?=w.heap[k]?:=by show(w.heap.push o)[k]?=w.heap[k]?;rw[Array.getElem?_push,if_neg (Nat.ne_of_lt h)]
theorem jQG {w:World}{b:Nat}(h:w.heap[b]?=some (.cells out0 98)) :
  w.cell? ⟨b,0,none⟩=some (.string ⟨#[]⟩)/\w.cell? ⟨b,1,none⟩=some (.bool false)/\w.cell? ⟨b,2,none⟩=some (.int .i64 0)/\w.cell? ⟨b,3,none⟩=some (.string ⟨#[]⟩)/\w.cell? ⟨b,4,none⟩=some (.slice none 0 0)/\w.cell? ⟨b,5,none⟩=some (.slice none 0 0)/\w.cell? ⟨b,6,none⟩=some (.slice none 0 0) :=
 ⟨by rw[jQb h];rfl,by rw[jQb h];rfl,by rw[jQb h];rfl,by rw[jQb h];rfl,by rw[jQb h];rfl,by rw[jQb h];rfl,by rw[jQb h];rfl⟩
theorem jQy {w:World}{b:Nat}(h:w.heap[b]?=some (.cells out0 98)) :
  w.frozen? ⟨b,0,none⟩=false/\w.frozen? ⟨b,1,none⟩=false/\w.frozen? ⟨b,2,none⟩=false/\w.frozen? ⟨b,3,none⟩=false/\w.frozen? ⟨b,4,none⟩=false/\w.frozen? ⟨b,5,none⟩=false/\w.frozen? ⟨b,6,none⟩=false :=
 ⟨jQd h _,jQd h _,jQd h _,jQd h _,jQd h _,jQd h _,jQd h _⟩
theorem jQaE {w w':World}{rb B:Nat}{e e':TypeId}{size:Nat}{v:Value}{n:Nat}{xs:List Value}{c:Array Value}{fr:Nat×Nat}(h:w.ownsRow B e size v n xs)(hb:w.heap[rb]?=some (.cells c e' fr))(hne:e≠e')(ho:∀g,g≠rb->w'.heap[g]?=w.heap[g]?):w'.ownsRow B e size v n xs :=
 jQq h fun g hg=>ho g fun e=>jQn h hb hne (e ▸ hg)
theorem RowAt.o {w w':World}{rb:Nat}{v:Value}{row:List Sq.Val}{e':TypeId}{c:Array Value}{fr:Nat×Nat}(h:RowAt w v row)(hb:w.heap[rb]?=some (.cells c e' fr))(hne:208≠e')(ho:∀g,g≠rb->w'.heap[g]?=w.heap[g]?):RowAt w' v row:=⟨jQaE h.1 hb hne ho,h.2⟩
theorem RowsOwn.o {w w':World}{rb B:Nat}{v:Value}{rows:List (List Sq.Val)}{e':TypeId}{c:Array Value}{fr:Nat×Nat}(h:RowsOwn B w v rows)(hb:w.heap[rb]?=some (.cells c e' fr))(h1:208≠e')(h2:138≠e')(ho:∀g,g≠rb->w'.heap[g]?=w.heap[g]?):RowsOwn B w' v rows:=by
 obtain⟨rvs,h3,h4⟩:=h;exact⟨rvs,jQaE h3 hb h2 ho,fun i row hi=>let ⟨rv,h5,h6⟩:=h4 i row hi;⟨rv,h5,h6.o hb h1 ho⟩⟩
theorem ColsAt.o {w w':World}{rb:Nat}{v:Value}{l:List Sq.Col}{e':TypeId}{c:Array Value}{fr:Nat×Nat}(h:ColsAt w v l)(hb:w.heap[rb]?=some (.cells c e' fr))(hne:205≠e')(ho:∀g,g≠rb->w'.heap[g]?=w.heap[g]?):ColsAt w' v l:=⟨jQaE h.1 hb hne ho,h.2⟩
def OutPost (w:World)(o:Sq.OutR)(e:Ending)(w':World):Prop:=∃cv pv kv,e=.returned (.agg (outCells o cv pv kv))/\OutAt w' o cv pv kv/\Below w.heap.size w w'
theorem Tryz.infoI64:(Tryz.prog.info? 2).map (fun i=>(i.zero,i.size,i.bytes))=some (some (.int .i64 0),1,8):=by kernel_rfl
theorem jQpl (rows:List (List Sq.Val))(k:Nat)(h:k<rows.length):(rows.take (k+1)).map Sq.keyOf=(rows.take k).map Sq.keyOf++[Sq.keyOf rows[k]]:=by
 rw[List.take_succ_eq_append_getElem h,List.map_append];rfl
theorem tab3 {w:World}{b:Nat}{a0 a1 a2:Value}(h:w.heap[b]?=some (.cells #[a0,a1,a2] 94)):w.cell? ⟨b,0,none⟩=some a0/\w.cell? ⟨b,1,none⟩=some a1/\w.cell? ⟨b,2,none⟩=some a2/\w.frozen? ⟨b,0,none⟩=false/\w.frozen? ⟨b,1,none⟩=false/\w.frozen? ⟨b,2,none⟩=false :=
 ⟨by rw[jQb h];rfl,by rw[jQb h];rfl,by rw[jQb h];rfl,jQd h _,jQd h _,jQd h _⟩
theorem jQmy (t:Sq.TabN)(tv:Value)(rows:List (List Sq.Val))(rv:Value)(w:World)(htc:ColsAt w tv t.cols)(h:RowsOwn 0 w rv rows)(hT:Tbl w)(hn:rows.length<=1000) :
  Calls Tryz.prog 78 #[.agg #[.int .i64 t.number,.string t.name,tv],rv] w (OutPost w (Sq.removeR t rows)):=by
 obtain⟨i0,hi,hz0,hz1,hz2⟩:=info_parts Tryz.infoI64;obtain⟨vo,vc,rfl⟩:=h.slice;obtain⟨to',tcap,rfl⟩:=jQa htc.1;obtain⟨tn,tnm,cols⟩:=t;simp only at htc ⊢;have hD:Hid (Sq.removeR ⟨tn,tnm,cols⟩ rows=⟨Sq.counted rows.length,false,⟨tn,tnm,cols⟩,[],rows.map Sq.keyOf⟩):=rfl;have HT:=hd hT;obtain⟨w1,hw1,hbw,hbox,hblk⟩:=jQcp w (.cells #[.int .i64 tn,.string tnm,.slice to' cols.length tcap] 94) (.cells out0 98);have hz:=jQf hblk;have hO:=hd (h.below hbw);have hH:=hd htc;have hs:=hd hblk;have hA:=hd hbox;clear h hT hblk hbox htc;go_enter Tryz.func78,Tryz.ntmps78;go_wp2;rw[show(w.alloc (.cells #[.int .i64 tn,.string tnm,.slice to' cols.length tcap] 94)).alloc (.cells #[.string ⟨#[]⟩,.bool false,.int .i64 0,.string ⟨#[]⟩,.slice none 0 0,.slice none 0 0,.slice none 0 0] 98)=w1 from hw1.symm];clear hw1
 go_loopw [5,6] (fun v i wr=>∃k:Nat,k<=rows.length/\i=.int .i64 k/\wr.ownsRow w1.heap.size 2 1 v k (((rows.take k).map Sq.keyOf).map (Value.int .i64))/\Below w1.heap.size w1 wr) (fun _ i _=>rows.length-(intOf i).toNat)
 case atStart=>exact⟨0,zR,rfl,World.ownsRow_nil _ _ _ _,bR⟩
 case round =>
  obtain⟨k,hk,rfl,hown,hb⟩:=hrel;obtain⟨xo,xc,rfl⟩:=jQa hown;have hL:=hb.size;have HB:=hd hb;have HO:=hd hown;clear hb hown
  by_cases hlt:k<rows.length
  ·obtain⟨g,cap',ra,rc,hv,hg,c0,hrow⟩:=(hO.o.below HB.o).at k hlt;simp only[Value.slice.injEq] at hv;obtain⟨rfl,-,rfl⟩:=hv;have hC:=hd (jQpl rows k hlt);obtain⟨row,hrw⟩:∃x,x=rows[k]:=⟨_,rfl⟩;have hx:=hC.o;rw[<-hrw] at hx c0 hrow;have ht:=hd hx;have hr:=hd hrow;clear hx hrow hC hrw;obtain⟨kx,hkx⟩:∃y,y=Sq.keyOf row:=⟨_,rfl⟩;have hB:=hd hkx;clear hkx;go_wp2_with (first | (go_at_call 115;refine(jQot row _ _ hr.o).mono ?_;rintro e w2 ⟨rfl,hb2⟩;rw[<-hB.o];have hN:=hd hb2;have hM:=hb2.size;have hq:=hd ((jQh HO.o hb2).alloc (.cells #[.int .i64 kx] 2));clear hb2) | (at_builtin;refine wpList_append_lies _ rfl (.tmp 13) (.tmp 19) 96 rfl w1.heap.size 2 i0 _ 1 8 Tryz.underlying96 hi hz0 hz1 hz2 rfl (by decide) _ k _ rfl hq.o ⟨w2.heap.size,0,none⟩ 1 1 [.int .i64 kx] rfl rfl (by exact jQL w2 _ _ _ rfl rfl) (by intro u hu;simp at hu;subst hu;rfl) (by decide) (by unfold maxLen;omega) (by omega) (by simp;omega) _ rfl ?_;intro gg cap3 w3 hown3 hgrow3 hat3 hlt3;have hK:=hd hown3;have hJ:=hd hgrow3;clear hown3 hgrow3 hat3));have hw:Below w1.heap.size w1 w3:=(Below.alloc (B:=w1.heap.size) (HB.o.trans (hN.o.mono hL)) (by omega) _).trans (Tch.of_grown hJ.o (fun k hk=>(hq.o.lt k hk).1) (by simp;omega));go_roundw
   case rel=>exact⟨k+1,by omega,by go_num,by rw[ht.o,<-hB.o,List.map_append];exact hK.o,hw⟩
   case measure=>simp[intOf];omega
  ·have hE:k=rows.length:=by omega
   have hG:rows.take k=rows:=List.take_of_length_le (by omega);have ho:=HO.o;rw[hG] at ho;have hq:=hd ho;obtain⟨wo,rfl⟩:∃wo:World,wo=wr:=⟨_,rfl⟩;have hh:=(HB.o.block (w.heap.size+1) (by omega)).trans hs.o;have hc:=(HB.o.block (w.heap.size) (by omega)).trans hA.o;obtain⟨q0,q1,q2,-,-,-⟩:=tab3 hc;have hm:=hd hh;have hl:=hd hc;have hp:Below w.heap.size w wo:=hbw.trans (HB.o.mono (by omega));have hj:=hd hp;have hF:=hd hE;have hI:w.heap.size<wo.heap.size:=by omega
   clear hG ho HO hh hp hE hc;go_wp2
   go_region_with (go_at_call 109;refine(jQaG k _ (by omega) (by omega) (HT.o.below hj.o.drew)).mono ?_;rintro e w3 ⟨rfl,hb3⟩;have he:Below wo.heap.size wo w3:=(Below.drew (bR)).trans hb3;have ha:=(he.block (w.heap.size+1) (by omega)).trans hm.o;obtain⟨d0,d1,d2,d3,d4,d5,d6⟩:=jQG ha;obtain⟨f0,f1,f2,f3,f4,f5,f6⟩:=jQy ha;obtain⟨p0,p1,p2,-,-,-⟩:=tab3 ((he.block w.heap.size hI).trans hl.o);have hQ:=he.size;have hy:=hd he;have hf:=hd ha;have hR:w.heap.size+1<w3.heap.size:=(by omega);have hP:w.heap.size<w3.heap.size:=(by omega);clear hb3 he ha)
   all_goals(try go_wp2)
   all_goals
    refine bodyPost_ret (v:=.agg (outCells (Sq.removeR ⟨tn,tnm,cols⟩ rows) (.slice to' cols.length tcap) (.slice none 0 0) (.slice xo k xc))) (by rw[hD.o,<-hF.o];simp[results,Tryz.results78,go_sem,outCells,Sq.nobytes, *]) rfl ⟨_,_,_,rfl,?_,?_⟩
    ·rw[hD.o];refine⟨ColsAt.o ((hH.o.below hj.o).below hy.o) hf.o (by decide) (fun g hg=>jQl _ _ _ _ _ _ _ _ _ hg),RowsOwn.nil _ _,?_,by simp,by simp;omega⟩;show World.ownsRow _ 0 2 1 _ (rows.map Sq.keyOf).length _;rw[List.length_map,<-hF.o];exact jQj (jQaE (jQh hq.o hy.o) hf.o (by decide) (fun g hg=>jQl _ _ _ _ _ _ _ _ _ hg)) (zR)
    ·exact jQu (hj.o.trans (hy.o.mono (by omega))) (by omega) _ _ _ _ _ _ _
end
section
open Go.RowKit
structure Rf (b:Nat)(w w':World):Prop where
 os:w'.os=w.os
 tape:w'.tape=w.tape
 output:w'.output=w.output
 size:w.heap.size<=w'.heap.size
 block:∀k,k<w.heap.size->k≠b->w'.heap[k]?=w.heap[k]?
theorem Rf.refl (b:Nat)(w:World):Rf b w w:=⟨rfl,rfl,rfl,nR,fun _ _ _=>rfl⟩
theorem Rf.trans {b:Nat}{w w1 w2:World}(h:Rf b w w1)(k:Rf b w1 w2):Rf b w w2 :=
 ⟨k.os.trans h.os,k.tape.trans h.tape,k.output.trans h.output,Nat.le_trans h.size k.size,fun g hg hb=>(k.block g (Nat.lt_of_lt_of_le hg h.size) hb).trans (h.block g hg hb)⟩
theorem Rf.of_only {b:Nat}{w w':World}(h:Only b w w'):Rf b w w':=⟨h.below.os,h.below.tape,h.below.output,h.below.size,fun g _ hb=>h.other g hb⟩
theorem Rf.of_below {b:Nat}{w w':World}(h:Below w.heap.size w w'):Rf b w w':=⟨h.os,h.tape,h.output,h.size,fun g hg _=>h.block g hg⟩
theorem Rf.below {b B:Nat}{w w':World}(h:Rf b w w')(h1:B<=b)(h2:B<=w.heap.size):Below B w w':=⟨h.os,h.tape,h.output,h.size,fun k hk=>h.block k (by omega) (by omega)⟩
theorem RdAt.below {b:Nat}{w w':World}{r:Rd}(h:RdAt b w r)(hb:Below w.heap.size w w'):RdAt b w' r:=(hb.block b (jQf h)).trans h
theorem jQhF {b:Nat}{w w':World}{r:Rd}{B:Nat}{e:TypeId}{size:Nat}{v:Value}{n:Nat}{xs:List Value}(h:w.ownsRow B e size v n xs)(hr:RdAt b w r)(hne:e≠105)(hf:Rf b w w'):w'.ownsRow B e size v n xs:=by
 refine⟨h.1,?_⟩;rcases h.2 with h0 | ⟨g,cap,cur,hv,hbg,hh,hn,hm,hc,ht⟩
 ·exact Or.inl h0
 ·refine Or.inr ⟨g,cap,cur,hv,hbg,(hf.block g (jQf hh) fun e2=>?_).trans hh,hn,hm,hc,ht⟩;subst e2;unfold RdAt at hr;rw[hr] at hh;simp only[Option.some.injEq,Obj.cells.injEq] at hh;exact hne hh.2.1.symm
theorem EntsAt.rf {b:Nat}{w w':World}{r:Rd}{B:Nat}{v:Value}{es:List Ent}(h:EntsAt B w v es)(hr:RdAt b w r)(hf:Rf b w w'):EntsAt B w' v es:=jQhF h hr (by decide) hf
theorem NodeAt.rf {Z:Nat->Prop}{b n:Nat}{w w':World}{r:Rd}{t:Nd n}{ev cv:Value}(h:NodeAt Z w n t ev cv)(hr:RdAt b w r)(hf:Rf b w w'):NodeAt Z w' n t ev cv :=
 h.same fun g c e fr hg he=>hf.block g (jQf hg) fun e2=>by
  subst e2;unfold RdAt at hr;rw[hr] at hg;simp only[Option.some.injEq,Obj.cells.injEq] at hg;rcases he with rfl | rfl
  ·exact absurd hg.2.1 (by decide)
  ·exact absurd hg.2.1 (by decide)
theorem jQcU (b:Nat)(r:Rd)(w:World)(h:RdAt b w r)(hs:r.rest.size<=1000000) :
  Calls Tryz.prog 88 #[.pointer (some ⟨b,0,none⟩),.int .i64 1] w fun e w'=>e=.returned (.int .i64 (numV r 1))/\RdAt b w' (takeN r 1)/\Only b w w':=jQfd b r 1 w h hs (by decide)
theorem jQil (b:Nat)(r:Rd)(w:World)(h:RdAt b w r)(hs:r.rest.size<=1000000) :
  Calls Tryz.prog 88 #[.pointer (some ⟨b,0,none⟩),.int .i64 5] w fun e w'=>e=.returned (.int .i64 (numV r 5))/\RdAt b w' (takeN r 5)/\Only b w w':=jQfd b r 5 w h hs (by decide)
theorem jQnS (k:Nat)(r:Rd):Sq.entsR (k+1) r=(⟨numV r 5,Sq.txtV (takeN r 5)⟩::(Sq.entsR k (Sq.txtN (takeN r 5))).1,(Sq.entsR k (Sq.txtN (takeN r 5))).2):=rfl
def LeafSays (b:Nat)(x:List Ent×Rd)(w:World)(e:Ending)(w':World):Prop :=
 ∃ev,e=.returned (.agg (headCells (Sq.leafF (α:=Empty) x.1).hd ev (.slice none 0 0)).toArray)/\EntsAt 0 w' ev x.1/\RdAt b w' x.2/\Rf b w w'
theorem jQiK (b:Nat)(r:Rd)(w:World)(h:RdAt b w r)(hs:r.rest.size<=1000000) :
  Calls Tryz.prog 91 #[.pointer (some ⟨b,0,none⟩)] w (LeafSays b (Sq.entsR (numV r 1).toNat (takeN r 1)) w):=by
 have hP:=Sq.jQc5 r;have hZ:=Nat.le_trans (Sq.jQp r 1) hs;obtain⟨c,hc⟩:=Int.eq_ofNat_of_zero_le hP.1;have hJ:c<=255:=by omega
 have hL:=Sq.jQb5 c (takeN r 1);obtain⟨x,hx⟩:∃x,x=Sq.entsR c (takeN r 1):=⟨_,rfl⟩;rw[hc,Int.toNat_natCast,<-hx];rw[<-hx] at hL;have HX:=hd hx;have HC:=hd hc;have h6:=jQf h;have H:=hd h;have h8:x.1.length<=1000:=by omega
 clear h hx hc hP hL;obtain⟨W,hW⟩:∃W:World,W=w.alloc (.cells node0 60):=⟨_,rfl⟩;have hH:Below w.heap.size w W:=by rw[hW];exact(bR).alloc (nR) _
 have hj:W.heap[w.heap.size]?=some (.cells node0 60):=by rw[hW];exact jQi _ _
 have h9:=jQf hj;have hN:=hd (H.o.below hH);have hM:=hd hH;have ht:=hd hj;clear hH hj;go_enter Tryz.func91,Tryz.ntmps91;go_wp2_with fail;rw[<-show node0=#[.bool false,.slice none 0 0,.slice none 0 0,.int .i64 0,.int .i64 0,.string ⟨#[]⟩,.int .i64 0] from rfl,<-hW];clear hW;refine(jQcU b r _ hN.o hs).mono ?_;rintro e w1 ⟨rfl,hr1,ho1⟩;rw[HC.o];have he:=(ho1.other w.heap.size (by omega)).trans ht.o;have hz:Hid (Rf b w w1):=(Rf.of_below hM.o).trans (Rf.of_only ho1);have hU:=hd hr1;have hp:=hd he;have Ha:=jQf he;clear ho1 hr1 he hN hM ht H;go_wp2
 go_loopw [3,5] (fun v i wr=>∃(k:Nat) (acc:List Ent) (rr:Rd),k<=c/\i=.int .i64 k/\Hid (EntsAt (w.heap.size+1) wr v acc)/\Hid (acc.length=k)/\rr.rest.size<=1000000/\Hid (RdAt b wr rr)/\Hid (x=(acc++(Sq.entsR (c-k) rr).1,(Sq.entsR (c-k) rr).2))/\Hid (Rf b w wr)/\Hid (wr.heap[w.heap.size]?=some (.cells node0 60))) (fun _ i _=>c-(intOf i).toNat)
 case atStart=>exact⟨0,[],takeN r 1,zR,rfl,World.ownsRow_nil _ _ _ _,rfl,hZ,hU,by show _=_;rw[HX.o];rfl,hz,hp⟩
 case round =>
  obtain⟨k,acc,rr,hk,rfl,hac,hacl,hrs,hrd,hq,hrf,hre⟩:=hrel;have h7:acc.length<=255:=by have:=hacl.o;omega
  obtain⟨wo,rfl⟩:∃wo:World,wo=wr:=⟨_,rfl⟩;obtain⟨yo,ycap,rfl⟩:=jQa hac.o;have h2:=jQf hre.o;have Hb:=jQf hrd.o
  by_cases hkt:k<c
  ·have i1:(k:Int)<(c:Int):=by omega
   obtain⟨m,hm⟩:∃m,c-k=m+1:=⟨c-k-1,by omega⟩;have ho:=hq.o;rw[hm,jQnS] at ho;simp only at ho;have hK:c-(k+1)=m:=by omega
   have hI:=Nat.le_trans (Sq.jQp rr 5) hrs;have h4:=Nat.le_trans (Sq.jQbP (takeN rr 5)) hI;have h5:=Sq.jQm0 rr 5 (by decide);have hX:=Nat.le_trans (Sq.jQco (takeN rr 5)) hI;obtain⟨pl,hpl⟩:∃x,x=numV rr 5:=⟨_,rfl⟩;obtain⟨tx,htx⟩:∃x,x=Sq.txtV (takeN rr 5):=⟨_,rfl⟩;rw[<-hpl,<-htx] at ho;rw[<-htx] at hX;have hS:=hd hpl;have hV:=hd htx;have hE:=hd ho;have h1:=hd hK;clear hq ho hm hK hpl htx h5;go_wp2_with fail;refine(jQil b rr _ hrd.o hrs).mono ?_;rintro e w2 ⟨rfl,hr2,ho2⟩;rw[<-hS.o];have hF:=hd hr2;have hv:=hd (hac.o.rf hrd.o (Rf.of_only ho2));have ha:=hd (hrf.o.trans (Rf.of_only ho2));have hh:=hd ((ho2.other w.heap.size (by omega)).trans hre.o);clear hr2 ho2 hac hrd hrf hre;go_wp2_with fail;refine(jQbr b _ _ hF.o hI).mono ?_;rintro e w3 ⟨rfl,hr3,ho3⟩;rw[<-hV.o];have hu:=hv.o.rf hF.o (Rf.of_only ho3);have hn:=ha.o.trans (Rf.of_only ho3);have hi:=(ho3.other w.heap.size (by omega)).trans hh.o;have hY:=jQf hi;have hr:Below w3.heap.size w3 (w3.alloc (.cells #[.int .i64 pl,.string tx] 141)):=(bR).alloc (nR) _;have hC:=hd (hu.below hr);have hQ:=hd (hr3.below hr);have hb:=hd (hn.trans (Rf.of_below hr));have hB:=hd ((hr.block _ hY).trans hi);clear hr3 ho3 hu hn hi hr hF hv ha hh;go_wp2_with (at_builtin;refine jQN rfl (.tmp 19) (.tmp 23) rfl (w.heap.size+1) _ acc rfl hC.o ⟨pl,tx⟩ w3.heap.size 1 rfl (by simp[go_sem]) (by simp[go_sem]) (by omega) (by simp;omega) ?_;intro v5 w5 hown5 hb5;have hR:=hd hown5;have hl:=hd hb5;clear hown5 hb5);have hT:RdAt b w5 (Sq.txtN (takeN rr 5)):=(hl.o.block b (by omega)).trans hQ.o;have hG:w5.heap[w.heap.size]?=some (.cells node0 60):=(hl.o.block _ (by omega)).trans hB.o;have hy:Rf b w w5:=⟨hl.o.os.trans hb.o.os,hl.o.tape.trans hb.o.tape,hl.o.output.trans hb.o.output,Nat.le_trans hb.o.size hl.o.size,fun g hg hgb=>(hl.o.block g (by omega)).trans (hb.o.block g hg hgb)⟩
   go_roundw
   case rel=>exact⟨k+1,acc++[⟨pl,tx⟩],Sq.txtN (takeN rr 5),by omega,by go_num,hR,by show _=_;rw[List.length_append,hacl.o];rfl,h4,hT,by show _=_;rw[hE.o,h1.o];simp,hy,hG⟩
   case measure=>simp[intOf];omega
  ·have hO:k=c:=by omega
   have i1:¬((k:Int)<(c:Int)):=by omega
   have hE:Hid (x=(acc,rr)):=by show _=_;rw[hq.o,hO,Nat.sub_self];simp[Sq.entsR]
   have hD:acc.length<=1000:=by omega
   clear hq hO;go_wp2_with fail;refine(jQg5 acc _ _ (Reads.of_own hac.o) hD).mono ?_;rintro e w2 ⟨ev,rfl,hev,hb2⟩;obtain⟨xo,xcap,rfl⟩:=jQa hev;obtain⟨lh,hlh⟩:∃y,y=(Sq.leafF (α:=Empty) acc).hd:=⟨_,rfl⟩;rw[<-hlh,jQc];have hf:=(hb2.block w.heap.size h2).trans hre.o;obtain⟨b0,b1,b2,b3,b4,b5,b6⟩:=jQw hf;obtain⟨f0,f1,f2,f3,f4,f5,f6⟩:=jQk hf;have Hc:=jQf hf;have hh:=hd hf;have hA:=hd (hrd.o.below hb2);have ha:=hd (hrf.o.trans (Rf.of_below hb2));have h3:=hd (jQj hev (zR));have h0:=hd hlh;clear hev hb2 hf hrd hrf hre hac hlh;go_wp2;refine bodyPost_ret (v:=.agg #[.bool lh.inner,.slice xo acc.length xcap,.slice none 0 0,.int .i64 lh.least,.int .i64 lh.rows,.string lh.sl,.int .i64 lh.num]) (by simp[results,Tryz.results91,go_sem, *]) rfl ?_;rw[hE.o];refine⟨.slice xo acc.length xcap,by rw[<-h0.o,jQc],?_,?_,?_⟩
   ·exact jQaE h3.o hh.o (by decide) (fun g hg=>jQl _ _ _ _ _ _ _ _ _ hg)
   ·exact(jQl _ _ _ _ _ _ _ _ _ (by omega)).trans hA.o
   ·have hw:=jQu (b:=w.heap.size) (Below.refl 0 w2) (zR) (.bool lh.inner) (.slice xo acc.length xcap) (.slice none 0 0) (.int .i64 lh.least) (.int .i64 lh.rows) (.string lh.sl) (.int .i64 lh.num);exact⟨hw.os.trans ha.o.os,hw.tape.trans ha.o.tape,hw.output.trans ha.o.output,Nat.le_trans ha.o.size hw.size,fun g hg hgb=>(jQl _ _ _ _ _ _ _ _ _ (by omega)).trans (ha.o.block g hg hgb)⟩
end
section
open Go.RowKit
variable {Z:Nat->Prop}
theorem jQoI (tr:Trl)(h:Sq.Head):(touchR tr h).nums.length<=tr.nums.length+1:=by
 unfold touchR;simp only
 split
 ·simp
 ·omega
theorem jQrb (es:List Ent)(p:Int)(k:Nat)(h:k<es.length):(es.drop k).any (fun x=>x.place==p)=(es[k].place==p || (es.drop (k+1)).any fun x=>x.place==p):=by
 rw[List.drop_eq_getElem_cons h];rfl
theorem jQrk {α:Type}(f:α->Sq.Head)(l:List α)(p:Int):Sq.wayF f l p<=l.length:=by
 rcases Nat.eq_zero_or_pos l.length with h | h
 ·have:l=[]:=by simpa using h
  subst this;exact nR
 ·exact Nat.le_of_lt (Sq.jQjr f l p (by intro e;subst e;simp at h))
def HasSays (tb:Nat)(n:Nat)(t:Nd n)(p:Int)(tr:Trl)(w:World)(e:Ending)(w':World):Prop:=e=.returned (.bool (Sq.hasN n t p tr).1)/\TrAt tb w' (Sq.hasN n t p tr).2/\TFrm tb w w'
theorem jQqd (n:Nat)(h:Sq.Head)(es:List Ent)(l:List (Nd n×Value×Value))(ev cv:Value)(p:Int)(tb:Nat)(tr:Trl)(w:World)(hes:EntsAt 0 w ev es)(hn:NodesAt Z 0 w cv n l)(hel:es.length<=1000)(hl:l.length<=1000)(ht:TrAt tb w tr)(hroom:tr.nums.length+1<=100000)
  (ih:∀x∈l,∀w',NodeAt Z w' n x.1 x.2.1 x.2.2->TrAt tb w' (touchR tr h)->Calls Tryz.prog 153 #[.agg (nodeCells n x).toArray,.int .i64 p,.pointer (some ⟨tb,0,none⟩)] w' (HasSays tb n x.1 p (touchR tr h) w')) :
  Calls Tryz.prog 153 #[.agg (headCells h ev cv).toArray,.int .i64 p,.pointer (some ⟨tb,0,none⟩)] w fun e w'=>e=.returned (.bool (Sq.hasF (headN n) (Sq.hasN n) ⟨h,es,l.map Prod.fst⟩ p tr).1)/\TrAt tb w' (Sq.hasF (headN n) (Sq.hasN n) ⟨h,es,l.map Prod.fst⟩ p tr).2/\TFrm tb w w':=by
 obtain⟨eo,ecap,rfl⟩:=jQa hes;obtain⟨co,ccap,rfl⟩:=jQa hn.own;rw[jQc];have hF:=ht.lt;obtain⟨W,hWW⟩:∃W,W=w.alloc (.cells #[.bool h.inner,.slice eo es.length ecap,.slice co l.length ccap,.int .i64 h.least,.int .i64 h.rows,.string h.sl,.int .i64 h.num] 60):=⟨_,rfl⟩;have hW:Below w.heap.size w W:=by rw[hWW];exact(bR).alloc (nR) _
 have hc:W.heap[w.heap.size]?=some (.cells #[.bool h.inner,.slice eo es.length ecap,.slice co l.length ccap,.int .i64 h.least,.int .i64 h.rows,.string h.sl,.int .i64 h.num] 60):=by rw[hWW];exact jQi w _
 have HT:=hd (ht.below hW);have HF:Hid (TFrm tb w W):=TFrm.of hW (by omega);have hb:=hd hc;have ho:=hd (hes.below hW);have HN:=hd (hn.below hW);have IH:=hd ih;obtain⟨a0,a1,a2,a3,a4,a5,a6⟩:=SevenAt.blk (h:=h) hc;simp only[Nat.zero_add] at a1 a2 a3 a4 a5 a6;have hz:=jQf hc;clear ht hW hc hes hn ih;go_enter Tryz.func153,Tryz.ntmps153;go_wp2_with fail;rw[<-hWW];clear hWW;refine(jQag tb tr h _ _ W ⟨_,_,_,rfl⟩ ⟨_,_,_,rfl⟩ HT.o hroom).mono ?_;rintro e w1 ⟨rfl,ht1,hf1⟩;have ha:=(hf1.keep w.heap.size _ _ _ hb.o (by decide) (by decide)).trans hb.o;have T1:=hd ht1;have F1:Hid (TFrm tb w w1):=HF.o.trans hf1;have ES1:=hd (ho.o.tfrm hf1);have NS1:=hd (HN.o.tfrm hf1);obtain⟨n0,n1,n2,n3,n4,n5,n6⟩:=SevenAt.blk (h:=h) ha;simp only[Nat.zero_add] at n1 n2 n3 n4 n5 n6;have hs:=jQf ha;have hD:=ht1.lt;have hi:=hd ha;obtain⟨tr1,htr1⟩:∃x,x=touchR tr h:=⟨_,rfl⟩;have t1:=T1.o;have ih1:=IH.o;rw[<-htr1] at t1 ih1;have T2:=hd t1;have IH2:=hd ih1;cases hin:h.inner
 ·have HE:Hid (Sq.hasF (headN n) (Sq.hasN n) ⟨h,es,l.map Prod.fst⟩ p tr=(es.any (fun x=>x.place==p),tr1)):=by
   show _=_;unfold Sq.hasF;rw[htr1];simp only[hin];rfl
  have hC:=hd hin;rw[hin] at n0;clear a0 a1 a2 a3 a4 a5 a6 hz HT HF hb ho HN IH ht1 hf1 ha T1 t1 ih1 IH2 htr1 NS1 n2 n3 n4 n5 n6 hin;go_wp2
  go_loop [8] (fun i=>∃k:Nat,k<=es.length/\i=.int .i64 k/\Hid (es.any (fun x=>x.place==p)=(es.drop k).any fun x=>x.place==p)) (fun i=>es.length-(intOf i).toNat)
  case atStart=>exact⟨0,zR,rfl,rfl⟩
  case round =>
   obtain⟨k,hk,rfl,hr⟩:=hrel
   by_cases hltk:k<es.length
   ·obtain⟨g,cap',hv,hg,c0,c1⟩:=ES1.o.at k hltk;simp only[Value.slice.injEq] at hv;obtain⟨rfl,-,rfl⟩:=hv;have hm:=jQrb es p k hltk;obtain⟨q,hq⟩:∃x,x=es[k].place:=⟨_,rfl⟩;rw[<-hq] at hm c0;have hj:=hd hm;have i1:¬((es.length:Int)<=(k:Int)):=by omega
    clear hm hq c1;cases he:q==p
    ·have HR:Hid (es.any (fun x=>x.place==p)=(es.drop (k+1)).any fun x=>x.place==p):=by show _=_;rw[hr.o,hj.o,he];rfl
     clear hr hj;go_wp2;go_round
     case rel=>exact⟨k+1,by omega,by go_num,HR⟩
     case measure=>simp[intOf];omega
    ·have HR:Hid (es.any (fun x=>x.place==p)=true):=by show _=_;rw[hr.o,hj.o,he];rfl
     clear hr hj;go_wp2;go_ret;exact⟨by rw[HE.o,HR.o];rfl,by rw[HE.o];exact T2.o,F1.o⟩
   ·have HR:Hid (es.any (fun x=>x.place==p)=false):=by show _=_;rw[hr.o,List.drop_eq_nil_of_le (by omega)];rfl
    clear hr;go_wp2;go_ret;exact⟨by rw[HE.o,HR.o];rfl,by rw[HE.o];exact T2.o,F1.o⟩
 ·have HE:Hid (Sq.hasF (headN n) (Sq.hasN n) ⟨h,es,l.map Prod.fst⟩ p tr=match (l.map Prod.fst)[Sq.wayF (headN n) (l.map Prod.fst) p]? with | some c=>Sq.hasN n c p tr1 | none=>(false,tr1)):=by
   show _=_;unfold Sq.hasF;rw[htr1];simp only[hin,if_true];cases (l.map Prod.fst)[Sq.wayF (headN n) (l.map Prod.fst) p]? <;> rfl
  rw[hin] at n0;have hA:=jQrk (headN n) (l.map Prod.fst) p;rw[List.length_map] at hA;obtain⟨a,haw⟩:∃x,x=Sq.wayF (headN n) (l.map Prod.fst) p:=⟨_,rfl⟩;have he:=HE.o;rw[<-haw] at he hA;have hy:=hd he;have hE:=hd haw;have hC:=hd hin;clear a0 a1 a2 a3 a4 a5 a6 hz HT HF hb ho HN IH ht1 hf1 ha T1 t1 ih1 htr1 ES1 HE he haw;go_wp2_with fail;refine(jQhb n l p ⟨true,h.least,h.rows,h.sl,h.num⟩ _ _ w1 ⟨_,_,_,rfl⟩ NS1.o hl).mono ?_;rintro e w2 ⟨rfl,hb2⟩;rw[<-hE.o];have c2:=(hb2.cell (p:=⟨w.heap.size,2,none⟩) hs).trans n2;have hG:w.heap.size<w2.heap.size:=by have:=hb2.size;omega
  have NS2:=hd (NS1.o.below hb2);have T3:=hd (T2.o.below hb2);have F2:Hid (TFrm tb w w2):=F1.o.trans (TFrm.of hb2 (by omega));clear hb2 hin n0 n1 n2 n3 n4 n5 n6 NS1 T2 F1 hi
  by_cases hlta:a<l.length
  ·obtain⟨g,cap',ea,el,ec,ca,cl,cc,hv,hg,⟨d0,d1,d2,d3,d4,dsl,dnu⟩,d5,d6⟩:=NS2.o.at a hlta;simp only[Value.slice.injEq] at hv;obtain⟨rfl,-,rfl⟩:=hv;have hh:Hid (Sq.hasF (headN n) (Sq.hasN n) ⟨h,es,l.map Prod.fst⟩ p tr=Sq.hasN n l[a].1 p tr1):=by show _=_;rw[hy.o,List.getElem?_map,List.getElem?_eq_getElem hlta];rfl
   have hf:=List.getElem_mem hlta;obtain⟨x,hx⟩:∃x,x=l[a]:=⟨_,rfl⟩;have hu:=hh.o;rw[<-hx] at hu d0 d3 d4 dsl dnu d5 d6 hf;obtain⟨t,evx,cvx⟩:=x;simp only[Prod.mk.injEq] at d5;obtain⟨rfl,rfl⟩:=d5;have hw:=hd hu;have hB:=hd d6;have hp:=hd hf;have i1:¬((l.length:Int)<=(a:Int)):=by omega
   have i2:Decidable.decide ((a:Int)<(l.length:Int))=true:=by simpa using hlta
   clear hu hx hf hh d6;go_wp2_with fail;refine(IH2.o _ hp.o _ hB.o T3.o).mono ?_;rintro e w3 ⟨rfl,ht3,hf3⟩;have T4:=hd ht3;have F3:Hid (TFrm tb w w3):=F2.o.trans hf3;clear ht3 hf3;go_wp2;go_ret;exact⟨by rw[hw.o];rfl,by rw[hw.o];exact T4.o,F3.o⟩
  ·have hh:Hid (Sq.hasF (headN n) (Sq.hasN n) ⟨h,es,l.map Prod.fst⟩ p tr=(false,tr1)):=by show _=_;rw[hy.o,List.getElem?_eq_none (by simpa using hlta)]
   have i2:Decidable.decide ((a:Int)<(l.length:Int))=false:=by simpa using hlta
   go_wp2;go_ret;exact⟨by rw[hh.o];rfl,by rw[hh.o];exact T3.o,F2.o⟩
theorem jQqO (t:Sq.NodeF Empty)(p:Int)(tr:Trl):Sq.hasF (headN 0) (Sq.hasN 0) ⟨t.hd,t.ents,[]⟩ p tr=Sq.hasN 0 t p tr:=by
 obtain⟨h,es,ks⟩:=t;cases ks with
 | nil =>
  show Sq.hasF _ _ _ _ _=Sq.hasF _ _ _ _ _;unfold Sq.hasF;simp only
  split
  ·rfl
  ·rfl
 | cons e _=>exact e.elim
end
section
open Go.RowKit
variable {Z:Nat->Prop}
def mayF {α:Type}(f:α->Sq.Head)(lo hi:Int):List α->Bool
 | []=>false
 | c::r=>Decidable.decide ((f c).least<=hi)&&Sq.nextLowF f lo r
theorem jQl0 {α:Type}(f:α->Sq.Head)(g:α->Trl->List Ent×Trl)(lo hi:Int)(cs:List α)(k:Nat)(h:k<cs.length)(x:List Ent×Trl):Sq.thruL f g lo hi (cs.drop k) x=if mayF f lo hi (cs.drop k) then Sq.thruL f g lo hi (cs.drop (k+1)) (x.1++(g cs[k] x.2).1,(g cs[k] x.2).2) else Sq.thruL f g lo hi (cs.drop (k+1)) x:=by
 rw[List.drop_eq_getElem_cons h,Sq.thruL];rfl
theorem jQk5 (n:Nat)(l:List (Nd n×Value×Value))(k:Nat)(lo hi:Int)(h0:Sq.Head)(ev cv:Value)(w:World)(hev:∃a k c,ev=.slice a k c)(h:NodesAt Z 0 w cv n l)(hl:l.length<=1000)(hk:k<l.length) :
  Calls Tryz.prog 146 #[.agg (headCells h0 ev cv).toArray,.int .i64 k,.int .i64 lo,.int .i64 hi] w fun e w'=>e=.returned (.bool (mayF (headN n) lo hi ((l.map Prod.fst).drop k)))/\Below w.heap.size w w':=by
 obtain⟨ao,acap,rfl⟩:=jQa h.own;obtain⟨eo,en,ecap,rfl⟩:=hev;rw[jQc];obtain⟨zi,zl,zr,zs,zn⟩:=h0;have hW:Below w.heap.size w (w.alloc (.cells #[.bool zi,.slice eo en ecap,.slice ao l.length acap,.int .i64 zl,.int .i64 zr,.string zs,.int .i64 zn] 60)):=(bR).alloc (nR) _;have HW:=hd hW;have H:=hd h;clear h hW;obtain⟨g,cap',ea,el,ec,ca,cl,cc,hv,hg,⟨d0,d1,d2,d3,d4,dsl,dnu⟩,d5,d6⟩:=(H.o.below HW.o).at k hk;simp only[Value.slice.injEq] at hv;obtain⟨rfl,-,rfl⟩:=hv
 have HE:Hid (mayF (headN n) lo hi ((l.map Prod.fst).drop k)=(Decidable.decide ((headN n l[k].1).least<=hi)&&Sq.nextLowF (headN n) lo ((l.map Prod.fst).drop (k+1)))):=by
  show _=_;rw[List.drop_eq_getElem_cons (by simpa using hk),mayF,List.getElem_map]
 obtain⟨q,hq⟩:∃x,x=(headN n l[k].1).least:=⟨_,rfl⟩;have he:=HE.o;rw[<-hq] at d3 he;have ha:=hd he;have i1:¬((l.length:Int)<=(k:Int)):=by omega
 have i2:¬((k:Int)<0):=by omega
 have i3:decide ((k:Int)<0)=false:=by simp
 have i4:decide ((l.length:Int)<=(k:Int))=false:=by simpa using hk
 clear hq he HE d0 d1 d2 d4 d5 d6 dsl dnu
 by_cases hle:q<=hi
 ·have i5:decide (hi<q)=false:=by simpa using hle
  by_cases hk2:k+1<l.length
  ·obtain⟨g2,cap2,ea2,el2,ec2,ca2,cl2,cc2,hv2,hg2,⟨e0,e1,e2,e3,e4,esl,enu⟩,e5,e6⟩:=(H.o.below HW.o).at (k+1) hk2;simp only[Value.slice.injEq,Option.some.injEq,Addr.mk.injEq] at hv2;obtain⟨⟨rfl,-,-⟩,-,rfl⟩:=hv2
   have hb:Hid (mayF (headN n) lo hi ((l.map Prod.fst).drop k)=Decidable.decide (lo<(headN n l[k+1].1).least)):=by
    show _=_;rw[ha.o,List.drop_eq_getElem_cons (by simpa using hk2),Sq.nextLowF,List.getElem_map];simp[hle]
   obtain⟨q2,hq2⟩:∃x,x=(headN n l[k+1].1).least:=⟨_,rfl⟩;have he:=hb.o;rw[<-hq2] at e3 he;have hc:=hd he;have j1:¬((l.length:Int)<=(k:Int)+1):=by omega
   have j2:¬((k:Int)+1<0):=by omega
   have j3:((k:Int)+1==(l.length:Int))=false:=by simp;omega
   clear he hb hq2 e0 e1 e2 e4 e5 e6 esl enu ha;go_enter Tryz.func146,Tryz.ntmps146;go_wp2;go_ret;exact⟨by rw[hc.o];rfl,HW.o⟩
  ·have hb:Hid (mayF (headN n) lo hi ((l.map Prod.fst).drop k)=true):=by
    show _=_;rw[ha.o,List.drop_eq_nil_of_le (by simp;omega),Sq.nextLowF];simp[hle]
   have j3:((k:Int)+1==(l.length:Int))=true:=by simp;omega
   clear ha;go_enter Tryz.func146,Tryz.ntmps146;go_wp2;go_ret;exact⟨by rw[hb.o];rfl,HW.o⟩
 ·have i5:decide (hi<q)=true:=by simpa using hle
  have hb:Hid (mayF (headN n) lo hi ((l.map Prod.fst).drop k)=false):=by show _=_;rw[ha.o];simp[hle]
  clear ha;go_enter Tryz.func146,Tryz.ntmps146;go_wp2;go_ret;exact⟨by rw[hb.o];rfl,HW.o⟩
end
section
open Go.RowKit
variable {Z:Nat->Prop}
theorem TFrm.grow {tb:Nat}{W wo w5:World}(h:TFrm tb W wo)(k:Below W.heap.size wo w5)(ht:tb<=W.heap.size):TFrm tb W w5 :=
 ⟨h.below.trans (k.mono ht),fun g c e fr hg h1 h2=>(k.block g (jQf hg)).trans (h.keep g c e fr hg h1 h2)⟩
def Keeps (e0:TypeId)(w w':World):Prop:=∀(q:Nat) (c:Array Value) (e:TypeId) (fr:Nat×Nat),w.heap[q]?=some (Obj.cells c e fr)->e≠e0->w'.heap[q]?=w.heap[q]?
theorem jQ2 {e0:TypeId}{w w':World}(k:Keeps e0 w w'){B:Nat}{e:TypeId}{size:Nat}{v:Value}{n:Nat}{cs:List Value}(he:e≠e0)(h:w.ownsRow B e size v n cs):w'.ownsRow B e size v n cs:=by
 refine⟨h.1,?_⟩;rcases h.2 with h0 | ⟨g,cap,cur,hv,hbg,hh,hn,hm,hc,ht⟩
 ·exact Or.inl h0
 ·exact Or.inr ⟨g,cap,cur,hv,hbg,(k g _ _ _ hh he).trans hh,hn,hm,hc,ht⟩
theorem TrAt.keeps {e0:TypeId}{tb:Nat}{w w':World}{tr:Trl}(h:TrAt tb w tr)(k:Keeps e0 w w')(h1:3≠e0)(h2:74≠e0):TrAt tb w' tr:=by
 obtain⟨v,hb,hown⟩:=h.row;exact⟨⟨v,(k tb _ _ _ hb h2).trans hb,jQ2 k h1 hown⟩,h.few⟩
theorem jQcW {ops:Array Oper}{rest:List Oper}{o:Oper}{a:Act}{Q:Exit->Act->World->Prop}{w:World}(hgd:o.guard=none)(sl x:Operand)
  (ho:o.op=.call { callee:=.builtin .append,args:=#[sl,x],argTypes:=#[57,57] }) (B:Nat) (v:Value) (es:List Ent) (hs:a.eval sl=v) (hb:EntsAt B w v es)
  (e:Ent) (g c:Nat) (hx:a.eval x=.slice (some ⟨g,0,none⟩) 1 c) (hc0:w.cell? ⟨g,0,none⟩=some (.int .i64 e.place)) (hc1:w.cell? ⟨g,1,none⟩=some (.string e.row)) (h1:es.length+1<=1000000) (hB:B<=w.heap.size)
  (h:∀v' w',EntsAt B w' v' (es++[e])->Below B w w'->Keeps 141 w w'->wpList Tryz.prog ops Q rest (a.put o.dst v') w'):wpList Tryz.prog ops Q (o::rest) a w:=by
 obtain⟨i0,hi,hz0,hz1,hz2⟩:=info_parts Tryz.infoEnt
 refine wpList_append_lies _ hgd sl x 57 ho B 141 i0 _ 2 24 Tryz.underlying57 hi hz0 hz1 hz2 rfl (by decide) v es.length _ hs hb ⟨g,0,none⟩ 1 c (entCells e) hx rfl (by
  intro j u hu;rw[jQaQ]
  match j,hu with
  | 0,hu=>simp[entCells] at hu;subst hu;exact hc0
  | 1,hu=>simp[entCells] at hu;subst hu;exact hc1
  | j+2,hu=>simp[entCells] at hu) (by intro u hu;simp[entCells] at hu;rcases hu with rfl | rfl<;>rfl) (by decide) (by unfold maxLen;omega) (by omega) hB _ rfl ?_
 intro g' cap w' ho' hg' _ _;refine h _ w' ?_ (Tch.of_grown hg' (fun k hk=>(World.ownsRow.lt hb k hk).1) hB) (fun q c e fr hq he=>hg'.block q (jQf hq) (fun e2=>jQn hb hq (fun e3=>he e3.symm) e2.symm));unfold EntsAt;rw[List.length_append,List.flatMap_append];simpa using ho'
theorem jQaT {ops:Array Oper}{rest:List Oper}{o:Oper}{a:Act}{Q:Exit->Act->World->Prop}{w:World}(hgd:o.guard=none)(sl x:Operand)
  (ho:o.op=.call { callee:=.builtin .append,args:=#[sl,x],argTypes:=#[57,57] }) (B:Nat) (v:Value) (es:List Ent) (hs:a.eval sl=v) (hb:EntsAt B w v es)
  (m:List Ent) (sv:Value) (hx:a.eval x=sv) (hrd:Reads w sv m.length 2 (m.flatMap entCells)) (hm:0<m.length) (h1:es.length+m.length<=1000000) (hB:B<=w.heap.size)
  (h:∀v' w',EntsAt B w' v' (es++m)->Below B w w'->Keeps 141 w w'->wpList Tryz.prog ops Q rest (a.put o.dst v') w'):wpList Tryz.prog ops Q (o::rest) a w:=by
 obtain⟨i0,hi,hz0,hz1,hz2⟩:=info_parts Tryz.infoEnt;rcases hrd.2 with⟨_,h0⟩ | ⟨g,off,cap,rfl,_,hc⟩
 ·omega
 refine wpList_append_lies _ hgd sl x 57 ho B 141 i0 _ 2 24 Tryz.underlying57 hi hz0 hz1 hz2 rfl (by decide) v es.length _ hs hb ⟨g,off,none⟩ m.length cap (m.flatMap entCells) hx hrd.1 (by
  intro j u hu;rw[jQaQ];exact hc j u hu) (jQeS m) hm (by unfold maxLen;omega) (by omega) hB _ rfl ?_
 intro g' cap w' ho' hg' _ _;refine h _ w' ?_ (Tch.of_grown hg' (fun k hk=>(World.ownsRow.lt hb k hk).1) hB) (fun q c e fr hq he=>hg'.block q (jQf hq) (fun e2=>jQn hb hq (fun e3=>he e3.symm) e2.symm));unfold EntsAt;rw[List.length_append,List.flatMap_append];exact ho'
def ThruSays (tb:Nat)(x:List Ent×Trl)(w:World)(e:Ending)(w':World):Prop:=∃v,e=.returned v/\EntsAt w.heap.size w' v x.1/\(x.1=[]->v=.slice none 0 0)/\TrAt tb w' x.2/\TFrm tb w w'
theorem jQf1 (n:Nat)(h:Sq.Head)(es:List Ent)(l:List (Nd n×Value×Value))(ev cv:Value)(lo hi:Int)(tb:Nat)(tr:Trl)(w:World)(G:Trl->Prop)(hes:EntsAt 0 w ev es)(hn:NodesAt Z 0 w cv n l)(hel:es.length<=1000)(hl:l.length<=1000)(ht:TrAt tb w tr)(hroom:tr.nums.length+1<=100000)(hG:G (touchR tr h))
  (ih:∀x∈l,∀w' tr',NodeAt Z w' n x.1 x.2.1 x.2.2->TrAt tb w' tr'->G tr'->((thruN n x.1 lo hi tr').1.length<=900/\G (thruN n x.1 lo hi tr').2)/\Calls Tryz.prog 103 #[.agg (nodeCells n x).toArray,.int .i64 lo,.int .i64 hi,.pointer (some ⟨tb,0,none⟩)] w' (ThruSays tb (thruN n x.1 lo hi tr') w')) :
  Calls Tryz.prog 103 #[.agg (headCells h ev cv).toArray,.int .i64 lo,.int .i64 hi,.pointer (some ⟨tb,0,none⟩)] w (ThruSays tb (Sq.thruF (headN n) (thruN n) ⟨h,es,l.map Prod.fst⟩ lo hi tr) w):=by
 obtain⟨eo,ecap,rfl⟩:=jQa hes;obtain⟨co,ccap,rfl⟩:=jQa hn.own;rw[jQc];have h6:=ht.lt;obtain⟨W,hWW⟩:∃W,W=w.alloc (.cells #[.bool h.inner,.slice eo es.length ecap,.slice co l.length ccap,.int .i64 h.least,.int .i64 h.rows,.string h.sl,.int .i64 h.num] 60):=⟨_,rfl⟩;have hW:Below w.heap.size w W:=by rw[hWW];exact(bR).alloc (nR) _
 have hP:W.heap.size=w.heap.size+1:=by rw[hWW];exact jQr w _
 have hr:W.heap[w.heap.size]?=some (.cells #[.bool h.inner,.slice eo es.length ecap,.slice co l.length ccap,.int .i64 h.least,.int .i64 h.rows,.string h.sl,.int .i64 h.num] 60):=by rw[hWW];exact jQi w _
 have HT:=hd (ht.below hW);have HF:Hid (TFrm tb w W):=TFrm.of hW (by omega);have hq:=hd hr;have hZ:=hd (hes.below hW);have HN:=hd (hn.below hW);have IH:=hd ih;have HG:=hd hG;have hs:=hd hP;obtain⟨a0,a1,a2,a3,a4,a5,a6⟩:=SevenAt.blk (h:=h) hr;simp only[Nat.zero_add] at a1 a2 a3 a4 a5 a6;have hC:=jQf hr;have HE:Hid (Sq.thruF (headN n) (thruN n) ⟨h,es,l.map Prod.fst⟩ lo hi tr=Sq.thruL (headN n) (fun c=>thruN n c lo hi) lo hi (l.map Prod.fst) (es.filter (Sq.inSpan lo hi),touchR tr h)):=rfl;clear ht hW hr hes hn ih hG hP;go_enter Tryz.func103,Tryz.ntmps103;go_wp2_with fail;rw[<-hWW];clear hWW;refine(jQag tb tr h _ _ W ⟨_,_,_,rfl⟩ ⟨_,_,_,rfl⟩ HT.o hroom).mono ?_;rintro e w1 ⟨rfl,ht1,hf1⟩;obtain⟨tr1,htr1⟩:∃x,x=touchR tr h:=⟨_,rfl⟩;have he:=HE.o;have hg:=HG.o;rw[<-htr1] at ht1 he hg;have T1:=hd ht1;have F1:=hd hf1;have G1:=hd hg;have hU:=hd he;clear a0 a1 a2 a3 a4 a5 a6 hC HT ht1 hf1 htr1 he hg HE HG hroom;go_wp2
 go_loopw [9,10] (fun v i wr=>∃k:Nat,∃acc:List Ent,k<=es.length/\i=.int .i64 k/\EntsAt (w.heap.size+1) wr v acc/\(acc=[]->v=.slice none 0 0)/\acc.length<=k/\Hid (es.filter (Sq.inSpan lo hi)=acc++(es.drop k).filter (Sq.inSpan lo hi))/\TrAt tb wr tr1/\TFrm tb W wr) (fun _ i _=>es.length-(intOf i).toNat)
 case atStart=>exact⟨0,[],zR,rfl,World.ownsRow_nil _ _ _ _,fun _=>rfl,nR,rfl,T1.o,F1.o⟩
 case round =>
  obtain⟨j,ac,hj,rfl,hac,hnil,hacl,hr2,ht2,hf2⟩:=hrel;obtain⟨wo,rfl⟩:∃wo:World,wo=wr:=⟨_,rfl⟩;obtain⟨yo,ycap,rfl⟩:=jQa hac;have ha:=(hf2.keep w.heap.size _ _ _ hq.o (by decide) (by decide)).trans hq.o;obtain⟨n0,n1,n2,n3,n4,n5,n6⟩:=SevenAt.blk (h:=h) ha;simp only[Nat.zero_add] at n1 n2 n3 n4 n5 n6;have hC:=jQf ha;have hK:=ht2.lt;have hp:=hd hac;have hb:=hd hnil;have T2:=hd ht2;have F2:=hd hf2;have hD:=hd (hZ.o.tfrm hf2);clear hac hnil ht2 hf2 ha n0 n3 n4 n5 n6
  by_cases hjt:j<es.length
  ·obtain⟨g4,cap4,hv,hg4,c0,c1⟩:=hD.o.at j hjt;simp only[Value.slice.injEq] at hv;obtain⟨rfl,-,rfl⟩:=hv;have hO:=hd (Sq.jQdT (Sq.inSpan lo hi) es j hjt);obtain⟨y,hy⟩:∃x,x=es[j]:=⟨_,rfl⟩;have hF:=hO.o;rw[<-hy] at c0 c1 hF;have hc:=hd hF;have i1:¬((es.length:Int)<=(j:Int)):=by omega
   clear hF hO hy n2
   by_cases hlo:lo<=y.place
   ·have i2:decide (lo<=y.place)=true:=by simpa using hlo
    by_cases hhi:y.place<=hi
    ·have i3:decide (y.place<=hi)=true:=by simpa using hhi
     have hh:Hid (es.filter (Sq.inSpan lo hi)=(ac++[y])++(es.drop (j+1)).filter (Sq.inSpan lo hi)):=by show _=_;rw[hr2.o,hc.o];simp[Sq.inSpan,hlo,hhi]
     have hA:Below wo.heap.size wo (wo.alloc (.cells #[.int .i64 y.place,.string y.row] 141)):=(bR).alloc (nR) _;have h4:=hd (hp.o.below hA);have HA:=hd hA;clear hr2 hc hA;go_wp2_with (at_builtin;refine jQcW rfl (.tmp 41) (.tmp 47) rfl (w.heap.size+1) _ ac rfl h4.o y wo.heap.size 1 rfl (by simp[go_sem]) (by simp[go_sem]) (by omega) (by simp;omega) ?_;intro v5 w5 hown5 hb5 hk5;have hJ:=hd hown5;have hM:=hd hb5;have hH:=hd hk5;clear hown5 hb5 hk5);go_roundw
     case rel=>exact⟨j+1,ac++[y],by omega,by go_num,hJ.o,fun h=>by simp at h,by rw[List.length_append];simp;omega,hh,(T2.o.below HA.o).keeps hH.o (by decide) (by decide),(F2.o.grow (HA.o.mono (by rw[hs.o];omega)) (by rw[hs.o];omega)).grow (by rw[hs.o];exact hM.o) (by rw[hs.o];omega)⟩
     case measure=>simp[intOf];omega
    ·have i3:decide (y.place<=hi)=false:=by simpa using hhi
     have hh:Hid (es.filter (Sq.inSpan lo hi)=ac++(es.drop (j+1)).filter (Sq.inSpan lo hi)):=by show _=_;rw[hr2.o,hc.o];simp[Sq.inSpan,hlo,hhi]
     clear hr2 hc;go_wp2;go_roundw
     case rel=>exact⟨j+1,ac,by omega,by go_num,hp.o,hb.o,by omega,hh,T2.o,F2.o⟩
     case measure=>simp[intOf];omega
   ·have i2:decide (lo<=y.place)=false:=by simpa using hlo
    have hh:Hid (es.filter (Sq.inSpan lo hi)=ac++(es.drop (j+1)).filter (Sq.inSpan lo hi)):=by show _=_;rw[hr2.o,hc.o];simp[Sq.inSpan,hlo]
    clear hr2 hc;go_wp2;go_roundw
    case rel=>exact⟨j+1,ac,by omega,by go_num,hp.o,hb.o,by omega,hh,T2.o,F2.o⟩
    case measure=>simp[intOf];omega
  ·have hT:es.filter (Sq.inSpan lo hi)=ac:=by rw[hr2.o,List.drop_eq_nil_of_le (by omega)];simp
   have he:=hU.o;rw[hT] at he;have hB:=hd he;clear hr2 hT he hU;go_wp2
   go_loopw [9,11] (fun v i wr=>∃k:Nat,∃acc:List Ent,∃trk:Trl,k<=l.length/\i=.int .i64 k/\EntsAt (w.heap.size+1) wr v acc/\(acc=[]->v=.slice none 0 0)/\acc.length<=1000+900*k/\Hid (Sq.thruF (headN n) (thruN n) ⟨h,es,l.map Prod.fst⟩ lo hi tr=Sq.thruL (headN n) (fun c=>thruN n c lo hi) lo hi ((l.map Prod.fst).drop k) (acc,trk))/\TrAt tb wr trk/\TFrm tb W wr/\Hid (G trk)) (fun _ i _=>l.length-(intOf i).toNat)
   case atStart=>exact⟨0,ac,tr1,zR,rfl,hp.o,hb.o,by omega,hB,T2.o,F2.o,G1⟩
   case round =>
    clear hp hb T2 F2 hD n1 n2 hC hK hjt hj hacl hB T1 F1 G1;obtain⟨k,ac2,trk,hk,rfl,hac,hnil,hacl2,hr2,ht2,hf2,hgk⟩:=hrel;obtain⟨wq,rfl⟩:∃wo:World,wo=wr:=⟨_,rfl⟩;obtain⟨zo,zcap,rfl⟩:=jQa hac;have ha:=(hf2.keep w.heap.size _ _ _ hq.o (by decide) (by decide)).trans hq.o;obtain⟨n0,n1,n2,n3,n4,n5,n6⟩:=SevenAt.blk (h:=h) ha;simp only[Nat.zero_add] at n1 n2 n3 n4 n5 n6;have hC:=jQf ha;have hK:=ht2.lt;have hp:=hd hac;have hb:=hd hnil;have T2:=hd ht2;have F2:=hd hf2;have hL:=hd (HN.o.tfrm hf2);have hQ:=hd ha;clear hac hnil ht2 hf2 ha
    by_cases hkt:k<l.length
    ·have ho:=jQl0 (headN n) (fun c=>thruN n c lo hi) lo hi (l.map Prod.fst) k (by simpa using hkt) (ac2,trk);rw[List.getElem_map] at ho;obtain⟨mb,hmb⟩:∃x,x=mayF (headN n) lo hi ((l.map Prod.fst).drop k):=⟨_,rfl⟩;rw[<-hmb] at ho;have hE:=hd ho;have h3:=hd hmb;clear ho hmb;go_wp2_with fail;refine(jQk5 n l k lo hi h _ _ _ ⟨_,_,_,rfl⟩ hL.o hl hkt).mono ?_;rintro e w2 ⟨rfl,hb2⟩;rw[<-h3.o];have hf:=(hb2.block w.heap.size hC).trans hQ.o;have b2:w2.cell? ⟨w.heap.size,2,none⟩=some (.slice co l.length ccap):=by rw[jQb hf];rfl
     have hI:=jQf hf;have T3:=hd (T2.o.below hb2);have F3:Hid (TFrm tb W w2):=F2.o.trans (TFrm.of hb2 (by omega));have hz:=hd (hp.o.below hb2);have hR:=hd (hL.o.below hb2);clear hb2 hf n0 n1 n2 n3 n4 n5 n6 hQ T2 F2 hp hL hC hK;cases mb
     case false =>
      have hh:Hid (Sq.thruF (headN n) (thruN n) ⟨h,es,l.map Prod.fst⟩ lo hi tr=Sq.thruL (headN n) (fun c=>thruN n c lo hi) lo hi ((l.map Prod.fst).drop (k+1)) (ac2,trk)):=by show _=_;rw[hr2.o,hE.o];simp
      clear hr2 hE;go_wp2;go_roundw
      case rel=>exact⟨k+1,ac2,trk,by omega,by go_num,hz.o,hb.o,by omega,hh,T3.o,F3.o,hgk⟩
      case measure=>simp[intOf];omega
     case true =>
      obtain⟨g,cap',ea,el,ec,ca,cl,cc,hv,hg,⟨d0,d1,d2,d3,d4,dsl,dnu⟩,d5,d6⟩:=hR.o.at k hkt;simp only[Value.slice.injEq] at hv;obtain⟨rfl,-,rfl⟩:=hv;have hw:=List.getElem_mem hkt;have ho:=hE.o;obtain⟨x,hx⟩:∃x,x=l[k]:=⟨_,rfl⟩;rw[<-hx] at ho d0 d3 d4 dsl dnu d5 d6 hw;obtain⟨t,evx,cvx⟩:=x;simp only[Prod.mk.injEq] at d5;obtain⟨rfl,rfl⟩:=d5;obtain⟨⟨hlen,hgn⟩,hcall⟩:=IH.o _ hw _ _ d6 T3.o hgk.o;simp only at hlen hgn hcall;obtain⟨m,hm⟩:∃x,x=thruN n t lo hi trk:=⟨_,rfl⟩;simp only[if_true] at ho;rw[<-hm] at ho hlen hgn hcall;have hh:Hid (Sq.thruF (headN n) (thruN n) ⟨h,es,l.map Prod.fst⟩ lo hi tr=Sq.thruL (headN n) (fun c=>thruN n c lo hi) lo hi ((l.map Prod.fst).drop (k+1)) (ac2++m.1,m.2)):=by show _=_;rw[hr2.o,ho]
      have HC:=hd hcall;have hS:=hd hgn;have i1:¬((l.length:Int)<=(k:Int)):=by omega
      clear ho hm hw hE d6 hr2 hcall hgn hx;go_wp2_with fail;refine HC.o.mono ?_;rintro e w3 ⟨v3,rfl,ho3,hn3,ht3,hf3⟩;have h5:=hf3.below.size;have hu:=hd (hz.o.tfrm hf3);have T4:=hd ht3;have F4:Hid (TFrm tb W w3):=F3.o.trans hf3;have h1:=F4.o.below.size;rw[hs.o] at h1;obtain⟨m1,m2⟩:=m;simp only at hlen ho3 hn3;clear ht3 hf3 HC T3 F3 hz hR d0 d1 d2 d3 d4 dsl dnu b2 hI
      by_cases hm0:m1=[]
      ·have hV:=hn3 hm0;subst hV;subst hm0;have hY:Hid (Sq.thruF (headN n) (thruN n) ⟨h,es,l.map Prod.fst⟩ lo hi tr=Sq.thruL (headN n) (fun c=>thruN n c lo hi) lo hi ((l.map Prod.fst).drop (k+1)) (ac2,m2)):=by have:=hh.o;simp only[List.append_nil] at this;exact this
       obtain⟨i0,hi0,hz0,hz1,hz2⟩:=info_parts Tryz.infoEnt;clear hh ho3 hn3;go_wp2_with (at_builtin;refine wpList_append_own_none rfl (.tmp 70) (.tmp 71) 57 rfl (w.heap.size+1) 141 i0 2 Tryz.underlying57 hi0 _ ac2.length _ rfl hu.o rfl ?_);go_roundw
       case rel=>exact⟨k+1,ac2,m2,by omega,by go_num,hu.o,hb.o,by omega,hY,T4.o,F4.o,hS⟩
       case measure=>simp[intOf];omega
      ·have hX:0<m1.length:=by cases m1 with | nil=>exact absurd rfl hm0 | cons x r=>simp
       obtain⟨qo,qcap,rfl⟩:=jQa ho3;have h2:=hd (Reads.of_own ho3);have hN:ac2++m1≠[]:=by simp[hm0]
       have h0:=hd hN;clear ho3 hn3 hN;go_wp2_with (at_builtin;refine jQaT rfl (.tmp 70) (.tmp 71) rfl (w.heap.size+1) _ ac2 rfl hu.o m1 _ rfl h2.o hX (by omega) (by omega) ?_;intro v5 w5 hown5 hb5 hk5;have hJ:=hd hown5;have hM:=hd hb5;have hH:=hd hk5;clear hown5 hb5 hk5);go_roundw
       case rel=>exact⟨k+1,ac2++m1,m2,by omega,by go_num,hJ.o,fun h=>absurd h h0.o,by rw[List.length_append];omega,hh,T4.o.keeps hH.o (by decide) (by decide),F4.o.grow (by rw[hs.o];exact hM.o) (by rw[hs.o];omega),hS⟩
       case measure=>simp[intOf];omega
    ·have hB:Hid (Sq.thruF (headN n) (thruN n) ⟨h,es,l.map Prod.fst⟩ lo hi tr=(ac2,trk)):=by show _=_;rw[hr2.o,List.drop_eq_nil_of_le (by simp;omega)];rfl
     clear hr2;go_wp2;go_ret;exact⟨_,rfl,by rw[hB.o];exact hp.o.base (by omega),by rw[hB.o];exact hb.o,by rw[hB.o];exact T2.o,HF.o.trans F2.o⟩
theorem jQoJ (t:Sq.NodeF Empty)(lo hi:Int)(tr:Trl):Sq.thruF (headN 0) (thruN 0) ⟨t.hd,t.ents,[]⟩ lo hi tr=thruN 0 t lo hi tr:=by
 obtain⟨h,es,ks⟩:=t;cases ks with
 | nil=>rfl
 | cons e _=>exact e.elim
theorem jQpA {n:Nat}{t:Sq.NodeF (Nd n)}{c:Nd n}(hc:c∈t.kids):Sq.countN n c<=Sq.countN (n+1) t:=by
 show _<=Sq.countF (Sq.countN n) t;unfold Sq.countF
 have:=Sq.jQpS (Sq.countN n) hc
 omega
theorem jQdh (K:Int)(hK:K<=99999)(lo hi:Int)(tb:Nat):∀(n:Nat) (t:Nd n) (ev cv:Value) (tr:Trl) (w:World),NodeAt Z w n t ev cv->Sq.tameN K n t->Sq.countN n t<=900->TrAt tb w tr->Sq.TameR K tr ->
  Calls Tryz.prog 103 #[.agg (headCells (headN n t) ev cv).toArray,.int .i64 lo,.int .i64 hi,.pointer (some ⟨tb,0,none⟩)] w (ThruSays tb (thruN n t lo hi tr) w)
 | 0,t,ev,cv,tr,w,h,hf,hc,ht,hr=>by
  obtain⟨h1,rfl⟩:=h.leaf;have hj:=hr.len;have hl:=hf.at0.ents;have hg:=jQf1 (Z:=Z) 0 (Sq.NodeF.hd t) (Sq.NodeF.ents t) [] ev (.slice none 0 0) lo hi tb tr w (fun _=>True) h1 ⟨World.ownsRow_nil _ _ _ _,fun x hx=>by cases hx⟩ (by omega) (zR) ht (by omega) trivial (fun x hx=>by cases hx);have e:=jQoJ t lo hi tr;simp only[List.map_nil] at hg;rw[e] at hg;exact hg
 | n+1,t,ev,cv,tr,w,h,hf,hc,ht,hr=>by
  obtain⟨h1,l,h2,h3⟩:=h.inner;have hj:=hr.len;have he:=hf.at1;have hl:=he.ents;have hk:=he.kids;have hb:=he.each;have ha:∀c∈Sq.NodeF.kids t,Sq.countN n c<=900:=fun c hcm=>Nat.le_trans (jQpA hcm) hc
  rw[h2] at hk hb ha;rw[List.length_map] at hk
  have hg:=jQf1 (Z:=Z) n (Sq.NodeF.hd t) (Sq.NodeF.ents t) l ev cv lo hi tb tr w (Sq.TameR K) h1 h3 (by omega) (by omega) ht (by omega) (hr.touch he.num) (fun x hx w' tr' hn' ht' hg'=>by
   have hh:x.1∈l.map Prod.fst:=List.mem_map.2 ⟨x,hx,rfl⟩;have h5:=Sq.jQaI n x.1 lo hi tr' (hb x.1 hh) hg';exact⟨⟨Nat.le_trans h5.2 (ha x.1 hh),h5.1⟩,jQdh K hK lo hi tb n x.1 x.2.1 x.2.2 tr' w' hn' (hb x.1 hh) (ha x.1 hh) ht' hg'⟩)
  rw[<-h2] at hg;exact hg
theorem jQqe (K:Int)(hK:K<=99999)(p:Int)(tb:Nat):∀(n:Nat) (t:Nd n) (ev cv:Value) (tr:Trl) (w:World),NodeAt Z w n t ev cv->Sq.tameN K n t->TrAt tb w tr->Sq.TameR K tr ->
  Calls Tryz.prog 153 #[.agg (headCells (headN n t) ev cv).toArray,.int .i64 p,.pointer (some ⟨tb,0,none⟩)] w (HasSays tb n t p tr w)
 | 0,t,ev,cv,tr,w,h,hf,ht,hr=>by
  obtain⟨h1,rfl⟩:=h.leaf;have hc:=hr.len;have hh:=hf.at0.ents;have hg:=jQqd (Z:=Z) 0 (Sq.NodeF.hd t) (Sq.NodeF.ents t) [] ev (.slice none 0 0) p tb tr w h1 ⟨World.ownsRow_nil _ _ _ _,fun x hx=>by cases hx⟩ (by omega) (zR) ht (by omega) (fun x hx=>by cases hx);have e:=jQqO t p tr;simp only[List.map_nil] at hg;rw[e] at hg;exact hg
 | n+1,t,ev,cv,tr,w,h,hf,ht,hr=>by
  obtain⟨h1,l,h2,h3⟩:=h.inner;have hc:=hr.len;have hb:=hf.at1;have hh:=hb.ents;have he:=hb.kids;have ha:=hb.each;rw[h2] at he ha;rw[List.length_map] at he;have hg:=jQqd (Z:=Z) n (Sq.NodeF.hd t) (Sq.NodeF.ents t) l ev cv p tb tr w h1 h3 (by omega) (by omega) ht (by omega) (fun x hx w' hn' ht'=>jQqe K hK p tb n x.1 x.2.1 x.2.2 _ w' hn' (ha x.1 (List.mem_map.2 ⟨x,hx,rfl⟩)) ht' (hr.touch hb.num));rw[<-h2] at hg;exact hg
end
end Go.Proofs.YtahpihjialbanaaGreatDoor
