import Derived.Test.YtahpihjialbanaaGreatDoorQal
set_option linter.unusedVariables false
set_option linter.unusedSimpArgs false
set_option maxRecDepth 100000
set_option maxHeartbeats 1000000
namespace Go.Proofs.YtahpihjialbanaaGreatDoor
section
open Go.RowKit
theorem Sq.okVal0:Sq.okVal Sq.val0:=⟨by decide,by decide,by decide⟩
theorem Sq.jQpH (cols:List Sq.Col)(row:List Sq.Val)(n:ByteArray)(h:Sq.okRow row):Sq.okVal (Sq.cellOf cols row n):=by
 unfold Sq.cellOf
 split
 ·exact Sq.okVal0
 ·cases hx:row[(Sq.find cols n).toNat]? with
  | none=>exact Sq.okVal0
  | some v=>exact h v (List.mem_of_getElem? hx)
theorem Sq.jQhf (cols:List Sq.Col)(row:List Sq.Val)(t:Sq.Term)(h:Sq.okRow row)(ht:Sq.okTerm t):Sq.okVal (Sq.valueOf cols row t):=by
 unfold Sq.valueOf
 split
 ·exact ht
 ·exact Sq.jQpH cols row _ h
theorem jQaV {W w1:World}{B b:Nat}(hb:Below B W w1)(h:B<=b)(x y z:Value):Below B W (((w1.setCell ⟨b,0,none⟩ x).setCell ⟨b,1,none⟩ y).setCell ⟨b,2,none⟩ z) :=
 Below.setCell (B:=B) (Below.setCell (B:=B) (Below.setCell (B:=B) hb h _) h _) h _
theorem jQht (cols:List Sq.Col)(row:List Sq.Val)(cv rv:Value)(s:Sq.SetS)(w:World)(h:ColsAt w cv cols)(hr:RowAt w rv row)(hok:Sq.okRow row)(h1:Sq.okTerm s.first)(h2:Sq.okTerm s.second) :
  Calls Tryz.prog 164 #[cv,.agg #[rv],.agg s.cells.toArray] w fun e w'=>e=.returned (.tuple #[.agg (Sq.result cols row s).1.cells.toArray,.bool (Sq.result cols row s).2])/\Below w.heap.size w w':=by
 obtain⟨ao,cap,rfl⟩:=jQa hr.1;have hx:=Sq.jQhf cols row s.first hok h1;have hy:=Sq.jQhf cols row s.second hok h2
 have HE:Hid (Sq.result cols row s=if s.sign.toList.isEmpty then(Sq.valueOf cols row s.first,true)
  else if Sq.numOf s.sign (Sq.valueOf cols row s.first).number (Sq.valueOf cols row s.second).number < -2147483648 then(Sq.val0,false)
  else if 2147483647<Sq.numOf s.sign (Sq.valueOf cols row s.first).number (Sq.valueOf cols row s.second).number then(Sq.val0,false)
  else(⟨0,Sq.numOf s.sign (Sq.valueOf cols row s.first).number (Sq.valueOf cols row s.second).number,Sq.nobytes⟩,true)):=rfl
 obtain⟨p,hp⟩:∃p,p=Sq.result cols row s:=⟨_,rfl⟩;rw[<-hp];have hE:=HE.o;rw[<-hp] at hE;clear HE hp;obtain⟨cn,⟨lc,⟨lk,ln,lt⟩⟩,sg,⟨rc,⟨rk,rn,rt⟩⟩⟩:=s;obtain⟨x,hxe⟩:∃x,x=Sq.valueOf cols row ⟨lc,⟨lk,ln,lt⟩⟩:=⟨_,rfl⟩;obtain⟨y,hye⟩:∃x,x=Sq.valueOf cols row ⟨rc,⟨rk,rn,rt⟩⟩:=⟨_,rfl⟩
 dsimp only at hE hx hy
 rw[<-hxe] at hE hx;rw[<-hye] at hE hy;have HE:=hd hE;have HX:=hd hxe;have HY:=hd hye;obtain⟨x0,x1,-⟩:=hx;obtain⟨y0,y1,-⟩:=hy;clear hE hxe hye h1 h2 hok;unfold Sq.SetS.cells;have H:=hd h;have HR:=hd hr;have hW:∀o o2 o3,Below w.heap.size w (((w.alloc o).alloc o2).alloc o3):=fun o o2 o3=>(((bR).alloc (nR) _).alloc (by simp) _).alloc (by simp;omega) _
 have HW:=hd hW;clear h hr hW;go_enter Tryz.func164,Tryz.ntmps164;go_wp2_with fail;refine(jQbO cols row cv _ ⟨lc,⟨lk,ln,lt⟩⟩ _ (H.o.below (HW.o _ _ _)) (HR.o.below (HW.o _ _ _))).mono ?_;rintro e w1 ⟨rfl,hb1⟩;rw[<-HX.o];have hl:Below w.heap.size w w1:=(HW.o _ _ _).trans (hb1.mono (by simp;omega));obtain⟨k1,k2⟩:=bcell hb1;have a0:=k1 w.heap.size 0 (by simp;omega);have b5:=k1 (w.heap.size+1) 5 (by simp);have b6:=k1 (w.heap.size+1) 6 (by simp);have b7:=k1 (w.heap.size+1) 7 (by simp);have b8:=k1 (w.heap.size+1) 8 (by simp);have b9:=k1 (w.heap.size+1) 9 (by simp);have d0:=k1 (w.heap.size+1+1) 0 (by simp);have d1:=k1 (w.heap.size+1+1) 1 (by simp);have d2:=k1 (w.heap.size+1+1) 2 (by simp);have f0:=k2 (w.heap.size+1+1) 0 (by simp);have f1:=k2 (w.heap.size+1+1) 1 (by simp);have f2:=k2 (w.heap.size+1+1) 2 (by simp);simp[go_sem] at a0 b5 b6 b7 b8 b9 d0 d1 d2 f0 f1 f2;have hz:w.heap.size+1+1<w1.heap.size:=by have:=hb1.size;simp at this;omega
 have ht:w.heap.size<w1.heap.size:=by omega
 have ho:w.heap.size+1<w1.heap.size:=by omega
 clear k1 k2 hb1;obtain⟨xk,xn,xt⟩:=x;unfold Sq.Val.cells
 dsimp only at x0 x1
 have hm:Below w.heap.size w (w1.alloc (.cells #[.int .i64 xk,.int .i64 xn,.string xt] 208)):=Below.alloc (B:=w.heap.size) hl (by omega) _;have hk:=hd hm;clear hm;cases hs:sg.toList.isEmpty
 case true =>
  have HP:Hid (p=(⟨xk,xn,xt⟩,true)):=by show _=_;rw[HE.o,hs];rfl
  go_wp2;refine bodyPost_ret (v:=.tuple #[.agg #[.int .i64 xk,.int .i64 xn,.string xt],.bool true]) (by simp[results,Tryz.results164,go_sem, *]) rfl ⟨by rw[HP.o];rfl,?_⟩;exact Below.alloc (B:=w.heap.size) (jQaV (b:=w.heap.size+1+1) hl (by omega) _ _ _) (by simp;omega) _
 case false =>
  have HP:=HE.o;rw[hs,if_neg (by decide)] at HP;have hj:=hd HP;clear HP HE;go_wp2_with fail;refine(jQbO cols row cv _ ⟨rc,⟨rk,rn,rt⟩⟩ _ (H.o.below hk.o) (HR.o.below hk.o)).mono ?_;rintro e w2 ⟨rfl,hb2⟩;rw[<-HY.o];have hh:Below w.heap.size w w2:=hk.o.trans (hb2.mono (by simp;omega));obtain⟨k1,k2⟩:=bcell hb2;have g1:=(k1 w1.heap.size 1 (by simp));have b5':=(k1 (w.heap.size+1) 5 (by simp;omega)).trans ((World.cell?_alloc_past _ _ _ ho).trans b5);have d0':=(k1 (w.heap.size+1+1) 0 (by simp;omega)).trans ((World.cell?_alloc_past _ _ _ hz).trans d0);have d1':=(k1 (w.heap.size+1+1) 1 (by simp;omega)).trans ((World.cell?_alloc_past _ _ _ hz).trans d1);have d2':=(k1 (w.heap.size+1+1) 2 (by simp;omega)).trans ((World.cell?_alloc_past _ _ _ hz).trans d2);have f0':=(k2 (w.heap.size+1+1) 0 (by simp;omega)).trans ((World.frozen?_alloc_past _ _ _ hz).trans f0);have f1':=(k2 (w.heap.size+1+1) 1 (by simp;omega)).trans ((World.frozen?_alloc_past _ _ _ hz).trans f1);have f2':=(k2 (w.heap.size+1+1) 2 (by simp;omega)).trans ((World.frozen?_alloc_past _ _ _ hz).trans f2);simp[go_sem] at g1;have hu:w1.heap.size<w2.heap.size:=by have:=hb2.size;simp at this;omega
  have ha:w.heap.size+1+1<w2.heap.size:=by omega
  have hq:w.heap.size+1<w2.heap.size:=by omega
  clear k1 k2 hb2 a0 b5 b6 b7 b8 b9 d0 d1 d2 f0 f1 f2;obtain⟨yk,yn,yt⟩:=y;unfold Sq.Val.cells
  dsimp only at y0 y1
  have hi:=hd hh;clear hl hh
  have he:Hid (∀a b c,Below w.heap.size w ((((w2.setCell ⟨w.heap.size+1+1,0,none⟩ a).setCell ⟨w.heap.size+1+1,1,none⟩ b).setCell ⟨w.heap.size+1+1,2,none⟩ c).alloc (.cells #[.int .i64 yk,.int .i64 yn,.string yt] 208))) :=
   fun a b c=>Below.alloc (B:=w.heap.size) (jQaV (b:=w.heap.size+1+1) hi.o (by omega) _ _ _) (by simp;omega) _
  have hg:=hd (Below.alloc (B:=w.heap.size) hi.o (by omega) (.cells #[.int .i64 yk,.int .i64 yn,.string yt] 208));cases hsg:sg.toList==[45]
  case true =>
   have hc:Sq.numOf sg xn yn=xn-yn:=by unfold Sq.numOf;rw[hsg];rfl
   have hp:=hj.o;rw[hc] at hp;have HP:=hd hp;clear hp hc hj
   by_cases hlo:xn-yn < -2147483648
   ·have hb:Hid (p=(Sq.val0,false)):=by show _=_;rw[HP.o,if_pos hlo]
    go_wp2;refine bodyPost_ret (v:=.tuple #[.agg #[.int .i64 0,.int .i64 0,.string ⟨#[]⟩],.bool false]) (by simp[results,Tryz.results164,go_sem, *]) rfl ⟨by rw[hb.o];rfl,?_⟩
    first | exact he.o _ _ _ | exact hg.o
   by_cases hhi:2147483647<xn-yn
   ·have hb:Hid (p=(Sq.val0,false)):=by show _=_;rw[HP.o,if_neg hlo,if_pos hhi]
    go_wp2;refine bodyPost_ret (v:=.tuple #[.agg #[.int .i64 0,.int .i64 0,.string ⟨#[]⟩],.bool false]) (by simp[results,Tryz.results164,go_sem, *]) rfl ⟨by rw[hb.o];rfl,?_⟩
    first | exact he.o _ _ _ | exact hg.o
   ·have hb:Hid (p=(⟨0,xn-yn,Sq.nobytes⟩,true)):=by show _=_;rw[HP.o,if_neg hlo,if_neg hhi]
    go_wp2_with fail;refine(jQar _ _).mono ?_;rintro e w3 ⟨rfl,hb3⟩;have hf:Below w.heap.size w w3:=hg.o.trans (hb3.mono (by simp;omega));obtain⟨k1,k2⟩:=bcell hb3;have d0'':=(k1 (w.heap.size+1+1) 0 (by simp;omega)).trans ((World.cell?_alloc_past _ _ _ ha).trans d0');have d1'':=(k1 (w.heap.size+1+1) 1 (by simp;omega)).trans ((World.cell?_alloc_past _ _ _ ha).trans d1');have d2'':=(k1 (w.heap.size+1+1) 2 (by simp;omega)).trans ((World.cell?_alloc_past _ _ _ ha).trans d2');have f0'':=(k2 (w.heap.size+1+1) 0 (by simp;omega)).trans ((World.frozen?_alloc_past _ _ _ ha).trans f0');have f1'':=(k2 (w.heap.size+1+1) 1 (by simp;omega)).trans ((World.frozen?_alloc_past _ _ _ ha).trans f1');have f2'':=(k2 (w.heap.size+1+1) 2 (by simp;omega)).trans ((World.frozen?_alloc_past _ _ _ ha).trans f2');have hn:w.heap.size+1+1<w3.heap.size:=by have:=hb3.size;simp at this;omega
    clear k1 k2 hb3 d0' d1' d2' f0' f1' f2' g1 b5';go_wp2;refine bodyPost_ret (v:=.tuple #[.agg #[.int .i64 0,.int .i64 (xn-yn),.string ⟨#[]⟩],.bool true]) (by simp[results,Tryz.results164,go_sem, *]) rfl ⟨by rw[hb.o];rfl,?_⟩;exact jQaV (b:=w.heap.size+1+1) hf (by omega) _ _ _
  case false =>
   have hc:Sq.numOf sg xn yn=xn+yn:=by unfold Sq.numOf;rw[hsg];rfl
   have hp:=hj.o;rw[hc] at hp;have HP:=hd hp;clear hp hc hj
   by_cases hlo:xn+yn < -2147483648
   ·have hb:Hid (p=(Sq.val0,false)):=by show _=_;rw[HP.o,if_pos hlo]
    go_wp2;refine bodyPost_ret (v:=.tuple #[.agg #[.int .i64 0,.int .i64 0,.string ⟨#[]⟩],.bool false]) (by simp[results,Tryz.results164,go_sem, *]) rfl ⟨by rw[hb.o];rfl,?_⟩
    first | exact he.o _ _ _ | exact hg.o
   by_cases hhi:2147483647<xn+yn
   ·have hb:Hid (p=(Sq.val0,false)):=by show _=_;rw[HP.o,if_neg hlo,if_pos hhi]
    go_wp2;refine bodyPost_ret (v:=.tuple #[.agg #[.int .i64 0,.int .i64 0,.string ⟨#[]⟩],.bool false]) (by simp[results,Tryz.results164,go_sem, *]) rfl ⟨by rw[hb.o];rfl,?_⟩
    first | exact he.o _ _ _ | exact hg.o
   ·have hb:Hid (p=(⟨0,xn+yn,Sq.nobytes⟩,true)):=by show _=_;rw[HP.o,if_neg hlo,if_neg hhi]
    go_wp2_with fail;refine(jQar _ _).mono ?_;rintro e w3 ⟨rfl,hb3⟩;have hf:Below w.heap.size w w3:=hg.o.trans (hb3.mono (by simp;omega));obtain⟨k1,k2⟩:=bcell hb3;have d0'':=(k1 (w.heap.size+1+1) 0 (by simp;omega)).trans ((World.cell?_alloc_past _ _ _ ha).trans d0');have d1'':=(k1 (w.heap.size+1+1) 1 (by simp;omega)).trans ((World.cell?_alloc_past _ _ _ ha).trans d1');have d2'':=(k1 (w.heap.size+1+1) 2 (by simp;omega)).trans ((World.cell?_alloc_past _ _ _ ha).trans d2');have f0'':=(k2 (w.heap.size+1+1) 0 (by simp;omega)).trans ((World.frozen?_alloc_past _ _ _ ha).trans f0');have f1'':=(k2 (w.heap.size+1+1) 1 (by simp;omega)).trans ((World.frozen?_alloc_past _ _ _ ha).trans f1');have f2'':=(k2 (w.heap.size+1+1) 2 (by simp;omega)).trans ((World.frozen?_alloc_past _ _ _ ha).trans f2');have hn:w.heap.size+1+1<w3.heap.size:=by have:=hb3.size;simp at this;omega
    clear k1 k2 hb3 d0' d1' d2' f0' f1' f2' g1 b5';go_wp2;refine bodyPost_ret (v:=.tuple #[.agg #[.int .i64 0,.int .i64 (xn+yn),.string ⟨#[]⟩],.bool true]) (by simp[results,Tryz.results164,go_sem, *]) rfl ⟨by rw[hb.o];rfl,?_⟩;exact jQaV (b:=w.heap.size+1+1) hf (by omega) _ _ _
end
section
open Go.RowKit
theorem jQgp {P:Program}(w:World)(t ty e:TypeId)(i:TypeInfo)(size:Nat)(hu:P.underlying t=some (.slice e))(hi:P.info? e=some i)(hz1:i.size=size)
  (base base2:Nat) (e2:TypeId) (g n cap:Nat) (so:Option Addr) (sc:Nat) (zs cs:List Value)
  (hod:w.ownsRow base e size (.slice (some ⟨g,0,none⟩) n cap) n zs) (hos:w.ownsRow base2 e2 size (.slice so n sc) n cs) (h1:∀v∈cs,v.oneCell'=true) :
  ∃w',(Builtin.copy_ #[t,t] ty #[.slice (some ⟨g,0,none⟩) n cap,.slice so n sc]).run P w=.ok (goInt n) w'/\w'.ownsRow base e size (.slice (some ⟨g,0,none⟩) n cap) n cs/\Below base w w':=by
 obtain⟨hzl,hz⟩:=hod;obtain⟨hcl,hc⟩:=hos;rcases hz with⟨h,_⟩ | ⟨g',cap',cur,hv,hbg,hh,hn,hmx,hcs,ht⟩
 ·simp at h
 simp only[Value.slice.injEq,Option.some.injEq,Addr.mk.injEq] at hv;obtain⟨⟨rfl,-,-⟩,-,rfl⟩:=hv;rcases hc with⟨h,h0⟩ | ⟨g2,cap2,cur2,hv2,hbg2,hh2,hn2,hmx2,hcs2,ht2⟩
 ·simp only[Value.slice.injEq] at h;obtain⟨rfl,-,rfl⟩:=h;subst h0;have hf:cs=[]:=by simpa using hcl
  have hg:zs=[]:=by simpa using hzl
  subst hf;refine⟨w,?_,⟨by simp,Or.inr ⟨g,cap,cur,rfl,hbg,hh,hn,hmx,hcs,by simp⟩⟩,bR⟩;simp[Builtin.copy_,run_underlying hu,Builtin.lenOf,Builtin.firstCells,sizeOf,typeInfo,hi,storeCells]
 ·simp only[Value.slice.injEq] at hv2;obtain⟨rfl,-,rfl⟩:=hv2
  have ha:∀j v,cs[j]?=some v->w.cell? ((⟨g2,0,none⟩:Addr).add j)=some v:=by
   intro j v hj;exact World.ownsRow.cells (⟨hcl,Or.inr ⟨g2,sc,cur2,rfl,hbg2,hh2,hn2,hmx2,hcs2,ht2⟩⟩:w.ownsRow base2 e2 size (.slice (some ⟨g2,0,none⟩) n sc) n cs) rfl j v hj
  have hl:=run_loadCells_list (P:=P) w ⟨g2,0,none⟩ cs ha;have he:n*size<=cap*size:=Nat.mul_le_mul_right _ hn;have hb:=run_storeCells_at P g 0 e cs 0 cur w hh (by omega) h1;refine⟨_,?_,⟨hcl,Or.inr ⟨g,cap,(cur.toList.take 0++cs++cur.toList.drop (0+0+cs.length)).toArray,rfl,hbg,setRow_heap w g cur _ e _ hh,hn,hmx,?_,?_⟩⟩,below_setRow (bR) hbg _⟩
  ·rw[hcl] at hl;simp[Builtin.copy_,run_underlying hu,Builtin.lenOf,Builtin.firstCells,sizeOf,typeInfo,hi,hz1,hl,hb]
  ·simp;omega
  ·simp[hcl]
theorem jQit (row:List Sq.Val):∀v∈row.flatMap Sq.Val.cells,v.oneCell'=true:=by
 intro v hv;obtain⟨x,_,hx⟩:=List.mem_flatMap.1 hv;simp only[Sq.Val.cells,List.mem_cons,List.not_mem_nil,or_false] at hx;rcases hx with rfl | rfl | rfl<;>rfl
def RowNew (B:Nat)(w:World)(v:Value)(row:List Sq.Val):Prop:=w.ownsRow B 208 3 v row.length (row.flatMap Sq.Val.cells)/\row.length<=100000
theorem RowNew.row {B:Nat}{w:World}{v:Value}{row:List Sq.Val}(h:RowNew B w v row):RowAt w v row:=⟨jQj h.1 (zR),h.2⟩
theorem jQc9 (w:World)(o o2:Obj):((w.alloc o).alloc o2).heap.size=w.heap.size+1+1:=by simp
theorem jQri (row:List Sq.Val)(rv:Value)(w:World)(h:RowAt w rv row) :
  Calls Tryz.prog 163 #[.agg #[rv]] w fun e w'=>∃g cap,e=.returned (.agg #[.slice (some ⟨g,0,none⟩) row.length cap])/\RowNew w.heap.size w' (.slice (some ⟨g,0,none⟩) row.length cap) row/\Below w.heap.size w w':=by
 obtain⟨i0,hi,hz0,hz1,hz2⟩:=info_parts Tryz.infoVal;obtain⟨ao,acap,rfl⟩:=jQa h.1;have hl:=h.2;have hb:=jQit row;obtain⟨cs,hcs⟩:∃x,x=row.flatMap Sq.Val.cells:=⟨_,rfl⟩;have hc:=h.1;rw[<-hcs] at hc hb;have hW:∀o o2,Below w.heap.size w ((w.alloc o).alloc o2):=fun o o2=>((bR).alloc (nR) _).alloc (by simp) _
 have hh:=hd hc;have hg:=hd hb;have hp:=hd hcs;have HW:=hd hW;clear h hc hb hcs hW;go_enter Tryz.func163,Tryz.ntmps163;go_wp2_with (at_make;refine wpList_make_full _ rfl (.tmp 6) (.tmp 6) 113 rfl (w.heap.size+1+1) 208 i0 _ 3 Tryz.underlying113 hi hz0 hz1 .i64 .i64 _ _ row.length rfl rfl rfl rfl (by rw[hz2];omega) (by unfold maxLen;omega) (by simp) ?_;intro w1 hown1 hgrow1;rw[jQc9] at hown1;have hf:=Tch.of_grown (pb:=w.heap.size+1+1) hgrow1 (fun k hk=>by cases hk) (by simp);have a0:=hf.cell (p:=⟨w.heap.size,0,none⟩) (by simp;omega);simp[go_sem] at a0;have he:=(HW.o _ _).trans (hf.mono (by omega));obtain⟨w2,hrun,hown2,hb2⟩:=jQgp w1 113 3 208 i0 3 Tryz.underlying113 hi hz1 (w.heap.size+1+1) 0 208 _ row.length _ _ _ _ cs hown1 (jQh hh.o he) hg.o;have ha:=hf.trans hb2;have b0:=ha.cell (p:=⟨w.heap.size+1,0,none⟩) (by simp);have f0:=ha.frozen (p:=⟨w.heap.size+1,0,none⟩) (by simp);simp[go_sem] at b0 f0;have hm:=ha.size;simp at hm;have hn:=hd hown2;have ho:=hd ha;clear hown1 hgrow1 hf he hown2 hb2 ha);have hj:Below w.heap.size w w2:=(HW.o _ _).trans (ho.o.mono (by omega));refine bodyPost_ret (v:=.agg #[.slice (some ⟨w.heap.size+1+1,0,none⟩) row.length row.length]) (by simp[results,Tryz.results163,go_sem, *]) rfl ⟨_,_,rfl,⟨?_,hl⟩,Below.setCell (B:=w.heap.size) hj (by simp) _⟩;rw[<-hp.o];exact jQj (jQq hn.o fun k hk=>jQg (fun e=>by have:=(World.ownsRow.lt hn.o k hk).1;omega)) (by omega)
end
section
open Go.RowKit
theorem Sq.jQfs (cols:List Sq.Col)(old row:List Sq.Val)(sets:List Sq.SetS)(k:Nat)(h:k<sets.length) :
  Sq.assignFrom cols old (sets.drop k) row=if(Sq.result cols old sets[k]).2 then Sq.assignFrom cols old (sets.drop (k+1)) (Sq.assignStep cols old row sets[k]) else([],false):=by
 rw[List.drop_eq_getElem_cons h,Sq.assignFrom]
theorem jQnM (v:Sq.Val):∀(l:List Sq.Val) (k:Nat),k<l.length->(l.set k v).flatMap Sq.Val.cells=(((l.flatMap Sq.Val.cells).set (k*3) (.int .i64 v.kind)).set (k*3+1) (.int .i64 v.number)).set (k*3+2) (.string v.text):=by
 intro l
 induction l with
 | nil=>intro k h;simp at h
 | cons x r ih =>
  intro k h;cases k with
  | zero=>simp[Sq.Val.cells]
  | succ k =>
   have:=ih k (by simpa using h)
   rw[List.set_cons_succ,List.flatMap_cons,this,List.flatMap_cons];rw[show(k+1)*3=k*3+3 from by omega];simp[Sq.Val.cells]
theorem jQqz {w:World}{B g n cap:Nat}{l:List Sq.Val}(h:w.ownsRow B 208 3 (.slice (some ⟨g,0,none⟩) n cap) n (l.flatMap Sq.Val.cells))(v:Sq.Val)(k:Nat)(hk:k<l.length) :
  (((w.setCell ⟨g,k*3,none⟩ (.int .i64 v.kind)).setCell ⟨g,k*3+1,none⟩ (.int .i64 v.number)).setCell ⟨g,k*3+2,none⟩ (.string v.text)).ownsRow B 208 3 (.slice (some ⟨g,0,none⟩) n cap) n ((l.set k v).flatMap Sq.Val.cells):=by
 obtain⟨hl,ho⟩:=h;rcases ho with⟨h,_⟩ | ⟨g',cap',cur,hv,hbg,hh,hn,hmx,hcs,ht⟩
 ·simp at h
 simp only[Value.slice.injEq,Option.some.injEq,Addr.mk.injEq] at hv;obtain⟨⟨rfl,-,-⟩,-,rfl⟩:=hv;refine⟨by rw[jQnM v l k hk];simpa using hl,Or.inr ⟨g,cap,_,rfl,hbg,jQe (jQe (jQe hh _) _) _,hn,hmx,by simpa using hcs,?_⟩⟩;rw[jQnM v l k hk];simp only[Array.toList_setIfInBounds,List.take_set,ht]
theorem jQet {w:World}{B:Nat}{e:TypeId}{size g n cap:Nat}{xs:List Value}(h:w.ownsRow B e size (.slice (some ⟨g,0,none⟩) n cap) n xs)(j:Nat):w.frozen? ⟨g,j,none⟩=false:=by
 obtain⟨hl,ho⟩:=h;rcases ho with⟨h,_⟩ | ⟨g',cap',cur,hv,hbg,hh,hn,hmx,hcs,ht⟩
 ·simp at h
 simp only[Value.slice.injEq,Option.some.injEq,Addr.mk.injEq] at hv;obtain⟨⟨rfl,-,-⟩,-,rfl⟩:=hv;simp[World.frozen?,hh]
theorem jQkL {W w1:World}{B b:Nat}(hb:Below B W w1)(h:B<=b)(i j k:Nat)(x y z:Value):Below B W (((w1.setCell ⟨b,i,none⟩ x).setCell ⟨b,j,none⟩ y).setCell ⟨b,k,none⟩ z) :=
 Below.setCell (B:=B) (Below.setCell (B:=B) (Below.setCell (B:=B) hb h _) h _) h _
theorem jQK {w1:World}{b c:Nat}(h:c≠b)(i j k:Nat)(x y z:Value):(((w1.setCell ⟨b,i,none⟩ x).setCell ⟨b,j,none⟩ y).setCell ⟨b,k,none⟩ z).heap[c]?=w1.heap[c]?:=by
 rw[jQg h,jQg h,jQg h]
theorem jQpG {w w':World}{b:Nat}(h:w'.heap[b]?=w.heap[b]?)(o:Nat):w'.cell? ⟨b,o,none⟩=w.cell? ⟨b,o,none⟩:=by simp[World.cell?,h]
end
end Go.Proofs.YtahpihjialbanaaGreatDoor
