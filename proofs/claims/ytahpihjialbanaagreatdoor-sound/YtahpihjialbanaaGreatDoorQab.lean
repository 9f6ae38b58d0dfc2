import Derived.Test.YtahpihjialbanaaGreatDoorQaa
set_option linter.all false
set_option maxRecDepth 100000
set_option maxHeartbeats 4000000
namespace Go.Proofs.YtahpihjialbanaaGreatDoor
open Sq (ar PSt aK bE Col Val aU bEq bO bd bu jAN jAV jAg jBK jBM jBO jBS jBp jBy jBz jCB jCN jCk jCt jD3 jDI jDJ jDc jDf jDj jDo jDx jEB jEi jEy jFN jFP jFk jFm jGL jGM jGN jGO jGP jGQ jGa jGf jHQ jHg jHs jI1 jI8 jID jIE jIx jJ0 jJZ jJw jMP jMq jMr jNx jP6 jP7 jQn jQz jR0 jRZ jUy st0)
variable {B B' b g n pb:Nat}{e:TypeId}{lv v:Value}{w w' w1:World}{xs:List Value}{α:Type}
section
open Go.RowKit
section
variable {pb:Nat} {lv:Value} {ws:List Sq.Word} {r:Rw} {w w1:World} {st:PSt}
theorem PS.bx (h:PS pb lv ws r w st)(a:Int):PS pb lv ws r (w.setCell ⟨pb,3,none⟩ (.int .i64 a)) (Sq.bx st a) :=
 h.jB3 ((Tch.refl _ _).store (.inl rfl) _) (by rw[jQf h.blk];rfl) h.inside rfl rfl rfl rfl rfl
theorem PS.setTable (h:PS pb lv ws r w st)(n:BA):PS pb lv ws r (w.setCell ⟨pb,4,none⟩ (.string n)) (Sq.setTable st n) :=
 h.jB3 ((Tch.refl _ _).store (.inl rfl) _) (by rw[jQf h.blk];rfl) h.inside rfl rfl rfl rfl rfl
theorem PS.jAp (h:PS pb lv ws r w st)(a:Int):PS pb lv ws r (w.setCell ⟨pb,8,none⟩ (.int .i64 a)) (Sq.jAp st a) :=
 h.jB3 ((Tch.refl _ _).store (.inl rfl) _) (by rw[jQf h.blk];rfl) h.inside rfl rfl rfl rfl rfl
theorem PS.cell (h:PS pb lv ws r w st)(j:Nat)(v:Value)(hv:(#[lv,.int .i64 st.pos,.bool st.bad,.int .i64 st.act,.string st.table,r.cv,r.vv,r.sv,.int .i64 st.shw,r.iv,r.wv]:Array Value)[j]?=some v):w.cell? ⟨pb,j,none⟩=some v:=by rw[jQb h.blk,hv]
theorem PS.frozen (h:PS pb lv ws r w st)(j:Nat):w.frozen? ⟨pb,j,none⟩=false:=jQd h.blk j
theorem PS.jHk (h:PS pb lv ws r w st)(c:Col){cap:Nat}
  (ha:w1.ownsRow (pb+1) 205 2 (.slice (some ⟨g,0,none⟩) (st.cols.length+1) cap) (st.cols.length+1) (st.cols.flatMap Col.cells++c.cells)) (hg:w.grownBy w1 r.cv.ownBlock) :
  PS pb lv ws { r with cv:=.slice (some ⟨g,0,none⟩) (st.cols.length+1) cap } (w1.setCell ⟨pb,5,none⟩ (.slice (some ⟨g,0,none⟩) (st.cols.length+1) cap)) (Sq.jDM st c):=by
 have hb:=(h.jBe h.cols (by decide) hg).trans h.blk;refine⟨by rw[jQf hb];rfl,jQv (jQx h.list h.cols (by decide) hg) hb (by decide) _,h.small,h.wf,h.inside,jQv ?_ hb (by decide) _,jQv (jQx h.ax h.cols (by decide) hg) hb (by decide) _,jQv (jQx h.ak h.cols (by decide) hg) hb (by decide) _,jQv (jQx h.items h.cols (by decide) hg) hb (by decide) _,jQv (jQx h.aq h.cols (by decide) hg) hb (by decide) _⟩;show w1.ownsRow (pb+1) 205 2 _ (st.cols++[c]).length ((st.cols++[c]).flatMap Col.cells);rw[cg,dc,cN];simpa using ha
theorem PS.jKt (h:PS pb lv ws r w st)(c:Val){cap:Nat}
  (ha:w1.ownsRow (pb+1) 208 3 (.slice (some ⟨g,0,none⟩) (st.ax.length+1) cap) (st.ax.length+1) (st.ax.flatMap Val.cells++c.cells)) (hg:w.grownBy w1 r.vv.ownBlock) :
  PS pb lv ws { r with vv:=.slice (some ⟨g,0,none⟩) (st.ax.length+1) cap } (w1.setCell ⟨pb,6,none⟩ (.slice (some ⟨g,0,none⟩) (st.ax.length+1) cap)) (Sq.jFj st c):=by
 have hb:=(h.jBe h.ax (by decide) hg).trans h.blk;refine⟨by rw[jQf hb];rfl,jQv (jQx h.list h.ax (by decide) hg) hb (by decide) _,h.small,h.wf,h.inside,jQv (jQx h.cols h.ax (by decide) hg) hb (by decide) _,jQv ?_ hb (by decide) _,jQv (jQx h.ak h.ax (by decide) hg) hb (by decide) _,jQv (jQx h.items h.ax (by decide) hg) hb (by decide) _,jQv (jQx h.aq h.ax (by decide) hg) hb (by decide) _⟩;show w1.ownsRow (pb+1) 208 3 _ (st.ax++[c]).length ((st.ax++[c]).flatMap Val.cells);rw[cg,dc,cN];simpa using ha
theorem PS.jGp (h:PS pb lv ws r w st)(c:bE){cap:Nat}
  (ha:w1.ownsRow (pb+1) 213 10 (.slice (some ⟨g,0,none⟩) (st.ak.length+1) cap) (st.ak.length+1) (st.ak.flatMap bE.cells++c.cells)) (hg:w.grownBy w1 r.sv.ownBlock) :
  PS pb lv ws { r with sv:=.slice (some ⟨g,0,none⟩) (st.ak.length+1) cap } (w1.setCell ⟨pb,7,none⟩ (.slice (some ⟨g,0,none⟩) (st.ak.length+1) cap)) (Sq.jEw st c):=by
 have hb:=(h.jBe h.ak (by decide) hg).trans h.blk;refine⟨by rw[jQf hb];rfl,jQv (jQx h.list h.ak (by decide) hg) hb (by decide) _,h.small,h.wf,h.inside,jQv (jQx h.cols h.ak (by decide) hg) hb (by decide) _,jQv (jQx h.ax h.ak (by decide) hg) hb (by decide) _,jQv ?_ hb (by decide) _,jQv (jQx h.items h.ak (by decide) hg) hb (by decide) _,jQv (jQx h.aq h.ak (by decide) hg) hb (by decide) _⟩;show w1.ownsRow (pb+1) 213 10 _ (st.ak++[c]).length ((st.ak++[c]).flatMap bE.cells);rw[cg,dc,cN];simpa using ha
theorem PS.jIC (h:PS pb lv ws r w st)(c:BA){cap:Nat}
  (ha:w1.ownsRow (pb+1) 9 1 (.slice (some ⟨g,0,none⟩) (st.items.length+1) cap) (st.items.length+1) (st.items.map Value.string++[.string c])) (hg:w.grownBy w1 r.iv.ownBlock) :
  PS pb lv ws { r with iv:=.slice (some ⟨g,0,none⟩) (st.items.length+1) cap } (w1.setCell ⟨pb,9,none⟩ (.slice (some ⟨g,0,none⟩) (st.items.length+1) cap)) (Sq.addItem st c):=by
 have hb:=(h.jBe h.items (by decide) hg).trans h.blk;refine⟨by rw[jQf hb];rfl,jQv (jQx h.list h.items (by decide) hg) hb (by decide) _,h.small,h.wf,h.inside,jQv (jQx h.cols h.items (by decide) hg) hb (by decide) _,jQv (jQx h.ax h.items (by decide) hg) hb (by decide) _,jQv (jQx h.ak h.items (by decide) hg) hb (by decide) _,jQv ?_ hb (by decide) _,jQv (jQx h.aq h.items (by decide) hg) hb (by decide) _⟩;show w1.ownsRow (pb+1) 9 1 _ (st.items++[c]).length ((st.items++[c]).map Value.string);rw[cg,dc,cR];simpa using ha
end
theorem Tryz.jIo:(Tryz.prog.info? 208).map (fun i=>(i.zero,i.size,i.bytes))=some (some (.agg (Val.cells Sq.jDY).toArray),3,32):=by kernel_rfl
theorem Tryz.jKA:(Tryz.prog.info? 213).map (fun i=>(i.zero,i.size,i.bytes))=some (some (.agg (bE.cells ⟨ar,jFN,ar,jFN⟩).toArray),10,128):=by kernel_rfl
theorem Tryz.jKy:(Tryz.prog.info? 205).map (fun i=>(i.zero,i.size,i.bytes))=some (some (.agg (Col.cells ⟨ar,0⟩).toArray),2,24):=by kernel_rfl
theorem Tryz.jIn:(Tryz.prog.info? 9).map (fun i=>(i.zero,i.size,i.bytes))=some (some (.string ⟨#[]⟩),1,16):=by kernel_rfl
theorem jSB {ws:List Sq.Word}{r:Rw}{st:PSt}(h:PS pb lv ws r w st)(hn:st.ax.length<=5000) :
  Calls Tryz.prog 187 #[.pointer (some ⟨pb,0,none⟩)] w fun e w'=>e=.returned (.tuple #[])/\(∃r',PS pb lv ws r' w' (jBK ws st))/\Below pb w w':=by
 obtain⟨i0,hi,ht,hv,hy⟩:=cV Tryz.jIo;have ha:=h.lt;have H:Hid _:=h;clear h;go_enter Tryz.func187,Tryz.ntmps187;go_wp2_with fail;refine(jRf H.o).mono ?_;rintro e w0 ⟨rfl,ho,hq⟩;have hg:(jEB ws st).ax.length<=5000:=by rw[Sq.jTg];exact hn
 obtain⟨s0,hp⟩:∃s,s=jEB ws st:=⟨_,rfl⟩;obtain⟨x,hx⟩:∃s,s=Sq.jFT ws st:=⟨_,rfl⟩;rw[<-hp] at ho hg;rw[<-hx];have HS:Hid (jBK ws st=Sq.jFj s0 x):=by show _=_;rw[hp,hx];rfl
 have he:Hid _:=Tch.below hq nR (cQ ha);clear hp hx H hn ha hq;obtain⟨vk,vn,vt⟩:=x;have ha:=ho.lt;have c6:=ho.cell 6 _ rfl;have hW:Below w0.heap.size w0 ((w0.alloc (.cells #[.int .i64 vk,.int .i64 vn,.string vt] 208)).alloc (.cells #[.int .i64 vk,.int .i64 vn,.string vt] 208)).drew:=((bA).alloc (by simp) _).drew;have hc:=ho.below hW;have HP:Hid _:=hc;have HW:Hid _:=hW;clear hc hW ho;go_wp2
 go_region_law (first
  | (refine dV _ rfl (.tmp 10) (.tmp 12) 113 rfl (pb+1) 208 i0 _ 3 32 Tryz.underlying113 hi ht hv hy rfl (by decide) r.vv s0.ax.length (s0.ax.flatMap Val.cells) (by simp[Act.eval,Act.put]) HP.o.ax ⟨w0.heap.size+1,0,none⟩ 1 1 [.int .i64 vk,.int .i64 vn,.string vt] (by simp[Act.eval,Act.put]) rfl (by exact jQN (w0.alloc _) _ _ _ rfl (by simp)) (by intro u hu;simp at hu;rcases hu with rfl | rfl | rfl<;>rfl) (by decide) (by unfold maxLen;omega) (by omega) (by simp;omega) _ rfl ?_;intro g cap w1 hj hh hr hs;have hb:=(HP.o.jBe HP.o.ax (by decide) hh).trans HP.o.blk;have hz:w1.cell? ⟨pb,6,none⟩=some r.vv:=(by rw[jQb hb];rfl);have f10:=jQd hb 6;have hf:=jQe hb;have HO:Hid _:=hj;have HG:Hid _:=hh;clear hj hh hr hb))
 all_goals
  go_end0;refine⟨rfl,⟨_,by rw[HS.o];exact HP.o.jKt ⟨vk,vn,vt⟩ HO.o HG.o⟩,?_⟩;refine he.o.trans ?_;refine cj (B:=pb) (ed (cS (B':=pb) HW.o (by omega)) (Tch.aO HG.o (fun k hk=>?_) (by simp;omega))) nR _;exact dC (HP.o.ax.lt k hk).1
end
section
open Go.RowKit
theorem jOg {ws:List Sq.Word}{r:Rw}{st:PSt}(h:PS pb lv ws r w st)(hn:st.items.length<=5000) :
  Calls Tryz.prog 190 #[.pointer (some ⟨pb,0,none⟩)] w fun e w'=>e=.returned (.tuple #[])/\(∃r',PS pb lv ws r' w' (jCt ws st))/\Below pb w w':=by
 obtain⟨i0,hi,ht,hv,hy⟩:=cV Tryz.jIn;have ha:=h.lt;have H:Hid _:=h;clear h;go_enter Tryz.func190,Tryz.ntmps190;go_wp2_with fail;refine(jF1 H.o).mono ?_;rintro e w0 ⟨rfl,ho,hq⟩;have hg:(bO ws st).items.length<=5000:=by rw[jMP];exact hn
 obtain⟨s0,hp⟩:∃s,s=bO ws st:=⟨_,rfl⟩;obtain⟨x,hx⟩:∃s,s=jAV ws st:=⟨_,rfl⟩;rw[<-hp] at ho hg;rw[<-hx];have HS:Hid (jCt ws st=Sq.addItem s0 x):=by show _=_;rw[hp,hx];rfl
 have he:Hid _:=Tch.below hq nR (cQ ha);clear hp hx H hn ha hq;have ha:=ho.lt;have c6:=ho.cell 9 _ rfl;have hW:Below w0.heap.size w0 (w0.alloc (.cells #[.string x] 9)):=bA;have hc:=ho.below hW;have HP:Hid _:=hc;have HW:Hid _:=hW;clear hc hW ho;go_wp2_with (at_builtin;refine cT _ rfl (.tmp 10) (.tmp 12) 35 rfl (pb+1) 9 i0 _ 1 16 Tryz.underlying35 hi ht hv hy rfl (by decide) r.iv s0.items.length (s0.items.map Value.string) rfl HP.o.items ⟨w0.heap.size,0,none⟩ 1 1 [.string x] rfl rfl (by exact jQN w0 _ _ _ rfl rfl) (by intro u hu;simp at hu;subst hu;rfl) (by decide) (by unfold maxLen;omega) (by omega) (by simp;omega) _ rfl ?_;intro g cap w1 hj hh hr hs;have hb:=(HP.o.jBe HP.o.items (by decide) hh).trans HP.o.blk;have hz:w1.cell? ⟨pb,9,none⟩=some r.iv:=(by rw[jQb hb];rfl);have f10:=jQd hb 9;have hf:=jQe hb;have HO:Hid _:=hj;have HG:Hid _:=hh;clear hj hh hr hb);go_end0;refine⟨rfl,⟨_,by rw[HS.o];exact HP.o.jIC x HO.o HG.o⟩,?_⟩;refine he.o.trans ?_;refine cj (B:=pb) (ed (cS (B':=pb) HW.o (by omega)) (Tch.aO HG.o (fun k hk=>?_) (by simp;omega))) nR _;exact dC (HP.o.items.lt k hk).1
theorem qAm {ws:List Sq.Word}{r:Rw}{st:PSt}(h:PS pb lv ws r w st)(hn:st.items.length=0) :
  Calls Tryz.prog 191 #[.pointer (some ⟨pb,0,none⟩)] w fun e w'=>e=.returned (.tuple #[])/\(∃r',PS pb lv ws r' w' (jCB ws st))/\Below pb w w':=by
 have hr:=h.lt;have ht:=h.small;have c8:=h.cell 8 _ rfl;have f8:=h.frozen 8;have hi:=h.jAp 0;have hb:Hid _:=hi;clear hi h;have hf:Below pb w (w.setCell ⟨pb,8,none⟩ (.int .i64 0)):=cj (B:=pb) bR nR _;go_enter Tryz.func191,Tryz.ntmps191;go_wp2_with fail;refine(jOg hb.o (by show st.items.length<=5000;omega)).mono ?_;rintro e w2 ⟨rfl,⟨r2,hA⟩,hD⟩;have hc:Hid _:=hA;have hp:=hA.inside;clear hA c8 f8
 have hg:(jCt ws (Sq.jAp st 0)).items.length<=(jCt ws (Sq.jAp st 0)).pos+1:=by
  show((bO ws (Sq.jAp st 0)).items++[_]).length<=_
  rw[jMP,cg];show st.items.length+1<=_;omega
 go_wp2_with fail
 go_loopg [] (ws.length+1) (fun k wr=>∃(g:Nat) (sk:PSt) (rk:Rw),g=k/\PS pb lv ws rk wr sk/\sk.items.length<=sk.pos+1/\ws.length-sk.pos+1<=g/\Below pb w wr/\Hid (jCB ws st=Sq.bp ws (jCt ws) g sk))
 case atStart=>exact⟨ws.length+1,_,r2,rfl,hc.o,hg,by omega,hf.trans hD,rfl⟩
 case round =>
  obtain⟨g,sk,rk,rfl,hy,hH,hG,hz,hx⟩:=hrel;have hk:Hid _:=hy;have ho:=hy.lt;have hm:=hy.inside;clear hy hb hc hf hg hD;go_wp2_with fail;refine(jQL jEy hk.o).mono ?_;rintro e w3 ⟨rfl,hv,hC⟩;have hu:=hC.size;have he:Hid _:=hC;clear hC;cases hB:aU ws sk jEy
  case true =>
   have hs:=jQ9 hB;obtain⟨g,rfl⟩:∃g',g=g'+1:=⟨g-1,by omega⟩;rw[jQO hB] at hv;have HE:Hid (jCB ws st=Sq.bp ws (jCt ws) g (jCt ws (Sq.step1 sk))):=by show _=_;rw[hx.o,Sq.bp,cE hB]
   have ha:Hid _:=hv;clear hv hB hx;go_wp2_with fail;refine(jOg ha.o (by show sk.items.length<=5000;omega)).mono ?_;rintro e w4 ⟨rfl,⟨r4,hF⟩,hE⟩;have hj:Hid _:=hF;clear hF;have hl:Below pb w w4:=hz.trans ((Tch.below he.o nR (by omega)).trans hE)
   have hh:(jCt ws (Sq.step1 sk)).items.length=sk.items.length+1:=by
    show((bO ws (Sq.step1 sk)).items++[_]).length=_
    rw[jMP,cg];rfl
   have hq:sk.pos+1<=(jCt ws (Sq.step1 sk)).pos:=jNx ws (Sq.step1 sk);have HL:Hid _:=hh;clear hz hE hh;go_wp2;go_roundg g
   case measure=>omega
   case rel=>exact⟨g,_,r4,rfl,hj.o,by rw[HL.o];omega,by omega,hl,HE⟩
  case false =>
   rw[jQW hB] at hv
   have HE:Hid (jCB ws st=sk):=by
    show _=_;rw[hx.o];obtain⟨g,rfl⟩:∃g',g=g'+1:=⟨g-1,by omega⟩;rw[Sq.bp,cy (by simp[hB])]
   have ha:Hid _:=hv;clear hv hB hx;go_wp2;go_end0;exact⟨rfl,⟨rk,by rw[HE.o];exact ha.o⟩,hz.trans (Tch.below he.o nR (by omega))⟩
theorem ten {v0 v1 v2 v3 v4 v5 v6 v7 v8 v9:Value}(h:w.heap[b]?=some (.cells #[v0,v1,v2,v3,v4,v5,v6,v7,v8,v9] e)) :
  (w.cell? ⟨b,0,none⟩=some v0/\w.cell? ⟨b,1,none⟩=some v1/\w.cell? ⟨b,2,none⟩=some v2/\w.cell? ⟨b,3,none⟩=some v3/\w.cell? ⟨b,4,none⟩=some v4) /\
  (w.cell? ⟨b,5,none⟩=some v5/\w.cell? ⟨b,6,none⟩=some v6/\w.cell? ⟨b,7,none⟩=some v7/\w.cell? ⟨b,8,none⟩=some v8/\w.cell? ⟨b,9,none⟩=some v9) /\
  (∀j,w.frozen? ⟨b,j,none⟩=false)/\b<w.heap.size :=
 ⟨⟨by rw[jQb h];rfl,by rw[jQb h];rfl,by rw[jQb h];rfl,by rw[jQb h];rfl,by rw[jQb h];rfl⟩,⟨by rw[jQb h];rfl,by rw[jQb h];rfl,by rw[jQb h];rfl,by rw[jQb h];rfl,by rw[jQb h];rfl⟩,fun j=>jQd h j,jQe h⟩
theorem Tch.heap (h:Tch pb w w1)(hn:b≠pb){o:Obj}(hb:w.heap[b]?=some o):w1.heap[b]?=some o:=(h.block b (jQe hb) (by simp;exact hn)).trans hb
theorem jO5 {ws:List Sq.Word}{r:Rw}{st:PSt}(h:PS pb lv ws r w st)(hn:st.ak.length<=5000) :
  Calls Tryz.prog 188 #[.pointer (some ⟨pb,0,none⟩)] w fun e w'=>e=.returned (.tuple #[])/\(∃r',PS pb lv ws r' w' (jDj ws st))/\Below pb w w':=by
 obtain⟨i0,hi,Hr,Hs,Ht⟩:=cV Tryz.jKA;have hX:=h.lt;have hw:w.heap.size≠pb:=by omega
 have H:Hid _:=h;clear h;obtain⟨n0,Hx⟩:∃n,n=w.heap.size:=⟨_,rfl⟩;have h9:Hid _:=Hx;go_enter Tryz.func188,Tryz.ntmps188;go_wp2_with fail;refine(jF1 (H.o.alloc _)).mono ?_;rintro e w1 ⟨rfl,Hu,Hm⟩;obtain⟨c,hc⟩:∃s,s=jAV ws st:=⟨_,rfl⟩;rw[<-hc];have HC:Hid _:=hc;have h4:Hid _:=Hu;have hT:w1.heap[w.heap.size]?=some (.cells #[.string ⟨#[]⟩,.string ⟨#[]⟩,.int .i64 0,.int .i64 0,.string ⟨#[]⟩,.string ⟨#[]⟩,.string ⟨#[]⟩,.int .i64 0,.int .i64 0,.string ⟨#[]⟩] 213):=Hm.heap hw (by simp[World.alloc,-World.alloc_eq]);have hO:Hid (Tch pb w w1):=((Tch.refl pb w).alloc _).trans Hm;obtain⟨⟨a0,a1,a2,a3,a4⟩,⟨a5,a6,a7,a8,a9⟩,fz,Hc⟩:=ten hT;have b0:=fz 0;have h0:Hid _:=hT;clear hc Hu Hm hT fz
 -- the name is stored
 have ht:Below w.heap.size w1 (w1.setCell ⟨w.heap.size,0,none⟩ (.string c)):=cj (B:=w.heap.size) bR nR _;have hI:Hid _:=H.o.bC h4.o ht;have hL:Hid (Tch pb w (w1.setCell ⟨w.heap.size,0,none⟩ (.string c))):=Tch.then hO.o ht;have hG:Hid ((w1.setCell ⟨w.heap.size,0,none⟩ (.string c)).heap[w.heap.size]?=some (.cells #[.string c,.string ⟨#[]⟩,.int .i64 0,.int .i64 0,.string ⟨#[]⟩,.string ⟨#[]⟩,.string ⟨#[]⟩,.int .i64 0,.int .i64 0,.string ⟨#[]⟩] 213)):=by show _=_;rw[jQf h0.o];rfl
 clear ht;go_wp2_with fail;refine(jQ2 bEq hI.o).mono ?_;rintro e w2 ⟨rfl,Hv,Hn⟩;have h5:Hid _:=Hv;have hQ:Hid _:=Tch.trans hL.o Hn;have h1:Hid _:=Hn.heap hw hG.o;clear Hv Hn a0 a1 a2 a3 a4 a5 a6 a7 a8 a9 b0 Hc;go_wp2_with fail;refine(jI4 h5.o).mono ?_;rintro e w3 ⟨rfl,hE,Ho⟩;obtain⟨f,hf⟩:∃t,t=jCk ws (jHg ws st):=⟨_,rfl⟩;rw[show jCk ws (aK ws (bO ws st) bEq)=f from hf.symm];have HF:Hid _:=hf;have hE:PS pb lv ws r w3 (jDo ws st):=hE;obtain⟨s3,Hl⟩:∃s,s=jDo ws st:=⟨_,rfl⟩;rw[<-Hl] at hE;have hx:Hid _:=Hl;have h6:Hid _:=hE;have hR:Hid _:=Tch.trans hQ.o Ho;have hU:=Ho.heap hw h1.o;obtain⟨⟨a0,a1,a2,a3,a4⟩,⟨a5,a6,a7,a8,a9⟩,fz,Hc⟩:=ten hU;have b1:=fz 1;have b2:=fz 2;have b3:=fz 3;have b4:=fz 4;have h2:Hid _:=hU;clear hf hE Ho hU fz Hl;obtain⟨V3,Hk⟩:∃V,V=(((w3.setCell ⟨w.heap.size,1,none⟩ (.string f.column)).setCell ⟨w.heap.size,2,none⟩ (.int .i64 f.lit.kind)).setCell ⟨w.heap.size,3,none⟩ (.int .i64 f.lit.number)).setCell ⟨w.heap.size,4,none⟩ (.string f.lit.text):=⟨_,rfl⟩;have hv:Below w.heap.size w3 V3:=by rw[Hk];exact cj (B:=w.heap.size) (cj (B:=w.heap.size) (cj (B:=w.heap.size) (cj (B:=w.heap.size) bR nR _) nR _) nR _) nR _
 have hJ:Hid _:=H.o.bC h6.o hv;have hN:Hid (Tch pb w V3):=Tch.then hR.o hv;have hH:Hid (V3.heap[w.heap.size]?=some (.cells #[.string c,.string f.column,.int .i64 f.lit.kind,.int .i64 f.lit.number,.string f.lit.text,.string ⟨#[]⟩,.string ⟨#[]⟩,.int .i64 0,.int .i64 0,.string ⟨#[]⟩] 213)):=by show _=_;rw[Hk,jQf (jQf (jQf (jQf h2.o _) _) _) _];rfl
 have h8:Hid _:=Hk;clear hv Hk;go_wp2_with fail;rw[<-h8.o];refine(jQL jDx hJ.o).mono ?_;rintro e w4 ⟨rfl,Hh,Hp⟩;have hz:Hid _:=Tch.trans hN.o Hp;have hF:=Hp.heap hw hH.o;clear Hp a0 a1 a2 a3 a4 a5 a6 a7 a8 a9 b1 b2 b3 b4 Hc;cases hP:aU ws s3 jDx
 case true =>
  have hj:=jQ9 hP;rw[jQO hP] at Hh;have hK:Hid _:=Hh;have hS:Hid _:=hz.o;have hs:=hF;clear Hh hF;obtain⟨⟨a0,a1,a2,a3,a4⟩,⟨a5,a6,a7,a8,a9⟩,fz,Hc⟩:=ten hs;have b5:=fz 5;have ha:Below w.heap.size w4 (w4.setCell ⟨w.heap.size,5,none⟩ (.string jDx)):=cj (B:=w.heap.size) bR nR _;have hm:Hid _:=H.o.bC hK.o ha;have ho:Hid (Tch pb w (w4.setCell ⟨w.heap.size,5,none⟩ (.string jDx))):=Tch.then hS.o ha;have hl:Hid ((w4.setCell ⟨w.heap.size,5,none⟩ (.string jDx)).heap[w.heap.size]?=some (.cells #[.string c,.string f.column,.int .i64 f.lit.kind,.int .i64 f.lit.number,.string f.lit.text,.string jDx,.string ⟨#[]⟩,.int .i64 0,.int .i64 0,.string ⟨#[]⟩] 213)):=by show _=_;rw[jQf hs];rfl
  clear ha hs fz;go_wp2_with fail;refine(jI4 hm.o).mono ?_;rintro e w6 ⟨rfl,Hf,Hg⟩;obtain⟨q,hq⟩:∃t,t=jCk ws (Sq.step1 s3):=⟨_,rfl⟩;rw[<-hq];obtain⟨s6,Hd⟩:∃s,s=jBM ws (Sq.step1 s3):=⟨_,rfl⟩;rw[<-Hd] at Hf;have hp:Hid _:=Tch.trans ho.o Hg;have hr:=Hg.heap hw hl.o;have hZ:s6.ak.length<=5000:=by rw[Hd,jHs];show s3.ak.length<=_;rw[hx.o];unfold jDo jHg;rw[jHs,jID,jJZ];exact hn
  have HS:Hid (jDj ws st=Sq.jEw s6 ⟨c,f,jDx,q⟩):=by
   show _=_;unfold jDj jFk jGa jDJ jFP;rw[<-hx.o,hP,Hd,hq,HC.o,HF.o];rfl
  clear Hg hq Hd a0 a1 a2 a3 a4 a5 a6 a7 a8 a9 b5 Hc;obtain⟨⟨a0,a1,a2,a3,a4⟩,⟨a5,a6,a7,a8,a9⟩,fz,Hc⟩:=ten hr;have b6:=fz 6;have b7:=fz 7;have b8:=fz 8;have b9:=fz 9;obtain⟨V,hV⟩:∃V,V=(((w6.setCell ⟨w.heap.size,6,none⟩ (.string q.column)).setCell ⟨w.heap.size,7,none⟩ (.int .i64 q.lit.kind)).setCell ⟨w.heap.size,8,none⟩ (.int .i64 q.lit.number)).setCell ⟨w.heap.size,9,none⟩ (.string q.lit.text):=⟨_,rfl⟩;have he:Below w.heap.size w6 V:=by rw[hV];exact cj (B:=w.heap.size) (cj (B:=w.heap.size) (cj (B:=w.heap.size) (cj (B:=w.heap.size) bR nR _) nR _) nR _) nR _
  have hg:=H.o.bC Hf he;have hy:Hid (Below pb w V):=Tch.below (Tch.then hp.o he) nR (cQ hX);have hh:V.heap[w.heap.size]?=some (.cells #[.string c,.string f.column,.int .i64 f.lit.kind,.int .i64 f.lit.number,.string f.lit.text,.string jDx,.string q.column,.int .i64 q.lit.kind,.int .i64 q.lit.number,.string q.lit.text] 213):=by rw[hV,jQf (jQf (jQf (jQf hr _) _) _) _];rfl
  have HV:Hid _:=hV;clear he hV Hf hr fz;go_wp2_with fail;rw[<-HV.o];clear a0 a1 a2 a3 a4 a5 a6 a7 a8 a9 b6 b7 b8 b9 Hc;have hD:=hg.lt;have c7:=hg.cell 7 _ rfl;have hW:Below V.heap.size V (V.alloc (.cells #[.string c,.string f.column,.int .i64 f.lit.kind,.int .i64 f.lit.number,.string f.lit.text,.string jDx,.string q.column,.int .i64 q.lit.kind,.int .i64 q.lit.number,.string q.lit.text] 213)).drew:=(bA).drew;have hj:=hg.below hW;have HP:Hid _:=hj;have HW:Hid _:=hW;clear hj hW hg;obtain⟨⟨a0,a1,a2,a3,a4⟩,⟨a5,a6,a7,a8,a9⟩,fz,Hc⟩:=ten hh;have hY:Hid _:=hh;clear hh fz;go_wp2_with fail
  go_region_law (first
   | (refine dV _ rfl (.tmp 28) (.tmp 30) 114 rfl (pb+1) 213 i0 _ 10 128 Tryz.underlying114 hi Hr Hs Ht rfl (by decide) r.sv s6.ak.length (s6.ak.flatMap bE.cells) (by simp[Act.eval,Act.put]) HP.o.ak ⟨V.heap.size,0,none⟩ 1 1 [.string c,.string f.column,.int .i64 f.lit.kind,.int .i64 f.lit.number,.string f.lit.text,.string jDx,.string q.column,.int .i64 q.lit.kind,.int .i64 q.lit.number,.string q.lit.text] (by simp[Act.eval,Act.put]) rfl (by exact jQN V _ _ _ rfl rfl) (by intro u hu;simp at hu;rcases hu with rfl | rfl | rfl | rfl | rfl | rfl | rfl | rfl | rfl | rfl<;>rfl) (by decide) (by unfold maxLen;omega) (by omega) (by simp;omega) _ rfl ?_;intro g cap w9 Hb Ha Hi Hj;have hb:=(HP.o.jBe HP.o.ak (by decide) Ha).trans HP.o.blk;have Hw:w9.cell? ⟨pb,7,none⟩=some r.sv:=(by rw[jQb hb];rfl);have f10:=jQd hb 7;have hC:=jQe hb;have HO:Hid _:=Hb;have HG:Hid _:=Ha;clear Hb Ha Hi hb))
  all_goals
   go_end0;refine⟨rfl,⟨_,by rw[HS.o];exact HP.o.jGp ⟨c,f,jDx,q⟩ HO.o HG.o⟩,?_⟩;refine hy.o.trans ?_;refine cj (B:=pb) (ed (cS (B':=pb) HW.o (by omega)) (Tch.aO HG.o (fun k hk=>?_) (by simp;omega))) nR _;exact dC (HP.o.ak.lt k hk).1
 case false =>
  rw[jQW hP] at Hh;have h7:Hid _:=Hh;have h3:Hid _:=hF;clear Hh hF;go_wp2_with fail;refine(jQL bu h7.o).mono ?_;rintro e w5 ⟨rfl,He,Hq⟩;have hA:Hid _:=Tch.trans hz.o Hq;have hB:=Hq.heap hw h3.o;clear Hq;cases hM:aU ws s3 bu
  case true =>
   have hj:=jQ9 hM;rw[jQO hM] at He;have hK:Hid _:=He;have hS:Hid _:=hA.o;have hs:=hB;clear He hB;obtain⟨⟨a0,a1,a2,a3,a4⟩,⟨a5,a6,a7,a8,a9⟩,fz,Hc⟩:=ten hs;have b5:=fz 5;have ha:Below w.heap.size w5 (w5.setCell ⟨w.heap.size,5,none⟩ (.string bu)):=cj (B:=w.heap.size) bR nR _;have hm:Hid _:=H.o.bC hK.o ha;have ho:Hid (Tch pb w (w5.setCell ⟨w.heap.size,5,none⟩ (.string bu))):=Tch.then hS.o ha;have hl:Hid ((w5.setCell ⟨w.heap.size,5,none⟩ (.string bu)).heap[w.heap.size]?=some (.cells #[.string c,.string f.column,.int .i64 f.lit.kind,.int .i64 f.lit.number,.string f.lit.text,.string bu,.string ⟨#[]⟩,.int .i64 0,.int .i64 0,.string ⟨#[]⟩] 213)):=by show _=_;rw[jQf hs];rfl
   clear ha hs fz;go_wp2_with fail;refine(jI4 hm.o).mono ?_;rintro e w6 ⟨rfl,Hf,Hg⟩;obtain⟨q,hq⟩:∃t,t=jCk ws (Sq.step1 s3):=⟨_,rfl⟩;rw[<-hq];obtain⟨s6,Hd⟩:∃s,s=jBM ws (Sq.step1 s3):=⟨_,rfl⟩;rw[<-Hd] at Hf;have hp:Hid _:=Tch.trans ho.o Hg;have hr:=Hg.heap hw hl.o;have hZ:s6.ak.length<=5000:=by rw[Hd,jHs];show s3.ak.length<=_;rw[hx.o];unfold jDo jHg;rw[jHs,jID,jJZ];exact hn
   have HS:Hid (jDj ws st=Sq.jEw s6 ⟨c,f,bu,q⟩):=by
    show _=_;unfold jDj jFk jGa jDJ jFP;rw[<-hx.o,hP,hM,Hd,hq,HC.o,HF.o];rfl
   clear Hg hq Hd a0 a1 a2 a3 a4 a5 a6 a7 a8 a9 b5 Hc;obtain⟨⟨a0,a1,a2,a3,a4⟩,⟨a5,a6,a7,a8,a9⟩,fz,Hc⟩:=ten hr;have b6:=fz 6;have b7:=fz 7;have b8:=fz 8;have b9:=fz 9;obtain⟨V,hV⟩:∃V,V=(((w6.setCell ⟨w.heap.size,6,none⟩ (.string q.column)).setCell ⟨w.heap.size,7,none⟩ (.int .i64 q.lit.kind)).setCell ⟨w.heap.size,8,none⟩ (.int .i64 q.lit.number)).setCell ⟨w.heap.size,9,none⟩ (.string q.lit.text):=⟨_,rfl⟩;have he:Below w.heap.size w6 V:=by rw[hV];exact cj (B:=w.heap.size) (cj (B:=w.heap.size) (cj (B:=w.heap.size) (cj (B:=w.heap.size) bR nR _) nR _) nR _) nR _
   have hg:=H.o.bC Hf he;have hy:Hid (Below pb w V):=Tch.below (Tch.then hp.o he) nR (cQ hX);have hh:V.heap[w.heap.size]?=some (.cells #[.string c,.string f.column,.int .i64 f.lit.kind,.int .i64 f.lit.number,.string f.lit.text,.string bu,.string q.column,.int .i64 q.lit.kind,.int .i64 q.lit.number,.string q.lit.text] 213):=by rw[hV,jQf (jQf (jQf (jQf hr _) _) _) _];rfl
   have HV:Hid _:=hV;clear he hV Hf hr fz;go_wp2_with fail;rw[<-HV.o];clear a0 a1 a2 a3 a4 a5 a6 a7 a8 a9 b6 b7 b8 b9 Hc;have hD:=hg.lt;have c7:=hg.cell 7 _ rfl;have hW:Below V.heap.size V (V.alloc (.cells #[.string c,.string f.column,.int .i64 f.lit.kind,.int .i64 f.lit.number,.string f.lit.text,.string bu,.string q.column,.int .i64 q.lit.kind,.int .i64 q.lit.number,.string q.lit.text] 213)).drew:=(bA).drew;have hj:=hg.below hW;have HP:Hid _:=hj;have HW:Hid _:=hW;clear hj hW hg;obtain⟨⟨a0,a1,a2,a3,a4⟩,⟨a5,a6,a7,a8,a9⟩,fz,Hc⟩:=ten hh;have hY:Hid _:=hh;clear hh fz;go_wp2_with fail
   go_region_law (first
    | (refine dV _ rfl (.tmp 28) (.tmp 30) 114 rfl (pb+1) 213 i0 _ 10 128 Tryz.underlying114 hi Hr Hs Ht rfl (by decide) r.sv s6.ak.length (s6.ak.flatMap bE.cells) (by simp[Act.eval,Act.put]) HP.o.ak ⟨V.heap.size,0,none⟩ 1 1 [.string c,.string f.column,.int .i64 f.lit.kind,.int .i64 f.lit.number,.string f.lit.text,.string bu,.string q.column,.int .i64 q.lit.kind,.int .i64 q.lit.number,.string q.lit.text] (by simp[Act.eval,Act.put]) rfl (by exact jQN V _ _ _ rfl rfl) (by intro u hu;simp at hu;rcases hu with rfl | rfl | rfl | rfl | rfl | rfl | rfl | rfl | rfl | rfl<;>rfl) (by decide) (by unfold maxLen;omega) (by omega) (by simp;omega) _ rfl ?_;intro g cap w9 Hb Ha Hi Hj;have hb:=(HP.o.jBe HP.o.ak (by decide) Ha).trans HP.o.blk;have Hw:w9.cell? ⟨pb,7,none⟩=some r.sv:=(by rw[jQb hb];rfl);have f10:=jQd hb 7;have hC:=jQe hb;have HO:Hid _:=Hb;have HG:Hid _:=Ha;clear Hb Ha Hi hb))
   all_goals
    go_end0;refine⟨rfl,⟨_,by rw[HS.o];exact HP.o.jGp ⟨c,f,bu,q⟩ HO.o HG.o⟩,?_⟩;refine hy.o.trans ?_;refine cj (B:=pb) (ed (cS (B':=pb) HW.o (by omega)) (Tch.aO HG.o (fun k hk=>?_) (by simp;omega))) nR _;exact dC (HP.o.ak.lt k hk).1
  case false =>
   rw[jQW hM] at He;obtain⟨V,hV⟩:∃V,V=w5:=⟨_,rfl⟩;rw[<-hV] at He hB;have hg:=He;have hh:=hB;have hy:Hid (Below pb w V):=by rw[hV];exact Tch.below hA.o nR (cQ hX)
   have hZ:s3.ak.length<=5000:=by rw[hx.o];unfold jDo jHg;rw[jHs,jID,jJZ];exact hn
   have HS:Hid (jDj ws st=Sq.jEw s3 ⟨c,f,ar,jFN⟩):=by
    show _=_;unfold jDj jFk jGa jDJ jFP;rw[<-hx.o,hP,hM,HC.o,HF.o];rfl
   clear He hB;subst hV;have hD:=hg.lt;have c7:=hg.cell 7 _ rfl;have hW:Below V.heap.size V (V.alloc (.cells #[.string c,.string f.column,.int .i64 f.lit.kind,.int .i64 f.lit.number,.string f.lit.text,.string ⟨#[]⟩,.string ⟨#[]⟩,.int .i64 0,.int .i64 0,.string ⟨#[]⟩] 213)).drew:=(bA).drew;have hj:=hg.below hW;have HP:Hid _:=hj;have HW:Hid _:=hW;clear hj hW hg;obtain⟨⟨a0,a1,a2,a3,a4⟩,⟨a5,a6,a7,a8,a9⟩,fz,Hc⟩:=ten hh;have hY:Hid _:=hh;clear hh fz;go_wp2_with fail
   go_region_law (first
    | (refine dV _ rfl (.tmp 28) (.tmp 30) 114 rfl (pb+1) 213 i0 _ 10 128 Tryz.underlying114 hi Hr Hs Ht rfl (by decide) r.sv s3.ak.length (s3.ak.flatMap bE.cells) (by simp[Act.eval,Act.put]) HP.o.ak ⟨V.heap.size,0,none⟩ 1 1 [.string c,.string f.column,.int .i64 f.lit.kind,.int .i64 f.lit.number,.string f.lit.text,.string ⟨#[]⟩,.string ⟨#[]⟩,.int .i64 0,.int .i64 0,.string ⟨#[]⟩] (by simp[Act.eval,Act.put]) rfl (by exact jQN V _ _ _ rfl rfl) (by intro u hu;simp at hu;rcases hu with rfl | rfl | rfl | rfl | rfl | rfl | rfl | rfl | rfl | rfl<;>rfl) (by decide) (by unfold maxLen;omega) (by omega) (by simp;omega) _ rfl ?_;intro g cap w9 Hb Ha Hi Hj;have hb:=(HP.o.jBe HP.o.ak (by decide) Ha).trans HP.o.blk;have Hw:w9.cell? ⟨pb,7,none⟩=some r.sv:=(by rw[jQb hb];rfl);have f10:=jQd hb 7;have hC:=jQe hb;have HO:Hid _:=Hb;have HG:Hid _:=Ha;clear Hb Ha Hi hb))
   all_goals
    go_end0;refine⟨rfl,⟨_,by rw[HS.o];exact HP.o.jGp ⟨c,f,ar,jFN⟩ HO.o HG.o⟩,?_⟩;refine hy.o.trans ?_;refine cj (B:=pb) (ed (cS (B':=pb) HW.o (by omega)) (Tch.aO HG.o (fun k hk=>?_) (by simp;omega))) nR _;exact dC (HP.o.ak.lt k hk).1
theorem jZf {ws:List Sq.Word}{r:Rw}{st:PSt}(h:PS pb lv ws r w st)(hn:st.ax.length=0) :
  Calls Tryz.prog 140 #[.pointer (some ⟨pb,0,none⟩)] w fun e w'=>e=.returned (.tuple #[])/\(∃r',PS pb lv ws r' w' (jDf ws st))/\Below pb w w':=by
 have hO:=h.lt;have hQ:=h.small;have c3:=h.cell 3 (.int .i64 st.act) rfl;have f3:=h.frozen 3;have hh:Hid _:=h.bx 2;have ho:Hid (Below pb w (w.setCell ⟨pb,3,none⟩ (.int .i64 2))):=cj (B:=pb) bR nR _;clear h;go_enter Tryz.func140,Tryz.ntmps140;go_wp2_with fail;refine(jQ2 jGf hh.o).mono ?_;rintro e w2 ⟨rfl,hp,ht⟩;have hq:Hid (Below pb w w2):=ho.o.trans (Tch.below ht nR (cQ hh.o.lt));have hH:=hp.lt;have hi:Hid _:=hp;clear hp ht;go_wp2_with fail;refine(jF1 hi.o).mono ?_;rintro e w3 ⟨rfl,hp,ht⟩;have c4:=hp.cell 4 (.string _) rfl;have f4:=hp.frozen 4;have hI:=hp.lt;have hr:Hid (Below pb w (w3.setCell ⟨pb,4,none⟩ (.string (jAV ws (aK ws (Sq.bx st 2) jGf))))):=cj (B:=pb) (hq.o.trans (Tch.below ht nR (cQ hi.o.lt))) nR _;have hc:Hid (PS pb lv ws r (w3.setCell ⟨pb,4,none⟩ (.string (jAV ws (aK ws (Sq.bx st 2) jGf)))) (jAN ws (aK ws (Sq.bx st 2) jGf))):=hp.setTable (jAV ws (aK ws (Sq.bx st 2) jGf));clear hp ht;go_wp2_with fail;refine(jQ2 jGQ hc.o).mono ?_;rintro e w5 ⟨rfl,hp,ht⟩;have hs:Hid (Below pb w w5):=hr.o.trans (Tch.below ht nR (cQ hc.o.lt));have hJ:=hp.lt;have hj:Hid _:=hp;clear hp ht;go_wp2_with fail;refine(jQ2 jCN hj.o).mono ?_;rintro e w6 ⟨rfl,hp,ht⟩;have hu:Hid (Below pb w w6):=hs.o.trans (Tch.below ht nR (cQ hj.o.lt));have hK:=hp.lt;have hy:Hid _:=hp;clear hp ht;obtain⟨A0,hZ⟩:∃s,s=aK ws (aK ws (jAN ws (aK ws (Sq.bx st 2) jGf)) jGQ) jCN:=⟨_,rfl⟩;have hb:Hid _:=hZ;clear hZ;go_wp2_with fail;refine(jSB hy.o (by simp only[jRZ,jP6];show st.ax.length<=5000;omega)).mono ?_;rintro e w2 ⟨rfl,⟨r2,hT⟩,h0⟩;have hg:Hid (Below pb w w2):=hu.o.trans h0;have ha:=jR0 ws A0;have hf:(jBK ws A0).aq=st.aq:=by rw[jIE,hb.o];simp only[jQn,jQz];rfl
 have he:=hT.inside;rw[<-hb.o] at hT;obtain⟨s0,hX⟩:∃s,s=jBK ws A0:=⟨_,rfl⟩;rw[<-hX] at hT ha hf;have ha:s0.ax.length<=s0.pos+1:=by rw[ha,hb.o];simp only[jRZ,jP6];show st.ax.length+1<=_;omega
 have he:=hT.inside;have hk:Hid _:=hT;have hD:Hid _:=hX;clear hT h0 hX;go_wp2_with fail
 go_loopg [] (ws.length+1) (fun k wr=>∃(g:Nat) (sk:PSt) (rk:Rw),g=k/\PS pb lv ws rk wr sk/\sk.ax.length<=sk.pos+1/\sk.aq=st.aq/\ws.length-sk.pos+1<=g/\Below pb w wr/\Hid (Sq.bp ws (jBK ws) (ws.length+1) s0=Sq.bp ws (jBK ws) g sk))
 case atStart=>exact⟨ws.length+1,s0,r2,rfl,hk.o,ha,hf,by omega,hg.o,rfl⟩
 case round =>
  obtain⟨g,sk,rk,rfl,hW,h5,h3,h4,hU,hV⟩:=hrel;have hA:Hid _:=hW;have hL:=hW.lt;have hG:=hW.inside;have hE:Hid _:=h3;clear hW h3 hk hg ha hf;go_wp2_with fail;refine(jQL jEy hA.o).mono ?_;rintro e wa ⟨rfl,hS,hY⟩;have hR:=hY.size;have hl:Hid _:=hY;clear hY;cases hB:aU ws sk jEy
  case true =>
   have hP:=jQ9 hB;obtain⟨g,rfl⟩:∃g',g=g'+1:=⟨g-1,by omega⟩;rw[jQO hB] at hS;have HE:Hid (Sq.bp ws (jBK ws) (ws.length+1) s0=Sq.bp ws (jBK ws) g (jBK ws (Sq.step1 sk))):=by show _=_;rw[hV.o,Sq.bp,cE hB]
   have hx:Hid _:=hS;clear hS hB hV;go_wp2_with fail;refine(jSB hx.o (by show sk.ax.length<=5000;omega)).mono ?_;rintro e w4 ⟨rfl,⟨r4,h2⟩,h1⟩;have hc:Hid _:=h2;clear h2;have hF:Below pb w w4:=hU.trans ((Tch.below hl.o nR (by omega)).trans h1);have hm:=jR0 ws (Sq.step1 sk);have hN:sk.pos+1<=(jBK ws (Sq.step1 sk)).pos:=Sq.jXB ws (Sq.step1 sk);have HL:Hid _:=hm;clear hU h1 hm;go_wp2;go_roundg g
   case measure=>omega
   case rel=>exact⟨g,_,r4,rfl,hc.o,by rw[HL.o];show sk.ax.length+1<=_;omega,by rw[jIE];exact hE.o,by omega,hF,HE⟩
  case false =>
   rw[jQW hB] at hS
   have HE:Hid (Sq.bp ws (jBK ws) (ws.length+1) s0=sk):=by
    show _=_;rw[hV.o];obtain⟨g,rfl⟩:∃g',g=g'+1:=⟨g-1,by omega⟩;rw[Sq.bp,cy (by simp[hB])]
   have hC:Hid _:=hS;have hw:Hid (Below pb w wa):=hU.trans (Tch.below hl.o nR (by omega));have hM:=hS.lt;clear hS hB hV hU;go_wp2_with fail;refine(jQ2 jBO hC.o).mono ?_;rintro e wz ⟨rfl,hp,ht⟩;have hz:Hid _:=hp;have hv:Hid (Below pb w wz):=hw.o.trans (Tch.below ht nR (by omega));clear hp ht;go_wp2;go_end0;refine⟨rfl,⟨rk,?_⟩,hv.o⟩;have e1:jDf ws st=aK ws (Sq.bp ws (jBK ws) (ws.length+1) s0) jBO:=by rw[hD.o,hb.o];rfl
   rw[e1,HE.o];exact hz.o
theorem jXC {ws:List Sq.Word}{r:Rw}{st:PSt}(h:PS pb lv ws r w st)(hn:st.ak.length=0)(hq:st.aq=[]) :
  Calls Tryz.prog 141 #[.pointer (some ⟨pb,0,none⟩)] w fun e w'=>e=.returned (.tuple #[])/\(∃r',PS pb lv ws r' w' (jDI ws st))/\Below pb w w':=by
 have hJ:=h.lt;have hL:=h.small;have c3:=h.cell 3 (.int .i64 st.act) rfl;have f3:=h.frozen 3;have hj:Hid _:=h.bx 3;have hr:Hid (Below pb w (w.setCell ⟨pb,3,none⟩ (.int .i64 3))):=cj (B:=pb) bR nR _;clear h;go_enter Tryz.func141,Tryz.ntmps141;go_wp2_with fail;refine(jF1 hj.o).mono ?_;rintro e w2 ⟨rfl,hp,ht⟩;have c4:=hp.cell 4 (.string _) rfl;have f4:=hp.frozen 4;have hE:=hp.lt;have hs:Hid (Below pb w (w2.setCell ⟨pb,4,none⟩ (.string (jAV ws (Sq.bx st 3))))):=cj (B:=pb) (hr.o.trans (Tch.below ht nR (cQ hj.o.lt))) nR _;have he:Hid (PS pb lv ws r (w2.setCell ⟨pb,4,none⟩ (.string (jAV ws (Sq.bx st 3)))) (jAN ws (Sq.bx st 3))):=hp.setTable (jAV ws (Sq.bx st 3));clear hp ht;go_wp2_with fail;refine(jQ2 jMq he.o).mono ?_;rintro e w4 ⟨rfl,hp,ht⟩;have hu:Hid (Below pb w w4):=hs.o.trans (Tch.below ht nR (cQ he.o.lt));have hF:=hp.lt;have hf:Hid _:=hp;clear hp ht;obtain⟨A0,hU⟩:∃s,s=aK ws (jAN ws (Sq.bx st 3)) jMq:=⟨_,rfl⟩;have hc:Hid _:=hU;clear hU;go_wp2_with fail;refine(jO5 hf.o (by simp only[jID,jP7];show st.ak.length<=5000;omega)).mono ?_;rintro e w2 ⟨rfl,⟨r2,hO⟩,hV⟩;have hi:Hid (Below pb w w2):=hu.o.trans hV;have ha:=jUy ws A0;have hh:(jDj ws A0).aq=st.aq:=by rw[jI8,hc.o];simp only[jQn,jQz];rfl
 have hg:=hO.inside;rw[<-hc.o] at hO;obtain⟨s0,hS⟩:∃s,s=jDj ws A0:=⟨_,rfl⟩;rw[<-hS] at hO ha hh;have ha:s0.ak.length<=s0.pos+1:=by rw[ha,hc.o];simp only[jID,jP7];show st.ak.length+1<=_;omega
 have hg:=hO.inside;have hk:Hid _:=hO;have hA:Hid _:=hS;clear hO hV hS;go_wp2_with fail
 go_loopg [] (ws.length+1) (fun k wr=>∃(g:Nat) (sk:PSt) (rk:Rw),g=k/\PS pb lv ws rk wr sk/\sk.ak.length<=sk.pos+1/\sk.aq=st.aq/\ws.length-sk.pos+1<=g/\Below pb w wr/\Hid (Sq.bp ws (jDj ws) (ws.length+1) s0=Sq.bp ws (jDj ws) g sk))
 case atStart=>exact⟨ws.length+1,s0,r2,rfl,hk.o,ha,hh,by omega,hi.o,rfl⟩
 case round =>
  obtain⟨g,sk,rk,rfl,hR,h0,hY,hZ,hP,hQ⟩:=hrel;have hy:Hid _:=hR;have hG:=hR.lt;have hD:=hR.inside;have hm:Hid _:=hY;clear hR hY hk hi ha hh;go_wp2_with fail;refine(jQL jEy hy.o).mono ?_;rintro e wa ⟨rfl,hN,hT⟩;have hM:=hT.size;have hl:Hid _:=hT;clear hT;cases hB:aU ws sk jEy
  case true =>
   have hK:=jQ9 hB;obtain⟨g,rfl⟩:∃g',g=g'+1:=⟨g-1,by omega⟩;rw[jQO hB] at hN;have HE:Hid (Sq.bp ws (jDj ws) (ws.length+1) s0=Sq.bp ws (jDj ws) g (jDj ws (Sq.step1 sk))):=by show _=_;rw[hQ.o,Sq.bp,cE hB]
   have he:Hid _:=hN;clear hN hB hQ;go_wp2_with fail;refine(jO5 he.o (by show sk.ak.length<=5000;omega)).mono ?_;rintro e w4 ⟨rfl,⟨r4,hX⟩,hW⟩;have hf:Hid _:=hX;clear hX;have hC:Below pb w w4:=hP.trans ((Tch.below hl.o nR (by omega)).trans hW);have ho:=jUy ws (Sq.step1 sk);have hI:sk.pos+1<=(jDj ws (Sq.step1 sk)).pos:=Sq.qBU ws (Sq.step1 sk);have HL:Hid _:=ho;clear hP hW ho;go_wp2;go_roundg g
   case measure=>omega
   case rel=>exact⟨g,_,r4,rfl,hf.o,by rw[HL.o];show sk.ak.length+1<=_;omega,by rw[jI8];exact hm.o,by omega,hC,HE⟩
  case false =>
   rw[jQW hB] at hN
   have HE:Hid (Sq.bp ws (jDj ws) (ws.length+1) s0=sk):=by
    show _=_;rw[hQ.o];obtain⟨g,rfl⟩:∃g',g=g'+1:=⟨g-1,by omega⟩;rw[Sq.bp,cy (by simp[hB])]
   have hz:Hid _:=hN;have hw:Hid (Below pb w wa):=hP.trans (Tch.below hl.o nR (by omega));have hH:=hN.lt;clear hN hB hQ hP;go_wp2_with fail;refine(jIV hz.o (by rw[hm.o,hq];exact zR)).mono ?_;rintro e wz ⟨rfl,⟨rz,hp⟩,hb⟩;have hx:Hid _:=hp;have hv:Hid (Below pb w wz):=hw.o.trans hb;clear hp hb;go_wp2;go_end0;refine⟨rfl,⟨rz,?_⟩,hv.o⟩;have e1:jDI ws st=jBS ws (Sq.bp ws (jDj ws) (ws.length+1) s0):=by rw[hA.o,hc.o];rfl
   rw[e1,HE.o];exact hx.o
theorem jZP {ws:List Sq.Word}{r:Rw}{st:PSt}(h:PS pb lv ws r w st)(hq:st.aq=[]) :
  Calls Tryz.prog 142 #[.pointer (some ⟨pb,0,none⟩)] w fun e w'=>e=.returned (.tuple #[])/\(∃r',PS pb lv ws r' w' (jD3 ws st))/\Below pb w w':=by
 have hm:=h.lt;have hn:=h.small;have c3:=h.cell 3 (.int .i64 st.act) rfl;have f3:=h.frozen 3;have ha:Hid _:=h.bx 4;have he:Hid (Below pb w (w.setCell ⟨pb,3,none⟩ (.int .i64 4))):=cj (B:=pb) bR nR _;clear h;go_enter Tryz.func142,Tryz.ntmps142;go_wp2_with fail;refine(jQ2 jBy ha.o).mono ?_;rintro e w2 ⟨rfl,hp,ht⟩;have hf:Hid (Below pb w w2):=he.o.trans (Tch.below ht nR (cQ ha.o.lt));have hk:=hp.lt;have hc:Hid _:=hp;clear hp ht;go_wp2_with fail;refine(jF1 hc.o).mono ?_;rintro e w3 ⟨rfl,hp,ht⟩;have c4:=hp.cell 4 (.string _) rfl;have f4:=hp.frozen 4;have hl:=hp.lt;have hg:Hid (Below pb w (w3.setCell ⟨pb,4,none⟩ (.string (jAV ws (aK ws (Sq.bx st 4) jBy))))):=cj (B:=pb) (hf.o.trans (Tch.below ht nR (cQ hc.o.lt))) nR _;have hi:Hid (PS pb lv ws r (w3.setCell ⟨pb,4,none⟩ (.string (jAV ws (aK ws (Sq.bx st 4) jBy)))) (jAN ws (aK ws (Sq.bx st 4) jBy))):=hp.setTable (jAV ws (aK ws (Sq.bx st 4) jBy));clear hp ht;go_wp2_with fail;refine(jIV hi.o (by show(jAN ws (aK ws (Sq.bx st 4) jBy)).aq.length<=_;rw[jQz,jQn];show st.aq.length<=_;rw[hq];exact zR)).mono ?_;rintro e wz ⟨rfl,⟨rz,hp⟩,hb⟩;have hj:Hid _:=hp;have hh:Hid (Below pb w wz):=hg.o.trans hb;clear hp hb;go_wp2;go_end0;exact⟨rfl,⟨rz,hj.o⟩,hh.o⟩
theorem jZS {ws:List Sq.Word}{r:Rw}{st:PSt}(h:PS pb lv ws r w st)(hn:st.cols.length=0) :
  Calls Tryz.prog 139 #[.pointer (some ⟨pb,0,none⟩)] w fun e w'=>e=.returned (.tuple #[])/\(∃r',PS pb lv ws r' w' (jDc ws st))/\Below pb w w':=by
 obtain⟨i0,hi,Hu,Hv,Hw⟩:=cV Tryz.jKy;have h9:=h.lt;have Hb:=h.small;have c3:=h.cell 3 (.int .i64 st.act) rfl;have f3:=h.frozen 3;have hj:Hid _:=h.bx 1;have hy:Hid (Below pb w (w.setCell ⟨pb,3,none⟩ (.int .i64 1))):=cj (B:=pb) bR nR _;clear h;go_enter Tryz.func139,Tryz.ntmps139;go_wp2_with fail;refine(jQ2 jEi hj.o).mono ?_;rintro e w2 ⟨rfl,hp,ht⟩;have hz:Hid (Below pb w w2):=hy.o.trans (Tch.below ht nR (cQ hj.o.lt));have hZ:=hp.lt;have hl:Hid _:=hp;clear hp ht c3 f3;go_wp2_with fail;refine(jF1 hl.o).mono ?_;rintro e w3 ⟨rfl,hp,ht⟩;have c4:=hp.cell 4 (.string _) rfl;have f4:=hp.frozen 4;have h0:=hp.lt;have hA:Hid (Below pb w (w3.setCell ⟨pb,4,none⟩ (.string (jAV ws (aK ws (Sq.bx st 1) jEi))))):=cj (B:=pb) (hz.o.trans (Tch.below ht nR (cQ hl.o.lt))) nR _;have hm:Hid (PS pb lv ws r (w3.setCell ⟨pb,4,none⟩ (.string (jAV ws (aK ws (Sq.bx st 1) jEi)))) (jAN ws (aK ws (Sq.bx st 1) jEi))):=hp.setTable _;clear hp ht;go_wp2_with fail;refine(jQ2 jCN hm.o).mono ?_;rintro e w5 ⟨rfl,hp,ht⟩;have hC:Hid (Below pb w w5):=hA.o.trans (Tch.below ht nR (cQ hm.o.lt));obtain⟨A0,Hm⟩:∃s,s=aK ws (jAN ws (aK ws (Sq.bx st 1) jEi)) jCN:=⟨_,rfl⟩;rw[<-Hm] at hp;have hg:Hid _:=Hm;have ho:Hid _:=hp;clear hp ht c4 f4 Hm;go_wp2_with fail;refine(jF1 ho.o).mono ?_;rintro e w6 ⟨rfl,hp,ht⟩;obtain⟨k0,Hp⟩:∃s,s=jAV ws A0:=⟨_,rfl⟩;rw[<-Hp];have hI:Hid _:=Hp;have hD:Hid (Below pb w w6):=hC.o.trans (Tch.below ht nR (cQ ho.o.lt));have hq:Hid _:=hp;clear hp ht Hp;go_wp2_with fail;refine(jQ2 jIx hq.o).mono ?_;rintro e w7 ⟨rfl,hp,ht⟩;have hE:Hid (Below pb w w7):=hD.o.trans (Tch.below ht nR (cQ hq.o.lt));obtain⟨A1,Hh⟩:∃s,s=aK ws (bO ws A0) jIx:=⟨_,rfl⟩
 rw[<-Hh] at hp;have hs:Hid (A1.cols.length=0):=by show _=_;rw[Hh,hg.o];simp only[Sq.jIX,jJ0,Sq.jMC];exact hn
 have hU:A1.cols.length<=5000:=by rw[hs.o];omega
 have hx:Hid _:=Hh;have h1:=hp.lt;have c5:=hp.cell 5 r.cv rfl;have hW:Below w7.heap.size w7 (w7.alloc (.cells #[.string k0,.int .i64 0] 205)):=bA;have ha:Hid _:=hp.below hW;have HW:Hid _:=hW;clear hp ht Hh hW;go_wp2_with (first | (at_builtin;refine cT _ rfl (.tmp 28) (.tmp 31) 92 rfl (pb+1) 205 i0 _ 2 24 Tryz.underlying92 hi Hu Hv Hw rfl (by decide) r.cv A1.cols.length (A1.cols.flatMap Col.cells) rfl ha.o.cols ⟨w7.heap.size,0,none⟩ 1 1 [.string k0,.int .i64 0] rfl rfl (by exact jQN w7 _ _ _ rfl rfl) (by intro u hu;simp at hu;rcases hu with rfl | rfl<;>rfl) (by decide) (by unfold maxLen;omega) (by omega) (by simp;omega) _ rfl ?_;intro g cap w8 He Hd Hn Hq;have hb:=(ha.o.jBe ha.o.cols (by decide) Hd).trans ha.o.blk;have Hx:w8.cell? ⟨pb,5,none⟩=some r.cv:=(by rw[jQb hb];rfl);have f10:=jQd hb 5;have hf:=jQe hb;have HO:Hid _:=He;have HG:Hid _:=Hd;clear He Hd Hn hb) | fail);have hc:=ha.o.jHk ⟨k0,0⟩ HO.o HG.o
 have hh:Hid (Below pb w (w8.setCell ⟨pb,5,none⟩ (.slice (some ⟨g,0,none⟩) (A1.cols.length+1) cap))):=by
  refine hE.o.trans ?_;refine cj (B:=pb) (ed (cS (B':=pb) HW.o (by omega)) (Tch.aO HG.o (fun k hk=>?_) (by simp;omega))) nR _;exact dC (ha.o.cols.lt k hk).1
 obtain⟨s0,Hl⟩:∃s,s=Sq.jDM A1 ⟨k0,0⟩:=⟨_,rfl⟩;rw[<-Hl] at hc;have hV:=hc.inside;have hw:s0.cols.length<=s0.pos+1:=by rw[Hl];show(A1.cols++[_]).length<=_;rw[cg,hs.o];simp
 have he:Hid _:=hc;have hP:Hid (jDc ws st=aK ws (Sq.bp ws (jFm ws) (ws.length+1) s0) jBO):=by show _=_;rw[Hl,hx.o,hI.o,hg.o];rfl
 obtain⟨rL,Ht⟩:∃x:Rw,x={ r with cv:=.slice (some ⟨g,0,none⟩) (A1.cols.length+1) cap }:=⟨_,rfl⟩;rw[<-Ht] at hc;have he:Hid _:=hc;clear hc Hl Ht HO HG Hx f10 c5 ha HW
 go_loopg [] (ws.length+1) (fun k wr=>∃(g:Nat) (sk:PSt) (rk:Rw),g=k/\PS pb lv ws rk wr sk/\sk.cols.length<=sk.pos+1/\ws.length-sk.pos+1<=g/\Below pb w wr/\Hid (Sq.bp ws (jFm ws) (ws.length+1) s0=Sq.bp ws (jFm ws) g sk))
 case atStart=>exact⟨ws.length+1,s0,rL,rfl,he.o,hw,by omega,hh.o,rfl⟩
 case round =>
  obtain⟨g,sk,rk,rfl,Hk,Hz,Hy,Ho,Hi⟩:=hrel;have hM:Hid _:=Hk;have h4:=Hk.lt;have hY:=Hk.inside;clear Hk he hh hw;go_wp2_with fail;refine(jQL jEy hM.o).mono ?_;rintro e wa ⟨rfl,Hf,Hs⟩;have Hc:=Hs.size;have hr:Hid _:=Hs;clear Hs;cases hB:aU ws sk jEy
  case true =>
   have Ha:=jQ9 hB;obtain⟨g,rfl⟩:∃g',g=g'+1:=⟨g-1,by omega⟩;rw[jQO hB] at Hf;have HE:Hid (Sq.bp ws (jFm ws) (ws.length+1) s0=Sq.bp ws (jFm ws) g (jFm ws (Sq.step1 sk))):=by show _=_;rw[Hi.o,Sq.bp,cE hB]
   have hK:Hid _:=Hf;have h2:=Hf.lt;clear Hf hB Hi;go_wp2_with fail;refine(jF1 hK.o).mono ?_;rintro e wb ⟨rfl,hp,ht⟩;obtain⟨nm,Hr⟩:∃s,s=jAV ws (Sq.step1 sk):=⟨_,rfl⟩;rw[<-Hr];have hJ:Hid _:=Hr;have hR:Hid _:=Tch.trans hr.o ht;have hO:Hid _:=hp;clear hp ht Hr;go_wp2_with fail;refine(qCg hO.o).mono ?_;rintro e wc ⟨rfl,hp,ht⟩;obtain⟨kd,Hj⟩:∃s,s=Sq.jFg ws (bO ws (Sq.step1 sk)):=⟨_,rfl⟩;rw[<-Hj];have h6:Hid _:=Hj;have hS:Hid _:=Tch.trans hR.o ht;obtain⟨sc,Hg⟩:∃s,s=Sq.jCS ws (bO ws (Sq.step1 sk)):=⟨_,rfl⟩;rw[<-Hg] at hp;have hv:sc.cols.length=sk.cols.length:=by rw[Hg,Sq.jRy,jJ0];rfl
   have h8:sk.pos+1<=sc.pos:=by rw[Hg];exact cm (jNx ws (Sq.step1 sk)) (Sq.qAi ws _)
   have hQ:Hid (jFm ws (Sq.step1 sk)=Sq.jDM sc ⟨nm,kd⟩):=by show _=_;rw[Hg,hJ.o,Hj];rfl
   have h3:=hp.lt;have hX:=hp.inside;have c5:=hp.cell 5 rk.cv rfl;have hW:Below wc.heap.size wc (wc.alloc (.cells #[.string nm,.int .i64 kd] 205)):=bA;have ha:Hid _:=hp.below hW;have HW:Hid _:=hW;have h7:sc.cols.length<=5000:=by omega
   have hH:Hid _:=hv;clear hp ht Hj Hg hW hv;go_wp2_with (first | (at_builtin;refine cT _ rfl (.tmp 47) (.tmp 51) 92 rfl (pb+1) 205 i0 _ 2 24 Tryz.underlying92 hi Hu Hv Hw rfl (by decide) rk.cv sc.cols.length (sc.cols.flatMap Col.cells) rfl ha.o.cols ⟨wc.heap.size,0,none⟩ 1 1 [.string nm,.int .i64 kd] rfl rfl (by exact jQN wc _ _ _ rfl rfl) (by intro u hu;simp at hu;rcases hu with rfl | rfl<;>rfl) (by decide) (by unfold maxLen;omega) (by omega) (by simp;omega) _ rfl ?_;intro gg cap wd He Hd Hn Hq;have hb:=(ha.o.jBe ha.o.cols (by decide) Hd).trans ha.o.blk;have Hx:wd.cell? ⟨pb,5,none⟩=some rk.cv:=(by rw[jQb hb];rfl);have f10:=jQd hb 5;have hf:=jQe hb;have HO:Hid _:=He;have HG:Hid _:=Hd;clear He Hd Hn hb) | fail);have hc:=ha.o.jHk ⟨nm,kd⟩ HO.o HG.o
   have hT:Below pb w (wd.setCell ⟨pb,5,none⟩ (.slice (some ⟨gg,0,none⟩) (sc.cols.length+1) cap)):=by
    refine Ho.trans ((Tch.below hS.o nR (by omega)).trans ?_);refine cj (B:=pb) (ed (cS (B':=pb) HW.o (by omega)) (Tch.aO HG.o (fun k hk=>?_) (by simp;omega))) nR _;exact dC (ha.o.cols.lt k hk).1
   go_roundg g
   case measure=>omega
   case rel=>exact⟨g,_,_,rfl,hc,by show(sc.cols++[_]).length<=sc.pos+1;rw[cg,hH.o];simp;omega,by show ws.length-sc.pos+1<=g;omega,hT,by show _=_;rw[HE.o,hQ.o]⟩
  case false =>
   rw[jQW hB] at Hf
   have HE:Hid (Sq.bp ws (jFm ws) (ws.length+1) s0=sk):=by
    show _=_;rw[Hi.o];obtain⟨g,rfl⟩:∃g',g=g'+1:=⟨g-1,by omega⟩;rw[Sq.bp,cy (by simp[hB])]
   have hN:Hid _:=Hf;have hG:Hid (Below pb w wa):=Ho.trans (Tch.below hr.o nR (by omega));have h5:=Hf.lt;clear Hf hB Hi Ho;go_wp2_with fail;refine(jQ2 jBO hN.o).mono ?_;rintro e wz ⟨rfl,hp,ht⟩;have hL:Hid _:=hp;have hF:Hid (Below pb w wz):=hG.o.trans (Tch.below ht nR (by omega));clear hp ht;go_wp2;go_end0;refine⟨rfl,⟨rk,?_⟩,hF.o⟩;rw[hP.o,HE.o];exact hL.o
theorem jZZ {ws:List Sq.Word}{r:Rw}{st:PSt}(h:PS pb lv ws r w st)(hn:st.items.length=0)(hq:st.aq=[]) :
  Calls Tryz.prog 143 #[.pointer (some ⟨pb,0,none⟩)] w fun e w'=>e=.returned (.tuple #[])/\(∃r',PS pb lv ws r' w' (jBz ws st))/\Below pb w w':=by
 have hL:=h.lt;have hN:=h.small;have c3:=h.cell 3 (.int .i64 st.act) rfl;have f3:=h.frozen 3;have HQ:Hid _:=hq;have HN:Hid _:=hn;have hs:=h.bx 5;obtain⟨s0,hR⟩:∃s,s=Sq.bx st 5:=⟨_,rfl⟩;rw[<-hR] at hs;have hr:Hid (s0.aq=[]):=by show _=_;rw[hR];exact hq
 have hE:Hid (s0.items.length=0):=by show _=_;rw[hR];exact hn
 have ho:Hid _:=hR;have hx:Hid _:=hs;have hF:Hid (Below pb w (w.setCell ⟨pb,3,none⟩ (.int .i64 5))):=cj (B:=pb) bR nR _;clear h hq hn hR hs;go_enter Tryz.func143,Tryz.ntmps143;go_wp2_with fail;refine(jQL jJw hx.o).mono ?_;rintro e w2 ⟨rfl,hO,ht⟩;have hu:Hid (Below pb w w2):=hF.o.trans (Tch.below ht nR (cQ hx.o.lt));clear ht c3 f3;cases hA:aU ws s0 jJw
 case true =>
  rw[jQO hA] at hO;have c8:=hO.cell 8 (.int .i64 _) rfl;have f8:=hO.frozen 8;have hm:=hO.lt;have hc:Hid _:=hO.jAp 1;have hh:Hid (Below pb w (w2.setCell ⟨pb,8,none⟩ (.int .i64 1))):=cj (B:=pb) hu.o nR _;clear hO;have hi:Hid (jBp ws (Sq.bx st 5)=Sq.jAp (Sq.step1 s0) 1):=by show _=_;rw[<-ho.o];unfold jBp;rw[cE hA]
  clear hA;go_wp2_with fail;refine(jQ2 jBy hc.o).mono ?_;rintro e wf ⟨rfl,hp,ht⟩;have hf:Hid (Below pb w wf):=hh.o.trans (Tch.below ht nR (cQ hc.o.lt));have ha:Hid _:=hp;clear hp ht;go_wp2_with fail;refine(jF1 ha.o).mono ?_;rintro e wg ⟨rfl,hp,ht⟩;have c4:=hp.cell 4 (.string _) rfl;have f4:=hp.frozen 4;have hl:=hp.lt;have hg:Hid (Below pb w (wg.setCell ⟨pb,4,none⟩ (.string (jAV ws (aK ws (Sq.jAp (Sq.step1 s0) 1) jBy))))):=cj (B:=pb) (hf.o.trans (Tch.below ht nR (cQ ha.o.lt))) nR _;have hk:Hid (PS pb lv ws _ (wg.setCell ⟨pb,4,none⟩ (.string (jAV ws (aK ws (Sq.jAp (Sq.step1 s0) 1) jBy)))) (jAN ws (aK ws (Sq.jAp (Sq.step1 s0) 1) jBy))):=hp.setTable _;clear hp ht;go_wp2_with fail;refine(jIV hk.o (by rw[jQz,jQn,show(Sq.jAp (Sq.step1 s0) 1).aq=[] from hr.o];exact zR)).mono ?_;rintro e wz ⟨rfl,⟨rz,hp⟩,hb⟩;have hj:Hid _:=hp;have he:Hid (Below pb w wz):=hg.o.trans hb;clear hp hb c4 f4;go_wp2;go_end0;refine⟨rfl,⟨rz,?_⟩,he.o⟩
  have e1:jBz ws st=jBS ws (jAN ws (aK ws (Sq.jAp (Sq.step1 s0) 1) jBy)):=by
   unfold jBz;rw[hi.o]
  rw[e1];exact hj.o
 case false =>
  rw[jQW hA] at hO;have hy:Hid _:=hO;clear hO;go_wp2_with fail;refine(jQL jHQ hy.o).mono ?_;rintro e w3 ⟨rfl,hP,ht⟩;have hv:Hid (Below pb w w3):=hu.o.trans (Tch.below ht nR (cQ hy.o.lt));clear ht;cases hC:aU ws s0 jHQ
  case true =>
   rw[jQO hC] at hP;have c8:=hP.cell 8 (.int .i64 _) rfl;have f8:=hP.frozen 8;have hm:=hP.lt;have hc:Hid _:=hP.jAp 2;have hh:Hid (Below pb w (w3.setCell ⟨pb,8,none⟩ (.int .i64 2))):=cj (B:=pb) hv.o nR _;clear hP;have hi:Hid (jBp ws (Sq.bx st 5)=Sq.jAp (Sq.step1 s0) 2):=by show _=_;rw[<-ho.o];unfold jBp;rw[cy (by simp[hA]),cE hC]
   clear hA hC;go_wp2_with fail;refine(jQ2 jBy hc.o).mono ?_;rintro e wf ⟨rfl,hp,ht⟩;have hf:Hid (Below pb w wf):=hh.o.trans (Tch.below ht nR (cQ hc.o.lt));have ha:Hid _:=hp;clear hp ht;go_wp2_with fail;refine(jF1 ha.o).mono ?_;rintro e wg ⟨rfl,hp,ht⟩;have c4:=hp.cell 4 (.string _) rfl;have f4:=hp.frozen 4;have hl:=hp.lt;have hg:Hid (Below pb w (wg.setCell ⟨pb,4,none⟩ (.string (jAV ws (aK ws (Sq.jAp (Sq.step1 s0) 2) jBy))))):=cj (B:=pb) (hf.o.trans (Tch.below ht nR (cQ ha.o.lt))) nR _;have hk:Hid (PS pb lv ws _ (wg.setCell ⟨pb,4,none⟩ (.string (jAV ws (aK ws (Sq.jAp (Sq.step1 s0) 2) jBy)))) (jAN ws (aK ws (Sq.jAp (Sq.step1 s0) 2) jBy))):=hp.setTable _;clear hp ht;go_wp2_with fail;refine(jIV hk.o (by rw[jQz,jQn,show(Sq.jAp (Sq.step1 s0) 2).aq=[] from hr.o];exact zR)).mono ?_;rintro e wz ⟨rfl,⟨rz,hp⟩,hb⟩;have hj:Hid _:=hp;have he:Hid (Below pb w wz):=hg.o.trans hb;clear hp hb c4 f4;go_wp2;go_end0;refine⟨rfl,⟨rz,?_⟩,he.o⟩
   have e1:jBz ws st=jBS ws (jAN ws (aK ws (Sq.jAp (Sq.step1 s0) 2) jBy)):=by
    unfold jBz;rw[hi.o]
   rw[e1];exact hj.o
  case false =>
   rw[jQW hC] at hP;have hz:Hid _:=hP;clear hP;go_wp2_with fail;refine(jQL jMr hz.o).mono ?_;rintro e w4 ⟨rfl,hQ,ht⟩;have hw:Hid (Below pb w w4):=hv.o.trans (Tch.below ht nR (cQ hz.o.lt));clear ht;cases hM:aU ws s0 jMr
   case true =>
    rw[jQO hM] at hQ;have c8:=hQ.cell 8 (.int .i64 _) rfl;have f8:=hQ.frozen 8;have hm:=hQ.lt;have hD:Hid _:=hQ.jAp 3;have hI:Hid (Below pb w (w4.setCell ⟨pb,8,none⟩ (.int .i64 3))):=cj (B:=pb) hw.o nR _;clear hQ;have hi:Hid (jBp ws (Sq.bx st 5)=aK ws (jCt ws (aK ws (Sq.jAp (Sq.step1 s0) 3) jCN)) jBO):=by show _=_;rw[<-ho.o];unfold jBp;rw[cy (by simp[hA]),cy (by simp[hC]),cE hM]
    clear hA hC hM;go_wp2_with fail;refine(jQ2 jCN hD.o).mono ?_;rintro e w5 ⟨rfl,hp,ht⟩;have hG:Hid (Below pb w w5):=hI.o.trans (Tch.below ht nR (cQ hD.o.lt));have hK:Hid _:=hp;clear hp ht c8 f8;go_wp2_with fail;refine(jOg hK.o (by rw[Sq.jXt];show s0.items.length<=5000;rw[hE.o];omega)).mono ?_;rintro e w6 ⟨rfl,⟨r6,hp⟩,hb⟩;have hH:Hid (Below pb w w6):=hG.o.trans hb;have hB:Hid _:=hp;clear hp hb;go_wp2_with fail;refine(jQ2 jBO hB.o).mono ?_;rintro e w7 ⟨rfl,hp,ht⟩;have hh:Hid (Below pb w w7):=hH.o.trans (Tch.below ht nR (cQ hB.o.lt));have hc:Hid _:=hp;clear hp ht;go_wp2_with fail;refine(jQ2 jBy hc.o).mono ?_;rintro e wf ⟨rfl,hp,ht⟩;have hf:Hid (Below pb w wf):=hh.o.trans (Tch.below ht nR (cQ hc.o.lt));have ha:Hid _:=hp;clear hp ht;go_wp2_with fail;refine(jF1 ha.o).mono ?_;rintro e wg ⟨rfl,hp,ht⟩;have c4:=hp.cell 4 (.string _) rfl;have f4:=hp.frozen 4;have hl:=hp.lt;have hg:Hid (Below pb w (wg.setCell ⟨pb,4,none⟩ (.string (jAV ws (aK ws (aK ws (jCt ws (aK ws (Sq.jAp (Sq.step1 s0) 3) jCN)) jBO) jBy))))):=cj (B:=pb) (hf.o.trans (Tch.below ht nR (cQ ha.o.lt))) nR _;have hk:Hid (PS pb lv ws _ (wg.setCell ⟨pb,4,none⟩ (.string (jAV ws (aK ws (aK ws (jCt ws (aK ws (Sq.jAp (Sq.step1 s0) 3) jCN)) jBO) jBy)))) (jAN ws (aK ws (aK ws (jCt ws (aK ws (Sq.jAp (Sq.step1 s0) 3) jCN)) jBO) jBy))):=hp.setTable _;clear hp ht;go_wp2_with fail;refine(jIV hk.o (by rw[jQz,jQn,jQn,jI1,jQn,show(Sq.jAp (Sq.step1 s0) 3).aq=[] from hr.o];exact zR)).mono ?_;rintro e wz ⟨rfl,⟨rz,hp⟩,hb⟩;have hj:Hid _:=hp;have he:Hid (Below pb w wz):=hg.o.trans hb;clear hp hb c4 f4;go_wp2;go_end0;refine⟨rfl,⟨rz,?_⟩,he.o⟩
    have e1:jBz ws st=jBS ws (jAN ws (aK ws (aK ws (jCt ws (aK ws (Sq.jAp (Sq.step1 s0) 3) jCN)) jBO) jBy)):=by
     unfold jBz;rw[hi.o]
    rw[e1];exact hj.o
   case false =>
    rw[jQW hM] at hQ;have hJ:Hid _:=hQ;clear hQ;have hi:Hid (jBp ws (Sq.bx st 5)=jCB ws s0):=by show _=_;rw[<-ho.o];unfold jBp;rw[cy (by simp[hA]),cy (by simp[hC]),cy (by simp[hM])]
    clear hA hC hM;go_wp2_with fail;refine(qAm hJ.o hE.o).mono ?_;rintro e w5 ⟨rfl,⟨r5,hp⟩,hb⟩;have hh:Hid (Below pb w w5):=hw.o.trans hb;have hc:Hid _:=hp;clear hp hb;go_wp2_with fail;refine(jQ2 jBy hc.o).mono ?_;rintro e wf ⟨rfl,hp,ht⟩;have hf:Hid (Below pb w wf):=hh.o.trans (Tch.below ht nR (cQ hc.o.lt));have ha:Hid _:=hp;clear hp ht;go_wp2_with fail;refine(jF1 ha.o).mono ?_;rintro e wg ⟨rfl,hp,ht⟩;have c4:=hp.cell 4 (.string _) rfl;have f4:=hp.frozen 4;have hl:=hp.lt;have hg:Hid (Below pb w (wg.setCell ⟨pb,4,none⟩ (.string (jAV ws (aK ws (jCB ws s0) jBy))))):=cj (B:=pb) (hf.o.trans (Tch.below ht nR (cQ ha.o.lt))) nR _;have hk:Hid (PS pb lv ws _ (wg.setCell ⟨pb,4,none⟩ (.string (jAV ws (aK ws (jCB ws s0) jBy)))) (jAN ws (aK ws (jCB ws s0) jBy))):=hp.setTable _;clear hp ht;go_wp2_with fail;refine(jIV hk.o (by rw[jQz,jQn,show(jCB ws s0).aq=[] from by unfold jCB;rw[Sq.jHr ws _ (jI1 ws),jI1];exact hr.o];exact zR)).mono ?_;rintro e wz ⟨rfl,⟨rz,hp⟩,hb⟩;have hj:Hid _:=hp;have he:Hid (Below pb w wz):=hg.o.trans hb;clear hp hb c4 f4;go_wp2;go_end0;refine⟨rfl,⟨rz,?_⟩,he.o⟩
    have e1:jBz ws st=jBS ws (jAN ws (aK ws (jCB ws s0) jBy)):=by
     unfold jBz;rw[hi.o]
    rw[e1];exact hj.o
theorem jWk {ws:List Sq.Word}{r:Rw}(h:PS pb lv ws r w st0) :
  Calls Tryz.prog 101 #[.pointer (some ⟨pb,0,none⟩)] w fun e w'=>e=.returned (.tuple #[])/\(∃r',PS pb lv ws r' w' (jAg ws st0))/\Below pb w w':=by
 have ho:=h.lt;have H:Hid _:=h;clear h;go_enter Tryz.func101,Tryz.ntmps101;go_wp2_with fail;refine(jUj H.o).mono ?_;rintro e w1 ⟨rfl,hp,ht⟩;have he:Hid (Below pb w w1):=Tch.below ht nR (cQ ho);have d2:=hp.cell 2 (.bool _) rfl;have g2:=hp.frozen 2;have hi:=hp.lt;have hc:Hid _:=hp;clear hp ht;obtain⟨m,hm⟩:∃m,m=Sq.jD7 ws st0:=⟨_,rfl⟩;rw[<-hm];obtain⟨s1,hq⟩:∃s,s=Sq.bn ws st0:=⟨_,rfl⟩;have hg:Hid (s1.cols.length=0):=by show _=_;rw[hq,Sq.jKX];rfl
 have hl:Hid (s1.ax.length=0):=by show _=_;rw[hq,Sq.jNe];rfl
 have hk:Hid (s1.ak.length=0):=by show _=_;rw[hq,Sq.jNf];rfl
 have hh:Hid (s1.items.length=0):=by show _=_;rw[hq,Sq.jP5];rfl
 have hn:Hid (s1.aq=[]):=by show _=_;rw[hq,Sq.jG2];rfl
 have HE:Hid (jAg ws st0=if m.toList==jGL.toList then jDc ws s1 else if m.toList==jGN.toList then jDf ws s1 else if m.toList==jGP.toList then jDI ws s1 else if m.toList==jGM.toList then jD3 ws s1 else if m.toList==jGO.toList then jBz ws s1 else Sq.fail s1):=by show _=_;rw[hm,hq];rfl
 have hj:=hc.o;rw[<-hq] at hj d2;have hc:Hid _:=hj;clear hj hm hq;have e1:jGL.toList=[99,114,101,97,116,101]:=by rw[du];rfl
 have e2:jGN.toList=[105,110,115,101,114,116]:=by rw[du];rfl
 have e3:jGP.toList=[117,112,100,97,116,101]:=by rw[du];rfl
 have e4:jGM.toList=[100,101,108,101,116,101]:=by rw[du];rfl
 have e5:jGO.toList=[115,101,108,101,99,116]:=by rw[du];rfl
 have hf:=HE.o;rw[e1,e2,e3,e4,e5] at hf;have HE:Hid _:=hf;clear hf e1 e2 e3 e4 e5;cases h0:(m.toList==[99,114,101,97,116,101])
 case true =>
  have HF:Hid (jAg ws st0=jDc ws s1):=by show _=_;rw[HE.o,h0];rfl
  go_wp2_with fail;refine(jZS hc.o hg.o).mono ?_;rintro e w2 ⟨rfl,⟨r2,hp⟩,hb⟩;have ha:Hid _:=hp;clear hp;go_wp2;go_end0;exact⟨rfl,⟨r2,by rw[HF.o];exact ha.o⟩,he.o.trans hb⟩
 cases h1:(m.toList==[105,110,115,101,114,116])
 case true =>
  have HF:Hid (jAg ws st0=jDf ws s1):=by show _=_;rw[HE.o,h0,h1];rfl
  go_wp2_with fail;refine(jZf hc.o hl.o).mono ?_;rintro e w2 ⟨rfl,⟨r2,hp⟩,hb⟩;have ha:Hid _:=hp;clear hp;go_wp2;go_end0;exact⟨rfl,⟨r2,by rw[HF.o];exact ha.o⟩,he.o.trans hb⟩
 cases h2:(m.toList==[117,112,100,97,116,101])
 case true =>
  have HF:Hid (jAg ws st0=jDI ws s1):=by show _=_;rw[HE.o,h0,h1,h2];rfl
  go_wp2_with fail;refine(jXC hc.o hk.o hn.o).mono ?_;rintro e w2 ⟨rfl,⟨r2,hp⟩,hb⟩;have ha:Hid _:=hp;clear hp;go_wp2;go_end0;exact⟨rfl,⟨r2,by rw[HF.o];exact ha.o⟩,he.o.trans hb⟩
 cases h3:(m.toList==[100,101,108,101,116,101])
 case true =>
  have HF:Hid (jAg ws st0=jD3 ws s1):=by show _=_;rw[HE.o,h0,h1,h2,h3];rfl
  go_wp2_with fail;refine(jZP hc.o hn.o).mono ?_;rintro e w2 ⟨rfl,⟨r2,hp⟩,hb⟩;have ha:Hid _:=hp;clear hp;go_wp2;go_end0;exact⟨rfl,⟨r2,by rw[HF.o];exact ha.o⟩,he.o.trans hb⟩
 cases h4:(m.toList==[115,101,108,101,99,116])
 case true =>
  have HF:Hid (jAg ws st0=jBz ws s1):=by show _=_;rw[HE.o,h0,h1,h2,h3,h4];rfl
  go_wp2_with fail;refine(jZZ hc.o hh.o hn.o).mono ?_;rintro e w2 ⟨rfl,⟨r2,hp⟩,hb⟩;have ha:Hid _:=hp;clear hp;go_wp2;go_end0;exact⟨rfl,⟨r2,by rw[HF.o];exact ha.o⟩,he.o.trans hb⟩
 have HF:Hid (jAg ws st0=Sq.fail s1):=by show _=_;rw[HE.o,h0,h1,h2,h3,h4];rfl
 go_wp2;go_end0;have ht:Tch pb w1 (w1.setCell ⟨pb,2,none⟩ (.bool true)):=(Tch.refl _ _).store (.inl rfl) _;exact⟨rfl,⟨r,by rw[HF.o];exact hc.o.jE7 bR ht rfl⟩,he.o.trans (Tch.below ht nR (cQ hi))⟩
structure Stm (B:Nat)(w:World)(st:PSt)(r:Rw):Prop where
 cols:w.ownsRow B 205 2 r.cv st.cols.length (st.cols.flatMap Col.cells)
 ax:w.ownsRow B 208 3 r.vv st.ax.length (st.ax.flatMap Val.cells)
 ak:w.ownsRow B 213 10 r.sv st.ak.length (st.ak.flatMap bE.cells)
 items:w.ownsRow B 9 1 r.iv st.items.length (st.items.map Value.string)
 aq:w.ownsRow B 217 9 r.wv st.aq.length (st.aq.flatMap bd.cells)
def jAF (st:PSt)(r:Rw):Array Value:=#[.int .i64 st.act,.string st.table,r.cv,r.vv,r.sv,.int .i64 st.shw,r.iv,r.wv]
theorem jQj {base ha:Nat}{size:Nat}(h:w.ownsRow base e size v n xs)(hb:ha<=base):w.ownsRow ha e size v n xs:=by
 refine⟨h.1,?_⟩;rcases h.2 with h2 | ⟨g,cap,cur,hv,hg,r⟩
 ·exact Or.inl h2
 exact Or.inr ⟨g,cap,cur,hv,cm hb hg,r⟩
theorem jQa {base:Nat}{size:Nat}(h:w.ownsRow base e size v n xs):∃ao cap,v=.slice ao n cap:=by
 rcases h.2 with⟨h1,h2⟩ | ⟨g,cap,_,h1,_⟩
 ·exact⟨none,0,by rw[h1,h2]⟩
 exact⟨_,_,h1⟩
theorem Stm.base {st:PSt}{r:Rw}(h:Stm B w st r)(hb:B'<=B):Stm B' w st r :=
 ⟨jQj h.cols hb,jQj h.ax hb,jQj h.ak hb,jQj h.items hb,jQj h.aq hb⟩
theorem PS.stm {ws:List Sq.Word}{r:Rw}{st:PSt}(h:PS pb lv ws r w st)(hB:B<=pb+1):Stm B w st r :=
 ⟨jQj h.cols hB,jQj h.ax hB,jQj h.ak hB,jQj h.items hB,jQj h.aq hB⟩
theorem Stm.setCell {st:PSt}{r:Rw}(h:Stm B w st r){o:Nat}(hb:b<B)(x:Value):Stm B (w.setCell ⟨b,o,none⟩ x) st r :=
 ⟨ei h.cols (a:=⟨b,o,none⟩) hb x,ei h.ax (a:=⟨b,o,none⟩) hb x,ei h.ak (a:=⟨b,o,none⟩) hb x,ei h.items (a:=⟨b,o,none⟩) hb x,ei h.aq (a:=⟨b,o,none⟩) hb x⟩
theorem jGR {a:World}(h:Below B a w)(v0 v1 v2 v3 v4 v5 v6 v7:Value):Below B a ((((((((w.setCell ⟨B,0,none⟩ v0).setCell ⟨B,1,none⟩ v1).setCell ⟨B,2,none⟩ v2).setCell ⟨B,3,none⟩ v3).setCell ⟨B,4,none⟩ v4).setCell ⟨B,5,none⟩ v5).setCell ⟨B,6,none⟩ v6).setCell ⟨B,7,none⟩ v7) :=
 (((((((h.setCell nR _).setCell nR _).setCell nR _).setCell nR _).setCell nR _).setCell nR _).setCell nR _).setCell nR _
def r0:Rw:=⟨.slice none 0 0,.slice none 0 0,.slice none 0 0,.slice none 0 0,.slice none 0 0⟩
theorem qBt (s:BA)(w:World) :
  Calls Tryz.prog 67 #[.string s] w fun e w'=>Below w.heap.size w w' /\
   ∃r,e=.returned (.tuple #[.agg (jAF (Sq.parse s).2 r),.int .i64 (Sq.parse s).1])/\Stm w.heap.size w' (Sq.parse s).2 r:=by
 have hf:∀W,Stm w.heap.size W st0 r0:=fun W=>⟨cu _ _ _ _,cu _ _ _ _,cu _ _ _ _,cu _ _ _ _,cu _ _ _ _⟩
 have hb:Hid _:=hf;clear hf
 by_cases hlen:160<s.size
 ·have HE:Hid (Sq.parse s=(2,st0)):=by show _=_;unfold Sq.parse;rw[cE hlen]
  go_enter Tryz.func67,Tryz.ntmps67;go_wp2;refine cp (v:=.tuple #[.agg (jAF st0 r0),.int .i64 2]) (by simp[results,Tryz.results67,go_sem,jAF,st0,r0,ar]) rfl ⟨?_,r0,by rw[HE.o],by rw[HE.o];exact hb.o _⟩;exact bA
 have hs:s.size<=1000:=by omega
 have hj:(s.size:Int)<=160:=by omega
 go_enter Tryz.func67,Tryz.ntmps67;go_wp2_with fail;refine(qBr s _ hs).mono ?_;rintro e w1 ⟨hx,hJ⟩;have ha:w.heap.size<w1.heap.size:=by have:=hx.size;simp at this;omega
 have hi:Below w.heap.size w w1:=((Below.refl _ w).alloc nR _).trans (hx.mono (by simp));obtain⟨k1,k2⟩:=aD hx;have a0:=k1 w.heap.size 0 (by simp);have a1:=k1 w.heap.size 1 (by simp);have a2:=k1 w.heap.size 2 (by simp);have a3:=k1 w.heap.size 3 (by simp);have a4:=k1 w.heap.size 4 (by simp);have a5:=k1 w.heap.size 5 (by simp);have a6:=k1 w.heap.size 6 (by simp);have a7:=k1 w.heap.size 7 (by simp);have b0:=k2 w.heap.size 0 (by simp);have b1:=k2 w.heap.size 1 (by simp);have b2:=k2 w.heap.size 2 (by simp);have b3:=k2 w.heap.size 3 (by simp);have b4:=k2 w.heap.size 4 (by simp);have b5:=k2 w.heap.size 5 (by simp);have b6:=k2 w.heap.size 6 (by simp);have b7:=k2 w.heap.size 7 (by simp);simp[go_sem] at a0 a1 a2 a3 a4 a5 a6 a7 b0 b1 b2 b3 b4 b5 b6 b7;clear k1 k2;rcases hJ with⟨hn,rfl⟩ | ⟨ws,v,hsp,rfl,hwl,hown⟩
 ·have HE:Hid (Sq.parse s=(3,st0)):=by show _=_;unfold Sq.parse;rw[cy hlen,hn]
  clear hx hn;go_wp2;refine cp (v:=.tuple #[.agg (jAF st0 r0),.int .i64 3]) (by simp[results,Tryz.results67,go_sem,jAF,st0,r0,ar, *]) rfl ⟨?_,r0,by rw[HE.o],by rw[HE.o];exact hb.o _⟩;exact jGR hi _ _ _ _ _ _ _ _
 have hl:PS w1.heap.size v ws r0 (w1.alloc (.cells #[v,.int .i64 0,.bool false,.int .i64 0,.string ⟨#[]⟩,.slice none 0 0,.slice none 0 0,.slice none 0 0,.int .i64 0,.slice none 0 0,.slice none 0 0] 160)) st0 :=
  ⟨dJ w1 _,jQj (hown.alloc _) zR,hwl,Sq.qBi s ws hsp,zR,cu _ _ _ _,cu _ _ _ _,cu _ _ _ _,cu _ _ _ _,cu _ _ _ _⟩
 have hm:Hid _:=hl;have hp:Hid _:=hsp
 obtain⟨la,hB,hI⟩:∃ao cap,v=.slice ao ws.length cap:=by
  rcases hown.2 with⟨h1,h2⟩ | ⟨g,cap,_,h1,_⟩
  ·exact⟨none,0,by rw[h1,h2]⟩
  exact⟨_,_,h1⟩
 subst hI;clear hl hsp hown hx;go_wp2_with fail;refine(jWk hm.o).mono ?_;rintro e w2 ⟨rfl,⟨r2,hv⟩,hz⟩;obtain⟨st,hA⟩:∃x,x=jAg ws st0:=⟨_,rfl⟩;rw[<-hA] at hv;have hq:Hid _:=hA;obtain⟨cv,vv,sv,iv,wv⟩:=r2;obtain⟨q5,c5,hD⟩:=jQa hv.cols;obtain⟨q6,c6,hG⟩:=jQa hv.ax;obtain⟨q7,c7,hF⟩:=jQa hv.ak;obtain⟨q9,c9,hE⟩:=jQa hv.items;obtain⟨hC,hy,hH⟩:=jQa hv.aq
 dsimp only at hD hG hF hE hH
 subst hD hG hF hE hH;have ht:w1.heap.size<w2.heap.size:=hv.lt;have p0:=hv.cell 0 (.slice la ws.length hB) rfl;have p1:=hv.cell 1 (.int .i64 st.pos) rfl;have p2:=hv.cell 2 (.bool st.bad) rfl;have p3:=hv.cell 3 (.int .i64 st.act) rfl;have p4:=hv.cell 4 (.string st.table) rfl;have p5:=hv.cell 5 (.slice q5 st.cols.length c5) rfl;have p6:=hv.cell 6 (.slice q6 st.ax.length c6) rfl;have p7:=hv.cell 7 (.slice q7 st.ak.length c7) rfl;have p8:=hv.cell 8 (.int .i64 st.shw) rfl;have p9:=hv.cell 9 (.slice q9 st.items.length c9) rfl;have h0:=hv.cell 10 (.slice hC st.aq.length hy) rfl;have hr:=hv.inside;have ho:Hid (Stm (w.heap.size+1) w2 st ⟨.slice q5 st.cols.length c5,.slice q6 st.ax.length c6,.slice q7 st.ak.length c7,.slice q9 st.items.length c9,.slice hC st.aq.length hy⟩):=hv.stm (by omega);have hc:Below w.heap.size w w2:=(cH (B:=w.heap.size) hi (by omega) _).trans (cS (B':=w.heap.size) hz (by omega));have he:Below w1.heap.size w1 w2:=(cH (B:=w1.heap.size) bR nR _).trans hz;obtain⟨k1,k2⟩:=aD he;have hK:=(k1 w.heap.size 0 ha).trans a0;have hL:=(k1 w.heap.size 1 ha).trans a1;have hM:=(k1 w.heap.size 2 ha).trans a2;have hN:=(k1 w.heap.size 3 ha).trans a3;have hO:=(k1 w.heap.size 4 ha).trans a4;have hP:=(k1 w.heap.size 5 ha).trans a5;have hQ:=(k1 w.heap.size 6 ha).trans a6;have hR:=(k1 w.heap.size 7 ha).trans a7;have hS:=(k2 w.heap.size 0 ha).trans b0;have hT:=(k2 w.heap.size 1 ha).trans b1;have hU:=(k2 w.heap.size 2 ha).trans b2;have hV:=(k2 w.heap.size 3 ha).trans b3;have hW:=(k2 w.heap.size 4 ha).trans b4;have hX:=(k2 w.heap.size 5 ha).trans b5;have hY:=(k2 w.heap.size 6 ha).trans b6;have hZ:=(k2 w.heap.size 7 ha).trans b7;have hu:w.heap.size<w2.heap.size:=by omega
 clear a0 a1 a2 a3 a4 a5 a6 a7 b0 b1 b2 b3 b4 b5 b6 b7 k1 k2 hv hz he hA;have hh:Hid (Sq.parse s=if st.bad || st.pos != ws.length then(3,st0) else(0,st)):=by show _=_;unfold Sq.parse;rw[cy hlen,hp.o,hq.o]
 cases hbad:st.bad
 case true =>
  have HE:Hid (Sq.parse s=(3,st0)):=by show _=_;rw[hh.o,hbad];rfl
  rw[hbad] at p2;clear hbad;go_wp2;refine cp (v:=.tuple #[.agg (jAF st0 r0),.int .i64 3]) (by simp[results,Tryz.results67,go_sem,jAF,st0,r0,ar, *]) rfl ⟨?_,r0,by rw[HE.o],by rw[HE.o];exact hb.o _⟩;exact jGR hc _ _ _ _ _ _ _ _
 case false =>
  rw[hbad] at p2
  by_cases hpos:st.pos=ws.length
  ·have HE:Hid (Sq.parse s=(0,st)):=by show _=_;rw[hh.o,hbad,hpos];simp
   have hg:((st.pos:Int) != (ws.length:Int))=false:=by simp[hpos]
   clear hbad hpos;go_wp2;refine cp (v:=.tuple #[.agg (jAF st ⟨.slice q5 st.cols.length c5,.slice q6 st.ax.length c6,.slice q7 st.ak.length c7,.slice q9 st.items.length c9,.slice hC st.aq.length hy⟩),.int .i64 0]) (by simp[results,Tryz.results67,go_sem,jAF, *]) rfl ⟨?_,_,by rw[HE.o],?_⟩
   ·exact jGR hc _ _ _ _ _ _ _ _
   rw[HE.o];refine Stm.base (B:=w.heap.size+1) ?_ (eB _);exact(((((((ho.o.setCell (eu _) _).setCell (eu _) _).setCell (eu _) _).setCell (eu _) _).setCell (eu _) _).setCell (eu _) _).setCell (eu _) _).setCell (eu _) _
  have HE:Hid (Sq.parse s=(3,st0)):=by show _=_;rw[hh.o,hbad];simp[hpos]
  have hg:((st.pos:Int) != (ws.length:Int))=true:=by simp;omega
  have hk:st.pos<ws.length:=by omega
  clear hbad hpos;go_wp2;refine cp (v:=.tuple #[.agg (jAF st0 r0),.int .i64 3]) (by simp[results,Tryz.results67,go_sem,jAF,st0,r0,ar, *]) rfl ⟨?_,r0,by rw[HE.o],by rw[HE.o];exact hb.o _⟩;exact jGR hc _ _ _ _ _ _ _ _
end
namespace Sq
def jB7 (n:BA):List Col->Int->Int
 | [],_=>-1
 | c::r,i=>if c.name.toList==n.toList then i else jB7 n r (i+1)
def find (cols:List Col)(n:BA):Int:=jB7 n cols 0
theorem jYn (n:BA)(l:List Col):∀i:Int,0<=i->jB7 n l i=-1\/(i<=jB7 n l i/\jB7 n l i<i+l.length):=by
 induction l with
 | nil=>intro i _;left;rfl
 | cons c r ih =>
  intro i hi;rw[jB7]
  split
  ·right;simp;omega
  rcases ih (i+1) (by omega) with h | h
  ·left;exact h
  right;simp;omega
theorem jVe (cols:List Col)(n:BA):find cols n=-1\/(0<=find cols n/\find cols n<cols.length):=by
 have:=jYn n cols 0 (by omega)
 unfold find;rcases this with h | h
 ·left;exact h
 right;omega
theorem jWR (cols:List Col)(n:BA)(k:Nat)(h:k<cols.length):jB7 n (cols.drop k) k=if cols[k].name.toList==n.toList then(k:Int) else jB7 n (cols.drop (k+1)) ((k:Int)+1):=by
 rw[cr h,jB7]
def jE3 (b:Bool):Int:=if b then -1 else 1
def compare (v x:Val):Int :=
 if v.kind != x.kind then jE3 (decide (v.kind<x.kind))
 else if v.kind==0&&v.number != x.number then jE3 (decide (v.number<x.number))
 else if v.kind==1 && !(v.text.toList==x.text.toList) then jE3 (Op.bytesLess v.text.toList x.text.toList)
 else 0
theorem qCZ (f:α->List Value)(size:Nat)(hf:∀x,(f x).length=size):∀(l:List α) (k j:Nat) (hk:k<l.length),j<size->(l.flatMap f)[k*size+j]?=(f l[k])[j]?:=by
 intro l
 induction l with
 | nil=>intro k j hk;simp at hk
 | cons x r ih =>
  intro k j hk hj;rw[cK];cases k with
  | zero =>
   rw[List.getElem?_append_left (by rw[hf];omega)];simp
  | succ k =>
   rw[ew (by rw[hf,Nat.add_mul];omega),hf];have e:(k+1)*size+j-size=k*size+j:=by rw[Nat.add_mul];omega
   rw[e,ih k j (by simpa using hk) hj];rfl
theorem jPN (f:α->List Value)(size:Nat)(hf:∀x,(f x).length=size)(l:List α):(l.flatMap f).length=l.length*size:=by
 induction l with
 | nil=>simp
 | cons x r ih=>rw[cK,cg,hf,ih,cG,Nat.add_mul];omega
def jAY (cols:List Col)(n:BA):Int×Bool:=match cols[(find cols n).toNat]? with
 | some c=>if find cols n<0 then(0,false) else(c.kind,true)
 | none=>(0,false)
def kindOf (cols:List Col)(t:Term):Int×Bool:=if t.column.toList.isEmpty then(t.lit.kind,true) else jAY cols t.column
def jAc:List Val->List Col->Int
 | v::r,c::q=>if v.kind != c.kind then 7 else jAc r q
 | _,_=>0
def jAm (cols:List Col)(ax:List Val):Int:=if ax.length != cols.length then 6 else jAc ax cols
def jB6 (cols:List Col)(target:Int)(s:bE):Int :=
 if !(kindOf cols s.first).2 then 4
 else if(kindOf cols s.first).1 != target then 7
 else if s.sign.toList.isEmpty then 0
 else if !(kindOf cols s.second).2 then 4
 else if(kindOf cols s.first).1==1 || (kindOf cols s.second).1==1 then 7
 else 0
def jBG (ak:List bE)(n:BA):Bool:=ak.any fun s=>s.column.toList==n.toList
def jA2 (cols:List Col)(ha:List bE)(s:bE):Int:=match cols[(find cols s.column).toNat]? with
 | some c=>if find cols s.column<0 then 4 else if find cols s.column==0 then 8 else if jBG ha s.column then 5 else jB6 cols c.kind s
 | none=>4
def jAj (cols:List Col):List bE->List bE->Int
 | _,[]=>0
 | e,s::r=>if jA2 cols e s != 0 then jA2 cols e s else jAj cols (e++[s]) r
def jCd (cols:List Col)(ak:List bE):Int:=jAj cols [] ak
def jAb (cols:List Col)(shw:Int):List BA->Int
 | []=>0
 | n::r=>if !(jAY cols n).2 then 4 else if shw==3&&(jAY cols n).1==1 then 7 else jAb cols shw r
def jAa (cols:List Col):List bd->Int
 | []=>0
 | s::r =>
  if !jAf s.op then jAa cols r
  else if !(kindOf cols s.left).2 then 4
  else if !(kindOf cols s.right).2 then 4
  else if(kindOf cols s.left).1 != (kindOf cols s.right).1 then 7
  else jAa cols r
def jA1 (cols:List Col)(st:PSt):Int :=
 if st.act==2 then jAm cols st.ax else if st.act==3 then jCd cols st.ak else if st.act==5 then jAb cols st.shw st.items else 0
def check (cols:List Col)(st:PSt):Int:=if jA1 cols st != 0 then jA1 cols st else jAa cols st.aq
theorem jPg (cols:List Col)(n:BA)(h:find cols n=-1):jAY cols n=(0,false):=by
 unfold jAY;rw[h];split<;>simp
theorem jPb (cols:List Col)(n:BA)(k:Nat)(hk:k<cols.length)(h:find cols n=k):jAY cols n=(cols[k].kind,true):=by
 unfold jAY;rw[h,cC,cz hk];simp only;rw[cy (by omega)]
theorem jK3 (cols:List Col)(n:BA):find cols n=-1\/∃k:Nat,∃_:k<cols.length,find cols n=k:=by
 rcases jVe cols n with h | ⟨h1,h2⟩
 ·left;exact h
 right
 obtain⟨k,hk⟩:=cU h1;exact⟨k,by omega,hk⟩
def keyOf (row:List Val):Int:=match row with | []=>0 | v::_=>v.number
def cellOf (cols:List Col)(row:List Val)(n:BA):Val:=if find cols n<0 then jDY else(row[(find cols n).toNat]?).getD jDY
def valueOf (cols:List Col)(row:List Val)(t:Term):Val:=if t.column.toList.isEmpty then t.lit else cellOf cols row t.column
def holds (op:BA)(side:Int):Bool :=
 if op.toList==[61] then side==0
 else if op.toList==[60,62] then side != 0
 else if op.toList==[60] then decide (side<0)
 else if op.toList==[60,61] then decide (side<=0)
 else if op.toList==[62] then decide (0<side)
 else decide (0<=side)
def jCO (cols:List Col)(row:List Val)(s:bd):Bool:=holds s.op (compare (valueOf cols row s.left) (valueOf cols row s.right))
def jEE (l:List Bool):Bool:=l.getLast?.getD false
def jD5 (l:List Bool)(op:BA):List Bool :=
 if op.toList==[110,111,116] then l.dropLast++[!jEE l]
 else if op.toList==[97,110,100] then l.dropLast.dropLast++[jEE l.dropLast&&jEE l]
 else l.dropLast.dropLast++[jEE l.dropLast || jEE l]
def jEq (cols:List Col)(row:List Val)(l:List Bool)(s:bd):List Bool:=if jAf s.op then l++[jCO cols row s] else jD5 l s.op
def meets (cols:List Col)(row:List Val)(steps:List bd):Bool:=if steps.isEmpty then true else jEE (steps.foldl (jEq cols row) [])
structure Tab where
 name:BA
 cols:List Col
 rows:List (List Val)
end Sq
section
open Go.RowKit
theorem hd {p:Prop}(h:p):Hid p:=h
theorem jCc {f:α->List Value}{size:Nat}(hf:∀x,(f x).length=size){base:Nat}{l:List α}(h:w.ownsRow base e size v l.length (l.flatMap f))(k:Nat)(hk:k<l.length) :
  ∃g cap,v=.slice (some ⟨g,0,none⟩) l.length cap/\g<w.heap.size/\∀j u,j<size->(f l[k])[j]?=some u->w.cell? ⟨g,k*size+j,none⟩=some u:=by
 obtain⟨g,cap,rfl,_,ha⟩:=h.form (by omega);refine⟨g,cap,rfl,ha,fun j u hj hu=>?_⟩
 have:=h.cells (g:=g) rfl (k*size+j) u (by rw[Sq.qCZ f size hf l k j hk hj];exact hu)
 rwa [show(⟨g,0,none⟩:Addr).add (k*size+j)=⟨g,k*size+j,none⟩ from by unfold Addr.add;split<;>simp_all] at this
theorem jNi (b:Bool)(w:World) :
  Calls Tryz.prog 224 #[.bool b] w fun e w'=>e=.returned (.int .i64 (Sq.jE3 b))/\w'=w:=by
 cases b
 all_goals
  go_enter Tryz.func224,Tryz.ntmps224;go_wp2;go_ret;exact⟨rfl,rfl⟩
theorem jFS (cols:List Col)(v:Value)(n:BA)(w:World)(h:w.ownsRow 0 205 2 v cols.length (cols.flatMap Col.cells))(hl:cols.length<=100000) :
  Calls Tryz.prog 148 #[v,.string n] w fun e w'=>e=.returned (.int .i64 (Sq.find cols n))/\w'=w:=by
 obtain⟨ao,cap,rfl⟩:=jQa h;have H:=hd h;clear h;go_enter Tryz.func148,Tryz.ntmps148;go_wp2
 go_loop [5] (fun i=>∃k:Nat,k<=cols.length/\i=.int .i64 k/\Hid (Sq.find cols n=Sq.jB7 n (cols.drop k) k)) (fun i=>cols.length-(intOf i).toNat)
 case atStart=>exact⟨0,zR,rfl,rfl⟩
 case round =>
  obtain⟨k,hk,rfl,hr⟩:=hrel
  by_cases hlt:k<cols.length
  ·obtain⟨g,ha,hv,hg,hc⟩:=jCc (f:=Col.cells) (fun _=>rfl) H.o k hlt;obtain⟨rfl,-,rfl⟩:=sI hv;have c0:=hc 0 (.string cols[k].name) (by decide) rfl;simp only[dB] at c0;have hs:=Sq.jWR cols n k hlt;have HS:Hid _:=hs;clear hc hs;cases he:cols[k].name.toList==n.toList
   ·have hs:=HS.o;rw[he] at hs;have HR:Hid (Sq.find cols n=Sq.jB7 n (cols.drop (k+1)) ((k:Int)+1)):=hr.o.trans hs;clear hs HS hr;go_wp2;go_round
    case rel=>exact⟨k+1,by omega,by go_num,HR.o⟩
    case measure=>simp[intOf];omega
   have hs:=HS.o;rw[he] at hs;have HR:Hid (Sq.find cols n=(k:Int)):=hr.o.trans hs;clear hs HS hr;go_wp2;go_ret;exact⟨by rw[HR.o];rfl,rfl⟩
  have HR:Hid (Sq.find cols n=-1):=by show _=_;rw[hr.o,cD (by omega)];rfl
  clear hr;go_wp2;go_ret;exact⟨by rw[HR.o];rfl,rfl⟩
theorem jX0 (v x:Val)(w:World) :
  Calls Tryz.prog 206 #[.agg v.cells.toArray,.agg x.cells.toArray] w fun e w'=>e=.returned (.int .i64 (Sq.compare v x))/\Below w.heap.size w w':=by
 obtain⟨vk,vn,vt⟩:=v;obtain⟨xk,xn,xt⟩:=x;unfold Val.cells;have hb:∀a b,Below w.heap.size w ((w.alloc a).alloc b):=fun a b=>(bA).alloc (by simp) _
 have ha:Hid _:=hb;clear hb;cases h1:vk != xk
 case true =>
  have HE:Hid (Sq.compare ⟨vk,vn,vt⟩ ⟨xk,xn,xt⟩=Sq.jE3 (decide (vk<xk))):=by show _=_;unfold Sq.compare;simp only;rw[h1];rfl
  go_enter Tryz.func206,Tryz.ntmps206;go_wp2_with (go_at_call 224;refine(jNi _ _).mono ?_;rintro e w' ⟨rfl,rfl⟩);go_ret;exact⟨by rw[HE.o];rfl,ha.o _ _⟩
 cases h2:(vk==0&&vn != xn)
 case true =>
  have HE:Hid (Sq.compare ⟨vk,vn,vt⟩ ⟨xk,xn,xt⟩=Sq.jE3 (decide (vn<xn))):=by show _=_;unfold Sq.compare;simp only;rw[h1,h2];rfl
  obtain⟨hf,hg⟩:(vk==0)=true/\(vn != xn)=true:=by simpa using h2
  clear h2;go_enter Tryz.func206,Tryz.ntmps206;go_wp2_with (go_at_call 224;refine(jNi _ _).mono ?_;rintro e w' ⟨rfl,rfl⟩);go_ret;exact⟨by rw[HE.o];rfl,ha.o _ _⟩
 cases h3:(vk==1 && !(vt.toList==xt.toList))
 case true =>
  have HE:Hid (Sq.compare ⟨vk,vn,vt⟩ ⟨xk,xn,xt⟩=Sq.jE3 (Op.bytesLess vt.toList xt.toList)):=by show _=_;unfold Sq.compare;simp only;rw[h1,h2,h3];rfl
  obtain⟨hc,hh⟩:(vk==1)=true/\(vt.toList==xt.toList)=false:=by simpa using h3
  have h0:(vk==0)=false:=by rw[eq_of_beq hc];rfl
  clear h2 h3;go_enter Tryz.func206,Tryz.ntmps206;go_wp2_with (go_at_call 224;refine(jNi _ _).mono ?_;rintro e w' ⟨rfl,rfl⟩);go_ret;exact⟨by rw[HE.o];rfl,ha.o _ _⟩
 case false =>
  have HE:Hid (Sq.compare ⟨vk,vn,vt⟩ ⟨xk,xn,xt⟩=0):=by show _=_;unfold Sq.compare;simp only;rw[h1,h2,h3];rfl
  cases h0:vk==0
  ·cases h4:vk==1
   ·clear h2 h3;go_enter Tryz.func206,Tryz.ntmps206;go_wp2;go_ret;exact⟨by rw[HE.o];rfl,ha.o _ _⟩
   have h5:(vt.toList==xt.toList)=true:=by rw[h4] at h3;simpa using h3
   clear h2 h3;go_enter Tryz.func206,Tryz.ntmps206;go_wp2;go_ret;exact⟨by rw[HE.o];rfl,ha.o _ _⟩
  have h5:(vn != xn)=false:=by rw[h0] at h2;simpa using h2
  have h4:(vk==1)=false:=by rw[eq_of_beq h0];rfl
  clear h2 h3;go_enter Tryz.func206,Tryz.ntmps206;go_wp2;go_ret;exact⟨by rw[HE.o];rfl,ha.o _ _⟩
def aX (w:World)(v:Value)(cols:List Col):Prop:=w.ownsRow 0 205 2 v cols.length (cols.flatMap Col.cells)/\cols.length<=100000
theorem aX.below {cols:List Col}(h:aX w v cols)(hb:Below w.heap.size w w'):aX w' v cols:=⟨jQh h.1 hb,h.2⟩
theorem aX.alloc {cols:List Col}(h:aX w v cols)(o:Obj):aX (w.alloc o) v cols:=h.below (bA)
theorem jJO (cols:List Col)(v:Value)(n:BA)(w:World)(h:aX w v cols) :
  Calls Tryz.prog 150 #[v,.string n] w fun e w'=>e=.returned (.tuple #[.int .i64 (Sq.jAY cols n).1,.bool (Sq.jAY cols n).2])/\w'=w:=by
 obtain⟨ao,cap,rfl⟩:=jQa h.1;have hl:=h.2;have H:=hd h;clear h;rcases Sq.jK3 cols n with hf | ⟨k,hk,hf⟩
 ·have HE:=hd (Sq.jPg cols n hf);have HF:=hd hf;clear hf;go_enter Tryz.func150,Tryz.ntmps150;go_wp2_with (go_at_call 148;refine(jFS cols _ n _ H.o.1 hl).mono ?_;rintro e w' ⟨rfl,rfl⟩;rw[HF.o]);go_ret2;exact⟨by rw[HE.o];rfl,rfl⟩
 have HE:=hd (Sq.jPb cols n k hk hf);have HF:=hd hf;obtain⟨g,ha,hv,hg,hc⟩:=jCc (f:=Col.cells) (fun _=>rfl) H.o.1 k hk;obtain⟨rfl,-,rfl⟩:=sI hv;have c1:=hc 1 (.int .i64 cols[k].kind) (by decide) rfl;clear hf hc;go_enter Tryz.func150,Tryz.ntmps150;go_wp2_with (go_at_call 148;refine(jFS cols _ n _ H.o.1 hl).mono ?_;rintro e w' ⟨rfl,rfl⟩;rw[HF.o]);go_ret2;exact⟨by rw[HE.o];rfl,rfl⟩
theorem jK1 (cols:List Col)(v:Value)(t:Sq.Term)(w:World)(h:aX w v cols) :
  Calls Tryz.prog 152 #[v,.agg t.cells.toArray] w fun e w'=>e=.returned (.tuple #[.int .i64 (Sq.kindOf cols t).1,.bool (Sq.kindOf cols t).2])/\Below w.heap.size w w':=by
 obtain⟨tc,⟨tk,tn,tt⟩⟩:=t;unfold Sq.Term.cells;have H:=hd h;clear h;cases he:tc.toList.isEmpty
 ·have HE:Hid (Sq.kindOf cols ⟨tc,⟨tk,tn,tt⟩⟩=Sq.jAY cols tc):=by show _=_;unfold Sq.kindOf;simp only;rw[he];rfl
  go_enter Tryz.func152,Tryz.ntmps152;go_wp2_with (go_at_call 150;refine(jJO cols v tc _ (H.o.alloc _)).mono ?_;rintro e w' ⟨rfl,rfl⟩);go_ret2;exact⟨by rw[HE.o];rfl,bA⟩
 have HE:Hid (Sq.kindOf cols ⟨tc,⟨tk,tn,tt⟩⟩=(tk,true)):=by show _=_;unfold Sq.kindOf;simp only;rw[he];rfl
 go_enter Tryz.func152,Tryz.ntmps152;go_wp2;go_ret2;exact⟨by rw[HE.o];rfl,bA⟩
theorem Sq.jVM (ax:List Val)(cols:List Col)(k:Nat)(h1:k<ax.length)(h2:k<cols.length) :
  Sq.jAc (ax.drop k) (cols.drop k)=if ax[k].kind != cols[k].kind then 7 else Sq.jAc (ax.drop (k+1)) (cols.drop (k+1)):=by
 rw[cr h1,cr h2,Sq.jAc]
theorem jV3 (cols:List Col)(ax:List Val)(cv vv:Value)(w:World)(h:aX w cv cols)(hv:w.ownsRow 0 208 3 vv ax.length (ax.flatMap Val.cells))(hn:ax.length<=100000) :
  Calls Tryz.prog 110 #[cv,vv] w fun e w'=>e=.returned (.int .i64 (Sq.jAm cols ax))/\Below w.heap.size w w':=by
 obtain⟨ao,cap,rfl⟩:=jQa h.1;obtain⟨bo,ht,rfl⟩:=jQa hv;have hl:=h.2;have H:=hd h;have HV:=hd hv;clear h hv;cases hne:ax.length != cols.length
 case true =>
  have HE:Hid (Sq.jAm cols ax=6):=by show _=_;unfold Sq.jAm;rw[hne];rfl
  have hb:((ax.length:Int) != (cols.length:Int))=true:=by rw[bne_iff_ne] at hne ⊢;omega
  clear hne;go_enter Tryz.func110,Tryz.ntmps110;go_wp2;go_ret;exact⟨by rw[HE.o];rfl,bR⟩
 case false =>
  have HE:Hid (Sq.jAm cols ax=Sq.jAc ax cols):=by show _=_;unfold Sq.jAm;rw[hne];rfl
  have hf:Hid (ax.length=cols.length):=by show _=_;simpa using hne
  have hb:((ax.length:Int) != (cols.length:Int))=false:=by rw[hf.o];simp
  have hh:ax.length<=cols.length:=by rw[hf.o];omega
  clear hne;go_enter Tryz.func110,Tryz.ntmps110;go_wp2
  go_loopw [5] (fun i wr=>∃k:Nat,k<=ax.length/\i=.int .i64 k/\(∃n,wr=w.drewN n)/\Hid (Sq.jAm cols ax=Sq.jAc (ax.drop k) (cols.drop k))) (fun i _=>ax.length-(intOf i).toNat)
  case atStart=>exact⟨0,zR,rfl,⟨0,rfl⟩,HE⟩
  case round =>
   obtain⟨k,hk,rfl,⟨nd,rfl⟩,hr⟩:=hrel
   by_cases hlt:k<ax.length
   ·obtain⟨g,ho,hq,hg,hc⟩:=jCc (f:=Val.cells) (fun _=>rfl) HV.o k hlt;obtain⟨rfl,-,rfl⟩:=sI hq;have c0:=hc 0 (.int .i64 ax[k].kind) (by decide) rfl;simp only[dB] at c0;have ha:k<cols.length:=by omega
    obtain⟨g2,hp,hs,hx,hj⟩:=jCc (f:=Col.cells) (fun _=>rfl) H.o.1 k ha;obtain⟨rfl,-,rfl⟩:=sI hs;have c1:=hj 1 (.int .i64 cols[k].kind) (by decide) rfl;have HS:=hd (Sq.jVM ax cols k hlt ha);clear hc hj;cases he:ax[k].kind != cols[k].kind
    ·have HR:Hid (Sq.jAm cols ax=Sq.jAc (ax.drop (k+1)) (cols.drop (k+1))):=by show _=_;rw[hr.o,HS.o,he];rfl
     clear hr HS;go_wp2
     go_quiet (fail)
     go_wp2;go_roundw;exact⟨k+1,by omega,by go_num,⟨_,rfl⟩,HR⟩;simp[intOf];omega
    have HR:Hid (Sq.jAm cols ax=7):=by show _=_;rw[hr.o,HS.o,he];rfl
    clear hr HS;go_wp2
    go_quiet (fail)
    go_wp2;go_ret;exact⟨by rw[HR.o];rfl,by first | exact ez bR _ | exact ez (ez bR _) _⟩
   have HR:Hid (Sq.jAm cols ax=0):=by show _=_;rw[hr.o,cD (by omega)];rfl
   clear hr;go_wp2;go_ret;exact⟨by rw[HR.o];rfl,ez bR _⟩
theorem jW9 (cols:List Col)(v:Value)(k:Int)(s:bE)(w:World)(h:aX w v cols) :
  Calls Tryz.prog 193 #[v,.int .i64 k,.agg s.cells.toArray] w fun e w'=>e=.returned (.int .i64 (Sq.jB6 cols k s))/\Below w.heap.size w w':=by
 have hE:Sq.jB6 cols k s=if !(Sq.kindOf cols s.first).2 then 4 else if(Sq.kindOf cols s.first).1 != k then 7 else if s.sign.toList.isEmpty then 0 else if !(Sq.kindOf cols s.second).2 then 4 else if(Sq.kindOf cols s.first).1==1 || (Sq.kindOf cols s.second).1==1 then 7 else 0:=rfl
 have HE:=hd hE;clear hE;obtain⟨sc,⟨fc,⟨fk,fn,ft⟩⟩,sg,⟨rc,⟨rk,rn,rt⟩⟩⟩:=s;obtain⟨k1,hh⟩:∃x,x=Sq.kindOf cols ⟨fc,⟨fk,fn,ft⟩⟩:=⟨_,rfl⟩;obtain⟨k2,hj⟩:∃x,x=Sq.kindOf cols ⟨rc,⟨rk,rn,rt⟩⟩:=⟨_,rfl⟩;have hE:=HE.o;simp only[<-hh,<-hj] at hE;have HE:=hd hE;clear hE;have hc:=hd hh;have he:=hd hj;clear hh hj;unfold bE.cells;have H:=hd h;clear h;have hW:∀o,Below w.heap.size w (w.alloc o):=fun o=>bA
 have HW:=hd hW;clear hW;go_enter Tryz.func193,Tryz.ntmps193;go_wp2_with fail;refine(jK1 cols v ⟨fc,⟨fk,fn,ft⟩⟩ _ (H.o.alloc _)).mono ?_;rintro e w1 ⟨rfl,hg⟩;rw[<-hc.o];have hb:Below w.heap.size w w1:=(HW.o _).trans (hg.mono (by simp));obtain⟨q1,q2⟩:=aD hg;have a5:=q1 w.heap.size 5 (by simp);have a6:=q1 w.heap.size 6 (by simp);have a7:=q1 w.heap.size 7 (by simp);have a8:=q1 w.heap.size 8 (by simp);have a9:=q1 w.heap.size 9 (by simp);simp[go_sem] at a5 a6 a7 a8 a9;have hf:=hd hg;clear q1 q2 hg;obtain⟨hn,ho⟩:=k1;obtain⟨hp,hq⟩:=k2;have hE:=HE.o;simp only at hE;have HE:=hd hE;clear hE;cases ho
 case false =>
  go_wp2;go_ret;exact⟨by rw[HE.o];rfl,hb⟩
 cases hkk:hn != k
 case true =>
  go_wp2;go_ret;exact⟨by rw[HE.o,hkk];rfl,hb⟩
 cases hsg:sg.toList.isEmpty
 case true =>
  go_wp2;go_ret;exact⟨by rw[HE.o,hkk,hsg];rfl,hb⟩
 go_wp2_with fail;refine(jK1 cols v ⟨rc,⟨rk,rn,rt⟩⟩ _ (H.o.below hb)).mono ?_;rintro e w2 ⟨rfl,hk⟩;rw[<-he.o];have ha:Below w.heap.size w w2:=hb.trans (hk.mono hb.size);clear hk;cases hq
 case false =>
  go_wp2;go_ret;exact⟨by rw[HE.o,hkk,hsg];rfl,ha⟩
 cases h1:hn==1
 case true =>
  go_wp2;go_ret;exact⟨by rw[HE.o,hkk,hsg,h1];rfl,ha⟩
 cases h2:hp==1
 case true =>
  go_wp2;go_ret;exact⟨by rw[HE.o,hkk,hsg,h1,h2];rfl,ha⟩
 case false =>
  go_wp2;go_ret;exact⟨by rw[HE.o,hkk,hsg,h1,h2];rfl,ha⟩
theorem Sq.jWh (ak:List bE)(n:BA)(k:Nat)(h:k<ak.length):Sq.jBG (ak.drop k) n=(ak[k].column.toList==n.toList || Sq.jBG (ak.drop (k+1)) n):=by
 rw[cr h];rfl
def jEg (w:World)(v:Value)(ak:List bE):Prop:=w.ownsRow 0 213 10 v ak.length (ak.flatMap bE.cells)/\ak.length<=100000
theorem jEg.below {l:List bE}(h:jEg w v l)(hb:Below w.heap.size w w'):jEg w' v l:=⟨jQh h.1 hb,h.2⟩
theorem jXa (cols:List Col)(ht:List bE)(cv ev:Value)(s:bE)(w:World)(h:aX w cv cols)(he:jEg w ev ht) :
  Calls Tryz.prog 149 #[cv,ev,.agg s.cells.toArray] w fun e w'=>e=.returned (.int .i64 (Sq.jA2 cols ht s))/\Below w.heap.size w w':=by
 obtain⟨ao,cap,rfl⟩:=jQa h.1;obtain⟨bo,hC,rfl⟩:=jQa he.1;have hl:=h.2;have hp:=he.2;have hE:Sq.jA2 cols ht s=match cols[(Sq.find cols s.column).toNat]? with | some c=>if Sq.find cols s.column<0 then 4 else if Sq.find cols s.column==0 then 8 else if Sq.jBG ht s.column then 5 else Sq.jB6 cols c.kind s | none=>4:=rfl
 have HE:=hd hE;clear hE;obtain⟨S,hS⟩:∃x,x=s:=⟨_,rfl⟩;have HS:=hd hS;clear hS;obtain⟨sc,⟨fc,⟨fk,fn,ft⟩⟩,sg,⟨rc,⟨rk,rn,rt⟩⟩⟩:=s;unfold bE.cells;have H:=hd h;have hn:=hd he;clear h he;have hW:∀o,Below w.heap.size w (w.alloc o):=fun o=>bA
 have HW:=hd hW;clear hW;rcases Sq.jK3 cols sc with hf | ⟨k,hk,hf⟩
 ·have hE:=HE.o;simp only at hE;rw[hf] at hE;have hi:Hid (Sq.jA2 cols ht ⟨sc,⟨fc,⟨fk,fn,ft⟩⟩,sg,⟨rc,⟨rk,rn,rt⟩⟩⟩=4):=by show _=_;rw[hE];split<;>rfl
  have HF:=hd hf;clear hf hE;go_enter Tryz.func149,Tryz.ntmps149;go_wp2_with (go_at_call 148;refine(jFS cols _ sc _ (H.o.alloc _).1 hl).mono ?_;rintro e w' ⟨rfl,rfl⟩;rw[HF.o]);go_ret;exact⟨by rw[hi.o];rfl,HW.o _⟩
 have hE:=HE.o;simp only at hE;rw[hf,cC,cz hk] at hE;simp only at hE;rw[cy (by omega)] at hE;have hh:=hd hE;have HF:=hd hf;clear hf hE
 by_cases hk0:k=0
 ·subst hk0;have hs:¬cols=[]:=by intro h;rw[h] at hk;simp at hk
  have hm:Hid (Sq.jA2 cols ht ⟨sc,⟨fc,⟨fk,fn,ft⟩⟩,sg,⟨rc,⟨rk,rn,rt⟩⟩⟩=8):=by show _=_;rw[hh.o];rfl
  go_enter Tryz.func149,Tryz.ntmps149;go_wp2_with (go_at_call 148;refine(jFS cols _ sc _ (H.o.alloc _).1 hl).mono ?_;rintro e w' ⟨rfl,rfl⟩;rw[HF.o]);go_ret;exact⟨by rw[hm.o];rfl,HW.o _⟩
 have ho:0<k:=by omega
 have hb:Hid (Sq.jA2 cols ht ⟨sc,⟨fc,⟨fk,fn,ft⟩⟩,sg,⟨rc,⟨rk,rn,rt⟩⟩⟩=if Sq.jBG ht sc then 5 else Sq.jB6 cols cols[k].kind ⟨sc,⟨fc,⟨fk,fn,ft⟩⟩,sg,⟨rc,⟨rk,rn,rt⟩⟩⟩):=by
  show _=_;rw[hh.o]
  have:((k:Int)==0)=false:=by simp;omega
  rw[this];rfl
 obtain⟨g,hy,hv,hg,hc⟩:=jCc (f:=Col.cells) (fun _=>rfl) H.o.1 k hk;obtain⟨rfl,-,rfl⟩:=sI hv;have c1:=hc 1 (.int .i64 cols[k].kind) (by decide) rfl;clear hc hk0;go_enter Tryz.func149,Tryz.ntmps149;go_wp2_with (go_at_call 148;refine(jFS cols _ sc _ (H.o.alloc _).1 hl).mono ?_;rintro e w' ⟨rfl,rfl⟩;rw[HF.o])
 go_loopw [8] (fun i wr=>∃j:Nat,j<=ht.length/\i=.int .i64 j/\(∃n,wr=(w.alloc (.cells #[.string sc,.string fc,.int .i64 fk,.int .i64 fn,.string ft,.string sg,.string rc,.int .i64 rk,.int .i64 rn,.string rt] 213)).drewN n)/\Hid (Sq.jBG ht sc=Sq.jBG (ht.drop j) sc)) (fun i _=>ht.length-(intOf i).toNat)
 case atStart=>exact⟨0,zR,rfl,⟨0,rfl⟩,rfl⟩
 case round =>
  obtain⟨j,hj,rfl,⟨nd,rfl⟩,hr⟩:=hrel
  by_cases hlt:j<ht.length
  ·obtain⟨g2,hz,hB,hD,hx⟩:=jCc (f:=bE.cells) (fun _=>rfl) hn.o.1 j hlt;obtain⟨rfl,-,rfl⟩:=sI hB;have c0:=hx 0 (.string ht[j].column) (by decide) rfl;simp only[dB] at c0;have ha:=hd (Sq.jWh ht sc j hlt);clear hx;cases hq:ht[j].column.toList==sc.toList
   ·have HR:Hid (Sq.jBG ht sc=Sq.jBG (ht.drop (j+1)) sc):=by show _=_;rw[hr.o,ha.o,hq];rfl
    clear hr ha;go_wp2
    go_quiet (fail)
    go_wp2;go_roundw;exact⟨j+1,by omega,by go_num,⟨_,rfl⟩,HR⟩;simp[intOf];omega
   have HR:Hid (Sq.jBG ht sc=true):=by show _=_;rw[hr.o,ha.o,hq];rfl
   clear hr ha;go_wp2
   go_quiet (fail)
   go_wp2;go_ret;exact⟨by rw[hb.o,HR.o];rfl,ez (ez (HW.o _) _) _⟩
  have HR:Hid (Sq.jBG ht sc=false):=by show _=_;rw[hr.o,cD (by omega)];rfl
  clear hr;go_wp2
  go_region_with (go_at_call 193;refine(jW9 cols _ _ ⟨sc,⟨fc,⟨fk,fn,ft⟩⟩,sg,⟨rc,⟨rk,rn,rt⟩⟩⟩ _ (H.o.below (by exact ez (HW.o _) _))).mono ?_;rintro e w5 ⟨rfl,hA⟩)
  all_goals
   go_wp2;go_ret;exact⟨by rw[hb.o,HR.o];rfl,(ez (HW.o _) _).trans (cS (B':=w.heap.size) hA (by simp))⟩
theorem jZC {ak:List bE}{ao:Option Addr}{cap:Nat}(h:jEg w (.slice ao ak.length cap) ak)(k:Nat)(hk:k<ak.length):jEg w (.slice ao k cap) (ak.take k):=by
 have hl:(ak.take k).length=k:=by simp;omega
 refine⟨?_,by rw[hl];have:=h.2;omega⟩;rw[hl];rcases h.1.2 with⟨h1,h2⟩ | ⟨g,cap',cur,h1,hg,hh,hn,hm,hc,ht⟩
 ·omega
 obtain⟨rfl,-,rfl⟩:=sI h1;refine⟨by rw[Sq.jPN bE.cells 10 (fun _=>rfl),hl],Or.inr ⟨g,cap,cur,rfl,hg,hh,by omega,hm,hc,?_⟩⟩
 have e1:(ak.take k).flatMap bE.cells=(ak.flatMap bE.cells).take (k*10):=by
  conv=>rhs;rw[<-ee k ak,cN]
  rw[List.take_left' (by rw[Sq.jPN bE.cells 10 (fun _=>rfl),hl])]
 rw[e1,<-ht,List.take_take]
 congr 1
 omega
theorem Sq.jVQ (cols:List Col)(ak:List bE)(k:Nat)(h:k<ak.length):Sq.jAj cols (ak.take k) (ak.drop k)=if Sq.jA2 cols (ak.take k) ak[k] != 0 then Sq.jA2 cols (ak.take k) ak[k] else Sq.jAj cols (ak.take (k+1)) (ak.drop (k+1)):=by
 conv=>lhs;rw[cr h]
 rw[Sq.jAj,cI h]
theorem jWU (cols:List Col)(ak:List bE)(cv sv:Value)(w:World)(h:aX w cv cols)(hs:jEg w sv ak) :
  Calls Tryz.prog 111 #[cv,sv] w fun e w'=>e=.returned (.int .i64 (Sq.jCd cols ak))/\Below w.heap.size w w':=by
 obtain⟨bo,hA,rfl⟩:=jQa hs.1;have hl:=hs.2;have H:=hd h;have HS:=hd hs
 have hp:ak.length<=hA:=by
  rcases hs.1.2 with⟨h1,h2⟩ | ⟨g,hy,cur,h1,hg,hh,hn,_⟩
  ·simp only[Value.slice.injEq] at h1;omega
  simp only[Value.slice.injEq] at h1;obtain⟨-,-,rfl⟩:=h1;exact hn
 have hq:hA<=9223372036854775807:=by
  rcases hs.1.2 with⟨h1,h2⟩ | ⟨g,hy,cur,h1,hg,hh,hn,hm,_⟩
  ·simp only[Value.slice.injEq] at h1;omega
  simp only[Value.slice.injEq] at h1;obtain⟨-,-,rfl⟩:=h1;exact hm
 clear h hs;go_enter Tryz.func111,Tryz.ntmps111;go_wp2
 go_loopw [5] (fun i wr=>∃k:Nat,k<=ak.length/\i=.int .i64 k/\Below w.heap.size w wr/\Hid (Sq.jCd cols ak=Sq.jAj cols (ak.take k) (ak.drop k))) (fun i _=>ak.length-(intOf i).toNat)
 case atStart=>exact⟨0,zR,rfl,bR,rfl⟩
 case round =>
  obtain⟨k,hk,rfl,hb,hr⟩:=hrel
  by_cases hlt:k<ak.length
  ·have ho:=hd (HS.o.below hb);obtain⟨g,hy,hv,hg,hc⟩:=jCc (f:=bE.cells) (fun _=>rfl) ho.o.1 k hlt;obtain⟨rfl,-,rfl⟩:=sI hv;obtain⟨x,hx⟩:∃x,x=ak[k]:=⟨_,rfl⟩;rw[<-hx] at hc;have hf:=hd (Sq.jVQ cols ak k hlt);have HX:=hd hx;clear hx;obtain⟨sc,⟨fc,⟨fk,fn,ft⟩⟩,sg,⟨rc,⟨rk,rn,rt⟩⟩⟩:=x;have c0:=hc 0 _ (by decide) rfl;have c1:=hc 1 _ (by decide) rfl;have c2:=hc 2 _ (by decide) rfl;have c3:=hc 3 _ (by decide) rfl;have c4:=hc 4 _ (by decide) rfl;have c5:=hc 5 _ (by decide) rfl;have c6:=hc 6 _ (by decide) rfl;have c7:=hc 7 _ (by decide) rfl;have c8:=hc 8 _ (by decide) rfl;have c9:=hc 9 _ (by decide) rfl;simp only[dB] at c0;have ht:k<=hA:=by omega
   have HT:=hd (jZC (HS.o.below hb.drew) k hlt);have hj:=hd (H.o.below hb.drew);clear hc;go_wp2
   go_region_with (go_at_call 149;refine(jXa cols (ak.take k) cv _ ⟨sc,⟨fc,⟨fk,fn,ft⟩⟩,sg,⟨rc,⟨rk,rn,rt⟩⟩⟩ _ hj.o HT.o).mono ?_;rintro e w5 ⟨rfl,hC⟩)
   all_goals
    obtain⟨er,hB⟩:∃x,x=Sq.jA2 cols (ak.take k) ⟨sc,⟨fc,⟨fk,fn,ft⟩⟩,sg,⟨rc,⟨rk,rn,rt⟩⟩⟩:=⟨_,rfl⟩;rw[<-hB];have hi:Below w.heap.size w w5:=hb.drew.trans (cS (B':=w.heap.size) hC hb.size);have he:=hf.o;rw[<-HX.o,<-hB] at he;have ha:=hd he;clear he hB hf hC c0 c1 c2 c3 c4 c5 c6 c7 c8 c9;cases hz:er != 0
    ·have HR:Hid (Sq.jCd cols ak=Sq.jAj cols (ak.take (k+1)) (ak.drop (k+1))):=by show _=_;rw[hr.o,ha.o,hz];rfl
     clear hr ha;go_wp2;go_roundw;exact⟨k+1,by omega,by go_num,hi,HR⟩;simp[intOf];omega
    have HR:Hid (Sq.jCd cols ak=er):=by show _=_;rw[hr.o,ha.o,hz];rfl
    clear hr ha;go_wp2;go_ret;exact⟨by rw[HR.o];rfl,hi⟩
  have HR:Hid (Sq.jCd cols ak=0):=by show _=_;rw[hr.o,cD (by omega)];unfold Sq.jAj;rfl
  clear hr;go_wp2;go_ret;exact⟨by rw[HR.o];rfl,hb⟩
theorem Sq.jV4 (cols:List Col)(shw:Int)(l:List BA)(k:Nat)(h:k<l.length):Sq.jAb cols shw (l.drop k)=if !(Sq.jAY cols l[k]).2 then 4 else if shw==3&&(Sq.jAY cols l[k]).1==1 then 7 else Sq.jAb cols shw (l.drop (k+1)):=by
 rw[cr h,Sq.jAb]
def jC3 (w:World)(v:Value)(l:List BA):Prop:=w.ownsRow 0 9 1 v l.length (l.map Value.string)/\l.length<=100000
theorem jC3.below {l:List BA}(h:jC3 w v l)(hb:Below w.heap.size w w'):jC3 w' v l:=⟨jQh h.1 hb,h.2⟩
theorem jC3.at {l:List BA}(h:jC3 w v l)(k:Nat)(hk:k<l.length):∃g cap,v=.slice (some ⟨g,0,none⟩) l.length cap/\g<w.heap.size/\w.cell? ⟨g,k,none⟩=some (.string l[k]):=by
 obtain⟨g,cap,rfl,_,ha⟩:=h.1.form (by omega);refine⟨g,cap,rfl,ha,?_⟩
 have:=h.1.cells (g:=g) rfl k (.string l[k]) (by simp[hk])
 rwa [show(⟨g,0,none⟩:Addr).add k=⟨g,k,none⟩ from by unfold Addr.add;split<;>simp_all] at this
structure jDw (w:World)(st:PSt)(r:Rw):Prop where
 cols:aX w r.cv st.cols
 ax:w.ownsRow 0 208 3 r.vv st.ax.length (st.ax.flatMap Val.cells)
 jIs:st.ax.length<=100000
 ak:jEg w r.sv st.ak
 items:jC3 w r.iv st.items
 aq:w.ownsRow 0 217 9 r.wv st.aq.length (st.aq.flatMap bd.cells)
 jKn:st.aq.length<=100000
theorem jDw.below {st:PSt}{r:Rw}(h:jDw w st r)(hb:Below w.heap.size w w'):jDw w' st r :=
 ⟨h.cols.below hb,jQh h.ax hb,h.jIs,h.ak.below hb,h.items.below hb,jQh h.aq hb,h.jKn⟩
theorem jWb (cols:List Col)(cv:Value)(st:PSt)(r:Rw)(w:World)(h:aX w cv cols)(hs:jDw w st r) :
  Calls Tryz.prog 112 #[cv,.agg (jAF st r)] w fun e w'=>e=.returned (.int .i64 (Sq.jAb cols st.shw st.items))/\Below w.heap.size w w':=by
 obtain⟨hx,hB,hA,hy,hC⟩:=r;obtain⟨q5,c5,hh⟩:=jQa hs.cols.1;obtain⟨q6,c6,ho⟩:=jQa hs.ax;obtain⟨q7,c7,hn⟩:=jQa hs.ak.1;obtain⟨q9,c9,hj⟩:=jQa hs.items.1;obtain⟨hz,ht,hp⟩:=jQa hs.aq
 dsimp only at hh ho hn hj hp
 subst hh ho hn hj hp;unfold jAF;have hl:=hs.items.2;have H:=hd h;have HS:=hd hs;clear h hs;go_enter Tryz.func112,Tryz.ntmps112;go_wp2
 go_loop [5] (fun i=>∃k:Nat,k<=st.items.length/\i=.int .i64 k/\Hid (Sq.jAb cols st.shw st.items=Sq.jAb cols st.shw (st.items.drop k))) (fun i=>st.items.length-(intOf i).toNat)
 case atStart=>exact⟨0,zR,rfl,rfl⟩
 case round =>
  obtain⟨k,hk,rfl,hr⟩:=hrel
  by_cases hlt:k<st.items.length
  ·obtain⟨g,hq,hv,hg,c0⟩:=HS.o.items.at k hlt;obtain⟨rfl,-,rfl⟩:=sI hv;have he:=hd (Sq.jV4 cols st.shw st.items k hlt);obtain⟨kd,hf⟩:∃x,x=Sq.jAY cols st.items[k]:=⟨_,rfl⟩;have hc:=he.o;rw[<-hf] at hc;have ha:=hd hc;have hb:=hd hf;clear hc hf he;obtain⟨ka,kb⟩:=kd;cases kb
   case false =>
    have HR:Hid (Sq.jAb cols st.shw st.items=4):=by show _=_;rw[hr.o,ha.o];rfl
    go_wp2_with (go_at_call 150;refine(jJO cols cv _ _ (H.o.alloc _)).mono ?_;rintro e w' ⟨rfl,rfl⟩;rw[<-hb.o]);go_ret;exact⟨by rw[HR.o];rfl,bA⟩
   cases h3:st.shw==3
   case false =>
    have HR:Hid (Sq.jAb cols st.shw st.items=Sq.jAb cols st.shw (st.items.drop (k+1))):=by show _=_;rw[hr.o,ha.o,h3];rfl
    clear hr ha;go_wp2_with (go_at_call 150;refine(jJO cols cv _ _ (H.o.alloc _)).mono ?_;rintro e w' ⟨rfl,rfl⟩;rw[<-hb.o]);go_round
    case rel=>exact⟨k+1,by omega,by go_num,HR⟩
    case measure=>simp[intOf];omega
   cases h1:ka==1
   case false =>
    have HR:Hid (Sq.jAb cols st.shw st.items=Sq.jAb cols st.shw (st.items.drop (k+1))):=by show _=_;rw[hr.o,ha.o,h3];simp only[h1];rfl
    clear hr ha;go_wp2_with (go_at_call 150;refine(jJO cols cv _ _ (H.o.alloc _)).mono ?_;rintro e w' ⟨rfl,rfl⟩;rw[<-hb.o]);go_round
    case rel=>exact⟨k+1,by omega,by go_num,HR⟩
    case measure=>simp[intOf];omega
   case true =>
    have HR:Hid (Sq.jAb cols st.shw st.items=7):=by show _=_;rw[hr.o,ha.o,h3];simp only[h1];rfl
    go_wp2_with (go_at_call 150;refine(jJO cols cv _ _ (H.o.alloc _)).mono ?_;rintro e w' ⟨rfl,rfl⟩;rw[<-hb.o]);go_ret;exact⟨by rw[HR.o];rfl,bA⟩
  have HR:Hid (Sq.jAb cols st.shw st.items=0):=by show _=_;rw[hr.o,cD (by omega)];rfl
  clear hr;go_wp2;go_ret;exact⟨by rw[HR.o];rfl,bA⟩
end
end Go.Proofs.YtahpihjialbanaaGreatDoor
