import Derived.Test.YtahpihjialbanaaGreatDoorQaj
set_option linter.all false
set_option maxRecDepth 100000
set_option maxHeartbeats 4000000
namespace Go.Proofs.YtahpihjialbanaaGreatDoor
open Sq (Trl Ent placeOf bQ Col Val aE aT bE jAH jAd jBE jBI jBQ jBd jBt jCX jCh jCi jCu jDH jEe)
variable {B b g tb:Nat}{K:Int}{W w w':World}{a:Act}{c:Array Value}{o:Oper}{v:Value}{α:Type}
section
open Go.RowKit
theorem Sq.jVU (cols:List Col)(ak:List bE)(rows acc:List (List Val))(k:Nat)(h:k<rows.length) :
  jAd cols ak (rows.drop k) acc=if(Sq.assigned cols rows[k] ak).2 then jAd cols ak (rows.drop (k+1)) (acc++[(Sq.assigned cols rows[k] ak).1]) else none:=by
 rw[cr h,jAd]
theorem jYq (a:Int)(Hm:BA)(cols:List Col)(rows:List (List Val))(ak:List bE)(cv rv sv:Value)(w:World)(hc:aX w cv cols)(hr:aQ 0 w rv rows)(hs:jEg w sv ak)(hT:Tbl w)(Hz:∀r∈rows,Sq.jD9 r)(Hv:∀s∈ak,Sq.jKq s)(HN:rows.length<=1000) :
  Calls Tryz.prog 77 #[.agg #[.int .i64 a,.string Hm,cv],rv,sv] w (jF8 w (jCX ⟨a,Hm,cols⟩ rows ak)):=by
 obtain⟨i0,hi,HK,HL,HM⟩:=cV Tryz.jGU;obtain⟨q1,c1,rfl⟩:=jQa hc.1;obtain⟨vo,vc,rfl⟩:=hr.slice;obtain⟨q7,c7,rfl⟩:=jQa hs.1;have h0:Hid (jCX ⟨a,Hm,cols⟩ rows ak=Sq.jHL ⟨a,Hm,cols⟩ (jAd cols ak rows [])):=rfl;have hU:=hd Hz;have hH:=hd Hv;have HC:=hd hc;have HS:=hd hs;have HT:=hd hT;obtain⟨w1,Hw⟩:∃w1:World,w1=(w.alloc (.cells #[.int .i64 a,.string Hm,.slice q1 cols.length c1] 94)).alloc (.cells jFV 98):=⟨_,rfl⟩;have hY:Below w.heap.size w w1:=by rw[Hw];exact(bA).alloc (by simp) _
 have hy:w1.heap[w.heap.size+1]?=some (.cells jFV 98):=by rw[Hw,show w.heap.size+1=(w.alloc (.cells #[.int .i64 a,.string Hm,.slice q1 cols.length c1] 94)).heap.size from by simp];exact jFE _ _
 have hn:w1.heap[w.heap.size]?=some (.cells #[.int .i64 a,.string Hm,.slice q1 cols.length c1] 94):=by rw[Hw,jHy (by simp)];exact jFE _ _
 have a1:w1.cell? ⟨w.heap.size,2,none⟩=some (.slice q1 cols.length c1):=by rw[jQb hn];rfl
 have a0:w1.cell? ⟨w.heap.size,0,none⟩=some (.int .i64 a):=by rw[jQb hn];rfl
 have hz:=jQe hy;have h9:=hd (hr.below hY);have hD:=hd hy;have hR:=hd hn;clear Hz Hv hc hs hT hr hy hn;go_enter Tryz.func77,Tryz.ntmps77;go_wp2;rw[show(w.alloc (.cells #[.int .i64 a,.string Hm,.slice q1 cols.length c1] 94)).alloc (.cells #[.string ⟨#[]⟩,.bool false,.int .i64 0,.string ⟨#[]⟩,.slice none 0 0,.slice none 0 0,.slice none 0 0] 98)=w1 from Hw.symm];clear Hw
 go_loopw [7,8] (fun v i wr=>∃k:Nat,∃acc:List (List Val),k<=rows.length/\i=.int .i64 k/\acc.length=k/\aQ w1.heap.size wr v acc/\Hid (jAd cols ak rows []=jAd cols ak (rows.drop k) acc)/\Below w1.heap.size w1 wr) (fun _ i _=>rows.length-(intOf i).toNat)
 case atStart=>exact⟨0,[],zR,rfl,rfl,aQ.nil _ _,rfl,bR⟩
 case round =>
  obtain⟨k,acc,hk,rfl,Hy,Hr,hr,hb⟩:=hrel;obtain⟨xo,xc,rfl⟩:=Hr.slice;have Hg:=hb.size;have HB:=hd hb;have hB:=hd Hr;have h3:=hd Hy;have Hb:acc.length<=1000:=by omega
  have Hc:acc.length<=rows.length:=by omega
  clear hb Hr Hy
  by_cases hlt:k<rows.length
  ·obtain⟨g,HG,ra,rc,hv,hg,c0,Ht⟩:=(h9.o.below HB.o).at k hlt;obtain⟨rfl,-,rfl⟩:=sI hv;have hP:=Sq.jVU cols ak rows acc k hlt;have hA:=hU.o rows[k] (cJ hlt);obtain⟨row,HD⟩:∃x,x=rows[k]:=⟨_,rfl⟩;rw[<-HD] at hP c0 Ht hA;obtain⟨p,hp⟩:∃x,x=Sq.assigned cols row ak:=⟨_,rfl⟩;rw[<-hp] at hP;obtain⟨Hk,ok⟩:=p;have hV:Hid (jAd cols ak rows []=if ok then jAd cols ak (rows.drop (k+1)) (acc++[Hk]) else none):=hr.o.trans hP;have HP:=hd hp;have hJ:=hd Ht;have hI:=hd hA;have HF:=(HB.o.cell (p:=⟨w.heap.size,2,none⟩) (by show w.heap.size<_;omega)).trans a1;have hh:Below w.heap.size w wr:=hY.trans (HB.o.mono (by omega));have h2:w.heap.size<wr.heap.size:=by omega
   have Hj:w.heap.size+1<wr.heap.size:=by omega
   clear hP Ht HD hp hA hr;go_wp2
   go_cut [9,10] from 11 to 34 (fun pv ov wx=>∃vb x,pv=.pointer (some ⟨vb,0,none⟩)/\ov=.bool ok/\Below wr.heap.size wr wx/\wr.heap.size<=vb/\vb<wx.heap.size/\wx.cell? ⟨vb,0,none⟩=some x/\jEf wr.heap.size wx x Hk)
   case first =>
    go_region_with (go_at_call 120;first | (refine(jRk cols row ak _ _ _ wr.drew (HC.o.below hh.drew) (hJ.o.below (cB bR)) (HS.o.below hh.drew) hI.o hH.o).mono ?_;rintro e w2 ⟨nv,rfl,Hl,Hp⟩;rw[<-HP.o] at Hl;rw[<-HP.o];obtain⟨no,Ho,rfl⟩:=jQa Hl.1;have ha:Below wr.heap.size wr w2:=(cB bR).trans Hp;have ht:=hd Hl;have hX:=ha.size;clear Hp Hl) | (refine(jRk cols row ak _ _ _ (wr.drew.alloc _) (HC.o.below (cH (B:=w.heap.size) hh.drew (by simp;omega) _)) (hJ.o.below (cH (B:=wr.heap.size) (cB bR) nR _)) (HS.o.below (cH (B:=w.heap.size) hh.drew (by simp;omega) _)) hI.o hH.o).mono ?_;rintro e w2 ⟨nv,rfl,Hl,Hp⟩;rw[<-HP.o] at Hl;rw[<-HP.o];obtain⟨no,Ho,rfl⟩:=jQa Hl.1;obtain⟨k1,k2⟩:=aD Hp;have e0:=k1 wr.heap.size 0 (by simp);have g0:=k2 wr.heap.size 0 (by simp);have e9:=Hp.block wr.heap.size (by simp);simp[go_sem] at e0 g0;have hz:wr.heap.size<w2.heap.size:=(by have:=Hp.size;simp at this;omega);have ha:Below wr.heap.size wr w2:=(cH (B:=wr.heap.size) (cB bR) nR _).trans (Hp.mono (by simp));have hX:=ha.size;have ht:=hd Hl;have Hh:=hd e9;clear Hp k1 k2 Hl e9))
    all_goals(try go_wp2_with fail)
    all_goals go_meet
    all_goals exact⟨_,_,rfl,rfl,(by first | exact cH (B:=wr.heap.size) ha ha.size _ | exact cj (B:=wr.heap.size) ha nR _),(by first | exact nR | exact ha.size),(by simp[*]),(by simp[go_sem, *];rfl),(by first | exact⟨jQh (jQj ht.o.1 (by simp)) (bA),ht.o.2⟩ | exact⟨jQp (jQj ht.o.1 (by simp)) (fun k hk=>jQg (fun e=>by have:=(World.ownsRow.lt ht.o.1 k hk).1;simp at this;omega)),ht.o.2⟩)⟩
   case rest =>
    obtain⟨vb,x,rfl,rfl,ha,HI,HJ,v0,Hl⟩:=hcut;obtain⟨no,Ho,rfl⟩:=jQa Hl.1;have Hd:=ha.size;have hZ:=hd ha;have ht:=hd Hl;have hf:=(ha.block (w.heap.size+1) (by omega)).trans ((HB.o.block (w.heap.size+1) (by omega)).trans hD.o);have hj:=hd hf;have hM:Below w.heap.size w wc:=hh.trans (ha.mono (by omega));have hF:=hd hM;clear ha Hl hf hh c0 HF hM;cases ok
    case false =>
     have hG:Hid (jCX ⟨a,Hm,cols⟩ rows ak=aE 9):=by show _=_;rw[h0.o,hV.o];rfl
     go_wp2_with fail;refine(jG0 9 _ (by omega) (by omega) (HT.o.below hF.o)).mono ?_;rintro e w3 ⟨rfl,Hs⟩;have he:=(Hs.block (w.heap.size+1) (by omega)).trans hj.o;obtain⟨d0,d1,d2,d3,d4,d5,d6⟩:=jQI he;obtain⟨f0,f1,f2,f3,f4,f5,f6⟩:=jQy he;have He:=Hs.size;have hC:=hd Hs;have Hf:w.heap.size+1<w3.heap.size:=by omega
     clear Hs he;unfold az;go_wp2;refine cp (v:=.agg (az (aE 9) (.slice none 0 0) (.slice none 0 0) (.slice none 0 0))) (by simp[results,Tryz.results77,go_sem,az, *]) rfl ⟨_,_,_,by rw[hG.o],by rw[hG.o];exact jBx.none _ _ rfl rfl rfl,?_⟩;exact jQu (hF.o.trans (hC.o.mono (by omega))) (by omega) _ _ _ _ _ _ _
    case true =>
     have h8:Hid (jAd cols ak rows []=jAd cols ak (rows.drop (k+1)) (acc++[Hk])):=hV.o;obtain⟨HE,ho,HA⟩:=hB.o.below hZ.o;have h1:HE.length=acc.length:=by have:=ho.1;omega
     have h6:=hd h1;have hN:=hd (ho.alloc (.cells #[.slice no Hk.length Ho] 138));have Ha:=hd HA;clear ho HA h1 hV;go_wp2_with (at_builtin;refine cT _ rfl (.tmp 31) (.tmp 33) 95 rfl w1.heap.size 138 i0 _ 1 24 Tryz.underlying95 hi HK HL HM rfl (by decide) _ acc.length HE rfl hN.o ⟨wc.heap.size,0,none⟩ 1 1 [.slice no Hk.length Ho] rfl rfl (by exact jQN wc _ _ _ rfl rfl) (by intro u hu;simp at hu;subst hu;rfl) (by decide) (by unfold maxLen;omega) (by omega) (by simp;omega) _ rfl ?_;intro gg Hu w3 Hq Hn Hx HH;have h7:=hd Hq;have hS:=hd Hn;clear Hq Hn Hx);have hO:Below wc.heap.size wc (wc.alloc (.cells #[.slice no Hk.length Ho] 138)):=bA
     have hw:aQ w1.heap.size w3 (.slice (some ⟨gg,0,none⟩) (acc.length+1) Hu) (acc++[Hk]) :=
      aQ.snoc h7.o h6.o (fun i r hi=>let ⟨x,h4,h5⟩:=Ha.o i r hi;⟨x,h4,(h5.below hO).grown hN.o hS.o⟩) ((ht.o.row.below hO).grown hN.o hS.o)
     have hK:Below w1.heap.size w1 w3 :=
      (HB.o.trans (hZ.o.mono Hg)).trans ((cS (B':=w1.heap.size) hO (by omega)).trans (Tch.aO hS.o (fun k hk=>(hN.o.lt k hk).1) (by simp;omega)))
     have hW:=hd hw;have hQ:=hd hK;clear hO hw hK;go_roundw
     case rel =>
      have CL:k+1<=rows.length/\Value.int .i64 ((k:Int)+1)=.int .i64 ((k+1:Nat):Int)/\(acc++[Hk]).length=k+1/\aQ w1.heap.size w3 (.slice (some ⟨gg,0,none⟩) (acc.length+1) Hu) (acc++[Hk])/\Hid (jAd cols ak rows []=jAd cols ak (rows.drop (k+1)) (acc++[Hk]))/\Below w1.heap.size w1 w3 :=
       ⟨by omega,by go_num,by rw[cg,dc,h3.o],hW.o,h8,hQ.o⟩
      first
       | exact⟨k+1,acc++[Hk],CL⟩
       | ((repeat apply Exists.intro);exact⟨⟨k+1,acc++[Hk],CL⟩,rfl⟩)
     case measure=>simp[intOf];omega
  have hG:Hid (jCX ⟨a,Hm,cols⟩ rows ak=⟨jAH acc.length,false,⟨a,Hm,cols⟩,acc,[]⟩):=by show _=_;rw[h0.o,hr.o,cD (by omega)];rfl
  have hf:=(HB.o.block (w.heap.size+1) (by omega)).trans hD.o;have hj:=hd hf;have hL:Below w.heap.size w wr:=hY.trans (HB.o.mono (by omega));have hx:=hd hL;clear hr hf hL;have hm:=(HB.o.block (w.heap.size) (by omega)).trans hR.o;obtain⟨HO,HQ,HR,-,-,-⟩:=jFd hm;have hE:=hd hm;have h2:w.heap.size<wr.heap.size:=by omega
  obtain⟨wo,rfl⟩:∃wo:World,wo=wr:=⟨_,rfl⟩;clear hm a0 a1;go_wp2
  go_region_with (go_at_call 109;refine(jII acc.length _ (by omega) (by omega) (HT.o.below hx.o.drew)).mono ?_;rintro e w3 ⟨rfl,Hs⟩;have hl:Below wo.heap.size wo w3:=(cB bR).trans Hs;have he:=(hl.block (w.heap.size+1) (by omega)).trans hj.o;obtain⟨d0,d1,d2,d3,d4,d5,d6⟩:=jQI he;obtain⟨f0,f1,f2,f3,f4,f5,f6⟩:=jQy he;obtain⟨p0,p1,p2,-,-,-⟩:=jFd ((hl.block w.heap.size h2).trans hE.o);have He:=hl.size;have hC:=hd hl;have hq:=hd he;have Hf:w.heap.size+1<w3.heap.size:=(by omega);have Hi:w.heap.size<w3.heap.size:=(by omega);clear Hs hl he)
  all_goals(try go_wp2)
  all_goals
   refine cp (v:=.agg (az ⟨jAH acc.length,false,⟨a,Hm,cols⟩,acc,[]⟩ (.slice q1 cols.length c1) (.slice xo acc.length xc) (.slice none 0 0))) (by simp[results,Tryz.results77,go_sem,az,Sq.ar, *]) rfl ⟨_,_,_,by rw[hG.o],?_,?_⟩
   ·rw[hG.o];refine⟨aX.o ((HC.o.below hx.o).below hC.o) hq.o (by decide) (fun g hg=>jQl _ _ _ _ _ _ _ _ _ hg),?_,cu _ _ _ _,by show acc.length<=_;omega,by simp⟩;exact aQ.base (aQ.o (hB.o.below hC.o) hq.o (by decide) (by decide) (fun g hg=>jQl _ _ _ _ _ _ _ _ _ hg)) zR
   exact jQu (hx.o.trans (hC.o.mono (by omega))) (by omega) _ _ _ _ _ _ _
theorem Sq.jWC (cols l:List Col)(k:Nat)(h:k<l.length):jDH cols (l.drop k) k=if Sq.find cols l[k].name != (k:Int) then true else jDH cols (l.drop (k+1)) ((k:Int)+1):=by
 rw[cr h,jDH]
theorem jZz (cols:List Col)(cv:Value)(w:World)(h:aX w cv cols) :
  Calls Tryz.prog 107 #[cv] w fun e w'=>e=.returned (.bool (jEe cols))/\w'=w:=by
 obtain⟨ao,cap,rfl⟩:=jQa h.1;have hl:=h.2;have H:=hd h;clear h;go_enter Tryz.func107,Tryz.ntmps107;go_wp2
 go_loop [3] (fun i=>∃k:Nat,k<=cols.length/\i=.int .i64 k/\Hid (jEe cols=jDH cols (cols.drop k) k)) (fun i=>cols.length-(intOf i).toNat)
 case atStart=>exact⟨0,zR,rfl,rfl⟩
 case round =>
  obtain⟨k,hk,rfl,hr⟩:=hrel
  by_cases hlt:k<cols.length
  ·obtain⟨g,hh,hv,hg,hc⟩:=jCc (f:=Col.cells) (fun _=>rfl) H.o.1 k hlt;obtain⟨rfl,-,rfl⟩:=sI hv;have c0:=hc 0 (.string cols[k].name) (by decide) rfl;simp only[dB] at c0;have hs:=Sq.jWC cols cols k hlt;obtain⟨nm,hb⟩:∃x,x=cols[k].name:=⟨_,rfl⟩;rw[<-hb] at c0 hs;have ha:=Sq.jVe cols nm;obtain⟨f,hf⟩:∃x,x=Sq.find cols nm:=⟨_,rfl⟩;rw[<-hf] at hs ha;have HF:=hd hf;have HS:=hd hs;clear hc hs hb hf;cases he:f != (k:Int)
   ·have HR:Hid (jEe cols=jDH cols (cols.drop (k+1)) ((k:Int)+1)):=by show _=_;rw[hr.o,HS.o,he];rfl
    clear hr HS;go_wp2_with (go_at_call 148;refine(jFS cols _ nm _ H.o.1 hl).mono ?_;rintro e w' ⟨rfl,rfl⟩;rw[<-HF.o]);go_round
    case rel=>exact⟨k+1,by omega,by go_num,HR⟩
    case measure=>simp[intOf];omega
   have HR:Hid (jEe cols=true):=by show _=_;rw[hr.o,HS.o,he];rfl
   clear hr HS;go_wp2_with (go_at_call 148;refine(jFS cols _ nm _ H.o.1 hl).mono ?_;rintro e w' ⟨rfl,rfl⟩;rw[<-HF.o]);go_ret;exact⟨by rw[HR.o];rfl,rfl⟩
  have HR:Hid (jEe cols=false):=by show _=_;rw[hr.o,cD (by omega)];rfl
  clear hr;go_wp2;go_ret;exact⟨by rw[HR.o];rfl,rfl⟩
end
section
open Go.RowKit
variable {Z:Nat->Prop}
theorem jLn {f:α->Sq.Head}{G:α->Prop}{g:α->Trl->List Ent×Trl}{P:Ent->Prop}(hg:∀c tr,G c->∀e∈(g c tr).1,P e)(lo hi:Int):∀(l:List α) (x:List Ent×Trl),(∀c∈l,G c)->(∀e∈x.1,P e)->∀e∈(jBd f g lo hi l x).1,P e
 | [],_,_,hx=>hx
 | c::r,x,hl,hx=>by
  rw[jBd]
  split
  ·refine jLn hg lo hi r _ (fun d hd=>hl d (cY _ hd)) fun e he=>?_
   rcases List.mem_append.1 he with he | he
   ·exact hx e he
   exact hg c x.2 (hl c (dh ..)) e he
  exact jLn hg lo hi r x (fun d hd=>hl d (cY _ hd)) hx
theorem jLm (lo hi:Int):∀(n:Nat) (t:Sq.Nd n) (tr:Trl),aT K n t->∀e∈(Sq.jAW n t lo hi tr).1,lo<=e.place/\e.place<=hi/\e.row.size<=300
 | 0,t,tr,h=>by
  refine jLn (G:=fun _=>True) (fun c=>c.elim) lo hi _ _ (fun _ _=>trivial) fun e he=>?_
  have h1:=List.mem_filter.1 he;have h2:lo<=e.place/\e.place<=hi:=by simpa[jBQ] using h1.2
  exact⟨h2.1,h2.2,h.at0.row e h1.1⟩
 | n+1,t,tr,h=>by
  refine jLn (G:=aT K n) (fun c tr hc=>jLm lo hi n c tr hc) lo hi _ _ h.at1.each fun e he=>?_
  have h1:=List.mem_filter.1 he;have h2:lo<=e.place/\e.place<=hi:=by simpa[jBQ] using h1.2
  exact⟨h2.1,h2.2,h.at1.row e h1.1⟩
theorem jMR {o:Nat}(hb:w.heap[tb]?=some (.cells c 74))(x:Value):jDL 74 w (w.setCell ⟨tb,o,none⟩ x):=by
 intro q cq e fr hq he;refine jQg fun e2=>?_
 subst e2;rw[hb] at hq;simp only[Option.some.injEq,Obj.cells.injEq] at hq;exact he hq.2.1.symm
theorem bk.jVA {tr:Trl}(h:bk tb w tr):bk tb (w.setCell ⟨tb,0,none⟩ (.bool true)) ⟨true,tr.bc⟩/\aA tb w (w.setCell ⟨tb,0,none⟩ (.bool true))/\jDL 74 w (w.setCell ⟨tb,0,none⟩ (.bool true))/\w.cell? ⟨tb,0,none⟩=some (.bool tr.lost)/\w.frozen? ⟨tb,0,none⟩=false:=by
 obtain⟨v,hb,ha⟩:=h.row;refine⟨⟨⟨v,by rw[jQf hb];rfl,jQ1 (jMR hb _) (by decide) ha⟩,h.few⟩,⟨cj (B:=tb) bR nR _,fun q c e fr hq h1 h2=>jMR hb _ q c e fr hq h2⟩,jMR hb _,by rw[jQb hb];rfl,jQd hb 0⟩
theorem jBk.keeps {e0:TypeId}{l:List (bQ×Value)}(h:jBk B w v l)(k:jDL e0 w w')(h1:94≠e0)(h2:205≠e0):jBk B w' v l:=⟨jQ1 k h1 h.own,fun x hx=>⟨jQ1 k h2 (h.each x hx).1,(h.each x hx).2⟩,h.few⟩
theorem Tryz.jKB:(Tryz.prog.info? 94).map (fun i=>(i.zero,i.size,i.bytes))=some (some (.agg #[.int .i64 0,.string ⟨#[]⟩,.slice none 0 0]),3,48):=by kernel_rfl
theorem jVN {ops:Array Oper}{rest:List Oper}{Q:Exit->Act->World->Prop}(hp:o.guard=none)(sl x:Operand)
  (ho:o.op=.call { callee:=.builtin .append,args:=#[sl,x],argTypes:=#[122,122] }) (B:Nat) (v:Value) (l:List (bQ×Value)) (hs:a.eval sl=v) (hb:jBk B w v l)
  (t:bQ) (cv:Value) (g cc:Nat) (hx:a.eval x=.slice (some ⟨g,0,none⟩) 1 cc) (hg:w.cell? ⟨g,0,none⟩=some (.int .i64 t.number)) (hj:w.cell? ⟨g,1,none⟩=some (.string t.name)) (hn:w.cell? ⟨g,2,none⟩=some cv) (hf:aX w cv t.cols) (h1:l.length+1<=1000) (hB:B<=w.heap.size)
  (h:∀v' w',jBk B w' v' (l++[(t,cv)])->Below B w w'->jDL 94 w w'->wpList Tryz.prog ops Q rest (a.put o.dst v') w'):wpList Tryz.prog ops Q (o::rest) a w:=by
 obtain⟨i0,hi,ht,hv,hz⟩:=cV Tryz.jKB;have ha:cv.oneCell'=true:=by obtain⟨ao,cap,hh⟩:=jQa hf.1;rw[hh];rfl
 refine cT _ hp sl x 122 ho B 94 i0 _ 3 48 Tryz.underlying122 hi ht hv hz rfl (by decide) v l.length _ hs hb.own ⟨g,0,none⟩ 1 cc (jDl (t,cv)) hx rfl (by
  intro j u hu;rw[jFp]
  match j,hu with
  | 0,hu=>simp[jDl] at hu;subst hu;exact hg
  | 1,hu=>simp[jDl] at hu;subst hu;exact hj
  | 2,hu=>simp[jDl] at hu;subst hu;exact hn
  | j+3,hu=>simp[jDl] at hu) (by intro u hu;simp[jDl] at hu;rcases hu with rfl | rfl | rfl<;>first | rfl | exact ha) (by decide) (by unfold maxLen;omega) (by omega) hB _ rfl ?_
 intro g' cap w' hr hc _ _;refine h _ w' ⟨?_,?_,?_⟩ (Tch.aO hc (fun k hk=>(World.ownsRow.lt hb.own k hk).1) hB) (fun q c e fr hq he=>hc.block q (jQe hq) (fun e2=>jQm hb.own hq (fun e3=>he e3.symm) e2.symm))
 ·rw[cg,cN];simpa using hr
 ·intro y hy;rcases List.mem_append.1 hy with hy | hy
  ·exact⟨jQx (hb.each y hy).1 hb.own (by decide) hc,(hb.each y hy).2⟩
  simp at hy;subst hy;exact⟨jQx hf.1 hb.own (by decide) hc,hf.2⟩
 rw[cg];exact h1
theorem Sq.jZD (es:List Ent)(k:Nat)(h:k<es.length):(es.take (k+1)).filterMap jBI=(es.take k).filterMap jBI++(jBI es[k]).toList:=by
 rw[cI h,List.filterMap_append];cases h2:jBI es[k]<;>simp[h2]
theorem jUA (es:List Ent)(p:Ent->Bool)(k:Nat)(h:k<es.length):(es.take (k+1)).any p=((es.take k).any p || p es[k]):=by
 rw[cI h,List.any_append];simp
def jGe (tb:Nat)(x:List bQ×Trl)(w:World)(e:Ending)(w':World):Prop:=∃v l,e=.returned v/\l.map Prod.fst=x.1/\jBk 0 w' v l/\bk tb w' x.2/\aA tb w w'
theorem jZG (hh:Sq.Head)(ev cv:Value)(es:List Ent)(tb:Nat)(h6:Trl)(w:World)(Hs:∃a k c,ev=.slice a k c)(Hr:∃a k c,cv=.slice a k c)(HB:tb<w.heap.size)(Hw:es.length<=900)(h9:∀e∈es,e.row.size<=1000/\0<=e.place)
  (h4:∀w',Below w.heap.size w w'->Calls Tryz.prog 103 #[.agg (ae hh ev cv).toArray,.int .i64 (placeOf 0 (-2147483648)),.int .i64 (placeOf 0 2147483647),.pointer (some ⟨tb,0,none⟩)] w' (jEU tb (es,h6) w')) :
  Calls Tryz.prog 69 #[.agg (ae hh ev cv).toArray,.pointer (some ⟨tb,0,none⟩)] w (jGe tb (es.filterMap jBI,Sq.jBh (es.any fun e=>(jBI e).isNone) h6) w):=by
 obtain⟨e1,e2,e3,rfl⟩:=Hs;obtain⟨c1,c2,c3,rfl⟩:=Hr;rw[jQc] at h4 ⊢;have HK:=hd h4;have hP:=hd h9;obtain⟨W,hW⟩:∃W:World,W=w.alloc (.cells #[.bool hh.inner,.slice e1 e2 e3,.slice c1 c2 c3,.int .i64 hh.least,.int .i64 hh.rows,.string hh.sl,.int .i64 hh.num] 91):=⟨_,rfl⟩;have hF:Below w.heap.size w W:=by rw[hW];exact bA
 have hl:W.heap[w.heap.size]?=some (.cells #[.bool hh.inner,.slice e1 e2 e3,.slice c1 c2 c3,.int .i64 hh.least,.int .i64 hh.rows,.string hh.sl,.int .i64 hh.num] 91):=by rw[hW];exact jQi w _
 obtain⟨k0,k1,k2,k3,k4,k5,k6⟩:=jQq hl;have h1:=jQe hl;have hC:=hd hF;clear hF hl h4 h9;go_enter Tryz.func69,Tryz.ntmps69;go_wp2;rw[<-hW];clear hW
 go_cut [5] from 12 (fun v wx=>aM 0 wx v es/\bk tb wx h6/\aA tb w wx)
 case first =>
  go_region_with (first
   | (go_at_call 104;refine(jI9 _ _ _ (by omega) (by omega) (by omega) (by omega)).mono ?_;rintro e w5 ⟨rfl,Ha⟩;rw[Ha];clear Ha w5)
   | (go_at_call 103;refine(HK.o _ hC.o.drew).mono ?_;rintro e w5 ⟨v5,rfl,Hh,-,Ho,Hi⟩;have hN:Hid (aA tb w w5):=(aA.of hC.o.drew (by omega)).trans Hi;have hS:=hd Ho;have hJ:=hd (Hh.base zR);clear Hi Ho Hh))
  all_goals(try go_wp2_with fail)
  all_goals go_meet
  all_goals exact⟨hJ.o,hS.o,hN.o⟩
 case rest =>
  obtain⟨Hc,He,Hd⟩:=hcut;obtain⟨ao,Hp,rfl⟩:=jQa Hc;obtain⟨w1,rfl⟩:∃w1:World,w1=wc:=⟨_,rfl⟩;have hK:=hd Hc;have hQ:=hd He;have hL:=hd Hd;have hZ:=Hd.jBC;have hX:=He.lt;clear Hc He Hd k0 k1 k2 k3 k4 k5 k6 HK;go_wp2
  go_loopw [6,7] (fun v i wr=>∃(k:Nat) (l:List (bQ×Value)),i=.int .i64 k/\k<=es.length/\l.length<=k/\jBk w1.heap.size wr v l/\bk tb wr (Sq.jBh ((es.take k).any fun e=>(jBI e).isNone) h6)/\aA tb w1 wr/\Hid (l.map Prod.fst=(es.take k).filterMap jBI)) (fun _ i _=>es.length-(intOf i).toNat)
  case atStart=>exact⟨0,[],rfl,zR,nR,⟨cu _ _ _ _,fun x hx=>by simp at hx,by simp⟩,by rw[show Sq.jBh ((es.take 0).any fun e=>(jBI e).isNone) h6=h6 by simp[Sq.jBh]];exact hQ.o,aA.refl _ _,rfl⟩
  case round =>
   obtain⟨k,l,rfl,hk,Hz,hT,ht,hf,HQ⟩:=hrel;obtain⟨wo,rfl⟩:∃wo:World,wo=wr:=⟨_,rfl⟩;obtain⟨lo,Hv,rfl⟩:=jQa hT.own;have HT:=hd hT;have ho:=hd ht;have HF:=hd hf;have h2:=hf.jBC;have h3:=ht.lt
   by_cases hkt:k<es.length
   ·obtain⟨g,Hq,hv,hg,d0,d1⟩:=(hK.o.bX hf).at k hkt;obtain⟨rfl,-,rfl⟩:=sI hv;have hm:=hP.o es[k] (cJ hkt);have hq:=Sq.jZD es k hkt;have ha:=jUA es (fun e=>(jBI e).isNone) k hkt;rw[<-HQ.o] at hq;obtain⟨lb,Hn⟩:∃lb,lb=(es.take k).any fun e=>(jBI e).isNone:=⟨_,rfl⟩
    rw[<-Hn] at ha ho;clear HQ hT ht hf Hn;generalize es[k]=x at *;obtain⟨xp,xr⟩:=x;simp only at d0 d1 hm hq ha;obtain⟨Ht,Hu⟩:=hm;have HQ:=hd hq;have HA:=hd ha;have i1:(k:Int)<(es.length:Int):=by omega
    have i2:¬((es.length:Int)<=(k:Int)):=by omega
    have i0:¬((k:Int)<0):=by omega
    have hb:jBI ⟨xp,xr⟩=((jBt xr).map fun x=>(⟨jCu xp,x.1,x.2⟩:bQ)).bind fun t=>if 1<=t.number/\t.number<=5 then some t else none:=rfl
    have hp:∀y,jBt xr=some y->y.2.length<=4:=fun y hy=>Sq.jPI hy
    have hE:=hd hb;clear hq ha hb;go_wp2_with fail;refine(jR4 xp _ Hu).mono ?_;rintro e w5 ⟨rfl,Ha⟩;rw[Ha];clear Ha w5;go_wp2_with fail;refine(jXU xr _ Ht).mono ?_;rintro e w2 ⟨tv,rfl,h7,h8⟩;have hn:=hd (HT.o.below h8);have hc:=hd (ho.o.below h8);have hr:Hid (aA tb w1 w2):=HF.o.trans (aA.of h8 (by omega));have h0:=h8.size;obtain⟨Hb,h5,rfl⟩:=jQa h7;have hb:=hE.o;clear h8 d0 d1 hE HT ho HF hg;obtain⟨q,hq⟩:∃q,q=jCu xp:=⟨_,rfl⟩;rw[<-hq] at hb ⊢;clear hq;obtain⟨Hk,Hl,Hm,Hx,Hy⟩:=hc.o.jVA;have hs:=hd Hk;have hu:=hd Hl;have hw:=hd Hm;have hY:=hc.o.lt;clear Hk Hl Hm;have he:∀b:Bool,(⟨true,(Sq.jBh lb h6).bc⟩:Trl)=Sq.jBh (lb || true) h6:=fun _=>by simp[Sq.jBh]
    generalize jBt xr=tt at *;cases tt with
    | none =>
     have hi:Hid (l.map Prod.fst=(es.take (k+1)).filterMap jBI):=by show _=_;rw[HQ.o,hb];simp
     have hj:Hid (((es.take (k+1)).any fun e=>(jBI e).isNone)=(lb || true)):=by show _=_;rw[HA.o,hb];rfl
     clear hb h7 hp;go_wp2;go_roundw;exact⟨k+1,l,by go_num,by omega,by omega,hn.o.keeps hw.o (by decide) (by decide),by rw[hj.o,<-he true];exact hs.o,hr.o.trans hu.o,hi⟩;simp[intOf];omega
    | some y =>
     obtain⟨yn,yc⟩:=y;have hV:=hp _ rfl;simp only[Option.map_some,dM] at hb
     by_cases hq1:1<=q
     ·have j1:decide (q<1)=false:=by simp;omega
      by_cases hq5:q<=5
      ·have j2:decide (5<q)=false:=by simp;omega
       have hi:Hid ((es.take (k+1)).filterMap jBI=l.map Prod.fst++[⟨q,yn,yc⟩]):=by show _=_;rw[HQ.o,hb];simp[hq1,hq5]
       have hj:Hid (((es.take (k+1)).any fun e=>(jBI e).isNone)=lb):=by show _=_;rw[HA.o,hb];simp[hq1,hq5]
       have hD:Hid (aX w2 (.slice Hb yc.length h5) yc):=⟨jQj h7 zR,by simp only at hV;omega⟩;clear hb h7 hp HQ;have hA:Below w2.heap.size w2 (w2.alloc (.cells #[.int .i64 q,.string yn,.slice Hb yc.length h5] 94)):=bA;have hR:=hd (hn.o.below hA);have hI:=hd (hD.o.below hA);have hz:=hd (hc.o.below hA);have hM:Hid (aA tb w1 (w2.alloc (.cells #[.int .i64 q,.string yn,.slice Hb yc.length h5] 94))):=hr.o.trans (aA.of hA (by omega));clear hn hD hA hs hu hw;go_wp2_with (at_builtin;refine jVN rfl (.tmp 53) (.tmp 58) rfl w1.heap.size _ l rfl hR.o ⟨q,yn,yc⟩ (.slice Hb yc.length h5) w2.heap.size 1 rfl (by simp[go_sem]) (by simp[go_sem]) (by simp[go_sem]) hI.o (by omega) (by simp;omega) ?_;intro v7 w7 Hf Hg Hj;have hU:=hd Hf;have hH:=hd Hg;have hO:=hd Hj;clear Hf Hg Hj);go_roundw;exact⟨k+1,l++[(⟨q,yn,yc⟩,.slice Hb yc.length h5)],by go_num,by omega,by rw[cg];show l.length+1<=_;omega,hU.o,by rw[hj.o];exact hz.o.keeps hO.o (by decide) (by decide),hM.o.grow hH.o (by omega),by show _=_;rw[hi.o,cR];rfl⟩;simp[intOf];omega
      have j2:decide (5<q)=true:=by simp;omega
      have hi:Hid (l.map Prod.fst=(es.take (k+1)).filterMap jBI):=by show _=_;rw[HQ.o,hb];simp[hq5]
      have hj:Hid (((es.take (k+1)).any fun e=>(jBI e).isNone)=(lb || true)):=by show _=_;rw[HA.o,hb];simp[hq5]
      clear hb h7 hp;go_wp2;go_roundw;exact⟨k+1,l,by go_num,by omega,by omega,hn.o.keeps hw.o (by decide) (by decide),by rw[hj.o,<-he true];exact hs.o,hr.o.trans hu.o,hi⟩;simp[intOf];omega
     have j1:decide (q<1)=true:=by simp;omega
     have hi:Hid (l.map Prod.fst=(es.take (k+1)).filterMap jBI):=by show _=_;rw[HQ.o,hb];simp[hq1]
     have hj:Hid (((es.take (k+1)).any fun e=>(jBI e).isNone)=(lb || true)):=by show _=_;rw[HA.o,hb];simp[hq1]
     clear hb h7 hp;go_wp2;go_roundw;exact⟨k+1,l,by go_num,by omega,by omega,hn.o.keeps hw.o (by decide) (by decide),by rw[hj.o,<-he true];exact hs.o,hr.o.trans hu.o,hi⟩;simp[intOf];omega
   have i1:¬((k:Int)<(es.length:Int)):=by omega
   have hG:es.take k=es:=cL (by omega);have hq:=HQ.o;have hB:=ho.o;rw[hG] at hq hB;have hi:=hd hq;have hc:=hd hB;clear hT ht hf HQ hG hq hB ho;go_wp2;go_ret;exact⟨_,l,rfl,hi.o,HT.o.base zR,hc.o,hL.o.trans HF.o⟩
theorem jZH (K:Int)(hK:K<=99999)(X:Sq.aj)(ev cv:Value)(tb:Nat)(tr:Trl)(w:World)(h:ag Z w X.d X.t ev cv)(hf:aT K X.d X.t)(hc:Sq.jAx X.d X.t<=900)(ht:bk tb w tr)(hr:Sq.aS K tr) :
  Calls Tryz.prog 69 #[.agg (ae X.head ev cv).toArray,.pointer (some ⟨tb,0,none⟩)] w (jGe tb (Sq.bH X tr) w):=by
 have h1:=jLm (K:=K) (placeOf 0 (-2147483648)) (placeOf 0 2147483647) X.d X.t tr hf;have h2:=Sq.jHU X.d X.t (placeOf 0 (-2147483648)) (placeOf 0 2147483647) tr hf hr
 exact jZG X.head ev cv _ tb _ w (ag.aG h).1 (ag.aG h).2 ht.lt (cm h2.2 hc) (fun e he=>⟨by have:=(h1 e he).2.2;omega,(by
  have ha:=(h1 e he).1;have hb:placeOf 0 (-2147483648)=0:=(by decide);omega)⟩) (fun w' hb=>jMW K hK _ _ tb X.d X.t ev cv tr w' (h.below hb) hf hc (ht.below hb) hr)
end
section
open Go.RowKit
def jFu (w:World)(x:Option bQ)(e:Ending)(w':World):Prop :=
 ∃cv,e=.returned (.tuple #[.agg #[.int .i64 (x.getD jCh).number,.string (x.getD jCh).name,cv],.bool x.isSome])/\aX w' cv (x.getD jCh).cols/\Below w.heap.size w w'
theorem Sq.jY3 (l:List bQ)(n:BA)(k:Nat)(h:k<l.length):jBE n (l.drop k)=if l[k].name.toList==n.toList then some l[k] else jBE n (l.drop (k+1)):=by
 rw[cr h,jBE]
def jMg (w:World)(b:Nat)(x0 x1 x2:Value):World:=((w.setCell ⟨b,0,none⟩ x0).setCell ⟨b,1,none⟩ x1).setCell ⟨b,2,none⟩ x2
theorem jYB (w:World)(b:Nat)(x0 x1 x2:Value)(h:g≠b):(jMg w b x0 x1 x2).heap[g]?=w.heap[g]?:=by
 unfold jMg;rw[jQg h,jQg h,jQg h]
theorem jRF (hb:Below B W w)(h:B<=b)(x0 x1 x2:Value):Below B W (jMg w b x0 x1 x2):=by
 unfold jMg;exact cj (B:=B) (cj (B:=B) (cj (B:=B) hb h _) h _) h _
theorem jRt (l:List (bQ×Value))(lv:Value)(nm:BA)(w:World)(h:jBk 0 w lv l) :
  Calls Tryz.prog 72 #[lv,.string nm] w (jFu w (jBE nm (l.map Prod.fst))):=by
 obtain⟨ao,hn,rfl⟩:=jQa h.own;have hl:=h.few;obtain⟨W,hW⟩:∃W:World,W=w.alloc (.cells #[.int .i64 0,.string ⟨#[]⟩,.slice none 0 0] 94):=⟨_,rfl⟩;have hh:Below w.heap.size w W:=by rw[hW];exact bA
 have ha:W.heap[w.heap.size]?=some (.cells #[.int .i64 0,.string ⟨#[]⟩,.slice none 0 0] 94):=by rw[hW];exact jQi _ _
 obtain⟨b0,b1,b2,f0,f1,f2⟩:=jFd ha;have hz:=jQe ha;have H:=hd (h.below hh);have hj:=hd hh;have hf:=hd ha;clear h hh ha;go_enter Tryz.func72,Tryz.ntmps72;go_wp2;rw[<-hW];clear hW
 go_loopw [6] (fun i wr=>∃k:Nat,k<=l.length/\i=.int .i64 k/\wr=W/\Hid (jBE nm (l.map Prod.fst)=jBE nm ((l.map Prod.fst).drop k))) (fun i _=>l.length-(intOf i).toNat)
 case atStart=>exact⟨0,zR,rfl,rfl,rfl⟩
 case round =>
  obtain⟨k,hk,rfl,rfl,hr⟩:=hrel
  by_cases hlt:k<l.length
  ·obtain⟨g,ho,ca,cc,hv,hg,c0,c1,c2,hc⟩:=H.o.at k hlt;obtain⟨rfl,-,rfl⟩:=sI hv;have hi:=Sq.jY3 (l.map Prod.fst) nm k (by simpa using hlt);rw[da] at hi;have hb:=hr.o;rw[hi] at hb;clear hr hi;generalize l[k].1=x at *;obtain⟨xn,xm,xc⟩:=x;simp only at c0 c1 c2 hc hb;have HC:=hd hc;have i1:(k:Int)<(l.length:Int):=by omega
   have i2:¬((l.length:Int)<=(k:Int)):=by omega
   have i0:¬((k:Int)<0):=by omega
   clear hc;cases he:xm.toList==nm.toList
   case false =>
    have HR:Hid (jBE nm (l.map Prod.fst)=jBE nm ((l.map Prod.fst).drop (k+1))):=by show _=_;rw[hb,he];rfl
    clear hb;go_wp2;go_roundw;exact⟨k+1,by omega,by go_num,by first | rfl | trivial,HR⟩;simp[intOf];omega
   case true =>
    have HR:Hid (jBE nm (l.map Prod.fst)=some ⟨xn,xm,xc⟩):=by show _=_;rw[hb,he];rfl
    clear hb;go_wp2;refine cp (v:=.tuple #[.agg #[.int .i64 xn,.string xm,.slice ca xc.length cc],.bool true]) (by simp[results,Tryz.results72,go_sem, *]) rfl ?_;unfold jFu;rw[HR.o];refine⟨.slice ca xc.length cc,rfl,HC.o.o hf.o (by decide) (fun g hg=>jYB _ _ _ _ _ hg),?_⟩;exact jRF hj.o nR _ _ _
  have HE:Hid (jBE nm (l.map Prod.fst)=none):=by show _=_;rw[hr.o,cD (by simp;omega)];rfl
  clear hr;go_wp2;refine cp (v:=.tuple #[.agg #[.int .i64 0,.string ⟨#[]⟩,.slice none 0 0],.bool false]) (by simp[results,Tryz.results72,go_sem, *]) rfl ?_;unfold jFu;rw[HE.o];refine⟨.slice none 0 0,rfl,⟨cu _ _ _ _,zR⟩,?_⟩;exact jRF hj.o nR _ _ _
theorem jZr (l:List bQ)(k:Nat)(h:k<l.length)(m:Int):jCi m (l.drop k)=jCi (if m<l[k].number then l[k].number else m) (l.drop (k+1)):=by
 unfold jCi;rw[cr h,de]
theorem qB1 (l:List (bQ×Value))(lv:Value)(w:World)(h:jBk 0 w lv l)(hb:∀x∈l,-2147483648<=x.1.number/\x.1.number<=2147483647) :
  Calls Tryz.prog 108 #[lv] w fun e w'=>e=.returned (.int .i64 (jCi 0 (l.map Prod.fst)+1))/\w'=w:=by
 obtain⟨ao,ho,rfl⟩:=jQa h.own;have hh:=h.few;have H:=hd h;have HB:=hd hb;clear h hb;go_enter Tryz.func108,Tryz.ntmps108;go_wp2
 go_loop [3,4] (fun m i=>∃(k:Nat) (x:Int),k<=l.length/\i=.int .i64 k/\m=.int .i64 x/\-2147483648<=x/\x<=2147483647/\Hid (jCi 0 (l.map Prod.fst)=jCi x ((l.map Prod.fst).drop k))) (fun _ i=>l.length-(intOf i).toNat)
 case atStart=>exact⟨0,0,zR,rfl,rfl,by decide,by decide,rfl⟩
 case round =>
  obtain⟨k,x,hk,rfl,rfl,hs,ht,hr⟩:=hrel
  by_cases hlt:k<l.length
  ·obtain⟨g,hp,ca,cc,hv,hg,c0,c1,c2,hc⟩:=H.o.at k hlt;obtain⟨rfl,-,rfl⟩:=sI hv;have he:=jZr (l.map Prod.fst) k (by simpa using hlt) x;rw[da] at he;have hf:=HB.o l[k] (cJ hlt);have ha:=hr.o;rw[he] at ha;obtain⟨q,hq⟩:∃q,q=l[k].1.number:=⟨_,rfl⟩;rw[<-hq] at ha hf c0;have i2:¬((l.length:Int)<=(k:Int)):=by omega
   obtain⟨hj,hn⟩:=hf;clear hr he hc hq c1 c2
   by_cases hm:x<q
   ·have j1:decide (x<q)=true:=by simpa using hm
    have HR:Hid (jCi 0 (l.map Prod.fst)=jCi q ((l.map Prod.fst).drop (k+1))):=by show _=_;rw[ha,cE hm]
    clear ha;go_wp2;go_round
    case rel=>exact⟨k+1,q,by omega,by go_num,rfl,hj,hn,HR⟩
    case measure=>simp[intOf];omega
   have j1:decide (x<q)=false:=by simpa using hm
   have HR:Hid (jCi 0 (l.map Prod.fst)=jCi x ((l.map Prod.fst).drop (k+1))):=by show _=_;rw[ha,cy hm]
   clear ha;go_wp2;go_round
   case rel=>exact⟨k+1,x,by omega,by go_num,rfl,hs,ht,HR⟩
   case measure=>simp[intOf];omega
  have HE:Hid (jCi 0 (l.map Prod.fst)=x):=by show _=_;rw[hr.o,cD (by simp;omega)];rfl
  clear hr;go_wp2;go_ret;exact⟨by rw[HE.o];rfl,rfl⟩
end
end Go.Proofs.YtahpihjialbanaaGreatDoor
