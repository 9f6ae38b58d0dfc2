import Derived.Test.YtahpihjialbanaaGreatDoorQax
import Derived.Test.YtahpihjialbanaaGreatDoorQaz
set_option linter.unusedVariables false
set_option linter.unusedSimpArgs false
set_option maxRecDepth 100000
set_option maxHeartbeats 4000000
namespace Go.Proofs.YtahpihjialbanaaGreatDoor
open Sq (Trl Ent placeOf TabN)
section
open Go.RowKit
theorem Sq.jQiu (cols l:List Sq.Col)(k:Nat)(h:k<l.length):Sq.twoFrom cols (l.drop k) k=if Sq.find cols l[k].name != (k:Int) then true else Sq.twoFrom cols (l.drop (k+1)) ((k:Int)+1):=by
 rw[List.drop_eq_getElem_cons h,Sq.twoFrom]
theorem jQoG (cols:List Sq.Col)(cv:Value)(w:World)(h:ColsAt w cv cols) :
  Calls Tryz.prog 107 #[cv] w fun e w'=>e=.returned (.bool (Sq.twoOf cols))/\w'=w:=by
 obtain⟨ao,cap,rfl⟩:=jQa h.1;have hl:=h.2;have H:=hd h;clear h;go_enter Tryz.func107,Tryz.ntmps107;go_wp2
 go_loop [3] (fun i=>∃k:Nat,k<=cols.length/\i=.int .i64 k/\Hid (Sq.twoOf cols=Sq.twoFrom cols (cols.drop k) k)) (fun i=>cols.length-(intOf i).toNat)
 case atStart=>exact⟨0,zR,rfl,rfl⟩
 case round =>
  obtain⟨k,hk,rfl,hr⟩:=hrel
  by_cases hlt:k<cols.length
  ·obtain⟨g,cap',hv,hg,hc⟩:=sl_at (f:=Sq.Col.cells) (fun _=>rfl) H.o.1 k hlt;simp only[Value.slice.injEq] at hv;obtain⟨rfl,-,rfl⟩:=hv;have c0:=hc 0 (.string cols[k].name) (by decide) rfl;simp only[Nat.add_zero] at c0;have hs:=Sq.jQiu cols cols k hlt;obtain⟨nm,hnm⟩:∃x,x=cols[k].name:=⟨_,rfl⟩;rw[<-hnm] at c0 hs;have ha:=Sq.jQp6 cols nm;obtain⟨f,hf⟩:∃x,x=Sq.find cols nm:=⟨_,rfl⟩;rw[<-hf] at hs ha;have HF:=hd hf;have HS:=hd hs;clear hc hs hnm hf;cases he:f != (k:Int)
   ·have HR:Hid (Sq.twoOf cols=Sq.twoFrom cols (cols.drop (k+1)) ((k:Int)+1)):=by show _=_;rw[hr.o,HS.o,he];rfl
    clear hr HS;go_wp2_with (go_at_call 148;refine(jQas cols _ nm _ H.o.1 hl).mono ?_;rintro e w' ⟨rfl,rfl⟩;rw[<-HF.o]);go_round
    case rel=>exact⟨k+1,by omega,by go_num,HR⟩
    case measure=>simp[intOf];omega
   ·have HR:Hid (Sq.twoOf cols=true):=by show _=_;rw[hr.o,HS.o,he];rfl
    clear hr HS;go_wp2_with (go_at_call 148;refine(jQas cols _ nm _ H.o.1 hl).mono ?_;rintro e w' ⟨rfl,rfl⟩;rw[<-HF.o]);go_ret;exact⟨by rw[HR.o];rfl,rfl⟩
  ·have HR:Hid (Sq.twoOf cols=false):=by show _=_;rw[hr.o,List.drop_eq_nil_of_le (by omega)];rfl
   clear hr;go_wp2;go_ret;exact⟨by rw[HR.o];rfl,rfl⟩
end
section
open Go.RowKit
variable {Z:Nat->Prop}
theorem jQdB {α:Type}{f:α->Sq.Head}{G:α->Prop}{g:α->Trl->List Ent×Trl}{P:Ent->Prop}(hg:∀c tr,G c->∀e∈(g c tr).1,P e)(lo hi:Int):∀(l:List α) (x:List Ent×Trl),(∀c∈l,G c)->(∀e∈x.1,P e)->∀e∈(Sq.thruL f g lo hi l x).1,P e
 | [],_,_,hx=>hx
 | c::r,x,hl,hx=>by
  rw[Sq.thruL]
  split
  ·refine jQdB hg lo hi r _ (fun d hd=>hl d (List.mem_cons_of_mem _ hd)) fun e he=>?_
   rcases List.mem_append.1 he with he | he
   ·exact hx e he
   ·exact hg c x.2 (hl c (List.mem_cons_self ..)) e he
  ·exact jQdB hg lo hi r x (fun d hd=>hl d (List.mem_cons_of_mem _ hd)) hx
theorem jQdA {K:Int}(lo hi:Int):∀(n:Nat) (t:Sq.Nd n) (tr:Trl),Sq.tameN K n t->∀e∈(Sq.thruN n t lo hi tr).1,lo<=e.place/\e.place<=hi/\e.row.size<=300
 | 0,t,tr,h=>by
  refine jQdB (G:=fun _=>True) (fun c=>c.elim) lo hi _ _ (fun _ _=>trivial) fun e he=>?_
  have h1:=List.mem_filter.1 he;have h2:lo<=e.place/\e.place<=hi:=by simpa[Sq.inSpan] using h1.2
  exact⟨h2.1,h2.2,h.at0.row e h1.1⟩
 | n+1,t,tr,h=>by
  refine jQdB (G:=Sq.tameN K n) (fun c tr hc=>jQdA lo hi n c tr hc) lo hi _ _ h.at1.each fun e he=>?_
  have h1:=List.mem_filter.1 he;have h2:lo<=e.place/\e.place<=hi:=by simpa[Sq.inSpan] using h1.2
  exact⟨h2.1,h2.2,h.at1.row e h1.1⟩
theorem jQc8 {w:World}{tb o:Nat}{c:Array Value}(hb:w.heap[tb]?=some (.cells c 74))(x:Value):Keeps 74 w (w.setCell ⟨tb,o,none⟩ x):=by
 intro q cq e fr hq he;refine jQg fun e2=>?_
 subst e2;rw[hb] at hq;simp only[Option.some.injEq,Obj.cells.injEq] at hq;exact he hq.2.1.symm
theorem TrAt.lose {tb:Nat}{w:World}{tr:Trl}(h:TrAt tb w tr):TrAt tb (w.setCell ⟨tb,0,none⟩ (.bool true)) ⟨true,tr.nums⟩/\TFrm tb w (w.setCell ⟨tb,0,none⟩ (.bool true))/\Keeps 74 w (w.setCell ⟨tb,0,none⟩ (.bool true))/\w.cell? ⟨tb,0,none⟩=some (.bool tr.lost)/\w.frozen? ⟨tb,0,none⟩=false:=by
 obtain⟨v,hb,hown⟩:=h.row;refine⟨⟨⟨v,by rw[jQe hb];rfl,jQ2 (jQc8 hb _) (by decide) hown⟩,h.few⟩,⟨Below.setCell (B:=tb) (bR) (nR) _,fun q c e fr hq h1 h2=>jQc8 hb _ q c e fr hq h2⟩,jQc8 hb _,by rw[jQb hb];rfl,jQd hb 0⟩
theorem TabsOwn.keeps {e0:TypeId}{B:Nat}{w w':World}{v:Value}{l:List (TabN×Value)}(h:TabsOwn B w v l)(k:Keeps e0 w w')(h1:94≠e0)(h2:205≠e0):TabsOwn B w' v l:=⟨jQ2 k h1 h.own,fun x hx=>⟨jQ2 k h2 (h.each x hx).1,(h.each x hx).2⟩,h.few⟩
theorem Tryz.infoTab:(Tryz.prog.info? 94).map (fun i=>(i.zero,i.size,i.bytes))=some (some (.agg #[.int .i64 0,.string ⟨#[]⟩,.slice none 0 0]),3,48):=by kernel_rfl
theorem jQdx {ops:Array Oper}{rest:List Oper}{o:Oper}{a:Act}{Q:Exit->Act->World->Prop}{w:World}(hgd:o.guard=none)(sl x:Operand)
  (ho:o.op=.call { callee:=.builtin .append,args:=#[sl,x],argTypes:=#[122,122] }) (B:Nat) (v:Value) (l:List (TabN×Value)) (hs:a.eval sl=v) (hb:TabsOwn B w v l)
  (t:TabN) (cv:Value) (g cc:Nat) (hx:a.eval x=.slice (some ⟨g,0,none⟩) 1 cc) (hc0:w.cell? ⟨g,0,none⟩=some (.int .i64 t.number)) (hc1:w.cell? ⟨g,1,none⟩=some (.string t.name)) (hc2:w.cell? ⟨g,2,none⟩=some cv) (hcv:ColsAt w cv t.cols) (h1:l.length+1<=1000) (hB:B<=w.heap.size)
  (h:∀v' w',TabsOwn B w' v' (l++[(t,cv)])->Below B w w'->Keeps 94 w w'->wpList Tryz.prog ops Q rest (a.put o.dst v') w'):wpList Tryz.prog ops Q (o::rest) a w:=by
 obtain⟨i0,hi,hz0,hz1,hz2⟩:=info_parts Tryz.infoTab;have ha:cv.oneCell'=true:=by obtain⟨ao,cap,hh⟩:=jQa hcv.1;rw[hh];rfl
 refine wpList_append_lies _ hgd sl x 122 ho B 94 i0 _ 3 48 Tryz.underlying122 hi hz0 hz1 hz2 rfl (by decide) v l.length _ hs hb.own ⟨g,0,none⟩ 1 cc (tabCells (t,cv)) hx rfl (by
  intro j u hu;rw[jQaQ]
  match j,hu with
  | 0,hu=>simp[tabCells] at hu;subst hu;exact hc0
  | 1,hu=>simp[tabCells] at hu;subst hu;exact hc1
  | 2,hu=>simp[tabCells] at hu;subst hu;exact hc2
  | j+3,hu=>simp[tabCells] at hu) (by intro u hu;simp[tabCells] at hu;rcases hu with rfl | rfl | rfl<;>first | rfl | exact ha) (by decide) (by unfold maxLen;omega) (by omega) hB _ rfl ?_
 intro g' cap w' ho' hg' _ _;refine h _ w' ⟨?_,?_,?_⟩ (Tch.of_grown hg' (fun k hk=>(World.ownsRow.lt hb.own k hk).1) hB) (fun q c e fr hq he=>hg'.block q (jQf hq) (fun e2=>jQn hb.own hq (fun e3=>he e3.symm) e2.symm))
 ·rw[List.length_append,List.flatMap_append];simpa using ho'
 ·intro y hy;rcases List.mem_append.1 hy with hy | hy
  ·exact⟨jQx (hb.each y hy).1 hb.own (by decide) hg',(hb.each y hy).2⟩
  ·simp at hy;subst hy;exact⟨jQx hcv.1 hb.own (by decide) hg',hcv.2⟩
 ·rw[List.length_append];exact h1
theorem Sq.jQoL (es:List Ent)(k:Nat)(h:k<es.length):(es.take (k+1)).filterMap Sq.tabOk=(es.take k).filterMap Sq.tabOk++(Sq.tabOk es[k]).toList:=by
 rw[List.take_succ_eq_append_getElem h,List.filterMap_append];cases h2:Sq.tabOk es[k]<;>simp[h2]
theorem jQoo (es:List Ent)(p:Ent->Bool)(k:Nat)(h:k<es.length):(es.take (k+1)).any p=((es.take k).any p || p es[k]):=by
 rw[List.take_succ_eq_append_getElem h,List.any_append];simp
def TabsSays (tb:Nat)(x:List TabN×Trl)(w:World)(e:Ending)(w':World):Prop:=∃v l,e=.returned v/\l.map Prod.fst=x.1/\TabsOwn 0 w' v l/\TrAt tb w' x.2/\TFrm tb w w'
theorem jQop (hh:Sq.Head)(ev cv:Value)(es:List Ent)(tb:Nat)(tr1:Trl)(w:World)(hev:∃a k c,ev=.slice a k c)(hcv:∃a k c,cv=.slice a k c)(htb:tb<w.heap.size)(hel:es.length<=900)(hrow:∀e∈es,e.row.size<=1000/\0<=e.place)
  (hthru:∀w',Below w.heap.size w w'->Calls Tryz.prog 103 #[.agg (headCells hh ev cv).toArray,.int .i64 (placeOf 0 (-2147483648)),.int .i64 (placeOf 0 2147483647),.pointer (some ⟨tb,0,none⟩)] w' (ThruSays tb (es,tr1) w')) :
  Calls Tryz.prog 69 #[.agg (headCells hh ev cv).toArray,.pointer (some ⟨tb,0,none⟩)] w (TabsSays tb (es.filterMap Sq.tabOk,Sq.loseIf (es.any fun e=>(Sq.tabOk e).isNone) tr1) w):=by
 obtain⟨e1,e2,e3,rfl⟩:=hev;obtain⟨c1,c2,c3,rfl⟩:=hcv;rw[jQc] at hthru ⊢;have HK:=hd hthru;have hV:=hd hrow;obtain⟨W,hW⟩:∃W:World,W=w.alloc (.cells #[.bool hh.inner,.slice e1 e2 e3,.slice c1 c2 c3,.int .i64 hh.least,.int .i64 hh.rows,.string hh.sl,.int .i64 hh.num] 91):=⟨_,rfl⟩;have hF:Below w.heap.size w W:=by rw[hW];exact(bR).alloc (nR) _
 have hj:W.heap[w.heap.size]?=some (.cells #[.bool hh.inner,.slice e1 e2 e3,.slice c1 c2 c3,.int .i64 hh.least,.int .i64 hh.rows,.string hh.sl,.int .i64 hh.num] 91):=by rw[hW];exact jQi w _
 obtain⟨k0,k1,k2,k3,k4,k5,k6⟩:=jQs hj;have h0:=jQf hj;have hE:=hd hF;clear hF hj hthru hrow;go_enter Tryz.func69,Tryz.ntmps69;go_wp2;rw[<-hW];clear hW
 go_cut [5] from 12 (fun v wx=>EntsAt 0 wx v es/\TrAt tb wx tr1/\TFrm tb w wx)
 case first =>
  go_region_with (first
   | (go_at_call 104;refine(jQb9 _ _ _ (by omega) (by omega) (by omega) (by omega)).mono ?_;rintro e w5 ⟨rfl,hw5⟩;rw[hw5];clear hw5 w5)
   | (go_at_call 103;refine(HK.o _ hE.o.drew).mono ?_;rintro e w5 ⟨v5,rfl,he5,-,ht5,hf5⟩;have hU:Hid (TFrm tb w w5):=(TFrm.of hE.o.drew (by omega)).trans hf5;have hR:=hd ht5;have hI:=hd (he5.base (zR));clear hf5 ht5 he5))
  all_goals(try go_wp2_with fail)
  all_goals go_meet
  all_goals exact⟨hI.o,hR.o,hU.o⟩
 case rest =>
  obtain⟨hce,hct,hcf⟩:=hcut;obtain⟨ao,acap,rfl⟩:=jQa hce;obtain⟨w1,rfl⟩:∃w1:World,w1=wc:=⟨_,rfl⟩;have hP:=hd hce;have hH:=hd hct;have hQ:=hd hcf;have h1:=hcf.below_lt;have hX:=hct.lt;clear hce hct hcf k0 k1 k2 k3 k4 k5 k6 HK;go_wp2
  go_loopw [6,7] (fun v i wr=>∃(k:Nat) (l:List (TabN×Value)),i=.int .i64 k/\k<=es.length/\l.length<=k/\TabsOwn w1.heap.size wr v l/\TrAt tb wr (Sq.loseIf ((es.take k).any fun e=>(Sq.tabOk e).isNone) tr1)/\TFrm tb w1 wr/\Hid (l.map Prod.fst=(es.take k).filterMap Sq.tabOk)) (fun _ i _=>es.length-(intOf i).toNat)
  case atStart=>exact⟨0,[],rfl,zR,nR,⟨World.ownsRow_nil _ _ _ _,fun x hx=>by simp at hx,by simp⟩,by rw[show Sq.loseIf ((es.take 0).any fun e=>(Sq.tabOk e).isNone) tr1=tr1 by simp[Sq.loseIf]];exact hH.o,TFrm.refl _ _,rfl⟩
  case round =>
   obtain⟨k,l,rfl,hk,hlk,hT,ht,hf,HQ⟩:=hrel;obtain⟨wo,rfl⟩:∃wo:World,wo=wr:=⟨_,rfl⟩;obtain⟨lo,lcap,rfl⟩:=jQa hT.own;have HT:=hd hT;have hn:=hd ht;have HF:=hd hf;have h2:=hf.below_lt;have hZ:=ht.lt
   by_cases hkt:k<es.length
   ·obtain⟨g,cap',hv,hg,d0,d1⟩:=(hP.o.tfrm hf).at k hkt;simp only[Value.slice.injEq] at hv;obtain⟨rfl,-,rfl⟩:=hv;have hm:=hV.o es[k] (List.getElem_mem hkt);have hq:=Sq.jQoL es k hkt;have ha:=jQoo es (fun e=>(Sq.tabOk e).isNone) k hkt;rw[<-HQ.o] at hq;obtain⟨lb,hlb⟩:∃lb,lb=(es.take k).any fun e=>(Sq.tabOk e).isNone:=⟨_,rfl⟩
    rw[<-hlb] at ha hn;clear HQ hT ht hf hlb;generalize es[k]=x at *;obtain⟨xp,xr⟩:=x;simp only at d0 d1 hm hq ha;obtain⟨hm0,hm1⟩:=hm;have HQ:=hd hq;have HA:=hd ha;have i1:(k:Int)<(es.length:Int):=by omega
    have i2:¬((es.length:Int)<=(k:Int)):=by omega
    have i0:¬((k:Int)<0):=by omega
    have hb:Sq.tabOk ⟨xp,xr⟩=((Sq.toTable xr).map fun x=>(⟨Sq.keyAt xp,x.1,x.2⟩:TabN)).bind fun t=>if 1<=t.number/\t.number<=5 then some t else none:=rfl
    have hp:∀y,Sq.toTable xr=some y->y.2.length<=4:=fun y hy=>Sq.jQd6 hy
    have hD:=hd hb;clear hq ha hb;go_wp2_with fail;refine(jQim xp _ hm1).mono ?_;rintro e w5 ⟨rfl,hw5⟩;rw[hw5];clear hw5 w5;go_wp2_with fail;refine(jQlA xr _ hm0).mono ?_;rintro e w2 ⟨tv,rfl,hcn,hb2⟩;have ho:=hd (HT.o.below hb2);have he:=hd (hn.o.below hb2);have hs:Hid (TFrm tb w1 w2):=HF.o.trans (TFrm.of hb2 (by omega));have h3:=hb2.size;obtain⟨tao,tcap,rfl⟩:=jQa hcn;have hb:=hD.o;clear hb2 d0 d1 hD HT hn HF hg;obtain⟨q,hq⟩:∃q,q=Sq.keyAt xp:=⟨_,rfl⟩;rw[<-hq] at hb ⊢;clear hq;obtain⟨hl1,hl2,hl3,hl4,hl5⟩:=he.o.lose;have hu:=hd hl1;have hw:=hd hl2;have hr:=hd hl3;have hM:=he.o.lt;clear hl1 hl2 hl3;have hc:∀b:Bool,(⟨true,(Sq.loseIf lb tr1).nums⟩:Trl)=Sq.loseIf (lb || true) tr1:=fun _=>by simp[Sq.loseIf]
    generalize Sq.toTable xr=tt at *;cases tt with
    | none =>
     have hi:Hid (l.map Prod.fst=(es.take (k+1)).filterMap Sq.tabOk):=by show _=_;rw[HQ.o,hb];simp
     have hl:Hid (((es.take (k+1)).any fun e=>(Sq.tabOk e).isNone)=(lb || true)):=by show _=_;rw[HA.o,hb];rfl
     clear hb hcn hp;go_wp2;go_roundw
     case rel=>exact⟨k+1,l,by go_num,by omega,by omega,ho.o.keeps hr.o (by decide) (by decide),by rw[hl.o,<-hc true];exact hu.o,hs.o.trans hw.o,hi⟩
     case measure=>simp[intOf];omega
    | some y =>
     obtain⟨yn,yc⟩:=y;have hS:=hp _ rfl;simp only[Option.map_some,Option.bind_some] at hb
     by_cases hq1:1<=q
     ·have j1:decide (q<1)=false:=by simp;omega
      by_cases hq5:q<=5
      ·have j2:decide (5<q)=false:=by simp;omega
       have hi:Hid ((es.take (k+1)).filterMap Sq.tabOk=l.map Prod.fst++[⟨q,yn,yc⟩]):=by show _=_;rw[HQ.o,hb];simp[hq1,hq5]
       have hl:Hid (((es.take (k+1)).any fun e=>(Sq.tabOk e).isNone)=lb):=by show _=_;rw[HA.o,hb];simp[hq1,hq5]
       have hC:Hid (ColsAt w2 (.slice tao yc.length tcap) yc):=⟨jQj hcn (zR),by simp only at hS;omega⟩;clear hb hcn hp HQ;have hA:Below w2.heap.size w2 (w2.alloc (.cells #[.int .i64 q,.string yn,.slice tao yc.length tcap] 94)):=(bR).alloc (nR) _;have hO:=hd (ho.o.below hA);have hJ:=hd (hC.o.below hA);have hB:=hd (he.o.below hA);have hK:Hid (TFrm tb w1 (w2.alloc (.cells #[.int .i64 q,.string yn,.slice tao yc.length tcap] 94))):=hs.o.trans (TFrm.of hA (by omega));clear ho hC hA hu hw hr;go_wp2_with (at_builtin;refine jQdx rfl (.tmp 53) (.tmp 58) rfl w1.heap.size _ l rfl hO.o ⟨q,yn,yc⟩ (.slice tao yc.length tcap) w2.heap.size 1 rfl (by simp[go_sem]) (by simp[go_sem]) (by simp[go_sem]) hJ.o (by omega) (by simp;omega) ?_;intro v7 w7 hT7 hb7 hk7;have hN:=hd hT7;have hL:=hd hb7;have hY:=hd hk7;clear hT7 hb7 hk7);go_roundw
       case rel=>exact⟨k+1,l++[(⟨q,yn,yc⟩,.slice tao yc.length tcap)],by go_num,by omega,by rw[List.length_append];show l.length+1<=_;omega,hN.o,by rw[hl.o];exact hB.o.keeps hY.o (by decide) (by decide),hK.o.grow hL.o (by omega),by show _=_;rw[hi.o,List.map_append];rfl⟩
       case measure=>simp[intOf];omega
      ·have j2:decide (5<q)=true:=by simp;omega
       have hi:Hid (l.map Prod.fst=(es.take (k+1)).filterMap Sq.tabOk):=by show _=_;rw[HQ.o,hb];simp[hq5]
       have hl:Hid (((es.take (k+1)).any fun e=>(Sq.tabOk e).isNone)=(lb || true)):=by show _=_;rw[HA.o,hb];simp[hq5]
       clear hb hcn hp;go_wp2;go_roundw
       case rel=>exact⟨k+1,l,by go_num,by omega,by omega,ho.o.keeps hr.o (by decide) (by decide),by rw[hl.o,<-hc true];exact hu.o,hs.o.trans hw.o,hi⟩
       case measure=>simp[intOf];omega
     ·have j1:decide (q<1)=true:=by simp;omega
      have hi:Hid (l.map Prod.fst=(es.take (k+1)).filterMap Sq.tabOk):=by show _=_;rw[HQ.o,hb];simp[hq1]
      have hl:Hid (((es.take (k+1)).any fun e=>(Sq.tabOk e).isNone)=(lb || true)):=by show _=_;rw[HA.o,hb];simp[hq1]
      clear hb hcn hp;go_wp2;go_roundw
      case rel=>exact⟨k+1,l,by go_num,by omega,by omega,ho.o.keeps hr.o (by decide) (by decide),by rw[hl.o,<-hc true];exact hu.o,hs.o.trans hw.o,hi⟩
      case measure=>simp[intOf];omega
   ·have i1:¬((k:Int)<(es.length:Int)):=by omega
    have hG:es.take k=es:=List.take_of_length_le (by omega);have hq:=HQ.o;have hz:=hn.o;rw[hG] at hq hz;have hi:=hd hq;have he:=hd hz;clear hT ht hf HQ hG hq hz hn;go_wp2;go_ret;exact⟨_,l,rfl,hi.o,HT.o.base (zR),he.o,hQ.o.trans HF.o⟩
theorem jQoq (K:Int)(hK:K<=99999)(X:Sq.NTree)(ev cv:Value)(tb:Nat)(tr:Trl)(w:World)(h:NodeAt Z w X.d X.t ev cv)(hf:Sq.tameN K X.d X.t)(hc:Sq.countN X.d X.t<=900)(ht:TrAt tb w tr)(hr:Sq.TameR K tr) :
  Calls Tryz.prog 69 #[.agg (headCells X.head ev cv).toArray,.pointer (some ⟨tb,0,none⟩)] w (TabsSays tb (Sq.tabsR X tr) w):=by
 have h1:=jQdA (K:=K) (placeOf 0 (-2147483648)) (placeOf 0 2147483647) X.d X.t tr hf;have h2:=Sq.jQaI X.d X.t (placeOf 0 (-2147483648)) (placeOf 0 2147483647) tr hf hr
 exact jQop X.head ev cv _ tb _ w (NodeAt.slices h).1 (NodeAt.slices h).2 ht.lt (Nat.le_trans h2.2 hc) (fun e he=>⟨by have:=(h1 e he).2.2;omega,(by
  have ha:=(h1 e he).1;have hb:placeOf 0 (-2147483648)=0:=(by decide);omega)⟩) (fun w' hb=>jQdh K hK _ _ tb X.d X.t ev cv tr w' (h.below hb) hf hc (ht.below hb) hr)
end
end Go.Proofs.YtahpihjialbanaaGreatDoor
