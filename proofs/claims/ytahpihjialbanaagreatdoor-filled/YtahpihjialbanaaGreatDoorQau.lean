import Derived.Test.YtahpihjialbanaaGreatDoorQar
import Derived.Test.YtahpihjialbanaaGreatDoorQat
set_option linter.unusedVariables false
set_option linter.unusedSimpArgs false
set_option maxRecDepth 100000
set_option maxHeartbeats 4000000
namespace Go.Proofs.YtahpihjialbanaaGreatDoor
section
open Go.RowKit
theorem Sq.jQh7 (cols l:List Sq.Col)(k:Nat)(h:k < l.length):Sq.twoFrom cols (l.drop k) k=if Sq.find cols l[k].name != (k:Int) then true else Sq.twoFrom cols (l.drop (k+1)) ((k:Int)+1):=by
 rw[List.drop_eq_getElem_cons h,Sq.twoFrom]
theorem jQod (cols:List Sq.Col)(cv:Value)(w:World)(h:ColsAt w cv cols) :
  Calls Tryz.prog 107 #[cv] w fun e w'=>e=.returned (.bool (Sq.twoOf cols))∧w'=w:=by
 obtain⟨ao,cap,rfl⟩:=jQa h.1
 have hl:=h.2
 have H:=hd h
 clear h
 go_enter Tryz.func107,Tryz.ntmps107
 go_wp2
 go_loop [3] (fun i=>∃k:Nat,k≤cols.length∧i=.int .i64 k∧Hid (Sq.twoOf cols=Sq.twoFrom cols (cols.drop k) k)) (fun i=>cols.length - (intOf i).toNat)
 case atStart=>exact⟨0,Nat.zero_le _,rfl,rfl⟩
 case round =>
  obtain⟨k,hk,rfl,hr⟩:=hrel
  by_cases hlt:k < cols.length
  ·obtain⟨g,cap',hv,hg,hc⟩:=sl_at (f:=Sq.Col.cells) (fun _=>rfl) H.out.1 k hlt
   simp only[Value.slice.injEq] at hv
   obtain⟨rfl,-,rfl⟩:=hv
   have c0:=hc 0 (.string cols[k].name) (by decide) rfl
   simp only[Nat.add_zero] at c0
   have hs:=Sq.jQh7 cols cols k hlt
   obtain⟨nm,hnm⟩:∃x,x=cols[k].name:=⟨_,rfl⟩
   rw[←hnm] at c0 hs
   have hfb:=Sq.jQpW cols nm
   obtain⟨f,hf⟩:∃x,x=Sq.find cols nm:=⟨_,rfl⟩
   rw[←hf] at hs hfb
   have HF:=hd hf
   have HS:=hd hs
   clear hc hs hnm hf
   cases he:f != (k:Int)
   ·have HR:Hid (Sq.twoOf cols=Sq.twoFrom cols (cols.drop (k+1)) ((k:Int)+1)):=by show _=_;rw[hr.out,HS.out,he];rfl
    clear hr HS
    go_wp2_with (go_at_call 148;refine(jQaD cols _ nm _ H.out.1 hl).mono ?_;rintro e w' ⟨rfl,rfl⟩;rw[←HF.out])
    go_round
    case rel=>exact⟨k+1,by omega,by go_num,HR⟩
    case measure=>simp[intOf];omega
   ·have HR:Hid (Sq.twoOf cols=true):=by show _=_;rw[hr.out,HS.out,he];rfl
    clear hr HS
    go_wp2_with (go_at_call 148;refine(jQaD cols _ nm _ H.out.1 hl).mono ?_;rintro e w' ⟨rfl,rfl⟩;rw[←HF.out])
    go_ret
    exact⟨by rw[HR.out];rfl,rfl⟩
  ·have HR:Hid (Sq.twoOf cols=false):=by show _=_;rw[hr.out,List.drop_eq_nil_of_le (by omega)];rfl
   clear hr
   go_wp2
   go_ret
   exact⟨by rw[HR.out];rfl,rfl⟩
end
section
open Go.RowKit
variable {Z:Nat→Prop}
theorem jQdO {α:Type}{f:α→Sq.Head}{G:α→Prop}{g:α→Sq.Trl→List Sq.Ent×Sq.Trl}{P:Sq.Ent→Prop}(hg:∀c tr,G c→∀e∈(g c tr).1,P e)(lo hi:Int):∀(l:List α) (x:List Sq.Ent×Sq.Trl),(∀c∈l,G c)→(∀e∈x.1,P e)→∀e∈(Sq.thruL f g lo hi l x).1,P e
 | [],_,_,hx=>hx
 | c :: r,x,hl,hx=>by
  rw[Sq.thruL]
  split
  ·refine jQdO hg lo hi r _ (fun d hd=>hl d (List.mem_cons_of_mem _ hd)) fun e he=>?_
   rcases List.mem_append.1 he with he | he
   ·exact hx e he
   ·exact hg c x.2 (hl c (List.mem_cons_self ..)) e he
  ·exact jQdO hg lo hi r x (fun d hd=>hl d (List.mem_cons_of_mem _ hd)) hx
theorem jQdN {K:Int}(lo hi:Int):∀(n:Nat) (t:Sq.Nd n) (tr:Sq.Trl),Sq.tameN K n t→∀e∈(Sq.thruN n t lo hi tr).1,lo≤e.place∧e.place≤hi∧e.row.size≤300
 | 0,t,tr,h=>by
  refine jQdO (G:=fun _=>True) (fun c=>c.elim) lo hi _ _ (fun _ _=>trivial) fun e he=>?_
  have h1:=List.mem_filter.1 he
  have h2:lo≤e.place∧e.place≤hi:=by simpa[Sq.inSpan] using h1.2
  exact⟨h2.1,h2.2,h.at0.row e h1.1⟩
 | n+1,t,tr,h=>by
  refine jQdO (G:=Sq.tameN K n) (fun c tr hc=>jQdN lo hi n c tr hc) lo hi _ _ h.at1.each fun e he=>?_
  have h1:=List.mem_filter.1 he
  have h2:lo≤e.place∧e.place≤hi:=by simpa[Sq.inSpan] using h1.2
  exact⟨h2.1,h2.2,h.at1.row e h1.1⟩
theorem jQdk {w:World}{tb o:Nat}{c:Array Value}(hb:w.heap[tb]?=some (.cells c 74))(x:Value):Keeps 74 w (w.setCell ⟨tb,o,none⟩ x):=by
 intro q cq e fr hq he
 refine jQe fun e2=>?_
 subst e2
 rw[hb] at hq
 simp only[Option.some.injEq,Obj.cells.injEq] at hq
 exact he hq.2.1.symm
theorem TrAt.lose {tb:Nat}{w:World}{tr:Sq.Trl}(h:TrAt tb w tr):TrAt tb (w.setCell ⟨tb,0,none⟩ (.bool true)) ⟨true,tr.nums⟩∧TFrm tb w (w.setCell ⟨tb,0,none⟩ (.bool true))∧Keeps 74 w (w.setCell ⟨tb,0,none⟩ (.bool true))∧w.cell? ⟨tb,0,none⟩=some (.bool tr.lost)∧w.frozen? ⟨tb,0,none⟩=false:=by
 obtain⟨v,hb,hown⟩:=h.row
 refine⟨⟨⟨v,by rw[jQf hb];rfl,jQZ (jQdk hb _) (by decide) hown⟩,h.few⟩,⟨Below.setCell (B:=tb) (Below.refl _ _) (Nat.le_refl _) _,fun q c e fr hq h1 h2=>jQdk hb _ q c e fr hq h2⟩,jQdk hb _,by rw[jQb hb];rfl,jQd hb 0⟩
theorem TabsOwn.keeps {e0:TypeId}{B:Nat}{w w':World}{v:Value}{l:List (Sq.TabN×Value)}(h:TabsOwn B w v l)(k:Keeps e0 w w')(h1:94≠e0)(h2:205≠e0):TabsOwn B w' v l:=⟨jQZ k h1 h.own,fun x hx=>⟨jQZ k h2 (h.each x hx).1,(h.each x hx).2⟩,h.few⟩
theorem Tryz.infoTab:(Tryz.prog.info? 94).map (fun i=>(i.zero,i.size,i.bytes))=some (some (.agg #[.int .i64 0,.string ⟨#[]⟩,.slice none 0 0]),3,48):=by kernel_rfl
theorem jQdI {ops:Array Oper}{rest:List Oper}{o:Oper}{a:Act}{Q:Exit→Act→World→Prop}{w:World}(hgd:o.guard=none)(sl x:Operand)
  (ho:o.op=.call { callee:=.builtin .append,args:=#[sl,x],argTypes:=#[122,122] }) (B:Nat) (v:Value) (l:List (Sq.TabN×Value)) (hs:a.eval sl=v) (hb:TabsOwn B w v l)
  (t:Sq.TabN) (cv:Value) (g cc:Nat) (hx:a.eval x=.slice (some ⟨g,0,none⟩) 1 cc) (hc0:w.cell? ⟨g,0,none⟩=some (.int .i64 t.number)) (hc1:w.cell? ⟨g,1,none⟩=some (.string t.name)) (hc2:w.cell? ⟨g,2,none⟩=some cv) (hcv:ColsAt w cv t.cols) (h1:l.length+1≤1000) (hB:B≤w.heap.size)
  (h:∀v' w',TabsOwn B w' v' (l++[(t,cv)])→Below B w w'→Keeps 94 w w'→wpList Tryz.prog ops Q rest (a.put o.dst v') w'):wpList Tryz.prog ops Q (o :: rest) a w:=by
 obtain⟨i0,hi,hz0,hz1,hz2⟩:=info_parts Tryz.infoTab
 have hone:cv.oneCell'=true:=by obtain⟨ao,cap,hh⟩:=jQa hcv.1;rw[hh];rfl
 refine wpList_append_lies _ hgd sl x 122 ho B 94 i0 _ 3 48 Tryz.underlying122 hi hz0 hz1 hz2 rfl (by decide) v l.length _ hs hb.own ⟨g,0,none⟩ 1 cc (tabCells (t,cv)) hx rfl (by
  intro j u hu
  rw[jQbt]
  match j,hu with
  | 0,hu=>simp[tabCells] at hu;subst hu;exact hc0
  | 1,hu=>simp[tabCells] at hu;subst hu;exact hc1
  | 2,hu=>simp[tabCells] at hu;subst hu;exact hc2
  | j+3,hu=>simp[tabCells] at hu) (by intro u hu;simp[tabCells] at hu;rcases hu with rfl | rfl | rfl <;> first | rfl | exact hone) (by decide) (by unfold maxLen;omega) (by omega) hB _ rfl ?_
 intro g' cap w' ho' hg' _ _
 refine h _ w' ⟨?_,?_,?_⟩ (Tch.of_grown hg' (fun k hk=>(World.ownsRow.lt hb.own k hk).1) hB) (fun q c e fr hq he=>hg'.block q (jQg hq) (fun e2=>jQl hb.own hq (fun e3=>he e3.symm) e2.symm))
 ·rw[List.length_append,List.flatMap_append]
  simpa using ho'
 ·intro y hy
  rcases List.mem_append.1 hy with hy | hy
  ·exact⟨jQv (hb.each y hy).1 hb.own (by decide) hg',(hb.each y hy).2⟩
  ·simp at hy
   subst hy
   exact⟨jQv hcv.1 hb.own (by decide) hg',hcv.2⟩
 ·rw[List.length_append];exact h1
theorem Sq.jQoh (es:List Sq.Ent)(k:Nat)(h:k < es.length):(es.take (k+1)).filterMap Sq.tabOk=(es.take k).filterMap Sq.tabOk++(Sq.tabOk es[k]).toList:=by
 rw[List.take_succ_eq_append_getElem h,List.filterMap_append]
 cases h2:Sq.tabOk es[k] <;> simp[h2]
theorem jQnT (es:List Sq.Ent)(p:Sq.Ent→Bool)(k:Nat)(h:k < es.length):(es.take (k+1)).any p=((es.take k).any p || p es[k]):=by
 rw[List.take_succ_eq_append_getElem h,List.any_append]
 simp
def TabsSays (tb:Nat)(x:List Sq.TabN×Sq.Trl)(w:World)(e:Ending)(w':World):Prop:=∃v l,e=.returned v∧l.map Prod.fst=x.1∧TabsOwn 0 w' v l∧TrAt tb w' x.2∧TFrm tb w w'
theorem jQnW (hh:Sq.Head)(ev cv:Value)(es:List Sq.Ent)(tb:Nat)(tr1:Sq.Trl)(w:World)(hev:∃a k c,ev=.slice a k c)(hcv:∃a k c,cv=.slice a k c)(htb:tb < w.heap.size)(hel:es.length≤900)(hrow:∀e∈es,e.row.size≤1000∧0≤e.place)
  (hthru:∀w',Below w.heap.size w w'→Calls Tryz.prog 103 #[.agg (headCells hh ev cv).toArray,.int .i64 (Sq.placeOf 0 (-2147483648)),.int .i64 (Sq.placeOf 0 2147483647),.pointer (some ⟨tb,0,none⟩)] w' (ThruSays tb (es,tr1) w')) :
  Calls Tryz.prog 69 #[.agg (headCells hh ev cv).toArray,.pointer (some ⟨tb,0,none⟩)] w (TabsSays tb (es.filterMap Sq.tabOk,Sq.loseIf (es.any fun e=>(Sq.tabOk e).isNone) tr1) w):=by
 obtain⟨e1,e2,e3,rfl⟩:=hev
 obtain⟨c1,c2,c3,rfl⟩:=hcv
 rw[jQc] at hthru ⊢
 have HK:=hd hthru
 have HRW:=hd hrow
 obtain⟨W,hW⟩:∃W:World,W=w.alloc (.cells #[.bool hh.inner,.slice e1 e2 e3,.slice c1 c2 c3,.int .i64 hh.least,.int .i64 hh.rows,.string hh.sl,.int .i64 hh.num] 91):=⟨_,rfl⟩
 have hbW:Below w.heap.size w W:=by rw[hW];exact(Below.refl _ _).alloc (Nat.le_refl _) _
 have hbox:W.heap[w.heap.size]?=some (.cells #[.bool hh.inner,.slice e1 e2 e3,.slice c1 c2 c3,.int .i64 hh.least,.int .i64 hh.rows,.string hh.sl,.int .i64 hh.num] 91):=by rw[hW];exact jQk w _
 obtain⟨k0,k1,k2,k3,k4,k5,k6⟩:=jQr hbox
 have hzB:=jQg hbox
 have HBW:=hd hbW
 clear hbW hbox hthru hrow
 go_enter Tryz.func69,Tryz.ntmps69
 go_wp2
 rw[←hW]
 clear hW
 go_cut [5] from 12 (fun v wx=>EntsAt 0 wx v es∧TrAt tb wx tr1∧TFrm tb w wx)
 case first =>
  go_region_with (first
   | (go_at_call 104;refine(jQcs _ _ _ (by omega) (by omega) (by omega) (by omega)).mono ?_;rintro e w5 ⟨rfl,hw5⟩;rw[hw5];clear hw5 w5)
   | (go_at_call 103;refine(HK.out _ HBW.out.drew).mono ?_;rintro e w5 ⟨v5,rfl,he5,-,ht5,hf5⟩;have HF5:Hid (TFrm tb w w5):=(TFrm.of HBW.out.drew (by omega)).trans hf5;have HT5:=hd ht5;have HE5:=hd (he5.base (Nat.zero_le _));clear hf5 ht5 he5))
  all_goals(try go_wp2_with fail)
  all_goals go_meet
  all_goals exact⟨HE5.out,HT5.out,HF5.out⟩
 case rest =>
  obtain⟨hce,hct,hcf⟩:=hcut
  obtain⟨ao,acap,rfl⟩:=jQa hce
  obtain⟨w1,rfl⟩:∃w1:World,w1=wc:=⟨_,rfl⟩
  have HES:=hd hce
  have HT1:=hd hct
  have HF1:=hd hcf
  have hz1:=hcf.below_lt
  have hzt1:=hct.lt
  clear hce hct hcf k0 k1 k2 k3 k4 k5 k6 HK
  go_wp2
  go_loopw [6,7] (fun v i wr=>∃(k:Nat) (l:List (Sq.TabN×Value)),i=.int .i64 k∧k≤es.length∧l.length≤k∧TabsOwn w1.heap.size wr v l∧TrAt tb wr (Sq.loseIf ((es.take k).any fun e=>(Sq.tabOk e).isNone) tr1)∧TFrm tb w1 wr∧Hid (l.map Prod.fst=(es.take k).filterMap Sq.tabOk)) (fun _ i _=>es.length - (intOf i).toNat)
  case atStart=>exact⟨0,[],rfl,Nat.zero_le _,Nat.le_refl _,⟨World.ownsRow_nil _ _ _ _,fun x hx=>by simp at hx,by simp⟩,by rw[show Sq.loseIf ((es.take 0).any fun e=>(Sq.tabOk e).isNone) tr1=tr1 by simp[Sq.loseIf]];exact HT1.out,TFrm.refl _ _,rfl⟩
  case round =>
   obtain⟨k,l,rfl,hk,hlk,hT,ht,hf,HQ⟩:=hrel
   obtain⟨wo,rfl⟩:∃wo:World,wo=wr:=⟨_,rfl⟩
   obtain⟨lo,lcap,rfl⟩:=jQa hT.own
   have HT:=hd hT
   have HTR:=hd ht
   have HF:=hd hf
   have hzr:=hf.below_lt
   have hzt:=ht.lt
   by_cases hkt:k < es.length
   ·obtain⟨g,cap',hv,hg,d0,d1⟩:=(HES.out.tfrm hf).at k hkt
    simp only[Value.slice.injEq] at hv
    obtain⟨rfl,-,rfl⟩:=hv
    have hm:=HRW.out es[k] (List.getElem_mem hkt)
    have hq:=Sq.jQoh es k hkt
    have ha:=jQnT es (fun e=>(Sq.tabOk e).isNone) k hkt
    rw[←HQ.out] at hq
    obtain⟨lb,hlb⟩:∃lb,lb=(es.take k).any fun e=>(Sq.tabOk e).isNone:=⟨_,rfl⟩
    rw[←hlb] at ha HTR
    clear HQ hT ht hf hlb
    generalize es[k]=x at *
    obtain⟨xp,xr⟩:=x
    simp only at d0 d1 hm hq ha
    obtain⟨hm0,hm1⟩:=hm
    have HQ:=hd hq
    have HA:=hd ha
    have i1:(k:Int) < (es.length:Int):=by omega
    have i2:¬((es.length:Int)≤(k:Int)):=by omega
    have i0:¬((k:Int) < 0):=by omega
    have hto:Sq.tabOk ⟨xp,xr⟩=((Sq.toTable xr).map fun x=>(⟨Sq.keyAt xp,x.1,x.2⟩:Sq.TabN)).bind fun t=>if 1≤t.number∧t.number≤5 then some t else none:=rfl
    have htl:∀y,Sq.toTable xr=some y→y.2.length≤4:=fun y hy=>Sq.jQee hy
    have HTO:=hd hto
    clear hq ha hto
    go_wp2_with fail
    refine(jQh0 xp _ hm1).mono ?_
    rintro e w5 ⟨rfl,hw5⟩
    rw[hw5]
    clear hw5 w5
    go_wp2_with fail
    refine(jQll xr _ hm0).mono ?_
    rintro e w2 ⟨tv,rfl,hcn,hb2⟩
    have HT2:=hd (HT.out.below hb2)
    have HTR2:=hd (HTR.out.below hb2)
    have HF2:Hid (TFrm tb w1 w2):=HF.out.trans (TFrm.of hb2 (by omega))
    have hz2:=hb2.size
    obtain⟨tao,tcap,rfl⟩:=jQa hcn
    have hto:=HTO.out
    clear hb2 d0 d1 HTO HT HTR HF hg
    obtain⟨q,hq⟩:∃q,q=Sq.keyAt xp:=⟨_,rfl⟩
    rw[←hq] at hto ⊢
    clear hq
    obtain⟨hl1,hl2,hl3,hl4,hl5⟩:=HTR2.out.lose
    have HL1:=hd hl1
    have HL2:=hd hl2
    have HL3:=hd hl3
    have hzt2:=HTR2.out.lt
    clear hl1 hl2 hl3
    have hlost:∀b:Bool,(⟨true,(Sq.loseIf lb tr1).nums⟩:Sq.Trl)=Sq.loseIf (lb || true) tr1:=fun _=>by simp[Sq.loseIf]
    generalize Sq.toTable xr=tt at *
    cases tt with
    | none =>
     have HQ2:Hid (l.map Prod.fst=(es.take (k+1)).filterMap Sq.tabOk):=by show _=_;rw[HQ.out,hto];simp
     have HA2:Hid (((es.take (k+1)).any fun e=>(Sq.tabOk e).isNone)=(lb || true)):=by show _=_;rw[HA.out,hto];rfl
     clear hto hcn htl
     go_wp2
     go_roundw
     case rel=>exact⟨k+1,l,by go_num,by omega,by omega,HT2.out.keeps HL3.out (by decide) (by decide),by rw[HA2.out,←hlost true];exact HL1.out,HF2.out.trans HL2.out,HQ2⟩
     case measure=>simp[intOf];omega
    | some y =>
     obtain⟨yn,yc⟩:=y
     have hyl:=htl _ rfl
     simp only[Option.map_some,Option.bind_some] at hto
     by_cases hq1:1≤q
     ·have j1:decide (q < 1)=false:=by simp;omega
      by_cases hq5:q≤5
      ·have j2:decide (5 < q)=false:=by simp;omega
       have HQ2:Hid ((es.take (k+1)).filterMap Sq.tabOk=l.map Prod.fst++[⟨q,yn,yc⟩]):=by show _=_;rw[HQ.out,hto];simp[hq1,hq5]
       have HA2:Hid (((es.take (k+1)).any fun e=>(Sq.tabOk e).isNone)=lb):=by show _=_;rw[HA.out,hto];simp[hq1,hq5]
       have HCN:Hid (ColsAt w2 (.slice tao yc.length tcap) yc):=⟨jQi hcn (Nat.zero_le _),by simp only at hyl;omega⟩
       clear hto hcn htl HQ
       have hA:Below w2.heap.size w2 (w2.alloc (.cells #[.int .i64 q,.string yn,.slice tao yc.length tcap] 94)):=(Below.refl _ _).alloc (Nat.le_refl _) _
       have HT3:=hd (HT2.out.below hA)
       have HC3:=hd (HCN.out.below hA)
       have HTR3:=hd (HTR2.out.below hA)
       have HF3:Hid (TFrm tb w1 (w2.alloc (.cells #[.int .i64 q,.string yn,.slice tao yc.length tcap] 94))):=HF2.out.trans (TFrm.of hA (by omega))
       clear HT2 HCN hA HL1 HL2 HL3
       go_wp2_with (at_builtin;refine jQdI rfl (.tmp 53) (.tmp 58) rfl w1.heap.size _ l rfl HT3.out ⟨q,yn,yc⟩ (.slice tao yc.length tcap) w2.heap.size 1 rfl (by simp[go_sem]) (by simp[go_sem]) (by simp[go_sem]) HC3.out (by omega) (by simp;omega) ?_;intro v7 w7 hT7 hb7 hk7;have HT7:=hd hT7;have HB7:=hd hb7;have HK7:=hd hk7;clear hT7 hb7 hk7)
       go_roundw
       case rel=>exact⟨k+1,l++[(⟨q,yn,yc⟩,.slice tao yc.length tcap)],by go_num,by omega,by rw[List.length_append];show l.length+1≤_;omega,HT7.out,by rw[HA2.out];exact HTR3.out.keeps HK7.out (by decide) (by decide),HF3.out.grow HB7.out (by omega),by show _=_;rw[HQ2.out,List.map_append];rfl⟩
       case measure=>simp[intOf];omega
      ·have j2:decide (5 < q)=true:=by simp;omega
       have HQ2:Hid (l.map Prod.fst=(es.take (k+1)).filterMap Sq.tabOk):=by show _=_;rw[HQ.out,hto];simp[hq5]
       have HA2:Hid (((es.take (k+1)).any fun e=>(Sq.tabOk e).isNone)=(lb || true)):=by show _=_;rw[HA.out,hto];simp[hq5]
       clear hto hcn htl
       go_wp2
       go_roundw
       case rel=>exact⟨k+1,l,by go_num,by omega,by omega,HT2.out.keeps HL3.out (by decide) (by decide),by rw[HA2.out,←hlost true];exact HL1.out,HF2.out.trans HL2.out,HQ2⟩
       case measure=>simp[intOf];omega
     ·have j1:decide (q < 1)=true:=by simp;omega
      have HQ2:Hid (l.map Prod.fst=(es.take (k+1)).filterMap Sq.tabOk):=by show _=_;rw[HQ.out,hto];simp[hq1]
      have HA2:Hid (((es.take (k+1)).any fun e=>(Sq.tabOk e).isNone)=(lb || true)):=by show _=_;rw[HA.out,hto];simp[hq1]
      clear hto hcn htl
      go_wp2
      go_roundw
      case rel=>exact⟨k+1,l,by go_num,by omega,by omega,HT2.out.keeps HL3.out (by decide) (by decide),by rw[HA2.out,←hlost true];exact HL1.out,HF2.out.trans HL2.out,HQ2⟩
      case measure=>simp[intOf];omega
   ·have i1:¬((k:Int) < (es.length:Int)):=by omega
    have htk:es.take k=es:=List.take_of_length_le (by omega)
    have hq:=HQ.out
    have htr:=HTR.out
    rw[htk] at hq htr
    have HQ2:=hd hq
    have HTR2:=hd htr
    clear hT ht hf HQ htk hq htr HTR
    go_wp2
    go_ret
    exact⟨_,l,rfl,HQ2.out,HT.out.base (Nat.zero_le _),HTR2.out,HF1.out.trans HF.out⟩
theorem jQnX (K:Int)(hK:K≤99999)(X:Sq.NTree)(ev cv:Value)(tb:Nat)(tr:Sq.Trl)(w:World)(h:NodeAt Z w X.d X.t ev cv)(hf:Sq.tameN K X.d X.t)(hc:Sq.countN X.d X.t≤900)(ht:TrAt tb w tr)(hr:Sq.TameR K tr) :
  Calls Tryz.prog 69 #[.agg (headCells X.head ev cv).toArray,.pointer (some ⟨tb,0,none⟩)] w (TabsSays tb (Sq.tabsR X tr) w):=by
 have h1:=jQdN (K:=K) (Sq.placeOf 0 (-2147483648)) (Sq.placeOf 0 2147483647) X.d X.t tr hf
 have h2:=Sq.jQaW X.d X.t (Sq.placeOf 0 (-2147483648)) (Sq.placeOf 0 2147483647) tr hf hr
 exact jQnW X.head ev cv _ tb _ w (NodeAt.slices h).1 (NodeAt.slices h).2 ht.lt (Nat.le_trans h2.2 hc) (fun e he=>⟨by have:=(h1 e he).2.2;omega,(by
  have ha:=(h1 e he).1
  have hb:Sq.placeOf 0 (-2147483648)=0:=(by decide)
  omega)⟩) (fun w' hb=>jQds K hK _ _ tb X.d X.t ev cv tr w' (h.below hb) hf hc (ht.below hb) hr)
end
section
open Go.RowKit
def FindPost (w:World)(x:Option Sq.TabN)(e:Ending)(w':World):Prop :=
 ∃cv,e=.returned (.tuple #[.agg #[.int .i64 (x.getD Sq.tabNone).number,.string (x.getD Sq.tabNone).name,cv],.bool x.isSome])∧ColsAt w' cv (x.getD Sq.tabNone).cols∧Below w.heap.size w w'
theorem Sq.jQnk (l:List Sq.TabN)(n:ByteArray)(k:Nat)(h:k < l.length):Sq.findR n (l.drop k)=if l[k].name.toList==n.toList then some l[k] else Sq.findR n (l.drop (k+1)):=by
 rw[List.drop_eq_getElem_cons h,Sq.findR]
def set3 (w:World)(b:Nat)(x0 x1 x2:Value):World:=((w.setCell ⟨b,0,none⟩ x0).setCell ⟨b,1,none⟩ x1).setCell ⟨b,2,none⟩ x2
theorem jQl7 (w:World)(b:Nat)(x0 x1 x2:Value){g:Nat}(h:g≠b):(set3 w b x0 x1 x2).heap[g]?=w.heap[g]?:=by
 unfold set3
 rw[jQe h,jQe h,jQe h]
theorem jQhd {B b:Nat}{W w:World}(hb:Below B W w)(h:B≤b)(x0 x1 x2:Value):Below B W (set3 w b x0 x1 x2):=by
 unfold set3
 exact Below.setCell (B:=B) (Below.setCell (B:=B) (Below.setCell (B:=B) hb h _) h _) h _
theorem jQf0 (l:List (Sq.TabN×Value))(lv:Value)(nm:ByteArray)(w:World)(h:TabsOwn 0 w lv l) :
  Calls Tryz.prog 72 #[lv,.string nm] w (FindPost w (Sq.findR nm (l.map Prod.fst))):=by
 obtain⟨ao,acap,rfl⟩:=jQa h.own
 have hlf:=h.few
 obtain⟨W,hW⟩:∃W:World,W=w.alloc (.cells #[.int .i64 0,.string ⟨#[]⟩,.slice none 0 0] 94):=⟨_,rfl⟩
 have hbW:Below w.heap.size w W:=by rw[hW];exact(Below.refl _ _).alloc (Nat.le_refl _) _
 have hblk:W.heap[w.heap.size]?=some (.cells #[.int .i64 0,.string ⟨#[]⟩,.slice none 0 0] 94):=by rw[hW];exact jQk _ _
 obtain⟨b0,b1,b2,f0,f1,f2⟩:=tab3 hblk
 have hz:=jQg hblk
 have H:=hd (h.below hbW)
 have HBW:=hd hbW
 have HBLK:=hd hblk
 clear h hbW hblk
 go_enter Tryz.func72,Tryz.ntmps72
 go_wp2
 rw[←hW]
 clear hW
 go_loopw [6] (fun i wr=>∃k:Nat,k≤l.length∧i=.int .i64 k∧wr=W∧Hid (Sq.findR nm (l.map Prod.fst)=Sq.findR nm ((l.map Prod.fst).drop k))) (fun i _=>l.length - (intOf i).toNat)
 case atStart=>exact⟨0,Nat.zero_le _,rfl,rfl,rfl⟩
 case round =>
  obtain⟨k,hk,rfl,rfl,hr⟩:=hrel
  by_cases hlt:k < l.length
  ·obtain⟨g,cap',ca,cc,hv,hg,c0,c1,c2,hc⟩:=H.out.at k hlt
   simp only[Value.slice.injEq] at hv
   obtain⟨rfl,-,rfl⟩:=hv
   have hst:=Sq.jQnk (l.map Prod.fst) nm k (by simpa using hlt)
   rw[List.getElem_map] at hst
   have hr2:=hr.out
   rw[hst] at hr2
   clear hr hst
   generalize l[k].1=x at *
   obtain⟨xn,xm,xc⟩:=x
   simp only at c0 c1 c2 hc hr2
   have HC:=hd hc
   have i1:(k:Int) < (l.length:Int):=by omega
   have i2:¬((l.length:Int)≤(k:Int)):=by omega
   have i0:¬((k:Int) < 0):=by omega
   clear hc
   cases he:xm.toList==nm.toList
   case false =>
    have HR:Hid (Sq.findR nm (l.map Prod.fst)=Sq.findR nm ((l.map Prod.fst).drop (k+1))):=by show _=_;rw[hr2,he];rfl
    clear hr2
    go_wp2
    go_roundw
    case rel=>exact⟨k+1,by omega,by go_num,by first | rfl | trivial,HR⟩
    case measure=>simp[intOf];omega
   case true =>
    have HR:Hid (Sq.findR nm (l.map Prod.fst)=some ⟨xn,xm,xc⟩):=by show _=_;rw[hr2,he];rfl
    clear hr2
    go_wp2
    refine bodyPost_ret (v:=.tuple #[.agg #[.int .i64 xn,.string xm,.slice ca xc.length cc],.bool true]) (by simp[results,Tryz.results72,go_sem, *]) rfl ?_
    unfold FindPost
    rw[HR.out]
    refine⟨.slice ca xc.length cc,rfl,HC.out.out HBLK.out (by decide) (fun g hg=>jQl7 _ _ _ _ _ hg),?_⟩
    exact jQhd HBW.out (Nat.le_refl _) _ _ _
  ·have HE:Hid (Sq.findR nm (l.map Prod.fst)=none):=by show _=_;rw[hr.out,List.drop_eq_nil_of_le (by simp;omega)];rfl
   clear hr
   go_wp2
   refine bodyPost_ret (v:=.tuple #[.agg #[.int .i64 0,.string ⟨#[]⟩,.slice none 0 0],.bool false]) (by simp[results,Tryz.results72,go_sem, *]) rfl ?_
   unfold FindPost
   rw[HE.out]
   refine⟨.slice none 0 0,rfl,⟨World.ownsRow_nil _ _ _ _,Nat.zero_le _⟩,?_⟩
   exact jQhd HBW.out (Nat.le_refl _) _ _ _
theorem jQmR (l:List Sq.TabN)(k:Nat)(h:k < l.length)(m:Int):Sq.lastR m (l.drop k)=Sq.lastR (if m < l[k].number then l[k].number else m) (l.drop (k+1)):=by
 unfold Sq.lastR
 rw[List.drop_eq_getElem_cons h,List.foldl_cons]
theorem jQrz (l:List (Sq.TabN×Value))(lv:Value)(w:World)(h:TabsOwn 0 w lv l)(hb:∀x∈l,-2147483648≤x.1.number∧x.1.number≤2147483647) :
  Calls Tryz.prog 108 #[lv] w fun e w'=>e=.returned (.int .i64 (Sq.lastR 0 (l.map Prod.fst)+1))∧w'=w:=by
 obtain⟨ao,acap,rfl⟩:=jQa h.own
 have hlf:=h.few
 have H:=hd h
 have HB:=hd hb
 clear h hb
 go_enter Tryz.func108,Tryz.ntmps108
 go_wp2
 go_loop [3,4] (fun m i=>∃(k:Nat) (x:Int),k≤l.length∧i=.int .i64 k∧m=.int .i64 x∧-2147483648≤x∧x≤2147483647∧Hid (Sq.lastR 0 (l.map Prod.fst)=Sq.lastR x ((l.map Prod.fst).drop k))) (fun _ i=>l.length - (intOf i).toNat)
 case atStart=>exact⟨0,0,Nat.zero_le _,rfl,rfl,by decide,by decide,rfl⟩
 case round =>
  obtain⟨k,x,hk,rfl,rfl,hx0,hx1,hr⟩:=hrel
  by_cases hlt:k < l.length
  ·obtain⟨g,cap',ca,cc,hv,hg,c0,c1,c2,hc⟩:=H.out.at k hlt
   simp only[Value.slice.injEq] at hv
   obtain⟨rfl,-,rfl⟩:=hv
   have hst:=jQmR (l.map Prod.fst) k (by simpa using hlt) x
   rw[List.getElem_map] at hst
   have hbd:=HB.out l[k] (List.getElem_mem hlt)
   have hr2:=hr.out
   rw[hst] at hr2
   obtain⟨q,hq⟩:∃q,q=l[k].1.number:=⟨_,rfl⟩
   rw[←hq] at hr2 hbd c0
   have i2:¬((l.length:Int)≤(k:Int)):=by omega
   obtain⟨hbd0,hbd1⟩:=hbd
   clear hr hst hc hq c1 c2
   by_cases hm:x < q
   ·have j1:decide (x < q)=true:=by simpa using hm
    have HR:Hid (Sq.lastR 0 (l.map Prod.fst)=Sq.lastR q ((l.map Prod.fst).drop (k+1))):=by show _=_;rw[hr2,if_pos hm]
    clear hr2
    go_wp2
    go_round
    case rel=>exact⟨k+1,q,by omega,by go_num,rfl,hbd0,hbd1,HR⟩
    case measure=>simp[intOf];omega
   ·have j1:decide (x < q)=false:=by simpa using hm
    have HR:Hid (Sq.lastR 0 (l.map Prod.fst)=Sq.lastR x ((l.map Prod.fst).drop (k+1))):=by show _=_;rw[hr2,if_neg hm]
    clear hr2
    go_wp2
    go_round
    case rel=>exact⟨k+1,x,by omega,by go_num,rfl,hx0,hx1,HR⟩
    case measure=>simp[intOf];omega
  ·have HE:Hid (Sq.lastR 0 (l.map Prod.fst)=x):=by show _=_;rw[hr.out,List.drop_eq_nil_of_le (by simp;omega)];rfl
   clear hr
   go_wp2
   go_ret
   exact⟨by rw[HE.out];rfl,rfl⟩
end
end Go.Proofs.YtahpihjialbanaaGreatDoor
