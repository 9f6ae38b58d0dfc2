import Derived.Test.YtahpihjialbanaaGreatDoorQbb
set_option linter.unusedVariables false
set_option linter.unusedSimpArgs false
set_option maxRecDepth 100000
set_option maxHeartbeats 8000000
namespace Go.Proofs.YtahpihjialbanaaGreatDoor
section
open Go.RowKit
variable {Z:Nat→Prop}
theorem App.start {tb:Nat}{X:Sq.NTree}{tr:Sq.Trl}{e1 c1:Option Addr}{e2 e3 c2 c3:Nat}{o:Sq.OutR}{cv pv kv:Value}{w W:World}(h:NodeAt Z w X.d X.t (.slice e1 e2 e3) (.slice c1 c2 c3))(ht:TrAt tb w tr)(ho:OutAt w o cv pv kv)
  (hW:W=((w.alloc (.cells #[.bool X.head.inner,.slice e1 e2 e3,.slice c1 c2 c3,.int .i64 X.head.least,.int .i64 X.head.rows,.string X.head.sl,.int .i64 X.head.num] 91)).alloc (.cells #[.string o.reply,.bool o.makes,.int .i64 o.tab.number,.string o.tab.name,cv,pv,kv] 98)).alloc (.cells #[.bool false,.slice none 0 0,.slice none 0 0,.int .i64 0,.int .i64 0,.string ⟨#[]⟩,.int .i64 0] 91)) :
  App Z tb w.heap.size o cv pv kv w W (X,tr):=by
 obtain⟨h1,h2,h3,h4⟩:=jQP hW
 exact⟨⟨⟨e1,e2,e3,c1,c2,c3,h2,h.below h1⟩,ht.below h1⟩,ho.below h1,h3,h4,TFrm.of h1 (Nat.le_of_lt ht.lt)⟩
def AppIn (Z:Nat→Prop)(K m:Int)(tb b:Nat)(o:Sq.OutR)(cv pv kv:Value)(w:World)(f:Sq.NTree×Sq.Trl→Sq.NTree×Sq.Trl)(P:Sq.NTree×Sq.Trl)(w':World):Prop :=
 ∃Y,App Z tb b o cv pv kv w w' Y∧Sq.TameT K m Y.1∧Sq.TameR K Y.2∧f Y=P
theorem Sq.TameT.mono' {K m m':Int}{X:Sq.NTree}(h:Sq.TameT K m X)(hm:m≤m'):Sq.TameT K m' X:=⟨h.t,Int.le_trans h.rows hm⟩
theorem jQsr {w:World}{v:Value}{l:List Int}(h:w.ownsRow 0 2 1 v l.length (l.map (Value.int .i64)))(k:Nat)(hk:k < l.length):∃g cap,v=.slice (some ⟨g,0,none⟩) l.length cap∧g < w.heap.size∧w.cell? ⟨g,k,none⟩=some (.int .i64 l[k]):=by
 obtain⟨g,cap,rfl,_,hlt⟩:=h.form (by omega)
 refine⟨g,cap,rfl,hlt,?_⟩
 have:=h.cells (g:=g) rfl k (.int .i64 l[k]) (by rw[List.getElem?_map,List.getElem?_eq_getElem hk];rfl)
 rwa [show(⟨g,0,none⟩:Addr).add k=⟨g,k,none⟩ from by unfold Addr.add;split <;> simp_all] at this
theorem jQpz (K:Int)(hK0:0≤K)(hK:K≤99998)(X:Sq.NTree)(ev cv':Value)(o:Sq.OutR)(cv pv kv:Value)(tb:Nat)(tr:Sq.Trl)(w:World)(h:NodeAt Z w X.d X.t ev cv')(hf:Sq.TameT K 800000000 X)(ht:TrAt tb w tr)(hr:Sq.TameR K tr)(hZ:∀g,w.heap.size≤g→¬Z g)(ho:OutAt w o cv pv kv)(hok:OkOut o) :
  Calls Tryz.prog 54 #[.agg (headCells X.head ev cv').toArray,.agg (outCells o cv pv kv),.pointer (some ⟨tb,0,none⟩)] w (TreeSays Z tb (Sq.applyR o (X,tr)) w):=by
 obtain⟨⟨e1,e2,e3,hev⟩,c1,c2,c3,hcv⟩:=h.slices
 subst hev hcv
 have hlt:=ht.lt
 obtain⟨co,ccap,rfl⟩:=jQa ho.cols.1
 obtain⟨po,pcap,rfl⟩:=ho.puts.slice
 obtain⟨ko,kcap,rfl⟩:=jQa ho.cuts
 obtain⟨W,hW⟩:∃W:World,W=((w.alloc (.cells #[.bool X.head.inner,.slice e1 e2 e3,.slice c1 c2 c3,.int .i64 X.head.least,.int .i64 X.head.rows,.string X.head.sl,.int .i64 X.head.num] 91)).alloc (.cells #[.string o.reply,.bool o.makes,.int .i64 o.tab.number,.string o.tab.name,.slice co o.tab.cols.length ccap,.slice po o.puts.length pcap,.slice ko o.cuts.length kcap] 98)).alloc (.cells #[.bool false,.slice none 0 0,.slice none 0 0,.int .i64 0,.int .i64 0,.string ⟨#[]⟩,.int .i64 0] 91):=⟨_,rfl⟩
 have hA:=App.start h ht ho hW
 have hnp:=ho.nputs
 have hnc:=ho.ncuts
 have hfew:=hok.few
 have hn0:=hok.n0
 have hn1:=hok.n1
 have HOK:=hd hok
 have HZ:=hd hZ
 have HA:=hd hA
 have HF:=hd hf
 have HR:=hd hr
 obtain⟨k0,k1,k2,k3,k4,k5,k6⟩:=jQr (by obtain⟨h1,h2,h3,h4⟩:=jQP hW;exact h2)
 obtain⟨d0,d1,d2,d3,d4,d5,d6⟩:=jQr hA.ob
 have hzW:=jQg hA.res
 obtain⟨P,hP⟩:∃P,P=Sq.putsR o.tab.number o.puts (Sq.madeR o (X,tr)):=⟨_,rfl⟩
 have HP:=hd hP
 have hE:Sq.applyR o (X,tr)=Sq.cutsR o.tab.number o.cuts P:=by rw[hP];rfl
 obtain⟨Q,hQ⟩:∃Q,Q=Sq.cutsR o.tab.number o.cuts P:=⟨_,rfl⟩
 have HQQ:=hd hQ
 rw[hE,←hQ,jQc,outCells]
 have HMK:Hid (∀w',Below W.heap.size W w'→o.makes=true→Calls Tryz.prog 80 #[.agg #[.bool X.head.inner,.slice e1 e2 e3,.slice c1 c2 c3,.int .i64 X.head.least,.int .i64 X.head.rows,.string X.head.sl,.int .i64 X.head.num],.agg #[.int .i64 o.tab.number,.string o.tab.name,.slice co o.tab.cols.length ccap],.pointer (some ⟨tb,0,none⟩)] w' (TreeSays Z tb (Sq.madeR o (X,tr)) w')):=by
  intro w' hb hm
  have hmk:=hok.make hm
  have:=jQhZ (Z:=Z) K hK0 hK X (.slice e1 e2 e3) (.slice c1 c2 c3) o.tab.number o.tab.name o.tab.cols (.slice co o.tab.cols.length ccap) tb tr w' (((h.below (jQP hW).1)).below hb) ⟨hf.t,by have:=hf.rows;omega⟩ ((ht.below (jQP hW).1).below hb) hr (fun g hg=>hZ g (by have:=hb.size;have:=(jQP hW).1.size;omega)) (by omega) (by omega) ((ho.cols.below (jQP hW).1).below hb) hmk.1 hmk.2.1 hmk.2.2.1 hmk.2.2.2
  rw[jQc] at this
  rw[Sq.madeR,if_pos hm]
  exact this
 have HTM:Hid (Sq.TameT K 800000001 (Sq.madeR o (X,tr)).1∧Sq.TameR K (Sq.madeR o (X,tr)).2):=by
  show _∧_
  unfold Sq.madeR
  split
  ·next hm=>exact hf.put hK0 (hok.make hm).2.2.2 hr
  ·exact⟨⟨hf.t,by have:=hf.rows;simp only;omega⟩,hr⟩
 clear hP hE hQ hA ho hok hZ hf hr h ht
 obtain⟨hX,hhX⟩:∃x,x=X.head:=⟨_,rfl⟩
 rw[←hhX] at k0 k3 k4 k5 k6 hW HMK ⊢
 clear hhX
 go_enter Tryz.func54,Tryz.ntmps54
 cases hmk:o.makes
 case' false =>
  rw[hmk] at hW d1
  have HI:Hid (AppIn Z K 800000001 tb w.heap.size o (.slice co o.tab.cols.length ccap) (.slice po o.puts.length pcap) (.slice ko o.cuts.length kcap) w (fun Y=>Sq.putsR o.tab.number (o.puts.drop 0) Y) P W):=⟨_,HA.out,HF.out.mono' (by decide),HR.out,by rw[HP.out];unfold Sq.madeR;rw[hmk];rfl⟩
  go_wp2
  rw[←hW]
  clear hW HA k0 k1 k2 k3 k4 k5 k6 d0 d1 d2 d3 d4 d5 d6 HMK HTM HF HR HP hmk
 case' true =>
  rw[hmk] at hW d1
  go_wp2_with fail
  rw[←hW]
  clear hW
  refine(HMK.out _ (Below.refl _ _) hmk).mono ?_
  rintro e w5 ⟨ev5,cv5,rfl,hn5,ht5,hf5⟩
  obtain⟨⟨x1,x2,x3,hev⟩,y1,y2,y3,hcv⟩:=hn5.slices
  subst hev hcv
  have hAN:=HA.out.next (Nat.le_refl _) hlt hn5 ht5 hf5
  have HI:Hid (AppIn Z K 800000001 tb w.heap.size o (.slice co o.tab.cols.length ccap) (.slice po o.puts.length pcap) (.slice ko o.cuts.length kcap) w (fun Y=>Sq.putsR o.tab.number (o.puts.drop 0) Y) P _):=⟨_,hAN,HTM.out.1,HTM.out.2,by rw[HP.out];rfl⟩
  obtain⟨q1,q2,q3,q4,q5,q6,hbox,-⟩:=HA.out.box.box
  have hblk:=(hf5.keep w.heap.size _ _ _ hbox (by decide) (by decide)).trans hbox
  obtain⟨b0,b1,b2,b3,b4,b5,b6⟩:=jQr hblk
  have z0:=jQd hblk 0
  have z1:=jQd hblk 1
  have z2:=jQd hblk 2
  have z3:=jQd hblk 3
  have z4:=jQd hblk 4
  have z5:=jQd hblk 5
  have z6:=jQd hblk 6
  have hz5:=jQg hblk
  clear hf5 ht5 hn5 hblk hbox hAN HA HMK HTM HF HR HP hmk k0 k1 k2 k3 k4 k5 k6 d0 d1 d2 d3 d4 d5 d6
  obtain⟨yh,hyh⟩:∃x,x=(Sq.madeR o (X,tr)).1.head:=⟨_,rfl⟩
  have hI:=HI.out
  rw[←hyh] at hI
  rw[←hyh,jQc]
  have HI:=hd hI
  clear hyh hI
  go_wp2
 all_goals
  go_loopw [7] (fun i wr=>∃k:Nat,i=.int .i64 k∧k≤o.puts.length∧AppIn Z K (800000001+(k:Int)) tb w.heap.size o (.slice co o.tab.cols.length ccap) (.slice po o.puts.length pcap) (.slice ko o.cuts.length kcap) w (fun Y=>Sq.putsR o.tab.number (o.puts.drop k) Y) P wr) (fun i _=>o.puts.length - (intOf i).toNat)
  case atStart=>exact⟨0,rfl,Nat.zero_le _,HI.out⟩
  case round =>
   obtain⟨k,rfl,hk,Y,hA,hY1,hY2,hYP⟩:=hrel
   obtain⟨wo,rfl⟩:∃wo:World,wo=wr:=⟨_,rfl⟩
   obtain⟨f1,f2,f3,g1,g2,g3,hbox,hnode⟩:=hA.box.box
   obtain⟨l0,l1,l2,l3,l4,l5,l6⟩:=jQr hbox
   obtain⟨m0,m1,m2,m3,m4,m5,m6⟩:=jQr hA.ob
   have hzr:=jQg hA.res
   have hzw:=hA.frm.below_lt
   by_cases hkt:k < o.puts.length
   ·obtain⟨rg,rcap,ra,rc,hv,hrg,r0,hrow⟩:=hA.out.puts.at k hkt
    simp only[Value.slice.injEq] at hv
    obtain⟨rfl,-,rfl⟩:=hv
    have hop:=HOK.out.puts o.puts[k] (List.getElem_mem hkt)
    have HS:Hid (∀w',Below wo.heap.size wo w'→Calls Tryz.prog 81 #[.agg (headCells Y.1.head (.slice f1 f2 f3) (.slice g1 g2 g3)).toArray,.int .i64 o.tab.number,.agg #[.slice ra o.puts[k].length rc],.pointer (some ⟨tb,0,none⟩)] w' (TreeSays Z tb (Y.1.put ⟨Sq.placeOf o.tab.number (Sq.keyOf o.puts[k]),Sq.ofCells o.puts[k]⟩ Y.2) w')):=fun w' hb=>jQiX K hK0 hK Y.1 _ _ _ _ _ tb Y.2 w' (hnode.below hb) ⟨hY1.t,by have:=hY1.rows;omega⟩ (hA.box.tr.below hb) hY2 (fun g hg=>HZ.out g (by have:=hb.size;omega)) hn0 hn1 (hrow.below hb) hop.len hop.vals hop.size
    have hT:=hY1.put hK0 (e:=⟨Sq.placeOf o.tab.number (Sq.keyOf o.puts[k]),Sq.ofCells o.puts[k]⟩) hop.size hY2
    have hq:Sq.putsR o.tab.number (o.puts.drop (k+1)) (Y.1.put ⟨Sq.placeOf o.tab.number (Sq.keyOf o.puts[k]),Sq.ofCells o.puts[k]⟩ Y.2)=P:=by rw[←jQme _ _ _ hkt];exact hYP
    have hs:=HS.out
    obtain⟨Y',hY'⟩:∃Y',Y'=Y.1.put ⟨Sq.placeOf o.tab.number (Sq.keyOf o.puts[k]),Sq.ofCells o.puts[k]⟩ Y.2:=⟨_,rfl⟩
    rw[←hY'] at hs hT hq
    obtain⟨hy,hhy⟩:∃x,x=Y.1.head:=⟨_,rfl⟩
    rw[jQc] at hs
    rw[←hhy] at hs l0 l3 l4 l5 l6
    have HS2:=hd hs
    have HT:=hd hT
    have HQ:=hd hq
    have HAO:=hd hA
    have i1:(k:Int) < (o.puts.length:Int):=by omega
    have i2:¬((o.puts.length:Int)≤(k:Int)):=by omega
    have i0:¬((k:Int) < 0):=by omega
    clear hs hT hq hA hY' hhy HS hop hrow hbox hnode hY1 hY2 hYP
    go_wp2
    go_region_with (go_at_call 81;refine(HS2.out _ (Below.drew (Below.refl _ _))).mono ?_;rintro e w5 ⟨ev5,cv5,rfl,hn5,ht5,hf5⟩;obtain⟨⟨x1,x2,x3,hev⟩,y1,y2,y3,hcv⟩:=hn5.slices;subst hev hcv;have hf6:TFrm tb wo w5:=(TFrm.of (Below.drew (Below.refl _ _)) (by omega)).trans hf5;have HAN:=hd (HAO.out.next (Nat.le_refl _) hlt hn5 ht5 hf6);obtain⟨q1,q2,q3,q4,q5,q6,hbox,-⟩:=HAO.out.box.box;have hblk:=(hf6.keep w.heap.size _ _ _ hbox (by decide) (by decide)).trans hbox;obtain⟨b0,b1,b2,b3,b4,b5,b6⟩:=jQr hblk;have z0:=jQd hblk 0;have z1:=jQd hblk 1;have z2:=jQd hblk 2;have z3:=jQd hblk 3;have z4:=jQd hblk 4;have z5:=jQd hblk 5;have z6:=jQd hblk 6;have hz5:=jQg hblk;clear hf5 hf6 ht5 hn5 hblk hbox;obtain⟨yh,hyh⟩:∃x,x=Y'.1.head:=⟨_,rfl⟩;have hAN:=HAN.out;rw[←hyh] at hAN;rw[←hyh,jQc];have HAN2:=hd hAN;clear hyh hAN HAN)
    all_goals(try go_wp2)
    all_goals
     go_roundw
     case rel=>exact⟨k+1,by go_num,by omega,Y',HAN2.out,by have:=HT.out.1;rw[show(800000001+((k+1:Nat):Int))=800000001+(k:Int)+1 by omega];exact this,HT.out.2,HQ.out⟩
     case measure=>simp[intOf];omega
   ·have i1:¬((k:Int) < (o.puts.length:Int)):=by omega
    have hkk:k=o.puts.length:=by omega
    subst hkk
    have hYP':Y=P:=by rw[←hYP];simp[Sq.putsR]
    subst hYP'
    have HAO:=hd hA
    clear hbox hnode hYP
    go_wp2
    go_loopw [8] (fun i wr=>∃k:Nat,i=.int .i64 k∧k≤o.cuts.length∧AppIn Z K 810000001 tb w.heap.size o (.slice co o.tab.cols.length ccap) (.slice po o.puts.length pcap) (.slice ko o.cuts.length kcap) w (fun Y'=>Sq.cutsR o.tab.number (o.cuts.drop k) Y') Q wr) (fun i _=>o.cuts.length - (intOf i).toNat)
    case atStart=>exact⟨0,rfl,Nat.zero_le _,Y,HAO.out,hY1.mono' (by omega),hY2,HQQ.out.symm⟩
    case round =>
     clear hY1 hY2 HQQ
     clear HAO m0 m1 m2 m3 m4 m5 m6 l0 l1 l2 l3 l4 l5 l6
     obtain⟨k,rfl,hk,Y,hA,hY1,hY2,hYP⟩:=hrel
     obtain⟨wo,rfl⟩:∃wo:World,wo=wr:=⟨_,rfl⟩
     obtain⟨f1,f2,f3,g1,g2,g3,hbox,hnode⟩:=hA.box.box
     obtain⟨l0,l1,l2,l3,l4,l5,l6⟩:=jQr hbox
     obtain⟨m0,m1,m2,m3,m4,m5,m6⟩:=jQr hA.ob
     have hzr:=jQg hA.res
     have hzw:=hA.frm.below_lt
     by_cases hkt:k < o.cuts.length
     ·obtain⟨rg,rcap,hv,hrg,r0⟩:=jQsr hA.out.cuts k hkt
      simp only[Value.slice.injEq] at hv
      obtain⟨rfl,-,rfl⟩:=hv
      have hop:=HOK.out.cuts o.cuts[k] (List.getElem_mem hkt)
      have HS:Hid (∀w',Below wo.heap.size wo w'→Calls Tryz.prog 82 #[.agg (headCells Y.1.head (.slice f1 f2 f3) (.slice g1 g2 g3)).toArray,.int .i64 o.tab.number,.int .i64 o.cuts[k],.pointer (some ⟨tb,0,none⟩)] w' (TreeSays Z tb (Y.1.del (Sq.placeOf o.tab.number o.cuts[k]) Y.2) w')):=fun w' hb=>jQiZ K hK0 hK Y.1 _ _ _ _ tb Y.2 w' (hnode.below hb) ⟨hY1.t,by have:=hY1.rows;omega⟩ (hA.box.tr.below hb) hY2 (fun g hg=>HZ.out g (by have:=hb.size;omega)) hn0 hn1 hop.1 hop.2
      have hT:=hY1.del hK0 (Sq.placeOf o.tab.number o.cuts[k]) hY2
      have hq:Sq.cutsR o.tab.number (o.cuts.drop (k+1)) (Y.1.del (Sq.placeOf o.tab.number o.cuts[k]) Y.2)=Q:=by rw[←jQnv _ _ _ hkt];exact hYP
      have hs:=HS.out
      obtain⟨Y',hY'⟩:∃Y',Y'=Y.1.del (Sq.placeOf o.tab.number o.cuts[k]) Y.2:=⟨_,rfl⟩
      rw[←hY'] at hs hT hq
      obtain⟨hy,hhy⟩:∃x,x=Y.1.head:=⟨_,rfl⟩
      rw[jQc] at hs
      rw[←hhy] at hs l0 l3 l4 l5 l6
      have HS2:=hd hs
      have HT:=hd hT
      have HQ:=hd hq
      have HAO:=hd hA
      have i1:(k:Int) < (o.cuts.length:Int):=by omega
      have i2:¬((o.cuts.length:Int)≤(k:Int)):=by omega
      have i0:¬((k:Int) < 0):=by omega
      clear hs hT hq hA hY' hhy HS hop hbox hnode hY1 hY2 hYP
      go_wp2
      go_region_with (go_at_call 82;refine(HS2.out _ (Below.drew (Below.refl _ _))).mono ?_;rintro e w5 ⟨ev5,cv5,rfl,hn5,ht5,hf5⟩;obtain⟨⟨x1,x2,x3,hev⟩,y1,y2,y3,hcv⟩:=hn5.slices;subst hev hcv;have hf6:TFrm tb wo w5:=(TFrm.of (Below.drew (Below.refl _ _)) (by omega)).trans hf5;have HAN:=hd (HAO.out.next (Nat.le_refl _) hlt hn5 ht5 hf6);obtain⟨q1,q2,q3,q4,q5,q6,hbox,-⟩:=HAO.out.box.box;have hblk:=(hf6.keep w.heap.size _ _ _ hbox (by decide) (by decide)).trans hbox;obtain⟨b0,b1,b2,b3,b4,b5,b6⟩:=jQr hblk;have z0:=jQd hblk 0;have z1:=jQd hblk 1;have z2:=jQd hblk 2;have z3:=jQd hblk 3;have z4:=jQd hblk 4;have z5:=jQd hblk 5;have z6:=jQd hblk 6;have hz5:=jQg hblk;clear hf5 hf6 ht5 hn5 hblk hbox;obtain⟨yh,hyh⟩:∃x,x=Y'.1.head:=⟨_,rfl⟩;have hAN:=HAN.out;rw[←hyh] at hAN;rw[←hyh,jQc];have HAN2:=hd hAN;clear hyh hAN HAN)
      all_goals(try go_wp2)
      all_goals
       go_roundw
       case rel=>exact⟨k+1,by go_num,by omega,Y',HAN2.out,HT.out.1,HT.out.2,HQ.out⟩
       case measure=>simp[intOf];omega
     ·have i1:¬((k:Int) < (o.cuts.length:Int)):=by omega
      have hkk:k=o.cuts.length:=by omega
      subst hkk
      have hYP':Y=Q:=by rw[←hYP];simp[Sq.cutsR]
      subst hYP'
      have he:=endS hnode hA.box.tr hA.frm hA.res (by omega) (by omega) (.bool Y.1.head.inner) (.slice f1 f2 f3) (.slice g1 g2 g3) (.int .i64 Y.1.head.least) (.int .i64 Y.1.head.rows) (.string Y.1.head.sl) (.int .i64 Y.1.head.num)
      obtain⟨b0,b1,b2,b3,b4,b5,b6⟩:=jQr hA.res
      have z0:=jQd hA.res 0
      have z1:=jQd hA.res 1
      have z2:=jQd hA.res 2
      have z3:=jQd hA.res 3
      have z4:=jQd hA.res 4
      have z5:=jQd hA.res 5
      have z6:=jQd hA.res 6
      obtain⟨yh,hyh⟩:∃x,x=Y.1.head:=⟨_,rfl⟩
      rw[←hyh] at he l0 l3 l4 l5 l6
      have HE:=hd he
      have HYH:=hd hyh
      clear hbox hnode hYP hA hY1 hY2 he hyh
      go_wp2
      refine bodyPost_ret (v:=.agg (headCells yh (.slice f1 f2 f3) (.slice g1 g2 g3)).toArray) (by simp[results,Tryz.results54,go_sem,headCells, *]) rfl ?_
      exact⟨_,_,by rw[HYH.out],HE.out.1,HE.out.2.1,HE.out.2.2⟩
end
end Go.Proofs.YtahpihjialbanaaGreatDoor
