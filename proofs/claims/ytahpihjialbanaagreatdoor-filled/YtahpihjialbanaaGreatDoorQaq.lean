import Derived.Test.YtahpihjialbanaaGreatDoorQap
set_option linter.unusedVariables false
set_option linter.unusedSimpArgs false
set_option maxRecDepth 100000
set_option maxHeartbeats 2000000
namespace Go.Proofs.YtahpihjialbanaaGreatDoor
section
open Go.RowKit
variable {Z:Nat→Prop}
theorem jQr {w:World}{b:Nat}{t:TypeId}{a0 a1 a2 a3 a4 a5 a6:Value}(h:w.heap[b]?=some (.cells #[a0,a1,a2,a3,a4,a5,a6] t)) :
  w.cell? ⟨b,0,none⟩=some a0∧w.cell? ⟨b,1,none⟩=some a1∧w.cell? ⟨b,2,none⟩=some a2∧w.cell? ⟨b,3,none⟩=some a3∧w.cell? ⟨b,4,none⟩=some a4∧w.cell? ⟨b,5,none⟩=some a5∧w.cell? ⟨b,6,none⟩=some a6 :=
 ⟨by rw[jQb h];rfl,by rw[jQb h];rfl,by rw[jQb h];rfl,by rw[jQb h];rfl,by rw[jQb h];rfl,by rw[jQb h];rfl,by rw[jQb h];rfl⟩
theorem jQbg {w W:World}{a b:Obj}(h:W=(w.alloc a).alloc b):Below w.heap.size w W∧W.heap[w.heap.size]?=some a∧W.heap[w.heap.size+1]?=some b:=by
 subst h
 refine⟨((Below.refl _ _).alloc (Nat.le_refl _) _).alloc (by simp) _,?_,?_⟩
 ·exact((Below.refl (w.alloc a).heap.size (w.alloc a)).alloc (Nat.le_refl _) b).block w.heap.size (by simp) |>.trans (jQk _ _)
 ·rw[←jQo w a];exact jQk _ _
theorem jQP {w W:World}{a b c:Obj}(h:W=((w.alloc a).alloc b).alloc c):Below w.heap.size w W∧W.heap[w.heap.size]?=some a∧W.heap[w.heap.size+1]?=some b∧W.heap[w.heap.size+1+1]?=some c:=by
 subst h
 obtain⟨h1,h2,h3⟩:=jQbg (W:=(w.alloc a).alloc b) rfl
 have hs:((w.alloc a).alloc b).heap.size=w.heap.size+1+1:=by simp
 have hb:=(Below.refl ((w.alloc a).alloc b).heap.size ((w.alloc a).alloc b)).alloc (Nat.le_refl _) c
 refine⟨h1.trans (hb.mono (by omega)),(hb.block _ (by omega)).trans h2,(hb.block _ (by omega)).trans h3,?_⟩
 rw[←hs];exact jQk _ _
theorem Sq.jQm1 {row:List Sq.Val}(h:∀v∈row,v.text.size≤1000∧-100000000000≤v.number∧v.number≤100000000000):-100000000000≤Sq.keyOf row∧Sq.keyOf row≤100000000000:=by
 cases row with
 | nil=>exact⟨by decide,by decide⟩
 | cons v r=>exact(h v (by simp)).2
theorem endS {tb n b:Nat}{w w1:World}{t:Sq.Nd n}{ev cv:Value}{tr:Sq.Trl}{c:Array Value}(hn:NodeAt Z w1 n t ev cv)(ht:TrAt tb w1 tr)(hf:TFrm tb w w1)(hb:w1.heap[b]?=some (.cells c 91))(h1:w.heap.size≤b)(h2:tb≤b)(x0 x1 x2 x3 x4 x5 x6:Value) :
  NodeAt Z (set7 w1 b x0 x1 x2 x3 x4 x5 x6) n t ev cv∧TrAt tb (set7 w1 b x0 x1 x2 x3 x4 x5 x6) tr∧TFrm tb w (set7 w1 b x0 x1 x2 x3 x4 x5 x6):=by
 have hk:Keeps 91 w1 (set7 w1 b x0 x1 x2 x3 x4 x5 x6):=by
  intro q cq e fr hq he
  refine jQq _ _ _ _ _ _ _ _ _ fun e2=>?_
  subst e2
  rw[hb] at hq
  simp only[Option.some.injEq,Obj.cells.injEq] at hq
  exact he hq.2.1.symm
 exact⟨hn.same fun g c e fr hg he=>hk g c e fr hg (by rcases he with rfl | rfl <;> decide),ht.keeps hk (by decide) (by decide),hf.set7 h1 h2 x0 x1 x2 x3 x4 x5 x6⟩
theorem jQiZ (K:Int)(hK0:0≤K)(hK:K≤99998)(X:Sq.NTree)(ev cv:Value)(n k:Int)(tb:Nat)(tr:Sq.Trl)(w:World)(h:NodeAt Z w X.d X.t ev cv)(hf:Sq.TameT K 900000000 X)(ht:TrAt tb w tr)(hr:Sq.TameR K tr)(hZ:∀g,w.heap.size≤g→¬Z g)(hn0:0≤n)(hn1:n≤100000)(hk0:-100000000000≤k)(hk1:k≤100000000000) :
  Calls Tryz.prog 82 #[.agg (headCells X.head ev cv).toArray,.int .i64 n,.int .i64 k,.pointer (some ⟨tb,0,none⟩)] w (TreeSays Z tb (X.del (Sq.placeOf n k) tr) w):=by
 obtain⟨⟨e1,e2,e3,hev⟩,c1,c2,c3,hcv⟩:=h.slices
 subst hev hcv
 have HK:Hid (∀w',Below w.heap.size w w'→Calls Tryz.prog 128 #[.agg (headCells X.head (.slice e1 e2 e3) (.slice c1 c2 c3)).toArray,.int .i64 (Sq.placeOf n k),.pointer (some ⟨tb,0,none⟩)] w' (TreeSays Z tb (X.del (Sq.placeOf n k) tr) w')):=fun w' hb=>jQn3 K hK0 hK X _ _ _ tb tr w' (h.below hb) hf (ht.below hb) hr (fun g hg=>hZ g (Nat.le_trans hb.size hg))
 have hk:=HK.out
 have hlt:=ht.lt
 obtain⟨Y,hY⟩:∃Y,Y=X.del (Sq.placeOf n k) tr:=⟨_,rfl⟩
 obtain⟨hh,hhe⟩:∃x,x=X.head:=⟨_,rfl⟩
 rw[←hY,←hhe] at hk ⊢
 rw[jQc] at hk ⊢
 have HK2:=hd hk
 clear h hf ht hr hZ HK hk hY hhe
 go_enter Tryz.func82,Tryz.ntmps82
 go_wp2
 obtain⟨W,hW⟩:∃W:World,W=(w.alloc (.cells #[.bool hh.inner,.slice e1 e2 e3,.slice c1 c2 c3,.int .i64 hh.least,.int .i64 hh.rows,.string hh.sl,.int .i64 hh.num] 91)).alloc (.cells #[.bool false,.slice none 0 0,.slice none 0 0,.int .i64 0,.int .i64 0,.string ⟨#[]⟩,.int .i64 0] 91):=⟨_,rfl⟩
 rw[←hW]
 obtain⟨hbW,hbox,hblk⟩:=jQbg hW
 obtain⟨k0,k1,k2,k3,k4,k5,k6⟩:=jQr hbox
 have hzW:=jQg hblk
 have hzB:=jQg hbox
 have HBW:=hd hbW
 have HBLK:=hd hblk
 clear hbW hblk hbox hW
 go_region_with (first
  | (go_at_call 104;refine(jQcs _ _ _ (by omega) (by omega) (by omega) (by omega)).mono ?_;rintro e w5 ⟨rfl,hw5⟩;rw[hw5];clear hw5 w5)
  | (go_at_call 128;refine(HK2.out _ HBW.out.drew).mono ?_;rintro e w5 ⟨ev5,cv5,rfl,hn5,ht5,hf5⟩;obtain⟨⟨g1,g2,g3,hev⟩,j1,j2,j3,hcv⟩:=hn5.slices;subst hev hcv;have hf6:TFrm tb W w5:=(TFrm.of (Below.drew (Below.refl _ _)) (by have:=HBW.out.size;omega)).trans hf5;have hblk:=(hf6.keep (w.heap.size+1) _ _ _ HBLK.out (by decide) (by decide)).trans HBLK.out;obtain⟨b0,b1,b2,b3,b4,b5,b6⟩:=jQr hblk;have f0:=jQd hblk 0;have f1:=jQd hblk 1;have f2:=jQd hblk 2;have f3:=jQd hblk 3;have f4:=jQd hblk 4;have f5:=jQd hblk 5;have f6:=jQd hblk 6;have hz5:=jQg hblk;have HF5:Hid (TFrm tb w w5):=(TFrm.of HBW.out (by omega)).trans hf6;have HN5:=hd hn5;have HT5:=hd ht5;have HBL:=hd hblk;clear hf5 hf6 ht5 hn5 hblk;obtain⟨yh,hyh⟩:∃x,x=Y.1.head:=⟨_,rfl⟩;rw[←hyh,jQc];have HYH:=hd hyh;clear hyh))
 all_goals(try go_wp2)
 all_goals
  refine bodyPost_ret (v:=.agg (headCells yh (.slice g1 g2 g3) (.slice j1 j2 j3)).toArray) (by simp[results,Tryz.results82,go_sem,headCells, *]) rfl ?_
  have he:=endS HN5.out HT5.out HF5.out HBL.out (Nat.le_succ _) (by omega) (.bool yh.inner) (.slice g1 g2 g3) (.slice j1 j2 j3) (.int .i64 yh.least) (.int .i64 yh.rows) (.string yh.sl) (.int .i64 yh.num)
  exact⟨_,_,by rw[HYH.out],he.1,he.2.1,he.2.2⟩
theorem jQiX (K:Int)(hK0:0≤K)(hK:K≤99998)(X:Sq.NTree)(ev cv:Value)(n:Int)(row:List Sq.Val)(rv:Value)(tb:Nat)(tr:Sq.Trl)(w:World)(h:NodeAt Z w X.d X.t ev cv)(hf:Sq.TameT K 900000000 X)(ht:TrAt tb w tr)(hr:Sq.TameR K tr)(hZ:∀g,w.heap.size≤g→¬Z g)(hn0:0≤n)(hn1:n≤100000)
  (hrw:RowAt w rv row) (hrl:row.length≤1000) (hrs:∀v∈row,v.text.size≤1000∧-100000000000≤v.number∧v.number≤100000000000) (hrz:(Sq.ofCells row).size≤300) :
  Calls Tryz.prog 81 #[.agg (headCells X.head ev cv).toArray,.int .i64 n,.agg #[rv],.pointer (some ⟨tb,0,none⟩)] w (TreeSays Z tb (X.put ⟨Sq.placeOf n (Sq.keyOf row),Sq.ofCells row⟩ tr) w):=by
 obtain⟨⟨e1,e2,e3,hev⟩,c1,c2,c3,hcv⟩:=h.slices
 subst hev hcv
 obtain⟨ro,rcap,rfl⟩:=jQa hrw.1
 have HR:=hd hrw
 have HRS:=hd hrs
 have hkb:=Sq.jQm1 hrs
 have HK:Hid (∀w',Below w.heap.size w w'→Calls Tryz.prog 125 #[.agg (headCells X.head (.slice e1 e2 e3) (.slice c1 c2 c3)).toArray,.int .i64 (Sq.placeOf n (Sq.keyOf row)),.string (Sq.ofCells row),.pointer (some ⟨tb,0,none⟩)] w' (TreeSays Z tb (X.put ⟨Sq.placeOf n (Sq.keyOf row),Sq.ofCells row⟩ tr) w')):=fun w' hb=>jQp3 K hK0 (by omega) X _ _ _ _ hrz tb tr w' (h.below hb) hf (ht.below hb) hr (fun g hg=>hZ g (Nat.le_trans hb.size hg))
 have hk:=HK.out
 have hlt:=ht.lt
 obtain⟨Y,hY⟩:∃Y,Y=X.put ⟨Sq.placeOf n (Sq.keyOf row),Sq.ofCells row⟩ tr:=⟨_,rfl⟩
 obtain⟨hh,hhe⟩:∃x,x=X.head:=⟨_,rfl⟩
 rw[←hY,←hhe] at hk ⊢
 rw[jQc] at hk ⊢
 obtain⟨key,hkey⟩:∃k,k=Sq.keyOf row:=⟨_,rfl⟩
 rw[←hkey] at hkb hk
 obtain⟨hkb0,hkb1⟩:=hkb
 have HKEY:=hd hkey
 have HK2:=hd hk
 clear h hf ht hr hZ HK hk hY hhe hrw hrs hkey
 obtain⟨W,hW⟩:∃W:World,W=((w.alloc (.cells #[.bool hh.inner,.slice e1 e2 e3,.slice c1 c2 c3,.int .i64 hh.least,.int .i64 hh.rows,.string hh.sl,.int .i64 hh.num] 91)).alloc (.cells #[.slice ro row.length rcap] 138)).alloc (.cells #[.bool false,.slice none 0 0,.slice none 0 0,.int .i64 0,.int .i64 0,.string ⟨#[]⟩,.int .i64 0] 91):=⟨_,rfl⟩
 obtain⟨hbW,hbox,hbx2,hblk⟩:=jQP hW
 have hzW:=jQg hblk
 have HBW:=hd hbW
 have HBOX:=hd hbox
 have HBX2:=hd hbx2
 have HBLK:=hd hblk
 clear hbW hblk hbox hbx2
 go_enter Tryz.func81,Tryz.ntmps81
 go_wp2_with fail
 rw[←hW]
 clear hW
 refine(jQn0 row _ _ (HR.out.below HBW.out)).mono ?_
 rintro e w1 ⟨rfl,hb1⟩
 rw[←HKEY.out]
 have hbox1:=(hb1.block w.heap.size (by omega)).trans HBOX.out
 have hbx1:=(hb1.block (w.heap.size+1) (by omega)).trans HBX2.out
 have hblk1:=(hb1.block (w.heap.size+1+1) (by omega)).trans HBLK.out
 have HB1:=hd (HBW.out.trans (hb1.mono (by omega)))
 have hz1:=jQg hblk1
 have c0:w1.cell? ⟨w.heap.size+1,0,none⟩=some (.slice ro row.length rcap):=by rw[jQb hbx1];rfl
 obtain⟨k0,k1,k2,k3,k4,k5,k6⟩:=jQr hbox1
 have HBOX1:=hd hbox1
 have HBLK1:=hd hblk1
 clear hb1 hbox1 hbx1 hblk1 HBOX HBX2 HBLK
 go_wp2_with fail
 refine(jQcs _ _ _ (by omega) (by omega) (by omega) (by omega)).mono ?_
 rintro e w5 ⟨rfl,hw5⟩
 rw[hw5]
 clear hw5 w5
 go_wp2
 go_region_with (first
  | (go_at_call 127;refine(jQlo row _ _ ((HR.out.below HB1.out).below (Below.drew (Below.refl _ _))).1 hrl HRS.out).mono ?_;rintro e w2 ⟨rfl,hb2⟩;have hb2':Below w1.heap.size w1 w2:=(Below.drew (Below.refl _ _)).trans hb2;obtain⟨m0,m1,m2,m3,m4,m5,m6⟩:=jQr ((hb2'.block w.heap.size (by omega)).trans HBOX1.out);have hz2:=hb2'.size;have hz2':w.heap.size < w2.heap.size:=(by omega);have HB2:=hd hb2';clear hb2 hb2')
  | (go_at_call 125;refine(HK2.out _ (HB1.out.trans (HB2.out.mono (by omega)))).mono ?_;rintro e w5 ⟨ev5,cv5,rfl,hn5,ht5,hf5⟩;obtain⟨⟨g1,g2,g3,hev⟩,j1,j2,j3,hcv⟩:=hn5.slices;subst hev hcv;have hblk:=(hf5.keep (w.heap.size+1+1) _ _ _ ((HB2.out.block (w.heap.size+1+1) (by omega)).trans HBLK1.out) (by decide) (by decide)).trans ((HB2.out.block (w.heap.size+1+1) (by omega)).trans HBLK1.out);obtain⟨b0,b1,b2,b3,b4,b5,b6⟩:=jQr hblk;have f0:=jQd hblk 0;have f1:=jQd hblk 1;have f2:=jQd hblk 2;have f3:=jQd hblk 3;have f4:=jQd hblk 4;have f5:=jQd hblk 5;have f6:=jQd hblk 6;have hz5:=jQg hblk;have HF5:Hid (TFrm tb w w5):=(TFrm.of (HB1.out.trans (HB2.out.mono (by omega))) (by omega)).trans hf5;have HN5:=hd hn5;have HT5:=hd ht5;have HBL:=hd hblk;clear hf5 ht5 hn5 hblk;obtain⟨yh,hyh⟩:∃x,x=Y.1.head:=⟨_,rfl⟩;rw[←hyh,jQc];have HYH:=hd hyh;clear hyh))
 all_goals(try go_wp2)
 all_goals
  refine bodyPost_ret (v:=.agg (headCells yh (.slice g1 g2 g3) (.slice j1 j2 j3)).toArray) (by simp[results,Tryz.results81,go_sem,headCells, *]) rfl ?_
  have he:=endS HN5.out HT5.out HF5.out HBL.out (by omega) (by omega) (.bool yh.inner) (.slice g1 g2 g3) (.slice j1 j2 j3) (.int .i64 yh.least) (.int .i64 yh.rows) (.string yh.sl) (.int .i64 yh.num)
  exact⟨_,_,by rw[HYH.out],he.1,he.2.1,he.2.2⟩
theorem jQhZ (K:Int)(hK0:0≤K)(hK:K≤99998)(X:Sq.NTree)(ev cv:Value)(n:Int)(name:ByteArray)(cols:List Sq.Col)(tv:Value)(tb:Nat)(tr:Sq.Trl)(w:World)(h:NodeAt Z w X.d X.t ev cv)(hf:Sq.TameT K 900000000 X)(ht:TrAt tb w tr)(hr:Sq.TameR K tr)(hZ:∀g,w.heap.size≤g→¬Z g)(hn0:-100000000000≤n)(hn1:n≤100000000000)
  (htc:ColsAt w tv cols) (htl:cols.length≤1000) (hnm:name.size≤1000) (hcn:∀c∈cols,c.name.size≤1000) (hrz:(Sq.ofTable name cols).size≤300) :
  Calls Tryz.prog 80 #[.agg (headCells X.head ev cv).toArray,.agg #[.int .i64 n,.string name,tv],.pointer (some ⟨tb,0,none⟩)] w (TreeSays Z tb (X.put ⟨Sq.placeOf 0 n,Sq.ofTable name cols⟩ tr) w):=by
 obtain⟨⟨e1,e2,e3,hev⟩,c1,c2,c3,hcv⟩:=h.slices
 subst hev hcv
 obtain⟨ro,rcap,rfl⟩:=jQa htc.1
 have HR:=hd htc
 have HCN:=hd hcn
 have HK:Hid (∀w',Below w.heap.size w w'→Calls Tryz.prog 125 #[.agg (headCells X.head (.slice e1 e2 e3) (.slice c1 c2 c3)).toArray,.int .i64 (Sq.placeOf 0 n),.string (Sq.ofTable name cols),.pointer (some ⟨tb,0,none⟩)] w' (TreeSays Z tb (X.put ⟨Sq.placeOf 0 n,Sq.ofTable name cols⟩ tr) w')):=fun w' hb=>jQp3 K hK0 (by omega) X _ _ _ _ hrz tb tr w' (h.below hb) hf (ht.below hb) hr (fun g hg=>hZ g (Nat.le_trans hb.size hg))
 have hk:=HK.out
 have hlt:=ht.lt
 obtain⟨Y,hY⟩:∃Y,Y=X.put ⟨Sq.placeOf 0 n,Sq.ofTable name cols⟩ tr:=⟨_,rfl⟩
 obtain⟨hh,hhe⟩:∃x,x=X.head:=⟨_,rfl⟩
 rw[←hY,←hhe] at hk ⊢
 rw[jQc] at hk ⊢
 have HK2:=hd hk
 clear h hf ht hr hZ HK hk hY hhe htc hcn
 obtain⟨W,hW⟩:∃W:World,W=((w.alloc (.cells #[.bool hh.inner,.slice e1 e2 e3,.slice c1 c2 c3,.int .i64 hh.least,.int .i64 hh.rows,.string hh.sl,.int .i64 hh.num] 91)).alloc (.cells #[.int .i64 n,.string name,.slice ro cols.length rcap] 94)).alloc (.cells #[.bool false,.slice none 0 0,.slice none 0 0,.int .i64 0,.int .i64 0,.string ⟨#[]⟩,.int .i64 0] 91):=⟨_,rfl⟩
 obtain⟨hbW,hbox,hbx2,hblk⟩:=jQP hW
 have hzW:=jQg hblk
 have c0:W.cell? ⟨w.heap.size+1,0,none⟩=some (.int .i64 n):=by rw[jQb hbx2];rfl
 have c1':W.cell? ⟨w.heap.size+1,1,none⟩=some (.string name):=by rw[jQb hbx2];rfl
 have c2':W.cell? ⟨w.heap.size+1,2,none⟩=some (.slice ro cols.length rcap):=by rw[jQb hbx2];rfl
 obtain⟨k0,k1,k2,k3,k4,k5,k6⟩:=jQr hbox
 have hzB:=jQg hbox
 have HBW:=hd hbW
 have HBOX:=hd hbox
 have HBLK:=hd hblk
 clear hbW hblk hbox hbx2
 go_enter Tryz.func80,Tryz.ntmps80
 go_wp2_with fail
 rw[←hW]
 clear hW
 refine(jQcs _ _ _ (by omega) (by omega) (by omega) (by omega)).mono ?_
 rintro e w5 ⟨rfl,hw5⟩
 rw[hw5]
 clear hw5 w5
 go_wp2
 go_region_with (first
  | (go_at_call 126;refine(jQln name cols _ _ ((HR.out.below HBW.out).below (Below.drew (Below.refl _ _))) htl hnm HCN.out).mono ?_;rintro e w2 ⟨rfl,hb2⟩;have hb2':Below W.heap.size W w2:=(Below.drew (Below.refl _ _)).trans hb2;obtain⟨m0,m1,m2,m3,m4,m5,m6⟩:=jQr ((hb2'.block w.heap.size (by omega)).trans HBOX.out);have hz2:=hb2'.size;have hz2':w.heap.size < w2.heap.size:=(by omega);have HB2:=hd hb2';clear hb2 hb2')
  | (go_at_call 125;refine(HK2.out _ (HBW.out.trans (HB2.out.mono (by omega)))).mono ?_;rintro e w5 ⟨ev5,cv5,rfl,hn5,ht5,hf5⟩;obtain⟨⟨g1,g2,g3,hev⟩,j1,j2,j3,hcv⟩:=hn5.slices;subst hev hcv;have hblk:=(hf5.keep (w.heap.size+1+1) _ _ _ ((HB2.out.block (w.heap.size+1+1) (by omega)).trans HBLK.out) (by decide) (by decide)).trans ((HB2.out.block (w.heap.size+1+1) (by omega)).trans HBLK.out);obtain⟨b0,b1,b2,b3,b4,b5,b6⟩:=jQr hblk;have f0:=jQd hblk 0;have f1:=jQd hblk 1;have f2:=jQd hblk 2;have f3:=jQd hblk 3;have f4:=jQd hblk 4;have f5:=jQd hblk 5;have f6:=jQd hblk 6;have hz5:=jQg hblk;have HF5:Hid (TFrm tb w w5):=(TFrm.of (HBW.out.trans (HB2.out.mono (by omega))) (by omega)).trans hf5;have HN5:=hd hn5;have HT5:=hd ht5;have HBL:=hd hblk;clear hf5 ht5 hn5 hblk;obtain⟨yh,hyh⟩:∃x,x=Y.1.head:=⟨_,rfl⟩;rw[←hyh,jQc];have HYH:=hd hyh;clear hyh))
 all_goals(try go_wp2)
 all_goals
  refine bodyPost_ret (v:=.agg (headCells yh (.slice g1 g2 g3) (.slice j1 j2 j3)).toArray) (by simp[results,Tryz.results80,go_sem,headCells, *]) rfl ?_
  have he:=endS HN5.out HT5.out HF5.out HBL.out (by omega) (by omega) (.bool yh.inner) (.slice g1 g2 g3) (.slice j1 j2 j3) (.int .i64 yh.least) (.int .i64 yh.rows) (.string yh.sl) (.int .i64 yh.num)
  exact⟨_,_,by rw[HYH.out],he.1,he.2.1,he.2.2⟩
end
end Go.Proofs.YtahpihjialbanaaGreatDoor
