import Derived.Test.YtahpihjialbanaaGreatDoorQba
set_option linter.unusedVariables false
set_option linter.unusedSimpArgs false
set_option maxRecDepth 100000
set_option maxHeartbeats 8000000
namespace Go.Proofs.YtahpihjialbanaaGreatDoor
section
open Go.RowKit
variable {Z:Nat→Prop}
theorem jQnu (K:Int)(hK:K≤99999)(X:Sq.NTree)(ev cv:Value)(sql:ByteArray)(tb:Nat)(tr:Sq.Trl)(w:World)(h:NodeAt Z w X.d X.t ev cv)(hf:Sq.TameT K 800000000 X)(hcn:Sq.countN X.d X.t≤900)(ht:TrAt tb w tr)(hr:Sq.TameR K tr)(hT:Tbl w)(hL:Low tb) :
  Calls Tryz.prog 53 #[.agg (headCells X.head ev cv).toArray,.string sql,.pointer (some ⟨tb,0,none⟩)] w (OutSays tb (Sq.decideR X sql tr) w):=by
 obtain⟨⟨e1,e2,e3,hev⟩,k1,k2,k3,hcv⟩:=h.slices
 subst hev hcv
 have htb:tb≤w.heap.size:=Nat.le_of_lt ht.lt
 have hp:=Sq.jQqD sql
 have hpw:=Sq.jQms sql
 have hpb:=Sq.jQmu sql
 have hE:Sq.decideR X sql tr=if(Sq.parse sql).1 != 0 then(Sq.refusedR (Sq.parse sql).1,tr) else if(Sq.parse sql).2.act==1 then(Sq.createR (Sq.tabsR X tr).1 X.head.rows (Sq.parse sql).2,(Sq.tabsR X tr).2)
  else match Sq.findR (Sq.parse sql).2.table (Sq.tabsR X tr).1 with
  | some t=>if Sq.check t.cols (Sq.parse sql).2 != 0 then(Sq.refusedR (Sq.check t.cols (Sq.parse sql).2),(Sq.tabsR X tr).2)
    else if(Sq.parse sql).2.act==2 then Sq.insertR X t (Sq.parse sql).2.vals (Sq.tabsR X tr).2
    else(Sq.askedR t (Sq.metN t.cols (Sq.spannedR X t (Sq.parse sql).2.wher (Sq.tabsR X tr).2).1 (Sq.parse sql).2.wher) (Sq.parse sql).2,(Sq.spannedR X t (Sq.parse sql).2.wher (Sq.tabsR X tr).2).2)
  | none=>(Sq.refusedR 4,(Sq.tabsR X tr).2):=rfl
 have hr1:=Sq.jQej hf.t hr
 have hbd:=Sq.jQlL X tr
 have hkt:∀w',NodeAt Z w' X.d X.t (.slice e1 e2 e3) (.slice k1 k2 k3)→TrAt tb w' tr→Calls Tryz.prog 69 #[.agg (headCells X.head (.slice e1 e2 e3) (.slice k1 k2 k3)).toArray,.pointer (some ⟨tb,0,none⟩)] w' (TabsSays tb (Sq.tabsR X tr) w'):=fun w' hn ht'=>jQnX K hK X _ _ tb tr w' hn hf.t hcn ht' hr
 have hks:∀w',Calls Tryz.prog 71 #[.agg (headCells X.head (.slice e1 e2 e3) (.slice k1 k2 k3)).toArray] w' fun e w''=>e=.returned (.int .i64 X.head.rows)∧Below w'.heap.size w' w'':=fun w'=>jQdH X.head _ _ w' ⟨_,_,_,rfl⟩ ⟨_,_,_,rfl⟩
 have hkr:∀(t:Sq.TabN) (tv sv:Value) w',t∈(Sq.tabsR X tr).1→NodeAt Z w' X.d X.t (.slice e1 e2 e3) (.slice k1 k2 k3)→TrAt tb w' (Sq.tabsR X tr).2→ColsAt w' tv t.cols→StepsAt w' sv (Sq.parse sql).2.wher→Calls Tryz.prog 75 #[.agg (headCells X.head (.slice e1 e2 e3) (.slice k1 k2 k3)).toArray,.agg #[.int .i64 t.number,.string t.name,tv],sv,.pointer (some ⟨tb,0,none⟩)] w' (RowsSays tb (Sq.spannedR X t (Sq.parse sql).2.wher (Sq.tabsR X tr).2) w'):=fun t tv sv w' hm hn ht' hc hs =>
  jQkv K hK X _ _ t tv sv _ tb _ w' hn hf.t hcn ht' hr1 (by have:=hbd t hm;omega) (by have:=hbd t hm;omega) hc (by have:=hbd t hm;omega) hs (by have:=hp.wher;omega) hpw.okSt (Sq.jQjC t.cols hpw)
 have hki:∀(t:Sq.TabN) (tv vv:Value) w',t∈(Sq.tabsR X tr).1→NodeAt Z w' X.d X.t (.slice e1 e2 e3) (.slice k1 k2 k3)→TrAt tb w' (Sq.tabsR X tr).2→ColsAt w' tv t.cols→RowAt w' vv (Sq.parse sql).2.vals→Tbl w'→Calls Tryz.prog 74 #[.agg (headCells X.head (.slice e1 e2 e3) (.slice k1 k2 k3)).toArray,.agg #[.int .i64 t.number,.string t.name,tv],vv,.pointer (some ⟨tb,0,none⟩)] w' (OutSays tb (Sq.insertR X t (Sq.parse sql).2.vals (Sq.tabsR X tr).2) w'):=fun t tv vv w' hm hn ht' hc hv hT' =>
  jQkY K hK X _ _ t tv vv _ tb _ w' hn hf ht' hr1 (by have:=hbd t hm;omega) (by have:=hbd t hm;omega) hc hv (fun v hv=>⟨(hp.okv v hv).2.2,(hp.okv v hv).1,(hp.okv v hv).2.1⟩) hT' hL
 have hrk:∀t,(∀r∈(Sq.spannedR X t (Sq.parse sql).2.wher (Sq.tabsR X tr).2).1,Sq.okRow r)∧(Sq.spannedR X t (Sq.parse sql).2.wher (Sq.tabsR X tr).2).1.length≤900:=fun t=>⟨(Sq.jQcb hf.t hr1 t _).1,Nat.le_trans (Sq.jQcb hf.t hr1 t _).2.1 hcn⟩
 generalize Sq.insertR X=inf at *
 generalize Sq.spannedR X=spf at *
 generalize Sq.decideR X sql tr=res at *
 have hts:(Sq.tabsR X tr)=((Sq.tabsR X tr).1,(Sq.tabsR X tr).2):=rfl
 rw[hts] at hkt
 generalize (Sq.tabsR X tr).1=ts at *
 generalize (Sq.tabsR X tr).2=tr1 at *
 generalize X.head=hh at *
 rw[jQc] at hkt hks hkr hki ⊢
 clear hts hr1 hf hcn hr
 have HE:=hd hE
 have HKT:=hd hkt
 have HKS:=hd hks
 have HKR:=hd hkr
 have HKI:=hd hki
 have HRK:=hd hrk
 have HBD:=hd hbd
 have HK:=hd hp
 have HN:=hd h
 have HTR:=hd ht
 have HT:=hd hT
 have HL:=hd hL
 clear hE hkt hks hkr hki hrk hbd hp hpw h ht hT hL
 obtain⟨W,hW⟩:∃W:World,W=(w.alloc (.cells #[.bool hh.inner,.slice e1 e2 e3,.slice k1 k2 k3,.int .i64 hh.least,.int .i64 hh.rows,.string hh.sl,.int .i64 hh.num] 91)).alloc (.cells #[.string ⟨#[]⟩,.bool false,.int .i64 0,.string ⟨#[]⟩,.slice none 0 0,.slice none 0 0,.slice none 0 0] 98):=⟨_,rfl⟩
 obtain⟨hbW,hbox,hbo⟩:=jQbg hW
 have hzW:=jQg hbo
 have HBW:=hd hbW
 have HBO:Hid (W.heap[w.heap.size+1]?=some (.cells out0 98)):=hbo
 have HBOX:=hd hbox
 clear hbW hbo hbox
 go_enter Tryz.func53,Tryz.ntmps53
 go_wp2_with fail
 rw[←hW]
 clear hW
 refine(jQpE sql _).mono ?_
 rintro e w1 ⟨hb1,r,rfl,hst⟩
 have hst2:=StmAt.of hst HK.out
 have hE:=HE.out
 have hk:=HK.out
 have hkr:=HKR.out
 have hki:=HKI.out
 have hrk:=HRK.out
 clear HE HK HKR HKI HRK hst
 generalize (Sq.parse sql).2=st at *
 generalize (Sq.parse sql).1=pe at *
 have HE:=hd hE
 have HK:=hd hk
 have HKR:=hd hkr
 have HKI:=hd hki
 have HRK:=hd hrk
 clear hkr hki hrk
 obtain⟨cvx,vvx,svx,ivx,wvx⟩:=r
 obtain⟨q5,c5,hcv⟩:=jQa hst2.cols.1
 obtain⟨q6,c6,hvv⟩:=jQa hst2.vals
 obtain⟨q7,c7,hsv⟩:=jQa hst2.sets.1
 obtain⟨q9,c9,hiv⟩:=jQa hst2.items.1
 obtain⟨q10,c10,hwv⟩:=jQa hst2.wher
 dsimp only at hcv hvv hsv hiv hwv
 subst hcv hvv hsv hiv hwv
 obtain⟨hpb0,hpb1⟩:=hpb
 have hz1:=hb1.size
 have HC0:Hid (Dctx Z tb w #[.bool hh.inner,.slice e1 e2 e3,.slice k1 k2 k3,.int .i64 hh.least,.int .i64 hh.rows,.string hh.sl,.int .i64 hh.num] w1.heap.size st ⟨.slice q5 st.cols.length c5,.slice q6 st.vals.length c6,.slice q7 st.sets.length c7,.slice q9 st.items.length c9,.slice q10 st.wher.length c10⟩ X.d X.t (.slice e1 e2 e3) (.slice k1 k2 k3) tr (w1.alloc (.cells #[.int .i64 st.act,.string st.table,.slice q5 st.cols.length c5,.slice q6 st.vals.length c6,.slice q7 st.sets.length c7,.int .i64 st.shw,.slice q9 st.items.length c9,.slice q10 st.wher.length c10] 118))):=by
  have hA1:Below w1.heap.size w1 (w1.alloc (.cells #[.int .i64 st.act,.string st.table,.slice q5 st.cols.length c5,.slice q6 st.vals.length c6,.slice q7 st.sets.length c7,.int .i64 st.shw,.slice q9 st.items.length c9,.slice q10 st.wher.length c10] 118)):=(Below.refl _ _).alloc (Nat.le_refl _) _
  have hbx:Below w.heap.size w (w1.alloc (.cells #[.int .i64 st.act,.string st.table,.slice q5 st.cols.length c5,.slice q6 st.vals.length c6,.slice q7 st.sets.length c7,.int .i64 st.shw,.slice q9 st.items.length c9,.slice q10 st.wher.length c10] 118)):=HBW.out.trans ((hb1.mono (by omega)).trans (hA1.mono (by omega)))
  exact⟨TFrm.of hbx htb,(hA1.block _ (by omega)).trans ((hb1.block _ (by omega)).trans HBOX.out),(hA1.block _ (by omega)).trans ((hb1.block _ (by omega)).trans HBO.out),jQaB _ _,hst2.below hA1,HTR.out.below hbx,HT.out.below hbx,HN.out.below hbx⟩
 obtain⟨y0,y1,y2,y3,y4,y5,y6⟩:=jQr ((hb1.block w.heap.size (by omega)).trans HBOX.out)
 have hzs:w.heap.size < w1.heap.size:=by omega
 clear hb1 hst2 hE hk HBW HBO HBOX HTR HT HN
 unfold stmCells
 cases h0:pe != 0
 case true =>
  have HE2:Hid (res=(Sq.refusedR pe,tr)):=by show _=_;rw[HE.out,h0];rfl
  go_wp2_with fail
  refine(jQcw pe _ (by omega) (by omega) HC0.out.tbl).mono ?_
  rintro e w9 ⟨cv9,pv9,kv9,rfl,ho9,hb9⟩
  obtain⟨o9,ho9e⟩:∃x,x=Sq.refusedR pe:=⟨_,rfl⟩
  have HE9:Hid (res=(o9,tr)):=by show _=_;rw[HE2.out,ho9e]
  rw[←ho9e] at ho9 ⊢
  obtain⟨xo9,xc9,rfl⟩:=jQa ho9.cols.1
  obtain⟨yo9,yc9,rfl⟩:=ho9.puts.slice
  obtain⟨zo9,zc9,rfl⟩:=jQa ho9.cuts
  have HC9:=hd (HC0.out.next hb9)
  have HO9:=hd ho9
  obtain⟨d0,d1,d2,d3,d4,d5,d6⟩:=jQK HC9.out.out
  obtain⟨f0,f1,f2,f3,f4,f5,f6⟩:=jQw HC9.out.out
  have hz10:=jQg HC9.out.out
  clear hb9 ho9 ho9e
  unfold outCells
  go_wp2
  refine bodyPost_ret (v:=.agg (outCells o9 (.slice xo9 o9.tab.cols.length xc9) (.slice yo9 o9.puts.length yc9) (.slice zo9 o9.cuts.length zc9))) (by simp[results,Tryz.results53,go_sem,outCells, *]) rfl ?_
  rw[HE9.out]
  exact HC9.out.done htb HO9.out _ _ _ _ _ _ _
 case false =>
  have hE:=HE.out
  rw[h0,if_neg (by decide)] at hE
  clear HE
  have HE:=hd hE
  clear hE
  go_wp2_with fail
  refine(HKT.out _ HC0.out.node HC0.out.tra).mono ?_
  rintro e w2 ⟨tv,l,rfl,hts,htown,htr2,hf2⟩
  simp only at hts htr2
  obtain⟨lo,lcap,rfl⟩:=jQa htown.own
  have HC2:=hd (HC0.out.nextT HL.out hf2 htr2)
  have HTO:=hd htown
  have HTS:=hd hts
  clear hf2 htr2 htown hts HC0 y0 y1 y2 y3 y4 y5 y6
  obtain⟨b0,b1,b2,b3,b4,b5,b6,b7⟩:=jQca HC2.out.stm
  obtain⟨s0,s1,s2,s3,s4,s5,s6⟩:=jQr HC2.out.sto
  have hz2:=jQg HC2.out.stm
  have hz3:=jQg HC2.out.sto
  have hz4:=jQg HC2.out.out
  cases h1:st.act==1
  case true =>
   have HE2:Hid (res=(Sq.createR (l.map Prod.fst) hh.rows st,tr1)):=by show _=_;rw[HE.out,h1,HTS.out];rfl
   have HBL:Hid (∀x∈l,-2147483648≤x.1.number∧x.1.number≤2147483647):=fun x hx=>by
    have:=HBD.out x.1 (by rw[←HTS.out];exact List.mem_map_of_mem hx)
    omega
   go_wp2
   go_region_with (first
    | (go_at_call 71;refine(HKS.out _).mono ?_;rintro e w3 ⟨rfl,hb3⟩;have HC3:=hd (HC2.out.next ((Below.drew (Below.refl _ _)).trans hb3));have HB3:=hd ((Below.drew (Below.refl w2.heap.size w2)).trans hb3);clear hb3;obtain⟨g0,g1,g2,g3,g4,g5,g6,g7⟩:=jQca HC3.out.stm;have hz5:=jQg HC3.out.stm;have hz6:=jQg HC3.out.out)
    | (go_at_call 70;refine(jQkZ l _ hh.rows st ⟨.slice q5 st.cols.length c5,.slice q6 st.vals.length c6,.slice q7 st.sets.length c7,.slice q9 st.items.length c9,.slice q10 st.wher.length c10⟩ _ (HTO.out.below HB3.out) HBL.out HC3.out.at_ HC3.out.tbl).mono ?_;rintro e w9 ⟨cv9,pv9,kv9,rfl,ho9,hb9⟩;obtain⟨o9,ho9e⟩:∃x,x=Sq.createR (l.map Prod.fst) hh.rows st:=⟨_,rfl⟩;have HE9:Hid (res=(o9,tr1)):=(by show _=_;rw[HE2.out,ho9e]);rw[←ho9e] at ho9 ⊢;obtain⟨xo9,xc9,rfl⟩:=jQa ho9.cols.1;obtain⟨yo9,yc9,rfl⟩:=ho9.puts.slice;obtain⟨zo9,zc9,rfl⟩:=jQa ho9.cuts;have HC9:=hd (HC3.out.next hb9);have HO9:=hd ho9;obtain⟨d0,d1,d2,d3,d4,d5,d6⟩:=jQK HC9.out.out;obtain⟨f0,f1,f2,f3,f4,f5,f6⟩:=jQw HC9.out.out;have hz10:=jQg HC9.out.out;clear hb9 ho9 ho9e;unfold outCells))
   all_goals(try go_wp2_with fail)
   all_goals(refine bodyPost_ret (v:=.agg (outCells o9 (.slice xo9 o9.tab.cols.length xc9) (.slice yo9 o9.puts.length yc9) (.slice zo9 o9.cuts.length zc9))) (by simp[results,Tryz.results53,go_sem,outCells, *]) rfl ?_)
   all_goals(rw[HE9.out];exact HC9.out.done htb HO9.out _ _ _ _ _ _ _)
  case false =>
   have hE:=HE.out
   rw[h1,if_neg (by decide)] at hE
   clear HE
   have HE:=hd hE
   clear hE
   go_wp2_with fail
   refine(jQf0 l _ st.table _ HTO.out).mono ?_
   rintro e w3 ⟨fcv,rfl,hcf,hb3⟩
   obtain⟨fao,fcap,rfl⟩:=jQa hcf.1
   have HC3:=hd (HC2.out.next hb3)
   have HCF:=hd hcf
   have hE:=HE.out
   rw[←HTS.out] at hE
   clear HE
   have HMEM:Hid (∀t,Sq.findR st.table (l.map Prod.fst)=some t→t∈ts):=fun t ht=>by rw[←HTS.out];exact Sq.jQgv ht
   have hmem:=HMEM.out
   have hcf2:=HCF.out
   clear hb3 hcf HC2 HMEM HCF b0 b1 b2 b3 b4 b5 b6 b7 s0 s1 s2 s3 s4 s5 s6 hz2 hz3 hz4 HTS
   generalize Sq.findR st.table (l.map Prod.fst)=fo at *
   cases fo with
   | none =>
    have HE2:Hid (res=(Sq.refusedR 4,tr1)):=hE
    clear hE hmem hcf2
    simp only[Option.getD_none,Option.isSome_none]
    have hA3:Below w3.heap.size w3 (w3.alloc (.cells #[.int .i64 Sq.tabNone.number,.string Sq.tabNone.name,.slice fao Sq.tabNone.cols.length fcap] 94)):=(Below.refl _ _).alloc (Nat.le_refl _) _
    have HC4:=hd (HC3.out.next hA3)
    clear hA3 HC3
    go_wp2_with fail
    refine(jQcw 4 _ (by omega) (by omega) HC4.out.tbl).mono ?_
    rintro e w9 ⟨cv9,pv9,kv9,rfl,ho9,hb9⟩
    obtain⟨o9,ho9e⟩:∃x,x=Sq.refusedR 4:=⟨_,rfl⟩
    have HE9:Hid (res=(o9,tr1)):=by show _=_;rw[HE2.out,ho9e]
    rw[←ho9e] at ho9 ⊢
    obtain⟨xo9,xc9,rfl⟩:=jQa ho9.cols.1
    obtain⟨yo9,yc9,rfl⟩:=ho9.puts.slice
    obtain⟨zo9,zc9,rfl⟩:=jQa ho9.cuts
    have HC9:=hd (HC4.out.next hb9)
    have HO9:=hd ho9
    obtain⟨d0,d1,d2,d3,d4,d5,d6⟩:=jQK HC9.out.out
    obtain⟨f0,f1,f2,f3,f4,f5,f6⟩:=jQw HC9.out.out
    have hz10:=jQg HC9.out.out
    clear hb9 ho9 ho9e
    unfold outCells
    go_wp2
    refine bodyPost_ret (v:=.agg (outCells o9 (.slice xo9 o9.tab.cols.length xc9) (.slice yo9 o9.puts.length yc9) (.slice zo9 o9.cuts.length zc9))) (by simp[results,Tryz.results53,go_sem,outCells, *]) rfl ?_
    rw[HE9.out]
    exact HC9.out.done htb HO9.out _ _ _ _ _ _ _
   | some t =>
    simp only[Option.getD_some,Option.isSome_some] at hcf2 hE ⊢
    have htm:=hmem t rfl
    have hA3:Below w3.heap.size w3 (w3.alloc (.cells #[.int .i64 t.number,.string t.name,.slice fao t.cols.length fcap] 94)):=(Below.refl _ _).alloc (Nat.le_refl _) _
    have HC4:=hd (HC3.out.next hA3)
    have HCT:=hd (hcf2.below hA3)
    have HTM:=hd htm
    have HTB:Hid ((w3.alloc (.cells #[.int .i64 t.number,.string t.name,.slice fao t.cols.length fcap] 94)).heap[w3.heap.size]?=some (.cells #[.int .i64 t.number,.string t.name,.slice fao t.cols.length fcap] 94)):=jQaB _ _
    have HE:=hd hE
    have hcb:=Sq.jQnJ t.cols st
    have hck:=jQpv t.cols (.slice fao t.cols.length fcap) st ⟨.slice q5 st.cols.length c5,.slice q6 st.vals.length c6,.slice q7 st.sets.length c7,.slice q9 st.items.length c9,.slice q10 st.wher.length c10⟩
    clear hA3 HC3 hmem htm hcf2 hE
    have HCK:=hd hck
    obtain⟨b0,b1,b2,b3,b4,b5,b6,b7⟩:=jQca HC4.out.stm
    have hz2:=jQg HC4.out.stm
    have hz3:=jQg HTB.out
    clear hck
    go_wp2_with fail
    refine(HCK.out _ HCT.out HC4.out.at_).mono ?_
    rintro e w4 ⟨rfl,hb4⟩
    have hE:=HE.out
    have HC5:=hd (HC4.out.next hb4)
    have HCT5:=hd (HCT.out.below hb4)
    have HTB5:=hd ((hb4.block _ hz3).trans HTB.out)
    clear hb4 HCK HE HC4 HCT HTB b0 b1 b2 b3 b4 b5 b6 b7 hz2 hz3
    generalize Sq.check t.cols st=ce at *
    have HE:=hd hE
    clear hE
    obtain⟨b0,b1,b2,b3,b4,b5,b6,b7⟩:=jQca HC5.out.stm
    obtain⟨s0,s1,s2,s3,s4,s5,s6⟩:=jQr HC5.out.sto
    obtain⟨t0,t1,t2,-,-,-⟩:=tab3 HTB5.out
    have hz2:=jQg HC5.out.stm
    have hz3:=jQg HTB5.out
    have hz4:=jQg HC5.out.sto
    have hz5:=jQg HC5.out.out
    cases h2:ce != 0
    case true =>
     have HE2:Hid (res=(Sq.refusedR ce,tr1)):=by show _=_;rw[HE.out,h2];rfl
     go_wp2_with fail
     refine(jQcw ce _ (by omega) (by omega) HC5.out.tbl).mono ?_
     rintro e w9 ⟨cv9,pv9,kv9,rfl,ho9,hb9⟩
     obtain⟨o9,ho9e⟩:∃x,x=Sq.refusedR ce:=⟨_,rfl⟩
     have HE9:Hid (res=(o9,tr1)):=by show _=_;rw[HE2.out,ho9e]
     rw[←ho9e] at ho9 ⊢
     obtain⟨xo9,xc9,rfl⟩:=jQa ho9.cols.1
     obtain⟨yo9,yc9,rfl⟩:=ho9.puts.slice
     obtain⟨zo9,zc9,rfl⟩:=jQa ho9.cuts
     have HC9:=hd (HC5.out.next hb9)
     have HO9:=hd ho9
     obtain⟨d0,d1,d2,d3,d4,d5,d6⟩:=jQK HC9.out.out
     obtain⟨f0,f1,f2,f3,f4,f5,f6⟩:=jQw HC9.out.out
     have hz10:=jQg HC9.out.out
     clear hb9 ho9 ho9e
     unfold outCells
     go_wp2
     refine bodyPost_ret (v:=.agg (outCells o9 (.slice xo9 o9.tab.cols.length xc9) (.slice yo9 o9.puts.length yc9) (.slice zo9 o9.cuts.length zc9))) (by simp[results,Tryz.results53,go_sem,outCells, *]) rfl ?_
     rw[HE9.out]
     exact HC9.out.done htb HO9.out _ _ _ _ _ _ _
    case false =>
     have hE:=HE.out
     rw[h2,if_neg (by decide)] at hE
     clear HE
     have HE:=hd hE
     clear hE
     cases h3:st.act==2
     case true =>
      have HE2:Hid (res=inf t st.vals tr1):=by show _=_;rw[HE.out,h3];rfl
      go_wp2_with fail
      refine(HKI.out t _ _ _ HTM.out HC5.out.node HC5.out.tra HCT5.out ⟨HC5.out.at_.vals,HC5.out.at_.nvals⟩ HC5.out.tbl).mono ?_
      rintro e w9 ⟨cv9,pv9,kv9,rfl,ho9,ht9,hf9⟩
      obtain⟨⟨o9,tr9⟩,ho9e⟩:∃x,x=inf t st.vals tr1:=⟨_,rfl⟩
      have HE9:Hid (res=(o9,tr9)):=by show _=_;rw[HE2.out,ho9e]
      rw[←ho9e] at ho9 ht9 ⊢
      simp only at ho9 ht9 ⊢
      obtain⟨xo9,xc9,rfl⟩:=jQa ho9.cols.1
      obtain⟨yo9,yc9,rfl⟩:=ho9.puts.slice
      obtain⟨zo9,zc9,rfl⟩:=jQa ho9.cuts
      have HC9:=hd (HC5.out.nextT HL.out hf9 ht9)
      have HO9:=hd ho9
      obtain⟨d0,d1,d2,d3,d4,d5,d6⟩:=jQK HC9.out.out
      obtain⟨f0,f1,f2,f3,f4,f5,f6⟩:=jQw HC9.out.out
      have hz10:=jQg HC9.out.out
      clear hf9 ht9 ho9 ho9e
      unfold outCells
      go_wp2
      refine bodyPost_ret (v:=.agg (outCells o9 (.slice xo9 o9.tab.cols.length xc9) (.slice yo9 o9.puts.length yc9) (.slice zo9 o9.cuts.length zc9))) (by simp[results,Tryz.results53,go_sem,outCells, *]) rfl ?_
      rw[HE9.out]
      exact HC9.out.done htb HO9.out _ _ _ _ _ _ _
     case false =>
      have hE:=HE.out
      rw[h3,if_neg (by decide)] at hE
      clear HE
      obtain⟨⟨sp,tr2⟩,hsp⟩:∃x,x=spf t st.wher tr1:=⟨_,rfl⟩
      have hkr:=HKR.out t (.slice fao t.cols.length fcap) (.slice q10 st.wher.length c10)
      have hrk:=HRK.out t
      rw[←hsp] at hE hkr hrk
      simp only at hE hrk
      obtain⟨hrk1,hrk2⟩:=hrk
      have hml:=List.length_filter_le (fun row=>Sq.meets t.cols row st.wher) sp
      have hmo:∀r∈Sq.metN t.cols sp st.wher,Sq.okRow r:=fun r hr=>hrk1 r (List.mem_filter.1 hr).1
      have hmk:∀(rv:Value) w',ColsAt w' (.slice fao t.cols.length fcap) t.cols→RowsOwn 0 w' rv sp→StepsAt w' (.slice q10 st.wher.length c10) st.wher→Calls Tryz.prog 76 #[.slice fao t.cols.length fcap,rv,.slice q10 st.wher.length c10] w' fun e w''=>∃v,e=.returned v∧RowsOwn w'.heap.size w'' v (Sq.metN t.cols sp st.wher)∧Below w'.heap.size w' w'':=fun rv w' hc hr hs=>jQkJ t.cols sp st.wher _ rv _ w' hc hr (by omega) hs (by have:=HK.out.wher;omega)
      change (Sq.metN t.cols sp st.wher).length≤_ at hml
      generalize Sq.metN t.cols sp st.wher=met at *
      have hmet:met.length≤900:=by omega
      have HE:=hd hE
      have HMO:=hd hmo
      have HMK:=hd hmk
      have HKR2:=hd hkr
      clear hE hmo hmk hml hkr hrk1 HKR HRK hsp
      go_wp2_with fail
      refine(HKR2.out _ HTM.out HC5.out.node HC5.out.tra HCT5.out HC5.out.at_.steps).mono ?_
      rintro e w5 ⟨rv,rfl,hr5,ht5,hf5⟩
      simp only at hr5 ht5
      obtain⟨ro,rcap,rfl⟩:=hr5.slice
      have HC6:=hd (HC5.out.nextT HL.out hf5 ht5)
      have HTB6:=hd ((hf5.keep _ _ _ _ HTB5.out (by decide) (by decide)).trans HTB5.out)
      have HCT6:=hd (HCT5.out.tfrm hf5)
      have HR5:=hd hr5
      clear hr5 ht5 hf5 HC5 HTB5 HCT5 b0 b1 b2 b3 b4 b5 b6 b7 s0 s1 s2 s3 s4 s5 s6 t0 t1 t2 hz2 hz3 hz4 hz5
      obtain⟨b0,b1,b2,b3,b4,b5,b6,b7⟩:=jQca HC6.out.stm
      obtain⟨t0,t1,t2,-,-,-⟩:=tab3 HTB6.out
      have hz2:=jQg HC6.out.stm
      have hz4:=jQg HTB6.out
      have hz5:=jQg HC6.out.out
      go_wp2_with fail
      refine(HMK.out _ _ HCT6.out HR5.out HC6.out.at_.steps).mono ?_
      rintro e w6 ⟨mv,rfl,hm6,hb6⟩
      obtain⟨mo,mcap,rfl⟩:=hm6.slice
      have HC7:=hd (HC6.out.next hb6)
      have HTB7:=hd ((hb6.block _ hz4).trans HTB6.out)
      have HCT7:=hd (HCT6.out.below hb6)
      have HM:=hd (hm6.base (Nat.zero_le _))
      clear hm6 hb6 HC6 HTB6 HCT6 HR5 b0 b1 b2 b3 b4 b5 b6 b7 t0 t1 t2 hz2 hz4 hz5
      obtain⟨b0,b1,b2,b3,b4,b5,b6,b7⟩:=jQca HC7.out.stm
      obtain⟨t0,t1,t2,-,-,-⟩:=tab3 HTB7.out
      have hz2:=jQg HC7.out.stm
      have hz4:=jQg HTB7.out
      have hz5:=jQg HC7.out.out
      cases h4:st.act==3
      case true =>
       have HE2:Hid (res=(Sq.updateR t met st.sets,tr2)):=by show _=_;rw[HE.out];unfold Sq.askedR;rw[h4];rfl
       go_wp2_with fail
       refine(jQkX t.number t.name t.cols met st.sets _ _ _ _ HCT7.out HM.out HC7.out.at_.sets HC7.out.tbl HMO.out HK.out.oks (by omega)).mono ?_
       rintro e w9 ⟨cv9,pv9,kv9,rfl,ho9,hb9⟩
       obtain⟨o9,ho9e⟩:∃x,x=Sq.updateR ⟨t.number,t.name,t.cols⟩ met st.sets:=⟨_,rfl⟩
       have HE9:Hid (res=(o9,tr2)):=by show _=_;rw[HE2.out,ho9e]
       rw[←ho9e] at ho9 ⊢
       obtain⟨xo9,xc9,rfl⟩:=jQa ho9.cols.1
       obtain⟨yo9,yc9,rfl⟩:=ho9.puts.slice
       obtain⟨zo9,zc9,rfl⟩:=jQa ho9.cuts
       have HC9:=hd (HC7.out.next hb9)
       have HO9:=hd ho9
       obtain⟨d0,d1,d2,d3,d4,d5,d6⟩:=jQK HC9.out.out
       obtain⟨f0,f1,f2,f3,f4,f5,f6⟩:=jQw HC9.out.out
       have hz10:=jQg HC9.out.out
       clear hb9 ho9 ho9e
       unfold outCells
       go_wp2
       refine bodyPost_ret (v:=.agg (outCells o9 (.slice xo9 o9.tab.cols.length xc9) (.slice yo9 o9.puts.length yc9) (.slice zo9 o9.cuts.length zc9))) (by simp[results,Tryz.results53,go_sem,outCells, *]) rfl ?_
       rw[HE9.out]
       exact HC9.out.done htb HO9.out _ _ _ _ _ _ _
      case false =>
       cases h5:st.act==4
       case true =>
        have HE2:Hid (res=(Sq.removeR t met,tr2)):=by show _=_;rw[HE.out];unfold Sq.askedR;rw[h4,h5];rfl
        go_wp2_with fail
        refine(jQmd t _ met _ _ HCT7.out HM.out HC7.out.tbl (by omega)).mono ?_
        rintro e w9 ⟨cv9,pv9,kv9,rfl,ho9,hb9⟩
        obtain⟨o9,ho9e⟩:∃x,x=Sq.removeR t met:=⟨_,rfl⟩
        have HE9:Hid (res=(o9,tr2)):=by show _=_;rw[HE2.out,ho9e]
        rw[←ho9e] at ho9 ⊢
        obtain⟨xo9,xc9,rfl⟩:=jQa ho9.cols.1
        obtain⟨yo9,yc9,rfl⟩:=ho9.puts.slice
        obtain⟨zo9,zc9,rfl⟩:=jQa ho9.cuts
        have HC9:=hd (HC7.out.next hb9)
        have HO9:=hd ho9
        obtain⟨d0,d1,d2,d3,d4,d5,d6⟩:=jQK HC9.out.out
        obtain⟨f0,f1,f2,f3,f4,f5,f6⟩:=jQw HC9.out.out
        have hz10:=jQg HC9.out.out
        clear hb9 ho9 ho9e
        unfold outCells
        go_wp2
        refine bodyPost_ret (v:=.agg (outCells o9 (.slice xo9 o9.tab.cols.length xc9) (.slice yo9 o9.puts.length yc9) (.slice zo9 o9.cuts.length zc9))) (by simp[results,Tryz.results53,go_sem,outCells, *]) rfl ?_
        rw[HE9.out]
        exact HC9.out.done htb HO9.out _ _ _ _ _ _ _
       case false =>
        have HE2:Hid (res=(⟨Sq.showR t.cols met st,false,Sq.tabNone,[],[]⟩,tr2)):=by show _=_;rw[HE.out];unfold Sq.askedR;rw[h4,h5];rfl
        have hcl:=HBD.out t HTM.out
        go_wp2_with fail
        refine(jQqm t.cols met _ _ st ⟨.slice q5 st.cols.length c5,.slice q6 st.vals.length c6,.slice q7 st.sets.length c7,.slice q9 st.items.length c9,.slice q10 st.wher.length c10⟩ _ HCT7.out HM.out HC7.out.at_ HC7.out.tbl HMO.out (by omega) (by omega) HK.out.items).mono ?_
        rintro e w9 ⟨rfl,hb9⟩
        have HC9:=hd (HC7.out.next hb9)
        obtain⟨d0,d1,d2,d3,d4,d5,d6⟩:=jQK HC9.out.out
        obtain⟨f0,f1,f2,f3,f4,f5,f6⟩:=jQw HC9.out.out
        have hz10:=jQg HC9.out.out
        clear hb9
        go_wp2
        refine bodyPost_ret (v:=.agg (outCells ⟨Sq.showR t.cols met st,false,Sq.tabNone,[],[]⟩ (.slice none 0 0) (.slice none 0 0) (.slice none 0 0))) (by simp[results,Tryz.results53,go_sem,outCells,Sq.tabNone,Sq.nobytes, *]) rfl ?_
        rw[HE2.out]
        exact HC9.out.done htb (OutAt.none _ _ rfl rfl rfl) _ _ _ _ _ _ _
end
section
open Go.RowKit
variable {Z:Nat→Prop}
structure App (Z:Nat→Prop)(tb b:Nat)(o:Sq.OutR)(cv pv kv:Value)(w w':World)(Y:Sq.NTree×Sq.Trl):Prop where
 box:BoxAt Z tb b w' Y
 out:OutAt w' o cv pv kv
 ob:w'.heap[b+1]?=some (.cells #[.string o.reply,.bool o.makes,.int .i64 o.tab.number,.string o.tab.name,cv,pv,kv] 98)
 res:w'.heap[b+2]?=some (.cells #[.bool false,.slice none 0 0,.slice none 0 0,.int .i64 0,.int .i64 0,.string ⟨#[]⟩,.int .i64 0] 91)
 frm:TFrm tb w w'
theorem App.next {tb b:Nat}{o:Sq.OutR}{cv pv kv:Value}{w w1 w2:World}{Y Y':Sq.NTree×Sq.Trl}(h:App Z tb b o cv pv kv w w1 Y)(hw:w.heap.size≤b)(ht:tb < w.heap.size){g1 g3:Option Addr}{e2 e3 c2 c3:Nat}(hn:NodeAt Z w2 Y'.1.d Y'.1.t (.slice g1 e2 e3) (.slice g3 c2 c3))(htr:TrAt tb w2 Y'.2)(hf:TFrm tb w1 w2) :
  App Z tb b o cv pv kv w (set7 w2 b (.bool Y'.1.head.inner) (.slice g1 e2 e3) (.slice g3 c2 c3) (.int .i64 Y'.1.head.least) (.int .i64 Y'.1.head.rows) (.string Y'.1.head.sl) (.int .i64 Y'.1.head.num)) Y':=by
 obtain⟨q1,q2,q3,q4,q5,q6,hb,_⟩:=h.box.box
 have hb2:=(hf.keep b _ _ _ hb (by decide) (by decide)).trans hb
 have he:=endS hn htr (h.frm.trans hf) hb2 hw (by omega) (.bool Y'.1.head.inner) (.slice g1 e2 e3) (.slice g3 c2 c3) (.int .i64 Y'.1.head.least) (.int .i64 Y'.1.head.rows) (.string Y'.1.head.sl) (.int .i64 Y'.1.head.num)
 have hk:Keeps 91 w2 (set7 w2 b (.bool Y'.1.head.inner) (.slice g1 e2 e3) (.slice g3 c2 c3) (.int .i64 Y'.1.head.least) (.int .i64 Y'.1.head.rows) (.string Y'.1.head.sl) (.int .i64 Y'.1.head.num)):=by
  intro q cq e fr hq hne
  refine jQq _ _ _ _ _ _ _ _ _ fun e2=>?_
  subst e2
  rw[hb2] at hq
  simp only[Option.some.injEq,Obj.cells.injEq] at hq
  exact hne hq.2.1.symm
 refine⟨⟨⟨g1,e2,e3,g3,c2,c3,jQjU hb2 _ _ _ _ _ _ _,he.1⟩,he.2.1⟩,(h.out.tfrm (Or.inr hf)).tfrm (tb:=tb) (Or.inl hk),?_,?_,he.2.2⟩
 ·rw[jQq _ _ _ _ _ _ _ _ _ (by omega)]
  exact(hf.keep _ _ _ _ h.ob (by decide) (by decide)).trans h.ob
 ·rw[jQq _ _ _ _ _ _ _ _ _ (by omega)]
  exact(hf.keep _ _ _ _ h.res (by decide) (by decide)).trans h.res
end
end Go.Proofs.YtahpihjialbanaaGreatDoor
