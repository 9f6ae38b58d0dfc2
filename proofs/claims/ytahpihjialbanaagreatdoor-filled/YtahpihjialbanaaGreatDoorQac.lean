import Derived.Test.YtahpihjialbanaaGreatDoorQab
set_option linter.unusedVariables false
set_option linter.unusedSimpArgs false
set_option maxRecDepth 100000
set_option maxHeartbeats 4000000
namespace Go.Proofs.YtahpihjialbanaaGreatDoor
section
open Go.RowKit
theorem jQiB {pb:Nat}{lv:Value}{ws:List Sq.Word}{r:Rw}{w:World}{st:Sq.PSt}(h:PS pb lv ws r w st)(hn:st.items.length≤5000) :
  Calls Tryz.prog 190 #[.pointer (some ⟨pb,0,none⟩)] w fun e w'=>e=.returned (.tuple #[])∧(∃r',PS pb lv ws r' w' (Sq.itemS ws st))∧Below pb w w':=by
 obtain⟨i0,hi,hz0,hz1,hz2⟩:=info_parts Tryz.infoStr
 have hlt:=h.lt
 have H:Hid _:=h
 clear h
 go_enter Tryz.func190,Tryz.ntmps190
 go_wp2_with fail
 refine(jQaN H.out).mono ?_
 rintro e w0 ⟨rfl,hp0,ht0⟩
 have hn0:(Sq.nameS ws st).items.length≤5000:=by rw[Sq.jQdh];exact hn
 obtain⟨s0,hs0⟩:∃s,s=Sq.nameS ws st:=⟨_,rfl⟩
 obtain⟨x,hx⟩:∃s,s=Sq.nameR ws st:=⟨_,rfl⟩
 rw[←hs0] at hp0 hn0
 rw[←hx]
 have HS:Hid (Sq.itemS ws st=Sq.addItem s0 x):=by show _=_;rw[hs0,hx];rfl
 have HT0:Hid _:=Tch.below ht0 (Nat.le_refl _) (Nat.le_of_lt hlt)
 clear hs0 hx H hn hlt ht0
 have hlt:=hp0.lt
 have c6:=hp0.cell 9 _ rfl
 have hW:Below w0.heap.size w0 (w0.alloc (.cells #[.string x] 9)):=(Below.refl _ _).alloc (Nat.le_refl _) _
 have hps:=hp0.below hW
 have HP:Hid _:=hps
 have HW:Hid _:=hW
 clear hps hW hp0
 go_wp2_with (at_builtin;refine wpList_append_lies _ rfl (.tmp 10) (.tmp 12) 35 rfl (pb+1) 9 i0 _ 1 16 Tryz.underlying35 hi hz0 hz1 hz2 rfl (by decide) r.iv s0.items.length (s0.items.map Value.string) rfl HP.out.items ⟨w0.heap.size,0,none⟩ 1 1 [.string x] rfl rfl (by exact jQB w0 _ _ _ rfl rfl) (by intro u hu;simp at hu;subst hu;rfl) (by decide) (by unfold maxLen;omega) (by omega) (by simp;omega) _ rfl ?_;intro g cap w1 hown hgrow hat hltg;have hb:=(HP.out.blk_other HP.out.items (by decide) hgrow).trans HP.out.blk;have k10:w1.cell? ⟨pb,9,none⟩=some r.iv:=(by rw[jQb hb];rfl);have f10:=jQd hb 9;have hlt1:=jQg hb;have HO:Hid _:=hown;have HG:Hid _:=hgrow;clear hown hgrow hat hb)
 go_end0
 refine⟨rfl,⟨_,by rw[HS.out];exact HP.out.items_end x HO.out HG.out⟩,?_⟩
 refine HT0.out.trans ?_
 refine Below.setCell (B:=pb) (Below.trans (Below.mono (B':=pb) HW.out (by omega)) (Tch.of_grown HG.out (fun k hk=>?_) (by simp;omega))) (Nat.le_refl _) _
 exact Nat.le_of_succ_le (HP.out.items.lt k hk).1
theorem jQpb {pb:Nat}{lv:Value}{ws:List Sq.Word}{r:Rw}{w:World}{st:Sq.PSt}(h:PS pb lv ws r w st)(hn:st.items.length=0) :
  Calls Tryz.prog 191 #[.pointer (some ⟨pb,0,none⟩)] w fun e w'=>e=.returned (.tuple #[])∧(∃r',PS pb lv ws r' w' (Sq.itemsS ws st))∧Below pb w w':=by
 have hlt:=h.lt
 have hsm:=h.small
 have c8:=h.cell 8 _ rfl
 have f8:=h.frozen 8
 have hp1:=h.setShow 0
 have HP1:Hid _:=hp1
 clear hp1 h
 have hb1:Below pb w (w.setCell ⟨pb,8,none⟩ (.int .i64 0)):=Below.setCell (B:=pb) (Below.refl _ _) (Nat.le_refl _) _
 go_enter Tryz.func191,Tryz.ntmps191
 go_wp2_with fail
 refine(jQiB HP1.out (by show st.items.length≤5000;omega)).mono ?_
 rintro e w2 ⟨rfl,⟨r2,hp2⟩,hb2⟩
 have HP2:Hid _:=hp2
 have hin:=hp2.inside
 clear hp2 c8 f8
 have hl2:(Sq.itemS ws (Sq.setShow st 0)).items.length≤(Sq.itemS ws (Sq.setShow st 0)).pos+1:=by
  show((Sq.nameS ws (Sq.setShow st 0)).items++[_]).length≤_
  rw[Sq.jQdh,List.length_append]
  show st.items.length+1≤_
  omega
 go_wp2_with fail
 go_loopg [] (ws.length+1) (fun k wr=>∃(g:Nat) (sk:Sq.PSt) (rk:Rw),g=k∧PS pb lv ws rk wr sk∧sk.items.length≤sk.pos+1∧ws.length - sk.pos+1≤g∧Below pb w wr∧Hid (Sq.itemsS ws st=Sq.commas ws (Sq.itemS ws) g sk))
 case atStart=>exact⟨ws.length+1,_,r2,rfl,HP2.out,hl2,by omega,hb1.trans hb2,rfl⟩
 case round =>
  obtain⟨g,sk,rk,rfl,hpk,hwk,hfk,hbk,hek⟩:=hrel
  have HPK:Hid _:=hpk
  have hltk:=hpk.lt
  have hink:=hpk.inside
  clear hpk HP1 HP2 hb1 hl2 hb2
  go_wp2_with fail
  refine(jQL Sq.bComma HPK.out).mono ?_
  rintro e w3 ⟨rfl,hp3,ht3⟩
  have hz3:=ht3.size
  have HT3:Hid _:=ht3
  clear ht3
  cases hB:Sq.acceptB ws sk Sq.bComma
  case true =>
   have hps:=jQaf hB
   obtain⟨g,rfl⟩:∃g',g=g'+1:=⟨g - 1,by omega⟩
   rw[jQM hB] at hp3
   have HE:Hid (Sq.itemsS ws st=Sq.commas ws (Sq.itemS ws) g (Sq.itemS ws (Sq.step1 sk))):=by show _=_;rw[hek.out,Sq.commas,if_pos hB]
   have HP3:Hid _:=hp3
   clear hp3 hB hek
   go_wp2_with fail
   refine(jQiB HP3.out (by show sk.items.length≤5000;omega)).mono ?_
   rintro e w4 ⟨rfl,⟨r4,hp4⟩,hb4⟩
   have HP4:Hid _:=hp4
   clear hp4
   have hbw:Below pb w w4:=hbk.trans ((Tch.below HT3.out (Nat.le_refl _) (by omega)).trans hb4)
   have hl4:(Sq.itemS ws (Sq.step1 sk)).items.length=sk.items.length+1:=by
    show((Sq.nameS ws (Sq.step1 sk)).items++[_]).length=_
    rw[Sq.jQdh,List.length_append]
    rfl
   have hl5:sk.pos+1≤(Sq.itemS ws (Sq.step1 sk)).pos:=Sq.jQgp ws (Sq.step1 sk)
   have HL:Hid _:=hl4
   clear hbk hb4 hl4
   go_wp2
   go_roundg g
   case measure=>omega
   case rel=>exact⟨g,_,r4,rfl,HP4.out,by rw[HL.out];omega,by omega,hbw,HE⟩
  case false =>
   rw[jQU hB] at hp3
   have HE:Hid (Sq.itemsS ws st=sk):=by
    show _=_
    rw[hek.out]
    obtain⟨g,rfl⟩:∃g',g=g'+1:=⟨g - 1,by omega⟩
    rw[Sq.commas,if_neg (by simp[hB])]
   have HP3:Hid _:=hp3
   clear hp3 hB hek
   go_wp2
   go_end0
   exact⟨rfl,⟨rk,by rw[HE.out];exact HP3.out⟩,hbk.trans (Tch.below HT3.out (Nat.le_refl _) (by omega))⟩
end
section
open Go.RowKit
theorem ten {w:World}{b:Nat}{e:TypeId}{v0 v1 v2 v3 v4 v5 v6 v7 v8 v9:Value}(h:w.heap[b]?=some (.cells #[v0,v1,v2,v3,v4,v5,v6,v7,v8,v9] e)) :
  (w.cell? ⟨b,0,none⟩=some v0∧w.cell? ⟨b,1,none⟩=some v1∧w.cell? ⟨b,2,none⟩=some v2∧w.cell? ⟨b,3,none⟩=some v3∧w.cell? ⟨b,4,none⟩=some v4) ∧
  (w.cell? ⟨b,5,none⟩=some v5∧w.cell? ⟨b,6,none⟩=some v6∧w.cell? ⟨b,7,none⟩=some v7∧w.cell? ⟨b,8,none⟩=some v8∧w.cell? ⟨b,9,none⟩=some v9) ∧
  (∀j,w.frozen? ⟨b,j,none⟩=false)∧b < w.heap.size :=
 ⟨⟨by rw[jQb h];rfl,by rw[jQb h];rfl,by rw[jQb h];rfl,by rw[jQb h];rfl,by rw[jQb h];rfl⟩,⟨by rw[jQb h];rfl,by rw[jQb h];rfl,by rw[jQb h];rfl,by rw[jQb h];rfl,by rw[jQb h];rfl⟩,fun j=>jQd h j,jQg h⟩
theorem Tch.heap {pb:Nat}{w w1:World}(h:Tch pb w w1){b:Nat}(hn:b≠pb){o:Obj}(hb:w.heap[b]?=some o):w1.heap[b]?=some o:=(h.block b (jQg hb) (by simp;exact hn)).trans hb
theorem jQc4 {pb:Nat}{lv:Value}{ws:List Sq.Word}{r:Rw}{w:World}{st:Sq.PSt}(h:PS pb lv ws r w st)(hn:st.sets.length≤5000) :
  Calls Tryz.prog 188 #[.pointer (some ⟨pb,0,none⟩)] w fun e w'=>e=.returned (.tuple #[])∧(∃r',PS pb lv ws r' w' (Sq.asgS ws st))∧Below pb w w':=by
 obtain⟨i0,hi,hz0,hz1,hz2⟩:=info_parts Tryz.infoSet
 have hlt:=h.lt
 have hne:w.heap.size≠pb:=by omega
 have H:Hid _:=h
 clear h
 obtain⟨n0,hn0⟩:∃n,n=w.heap.size:=⟨_,rfl⟩
 have HN0:Hid _:=hn0
 go_enter Tryz.func188,Tryz.ntmps188
 go_wp2_with fail
 refine(jQaN (H.out.alloc _)).mono ?_
 rintro e w1 ⟨rfl,hp1,ht1⟩
 obtain⟨c,hc⟩:∃s,s=Sq.nameR ws st:=⟨_,rfl⟩
 rw[←hc]
 have HC:Hid _:=hc
 have HP1:Hid _:=hp1
 have hB1:w1.heap[w.heap.size]?=some (.cells #[.string ⟨#[]⟩,.string ⟨#[]⟩,.int .i64 0,.int .i64 0,.string ⟨#[]⟩,.string ⟨#[]⟩,.string ⟨#[]⟩,.int .i64 0,.int .i64 0,.string ⟨#[]⟩] 213):=ht1.heap hne (by simp[World.alloc,-World.alloc_eq])
 have HTw1:Hid (Tch pb w w1):=((Tch.refl pb w).alloc _).trans ht1
 obtain⟨⟨a0,a1,a2,a3,a4⟩,⟨a5,a6,a7,a8,a9⟩,fz,hl1⟩:=ten hB1
 have b0:=fz 0
 have HB1:Hid _:=hB1
 clear hc hp1 ht1 hB1 fz
 -- the name is stored
 have hbl1:Below w.heap.size w1 (w1.setCell ⟨w.heap.size,0,none⟩ (.string c)):=Below.setCell (B:=w.heap.size) (Below.refl _ _) (Nat.le_refl _) _
 have HPV1:Hid _:=H.out.keep HP1.out hbl1
 have HTV1:Hid (Tch pb w (w1.setCell ⟨w.heap.size,0,none⟩ (.string c))):=Tch.then HTw1.out hbl1
 have HBV1:Hid ((w1.setCell ⟨w.heap.size,0,none⟩ (.string c)).heap[w.heap.size]?=some (.cells #[.string c,.string ⟨#[]⟩,.int .i64 0,.int .i64 0,.string ⟨#[]⟩,.string ⟨#[]⟩,.string ⟨#[]⟩,.int .i64 0,.int .i64 0,.string ⟨#[]⟩] 213)):=by show _=_;rw[jQf HB1.out];rfl
 clear hbl1
 go_wp2_with fail
 refine(jQ1 Sq.bEq HPV1.out).mono ?_
 rintro e w2 ⟨rfl,hp2,ht2⟩
 have HP2:Hid _:=hp2
 have HTw2:Hid _:=Tch.trans HTV1.out ht2
 have HB2:Hid _:=ht2.heap hne HBV1.out
 clear hp2 ht2 a0 a1 a2 a3 a4 a5 a6 a7 a8 a9 b0 hl1
 go_wp2_with fail
 refine(jQdc HP2.out).mono ?_
 rintro e w3 ⟨rfl,hp3,ht3⟩
 obtain⟨f,hf⟩:∃t,t=Sq.termR ws (Sq.asg1 ws st):=⟨_,rfl⟩
 rw[show Sq.termR ws (Sq.wantS ws (Sq.nameS ws st) Sq.bEq)=f from hf.symm]
 have HF:Hid _:=hf
 have hp3:PS pb lv ws r w3 (Sq.asg2 ws st):=hp3
 obtain⟨s3,hs3⟩:∃s,s=Sq.asg2 ws st:=⟨_,rfl⟩
 rw[←hs3] at hp3
 have HS3:Hid _:=hs3
 have HP3:Hid _:=hp3
 have HTw3:Hid _:=Tch.trans HTw2.out ht3
 have hB3:=ht3.heap hne HB2.out
 obtain⟨⟨a0,a1,a2,a3,a4⟩,⟨a5,a6,a7,a8,a9⟩,fz,hl1⟩:=ten hB3
 have b1:=fz 1
 have b2:=fz 2
 have b3:=fz 3
 have b4:=fz 4
 have HB3:Hid _:=hB3
 clear hf hp3 ht3 hB3 fz hs3
 obtain⟨V3,hV3⟩:∃V,V=(((w3.setCell ⟨w.heap.size,1,none⟩ (.string f.column)).setCell ⟨w.heap.size,2,none⟩ (.int .i64 f.lit.kind)).setCell ⟨w.heap.size,3,none⟩ (.int .i64 f.lit.number)).setCell ⟨w.heap.size,4,none⟩ (.string f.lit.text):=⟨_,rfl⟩
 have hbl3:Below w.heap.size w3 V3:=by rw[hV3];exact Below.setCell (B:=w.heap.size) (Below.setCell (B:=w.heap.size) (Below.setCell (B:=w.heap.size) (Below.setCell (B:=w.heap.size) (Below.refl _ _) (Nat.le_refl _) _) (Nat.le_refl _) _) (Nat.le_refl _) _) (Nat.le_refl _) _
 have HPV3:Hid _:=H.out.keep HP3.out hbl3
 have HTV3:Hid (Tch pb w V3):=Tch.then HTw3.out hbl3
 have HBV3:Hid (V3.heap[w.heap.size]?=some (.cells #[.string c,.string f.column,.int .i64 f.lit.kind,.int .i64 f.lit.number,.string f.lit.text,.string ⟨#[]⟩,.string ⟨#[]⟩,.int .i64 0,.int .i64 0,.string ⟨#[]⟩] 213)):=by show _=_;rw[hV3,jQf (jQf (jQf (jQf HB3.out _) _) _) _];rfl
 have HV3:Hid _:=hV3
 clear hbl3 hV3
 go_wp2_with fail
 rw[←HV3.out]
 refine(jQL Sq.bPlus HPV3.out).mono ?_
 rintro e w4 ⟨rfl,hp4,ht4⟩
 have HTw4:Hid _:=Tch.trans HTV3.out ht4
 have hB4:=ht4.heap hne HBV3.out
 clear ht4 a0 a1 a2 a3 a4 a5 a6 a7 a8 a9 b1 b2 b3 b4 hl1
 cases hP:Sq.acceptB ws s3 Sq.bPlus
 case true =>
  have hps:=jQaf hP
  rw[jQM hP] at hp4
  have HPx:Hid _:=hp4
  have HTx:Hid _:=HTw4.out
  have hBx:=hB4
  clear hp4 hB4
  obtain⟨⟨a0,a1,a2,a3,a4⟩,⟨a5,a6,a7,a8,a9⟩,fz,hl1⟩:=ten hBx
  have b5:=fz 5
  have hbl5:Below w.heap.size w4 (w4.setCell ⟨w.heap.size,5,none⟩ (.string Sq.bPlus)):=Below.setCell (B:=w.heap.size) (Below.refl _ _) (Nat.le_refl _) _
  have HPV5:Hid _:=H.out.keep HPx.out hbl5
  have HTV5:Hid (Tch pb w (w4.setCell ⟨w.heap.size,5,none⟩ (.string Sq.bPlus))):=Tch.then HTx.out hbl5
  have HBV5:Hid ((w4.setCell ⟨w.heap.size,5,none⟩ (.string Sq.bPlus)).heap[w.heap.size]?=some (.cells #[.string c,.string f.column,.int .i64 f.lit.kind,.int .i64 f.lit.number,.string f.lit.text,.string Sq.bPlus,.string ⟨#[]⟩,.int .i64 0,.int .i64 0,.string ⟨#[]⟩] 213)):=by show _=_;rw[jQf hBx];rfl
  clear hbl5 hBx fz
  go_wp2_with fail
  refine(jQdc HPV5.out).mono ?_
  rintro e w6 ⟨rfl,hp6,ht6⟩
  obtain⟨q,hq⟩:∃t,t=Sq.termR ws (Sq.step1 s3):=⟨_,rfl⟩
  rw[←hq]
  obtain⟨s6,hs6⟩:∃s,s=Sq.termS ws (Sq.step1 s3):=⟨_,rfl⟩
  rw[←hs6] at hp6
  have HTw6:Hid _:=Tch.trans HTV5.out ht6
  have hB6:=ht6.heap hne HBV5.out
  have hns:s6.sets.length≤5000:=by rw[hs6,Sq.jQaI];show s3.sets.length≤_;rw[HS3.out];unfold Sq.asg2 Sq.asg1;rw[Sq.jQaI,Sq.jQbe,Sq.jQbX];exact hn
  have HS:Hid (Sq.asgS ws st=Sq.addSet s6 ⟨c,f,Sq.bPlus,q⟩):=by
   show _=_
   unfold Sq.asgS Sq.asg4 Sq.asgSign Sq.asgSecond Sq.asg3
   rw[←HS3.out,hP,hs6,hq,HC.out,HF.out]
   rfl
  clear ht6 hq hs6 a0 a1 a2 a3 a4 a5 a6 a7 a8 a9 b5 hl1
  obtain⟨⟨a0,a1,a2,a3,a4⟩,⟨a5,a6,a7,a8,a9⟩,fz,hl1⟩:=ten hB6
  have b6:=fz 6
  have b7:=fz 7
  have b8:=fz 8
  have b9:=fz 9
  obtain⟨V,hV⟩:∃V,V=(((w6.setCell ⟨w.heap.size,6,none⟩ (.string q.column)).setCell ⟨w.heap.size,7,none⟩ (.int .i64 q.lit.kind)).setCell ⟨w.heap.size,8,none⟩ (.int .i64 q.lit.number)).setCell ⟨w.heap.size,9,none⟩ (.string q.lit.text):=⟨_,rfl⟩
  have hbl6:Below w.heap.size w6 V:=by rw[hV];exact Below.setCell (B:=w.heap.size) (Below.setCell (B:=w.heap.size) (Below.setCell (B:=w.heap.size) (Below.setCell (B:=w.heap.size) (Below.refl _ _) (Nat.le_refl _) _) (Nat.le_refl _) _) (Nat.le_refl _) _) (Nat.le_refl _) _
  have hpV:=H.out.keep hp6 hbl6
  have HTV:Hid (Below pb w V):=Tch.below (Tch.then HTw6.out hbl6) (Nat.le_refl _) (Nat.le_of_lt hlt)
  have hBV:V.heap[w.heap.size]?=some (.cells #[.string c,.string f.column,.int .i64 f.lit.kind,.int .i64 f.lit.number,.string f.lit.text,.string Sq.bPlus,.string q.column,.int .i64 q.lit.kind,.int .i64 q.lit.number,.string q.lit.text] 213):=by rw[hV,jQf (jQf (jQf (jQf hB6 _) _) _) _];rfl
  have HV:Hid _:=hV
  clear hbl6 hV hp6 hB6 fz
  go_wp2_with fail
  rw[←HV.out]
  clear a0 a1 a2 a3 a4 a5 a6 a7 a8 a9 b6 b7 b8 b9 hl1
  have hltV:=hpV.lt
  have c7:=hpV.cell 7 _ rfl
  have hW:Below V.heap.size V (V.alloc (.cells #[.string c,.string f.column,.int .i64 f.lit.kind,.int .i64 f.lit.number,.string f.lit.text,.string Sq.bPlus,.string q.column,.int .i64 q.lit.kind,.int .i64 q.lit.number,.string q.lit.text] 213)).drew:=((Below.refl _ _).alloc (Nat.le_refl _) _).drew
  have hps:=hpV.below hW
  have HP:Hid _:=hps
  have HW:Hid _:=hW
  clear hps hW hpV
  obtain⟨⟨a0,a1,a2,a3,a4⟩,⟨a5,a6,a7,a8,a9⟩,fz,hl1⟩:=ten hBV
  have HBV:Hid _:=hBV
  clear hBV fz
  go_wp2_with fail
  go_region_law (first
   | (refine step_append_lies _ rfl (.tmp 28) (.tmp 30) 114 rfl (pb+1) 213 i0 _ 10 128 Tryz.underlying114 hi hz0 hz1 hz2 rfl (by decide) r.sv s6.sets.length (s6.sets.flatMap Sq.SetS.cells) (by simp[Act.eval,Act.put]) HP.out.sets ⟨V.heap.size,0,none⟩ 1 1 [.string c,.string f.column,.int .i64 f.lit.kind,.int .i64 f.lit.number,.string f.lit.text,.string Sq.bPlus,.string q.column,.int .i64 q.lit.kind,.int .i64 q.lit.number,.string q.lit.text] (by simp[Act.eval,Act.put]) rfl (by exact jQB V _ _ _ rfl rfl) (by intro u hu;simp at hu;rcases hu with rfl | rfl | rfl | rfl | rfl | rfl | rfl | rfl | rfl | rfl <;> rfl) (by decide) (by unfold maxLen;omega) (by omega) (by simp;omega) _ rfl ?_;intro g cap w9 hown hgrow hat hltg;have hb:=(HP.out.blk_other HP.out.sets (by decide) hgrow).trans HP.out.blk;have k10:w9.cell? ⟨pb,7,none⟩=some r.sv:=(by rw[jQb hb];rfl);have f10:=jQd hb 7;have hlt1:=jQg hb;have HO:Hid _:=hown;have HG:Hid _:=hgrow;clear hown hgrow hat hb))
  all_goals
   go_end0
   refine⟨rfl,⟨_,by rw[HS.out];exact HP.out.sets_end ⟨c,f,Sq.bPlus,q⟩ HO.out HG.out⟩,?_⟩
   refine HTV.out.trans ?_
   refine Below.setCell (B:=pb) (Below.trans (Below.mono (B':=pb) HW.out (by omega)) (Tch.of_grown HG.out (fun k hk=>?_) (by simp;omega))) (Nat.le_refl _) _
   exact Nat.le_of_succ_le (HP.out.sets.lt k hk).1
 case false =>
  rw[jQU hP] at hp4
  have HP4:Hid _:=hp4
  have HB4:Hid _:=hB4
  clear hp4 hB4
  go_wp2_with fail
  refine(jQL Sq.bMinus HP4.out).mono ?_
  rintro e w5 ⟨rfl,hp5,ht5⟩
  have HTw5:Hid _:=Tch.trans HTw4.out ht5
  have hB5:=ht5.heap hne HB4.out
  clear ht5
  cases hM:Sq.acceptB ws s3 Sq.bMinus
  case true =>
   have hps:=jQaf hM
   rw[jQM hM] at hp5
   have HPx:Hid _:=hp5
   have HTx:Hid _:=HTw5.out
   have hBx:=hB5
   clear hp5 hB5
   obtain⟨⟨a0,a1,a2,a3,a4⟩,⟨a5,a6,a7,a8,a9⟩,fz,hl1⟩:=ten hBx
   have b5:=fz 5
   have hbl5:Below w.heap.size w5 (w5.setCell ⟨w.heap.size,5,none⟩ (.string Sq.bMinus)):=Below.setCell (B:=w.heap.size) (Below.refl _ _) (Nat.le_refl _) _
   have HPV5:Hid _:=H.out.keep HPx.out hbl5
   have HTV5:Hid (Tch pb w (w5.setCell ⟨w.heap.size,5,none⟩ (.string Sq.bMinus))):=Tch.then HTx.out hbl5
   have HBV5:Hid ((w5.setCell ⟨w.heap.size,5,none⟩ (.string Sq.bMinus)).heap[w.heap.size]?=some (.cells #[.string c,.string f.column,.int .i64 f.lit.kind,.int .i64 f.lit.number,.string f.lit.text,.string Sq.bMinus,.string ⟨#[]⟩,.int .i64 0,.int .i64 0,.string ⟨#[]⟩] 213)):=by show _=_;rw[jQf hBx];rfl
   clear hbl5 hBx fz
   go_wp2_with fail
   refine(jQdc HPV5.out).mono ?_
   rintro e w6 ⟨rfl,hp6,ht6⟩
   obtain⟨q,hq⟩:∃t,t=Sq.termR ws (Sq.step1 s3):=⟨_,rfl⟩
   rw[←hq]
   obtain⟨s6,hs6⟩:∃s,s=Sq.termS ws (Sq.step1 s3):=⟨_,rfl⟩
   rw[←hs6] at hp6
   have HTw6:Hid _:=Tch.trans HTV5.out ht6
   have hB6:=ht6.heap hne HBV5.out
   have hns:s6.sets.length≤5000:=by rw[hs6,Sq.jQaI];show s3.sets.length≤_;rw[HS3.out];unfold Sq.asg2 Sq.asg1;rw[Sq.jQaI,Sq.jQbe,Sq.jQbX];exact hn
   have HS:Hid (Sq.asgS ws st=Sq.addSet s6 ⟨c,f,Sq.bMinus,q⟩):=by
    show _=_
    unfold Sq.asgS Sq.asg4 Sq.asgSign Sq.asgSecond Sq.asg3
    rw[←HS3.out,hP,hM,hs6,hq,HC.out,HF.out]
    rfl
   clear ht6 hq hs6 a0 a1 a2 a3 a4 a5 a6 a7 a8 a9 b5 hl1
   obtain⟨⟨a0,a1,a2,a3,a4⟩,⟨a5,a6,a7,a8,a9⟩,fz,hl1⟩:=ten hB6
   have b6:=fz 6
   have b7:=fz 7
   have b8:=fz 8
   have b9:=fz 9
   obtain⟨V,hV⟩:∃V,V=(((w6.setCell ⟨w.heap.size,6,none⟩ (.string q.column)).setCell ⟨w.heap.size,7,none⟩ (.int .i64 q.lit.kind)).setCell ⟨w.heap.size,8,none⟩ (.int .i64 q.lit.number)).setCell ⟨w.heap.size,9,none⟩ (.string q.lit.text):=⟨_,rfl⟩
   have hbl6:Below w.heap.size w6 V:=by rw[hV];exact Below.setCell (B:=w.heap.size) (Below.setCell (B:=w.heap.size) (Below.setCell (B:=w.heap.size) (Below.setCell (B:=w.heap.size) (Below.refl _ _) (Nat.le_refl _) _) (Nat.le_refl _) _) (Nat.le_refl _) _) (Nat.le_refl _) _
   have hpV:=H.out.keep hp6 hbl6
   have HTV:Hid (Below pb w V):=Tch.below (Tch.then HTw6.out hbl6) (Nat.le_refl _) (Nat.le_of_lt hlt)
   have hBV:V.heap[w.heap.size]?=some (.cells #[.string c,.string f.column,.int .i64 f.lit.kind,.int .i64 f.lit.number,.string f.lit.text,.string Sq.bMinus,.string q.column,.int .i64 q.lit.kind,.int .i64 q.lit.number,.string q.lit.text] 213):=by rw[hV,jQf (jQf (jQf (jQf hB6 _) _) _) _];rfl
   have HV:Hid _:=hV
   clear hbl6 hV hp6 hB6 fz
   go_wp2_with fail
   rw[←HV.out]
   clear a0 a1 a2 a3 a4 a5 a6 a7 a8 a9 b6 b7 b8 b9 hl1
   have hltV:=hpV.lt
   have c7:=hpV.cell 7 _ rfl
   have hW:Below V.heap.size V (V.alloc (.cells #[.string c,.string f.column,.int .i64 f.lit.kind,.int .i64 f.lit.number,.string f.lit.text,.string Sq.bMinus,.string q.column,.int .i64 q.lit.kind,.int .i64 q.lit.number,.string q.lit.text] 213)).drew:=((Below.refl _ _).alloc (Nat.le_refl _) _).drew
   have hps:=hpV.below hW
   have HP:Hid _:=hps
   have HW:Hid _:=hW
   clear hps hW hpV
   obtain⟨⟨a0,a1,a2,a3,a4⟩,⟨a5,a6,a7,a8,a9⟩,fz,hl1⟩:=ten hBV
   have HBV:Hid _:=hBV
   clear hBV fz
   go_wp2_with fail
   go_region_law (first
    | (refine step_append_lies _ rfl (.tmp 28) (.tmp 30) 114 rfl (pb+1) 213 i0 _ 10 128 Tryz.underlying114 hi hz0 hz1 hz2 rfl (by decide) r.sv s6.sets.length (s6.sets.flatMap Sq.SetS.cells) (by simp[Act.eval,Act.put]) HP.out.sets ⟨V.heap.size,0,none⟩ 1 1 [.string c,.string f.column,.int .i64 f.lit.kind,.int .i64 f.lit.number,.string f.lit.text,.string Sq.bMinus,.string q.column,.int .i64 q.lit.kind,.int .i64 q.lit.number,.string q.lit.text] (by simp[Act.eval,Act.put]) rfl (by exact jQB V _ _ _ rfl rfl) (by intro u hu;simp at hu;rcases hu with rfl | rfl | rfl | rfl | rfl | rfl | rfl | rfl | rfl | rfl <;> rfl) (by decide) (by unfold maxLen;omega) (by omega) (by simp;omega) _ rfl ?_;intro g cap w9 hown hgrow hat hltg;have hb:=(HP.out.blk_other HP.out.sets (by decide) hgrow).trans HP.out.blk;have k10:w9.cell? ⟨pb,7,none⟩=some r.sv:=(by rw[jQb hb];rfl);have f10:=jQd hb 7;have hlt1:=jQg hb;have HO:Hid _:=hown;have HG:Hid _:=hgrow;clear hown hgrow hat hb))
   all_goals
    go_end0
    refine⟨rfl,⟨_,by rw[HS.out];exact HP.out.sets_end ⟨c,f,Sq.bMinus,q⟩ HO.out HG.out⟩,?_⟩
    refine HTV.out.trans ?_
    refine Below.setCell (B:=pb) (Below.trans (Below.mono (B':=pb) HW.out (by omega)) (Tch.of_grown HG.out (fun k hk=>?_) (by simp;omega))) (Nat.le_refl _) _
    exact Nat.le_of_succ_le (HP.out.sets.lt k hk).1
  case false =>
   rw[jQU hM] at hp5
   obtain⟨V,hV⟩:∃V,V=w5:=⟨_,rfl⟩
   rw[←hV] at hp5 hB5
   have hpV:=hp5
   have hBV:=hB5
   have HTV:Hid (Below pb w V):=by rw[hV];exact Tch.below HTw5.out (Nat.le_refl _) (Nat.le_of_lt hlt)
   have hns:s3.sets.length≤5000:=by rw[HS3.out];unfold Sq.asg2 Sq.asg1;rw[Sq.jQaI,Sq.jQbe,Sq.jQbX];exact hn
   have HS:Hid (Sq.asgS ws st=Sq.addSet s3 ⟨c,f,Sq.nobytes,Sq.term0⟩):=by
    show _=_
    unfold Sq.asgS Sq.asg4 Sq.asgSign Sq.asgSecond Sq.asg3
    rw[←HS3.out,hP,hM,HC.out,HF.out]
    rfl
   clear hp5 hB5
   subst hV
   have hltV:=hpV.lt
   have c7:=hpV.cell 7 _ rfl
   have hW:Below V.heap.size V (V.alloc (.cells #[.string c,.string f.column,.int .i64 f.lit.kind,.int .i64 f.lit.number,.string f.lit.text,.string ⟨#[]⟩,.string ⟨#[]⟩,.int .i64 0,.int .i64 0,.string ⟨#[]⟩] 213)).drew:=((Below.refl _ _).alloc (Nat.le_refl _) _).drew
   have hps:=hpV.below hW
   have HP:Hid _:=hps
   have HW:Hid _:=hW
   clear hps hW hpV
   obtain⟨⟨a0,a1,a2,a3,a4⟩,⟨a5,a6,a7,a8,a9⟩,fz,hl1⟩:=ten hBV
   have HBV:Hid _:=hBV
   clear hBV fz
   go_wp2_with fail
   go_region_law (first
    | (refine step_append_lies _ rfl (.tmp 28) (.tmp 30) 114 rfl (pb+1) 213 i0 _ 10 128 Tryz.underlying114 hi hz0 hz1 hz2 rfl (by decide) r.sv s3.sets.length (s3.sets.flatMap Sq.SetS.cells) (by simp[Act.eval,Act.put]) HP.out.sets ⟨V.heap.size,0,none⟩ 1 1 [.string c,.string f.column,.int .i64 f.lit.kind,.int .i64 f.lit.number,.string f.lit.text,.string ⟨#[]⟩,.string ⟨#[]⟩,.int .i64 0,.int .i64 0,.string ⟨#[]⟩] (by simp[Act.eval,Act.put]) rfl (by exact jQB V _ _ _ rfl rfl) (by intro u hu;simp at hu;rcases hu with rfl | rfl | rfl | rfl | rfl | rfl | rfl | rfl | rfl | rfl <;> rfl) (by decide) (by unfold maxLen;omega) (by omega) (by simp;omega) _ rfl ?_;intro g cap w9 hown hgrow hat hltg;have hb:=(HP.out.blk_other HP.out.sets (by decide) hgrow).trans HP.out.blk;have k10:w9.cell? ⟨pb,7,none⟩=some r.sv:=(by rw[jQb hb];rfl);have f10:=jQd hb 7;have hlt1:=jQg hb;have HO:Hid _:=hown;have HG:Hid _:=hgrow;clear hown hgrow hat hb))
   all_goals
    go_end0
    refine⟨rfl,⟨_,by rw[HS.out];exact HP.out.sets_end ⟨c,f,Sq.nobytes,Sq.term0⟩ HO.out HG.out⟩,?_⟩
    refine HTV.out.trans ?_
    refine Below.setCell (B:=pb) (Below.trans (Below.mono (B':=pb) HW.out (by omega)) (Tch.of_grown HG.out (fun k hk=>?_) (by simp;omega))) (Nat.le_refl _) _
    exact Nat.le_of_succ_le (HP.out.sets.lt k hk).1
end
section
open Go.RowKit
theorem jQnc {pb:Nat}{lv:Value}{ws:List Sq.Word}{r:Rw}{w:World}{st:Sq.PSt}(h:PS pb lv ws r w st)(hn:st.vals.length=0) :
  Calls Tryz.prog 140 #[.pointer (some ⟨pb,0,none⟩)] w fun e w'=>e=.returned (.tuple #[])∧(∃r',PS pb lv ws r' w' (Sq.insertS ws st))∧Below pb w w':=by
 have hlt:=h.lt
 have hsm:=h.small
 have c3:=h.cell 3 (.int .i64 st.act) rfl
 have f3:=h.frozen 3
 have HP1:Hid _:=h.setAct 2
 have HB1:Hid (Below pb w (w.setCell ⟨pb,3,none⟩ (.int .i64 2))):=Below.setCell (B:=pb) (Below.refl _ _) (Nat.le_refl _) _
 clear h
 go_enter Tryz.func140,Tryz.ntmps140
 go_wp2_with fail
 refine(jQ1 Sq.bInto HP1.out).mono ?_
 rintro e w2 ⟨rfl,hp,ht⟩
 have HB2:Hid (Below pb w w2):=HB1.out.trans (Tch.below ht (Nat.le_refl _) (Nat.le_of_lt HP1.out.lt))
 have hlt2:=hp.lt
 have HP2:Hid _:=hp
 clear hp ht
 go_wp2_with fail
 refine(jQaN HP2.out).mono ?_
 rintro e w3 ⟨rfl,hp,ht⟩
 have c4:=hp.cell 4 (.string _) rfl
 have f4:=hp.frozen 4
 have hlt3:=hp.lt
 have HB4:Hid (Below pb w (w3.setCell ⟨pb,4,none⟩ (.string (Sq.nameR ws (Sq.wantS ws (Sq.setAct st 2) Sq.bInto))))):=Below.setCell (B:=pb) (HB2.out.trans (Tch.below ht (Nat.le_refl _) (Nat.le_of_lt HP2.out.lt))) (Nat.le_refl _) _
 have HP4:Hid (PS pb lv ws r (w3.setCell ⟨pb,4,none⟩ (.string (Sq.nameR ws (Sq.wantS ws (Sq.setAct st 2) Sq.bInto)))) (Sq.tableS ws (Sq.wantS ws (Sq.setAct st 2) Sq.bInto))):=hp.setTable (Sq.nameR ws (Sq.wantS ws (Sq.setAct st 2) Sq.bInto))
 clear hp ht
 go_wp2_with fail
 refine(jQ1 Sq.bValues HP4.out).mono ?_
 rintro e w5 ⟨rfl,hp,ht⟩
 have HB5:Hid (Below pb w w5):=HB4.out.trans (Tch.below ht (Nat.le_refl _) (Nat.le_of_lt HP4.out.lt))
 have hlt5:=hp.lt
 have HP5:Hid _:=hp
 clear hp ht
 go_wp2_with fail
 refine(jQ1 Sq.bOpen HP5.out).mono ?_
 rintro e w6 ⟨rfl,hp,ht⟩
 have HB6:Hid (Below pb w w6):=HB5.out.trans (Tch.below ht (Nat.le_refl _) (Nat.le_of_lt HP5.out.lt))
 have hlt6:=hp.lt
 have HP6:Hid _:=hp
 clear hp ht
 obtain⟨A0,hA0⟩:∃s,s=Sq.wantS ws (Sq.wantS ws (Sq.tableS ws (Sq.wantS ws (Sq.setAct st 2) Sq.bInto)) Sq.bValues) Sq.bOpen:=⟨_,rfl⟩
 have HA0:Hid _:=hA0
 clear hA0
 go_wp2_with fail
 refine(jQi8 HP6.out (by simp only[Sq.jQg0,Sq.jQfy];show st.vals.length≤5000;omega)).mono ?_
 rintro e w2 ⟨rfl,⟨r2,hp2⟩,hb2⟩
 have HBL:Hid (Below pb w w2):=HB6.out.trans hb2
 have hl0:=Sq.jQg2 ws A0
 have hw0:(Sq.valueS ws A0).wher=st.wher:=by rw[Sq.jQaR,HA0.out];simp only[Sq.jQm,Sq.jQx];rfl
 have hin0:=hp2.inside
 rw[←HA0.out] at hp2
 obtain⟨s0,hs0⟩:∃s,s=Sq.valueS ws A0:=⟨_,rfl⟩
 rw[←hs0] at hp2 hl0 hw0
 have hl0:s0.vals.length≤s0.pos+1:=by rw[hl0,HA0.out];simp only[Sq.jQg0,Sq.jQfy];show st.vals.length+1≤_;omega
 have hin0:=hp2.inside
 have HPL:Hid _:=hp2
 have HS0:Hid _:=hs0
 clear hp2 hb2 hs0
 go_wp2_with fail
 go_loopg [] (ws.length+1) (fun k wr=>∃(g:Nat) (sk:Sq.PSt) (rk:Rw),g=k∧PS pb lv ws rk wr sk∧sk.vals.length≤sk.pos+1∧sk.wher=st.wher∧ws.length - sk.pos+1≤g∧Below pb w wr∧Hid (Sq.commas ws (Sq.valueS ws) (ws.length+1) s0=Sq.commas ws (Sq.valueS ws) g sk))
 case atStart=>exact⟨ws.length+1,s0,r2,rfl,HPL.out,hl0,hw0,by omega,HBL.out,rfl⟩
 case round =>
  obtain⟨g,sk,rk,rfl,hpk,hwk,hwh,hfk,hbk,hek⟩:=hrel
  have HPK:Hid _:=hpk
  have hltk:=hpk.lt
  have hink:=hpk.inside
  have HWH:Hid _:=hwh
  clear hpk hwh HPL HBL hl0 hw0
  go_wp2_with fail
  refine(jQL Sq.bComma HPK.out).mono ?_
  rintro e wa ⟨rfl,hp3,ht3⟩
  have hz3:=ht3.size
  have HT3:Hid _:=ht3
  clear ht3
  cases hB:Sq.acceptB ws sk Sq.bComma
  case true =>
   have hps:=jQaf hB
   obtain⟨g,rfl⟩:∃g',g=g'+1:=⟨g - 1,by omega⟩
   rw[jQM hB] at hp3
   have HE:Hid (Sq.commas ws (Sq.valueS ws) (ws.length+1) s0=Sq.commas ws (Sq.valueS ws) g (Sq.valueS ws (Sq.step1 sk))):=by show _=_;rw[hek.out,Sq.commas,if_pos hB]
   have HP3:Hid _:=hp3
   clear hp3 hB hek
   go_wp2_with fail
   refine(jQi8 HP3.out (by show sk.vals.length≤5000;omega)).mono ?_
   rintro e w4 ⟨rfl,⟨r4,hp4⟩,hb4⟩
   have HP4:Hid _:=hp4
   clear hp4
   have hbw:Below pb w w4:=hbk.trans ((Tch.below HT3.out (Nat.le_refl _) (by omega)).trans hb4)
   have hl4:=Sq.jQg2 ws (Sq.step1 sk)
   have hl5:sk.pos+1≤(Sq.valueS ws (Sq.step1 sk)).pos:=Sq.jQlw ws (Sq.step1 sk)
   have HL:Hid _:=hl4
   clear hbk hb4 hl4
   go_wp2
   go_roundg g
   case measure=>omega
   case rel=>exact⟨g,_,r4,rfl,HP4.out,by rw[HL.out];show sk.vals.length+1≤_;omega,by rw[Sq.jQaR];exact HWH.out,by omega,hbw,HE⟩
  case false =>
   rw[jQU hB] at hp3
   have HE:Hid (Sq.commas ws (Sq.valueS ws) (ws.length+1) s0=sk):=by
    show _=_
    rw[hek.out]
    obtain⟨g,rfl⟩:∃g',g=g'+1:=⟨g - 1,by omega⟩
    rw[Sq.commas,if_neg (by simp[hB])]
   have HPZ:Hid _:=hp3
   have HBZ:Hid (Below pb w wa):=hbk.trans (Tch.below HT3.out (Nat.le_refl _) (by omega))
   have hltz:=hp3.lt
   clear hp3 hB hek hbk
   go_wp2_with fail
   refine(jQ1 Sq.bClose HPZ.out).mono ?_
   rintro e wz ⟨rfl,hp,ht⟩
   have HPE:Hid _:=hp
   have HBE:Hid (Below pb w wz):=HBZ.out.trans (Tch.below ht (Nat.le_refl _) (by omega))
   clear hp ht
   go_wp2
   go_end0
   refine⟨rfl,⟨rk,?_⟩,HBE.out⟩
   have e1:Sq.insertS ws st=Sq.wantS ws (Sq.commas ws (Sq.valueS ws) (ws.length+1) s0) Sq.bClose:=by rw[HS0.out,HA0.out];rfl
   rw[e1,HE.out]
   exact HPE.out
theorem jQlx {pb:Nat}{lv:Value}{ws:List Sq.Word}{r:Rw}{w:World}{st:Sq.PSt}(h:PS pb lv ws r w st)(hn:st.sets.length=0)(hq:st.wher=[]) :
  Calls Tryz.prog 141 #[.pointer (some ⟨pb,0,none⟩)] w fun e w'=>e=.returned (.tuple #[])∧(∃r',PS pb lv ws r' w' (Sq.updateS ws st))∧Below pb w w':=by
 have hlt:=h.lt
 have hsm:=h.small
 have c3:=h.cell 3 (.int .i64 st.act) rfl
 have f3:=h.frozen 3
 have HP1:Hid _:=h.setAct 3
 have HB1:Hid (Below pb w (w.setCell ⟨pb,3,none⟩ (.int .i64 3))):=Below.setCell (B:=pb) (Below.refl _ _) (Nat.le_refl _) _
 clear h
 go_enter Tryz.func141,Tryz.ntmps141
 go_wp2_with fail
 refine(jQaN HP1.out).mono ?_
 rintro e w2 ⟨rfl,hp,ht⟩
 have c4:=hp.cell 4 (.string _) rfl
 have f4:=hp.frozen 4
 have hlt2:=hp.lt
 have HB3:Hid (Below pb w (w2.setCell ⟨pb,4,none⟩ (.string (Sq.nameR ws (Sq.setAct st 3))))):=Below.setCell (B:=pb) (HB1.out.trans (Tch.below ht (Nat.le_refl _) (Nat.le_of_lt HP1.out.lt))) (Nat.le_refl _) _
 have HP3:Hid (PS pb lv ws r (w2.setCell ⟨pb,4,none⟩ (.string (Sq.nameR ws (Sq.setAct st 3)))) (Sq.tableS ws (Sq.setAct st 3))):=hp.setTable (Sq.nameR ws (Sq.setAct st 3))
 clear hp ht
 go_wp2_with fail
 refine(jQ1 Sq.bSet HP3.out).mono ?_
 rintro e w4 ⟨rfl,hp,ht⟩
 have HB4:Hid (Below pb w w4):=HB3.out.trans (Tch.below ht (Nat.le_refl _) (Nat.le_of_lt HP3.out.lt))
 have hlt4:=hp.lt
 have HP4:Hid _:=hp
 clear hp ht
 obtain⟨A0,hA0⟩:∃s,s=Sq.wantS ws (Sq.tableS ws (Sq.setAct st 3)) Sq.bSet:=⟨_,rfl⟩
 have HA0:Hid _:=hA0
 clear hA0
 go_wp2_with fail
 refine(jQc4 HP4.out (by simp only[Sq.jQbe,Sq.jQfz];show st.sets.length≤5000;omega)).mono ?_
 rintro e w2 ⟨rfl,⟨r2,hp2⟩,hb2⟩
 have HBL:Hid (Below pb w w2):=HB4.out.trans hb2
 have hl0:=Sq.jQnR ws A0
 have hw0:(Sq.asgS ws A0).wher=st.wher:=by rw[Sq.jQcp,HA0.out];simp only[Sq.jQm,Sq.jQx];rfl
 have hin0:=hp2.inside
 rw[←HA0.out] at hp2
 obtain⟨s0,hs0⟩:∃s,s=Sq.asgS ws A0:=⟨_,rfl⟩
 rw[←hs0] at hp2 hl0 hw0
 have hl0:s0.sets.length≤s0.pos+1:=by rw[hl0,HA0.out];simp only[Sq.jQbe,Sq.jQfz];show st.sets.length+1≤_;omega
 have hin0:=hp2.inside
 have HPL:Hid _:=hp2
 have HS0:Hid _:=hs0
 clear hp2 hb2 hs0
 go_wp2_with fail
 go_loopg [] (ws.length+1) (fun k wr=>∃(g:Nat) (sk:Sq.PSt) (rk:Rw),g=k∧PS pb lv ws rk wr sk∧sk.sets.length≤sk.pos+1∧sk.wher=st.wher∧ws.length - sk.pos+1≤g∧Below pb w wr∧Hid (Sq.commas ws (Sq.asgS ws) (ws.length+1) s0=Sq.commas ws (Sq.asgS ws) g sk))
 case atStart=>exact⟨ws.length+1,s0,r2,rfl,HPL.out,hl0,hw0,by omega,HBL.out,rfl⟩
 case round =>
  obtain⟨g,sk,rk,rfl,hpk,hwk,hwh,hfk,hbk,hek⟩:=hrel
  have HPK:Hid _:=hpk
  have hltk:=hpk.lt
  have hink:=hpk.inside
  have HWH:Hid _:=hwh
  clear hpk hwh HPL HBL hl0 hw0
  go_wp2_with fail
  refine(jQL Sq.bComma HPK.out).mono ?_
  rintro e wa ⟨rfl,hp3,ht3⟩
  have hz3:=ht3.size
  have HT3:Hid _:=ht3
  clear ht3
  cases hB:Sq.acceptB ws sk Sq.bComma
  case true =>
   have hps:=jQaf hB
   obtain⟨g,rfl⟩:∃g',g=g'+1:=⟨g - 1,by omega⟩
   rw[jQM hB] at hp3
   have HE:Hid (Sq.commas ws (Sq.asgS ws) (ws.length+1) s0=Sq.commas ws (Sq.asgS ws) g (Sq.asgS ws (Sq.step1 sk))):=by show _=_;rw[hek.out,Sq.commas,if_pos hB]
   have HP3:Hid _:=hp3
   clear hp3 hB hek
   go_wp2_with fail
   refine(jQc4 HP3.out (by show sk.sets.length≤5000;omega)).mono ?_
   rintro e w4 ⟨rfl,⟨r4,hp4⟩,hb4⟩
   have HP4:Hid _:=hp4
   clear hp4
   have hbw:Below pb w w4:=hbk.trans ((Tch.below HT3.out (Nat.le_refl _) (by omega)).trans hb4)
   have hl4:=Sq.jQnR ws (Sq.step1 sk)
   have hl5:sk.pos+1≤(Sq.asgS ws (Sq.step1 sk)).pos:=Sq.jQrr ws (Sq.step1 sk)
   have HL:Hid _:=hl4
   clear hbk hb4 hl4
   go_wp2
   go_roundg g
   case measure=>omega
   case rel=>exact⟨g,_,r4,rfl,HP4.out,by rw[HL.out];show sk.sets.length+1≤_;omega,by rw[Sq.jQcp];exact HWH.out,by omega,hbw,HE⟩
  case false =>
   rw[jQU hB] at hp3
   have HE:Hid (Sq.commas ws (Sq.asgS ws) (ws.length+1) s0=sk):=by
    show _=_
    rw[hek.out]
    obtain⟨g,rfl⟩:∃g',g=g'+1:=⟨g - 1,by omega⟩
    rw[Sq.commas,if_neg (by simp[hB])]
   have HPZ:Hid _:=hp3
   have HBZ:Hid (Below pb w wa):=hbk.trans (Tch.below HT3.out (Nat.le_refl _) (by omega))
   have hltz:=hp3.lt
   clear hp3 hB hek hbk
   go_wp2_with fail
   refine(jQb6 HPZ.out (by rw[HWH.out,hq];exact Nat.zero_le _)).mono ?_
   rintro e wz ⟨rfl,⟨rz,hp⟩,hb⟩
   have HPE:Hid _:=hp
   have HBE:Hid (Below pb w wz):=HBZ.out.trans hb
   clear hp hb
   go_wp2
   go_end0
   refine⟨rfl,⟨rz,?_⟩,HBE.out⟩
   have e1:Sq.updateS ws st=Sq.whereS ws (Sq.commas ws (Sq.asgS ws) (ws.length+1) s0):=by rw[HS0.out,HA0.out];rfl
   rw[e1,HE.out]
   exact HPE.out
theorem jQns {pb:Nat}{lv:Value}{ws:List Sq.Word}{r:Rw}{w:World}{st:Sq.PSt}(h:PS pb lv ws r w st)(hq:st.wher=[]) :
  Calls Tryz.prog 142 #[.pointer (some ⟨pb,0,none⟩)] w fun e w'=>e=.returned (.tuple #[])∧(∃r',PS pb lv ws r' w' (Sq.deleteS ws st))∧Below pb w w':=by
 have hlt:=h.lt
 have hsm:=h.small
 have c3:=h.cell 3 (.int .i64 st.act) rfl
 have f3:=h.frozen 3
 have HP1:Hid _:=h.setAct 4
 have HB1:Hid (Below pb w (w.setCell ⟨pb,3,none⟩ (.int .i64 4))):=Below.setCell (B:=pb) (Below.refl _ _) (Nat.le_refl _) _
 clear h
 go_enter Tryz.func142,Tryz.ntmps142
 go_wp2_with fail
 refine(jQ1 Sq.bFrom HP1.out).mono ?_
 rintro e w2 ⟨rfl,hp,ht⟩
 have HB2:Hid (Below pb w w2):=HB1.out.trans (Tch.below ht (Nat.le_refl _) (Nat.le_of_lt HP1.out.lt))
 have hlt2:=hp.lt
 have HP2:Hid _:=hp
 clear hp ht
 go_wp2_with fail
 refine(jQaN HP2.out).mono ?_
 rintro e w3 ⟨rfl,hp,ht⟩
 have c4:=hp.cell 4 (.string _) rfl
 have f4:=hp.frozen 4
 have hlt3:=hp.lt
 have HB4:Hid (Below pb w (w3.setCell ⟨pb,4,none⟩ (.string (Sq.nameR ws (Sq.wantS ws (Sq.setAct st 4) Sq.bFrom))))):=Below.setCell (B:=pb) (HB2.out.trans (Tch.below ht (Nat.le_refl _) (Nat.le_of_lt HP2.out.lt))) (Nat.le_refl _) _
 have HP4:Hid (PS pb lv ws r (w3.setCell ⟨pb,4,none⟩ (.string (Sq.nameR ws (Sq.wantS ws (Sq.setAct st 4) Sq.bFrom)))) (Sq.tableS ws (Sq.wantS ws (Sq.setAct st 4) Sq.bFrom))):=hp.setTable (Sq.nameR ws (Sq.wantS ws (Sq.setAct st 4) Sq.bFrom))
 clear hp ht
 go_wp2_with fail
 refine(jQb6 HP4.out (by show(Sq.tableS ws (Sq.wantS ws (Sq.setAct st 4) Sq.bFrom)).wher.length≤_;rw[Sq.jQx,Sq.jQm];show st.wher.length≤_;rw[hq];exact Nat.zero_le _)).mono ?_
 rintro e wz ⟨rfl,⟨rz,hp⟩,hb⟩
 have HPE:Hid _:=hp
 have HBE:Hid (Below pb w wz):=HB4.out.trans hb
 clear hp hb
 go_wp2
 go_end0
 exact⟨rfl,⟨rz,HPE.out⟩,HBE.out⟩
end
section
open Go.RowKit
theorem jQnw {pb:Nat}{lv:Value}{ws:List Sq.Word}{r:Rw}{w:World}{st:Sq.PSt}(h:PS pb lv ws r w st)(hn:st.cols.length=0) :
  Calls Tryz.prog 139 #[.pointer (some ⟨pb,0,none⟩)] w fun e w'=>e=.returned (.tuple #[])∧(∃r',PS pb lv ws r' w' (Sq.createS ws st))∧Below pb w w':=by
 obtain⟨i0,hi,hz0,hz1,hz2⟩:=info_parts Tryz.infoCol
 have hlt:=h.lt
 have hsm:=h.small
 have c3:=h.cell 3 (.int .i64 st.act) rfl
 have f3:=h.frozen 3
 have HP1:Hid _:=h.setAct 1
 have HB1:Hid (Below pb w (w.setCell ⟨pb,3,none⟩ (.int .i64 1))):=Below.setCell (B:=pb) (Below.refl _ _) (Nat.le_refl _) _
 clear h
 go_enter Tryz.func139,Tryz.ntmps139
 go_wp2_with fail
 refine(jQ1 Sq.bTable HP1.out).mono ?_
 rintro e w2 ⟨rfl,hp,ht⟩
 have HB2:Hid (Below pb w w2):=HB1.out.trans (Tch.below ht (Nat.le_refl _) (Nat.le_of_lt HP1.out.lt))
 have hlt2:=hp.lt
 have HP2:Hid _:=hp
 clear hp ht c3 f3
 go_wp2_with fail
 refine(jQaN HP2.out).mono ?_
 rintro e w3 ⟨rfl,hp,ht⟩
 have c4:=hp.cell 4 (.string _) rfl
 have f4:=hp.frozen 4
 have hlt3:=hp.lt
 have HB4:Hid (Below pb w (w3.setCell ⟨pb,4,none⟩ (.string (Sq.nameR ws (Sq.wantS ws (Sq.setAct st 1) Sq.bTable))))):=Below.setCell (B:=pb) (HB2.out.trans (Tch.below ht (Nat.le_refl _) (Nat.le_of_lt HP2.out.lt))) (Nat.le_refl _) _
 have HP4:Hid (PS pb lv ws r (w3.setCell ⟨pb,4,none⟩ (.string (Sq.nameR ws (Sq.wantS ws (Sq.setAct st 1) Sq.bTable)))) (Sq.tableS ws (Sq.wantS ws (Sq.setAct st 1) Sq.bTable))):=hp.setTable _
 clear hp ht
 go_wp2_with fail
 refine(jQ1 Sq.bOpen HP4.out).mono ?_
 rintro e w5 ⟨rfl,hp,ht⟩
 have HB5:Hid (Below pb w w5):=HB4.out.trans (Tch.below ht (Nat.le_refl _) (Nat.le_of_lt HP4.out.lt))
 obtain⟨A0,hA0⟩:∃s,s=Sq.wantS ws (Sq.tableS ws (Sq.wantS ws (Sq.setAct st 1) Sq.bTable)) Sq.bOpen:=⟨_,rfl⟩
 rw[←hA0] at hp
 have HA0:Hid _:=hA0
 have HP5:Hid _:=hp
 clear hp ht c4 f4 hA0
 go_wp2_with fail
 refine(jQaN HP5.out).mono ?_
 rintro e w6 ⟨rfl,hp,ht⟩
 obtain⟨k0,hk0⟩:∃s,s=Sq.nameR ws A0:=⟨_,rfl⟩
 rw[←hk0]
 have HK0:Hid _:=hk0
 have HB6:Hid (Below pb w w6):=HB5.out.trans (Tch.below ht (Nat.le_refl _) (Nat.le_of_lt HP5.out.lt))
 have HP6:Hid _:=hp
 clear hp ht hk0
 go_wp2_with fail
 refine(jQ1 Sq.bInt HP6.out).mono ?_
 rintro e w7 ⟨rfl,hp,ht⟩
 have HB7:Hid (Below pb w w7):=HB6.out.trans (Tch.below ht (Nat.le_refl _) (Nat.le_of_lt HP6.out.lt))
 obtain⟨A1,hA1⟩:∃s,s=Sq.wantS ws (Sq.nameS ws A0) Sq.bInt:=⟨_,rfl⟩
 rw[←hA1] at hp
 have hc1:Hid (A1.cols.length=0):=by show _=_;rw[hA1,HA0.out];simp only[Sq.jQbf,Sq.jQbY,Sq.jQdd];exact hn
 have hcn1:A1.cols.length≤5000:=by rw[hc1.out];omega
 have HA1:Hid _:=hA1
 have hlt7:=hp.lt
 have c5:=hp.cell 5 r.cv rfl
 have hW:Below w7.heap.size w7 (w7.alloc (.cells #[.string k0,.int .i64 0] 205)):=(Below.refl _ _).alloc (Nat.le_refl _) _
 have HPA:Hid _:=hp.below hW
 have HW:Hid _:=hW
 clear hp ht hA1 hW
 go_wp2_with (first | (at_builtin;refine wpList_append_lies _ rfl (.tmp 28) (.tmp 31) 92 rfl (pb+1) 205 i0 _ 2 24 Tryz.underlying92 hi hz0 hz1 hz2 rfl (by decide) r.cv A1.cols.length (A1.cols.flatMap Sq.Col.cells) rfl HPA.out.cols ⟨w7.heap.size,0,none⟩ 1 1 [.string k0,.int .i64 0] rfl rfl (by exact jQB w7 _ _ _ rfl rfl) (by intro u hu;simp at hu;rcases hu with rfl | rfl <;> rfl) (by decide) (by unfold maxLen;omega) (by omega) (by simp;omega) _ rfl ?_;intro g cap w8 hown hgrow hat hltg;have hb:=(HPA.out.blk_other HPA.out.cols (by decide) hgrow).trans HPA.out.blk;have k10:w8.cell? ⟨pb,5,none⟩=some r.cv:=(by rw[jQb hb];rfl);have f10:=jQd hb 5;have hlt1:=jQg hb;have HO:Hid _:=hown;have HG:Hid _:=hgrow;clear hown hgrow hat hb) | fail)
 have hpL:=HPA.out.cols_end ⟨k0,0⟩ HO.out HG.out
 have HBL:Hid (Below pb w (w8.setCell ⟨pb,5,none⟩ (.slice (some ⟨g,0,none⟩) (A1.cols.length+1) cap))):=by
  refine HB7.out.trans ?_
  refine Below.setCell (B:=pb) (Below.trans (Below.mono (B':=pb) HW.out (by omega)) (Tch.of_grown HG.out (fun k hk=>?_) (by simp;omega))) (Nat.le_refl _) _
  exact Nat.le_of_succ_le (HPA.out.cols.lt k hk).1
 obtain⟨s0,hs0⟩:∃s,s=Sq.addCol A1 ⟨k0,0⟩:=⟨_,rfl⟩
 rw[←hs0] at hpL
 have hin0:=hpL.inside
 have hl0:s0.cols.length≤s0.pos+1:=by rw[hs0];show(A1.cols++[_]).length≤_;rw[List.length_append,hc1.out];simp
 have HPL:Hid _:=hpL
 have HS0:Hid (Sq.createS ws st=Sq.wantS ws (Sq.commas ws (Sq.colS ws) (ws.length+1) s0) Sq.bClose):=by show _=_;rw[hs0,HA1.out,HK0.out,HA0.out];rfl
 obtain⟨rL,hrL⟩:∃x:Rw,x={ r with cv:=.slice (some ⟨g,0,none⟩) (A1.cols.length+1) cap }:=⟨_,rfl⟩
 rw[←hrL] at hpL
 have HPL:Hid _:=hpL
 clear hpL hs0 hrL HO HG k10 f10 c5 HPA HW
 go_loopg [] (ws.length+1) (fun k wr=>∃(g:Nat) (sk:Sq.PSt) (rk:Rw),g=k∧PS pb lv ws rk wr sk∧sk.cols.length≤sk.pos+1∧ws.length - sk.pos+1≤g∧Below pb w wr∧Hid (Sq.commas ws (Sq.colS ws) (ws.length+1) s0=Sq.commas ws (Sq.colS ws) g sk))
 case atStart=>exact⟨ws.length+1,s0,rL,rfl,HPL.out,hl0,by omega,HBL.out,rfl⟩
 case round =>
  obtain⟨g,sk,rk,rfl,hpk,hwk,hfk,hbk,hek⟩:=hrel
  have HPK:Hid _:=hpk
  have hltk:=hpk.lt
  have hink:=hpk.inside
  clear hpk HPL HBL hl0
  go_wp2_with fail
  refine(jQL Sq.bComma HPK.out).mono ?_
  rintro e wa ⟨rfl,hp3,ht3⟩
  have hz3:=ht3.size
  have HT3:Hid _:=ht3
  clear ht3
  cases hB:Sq.acceptB ws sk Sq.bComma
  case true =>
   have hps:=jQaf hB
   obtain⟨g,rfl⟩:∃g',g=g'+1:=⟨g - 1,by omega⟩
   rw[jQM hB] at hp3
   have HE:Hid (Sq.commas ws (Sq.colS ws) (ws.length+1) s0=Sq.commas ws (Sq.colS ws) g (Sq.colS ws (Sq.step1 sk))):=by show _=_;rw[hek.out,Sq.commas,if_pos hB]
   have HP3:Hid _:=hp3
   have hlta:=hp3.lt
   clear hp3 hB hek
   go_wp2_with fail
   refine(jQaN HP3.out).mono ?_
   rintro e wb ⟨rfl,hp,ht⟩
   obtain⟨nm,hnm⟩:∃s,s=Sq.nameR ws (Sq.step1 sk):=⟨_,rfl⟩
   rw[←hnm]
   have HNM:Hid _:=hnm
   have HTb:Hid _:=Tch.trans HT3.out ht
   have HPb:Hid _:=hp
   clear hp ht hnm
   go_wp2_with fail
   refine(jQqU HPb.out).mono ?_
   rintro e wc ⟨rfl,hp,ht⟩
   obtain⟨kd,hkd⟩:∃s,s=Sq.kindR ws (Sq.nameS ws (Sq.step1 sk)):=⟨_,rfl⟩
   rw[←hkd]
   have HKD:Hid _:=hkd
   have HTc:Hid _:=Tch.trans HTb.out ht
   obtain⟨sc,hsc⟩:∃s,s=Sq.kindS ws (Sq.nameS ws (Sq.step1 sk)):=⟨_,rfl⟩
   rw[←hsc] at hp
   have hcl:sc.cols.length=sk.cols.length:=by rw[hsc,Sq.jQhz,Sq.jQbY];rfl
   have hcp:sk.pos+1≤sc.pos:=by rw[hsc];exact Nat.le_trans (Sq.jQgp ws (Sq.step1 sk)) (Sq.jQo4 ws _)
   have HSC:Hid (Sq.colS ws (Sq.step1 sk)=Sq.addCol sc ⟨nm,kd⟩):=by show _=_;rw[hsc,HNM.out,hkd];rfl
   have hltc:=hp.lt
   have hinc:=hp.inside
   have c5:=hp.cell 5 rk.cv rfl
   have hW:Below wc.heap.size wc (wc.alloc (.cells #[.string nm,.int .i64 kd] 205)):=(Below.refl _ _).alloc (Nat.le_refl _) _
   have HPA:Hid _:=hp.below hW
   have HW:Hid _:=hW
   have hcn:sc.cols.length≤5000:=by omega
   have HCL:Hid _:=hcl
   clear hp ht hkd hsc hW hcl
   go_wp2_with (first | (at_builtin;refine wpList_append_lies _ rfl (.tmp 47) (.tmp 51) 92 rfl (pb+1) 205 i0 _ 2 24 Tryz.underlying92 hi hz0 hz1 hz2 rfl (by decide) rk.cv sc.cols.length (sc.cols.flatMap Sq.Col.cells) rfl HPA.out.cols ⟨wc.heap.size,0,none⟩ 1 1 [.string nm,.int .i64 kd] rfl rfl (by exact jQB wc _ _ _ rfl rfl) (by intro u hu;simp at hu;rcases hu with rfl | rfl <;> rfl) (by decide) (by unfold maxLen;omega) (by omega) (by simp;omega) _ rfl ?_;intro gg cap wd hown hgrow hat hltg;have hb:=(HPA.out.blk_other HPA.out.cols (by decide) hgrow).trans HPA.out.blk;have k10:wd.cell? ⟨pb,5,none⟩=some rk.cv:=(by rw[jQb hb];rfl);have f10:=jQd hb 5;have hlt1:=jQg hb;have HO:Hid _:=hown;have HG:Hid _:=hgrow;clear hown hgrow hat hb) | fail)
   have hpL:=HPA.out.cols_end ⟨nm,kd⟩ HO.out HG.out
   have hbw:Below pb w (wd.setCell ⟨pb,5,none⟩ (.slice (some ⟨gg,0,none⟩) (sc.cols.length+1) cap)):=by
    refine hbk.trans ((Tch.below HTc.out (Nat.le_refl _) (by omega)).trans ?_)
    refine Below.setCell (B:=pb) (Below.trans (Below.mono (B':=pb) HW.out (by omega)) (Tch.of_grown HG.out (fun k hk=>?_) (by simp;omega))) (Nat.le_refl _) _
    exact Nat.le_of_succ_le (HPA.out.cols.lt k hk).1
   go_roundg g
   case measure=>omega
   case rel=>exact⟨g,_,_,rfl,hpL,by show(sc.cols++[_]).length≤sc.pos+1;rw[List.length_append,HCL.out];simp;omega,by show ws.length - sc.pos+1≤g;omega,hbw,by show _=_;rw[HE.out,HSC.out]⟩
  case false =>
   rw[jQU hB] at hp3
   have HE:Hid (Sq.commas ws (Sq.colS ws) (ws.length+1) s0=sk):=by
    show _=_
    rw[hek.out]
    obtain⟨g,rfl⟩:∃g',g=g'+1:=⟨g - 1,by omega⟩
    rw[Sq.commas,if_neg (by simp[hB])]
   have HPZ:Hid _:=hp3
   have HBZ:Hid (Below pb w wa):=hbk.trans (Tch.below HT3.out (Nat.le_refl _) (by omega))
   have hltz:=hp3.lt
   clear hp3 hB hek hbk
   go_wp2_with fail
   refine(jQ1 Sq.bClose HPZ.out).mono ?_
   rintro e wz ⟨rfl,hp,ht⟩
   have HPE:Hid _:=hp
   have HBE:Hid (Below pb w wz):=HBZ.out.trans (Tch.below ht (Nat.le_refl _) (by omega))
   clear hp ht
   go_wp2
   go_end0
   refine⟨rfl,⟨rk,?_⟩,HBE.out⟩
   rw[HS0.out,HE.out]
   exact HPE.out
end
section
open Go.RowKit
theorem jQnI {pb:Nat}{lv:Value}{ws:List Sq.Word}{r:Rw}{w:World}{st:Sq.PSt}(h:PS pb lv ws r w st)(hn:st.items.length=0)(hq:st.wher=[]) :
  Calls Tryz.prog 143 #[.pointer (some ⟨pb,0,none⟩)] w fun e w'=>e=.returned (.tuple #[])∧(∃r',PS pb lv ws r' w' (Sq.chooseS ws st))∧Below pb w w':=by
 have hlt:=h.lt
 have hsm:=h.small
 have c3:=h.cell 3 (.int .i64 st.act) rfl
 have f3:=h.frozen 3
 have HQ:Hid _:=hq
 have HN:Hid _:=hn
 have hp1:=h.setAct 5
 obtain⟨s0,hs0⟩:∃s,s=Sq.setAct st 5:=⟨_,rfl⟩
 rw[←hs0] at hp1
 have hw0:Hid (s0.wher=[]):=by show _=_;rw[hs0];exact hq
 have hi0:Hid (s0.items.length=0):=by show _=_;rw[hs0];exact hn
 have HS0:Hid _:=hs0
 have HP1:Hid _:=hp1
 have HB1:Hid (Below pb w (w.setCell ⟨pb,3,none⟩ (.int .i64 5))):=Below.setCell (B:=pb) (Below.refl _ _) (Nat.le_refl _) _
 clear h hq hn hs0 hp1
 go_enter Tryz.func143,Tryz.ntmps143
 go_wp2_with fail
 refine(jQL Sq.bStar HP1.out).mono ?_
 rintro e w2 ⟨rfl,hp2,ht⟩
 have HB2:Hid (Below pb w w2):=HB1.out.trans (Tch.below ht (Nat.le_refl _) (Nat.le_of_lt HP1.out.lt))
 clear ht c3 f3
 cases hA:Sq.acceptB ws s0 Sq.bStar
 case true =>
  rw[jQM hA] at hp2
  have c8:=hp2.cell 8 (.int .i64 _) rfl
  have f8:=hp2.frozen 8
  have hltx:=hp2.lt
  have HPQ:Hid _:=hp2.setShow 1
  have HBQ:Hid (Below pb w (w2.setCell ⟨pb,8,none⟩ (.int .i64 1))):=Below.setCell (B:=pb) HB2.out (Nat.le_refl _) _
  clear hp2
  have HCA:Hid (Sq.chooseA ws (Sq.setAct st 5)=Sq.setShow (Sq.step1 s0) 1):=by show _=_;rw[←HS0.out];unfold Sq.chooseA;rw[if_pos hA]
  clear hA
  go_wp2_with fail
  refine(jQ1 Sq.bFrom HPQ.out).mono ?_
  rintro e wf ⟨rfl,hp,ht⟩
  have HBF:Hid (Below pb w wf):=HBQ.out.trans (Tch.below ht (Nat.le_refl _) (Nat.le_of_lt HPQ.out.lt))
  have HPF:Hid _:=hp
  clear hp ht
  go_wp2_with fail
  refine(jQaN HPF.out).mono ?_
  rintro e wg ⟨rfl,hp,ht⟩
  have c4:=hp.cell 4 (.string _) rfl
  have f4:=hp.frozen 4
  have hltg:=hp.lt
  have HBG:Hid (Below pb w (wg.setCell ⟨pb,4,none⟩ (.string (Sq.nameR ws (Sq.wantS ws (Sq.setShow (Sq.step1 s0) 1) Sq.bFrom))))):=Below.setCell (B:=pb) (HBF.out.trans (Tch.below ht (Nat.le_refl _) (Nat.le_of_lt HPF.out.lt))) (Nat.le_refl _) _
  have HPG:Hid (PS pb lv ws _ (wg.setCell ⟨pb,4,none⟩ (.string (Sq.nameR ws (Sq.wantS ws (Sq.setShow (Sq.step1 s0) 1) Sq.bFrom)))) (Sq.tableS ws (Sq.wantS ws (Sq.setShow (Sq.step1 s0) 1) Sq.bFrom))):=hp.setTable _
  clear hp ht
  go_wp2_with fail
  refine(jQb6 HPG.out (by rw[Sq.jQx,Sq.jQm,show(Sq.setShow (Sq.step1 s0) 1).wher=[] from hw0.out];exact Nat.zero_le _)).mono ?_
  rintro e wz ⟨rfl,⟨rz,hp⟩,hb⟩
  have HPE:Hid _:=hp
  have HBE:Hid (Below pb w wz):=HBG.out.trans hb
  clear hp hb c4 f4
  go_wp2
  go_end0
  refine⟨rfl,⟨rz,?_⟩,HBE.out⟩
  have e1:Sq.chooseS ws st=Sq.whereS ws (Sq.tableS ws (Sq.wantS ws (Sq.setShow (Sq.step1 s0) 1) Sq.bFrom)):=by
   unfold Sq.chooseS
   rw[HCA.out]
  rw[e1]
  exact HPE.out
 case false =>
  rw[jQU hA] at hp2
  have HP2:Hid _:=hp2
  clear hp2
  go_wp2_with fail
  refine(jQL Sq.bCount HP2.out).mono ?_
  rintro e w3 ⟨rfl,hp3,ht⟩
  have HB3:Hid (Below pb w w3):=HB2.out.trans (Tch.below ht (Nat.le_refl _) (Nat.le_of_lt HP2.out.lt))
  clear ht
  cases hC:Sq.acceptB ws s0 Sq.bCount
  case true =>
   rw[jQM hC] at hp3
   have c8:=hp3.cell 8 (.int .i64 _) rfl
   have f8:=hp3.frozen 8
   have hltx:=hp3.lt
   have HPQ:Hid _:=hp3.setShow 2
   have HBQ:Hid (Below pb w (w3.setCell ⟨pb,8,none⟩ (.int .i64 2))):=Below.setCell (B:=pb) HB3.out (Nat.le_refl _) _
   clear hp3
   have HCA:Hid (Sq.chooseA ws (Sq.setAct st 5)=Sq.setShow (Sq.step1 s0) 2):=by show _=_;rw[←HS0.out];unfold Sq.chooseA;rw[if_neg (by simp[hA]),if_pos hC]
   clear hA hC
   go_wp2_with fail
   refine(jQ1 Sq.bFrom HPQ.out).mono ?_
   rintro e wf ⟨rfl,hp,ht⟩
   have HBF:Hid (Below pb w wf):=HBQ.out.trans (Tch.below ht (Nat.le_refl _) (Nat.le_of_lt HPQ.out.lt))
   have HPF:Hid _:=hp
   clear hp ht
   go_wp2_with fail
   refine(jQaN HPF.out).mono ?_
   rintro e wg ⟨rfl,hp,ht⟩
   have c4:=hp.cell 4 (.string _) rfl
   have f4:=hp.frozen 4
   have hltg:=hp.lt
   have HBG:Hid (Below pb w (wg.setCell ⟨pb,4,none⟩ (.string (Sq.nameR ws (Sq.wantS ws (Sq.setShow (Sq.step1 s0) 2) Sq.bFrom))))):=Below.setCell (B:=pb) (HBF.out.trans (Tch.below ht (Nat.le_refl _) (Nat.le_of_lt HPF.out.lt))) (Nat.le_refl _) _
   have HPG:Hid (PS pb lv ws _ (wg.setCell ⟨pb,4,none⟩ (.string (Sq.nameR ws (Sq.wantS ws (Sq.setShow (Sq.step1 s0) 2) Sq.bFrom)))) (Sq.tableS ws (Sq.wantS ws (Sq.setShow (Sq.step1 s0) 2) Sq.bFrom))):=hp.setTable _
   clear hp ht
   go_wp2_with fail
   refine(jQb6 HPG.out (by rw[Sq.jQx,Sq.jQm,show(Sq.setShow (Sq.step1 s0) 2).wher=[] from hw0.out];exact Nat.zero_le _)).mono ?_
   rintro e wz ⟨rfl,⟨rz,hp⟩,hb⟩
   have HPE:Hid _:=hp
   have HBE:Hid (Below pb w wz):=HBG.out.trans hb
   clear hp hb c4 f4
   go_wp2
   go_end0
   refine⟨rfl,⟨rz,?_⟩,HBE.out⟩
   have e1:Sq.chooseS ws st=Sq.whereS ws (Sq.tableS ws (Sq.wantS ws (Sq.setShow (Sq.step1 s0) 2) Sq.bFrom)):=by
    unfold Sq.chooseS
    rw[HCA.out]
   rw[e1]
   exact HPE.out
  case false =>
   rw[jQU hC] at hp3
   have HP3:Hid _:=hp3
   clear hp3
   go_wp2_with fail
   refine(jQL Sq.bSum HP3.out).mono ?_
   rintro e w4 ⟨rfl,hp4,ht⟩
   have HB4:Hid (Below pb w w4):=HB3.out.trans (Tch.below ht (Nat.le_refl _) (Nat.le_of_lt HP3.out.lt))
   clear ht
   cases hM:Sq.acceptB ws s0 Sq.bSum
   case true =>
    rw[jQM hM] at hp4
    have c8:=hp4.cell 8 (.int .i64 _) rfl
    have f8:=hp4.frozen 8
    have hltx:=hp4.lt
    have HPS:Hid _:=hp4.setShow 3
    have HBS:Hid (Below pb w (w4.setCell ⟨pb,8,none⟩ (.int .i64 3))):=Below.setCell (B:=pb) HB4.out (Nat.le_refl _) _
    clear hp4
    have HCA:Hid (Sq.chooseA ws (Sq.setAct st 5)=Sq.wantS ws (Sq.itemS ws (Sq.wantS ws (Sq.setShow (Sq.step1 s0) 3) Sq.bOpen)) Sq.bClose):=by show _=_;rw[←HS0.out];unfold Sq.chooseA;rw[if_neg (by simp[hA]),if_neg (by simp[hC]),if_pos hM]
    clear hA hC hM
    go_wp2_with fail
    refine(jQ1 Sq.bOpen HPS.out).mono ?_
    rintro e w5 ⟨rfl,hp,ht⟩
    have HB5:Hid (Below pb w w5):=HBS.out.trans (Tch.below ht (Nat.le_refl _) (Nat.le_of_lt HPS.out.lt))
    have HP5:Hid _:=hp
    clear hp ht c8 f8
    go_wp2_with fail
    refine(jQiB HP5.out (by rw[Sq.jQkm];show s0.items.length≤5000;rw[hi0.out];omega)).mono ?_
    rintro e w6 ⟨rfl,⟨r6,hp⟩,hb⟩
    have HB6:Hid (Below pb w w6):=HB5.out.trans hb
    have HP6:Hid _:=hp
    clear hp hb
    go_wp2_with fail
    refine(jQ1 Sq.bClose HP6.out).mono ?_
    rintro e w7 ⟨rfl,hp,ht⟩
    have HBQ:Hid (Below pb w w7):=HB6.out.trans (Tch.below ht (Nat.le_refl _) (Nat.le_of_lt HP6.out.lt))
    have HPQ:Hid _:=hp
    clear hp ht
    go_wp2_with fail
    refine(jQ1 Sq.bFrom HPQ.out).mono ?_
    rintro e wf ⟨rfl,hp,ht⟩
    have HBF:Hid (Below pb w wf):=HBQ.out.trans (Tch.below ht (Nat.le_refl _) (Nat.le_of_lt HPQ.out.lt))
    have HPF:Hid _:=hp
    clear hp ht
    go_wp2_with fail
    refine(jQaN HPF.out).mono ?_
    rintro e wg ⟨rfl,hp,ht⟩
    have c4:=hp.cell 4 (.string _) rfl
    have f4:=hp.frozen 4
    have hltg:=hp.lt
    have HBG:Hid (Below pb w (wg.setCell ⟨pb,4,none⟩ (.string (Sq.nameR ws (Sq.wantS ws (Sq.wantS ws (Sq.itemS ws (Sq.wantS ws (Sq.setShow (Sq.step1 s0) 3) Sq.bOpen)) Sq.bClose) Sq.bFrom))))):=Below.setCell (B:=pb) (HBF.out.trans (Tch.below ht (Nat.le_refl _) (Nat.le_of_lt HPF.out.lt))) (Nat.le_refl _) _
    have HPG:Hid (PS pb lv ws _ (wg.setCell ⟨pb,4,none⟩ (.string (Sq.nameR ws (Sq.wantS ws (Sq.wantS ws (Sq.itemS ws (Sq.wantS ws (Sq.setShow (Sq.step1 s0) 3) Sq.bOpen)) Sq.bClose) Sq.bFrom)))) (Sq.tableS ws (Sq.wantS ws (Sq.wantS ws (Sq.itemS ws (Sq.wantS ws (Sq.setShow (Sq.step1 s0) 3) Sq.bOpen)) Sq.bClose) Sq.bFrom))):=hp.setTable _
    clear hp ht
    go_wp2_with fail
    refine(jQb6 HPG.out (by rw[Sq.jQx,Sq.jQm,Sq.jQm,Sq.jQbp,Sq.jQm,show(Sq.setShow (Sq.step1 s0) 3).wher=[] from hw0.out];exact Nat.zero_le _)).mono ?_
    rintro e wz ⟨rfl,⟨rz,hp⟩,hb⟩
    have HPE:Hid _:=hp
    have HBE:Hid (Below pb w wz):=HBG.out.trans hb
    clear hp hb c4 f4
    go_wp2
    go_end0
    refine⟨rfl,⟨rz,?_⟩,HBE.out⟩
    have e1:Sq.chooseS ws st=Sq.whereS ws (Sq.tableS ws (Sq.wantS ws (Sq.wantS ws (Sq.itemS ws (Sq.wantS ws (Sq.setShow (Sq.step1 s0) 3) Sq.bOpen)) Sq.bClose) Sq.bFrom)):=by
     unfold Sq.chooseS
     rw[HCA.out]
    rw[e1]
    exact HPE.out
   case false =>
    rw[jQU hM] at hp4
    have HP4:Hid _:=hp4
    clear hp4
    have HCA:Hid (Sq.chooseA ws (Sq.setAct st 5)=Sq.itemsS ws s0):=by show _=_;rw[←HS0.out];unfold Sq.chooseA;rw[if_neg (by simp[hA]),if_neg (by simp[hC]),if_neg (by simp[hM])]
    clear hA hC hM
    go_wp2_with fail
    refine(jQpb HP4.out hi0.out).mono ?_
    rintro e w5 ⟨rfl,⟨r5,hp⟩,hb⟩
    have HBQ:Hid (Below pb w w5):=HB4.out.trans hb
    have HPQ:Hid _:=hp
    clear hp hb
    go_wp2_with fail
    refine(jQ1 Sq.bFrom HPQ.out).mono ?_
    rintro e wf ⟨rfl,hp,ht⟩
    have HBF:Hid (Below pb w wf):=HBQ.out.trans (Tch.below ht (Nat.le_refl _) (Nat.le_of_lt HPQ.out.lt))
    have HPF:Hid _:=hp
    clear hp ht
    go_wp2_with fail
    refine(jQaN HPF.out).mono ?_
    rintro e wg ⟨rfl,hp,ht⟩
    have c4:=hp.cell 4 (.string _) rfl
    have f4:=hp.frozen 4
    have hltg:=hp.lt
    have HBG:Hid (Below pb w (wg.setCell ⟨pb,4,none⟩ (.string (Sq.nameR ws (Sq.wantS ws (Sq.itemsS ws s0) Sq.bFrom))))):=Below.setCell (B:=pb) (HBF.out.trans (Tch.below ht (Nat.le_refl _) (Nat.le_of_lt HPF.out.lt))) (Nat.le_refl _) _
    have HPG:Hid (PS pb lv ws _ (wg.setCell ⟨pb,4,none⟩ (.string (Sq.nameR ws (Sq.wantS ws (Sq.itemsS ws s0) Sq.bFrom)))) (Sq.tableS ws (Sq.wantS ws (Sq.itemsS ws s0) Sq.bFrom))):=hp.setTable _
    clear hp ht
    go_wp2_with fail
    refine(jQb6 HPG.out (by rw[Sq.jQx,Sq.jQm,show(Sq.itemsS ws s0).wher=[] from by unfold Sq.itemsS;rw[Sq.jQar ws _ (Sq.jQbp ws),Sq.jQbp];exact hw0.out];exact Nat.zero_le _)).mono ?_
    rintro e wz ⟨rfl,⟨rz,hp⟩,hb⟩
    have HPE:Hid _:=hp
    have HBE:Hid (Below pb w wz):=HBG.out.trans hb
    clear hp hb c4 f4
    go_wp2
    go_end0
    refine⟨rfl,⟨rz,?_⟩,HBE.out⟩
    have e1:Sq.chooseS ws st=Sq.whereS ws (Sq.tableS ws (Sq.wantS ws (Sq.itemsS ws s0) Sq.bFrom)):=by
     unfold Sq.chooseS
     rw[HCA.out]
    rw[e1]
    exact HPE.out
theorem jQg9 {pb:Nat}{lv:Value}{ws:List Sq.Word}{r:Rw}{w:World}(h:PS pb lv ws r w Sq.st0) :
  Calls Tryz.prog 101 #[.pointer (some ⟨pb,0,none⟩)] w fun e w'=>e=.returned (.tuple #[])∧(∃r',PS pb lv ws r' w' (Sq.statementS ws Sq.st0))∧Below pb w w':=by
 have hlt:=h.lt
 have H:Hid _:=h
 clear h
 go_enter Tryz.func101,Tryz.ntmps101
 go_wp2_with fail
 refine(jQmK H.out).mono ?_
 rintro e w1 ⟨rfl,hp,ht⟩
 have HB1:Hid (Below pb w w1):=Tch.below ht (Nat.le_refl _) (Nat.le_of_lt hlt)
 have d2:=hp.cell 2 (.bool _) rfl
 have g2:=hp.frozen 2
 have hlt1:=hp.lt
 have HP1:Hid _:=hp
 clear hp ht
 obtain⟨m,hm⟩:∃m,m=Sq.markR ws Sq.st0:=⟨_,rfl⟩
 rw[←hm]
 obtain⟨s1,hs1⟩:∃s,s=Sq.takeS ws Sq.st0:=⟨_,rfl⟩
 have hcol:Hid (s1.cols.length=0):=by show _=_;rw[hs1,Sq.jQcP];rfl
 have hval:Hid (s1.vals.length=0):=by show _=_;rw[hs1,Sq.jQeh];rfl
 have hset:Hid (s1.sets.length=0):=by show _=_;rw[hs1,Sq.jQei];rfl
 have hitm:Hid (s1.items.length=0):=by show _=_;rw[hs1,Sq.jQfx];rfl
 have hwh:Hid (s1.wher=[]):=by show _=_;rw[hs1,Sq.jQau];rfl
 have HE:Hid (Sq.statementS ws Sq.st0=if m.toList==Sq.bCreate.toList then Sq.createS ws s1 else if m.toList==Sq.bInsert.toList then Sq.insertS ws s1 else if m.toList==Sq.bUpdate.toList then Sq.updateS ws s1 else if m.toList==Sq.bDelete.toList then Sq.deleteS ws s1 else if m.toList==Sq.bSelect.toList then Sq.chooseS ws s1 else Sq.fail s1):=by show _=_;rw[hm,hs1];rfl
 have hp1:=HP1.out
 rw[←hs1] at hp1 d2
 have HP1:Hid _:=hp1
 clear hp1 hm hs1
 have e1:Sq.bCreate.toList=[99,114,101,97,116,101]:=by rw[ByteArray.toList_eq];rfl
 have e2:Sq.bInsert.toList=[105,110,115,101,114,116]:=by rw[ByteArray.toList_eq];rfl
 have e3:Sq.bUpdate.toList=[117,112,100,97,116,101]:=by rw[ByteArray.toList_eq];rfl
 have e4:Sq.bDelete.toList=[100,101,108,101,116,101]:=by rw[ByteArray.toList_eq];rfl
 have e5:Sq.bSelect.toList=[115,101,108,101,99,116]:=by rw[ByteArray.toList_eq];rfl
 have HE':=HE.out
 rw[e1,e2,e3,e4,e5] at HE'
 have HE:Hid _:=HE'
 clear HE' e1 e2 e3 e4 e5
 cases h0:(m.toList==[99,114,101,97,116,101])
 case true =>
  have HF:Hid (Sq.statementS ws Sq.st0=Sq.createS ws s1):=by show _=_;rw[HE.out,h0];rfl
  go_wp2_with fail
  refine(jQnw HP1.out hcol.out).mono ?_
  rintro e w2 ⟨rfl,⟨r2,hp⟩,hb⟩
  have HPE:Hid _:=hp
  clear hp
  go_wp2
  go_end0
  exact⟨rfl,⟨r2,by rw[HF.out];exact HPE.out⟩,HB1.out.trans hb⟩
 cases h1:(m.toList==[105,110,115,101,114,116])
 case true =>
  have HF:Hid (Sq.statementS ws Sq.st0=Sq.insertS ws s1):=by show _=_;rw[HE.out,h0,h1];rfl
  go_wp2_with fail
  refine(jQnc HP1.out hval.out).mono ?_
  rintro e w2 ⟨rfl,⟨r2,hp⟩,hb⟩
  have HPE:Hid _:=hp
  clear hp
  go_wp2
  go_end0
  exact⟨rfl,⟨r2,by rw[HF.out];exact HPE.out⟩,HB1.out.trans hb⟩
 cases h2:(m.toList==[117,112,100,97,116,101])
 case true =>
  have HF:Hid (Sq.statementS ws Sq.st0=Sq.updateS ws s1):=by show _=_;rw[HE.out,h0,h1,h2];rfl
  go_wp2_with fail
  refine(jQlx HP1.out hset.out hwh.out).mono ?_
  rintro e w2 ⟨rfl,⟨r2,hp⟩,hb⟩
  have HPE:Hid _:=hp
  clear hp
  go_wp2
  go_end0
  exact⟨rfl,⟨r2,by rw[HF.out];exact HPE.out⟩,HB1.out.trans hb⟩
 cases h3:(m.toList==[100,101,108,101,116,101])
 case true =>
  have HF:Hid (Sq.statementS ws Sq.st0=Sq.deleteS ws s1):=by show _=_;rw[HE.out,h0,h1,h2,h3];rfl
  go_wp2_with fail
  refine(jQns HP1.out hwh.out).mono ?_
  rintro e w2 ⟨rfl,⟨r2,hp⟩,hb⟩
  have HPE:Hid _:=hp
  clear hp
  go_wp2
  go_end0
  exact⟨rfl,⟨r2,by rw[HF.out];exact HPE.out⟩,HB1.out.trans hb⟩
 cases h4:(m.toList==[115,101,108,101,99,116])
 case true =>
  have HF:Hid (Sq.statementS ws Sq.st0=Sq.chooseS ws s1):=by show _=_;rw[HE.out,h0,h1,h2,h3,h4];rfl
  go_wp2_with fail
  refine(jQnI HP1.out hitm.out hwh.out).mono ?_
  rintro e w2 ⟨rfl,⟨r2,hp⟩,hb⟩
  have HPE:Hid _:=hp
  clear hp
  go_wp2
  go_end0
  exact⟨rfl,⟨r2,by rw[HF.out];exact HPE.out⟩,HB1.out.trans hb⟩
 have HF:Hid (Sq.statementS ws Sq.st0=Sq.fail s1):=by show _=_;rw[HE.out,h0,h1,h2,h3,h4];rfl
 go_wp2
 go_end0
 have ht:Tch pb w1 (w1.setCell ⟨pb,2,none⟩ (.bool true)):=(Tch.refl _ _).store (.inl rfl) _
 exact⟨rfl,⟨r,by rw[HF.out];exact HP1.out.bad_end (Below.refl _ _) ht rfl⟩,HB1.out.trans (Tch.below ht (Nat.le_refl _) (Nat.le_of_lt hlt1))⟩
end
end Go.Proofs.YtahpihjialbanaaGreatDoor
