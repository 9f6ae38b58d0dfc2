import Derived.Lib.AppendStr
import Derived.Test.YtahpihjialbanaaGreatDoorQam
set_option linter.all false
set_option maxRecDepth 100000
set_option maxHeartbeats 2000000
namespace Go.Proofs.YtahpihjialbanaaGreatDoor
open Sq (Col Val bS jA4 jA8 jAG jAH jBR jBV jBr jCx jD2 jD9 jDX jEN jEh jEz jFL jFs jG8 jGg)
variable {b pb:Nat}{v:Value}{w w':World}
section
open Go.RowKit
def jEu (w:World)(v:Value)(l:List Int):Prop:=w.ownsRow 0 3 1 v l.length (l.map (Value.int .i64))/\l.length<=100000
theorem jEu.below {l:List Int}(h:jEu w v l)(hb:Below w.heap.size w w'):jEu w' v l:=⟨jQh h.1 hb,h.2⟩
theorem jEu.at {l:List Int}(h:jEu w v l)(k:Nat)(hk:k<l.length):∃g cap,v=.slice (some ⟨g,0,none⟩) l.length cap/\g<w.heap.size/\w.cell? ⟨g,k,none⟩=some (.int .i64 l[k]):=by
 obtain⟨g,cap,rfl,_,ha⟩:=h.1.form (by omega);refine⟨g,cap,rfl,ha,?_⟩
 have:=h.1.cells (g:=g) rfl k (.int .i64 l[k]) (by rw[dy,cz hk];rfl)
 rwa [show(⟨g,0,none⟩:Addr).add k=⟨g,k,none⟩ from by unfold Addr.add;split<;>simp_all] at this
theorem jX5 (cols:List Col)(items:List BA)(k:Nat)(h:k<items.length):(items.take (k+1)).map (Sq.find cols)=(items.take k).map (Sq.find cols)++[Sq.find cols items[k]]:=by
 rw[cI h,cR];rfl
theorem jZw (k:Nat):jDX (k+1)=jDX k++[(k:Int)]:=by unfold jDX;rw[List.range_succ,cR];rfl
theorem jYJ (cols:List Col)(cv:Value)(items:List BA)(iv:Value)(w:World)(h:aX w cv cols)(h2:jC3 w iv items) :
  Calls Tryz.prog 122 #[cv,iv] w fun e w'=>∃v,e=.returned v/\jEu w' v (jBr cols items)/\Below w.heap.size w w':=by
 obtain⟨i0,hi,hI,hJ,hK⟩:=cV Tryz.jD4;obtain⟨ao,cap,rfl⟩:=jQa h.1;obtain⟨bo,hE,rfl⟩:=jQa h2.1;have hl:=h.2;have hs:=h2.2;have H:=hd h;have H2:=hd h2;clear h h2;go_enter Tryz.func122,Tryz.ntmps122;go_wp2
 go_loopw [5,6] (fun v i wr=>∃k:Nat,k<=items.length/\i=.int .i64 k/\wr.ownsRow w.heap.size 3 1 v k (((items.take k).map (Sq.find cols)).map (Value.int .i64))/\Below w.heap.size w wr) (fun _ i _=>items.length-(intOf i).toNat)
 case atStart=>exact⟨0,zR,rfl,cu _ _ _ _,bR⟩
 case round =>
  obtain⟨k,hk,rfl,ht,hb⟩:=hrel;have hr:=hb.size
  by_cases hlt:k<items.length
  ·obtain⟨g,hF,hv,hg,c0⟩:=(H2.o.below hb).at k hlt;obtain⟨rfl,-,rfl⟩:=sI hv;have hj:=hd (jX5 cols items k hlt);have hf:Hid (Calls Tryz.prog 148 #[.slice ao cols.length cap,.string items[k]] wr fun e w'=>e=.returned (.int .i64 (Sq.find cols items[k]))/\w'=wr):=jFS cols _ _ wr (H.o.below hb).1 hl;obtain⟨fv,hA⟩:∃x,x=Sq.find cols items[k]:=⟨_,rfl⟩;obtain⟨nm,hB⟩:∃x,x=items[k]:=⟨_,rfl⟩;have he:=hf.o;rw[<-hA,<-hB] at he;rw[<-hB] at c0;have ha:=hd he;have hm:=hd hA;have HO:=hd (ht.alloc (.cells #[.int .i64 fv] 3));obtain⟨lo,hC,rfl⟩:=jQa ht;have i1:(k:Int)<(items.length:Int):=by omega
   have i2:¬((items.length:Int)<=(k:Int)):=by omega
   have i3:¬((k:Int)<0):=by omega
   have hp:=hd hb;clear hB ht hA he hf hb;go_wp2_with fail;refine ha.o.mono ?_;rintro e w2 ⟨rfl,hD⟩;rw[hD];clear hD w2;go_wp2_with (at_builtin;refine cT _ rfl (.tmp 13) (.tmp 20) 54 rfl w.heap.size 3 i0 _ 1 8 Tryz.underlying54 hi hI hJ hK rfl (by decide) _ k _ rfl HO.o ⟨wr.heap.size,0,none⟩ 1 1 [.int .i64 fv] rfl rfl (by exact jQN wr _ _ _ rfl rfl) (by intro u hu;simp at hu;subst hu;rfl) (by decide) (by unfold maxLen;omega) (by omega) (by simp;omega) _ rfl ?_;intro gg hG w3 hy hx hz hH;have ho:=hd hy;have hn:=hd hx;clear hy hx hz);have hc:Below w.heap.size w w3:=(cH (B:=w.heap.size) hp.o hr _).trans (Tch.aO hn.o (fun k hk=>(HO.o.lt k hk).1) (by simp;omega));go_roundw;exact⟨k+1,by omega,by go_num,by rw[hj.o,<-hm.o,cR];exact ho.o,hc⟩;simp[intOf];omega
  have hh:items.take k=items:=cL (by omega);have hq:Hid (k=items.length):=by show _=_;omega
  have i1:¬((k:Int)<(items.length:Int)):=by omega
  rw[hh] at ht;obtain⟨lo,hC,rfl⟩:=jQa ht;have HO:=hd ht;clear ht hh;go_wp2;go_ret;refine⟨_,rfl,⟨?_,by simp[jBr];omega⟩,hb⟩
  have:=HO.o
  rw[hq.o] at this ⊢;unfold jBr;rw[cF];exact jQj this zR
theorem qBb (n:Nat)(hn:n<=100000)(w:World) :
  Calls Tryz.prog 124 #[.int .i64 n] w fun e w'=>∃v,e=.returned v/\jEu w' v (jDX n)/\Below w.heap.size w w':=by
 obtain⟨i0,hi,hx,hy,hz⟩:=cV Tryz.jD4;go_enter Tryz.func124,Tryz.ntmps124;go_wp2
 go_loopw [3,4] (fun v i wr=>∃k:Nat,k<=n/\i=.int .i64 k/\wr.ownsRow w.heap.size 3 1 v k ((jDX k).map (Value.int .i64))/\Below w.heap.size w wr) (fun _ i _=>n-(intOf i).toNat)
 case atStart=>exact⟨0,zR,rfl,cu _ _ _ _,bR⟩
 case round =>
  obtain⟨k,hk,rfl,ho,hb⟩:=hrel;have hj:=hb.size
  by_cases hlt:k<n
  ·have hc:=hd (jZw k);have HO:=hd (ho.alloc (.cells #[.int .i64 k] 3));obtain⟨lo,hs,rfl⟩:=jQa ho;have i1:(k:Int)<(n:Int):=by omega
   have hg:=hd hb;clear ho hb;go_wp2_with (at_builtin;refine cT _ rfl (.tmp 10) (.tmp 12) 54 rfl w.heap.size 3 i0 _ 1 8 Tryz.underlying54 hi hx hy hz rfl (by decide) _ k _ rfl HO.o ⟨wr.heap.size,0,none⟩ 1 1 [.int .i64 k] rfl rfl (by exact jQN wr _ _ _ rfl rfl) (by intro u hu;simp at hu;subst hu;rfl) (by decide) (by unfold maxLen;omega) (by omega) (by simp;omega) _ rfl ?_;intro gg ht w3 hq hp hr hv;have hf:=hd hq;have he:=hd hp;clear hq hp hr);have ha:Below w.heap.size w w3:=(cH (B:=w.heap.size) hg.o hj _).trans (Tch.aO he.o (fun k hk=>(HO.o.lt k hk).1) (by simp;omega));go_roundw;exact⟨k+1,by omega,by go_num,by rw[hc.o,cR];exact hf.o,ha⟩;simp[intOf];omega
  have hh:k=n:=by omega
  subst hh;have i1:¬((k:Int)<(k:Int)):=by omega
  obtain⟨lo,hs,rfl⟩:=jQa ho;have HO:=hd ho;clear ho;go_wp2;go_ret;refine⟨_,rfl,⟨?_,by simp[jDX];omega⟩,hb⟩
  have:=HO.o
  rw[show(jDX k).length=k by simp[jDX]];exact jQj this zR
theorem Sq.jNT (row:List Val)(k:Int)(h:jD9 row):jFL (jBV row k):=by
 unfold jBV
 split
 ·exact jG8
 cases hx:row[k.toNat]? with
 | none=>exact jG8
 | some v=>exact h v (cA hx)
theorem Sq.jXi (row:List Val)(bc:List Int)(k:Nat)(h:k<bc.length):jFs (bc.take (k+1)) row=jFs (bc.take k) row+(jBV row bc[k]).number:=by
 unfold jFs;rw[cI h,cR,List.sum_append];simp
theorem Sq.jWH (bc:List Int)(rows:List (List Val))(k:Nat)(h:k<rows.length):jCx bc (rows.take (k+1))=jCx bc (rows.take k)+jFs bc rows[k]:=by
 unfold jCx;rw[cI h,cR,List.sum_append];simp
theorem jWn (k n:Int)(t:BA)(w:World):Sem.run Tryz.prog (Instr.field 208 (.agg #[.int .i64 k,.int .i64 n,.string t]) 1) w=.ok (.int .i64 n) w:=by
 simp[Instr.field,go_sem,Tryz.underlying208,asAgg]
theorem jYR (rows:List (List Val))(bc:List Int)(rv iv:Value)(w:World)(hr:aQ 0 w rv rows)(hs:jEu w iv bc)(hM:∀r∈rows,jD9 r)(hT:Tbl w)(hn:rows.length<=1000)(hm:bc.length<=1000) :
  Calls Tryz.prog 121 #[rv,iv] w fun e w'=>e=.returned (.string (Sq.itoa (jCx bc rows)++jGg))/\Below w.heap.size w w':=by
 obtain⟨ao,cap,rfl⟩:=hr.slice;obtain⟨bo,hS,rfl⟩:=jQa hs.1;have HR:=hd hr;have HS:=hd hs;have HT:=hd hT;have hz:=hd hM;clear hr hs hT hM;go_enter Tryz.func121,Tryz.ntmps121;go_wp2
 go_loopw [5,6] (fun t i wr=>∃k:Nat,∃T:Int,k<=rows.length/\i=.int .i64 k/\t=.int .i64 T/\Hid (T=jCx bc (rows.take k))/\-(100000000000000*(k:Int))<=T/\T<=100000000000000*(k:Int)/\Below w.heap.size w wr) (fun _ i _=>rows.length-(intOf i).toNat)
 case atStart=>exact⟨0,0,zR,rfl,rfl,rfl,by decide,by decide,bR⟩
 case round =>
  obtain⟨k,T,hk,rfl,rfl,hI,hX,hY,hb⟩:=hrel;obtain⟨wo,rfl⟩:∃wo:World,wo=wr:=⟨_,rfl⟩;have hw:=hb.size
  by_cases hlt:k<rows.length
  ·obtain⟨g,hO,ra,rc,hv,hg,c0,hE⟩:=(HR.o.below hb).at k hlt;obtain⟨rfl,-,rfl⟩:=sI hv;have ho:=hd (Sq.jWH bc rows k hlt);have hc:=hz.o rows[k] (cJ hlt);obtain⟨row,hN⟩:∃x,x=rows[k]:=⟨_,rfl⟩;have ha:=ho.o;rw[<-hN] at ha c0 hE hc;have hl:=hd ha;have hi:=hd hE;have hh:=hd hc;clear ha hE ho hN hc;go_wp2
   go_loopw [5,7] (fun t i wr=>∃j:Nat,∃S:Int,j<=bc.length/\i=.int .i64 j/\t=.int .i64 (T+S)/\Hid (S=jFs (bc.take j) row)/\-(100000000000*(j:Int))<=S/\S<=100000000000*(j:Int)/\Below wo.heap.size wo wr) (fun _ i _=>bc.length-(intOf i).toNat)
   case atStart=>exact⟨0,0,zR,rfl,by simp,rfl,by decide,by decide,bR⟩
   case round =>
    obtain⟨j,S,hj,rfl,rfl,hH,hV,hW,hF⟩:=hrel;have hp:Below w.heap.size w wr:=hb.trans (hF.mono hw);have hB:=hF.size;have hU:=((aD hF).1 g k hg).trans c0
    by_cases hjt:j<bc.length
    ·obtain⟨q,hJ,hv,hq,d0⟩:=(HS.o.below hp).at j hjt;obtain⟨rfl,-,rfl⟩:=sI hv;have ha:=Sq.jXi row bc j hjt;obtain⟨nm,hL⟩:∃x,x=bc[j]:=⟨_,rfl⟩;rw[<-hL] at ha d0;have hf:=Sq.jNT row nm hh.o;obtain⟨cx,hG⟩:∃x,x=jBV row nm:=⟨_,rfl⟩;rw[<-hG] at ha hf;have hy:=hd hG;have hA:=hd ha;obtain⟨ck,cn,ct⟩:=cx;obtain⟨hQ,hR,-⟩:=hf
     dsimp only at hQ hR
     have i1:(j:Int)<(bc.length:Int):=by omega
     have i2:¬((bc.length:Int)<=(j:Int)):=by omega
     have i3:¬((j:Int)<0):=by omega
     have i4:¬((rows.length:Int)<=(k:Int)):=by omega
     have i5:¬((k:Int)<0):=by omega
     clear ha hL hG;go_wp2
     go_region_with (go_at_call 165;refine(jI2 row _ nm _ ((hi.o.below hF).below (cB bR))).mono ?_;rintro e w2 ⟨rfl,hK⟩;rw[<-hy.o];unfold Val.cells;have hC:=jWn ck cn ct w2)
     all_goals
      have he:Below wr.heap.size wr w2:=(cB bR).trans hK;have hx:=hd (hF.trans (he.mono hB));clear hK he;go_wp2;go_roundw;exact⟨j+1,S+cn,by omega,by go_num,by go_num,by show _=_;rw[hA.o,<-hH.o],by omega,by omega,hx.o⟩;simp[intOf];omega
    have ht:bc.take j=bc:=cL (by omega);have HE:Hid (T+S=jCx bc (rows.take (k+1))):=by show _=_;rw[hl.o,<-hI.o,hH.o,ht]
    clear ht;go_wp2;go_roundw;exact⟨k+1,T+S,by omega,by go_num,rfl,HE,by omega,by omega,hp⟩;simp[intOf];omega
  have hu:rows.take k=rows:=cL (by omega);have HE:Hid (T=jCx bc rows):=by show _=_;rw[hI.o,hu]
  have hD:=jLA T (by omega) (by omega);clear hu;go_wp2_with fail;refine(jPd T _ (by omega) (by omega) (HT.o.below hb)).mono ?_;rintro e w1 ⟨rfl,hP⟩;go_wp2;go_ret;exact⟨by rw[<-HE.o];rfl,hb.trans (hP.mono hw)⟩
theorem Sq.jYe (l:List (List UInt8))(x:List UInt8):jEz (l++[x])=jEz l++((if l.isEmpty then[] else[44])++x):=by
 cases l with
 | nil=>simp[jEz]
 | cons y r=>simp[jEz]
theorem Sq.jWo (row:List Val)(items:List Int)(k:Nat)(h:k<items.length) :
  jA4 row (items.take (k+1))=jA4 row (items.take k)++((if k=0 then[] else[44])++(Sq.written (jBV row items[k])).data.toList):=by
 unfold jA4;rw[cI h,cR,List.map_singleton,Sq.jYe];cases k with
 | zero=>simp
 | succ k =>
  have:((items.take (k+1)).map fun n=>(Sq.written (jBV row n)).data.toList).isEmpty=false:=by
   cases items with
   | nil=>simp at h
   | cons a r=>rfl
  rw[this];simp
theorem Sq.jW0 (items:List Int)(rows:List (List Val))(k:Nat)(h:k<rows.length) :
  jBR items (rows.take (k+1))=jBR items (rows.take k)++(jA4 rows[k] items++[59]):=by
 unfold jBR;rw[cI h,cN];simp
theorem Sq.jPC (v:Val)(h:jFL v):(Sq.written v).data.toList.length<=1002:=by
 obtain⟨h0,h1,h2⟩:=h;unfold Sq.written
 split
 ·have e:(jEh++v.text++jEh).size=1+v.text.size+1:=by rw[cO,cO];rfl
  have e2:(jEh++v.text++jEh).data.toList.length=(jEh++v.text++jEh).size:=dj;omega
 have:=jLA v.number (by omega) (by omega)
 have e2:(Sq.itoa v.number).data.toList.length=(Sq.itoa v.number).size:=dj;omega
theorem Sq.jZc (l:List (List UInt8))(h:∀x∈l,x.length<=1002):(jEz l).length<=1003*l.length:=by
 cases l with
 | nil=>simp[jEz]
 | cons y r =>
  have hy:=h y (dh ..)
  have hr:∀q:List (List UInt8),(∀x∈q,x.length<=1002)->(q.flatMap fun y=>44::y).length<=1003*q.length:=by
   intro q
   induction q with
   | nil=>intro _;simp
   | cons z t ih =>
    intro hq
    have:=ih fun x hx=>hq x (cY _ hx)
    have hz:=hq z (dh ..);rw[cK,cg,cG,cG];omega
  have:=hr r fun x hx=>h x (cY _ hx)
  rw[jEz,cg,cG];omega
theorem Sq.jWQ (row:List Val)(items:List Int)(h:jD9 row):(jA4 row items).length<=1003*items.length:=by
 have:=Sq.jZc (items.map fun n=>(Sq.written (jBV row n)).data.toList) (by
  intro x hx;obtain⟨n,_,rfl⟩:=List.mem_map.1 hx;exact Sq.jPC _ (Sq.jNT row n h))
 simpa[jA4] using this
theorem jRx (rows:List (List Val))(items:List Int)(rv iv:Value)(w:World)(hr:aQ 0 w rv rows)(hs:jEu w iv items)(HL:∀r∈rows,jD9 r)(hT:Tbl w)(hn:rows.length<=1000)(hm:items.length<=1000) :
  Calls Tryz.prog 123 #[rv,iv] w fun e w'=>e=.returned (.string ⟨(jBR items rows).toArray⟩)/\Below w.heap.size w w':=by
 obtain⟨i0,hi,HW,HX,HY⟩:=cV Tryz.jGj;obtain⟨ao,cap,rfl⟩:=hr.slice;obtain⟨bo,HQ,rfl⟩:=jQa hs.1;have HR:=hd hr;have HS:=hd hs;have HT:=hd hT;have Hc:=hd HL;clear hr hs hT HL;go_enter Tryz.func123,Tryz.ntmps123;go_wp2
 go_loopw [5,6] (fun v i wr=>∃k:Nat,∃l:List UInt8,k<=rows.length/\i=.int .i64 k/\jBm w.heap.size wr v l/\Hid (l=jBR items (rows.take k))/\l.length<=1010000*k/\Below w.heap.size w wr) (fun _ i _=>rows.length-(intOf i).toNat)
 case atStart=>exact⟨0,[],zR,rfl,cu _ _ _ _,rfl,by decide,bR⟩
 case round =>
  obtain⟨k,l,hk,rfl,Hr,HK,HU,hb⟩:=hrel;obtain⟨wo,rfl⟩:∃wo:World,wo=wr:=⟨_,rfl⟩;have Hj:=hb.size;have HB:=hd hb;have hN:=hd Hr;obtain⟨vo,HP,rfl⟩:=Hr.slice;clear hb Hr
  by_cases hlt:k<rows.length
  ·have h5:=hd (Sq.jW0 items rows k hlt);have hK:=Hc.o rows[k] (cJ hlt);obtain⟨row,HJ⟩:∃x,x=rows[k]:=⟨_,rfl⟩;have hu:=h5.o;rw[<-HJ] at hu hK;have hX:=hd hu;have h4:=hd HJ;have hP:=hd hK;clear hu h5 HJ hK;go_wp2
   go_loopw [5,7] (fun v i wr=>∃j:Nat,∃m:List UInt8,j<=items.length/\i=.int .i64 j/\jBm w.heap.size wr v (l++m)/\Hid (m=jA4 row (items.take j))/\m.length<=1003*j/\Below w.heap.size w wr) (fun _ i _=>items.length-(intOf i).toNat)
   case atStart=>exact⟨0,[],zR,rfl,by rw[cW];exact hN.o,rfl,by decide,HB.o⟩
   case round =>
    obtain⟨j,m,hj,rfl,Hp,Hz,HV,HD⟩:=hrel;obtain⟨HM,Hw,rfl⟩:=Hp.slice;have Hb:=HD.size;have hY:(l++m).length<=1010000*k+1003*j:=by rw[cg];omega
    have hL:=hd HD;have hc:=hd Hp;clear HD Hp
    by_cases hjt:j<items.length
    ·have hu:=Sq.jWo row items j hjt;obtain⟨nm,HI⟩:∃x,x=items[j]:=⟨_,rfl⟩;rw[<-HI] at hu;have hA:=Sq.jNT row nm hP.o;obtain⟨cx,HH⟩:∃x,x=jBV row nm:=⟨_,rfl⟩;rw[<-HH] at hu hA;have Ha:=Sq.jPC cx hA;have hS:=hd HH;have h3:=hd HI;have hO:=hd hA;have h6:=hd Ha;clear HI HH hA Ha;have h2:Hid ((jA4 row (items.take (j+1))).length<=1003*(j+1)):=cm (Sq.jWQ row _ hP.o) (Nat.mul_le_mul_left _ (dW _ _))
     by_cases hj0:j=0
     ·obtain⟨wa,Hy⟩:∃wa:World,wa=wr:=⟨_,rfl⟩;have hp:Hid (Below w.heap.size w wa):=by rw[Hy];exact hL.o
      obtain⟨lm,Hk⟩:∃x,x=l++m:=⟨_,rfl⟩;have hl:Hid (jBm w.heap.size wa (.slice HM lm.length Hw) lm):=by rw[Hy,Hk];exact hc.o
      have Hf:lm.length<=1010000*k+1003*j+1:=by rw[Hk];omega
      have HN:Hid (lm++(Sq.written cx).data.toList=l++jA4 row (items.take (j+1))):=by show _=_;rw[hu,<-Hz.o,cE hj0,Hk];simp
      rw[<-Hy];rw[<-Hk];have Hd:¬(0:Int)<(j:Int):=by omega
      clear hu Hy Hk hL hc hY hj0;obtain⟨g,HA,ra,rc,hv,hg,c0,Hn⟩:=(HR.o.below hp.o).at k hlt;obtain⟨rfl,-,rfl⟩:=sI hv;obtain⟨q,Ht,hv,hq,d0⟩:=(HS.o.below hp.o).at j hjt;obtain⟨rfl,-,rfl⟩:=sI hv;rw[<-h3.o] at d0;rw[<-h4.o] at c0 Hn;have ho:=hd Hn;clear Hn;have hQ:=hp.o.size;obtain⟨ck,cn,ct⟩:=cx
      try go_wp2
      go_region_with (go_at_call 165;first | (refine(jI2 row _ nm wa.drew (ho.o.below (cB bR))).mono ?_;rintro e w2 ⟨rfl,Hm⟩;rw[<-hS.o];unfold Val.cells;have hf:Below wa.heap.size wa w2:=(cB bR).trans Hm;clear Hm) | (refine(jI2 row _ nm (wa.drew.alloc _) (ho.o.below (cH (B:=wa.heap.size) (cB bR) nR _))).mono ?_;rintro e w2 ⟨rfl,Hm⟩;rw[<-hS.o];unfold Val.cells;obtain⟨k1,k2⟩:=aD Hm;have a0:=k1 wa.heap.size 0 (by simp);have a1:=k1 wa.heap.size 1 (by simp);have a2:=k1 wa.heap.size 2 (by simp);have b0:=k2 wa.heap.size 0 (by simp);have b1:=k2 wa.heap.size 1 (by simp);have b2:=k2 wa.heap.size 2 (by simp);simp[go_sem] at a0 a1 a2 b0 b1 b2;have hz:wa.heap.size<w2.heap.size:=(by have:=Hm.size;simp at this;omega);have hf:Below wa.heap.size wa w2:=(cH (B:=wa.heap.size) (cB bR) nR _).trans (Hm.mono (by simp));clear Hm k1 k2))
      all_goals
       have hR:=hf.size;have hG:=h6.o;have HC:=hO.o;obtain⟨HF,HG,Hv⟩:=HC
       dsimp only at HF HG Hv
       have hw:=hd hf;clear hf;go_wp2_with fail;refine(jRr ⟨ck,cn,ct⟩ _ (by show _<=cn;omega) (by show cn<=_;omega) Hv (HT.o.below (hp.o.trans (cS (B:=wa.heap.size) (by first | exact cH (B:=wa.heap.size) hw.o hR _ | exact cj (B:=wa.heap.size) (cj (B:=wa.heap.size) (cj (B:=wa.heap.size) hw.o nR _) nR _) nR _) hQ)))).mono ?_;rintro e w4 ⟨rfl,Hu⟩;have hy:Below wa.heap.size wa w4:=ed (by first | exact cH (B:=wa.heap.size) hw.o hR _ | exact cj (B:=wa.heap.size) (cj (B:=wa.heap.size) (cj (B:=wa.heap.size) hw.o nR _) nR _) nR _) (Hu.mono (by simp;omega));have hW:=hd (hl.o.below hy);have Hh:=hy.size;have hU:=hd (hp.o.trans (hy.mono hQ));obtain⟨wt,Hq⟩:∃x,x=Sq.written ⟨ck,cn,ct⟩:=⟨_,rfl⟩;have Hg:wt.size<=1002:=by rw[Hq];have e2:(Sq.written ⟨ck,cn,ct⟩).data.toList.length=(Sq.written ⟨ck,cn,ct⟩).size:=dj;omega
       rw[<-Hq];have hn:=HN.o;rw[<-Hq] at hn;have hD:=hd hn;clear hn Hq hy Hu hG;have h0:lm.length+wt.size<=100000000000:=by omega
       go_wp2_with (at_builtin;refine jO2 rfl (.tmp 35) (.tmp 37) rfl w.heap.size _ lm rfl hW.o wt rfl h0 (by omega) ?_;intro v5 w5 ha Ho;have hh:=hd ha;have hC:=hd Ho;clear ha Ho);have hI:Below w.heap.size w w5:=hU.o.trans hC.o;have ha:=hh.o;have He:=hD.o;have hZ:(jA4 row (items.take (j+1))).length<=1003*(j+1):=h2.o;go_roundw;exact⟨j+1,jA4 row (items.take (j+1)),by omega,by go_num,by rw[<-hD.o];exact ha,rfl,hZ,hI⟩;simp[intOf];omega
     have hM:=hd (hc.o.below ((bR).alloc nR (.cells #[.int .u8 44] 5)));have HN:Hid ((l++m++[44])++(Sq.written cx).data.toList=l++jA4 row (items.take (j+1))):=by show _=_;rw[hu,<-Hz.o,cy hj0];simp
     have Hd:(0:Int)<(j:Int):=by omega
     have hE:=hd (cH (B:=w.heap.size) hL.o Hb (.cells #[.int .u8 44] 5));have ht:(l++m).length+1<=100000000000:=by omega
     have hB:(l++m++[44]).length<=1010000*k+1003*j+1:=by rw[cg,dc];omega
     obtain⟨Hs,Hl⟩:∃x,x=l++m:=⟨_,rfl⟩;rw[<-Hl] at ht hB;have hH:=hM.o;have hJ:=HN.o;rw[<-Hl] at hH hJ;rw[<-Hl];have hx:=hd hH;have hD:=hd hJ;clear hu hY hj0 hH hJ hM HN Hl hc hL;have HN:=hd hD.o;obtain⟨lm,Hk⟩:∃x,x=Hs++[44]:=⟨_,rfl⟩;have hJ:=HN.o;rw[<-Hk] at hJ hB;clear HN;have HN:=hd hJ;have Hf:=hB;have hF:=hd Hk;clear Hk hJ hB hD;go_wp2_with (at_builtin;refine jKG rfl (.tmp 23) (.tmp 24) rfl w.heap.size _ Hs rfl hx.o 44 ⟨wr.heap.size,0,none⟩ 1 rfl (by simp[go_sem]) ht (by simp;omega) ?_;intro v5 wa ha Ho;rw[<-hF.o] at ha;obtain⟨HO,Hx,rfl⟩:=ha.slice;have hl:=hd ha;have hC:=hd Ho;clear ha Ho);have hp:Hid (Below w.heap.size w wa):=hE.o.trans hC.o;clear hC hx;obtain⟨g,HA,ra,rc,hv,hg,c0,Hn⟩:=(HR.o.below hp.o).at k hlt;obtain⟨rfl,-,rfl⟩:=sI hv;obtain⟨q,Ht,hv,hq,d0⟩:=(HS.o.below hp.o).at j hjt;obtain⟨rfl,-,rfl⟩:=sI hv;rw[<-h3.o] at d0;rw[<-h4.o] at c0 Hn;have ho:=hd Hn;clear Hn;have hQ:=hp.o.size;obtain⟨ck,cn,ct⟩:=cx
     try go_wp2
     go_region_with (go_at_call 165;first | (refine(jI2 row _ nm wa.drew (ho.o.below (cB bR))).mono ?_;rintro e w2 ⟨rfl,Hm⟩;rw[<-hS.o];unfold Val.cells;have hf:Below wa.heap.size wa w2:=(cB bR).trans Hm;clear Hm) | (refine(jI2 row _ nm (wa.drew.alloc _) (ho.o.below (cH (B:=wa.heap.size) (cB bR) nR _))).mono ?_;rintro e w2 ⟨rfl,Hm⟩;rw[<-hS.o];unfold Val.cells;obtain⟨k1,k2⟩:=aD Hm;have a0:=k1 wa.heap.size 0 (by simp);have a1:=k1 wa.heap.size 1 (by simp);have a2:=k1 wa.heap.size 2 (by simp);have b0:=k2 wa.heap.size 0 (by simp);have b1:=k2 wa.heap.size 1 (by simp);have b2:=k2 wa.heap.size 2 (by simp);simp[go_sem] at a0 a1 a2 b0 b1 b2;have hz:wa.heap.size<w2.heap.size:=(by have:=Hm.size;simp at this;omega);have hf:Below wa.heap.size wa w2:=(cH (B:=wa.heap.size) (cB bR) nR _).trans (Hm.mono (by simp));clear Hm k1 k2))
     all_goals
      have hR:=hf.size;have hG:=h6.o;have HC:=hO.o;obtain⟨HF,HG,Hv⟩:=HC
      dsimp only at HF HG Hv
      have hw:=hd hf;clear hf;go_wp2_with fail;refine(jRr ⟨ck,cn,ct⟩ _ (by show _<=cn;omega) (by show cn<=_;omega) Hv (HT.o.below (hp.o.trans (cS (B:=wa.heap.size) (by first | exact cH (B:=wa.heap.size) hw.o hR _ | exact cj (B:=wa.heap.size) (cj (B:=wa.heap.size) (cj (B:=wa.heap.size) hw.o nR _) nR _) nR _) hQ)))).mono ?_;rintro e w4 ⟨rfl,Hu⟩;have hy:Below wa.heap.size wa w4:=ed (by first | exact cH (B:=wa.heap.size) hw.o hR _ | exact cj (B:=wa.heap.size) (cj (B:=wa.heap.size) (cj (B:=wa.heap.size) hw.o nR _) nR _) nR _) (Hu.mono (by simp;omega));have hW:=hd (hl.o.below hy);have Hh:=hy.size;have hU:=hd (hp.o.trans (hy.mono hQ));obtain⟨wt,Hq⟩:∃x,x=Sq.written ⟨ck,cn,ct⟩:=⟨_,rfl⟩;have Hg:wt.size<=1002:=by rw[Hq];have e2:(Sq.written ⟨ck,cn,ct⟩).data.toList.length=(Sq.written ⟨ck,cn,ct⟩).size:=dj;omega
      rw[<-Hq];have hn:=HN.o;rw[<-Hq] at hn;have hD:=hd hn;clear hn Hq hy Hu hG;have h0:lm.length+wt.size<=100000000000:=by omega
      go_wp2_with (at_builtin;refine jO2 rfl (.tmp 35) (.tmp 37) rfl w.heap.size _ lm rfl hW.o wt rfl h0 (by omega) ?_;intro v5 w5 ha Ho;have hh:=hd ha;have hC:=hd Ho;clear ha Ho);have hI:Below w.heap.size w w5:=hU.o.trans hC.o;have ha:=hh.o;have He:=hD.o;have hZ:(jA4 row (items.take (j+1))).length<=1003*(j+1):=h2.o;go_roundw;exact⟨j+1,jA4 row (items.take (j+1)),by omega,by go_num,by rw[<-hD.o];exact ha,rfl,hZ,hI⟩;simp[intOf];omega
    have h7:items.take j=items:=cL (by omega);have HE:Hid ((l++m)++[59]=jBR items (rows.take (k+1))):=by show _=_;rw[hX.o,<-HK.o,Hz.o,h7];simp
    have hM:=hd (hc.o.below ((bR).alloc nR (.cells #[.int .u8 59] 5)));have hE:=hd (cH (B:=w.heap.size) hL.o Hb (.cells #[.int .u8 59] 5));have ht:(l++m).length+1<=100000000000:=by omega
    clear h7;obtain⟨Hs,Hl⟩:∃x,x=l++m:=⟨_,rfl⟩;rw[<-Hl] at ht hY;have hH:=hM.o;have he:=HE.o;rw[<-Hl] at hH he;rw[<-Hl];have hx:=hd hH;have h1:=hd he;clear hH hM HE Hl hc hL he;obtain⟨lm,Hk⟩:∃x,x=Hs++[59]:=⟨_,rfl⟩;have he:=h1.o;have h9:lm.length=Hs.length+1:=by rw[Hk];simp
    rw[<-Hk] at he;have HE:=hd he;have hF:=hd Hk;have hV:=hd h9;clear Hk he h1 h9;go_wp2_with (at_builtin;refine jKG rfl (.tmp 39) (.tmp 40) rfl w.heap.size _ Hs rfl hx.o 59 ⟨wr.heap.size,0,none⟩ 1 rfl (by simp[go_sem]) ht (by simp;omega) ?_;intro v5 wa ha Ho;rw[<-hF.o] at ha;obtain⟨HO,Hx,rfl⟩:=ha.slice;have hh:=hd ha;have hC:=hd Ho;clear ha Ho);go_roundw;exact⟨k+1,lm,by omega,by go_num,hh.o,HE,by rw[hV.o];omega,hE.o.trans hC.o⟩;simp[intOf];omega
  have h8:rows.take k=rows:=cL (by omega);have HE:Hid (l=jBR items rows):=by show _=_;rw[HK.o,h8]
  have Hi:=jNo wo _ l _ hN.o;clear h8;go_wp2;go_ret;exact⟨by rw[<-HE.o];rfl,HB.o⟩
theorem qAZ (cols:List Col)(rows:List (List Val))(cv rv:Value)(st:Sq.PSt)(r:Rw)(w:World)(hc:aX w cv cols)(hr:aQ 0 w rv rows)(hs:jDw w st r)(hT:Tbl w)(hB:∀r∈rows,jD9 r)(hn:rows.length<=1000)(hH:cols.length<=1000)(hi:st.items.length<=1000) :
  Calls Tryz.prog 79 #[cv,rv,.agg (jAF st r)] w fun e w'=>e=.returned (.string (jEN cols rows st))/\Below w.heap.size w w':=by
 obtain⟨hJ,hN,hM,hK,hO⟩:=r;obtain⟨q5,c5,hz⟩:=jQa hs.cols.1;obtain⟨q6,c6,hD⟩:=jQa hs.ax;obtain⟨q7,c7,hC⟩:=jQa hs.ak.1;obtain⟨q9,c9,hA⟩:=jQa hs.items.1;obtain⟨hL,hI,hE⟩:=jQa hs.aq
 dsimp only at hz hD hC hA hE
 subst hz hD hC hA hE;obtain⟨q1,c1,rfl⟩:=jQa hc.1;obtain⟨q2,c2,rfl⟩:=hr.slice;unfold jAF;have hp:(jBr cols st.items).length<=1000:=by unfold jBr;rw[cF];exact hi
 have ht:(jDX cols.length).length<=1000:=by unfold jDX;rw[cF,List.length_range];exact hH
 have hm:=jYJ cols (.slice q1 cols.length c1) st.items (.slice q9 st.items.length c9);have ho:=qBb cols.length (by omega)
 have hb:Hid (jEN cols rows st=if st.shw==2 then jAH rows.length
  else if st.shw==3 then Sq.itoa (jCx (jBr cols st.items) rows)++jGg
  else if st.shw==1 then⟨(jBR (jDX cols.length) rows).toArray⟩
  else⟨(jBR (jBr cols st.items) rows).toArray⟩):=rfl
 have hl:=hb.o;clear hb;generalize jBr cols st.items=pl at *;generalize jDX cols.length=up at *;have hb:=hd hl;have hk:=hd hm;have hq:=hd ho;clear hl hm ho;have hW:∀o,Below w.heap.size w (w.alloc o):=fun o=>bA
 have HW:=hd hW;have HC:=hd hc;have hj:=hd hr;have HS:=hd hs;have HT:=hd hT;have hf:=hd hB;clear hW hc hr hs hT hB;cases h2:st.shw==2
 case true =>
  have he:Hid (jEN cols rows st=jAH rows.length):=by show _=_;rw[hb.o,h2];rfl
  go_enter Tryz.func79,Tryz.ntmps79;go_wp2_with fail;refine(jII rows.length _ (by omega) (by omega) (HT.o.below (HW.o _))).mono ?_;rintro e w2 ⟨rfl,hx⟩;go_wp2;go_ret;exact⟨by rw[he.o];rfl,(HW.o _).trans (hx.mono (by simp))⟩
 cases h3:st.shw==3
 case true =>
  have he:Hid (jEN cols rows st=Sq.itoa (jCx pl rows)++jGg):=by show _=_;rw[hb.o,h2,h3];rfl
  go_enter Tryz.func79,Tryz.ntmps79;go_wp2_with fail;refine(hk.o _ (HC.o.below (HW.o _)) (HS.o.items.below (HW.o _))).mono ?_;rintro e w2 ⟨v2,rfl,hv,hx⟩;obtain⟨hG,hF,rfl⟩:=jQa hv.1;have hg:=hd hv;have ha:=hd ((HW.o _).trans (hx.mono (by simp)));have hh:=ha.o.size;clear hv hx;go_wp2_with fail;refine(jYR rows pl _ _ _ (hj.o.below ha.o) hg.o hf.o (HT.o.below ha.o) (by omega) hp).mono ?_;rintro e w3 ⟨rfl,hy⟩;go_wp2;go_ret;exact⟨by rw[he.o];rfl,ha.o.trans (hy.mono hh)⟩
 cases h1:st.shw==1
 case false =>
  have he:Hid (jEN cols rows st=⟨(jBR pl rows).toArray⟩):=by show _=_;rw[hb.o,h2,h3,h1];rfl
  go_enter Tryz.func79,Tryz.ntmps79;go_wp2_with fail;refine(hk.o _ (HC.o.below (HW.o _)) (HS.o.items.below (HW.o _))).mono ?_;rintro e w2 ⟨v2,rfl,hv,hx⟩;obtain⟨hG,hF,rfl⟩:=jQa hv.1;have hg:=hd hv;have ha:=hd ((HW.o _).trans (hx.mono (by simp)));have hh:=ha.o.size;clear hv hx;go_wp2_with fail;refine(jRx rows pl _ _ _ (hj.o.below ha.o) hg.o hf.o (HT.o.below ha.o) (by omega) hp).mono ?_;rintro e w3 ⟨rfl,hy⟩;go_wp2;go_ret;exact⟨by rw[he.o];rfl,ha.o.trans (hy.mono hh)⟩
 case true =>
  have he:Hid (jEN cols rows st=⟨(jBR up rows).toArray⟩):=by show _=_;rw[hb.o,h2,h3,h1];rfl
  go_enter Tryz.func79,Tryz.ntmps79;go_wp2_with fail;refine(hq.o _).mono ?_;rintro e w2 ⟨v2,rfl,hv,hx⟩;obtain⟨hG,hF,rfl⟩:=jQa hv.1;have hg:=hd hv;have ha:=hd ((HW.o _).trans (hx.mono (by simp)));have hh:=ha.o.size;clear hv hx;go_wp2_with fail;refine(jRx rows up _ _ _ (hj.o.below ha.o) hg.o hf.o (HT.o.below ha.o) (by omega) ht).mono ?_;rintro e w3 ⟨rfl,hy⟩;go_wp2;go_ret;exact⟨by rw[he.o];rfl,ha.o.trans (hy.mono hh)⟩
def jGG (s:bS):List Value:=[.int .i64 s.yes.lo,.int .i64 s.yes.hi,.int .i64 s.no.lo,.int .i64 s.no.hi]
structure SP (A:Nat->Prop)(pb:Nat)(w:World)(l:List bS):Prop where
 row:∃v,w.heap[pb]?=some (.cells #[v] 222)/\w.ownsRow (pb+1) 224 4 v l.length (l.flatMap jGG)/\∀q,v.ownBlock=some q->¬A q
 few:l.length<=100000
variable {A:Nat->Prop}
theorem SP.lt {l:List bS}(h:SP A pb w l):pb<w.heap.size:=by obtain⟨v,h1,_⟩:=h.row;exact jQe h1
theorem SP.below {l:List bS}(h:SP A pb w l)(hb:Below w.heap.size w w'):SP A pb w' l:=by
 have ha:=h.lt;obtain⟨v,h1,h2,h3⟩:=h.row;exact⟨⟨v,by rw[hb.block pb ha];exact h1,jQh h2 hb,h3⟩,h.few⟩
theorem SP.less {l:List bS}{A':Nat->Prop}(h:SP A pb w l)(hA:∀q,A' q->A q):SP A' pb w l:=by
 obtain⟨v,h1,h2,h3⟩:=h.row;exact⟨⟨v,h1,h2,fun q hq hz=>h3 q hq (hA q hz)⟩,h.few⟩
theorem SP.more {l:List bS}(h:SP A pb w l)(hb:w.heap.size<=b):SP (fun q=>A q\/q=b) pb w l:=by
 obtain⟨v,h1,h2,h3⟩:=h.row;refine⟨⟨v,h1,h2,fun q hq hz=>?_⟩,h.few⟩;rcases hz with hz | hz
 ·exact h3 q hq hz
 have:=(World.ownsRow.lt h2 q hq).2
 omega
theorem Tryz.jIB:(Tryz.prog.info? 224).map (fun i=>(i.zero,i.size,i.bytes))=some (some (.agg #[.int .i64 0,.int .i64 0,.int .i64 0,.int .i64 0]),4,32):=by kernel_rfl
theorem jLx {l:List bS}(s:bS)(h:SP A pb w l)(hn:l.length+1<=100000)(hA:∀q,A q->q<w.heap.size) :
  Calls Tryz.prog 155 #[.pointer (some ⟨pb,0,none⟩),.agg (jAy s)] w fun e w'=>e=.returned (.tuple #[])/\SP A pb w' (l++[s])/\Below pb w w'/\∀q,A q->q≠pb->w'.heap[q]?=w.heap[q]?:=by
 obtain⟨i0,hi,hH,hI,hm⟩:=cV Tryz.jIB;obtain⟨⟨yl,yh⟩,⟨nl,nh⟩⟩:=s;unfold jAy;simp only;obtain⟨w2,hD⟩:∃w2,w2=w.alloc (.cells #[.int .i64 yl,.int .i64 yh,.int .i64 nl,.int .i64 nh] 224):=⟨_,rfl⟩;have hf:Below w.heap.size w w2:=by rw[hD];exact bA
 have hk:w2.heap[w.heap.size]?=some (.cells #[.int .i64 yl,.int .i64 yh,.int .i64 nl,.int .i64 nh] 224):=by rw[hD];exact jQi _ _
 have ht:=h.lt;have h2:=h.below hf;obtain⟨v,hb,hB,hE⟩:=h2.row;have hh:=hd hE;have HA:=hd hA;clear hE hA;obtain⟨ao,hx,rfl⟩:=jQa hB;have hg:=jQe hb;obtain⟨⟨s0,s1,s2,s3⟩,-,hJ⟩:=jQH hk;have c1:w2.cell? ⟨pb,0,none⟩=some (.slice ao l.length hx):=by rw[jQb hb];rfl
 have he:Below w2.heap.size w2 (w2.alloc (.cells #[.int .i64 yl,.int .i64 yh,.int .i64 nl,.int .i64 nh] 224)).drew:=cB (bA);have HO:=hd (jQh hB he);have HB:Hid ((w2.alloc (.cells #[.int .i64 yl,.int .i64 yh,.int .i64 nl,.int .i64 nh] 224)).drew.heap[pb]?=some (.cells #[.slice ao l.length hx] 222)):=(he.block pb hg).trans hb;have hl:=hd he;have hc:=hd hf;clear hb hB he h h2 hf hk;go_enter Tryz.func155,Tryz.ntmps155;go_wp2;rw[<-hD];clear hD
 go_region_law (first
  | (go_loud (refine dV _ rfl (.tmp 8) (.tmp 10) 220 rfl (pb+1) 224 i0 _ 4 32 Tryz.underlying220 hi hH hI hm rfl (by decide) (.slice ao l.length hx) l.length (l.flatMap jGG) (by simp[Act.eval,Act.put]) HO.o ⟨w2.heap.size,0,none⟩ 1 1 (jGG ⟨⟨yl,yh⟩,⟨nl,nh⟩⟩) (by simp[Act.eval,Act.put]) rfl (by exact jQN w2 _ _ _ rfl rfl) (by intro u hu;simp[jGG] at hu;rcases hu with rfl | rfl | rfl | rfl<;>rfl) (by decide) (by unfold maxLen;omega) (by omega) (by simp;omega) _ rfl ?_);intro g cap w3 hy hv hC hF;have ha:=(hv.block pb (by simp;omega) (fun e=>jQm HO.o HB.o (by decide) e.symm)).trans HB.o;have k0:w3.cell? ⟨pb,0,none⟩=some (.slice ao l.length hx):=(by rw[jQb ha];rfl);have f0:=jQd ha 0;have hs:=jQe ha;have hr:=hd hy;have HG:=hd hv;have hj:=hd ha;have hp:=hd hC;clear hy hv hC ha))
 all_goals(try go_wp2)
 all_goals
  go_end0;refine⟨rfl,⟨⟨.slice (some ⟨g,0,none⟩) (l.length+1) cap,by rw[jQf hj.o];rfl,?_,fun q hq hz=>?_⟩,by simpa using hn⟩,?_,fun q hq hG=>?_⟩
  ·have:=hr.o
   rw[cg,dc,cN];exact jQp (by simpa using this) fun k hk=>jQg (fun e=>jQm this hj.o (by decide) (by rw[hk,e]))
  ·have e1:g=q:=by simpa[Value.ownBlock] using hq
   have ho:=HA.o q hz;rcases hp.o with hC | hC
   ·exact hh.o q (by rw[hC,e1]) hz
   have:=hc.o.size
   simp at hC;omega
  ·refine cj (B:=pb) (ed (hc.o.mono (by omega)) (ed (cS (B':=pb) hl.o (by omega)) (Tch.aO HG.o (fun k hk=>?_) (by simp;omega)))) nR _;exact dC (HO.o.lt k hk).1
  have ho:=HA.o q hq;have hm:=hc.o.size;rw[jQg hG,HG.o.block q (by simp;omega) (fun e=>hh.o q e.symm hq),hl.o.block q (by omega)];exact hc.o.block q ho
theorem jN0 {l:List bS}(h:SP A pb w l) :
  Calls Tryz.prog 157 #[.pointer (some ⟨pb,0,none⟩)] w fun e w'=>e=.returned (.agg (jAy (jD2 l)))/\SP A pb w' l.dropLast/\Below pb w w'/\∀q,q<w.heap.size->q≠pb->w'.heap[q]?=w.heap[q]?:=by
 have hC:=h.lt;have ho:=h.few;obtain⟨W,hR⟩:∃W,W=w.alloc (.cells #[.int .i64 0,.int .i64 0,.int .i64 0,.int .i64 0] 224):=⟨_,rfl⟩;have hl:Below w.heap.size w W:=by rw[hR];exact bA
 have hk:W.heap[w.heap.size]?=some (.cells #[.int .i64 0,.int .i64 0,.int .i64 0,.int .i64 0] 224):=by rw[hR];exact jQi _ _
 have hP:=h.below hl;obtain⟨v,hT,hQ,hV⟩:=h.row;have hx:=hd hV;clear hV;have hb:W.heap[pb]?=some (.cells #[v] 222):=(hl.block pb hC).trans hT;have ha:=jQh hQ hl;have hs:=hd hQ;have hf:=hd hT;have hB:=hd hP;have hA:=hd hl;have HK:=hd hk;have hF:=jQe hk;have hK:=jQe hb;have hD:W.heap.size=w.heap.size+1:=by rw[hR];simp
 have hH:=hd hD;clear h hl hk hP hD hT hQ;rcases List.eq_nil_or_concat l with rfl | ⟨l',s,rfl⟩
 ·have hv:v=.slice none 0 0\/∃g cap,v=.slice (some ⟨g,0,none⟩) 0 cap:=by
   rcases ha.2 with⟨h1,_⟩ | ⟨g,cap,_,h1,_⟩
   ·exact Or.inl h1
   exact Or.inr ⟨g,cap,h1⟩
  have c0:w.cell? ⟨pb,0,none⟩=some v:=by rw[jQb hf.o];rfl
  clear ha hb;rcases hv with rfl | ⟨g,cap,rfl⟩
  all_goals
   go_enter Tryz.func157,Tryz.ntmps157;go_wp2_with fail;rw[<-hR];clear hR;refine(jG1 W).mono ?_;rintro e w1 ⟨rfl,hj⟩;have hy:=hd hj;clear hj;go_wp2_with fail;refine(jG1 w1).mono ?_;rintro e w2 ⟨rfl,hi⟩;have ht:=hy.o.trans (hi.mono hy.o.size);have hw:=(ht.block _ hF).trans HK.o;obtain⟨⟨j0,j1,j2,j3⟩,⟨l0,l1,l2,l3⟩,j4⟩:=jQH hw;have hL:=hd hw;have hM:=hd (hB.o.below ht);have hr:=hd (hA.o.trans (ht.mono (by omega)));clear hi ht hw;unfold jAh jAG;go_wp2;refine cp (v:=.agg (jAy jA8)) (by simp[results,Tryz.results157,go_sem,jAy,jA8,jAG, *]) rfl ⟨rfl,?_,?_,fun q hq hY=>?_⟩
   ·refine⟨⟨_,?_,jQp hs.o fun k hk=>?_,hx.o⟩,zR⟩
    ·rw[jQg (by omega),jQg (by omega),jQg (by omega),jQg (by omega),hr.o.block pb hC];exact hf.o
    have hI:=(World.ownsRow.lt hs.o k hk).2;rw[jQg (by omega),jQg (by omega),jQg (by omega),jQg (by omega)];exact hr.o.block k hI
   ·repeat (first | exact(hr.o.mono (by omega)) | refine cj (B:=pb) ?_ (by simp<;>omega) _)
   rw[jQg (by omega),jQg (by omega),jQg (by omega),jQg (by omega)];exact hr.o.block q hq
 rw[List.concat_eq_append] at ha ho hs;rw[List.concat_eq_append];have hp:(l'++[s]).length=l'.length+1:=by simp
 clear ha hb;have ha:=hs.o;have hb:=hf.o;obtain⟨g,cap,rfl,h3,h4⟩:=ha.form (by rw[hp];omega);have he:=ha;rw[hp] at ha hb ho;have hE:jD2 (l'++[s])=s:=by simp[jD2]
 rw[hE];have c0:w.cell? ⟨pb,0,none⟩=some (.slice (some ⟨g,0,none⟩) (l'.length+1) cap):=by rw[jQb hb];rfl
 have f0:=jQd hb 0;obtain⟨g',hS,hZ,h0,hO⟩:=jCc (f:=jGG) (fun _=>rfl) he l'.length (by rw[hp];omega);simp only[Value.slice.injEq,Option.some.injEq,Addr.mk.injEq] at hZ;obtain⟨⟨rfl,-,-⟩,-,rfl⟩:=hZ;have hc:(l'++[s])[l'.length]'(by rw[hp];omega)=s:=by simp
 rw[hc] at hO;obtain⟨⟨yl,yh⟩,⟨nl,nh⟩⟩:=s;have m0:=hO 0 (.int .i64 yl) (by decide) rfl;have m1:=hO 1 (.int .i64 yh) (by decide) rfl;have m2:=hO 2 (.int .i64 nl) (by decide) rfl;have m3:=hO 3 (.int .i64 nh) (by decide) rfl;simp only[dB] at m0
 have hu:l'.length+1<=cap/\cap<=9223372036854775807:=by
  rcases ha.2 with⟨h1,h2⟩ | ⟨g',hS,cur,h1,hg,hh,hn,hm,_⟩
  ·omega
  simp only[Value.slice.injEq] at h1;obtain⟨-,-,rfl⟩:=h1;exact⟨hn,hm⟩
 obtain⟨hW,hX⟩:=hu;have HB:=hd hb;have hG:=hd ha;clear ha he hb hE hp hB hO hc hR HK hA hH hF hK;have i1:¬((l'.length:Int)+1<=(l'.length:Int)):=by omega
 go_enter Tryz.func157,Tryz.ntmps157;go_wp2
 have hz:SP A pb (w.setCell ⟨pb,0,none⟩ (.slice (some ⟨g,0,none⟩) l'.length cap)) l':=by
  refine⟨⟨.slice (some ⟨g,0,none⟩) l'.length cap,by rw[jQf HB.o];rfl,?_,hx.o⟩,by omega⟩;have h1:=hG.o;rw[cN] at h1
  have h2:=jO9 h1 l'.length (by omega) (by
   have:∀k:List bS,(k.flatMap jGG).length=k.length*4:=fun k=>by
    induction k with
    | nil=>rfl
    | cons x r ih=>rw[cK,cg,ih,cG];show 4+_=_;omega
   exact this l')
  exact jQp h2 fun k hk=>jQg (fun e=>jQm h2 HB.o (by decide) (by rw[hk,e]))
 have hj:Below pb w (w.setCell ⟨pb,0,none⟩ (.slice (some ⟨g,0,none⟩) l'.length cap)):=cj (B:=pb) bR nR _;obtain⟨wz,hU⟩:∃wz,wz=w.setCell ⟨pb,0,none⟩ (.slice (some ⟨g,0,none⟩) l'.length cap):=⟨_,rfl⟩;rw[<-hU] at hz hj ⊢;have hN:=hz.lt;have hi:∀a b:Obj,Below wz.heap.size wz ((wz.alloc a).alloc b):=fun a b=>(bA).alloc (by simp) _
 have hJ:wz.heap.size=w.heap.size:=by rw[hU];simp
 refine cp (v:=.agg #[.int .i64 yl,.int .i64 yh,.int .i64 nl,.int .i64 nh]) (by simp[results,Tryz.results157,go_sem,hJ]) rfl ⟨rfl,hz.below (hi _ _),hj.trans ((hi _ _).mono (by omega)),fun q hq hY=>((hi _ _).block q (by omega)).trans (by rw[hU];exact jQg hY)⟩
end
end Go.Proofs.YtahpihjialbanaaGreatDoor
