import Derived.Test.YtahpihjialbanaaGreatDoorQat
set_option linter.unusedVariables false
set_option linter.unusedSimpArgs false
set_option maxRecDepth 100000
set_option maxHeartbeats 4000000
namespace Go.Proofs.YtahpihjialbanaaGreatDoor
open Sq (headN Nd takeN numV Rd isShut)
section
open Go.RowKit
variable {Z:Nat->Prop}
namespace Sq
def wideN:(n:Nat)->Nd n->Prop
 | 0,t=>(NodeF.ents t).length<=255
 | n+1,t=>(NodeF.ents t).length<=255/\(NodeF.kids t).length<=255/\∀c∈NodeF.kids t,wideN n c
theorem jQlL:∀(n:Nat) (s:ByteArray) (l q:Int),wideN n (shutN n s l q)
 | 0,_,_,_=>zR
 | _+1,_,_,_=>⟨zR,zR,fun c hc=>by cases hc⟩
theorem jQhS {n wide:Nat}(hr:∀r,wideN n (readN wide n r).1):∀(k:Nat) (r:Rd),∀c∈(kidsR (headN n) (shutN n) (readN wide n) k r).1,wideN n c
 | 0,_,c,hc=>by cases hc
 | k+1,r,c,hc=>by
  rw[kidsR] at hc;simp only at hc;rcases List.mem_cons.1 hc with rfl | hc
  ·unfold kidFix
   split
   ·exact jQlL _ _ _ _
   ·split
    ·exact hr _
    ·exact hr _
  ·exact jQhS hr k _ c hc
theorem jQhu (wide:Nat):∀(n:Nat) (r:Rd),wideN n (readN wide n r).1
 | 0,_=>zR
 | n+1,r=>by
  show wideN (n+1) (readF wide (headN n) (shutN n) (readN wide n) r).1;have h5:=jQc5 (takeN r 1);unfold readF
  split
  ·exact⟨zR,zR,fun c hc=>by cases hc⟩
  ·split
   ·refine⟨?_,zR,fun c hc=>by cases hc⟩
    show(entsR _ _).1.length<=255
    rw[(jQb5 _ _).1];omega
   ·split
    ·refine⟨zR,?_,jQhS (fun r=>jQhu wide n r) _ _⟩
     show(kidsR _ _ _ _ _).1.length<=255
     rw[(jQa9 (f:=headN n) (mk:=shutN n) (jQcC n) (fun r=>jQai wide n r) _ _).1];omega
    ·exact⟨zR,zR,fun c hc=>by cases hc⟩
end Sq
theorem jQrd {α:Type}(g:α->Bool)(l:List α)(k:Nat)(h:k<l.length):(l.drop k).all g=(g l[k]&&(l.drop (k+1)).all g):=by
 rw[List.drop_eq_getElem_cons h];rfl
theorem jQjI (n:Nat)(h:Sq.Head)(es:List Sq.Ent)(l:List (Nd n×Value×Value))(ev cv:Value)(least:Nat)(g:Nd n->Bool)(w:World)(hes:EntsAt 0 w ev es)(hn:NodesAt Z 0 w cv n l)(hl:l.length<=255)(hel:es.length<=255)(hle:least<=2)
  (ih:∀x∈l,∀w',NodeAt Z w' n x.1 x.2.1 x.2.2->Calls Tryz.prog 94 #[.agg (nodeCells n x).toArray,.int .i64 2] w' fun e w''=>e=.returned (.bool (g x.1))/\Below w'.heap.size w' w'') :
  Calls Tryz.prog 94 #[.agg (headCells h ev cv).toArray,.int .i64 least] w fun e w'=>e=.returned (.bool (if isShut h then true else Decidable.decide (least<=(if h.inner then l.length else es.length))&&Decidable.decide ((if h.inner then l.length else es.length)<=4)&&(l.map Prod.fst).all g))/\Below w.heap.size w w':=by
 obtain⟨eo,ecap,rfl⟩:=jQa hes;obtain⟨co,ccap,rfl⟩:=jQa hn.own;rw[jQc];obtain⟨W,hW⟩:∃W:World,W=w.alloc (.cells #[.bool h.inner,.slice eo es.length ecap,.slice co l.length ccap,.int .i64 h.least,.int .i64 h.rows,.string h.sl,.int .i64 h.num] 60):=⟨_,rfl⟩;have hx:Below w.heap.size w W:=by rw[hW];exact(bR).alloc (nR) _
 have hj:W.heap[w.heap.size]?=some (.cells #[.bool h.inner,.slice eo es.length ecap,.slice co l.length ccap,.int .i64 h.least,.int .i64 h.rows,.string h.sl,.int .i64 h.num] 60):=by rw[hW];exact jQi _ _
 have hz:=jQf hj;obtain⟨m0,m1,m2,m3,m4,m5,m6⟩:=SevenAt.blk (h:=h) hj;simp only[Nat.zero_add] at m1 m2 m3 m4 m5 m6;have HN:=hd (hn.below hx);have hw:=hd hx;have ht:=hd hj;have IH:=hd ih;obtain⟨sz,hsz⟩:∃y,y=(if h.inner then l.length else es.length):=⟨_,rfl⟩;have hJ:sz<=255:=by rw[hsz];split<;>omega
 rw[<-hsz];have hE:=hd hsz;obtain⟨res,hres⟩:∃y,y=(if isShut h then true else Decidable.decide (least<=sz)&&Decidable.decide (sz<=4)&&(l.map Prod.fst).all g):=⟨_,rfl⟩;rw[<-hres];have hi:=hd hres;clear hres;clear hn hes hx hj ih hsz;go_enter Tryz.func94,Tryz.ntmps94;go_wp2_with fail;rw[<-hW];clear hW;refine(jQbf h _ _ _ ⟨_,_,_,rfl⟩ ⟨_,_,_,rfl⟩).mono ?_;rintro e w1 ⟨rfl,hb1⟩;have hc:=(hb1.block _ hz).trans ht.o;have hm:=hd hc;have hH:=jQf hc;clear m0 m1 m2 m3 m4 m5 m6;obtain⟨m0,m1,m2,m3,m4,m5,m6⟩:=SevenAt.blk (h:=h) hc;simp only[Nat.zero_add] at m1 m2 m3 m4 m5 m6;have hI:=hd (HN.o.below hb1);have hu:=hd (hw.o.trans (hb1.mono hw.o.size));clear hb1 hc HN hw ht hz;cases hsh:isShut h
 case true =>
  have HR:Hid (res=true):=by show _=_;rw[hi.o,hsh];rfl
  go_wp2;go_ret;exact⟨by rw[HR.o];rfl,hu.o⟩
 case false =>
  have he:Hid (res=(Decidable.decide (least<=sz)&&Decidable.decide (sz<=4)&&(l.map Prod.fst).all g)):=by show _=_;rw[hi.o,hsh];rfl
  clear hi;go_wp2_with fail;refine(jQg4 h _ _ _ _ _ _ _).mono ?_;rintro e w2 ⟨rfl,hb2⟩;rw[<-hE.o];have hf:=(hb2.block _ hH).trans hm.o;have hq:=hd hf;have hK:=jQf hf;clear m0 m1 m2 m3 m4 m5 m6;obtain⟨m0,m1,m2,m3,m4,m5,m6⟩:=SevenAt.blk (h:=h) hf;simp only[Nat.zero_add] at m1 m2 m3 m4 m5 m6;have hG:=hd (hI.o.below hb2);have hp:=hd (hu.o.trans (hb2.mono hu.o.size));clear hb2 hf hI hu hm hH hE
  by_cases hs1:least<=sz
  ·have i1:¬((sz:Int)<(least:Int)):=by omega
   by_cases hs2:sz<=4
   ·have i2:¬((4:Int)<(sz:Int)):=by omega
    have hA:Hid (res=(l.map Prod.fst).all g):=by show _=_;rw[he.o];simp[hs1,hs2]
    have j1:Decidable.decide (sz<least)=false:=by simpa using hs1
    have j2:Decidable.decide ((4:Int)<(sz:Int))=false:=by simp;omega
    clear he hs1 hs2;go_wp2
    go_loopw [6] (fun i wr=>∃k:Nat,k<=l.length/\i=.int .i64 k/\Hid (res=((l.map Prod.fst).drop k).all g)/\Hid (Below w2.heap.size w2 wr)) (fun i _=>l.length-(intOf i).toNat)
    case atStart=>exact⟨0,zR,rfl,hA,bR⟩
    case round =>
     obtain⟨k,hk,rfl,hr,hb⟩:=hrel;have hh:=(hb.o.block _ hK).trans hq.o;have hL:=jQf hh;clear m0 m1 m2 m3 m4 m5 m6;obtain⟨m0,m1,m2,m3,m4,m5,m6⟩:=SevenAt.blk (h:=h) hh;simp only[Nat.zero_add] at m1 m2 m3 m4 m5 m6;clear hh
     by_cases hkt:k<l.length
     ·obtain⟨q,cap',ea,el,ec,ca,cl,cc,hv,hg,⟨d0,d1,d2,d3,d4,dsl,dnu⟩,d5,d6⟩:=(hG.o.below hb.o).at k hkt;simp only[Value.slice.injEq] at hv;obtain⟨rfl,-,rfl⟩:=hv;have hs:=jQrd g (l.map Prod.fst) k (by simpa using hkt);rw[List.getElem_map] at hs;have ha:=IH.o _ (List.getElem_mem hkt) wr ((hG.o.below hb.o).each _ (List.getElem_mem hkt));obtain⟨y,hy⟩:∃y,y=l[k]:=⟨_,rfl⟩;rw[<-hy] at hs ha d0 d3 d4 dsl dnu d5;obtain⟨t,evx,cvx⟩:=y;simp only[Prod.mk.injEq] at d5;obtain⟨rfl,rfl⟩:=d5;simp only at hs ha;obtain⟨xh,hxh⟩:∃y,y=headN n t:=⟨_,rfl⟩;rw[<-hxh] at d0 d3 d4 dsl dnu;have hD:nodeCells n (t,.slice ea el ec,.slice ca cl cc)=headCells xh (.slice ea el ec) (.slice ca cl cc):=by rw[hxh];rfl
      rw[hD,jQc] at ha;have HC:=hd ha;have i3:¬((l.length:Int)<=(k:Int)):=by omega
      have hF:=hd hs;clear hs ha hxh hD hy d6;cases hgt:g t
      case true =>
       have ho:=HC.o;rw[hgt] at ho;have hB:=hd ho;have HR:Hid (res=((l.map Prod.fst).drop (k+1)).all g):=by show _=_;rw[hr.o,hF.o,hgt];rfl
       clear ho HC;go_wp2_with fail;refine hB.o.mono ?_;rintro e w3 ⟨rfl,hb3⟩;have hC:=hd (hb.o.trans (hb3.mono hb.o.size));clear hb3;go_wp2;go_roundw
       case rel=>exact⟨k+1,by omega,by go_num,HR,hC⟩
       case measure=>simp[intOf];omega
      case false =>
       have ho:=HC.o;rw[hgt] at ho;have hB:=hd ho;have HR:Hid (res=false):=by show _=_;rw[hr.o,hF.o,hgt];rfl
       clear ho HC;go_wp2_with fail;refine hB.o.mono ?_;rintro e w3 ⟨rfl,hb3⟩;have hC:=hd (hp.o.trans ((hb.o.trans (hb3.mono hb.o.size)).mono hp.o.size));clear hb3;go_wp2;go_ret;exact⟨by rw[HR.o];rfl,hC.o⟩
     ·have HR:Hid (res=true):=by show _=_;rw[hr.o,List.drop_eq_nil_of_le (by simp;omega)];rfl
      have i3:¬((k:Int)<(l.length:Int)):=by omega
      clear hr;go_wp2;go_ret;exact⟨by rw[HR.o];rfl,hp.o.trans (hb.o.mono hp.o.size)⟩
   ·have i2:(4:Int)<(sz:Int):=by omega
    have HR:Hid (res=false):=by show _=_;rw[he.o];simp[hs2]
    go_wp2;go_ret;exact⟨by rw[HR.o];rfl,hp.o⟩
  ·have i1:(sz:Int)<(least:Int):=by omega
   have HR:Hid (res=false):=by show _=_;rw[he.o];simp[hs1]
   go_wp2;go_ret;exact⟨by rw[HR.o];rfl,hp.o⟩
theorem jQjJ:∀(n:Nat) (t:Nd n) (ev cv:Value) (least:Nat) (w:World),NodeAt Z w n t ev cv->Sq.wideN n t->least<=2->Calls Tryz.prog 94 #[.agg (headCells (headN n t) ev cv).toArray,.int .i64 least] w fun e w'=>e=.returned (.bool (Sq.sizedN n least t))/\Below w.heap.size w w'
 | 0,t,ev,cv,least,w,h,hw,hle=>by
  obtain⟨h1,rfl⟩:=h.leaf
  have hk:Sq.NodeF.kids t=[]:=by
   cases hq:Sq.NodeF.kids t with
   | nil=>rfl
   | cons c _=>exact c.elim
  have:=jQjI (Z:=Z) 0 (headN 0 t) (Sq.NodeF.ents t) [] ev (.slice none 0 0) least (fun _=>true) w h1 ⟨World.ownsRow_nil _ _ _ _,fun x hx=>by cases hx⟩ (by simp) hw hle (fun x hx=>by cases hx)
  refine this.mono fun e w' hh=>⟨?_,hh.2⟩
  rw[hh.1]
  congr 2
  show _=Sq.sizedF _ _ t;unfold Sq.sizedF Sq.sizeF;rw[hk];rfl
 | n+1,t,ev,cv,least,w,h,hw,hle=>by
  obtain⟨h1,l,h2,h3⟩:=h.inner;have ha:l.length<=255:=by have:=hw.2.1;rw[h2,List.length_map] at this;exact this
  have:=jQjI (Z:=Z) n (headN (n+1) t) (Sq.NodeF.ents t) l ev cv least (Sq.sizedN n 2) w h1 h3 ha hw.1 hle (fun x hx w' hn=>jQjJ n x.1 x.2.1 x.2.2 2 w' hn (hw.2.2 x.1 (by rw[h2];exact List.mem_map_of_mem hx)) (by decide))
  refine this.mono fun e w' hh=>⟨?_,hh.2⟩
  rw[hh.1]
  congr 2
  show _=Sq.sizedF _ _ t;unfold Sq.sizedF Sq.sizeF;rw[h2,List.length_map];rfl
end
section
open Go.RowKit
variable {Z:Nat->Prop}
def PlsAt (B:Nat)(w:World)(v:Value)(l:List Int):Prop:=w.ownsRow B 2 1 v l.length (l.map (Value.int .i64))
theorem PlsAt.at {B:Nat}{w:World}{v:Value}{l:List Int}(h:PlsAt B w v l)(k:Nat)(hk:k<l.length):∃g cap,v=.slice (some ⟨g,0,none⟩) l.length cap/\g<w.heap.size/\w.cell? ⟨g,k,none⟩=some (.int .i64 l[k]):=by
 obtain⟨g,cap,rfl,_,hlt⟩:=h.form (by omega);refine⟨g,cap,rfl,hlt,?_⟩
 have:=h.cells (g:=g) rfl k (.int .i64 l[k]) (by rw[List.getElem?_map,List.getElem?_eq_getElem hk];rfl)
 rwa [show(⟨g,0,none⟩:Addr).add k=⟨g,k,none⟩ from by unfold Addr.add;split<;>simp_all] at this
theorem jQkV (l:List Int)(k:Nat)(h:k+1<l.length):Sq.risingB (l.drop k)=(Decidable.decide (l[k]<l[k+1])&&Sq.risingB (l.drop (k+1))):=by
 rw[List.drop_eq_getElem_cons (by omega:k<l.length),List.drop_eq_getElem_cons h];rfl
theorem jQmt (l:List Int)(k:Nat)(h:¬k+1<l.length):Sq.risingB (l.drop k)=true:=by
 have:(l.drop k).length<=1:=by rw[List.length_drop];omega
 cases hd:l.drop k with
 | nil=>rfl
 | cons a r =>
  cases r with
  | nil=>rfl
  | cons b q=>rw[hd] at this;simp at this
theorem jQmu (l:List Int)(v:Value)(B:Nat)(w:World)(h:PlsAt B w v l)(hl:l.length<=1000000000) :
  Calls Tryz.prog 95 #[v] w fun e w'=>e=.returned (.bool (Sq.risingB l))/\Below w.heap.size w w':=by
 obtain⟨ao,cap,rfl⟩:=jQa h;have H:=hd h;obtain⟨res,hres⟩:∃y,y=Sq.risingB l:=⟨_,rfl⟩;rw[<-hres];have he:=hd hres;clear h hres;go_enter Tryz.func95,Tryz.ntmps95;go_wp2
 go_loopw [3] (fun i wr=>∃k:Nat,i=.int .i64 ((k:Int)+1)/\k<=1000000000/\Hid (res=Sq.risingB (l.drop k))/\Hid (Below w.heap.size w wr)) (fun i _=>l.length+1-(intOf i).toNat)
 case atStart=>exact⟨0,rfl,by omega,he,bR⟩
 case round =>
  obtain⟨k,rfl,hk9,hr,hb⟩:=hrel
  by_cases hkt:k+1<l.length
  ·obtain⟨g,cap',hv,hg,c0⟩:=H.o.at k (by omega);obtain⟨g',cap'',hv',hg',c1⟩:=H.o.at (k+1) hkt;simp only[Value.slice.injEq] at hv;obtain⟨rfl,-,rfl⟩:=hv;simp only[Value.slice.injEq,Option.some.injEq,Addr.mk.injEq,and_true,true_and] at hv';obtain⟨rfl,rfl⟩:=hv';have hf:=jQkV l k hkt;obtain⟨a,ha⟩:∃y,y=l[k]:=⟨_,rfl⟩;obtain⟨bb,hbb⟩:∃y,y=l[k+1]:=⟨_,rfl⟩;rw[<-ha,<-hbb] at hf;rw[<-ha] at c0;rw[<-hbb] at c1;have d0:=((bcell hb.o).1 g k hg).trans c0;have d1:=((bcell hb.o).1 g (k+1) hg).trans c1;have hh:g<wr.heap.size:=by have:=hb.o.size;omega
   have hc:=hd hf;have i1:(k:Int)+1<(l.length:Int):=by omega
   have i2:¬((l.length:Int)<=(k:Int)+1):=by omega
   have i3:¬((l.length:Int)<=(k:Int)):=by omega
   have i4:¬((k:Int)<0):=by omega
   clear hf ha hbb c0 c1
   by_cases hlt:a<bb
   ·have HR:Hid (res=Sq.risingB (l.drop (k+1))):=by show _=_;rw[hr.o,hc.o];simp[hlt]
    have i5:¬(bb<=a):=by omega
    clear hr hc;go_wp2
    go_region
    all_goals(try go_wp2)
    all_goals
     go_roundw
     case rel=>exact⟨k+1,by go_num,by omega,HR,by first | exact hb | exact hb.o.drew⟩
     case measure=>simp[intOf];omega
   ·have HR:Hid (res=false):=by show _=_;rw[hr.o,hc.o];simp[hlt]
    have i5:bb<=a:=by omega
    clear hr hc;go_wp2
    go_region
    all_goals(try go_wp2)
    all_goals
     go_ret;exact⟨by rw[HR.o];rfl,by first | exact hb.o | exact hb.o.drew⟩
  ·have HR:Hid (res=true):=by show _=_;rw[hr.o];exact jQmt l k hkt
   have i1:¬((k:Int)+1<(l.length:Int)):=by omega
   clear hr;go_wp2;go_ret;exact⟨by rw[HR.o];rfl,hb.o⟩
def LvAt (b:Nat)(w:World)(l:Sq.Lv):Prop:=w.heap[b]?=some (.cells #[.int .i64 l.hl,.int .i64 l.dl,.int .i64 l.di] 192)
theorem LvAt.below {b:Nat}{w w':World}{l:Sq.Lv}(h:LvAt b w l)(hb:Below w.heap.size w w'):LvAt b w' l:=(hb.block b (jQf h)).trans h
theorem jQhM (b:Nat)(l:Sq.Lv)(d:Int)(w:World)(h:LvAt b w l) :
  Calls Tryz.prog 170 #[.pointer (some ⟨b,0,none⟩),.int .i64 d] w fun e w'=>e=.returned (.tuple #[])/\LvAt b w' (Sq.noteI d l)/\Only b w w':=by
 obtain⟨hl,dl,di⟩:=l;have c2:w.cell? ⟨b,2,none⟩=some (.int .i64 di):=by rw[jQb h];rfl
 have f2:=jQd h 2;have hz:=jQf h;have H:=hd h;clear h
 by_cases hd':di<d
 ·have HE:Hid (Sq.noteI d ⟨hl,dl,di⟩=⟨hl,dl,d⟩):=by show _=_;unfold Sq.noteI;simp only;rw[if_pos hd']
  go_enter Tryz.func170,Tryz.ntmps170;go_wp2;go_end0;refine⟨rfl,?_,Only.set _ _⟩;rw[HE.o];unfold LvAt;rw[jQe H.o];rfl
 ·have HE:Hid (Sq.noteI d ⟨hl,dl,di⟩=⟨hl,dl,di⟩):=by show _=_;unfold Sq.noteI;simp only;rw[if_neg hd']
  go_enter Tryz.func170,Tryz.ntmps170;go_wp2;go_end0;exact⟨rfl,by rw[HE.o];exact H.o,Only.refl _ _⟩
theorem jQiO (b:Nat)(l:Sq.Lv)(d:Int)(w:World)(h:LvAt b w l) :
  Calls Tryz.prog 171 #[.pointer (some ⟨b,0,none⟩),.int .i64 d] w fun e w'=>e=.returned (.tuple #[])/\LvAt b w' (Sq.noteL d l)/\Only b w w':=by
 obtain⟨hl,dl,di⟩:=l;have c0:w.cell? ⟨b,0,none⟩=some (.int .i64 hl):=by rw[jQb h];rfl
 have c1:w.cell? ⟨b,1,none⟩=some (.int .i64 dl):=by rw[jQb h];rfl
 have f0:=jQd h 0;have f1:=jQd h 1;have hz:=jQf h;have H:=hd h;have key:∀(x y:Int),(x=if hl<0\/d<hl then d else hl)->(y=if dl<d then d else dl)->Sq.noteL d ⟨hl,dl,di⟩=⟨x,y,di⟩:=fun x y hx hy=>by rw[hx,hy];rfl
 have KEY:=hd key;clear h key
 by_cases h1:hl<0
 ·by_cases h2:dl<d
  ·have HE:=hd (KEY.o d d (by rw[if_pos (Or.inl h1)]) (by rw[if_pos h2]));go_enter Tryz.func171,Tryz.ntmps171;go_wp2;go_end0;refine⟨rfl,?_,(Only.set _ _).trans (Only.set _ _)⟩;rw[HE.o];unfold LvAt;rw[jQe (jQe H.o _)];rfl
  ·have HE:=hd (KEY.o d dl (by rw[if_pos (Or.inl h1)]) (by rw[if_neg h2]));go_enter Tryz.func171,Tryz.ntmps171;go_wp2;go_end0;refine⟨rfl,?_,Only.set _ _⟩;rw[HE.o];unfold LvAt;rw[jQe H.o];rfl
 ·by_cases h3:d<hl
  ·by_cases h2:dl<d
   ·have HE:=hd (KEY.o d d (by rw[if_pos (Or.inr h3)]) (by rw[if_pos h2]));go_enter Tryz.func171,Tryz.ntmps171;go_wp2;go_end0;refine⟨rfl,?_,(Only.set _ _).trans (Only.set _ _)⟩;rw[HE.o];unfold LvAt;rw[jQe (jQe H.o _)];rfl
   ·have HE:=hd (KEY.o d dl (by rw[if_pos (Or.inr h3)]) (by rw[if_neg h2]));go_enter Tryz.func171,Tryz.ntmps171;go_wp2;go_end0;refine⟨rfl,?_,Only.set _ _⟩;rw[HE.o];unfold LvAt;rw[jQe H.o];rfl
  ·by_cases h2:dl<d
   ·have HE:=hd (KEY.o hl d (by rw[if_neg (by omega)]) (by rw[if_pos h2]));go_enter Tryz.func171,Tryz.ntmps171;go_wp2;go_end0;refine⟨rfl,?_,Only.set _ _⟩;rw[HE.o];unfold LvAt;rw[jQe H.o];rfl
   ·have HE:=hd (KEY.o hl dl (by rw[if_neg (by omega)]) (by rw[if_neg h2]));go_enter Tryz.func171,Tryz.ntmps171;go_wp2;go_end0;exact⟨rfl,by rw[HE.o];exact H.o,Only.refl _ _⟩
end
section
open Go.RowKit
variable {Z:Nat->Prop}
theorem jQmT {b:Nat}{w w':World}{r:Sq.Lv}{B:Nat}{e:TypeId}{size:Nat}{v:Value}{n:Nat}{xs:List Value}(h:w.ownsRow B e size v n xs)(hr:LvAt b w r)(hne:e≠192)(hf:Rf b w w'):w'.ownsRow B e size v n xs:=by
 refine⟨h.1,?_⟩;rcases h.2 with h0 | ⟨g,cap,cur,hv,hbg,hh,hn,hm,hc,ht⟩
 ·exact Or.inl h0
 ·refine Or.inr ⟨g,cap,cur,hv,hbg,(hf.block g (jQf hh) fun e2=>?_).trans hh,hn,hm,hc,ht⟩;subst e2;unfold LvAt at hr;rw[hr] at hh;simp only[Option.some.injEq,Obj.cells.injEq] at hh;exact hne hh.2.1.symm
theorem NodeAt.lv {b n:Nat}{w w':World}{r:Sq.Lv}{t:Nd n}{ev cv:Value}(h:NodeAt Z w n t ev cv)(hr:LvAt b w r)(hf:Rf b w w'):NodeAt Z w' n t ev cv :=
 h.same fun g c e fr hg he=>hf.block g (jQf hg) fun e2=>by
  subst e2;unfold LvAt at hr;rw[hr] at hg;simp only[Option.some.injEq,Obj.cells.injEq] at hg;rcases he with rfl | rfl
  ·exact absurd hg.2.1 (by decide)
  ·exact absurd hg.2.1 (by decide)
theorem NodesAt.lv {b n B:Nat}{w w':World}{r:Sq.Lv}{v:Value}{l:List (Nd n×Value×Value)}(h:NodesAt Z B w v n l)(hr:LvAt b w r)(hf:Rf b w w'):NodesAt Z B w' v n l:=⟨jQmT h.own hr (by decide) hf,fun x hx=>(h.each x hx).lv hr hf⟩
theorem jQpa {α:Type}(g:α->Int->Sq.Lv->Sq.Lv)(d:Int)(l:List α)(k:Nat)(h:k<l.length)(v:Sq.Lv):Sq.noteK g d (l.drop k) v=Sq.noteK g d (l.drop (k+1)) (g l[k] d v):=by
 rw[List.drop_eq_getElem_cons h];rfl
def NoteSays (b:Nat)(l:Sq.Lv)(w:World)(e:Ending)(w':World):Prop:=e=.returned (.tuple #[])/\LvAt b w' l/\Rf b w w'
theorem jQm4 (n:Nat)(h:Sq.Head)(elen:Nat)(eo:Option Addr)(ecap:Nat)(l:List (Nd n×Value×Value))(cv:Value)(b:Nat)(lv:Sq.Lv)(d:Int)(g:Nd n->Int->Sq.Lv->Sq.Lv)(w:World)(hn:NodesAt Z 0 w cv n l)(hl:l.length<=255)(hd0:0<=d)(hd1:d<=1000000)(hlv:LvAt b w lv)
  (ih:∀x∈l,∀w' lv',NodeAt Z w' n x.1 x.2.1 x.2.2->LvAt b w' lv'->Calls Tryz.prog 134 #[.pointer (some ⟨b,0,none⟩),.agg (nodeCells n x).toArray,.int .i64 (d+1)] w' (NoteSays b (g x.1 (d+1) lv') w')) :
  Calls Tryz.prog 134 #[.pointer (some ⟨b,0,none⟩),.agg (headCells h (.slice eo elen ecap) cv).toArray,.int .i64 d] w (NoteSays b (if isShut h then lv else Sq.noteK g (d+1) (l.map Prod.fst) (if h.inner then Sq.noteI d lv else Sq.noteL d lv)) w):=by
 obtain⟨co,ccap,rfl⟩:=jQa hn.own;rw[jQc];obtain⟨W,hW⟩:∃W:World,W=w.alloc (.cells #[.bool h.inner,.slice eo elen ecap,.slice co l.length ccap,.int .i64 h.least,.int .i64 h.rows,.string h.sl,.int .i64 h.num] 60):=⟨_,rfl⟩;have hy:Below w.heap.size w W:=by rw[hW];exact(bR).alloc (nR) _
 have hm:W.heap[w.heap.size]?=some (.cells #[.bool h.inner,.slice eo elen ecap,.slice co l.length ccap,.int .i64 h.least,.int .i64 h.rows,.string h.sl,.int .i64 h.num] 60):=by rw[hW];exact jQi _ _
 have hz:=jQf hm;have hP:=jQf hlv;have hw:w.heap.size≠b:=by omega
 obtain⟨m0,m1,m2,m3,m4,m5,m6⟩:=SevenAt.blk (h:=h) hm;simp only[Nat.zero_add] at m1 m2 m3 m4 m5 m6;have HN:=hd (hn.below hy);have hD:=hd (hlv.below hy);have hH:Hid (Rf b w W):=Rf.of_below hy;have hu:=hd hm;have IH:=hd ih;obtain⟨res,hres⟩:∃y,y=(if isShut h then lv else Sq.noteK g (d+1) (l.map Prod.fst) (if h.inner then Sq.noteI d lv else Sq.noteL d lv)):=⟨_,rfl⟩;rw[<-hres];have hj:=hd hres;clear hres;clear hn hy hm ih hlv;go_enter Tryz.func134,Tryz.ntmps134;go_wp2_with fail;rw[<-hW];clear hW;refine(jQbf h _ _ _ ⟨_,_,_,rfl⟩ ⟨_,_,_,rfl⟩).mono ?_;rintro e w1 ⟨rfl,hb1⟩;have hc:=(hb1.block _ hz).trans hu.o;have hp:=hd hc;have hI:=jQf hc;clear m0 m1 m2 m3 m4 m5 m6;obtain⟨m0,m1,m2,m3,m4,m5,m6⟩:=SevenAt.blk (h:=h) hc;simp only[Nat.zero_add] at m1 m2 m3 m4 m5 m6;have hJ:=hd (HN.o.below hb1);have hi:=hd (hD.o.below hb1);have hA:=hd (hH.o.trans (Rf.of_below hb1));clear hb1 hc HN hD hH hu hz;cases hsh:isShut h
 case true =>
  have HR:Hid (res=lv):=by show _=_;rw[hj.o,hsh];rfl
  go_wp2;go_end0;exact⟨rfl,by rw[HR.o];exact hi.o,hA.o⟩
 case false =>
  have he:Hid (res=Sq.noteK g (d+1) (l.map Prod.fst) (if h.inner then Sq.noteI d lv else Sq.noteL d lv)):=by show _=_;rw[hj.o,hsh];rfl
  clear hj;cases hin:h.inner
  all_goals
   rw[hin] at m0
   first
    | (
      have hx:h.inner=true:=hin;have hq:Hid (res=Sq.noteK g (d+1) (l.map Prod.fst) (Sq.noteI d lv)):=by show _=_;rw[he.o,hin];rfl
      clear he hx;go_wp2_with fail;refine(jQhM b lv d _ hi.o).mono ?_)
    | (
      have hq:Hid (res=Sq.noteK g (d+1) (l.map Prod.fst) (Sq.noteL d lv)):=by show _=_;rw[he.o,hin];rfl
      clear he;go_wp2_with fail;refine(jQiO b lv d _ hi.o).mono ?_)
   rintro e w2 ⟨rfl,hlv2,ho2⟩;have ho:=Rf.of_only ho2;have hf:=(ho.block _ hI hw).trans hp.o;have hs:=hd hf;have hO:=jQf hf;clear m0 m1 m2 m3 m4 m5 m6;obtain⟨m0,m1,m2,m3,m4,m5,m6⟩:=SevenAt.blk (h:=h) hf;simp only[Nat.zero_add] at m1 m2 m3 m4 m5 m6;have hN:=hd (hJ.o.lv hi.o ho);have hB:=hd hlv2;have hL:=hd (hA.o.trans ho);have hF:Hid (∃y:Sq.Lv,LvAt b w2 y/\res=Sq.noteK g (d+1) (l.map Prod.fst) y):=⟨_,hlv2,hq.o⟩;clear hf ho ho2 hlv2 hJ hA hi hp hI hq hB;go_wp2
   go_loopw [6] (fun i wr=>∃k:Nat,k<=l.length/\i=.int .i64 k/\Hid (∃y:Sq.Lv,LvAt b wr y/\res=Sq.noteK g (d+1) ((l.map Prod.fst).drop k) y)/\Hid (Rf b w2 wr)) (fun i _=>l.length-(intOf i).toNat)
   case atStart=>exact⟨0,zR,rfl,hF,Rf.refl _ _⟩
   case round =>
    obtain⟨k,hk,rfl,hr,hb⟩:=hrel;have hh:=(hb.o.block _ hO hw).trans hs.o;have hQ:=jQf hh;clear m0 m1 m2 m3 m4 m5 m6;obtain⟨m0,m1,m2,m3,m4,m5,m6⟩:=SevenAt.blk (h:=h) hh;simp only[Nat.zero_add] at m1 m2 m3 m4 m5 m6;clear hh;obtain⟨y2,hy2,-⟩:=hF.o;have hE:=hd (hN.o.lv hy2 hb.o);clear hy2
    by_cases hkt:k<l.length
    ·obtain⟨q,cap',ea,el,ec,ca,cl,cc,hv,hg,⟨d0,d1,d2,d3,d4,dsl,dnu⟩,d5,d6⟩:=hE.o.at k hkt;simp only[Value.slice.injEq] at hv;obtain⟨rfl,-,rfl⟩:=hv;obtain⟨y,hly,hry⟩:=hr.o;have ht:=jQpa g (d+1) (l.map Prod.fst) k (by simpa using hkt) y;rw[List.getElem_map] at ht;have ha:=IH.o _ (List.getElem_mem hkt) wr y (hE.o.each _ (List.getElem_mem hkt)) hly;obtain⟨x,hx⟩:∃x,x=l[k]:=⟨_,rfl⟩;rw[<-hx] at ht ha d0 d3 d4 dsl dnu d5;obtain⟨t,evx,cvx⟩:=x;simp only[Prod.mk.injEq] at d5;obtain⟨rfl,rfl⟩:=d5;simp only at ht ha;obtain⟨xh,hxh⟩:∃y,y=headN n t:=⟨_,rfl⟩;rw[<-hxh] at d0 d3 d4 dsl dnu;have hC:nodeCells n (t,.slice ea el ec,.slice ca cl cc)=headCells xh (.slice ea el ec) (.slice ca cl cc):=by rw[hxh];rfl
     rw[hC,jQc] at ha;rw[ht] at hry;have hG:=hd hry;have HC:=hd ha;have i3:¬((l.length:Int)<=(k:Int)):=by omega
     clear ht ha hxh hC hx d6 hly hry hr;go_wp2_with fail;refine HC.o.mono ?_;rintro e w3 ⟨rfl,hlv3,hrf3⟩;have hM:=hd (hb.o.trans hrf3);have hK:Hid (∃y:Sq.Lv,LvAt b w3 y/\res=Sq.noteK g (d+1) ((l.map Prod.fst).drop (k+1)) y):=⟨_,hlv3,hG.o⟩;clear hlv3 hrf3 hG;go_wp2;go_roundw
     case rel=>exact⟨k+1,by omega,by go_num,hK,hM⟩
     case measure=>simp[intOf];omega
    ·have i3:¬((k:Int)<(l.length:Int)):=by omega
     have HE:Hid (LvAt b wr res):=by
      obtain⟨y,hly,hry⟩:=hr.o;rw[List.drop_eq_nil_of_le (by simp;omega)] at hry;show LvAt b wr res;rw[hry];exact hly
     clear hr;go_wp2;go_end0;exact⟨rfl,HE.o,hL.o.trans hb.o⟩
theorem jQm5 (b:Nat):∀(n:Nat) (t:Nd n) (ev cv:Value) (d:Int) (lv:Sq.Lv) (w:World),NodeAt Z w n t ev cv->Sq.wideN n t->0<=d->d+n<=1000000->LvAt b w lv->Calls Tryz.prog 134 #[.pointer (some ⟨b,0,none⟩),.agg (headCells (headN n t) ev cv).toArray,.int .i64 d] w (NoteSays b (Sq.noteN n t d lv) w)
 | 0,t,ev,cv,d,lv,w,h,hw,h0,h1,hlv=>by
  obtain⟨h1',rfl⟩:=h.leaf;obtain⟨eo,ecap,rfl⟩:=jQa h1'
  have hk:Sq.NodeF.kids t=[]:=by
   cases hq:Sq.NodeF.kids t with
   | nil=>rfl
   | cons c _=>exact c.elim
  have:=jQm4 (Z:=Z) 0 (headN 0 t) (Sq.NodeF.ents t).length eo ecap [] (.slice none 0 0) b lv d (fun _ _ y=>y) w ⟨World.ownsRow_nil _ _ _ _,fun x hx=>by cases hx⟩ (by simp) h0 (by omega) hlv (fun x hx=>by cases hx)
  refine this.mono fun e w' hh=>?_
  have he:(if isShut (headN 0 t) then lv else Sq.noteK (fun _ _ y=>y) (d+1) (([]:List (Nd 0×Value×Value)).map Prod.fst) (if(headN 0 t).inner then Sq.noteI d lv else Sq.noteL d lv))=Sq.noteN 0 t d lv:=by
   show _=Sq.noteF _ t d lv;unfold Sq.noteF;rw[hk];rfl
  rw[he] at hh;exact hh
 | n+1,t,ev,cv,d,lv,w,h,hw,h0,h1,hlv=>by
  obtain⟨h1',l,h2,h3⟩:=h.inner;obtain⟨eo,ecap,rfl⟩:=jQa h1';have ha:l.length<=255:=by have:=hw.2.1;rw[h2,List.length_map] at this;exact this
  have:=jQm4 (Z:=Z) n (headN (n+1) t) (Sq.NodeF.ents t).length eo ecap l cv b lv d (Sq.noteN n) w h3 ha h0 (by omega) hlv (fun x hx w' lv' hn hl'=>jQm5 b n x.1 x.2.1 x.2.2 (d+1) lv' w' hn (hw.2.2 x.1 (by rw[h2];exact List.mem_map_of_mem hx)) (by omega) (by omega) hl')
  refine this.mono fun e w' hh=>?_
  have he:(if isShut (headN (n+1) t) then lv else Sq.noteK (Sq.noteN n) (d+1) (l.map Prod.fst) (if(headN (n+1) t).inner then Sq.noteI d lv else Sq.noteL d lv))=Sq.noteN (n+1) t d lv:=by
   show _=Sq.noteF _ t d lv;unfold Sq.noteF;rw[h2];rfl
  rw[he] at hh;exact hh
theorem jQlb (n:Nat)(t:Nd n)(ev cv:Value)(w:World)(ht:NodeAt Z w n t ev cv)(hw:Sq.wideN n t)(hn:n<=1000000) :
  Calls Tryz.prog 97 #[.agg (headCells (headN n t) ev cv).toArray] w fun e w'=>e=.returned (.bool (Sq.levelB (Sq.noteN n t 0 ⟨-1,-1,-1⟩)))/\Below w.heap.size w w':=by
 obtain⟨⟨ea,el,ec,rfl⟩,ca,cl,cc,rfl⟩:=ht.slices;have ha:∀(b:Nat) (w':World),Below w.heap.size w w'->LvAt b w' ⟨-1,-1,-1⟩->Calls Tryz.prog 134 #[.pointer (some ⟨b,0,none⟩),.agg (headCells (headN n t) (.slice ea el ec) (.slice ca cl cc)).toArray,.int .i64 0] w' (NoteSays b (Sq.noteN n t 0 ⟨-1,-1,-1⟩) w'):=fun b w' hb hl=>jQm5 b n t _ _ 0 _ w' (ht.below hb) hw (by omega) (by omega) hl
 obtain⟨h,hh⟩:∃h,h=headN n t:=⟨_,rfl⟩;rw[<-hh] at ha ⊢;rw[jQc] at ha ⊢;obtain⟨res,hres⟩:∃y,y=Sq.noteN n t 0 ⟨-1,-1,-1⟩:=⟨_,rfl⟩;rw[<-hres] at ha ⊢;have hc:=hd ha;clear ha hres ht hh hw hn;obtain⟨hl,dl,di⟩:=res;go_enter Tryz.func97,Tryz.ntmps97;go_wp2_with fail;obtain⟨V,hV⟩:∃V:World,V=w.alloc (.cells #[.bool h.inner,.slice ea el ec,.slice ca cl cc,.int .i64 h.least,.int .i64 h.rows,.string h.sl,.int .i64 h.num] 60):=⟨_,rfl⟩;have hi:V.heap.size=w.heap.size+1:=by rw[hV];simp
 have hj:Below w.heap.size w V:=by rw[hV];exact(bR).alloc (nR) _
 rw[<-hV];clear hV;have he:=hj.alloc (by omega) (.cells #[.int .i64 (-1),.int .i64 (-1),.int .i64 (-1)] 192)
 have hg:LvAt (w.heap.size+1) (V.alloc (.cells #[.int .i64 (-1),.int .i64 (-1),.int .i64 (-1)] 192)) ⟨-1,-1,-1⟩:=by
  unfold LvAt;rw[<-hi];exact jQi _ _
 generalize V.alloc (.cells #[.int .i64 (-1),.int .i64 (-1),.int .i64 (-1)] 192)=X at *;have hk:=he.size;clear hi hj;refine(hc.o _ _ he hg).mono ?_;rintro e w1 ⟨rfl,hl1,hrf⟩;have hf:=hd (he.trans ((hrf.below (B:=w.heap.size) (by omega) hk)));have c0:w1.cell? ⟨w.heap.size+1,0,none⟩=some (.int .i64 hl):=by rw[jQb hl1];rfl
 have c1:w1.cell? ⟨w.heap.size+1,1,none⟩=some (.int .i64 dl):=by rw[jQb hl1];rfl
 have c2:w1.cell? ⟨w.heap.size+1,2,none⟩=some (.int .i64 di):=by rw[jQb hl1];rfl
 have hm:=jQf hl1;clear hl1 hrf he hg hc
 by_cases h1:dl<0
 ·go_wp2;go_ret;exact⟨by simp[Sq.levelB,h1],hf.o⟩
 ·by_cases h2:hl=dl
  ·subst h2
   by_cases h3:di<hl
   ·go_wp2;go_ret;exact⟨by simp[Sq.levelB,h1,h3]<;>(intros;omega),hf.o⟩
   ·go_wp2;go_ret;exact⟨by simp[Sq.levelB,h1,h3]<;>(intros;omega),hf.o⟩
  ·go_wp2;go_ret;exact⟨by simp[Sq.levelB,h1,h2],hf.o⟩
end
section
open Go.RowKit
variable {Z:Nat->Prop}
theorem Tryz.infoInt64:(Tryz.prog.info? 2).map (fun i=>(i.zero,i.size,i.bytes))=some (some (.int .i64 0),1,8):=by kernel_rfl
theorem PlsAt.below {B:Nat}{w w':World}{v:Value}{l:List Int}(h:PlsAt B w v l)(hb:Below w.heap.size w w'):PlsAt B w' v l:=jQh h hb
theorem jQru (l:List Int):∀u∈l.map (Value.int .i64),u.oneCell'=true:=by
 intro u hu;obtain⟨x,_,rfl⟩:=List.mem_map.1 hu;rfl
theorem jQbx {ops:Array Oper}{rest:List Oper}{o:Oper}{a:Act}{Q:Exit->Act->World->Prop}{w:World}(hgd:o.guard=none)(sl x:Operand)
  (ho:o.op=.call { callee:=.builtin .append,args:=#[sl,x],argTypes:=#[96,96] }) (B:Nat) (v:Value) (l:List Int) (hs:a.eval sl=v) (hb:PlsAt B w v l)
  (e:Int) (g c:Nat) (hx:a.eval x=.slice (some ⟨g,0,none⟩) 1 c) (hc0:w.cell? ⟨g,0,none⟩=some (.int .i64 e)) (h1:l.length+1<=1000000001) (hB:B<=w.heap.size)
  (h:∀v' w',PlsAt B w' v' (l++[e])->Below B w w'->wpList Tryz.prog ops Q rest (a.put o.dst v') w'):wpList Tryz.prog ops Q (o::rest) a w:=by
 obtain⟨i0,hi,hz0,hz1,hz2⟩:=info_parts Tryz.infoInt64
 refine wpList_append_lies _ hgd sl x 96 ho B 2 i0 _ 1 8 Tryz.underlying96 hi hz0 hz1 hz2 rfl (by decide) v l.length _ hs hb ⟨g,0,none⟩ 1 c [.int .i64 e] hx rfl (by
  intro j u hu;rw[jQaQ]
  match j,hu with
  | 0,hu=>simp at hu;subst hu;exact hc0
  | j+1,hu=>simp at hu) (by intro u hu;simp at hu;subst hu;rfl) (by decide) (by unfold maxLen;omega) (by omega) hB _ rfl ?_
 intro g' cap w' ho' hg' _ _;refine h _ w' ?_ (Tch.of_grown hg' (fun k hk=>(World.ownsRow.lt hb k hk).1) hB);unfold PlsAt;rw[List.length_append,List.map_append];simpa using ho'
theorem jQdz {ops:Array Oper}{rest:List Oper}{o:Oper}{a:Act}{Q:Exit->Act->World->Prop}{w:World}(hgd:o.guard=none)(sl x:Operand)
  (ho:o.op=.call { callee:=.builtin .append,args:=#[sl,x],argTypes:=#[96,96] }) (B:Nat) (v:Value) (l:List Int) (hs:a.eval sl=v) (hb:PlsAt B w v l)
  (m:List Int) (sv:Value) (hx:a.eval x=sv) (hrd:Reads w sv m.length 1 (m.map (Value.int .i64))) (hm:0<m.length) (h1:l.length+m.length<=1000000001) (hB:B<=w.heap.size)
  (h:∀v' w',PlsAt B w' v' (l++m)->Below B w w'->wpList Tryz.prog ops Q rest (a.put o.dst v') w'):wpList Tryz.prog ops Q (o::rest) a w:=by
 obtain⟨i0,hi,hz0,hz1,hz2⟩:=info_parts Tryz.infoInt64;rcases hrd.2 with⟨_,h0⟩ | ⟨g,off,cap,rfl,_,hc⟩
 ·omega
 refine wpList_append_lies _ hgd sl x 96 ho B 2 i0 _ 1 8 Tryz.underlying96 hi hz0 hz1 hz2 rfl (by decide) v l.length _ hs hb ⟨g,off,none⟩ m.length cap (m.map (Value.int .i64)) hx hrd.1 (by
  intro j u hu;rw[jQaQ];exact hc j u hu) (jQru m) hm (by unfold maxLen;omega) (by omega) hB _ rfl ?_
 intro g' cap w' ho' hg' _ _;refine h _ w' ?_ (Tch.of_grown hg' (fun k hk=>(World.ownsRow.lt hb k hk).1) hB);unfold PlsAt;rw[List.length_append,List.map_append];exact ho'
def PlsSays (l:List Int)(w:World)(e:Ending)(w':World):Prop:=∃v,e=.returned v/\PlsAt w.heap.size w' v l/\(l=[]->v=.slice none 0 0)/\Below w.heap.size w w'
theorem jQhC (n:Nat)(h:Sq.Head)(es:List Sq.Ent)(l:List (Nd n×Value×Value))(ev cv:Value)(g:Nd n->List Int)(tot:List Int)(w:World)(hes:EntsAt 0 w ev es)(hn:NodesAt Z 0 w cv n l)(hl:l.length<=255)(hel:es.length<=255)
  (htot:tot=es.map Sq.Ent.place++(l.map Prod.fst).flatMap fun c=>if isShut (headN n c) then[(headN n c).least] else g c) (hlen:tot.length<=1000000000)
  (ih:∀x∈l,∀w',NodeAt Z w' n x.1 x.2.1 x.2.2->isShut (headN n x.1)=false->Calls Tryz.prog 96 #[.agg (nodeCells n x).toArray] w' (PlsSays (g x.1) w')) :
  Calls Tryz.prog 96 #[.agg (headCells h ev cv).toArray] w (PlsSays tot w):=by
 obtain⟨eo,ecap,rfl⟩:=jQa hes;obtain⟨co,ccap,rfl⟩:=jQa hn.own;rw[jQc];obtain⟨W,hWW⟩:∃W,W=w.alloc (.cells #[.bool h.inner,.slice eo es.length ecap,.slice co l.length ccap,.int .i64 h.least,.int .i64 h.rows,.string h.sl,.int .i64 h.num] 60):=⟨_,rfl⟩;have hW:Below w.heap.size w W:=by rw[hWW];exact(bR).alloc (nR) _
 have hT:W.heap.size=w.heap.size+1:=by rw[hWW];exact jQr w _
 have hi:W.heap[w.heap.size]?=some (.cells #[.bool h.inner,.slice eo es.length ecap,.slice co l.length ccap,.int .i64 h.least,.int .i64 h.rows,.string h.sl,.int .i64 h.num] 60):=by rw[hWW];exact jQi w _
 have HW:=hd hW;have hh:=hd hi;have h1:=hd (hes.below hW);have HN:=hd (hn.below hW);have IH:=hd ih;have hH:=hd hT;have hD:=hd htot;obtain⟨a0,a1,a2,a3,a4,a5,a6⟩:=SevenAt.blk (h:=h) hi;simp only[Nat.zero_add] at a1 a2 a3 a4 a5 a6;have hw:=jQf hi;clear hW hi hes hn ih hT htot;go_enter Tryz.func96,Tryz.ntmps96;go_wp2;rw[<-hWW];clear hWW
 go_loopw [3,4] (fun v i wr=>∃k:Nat,∃acc:List Int,k<=es.length/\i=.int .i64 k/\PlsAt (w.heap.size+1) wr v acc/\(acc=[]->v=.slice none 0 0)/\acc.length<=k/\Hid (es.map Sq.Ent.place=acc++(es.map Sq.Ent.place).drop k)/\Below W.heap.size W wr) (fun _ i _=>es.length-(intOf i).toNat)
 case atStart=>exact⟨0,[],zR,rfl,World.ownsRow_nil _ _ _ _,fun _=>rfl,nR,rfl,bR⟩
 case round =>
  clear a0 a1 a2 a3 a4 a5 a6 hw;obtain⟨j,ac,hj,rfl,hac,hnil,hacl,hr2,hb2⟩:=hrel;obtain⟨wo,rfl⟩:∃wo:World,wo=wr:=⟨_,rfl⟩;obtain⟨yo,ycap,rfl⟩:=jQa hac;have hN:=hb2.size;have ha:=(hb2.block w.heap.size (jQf hh.o)).trans hh.o;obtain⟨n0,n1,n2,n3,n4,n5,n6⟩:=SevenAt.blk (h:=h) ha;simp only[Nat.zero_add] at n1 n2 n3 n4 n5 n6;have hw:=jQf ha;have hq:=hd hac;have hc:=hd hnil;have ho:=hd hb2;have hF:=hd (h1.o.below hb2);clear hac hnil hb2 ha n0 n3 n4 n5 n6 hN
  by_cases hjt:j<es.length
  ·obtain⟨g4,cap4,hv,hg4,c0,c1⟩:=hF.o.at j hjt;simp only[Value.slice.injEq] at hv;obtain⟨rfl,-,rfl⟩:=hv;have hJ:(es.map Sq.Ent.place).drop j=es[j].place::(es.map Sq.Ent.place).drop (j+1):=by rw[List.drop_eq_getElem_cons (by simpa using hjt),List.getElem_map]
   obtain⟨y,hy⟩:∃x,x=es[j]:=⟨_,rfl⟩;rw[<-hy] at c0 c1 hJ;have h4:Hid (es.map Sq.Ent.place=(ac++[y.place])++(es.map Sq.Ent.place).drop (j+1)):=by have:=hr2.o;rw[hJ] at this;show _=_;rw[List.append_assoc];exact this
   have i1:¬((es.length:Int)<=(j:Int)):=by omega
   have hA:Below wo.heap.size wo (wo.alloc (.cells #[.int .i64 y.place] 2)):=(bR).alloc (nR) _;have hP:=hd (hq.o.below hA);have HA:=hd hA;clear hJ hy n2 hr2 hA c1;go_wp2_with (at_builtin;refine jQbx rfl (.tmp 13) (.tmp 20) rfl (w.heap.size+1) _ ac rfl hP.o y.place wo.heap.size 1 rfl (by simp[go_sem]) (by omega) (by simp;omega) ?_;intro v5 w5 hown5 hb5;have hE:=hd hown5;have hG:=hd hb5;clear hown5 hb5);go_roundw
   case rel=>exact⟨j+1,ac++[y.place],by omega,by go_num,hE.o,fun h=>by simp at h,by rw[List.length_append];simp;omega,h4,(ho.o.trans (HA.o.mono ho.o.size)).trans (by rw[hH.o];exact hG.o)⟩
   case measure=>simp[intOf];omega
  ·have hY:es.map Sq.Ent.place=ac:=by rw[hr2.o,List.drop_eq_nil_of_le (by simp;omega)];simp
   have he:=hD.o;rw[hY] at he;have hC:=hd he;have i1:¬((j:Int)<(es.length:Int)):=by omega
   clear hr2 hY he hD;go_wp2
   go_loopw [3,5] (fun v i wr=>∃k:Nat,∃acc:List Int,k<=l.length/\i=.int .i64 k/\PlsAt (w.heap.size+1) wr v acc/\(acc=[]->v=.slice none 0 0)/\Hid (tot=acc++((l.map Prod.fst).drop k).flatMap fun c=>if isShut (headN n c) then[(headN n c).least] else g c)/\Below W.heap.size W wr) (fun _ i _=>l.length-(intOf i).toNat)
   case atStart=>exact⟨0,ac,zR,rfl,hq.o,hc.o,hC,ho.o⟩
   case round =>
    clear hq hc ho hF n1 n2 hw hjt hj hacl hC i1;obtain⟨k,ac2,hk,rfl,hac,hnil,hr2,hb2⟩:=hrel;obtain⟨wq,rfl⟩:∃wo:World,wo=wr:=⟨_,rfl⟩;obtain⟨zo,zcap,rfl⟩:=jQa hac;have hN:=hb2.size;have ha:=(hb2.block w.heap.size (jQf hh.o)).trans hh.o;obtain⟨n0,n1,n2,n3,n4,n5,n6⟩:=SevenAt.blk (h:=h) ha;simp only[Nat.zero_add] at n1 n2 n3 n4 n5 n6;have hw:=jQf ha;have hq:=hd hac;have hc:=hd hnil;have ho:=hd hb2;have hZ:=hd (HN.o.below hb2);have hV:=hd ha;clear hac hnil hb2 ha hN
    by_cases hkt:k<l.length
    ·have hU:(l.map Prod.fst).drop k=l[k].1::(l.map Prod.fst).drop (k+1):=by rw[List.drop_eq_getElem_cons (by simpa using hkt),List.getElem_map]
     have hz:=hr2.o;rw[hU,List.flatMap_cons] at hz;obtain⟨q,cap',ea,el,ec,ca,cl,cc,hv,hg,⟨d0,d1,d2,d3,d4,dsl,dnu⟩,d5,d6⟩:=hZ.o.at k hkt;simp only[Value.slice.injEq] at hv;obtain⟨rfl,-,rfl⟩:=hv;have hs:=List.getElem_mem hkt;obtain⟨x,hx⟩:∃x,x=l[k]:=⟨_,rfl⟩;rw[<-hx] at hz d0 d3 d4 dsl dnu d5 d6 hs;obtain⟨t,evx,cvx⟩:=x;simp only[Prod.mk.injEq] at d5;obtain⟨rfl,rfl⟩:=d5;simp only at hz d6 d0 d3 d4 dsl dnu;have hb:=fun w'=>IH.o _ hs w'
     simp only at hb;obtain⟨xh,hxh⟩:∃y,y=headN n t:=⟨_,rfl⟩;have hQ:nodeCells n (t,.slice ea el ec,.slice ca cl cc)=headCells xh (.slice ea el ec) (.slice ca cl cc):=by rw[hxh];rfl
     rw[<-hxh] at d0 d3 d4 dsl dnu hz hb;rw[hQ,jQc] at hb;have HC:=hd hb;have hI:=hd hz;have D6:=hd d6;have hp:q<wq.heap.size:=hg;have i1:¬((l.length:Int)<=(k:Int)):=by omega
     clear hU hz hb hxh hQ hx d6 hs hr2 hg;go_wp2_with fail;refine(jQbf xh _ _ _ ⟨_,_,_,rfl⟩ ⟨_,_,_,rfl⟩).mono ?_;rintro e w3 ⟨rfl,hb3⟩;have h2:=hb3.size;have hf:=(hb3.block _ hw).trans hV.o;have hL:=jQf hf;clear n0 n1 n2 n3 n4 n5 n6;obtain⟨n0,n1,n2,n3,n4,n5,n6⟩:=SevenAt.blk (h:=h) hf;simp only[Nat.zero_add] at n1 n2 n3 n4 n5 n6;have e0:=((bcell hb3).1 q _ hp).trans d0;have e1:=((bcell hb3).1 q _ hp).trans d1;have e2:=((bcell hb3).1 q _ hp).trans d2;have e3:=((bcell hb3).1 q _ hp).trans d3;have e4:=((bcell hb3).1 q _ hp).trans d4;have e5:=((bcell hb3).1 q _ hp).trans dsl;have e6:=((bcell hb3).1 q _ hp).trans dnu;have hM:q<w3.heap.size:=by omega
     have hr:=hd (hq.o.below hb3);have hB:=hd (ho.o.trans (hb3.mono ho.o.size));have D63:=hd (D6.o.below hb3);have h5:=hB.o.size;rw[hH.o] at h5;clear hb3 hf d0 d1 d2 d3 d4 dsl dnu hq ho D6 hV hZ hp h2 hw;cases hsh:isShut xh
     case true =>
      have ht:Hid (tot=(ac2++[xh.least])++((l.map Prod.fst).drop (k+1)).flatMap fun c=>if isShut (headN n c) then[(headN n c).least] else g c):=by have:=hI.o;rw[hsh,if_pos rfl] at this;show _=_;rw[List.append_assoc];exact this
      have hK:ac2.length<=1000000000:=by have:=congrArg List.length ht.o;simp only[List.length_append] at this;omega
      have hA:Below w3.heap.size w3 (w3.alloc (.cells #[.int .i64 xh.least] 2)):=(bR).alloc (nR) _;have hP:=hd (hr.o.below hA);have HA:=hd hA;clear hI hA HC;go_wp2_with (at_builtin;refine jQbx rfl (.tmp 35) (.tmp 42) rfl (w.heap.size+1) _ ac2 rfl hP.o xh.least w3.heap.size 1 rfl (by simp[go_sem]) (by omega) (by simp;omega) ?_;intro v5 w5 hown5 hb5;have hE:=hd hown5;have hG:=hd hb5;clear hown5 hb5);go_roundw
      case rel=>exact⟨k+1,ac2++[xh.least],by omega,by go_num,hE.o,fun h=>by simp at h,ht,(hB.o.trans (HA.o.mono hB.o.size)).trans (by rw[hH.o];exact hG.o)⟩
      case measure=>simp[intOf];omega
     case false =>
      obtain⟨m,hm⟩:∃y,y=g t:=⟨_,rfl⟩;have ht:Hid (tot=(ac2++m)++((l.map Prod.fst).drop (k+1)).flatMap fun c=>if isShut (headN n c) then[(headN n c).least] else g c):=by have:=hI.o;rw[hsh,if_neg (by simp),<-hm] at this;show _=_;rw[List.append_assoc];exact this
      have hK:ac2.length+m.length<=1000000000:=by have:=congrArg List.length ht.o;simp only[List.length_append] at this;omega
      have hO:=HC.o w3 D63.o hsh;rw[<-hm] at hO;have hX:=hd hO;clear hI HC hO hm D63;go_wp2_with fail;refine hX.o.mono ?_;rintro e w4 ⟨v4,rfl,ho4,hn4,hb4⟩;have h9:=hb4.size;have hu:=hd (hr.o.below hb4);have hR:=hd (hB.o.trans (hb4.mono hB.o.size));clear hb4 hX hr hB e0 e1 e2 e3 e4 e5 e6 n0 n1 n2 n3 n4 n5 n6 hM hL
      by_cases hm0:m=[]
      ·have h8:=hn4 hm0;subst h8;subst hm0;have h6:Hid (tot=ac2++((l.map Prod.fst).drop (k+1)).flatMap fun c=>if isShut (headN n c) then[(headN n c).least] else g c):=by have:=ht.o;rw[List.append_nil] at this;exact this
       obtain⟨i0,hi0,hz0,hz1,hz2⟩:=info_parts Tryz.infoInt64;clear ht ho4 hn4;go_wp2_with (at_builtin;refine wpList_append_own_none rfl (.tmp 44) (.tmp 50) 96 rfl (w.heap.size+1) 2 i0 1 Tryz.underlying96 hi0 _ ac2.length _ rfl hu.o rfl ?_);go_roundw
       case rel=>exact⟨k+1,ac2,by omega,by go_num,hu.o,hc.o,h6,hR.o⟩
       case measure=>simp[intOf];omega
      ·have h0:0<m.length:=by cases m with | nil=>exact absurd rfl hm0 | cons x r=>simp
       obtain⟨qo,qcap,rfl⟩:=jQa ho4;have h7:=hd (Reads.of_own ho4);have hS:ac2++m≠[]:=by simp[hm0]
       have h3:=hd hS;clear ho4 hn4 hS;go_wp2_with (at_builtin;refine jQdz rfl (.tmp 44) (.tmp 50) rfl (w.heap.size+1) _ ac2 rfl hu.o m _ rfl h7.o h0 (by omega) (by omega) ?_;intro v5 w5 hown5 hb5;have hE:=hd hown5;have hG:=hd hb5;clear hown5 hb5);go_roundw
       case rel=>exact⟨k+1,ac2++m,by omega,by go_num,hE.o,fun h=>absurd h h3.o,ht,hR.o.trans (by rw[hH.o];exact hG.o)⟩
       case measure=>simp[intOf];omega
    ·have hC:Hid (tot=ac2):=by show _=_;rw[hr2.o,List.drop_eq_nil_of_le (by simp;omega)];simp
     have i1:¬((k:Int)<(l.length:Int)):=by omega
     clear hr2;go_wp2;go_ret;exact⟨_,rfl,by rw[hC.o];exact jQj hq.o (by omega),by rw[hC.o];exact hc.o,HW.o.trans (ho.o.mono HW.o.size)⟩
theorem jQnN {α:Type}(f:α->List Int):∀(l:List α) (c:α),c∈l->(f c).length<=(l.flatMap f).length
 | x::r,c,h=>by
  rw[List.flatMap_cons,List.length_append];rcases List.mem_cons.1 h with rfl | h
  ·omega
  ·have:=jQnN f r c h;omega
theorem jQhD:∀(n:Nat) (t:Nd n) (ev cv:Value) (w:World),NodeAt Z w n t ev cv->Sq.wideN n t->(Sq.placesN n t).length<=1000000000->Calls Tryz.prog 96 #[.agg (headCells (headN n t) ev cv).toArray] w (PlsSays (Sq.placesN n t) w)
 | 0,t,ev,cv,w,h,hw,hle=>by
  obtain⟨h1,rfl⟩:=h.leaf
  have hk:Sq.NodeF.kids t=[]:=by
   cases hq:Sq.NodeF.kids t with
   | nil=>rfl
   | cons c _=>exact c.elim
  refine jQhC (Z:=Z) 0 (headN 0 t) (Sq.NodeF.ents t) [] ev (.slice none 0 0) (fun _=>[]) (Sq.placesN 0 t) w h1 ⟨World.ownsRow_nil _ _ _ _,fun x hx=>by cases hx⟩ (by simp) hw ?_ hle (fun x hx=>by cases hx);show Sq.placesF _ _ t=_;unfold Sq.placesF;rw[hk];rfl
 | n+1,t,ev,cv,w,h,hw,hle=>by
  obtain⟨h1,l,h2,h3⟩:=h.inner;have ha:l.length<=255:=by have:=hw.2.1;rw[h2,List.length_map] at this;exact this
  have he:Sq.placesN (n+1) t=(Sq.NodeF.ents t).map Sq.Ent.place++(l.map Prod.fst).flatMap fun c=>if isShut (headN n c) then[(headN n c).least] else Sq.placesN n c:=by
   show Sq.placesF _ _ t=_;unfold Sq.placesF;rw[h2]
  refine jQhC (Z:=Z) n (headN (n+1) t) (Sq.NodeF.ents t) l ev cv (Sq.placesN n) (Sq.placesN (n+1) t) w h1 h3 ha hw.1 he hle (fun x hx w' hn hs=>jQhD n x.1 x.2.1 x.2.2 w' hn (hw.2.2 x.1 (by rw[h2];exact List.mem_map_of_mem hx)) ?_)
  have:=jQnN (fun c=>if isShut (headN n c) then[(headN n c).least] else Sq.placesN n c) (l.map Prod.fst) x.1 (List.mem_map_of_mem hx)
  rw[he,List.length_append] at hle;simp only[hs] at this;simp at this hle;omega
end
section
open Go.RowKit
variable {Z:Nat->Prop}
namespace Sq
theorem jQkZ:∀(n:Nat) (s:ByteArray) (l q:Int),placesN n (shutN n s l q)=[]
 | 0,_,_,_=>rfl
 | _+1,_,_,_=>rfl
theorem jQeJ {n wide:Nat}(hr:∀r,(placesN n (readN wide n r).1).length+255*(readN wide n r).2.rest.size<=255*r.rest.size) :
  ∀(k:Nat) (r:Rd),((kidsR (headN n) (shutN n) (readN wide n) k r).1.flatMap fun c=>if isShut (headN n c) then[(headN n c).least] else placesN n c).length+255*(kidsR (headN n) (shutN n) (readN wide n) k r).2.rest.size<=k+255*r.rest.size
 | 0,r=>by show 0+_<=_;simp[kidsR]
 | k+1,r=>by
  have h1:=jQp r 5;have h2:=jQp (takeN r 5) 1;have h3:=hr (takeN (takeN r 5) 1)
  have h4:(placesN n (kidFix (headN n) (shutN n) (numV r 5) (numV (takeN r 5) 1) (readN wide n (takeN (takeN r 5) 1))).1).length+255*(kidFix (headN n) (shutN n) (numV r 5) (numV (takeN r 5) 1) (readN wide n (takeN (takeN r 5) 1))).2.rest.size<=255*r.rest.size:=by
   unfold kidFix
   split
   ·show(placesN n (shutN n _ _ _)).length+_<=_
    rw[jQkZ];simp only[List.length_nil];show 0+255*(readN wide n (takeN (takeN r 5) 1)).2.rest.size<=_;omega
   ·split
    ·omega
    ·show(placesN n (readN wide n (takeN (takeN r 5) 1)).1).length+255*(readN wide n (takeN (takeN r 5) 1)).2.rest.size<=_
     omega
  have h5:=jQeJ hr k (kidFix (headN n) (shutN n) (numV r 5) (numV (takeN r 5) 1) (readN wide n (takeN (takeN r 5) 1))).2;rw[jQcK];simp only[List.flatMap_cons,List.length_append]
  have h6:∀c:Nd n,(if isShut (headN n c) then[(headN n c).least] else placesN n c).length<=1+(placesN n c).length:=fun c=>by
   split
   ·simp
   ·omega
  have h7:=h6 (kidFix (headN n) (shutN n) (numV r 5) (numV (takeN r 5) 1) (readN wide n (takeN (takeN r 5) 1))).1;omega
theorem jQen (wide:Nat):∀(n:Nat) (r:Rd),(placesN n (readN wide n r).1).length+255*(readN wide n r).2.rest.size<=255*r.rest.size
 | 0,r=>by
  have h1:=jQp r 1;have h2:=jQp (takeN r 1) wide;show 0+255*(takeN (takeN r 1) wide).rest.size<=_;omega
 | n+1,r=>by
  have h1:=jQp r 1
  show(placesN (n+1) (readF wide (headN n) (shutN n) (readN wide n) r).1).length+255*(readF wide (headN n) (shutN n) (readN wide n) r).2.rest.size<=_
  unfold readF
  split
  ·have h2:=jQp (takeN r 1) wide;show 0+255*(takeN (takeN r 1) wide).rest.size<=_;omega
  ·rename_i hk;have h4:=jQp (takeN r 1) 1;have h5:=jQc5 (takeN r 1)
   split
   ·obtain⟨e1,e2,e3⟩:=jQb5 (numV (takeN r 1) 1).toNat (takeN (takeN r 1) 1)
    show((entsR (numV (takeN r 1) 1).toNat (takeN (takeN r 1) 1)).1.map Ent.place++[]).length+255*(entsR (numV (takeN r 1) 1).toNat (takeN (takeN r 1) 1)).2.rest.size<=_
    rw[List.append_nil,List.length_map,e1];omega
   ·split
    ·have h6:=jQeJ (wide:=wide) (fun r=>jQen wide n r) (numV (takeN r 1) 1).toNat (takeN (takeN r 1) 1)
     show([]++(kidsR (headN n) (shutN n) (readN wide n) (numV (takeN r 1) 1).toNat (takeN (takeN r 1) 1)).1.flatMap fun c=>if isShut (headN n c) then[(headN n c).least] else placesN n c).length+255*(kidsR (headN n) (shutN n) (readN wide n) (numV (takeN r 1) 1).toNat (takeN (takeN r 1) 1)).2.rest.size<=_
     rw[List.nil_append];omega
    ·show 0+255*(takeN r 1).rest.size<=_;omega
end Sq
theorem jQpJ (n:Nat)(t:Nd n)(ev cv:Value)(w:World)(ht:NodeAt Z w n t ev cv)(hw:Sq.wideN n t)(hn:n<=1000000)(hp:(Sq.placesN n t).length<=1000000000) :
  Calls Tryz.prog 62 #[.agg (headCells (headN n t) ev cv).toArray] w fun e w'=>e=.returned (.bool (Sq.canBeN n t))/\Below w.heap.size w w':=by
 obtain⟨⟨ea,el,ec,rfl⟩,ca,cl,cc,rfl⟩:=ht.slices;obtain⟨h,hh⟩:∃h,h=headN n t:=⟨_,rfl⟩;have c1:∀(w':World),Below w.heap.size w w'->Calls Tryz.prog 94 #[.agg (headCells h (.slice ea el ec) (.slice ca cl cc)).toArray,.int .i64 ((if h.inner then 2 else 0:Nat):Int)] w' fun e w''=>e=.returned (.bool (Sq.sizedN n (if h.inner then 2 else 0) t))/\Below w'.heap.size w' w'':=fun w' hb=>by rw[hh];exact jQjJ n t _ _ _ w' (ht.below hb) hw (by split<;>omega)
 have c2:∀(w':World),Below w.heap.size w w'->Calls Tryz.prog 96 #[.agg (headCells h (.slice ea el ec) (.slice ca cl cc)).toArray] w' (PlsSays (Sq.placesN n t) w'):=fun w' hb=>by rw[hh];exact jQhD n t _ _ w' (ht.below hb) hw hp
 have c3:∀(w':World),Below w.heap.size w w'->Calls Tryz.prog 97 #[.agg (headCells h (.slice ea el ec) (.slice ca cl cc)).toArray] w' fun e w''=>e=.returned (.bool (Sq.levelB (Sq.noteN n t 0 ⟨-1,-1,-1⟩)))/\Below w'.heap.size w' w'':=fun w' hb=>by rw[hh];exact jQlb n t _ _ w' (ht.below hb) hw hn
 have hg:Sq.canBeN n t=(Sq.sizedN n (if h.inner then 2 else 0) t&&Sq.risingB (Sq.placesN n t)&&Sq.levelB (Sq.noteN n t 0 ⟨-1,-1,-1⟩)):=by rw[hh];rfl
 rw[<-hh,hg];obtain⟨pl,hpl⟩:∃y,y=Sq.placesN n t:=⟨_,rfl⟩;rw[<-hpl] at c2 hp ⊢;obtain⟨b1,hb1⟩:∃y,y=Sq.sizedN n (if h.inner then 2 else 0) t:=⟨_,rfl⟩;rw[<-hb1] at c1 ⊢;obtain⟨b3,hb3⟩:∃y,y=Sq.levelB (Sq.noteN n t 0 ⟨-1,-1,-1⟩):=⟨_,rfl⟩;rw[<-hb3] at c3 ⊢;obtain⟨b2,hb2⟩:∃y,y=Sq.risingB pl:=⟨_,rfl⟩;rw[<-hb2];have c4:∀(v:Value) (B:Nat) (w':World),PlsAt B w' v pl->Calls Tryz.prog 95 #[v] w' fun e w''=>e=.returned (.bool b2)/\Below w'.heap.size w' w'':=fun v B w' hv=>by rw[hb2];exact jQmu pl v B w' hv hp
 rw[jQc] at c1 c2 c3 ⊢;have C1:=hd c1;have C2:=hd c2;have C3:=hd c3;have C4:=hd c4;clear c1 c2 c3 c4 hg hb1 hb2 hb3 hpl ht hh hw hn;obtain⟨W,hWW⟩:∃W,W=w.alloc (.cells #[.bool h.inner,.slice ea el ec,.slice ca cl cc,.int .i64 h.least,.int .i64 h.rows,.string h.sl,.int .i64 h.num] 60):=⟨_,rfl⟩;have hW:Below w.heap.size w W:=by rw[hWW];exact(bR).alloc (nR) _
 have hf:W.heap[w.heap.size]?=some (.cells #[.bool h.inner,.slice ea el ec,.slice ca cl cc,.int .i64 h.least,.int .i64 h.rows,.string h.sl,.int .i64 h.num] 60):=by rw[hWW];exact jQi w _
 have hi:=hd hf;have HB:=hd hW;have hz:=jQf hf;clear hW hf;cases hin:h.inner
 all_goals
  rw[hin] at hWW;have hm:=C1.o;rw[hin] at hm;simp only[if_true,if_false,Bool.false_eq_true] at hm;have C1':=hd hm;have hk:=hi.o;rw[hin] at hk;have HK:=hd hk;have hq:=C2.o;have ho:=C3.o;rw[hin] at hq ho;have C2':=hd hq;have C3':=hd ho;clear hm C1 hk hi hq ho C2 C3;go_enter Tryz.func62,Tryz.ntmps62;go_wp2_with fail;rw[<-hWW];clear hWW;refine(C1'.o W HB.o).mono ?_;rintro e w1 ⟨rfl,hb1⟩;have ha:=(hb1.block _ hz).trans HK.o;have hy:=hd ha;have hA:=jQf ha;have hj:=hd (HB.o.trans (hb1.mono HB.o.size));have m0:=jQb ha 0;have m1:=jQb ha 1;have m2:=jQb ha 2;have m3:=jQb ha 3;have m4:=jQb ha 4;have m5:=jQb ha 5;have m6:=jQb ha 6;simp at m0 m1 m2 m3 m4 m5 m6;clear hb1 ha C1';cases b1
  ·go_wp2;go_ret;exact⟨rfl,hj.o⟩
  ·go_wp2_with fail;refine(C2'.o w1 hj.o).mono ?_;rintro e w2 ⟨v2,rfl,ho2,-,hb2⟩;obtain⟨po,pcap,rfl⟩:=jQa ho2;have hr:=hd ho2;have he:=(hb2.block _ hA).trans hy.o;have hx:=hd he;have hB:=jQf he;have hs:=hd (hj.o.trans (hb2.mono hj.o.size));clear hb2 he m0 m1 m2 m3 m4 m5 m6 C2' ho2;go_wp2_with fail;refine(C4.o _ _ w2 hr.o).mono ?_;rintro e w3 ⟨rfl,hb3⟩;have hc:=(hb3.block _ hB).trans hx.o;have hC:=jQf hc;have hl:=hd (hs.o.trans (hb3.mono hs.o.size));have m0:=jQb hc 0;have m1:=jQb hc 1;have m2:=jQb hc 2;have m3:=jQb hc 3;have m4:=jQb hc 4;have m5:=jQb hc 5;have m6:=jQb hc 6;simp at m0 m1 m2 m3 m4 m5 m6;clear hb3 hc C4 hr;cases b2
   ·go_wp2;go_ret;exact⟨rfl,hl.o⟩
   ·go_wp2_with fail;refine(C3'.o w3 hl.o).mono ?_;rintro e w4 ⟨rfl,hb4⟩;have hu:=hd (hl.o.trans (hb4.mono hl.o.size));clear hb4 m0 m1 m2 m3 m4 m5 m6;go_wp2;go_ret;exact⟨by simp,hu.o⟩
end
namespace Sq
def posN:(n:Nat)->Nd n->Prop
 | 0,t=>0<(NodeF.hd t).num
 | n+1,t=>0<(NodeF.hd t).num/\∀c∈NodeF.kids t,posN n c
theorem jQmI:∀(n:Nat) (t:Nd n) (k:Int),0<k->posN n (numN n t k).1/\k<(numN n t k).2
 | 0,t,k,h=>by
  have hk:NodeF.kids t=[]:=by
   cases hk:NodeF.kids t with
   | nil=>rfl
   | cons e _=>exact e.elim
  refine⟨h,?_⟩;show k<(numbL _ (NodeF.kids t) (k+1)).2;rw[hk,numbL];show k<k+1;omega
 | n+1,t,k,h=>by
  have hl:∀(l:List (Nd n)) (j:Int),0<j->(∀c∈(numbL (numN n) l j).1,posN n c)/\j<=(numbL (numN n) l j).2:=by
   intro l
   induction l with
   | nil=>intro j _;exact⟨(fun c hc=>(by cases hc)),Int.le_refl _⟩
   | cons c r ih =>
    intro j hj;have h1:=jQmI n c j hj;have h2:=ih (numN n c j).2 (by omega);rw[numbL];refine⟨fun x hx=>?_,by have:=h1.2;have:=h2.2;show j<=(numbL (numN n) r (numN n c j).2).2;omega⟩;rcases List.mem_cons.1 hx with rfl | hx
    ·exact h1.1
    ·exact h2.1 x hx
  have h1:=hl (NodeF.kids t) (k+1) (by omega);refine⟨⟨h,h1.1⟩,?_⟩
  have:=h1.2
  show k<(numbL (numN n) (NodeF.kids t) (k+1)).2;omega
theorem reps.mem {n:Nat}{l:List (Nd n)}{cs:List (List (Kid n))}(h:reps n l cs){c:Nd n}(hc:c∈l):∃x∈cs,rep n c x:=by
 obtain⟨i,hi⟩:=List.getElem?_of_mem hc;obtain⟨x,hx,hr⟩:=h.at hi;exact⟨x,List.mem_of_getElem? hx,hr⟩
theorem jQgF:∀(n:Nat) (x:List (Kid n)),okT n x->x≠[]->∃e r,ents n x=e::r/\e.place=least n x
 | 0,[],_,h=>absurd rfl h
 | 0,e::r,_,_=>⟨e,r,rfl,rfl⟩
 | n+1,[],_,h=>absurd rfl h
 | n+1,c::cs,ho,_=>by
  have h1:=jQ0 (n:=n) (cs:=c::cs) ho (c:=c) (by simp);obtain⟨e,r,he,hl⟩:=jQgF n c h1.2 (jQad h1.1);refine⟨e,r++List.flatMap (ents n) cs,?_,hl⟩;show List.flatMap (ents n) (c::cs)=_;rw[List.flatMap_cons,he];rfl
structure fine (n:Nat)(x:List (Kid n)):Prop where
 kids:okT n x
 full:fullT n x
 rows:∀e∈ents n x,okEnt e/\e.row.size<=50
 few:(ents n x).length<=60
theorem fine.kid {n:Nat}{cs:List (List (Kid n))}(h:fine (n+1) cs){c:List (Kid n)}(hc:c∈cs):fine n c/\2<=c.length:=by
 have h1:=jQ0 h.kids hc;have h2:∀e∈ents n c,e∈ents (n+1) cs:=fun e he=>List.mem_flatMap.2 ⟨c,hc,he⟩
 have h3:(ents n c).length<=(ents (n+1) cs).length:=by
  obtain⟨l1,l2,rfl⟩:=List.append_of_mem hc;show _<=(List.flatMap (ents n) (l1++c::l2)).length;rw[List.flatMap_append,List.flatMap_cons];simp only[List.length_append];omega
 exact⟨⟨h1.2,h.full.2 c hc,fun e he=>h.rows e (h2 e he),Nat.le_trans h3 h.few⟩,h1.1⟩
theorem jQro {n:Nat}{c:Nd n}{x:List (Kid n)}(h:rep n c x)(hf:fine n x)(h2:2<=x.length):0<=(headN n c).least/\(headN n c).least<1099511627776/\0<=(headN n c).rows/\(headN n c).rows<256:=by
 obtain⟨-,h3,h4,-⟩:=h.head;obtain⟨e,r,he,hl⟩:=jQgF n x hf.kids (jQad h2);have h5:=(hf.rows e (by rw[he];simp)).1;have h6:=hf.few;rw[h3,h4,<-hl];exact⟨h5.1,h5.2.1,by omega,by omega⟩
theorem jQmv:∀(n:Nat) (t:Nd n) (x:List (Kid n)),rep n t x->fine n x->posN n t->okW n t
 | 0,t,x,h,hf,hp=>by
  obtain⟨h1,h2,-⟩:=rep.leaf h;obtain⟨-,h3,h4,-⟩:=h.head;have h5:List.length (α:=Ent) x<=4:=hf.full;refine⟨h.open,h1,by rw[h2];omega,by rw[h2];exact fun e he=>(hf.rows e he).1,?_,by rw[h2];exact h4,hp⟩;rw[h2];refine Eq.trans h3 ?_;cases x<;>rfl
 | n+1,t,x,h,hf,hp=>by
  obtain⟨h1,h2,h3⟩:=rep.inner h;have hh:=jQfT h3;have ht:=jQdQ (n+1) x;obtain⟨-,g1,g2,-⟩:=h.head;have h5:List.length (α:=List (Kid n)) x<=4:=hf.full.1;have e1:firstLeast (headN n) (NodeF.kids t)=least (n+1) x:=(congrArg Head.least hh).trans (congrArg Head.least ht);have e2:sumRows2 (headN n) (NodeF.kids t)=((ents (n+1) x).length:Nat):=(congrArg Head.rows hh).trans (congrArg Head.rows ht);refine⟨h.open,h1,h2,by rw[h3.len];exact Nat.lt_of_le_of_lt h5 (by decide),Eq.trans g1 e1.symm,Eq.trans g2 e2.symm,hp.1,fun c hc=>?_⟩;obtain⟨y,hy,hr⟩:=h3.mem hc;have hk:=hf.kid hy;exact⟨jQmv n c y hr hk.1 (hp.2 c hc),jQro hr hk.1 hk.2⟩
theorem jQmx:∀(n:Nat) (t:Nd n) (x:List (Kid n)) (l:Nat),rep n t x->fine n x->l<=x.length->fitS n l t
 | 0,t,x,l,h,hf,hl=>by
  have h1:sizeF t=x.length:=jQiG 0 t x h;have h5:List.length (α:=Ent) x<=4:=hf.full;exact⟨by rw[h1];exact hl,by rw[h1];exact h5⟩
 | n+1,t,x,l,h,hf,hl=>by
  have h1:sizeF t=x.length:=jQiG (n+1) t x h;have h5:List.length (α:=List (Kid n)) x<=4:=hf.full.1;refine⟨by rw[h1];exact hl,by rw[h1];exact h5,fun c hc=>?_⟩;obtain⟨y,hy,hr⟩:=(rep.inner h).2.2.mem hc;have hk:=hf.kid hy;exact jQmx n c y 2 hr hk.1 hk.2
theorem jQmw:∀(n:Nat) (t:Nd n) (x:List (Kid n)),rep n t x->flatN n t
 | 0,t,x,h=>(rep.leaf h).1
 | n+1,t,x,h=>⟨(rep.inner h).1,fun c hc=>by
   obtain⟨y,-,hr⟩:=(rep.inner h).2.2.mem hc;exact jQmw n c y hr⟩
theorem jQej:∀(n:Nat) (t:Nd n) (x:List (Kid n)),rep n t x->placesN n t=(ents n x).map Ent.place
 | 0,t,x,h=>by
  obtain⟨-,h2,h3⟩:=rep.leaf h;show placesF _ _ t=_;unfold placesF;rw[h2,h3];show List.map Ent.place x++[]=_;rw[List.append_nil];rfl
 | n+1,t,x,h=>by
  obtain⟨-,h2,h3⟩:=rep.inner h;show placesF (headN n) (placesN n) t=_;unfold placesF;rw[h2]
  show[]++(NodeF.kids t).flatMap _=List.map Ent.place (List.flatMap (ents n) (show List (List (Kid n)) from x))
  rw[List.nil_append]
  have hl:∀(l:List (Nd n)) (cs:List (List (Kid n))),reps n l cs->(l.flatMap fun c=>if isShut (headN n c) then[(headN n c).least] else placesN n c)=List.map Ent.place (cs.flatMap (ents n)):=by
   intro l
   induction l with
   | nil =>
    intro cs hr;cases cs with
    | nil=>rfl
    | cons y cs=>have:=hr.len;simp at this
   | cons c l ih =>
    intro cs hr;cases cs with
    | nil=>have:=hr.len;simp at this
    | cons y cs =>
     obtain⟨k1,k2⟩:=reps.cons.1 hr;rw[List.flatMap_cons,List.flatMap_cons,List.map_append,ih cs k2,k1.open,if_neg (by simp),jQej n c y k1]
  exact hl _ _ h3
theorem jQjO:∀(n:Nat) (t:Nd n) (x:List (Kid n)),rep n t x->fine n x->firstP n t
 | 0,_,_,_,_=>trivial
 | n+1,t,x,h,hf=>fun c hc=>by
   obtain⟨y,hy,hr⟩:=(rep.inner h).2.2.mem hc;have hk:=hf.kid hy;refine⟨?_,jQjO n c y hr hk.1⟩;obtain⟨e,r,he,hl⟩:=jQgF n y hk.1.kids (jQad hk.2);rw[jQej n c y hr,hr.head.2.1,he,List.map_cons,hl];exact List.Sublist.cons_cons _ (List.nil_sublist _)
theorem jQhB {n:Nat}{x:List (Kid n)}(h:srt (ents n x)):((ents n x).map Ent.place).Pairwise (· < ·):=by
 rw[List.pairwise_map];exact h
end Sq
namespace Sq
theorem jQnU (e:Ent):(entBytes e).size=e.row.size+6:=by
 unfold entBytes txt;rw[jQm,jQm,jQt,jQt];omega
theorem jQiV (h:Head)(b:ByteArray):(kidBytes h b).size=b.size+6:=by
 unfold kidBytes;rw[jQm,jQm,jQt,jQt];omega
theorem jQgK:∀es:List Ent,(∀e∈es,e.row.size<=50)->(catB (es.map entBytes)).size<=56*es.length
 | [],_=>by show(0:Nat)<=_;omega
 | e::es,h=>by
  have h1:=jQgK es fun x hx=>h x (by simp[hx])
  have h2:=h e (by simp);rw[List.map_cons,jQbL,jQm,jQnU,List.length_cons];omega
theorem jQpi {H:ByteArray->ByteArray}{wide:Nat}(hH:∀b,(H b).size=wide)(hw:wide<=32)(tr:Trl)(t:Nd 0)(x:List (Kid 0))(h:rep 0 t x)(hf:fine 0 x):(writeN H tr 0 t).size<=33+56*(ents 0 x).length:=by
 obtain⟨h1,h2,h3⟩:=rep.leaf h
 show(writeF _ _ _ tr t).size<=_
 unfold writeF
 split
 ·rw[jQa0,jQm,jQm,jQm,jQt,jQt,h2,h3];have h4:=jQgK x fun e he=>(hf.rows e he).2
  have h5:List.length (α:=Ent) x=(ents 0 x).length:=rfl;have h6:(catB ([]:List ByteArray)).size=0:=rfl;rw[List.map_nil,h6];omega
 ·rw[jQm,jQt,jQaX hH h.open];omega
theorem jQmU:∀{n:Nat} {t:List (Kid n)},okT n t->t.length<=(ents n t).length
 | 0,_,_=>nR
 | n+1,cs,h=>by
  show List.length cs<=(List.flatMap (ents n) cs).length
  have:∀l:List (List (Kid n)),(∀c∈l,c∈(show List (List (Kid n)) from cs))->l.length<=(l.flatMap (ents n)).length:=by
   intro l
   induction l with
   | nil=>intro _;simp
   | cons c r ih =>
    intro hl;have h2:=jQ0 h (hl c (by simp));have h3:=jQmU h2.2;have h4:=ih fun x hx=>hl x (by simp[hx])
    rw[List.flatMap_cons,List.length_append,List.length_cons];omega
  exact this cs fun c hc=>hc
theorem jQg6 {H:ByteArray->ByteArray}{wide:Nat}(hH:∀b,(H b).size=wide)(hw:wide<=32)(tr:Trl):∀(n:Nat) (t:Nd n) (x:List (Kid n)),rep n t x->fine n x->2<=x.length->(writeN H tr n t).size+14<=64*(ents n x).length
 | 0,t,x,h,hf,h2=>by
  have h5:List.length (α:=Ent) x=(ents 0 x).length:=rfl;obtain⟨g1,g2,g3⟩:=rep.leaf h
  show(writeF _ _ _ tr t).size+14<=_
  unfold writeF
  split
  ·rw[jQa0,jQm,jQm,jQm,jQt,jQt,g2,g3];have h4:=jQgK x fun e he=>(hf.rows e he).2
   have h6:(catB ([]:List ByteArray)).size=0:=rfl;rw[List.map_nil,h6];omega
  ·rw[jQm,jQt,jQaX hH h.open];omega
 | n+1,t,x,h,hf,h2=>by
  obtain⟨g1,g2,g3⟩:=rep.inner h;have ha:=jQmU hf.kids
  show(writeF (headN n) (writeN H tr n) _ tr t).size+14<=_
  unfold writeF
  split
  ·rw[jQa0,jQm,jQm,jQm,jQt,jQt,g2];have h6:(catB ([]:List ByteArray)).size=0:=rfl;rw[List.map_nil,h6]
   have hl:∀(l:List (Nd n)) (cs:List (List (Kid n))),reps n l cs->(∀c∈cs,fine n c/\2<=c.length)->(catB (l.map fun c=>kidBytes (headN n c) (writeN H tr n c))).size+8*cs.length<=64*(cs.flatMap (ents n)).length:=by
    intro l
    induction l with
    | nil =>
     intro cs hr hc;cases cs with
     | nil=>show(0:Nat)+0<=_;omega
     | cons y cs=>have:=hr.len;simp at this
    | cons c l ih =>
     intro cs hr hc;cases cs with
     | nil=>have:=hr.len;simp at this
     | cons y cs =>
      obtain⟨k1,k2⟩:=reps.cons.1 hr;have h7:=ih cs k2 fun z hz=>hc z (by simp[hz])
      have h8:=hc y (by simp);have h9:=jQg6 hH hw tr n c y k1 h8.1 h8.2;rw[List.map_cons,jQbL,jQm,jQiV,List.length_cons,List.flatMap_cons,List.length_append];omega
   have h7:=hl (NodeF.kids t) x g3 fun c hc=>hf.kid hc
   have h8:(List.flatMap (ents n) (show List (List (Kid n)) from x)).length=(ents (n+1) x).length:=rfl;have h9:List.length (α:=List (Kid n)) x=x.length:=rfl;have hb:(List.flatMap (ents n) x).length=(ents (n+1) x).length:=rfl;omega
  ·rw[jQm,jQt,jQaX hH h.open];have h9:List.length (α:=List (Kid n)) x=x.length:=rfl;omega
theorem jQhA {H:ByteArray->ByteArray}{wide:Nat}(hH:∀b,(H b).size=wide)(hw:wide<=32)(tr:Trl)(n:Nat)(t:Nd n)(x:List (Kid n))(h:rep n t x)(hf:fine n x)(h2:n=0\/2<=x.length):(writeN H tr n t).size<=6000:=by
 have h3:=hf.few;rcases h2 with rfl | h2
 ·have:=jQpi hH hw tr t x h hf
  omega
 ·have:=jQg6 hH hw tr n t x h hf h2
  omega
def readTop (wide:Nat)(text:ByteArray):Option NTree :=
 if 1<=wide/\wide<=32/\text.size<=6000 then
  (if doneR (readN wide text.size ⟨text,false⟩).2&&canBeN text.size (readN wide text.size ⟨text,false⟩).1 then some ⟨text.size,(readN wide text.size ⟨text,false⟩).1⟩ else none)
 else none
def checkR (H:ByteArray->ByteArray)(wide:Nat)(root sql reply proof:ByteArray):ByteArray×Bool :=
 match readTop wide proof with
 | none=>(nobytes,false)
 | some P =>
  if digN H P.d P.t≠root then(nobytes,false)
  else if(runR P sql ⟨false,[]⟩).2.2.lost=true\/(runR P sql ⟨false,[]⟩).1≠reply then(nobytes,false)
  else(digN H (runR P sql ⟨false,[]⟩).2.1.d (runR P sql ⟨false,[]⟩).2.1.t,true)
theorem jQnY:doneR ⟨nobytes,false⟩=true:=by decide +kernel
theorem jQkC (b:ByteArray):b++nobytes=b:=by
 apply ByteArray.ext;simp[nobytes]
theorem jQh0 {X:NTree}{sql:ByteArray}(h:(parse sql).1=0)(hp:0<X.head.num):X.head.num∈(runR X sql ⟨false,[]⟩).2.2.nums:=by
 have h1:grows (touchR ⟨false,[]⟩ X.head) (X.thru (placeOf 0 (-2147483648)) (placeOf 0 2147483647) ⟨false,[]⟩).2:=by
  obtain⟨n,t⟩:=X;cases n with
  | zero=>exact jQa6 (fun a=>a.elim) t _ _ _
  | succ n=>exact jQa6 (fun a lo hi tr=>jQa5 n a lo hi tr) t _ _ _
 have h2:grows (X.thru (placeOf 0 (-2147483648)) (placeOf 0 2147483647) ⟨false,[]⟩).2 (decideR X sql ⟨false,[]⟩).2:=by
  unfold decideR;rw[if_neg (by rw[h];simp)];exact(jQh2 _ _).trans (jQcb X (parse sql).2 (tabsR X ⟨false,[]⟩).1 (tabsR X ⟨false,[]⟩).2)
 exact(h1.trans (h2.trans (jQcl _ (X,(decideR X sql ⟨false,[]⟩).2)))) _ (jQgd _ _ hp)
theorem jQqn (n:Nat)(sl:ByteArray)(h:sl.size≠0):canBeN n (shutN n sl 0 0)=true:=by
 have hs:isShut (⟨false,0,0,sl,0⟩:Head)=true:=by unfold isShut;simpa using h
 cases n with
 | zero =>
  show(sizedF _ _ (shutF sl 0 0)&&risingB (placesF _ _ (shutF sl 0 0))&&levelB (noteF _ (shutF sl 0 0) 0 ⟨-1,-1,-1⟩))=true
  unfold sizedF noteF;rw[show(shutF (α:=Empty) sl 0 0).hd=⟨false,0,0,sl,0⟩ from rfl,hs];rfl
 | succ n =>
  show(sizedF _ _ (shutF sl 0 0)&&risingB (placesF _ _ (shutF sl 0 0))&&levelB (noteF _ (shutF sl 0 0) 0 ⟨-1,-1,-1⟩))=true
  unfold sizedF noteF;rw[show(shutF (α:=Nd n) sl 0 0).hd=⟨false,0,0,sl,0⟩ from rfl,hs];rfl
theorem jQqX (H:ByteArray->ByteArray)(n:Nat)(sl:ByteArray)(l r:Int)(h:sl.size≠0):digN H n (shutN n sl l r)=sl:=by
 have hs:isShut (⟨false,l,r,sl,0⟩:Head)=true:=by unfold isShut;simpa using h
 cases n with
 | zero =>
  show digF H _ _ (shutF sl l r)=sl;unfold digF;rw[show(shutF (α:=Empty) sl l r).hd=⟨false,l,r,sl,0⟩ from rfl,hs];rfl
 | succ n =>
  show digF H _ _ (shutF sl l r)=sl;unfold digF;rw[show(shutF (α:=Nd n) sl l r).hd=⟨false,l,r,sl,0⟩ from rfl,hs];rfl
theorem jQpU {X:NTree}{sql:ByteArray}{tr:Trl}(h:(parse sql).1≠0):runR X sql tr=(errText (parse sql).1,X,tr):=by
 unfold runR decideR;rw[if_pos (by simpa using h)];rfl
theorem jQnF {H:ByteArray->ByteArray}{Q:Head->Prop}:∀{m n:Nat} {p:Nd m} {t:Nd n},RN H Q m n p t->isShut (headN m p)=false->(headN m p).inner=(headN n t).inner
 | 0,0,_,_,h,hs=>(RF.open_ h hs).1
 | 0,_+1,_,_,h,hs=>(RF.open_ h hs).1
 | _+1,0,_,_,h,hs=>(RF.open_ h hs).1
 | _+1,_+1,_,_,h,hs=>(RF.open_ h hs).1
theorem jQkF {H:ByteArray->ByteArray}{wide:Nat}(hH:∀b,(H b).size=wide)(hw1:1<=wide)(hw2:wide<=32){X:NTree}{x:Tree}(hr:repT X x)(hok:x.ok)(hfine:fine x.d x.t)(hpos:posN X.d X.t)(sql:ByteArray)(hl:(decideR X sql ⟨false,[]⟩).2.lost=false) :
  checkR H wide (digN H X.d X.t) sql (runR X sql ⟨false,[]⟩).1 (writeN H (runR X sql ⟨false,[]⟩).2.2 X.d X.t)=(digN H (runR X sql ⟨false,[]⟩).2.1.d (runR X sql ⟨false,[]⟩).2.1.t,true):=by
 obtain⟨n,t,y,rfl,rfl,hrep⟩:=hr.cases
 dsimp only at hfine hpos
 have hW:=jQmv n t y hrep hfine hpos;have hm:=jQhA hH hw2 (runR ⟨n,t⟩ sql ⟨false,[]⟩).2.2 n t y hrep hfine hok.two;have hj:=hW.whole;have ho:=jQaX hH (n:=n) (t:=t) hj.1;generalize htr:(runR ⟨n,t⟩ sql ⟨false,[]⟩).2.2=tr at *;obtain⟨p,hp,hp1,hp2⟩:=jQek hH hw1 tr n t (writeN H tr n t).size nobytes hW (by rw[jQkC];exact nR);rw[jQkC] at hp;show checkR H wide (digN H n t) sql (runR ⟨n,t⟩ sql ⟨false,[]⟩).1 (writeN H tr n t)=_;cases hT:touchedR tr (headN n t) with
 | true =>
  obtain⟨q1,q2⟩:=hp1 hT;have hh:RT H (apart tr.nums) ⟨(writeN H tr n t).size,p⟩ ⟨n,t⟩:=q1
  have hf:canBeN (writeN H tr n t).size p=true:=by
   refine jQpI q1 q2 ?_ (jQjO n t y hrep hfine) (jQmw n t y hrep) ?_ (jQnF q1 q2)
   ·refine jQmx n t y _ hrep hfine ?_
    split
    ·rename_i hi;rcases hok.two with h0 | h0
     ·dsimp only at h0
      subst h0
      have:=(rep.leaf hrep).1
      rw[show headN 0 t=NodeF.hd t from rfl,this] at hi;cases hi
     ·exact h0
    ·exact zR
   ·rw[jQej n t y hrep];exact jQhB hok.sorted
  have hc:readTop wide (writeN H tr n t)=some ⟨(writeN H tr n t).size,p⟩:=by
   unfold readTop;rw[if_pos ⟨hw1,hw2,hm⟩,hp,jQnY,hf];rfl
  have hb:=jQoY hh sql ⟨false,[]⟩ ⟨false,[]⟩ rfl hl (by rw[htr];exact fun k hk=>hk);have he:=jQqp hh sql ⟨false,[]⟩ ⟨false,[]⟩ hb;unfold checkR;rw[hc]
  dsimp only
  rw[if_neg (by rw[jQi4 H _ _ _ _ _ q1];simp),if_neg (by rw[hb,he.1];simp),he.2.dig]
 | false =>
  have hn:=hp2 hT;have hg:(digN H n t).size≠0:=by rw[ho];omega
  have ha:(parse sql).1≠0:=by
   intro h0;have h1:=jQh0 (X:=⟨n,t⟩) h0 hj.2;rw[htr] at h1;unfold touchedR at hT;rw[List.any_eq_false] at hT;exact hT _ h1 (by simp[NTree.head])
  have hc:readTop wide (writeN H tr n t)=some ⟨(writeN H tr n t).size,p⟩:=by
   unfold readTop;rw[if_pos ⟨hw1,hw2,hm⟩,hp,jQnY,hn,jQqn _ _ hg];rfl
  unfold checkR;rw[hc]
  dsimp only
  rw[jQpU ha,jQpU ha,hn,jQqX H _ _ _ _ hg];simp
end Sq
section
open Go.RowKit
theorem Tryz.infoColR:(Tryz.prog.info? 205).map (fun i=>(i.zero,i.size,i.bytes))=some (some (.agg #[.string ⟨#[]⟩,.int .i64 0]),2,24):=by kernel_rfl
def ColsNew (B:Nat)(w:World)(v:Value)(l:List Sq.Col):Prop:=w.ownsRow B 205 2 v l.length (l.flatMap Sq.Col.cells)
theorem jQ5 {ops:Array Oper}{rest:List Oper}{o:Oper}{a:Act}{Q:Exit->Act->World->Prop}{w:World}(hgd:o.guard=none)(sl x:Operand)
  (ho:o.op=.call { callee:=.builtin .append,args:=#[sl,x],argTypes:=#[92,92] }) (B:Nat) (v:Value) (l:List Sq.Col) (hs:a.eval sl=v) (hb:ColsNew B w v l)
  (c:Sq.Col) (g cc:Nat) (hx:a.eval x=.slice (some ⟨g,0,none⟩) 1 cc) (hc0:w.cell? ⟨g,0,none⟩=some (.string c.name)) (hc1:w.cell? ⟨g,1,none⟩=some (.int .i64 c.kind)) (h1:l.length+1<=1000000) (hB:B<=w.heap.size)
  (h:∀v' w',ColsNew B w' v' (l++[c])->w.grownBy w' v.ownBlock->wpList Tryz.prog ops Q rest (a.put o.dst v') w'):wpList Tryz.prog ops Q (o::rest) a w:=by
 obtain⟨i0,hi,hz0,hz1,hz2⟩:=info_parts Tryz.infoColR
 refine wpList_append_lies _ hgd sl x 92 ho B 205 i0 _ 2 24 Tryz.underlying92 hi hz0 hz1 hz2 rfl (by decide) v l.length _ hs hb ⟨g,0,none⟩ 1 cc c.cells hx rfl (by
  intro j u hu;have ea:(⟨g,0,none⟩:Addr).add j=⟨g,j,none⟩:=by unfold Addr.add;split<;>simp_all
  rw[ea]
  match j,hu with
  | 0,hu=>simp[Sq.Col.cells] at hu;subst hu;exact hc0
  | 1,hu=>simp[Sq.Col.cells] at hu;subst hu;exact hc1
  | j+2,hu=>simp[Sq.Col.cells] at hu) (by intro u hu;simp[Sq.Col.cells] at hu;rcases hu with rfl | rfl<;>rfl) (by decide) (by unfold maxLen;omega) (by omega) hB _ rfl ?_
 intro g' cap w' ho' hg' _ _;refine h _ w' ?_ hg';unfold ColsNew;rw[List.length_append,List.flatMap_append];simpa using ho'
theorem ColsNew.below2 {B b:Nat}{w w':World}{v:Value}{l:List Sq.Col}(h:ColsNew B w v l)(hB:B<=b)(hb:Below w.heap.size w w'):ColsNew B w' v l :=
 jQq h fun g hg=>hb.block g (World.ownsRow.lt h g hg).2
theorem jQaN {b:Nat}{w w':World}{r:Rd}(h:RdAt b w r)(hb:Below w.heap.size w w'):RdAt b w' r:=(hb.block b (jQf h)).trans h
theorem RdAt.grown {B b:Nat}{w w':World}{v:Value}{l:List Sq.Col}{r:Rd}(h:RdAt b w r)(ho:ColsNew B w v l)(hg:w.grownBy w' v.ownBlock):RdAt b w' r :=
 (hg.block b (jQf h) (fun e=>jQn ho h (by decide) e.symm)).trans h
theorem ColsNew.only {B b:Nat}{w w':World}{v:Value}{l:List Sq.Col}{c:Array Value}(h:ColsNew B w v l)(hb:w.heap[b]?=some (.cells c 105))(ho:Only b w w'):ColsNew B w' v l :=
 jQq h fun g hg=>ho.other g fun e=>jQn h hb (by decide) (by rw[hg,e])
theorem jQjm (s:ByteArray)(w:World) :
  Calls Tryz.prog 59 #[.string s] w fun e w'=>e=.returned (.agg #[.string s,.bool false])/\Below w.heap.size w w':=by
 go_enter Tryz.func59,Tryz.ntmps59;go_wp2;refine bodyPost_ret (v:=.agg #[.string s,.bool false]) (by simp[results,Tryz.results59,go_sem]) rfl ⟨rfl,?_⟩
 first
  | exact(bR).alloc (nR) _
  | exact Below.setCell (B:=w.heap.size) (Below.setCell (B:=w.heap.size) ((bR).alloc (nR) _) (nR) _) (nR) _
def TabPost (w:World)(row:ByteArray)(e:Ending)(w':World):Prop :=
 ∃cv,e=.returned (.tuple #[.string (match Sq.toTable row with | some x=>x.1 | none=>⟨#[]⟩),cv,.bool (Sq.toTable row).isSome])/\ColsNew w.heap.size w' cv (match Sq.toTable row with | some x=>x.2 | none=>[])/\Below w.heap.size w w'
theorem jQlA (row:ByteArray)(w:World)(hs:row.size<=1000):Calls Tryz.prog 106 #[.string row] w (TabPost w row):=by
 have H1:Hid ((Sq.tabHead row).1=Sq.txtV ⟨row,false⟩):=rfl;have H2:Hid ((Sq.tabHead row).2.1=numV (Sq.txtN ⟨row,false⟩) 1):=rfl;have H3:Hid ((Sq.tabHead row).2.2=takeN (Sq.txtN ⟨row,false⟩) 1):=rfl;go_enter Tryz.func106,Tryz.ntmps106;go_wp2_with fail;refine(jQjm row _).mono ?_;rintro e w0 ⟨rfl,hb0⟩;have hE:=hb0.size;have hV:=hd hb0;clear hb0;have hO:RdAt w0.heap.size (w0.alloc (.cells #[.string row,.bool false] 105)) ⟨row,false⟩:=heap_alloc_new w0 _;have hJ:=hd hO;clear hO;go_wp2_with fail;refine(jQbr w0.heap.size ⟨row,false⟩ _ hJ.o (by show row.size<=_;omega)).mono ?_;rintro e w1 ⟨rfl,hr1,ho1⟩;have hp:=Sq.jQbP ⟨row,false⟩;have hK:=hd hr1;have hM:=hd ho1;clear hr1 ho1;go_wp2_with fail;refine(jQb8 w0.heap.size (Sq.txtN ⟨row,false⟩) 1 _ hK.o (Nat.le_trans hp (by show row.size<=_;omega)) (by decide)).mono ?_;rintro e w2 ⟨rfl,hu,ho2⟩;rw[show numV (Sq.txtN ⟨row,false⟩) ((1:Nat):Int)=(Sq.tabHead row).2.1 from rfl,show Sq.txtV ⟨row,false⟩=(Sq.tabHead row).1 from rfl];have hz:RdAt w0.heap.size w2 (Sq.tabHead row).2.2:=hu;have hA:=hd hz;have hU:=hd (hM.o.trans ho2);clear hu hz ho2 hK hM hJ;have hC:(Sq.tabHead row).2.2.rest.size<=1000:=Nat.le_trans (Sq.jQp _ _) (Nat.le_trans hp hs);have hW:(Sq.tabHead row).1.size<=1000:=Nat.le_trans (Sq.jQco _) hs;have HG:Hid (Sq.tabGood row=(Sq.isNm (Sq.tabHead row).1&&Decidable.decide (1<=(Sq.tabHead row).2.1)&&Decidable.decide ((Sq.tabHead row).2.1<=4))):=rfl;have HC:Hid (Sq.tabCols row=if Sq.tabGood row then Sq.colsR (Sq.tabHead row).2.1.toNat 0 (Sq.tabHead row).2.2 [] else⟨[],(Sq.tabHead row).2.2,false⟩):=rfl;have HT:Hid (Sq.toTable row=if(Sq.tabCols row).good&&Sq.doneR (Sq.tabCols row).rd then some ((Sq.tabHead row).1,(Sq.tabCols row).cols) else none):=rfl;have hg:=HG.o;have hc:=HC.o;have ht:=HT.o;have hu:=hA.o;clear HG HC HT hA hp H1 H2 H3;generalize (Sq.tabHead row).1=nm at *;generalize (Sq.tabHead row).2.1=cnt at *;generalize (Sq.tabHead row).2.2=rd at *;have HG:=hd hg;have HC:=hd hc
 have HT:=hd ht;have hA:=hd hu;have hZ:=jQf hu;have HZ:Hid (Below w.heap.size w w2):=hV.o.trans (((Below.refl w0.heap.size w0).alloc (nR) _).mono hE |>.trans (hU.o.below.mono hE));clear hg hc ht hu;go_wp2_with fail;refine(jQnC nm _ (by omega)).mono ?_;rintro e w3 ⟨rfl,hw3⟩;rw[hw3];clear hw3 w3;have hg:=HG.o;obtain⟨b1,hb1⟩:∃b,b=Sq.isNm nm:=⟨_,rfl⟩;rw[<-hb1] at hg ⊢;clear hb1 HG
 by_cases hgood:b1=true/\1<=cnt/\cnt<=4
 ·obtain⟨rfl,h1,h2⟩:=hgood
  have hR:Hid (Sq.tabCols row=Sq.colsR cnt.toNat 0 rd []):=by
   show _=_;have hf:Sq.tabGood row=true:=by rw[hg];simp[h1,h2]
   have hc:=HC.o;rw[hf] at hc;exact hc
  clear hg HC;have i1:decide (1<=cnt)=true:=by simpa using h1
  have i2:decide (cnt<=4)=true:=by simpa using h2
  go_wp2
  go_loopw [8,9,10] (fun gv cv i wr=>∃(g:Bool) (j:Nat) (acc:List Sq.Col) (r:Rd),gv=.bool g/\i=.int .i64 j/\j<=4/\acc.length<=j/\(g=true->(j:Int)<=cnt)/\r.rest.size<=1000/\ColsNew w.heap.size wr cv acc/\RdAt w0.heap.size wr r/\Below w.heap.size w wr/\Hid (Sq.tabCols row=if g then Sq.colsR (cnt.toNat-j) j r acc else⟨acc,r,false⟩)) (fun _ _ i _=>5-(intOf i).toNat)
  case atStart=>exact⟨true,0,[],rd,rfl,rfl,by decide,nR,fun _=>by show(0:Int)<=cnt;omega,hC,World.ownsRow_nil _ _ _ _,hA.o,HZ.o,hR.o⟩
  case round =>
   obtain⟨g,j,acc,r,rfl,rfl,hj4,hacc,hjc,hrs,he,hrd,hb,HQ⟩:=hrel;clear hR hA HZ hZ i1 i2;obtain⟨ao,acap,rfl⟩:=jQa he;have h3:=jQf hrd;have hh:=hd he;have hB:=hd hrd;have HB:=hd hb;clear he hrd hb;cases g
   case false =>
    have HN:Hid (Sq.toTable row=none):=by
     show _=_;have hq:=HQ.o;simp only[Bool.false_eq_true,if_false] at hq;rw[HT.o,hq];rfl
    clear HQ HT hjc;go_wp2;go_ret3;exact⟨.slice none 0 0,by rw[HN.o];rfl,by rw[HN.o];exact World.ownsRow_nil _ _ _ _,HB.o⟩
   case true =>
    have hX:=hjc rfl;clear hjc;have hq:=HQ.o;simp only[if_true] at hq;clear HQ
    by_cases hjt:(j:Int)<cnt
    ·obtain⟨f,hf⟩:∃f,cnt.toNat-j=f+1:=⟨cnt.toNat-j-1,by omega⟩;have hL:cnt.toNat-(j+1)=f:=by omega
     rw[hf,Sq.colsR] at hq;have HQ:=hd hq;have HF:=hd hL;have hG:=Nat.le_trans (Sq.jQp r 1) hrs;have hQ:=Nat.le_trans (Sq.jQbP (takeN r 1)) hG;have hI:=Nat.le_trans (Sq.jQco (takeN r 1)) hG;have i3:decide ((j:Int)<cnt)=true:=by simpa using hjt
     clear hq hf hL;go_wp2_with fail;refine(jQb8 w0.heap.size r 1 _ hB.o (by omega) (by decide)).mono ?_;rintro e w4 ⟨rfl,hr4,ho4⟩;have hS:=hd hr4;have hH:=hd ho4;clear hr4 ho4;go_wp2_with fail;refine(jQbr w0.heap.size (takeN r 1) _ hS.o (by omega)).mono ?_;rintro e w5 ⟨rfl,hr5,ho5⟩;have he:=hh.o.only hB.o (hH.o.trans ho5);have hb:=HB.o.trans ((hH.o.trans ho5).below.mono hE);have hr:RdAt w0.heap.size w5 (Sq.colN r):=hr5;have hj:(Sq.colN r).rest.size<=1000:=hQ;have hF:(Sq.colV r).name.size<=1000:=hI;rw[show numV r 1=(Sq.colV r).kind from rfl,show Sq.txtV (takeN r 1)=(Sq.colV r).name from rfl];have hq:=HQ.o;clear HQ hh hB HB hS hH hr5 ho5 hG hQ hI;generalize Sq.colV r=c at *;generalize Sq.colN r=r' at *;obtain⟨cn,ck⟩:=c;simp only at hF ⊢;have hh:=hd he;have HB:=hd hb;have hY:=hd hr;have HQ:=hd hq;have h0:=jQf hr;have hN:Hid (Sq.colGood ⟨cn,ck⟩ j=(Sq.isNm cn&&(ck==0 || (ck==1&&Decidable.decide (0<j))))):=rfl;clear he hb hr hq;go_wp2_with fail;refine(jQnC cn _ (by omega)).mono ?_;rintro e w6 ⟨rfl,hw6⟩;rw[hw6];clear hw6 w6;have hi:=hN.o;obtain⟨b1,hb1⟩:∃b,b=Sq.isNm cn:=⟨_,rfl⟩;rw[<-hb1] at hi ⊢;have hD:b1=false\/(b1=true/\ck=0)\/(b1=true/\ck=1/\0<j)\/(b1=true/\ck=1/\j=0)\/(b1=true/\ck≠0/\ck≠1):=by cases b1<;>simp<;>omega
     clear hb1 hN;have ha:=hd (hh.o.below2 (by omega) ((Below.refl w5.heap.size w5).alloc (nR) (.cells #[.string cn,.int .i64 ck] 205)));have hw:Hid (RdAt w0.heap.size (w5.alloc (.cells #[.string cn,.int .i64 ck] 205)) r'):=jQaN hY.o ((Below.refl w5.heap.size w5).alloc (nR) _);rcases hD with rfl | ⟨rfl,rfl⟩ | ⟨rfl,rfl,hj0⟩ | ⟨rfl,rfl,rfl⟩ | ⟨rfl,hk0,hk1⟩
     ·have hn:Hid (Sq.colGood ⟨cn,ck⟩ j=false):=by show _=_;rw[hi];simp
      clear hi;go_wp2_with (at_builtin;refine jQ5 rfl (.tmp 51) (.tmp 55) rfl w.heap.size _ acc rfl ha.o ⟨cn,ck⟩ w5.heap.size 1 rfl (by simp[go_sem]) (by simp[go_sem]) (by omega) (by simp;omega) ?_;intro v7 w7 hown7 hg7;have hm:=hd hown7;have hl:=hd (Tch.of_grown (pb:=w.heap.size) hg7 (fun k hk=>(World.ownsRow.lt ha.o k hk).1) (by simp;omega));have ho:=hd (hw.o.grown ha.o hg7);clear hown7 hg7);go_roundw
      case rel =>
       refine⟨false,j+1,acc++[⟨cn,ck⟩],r',rfl,by go_num,by omega,by rw[List.length_append];show acc.length+1<=_;omega,(fun h=>by cases h),hj,hm.o,ho.o,HB.o.trans ((Below.mono (B':=w.heap.size) ((bR).alloc (nR) _) (by omega)).trans hl.o),?_⟩;show _=_;rw[HQ.o,hn.o]
       try rfl
      case measure=>(simp[intOf];try omega)
     ·have hn:Hid (Sq.colGood ⟨cn,0⟩ j=true):=by show _=_;rw[hi];simp
      clear hi;go_wp2_with (at_builtin;refine jQ5 rfl (.tmp 51) (.tmp 55) rfl w.heap.size _ acc rfl ha.o ⟨cn,0⟩ w5.heap.size 1 rfl (by simp[go_sem]) (by simp[go_sem]) (by omega) (by simp;omega) ?_;intro v7 w7 hown7 hg7;have hm:=hd hown7;have hl:=hd (Tch.of_grown (pb:=w.heap.size) hg7 (fun k hk=>(World.ownsRow.lt ha.o k hk).1) (by simp;omega));have ho:=hd (hw.o.grown ha.o hg7);clear hown7 hg7);go_roundw
      case rel =>
       refine⟨true,j+1,acc++[⟨cn,0⟩],r',rfl,by go_num,by omega,by rw[List.length_append];show acc.length+1<=_;omega,(fun h=>by omega),hj,hm.o,ho.o,HB.o.trans ((Below.mono (B':=w.heap.size) ((bR).alloc (nR) _) (by omega)).trans hl.o),?_⟩;show _=_;rw[HQ.o,hn.o,HF.o]
       try rfl
      case measure=>(simp[intOf];try omega)
     ·have hn:Hid (Sq.colGood ⟨cn,1⟩ j=true):=by show _=_;rw[hi];simp[hj0]
      clear hi;have i4:decide ((0:Int)<(j:Int))=true:=by simpa using hj0
      go_wp2_with (at_builtin;refine jQ5 rfl (.tmp 51) (.tmp 55) rfl w.heap.size _ acc rfl ha.o ⟨cn,1⟩ w5.heap.size 1 rfl (by simp[go_sem]) (by simp[go_sem]) (by omega) (by simp;omega) ?_;intro v7 w7 hown7 hg7;have hm:=hd hown7;have hl:=hd (Tch.of_grown (pb:=w.heap.size) hg7 (fun k hk=>(World.ownsRow.lt ha.o k hk).1) (by simp;omega));have ho:=hd (hw.o.grown ha.o hg7);clear hown7 hg7);go_roundw
      case rel =>
       refine⟨true,j+1,acc++[⟨cn,1⟩],r',rfl,by go_num,by omega,by rw[List.length_append];show acc.length+1<=_;omega,(fun h=>by omega),hj,hm.o,ho.o,HB.o.trans ((Below.mono (B':=w.heap.size) ((bR).alloc (nR) _) (by omega)).trans hl.o),?_⟩;show _=_;rw[HQ.o,hn.o,HF.o]
       try rfl
      case measure=>(simp[intOf];try omega)
     ·have hn:Hid (Sq.colGood ⟨cn,1⟩ 0=false):=by show _=_;rw[hi];simp
      clear hi;go_wp2_with (at_builtin;refine jQ5 rfl (.tmp 51) (.tmp 55) rfl w.heap.size _ acc rfl ha.o ⟨cn,1⟩ w5.heap.size 1 rfl (by simp[go_sem]) (by simp[go_sem]) (by omega) (by simp;omega) ?_;intro v7 w7 hown7 hg7;have hm:=hd hown7;have hl:=hd (Tch.of_grown (pb:=w.heap.size) hg7 (fun k hk=>(World.ownsRow.lt ha.o k hk).1) (by simp;omega));have ho:=hd (hw.o.grown ha.o hg7);clear hown7 hg7);go_roundw
      case rel =>
       refine⟨false,0+1,acc++[⟨cn,1⟩],r',rfl,by go_num,by omega,by rw[List.length_append];show acc.length+1<=_;omega,(fun h=>by cases h),hj,hm.o,ho.o,HB.o.trans ((Below.mono (B':=w.heap.size) ((bR).alloc (nR) _) (by omega)).trans hl.o),?_⟩;show _=_;rw[HQ.o,hn.o]
       try rfl
      case measure=>(simp[intOf];try omega)
     ·have hn:Hid (Sq.colGood ⟨cn,ck⟩ j=false):=by show _=_;rw[hi];simp[hk0,hk1]
      clear hi;have i4:(ck==0)=false:=by simpa using hk0
      have i5:(ck==1)=false:=by simpa using hk1
      go_wp2_with (at_builtin;refine jQ5 rfl (.tmp 51) (.tmp 55) rfl w.heap.size _ acc rfl ha.o ⟨cn,ck⟩ w5.heap.size 1 rfl (by simp[go_sem]) (by simp[go_sem]) (by omega) (by simp;omega) ?_;intro v7 w7 hown7 hg7;have hm:=hd hown7;have hl:=hd (Tch.of_grown (pb:=w.heap.size) hg7 (fun k hk=>(World.ownsRow.lt ha.o k hk).1) (by simp;omega));have ho:=hd (hw.o.grown ha.o hg7);clear hown7 hg7);go_roundw
      case rel =>
       refine⟨false,j+1,acc++[⟨cn,ck⟩],r',rfl,by go_num,by omega,by rw[List.length_append];show acc.length+1<=_;omega,(fun h=>by cases h),hj,hm.o,ho.o,HB.o.trans ((Below.mono (B':=w.heap.size) ((bR).alloc (nR) _) (by omega)).trans hl.o),?_⟩;show _=_;rw[HQ.o,hn.o]
       try rfl
      case measure=>(simp[intOf];try omega)
    ·have hy:cnt.toNat-j=0:=by omega
     rw[hy,Sq.colsR] at hq;have hT:=HT.o;rw[hq] at hT;simp only[Bool.true_and] at hT;have hP:=hd hT;have i3:decide ((j:Int)<cnt)=false:=by simpa using hjt
     clear HT hq hT hy;go_wp2_with fail;refine(jQjp w0.heap.size r _ hB.o).mono ?_;rintro e w4 ⟨rfl,hw4⟩;rw[hw4];clear hw4 w4;obtain⟨b1,hb1⟩:∃b,b=Sq.doneR r:=⟨_,rfl⟩;have hx:=hP.o;rw[<-hb1] at hx ⊢;clear hb1 hP;cases b1
     case false =>
      have HN:Hid (Sq.toTable row=none):=hx;clear hx;go_wp2;go_ret3;exact⟨.slice none 0 0,by rw[HN.o];rfl,by rw[HN.o];exact World.ownsRow_nil _ _ _ _,HB.o⟩
     case true =>
      have HN:Hid (Sq.toTable row=some (nm,acc)):=hx;clear hx;go_wp2;go_ret3;exact⟨_,by rw[HN.o];rfl,by rw[HN.o];exact hh.o,HB.o⟩
 ·have hv:Hid (Sq.toTable row=none):=by
   show _=_;have hf:Sq.tabGood row=false:=by rw[hg];cases b1<;>simp at hgood ⊢;intro h;have:=hgood h;omega
   have hc:=HC.o;rw[hf] at hc;rw[HT.o,hc];rfl
  clear hg HC HT;have hD:b1=false\/(b1=true/\¬1<=cnt)\/(b1=true/\1<=cnt/\¬cnt<=4):=by cases b1<;>simp at hgood ⊢;omega
  clear hgood;rcases hD with rfl | ⟨rfl,h1⟩ | ⟨rfl,h1,h2⟩
  all_goals
   first
    | have i1:decide (1<=cnt)=false:=by simpa using h1
    | (
      have i1:decide (1<=cnt)=true:=by simpa using h1
      have i2:decide (cnt<=4)=false:=by simpa using h2)
    | skip
   go_wp2
   go_loopw [8,9,10,11,12] (fun gv _ _ _ _ wr=>gv=.bool false/\wr=w2) (fun _ _ _ _ _ _=>0)
   case atStart=>exact⟨rfl,rfl⟩
   case round =>
    obtain⟨rfl,rfl⟩:=hrel;go_wp2;go_ret3;exact⟨.slice none 0 0,by rw[hv.o];rfl,by rw[hv.o];exact World.ownsRow_nil _ _ _ _,HZ.o⟩
end
end Go.Proofs.YtahpihjialbanaaGreatDoor
