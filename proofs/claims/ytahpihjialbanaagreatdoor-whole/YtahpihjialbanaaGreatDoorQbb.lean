import Derived.Test.YtahpihjialbanaaGreatDoorQba
set_option linter.unusedVariables false
set_option linter.unusedSimpArgs false
set_option maxRecDepth 100000
set_option maxHeartbeats 1000000
namespace Go.Proofs.YtahpihjialbanaaGreatDoor
open Sq (TabN)
section
open Go.RowKit
def FindPost (w:World)(x:Option TabN)(e:Ending)(w':World):Prop :=
 ∃cv,e=.returned (.tuple #[.agg #[.int .i64 (x.getD Sq.tabNone).number,.string (x.getD Sq.tabNone).name,cv],.bool x.isSome])/\ColsAt w' cv (x.getD Sq.tabNone).cols/\Below w.heap.size w w'
theorem Sq.jQnQ (l:List TabN)(n:ByteArray)(k:Nat)(h:k<l.length):Sq.findR n (l.drop k)=if l[k].name.toList==n.toList then some l[k] else Sq.findR n (l.drop (k+1)):=by
 rw[List.drop_eq_getElem_cons h,Sq.findR]
def set3 (w:World)(b:Nat)(x0 x1 x2:Value):World:=((w.setCell ⟨b,0,none⟩ x0).setCell ⟨b,1,none⟩ x1).setCell ⟨b,2,none⟩ x2
theorem jQmo (w:World)(b:Nat)(x0 x1 x2:Value){g:Nat}(h:g≠b):(set3 w b x0 x1 x2).heap[g]?=w.heap[g]?:=by
 unfold set3;rw[jQg h,jQg h,jQg h]
theorem jQhq {B b:Nat}{W w:World}(hb:Below B W w)(h:B<=b)(x0 x1 x2:Value):Below B W (set3 w b x0 x1 x2):=by
 unfold set3;exact Below.setCell (B:=B) (Below.setCell (B:=B) (Below.setCell (B:=B) hb h _) h _) h _
theorem jQf3 (l:List (TabN×Value))(lv:Value)(nm:ByteArray)(w:World)(h:TabsOwn 0 w lv l) :
  Calls Tryz.prog 72 #[lv,.string nm] w (FindPost w (Sq.findR nm (l.map Prod.fst))):=by
 obtain⟨ao,acap,rfl⟩:=jQa h.own;have hl:=h.few;obtain⟨W,hW⟩:∃W:World,W=w.alloc (.cells #[.int .i64 0,.string ⟨#[]⟩,.slice none 0 0] 94):=⟨_,rfl⟩;have hi:Below w.heap.size w W:=by rw[hW];exact(bR).alloc (nR) _
 have ha:W.heap[w.heap.size]?=some (.cells #[.int .i64 0,.string ⟨#[]⟩,.slice none 0 0] 94):=by rw[hW];exact jQi _ _
 obtain⟨b0,b1,b2,f0,f1,f2⟩:=tab3 ha;have hz:=jQf ha;have H:=hd (h.below hi);have hj:=hd hi;have hh:=hd ha;clear h hi ha;go_enter Tryz.func72,Tryz.ntmps72;go_wp2;rw[<-hW];clear hW
 go_loopw [6] (fun i wr=>∃k:Nat,k<=l.length/\i=.int .i64 k/\wr=W/\Hid (Sq.findR nm (l.map Prod.fst)=Sq.findR nm ((l.map Prod.fst).drop k))) (fun i _=>l.length-(intOf i).toNat)
 case atStart=>exact⟨0,zR,rfl,rfl,rfl⟩
 case round =>
  obtain⟨k,hk,rfl,rfl,hr⟩:=hrel
  by_cases hlt:k<l.length
  ·obtain⟨g,cap',ca,cc,hv,hg,c0,c1,c2,hc⟩:=H.o.at k hlt;simp only[Value.slice.injEq] at hv;obtain⟨rfl,-,rfl⟩:=hv;have hf:=Sq.jQnQ (l.map Prod.fst) nm k (by simpa using hlt);rw[List.getElem_map] at hf;have hb:=hr.o;rw[hf] at hb;clear hr hf;generalize l[k].1=x at *;obtain⟨xn,xm,xc⟩:=x;simp only at c0 c1 c2 hc hb;have HC:=hd hc;have i1:(k:Int)<(l.length:Int):=by omega
   have i2:¬((l.length:Int)<=(k:Int)):=by omega
   have i0:¬((k:Int)<0):=by omega
   clear hc;cases he:xm.toList==nm.toList
   case false =>
    have HR:Hid (Sq.findR nm (l.map Prod.fst)=Sq.findR nm ((l.map Prod.fst).drop (k+1))):=by show _=_;rw[hb,he];rfl
    clear hb;go_wp2;go_roundw
    case rel=>exact⟨k+1,by omega,by go_num,by first | rfl | trivial,HR⟩
    case measure=>simp[intOf];omega
   case true =>
    have HR:Hid (Sq.findR nm (l.map Prod.fst)=some ⟨xn,xm,xc⟩):=by show _=_;rw[hb,he];rfl
    clear hb;go_wp2;refine bodyPost_ret (v:=.tuple #[.agg #[.int .i64 xn,.string xm,.slice ca xc.length cc],.bool true]) (by simp[results,Tryz.results72,go_sem, *]) rfl ?_;unfold FindPost;rw[HR.o];refine⟨.slice ca xc.length cc,rfl,HC.o.o hh.o (by decide) (fun g hg=>jQmo _ _ _ _ _ hg),?_⟩;exact jQhq hj.o (nR) _ _ _
  ·have HE:Hid (Sq.findR nm (l.map Prod.fst)=none):=by show _=_;rw[hr.o,List.drop_eq_nil_of_le (by simp;omega)];rfl
   clear hr;go_wp2;refine bodyPost_ret (v:=.tuple #[.agg #[.int .i64 0,.string ⟨#[]⟩,.slice none 0 0],.bool false]) (by simp[results,Tryz.results72,go_sem, *]) rfl ?_;unfold FindPost;rw[HE.o];refine⟨.slice none 0 0,rfl,⟨World.ownsRow_nil _ _ _ _,zR⟩,?_⟩;exact jQhq hj.o (nR) _ _ _
theorem jQnn (l:List TabN)(k:Nat)(h:k<l.length)(m:Int):Sq.lastR m (l.drop k)=Sq.lastR (if m<l[k].number then l[k].number else m) (l.drop (k+1)):=by
 unfold Sq.lastR;rw[List.drop_eq_getElem_cons h,List.foldl_cons]
theorem jQrh (l:List (TabN×Value))(lv:Value)(w:World)(h:TabsOwn 0 w lv l)(hb:∀x∈l,-2147483648<=x.1.number/\x.1.number<=2147483647) :
  Calls Tryz.prog 108 #[lv] w fun e w'=>e=.returned (.int .i64 (Sq.lastR 0 (l.map Prod.fst)+1))/\w'=w:=by
 obtain⟨ao,acap,rfl⟩:=jQa h.own;have hh:=h.few;have H:=hd h;have HB:=hd hb;clear h hb;go_enter Tryz.func108,Tryz.ntmps108;go_wp2
 go_loop [3,4] (fun m i=>∃(k:Nat) (x:Int),k<=l.length/\i=.int .i64 k/\m=.int .i64 x/\-2147483648<=x/\x<=2147483647/\Hid (Sq.lastR 0 (l.map Prod.fst)=Sq.lastR x ((l.map Prod.fst).drop k))) (fun _ i=>l.length-(intOf i).toNat)
 case atStart=>exact⟨0,0,zR,rfl,rfl,by decide,by decide,rfl⟩
 case round =>
  obtain⟨k,x,hk,rfl,rfl,hx0,hx1,hr⟩:=hrel
  by_cases hlt:k<l.length
  ·obtain⟨g,cap',ca,cc,hv,hg,c0,c1,c2,hc⟩:=H.o.at k hlt;simp only[Value.slice.injEq] at hv;obtain⟨rfl,-,rfl⟩:=hv;have he:=jQnn (l.map Prod.fst) k (by simpa using hlt) x;rw[List.getElem_map] at he;have hf:=HB.o l[k] (List.getElem_mem hlt);have ha:=hr.o;rw[he] at ha;obtain⟨q,hq⟩:∃q,q=l[k].1.number:=⟨_,rfl⟩;rw[<-hq] at ha hf c0;have i2:¬((l.length:Int)<=(k:Int)):=by omega
   obtain⟨hbd0,hbd1⟩:=hf;clear hr he hc hq c1 c2
   by_cases hm:x<q
   ·have j1:decide (x<q)=true:=by simpa using hm
    have HR:Hid (Sq.lastR 0 (l.map Prod.fst)=Sq.lastR q ((l.map Prod.fst).drop (k+1))):=by show _=_;rw[ha,if_pos hm]
    clear ha;go_wp2;go_round
    case rel=>exact⟨k+1,q,by omega,by go_num,rfl,hbd0,hbd1,HR⟩
    case measure=>simp[intOf];omega
   ·have j1:decide (x<q)=false:=by simpa using hm
    have HR:Hid (Sq.lastR 0 (l.map Prod.fst)=Sq.lastR x ((l.map Prod.fst).drop (k+1))):=by show _=_;rw[ha,if_neg hm]
    clear ha;go_wp2;go_round
    case rel=>exact⟨k+1,x,by omega,by go_num,rfl,hx0,hx1,HR⟩
    case measure=>simp[intOf];omega
  ·have HE:Hid (Sq.lastR 0 (l.map Prod.fst)=x):=by show _=_;rw[hr.o,List.drop_eq_nil_of_le (by simp;omega)];rfl
   clear hr;go_wp2;go_ret;exact⟨by rw[HE.o];rfl,rfl⟩
end
end Go.Proofs.YtahpihjialbanaaGreatDoor
