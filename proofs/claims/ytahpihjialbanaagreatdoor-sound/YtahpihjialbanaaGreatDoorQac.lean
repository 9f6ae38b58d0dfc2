import Derived.Laws.BitsAllLaws
import Derived.Laws.CopyOwn
import Derived.Lib.AppendIntMem
import Derived.Test.YtahpihjialbanaaGreatDoorQab
set_option linter.all false
set_option maxRecDepth 100000
set_option maxHeartbeats 1000000
namespace Go.Proofs.YtahpihjialbanaaGreatDoor
open Sq (bd Col PSt Tab Val ar jA1 jAa jAb jAf jAm jCd)
variable {B B' b g i n:Nat}{W w w' w1 w2:World}{a:Act}{c:Array Value}{cs:List Value}{cv ev v:Value}{e:TypeId}{o:Oper}{α β:Type}
section
open Go.RowKit
theorem jMM (s:bd)(w:World) :
  Calls Tryz.prog 151 #[.agg s.cells.toArray] w fun e w'=>e=.returned (.bool (jAf s.op))/\Below w.heap.size w w':=by
 obtain⟨op,⟨lc,⟨lk,ln,lt⟩⟩,⟨rc,⟨rk,rn,rt⟩⟩⟩:=s;unfold bd.cells;go_enter Tryz.func151,Tryz.ntmps151;go_wp2_with (go_at_call 194;refine(jMu _ _).mono ?_;rintro e w' ⟨rfl,rfl⟩);go_ret;exact⟨rfl,bA⟩
theorem Sq.jV2 (cols:List Col)(l:List bd)(k:Nat)(h:k<l.length):jAa cols (l.drop k)=if !jAf l[k].op then jAa cols (l.drop (k+1)) else if !(Sq.kindOf cols l[k].left).2 then 4 else if !(Sq.kindOf cols l[k].right).2 then 4 else if(Sq.kindOf cols l[k].left).1 != (Sq.kindOf cols l[k].right).1 then 7 else jAa cols (l.drop (k+1)):=by
 rw[cr h,jAa]
def jCL (w:World)(v:Value)(l:List bd):Prop:=w.ownsRow 0 217 9 v l.length (l.flatMap bd.cells)/\l.length<=100000
theorem jCL.below {l:List bd}(h:jCL w v l)(hb:Below w.heap.size w w'):jCL w' v l:=⟨jQh h.1 hb,h.2⟩
theorem jDw.steps {st:PSt}{r:Rw}(h:jDw w st r):jCL w r.wv st.aq:=⟨h.aq,h.jKn⟩
theorem jKE (cols:List Col)(l:List bd)(cv sv:Value)(w:World)(h:aX w cv cols)(hs:jCL w sv l) :
  Calls Tryz.prog 113 #[cv,sv] w fun e w'=>e=.returned (.int .i64 (jAa cols l))/\Below w.heap.size w w':=by
 obtain⟨bo,hK,rfl⟩:=jQa hs.1;have hl:=hs.2;have H:=hd h;have HS:=hd hs;clear h hs;go_enter Tryz.func113,Tryz.ntmps113;go_wp2
 go_loopw [5] (fun i wr=>∃k:Nat,k<=l.length/\i=.int .i64 k/\Below w.heap.size w wr/\Hid (jAa cols l=jAa cols (l.drop k))) (fun i _=>l.length-(intOf i).toNat)
 case atStart=>exact⟨0,zR,rfl,bR,rfl⟩
 case round =>
  obtain⟨k,hk,rfl,hb,hr⟩:=hrel
  by_cases hlt:k<l.length
  ·obtain⟨x,hx⟩:∃x,x=l[k]:=⟨_,rfl⟩;have HX:=hd hx
   have cells:∀W,Below w.heap.size w W->∃g,bo=some ⟨g,0,none⟩/\g<W.heap.size/\∀j u,j<9->x.cells[j]?=some u->W.cell? ⟨g,k*9+j,none⟩=some u:=by
    intro W hW;obtain⟨g,hE,hv,hg,hc⟩:=jCc (f:=bd.cells) (fun _=>rfl) (HS.o.below hW).1 k hlt;simp only[Value.slice.injEq] at hv;exact⟨g,hv.1,hg,by rw[hx];exact hc⟩
   have HC:=hd cells;have ho:=hd (Sq.jV2 cols l k hlt);have hi:=ho.o;rw[<-hx] at hi;have hj:=hd hi;clear hi ho cells hx;obtain⟨g,hF,hg,hc⟩:=HC.o wr hb;subst hF;obtain⟨op,⟨lc,⟨lk,ln,lt⟩⟩,⟨rc,⟨rk,rn,rt⟩⟩⟩:=x;have c0:=hc 0 _ (by decide) rfl;have c1:=hc 1 _ (by decide) rfl;have c2:=hc 2 _ (by decide) rfl;have c3:=hc 3 _ (by decide) rfl;have c4:=hc 4 _ (by decide) rfl;have c5:=hc 5 _ (by decide) rfl;have c6:=hc 6 _ (by decide) rfl;have c7:=hc 7 _ (by decide) rfl;have c8:=hc 8 _ (by decide) rfl;simp only[dB] at c0;clear hc;go_wp2_with fail;refine(jMM ⟨op,⟨lc,⟨lk,ln,lt⟩⟩,⟨rc,⟨rk,rn,rt⟩⟩⟩ _).mono ?_;rintro e w1 ⟨rfl,hB⟩;have he:Below w.heap.size w w1:=hb.trans (hB.mono hb.size);clear hB c0 c1 c2 c3 c4 c5 c6 c7 c8;obtain⟨g',hy,hL,hc⟩:=HC.o w1 he;have hm:g=g':=by simpa using hy
   subst hm;have c1:=hc 1 _ (by decide) rfl;have c2:=hc 2 _ (by decide) rfl;have c3:=hc 3 _ (by decide) rfl;have c4:=hc 4 _ (by decide) rfl;clear hc hy;have hi:=hj.o;obtain⟨k1,hz⟩:∃x,x=Sq.kindOf cols ⟨lc,⟨lk,ln,lt⟩⟩:=⟨_,rfl⟩;obtain⟨k2,hA⟩:∃x,x=Sq.kindOf cols ⟨rc,⟨rk,rn,rt⟩⟩:=⟨_,rfl⟩;rw[<-hz,<-hA] at hi;have ha:=hd hi;have hp:=hd hz;have hq:=hd hA;clear hi hj hz hA;cases hc:jAf op
   case false =>
    have HR:Hid (jAa cols l=jAa cols (l.drop (k+1))):=by show _=_;rw[hr.o,ha.o,hc];rfl
    clear hr ha;go_wp2;go_roundw;exact⟨k+1,by omega,by go_num,he,HR⟩;simp[intOf];omega
   go_wp2_with fail;refine(jK1 cols cv ⟨lc,⟨lk,ln,lt⟩⟩ _ (H.o.below he)).mono ?_;rintro e w2 ⟨rfl,hC⟩;rw[<-hp.o];have hf:Below w.heap.size w w2:=he.trans (hC.mono he.size);clear hC c1 c2 c3 c4;obtain⟨g',hy,hM,ht⟩:=HC.o w2 hf;have hm:g=g':=by simpa using hy
   subst hm;have c5:=ht 5 _ (by decide) rfl;have c6:=ht 6 _ (by decide) rfl;have c7:=ht 7 _ (by decide) rfl;have c8:=ht 8 _ (by decide) rfl;clear ht hy;obtain⟨hG,hH⟩:=k1;obtain⟨hI,hJ⟩:=k2;cases hH
   case false =>
    have HR:Hid (jAa cols l=4):=by show _=_;rw[hr.o,ha.o,hc];rfl
    go_wp2;go_ret;exact⟨by rw[HR.o];rfl,hf⟩
   go_wp2_with fail;refine(jK1 cols cv ⟨rc,⟨rk,rn,rt⟩⟩ _ (H.o.below hf)).mono ?_;rintro e w3 ⟨rfl,hD⟩;rw[<-hq.o];have hh:Below w.heap.size w w3:=hf.trans (hD.mono hf.size);clear hD c5 c6 c7 c8;cases hJ
   case false =>
    have HR:Hid (jAa cols l=4):=by show _=_;rw[hr.o,ha.o,hc];rfl
    go_wp2;go_ret;exact⟨by rw[HR.o];rfl,hh⟩
   cases hn:hG != hI
   case true =>
    have HR:Hid (jAa cols l=7):=by show _=_;rw[hr.o,ha.o,hc];simp only[hn];rfl
    go_wp2;go_ret;exact⟨by rw[HR.o];rfl,hh⟩
   case false =>
    have HR:Hid (jAa cols l=jAa cols (l.drop (k+1))):=by show _=_;rw[hr.o,ha.o,hc];simp only[hn];rfl
    clear hr ha;go_wp2;go_roundw;exact⟨k+1,by omega,by go_num,hh,HR⟩;simp[intOf];omega
  have HR:Hid (jAa cols l=0):=by show _=_;rw[hr.o,cD (by omega)];rfl
  clear hr;go_wp2;go_ret;exact⟨by rw[HR.o];rfl,hb⟩
theorem jZ4 (cols:List Col)(cv:Value)(st:PSt)(r:Rw)(w:World)(h:aX w cv cols)(hs:jDw w st r) :
  Calls Tryz.prog 73 #[cv,.agg (jAF st r)] w fun e w'=>e=.returned (.int .i64 (Sq.check cols st))/\Below w.heap.size w w':=by
 obtain⟨hq,hx,hv,hr,hy⟩:=r;obtain⟨q5,c5,hh⟩:=jQa hs.cols.1;obtain⟨q6,c6,hn⟩:=jQa hs.ax;obtain⟨q7,c7,hk⟩:=jQa hs.ak.1;obtain⟨q9,c9,hj⟩:=jQa hs.items.1;obtain⟨ht,hp,ho⟩:=jQa hs.aq
 dsimp only at hh hn hk hj ho
 subst hh hn hk hj ho;unfold jAF;have hW:∀o,Below w.heap.size w (w.alloc o):=fun o=>bA
 have HW:=hd hW;have H:=hd h;have HS:=hd hs;have HE:Hid (Sq.check cols st=if jA1 cols st != 0 then jA1 cols st else jAa cols st.aq):=rfl;have HA:Hid (jA1 cols st=if st.act==2 then jAm cols st.ax else if st.act==3 then jCd cols st.ak else if st.act==5 then jAb cols st.shw st.items else 0):=rfl;clear h hs hW;cases h2:st.act==2
 case true =>
  go_enter Tryz.func73,Tryz.ntmps73;go_wp2_with fail;refine(jV3 cols st.ax cv _ _ (H.o.alloc _) (HS.o.below (HW.o _)).ax HS.o.jIs).mono ?_;rintro e w1 ⟨rfl,hc⟩;obtain⟨er,hf⟩:∃x,x=jA1 cols st:=⟨_,rfl⟩;rw[show jAm cols st.ax=er from by rw[hf,HA.o,h2];rfl];have hE:=HE.o;rw[<-hf] at hE;have hb:=hd hE;have ha:Below w.heap.size w w1:=(HW.o _).trans (hc.mono (by simp));obtain⟨q1,q2⟩:=aD hc;have a7:=q1 w.heap.size 7 (by simp);simp[go_sem] at a7;clear hE hf hc q1 q2;cases hz:er != 0
  case true =>
   go_wp2;go_ret;exact⟨by rw[hb.o,hz];rfl,ha⟩
  case false =>
   go_wp2_with fail;refine(jKE cols st.aq cv _ _ (H.o.below ha) (HS.o.below ha).steps).mono ?_;rintro e w2 ⟨rfl,hg⟩;go_wp2;go_ret;exact⟨by rw[hb.o,hz];rfl,ha.trans (hg.mono ha.size)⟩
 cases h3:st.act==3
 case true =>
  go_enter Tryz.func73,Tryz.ntmps73;go_wp2_with fail;refine(jWU cols st.ak cv _ _ (H.o.alloc _) (HS.o.below (HW.o _)).ak).mono ?_;rintro e w1 ⟨rfl,hc⟩;obtain⟨er,hf⟩:∃x,x=jA1 cols st:=⟨_,rfl⟩;rw[show jCd cols st.ak=er from by rw[hf,HA.o,h2,h3];rfl];have hE:=HE.o;rw[<-hf] at hE;have hb:=hd hE;have ha:Below w.heap.size w w1:=(HW.o _).trans (hc.mono (by simp));obtain⟨q1,q2⟩:=aD hc;have a7:=q1 w.heap.size 7 (by simp);simp[go_sem] at a7;clear hE hf hc q1 q2;cases hz:er != 0
  case true =>
   go_wp2;go_ret;exact⟨by rw[hb.o,hz];rfl,ha⟩
  case false =>
   go_wp2_with fail;refine(jKE cols st.aq cv _ _ (H.o.below ha) (HS.o.below ha).steps).mono ?_;rintro e w2 ⟨rfl,hg⟩;go_wp2;go_ret;exact⟨by rw[hb.o,hz];rfl,ha.trans (hg.mono ha.size)⟩
 cases h5:st.act==5
 case true =>
  go_enter Tryz.func73,Tryz.ntmps73;go_wp2_with fail;refine(jWb cols cv st _ _ (H.o.alloc _) (HS.o.below (HW.o _))).mono ?_;rintro e w1 ⟨rfl,hc⟩;obtain⟨er,hf⟩:∃x,x=jA1 cols st:=⟨_,rfl⟩;rw[show jAb cols st.shw st.items=er from by rw[hf,HA.o,h2,h3,h5];rfl];have hE:=HE.o;rw[<-hf] at hE;have hb:=hd hE;have ha:Below w.heap.size w w1:=(HW.o _).trans (hc.mono (by simp));obtain⟨q1,q2⟩:=aD hc;have a7:=q1 w.heap.size 7 (by simp);simp[go_sem] at a7;clear hE hf hc q1 q2;cases hz:er != 0
  case true =>
   go_wp2;go_ret;exact⟨by rw[hb.o,hz];rfl,ha⟩
  case false =>
   go_wp2_with fail;refine(jKE cols st.aq cv _ _ (H.o.below ha) (HS.o.below ha).steps).mono ?_;rintro e w2 ⟨rfl,hg⟩;go_wp2;go_ret;exact⟨by rw[hb.o,hz];rfl,ha.trans (hg.mono ha.size)⟩
 have hE:Sq.check cols st=jAa cols st.aq:=by rw[HE.o,HA.o,h2,h3,h5];rfl
 have hb:=hd hE;clear hE;go_enter Tryz.func73,Tryz.ntmps73;go_wp2_with fail;refine(jKE cols st.aq cv _ _ (H.o.alloc _) (HS.o.below (HW.o _)).steps).mono ?_;rintro e w2 ⟨rfl,hg⟩;go_wp2;go_ret;exact⟨by rw[hb.o];rfl,(HW.o _).trans (hg.mono (by simp))⟩
def jBm (B:Nat)(w:World)(v:Value)(l:List UInt8):Prop:=w.ownsRow B 5 1 v l.length (l.map fun b=>Value.int .u8 b.toNat)
theorem jBm.below {l:List UInt8}(h:jBm B w v l)(hb:Below w.heap.size w w'):jBm B w' v l:=jQh h hb
theorem jBm.slice {l:List UInt8}(h:jBm B w v l):∃ao cap,v=.slice ao l.length cap:=jQa h
theorem Tryz.jGj:(Tryz.prog.info? 5).map (fun i=>(i.zero,i.size,i.bytes))=some (some (.int .u8 0),1,1):=by kernel_rfl
theorem jNo (w:World)(v:Value)(l:List UInt8)(B:Nat)(h:jBm B w v l):(convert 55 9 v).run Tryz.prog w=.ok (.string ⟨l.toArray⟩) w:=by
 rcases dP l.length with h0 | h0
 ·have hn:l=[]:=by simpa using h0
  subst hn;obtain⟨ao,cap,rfl⟩:=h.slice;refine(run_convert_bytes_string w 55 9 5 ao 0 cap Tryz.underlying55 Tryz.underlying5 Tryz.underlying9).trans ?_;cases ao<;>simp[go_sem,loadCells,Conv.bytesToString]<;>rfl
 obtain⟨g,cap,rfl,_,ha⟩:=World.ownsRow.form h h0;refine run_convert_bytes_back w 55 9 5 ⟨g,0,none⟩ cap l Tryz.underlying55 Tryz.underlying5 Tryz.underlying9 fun j hj=>?_
 exact World.ownsRow.cells h (g:=g) rfl j _ (by simp[cz hj])
theorem jBm.snoc {v':Value}{l:List UInt8}{b:UInt8}(h:w1.ownsRow B 5 1 v' (l.length+1) ((l.map fun b=>Value.int .u8 b.toNat)++[.int .u8 b.toNat])):jBm B w1 v' (l++[b]):=by
 unfold jBm;simpa using h
theorem jBm.more {v':Value}{l:List UInt8}{s:BA}(h:w1.ownsRow B 5 1 v' (l.length+s.size) ((l.map fun b=>Value.int .u8 b.toNat)++Lib.strCells s)):jBm B w1 v' (l++s.data.toList):=by
 unfold jBm;rw[cg,cR,dj];exact h
theorem jO2 {ops:Array Oper}{rest:List Oper}{Q:Exit->Act->World->Prop}(hc:o.guard=none)(sl x:Operand)
  (ho:o.op=.call { callee:=.builtin .append,args:=#[sl,x],argTypes:=#[55,9] }) (B:Nat) (v:Value) (l:List UInt8) (hs:a.eval sl=v) (hb:jBm B w v l)
  (s:BA) (hx:a.eval x=.string s) (h1:l.length+s.size<=100000000000) (hB:B<=w.heap.size)
  (h:∀v' w',jBm B w' v' (l++s.data.toList)->Below B w w'->wpList Tryz.prog ops Q rest (a.put o.dst v') w'):wpList Tryz.prog ops Q (o::rest) a w:=by
 obtain⟨i0,hi,hg,hh,hj⟩:=cV Tryz.jGj;refine Lib.wpList_append_own_string _ hc sl x 55 9 ho B 5 i0 Tryz.underlying55 Tryz.underlying9 hi hg hh hj v l.length _ hs hb s hx (by unfold maxLen;omega) (by omega) hB ?_;intro v' w' hf ha _;exact h v' w' (jBm.more hf) (Tch.aO ha (fun k hk=>(World.ownsRow.lt hb k hk).1) hB)
theorem jKG {ops:Array Oper}{rest:List Oper}{Q:Exit->Act->World->Prop}(hf:o.guard=none)(sl x:Operand)
  (ho:o.op=.call { callee:=.builtin .append,args:=#[sl,x],argTypes:=#[55,55] }) (B:Nat) (v:Value) (l:List UInt8) (hs:a.eval sl=v) (hb:jBm B w v l)
  (b:UInt8) (ad:Addr) (c:Nat) (hx:a.eval x=.slice (some ad) 1 c) (hc:w.cell? ad=some (.int .u8 b.toNat)) (h1:l.length+1<=100000000000) (hB:B<=w.heap.size)
  (h:∀v' w',jBm B w' v' (l++[b])->Below B w w'->wpList Tryz.prog ops Q rest (a.put o.dst v') w'):wpList Tryz.prog ops Q (o::rest) a w:=by
 obtain⟨i0,hi,hh,hj,hn⟩:=cV Tryz.jGj
 refine cT _ hf sl x 55 ho B 5 i0 _ 1 1 Tryz.underlying55 hi hh hj hn rfl (by decide) v l.length _ hs hb ad 1 c [.int .u8 b.toNat] hx rfl (by
  intro j u hu;cases j with
  | zero =>
   rw[show ad.add 0=ad from by unfold Addr.add;split<;>simp_all];simp at hu;subst hu;exact hc
  | succ j=>simp at hu) (by intro u hu;simp at hu;subst hu;rfl) (by decide) (by unfold maxLen;omega) (by omega) hB _ rfl ?_
 intro g cap w' hg ha _ _;exact h _ w' (jBm.snoc hg) (Tch.aO ha (fun k hk=>(World.ownsRow.lt hb k hk).1) hB)
end
def Sq.aZ (db:List Tab)(k:Nat)(rows:List (List Val)):List Tab:=match db[k]? with | some t=>db.set k { t with rows:=rows } | none=>db
def Sq.jDb (db:List Tab)(k:Nat):List (List Val):=match db[k]? with | some t=>t.rows | none=>[]
def Sq.jBq (key:Int)(rows:List (List Val)):List (List Val):=rows.filter fun r=>Sq.keyOf r != key
def Sq.put (row:List Val):List (List Val)->List (List Val)
 | []=>[row]
 | r::q=>if Sq.keyOf r<Sq.keyOf row then r::Sq.put row q else row::Sq.jBq (Sq.keyOf row) (r::q)
def Sq.jDa (puts:List (List Val))(rows:List (List Val)):List (List Val):=puts.foldl (fun rows r=>Sq.put r rows) rows
def Sq.jDN (cuts:List Int)(rows:List (List Val)):List (List Val):=cuts.foldl (fun rows k=>Sq.jBq k rows) rows
namespace Sq
theorem jH3 (db:List Tab)(k:Nat):aZ db k (jDb db k)=db:=by
 unfold aZ jDb;cases h:db[k]? with
 | none=>rfl
 | some t =>
  obtain⟨hk,ht⟩:=List.getElem?_eq_some_iff.1 h;subst ht;exact List.set_getElem_self hk
theorem jKD (db:List Tab)(k:Nat)(rows:List (List Val)):(aZ db k rows).length=db.length:=by
 unfold aZ;split<;>simp
theorem jHZ (db:List Tab)(k:Nat)(hk:k<db.length)(rows:List (List Val)):aZ db k rows=db.set k { db[k] with rows:=rows }:=by
 unfold aZ;rw[cz hk]
theorem jMx (db:List Tab)(k:Nat)(x y:List (List Val)):aZ (aZ db k x) k y=aZ db k y:=by
 by_cases hk:k<db.length
 ·have h:=jHZ (aZ db k x) k (by rw[jKD];exact hk) y;rw[h,jHZ db k hk y];simp[jHZ db k hk x]
 have h:db[k]?=none:=dt (by omega);have h2:∀x,aZ db k x=db:=fun x=>by unfold aZ;rw[h]
 rw[h2,h2]
theorem jH5 (db:List Tab)(k:Nat)(hk:k<db.length):jDb db k=db[k].rows:=by
 unfold jDb;rw[cz hk]
def sorted (rows:List (List Val)):Prop:=rows.Pairwise fun r q=>keyOf r<keyOf q
theorem jJi {k:Int}{rows:List (List Val)}{x:List Val}(h:x∈jBq k rows):x∈rows/\keyOf x≠k:=by
 unfold jBq at h;rw[eh] at h;exact⟨h.1,by simpa using h.2⟩
theorem jOt {k:Int}{rows:List (List Val)}{x:List Val}(h:x∈rows)(hk:keyOf x≠k):x∈jBq k rows:=by
 unfold jBq;rw[eh];exact⟨h,by simpa using hk⟩
theorem jMY {k:Int}{rows:List (List Val)}(h:sorted rows):sorted (jBq k rows):=dQ _ h
theorem jUN (k:Int)(rows:List (List Val)):(jBq k rows).length<=rows.length:=dE _ _
theorem jL2 {row:List Val}:∀{rows:List (List Val)} {x:List Val},x∈put row rows->x=row\/x∈rows:=by
 intro rows
 induction rows with
 | nil=>intro x h;rw[put] at h;simpa using h
 | cons r q ih =>
  intro x h;rw[put] at h
  split at h
  ·rcases List.mem_cons.1 h with rfl | h
   ·exact Or.inr (by simp)
   rcases ih h with h | h
   ·exact Or.inl h
   exact Or.inr (by simp[h])
  rcases List.mem_cons.1 h with rfl | h
  ·exact Or.inl rfl
  exact Or.inr (jJi h).1
theorem jNm {row:List Val}:∀{rows:List (List Val)},sorted rows->sorted (put row rows):=by
 intro rows
 induction rows with
 | nil=>intro _;rw[put];exact List.pairwise_singleton _ _
 | cons r q ih =>
  intro h;rw[put];have h':=List.pairwise_cons.1 h
  split
  ·rename_i ha;refine List.pairwise_cons.2 ⟨?_,ih h'.2⟩;intro x hx;rcases jL2 hx with rfl | hx
   ·exact ha
   exact h'.1 x hx
  rename_i ha;refine List.pairwise_cons.2 ⟨?_,jMY h⟩;intro x hx;obtain⟨h1,h2⟩:=jJi hx;rcases List.mem_cons.1 h1 with rfl | h1
  ·omega
  have:=h'.1 x h1;omega
def jJH (rows:List (List Val))(k:Int):Prop:=∃r∈rows,keyOf r=k
theorem qA7 {row:List Val}{k:Int}:∀{rows:List (List Val)},jJH rows k->jJH (put row rows) k:=by
 intro rows
 induction rows with
 | nil=>rintro⟨r,hr,_⟩;simp at hr
 | cons r q ih =>
  rintro⟨x,hx,hk⟩;rw[put]
  split
  ·rcases List.mem_cons.1 hx with rfl | hx
   ·exact⟨x,by simp,hk⟩
   obtain⟨y,hy,hk⟩:=ih ⟨x,hx,hk⟩;exact⟨y,by simp[hy],hk⟩
  by_cases he:keyOf row=k
  ·exact⟨row,by simp,he⟩
  exact⟨x,List.mem_cons.2 (Or.inr (jOt hx (by omega))),hk⟩
theorem qCL (row:List Val):∀rows:List (List Val),(put row rows).length<=rows.length+1:=by
 intro rows
 induction rows with
 | nil=>simp[put]
 | cons r q ih =>
  rw[put]
  split
  ·simp;omega
  have:=jUN (keyOf row) (r::q)
  simp only[cG] at this ⊢;omega
theorem jX3 (row:List Val):∀rows:List (List Val),jJH rows (keyOf row)->(put row rows).length<=rows.length:=by
 intro rows
 induction rows with
 | nil=>rintro⟨r,hr,_⟩;simp at hr
 | cons r q ih =>
  rintro⟨x,hx,hk⟩;rw[put]
  split
  ·rename_i ha;rcases List.mem_cons.1 hx with rfl | hx
   ·omega
   have:=ih ⟨x,hx,hk⟩
   simp;omega
  have h1:(jBq (keyOf row) (r::q)).length<(r::q).length:=by
   unfold jBq;rw[<-List.countP_eq_length_filter];rcases dL (List.countP (fun r=>keyOf r != keyOf row) (r::q)) (r::q).length with h | h
   ·exact h
   have h2:List.countP (fun r=>keyOf r != keyOf row) (r::q)=(r::q).length:=Nat.le_antisymm (List.countP_le_length) h;rw[List.countP_eq_length] at h2
   have:=h2 x hx
   simp[hk] at this
  simp only[cG] at h1 ⊢;omega
theorem jPl:∀(puts:List (List Val)) {rows:List (List Val)},sorted rows->sorted (jDa puts rows)
 | [],_,h=>h
 | p::r,_,h=>jPl r (jNm (row:=p) h)
theorem jM0:∀(puts:List (List Val)) {rows:List (List Val)} {x:List Val},x∈jDa puts rows->x∈puts\/x∈rows
 | [],_,_,h=>Or.inr h
 | p::r,rows,x,h=>by
  rcases jM0 r (rows:=put p rows) h with h | h
  ·exact Or.inl (by simp[h])
  rcases jL2 h with rfl | h
  ·exact Or.inl (by simp)
  exact Or.inr h
theorem jRK:∀(puts:List (List Val)) {rows:List (List Val)},(∀p∈puts,jJH rows (keyOf p))->(jDa puts rows).length<=rows.length
 | [],_,_=>nR
 | p::r,rows,h=>by
  have h1:=jX3 p rows (h p (by simp));have h2:=jRK r (rows:=put p rows) (fun x hx=>qA7 (h x (by simp[hx])));exact cm h2 h1
theorem jPf:∀(cuts:List Int) {rows:List (List Val)},sorted rows->sorted (jDN cuts rows)
 | [],_,h=>h
 | p::r,_,h=>jPf r (jMY (k:=p) h)
theorem jMZ:∀(cuts:List Int) {rows:List (List Val)} {x:List Val},x∈jDN cuts rows->x∈rows
 | [],_,_,h=>h
 | p::r,rows,x,h=>(jJi (jMZ r (rows:=jBq p rows) h)).1
theorem jSh:∀(cuts:List Int) {rows:List (List Val)},(jDN cuts rows).length<=rows.length
 | [],_=>nR
 | p::r,rows=>cm (jSh r (rows:=jBq p rows)) (jUN p rows)
end Sq
structure Sq.Ent where
 place:Int
 row:BA
abbrev Sq.Kid:Nat->Type
 | 0=>Sq.Ent
 | n+1=>List (Sq.Kid n)
namespace Sq
def av:(n:Nat)->List (Kid n)->List Ent
 | 0,es=>es
 | n+1,cs=>List.flatMap (av n) cs
def least:(n:Nat)->List (Kid n)->Int
 | 0,[]=>0
 | 0,e::_=>Ent.place e
 | _+1,[]=>0
 | n+1,c::_=>least n c
def jDi (n:Nat)(p:Int):List (List (Kid n))->Nat->Nat->Nat
 | [],_,a=>a
 | c::r,i,a=>jDi n p r (i+1) (if least n c<=p then i else a)
def way (n:Nat)(cs:List (List (Kid n)))(p:Int):Nat:=jDi n p (cs.drop 1) 1 0
def bF {α:Type}(l:List α):List (List α):=if l.length<=4 then[l] else[l.take 3,l.drop 3]
def bm {α:Type}(l:List α)(a m:Nat)(o:List α):List α:=l.take a++o++l.drop (a+m)
def jAX (es:List Ent)(e:Ent):List Ent :=
 es.takeWhile (fun x=>Decidable.decide (x.place<e.place))++e::(es.dropWhile (fun x=>Decidable.decide (x.place<e.place))).filter (fun x=>x.place != e.place)
def jHa {α:Type}(cs:List (List α))(a:Nat)(f:List α->List (List α)):Option (List α)->List (List (List α))
 | none=>[cs]
 | some c=>bF (bm cs a 1 (f c))
def jCE:(n:Nat)->List (Kid n)->Ent->List (List (Kid n))
 | 0,es,e=>bF (jAX es e)
 | n+1,cs,e=>jHa cs (way n cs e.place) (fun c=>jCE n c e) ((show List (List (Kid n)) from cs)[way n cs e.place]?)
def jFX {α:Type}(cs:List (List α))(a:Nat):List (List α) :=
 match cs[if a+1==cs.length then a-1 else a]?,cs[(if a+1==cs.length then a-1 else a)+1]? with
 | some l,some r=>bm cs (if a+1==cs.length then a-1 else a) 2 (bF (l++r))
 | _,_=>cs
def jDS {α:Type}(cs:List (List α))(a:Nat)(c:List α):List (List α) :=
 if c.length<2 then jFX (bm cs a 1 [c]) a else bm cs a 1 [c]
def jKw {α:Type}(cs:List (List α))(a:Nat)(f:List α->List α):Option (List α)->List (List α)
 | none=>cs
 | some c=>jDS cs a (f c)
def jDk:(n:Nat)->List (Kid n)->Int->List (Kid n)
 | 0,es,p=>List.filter (fun x:Ent=>x.place != p) es
 | n+1,cs,p=>jKw cs (way n cs p) (fun c=>jDk n c p) (show List (List (Kid n)) from cs)[way n cs p]?
def jMt {α:Type}(f:List α->Bool):Option (List α)->Bool
 | none=>false
 | some c=>f c
def jHm:(n:Nat)->List (Kid n)->Int->Bool
 | 0,es,p=>List.any es (fun x:Ent=>x.place==p)
 | n+1,cs,p=>jMt (fun c=>jHm n c p) (show List (List (Kid n)) from cs)[way n cs p]?
def jFI (n:Nat)(lo:Int):List (List (Kid n))->Bool
 | []=>true
 | d::_=>Decidable.decide (lo<least n d)
def jHi (n:Nat)(f:List (Kid n)->List Ent)(lo hi:Int):List (List (Kid n))->List Ent
 | []=>[]
 | c::r=>(if Decidable.decide (least n c<=hi)&&jFI n lo r then f c else[])++jHi n f lo hi r
def jIz:(n:Nat)->List (Kid n)->Int->Int->List Ent
 | 0,es,lo,hi=>List.filter (fun x:Ent=>Decidable.decide (lo<=x.place)&&Decidable.decide (x.place<=hi)) es
 | n+1,cs,lo,hi=>jHi n (fun c=>jIz n c lo hi) lo hi cs
def okT:(n:Nat)->List (Kid n)->Prop
 | 0,_=>True
 | n+1,cs=>∀c:List (Kid n),c∈(show List (List (Kid n)) from cs)->2<=c.length/\okT n c
def srt (es:List Ent):Prop:=es.Pairwise fun a b=>a.place<b.place
def ins (es:List Ent)(e:Ent):List Ent:=es.filter (fun x=>Decidable.decide (x.place<e.place))++e::es.filter (fun x=>Decidable.decide (e.place<x.place))
theorem jPO:∀(n:Nat) (a b:List (Kid n)),av n (a++b)=av n a++av n b
 | 0,_,_=>rfl
 | n+1,a,b=>by
  show List.flatMap (av n) (a++b)=List.flatMap (av n) a++List.flatMap (av n) b;exact cN
theorem jQ0 {cs:List (List (Kid n))}(h:okT (n+1) cs){c:List (Kid n)}(hc:c∈cs):2<=c.length/\okT n c:=h c hc
theorem jKe {cs:List (List (Kid n))}(h:∀c∈cs,2<=c.length/\okT n c):okT (n+1) cs:=h
theorem jU5:∀{n:Nat} {a b:List (Kid n)},okT n b->(∀x∈a,x∈b)->okT n a
 | 0,_,_,_,_=>trivial
 | _+1,_,_,h,hs=>fun c hc=>h c (hs c hc)
theorem qCP:∀{n:Nat} {a b:List (Kid n)},okT n a->okT n b->okT n (a++b)
 | 0,_,_,_,_=>trivial
 | _+1,_,_,ha,hb=>fun c hc=>by
  rcases List.mem_append.1 hc with h | h
  ·exact ha c h
  exact hb c h
theorem jM6:∀(n:Nat) (t:List (Kid n)),okT n t->t≠[]->∃e r,av n t=e::r/\least n t=e.place
 | 0,t,_,h=>by
  cases t with
  | nil=>exact absurd rfl h
  | cons e r=>exact⟨e,r,rfl,rfl⟩
 | n+1,t,ho,h=>by
  cases t with
  | nil=>exact absurd rfl h
  | cons c r =>
   obtain⟨h2,hc⟩:=ho c dh;obtain⟨e,q,he,hl⟩:=jM6 n c hc (by intro h;subst h;simp at h2);refine⟨e,q++List.flatMap (av n) r,?_,hl⟩;show List.flatMap (av n) (c::r)=_;rw[cK,he];rfl
theorem jF3 {l:List α}(h:2<=l.length):l≠[]:=by intro e;subst e;simp at h
theorem jTj {t:List (Kid n)}(ho:okT n t)(h:t≠[]):∃e∈av n t,least n t=e.place:=by
 obtain⟨e,r,he,hl⟩:=jM6 n t ho h;exact⟨e,by rw[he];exact dh,hl⟩
theorem jUn {t:List (Kid n)}(ho:okT n t)(h:t≠[])(hs:srt (av n t)):∀e∈av n t,least n t<=e.place:=by
 obtain⟨e,r,he,hl⟩:=jM6 n t ho h;rw[he] at hs;intro x hx;rw[he] at hx;rcases List.mem_cons.1 hx with rfl | hx
 ·omega
 have:=(List.pairwise_cons.1 hs).1 x hx
 omega
theorem jHz {a b:List Ent}(h:srt (a++b)):srt a/\srt b/\∀x∈a,∀y∈b,x.place<y.place:=List.pairwise_append.1 h
theorem jPE (n:Nat)(p:Int):∀(r:List (List (Kid n))) (i a:Nat),
  (jDi n p r i a=a/\∀c∈r,p<least n c)\/∃r1 c r2,r=r1++c::r2/\jDi n p r i a=i+r1.length/\least n c<=p/\∀x∈r2,p<least n x
 | [],_,_=>Or.inl ⟨rfl,fun _ h=>by cases h⟩
 | c::r,i,a=>by
  rcases jPE n p r (i+1) (if least n c<=p then i else a) with⟨h1,h2⟩ | ⟨r1,d,r2,h1,h2,h3,h4⟩
  ·by_cases hc:least n c<=p
   ·refine Or.inr ⟨[],c,r,rfl,?_,hc,h2⟩;rw[jDi,h1,cE hc];simp
   refine Or.inl ⟨by rw[jDi,h1,cy hc],?_⟩;intro x hx;rcases List.mem_cons.1 hx with rfl | hx
   ·omega
   exact h2 x hx
  refine Or.inr ⟨c::r1,d,r2,by rw[h1];rfl,?_,h3,h4⟩;rw[jDi,h2];simp;omega
theorem jLT (n:Nat)(cs:List (List (Kid n)))(p:Int)(ho:okT (n+1) cs)(ha:cs≠[])(hs:srt (av (n+1) cs)) :
  ∃pre c post,cs=pre++c::post/\way n cs p=pre.length/\(∀e∈pre.flatMap (av n),e.place<p)/\(∀e∈post.flatMap (av n),p<e.place):=by
 have after:∀l:List (List (Kid n)),(∀x∈l,x∈cs)->(∀x∈l,srt (av n x))->(∀x∈l,p<least n x)->∀e∈l.flatMap (av n),p<e.place:=by
  intro l hl hf hp e he;obtain⟨x,hx,hex⟩:=List.mem_flatMap.1 he;obtain⟨h2,hc⟩:=jQ0 ho (hl x hx)
  have:=jUn hc (jF3 h2) (hf x hx) e hex
  have:=hp x hx
  omega
 have each:∀x∈cs,srt (av n x):=by
  intro x hx;obtain⟨l1,l2,rfl⟩:=List.append_of_mem hx;have h1:srt ((l1.flatMap (av n))++((x::l2).flatMap (av n))):=by rw[<-cN];exact hs
  have h2:=(jHz h1).2.1;rw[cK] at h2;exact(jHz h2).1
 cases cs with
 | nil=>exact absurd rfl ha
 | cons c0 r =>
  rcases jPE n p r 1 0 with⟨h1,h2⟩ | ⟨r1,d,r2,h1,h2,h3,h4⟩
  ·exact⟨[],c0,r,rfl,h1,(fun e he=>by simp at he),after r (fun x hx=>cY _ hx) (fun x hx=>each x (cY _ hx)) h2⟩
  subst h1;refine⟨c0::r1,d,r2,rfl,?_,?_,after r2 (fun x hx=>by simp[hx]) (fun x hx=>each x (by simp[hx])) h4⟩
  ·show jDi n p (r1++d::r2) 1 0=_;rw[h2];simp;omega
  have hd:d∈c0::(r1++d::r2):=by simp
  obtain⟨k2,hb⟩:=jQ0 ho hd;obtain⟨z,hz,hg⟩:=jTj hb (jF3 k2);have h5:srt (((c0::r1).flatMap (av n))++((d::r2).flatMap (av n))):=by rw[<-cN];exact hs
  intro e he
  have:=(jHz h5).2.2 e he z (by rw[cK];exact List.mem_append_left _ hz)
  omega
theorem jE8 (pre post:List α)(c:α)(o:List α):bm (pre++c::post) pre.length 1 o=pre++o++post:=by
 unfold bm;rw[List.take_left,(by simp:(pre++c::post).drop (pre.length+1)=post)]
theorem jL8 (pre post:List α)(c:α):(pre++c::post)[pre.length]?=some c:=by simp
theorem jNb (n:Nat)(l:List (Kid n)):(bF l).flatMap (av n)=av n l:=by
 unfold bF
 split
 ·simp
 rw[cK,cK,eA,cW,<-jPO,ee]
theorem jUa {l:List (Kid n)}(h:okT n l):∀x∈bF l,okT n x:=by
 unfold bF
 split
 ·intro x hx;rw[List.mem_singleton.1 hx];exact h
 intro x hx;simp only[dI,ep,or_false] at hx;rcases hx with rfl | rfl
 ·exact jU5 h fun y hy=>eg hy
 exact jU5 h fun y hy=>dR hy
theorem jNB {l:List α}(h:2<=l.length):∀x∈bF l,2<=x.length:=by
 unfold bF
 split
 ·intro x hx;rw[List.mem_singleton.1 hx];exact h
 intro x hx;simp only[dI,ep,or_false] at hx;rcases hx with rfl | rfl
 ·simp;omega
 simp;omega
theorem jIT (l:List α):1<=(bF l).length/\(bF l).length<=2:=by
 unfold bF;split<;>simp
theorem jHw {l:List Ent}{q:Ent->Bool}(h:∀x∈l,q x=true):l.filter q=l:=List.filter_eq_self.2 h
theorem jKa {l:List Ent}{q:Ent->Bool}(h:∀x∈l,q x=false):l.filter q=[]:=List.filter_eq_nil_iff.2 fun x hx=>by rw[h x hx];simp
theorem jNI:∀(es:List Ent) (e:Ent),srt es->jAX es e=ins es e
 | [],_,_=>rfl
 | x::r,e,hs=>by
  have⟨h1,h2⟩:=List.pairwise_cons.1 hs
  have ih:=jNI r e h2;unfold jAX ins at ih ⊢
  by_cases hx:x.place<e.place
  ·simp only[dY,List.dropWhile_cons,dK,hx,decide_true,dT]
   have:¬(e.place<x.place):=by omega
   simp only[this,decide_false];rw[List.cons_append,ih];rfl
  have hr:∀y∈r,e.place<y.place:=fun y hy=>by have:=h1 y hy;omega
  simp only[dY,List.dropWhile_cons,dK,hx,decide_false,List.nil_append];have e1:r.filter (fun x=>Decidable.decide (x.place<e.place))=[]:=jKa fun y hy=>by have:=hr y hy;simp;omega
  have e2:r.filter (fun x=>Decidable.decide (e.place<x.place))=r:=jHw fun y hy=>by have:=hr y hy;simpa using this
  have e3:r.filter (fun x=>x.place != e.place)=r:=jHw fun y hy=>by have:=hr y hy;simp;omega
  simp only[e1,e2]
  by_cases hxe:x.place=e.place
  ·have hb:(x.place != e.place)=false:=by simp[hxe]
   have hc:¬(e.place<x.place):=by omega
   simp only[hc,decide_false,dr,eD,dK,hb,e3,List.nil_append]
  have hb:(x.place != e.place)=true:=by simp[hxe]
  have hc:e.place<x.place:=by omega
  simp only[hc,decide_true,dr,eD,dT,dK,hb,e3,List.nil_append]
theorem qCU {pre ha post:List Ent}{e:Ent}(h1:∀x∈pre,x.place<e.place)(h2:∀x∈post,e.place<x.place):ins (pre++ha++post) e=pre++ins ha e++post:=by
 unfold ins;simp only[List.filter_append]
 rw[jHw (l:=pre) (fun x hx=>by simpa using h1 x hx),jKa (l:=post) (q:=fun x=>Decidable.decide (x.place<e.place)) (fun x hx=>by have:=h2 x hx;simp;omega),
  jKa (l:=pre) (q:=fun x=>Decidable.decide (e.place<x.place)) (fun x hx=>by have:=h1 x hx;simp;omega),jHw (l:=post) (fun x hx=>by simpa using h2 x hx)]
 simp
theorem jL6 {pre ha post:List Ent}(h:srt (pre++ha++post)):srt ha:=(jHz (jHz h).1).2.1
theorem jKi {pre post:List (List (Kid n))}{c:List (Kid n)}:av (n+1) (pre++c::post)=pre.flatMap (av n)++av n c++post.flatMap (av n):=by
 show List.flatMap (av n) (pre++c::post)=_;rw[cN,cK,dm]
theorem jTL:∀(n:Nat) (t:List (Kid n)) (e:Ent),okT n t->(n=0\/t≠[])->srt (av n t)->(jCE n t e).flatMap (av n)=ins (av n t) e
 | 0,t,e,_,_,hs=>by
  show(bF (jAX t e)).flatMap (av 0)=_
  rw[jNb 0];exact jNI t e hs
 | n+1,cs,e,ho,hne,hs=>by
  obtain⟨pre,c,post,rfl,hw,h1,h2⟩:=jLT n cs e.place ho (by rcases hne with h | h;cases h;exact h) hs;obtain⟨k2,ha⟩:=jQ0 ho (c:=c) (by simp);have hm:=jKi (n:=n) (pre:=pre) (post:=post) (c:=c);rw[hm] at hs
  have hp:jCE (n+1) (pre++c::post) e=bF (pre++jCE n c e++post):=by
   show jHa (pre++c::post) (way n (pre++c::post) e.place) (fun c=>jCE n c e) (pre++c::post)[way n (pre++c::post) e.place]?=_;rw[hw,jL8];exact congrArg bF (jE8 _ _ _ _)
  rw[hp];refine(jNb (n+1) _).trans ?_;show List.flatMap (av n) (pre++jCE n c e++post)=_;rw[cN,cN,jTL n c e ha (Or.inr (jF3 k2)) (jL6 hs),hm,qCU h1 h2]
theorem jVx:∀{es:List Ent},srt es->∀p:Int,es.length<=(es.filter fun x=>x.place != p).length+1
 | [],_,_=>by simp
 | x::r,hs,p=>by
  have⟨h1,h2⟩:=List.pairwise_cons.1 hs
  by_cases hx:x.place=p
  ·have:r.filter (fun x=>x.place != p)=r:=jHw fun y hy=>by have:=h1 y hy;simp;omega
   simp[dK,hx,this]
  have:=jVx h2 p
  simp[dK,hx];omega
theorem qCV {es:List Ent}(hs:srt es)(e:Ent):es.length<=(ins es e).length/\(ins es e).length<=es.length+1:=by
 induction es with
 | nil=>simp[ins]
 | cons x r ih =>
  have⟨h1,h2⟩:=List.pairwise_cons.1 hs
  have ih:=ih h2;unfold ins at ih ⊢;simp only[dK,cg,cG] at ih ⊢
  by_cases a:x.place<e.place
  ·have b:¬(e.place<x.place):=by omega
   simp only[a,b,decide_true,decide_false,dT,cG] at ih ⊢;simp;omega
  by_cases b:e.place<x.place
  ·simp only[a,b,decide_true,decide_false,dT,cG] at ih ⊢;simp;omega
  have e1:r.filter (fun x=>Decidable.decide (x.place<e.place))=[]:=jKa fun y hy=>by have:=h1 y hy;simp;omega
  have e2:r.filter (fun x=>Decidable.decide (e.place<x.place))=r:=jHw fun y hy=>by have:=h1 y hy;simp;omega
  simp[a,b,e1,e2]
theorem jVh:∀(n:Nat) (t:List (Kid n)) (e:Ent),okT n t->(n=0\/t≠[])->srt (av n t)->(∀x∈jCE n t e,okT n x/\(2<=t.length->2<=x.length))/\1<=(jCE n t e).length/\(jCE n t e).length<=2
 | 0,t,e,_,_,hs=>by
  refine⟨fun x hx=>⟨trivial,fun h2=>?_⟩,jIT _⟩;refine jNB ?_ x hx
  have:=(qCV (es:=t) hs e).1
  rw[jNI t e hs];exact cm h2 this
 | n+1,cs,e,ho,hne,hs=>by
  obtain⟨pre,c,post,rfl,hw,h1,h2⟩:=jLT n cs e.place ho (by rcases hne with h | h;cases h;exact h) hs;obtain⟨k2,hg⟩:=jQ0 ho (c:=c) (by simp);have hm:=jKi (n:=n) (pre:=pre) (post:=post) (c:=c);rw[hm] at hs
  have hp:jCE (n+1) (pre++c::post) e=bF (pre++jCE n c e++post):=by
   show jHa (pre++c::post) (way n (pre++c::post) e.place) (fun c=>jCE n c e) (pre++c::post)[way n (pre++c::post) e.place]?=_;rw[hw,jL8];exact congrArg bF (jE8 _ _ _ _)
  obtain⟨hx,hf,hh⟩:=jVh n c e hg (Or.inr (jF3 k2)) (jL6 hs);rw[hp];refine⟨fun x hb=>⟨?_,fun hc=>?_⟩,jIT _⟩
  ·refine jUa (n:=n+1) ?_ x hb;refine jKe fun y hy=>?_
   rcases List.mem_append.1 hy with hy | hy
   ·rcases List.mem_append.1 hy with hy | hy
    ·exact jQ0 ho (by simp[hy])
    ·exact⟨(hx y hy).2 k2,(hx y hy).1⟩
   ·exact jQ0 ho (by simp[hy])
  ·refine jNB ?_ x hb;simp only[cg,cG] at hc ⊢;have ha:1<=List.length (jCE n c e):=hf;omega
theorem jRB {cs:List (List α)}{a:Nat}(ha:a<cs.length)(h2:2<=cs.length) :
  ∃pre l r post,cs=pre++l::r::post/\jFX cs a=pre++bF (l++r)++post/\(pre.length=a\/pre.length+1=a):=by
 obtain⟨b,hb⟩:∃b,b=(if a+1==cs.length then a-1 else a):=⟨_,rfl⟩
 have hf:b+1<cs.length:=by
  rw[hb]
  by_cases h:a+1=cs.length
  ·simp[h];omega
  simp[h];omega
 have hc:b=a\/b+1=a:=by
  rw[hb]
  by_cases h:a+1=cs.length
  ·simp[h];omega
  simp[h]
 have he:cs=cs.take b++cs[b]::cs[b+1]::cs.drop (b+2):=by
  conv=>lhs;rw[<-ee b cs,cr (by omega),cr (by omega)]
 have hl:(cs.take b).length=b:=by simp;omega
 refine⟨cs.take b,cs[b],cs[b+1],cs.drop (b+2),he,?_,by rw[hl];exact hc⟩;unfold jFX;rw[<-hb,cz (by omega),cz (by omega)];rfl
theorem qCq {pre ha post:List Ent}{p:Int}(h1:∀x∈pre,x.place<p)(h2:∀x∈post,p<x.place):(pre++ha++post).filter (fun x=>x.place != p)=pre++ha.filter (fun x=>x.place != p)++post:=by
 simp only[List.filter_append];rw[jHw (l:=pre) (fun x hx=>by have:=h1 x hx;simp;omega),jHw (l:=post) (fun x hx=>by have:=h2 x hx;simp;omega)]
theorem jX9 {pre post:List (List (Kid n))}{c:List (Kid n)}(d:List (Kid n))(h2:2<=(pre++c::post).length) :
  av (n+1) (jDS (pre++c::post) pre.length d)=av (n+1) (pre++d::post):=by
 unfold jDS;rw[jE8]
 split
 ·have e1:pre++[d]++post=pre++d::post:=by simp
  rw[e1];obtain⟨p,l,r,q,hc,hj,_⟩:=jRB (cs:=pre++d::post) (a:=pre.length) (by simp) (by simpa using h2);rw[hj,hc];show List.flatMap (av n) (p++bF (l++r)++q)=List.flatMap (av n) (p++l::r::q);rw[cN,cN,jNb n,jPO,cN,cK,cK];simp
 have e1:pre++[d]++post=pre++d::post:=by simp
 rw[e1]
theorem qAb {pre post:List (List (Kid n))}{c:List (Kid n)}{d:List (Kid n)}(ho:okT (n+1) (pre++c::post))(hd:okT n d)(h1:1<=d.length)(h2:2<=(pre++c::post).length) :
  okT (n+1) (jDS (pre++c::post) pre.length d)/\(pre++c::post).length<=(jDS (pre++c::post) pre.length d).length+1:=by
 unfold jDS;rw[jE8];have e1:pre++[d]++post=pre++d::post:=by simp
 rw[e1]
 have each:∀y∈pre++d::post,okT n y/\(y=d\/2<=y.length):=by
  intro y hy;rcases List.mem_append.1 hy with hy | hy
  ·exact⟨(jQ0 ho (by simp[hy])).2,Or.inr (jQ0 ho (by simp[hy])).1⟩
  rcases List.mem_cons.1 hy with rfl | hy
  ·exact⟨hd,Or.inl rfl⟩
  exact⟨(jQ0 ho (by simp[hy])).2,Or.inr (jQ0 ho (by simp[hy])).1⟩
 split
 next hlt =>
  obtain⟨p,l,r,q,hc,hj,hf⟩:=jRB (cs:=pre++d::post) (a:=pre.length) (by simp) (by simpa using h2)
  have ha:(∀y∈p,2<=y.length)/\(∀y∈q,2<=y.length)/\2<=(l++r).length:=by
   rcases hf with hp | hp
   ·have h:=List.append_inj hc (by rw[hp]);obtain⟨rfl,h⟩:=h;obtain⟨rfl,rfl⟩:=List.cons.inj h;refine⟨fun y hy=>(jQ0 ho (by simp[hy])).1,fun y hy=>(jQ0 ho (by simp[hy])).1,?_⟩
    have:=(jQ0 ho (c:=r) (by simp)).1
    rw[cg];omega
   have hb:pre++d::post=(p++[l])++r::q:=by rw[hc];simp
   have h:=List.append_inj hb (by simp[hp]);obtain⟨rfl,h⟩:=h;obtain⟨rfl,rfl⟩:=List.cons.inj h;refine⟨fun y hy=>(jQ0 ho (by simp[hy])).1,fun y hy=>(jQ0 ho (by simp[hy])).1,?_⟩
   have:=(jQ0 ho (c:=l) (by simp)).1
   rw[cg];omega
  rw[hj];rw[hc] at each;refine⟨jKe fun y hy=>?_,?_⟩
  ·rcases List.mem_append.1 hy with hy | hy
   ·rcases List.mem_append.1 hy with hy | hy
    ·exact⟨ha.1 y hy,(each y (by simp[hy])).1⟩
    exact⟨jNB ha.2.2 y hy,jUa (qCP (each l (by simp)).1 (each r (by simp)).1) y hy⟩
   exact⟨ha.2.1 y hy,(each y (by simp[hy])).1⟩
  have hl:=congrArg List.length hc
  have:=(jIT (l++r)).1
  simp only[cg,cG] at hl this ⊢;omega
 next hge =>
  refine⟨jKe fun y hy=>?_,by simp⟩;rcases(each y hy).2 with rfl | h
  ·exact⟨by omega,hd⟩
  exact⟨h,(each y hy).1⟩
theorem qBH {pre post:List (List (Kid n))}{c:List (Kid n)}{p:Int}(hw:way n (pre++c::post) p=pre.length):jDk (n+1) (pre++c::post) p=jDS (pre++c::post) pre.length (jDk n c p):=by
 show jKw (pre++c::post) (way n (pre++c::post) p) (fun c=>jDk n c p) (pre++c::post)[way n (pre++c::post) p]?=_;rw[hw,jL8];rfl
theorem jVg:∀(n:Nat) (t:List (Kid n)) (p:Int),okT n t->(n=0\/2<=t.length)->srt (av n t) ->
  av n (jDk n t p)=(av n t).filter (fun x=>x.place != p)/\okT n (jDk n t p)/\t.length<=(jDk n t p).length+1
 | 0,t,p,_,_,hs=>⟨rfl,trivial,jVx (es:=t) hs p⟩
 | n+1,cs,p,ho,hne,hs=>by
  have hl:2<=List.length cs:=by rcases hne with h | h;cases h;exact h
  obtain⟨pre,c,post,rfl,hw,h1,h2⟩:=jLT n cs p ho (jF3 hl) hs;obtain⟨k2,ha⟩:=jQ0 ho (c:=c) (by simp);have hm:=jKi (n:=n) (pre:=pre) (post:=post) (c:=c);rw[hm] at hs;obtain⟨he,hb,hc⟩:=jVg n c p ha (Or.inr k2) (jL6 hs);rw[qBH hw];obtain⟨m1,m2⟩:=qAb (d:=jDk n c p) ho hb (by omega) hl;refine⟨?_,m1,m2⟩;rw[jX9 _ hl,jKi,he,hm,qCq h1 h2]
theorem jVc:∀(n:Nat) (t:List (Kid n)) (p:Int),okT n t->(n=0\/t≠[])->srt (av n t)->jHm n t p=(av n t).any fun x=>x.place==p
 | 0,_,_,_,_,_=>rfl
 | n+1,cs,p,ho,hne,hs=>by
  obtain⟨pre,c,post,rfl,hw,h1,h2⟩:=jLT n cs p ho (by rcases hne with h | h;cases h;exact h) hs;obtain⟨k2,ha⟩:=jQ0 ho (c:=c) (by simp);have hm:=jKi (n:=n) (pre:=pre) (post:=post) (c:=c);rw[hm] at hs
  have hh:jHm (n+1) (pre++c::post) p=jHm n c p:=by
   show jMt (fun c=>jHm n c p) (pre++c::post)[way n (pre++c::post) p]?=_;rw[hw,jL8];rfl
  rw[hh,jVc n c p ha (Or.inr (jF3 k2)) (jL6 hs),hm,List.any_append,List.any_append]
  have a1:(pre.flatMap (av n)).any (fun x=>x.place==p)=false:=by
   rw[List.any_eq_false];intro x hx;have:=h1 x hx;simp;omega
  have a2:(post.flatMap (av n)).any (fun x=>x.place==p)=false:=by
   rw[List.any_eq_false];intro x hx;have:=h2 x hx;simp;omega
  rw[a1,a2];simp
def inside (lo hi:Int)(x:Ent):Bool:=Decidable.decide (lo<=x.place)&&Decidable.decide (x.place<=hi)
theorem jUr (n:Nat)(f:List (Kid n)->List Ent)(lo hi:Int):∀cs:List (List (Kid n)),okT (n+1) cs->srt (cs.flatMap (av n))->(∀c∈cs,f c=(av n c).filter (inside lo hi))->jHi n f lo hi cs=(cs.flatMap (av n)).filter (inside lo hi)
 | [],_,_,_=>rfl
 | c::r,ho,hs,hf=>by
  obtain⟨k2,hc⟩:=jQ0 ho (c:=c) (by simp);rw[cK] at hs
  have⟨s1,s2,s3⟩:=jHz hs
  rw[jHi,jUr n f lo hi r (jKe fun x hx=>jQ0 ho (by simp[hx])) s2 (fun x hx=>hf x (by simp[hx])),cK,List.filter_append]
  congr 1
  split
  ·exact hf c (by simp)
  next hno =>
   symm
   refine jKa fun x hx=>?_
   have hb:=jUn hc (jF3 k2) s1 x hx;unfold inside
   by_cases hh:least n c<=hi
   ·cases r with
    | nil=>simp[hh,jFI] at hno
    | cons d q =>
     obtain⟨j2,hg⟩:=jQ0 ho (c:=d) (by simp);obtain⟨z,hz,hj⟩:=jTj hg (jF3 j2);have ha:least n d<=lo:=by simp[hh,jFI] at hno;omega
     have:=s3 x hx z (by rw[cK];exact List.mem_append_left _ hz)
     simp;omega
   simp;omega
theorem jUQ:∀(n:Nat) (t:List (Kid n)) (lo hi:Int),okT n t->srt (av n t)->jIz n t lo hi=(av n t).filter (inside lo hi)
 | 0,_,_,_,_,_=>rfl
 | n+1,cs,lo,hi,ho,hs=>by
  refine jUr n _ lo hi cs ho hs fun c hc=>?_
  obtain⟨k2,ha⟩:=jQ0 ho hc;refine jUQ n c lo hi ha ?_;obtain⟨l1,l2,rfl⟩:=List.append_of_mem hc;have h1:srt ((List.flatMap (av n) l1)++(List.flatMap (av n) (c::l2))):=by rw[<-cN];exact hs
  have h2:=(jHz h1).2.1;rw[cK] at h2;exact(jHz h2).1
structure Tree where
 d:Nat
 t:List (Kid d)
def Tree.av (x:Tree):List Ent:=Sq.av x.d x.t
def jIv:Tree:=⟨0,[]⟩
def upT (n:Nat)(l:List (List (Kid n))):Tree:=match l with | [x]=>⟨n,x⟩ | l=>⟨n+1,l⟩
def Tree.put (x:Tree)(e:Ent):Tree:=upT x.d (jCE x.d x.t e)
def jMk:(n:Nat)->List (Kid n)->Tree
 | 0,l=>⟨0,l⟩
 | n+1,l=>match l with | [x]=>⟨n,x⟩ | l=>⟨n+1,l⟩
def Tree.del (x:Tree)(p:Int):Tree:=jMk x.d (jDk x.d x.t p)
structure Tree.ok (x:Tree):Prop where
 kids:okT x.d x.t
 two:x.d=0\/2<=x.t.length
 sorted:srt x.av
theorem Tree.ok.ne {x:Tree}(h:x.ok):x.d=0\/x.t≠[]:=h.two.imp id jF3
theorem jOq {es:List Ent}(hs:srt es)(e:Ent):srt (ins es e):=by
 unfold ins srt;rw[List.pairwise_append];refine⟨dQ _ hs,?_,?_⟩
 ·rw[List.pairwise_cons];exact⟨fun x hx=>by simpa using(List.mem_filter.1 hx).2,dQ _ hs⟩
 intro a ha b hb;have h1:a.place<e.place:=by simpa using(List.mem_filter.1 ha).2
 rcases List.mem_cons.1 hb with rfl | hb
 ·exact h1
 have h2:e.place<b.place:=by simpa using(List.mem_filter.1 hb).2
 omega
theorem qA8:∀(n:Nat) (t:List (Kid n)) (e:Ent),∃q:List (Kid n),jCE n t e=Sq.bF q\/jCE n t e=[t]
 | 0,_,_=>⟨_,Or.inl rfl⟩
 | n+1,t,e=>by
  show ∃q:List (Kid (n+1)),jHa t (way n t e.place) (fun c=>jCE n c e) (show List (List (Kid n)) from t)[way n t e.place]?=Sq.bF q\/jHa t (way n t e.place) (fun c=>jCE n c e) (show List (List (Kid n)) from t)[way n t e.place]?=[t];cases (show List (List (Kid n)) from t)[way n t e.place]? with
  | none=>exact⟨[],Or.inr rfl⟩
  | some c=>exact⟨_,Or.inl rfl⟩
theorem qA6 {x:Tree}(h:x.ok)(e:Ent):(x.put e).ok/\(x.put e).av=ins x.av e:=by
 have hp:=jTL x.d x.t e h.kids h.ne h.sorted;obtain⟨hx,h1,h2⟩:=jVh x.d x.t e h.kids h.ne h.sorted;have hb:=jOq h.sorted e;unfold Tree.put upT;obtain⟨l,hl⟩:∃l,l=jCE x.d x.t e:=⟨_,rfl⟩;rw[<-hl] at hp hx h1 h2 ⊢
 match l,hl,hp,hx,h1,h2 with
 | [],_,_,_,h1,_=>simp at h1
 | [y],hl,hp,hx,_,_ =>
  have he:(⟨x.d,y⟩:Tree).av=ins x.av e:=by
   rw[<-(show _=ins x.av e from hp)];show Sq.av x.d y=_;simp
  refine⟨⟨(hx y (by simp)).1,?_,?_⟩,he⟩
  ·rcases h.two with h | h
   ·exact Or.inl h
   exact Or.inr ((hx y (by simp)).2 h)
  rw[he];exact hb
 | y::z::r,hl,hp,hx,_,h2 =>
  have he:(⟨x.d+1,y::z::r⟩:Tree).av=ins x.av e:=hp
  have ha:∀u∈y::z::r,2<=u.length:=by
   -- two parts: they come of five entries
   intro u hu;have h5:=qA8 x.d x.t e;obtain⟨q,hq | hq⟩:=h5
   ·rw[hq] at hl;unfold Sq.bF at hl
    split at hl
    ·cases hl
    cases hl;simp only[dI,ep,or_false] at hu;rcases hu with rfl | rfl
    ·simp;omega
    simp;omega
   rw[hq] at hl;cases hl
  refine⟨⟨jKe fun u hu=>⟨ha u hu,(hx u hu).1⟩,Or.inr (by simp),?_⟩,he⟩;rw[he];exact hb
theorem qBG {x:Tree}(h:x.ok)(p:Int):(x.del p).ok/\(x.del p).av=x.av.filter (fun y=>y.place != p):=by
 obtain⟨d,t⟩:=x;obtain⟨he,ho,hl⟩:=jVg d t p h.kids h.two h.sorted;have hs:srt ((Sq.av d t).filter (fun y=>y.place != p)):=dQ _ h.sorted;cases d with
 | zero=>exact⟨⟨trivial,Or.inl rfl,hs⟩,he⟩
 | succ n =>
  have h2:2<=t.length:=by rcases h.two with h | h;cases h;exact h
  show(match jDk (n+1) t p with | [x]=>(⟨n,x⟩:Tree) | l=>⟨n+1,l⟩).ok/\(match jDk (n+1) t p with | [x]=>(⟨n,x⟩:Tree) | l=>⟨n+1,l⟩).av=_
  obtain⟨l,hq⟩:∃l,l=jDk (n+1) t p:=⟨_,rfl⟩;rw[<-hq] at he ho hl ⊢
  match l,he,ho,hl with
  | [],_,_,hl=>simp at hl;omega
  | [y],he,ho,_ =>
   have hy:=jQ0 (n:=n) (cs:=[y]) ho (c:=y) (by simp)
   have ha:(⟨n,y⟩:Tree).av=(Sq.av (n+1) t).filter (fun y=>y.place != p):=by
    rw[<-he];show Sq.av n y=List.flatMap (Sq.av n) [y];simp
   exact⟨⟨hy.2,Or.inr hy.1,by rw[ha];exact hs⟩,ha⟩
  | y::z::r,he,ho,_=>exact⟨⟨ho,Or.inr (by simp),by rw[show(⟨n+1,y::z::r⟩:Tree).av=_ from he];exact hs⟩,he⟩
theorem qBc:jIv.ok:=⟨trivial,Or.inl rfl,List.Pairwise.nil⟩
end Sq
namespace Sq
def jFG:Nat->Int->List UInt8
 | 0,_=>[]
 | k+1,n=>UInt8.ofNat (n % 256).toNat::jFG k (n / 256)
def bz (n:Int)(k:Nat):BA:=⟨(jFG k n).reverse.toArray⟩
def txt (t:BA):BA:=bz t.size 1++t
structure Rd where
 rest:BA
 short:Bool
def jBa (r:Rd)(k:Int):Bool:=Decidable.decide (k<0) || Decidable.decide ((r.rest.size:Int)<k) || r.short
def br (r:Rd)(k:Int):BA:=if jBa r k then ar else r.rest.extract 0 k.toNat
def takeN (r:Rd)(k:Int):Rd:=if jBa r k then⟨r.rest,true⟩ else⟨r.rest.extract k.toNat r.rest.size,r.short⟩
def big (l:List UInt8):Int:=l.foldl (fun n b=>n*256+(b.toNat:Int)) 0
def aF (r:Rd)(k:Int):Int:=big (br r k).data.toList
def jEm (r:Rd):BA:=br (takeN r 1) (aF r 1)
def jCG (r:Rd):Rd:=takeN (takeN r 1) (aF r 1)
def jDA (r:Rd):Bool:=r.rest.toList.isEmpty && !r.short
def jGu (n:BA):Bool:=Decidable.decide (1<=n.size)&&Decidable.decide (n.size<=8)
def jGt (r:Rd):Col:=⟨jEm (takeN r 1),aF r 1⟩
def jHj (r:Rd):Rd:=jCG (takeN r 1)
def jDD (c:Col)(i:Nat):Bool:=jGu c.name&&(c.kind==0 || (c.kind==1&&Decidable.decide (0<i)))
structure jJr where
 cols:List Col
 rd:Rd
 bV:Bool
def jEJ:Nat->Nat->Rd->List Col->jJr
 | 0,_,r,acc=>⟨acc,r,true⟩
 | f+1,i,r,acc=>if jDD (jGt r) i then jEJ f (i+1) (jHj r) (acc++[jGt r]) else⟨acc++[jGt r],jHj r,false⟩
def jAs (row:BA):BA×Int×Rd:=(jEm ⟨row,false⟩,aF (jCG ⟨row,false⟩) 1,takeN (jCG ⟨row,false⟩) 1)
def jEc (row:BA):Bool:=jGu (jAs row).1&&Decidable.decide (1<=(jAs row).2.1)&&Decidable.decide ((jAs row).2.1<=4)
def jCg (row:BA):jJr:=if jEc row then jEJ (jAs row).2.1.toNat 0 (jAs row).2.2 [] else⟨[],(jAs row).2.2,false⟩
def jBt (row:BA):Option (BA×List Col):=if(jCg row).bV&&jDA (jCg row).rd then some ((jAs row).1,(jCg row).cols) else none
structure jDm where
 cells:List Val
 rd:Rd
 bV:Bool
def jAJ (c:Col)(x:jDm):jDm :=
 if c.kind==1 then⟨x.cells++[⟨1,0,jEm x.rd⟩],jCG x.rd,x.bV&&Decidable.decide ((jEm x.rd).size<=12)⟩
 else⟨x.cells++[⟨0,aF x.rd 4-2147483648,ar⟩],takeN x.rd 4,x.bV⟩
def jB5 (cols:List Col)(x:jDm):jDm:=cols.foldl (fun x c=>jAJ c x) x
def jBT (cols:List Col)(key:Int)(row:BA):jDm:=jB5 (cols.drop 1) ⟨[⟨0,key,ar⟩],⟨row,false⟩,true⟩
def jBs (cols:List Col)(key:Int)(row:BA):Option (List Val):=if(jBT cols key row).bV&&jDA (jBT cols key row).rd then some (jBT cols key row).cells else none
def jCT (c:Col):BA:=bz c.kind 1++txt c.name
def jFq (b:BA)(cols:List Col):BA:=cols.foldl (fun b c=>b++jCT c) b
def jAL (name:BA)(cols:List Col):BA:=jFq (txt name++bz cols.length 1) cols
def jB1 (v:Val):BA:=if v.kind==1 then txt v.text else bz (v.number+2147483648) 4
def jFr (b:BA)(l:List Val):BA:=l.foldl (fun b v=>b++jB1 v) b
def jAu (l:List Val):BA:=jFr ar (l.drop 1)
def placeOf (t k:Int):Int:=t*4294967296+k+2147483648
def jCu (p:Int):Int:=p % 4294967296-2147483648
structure bQ where
 number:Int
 name:BA
 cols:List Col
def jIu (e:Ent):Option bQ:=(jBt e.row).map fun x=>⟨jCu e.place,x.1,x.2⟩
def rowOf (cols:List Col)(e:Ent):Option (List Val):=jBs cols (jCu e.place) e.row
theorem jUl:∀(k:Nat) (n:Int),(jFG k n).length=k
 | 0,_=>rfl
 | k+1,n=>by rw[jFG,cG,jUl k]
theorem jQt (n:Int)(k:Nat):(bz n k).size=k:=by
 show(jFG k n).reverse.toArray.size=k
 simp[jUl]
theorem jHt (t:BA):(txt t).size=t.size+1:=by
 unfold txt;rw[cO,jQt];omega
theorem jHW (r:Rd)(k:Int):(br r k).size<=r.rest.size/\(br r k).size<=k.toNat:=by
 unfold br
 split
 ·exact⟨zR,zR⟩
 simp only[dk];omega
theorem jQo (r:Rd)(k:Int):(takeN r k).rest.size<=r.rest.size:=by
 unfold takeN
 split
 ·exact nR
 simp only[dk];omega
theorem jIW (r:Rd):(jCG r).rest.size<=r.rest.size:=cm (jQo _ _) (jQo _ _)
theorem jKd (r:Rd):(jEm r).size<=r.rest.size:=cm (jHW _ _).1 (jQo _ _)
theorem jVl:∀(l:List UInt8) (a:Int) (m:Nat),0<=a->a<(256:Int)^m->0<=l.foldl (fun n b=>n*256+(b.toNat:Int)) a/\l.foldl (fun n b=>n*256+(b.toNat:Int)) a<(256:Int)^(m+l.length)
 | [],a,m,h0,h1=>⟨h0,by simpa using h1⟩
 | b::l,a,m,h0,h1=>by
  have hb:=b.toNat_lt
  have:=jVl l (a*256+(b.toNat:Int)) (m+1) (by omega) (by rw[Int.pow_succ];omega)
  rw[de,cG,show m+(l.length+1)=m+1+l.length by omega];exact this
theorem jJn (l:List UInt8):0<=big l/\big l<(256:Int)^l.length:=by
 have:=jVl l 0 0 (by omega) (by decide)
 simpa[big] using this
theorem jU7 (r:Rd)(k:Nat)(hk:k<=4):0<=aF r k/\aF r k<4294967296/\(k=1->aF r k<256):=by
 have h:=jJn (br r k).data.toList;have hs:=(jHW r k).2
 have hl:(br r k).data.toList.length<=k:=by
  have:(br r k).data.toList.length=(br r k).size:=dj
  rw[this];rw[cC] at hs;exact hs
 unfold aF
 have mono:∀a b:Nat,a<=b->(256:Int)^a<=(256:Int)^b:=fun a b ha=>by
  have:=dH (n:=256) (by decide) ha
  have e:∀m:Nat,(256:Int)^m=((256^m:Nat):Int):=fun m=>by simp
  rw[e,e];exact Int.ofNat_le.2 this
 have h4:=mono _ 4 (cm hl hk);refine⟨h.1,?_,fun h1=>?_⟩
 ·have:(256:Int)^4=4294967296:=by decide
  omega
 subst h1;have h5:=mono _ 1 hl
 have:(256:Int)^1=256:=by decide
 omega
theorem jSW:∀(f i:Nat) (r:Rd) (acc:List Col),(jEJ f i r acc).cols.length<=acc.length+f
 | 0,_,_,_=>nR
 | f+1,i,r,acc=>by
  rw[jEJ]
  split
  ·have:=jSW f (i+1) (jHj r) (acc++[jGt r])
   simp at this;omega
  simp
theorem jXy (row:BA):(jCg row).cols.length<=4:=by
 unfold jCg
 split
 ·rename_i h
  have:=jSW (jAs row).2.1.toNat 0 (jAs row).2.2 []
  unfold jEc at h;simp at h;simp at this;omega
 simp
theorem jPI {row:BA}{x:BA×List Col}(h:jBt row=some x):x.2.length<=4:=by
 unfold jBt at h
 split at h
 ·cases h;exact jXy row
 cases h
theorem jNn:∀(cols:List Col) (x:jDm),(jB5 cols x).cells.length=x.cells.length+cols.length
 | [],_=>rfl
 | c::q,x=>by
  have:=jNn q (jAJ c x)
  unfold jB5 at this ⊢;rw[de,this];unfold jAJ
  split<;>simp<;>omega
theorem jSZ:∀(cols:List Col) (x:jDm),x.rd.rest.size<=1000->(∀v∈x.cells,v.text.size<=1000/\-100000000000<=v.number/\v.number<=100000000000)->∀v∈(jB5 cols x).cells,v.text.size<=1000/\-100000000000<=v.number/\v.number<=100000000000
 | [],_,_,h=>h
 | c::q,x,hs,h=>by
  have:=jSZ q (jAJ c x)
  unfold jB5 at this ⊢;rw[de];refine this ?_ ?_
  ·unfold jAJ
   split
   ·exact cm (jIW _) hs
   exact cm (jQo _ _) hs
  unfold jAJ
  split
  ·intro v hv;rcases List.mem_append.1 hv with hv | hv
   ·exact h v hv
   rw[List.mem_singleton.1 hv];exact⟨cm (jKd _) hs,by show(-100000000000:Int)<=0;decide,by show(0:Int)<=100000000000;decide⟩
  intro v hv;rcases List.mem_append.1 hv with hv | hv
  ·exact h v hv
  rw[List.mem_singleton.1 hv]
  have:=jU7 x.rd 4 nR
  refine⟨by show ar.size<=1000;decide,?_,?_⟩
  ·show(-100000000000:Int)<=aF x.rd 4-2147483648
   have h1:0<=aF x.rd 4:=this.1;omega
  show aF x.rd 4-2147483648<=100000000000;have h1:aF x.rd 4<4294967296:=this.2.1;omega
end Sq
section
open Go.RowKit
theorem Sq.jLW (m:Int):((UInt8.ofNat (HMod.hMod m (256:Int)).toNat).toNat:Int)=HMod.hMod m (256:Int):=by
 rw[UInt8.toNat_ofNat'];omega
theorem Sq.qA4 (l:List UInt8)(k:Nat)(h:k<l.length):(l.drop (k+1)).reverse++[l[k]]=(l.drop k).reverse:=by
 rw[cr h,List.reverse_cons]
theorem jBm.at {l:List UInt8}(h:jBm B w v l)(k:Nat)(hk:k<l.length):∃g cap,v=.slice (some ⟨g,0,none⟩) l.length cap/\g<w.heap.size/\w.cell? ⟨g,k,none⟩=some (.int .u8 (l[k].toNat:Int)):=by
 obtain⟨g,cap,rfl,_,ha⟩:=World.ownsRow.form h (by omega);refine⟨g,cap,rfl,ha,?_⟩
 have:=World.ownsRow.cells h (g:=g) rfl k (.int .u8 (l[k].toNat:Int)) (by simp[cz hk])
 rwa [show(⟨g,0,none⟩:Addr).add k=⟨g,k,none⟩ from by unfold Addr.add;split<;>simp_all] at this
theorem jQ6 (n:Int)(bytes:Nat)(w:World)(hk:bytes<=1000) :
  Calls Tryz.prog 56 #[.int .i64 n,.int .i64 bytes] w fun e w'=>e=.returned (.string (Sq.bz n bytes))/\Below w.heap.size w w':=by
 go_enter Tryz.func56,Tryz.ntmps56;go_wp2
 go_loopw [0,5,6] (fun x v i wr=>∃k:Nat,∃m:Int,∃l:List UInt8,k<=bytes/\i=.int .i64 k/\x=.int .i64 m/\jBm w.heap.size wr v l/\Hid (l.length=k)/\Hid (Sq.jFG bytes n=l++Sq.jFG (bytes-k) m)/\Below w.heap.size w wr) (fun _ _ i _=>bytes-(intOf i).toNat)
 case atStart=>exact⟨0,n,[],zR,rfl,rfl,cu _ _ _ _,rfl,rfl,bR⟩
 case round =>
  obtain⟨k,m,l,hO,rfl,rfl,hH,hlen,hK,hb⟩:=hrel;obtain⟨wo,rfl⟩:∃wo:World,wo=wr:=⟨_,rfl⟩;obtain⟨vo,hM,rfl⟩:=hH.slice;have hz:=hb.size;have HB:=hd hb;have hi:=hd hH;have hE:l.length<=1000:=by rw[hlen.o];omega
  clear hb hH
  by_cases hlt:k<bytes
  ·have hn:Hid (Sq.jFG bytes n=(l++[UInt8.ofNat (HMod.hMod m (256:Int)).toNat])++Sq.jFG (bytes-(k+1)) (m / 256)):=by
    show _=_;rw[hK.o,show bytes-k=(bytes-(k+1))+1 by omega,Sq.jFG,dm];rfl
   have hs:=Sq.jLW m;obtain⟨b,hI⟩:∃b,b=UInt8.ofNat (HMod.hMod m (256:Int)).toNat:=⟨_,rfl⟩;have hw:=hn.o;rw[<-hI] at hw hs;have hr:=hd hw;have hB:=hd hs;have hp:Hid ((l++[b]).length=k+1):=by show _=_;rw[cg,hlen.o];rfl
   have ho:=hd (hi.o.below ((bR).alloc nR (.cells #[.int .u8 (HMod.hMod m (256:Int))] 5)));clear hw hs hI hn hK hlen;go_wp2_with (at_builtin;refine jKG rfl (.tmp 14) (.tmp 17) rfl w.heap.size _ l rfl ho.o b ⟨wo.heap.size,0,none⟩ 1 rfl (by rw[hB.o];simp[go_sem]) (by omega) (by simp;omega) ?_;intro v3 w3 hF hG;have ha:=hd hF;have hh:=hd hG;clear hF hG);go_roundw;exact⟨k+1,m / 256,l++[b],by omega,by go_num,rfl,ha.o,hp,hr,HB.o.trans ((cS (B':=w.heap.size) (bA) hz).trans hh.o)⟩;simp[intOf];omega
  have hn:Hid (Sq.jFG bytes n=l):=by
   show _=_;rw[hK.o,show bytes-k=0 by omega,Sq.jFG,cW]
  clear hK hlen;go_wp2
  go_loopw [7,8] (fun v i wr=>∃k:Nat,k<=l.length/\i=.int .i64 ((k:Int)-1)/\jBm wo.heap.size wr v (l.drop k).reverse/\Below wo.heap.size wo wr) (fun _ i _=>(intOf i+1).toNat)
  case atStart=>exact⟨l.length,nR,by go_num,by rw[List.drop_length];exact cu _ _ _ _,bR⟩
  case round =>
   obtain⟨j,hj,rfl,hc,hG⟩:=hrel;obtain⟨xo,hN,rfl⟩:=hc.slice;have hD:=hG.size;have hm:=hd hc;have hh:=hd hG;have hy:(l.drop j).reverse.length<=1000:=by simp;omega
   clear hc hG
   by_cases hj0:j=0
   ·subst hj0;have HE:Hid ((⟨(l.drop 0).reverse.toArray⟩:BA)=Sq.bz n bytes):=by show _=_;unfold Sq.bz;rw[hn.o];rfl
    obtain⟨dl,hJ⟩:∃x,x=(l.drop 0).reverse:=⟨_,rfl⟩;have hc:=hm.o;have he:=HE.o;rw[<-hJ] at hc he hy ⊢;have ht:=jNo _ _ _ _ hc;rw[he] at ht;have hC:=hd ht;clear ht HE he hc hm hJ;go_wp2;rw[hC.o];go_wp2;go_ret;exact⟨rfl,HB.o.trans (hh.o.mono hz)⟩
   obtain⟨q,rfl⟩:∃q,j=q+1:=⟨j-1,by omega⟩;obtain⟨g,hL,hv,hg,c0⟩:=(hi.o.below hh.o).at q (by omega);obtain⟨rfl,-,rfl⟩:=sI hv;have hx:=hd (Sq.qA4 l q (by omega));obtain⟨b,hI⟩:∃b,b=l[q]:=⟨_,rfl⟩;have hu:=hx.o;rw[<-hI] at hu c0;have hl:=hd hu;have i1:¬((l.length:Int)<=(q:Int)):=by omega
   have i2:((q+1:Nat):Int)-1=(q:Int):=by omega
   obtain⟨dl,hJ⟩:∃x,x=(l.drop (q+1)).reverse:=⟨_,rfl⟩;have hc:=hm.o;have hf:=hl.o;rw[<-hJ] at hc hf hy ⊢;rw[i2];have ho:=hd (hc.below ((bR).alloc nR (.cells #[.int .u8 (b.toNat:Int)] 5)));have hq:=hd hf;clear hu hx hf hl hI hc hm hJ i2;go_wp2_with (at_builtin;refine jKG rfl (.tmp 28) (.tmp 33) rfl wo.heap.size _ dl rfl ho.o b ⟨wr.heap.size,0,none⟩ 1 rfl (by simp[go_sem]) (by omega) (by simp;omega) ?_;intro v3 w3 hF hG;have ha:=hd hF;have hA:=hd hG;clear hF hG);go_roundw;exact⟨q,by omega,by go_num,by rw[<-hq.o];exact ha.o,hh.o.trans ((cS (B':=wo.heap.size) (bA) hD).trans hA.o)⟩;simp[intOf]
theorem jJh (t:BA)(w:World)(hs:t.size<=1000000) :
  Calls Tryz.prog 84 #[.string t] w fun e w'=>e=.returned (.string (Sq.txt t))/\Below w.heap.size w w':=by
 have hn:=Sq.jQt t.size 1;have HE:Hid (Sq.txt t=Sq.bz t.size 1++t):=rfl;go_enter Tryz.func84,Tryz.ntmps84;go_wp2_with fail;refine(jQ6 t.size 1 _ (by omega)).mono ?_;rintro e w2 ⟨rfl,hb⟩;obtain⟨p,hp⟩:∃x,x=Sq.bz t.size 1:=⟨_,rfl⟩;have he:=HE.o;rw[<-hp] at hn he ⊢;have ha:=hd he;clear hp he HE;go_wp2;go_ret;exact⟨by rw[ha.o];rfl,hb⟩
def bJ (b:Nat)(w:World)(r:Sq.Rd):Prop:=w.heap[b]?=some (.cells #[.string r.rest,.bool r.short] 105)
structure jB4 (b:Nat)(w w':World):Prop where
 below:Below b w w'
 other:∀g,g≠b->w'.heap[g]?=w.heap[g]?
theorem jB4.refl (b:Nat)(w:World):jB4 b w w:=⟨bR,fun _ _=>rfl⟩
theorem jB4.trans (h:jB4 b w w1)(k:jB4 b w1 w2):jB4 b w w2:=⟨h.below.trans k.below,fun g hg=>(k.other g hg).trans (h.other g hg)⟩
theorem jB4.set (o:Nat)(x:Value):jB4 b w (w.setCell ⟨b,o,none⟩ x):=⟨cj (B:=b) bR nR _,fun _ hg=>jQg hg⟩
theorem jLI {r:Sq.Rd}(h:bJ b w r):bJ b (w.setCell ⟨b,1,none⟩ (.bool true)) ⟨r.rest,true⟩:=by
 unfold bJ at h ⊢;rw[jQf h];rfl
theorem qBD {r:Sq.Rd}(h:bJ b w r)(s:BA):bJ b (w.setCell ⟨b,0,none⟩ (.string s)) ⟨s,r.short⟩:=by
 unfold bJ at h ⊢;rw[jQf h];rfl
theorem jLZ (b:Nat)(r:Sq.Rd)(k:Int)(w:World)(h:bJ b w r)(hs:r.rest.size<=1000000) :
  Calls Tryz.prog 89 #[.pointer (some ⟨b,0,none⟩),.int .i64 k] w fun e w'=>e=.returned (.string (Sq.br r k))/\bJ b w' (Sq.takeN r k)/\jB4 b w w':=by
 obtain⟨s,sh⟩:=r;have c0:w.cell? ⟨b,0,none⟩=some (.string s):=by rw[jQb h];rfl
 have c1:w.cell? ⟨b,1,none⟩=some (.bool sh):=by rw[jQb h];rfl
 have f0:=jQd h 0;have f1:=jQd h 1;have hz:=jQe h;have H:=hd h;simp only at hs;clear h
 by_cases h1:k<0
 ·have HE:Hid (Sq.jBa ⟨s,sh⟩ k=true):=by show _=_;unfold Sq.jBa;simp[h1]
  have i1:decide (k<0)=true:=by simpa using h1
  go_enter Tryz.func89,Tryz.ntmps89;go_wp2;go_ret;refine⟨by unfold Sq.br;rw[HE.o];rfl,?_,jB4.set _ _⟩;unfold Sq.takeN;rw[HE.o];exact jLI H.o
 have i1:decide (k<0)=false:=by simpa using h1
 by_cases h2:(s.size:Int)<k
 ·have HE:Hid (Sq.jBa ⟨s,sh⟩ k=true):=by show _=_;unfold Sq.jBa;simp[h2]
  have i2:decide ((s.size:Int)<k)=true:=by simpa using h2
  go_enter Tryz.func89,Tryz.ntmps89;go_wp2;go_ret;refine⟨by unfold Sq.br;rw[HE.o];rfl,?_,jB4.set _ _⟩;unfold Sq.takeN;rw[HE.o];exact jLI H.o
 have i2:decide ((s.size:Int)<k)=false:=by simpa using h2
 cases sh
 case true =>
  have HE:Hid (Sq.jBa ⟨s,true⟩ k=true):=by show _=_;unfold Sq.jBa;simp
  go_enter Tryz.func89,Tryz.ntmps89;go_wp2;go_ret;refine⟨by unfold Sq.br;rw[HE.o];rfl,?_,jB4.set _ _⟩;unfold Sq.takeN;rw[HE.o];exact jLI H.o
 case false =>
  have HE:Hid (Sq.jBa ⟨s,false⟩ k=false):=by show _=_;unfold Sq.jBa;simp[h1,h2]
  obtain⟨n,rfl⟩:=cU (show 0<=k by omega);have hn:n<=s.size:=by omega
  clear h1 h2;go_enter Tryz.func89,Tryz.ntmps89;go_wp2;go_ret;refine⟨by unfold Sq.br;rw[HE.o];rfl,?_,jB4.set _ _⟩;unfold Sq.takeN;rw[HE.o];exact qBD H.o _
theorem jVo (a b:Nat)(ha:a<4611686018427387904)(hb:b<4611686018427387904):bits .or .i64 ((a:Nat):Int) ((b:Nat):Int)=((a ||| b:Nat):Int):=by
 have he:a ||| b<2^62:=Nat.or_lt_two_pow (by omega) (by omega)
 have ea:(BitVec.ofInt 64 (a:Int)).toNat=a:=by rw[BitVec.toNat_ofInt];omega
 have eb:(BitVec.ofInt 64 (b:Int)).toNat=b:=by rw[BitVec.toNat_ofInt];omega
 show IntKind.i64.wrap ((BitVec.ofInt 64 (a:Int) ||| BitVec.ofInt 64 (b:Int)).toNat:Int)=_;rw[BitVec.toNat_or,ea,eb];obtain⟨c,hc⟩:∃c,c=a ||| b:=⟨_,rfl⟩
 rw[<-hc] at he ⊢;simp[IntKind.wrap,IntKind.bits,IntKind.signed];omega
theorem qCO (n:Int)(b:UInt8)(h0:0<=n)(h1:n<16777216):bits .or .i64 (n*256) ((b.toNat:Nat):Int)=n*256+((b.toNat:Nat):Int):=by
 obtain⟨m,rfl⟩:=cU h0;have hb:=b.toNat_lt;have e:((m:Nat):Int)*256=((2^8*m:Nat):Int):=by omega
 rw[e,jVo _ _ (by omega) (by omega),<-eE (by omega) m];omega
namespace Sq
theorem jUu (l:List UInt8)(k:Nat)(h:k<l.length):big (l.take (k+1))=big (l.take k)*256+(l[k].toNat:Int):=by
 unfold big;rw[cI h,List.foldl_append];rfl
theorem jXP (l:List UInt8)(k:Nat)(h:k<=3):0<=big (l.take k)/\big (l.take k)<16777216:=by
 have h1:=jJn (l.take k);have h2:(l.take k).length<=3:=cm (dW _ _) h
 have h3:(256:Int)^(l.take k).length<=16777216:=by
  have:=dH (n:=256) (by decide) h2
  have e:(256:Int)^(l.take k).length=((256^(l.take k).length:Nat):Int):=by simp
  rw[e];exact Int.ofNat_le.2 (cm this (by decide))
 omega
end Sq
theorem jK9 (b:Nat)(r:Sq.Rd)(k:Nat)(w:World)(h:bJ b w r)(hs:r.rest.size<=1000000)(hk:k<=4) :
  Calls Tryz.prog 88 #[.pointer (some ⟨b,0,none⟩),.int .i64 k] w fun e w'=>e=.returned (.int .i64 (Sq.aF r k))/\bJ b w' (Sq.takeN r k)/\jB4 b w w':=by
 have hg:=(Sq.jHW r k).2;have HN:Hid (Sq.aF r k=Sq.big (Sq.br r k).data.toList):=rfl;obtain⟨s,ht⟩:∃x,x=Sq.br r k:=⟨_,rfl⟩;have hn:=HN.o;rw[<-ht] at hn hg;rw[cC] at hg;have hi:=hd hn;have HS:=hd ht;have H:=hd h;clear hn HN ht h;go_enter Tryz.func88,Tryz.ntmps88;go_wp2_with fail;refine(jLZ b r k _ H.o hs).mono ?_;rintro e w1 ⟨rfl,hx,hv⟩;rw[<-HS.o];have ho:=hd hx;have hl:=hd hv;clear hx hv;have hf:s.data.toList.length=s.size:=dj;have hc:=hd hf;clear hf;go_wp2
 go_loop [6,7] (fun nv i=>∃j:Nat,∃n:Int,j<=s.size/\i=.int .i64 j/\nv=.int .i64 n/\Hid (n=Sq.big (s.data.toList.take j))) (fun _ i=>s.size-(intOf i).toNat)
 case atStart=>exact⟨0,0,zR,rfl,rfl,rfl⟩
 case round =>
  obtain⟨j,n,hj,rfl,rfl,hr⟩:=hrel
  by_cases hjt:j<s.size
  ·have hp:j<s.data.toList.length:=by rw[hc.o];exact hjt
   have hb:=Sq.jUu s.data.toList j hp;have ha:=Sq.jXP s.data.toList j (by omega);rw[<-hr.o] at hb ha;have he:=qCO n s.data.toList[j] ha.1 ha.2;obtain⟨hy,hz⟩:=ha;have hm:=hd he;have hh:=hd hb;clear he hb;go_wp2
   have hw:wrap64 ((s[j].toNat:Nat):Int)=((s.data.toList[j].toNat:Nat):Int):=by
    have hq:=s.data.toList[j].toNat_lt;show wrap64 ((s.data.toList[j].toNat:Nat):Int)=_;unfold wrap64;omega
   rw[hw,hm.o];go_round
   case rel=>exact⟨j+1,_,by omega,by go_num,rfl,hh.o.symm⟩
   case measure=>simp[intOf];omega
  have HE:Hid (Sq.aF r k=n):=by show _=_;rw[hi.o,hr.o,cL (by rw[hc.o];omega)]
  clear hr;go_wp2;go_ret;exact⟨by rw[HE.o];rfl,ho.o,hl.o⟩
theorem jKR (b:Nat)(r:Sq.Rd)(w:World)(h:bJ b w r)(hs:r.rest.size<=1000000) :
  Calls Tryz.prog 131 #[.pointer (some ⟨b,0,none⟩)] w fun e w'=>e=.returned (.string (Sq.jEm r))/\bJ b w' (Sq.jCG r)/\jB4 b w w':=by
 have H:=hd h;have hg:=cm (Sq.jQo r 1) hs;have HV:Hid (Sq.jEm r=Sq.br (Sq.takeN r 1) (Sq.aF r 1)):=rfl;have HN:Hid (Sq.jCG r=Sq.takeN (Sq.takeN r 1) (Sq.aF r 1)):=rfl;clear h;go_enter Tryz.func131,Tryz.ntmps131;go_wp2_with fail;refine(jK9 b r 1 _ H.o hs (by decide)).mono ?_;rintro e w1 ⟨rfl,hj,hh⟩;have he:=hd hj;have hc:=hd hh;clear hj hh;obtain⟨n,hn⟩:∃n,n=Sq.aF r 1:=⟨_,rfl⟩;have hv:=HV.o;have ha:=HN.o;rw[<-hn] at hv ha;have hf:=hd hv;have hb:=hd ha;rw[show Sq.aF r ((1:Nat):Int)=n from hn.symm];clear hv ha hn HV HN;go_wp2_with fail;refine(jLZ b (Sq.takeN r 1) n _ he.o hg).mono ?_;rintro e w2 ⟨rfl,ho,hk⟩;go_wp2;go_ret;exact⟨by rw[hf.o];rfl,by rw[hb.o];exact ho,hc.o.trans hk⟩
theorem jOd (b:Nat)(r:Sq.Rd)(w:World)(h:bJ b w r) :
  Calls Tryz.prog 61 #[.pointer (some ⟨b,0,none⟩)] w fun e w'=>e=.returned (.bool (Sq.jDA r))/\w'=w:=by
 obtain⟨s,sh⟩:=r;have c0:w.cell? ⟨b,0,none⟩=some (.string s):=by rw[jQb h];rfl
 have c1:w.cell? ⟨b,1,none⟩=some (.bool sh):=by rw[jQb h];rfl
 have hz:=jQe h;clear h;have HE:Hid (Sq.jDA ⟨s,sh⟩=(s.toList.isEmpty && !sh)):=rfl;cases he:s.toList.isEmpty
 all_goals
  have h0:=he;cases sh
 all_goals
  go_enter Tryz.func61,Tryz.ntmps61;go_wp2;go_ret;exact⟨by rw[HE.o,he];rfl,rfl⟩
theorem jT6 (s:BA)(w:World)(hs:s.size<=1000000) :
  Calls Tryz.prog 147 #[.string s] w fun e w'=>e=.returned (.bool (Sq.jGu s))/\w'=w:=by
 have HE:Hid (Sq.jGu s=(Decidable.decide (1<=s.size)&&Decidable.decide (s.size<=8))):=rfl
 by_cases h1:1<=s.size
 ·by_cases h2:s.size<=8
  ·have i1:decide ((1:Int)<=(s.size:Int))=true:=by simp;omega
   have i2:decide ((s.size:Int)<=8)=true:=by simp;omega
   go_enter Tryz.func147,Tryz.ntmps147;go_wp2;go_ret;exact⟨by rw[HE.o];simp[h1,h2],rfl⟩
  have i1:decide ((1:Int)<=(s.size:Int))=true:=by simp;omega
  have i2:decide ((s.size:Int)<=8)=false:=by simp;omega
  go_enter Tryz.func147,Tryz.ntmps147;go_wp2;go_ret;exact⟨by rw[HE.o];simp[h1,h2],rfl⟩
 have i1:decide ((1:Int)<=(s.size:Int))=false:=by simp;omega
 go_enter Tryz.func147,Tryz.ntmps147;go_wp2;go_ret;exact⟨by rw[HE.o];simp[h1],rfl⟩
end
structure Sq.Head where
 inner:Bool
 least:Int
 rows:Int
 sl:BA
 num:Int
structure Sq.af (α:Type) where
 hd:Sq.Head
 av:List Sq.Ent
 kids:List α
abbrev Sq.Nd:Nat->Type
 | 0=>Sq.af Empty
 | n+1=>Sq.af (Sq.Nd n)
structure Sq.Trl where
 lost:Bool
 bc:List Int
namespace Sq
def aa:(n:Nat)->Nd n->Head
 | 0,t=>af.hd t
 | _+1,t=>af.hd t
def aw (h:Head):Bool:=h.sl.size != 0
def jAt (tr:Trl)(h:Head):Bool:=tr.bc.any (·==h.num)
def aC (tr:Trl)(h:Head):Trl :=
 ⟨tr.lost || aw h,if Decidable.decide (0<h.num) && !jAt tr h then tr.bc++[h.num] else tr.bc⟩
def jDQ:List Ent->Int
 | []=>0
 | e::_=>e.place
def jBg {α:Type}(f:α->Head):List α->Int
 | []=>0
 | c::_=>(f c).least
def aH {α:Type}(f:α->Head)(l:List α):Int:=(l.map fun c=>(f c).rows).sum
def bB {α:Type}(es:List Ent):af α:=⟨⟨false,jDQ es,es.length,ar,0⟩,es,[]⟩
def aV {α:Type}(f:α->Head)(cs:List α):af α:=⟨⟨true,jBg f cs,aH f cs,ar,0⟩,[],cs⟩
def jIt {α:Type}(sl:BA)(least rows:Int):af α:=⟨⟨false,least,rows,sl,0⟩,[],[]⟩
def jAT {α:Type}(es:List Ent):List (af α):=(bF es).map bB
def jAK {α:Type}(f:α->Head)(cs:List α):List (af α):=(bF cs).map (aV f)
def bG {α:Type}(t:af α):Nat:=if t.hd.inner then t.kids.length else t.av.length
def jA5 {α:Type}(f:α->Head)(p:Int):List α->Nat->Nat->Nat
 | [],_,a=>a
 | c::r,i,a=>jA5 f p r (i+1) (if(f c).least<=p then i else a)
def bU {α:Type}(f:α->Head)(cs:List α)(p:Int):Nat:=jA5 f p (cs.drop 1) 1 0
def jCK {α:Type}(f:α->Head)(g:α->Int->Trl->Bool×Trl)(t:af α)(p:Int)(tr:Trl):Bool×Trl :=
 if t.hd.inner then
  match t.kids[bU f t.kids p]? with
  | some c=>g c p (aC tr t.hd)
  | none=>(false,aC tr t.hd)
 else(t.av.any (fun e=>e.place==p),aC tr t.hd)
def jDq:(n:Nat)->Nd n->Int->Trl->Bool×Trl
 | 0,t=>jCK (fun e:Empty=>e.elim) (fun e:Empty=>e.elim) t
 | n+1,t=>jCK (aa n) (jDq n) t
def jBQ (lo hi:Int)(e:Ent):Bool:=Decidable.decide (lo<=e.place)&&Decidable.decide (e.place<=hi)
def jCa {α:Type}(f:α->Head)(lo:Int):List α->Bool
 | []=>true
 | d::_=>Decidable.decide (lo<(f d).least)
def jBd {α:Type}(f:α->Head)(g:α->Trl->List Ent×Trl)(lo hi:Int):List α->List Ent×Trl->List Ent×Trl
 | [],x=>x
 | c::r,x=>if Decidable.decide ((f c).least<=hi)&&jCa f lo r then jBd f g lo hi r (x.1++(g c x.2).1,(g c x.2).2) else jBd f g lo hi r x
def jBJ {α:Type}(f:α->Head)(g:α->Int->Int->Trl->List Ent×Trl)(t:af α)(lo hi:Int)(tr:Trl):List Ent×Trl :=
 jBd f (fun c=>g c lo hi) lo hi t.kids (t.av.filter (jBQ lo hi),aC tr t.hd)
def jAW:(n:Nat)->Nd n->Int->Int->Trl->List Ent×Trl
 | 0,t=>jBJ (fun e:Empty=>e.elim) (fun e:Empty=>e.elim) t
 | n+1,t=>jBJ (aa n) (jAW n) t
def jDU {α:Type}(f:α->Head)(g:α->Ent->Trl->List α×Trl)(t:af α)(e:Ent)(tr:Trl):List (af α)×Trl :=
 if t.hd.inner then
  match t.kids[bU f t.kids e.place]? with
  | some c=>(jAK f (bm t.kids (bU f t.kids e.place) 1 (g c e (aC tr t.hd)).1),(g c e (aC tr t.hd)).2)
  | none=>(jAT [e],aC tr t.hd)
 else(jAT (jAX t.av e),aC tr t.hd)
def jCn:(n:Nat)->Nd n->Ent->Trl->List (Nd n)×Trl
 | 0,t=>jDU (fun e:Empty=>e.elim) (fun e:Empty=>e.elim) t
 | n+1,t=>jDU (aa n) (jCn n) t
def jCj:(n:Nat)->Nd n->Nat
 | 0,t=>bG t
 | _+1,t=>bG t
def jAq {α:Type}(f:α->Head)(l r:af α):List (af α) :=
 if l.hd.inner then jAK f (l.kids++r.kids) else jAT (l.av++r.av)
def jAk:(n:Nat)->Nd n->Nd n->List (Nd n)
 | 0,l,r=>jAq (fun e:Empty=>e.elim) l r
 | n+1,l,r=>jAq (aa n) l r
def jDs (len a:Nat):Nat:=if a+1==len then a-1 else a
def jAI {α:Type}(f:α->Head)(tg:α->α->List α)(cs:List α)(a:Nat)(tr:Trl):List α×Trl :=
 if a+1==cs.length&&a==0 then(cs,tr)
 else match cs[jDs cs.length a]?,cs[jDs cs.length a+1]? with
  | some l,some r=>(bm cs (jDs cs.length a) 2 (tg l r),aC (aC tr (f l)) (f r))
  | _,_=>(cs,tr)
def jC5 {α:Type}(f:α->Head)(sz:α->Nat)(tg:α->α->List α)(g:α->Int->Trl->α×Trl)(t:af α)(p:Int)(tr:Trl):af α×Trl :=
 if t.hd.inner then
  match t.kids[bU f t.kids p]? with
  | some c =>
   if sz (g c p (aC tr t.hd)).1<2 then
    (aV f (jAI f tg (bm t.kids (bU f t.kids p) 1 [(g c p (aC tr t.hd)).1]) (bU f t.kids p) (g c p (aC tr t.hd)).2).1,
     (jAI f tg (bm t.kids (bU f t.kids p) 1 [(g c p (aC tr t.hd)).1]) (bU f t.kids p) (g c p (aC tr t.hd)).2).2)
   else(aV f (bm t.kids (bU f t.kids p) 1 [(g c p (aC tr t.hd)).1]),(g c p (aC tr t.hd)).2)
  | none=>(t,aC tr t.hd)
 else(bB (t.av.filter fun e=>e.place != p),aC tr t.hd)
def jC0:(n:Nat)->Nd n->Int->Trl->Nd n×Trl
 | 0,t=>jC5 (fun e:Empty=>e.elim) (fun e:Empty=>e.elim) (fun e:Empty=>e.elim) (fun e:Empty=>e.elim) t
 | n+1,t=>jC5 (aa n) (jCj n) (jAk n) (jC0 n) t
structure aj where
 d:Nat
 t:Nd d
def jBX:aj:=⟨0,(⟨⟨false,0,0,ar,0⟩,[],[]⟩:af Empty)⟩
def aj.head (x:aj):Head:=aa x.d x.t
def upN (n:Nat):List (Nd n)->aj
 | [x]=>⟨n,x⟩
 | l=>⟨n+1,aV (aa n) l⟩
def aj.put (x:aj)(e:Ent)(tr:Trl):aj×Trl:=(upN x.d (jCn x.d x.t e tr).1,(jCn x.d x.t e tr).2)
def jEZ:(n:Nat)->Nd n->aj
 | 0,t=>⟨0,t⟩
 | n+1,t=>if(af.hd t).inner then(match af.kids t with | [c]=>⟨n,c⟩ | _=>⟨n+1,t⟩) else⟨n+1,t⟩
def aj.del (x:aj)(p:Int)(tr:Trl):aj×Trl:=(jEZ x.d (jC0 x.d x.t p tr).1,(jC0 x.d x.t p tr).2)
def aj.has (x:aj)(p:Int)(tr:Trl):Bool×Trl:=jDq x.d x.t p tr
def aj.jE4 (x:aj)(lo hi:Int)(tr:Trl):List Ent×Trl:=jAW x.d x.t lo hi tr
def bL {α:Type}(g:α->Int->α×Int):List α->Int->List α×Int
 | [],k=>([],k)
 | c::r,k=>((g c k).1::(bL g r (g c k).2).1,(bL g r (g c k).2).2)
def jEO {α:Type}(g:α->Int->α×Int)(t:af α)(k:Int):af α×Int :=
 (⟨{ t.hd with num:=k },t.av,(bL g t.kids (k+1)).1⟩,(bL g t.kids (k+1)).2)
def cf:(n:Nat)->Nd n->Int->Nd n×Int
 | 0,t=>jEO (fun e:Empty=>e.elim) t
 | n+1,t=>jEO (cf n) t
def aj.ay (x:aj):aj:=⟨x.d,(cf x.d x.t 1).1⟩
def jA3 (e:Ent):BA:=bz e.place 5++txt e.row
def jAl (h:Head)(b:BA):BA:=bz h.least 5++bz h.rows 1++b
def jAo {α:Type}(f:α->Head)(t:af α)(below:List BA):BA :=
 ((t.kids.zip below).map fun x=>jAl (f x.1) x.2).foldl (·++·) ((t.av.map jA3).foldl (·++·) (bz (if t.hd.inner then 2 else 1) 1++bz (bG t) 1))
end Sq
namespace Sq
def jHS (h:Head):Head:={ h with num:=0 }
def jCl {α:Type}(g:α->α)(t:af α):af α:=⟨jHS t.hd,t.av,t.kids.map g⟩
def jA6:(n:Nat)->Nd n->Nd n
 | 0,t=>jCl (fun e:Empty=>e.elim) t
 | n+1,t=>jCl (jA6 n) t
def jDG:(n:Nat)->List (Kid n)->Nd n
 | 0,es=>bB es
 | n+1,cs=>aV (aa n) (List.map (jDG n) (show List (List (Kid n)) from cs))
def rep (n:Nat)(t:Nd n)(x:List (Kid n)):Prop:=jA6 n t=jDG n x
def bM (n:Nat)(l:List (Nd n))(cs:List (List (Kid n))):Prop:=l.map (jA6 n)=cs.map (jDG n)
theorem jUY (g:α->List β):∀l:List α,((l.map fun c=>((g c).length:Int)).sum)=((l.flatMap g).length:Int)
 | []=>rfl
 | c::r=>by
  rw[cM,dN,jUY g r,cK,cg];omega
theorem jLb:∀(n:Nat) (x:List (Kid n)),aa n (jDG n x)=⟨n != 0,least n x,((av n x).length:Nat),ar,0⟩
 | 0,es=>by
  show(bB (α:=Empty) es).hd=_
  unfold bB;cases es with
  | nil=>rfl
  | cons e r=>rfl
 | n+1,cs=>by
  show(aV (aa n) (List.map (jDG n) (show List (List (Kid n)) from cs))).hd=_
  unfold aV aH;rw[dG]
  have h1:((fun c=>(aa n c).rows) ∘ jDG n)=fun c=>((av n c).length:Int):=by
   funext c
   show(aa n (jDG n c)).rows=_
   rw[jLb n c]
  rw[h1,jUY]
  have h2:jBg (aa n) (List.map (jDG n) (show List (List (Kid n)) from cs))=least (n+1) cs:=by
   cases (show List (List (Kid n)) from cs) with
   | nil=>rfl
   | cons c r =>
    show(aa n (jDG n c)).least=least n c
    rw[jLb n c]
  rw[h2];rfl
theorem jNa:∀(n:Nat) (t:Nd n),aa n (jA6 n t)=jHS (aa n t)
 | 0,_=>rfl
 | _+1,_=>rfl
theorem rep.head {t:Nd n}{x:List (Kid n)}(h:rep n t x):(aa n t).inner=(n != 0)/\(aa n t).least=least n x/\(aa n t).rows=((av n x).length:Nat)/\(aa n t).sl=ar:=by
 have h1:=jNa n t;rw[h,jLb] at h1
 have h2:∀{a b:Head},a=jHS b->b.inner=a.inner/\b.least=a.least/\b.rows=a.rows/\b.sl=a.sl:=by
  intro a b ha;subst ha;exact⟨rfl,rfl,rfl,rfl⟩
 exact h2 h1
theorem rep.open {t:Nd n}{x:List (Kid n)}(h:rep n t x):aw (aa n t)=false:=by
 unfold aw;rw[h.head.2.2.2];rfl
theorem rep.leaf {t:af Empty}{es:List Ent}(h:rep 0 t es):t.hd.inner=false/\t.av=es/\t.kids=[]:=by
 have h1:=h.head;have h2:(jCl (fun e:Empty=>e.elim) t).av=(bB (α:=Empty) es).av:=congrArg af.av h;refine⟨h1.1,h2,?_⟩;cases hk:t.kids with
 | nil=>rfl
 | cons e _=>exact e.elim
theorem rep.inner {t:af (Nd n)}{cs:List (List (Kid n))}(h:rep (n+1) t cs):t.hd.inner=true/\t.av=[]/\bM n t.kids cs:=by
 have h1:=h.head;have h2:(jCl (jA6 n) t).av=(aV (aa n) (List.map (jDG n) cs)).av:=congrArg af.av h;have h3:(jCl (jA6 n) t).kids=(aV (aa n) (List.map (jDG n) cs)).kids:=congrArg af.kids h;exact⟨by have h4:t.hd.inner=(n+1 != 0):=h1.1;simpa using h4,h2,h3⟩
theorem bM.len {l:List (Nd n)}{cs:List (List (Kid n))}(h:bM n l cs):l.length=cs.length:=by
 have:=congrArg List.length h
 simpa using this
theorem bM.at {l:List (Nd n)}{cs:List (List (Kid n))}(h:bM n l cs){c:Nd n}(hc:l[i]?=some c):∃x,cs[i]?=some x/\rep n c x:=by
 have h1:(l.map (jA6 n))[i]?=(cs.map (jDG n))[i]?:=by rw[h]
 rw[dy,dy,hc] at h1;cases hx:cs[i]? with
 | none=>rw[hx] at h1;simp at h1
 | some x=>rw[hx] at h1;simp at h1;exact⟨x,rfl,h1⟩
theorem bM.none {l:List (Nd n)}{cs:List (List (Kid n))}(h:bM n l cs)(hc:l[i]?=none):cs[i]?=none:=by
 rw[List.getElem?_eq_none_iff] at hc ⊢;rw[<-h.len];exact hc
theorem bM.cons {c:Nd n}{l:List (Nd n)}{x:List (Kid n)}{cs:List (List (Kid n))}:bM n (c::l) (x::cs)↔rep n c x/\bM n l cs:=by
 unfold bM rep;rw[cM,cM,List.cons.injEq]
theorem bM.take {l:List (Nd n)}{cs:List (List (Kid n))}(h:bM n l cs)(k:Nat):bM n (l.take k) (cs.take k):=by
 unfold bM;rw[List.map_take,List.map_take,h]
theorem bM.drop {l:List (Nd n)}{cs:List (List (Kid n))}(h:bM n l cs)(k:Nat):bM n (l.drop k) (cs.drop k):=by
 unfold bM;rw[List.map_drop,List.map_drop,h]
theorem bM.append {l m:List (Nd n)}{cs ds:List (List (Kid n))}(h:bM n l cs)(k:bM n m ds):bM n (l++m) (cs++ds):=by
 unfold bM;rw[cR,cR,h,k]
theorem bM.one {c:Nd n}{x:List (Kid n)}(h:rep n c x):bM n [c] [x]:=by
 unfold bM;rw[List.map_singleton,List.map_singleton,h]
theorem bM.bm {l o:List (Nd n)}{cs ds:List (List (Kid n))}(h:bM n l cs)(k:bM n o ds)(a m:Nat):bM n (bm l a m o) (bm cs a m ds):=((h.take a).append k).append (h.drop (a+m))
theorem jPF (p:Int):∀{l:List (Nd n)} {cs:List (List (Kid n))},bM n l cs->∀i a,jA5 (aa n) p l i a=jDi n p cs i a
 | [],[],_,_,_=>rfl
 | [],x::cs,h,_,_=>by have:=h.len;simp at this
 | c::l,[],h,_,_=>by have:=h.len;simp at this
 | c::l,x::cs,h,i,a=>by
  obtain⟨h1,h2⟩:=bM.cons.1 h;rw[jA5,jDi,h1.head.2.1];exact jPF p h2 _ _
theorem jN6 (p:Int){l:List (Nd n)}{cs:List (List (Kid n))}(h:bM n l cs):bU (aa n) l p=way n cs p:=jPF p (h.drop 1) 1 0
theorem jVb:∀(n:Nat) (t:Nd n) (x:List (Kid n)) (p:Int) (tr:Trl),rep n t x->(jDq n t p tr).1=jHm n x p
 | 0,t,x,p,tr,h=>by
  obtain⟨h1,h2,-⟩:=rep.leaf h
  show(jCK _ _ t p tr).1=_
  unfold jCK;rw[h1,h2];rfl
 | n+1,t,x,p,tr,h=>by
  obtain⟨h1,-,h3⟩:=rep.inner h
  show(jCK (aa n) (jDq n) t p tr).1=jMt (fun c=>jHm n c p) (show List (List (Kid n)) from x)[way n x p]?
  unfold jCK;rw[h1,jN6 p h3];simp only[dT];cases hc:t.kids[way n x p]? with
  | none=>rw[h3.none hc];rfl
  | some c =>
   obtain⟨y,hy,hr⟩:=h3.at hc;rw[hy];exact jVb n c y p _ hr
theorem jWx (lo:Int):∀{l:List (Nd n)} {cs:List (List (Kid n))},bM n l cs->jCa (aa n) lo l=jFI n lo cs
 | [],[],_=>rfl
 | [],x::cs,h=>by have:=h.len;simp at this
 | c::l,[],h=>by have:=h.len;simp at this
 | c::l,x::cs,h=>by
  rw[jCa,jFI,(bM.cons.1 h).1.head.2.1]
theorem jNc (lo hi:Int)(g:Nd n->Trl->List Ent×Trl)(f:List (Kid n)->List Ent)(hg:∀c x tr,rep n c x->(g c tr).1=f x):∀{l:List (Nd n)} {cs:List (List (Kid n))},bM n l cs->∀y,(jBd (aa n) g lo hi l y).1=y.1++jHi n f lo hi cs
 | [],[],_,y=>by rw[jBd,jHi];simp
 | [],x::cs,h,_=>by have:=h.len;simp at this
 | c::l,[],h,_=>by have:=h.len;simp at this
 | c::l,x::cs,h,y=>by
  obtain⟨h1,h2⟩:=bM.cons.1 h;rw[jBd,jHi,h1.head.2.1,jWx lo h2]
  split
  ·rw[jNc lo hi g f hg h2,hg c x _ h1,dm]
  rw[jNc lo hi g f hg h2,List.nil_append]
theorem jTQ:∀(n:Nat) (t:Nd n) (x:List (Kid n)) (lo hi:Int) (tr:Trl),rep n t x->(jAW n t lo hi tr).1=jIz n x lo hi
 | 0,t,x,lo,hi,tr,h=>by
  obtain⟨h1,h2,h3⟩:=rep.leaf h
  show(jBJ _ _ t lo hi tr).1=_
  unfold jBJ;rw[h2,h3,jBd];rfl
 | n+1,t,x,lo,hi,tr,h=>by
  obtain⟨h1,h2,h3⟩:=rep.inner h
  show(jBJ (aa n) (jAW n) t lo hi tr).1=jHi n (fun c=>jIz n c lo hi) lo hi x
  unfold jBJ;rw[jNc lo hi _ (fun c=>jIz n c lo hi) (fun c y tr hr=>jTQ n c y lo hi tr hr) h3,h2];rfl
theorem jNZ (es:List Ent):rep 0 (bB (α:=Empty) es) es:=by
 show jCl _ (bB (α:=Empty) es)=bB es;rfl
theorem jPM {l:List (Nd n)}{cs:List (List (Kid n))}(h:bM n l cs):(aV (aa n) l).hd=(aV (aa n) (cs.map (jDG n))).hd:=by
 have h1:∀(a b:List (Nd n)),a.map (jA6 n)=b.map (jA6 n)->jBg (aa n) a=jBg (aa n) b/\aH (aa n) a=aH (aa n) b:=by
  intro a b ha
  have hh:∀c d:Nd n,jA6 n c=jA6 n d->(aa n c).least=(aa n d).least/\(aa n c).rows=(aa n d).rows:=by
   intro c d hc;have h2:=jNa n c;rw[hc,jNa n d] at h2;exact⟨(congrArg Head.least h2).symm,(congrArg Head.rows h2).symm⟩
  refine⟨?_,?_⟩
  ·cases a with
   | nil=>cases b with
    | nil=>rfl
    | cons d r=>simp at ha
   | cons c q=>cases b with
    | nil=>simp at ha
    | cons d r=>simp at ha;exact(hh c d ha.1).1
  unfold aH
  have h3:∀(a b:List (Nd n)),a.map (jA6 n)=b.map (jA6 n)->(a.map fun c=>(aa n c).rows)=(b.map fun c=>(aa n c).rows):=by
   intro a
   induction a with
   | nil=>intro b hb;cases b with
    | nil=>rfl
    | cons d r=>simp at hb
   | cons c q ih=>intro b hb;cases b with
    | nil=>simp at hb
    | cons d r =>
     rw[cM,cM,List.cons.injEq] at hb;rw[cM,cM,(hh c d hb.1).2,ih r hb.2]
  rw[h3 a b ha]
 have h2:∀(m:Nat) (x:List (Kid m)),jA6 m (jDG m x)=jDG m x:=by
  intro m
  induction m with
  | zero=>intro x;rfl
  | succ m ih =>
   intro x;show jCl (jA6 m) (aV (aa m) (List.map (jDG m) (show List (List (Kid m)) from x)))=aV (aa m) (List.map (jDG m) (show List (List (Kid m)) from x));unfold jCl aV
   dsimp only
   rw[dG,show(jA6 m ∘ jDG m)=jDG m from funext fun c=>ih c];rfl
 have h3:=h1 l (cs.map (jDG n)) (by rw[dG,show(jA6 n ∘ jDG n)=jDG n from funext fun c=>h2 n c];exact h);unfold aV
 dsimp only
 rw[h3.1,h3.2]
theorem jH6 {l:List (Nd n)}{cs:List (List (Kid n))}(h:bM n l cs):rep (n+1) (aV (aa n) l) cs:=by
 have h1:=jPM h;show jCl (jA6 n) (aV (aa n) l)=aV (aa n) (List.map (jDG n) cs);unfold jCl;rw[h1]
 show(⟨_,[],l.map (jA6 n)⟩:af (Nd n))=⟨_,[],cs.map (jDG n)⟩
 rw[h];rfl
theorem jRa (es:List Ent):bM 0 (jAT (α:=Empty) es) (bF es):=by
 unfold bM jAT;rw[dG];refine List.map_congr_left fun x _=>?_
 exact jNZ x
theorem jRb {l:List (Nd n)}{cs:List (List (Kid n))}(h:bM n l cs):bM (n+1) (jAK (aa n) l) (bF cs):=by
 unfold jAK bF;rw[h.len]
 split
 ·exact bM.one (jH6 h)
 exact(bM.one (jH6 (h.take 3))).append (bM.one (jH6 (h.drop 3)))
theorem jP0 (f:α->Head)(p:Int):∀(l:List α) (i a:Nat),a<i->jA5 f p l i a<i+l.length
 | [],i,a,h=>by rw[jA5];simpa using h
 | c::r,i,a,h=>by
  rw[jA5,cG];have h1:=jP0 f p r (i+1) (if(f c).least<=p then i else a) (by split<;>omega);omega
theorem jL3 (f:α->Head)(l:List α)(p:Int)(h:l≠[]):bU f l p<l.length:=by
 unfold bU;have h1:=jP0 f p (l.drop 1) 1 0 (by omega);have h2:0<l.length:=List.length_pos_iff.2 h;rw[ef] at h1;omega
theorem jU1:∀(n:Nat) (t:Nd n) (x:List (Kid n)) (e:Ent) (tr:Trl),rep n t x->okT n x->(n=0\/x≠[])->bM n (jCn n t e tr).1 (jCE n x e)
 | 0,t,x,e,tr,h,_,_=>by
  obtain⟨h1,h2,-⟩:=rep.leaf h;show bM 0 (jDU _ _ t e tr).1 (bF (jAX x e));unfold jDU;rw[h1,h2];exact jRa _
 | n+1,t,x,e,tr,h,ho,hne=>by
  obtain⟨h1,-,h3⟩:=rep.inner h;have hc:=jN6 e.place h3
  have ha:way n x e.place<t.kids.length:=by
   rw[<-hc];refine jL3 _ _ _ fun h0=>?_
   have hl:=h3.len;rw[h0] at hl;rcases hne with hne | hne
   ·omega
   ·exact hne (List.length_eq_zero_iff.1 hl.symm)
  show bM (n+1) (jDU (aa n) (jCn n) t e tr).1 (jHa x (way n x e.place) (fun c=>jCE n c e) ((show List (List (Kid n)) from x)[way n x e.place]?));unfold jDU;rw[h1,hc];simp only[dT];rw[cz ha];obtain⟨y,hy,hr⟩:=h3.at (cz ha);rw[hy];have hb:=jQ0 ho (cA hy);exact jRb (h3.bm (jU1 n _ y e _ hr hb.2 (Or.inr (jF3 hb.1))) _ _)
theorem qBp:∀(n:Nat) (t:Nd n) (x:List (Kid n)),rep n t x->jCj n t=x.length
 | 0,t,x,h=>by
  obtain⟨h1,h2,-⟩:=rep.leaf h;show bG t=_;unfold bG;rw[h1,h2];rfl
 | n+1,t,x,h=>by
  obtain⟨h1,-,h3⟩:=rep.inner h;show bG t=_;unfold bG;rw[h1];exact h3.len
theorem jWE:∀(n:Nat) (l r:Nd n) (x y:List (Kid n)),rep n l x->rep n r y->bM n (jAk n l r) (bF (x++y))
 | 0,l,r,x,y,hl,hr=>by
  obtain⟨h1,h2,-⟩:=rep.leaf hl;obtain⟨-,k2,-⟩:=rep.leaf hr;show bM 0 (jAq _ l r) _;unfold jAq;rw[h1,h2,k2];exact jRa _
 | n+1,l,r,x,y,hl,hr=>by
  obtain⟨h1,-,h3⟩:=rep.inner hl;obtain⟨-,-,k3⟩:=rep.inner hr;show bM (n+1) (jAq (aa n) l r) _;unfold jAq;rw[h1];exact jRb (h3.append k3)
theorem jZa {l:List (Nd n)}{cs:List (List (Kid n))}(h:bM n l cs)(a:Nat)(tr:Trl):bM n (jAI (aa n) (jAk n) l a tr).1 (jFX cs a):=by
 unfold jAI jFX jDs;rw[h.len]
 split
 ·rename_i h0;rw[cP,beq_iff_eq,beq_iff_eq] at h0;obtain⟨h1,rfl⟩:=h0
  have e1:cs[(if 0+1==cs.length then 0-1 else 0)+1]?=none:=by
   rw[List.getElem?_eq_none_iff]
   split<;>omega
  rw[e1];cases cs[if 0+1==cs.length then 0-1 else 0]? <;> exact h
 generalize (if a+1==cs.length then a-1 else a)=b;cases hl:l[b]? with
 | none =>
  rw[h.none hl];exact h
 | some c =>
  obtain⟨y,hy,hr⟩:=h.at hl;rw[hy];cases hl2:l[b+1]? with
  | none =>
   rw[h.none hl2];exact h
  | some d =>
   obtain⟨z,hz,hq⟩:=h.at hl2;rw[hz];exact h.bm (jWE n c d y z hr hq) b 2
theorem jVf:∀(n:Nat) (t:Nd n) (x:List (Kid n)) (p:Int) (tr:Trl),rep n t x->rep n (jC0 n t p tr).1 (jDk n x p)
 | 0,t,x,p,tr,h=>by
  obtain⟨h1,h2,-⟩:=rep.leaf h;show rep 0 (jC5 _ _ _ _ t p tr).1 _;unfold jC5;rw[h1,h2];exact jNZ _
 | n+1,t,x,p,tr,h=>by
  obtain⟨h1,-,h3⟩:=rep.inner h;show rep (n+1) (jC5 (aa n) (jCj n) (jAk n) (jC0 n) t p tr).1 (jKw x (way n x p) (fun c=>jDk n c p) (show List (List (Kid n)) from x)[way n x p]?);unfold jC5;rw[h1,jN6 p h3];simp only[dT];cases hc:t.kids[way n x p]? with
  | none=>rw[h3.none hc];exact h
  | some c =>
   obtain⟨y,hy,hr⟩:=h3.at hc;rw[hy];have hd:=jVf n c y p (aC tr (af.hd t)) hr;have hz:=qBp n _ _ hd;have he:=h3.bm (bM.one hd) (way n x p) 1;show rep (n+1) _ (jDS x (way n x p) (jDk n y p));unfold jDS
   dsimp only
   rw[hz]
   split
   ·exact jH6 (jZa he _ _)
   ·exact jH6 he
def jCo (X:aj)(x:Tree):Prop:=∃h:X.d=x.d,rep x.d (h ▸ X.t) x.t
theorem jCo.mk' {t:Nd n}{x:List (Kid n)}(h:rep n t x):jCo ⟨n,t⟩ ⟨n,x⟩:=⟨rfl,h⟩
theorem jCo.cases {X:aj}{x:Tree}(h:jCo X x):∃n t y,X=⟨n,t⟩/\x=⟨n,y⟩/\rep n t y:=by
 obtain⟨d,t⟩:=X;obtain⟨e,y⟩:=x;obtain⟨h1,h2⟩:=h
 dsimp only at h1
 subst h1;exact⟨d,t,y,rfl,rfl,h2⟩
theorem jVB:jCo jBX jIv:=jCo.mk' (jNZ [])
theorem jCo.put {X:aj}{x:Tree}(h:jCo X x)(ho:x.ok)(e:Ent)(tr:Trl):jCo (X.put e tr).1 (x.put e):=by
 obtain⟨n,t,y,rfl,rfl,hr⟩:=h.cases;have hp:=jU1 n t y e tr hr ho.kids ho.ne;show jCo (upN n (jCn n t e tr).1) (upT n (jCE n y e));generalize (jCn n t e tr).1=l at *;generalize jCE n y e=cs at *
 match l,cs,hp with
 | [],[],hp=>exact jCo.mk' (jH6 (n:=n) hp)
 | [c],[z],hp=>exact jCo.mk' (bM.cons.1 hp).1
 | c::d::q,z::u::r,hp=>exact jCo.mk' (jH6 (n:=n) hp)
 | [],_::_,hp=>have:=hp.len;simp at this
 | _::_,[],hp=>have:=hp.len;simp at this
 | [c],_::_::_,hp=>have:=hp.len;simp at this
 | _::_::_,[z],hp=>have:=hp.len;simp at this
theorem jCo.del {X:aj}{x:Tree}(h:jCo X x)(p:Int)(tr:Trl):jCo (X.del p tr).1 (x.del p):=by
 obtain⟨n,t,y,rfl,rfl,hr⟩:=h.cases;have hp:=jVf n t y p tr hr;show jCo (jEZ n (jC0 n t p tr).1) (jMk n (jDk n y p));generalize (jC0 n t p tr).1=t' at *;generalize jDk n y p=z at *
 match n,t',z,hp with
 | 0,t',z,hp=>exact jCo.mk' hp
 | n+1,t',z,hp =>
  obtain⟨h1,h2,h3⟩:=rep.inner hp;show jCo (if(af.hd t').inner then(match af.kids t' with | [c]=>⟨n,c⟩ | _=>⟨n+1,t'⟩) else⟨n+1,t'⟩) (match (show List (List (Kid n)) from z) with | [x]=>⟨n,x⟩ | l=>⟨n+1,l⟩);rw[h1];simp only[dT]
  match hk:af.kids t',(show List (List (Kid n)) from z),hp,h3 with
  | [c],[w],hp,h3=>exact jCo.mk' (bM.cons.1 h3).1
  | [],[],hp,h3=>exact jCo.mk' hp
  | c::d::q,u::v::r,hp,h3=>exact jCo.mk' hp
  | [],_::_,hp,h3=>have:=h3.len;simp at this
  | _::_,[],hp,h3=>have:=h3.len;simp at this
  | [c],_::_::_,hp,h3=>have:=h3.len;simp at this
  | _::_::_,[w],hp,h3=>have:=h3.len;simp at this
theorem jCo.has {X:aj}{x:Tree}(h:jCo X x)(p:Int)(tr:Trl):(X.has p tr).1=jHm x.d x.t p:=by
 obtain⟨n,t,y,rfl,rfl,hr⟩:=h.cases;exact jVb n t y p tr hr
theorem jCo.jE4 {X:aj}{x:Tree}(h:jCo X x)(lo hi:Int)(tr:Trl):(X.jE4 lo hi tr).1=jIz x.d x.t lo hi:=by
 obtain⟨n,t,y,rfl,rfl,hr⟩:=h.cases;exact jTQ n t y lo hi tr hr
theorem jTt:∀(n:Nat) (t:Nd n) (k:Int),jA6 n (cf n t k).1=jA6 n t
 | 0,t,k=>by
  show jCl _ (jEO _ t k).1=jCl _ t;unfold jCl jEO;have h1:∀l:List Empty,l=[]:=fun l=>by cases l with | nil=>rfl | cons e _=>exact e.elim
  have h2:t.kids=[]:=h1 _;rw[h2];rfl
 | n+1,t,k=>by
  show jCl (jA6 n) (jEO (cf n) t k).1=jCl (jA6 n) t;unfold jCl jEO
  have h1:∀(l:List (Nd n)) (k:Int),(bL (cf n) l k).1.map (jA6 n)=l.map (jA6 n):=by
   intro l
   induction l with
   | nil=>intro k;rfl
   | cons c r ih =>
    intro k;rw[bL,cM,cM,ih,jTt n c k]
  dsimp only
  rw[h1];rfl
theorem jCo.ay {X:aj}{x:Tree}(h:jCo X x):jCo X.ay x:=by
 obtain⟨n,t,y,rfl,rfl,hr⟩:=h.cases;refine jCo.mk' ?_;unfold rep;rw[jTt];exact hr
end Sq
section
open Go.RowKit
def jAw (e:Sq.Ent):List Value:=[.int .i64 e.place,.string e.row]
def ae (h:Sq.Head)(ev cv:Value):List Value:=[.bool h.inner,ev,cv,.int .i64 h.least,.int .i64 h.rows,.string h.sl,.int .i64 h.num]
def au (n:Nat)(x:Sq.Nd n×Value×Value):List Value:=ae (Sq.aa n x.1) x.2.1 x.2.2
def aM (B:Nat)(w:World)(v:Value)(es:List Sq.Ent):Prop:=w.ownsRow B 141 2 v es.length (es.flatMap jAw)
def jJp (Z:Nat->Prop)(v:Value):Prop:=∀g o p k c,v=.slice (some ⟨g,o,p⟩) k c->¬Z g
def ag (Z:Nat->Prop)(w:World):(n:Nat)->Sq.Nd n->Value->Value->Prop
 | 0,t,ev,cv=>aM 0 w ev (Sq.af.av t)/\cv=.slice none 0 0
 | n+1,t,ev,cv=>aM 0 w ev (Sq.af.av t)/\∃l:List (Sq.Nd n×Value×Value),Sq.af.kids t=l.map Prod.fst/\w.ownsRow 0 60 7 cv l.length (l.flatMap (au n))/\jJp Z cv/\∀x∈l,ag Z w n x.1 x.2.1 x.2.2
variable {Z:Nat->Prop}
structure aB (Z:Nat->Prop)(B:Nat)(w:World)(v:Value)(n:Nat)(l:List (Sq.Nd n×Value×Value)):Prop where
 own:w.ownsRow B 60 7 v l.length (l.flatMap (au n))
 each:∀x∈l,ag Z w n x.1 x.2.1 x.2.2
theorem ag.leaf {t:Sq.af Empty}(h:ag Z w 0 t ev cv):aM 0 w ev t.av/\cv=.slice none 0 0:=h
theorem ag.inner {t:Sq.af (Sq.Nd n)}(h:ag Z w (n+1) t ev cv):aM 0 w ev t.av/\∃l,t.kids=l.map Prod.fst/\aB Z 0 w cv n l:=by
 obtain⟨h1,l,h2,h3,_,h4⟩:=h;exact⟨h1,l,h2,h3,h4⟩
theorem jIO {l:List (Sq.Nd n×Value×Value)}(h:aB Z B w v n l)(hZ:∀g,B<=g->¬Z g):jJp Z v:=by
 intro g o p k c hv;rcases h.own.2 with⟨h0,_⟩ | ⟨g',cap,cur,hv',hbg,_⟩
 ·rw[h0] at hv;simp at hv
 rw[hv'] at hv;simp only[Value.slice.injEq,Option.some.injEq,Addr.mk.injEq] at hv;rw[<-hv.1.1];exact hZ g' hbg
theorem ag.mk {t:Sq.af (Sq.Nd n)}{l:List (Sq.Nd n×Value×Value)}(h0:aM 0 w ev t.av)(h1:t.kids=l.map Prod.fst)(h2:aB Z 0 w cv n l)(hz:jJp Z cv):ag Z w (n+1) t ev cv:=⟨h0,l,h1,h2.own,hz,h2.each⟩
theorem aM.below {es:List Sq.Ent}(h:aM B w v es)(hb:Below w.heap.size w w'):aM B w' v es:=jQh h hb
theorem aM.base {es:List Sq.Ent}(h:aM B w v es)(hb:B'<=B):aM B' w v es:=jQj h hb
theorem aM.nil (w:World):aM 0 w (.slice none 0 0) []:=⟨rfl,Or.inl ⟨rfl,rfl⟩⟩
theorem ag.below:∀{n:Nat} {w w':World} {t:Sq.Nd n} {ev cv:Value},ag Z w n t ev cv->Below w.heap.size w w'->ag Z w' n t ev cv
 | 0,_,_,_,_,_,h,hb=>⟨h.1.below hb,h.2⟩
 | _+1,_,_,_,_,_,h,hb=>by
  obtain⟨h1,l,h2,h3,hz,h4⟩:=h;exact⟨h1.below hb,l,h2,jQh h3 hb,hz,fun x hx=>(h4 x hx).below hb⟩
theorem aB.below {l:List (Sq.Nd n×Value×Value)}(h:aB Z B w v n l)(hb:Below w.heap.size w w'):aB Z B w' v n l:=⟨jQh h.own hb,fun x hx=>(h.each x hx).below hb⟩
theorem aB.base {l:List (Sq.Nd n×Value×Value)}(h:aB Z B w v n l)(hb:B'<=B):aB Z B' w v n l:=⟨jQj h.own hb,h.each⟩
theorem ag.aG:∀{n:Nat} {w:World} {t:Sq.Nd n} {ev cv:Value},ag Z w n t ev cv->(∃a k c,ev=.slice a k c)/\∃a k c,cv=.slice a k c
 | 0,_,_,_,_,h=>by
  obtain⟨a,c,h2⟩:=jQa h.1;exact⟨⟨a,_,c,h2⟩,⟨none,0,0,h.2⟩⟩
 | n+1,_,_,_,_,h=>by
  obtain⟨h1,l,h2,h3,_,h4⟩:=h;obtain⟨a,c,h5⟩:=jQa h3;obtain⟨a',c',h6⟩:=jQa h1;exact⟨⟨a',_,c',h6⟩,⟨a,_,c,h5⟩⟩
theorem jPn (es:List Sq.Ent):∀v∈es.flatMap jAw,v.oneCell'=true:=by
 intro v hv;obtain⟨x,_,hx⟩:=List.mem_flatMap.1 hv;simp only[jAw,dI,ep,or_false] at hx;rcases hx with rfl | rfl<;>rfl
theorem aB.one {l:List (Sq.Nd n×Value×Value)}(h:∀x∈l,ag Z w n x.1 x.2.1 x.2.2):∀u∈l.flatMap (au n),u.oneCell'=true:=by
 intro u hu;obtain⟨x,hx,ha⟩:=List.mem_flatMap.1 hu;obtain⟨⟨a,k,c,h1⟩,a',k',c',h2⟩:=(h x hx).aG;simp only[au,ae,dI,ep,or_false] at ha;rcases ha with rfl | rfl | rfl | rfl | rfl | rfl | rfl
 ·rfl
 ·rw[h1];rfl
 ·rw[h2];rfl
 ·rfl
 ·rfl
 ·rfl
 rfl
theorem ag.same:∀{n:Nat} {w w':World} {t:Sq.Nd n} {ev cv:Value},ag Z w n t ev cv->(∀(g:Nat) (c:Array Value) (e:TypeId) (fr:Nat×Nat),w.heap[g]?=some (Obj.cells c e fr)->(e=141\/e=60)->w'.heap[g]?=w.heap[g]?)->ag Z w' n t ev cv
 | 0,_,_,_,_,_,h,hs=>by
  refine⟨⟨h.1.1,?_⟩,h.2⟩;rcases h.1.2 with h0 | ⟨g,cap,cur,hv,hbg,hh,hn,hm,hc,ht⟩
  ·exact Or.inl h0
  ·exact Or.inr ⟨g,cap,cur,hv,hbg,(hs g _ _ _ hh (Or.inl rfl)).trans hh,hn,hm,hc,ht⟩
 | _+1,_,_,_,_,_,h,hs=>by
  obtain⟨h1,l,h2,h3,hz,h4⟩:=h;refine⟨⟨h1.1,?_⟩,l,h2,⟨h3.1,?_⟩,hz,fun x hx=>(h4 x hx).same hs⟩
  ·rcases h1.2 with h0 | ⟨g,cap,cur,hv,hbg,hh,hn,hm,hc,ht⟩
   ·exact Or.inl h0
   ·exact Or.inr ⟨g,cap,cur,hv,hbg,(hs g _ _ _ hh (Or.inl rfl)).trans hh,hn,hm,hc,ht⟩
  ·rcases h3.2 with h0 | ⟨g,cap,cur,hv,hbg,hh,hn,hm,hc,ht⟩
   ·exact Or.inl h0
   ·exact Or.inr ⟨g,cap,cur,hv,hbg,(hs g _ _ _ hh (Or.inr rfl)).trans hh,hn,hm,hc,ht⟩
theorem aM.at {es:List Sq.Ent}(h:aM B w v es)(k:Nat)(hk:k<es.length) :
  ∃g cap,v=.slice (some ⟨g,0,none⟩) es.length cap/\g<w.heap.size/\w.cell? ⟨g,k*2,none⟩=some (.int .i64 es[k].place)/\w.cell? ⟨g,k*2+1,none⟩=some (.string es[k].row):=by
 obtain⟨g,cap,hv,hg,hc⟩:=jCc (f:=jAw) (fun _=>rfl) h k hk;have c0:=hc 0 (.int .i64 es[k].place) (by decide) rfl;have c1:=hc 1 (.string es[k].row) (by decide) rfl;exact⟨g,cap,hv,hg,by simpa using c0,c1⟩
structure aP (w:World)(g o:Nat)(h:Sq.Head)(ev cv:Value):Prop where
 c0:w.cell? ⟨g,o,none⟩=some (.bool h.inner)
 c1:w.cell? ⟨g,o+1,none⟩=some ev
 c2:w.cell? ⟨g,o+2,none⟩=some cv
 c3:w.cell? ⟨g,o+3,none⟩=some (.int .i64 h.least)
 c4:w.cell? ⟨g,o+4,none⟩=some (.int .i64 h.rows)
 c5:w.cell? ⟨g,o+5,none⟩=some (.string h.sl)
 c6:w.cell? ⟨g,o+6,none⟩=some (.int .i64 h.num)
theorem aB.at {l:List (Sq.Nd n×Value×Value)}(h:aB Z B w v n l)(k:Nat)(hk:k<l.length) :
  ∃g cap ea el ec ca cl cc,v=.slice (some ⟨g,0,none⟩) l.length cap/\g<w.heap.size/\aP w g (k*7) (Sq.aa n l[k].1) (.slice ea el ec) (.slice ca cl cc)/\l[k].2=(.slice ea el ec,.slice ca cl cc)/\ag Z w n l[k].1 (.slice ea el ec) (.slice ca cl cc):=by
 obtain⟨g,cap,hv,hg,hc⟩:=jCc (f:=au n) (fun _=>rfl) h.own k hk;have ht:=h.each l[k] (cJ hk);obtain⟨⟨ea,el,ec,h1⟩,ca,cl,cc,h2⟩:=ht.aG;have c0:=hc 0 (.bool (Sq.aa n l[k].1).inner) (by decide) rfl;have c1:=hc 1 l[k].2.1 (by decide) rfl;have c2:=hc 2 l[k].2.2 (by decide) rfl;have c3:=hc 3 (.int .i64 (Sq.aa n l[k].1).least) (by decide) rfl;have c4:=hc 4 (.int .i64 (Sq.aa n l[k].1).rows) (by decide) rfl;have c5:=hc 5 (.string (Sq.aa n l[k].1).sl) (by decide) rfl;have c6:=hc 6 (.int .i64 (Sq.aa n l[k].1).num) (by decide) rfl;rw[h1] at c1 ht;rw[h2] at c2 ht;exact⟨g,cap,ea,el,ec,ca,cl,cc,hv,hg,⟨by simpa using c0,c1,c2,c3,c4,c5,c6⟩,by rw[<-h1,<-h2],ht⟩
theorem ag.less {Y:Nat->Prop}(hY:∀g,Y g->Z g):∀{n:Nat} {w:World} {t:Sq.Nd n} {ev cv:Value},ag Z w n t ev cv->ag Y w n t ev cv
 | 0,_,_,_,_,h=>h
 | _+1,_,_,_,_,h=>by
  obtain⟨h1,l,h2,h3,hz,h4⟩:=h;exact⟨h1,l,h2,h3,fun g o p k c hv hg=>hz g o p k c hv (hY g hg),fun x hx=>(h4 x hx).less hY⟩
theorem ag.more:∀{n:Nat} {w:World} {t:Sq.Nd n} {ev cv:Value},w.heap.size<=b->ag Z w n t ev cv->ag (fun g=>Z g\/g=b) w n t ev cv
 | 0,_,_,_,_,_,h=>h
 | _+1,_,_,_,_,hb,h=>by
  obtain⟨h1,l,h2,h3,hz,h4⟩:=h;refine⟨h1,l,h2,h3,fun g o p k c hv hg=>?_,fun x hx=>(h4 x hx).more hb⟩;rcases hg with hg | rfl
  ·exact hz g o p k c hv hg
  rcases h3.2 with⟨h0,_⟩ | ⟨g',cap,cur,hv',hbg,hh,_⟩
  ·rw[h0] at hv;simp at hv
  rw[hv'] at hv;simp only[Value.slice.injEq,Option.some.injEq,Addr.mk.injEq] at hv;rw[hv.1.1] at hh
  have:=jQe hh
  omega
theorem ag.skip:∀{n:Nat} {w w':World} {t:Sq.Nd n} {ev cv:Value} {c:Array Value},ag Z w n t ev cv->Z b->w.heap[b]?=some (.cells c 60)->(∀g,g≠b->w'.heap[g]?=w.heap[g]?)->ag Z w' n t ev cv
 | 0,_,_,_,_,_,_,h,hz,hb,ho=>by
  refine⟨⟨h.1.1,?_⟩,h.2⟩;rcases h.1.2 with h0 | ⟨g,cap,cur,hv,hbg,hh,hn,hm,hc,ht⟩
  ·exact Or.inl h0
  ·refine Or.inr ⟨g,cap,cur,hv,hbg,(ho g ?_).trans hh,hn,hm,hc,ht⟩;rintro rfl;rw[hb] at hh;simp at hh
 | _+1,_,_,_,_,_,_,h,hz,hb,ho=>by
  obtain⟨h1,l,h2,h3,ha,h4⟩:=h;refine⟨⟨h1.1,?_⟩,l,h2,⟨h3.1,?_⟩,ha,fun x hx=>(h4 x hx).skip hz hb ho⟩
  ·rcases h1.2 with h0 | ⟨g,cap,cur,hv,hbg,hh,hn,hm,hc,ht⟩
   ·exact Or.inl h0
   ·refine Or.inr ⟨g,cap,cur,hv,hbg,(ho g ?_).trans hh,hn,hm,hc,ht⟩;rintro rfl;rw[hb] at hh;simp at hh
  ·rcases h3.2 with h0 | ⟨g,cap,cur,hv,hbg,hh,hn,hm,hc,ht⟩
   ·exact Or.inl h0
   ·refine Or.inr ⟨g,cap,cur,hv,hbg,(ho g ?_).trans hh,hn,hm,hc,ht⟩;rintro rfl;exact ha g 0 none _ _ hv hz
def Reads (w:World)(v:Value)(n size:Nat)(cs:List Value):Prop :=
 cs.length=n*size/\((v=.slice none 0 0/\n=0)\/∃g off cap,v=.slice (some ⟨g,off,none⟩) n cap/\g<w.heap.size/\∀j u,cs[j]?=some u->w.cell? ⟨g,off+j,none⟩=some u)
theorem jFp (g off j:Nat):(⟨g,off,none⟩:Addr).add j=⟨g,off+j,none⟩:=by unfold Addr.add;split<;>simp_all
theorem Reads.jEC {size:Nat}(h:w.ownsRow B e size v n cs):Reads w v n size cs:=by
 refine⟨h.1,?_⟩;rcases dP n with h0 | h0
 ·rcases h.2 with h1 | ⟨g,cap,cur,hv,hbg,hh,hn,hm,hc,ht⟩
  ·exact Or.inl h1
  refine Or.inr ⟨g,0,cap,hv,jQe hh,fun j u hj=>?_⟩
  have:cs=[]:=by have:=h.1;rw[h0] at this;simpa using this
  rw[this] at hj;simp at hj
 obtain⟨g,cap,rfl,_,ha⟩:=h.form h0;refine Or.inr ⟨g,0,cap,rfl,ha,fun j u hj=>?_⟩
 have:=h.cells (g:=g) rfl j u hj
 rwa [jFp] at this
theorem Reads.slice {size:Nat}(h:Reads w v n size cs):∃ao cap,v=.slice ao n cap:=by
 rcases h.2 with⟨h1,h2⟩ | ⟨g,off,cap,h1,_⟩
 ·exact⟨none,0,by rw[h1,h2]⟩
 exact⟨_,cap,h1⟩
theorem Reads.below {size:Nat}(h:Reads w v n size cs)(hb:Below w.heap.size w w'):Reads w' v n size cs:=by
 refine⟨h.1,?_⟩;rcases h.2 with h1 | ⟨g,off,cap,h1,h2,h3⟩
 ·exact Or.inl h1
 exact Or.inr ⟨g,off,cap,h1,dz h2 hb.size,fun j u hj=>((aD hb).1 g (off+j) h2).trans (h3 j u hj)⟩
theorem jMA {P:Program}(w:World)(t ty e:TypeId)(i:TypeInfo)(size:Nat)(hu:P.underlying t=some (.slice e))(hi:P.info? e=some i)(hq:i.size=size)
  (base:Nat) (g n cap:Nat) (so:Option Addr) (sc:Nat) (zs cs:List Value)
  (ho:w.ownsRow base e size (.slice (some ⟨g,0,none⟩) n cap) n zs) (hp:Reads w (.slice so n sc) n size cs) (h1:∀v∈cs,v.oneCell'=true) :
  ∃w',(Builtin.copy_ #[t,t] ty #[.slice (some ⟨g,0,none⟩) n cap,.slice so n sc]).run P w=.ok (goInt n) w'/\w'.ownsRow base e size (.slice (some ⟨g,0,none⟩) n cap) n cs/\Below base w w':=by
 obtain⟨hr,hz⟩:=ho;obtain⟨hk,hc⟩:=hp;rcases hz with⟨h,_⟩ | ⟨g',cap',cur,hv,hbg,hh,hn,hmx,hcs,ht⟩
 ·simp at h
 simp only[Value.slice.injEq,Option.some.injEq,Addr.mk.injEq] at hv;obtain⟨⟨rfl,-,-⟩,-,rfl⟩:=hv;rcases hc with⟨h,h0⟩ | ⟨g2,off,cap2,hv2,hbg2,hsr⟩
 ·obtain⟨rfl,-,rfl⟩:=sI h;subst h0;have hb:cs=[]:=by simpa using hk
  have hg:zs=[]:=by simpa using hr
  subst hb;refine⟨w,?_,⟨by simp,Or.inr ⟨g,cap,cur,rfl,hbg,hh,hn,hmx,hcs,by simp⟩⟩,bR⟩;simp[Builtin.copy_,eC hu,Builtin.lenOf,Builtin.firstCells,sizeOf,typeInfo,hi,storeCells]
 obtain⟨rfl,-,rfl⟩:=sI hv2
 have ha:∀j v,cs[j]?=some v->w.cell? ((⟨g2,off,none⟩:Addr).add j)=some v:=by
  intro j v hj;rw[jFp];exact hsr j v hj
 have hl:=run_loadCells_list (P:=P) w ⟨g2,off,none⟩ cs ha;have he:n*size<=cap*size:=dS _ hn;have hf:=run_storeCells_at P g 0 e cs 0 cur w hh (by omega) h1;refine⟨_,?_,⟨hk,Or.inr ⟨g,cap,(cur.toList.take 0++cs++cur.toList.drop (0+0+cs.length)).toArray,rfl,hbg,setRow_heap w g cur _ e _ hh,hn,hmx,?_,?_⟩⟩,below_setRow bR hbg _⟩
 ·rw[hk] at hl;simp[Builtin.copy_,eC hu,Builtin.lenOf,Builtin.firstCells,sizeOf,typeInfo,hi,hq,hl,hf]
 ·simp;omega
 simp[hk]
theorem Tryz.jE9:(Tryz.prog.info? 141).map (fun i=>(i.zero,i.size,i.bytes))=some (some (.agg #[.int .i64 0,.string ⟨#[]⟩]),2,24):=by kernel_rfl
theorem Tryz.jFC:(Tryz.prog.info? 60).map (fun i=>(i.zero,i.size,i.bytes))=some (some (.agg #[.bool false,.slice none 0 0,.slice none 0 0,.int .i64 0,.int .i64 0,.string ⟨#[]⟩,.int .i64 0]),7,96):=by kernel_rfl
def jAR:Array Value:=#[.bool false,.slice none 0 0,.slice none 0 0,.int .i64 0,.int .i64 0,.string ⟨#[]⟩,.int .i64 0]
theorem jQr (w:World)(o:Obj):(w.alloc o).heap.size=w.heap.size+1:=by simp
def bT (w:World)(b:Nat)(x0 x1 x2 x3 x4 x5 x6:Value):World :=
 ((((((w.setCell ⟨b,0,none⟩ x0).setCell ⟨b,1,none⟩ x1).setCell ⟨b,2,none⟩ x2).setCell ⟨b,3,none⟩ x3).setCell ⟨b,4,none⟩ x4).setCell ⟨b,5,none⟩ x5).setCell ⟨b,6,none⟩ x6
theorem jQl (w:World)(b:Nat)(x0 x1 x2 x3 x4 x5 x6:Value)(h:g≠b):(bT w b x0 x1 x2 x3 x4 x5 x6).heap[g]?=w.heap[g]?:=by
 unfold bT;rw[jQg h,jQg h,jQg h,jQg h,jQg h,jQg h,jQg h]
theorem jQu (hb:Below B W w)(h:B<=b)(x0 x1 x2 x3 x4 x5 x6:Value):Below B W (bT w b x0 x1 x2 x3 x4 x5 x6):=by
 unfold bT;exact cj (B:=B) (cj (B:=B) (cj (B:=B) (cj (B:=B) (cj (B:=B) (cj (B:=B) (cj (B:=B) hb h _) h _) h _) h _) h _) h _) h _
theorem jL9 {size:Nat}{cap:Nat}(h:w.ownsRow B e size (.slice (some ⟨g,0,none⟩) n cap) n cs):g<w.heap.size:=by
 rcases h.2 with⟨h1,_⟩ | ⟨g',cap',cur,hv,hbg,hh,hn,hm,hc,ht⟩
 ·simp at h1
 simp only[Value.slice.injEq,Option.some.injEq,Addr.mk.injEq] at hv;obtain⟨⟨rfl,-,-⟩,-,-⟩:=hv;exact jQe hh
theorem jQw (h:w.heap[b]?=some (.cells jAR 60)) :
  w.cell? ⟨b,0,none⟩=some (.bool false)/\w.cell? ⟨b,1,none⟩=some (.slice none 0 0)/\w.cell? ⟨b,2,none⟩=some (.slice none 0 0)/\w.cell? ⟨b,3,none⟩=some (.int .i64 0)/\w.cell? ⟨b,4,none⟩=some (.int .i64 0)/\w.cell? ⟨b,5,none⟩=some (.string ⟨#[]⟩)/\w.cell? ⟨b,6,none⟩=some (.int .i64 0) :=
 ⟨by rw[jQb h];rfl,by rw[jQb h];rfl,by rw[jQb h];rfl,by rw[jQb h];rfl,by rw[jQb h];rfl,by rw[jQb h];rfl,by rw[jQb h];rfl⟩
theorem jQk (h:w.heap[b]?=some (.cells c 60)) :
  w.frozen? ⟨b,0,none⟩=false/\w.frozen? ⟨b,1,none⟩=false/\w.frozen? ⟨b,2,none⟩=false/\w.frozen? ⟨b,3,none⟩=false/\w.frozen? ⟨b,4,none⟩=false/\w.frozen? ⟨b,5,none⟩=false/\w.frozen? ⟨b,6,none⟩=false :=
 ⟨jQd h _,jQd h _,jQd h _,jQd h _,jQd h _,jQd h _,jQd h _⟩
theorem jQi (w:World)(o:Obj):(w.alloc o).heap[w.heap.size]?=some o:=by show(w.heap.push o)[w.heap.size]?=some o;simp
theorem jL1 (es:List Sq.Ent)(v:Value)(w:World)(h:Reads w v es.length 2 (es.flatMap jAw))(hl:es.length<=1000) :
  Calls Tryz.prog 132 #[v] w fun e w'=>∃ev,e=.returned (.agg (ae (Sq.bB (α:=Empty) es).hd ev (.slice none 0 0)).toArray)/\aM w.heap.size w' ev es/\Below w.heap.size w w':=by
 obtain⟨i0,hi,hH,hD,hI⟩:=cV Tryz.jE9;obtain⟨ao,hJ,rfl⟩:=h.slice;have hm:=jPn es
 have hh:∀h:0<es.length,(es.flatMap jAw)[0]?=some (.int .i64 es[0].place):=by
  intro h;cases es with
  | nil=>simp at h
  | cons x r=>rfl
 have hj:∀h:0<es.length,Sq.jDQ es=es[0].place:=by
  intro h;cases es with
  | nil=>simp at h
  | cons x r=>rfl
 obtain⟨cs,hE⟩:∃x,x=es.flatMap jAw:=⟨_,rfl⟩;rw[<-hE] at h hm hh;have hW:∀o,Below w.heap.size w (w.alloc o):=fun o=>bA
 have hq:=hd h;have hp:=hd hm;have hw:=hd hE;have HF:=hd hh;have hx:=hd hj;have HW:=hd hW;clear h hm hE hW hh hj;rcases dP es.length with h0 | h0
 ·have hy:es=[]:=by simpa using h0
  subst hy;go_enter Tryz.func132,Tryz.ntmps132;go_wp2_with (at_make;refine wpList_make_full _ rfl (.tmp 6) (.tmp 6) 57 rfl (w.heap.size+1) 141 i0 _ 2 Tryz.underlying57 hi hH hD .i64 .i64 _ _ 0 rfl rfl rfl rfl (by rw[hI];omega) (by unfold maxLen;omega) (by simp) ?_;intro w1 hB hA;rw[jQr] at hB;have hf:=Tch.aO (pb:=w.heap.size+1) hA (fun k hk=>by cases hk) (by simp);have hc:=(HW.o _).trans (hf.mono (by omega));obtain⟨w2,hF,hz,hC⟩:=jMA w1 57 3 141 i0 2 Tryz.underlying57 hi hD (w.heap.size+1) _ 0 _ _ _ _ cs hB (hq.o.below hc) hp.o;have ha:=hf.trans hC;have hb:=(ha.block w.heap.size (by omega)).trans (jQi w _);obtain⟨b0,b1,b2,b3,b4,b5,b6⟩:=jQw hb;obtain⟨f0,f1,f2,f3,f4,f5,f6⟩:=jQk hb;have ht:=jL9 hz;have hu:w.heap.size<w2.heap.size:=(by omega);have hr:=hd ha;have hs:=hd hz;clear hB hA hf hc hz hC ha hb);have hg:Below w.heap.size w w2:=(HW.o _).trans (hr.o.mono (by omega));refine cp (v:=.agg (ae (Sq.bB (α:=Empty) []).hd (.slice (some ⟨w.heap.size+1,0,none⟩) 0 0) (.slice none 0 0)).toArray) (by simp[results,Tryz.results132,go_sem,ae,Sq.bB,Sq.jDQ,ar, *]) rfl ⟨_,rfl,?_,?_⟩
  ·have ho:=hs.o;rw[hw.o] at ho;exact jQj (jQh (jQp ho fun k hk=>jQl w2 w.heap.size _ _ _ _ _ _ _ (fun e=>by have:=(World.ownsRow.lt ho k hk).1;omega)) (bA)) (by omega)
  exact cH (B:=w.heap.size) (jQu hg nR _ _ _ _ _ _ _) (by simp[bT];omega) _
 have hj:=hx.o h0;have hn:=hd hj;have he:=HF.o h0;have hv:=hd he;obtain⟨p0,hG⟩:∃x,x=es[0].place:=⟨_,rfl⟩;rw[<-hG] at he hj;have hv:=hd he;have hn:=hd hj;clear he hj hG HF hx;go_enter Tryz.func132,Tryz.ntmps132;go_wp2_with (at_make;refine wpList_make_full _ rfl (.tmp 6) (.tmp 6) 57 rfl (w.heap.size+1) 141 i0 _ 2 Tryz.underlying57 hi hH hD .i64 .i64 _ _ es.length rfl rfl rfl rfl (by rw[hI];omega) (by unfold maxLen;omega) (by simp) ?_;intro w1 hB hA;rw[jQr] at hB;have hf:=Tch.aO (pb:=w.heap.size+1) hA (fun k hk=>by cases hk) (by simp);have hc:=(HW.o _).trans (hf.mono (by omega));obtain⟨w2,hF,hz,hC⟩:=jMA w1 57 3 141 i0 2 Tryz.underlying57 hi hD (w.heap.size+1) _ es.length _ _ _ _ cs hB (hq.o.below hc) hp.o;have ha:=hf.trans hC;have hb:=(ha.block w.heap.size (by omega)).trans (jQi w _);obtain⟨b0,b1,b2,b3,b4,b5,b6⟩:=jQw hb;obtain⟨f0,f1,f2,f3,f4,f5,f6⟩:=jQk hb;have ht:=jL9 hz;have hu:w.heap.size<w2.heap.size:=(by omega);have e0:=hz.cells (g:=w.heap.size+1) rfl 0 _ hv.o;rw[jFp] at e0;have hr:=hd ha;have hs:=hd hz;clear hB hA hf hc hz hC ha hb);have hg:Below w.heap.size w w2:=(HW.o _).trans (hr.o.mono (by omega));refine cp (v:=.agg (ae (Sq.bB (α:=Empty) es).hd (.slice (some ⟨w.heap.size+1,0,none⟩) es.length es.length) (.slice none 0 0)).toArray) (by simp[results,Tryz.results132,go_sem,ae,Sq.bB,ar,hn.o, *]) rfl ⟨_,rfl,?_,?_⟩
 ·have ho:=hs.o;rw[hw.o] at ho;exact jQj (jQh (jQp ho fun k hk=>jQl w2 w.heap.size _ _ _ _ _ _ _ (fun e=>by have:=(World.ownsRow.lt ho k hk).1;omega)) (bA)) (by omega)
 exact cH (B:=w.heap.size) (jQu hg nR _ _ _ _ _ _ _) (by simp[bT];omega) _
end
end Go.Proofs.YtahpihjialbanaaGreatDoor
