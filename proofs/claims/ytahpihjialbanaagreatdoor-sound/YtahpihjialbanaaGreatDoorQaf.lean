import Derived.Deep.CutRange
import Derived.Lib.ItoaLen
import Derived.Shelf.LaysM
import Derived.Shelf.Strconv.Itoa0
import Derived.Shelf.Strconv.Itoa1
import Derived.Shelf.Strconv.Itoa2
import Derived.Shelf.Strconv.Itoa3
import Derived.Shelf.Strconv.Itoa4
import Derived.Test.YtahpihjialbanaaGreatDoorQae
set_option linter.all false
set_option maxRecDepth 100000
set_option maxHeartbeats 2000000
namespace Go.Proofs.YtahpihjialbanaaGreatDoor
open Sq (ar PSt bE bQ bY Col Tab Val aE aW bd jAA jAE jAG jAH jAn jAr jB9 jBP jBZ jC7 jD9 jDY jDr jEH jEh jFL jGn jIc jId jIe jIf jJv jKq)
variable {B B' b g n:Nat}{W w w' w1:World}{cv kv pv v:Value}{e t:TypeId}{xs:List Value}
def Sq.jCw (t:Tab)(steps:List bd):List (List Val):=t.rows.filter fun row=>Sq.meets t.cols row steps
theorem Sq.jYo (p:List Val->Bool)(l:List (List Val))(k:Nat)(h:k<l.length):(l.take (k+1)).filter p=(l.take k).filter p++(if p l[k] then[l[k]] else[]):=by
 rw[cI h,List.filter_append]
 congr 1
 simp only[dK,List.filter_nil]
theorem Sq.jY4 (p:List Val->Bool)(l:List (List Val))(k:Nat):((l.take k).filter p).length<=k:=cm (dE _ _) (dW _ _)
def Sq.jHT (rows:List (List Val))(k:Int):Bool:=rows.any fun r=>Sq.keyOf r==k
def Sq.jCI (n:BA):List Tab->Int->Int
 | [],_=>-1
 | t::r,i=>if t.name.toList==n.toList then i else Sq.jCI n r (i+1)
def Sq.jDd (db:List Tab)(n:BA):Int:=Sq.jCI n db 0
structure Sq.Out where
 jAP:BA
 makes:Bool
 name:BA
 cols:List Col
 table:Int
 puts:List (List Val)
 cuts:List Int
def Sq.refused (e:Int):Sq.Out:=⟨jJv++Sq.itoa e,false,ar,[],0,[],[]⟩
def Sq.jHK (cols:List Col)(row:List Val)(items:List BA):Int:=(items.map fun n=>(Sq.cellOf cols row n).number).sum
def Sq.jHe (cols:List Col)(items:List BA)(rows:List (List Val)):Int:=(rows.map fun r=>Sq.jHK cols r items).sum
def Sq.jHb (cols:List Col)(row:List Val)(items:List BA):List UInt8:=Sq.jEz (items.map fun n=>(Sq.written (Sq.cellOf cols row n)).data.toList)
def Sq.listed (cols:List Col)(items:List BA)(rows:List (List Val)):List UInt8:=rows.flatMap fun r=>Sq.jHb cols r items++[59]
def Sq.bytesOf (l:List UInt8):BA:=⟨l.toArray⟩
def Sq.jGq (t:Tab)(st:PSt)(rows:List (List Val)):BA :=
 if st.shw==2 then jAH rows.length
 else if st.shw==3 then Sq.itoa (Sq.jHe t.cols st.items rows)++Sq.jGg
 else if st.shw==1 then Sq.bytesOf (Sq.listed t.cols (t.cols.map Col.name) rows)
 else Sq.bytesOf (Sq.listed t.cols st.items rows)
def Sq.show (t:Tab)(st:PSt):BA:=Sq.jGq t st (Sq.jCw t st.aq)
def Sq.remove (t:Tab)(at_:Int)(l:List bd):Sq.Out:=⟨jAH (Sq.jCw t l).length,false,ar,[],at_,[],(Sq.jCw t l).map Sq.keyOf⟩
def Sq.jHf (at_:Int):Option (List (List Val))->Sq.Out
 | some puts=>⟨jAH puts.length,false,ar,[],at_,puts,[]⟩
 | none=>Sq.refused 9
def Sq.update (t:Tab)(at_:Int)(st:PSt):Sq.Out:=Sq.jHf at_ (Sq.jAd t.cols st.ak (Sq.jCw t st.aq) [])
def Sq.jDg (db:List Tab):Nat:=(db.map fun t=>t.rows.length).sum
def Sq.jDO (db:List Tab):Nat:=db.length+Sq.jDg db
def Sq.insert (t:Tab)(at_ size:Int)(ax:List Val):Sq.Out :=
 if Sq.jHT t.rows (Sq.keyOf ax) then Sq.refused 8 else if 60<=size then Sq.refused 10 else⟨jAH 1,false,ar,[],at_,[ax],[]⟩
def Sq.create (db:List Tab)(st:PSt):Sq.Out :=
 if 0<=Sq.jDd db st.table then Sq.refused 5
 else if 4<st.cols.length then Sq.refused 6
 else if Sq.jEe st.cols then Sq.refused 5
 else if 5<=db.length then Sq.refused 10
 else if 60<=Sq.jDO db then Sq.refused 10
 else⟨jAH 0,true,st.table,st.cols,0,[],[]⟩
def Sq.jC4 (db:List Tab)(t:Tab)(at_:Int)(st:PSt):Sq.Out :=
 if Sq.check t.cols st != 0 then Sq.refused (Sq.check t.cols st)
 else if st.act==2 then Sq.insert t at_ (Sq.jDO db) st.ax
 else if st.act==3 then Sq.update t at_ st
 else if st.act==4 then Sq.remove t at_ st.aq
 else⟨Sq.show t st,false,ar,[],0,[],[]⟩
def Sq.jEX (db:List Tab)(st:PSt):Sq.Out :=
 if st.act==1 then Sq.create db st
 else match db[(Sq.jDd db st.table).toNat]? with
  | some t=>if Sq.jDd db st.table<0 then Sq.refused 4 else Sq.jC4 db t (Sq.jDd db st.table) st
  | none=>Sq.refused 4
def Sq.decide (db:List Tab)(ha:BA):Sq.Out:=if(Sq.parse ha).1 != 0 then Sq.refused (Sq.parse ha).1 else Sq.jEX db (Sq.parse ha).2
structure Sq.jMn (st:PSt):Prop where
 cols:st.cols.length<=1000
 ax:st.ax.length<=1000
 ak:st.ak.length<=1000
 items:st.items.length<=1000
 aq:st.aq.length<=1000
 okv:∀v∈st.ax,jFL v
 oks:∀s∈st.ak,jKq s
section
open Go.RowKit
def aQ (B:Nat)(w:World)(v:Value)(rows:List (List Val)):Prop :=
 ∃rvs:List Value,w.ownsRow B 138 1 v rows.length rvs/\∀(i:Nat) (row:List Val),rows[i]?=some row->∃rv,rvs[i]?=some rv/\jA0 w rv row
theorem aQ.below {rows:List (List Val)}(h:aQ B w v rows)(hb:Below w.heap.size w w'):aQ B w' v rows:=by
 obtain⟨ha,h1,h2⟩:=h;exact⟨ha,jQh h1 hb,fun i row hi=>let ⟨rv,h3,h4⟩:=h2 i row hi;⟨rv,h3,h4.below hb⟩⟩
theorem aQ.base {rows:List (List Val)}(h:aQ B w v rows)(hb:B'<=B):aQ B' w v rows:=by
 obtain⟨ha,h1,h2⟩:=h;exact⟨ha,jQj h1 hb,h2⟩
theorem aQ.nil (B:Nat)(w:World):aQ B w (.slice none 0 0) []:=⟨[],cu _ _ _ _,fun i row h=>by simp at h⟩
theorem aQ.slice {rows:List (List Val)}(h:aQ B w v rows):∃ao cap,v=.slice ao rows.length cap:=by
 obtain⟨ha,h1,_⟩:=h;exact jQa h1
theorem aQ.at {rows:List (List Val)}(h:aQ B w v rows)(k:Nat)(hk:k<rows.length) :
  ∃g cap ra rc,v=.slice (some ⟨g,0,none⟩) rows.length cap/\g<w.heap.size/\w.cell? ⟨g,k,none⟩=some (.slice ra rows[k].length rc)/\jA0 w (.slice ra rows[k].length rc) rows[k]:=by
 obtain⟨hb,h1,h2⟩:=h;obtain⟨g,cap,rfl,_,ha⟩:=h1.form (by omega);obtain⟨rv,h3,h4⟩:=h2 k rows[k] (cz hk);obtain⟨ra,rc,rfl⟩:=jQa h4.1;refine⟨g,cap,ra,rc,rfl,ha,?_,h4⟩
 have:=h1.cells (g:=g) rfl k _ h3
 rwa [show(⟨g,0,none⟩:Addr).add k=⟨g,k,none⟩ from by unfold Addr.add;split<;>simp_all] at this
theorem jA0.one {row:List Val}(h:jA0 w v row):v.oneCell'=true:=by
 obtain⟨a,c,rfl⟩:=jQa h.1;rfl
theorem Tryz.jGU:(Tryz.prog.info? 138).map (fun i=>(i.zero,i.size,i.bytes))=some (some (.agg #[.slice none 0 0]),1,24):=by kernel_rfl
theorem aQ.snoc {v' rv:Value}{rows:List (List Val)}{ha:List Value}{row:List Val}
  (h1:w1.ownsRow B 138 1 v' (rows.length+1) (ha++[rv])) (hl:ha.length=rows.length)
  (h2:∀(i:Nat) (row:List Val),rows[i]?=some row->∃rv,ha[i]?=some rv/\jA0 w1 rv row) (h3:jA0 w1 rv row):aQ B w1 v' (rows++[row]):=by
 refine⟨ha++[rv],by simpa using h1,fun i r hi=>?_⟩;rcases dL i rows.length with h | h
 ·rw[List.getElem?_append_left h] at hi;obtain⟨x,h4,h5⟩:=h2 i r hi;exact⟨x,by rw[List.getElem?_append_left (by omega)];exact h4,h5⟩
 rw[ew h] at hi
 have h0:i-rows.length=0:=by
  rcases dP (i-rows.length) with h4 | h4
  ·exact h4
  rw[dt (by simp;omega)] at hi;cases hi
 rw[h0] at hi;simp at hi;subst hi;exact⟨rv,by rw[ew (by omega),show i-ha.length=0 from by omega];rfl,h3⟩
theorem jA0.grown {rv:Value}{row:List Val}(h:jA0 w rv row)(ho:w.ownsRow B 138 1 v n xs)(hg:w.grownBy w1 v.ownBlock):jA0 w1 rv row :=
 ⟨jQx h.1 ho (by decide) hg,h.2⟩
theorem jYa (cols:List Col)(rows:List (List Val))(l:List bd)(cv rv sv:Value)(w:World)(hK:aX w cv cols)(hM:aQ 0 w rv rows)(hY:rows.length<=100000)(hs:jCL w sv l)(hl:l.length<=50000) :
  Calls Tryz.prog 76 #[cv,rv,sv] w fun e w'=>∃v,e=.returned v/\aQ w.heap.size w' v (rows.filter fun row=>Sq.meets cols row l)/\Below w.heap.size w w':=by
 obtain⟨i0,hi,h0,h1,h2⟩:=cV Tryz.jGU;obtain⟨ao,cap,rfl⟩:=hM.slice;obtain⟨co,hX,rfl⟩:=jQa hK.1;obtain⟨bo,h3,rfl⟩:=jQa hs.1;have HC:=hd hK;have H:=hd hM;have HS:=hd hs;clear hK hM hs;go_enter Tryz.func76,Tryz.ntmps76;go_wp2
 go_loopw [7,8] (fun v i wr=>∃k:Nat,k<=rows.length/\i=.int .i64 k/\aQ w.heap.size wr v ((rows.take k).filter fun row=>Sq.meets cols row l)/\Below w.heap.size w wr) (fun _ i _=>rows.length-(intOf i).toNat)
 case atStart=>exact⟨0,zR,rfl,aQ.nil _ _,bR⟩
 case round =>
  obtain⟨k,hk,rfl,hn,hb⟩:=hrel;have hr:Below w.heap.size w wr:=hb;have hJ:w.heap.size<=wr.heap.size:=hb.size;have hB:=hd hn;have HB:=hd hb;clear hn hb
  by_cases hlt:k<rows.length
  ·obtain⟨g,hW,ra,rc,hv,hg,c0,hO⟩:=(H.o.below hr).at k hlt;obtain⟨rfl,-,rfl⟩:=sI hv;have hA:=hd (Sq.jYo (fun row=>Sq.meets cols row l) rows k hlt);have hH:=Sq.jY4 (fun row=>Sq.meets cols row l) rows k;obtain⟨row,hU⟩:∃x,x=rows[k]:=⟨_,rfl⟩;have hy:=hA.o;rw[<-hU] at hy c0 hO;have he:=hd hy;have hf:=hd hO;clear hy hO hA hU;go_wp2_with fail;refine(qAc cols row l _ _ _ _ (HC.o.below hr) hf.o (HS.o.below hr) hl).mono ?_;rintro e w2 ⟨rfl,hS⟩
   have ha:Below wr.heap.size wr w2:=hS;have hz:=hd (HB.o.trans (ha.mono (by omega)));have hc:=hd (hB.o.below ha);have hh:=hd (hf.o.below ha);have h6:=((aD ha).1 g k hg).trans c0;have hI:=ha.size;clear hS ha c0;cases hm:Sq.meets cols row l
   case false =>
    have HE:Hid ((rows.take (k+1)).filter (fun row=>Sq.meets cols row l)=(rows.take k).filter fun row=>Sq.meets cols row l):=by show _=_;rw[he.o];simp only[hm];simp
    go_wp2;go_roundw;exact⟨k+1,by omega,by go_num,by rw[HE.o];exact hc.o,hz.o⟩;simp[intOf];omega
   case true =>
    have HE:Hid ((rows.take (k+1)).filter (fun row=>Sq.meets cols row l)=((rows.take k).filter fun row=>Sq.meets cols row l)++[row]):=by show _=_;rw[he.o];simp only[hm];simp
    obtain⟨fl,hP⟩:∃x,x=(rows.take k).filter fun row=>Sq.meets cols row l:=⟨_,rfl⟩
    have hn:=hc.o;have hx:=HE.o;rw[<-hP] at hn hx hH;obtain⟨hV,ho,hT⟩:=hn;have hD:=hd hx;have hC:hV.length=fl.length:=by have:=ho.1;omega
    have hE:=hd hC;have hp:=hd (ho.alloc (.cells #[.slice ra row.length rc] 138));have hG:=hd hT;clear ho hT hx hP HE hc hC;go_wp2_with (at_builtin;refine cT _ rfl (.tmp 22) (.tmp 27) 95 rfl w.heap.size 138 i0 _ 1 24 Tryz.underlying95 hi h0 h1 h2 rfl (by decide) _ fl.length hV rfl hp.o ⟨w2.heap.size,0,none⟩ 1 1 [.slice ra row.length rc] rfl rfl (by exact jQN w2 _ _ _ rfl rfl) (by intro u hu;simp at hu;subst hu;rfl) (by decide) (by unfold maxLen;omega) (by omega) (by simp;omega) _ rfl ?_;intro gg hQ w3 hN hL hR hZ;have hF:=hd hN;have ht:=hd hL;clear hN hL hR);have hq:Below w2.heap.size w2 (w2.alloc (.cells #[.slice ra row.length rc] 138)):=bA
    have hj:aQ w.heap.size w3 (.slice (some ⟨gg,0,none⟩) (fl.length+1) hQ) (fl++[row]) :=
     aQ.snoc hF.o hE.o (fun i r hi=>let ⟨x,h4,h5⟩:=hG.o i r hi;⟨x,h4,(h5.below hq).grown hp.o ht.o⟩) ((hh.o.below hq).grown hp.o ht.o)
    have hw:Below w.heap.size w w3 :=
     hz.o.trans ((cS (B':=w.heap.size) hq (by omega)).trans (Tch.aO ht.o (fun k hk=>(hp.o.lt k hk).1) (by simp;omega)))
    clear hq;go_roundw;exact⟨k+1,by omega,by go_num,by rw[hD.o];exact hj,hw⟩;simp[intOf];omega
  have HE:Hid ((rows.filter fun row=>Sq.meets cols row l)=(rows.take k).filter fun row=>Sq.meets cols row l):=by show _=_;rw[cL (by omega)]
  go_wp2;go_ret;exact⟨_,rfl,by rw[HE.o];exact hB.o.base (by omega),hr⟩
theorem jOw (row:List Val)(rv:Value)(w:World)(h:jA0 w rv row) :
  Calls Tryz.prog 115 #[.agg #[rv]] w fun e w'=>e=.returned (.int .i64 (Sq.keyOf row))/\Below w.heap.size w w':=by
 obtain⟨ao,cap,rfl⟩:=jQa h.1;have hl:=h.2;have H:=hd h;clear h;cases row with
 | nil =>
  go_enter Tryz.func115,Tryz.ntmps115;go_wp2;go_ret;exact⟨rfl,bA⟩
 | cons v r =>
  obtain⟨g,hb,hv,hg,hc⟩:=jCc (f:=Val.cells) (fun _=>rfl) H.o.1 0 (by simp);obtain⟨rfl,-,rfl⟩:=sI hv;have c1:=hc 1 (.int .i64 v.number) (by decide) rfl;simp only[Nat.zero_mul,df] at c1;have hn:(((v::r).length:Int)==0)=false:=by simp;omega
  have hp:0<(v::r).length:=by simp
  obtain⟨n,ha⟩:∃n,n=(v::r).length:=⟨_,rfl⟩;rw[<-ha] at hn hp hl ⊢;clear hc ha H;go_enter Tryz.func115,Tryz.ntmps115;go_wp2;go_ret;exact⟨rfl,bA⟩
def jDl (x:bQ×Value):List Value:=[.int .i64 x.1.number,.string x.1.name,x.2]
structure jBk (B:Nat)(w:World)(v:Value)(l:List (bQ×Value)):Prop where
 own:w.ownsRow B 94 3 v l.length (l.flatMap jDl)
 each:∀x∈l,aX w x.2 x.1.cols
 few:l.length<=1000
theorem jBk.below {l:List (bQ×Value)}(h:jBk B w v l)(hb:Below w.heap.size w w'):jBk B w' v l:=⟨jQh h.own hb,fun x hx=>(h.each x hx).below hb,h.few⟩
theorem jBk.base {l:List (bQ×Value)}(h:jBk B w v l)(hb:B'<=B):jBk B' w v l:=⟨jQj h.own hb,h.each,h.few⟩
theorem jBk.at {l:List (bQ×Value)}(h:jBk B w v l)(k:Nat)(hk:k<l.length) :
  ∃g cap ca cc,v=.slice (some ⟨g,0,none⟩) l.length cap/\g<w.heap.size/\w.cell? ⟨g,k*3,none⟩=some (.int .i64 l[k].1.number)/\w.cell? ⟨g,k*3+1,none⟩=some (.string l[k].1.name)/\w.cell? ⟨g,k*3+2,none⟩=some (.slice ca l[k].1.cols.length cc)/\aX w (.slice ca l[k].1.cols.length cc) l[k].1.cols:=by
 obtain⟨g,cap,hv,hg,hc⟩:=jCc (f:=jDl) (fun _=>rfl) h.own k hk;have ht:=h.each l[k] (cJ hk);obtain⟨ca,cc,h1⟩:=jQa ht.1;have c0:=hc 0 (.int .i64 l[k].1.number) (by decide) rfl;have c1:=hc 1 (.string l[k].1.name) (by decide) rfl;have c2:=hc 2 l[k].2 (by decide) rfl;rw[h1] at c2 ht;exact⟨g,cap,ca,cc,hv,hg,by simpa using c0,c1,c2,ht⟩
end
end Go.Proofs.YtahpihjialbanaaGreatDoor
namespace Go.Proofs
open Go.Shelf
def Tryz.jMc : Go.Shelf.Ren := ⟨fun | 246 => 192 | 283 => 218 | 284 => 219 | 285 => 220 | 286 => 221 | 129 => 230 | 317 => 229 | 318 => 231 | 319 => 232 | 320 => 233 | 337 => 235 | 338 => 236 | n => n, fun | 2 => 2 | 3 => 3 | 9 => 9 | 4 => 4 | 171 => 269 | 0 => 0 | 53 => 186 | 37 => 55 | 5 => 5 | 173 => 272 | 212 => 279 | 51 => 143 | 20 => 20 | 213 => 280 | 46 => 86 | 232 => 283 | 233 => 284 | n => n, fun | 17 => 1 | 18 => 2 | 19 => 3 | n => n⟩
def Tryz.jMb : Go.Shelf.Ren := ⟨fun | 243 => 144 | 246 => 192 | 283 => 218 | 284 => 219 | 285 => 220 | 286 => 221 | 129 => 230 | 317 => 229 | 318 => 231 | 319 => 232 | 320 => 233 | 337 => 235 | 338 => 236 | n => n, fun | 3 => 3 | 9 => 9 | 2 => 2 | 4 => 4 | 171 => 269 | 0 => 0 | 53 => 186 | 37 => 55 | 5 => 5 | 173 => 272 | 212 => 279 | 51 => 143 | 20 => 20 | 213 => 280 | 46 => 86 | 232 => 283 | 233 => 284 | n => n, fun | 17 => 1 | 18 => 2 | 19 => 3 | n => n⟩
def Tryz.jG6 : Go.Shelf.Ren := ⟨fun | 171 => 102 | 243 => 144 | 246 => 192 | 283 => 218 | 284 => 219 | 285 => 220 | 286 => 221 | 129 => 230 | 317 => 229 | 318 => 231 | 319 => 232 | 320 => 233 | 337 => 235 | 338 => 236 | n => n, fun | 3 => 3 | 9 => 9 | 2 => 2 | 4 => 4 | 171 => 269 | 0 => 0 | 53 => 186 | 37 => 55 | 5 => 5 | 173 => 272 | 212 => 279 | 51 => 143 | 20 => 20 | 213 => 280 | 46 => 86 | 232 => 283 | 233 => 284 | n => n, fun | 17 => 1 | 18 => 2 | 19 => 3 | n => n⟩
theorem Tryz.jKk: Go.Proofs.LaysM.n171 Tryz.prog Tryz.jG6 := {
  mixed := by kernel_rfl
  f129 := Tryz.func230.trans (congrArg some (by kernel_rfl))
  f171 := Tryz.func102.trans (congrArg some (by kernel_rfl))
  f243 := Tryz.func144.trans (congrArg some (by kernel_rfl))
  f246 := Tryz.func192.trans (congrArg some (by kernel_rfl))
  f283 := Tryz.func218.trans (congrArg some (by kernel_rfl))
  f284 := Tryz.func219.trans (congrArg some (by kernel_rfl))
  f285 := Tryz.func220.trans (congrArg some (by kernel_rfl))
  f286 := Tryz.func221.trans (congrArg some (by kernel_rfl))
  f317 := Tryz.func229.trans (congrArg some (by kernel_rfl))
  f318 := Tryz.func231.trans (congrArg some (by kernel_rfl))
  f319 := Tryz.func232.trans (congrArg some (by kernel_rfl))
  f320 := Tryz.func233.trans (congrArg some (by kernel_rfl))
  f337 := Tryz.func235.trans (congrArg some (by kernel_rfl))
  f338 := Tryz.func236.trans (congrArg some (by kernel_rfl))
  t0 := Tryz.underlying0
  a0 := Tryz.isAgg0
  z0 := Tryz.sizeOf0
  v0 := Tryz.zeroValue0
  t2 := Tryz.underlying2
  a2 := Tryz.isAgg2
  z2 := Tryz.sizeOf2
  v2 := Tryz.zeroValue2
  t3 := Tryz.underlying3
  a3 := Tryz.isAgg3
  z3 := Tryz.sizeOf3
  v3 := Tryz.zeroValue3
  t4 := Tryz.underlying4
  a4 := Tryz.isAgg4
  z4 := Tryz.sizeOf4
  v4 := Tryz.zeroValue4
  t5 := Tryz.underlying5
  a5 := Tryz.isAgg5
  z5 := Tryz.sizeOf5
  v5 := Tryz.zeroValue5
  t9 := Tryz.underlying9
  a9 := Tryz.isAgg9
  z9 := Tryz.sizeOf9
  v9 := Tryz.zeroValue9
  t20 := Tryz.underlying20
  a20 := Tryz.isAgg20
  z20 := Tryz.sizeOf20
  v20 := Tryz.zeroValue20
  t37 := Tryz.underlying55
  a37 := Tryz.isAgg55
  z37 := Tryz.sizeOf55
  v37 := Tryz.zeroValue55
  t46 := Tryz.underlying86
  a46 := Tryz.isAgg86
  z46 := Tryz.sizeOf86
  v46 := Tryz.zeroValue86
  t51 := Tryz.underlying143
  a51 := Tryz.isAgg143
  z51 := Tryz.sizeOf143
  v51 := Tryz.zeroValue143
  t53 := Tryz.underlying186
  a53 := Tryz.isAgg186
  z53 := Tryz.sizeOf186
  v53 := Tryz.zeroValue186
  t171 := Tryz.underlying269
  a171 := Tryz.isAgg269
  z171 := Tryz.sizeOf269
  v171 := Tryz.zeroValue269
  t173 := Tryz.underlying272
  a173 := Tryz.isAgg272
  z173 := Tryz.sizeOf272
  v173 := Tryz.zeroValue272
  t212 := Tryz.underlying279
  a212 := Tryz.isAgg279
  z212 := Tryz.sizeOf279
  v212 := Tryz.zeroValue279
  t213 := Tryz.underlying280
  a213 := Tryz.isAgg280
  z213 := Tryz.sizeOf280
  t232 := Tryz.underlying283
  a232 := Tryz.isAgg283
  z232 := Tryz.sizeOf283
  v232 := Tryz.zeroValue283
  t233 := Tryz.underlying284
  a233 := Tryz.isAgg284
  z233 := Tryz.sizeOf284
  v233 := Tryz.zeroValue284
  g17 := by kernel_rfl
  g18 := by kernel_rfl
  g19 := by kernel_rfl
  i0 := by kernel_rfl
  i2 := by kernel_rfl
  i3 := by kernel_rfl
  i4 := by kernel_rfl
  i5 := by kernel_rfl
  i9 := by kernel_rfl
  i20 := by kernel_rfl
  i37 := by kernel_rfl
  i46 := by kernel_rfl
  i51 := by kernel_rfl
  i53 := by kernel_rfl
  i171 := by kernel_rfl
  i173 := by kernel_rfl
  i212 := by kernel_rfl
  i232 := by kernel_rfl
  i233 := by kernel_rfl
  m17 := by kernel_rfl
  m18 := by kernel_rfl
  m19 := by kernel_rfl }
open Go.RowKit Go.Sort Go.Lib in
theorem Tryz.strconv_Itoa (n : Int) (h0 : -9223372036854775808 <= n) (h1 : n <= 9223372036854775807) (w : World) (ha : Lib.TabIs Tryz.prog w "internal/strconv.uint64pow10" .u64 Lib.pow10Tab) :
    Calls Tryz.prog 102 #[.int .i64 n] w fun e w' => e = .returned (.string ⟨(Lib.itoa n).toArray⟩) /\ ∃ k os, w' = grow (w.drewN k) os := Any.strconv_Itoa Tryz.jKk n h0 h1 w ha
def Tryz.jG7 : Go.Shelf.Ren := ⟨fun | 173 => 166 | 246 => 192 | 283 => 218 | 284 => 219 | 285 => 220 | 286 => 221 | 129 => 230 | 317 => 229 | 318 => 231 | 319 => 232 | 320 => 233 | 337 => 235 | 338 => 236 | n => n, fun | 2 => 2 | 3 => 3 | 9 => 9 | 4 => 4 | 171 => 269 | 0 => 0 | 53 => 186 | 37 => 55 | 5 => 5 | 173 => 272 | 212 => 279 | 51 => 143 | 20 => 20 | 213 => 280 | 46 => 86 | 232 => 283 | 233 => 284 | n => n, fun | 17 => 1 | 18 => 2 | 19 => 3 | n => n⟩
theorem Tryz.jKl: Go.Proofs.LaysM.n173 Tryz.prog Tryz.jG7 := {
  mixed := by kernel_rfl
  f129 := Tryz.func230.trans (congrArg some (by kernel_rfl))
  f173 := Tryz.func166.trans (congrArg some (by kernel_rfl))
  f246 := Tryz.func192.trans (congrArg some (by kernel_rfl))
  f283 := Tryz.func218.trans (congrArg some (by kernel_rfl))
  f284 := Tryz.func219.trans (congrArg some (by kernel_rfl))
  f285 := Tryz.func220.trans (congrArg some (by kernel_rfl))
  f286 := Tryz.func221.trans (congrArg some (by kernel_rfl))
  f317 := Tryz.func229.trans (congrArg some (by kernel_rfl))
  f318 := Tryz.func231.trans (congrArg some (by kernel_rfl))
  f319 := Tryz.func232.trans (congrArg some (by kernel_rfl))
  f320 := Tryz.func233.trans (congrArg some (by kernel_rfl))
  f337 := Tryz.func235.trans (congrArg some (by kernel_rfl))
  f338 := Tryz.func236.trans (congrArg some (by kernel_rfl))
  t0 := Tryz.underlying0
  a0 := Tryz.isAgg0
  z0 := Tryz.sizeOf0
  v0 := Tryz.zeroValue0
  t2 := Tryz.underlying2
  a2 := Tryz.isAgg2
  z2 := Tryz.sizeOf2
  v2 := Tryz.zeroValue2
  t3 := Tryz.underlying3
  a3 := Tryz.isAgg3
  z3 := Tryz.sizeOf3
  v3 := Tryz.zeroValue3
  t4 := Tryz.underlying4
  a4 := Tryz.isAgg4
  z4 := Tryz.sizeOf4
  v4 := Tryz.zeroValue4
  t5 := Tryz.underlying5
  a5 := Tryz.isAgg5
  z5 := Tryz.sizeOf5
  v5 := Tryz.zeroValue5
  t9 := Tryz.underlying9
  a9 := Tryz.isAgg9
  z9 := Tryz.sizeOf9
  v9 := Tryz.zeroValue9
  t20 := Tryz.underlying20
  a20 := Tryz.isAgg20
  z20 := Tryz.sizeOf20
  v20 := Tryz.zeroValue20
  t37 := Tryz.underlying55
  a37 := Tryz.isAgg55
  z37 := Tryz.sizeOf55
  v37 := Tryz.zeroValue55
  t46 := Tryz.underlying86
  a46 := Tryz.isAgg86
  z46 := Tryz.sizeOf86
  v46 := Tryz.zeroValue86
  t51 := Tryz.underlying143
  a51 := Tryz.isAgg143
  z51 := Tryz.sizeOf143
  v51 := Tryz.zeroValue143
  t53 := Tryz.underlying186
  a53 := Tryz.isAgg186
  z53 := Tryz.sizeOf186
  v53 := Tryz.zeroValue186
  t171 := Tryz.underlying269
  a171 := Tryz.isAgg269
  z171 := Tryz.sizeOf269
  v171 := Tryz.zeroValue269
  t173 := Tryz.underlying272
  a173 := Tryz.isAgg272
  z173 := Tryz.sizeOf272
  v173 := Tryz.zeroValue272
  t212 := Tryz.underlying279
  a212 := Tryz.isAgg279
  z212 := Tryz.sizeOf279
  v212 := Tryz.zeroValue279
  t213 := Tryz.underlying280
  a213 := Tryz.isAgg280
  z213 := Tryz.sizeOf280
  t232 := Tryz.underlying283
  a232 := Tryz.isAgg283
  z232 := Tryz.sizeOf283
  v232 := Tryz.zeroValue283
  t233 := Tryz.underlying284
  a233 := Tryz.isAgg284
  z233 := Tryz.sizeOf284
  v233 := Tryz.zeroValue284
  g17 := by kernel_rfl
  g18 := by kernel_rfl
  g19 := by kernel_rfl
  i0 := by kernel_rfl
  i2 := by kernel_rfl
  i3 := by kernel_rfl
  i4 := by kernel_rfl
  i5 := by kernel_rfl
  i9 := by kernel_rfl
  i20 := by kernel_rfl
  i37 := by kernel_rfl
  i46 := by kernel_rfl
  i51 := by kernel_rfl
  i53 := by kernel_rfl
  i171 := by kernel_rfl
  i173 := by kernel_rfl
  i212 := by kernel_rfl
  i232 := by kernel_rfl
  i233 := by kernel_rfl
  m17 := by kernel_rfl
  m18 := by kernel_rfl
  m19 := by kernel_rfl }
open Go.RowKit Go.Sort Go.Lib in
theorem Tryz.strconv_FormatInt_10 (n : Int) (h0 : -9223372036854775808 <= n) (h1 : n <= 9223372036854775807) (w : World) (ha : Lib.TabIs Tryz.prog w "internal/strconv.uint64pow10" .u64 Lib.pow10Tab) :
    Calls Tryz.prog 166 #[.int .i64 n, .int .i64 10] w fun e w' => e = .returned (.string ⟨(Lib.itoa n).toArray⟩) /\ ∃ k os, w' = grow (w.drewN k) os := Any.strconv_FormatInt_10 Tryz.jKl n h0 h1 w ha
end Go.Proofs
namespace Go.Proofs.YtahpihjialbanaaGreatDoor
open Sq (ar PSt bE bQ bY Col Tab Val aE aW bd jAA jAE jAG jAH jAn jAr jB9 jBP jBZ jC7 jD9 jDY jDr jEH jEh jFL jGn jIc jId jIe jIf jJv jKq)
variable {B B' b g n:Nat}{W w w' w1:World}{cv kv pv v:Value}{e t:TypeId}{xs:List Value}
section
open Go.RowKit
def Tbl (w:World):Prop:=Lib.TabIs Tryz.prog w "internal/strconv.uint64pow10" .u64 Lib.pow10Tab
theorem Tbl.below (h:Tbl w)(hb:Below w.heap.size w w'):Tbl w':=Lib.tabBelow_of_tabIs h w' hb
theorem Tbl.alloc (h:Tbl w)(o:Obj):Tbl (w.alloc o):=h.below (bA)
theorem jT5 (n:Int)(w:World)(h0:-1000000000000000000<=n)(h1:n<=1000000000000000000)(hT:Tbl w) :
  Calls Tryz.prog 102 #[.int .i64 n] w fun e w'=>e=.returned (.string (Sq.itoa n))/\Below w.heap.size w w':=by
 refine(Tryz.strconv_Itoa n (by omega) (by omega) w hT).mono ?_;rintro e w' ⟨rfl,k,os,rfl⟩;exact⟨rfl,Lib.below_grow _ _ nR _ _⟩
theorem jPd (n:Int)(w:World)(h0:-1000000000000000000<=n)(h1:n<=1000000000000000000)(hT:Tbl w) :
  Calls Tryz.prog 166 #[.int .i64 n,.int .i64 10] w fun e w'=>e=.returned (.string (Sq.itoa n))/\Below w.heap.size w w':=by
 refine(Tryz.strconv_FormatInt_10 n (by omega) (by omega) w hT).mono ?_;rintro e w' ⟨rfl,k,os,rfl⟩;exact⟨rfl,Lib.below_grow _ _ nR _ _⟩
theorem jLA (n:Int)(h0:-1000000000000000000<=n)(h1:n<=1000000000000000000):(Sq.itoa n).size<=21:=by
 have:=Lib.itoa_length_le n (by omega) (by omega)
 show(Lib.itoa n).toArray.size<=21
 simpa using this
theorem jII (n:Int)(w:World)(h0:0<=n)(h1:n<=1000000)(hT:Tbl w) :
  Calls Tryz.prog 109 #[.int .i64 n] w fun e w'=>e=.returned (.string (jAH n))/\Below w.heap.size w w':=by
 have HT:=hd hT;have ha:=jLA n (by omega) (by omega);clear hT;go_enter Tryz.func109,Tryz.ntmps109;go_wp2_with fail;refine(jT5 n _ (by omega) (by omega) HT.o).mono ?_;rintro e w1 ⟨rfl,hb⟩;go_wp2;go_ret;exact⟨rfl,hb⟩
structure jBx (w:World)(o:bY)(cv pv kv:Value):Prop where
 cols:aX w cv o.tab.cols
 puts:aQ 0 w pv o.puts
 cuts:w.ownsRow 0 2 1 kv o.cuts.length (o.cuts.map (Value.int .i64))
 jIr:o.puts.length<=100000
 jIq:o.cuts.length<=100000
def az (o:bY)(cv pv kv:Value):Array Value:=#[.string o.jAP,.bool o.makes,.int .i64 o.tab.number,.string o.tab.name,cv,pv,kv]
theorem jBx.below {o:bY}(h:jBx w o cv pv kv)(hb:Below w.heap.size w w'):jBx w' o cv pv kv :=
 ⟨h.cols.below hb,h.puts.below hb,jQh h.cuts hb,h.jIr,h.jIq⟩
theorem jBx.none (w:World)(o:bY)(h1:o.tab.cols=[])(h2:o.puts=[])(h3:o.cuts=[]):jBx w o (.slice none 0 0) (.slice none 0 0) (.slice none 0 0):=by
 refine⟨⟨?_,?_⟩,?_,?_,?_,?_⟩
 ·rw[h1];exact cu _ _ _ _
 ·rw[h1];simp
 ·rw[h2];exact aQ.nil _ _
 ·rw[h3];exact cu _ _ _ _
 ·rw[h2];simp
 rw[h3];simp
theorem jG0 (n:Int)(w:World)(h0:0<=n)(h1:n<=1000000)(hT:Tbl w) :
  Calls Tryz.prog 68 #[.int .i64 n] w fun e w'=>e=.returned (.agg (az (aE n) (.slice none 0 0) (.slice none 0 0) (.slice none 0 0)))/\Below w.heap.size w w':=by
 have HT:=hd hT;have hb:=jLA n (by omega) (by omega);clear hT;go_enter Tryz.func68,Tryz.ntmps68;go_wp2_with fail;refine(jT5 n _ (by omega) (by omega) (HT.o.alloc _)).mono ?_;rintro e w1 ⟨rfl,hc⟩;have ha:Below w.heap.size w w1:=((Below.refl _ w).alloc nR _).trans (hc.mono (by simp));obtain⟨k1,k2⟩:=aD hc;have a0:=k1 w.heap.size 0 (by simp);have a1:=k1 w.heap.size 1 (by simp);have a2:=k1 w.heap.size 2 (by simp);have a3:=k1 w.heap.size 3 (by simp);have a4:=k1 w.heap.size 4 (by simp);have a5:=k1 w.heap.size 5 (by simp);have a6:=k1 w.heap.size 6 (by simp);have b0:=k2 w.heap.size 0 (by simp);have b1:=k2 w.heap.size 1 (by simp);have b2:=k2 w.heap.size 2 (by simp);have b3:=k2 w.heap.size 3 (by simp);have b4:=k2 w.heap.size 4 (by simp);have b5:=k2 w.heap.size 5 (by simp);have b6:=k2 w.heap.size 6 (by simp);simp[go_sem] at a0 a1 a2 a3 a4 a5 a6 b0 b1 b2 b3 b4 b5 b6;have hz:w.heap.size<w1.heap.size:=by have:=hc.size;simp at this;omega
 clear k1 k2 hc;go_wp2;refine cp (v:=.agg (az (aE n) (.slice none 0 0) (.slice none 0 0) (.slice none 0 0))) (by simp[results,Tryz.results68,go_sem,az,aE,Sq.jCh,Sq.jGS,ar,jJv, *]) rfl ⟨rfl,?_⟩;exact cj (B:=w.heap.size) (cj (B:=w.heap.size) (cj (B:=w.heap.size) (cj (B:=w.heap.size) (cj (B:=w.heap.size) (cj (B:=w.heap.size) (cj (B:=w.heap.size) ha nR _) nR _) nR _) nR _) nR _) nR _) nR _
theorem jRr (v:Val)(w:World)(h0:-1000000000000000000<=v.number)(h1:v.number<=1000000000000000000)(hs:v.text.size<=1000)(hT:Tbl w) :
  Calls Tryz.prog 167 #[.agg v.cells.toArray] w fun e w'=>e=.returned (.string (Sq.written v))/\Below w.heap.size w w':=by
 have HT:=hd hT;clear hT;have HE:Hid (Sq.written v=if v.kind==1 then jEh++v.text++jEh else Sq.itoa v.number):=rfl;obtain⟨vk,vn,vt⟩:=v;unfold Val.cells
 dsimp only at h0 h1 hs
 cases hk:vk==1
 case true =>
  have hq:((⟨#[39]⟩:BA)++vt).size<=1001:=by
   have:((⟨#[39]⟩:BA)++vt).size=1+vt.size:=cO
   omega
  go_enter Tryz.func167,Tryz.ntmps167;go_wp2;go_ret;exact⟨by rw[HE.o];simp only[hk];rfl,bA⟩
 case false =>
  go_enter Tryz.func167,Tryz.ntmps167;go_wp2_with fail;refine(jPd vn _ h0 h1 (HT.o.alloc _)).mono ?_;rintro e w1 ⟨rfl,ha⟩;go_wp2;go_ret;exact⟨by rw[HE.o];simp only[hk];rfl,(bA).trans (ha.mono (by simp))⟩
theorem Sq.jG8:Sq.jFL jDY:=⟨by decide,by decide,by decide⟩
theorem Sq.jZ6 (cols:List Col)(row:List Val)(n:BA)(h:jD9 row):jFL (Sq.cellOf cols row n):=by
 unfold Sq.cellOf
 split
 ·exact Sq.jG8
 cases hx:row[(Sq.find cols n).toNat]? with
 | none=>exact Sq.jG8
 | some v=>exact h v (cA hx)
theorem Sq.jR1 (cols:List Col)(row:List Val)(t:Sq.Term)(h:jD9 row)(ht:jGn t):jFL (Sq.valueOf cols row t):=by
 unfold Sq.valueOf
 split
 ·exact ht
 exact Sq.jZ6 cols row _ h
theorem jHn (hb:Below B W w1)(h:B<=b)(x y z:Value):Below B W (((w1.setCell ⟨b,0,none⟩ x).setCell ⟨b,1,none⟩ y).setCell ⟨b,2,none⟩ z) :=
 cj (B:=B) (cj (B:=B) (cj (B:=B) hb h _) h _) h _
theorem jRG (cols:List Col)(row:List Val)(cv rv:Value)(s:bE)(w:World)(h:aX w cv cols)(hr:jA0 w rv row)(hP:jD9 row)(h1:jGn s.first)(h2:jGn s.second) :
  Calls Tryz.prog 164 #[cv,.agg #[rv],.agg s.cells.toArray] w fun e w'=>e=.returned (.tuple #[.agg (Sq.result cols row s).1.cells.toArray,.bool (Sq.result cols row s).2])/\Below w.heap.size w w':=by
 obtain⟨ao,cap,rfl⟩:=jQa hr.1;have hx:=Sq.jR1 cols row s.first hP h1;have hy:=Sq.jR1 cols row s.second hP h2
 have HE:Hid (Sq.result cols row s=if s.sign.toList.isEmpty then(Sq.valueOf cols row s.first,true)
  else if Sq.numOf s.sign (Sq.valueOf cols row s.first).number (Sq.valueOf cols row s.second).number < -2147483648 then(jDY,false)
  else if 2147483647<Sq.numOf s.sign (Sq.valueOf cols row s.first).number (Sq.valueOf cols row s.second).number then(jDY,false)
  else(⟨0,Sq.numOf s.sign (Sq.valueOf cols row s.first).number (Sq.valueOf cols row s.second).number,ar⟩,true)):=rfl
 obtain⟨p,hp⟩:∃p,p=Sq.result cols row s:=⟨_,rfl⟩;rw[<-hp];have hE:=HE.o;rw[<-hp] at hE;clear HE hp;obtain⟨cn,⟨lc,⟨lk,ln,lt⟩⟩,sg,⟨rc,⟨rk,rn,rt⟩⟩⟩:=s;obtain⟨x,hQ⟩:∃x,x=Sq.valueOf cols row ⟨lc,⟨lk,ln,lt⟩⟩:=⟨_,rfl⟩;obtain⟨y,hR⟩:∃x,x=Sq.valueOf cols row ⟨rc,⟨rk,rn,rt⟩⟩:=⟨_,rfl⟩
 dsimp only at hE hx hy
 rw[<-hQ] at hE hx;rw[<-hR] at hE hy;have HE:=hd hE;have HX:=hd hQ;have HY:=hd hR;obtain⟨x0,x1,-⟩:=hx;obtain⟨y0,y1,-⟩:=hy;clear hE hQ hR h1 h2 hP;unfold bE.cells;have H:=hd h;have HR:=hd hr;have hW:∀o o2 o3,Below w.heap.size w (((w.alloc o).alloc o2).alloc o3):=fun o o2 o3=>((bA).alloc (by simp) _).alloc (by simp;omega) _
 have HW:=hd hW;clear h hr hW;go_enter Tryz.func164,Tryz.ntmps164;go_wp2_with fail;refine(jKK cols row cv _ ⟨lc,⟨lk,ln,lt⟩⟩ _ (H.o.below (HW.o _ _ _)) (HR.o.below (HW.o _ _ _))).mono ?_;rintro e w1 ⟨rfl,hH⟩;rw[<-HX.o];have hl:Below w.heap.size w w1:=(HW.o _ _ _).trans (hH.mono (by simp;omega));obtain⟨k1,k2⟩:=aD hH;have a0:=k1 w.heap.size 0 (by simp;omega);have b5:=k1 (w.heap.size+1) 5 (by simp);have b6:=k1 (w.heap.size+1) 6 (by simp);have b7:=k1 (w.heap.size+1) 7 (by simp);have b8:=k1 (w.heap.size+1) 8 (by simp);have b9:=k1 (w.heap.size+1) 9 (by simp);have d0:=k1 (w.heap.size+1+1) 0 (by simp);have d1:=k1 (w.heap.size+1+1) 1 (by simp);have d2:=k1 (w.heap.size+1+1) 2 (by simp);have f0:=k2 (w.heap.size+1+1) 0 (by simp);have f1:=k2 (w.heap.size+1+1) 1 (by simp);have f2:=k2 (w.heap.size+1+1) 2 (by simp);simp[go_sem] at a0 b5 b6 b7 b8 b9 d0 d1 d2 f0 f1 f2;have hz:w.heap.size+1+1<w1.heap.size:=by have:=hH.size;simp at this;omega
 have hq:w.heap.size<w1.heap.size:=by omega
 have hn:w.heap.size+1<w1.heap.size:=by omega
 clear k1 k2 hH;obtain⟨xk,xn,xt⟩:=x;unfold Val.cells
 dsimp only at x0 x1
 have hm:Below w.heap.size w (w1.alloc (.cells #[.int .i64 xk,.int .i64 xn,.string xt] 208)):=cH (B:=w.heap.size) hl (by omega) _;have hk:=hd hm;clear hm;cases hs:sg.toList.isEmpty
 case true =>
  have HP:Hid (p=(⟨xk,xn,xt⟩,true)):=by show _=_;rw[HE.o,hs];rfl
  go_wp2;refine cp (v:=.tuple #[.agg #[.int .i64 xk,.int .i64 xn,.string xt],.bool true]) (by simp[results,Tryz.results164,go_sem, *]) rfl ⟨by rw[HP.o];rfl,?_⟩;exact cH (B:=w.heap.size) (jHn (b:=w.heap.size+1+1) hl (by omega) _ _ _) (by simp;omega) _
 case false =>
  have HP:=HE.o;rw[hs,cy (by decide)] at HP;have hj:=hd HP;clear HP HE;go_wp2_with fail;refine(jKK cols row cv _ ⟨rc,⟨rk,rn,rt⟩⟩ _ (H.o.below hk.o) (HR.o.below hk.o)).mono ?_;rintro e w2 ⟨rfl,hI⟩;rw[<-HY.o];have hi:Below w.heap.size w w2:=hk.o.trans (hI.mono (by simp;omega));obtain⟨k1,k2⟩:=aD hI;have g1:=(k1 w1.heap.size 1 (by simp));have hS:=(k1 (w.heap.size+1) 5 (by simp;omega)).trans ((cX _ _ _ hn).trans b5);have hA:=(k1 (w.heap.size+1+1) 0 (by simp;omega)).trans ((cX _ _ _ hz).trans d0);have hB:=(k1 (w.heap.size+1+1) 1 (by simp;omega)).trans ((cX _ _ _ hz).trans d1);have hC:=(k1 (w.heap.size+1+1) 2 (by simp;omega)).trans ((cX _ _ _ hz).trans d2);have hD:=(k2 (w.heap.size+1+1) 0 (by simp;omega)).trans ((dd _ _ _ hz).trans f0);have hF:=(k2 (w.heap.size+1+1) 1 (by simp;omega)).trans ((dd _ _ _ hz).trans f1);have hG:=(k2 (w.heap.size+1+1) 2 (by simp;omega)).trans ((dd _ _ _ hz).trans f2);simp[go_sem] at g1;have ht:w1.heap.size<w2.heap.size:=by have:=hI.size;simp at this;omega
  have ha:w.heap.size+1+1<w2.heap.size:=by omega
  have hu:w.heap.size+1<w2.heap.size:=by omega
  clear k1 k2 hI a0 b5 b6 b7 b8 b9 d0 d1 d2 f0 f1 f2;obtain⟨yk,yn,yt⟩:=y;unfold Val.cells
  dsimp only at y0 y1
  have hh:=hd hi;clear hl hi
  have he:Hid (∀a b c,Below w.heap.size w ((((w2.setCell ⟨w.heap.size+1+1,0,none⟩ a).setCell ⟨w.heap.size+1+1,1,none⟩ b).setCell ⟨w.heap.size+1+1,2,none⟩ c).alloc (.cells #[.int .i64 yk,.int .i64 yn,.string yt] 208))) :=
   fun a b c=>cH (B:=w.heap.size) (jHn (b:=w.heap.size+1+1) hh.o (by omega) _ _ _) (by simp;omega) _
  have hg:=hd (cH (B:=w.heap.size) hh.o (by omega) (.cells #[.int .i64 yk,.int .i64 yn,.string yt] 208));cases hsg:sg.toList==[45]
  case true =>
   have hc:Sq.numOf sg xn yn=xn-yn:=by unfold Sq.numOf;rw[hsg];rfl
   have hp:=hj.o;rw[hc] at hp;have HP:=hd hp;clear hp hc hj
   by_cases hlo:xn-yn < -2147483648
   ·have hb:Hid (p=(jDY,false)):=by show _=_;rw[HP.o,cE hlo]
    go_wp2;refine cp (v:=.tuple #[.agg #[.int .i64 0,.int .i64 0,.string ⟨#[]⟩],.bool false]) (by simp[results,Tryz.results164,go_sem, *]) rfl ⟨by rw[hb.o];rfl,?_⟩
    first | exact he.o _ _ _ | exact hg.o
   by_cases hhi:2147483647<xn-yn
   ·have hb:Hid (p=(jDY,false)):=by show _=_;rw[HP.o,cy hlo,cE hhi]
    go_wp2;refine cp (v:=.tuple #[.agg #[.int .i64 0,.int .i64 0,.string ⟨#[]⟩],.bool false]) (by simp[results,Tryz.results164,go_sem, *]) rfl ⟨by rw[hb.o];rfl,?_⟩
    first | exact he.o _ _ _ | exact hg.o
   have hb:Hid (p=(⟨0,xn-yn,ar⟩,true)):=by show _=_;rw[HP.o,cy hlo,cy hhi]
   go_wp2_with fail;refine(jIL _ _).mono ?_;rintro e w3 ⟨rfl,hv⟩;have hf:Below w.heap.size w w3:=hg.o.trans (hv.mono (by simp;omega));obtain⟨k1,k2⟩:=aD hv;have hJ:=(k1 (w.heap.size+1+1) 0 (by simp;omega)).trans ((cX _ _ _ ha).trans hA);have hK:=(k1 (w.heap.size+1+1) 1 (by simp;omega)).trans ((cX _ _ _ ha).trans hB);have hL:=(k1 (w.heap.size+1+1) 2 (by simp;omega)).trans ((cX _ _ _ ha).trans hC);have hM:=(k2 (w.heap.size+1+1) 0 (by simp;omega)).trans ((dd _ _ _ ha).trans hD);have hN:=(k2 (w.heap.size+1+1) 1 (by simp;omega)).trans ((dd _ _ _ ha).trans hF);have hO:=(k2 (w.heap.size+1+1) 2 (by simp;omega)).trans ((dd _ _ _ ha).trans hG);have ho:w.heap.size+1+1<w3.heap.size:=by have:=hv.size;simp at this;omega
   clear k1 k2 hv hA hB hC hD hF hG g1 hS;go_wp2;refine cp (v:=.tuple #[.agg #[.int .i64 0,.int .i64 (xn-yn),.string ⟨#[]⟩],.bool true]) (by simp[results,Tryz.results164,go_sem, *]) rfl ⟨by rw[hb.o];rfl,?_⟩;exact jHn (b:=w.heap.size+1+1) hf (by omega) _ _ _
  case false =>
   have hc:Sq.numOf sg xn yn=xn+yn:=by unfold Sq.numOf;rw[hsg];rfl
   have hp:=hj.o;rw[hc] at hp;have HP:=hd hp;clear hp hc hj
   by_cases hlo:xn+yn < -2147483648
   ·have hb:Hid (p=(jDY,false)):=by show _=_;rw[HP.o,cE hlo]
    go_wp2;refine cp (v:=.tuple #[.agg #[.int .i64 0,.int .i64 0,.string ⟨#[]⟩],.bool false]) (by simp[results,Tryz.results164,go_sem, *]) rfl ⟨by rw[hb.o];rfl,?_⟩
    first | exact he.o _ _ _ | exact hg.o
   by_cases hhi:2147483647<xn+yn
   ·have hb:Hid (p=(jDY,false)):=by show _=_;rw[HP.o,cy hlo,cE hhi]
    go_wp2;refine cp (v:=.tuple #[.agg #[.int .i64 0,.int .i64 0,.string ⟨#[]⟩],.bool false]) (by simp[results,Tryz.results164,go_sem, *]) rfl ⟨by rw[hb.o];rfl,?_⟩
    first | exact he.o _ _ _ | exact hg.o
   have hb:Hid (p=(⟨0,xn+yn,ar⟩,true)):=by show _=_;rw[HP.o,cy hlo,cy hhi]
   go_wp2_with fail;refine(jIL _ _).mono ?_;rintro e w3 ⟨rfl,hv⟩;have hf:Below w.heap.size w w3:=hg.o.trans (hv.mono (by simp;omega));obtain⟨k1,k2⟩:=aD hv;have hJ:=(k1 (w.heap.size+1+1) 0 (by simp;omega)).trans ((cX _ _ _ ha).trans hA);have hK:=(k1 (w.heap.size+1+1) 1 (by simp;omega)).trans ((cX _ _ _ ha).trans hB);have hL:=(k1 (w.heap.size+1+1) 2 (by simp;omega)).trans ((cX _ _ _ ha).trans hC);have hM:=(k2 (w.heap.size+1+1) 0 (by simp;omega)).trans ((dd _ _ _ ha).trans hD);have hN:=(k2 (w.heap.size+1+1) 1 (by simp;omega)).trans ((dd _ _ _ ha).trans hF);have hO:=(k2 (w.heap.size+1+1) 2 (by simp;omega)).trans ((dd _ _ _ ha).trans hG);have ho:w.heap.size+1+1<w3.heap.size:=by have:=hv.size;simp at this;omega
   clear k1 k2 hv hA hB hC hD hF hG g1 hS;go_wp2;refine cp (v:=.tuple #[.agg #[.int .i64 0,.int .i64 (xn+yn),.string ⟨#[]⟩],.bool true]) (by simp[results,Tryz.results164,go_sem, *]) rfl ⟨by rw[hb.o];rfl,?_⟩;exact jHn (b:=w.heap.size+1+1) hf (by omega) _ _ _
theorem jWi {P:Program}(w:World)(t ty e:TypeId)(i:TypeInfo)(size:Nat)(hu:P.underlying t=some (.slice e))(hi:P.info? e=some i)(hr:i.size=size)
  (base hk:Nat) (e2:TypeId) (g n cap:Nat) (so:Option Addr) (sc:Nat) (zs cs:List Value)
  (hp:w.ownsRow base e size (.slice (some ⟨g,0,none⟩) n cap) n zs) (hq:w.ownsRow hk e2 size (.slice so n sc) n cs) (h1:∀v∈cs,v.oneCell'=true) :
  ∃w',(Builtin.copy_ #[t,t] ty #[.slice (some ⟨g,0,none⟩) n cap,.slice so n sc]).run P w=.ok (goInt n) w'/\w'.ownsRow base e size (.slice (some ⟨g,0,none⟩) n cap) n cs/\Below base w w':=by
 obtain⟨hs,hz⟩:=hp;obtain⟨ho,hc⟩:=hq;rcases hz with⟨h,_⟩ | ⟨g',cap',cur,hv,hbg,hh,hn,hmx,hcs,ht⟩
 ·simp at h
 simp only[Value.slice.injEq,Option.some.injEq,Addr.mk.injEq] at hv;obtain⟨⟨rfl,-,-⟩,-,rfl⟩:=hv;rcases hc with⟨h,h0⟩ | ⟨g2,cap2,cur2,hv2,hbg2,hh2,hn2,hmx2,hcs2,ht2⟩
 ·obtain⟨rfl,-,rfl⟩:=sI h;subst h0;have hb:cs=[]:=by simpa using ho
  have hg:zs=[]:=by simpa using hs
  subst hb;refine⟨w,?_,⟨by simp,Or.inr ⟨g,cap,cur,rfl,hbg,hh,hn,hmx,hcs,by simp⟩⟩,bR⟩;simp[Builtin.copy_,eC hu,Builtin.lenOf,Builtin.firstCells,sizeOf,typeInfo,hi,storeCells]
 obtain⟨rfl,-,rfl⟩:=sI hv2
 have ha:∀j v,cs[j]?=some v->w.cell? ((⟨g2,0,none⟩:Addr).add j)=some v:=by
  intro j v hj;exact World.ownsRow.cells (⟨ho,Or.inr ⟨g2,sc,cur2,rfl,hbg2,hh2,hn2,hmx2,hcs2,ht2⟩⟩:w.ownsRow hk e2 size (.slice (some ⟨g2,0,none⟩) n sc) n cs) rfl j v hj
 have hl:=run_loadCells_list (P:=P) w ⟨g2,0,none⟩ cs ha;have he:n*size<=cap*size:=dS _ hn;have hf:=run_storeCells_at P g 0 e cs 0 cur w hh (by omega) h1;refine⟨_,?_,⟨ho,Or.inr ⟨g,cap,(cur.toList.take 0++cs++cur.toList.drop (0+0+cs.length)).toArray,rfl,hbg,setRow_heap w g cur _ e _ hh,hn,hmx,?_,?_⟩⟩,below_setRow bR hbg _⟩
 ·rw[ho] at hl;simp[Builtin.copy_,eC hu,Builtin.lenOf,Builtin.firstCells,sizeOf,typeInfo,hi,hr,hl,hf]
 ·simp;omega
 simp[ho]
theorem jWB (row:List Val):∀v∈row.flatMap Val.cells,v.oneCell'=true:=by
 intro v hv;obtain⟨x,_,hx⟩:=List.mem_flatMap.1 hv;simp only[Val.cells,dI,ep,or_false] at hx;rcases hx with rfl | rfl | rfl<;>rfl
def jEf (B:Nat)(w:World)(v:Value)(row:List Val):Prop:=w.ownsRow B 208 3 v row.length (row.flatMap Val.cells)/\row.length<=100000
theorem jEf.row {row:List Val}(h:jEf B w v row):jA0 w v row:=⟨jQj h.1 zR,h.2⟩
theorem jMS (w:World)(o o2:Obj):((w.alloc o).alloc o2).heap.size=w.heap.size+1+1:=by simp
theorem qB2 (row:List Val)(rv:Value)(w:World)(h:jA0 w rv row) :
  Calls Tryz.prog 163 #[.agg #[rv]] w fun e w'=>∃g cap,e=.returned (.agg #[.slice (some ⟨g,0,none⟩) row.length cap])/\jEf w.heap.size w' (.slice (some ⟨g,0,none⟩) row.length cap) row/\Below w.heap.size w w':=by
 obtain⟨i0,hi,hA,hx,hB⟩:=cV Tryz.jIo;obtain⟨ao,hy,rfl⟩:=jQa h.1;have hl:=h.2;have hb:=jWB row;obtain⟨cs,ht⟩:∃x,x=row.flatMap Val.cells:=⟨_,rfl⟩;have hc:=h.1;rw[<-ht] at hc hb;have hW:∀o o2,Below w.heap.size w ((w.alloc o).alloc o2):=fun o o2=>(bA).alloc (by simp) _
 have hh:=hd hc;have hg:=hd hb;have hp:=hd ht;have HW:=hd hW;clear h hc hb ht hW;go_enter Tryz.func163,Tryz.ntmps163;go_wp2_with (at_make;refine wpList_make_full _ rfl (.tmp 6) (.tmp 6) 113 rfl (w.heap.size+1+1) 208 i0 _ 3 Tryz.underlying113 hi hA hx .i64 .i64 _ _ row.length rfl rfl rfl rfl (by rw[hB];omega) (by unfold maxLen;omega) (by simp) ?_;intro w1 hr hq;rw[jMS] at hr;have hf:=Tch.aO (pb:=w.heap.size+1+1) hq (fun k hk=>by cases hk) (by simp);have a0:=hf.cell (p:=⟨w.heap.size,0,none⟩) (by simp;omega);simp[go_sem] at a0;have he:=(HW.o _ _).trans (hf.mono (by omega));obtain⟨w2,hz,hs,hv⟩:=jWi w1 113 3 208 i0 3 Tryz.underlying113 hi hx (w.heap.size+1+1) 0 208 _ row.length _ _ _ _ cs hr (jQh hh.o he) hg.o;have ha:=hf.trans hv;have b0:=ha.cell (p:=⟨w.heap.size+1,0,none⟩) (by simp);have f0:=ha.frozen (p:=⟨w.heap.size+1,0,none⟩) (by simp);simp[go_sem] at b0 f0;have hm:=ha.size;simp at hm;have hn:=hd hs;have ho:=hd ha;clear hr hq hf he hs hv ha);have hj:Below w.heap.size w w2:=(HW.o _ _).trans (ho.o.mono (by omega));refine cp (v:=.agg #[.slice (some ⟨w.heap.size+1+1,0,none⟩) row.length row.length]) (by simp[results,Tryz.results163,go_sem, *]) rfl ⟨_,_,rfl,⟨?_,hl⟩,cj (B:=w.heap.size) hj (by simp) _⟩;rw[<-hp.o];exact jQj (jQp hn.o fun k hk=>jQg (fun e=>by have:=(World.ownsRow.lt hn.o k hk).1;omega)) (by omega)
theorem Sq.jV7 (cols:List Col)(ha row:List Val)(ak:List bE)(k:Nat)(h:k<ak.length) :
  jAn cols ha (ak.drop k) row=if(Sq.result cols ha ak[k]).2 then jAn cols ha (ak.drop (k+1)) (jAA cols ha row ak[k]) else([],false):=by
 rw[cr h,jAn]
theorem jTX (v:Val):∀(l:List Val) (k:Nat),k<l.length->(l.set k v).flatMap Val.cells=(((l.flatMap Val.cells).set (k*3) (.int .i64 v.kind)).set (k*3+1) (.int .i64 v.number)).set (k*3+2) (.string v.text):=by
 intro l
 induction l with
 | nil=>intro k h;simp at h
 | cons x r ih =>
  intro k h;cases k with
  | zero=>simp[Val.cells]
  | succ k =>
   have:=ih k (by simpa using h)
   rw[List.set_cons_succ,cK,this,cK];rw[show(k+1)*3=k*3+3 from by omega];simp[Val.cells]
theorem qB5 {cap:Nat}{l:List Val}(h:w.ownsRow B 208 3 (.slice (some ⟨g,0,none⟩) n cap) n (l.flatMap Val.cells))(v:Val)(k:Nat)(hk:k<l.length) :
  (((w.setCell ⟨g,k*3,none⟩ (.int .i64 v.kind)).setCell ⟨g,k*3+1,none⟩ (.int .i64 v.number)).setCell ⟨g,k*3+2,none⟩ (.string v.text)).ownsRow B 208 3 (.slice (some ⟨g,0,none⟩) n cap) n ((l.set k v).flatMap Val.cells):=by
 obtain⟨hl,ho⟩:=h;rcases ho with⟨h,_⟩ | ⟨g',cap',cur,hv,hbg,hh,hn,hmx,hcs,ht⟩
 ·simp at h
 simp only[Value.slice.injEq,Option.some.injEq,Addr.mk.injEq] at hv;obtain⟨⟨rfl,-,-⟩,-,rfl⟩:=hv;refine⟨by rw[jTX v l k hk];simpa using hl,Or.inr ⟨g,cap,_,rfl,hbg,jQf (jQf (jQf hh _) _) _,hn,hmx,by simpa using hcs,?_⟩⟩;rw[jTX v l k hk];simp only[Array.toList_setIfInBounds,List.take_set,ht]
theorem jM2 {size cap:Nat}(h:w.ownsRow B e size (.slice (some ⟨g,0,none⟩) n cap) n xs)(j:Nat):w.frozen? ⟨g,j,none⟩=false:=by
 obtain⟨hl,ho⟩:=h;rcases ho with⟨h,_⟩ | ⟨g',cap',cur,hv,hbg,hh,hn,hmx,hcs,ht⟩
 ·simp at h
 simp only[Value.slice.injEq,Option.some.injEq,Addr.mk.injEq] at hv;obtain⟨⟨rfl,-,-⟩,-,rfl⟩:=hv;simp[World.frozen?,hh]
theorem jXx (hb:Below B W w1)(h:B<=b)(i j k:Nat)(x y z:Value):Below B W (((w1.setCell ⟨b,i,none⟩ x).setCell ⟨b,j,none⟩ y).setCell ⟨b,k,none⟩ z) :=
 cj (B:=B) (cj (B:=B) (cj (B:=B) hb h _) h _) h _
theorem jQM {c:Nat}(h:c≠b)(i j k:Nat)(x y z:Value):(((w1.setCell ⟨b,i,none⟩ x).setCell ⟨b,j,none⟩ y).setCell ⟨b,k,none⟩ z).heap[c]?=w1.heap[c]?:=by
 rw[jQg h,jQg h,jQg h]
theorem jZ5 (h:w'.heap[b]?=w.heap[b]?)(o:Nat):w'.cell? ⟨b,o,none⟩=w.cell? ⟨b,o,none⟩:=by simp[World.cell?,h]
theorem Sq.jWr (cols:List Col)(ha row:List Val)(s:bE):(jAA cols ha row s).length=row.length:=by
 unfold jAA;split<;>simp
theorem jRk (cols:List Col)(h7:List Val)(ak:List bE)(cv rv sv:Value)(w:World)(h:aX w cv cols)(hr:jA0 w rv h7)(hs:jEg w sv ak)(Hh:jD9 h7)(Hd:∀s∈ak,jKq s) :
  Calls Tryz.prog 120 #[cv,.agg #[rv],sv] w fun e w'=>∃v,e=.returned (.tuple #[.agg #[v],.bool (Sq.assigned cols h7 ak).2])/\jEf w.heap.size w' v (Sq.assigned cols h7 ak).1/\Below w.heap.size w w':=by
 obtain⟨ao,Ha,rfl⟩:=jQa hr.1;obtain⟨bo,Hr,rfl⟩:=jQa hs.1;have hl:=h.2;have hP:=hr.2;have h3:=hs.2;have H:=hd h;have HR:=hd hr;have HS:=hd hs;have hM:=hd Hh;have hD:=hd Hd;have hW:∀o o2,Below w.heap.size w ((w.alloc o).alloc o2):=fun o o2=>(bA).alloc (by simp) _
 have HW:=hd hW;clear h hr hs Hh Hd hW;go_enter Tryz.func120,Tryz.ntmps120;go_wp2_with fail;refine(qB2 h7 _ _ (HR.o.below (HW.o _ _))).mono ?_;rintro e w1 ⟨g,h8,rfl,h9,He⟩;rw[jMS] at h9 He;have hO:g<w1.heap.size/\w.heap.size+1+1<=g:=⟨(World.ownsRow.lt h9.1 g rfl).2,(World.ownsRow.lt h9.1 g rfl).1⟩;obtain⟨hO,Hl⟩:=hO;have hC:=hd h9;have hU:=hd He;have hZ:=He.size;rw[jMS] at hZ;clear h9 He;go_wp2
 go_loopw [9] (fun i wr=>∃k:Nat,∃row:List Val,k<=ak.length/\i=.int .i64 k/\row.length=h7.length/\w1.heap.size<wr.heap.size/\wr.cell? ⟨w1.heap.size,0,none⟩=some (.slice (some ⟨g,0,none⟩) h7.length h8)/\jEf (w.heap.size+1+1) wr (.slice (some ⟨g,0,none⟩) h7.length h8) row/\Hid (Sq.assigned cols h7 ak=jAn cols h7 (ak.drop k) row)/\Below (w.heap.size+1+1) ((w.alloc (.cells #[.slice ao h7.length Ha] 138)).alloc (.cells #[.slice none 0 0] 138)) wr) (fun i _=>ak.length-(intOf i).toNat)
 case atStart=>exact⟨0,h7,zR,rfl,rfl,by simp,by simp[go_sem],⟨jQh hC.o.1 (bA),hP⟩,rfl,cH (B:=w.heap.size+1+1) hU.o (by omega) _⟩
 case round =>
  obtain⟨k,row,hk,rfl,Hi,Ho,r0,h9,hr,hb⟩:=hrel;have hg:Below w.heap.size w wr:=(HW.o _ _).trans (hb.mono (by omega));have a0:=hb.cell (p:=⟨w.heap.size,0,none⟩) (by simp;omega);have b0:=hb.cell (p:=⟨w.heap.size+1,0,none⟩) (by simp);have bf:=hb.frozen (p:=⟨w.heap.size+1,0,none⟩) (by simp);simp[go_sem] at a0 b0 bf;have HB:=hd hb;have HN:=hd h9;have hh:=hd Hi;have h6:w.heap.size<wr.heap.size:=by omega
  have hS:w.heap.size+1<wr.heap.size:=by omega
  have h2:g<wr.heap.size:=by omega
  clear hb h9 Hi
  by_cases hlt:k<ak.length
  ·obtain⟨q,Hp,hv,hq,hc⟩:=jCc (f:=bE.cells) (fun _=>rfl) (HS.o.below hg).1 k hlt;obtain⟨rfl,-,rfl⟩:=sI hv;have hK:=Sq.jV7 cols h7 row ak k hlt;have hJ:=hD.o ak[k] (cJ hlt);have hA:=Sq.jWr cols h7 row ak[k];obtain⟨s,Hj⟩:∃x,x=ak[k]:=⟨_,rfl⟩;rw[<-Hj] at hK hJ hc hA;have hN:Hid (Sq.assigned cols h7 ak=if(Sq.result cols h7 s).2 then jAn cols h7 (ak.drop (k+1)) (jAA cols h7 row s) else([],false)):=hr.o.trans hK;have hL:Hid (jAA cols h7 row s=if Sq.find cols s.column<0 then row else row.set (Sq.find cols s.column).toNat (Sq.result cols h7 s).1):=rfl;have hx:=hd hJ;have hT:=hd hA;clear hK hJ Hj hr hA;obtain⟨p,hp⟩:∃x,x=Sq.result cols h7 s:=⟨_,rfl⟩;have hI:=hN.o;have has:=hL.o;rw[<-hp] at hI has;have hE:=hd hI;have hj:=hd has;have HP:=hd hp;obtain⟨⟨vk,vn,vt⟩,ok⟩:=p;obtain⟨cn,⟨lc,⟨lk,ln,lt⟩⟩,sg,⟨rc,⟨rk,rn,rt⟩⟩⟩:=s;have c0:=hc 0 _ (by decide) rfl;have c1:=hc 1 _ (by decide) rfl;have c2:=hc 2 _ (by decide) rfl;have c3:=hc 3 _ (by decide) rfl;have c4:=hc 4 _ (by decide) rfl;have c5:=hc 5 _ (by decide) rfl;have c6:=hc 6 _ (by decide) rfl;have c7:=hc 7 _ (by decide) rfl;have c8:=hc 8 _ (by decide) rfl;have c9:=hc 9 _ (by decide) rfl;simp only[dB] at c0;clear hc hI has hp hN hL;go_wp2
   go_cut [10,11] from 15 to 54 (fun pv ov wx=>∃vb,pv=.pointer (some ⟨vb,0,none⟩)/\ov=.bool ok/\Below wr.heap.size wr wx/\wr.heap.size<=vb/\vb<wx.heap.size/\wx.cell? ⟨vb,0,none⟩=some (.int .i64 vk)/\wx.cell? ⟨vb,1,none⟩=some (.int .i64 vn)/\wx.cell? ⟨vb,2,none⟩=some (.string vt))
   case first =>
    go_region_with (go_at_call 164;first | (refine(jRG cols h7 cv _ ⟨cn,⟨lc,⟨lk,ln,lt⟩⟩,sg,⟨rc,⟨rk,rn,rt⟩⟩⟩ wr.drew (H.o.below hg.drew) (HR.o.below hg.drew) hM.o hx.o.1 hx.o.2).mono ?_;rintro e w2 ⟨rfl,Hc⟩;rw[<-HP.o];unfold Val.cells;have ha:Below wr.heap.size wr w2:=(cB bR).trans Hc;clear Hc) | (refine(jRG cols h7 cv _ ⟨cn,⟨lc,⟨lk,ln,lt⟩⟩,sg,⟨rc,⟨rk,rn,rt⟩⟩⟩ (wr.drew.alloc _) (H.o.below (cH (B:=w.heap.size) hg.drew (by simp;omega) _)) (HR.o.below (cH (B:=w.heap.size) hg.drew (by simp;omega) _)) hM.o hx.o.1 hx.o.2).mono ?_;rintro e w2 ⟨rfl,Hc⟩;rw[<-HP.o];unfold Val.cells;obtain⟨k1,k2⟩:=aD Hc;have e0:=k1 wr.heap.size 0 (by simp);have e1:=k1 wr.heap.size 1 (by simp);have e2:=k1 wr.heap.size 2 (by simp);have g0:=k2 wr.heap.size 0 (by simp);have g1:=k2 wr.heap.size 1 (by simp);have g2:=k2 wr.heap.size 2 (by simp);simp[go_sem] at e0 e1 e2 g0 g1 g2;have hz:wr.heap.size<w2.heap.size:=(by have:=Hc.size;simp at this;omega);have ha:Below wr.heap.size wr w2:=(cH (B:=wr.heap.size) (cB bR) nR _).trans (Hc.mono (by simp));clear Hc k1 k2))
    all_goals(try go_wp2_with fail)
    all_goals go_meet
    all_goals exact⟨_,rfl,rfl,(by first | exact cH (B:=wr.heap.size) ha ha.size _ | exact jHn (b:=wr.heap.size) ha nR _ _ _),(by first | exact nR | exact ha.size),(by simp[*]),(by simp[go_sem, *]),(by simp[go_sem, *]),(by simp[go_sem, *])⟩
   case rest =>
    obtain⟨vb,rfl,rfl,ha,Hm,Hn,v0,v1,v2⟩:=hcut;have h5:=ha.size;have Ht:=((aD ha).1 q (k*10) hq).trans c0;have Hq:=((aD ha).1 (w.heap.size+1) 0 hS).trans b0;have Hs:=((aD ha).2 (w.heap.size+1) 0 hS).trans bf;have Hg:=((aD ha).1 w1.heap.size 0 Ho).trans r0;have hw:Hid (jEf (w.heap.size+1+1) wc (.slice (some ⟨g,0,none⟩) h7.length h8) row):=⟨jQh HN.o.1 ha,HN.o.2⟩;have hB:=hd (HB.o.trans (ha.mono (by omega)));have ho:Below w.heap.size w wc:=hg.trans (ha.mono (by omega));have he:=hd ho;have hu:w1.heap.size<wc.heap.size:=by omega
    have h0:w.heap.size+1<wc.heap.size:=by omega
    have h4:q<wc.heap.size:=by omega
    have h1:g<wc.heap.size:=by omega
    clear c0 c1 c2 c3 c4 c5 c6 c7 c8 c9 a0 b0 bf r0 ha ho hg HN HB;cases ok
    case false =>
     have HE:Hid (Sq.assigned cols h7 ak=([],false)):=hE.o;go_wp2;refine cp (v:=.tuple #[.agg #[.slice none 0 0],.bool false]) (by simp[results,Tryz.results120,go_sem, *]) rfl ⟨_,by rw[HE.o],by rw[HE.o];exact⟨cu _ _ _ _,by simp⟩,?_⟩;exact cj (B:=w.heap.size) he.o (by simp) _
    case true =>
     have hF:Hid (Sq.assigned cols h7 ak=jAn cols h7 (ak.drop (k+1)) (jAA cols h7 row ⟨cn,⟨lc,⟨lk,ln,lt⟩⟩,sg,⟨rc,⟨rk,rn,rt⟩⟩⟩)):=hE.o;have hy:Hid (jAA cols h7 row ⟨cn,⟨lc,⟨lk,ln,lt⟩⟩,sg,⟨rc,⟨rk,rn,rt⟩⟩⟩=if Sq.find cols cn<0 then row else row.set (Sq.find cols cn).toNat ⟨vk,vn,vt⟩):=hj.o;clear hE hj;rcases Sq.jK3 cols cn with hf | ⟨m,hm,hf⟩
     ·have hn:Hid (jAA cols h7 row ⟨cn,⟨lc,⟨lk,ln,lt⟩⟩,sg,⟨rc,⟨rk,rn,rt⟩⟩⟩=row):=by show _=_;rw[hy.o,hf];rfl
      have HF:=hd hf;clear hf;go_wp2_with (go_at_call 148;refine(jFS cols _ cn _ (H.o.below he.o).1 hl).mono ?_;rintro e w' ⟨rfl,Hb⟩;rw[HF.o,Hb];clear Hb w');go_roundw
      case rel =>
       have CL:k+1<=ak.length/\Value.int .i64 ((k:Int)+1)=.int .i64 ((k+1:Nat):Int)/\row.length=h7.length/\w1.heap.size<wc.heap.size/\wc.cell? ⟨w1.heap.size,0,none⟩=some (.slice (some ⟨g,0,none⟩) h7.length h8)/\jEf (w.heap.size+1+1) wc (.slice (some ⟨g,0,none⟩) h7.length h8) row/\Hid (Sq.assigned cols h7 ak=jAn cols h7 (ak.drop (k+1)) row)/\Below (w.heap.size+1+1) ((w.alloc (.cells #[.slice ao h7.length Ha] 138)).alloc (.cells #[.slice none 0 0] 138)) wc :=
        ⟨by omega,by go_num,hh.o,hu,Hg,hw.o,by have:=hF.o;rw[hn.o] at this;exact this,hB.o⟩
       first
        | exact⟨k+1,row,CL⟩
        | ((repeat apply Exists.intro);exact⟨⟨k+1,row,CL⟩,rfl⟩)
      case measure=>simp[intOf];omega
     have HF:=hd hf
     by_cases hmo:m<h7.length
     ·have hQ:m<row.length:=by rw[hh.o];exact hmo
      have hn:Hid (jAA cols h7 row ⟨cn,⟨lc,⟨lk,ln,lt⟩⟩,sg,⟨rc,⟨rk,rn,rt⟩⟩⟩=row.set m ⟨vk,vn,vt⟩):=by show _=_;rw[hy.o,hf,cy (by omega),cC]
      have hi:=hw.o.1;rw[hh.o] at hi;have hV:=jM2 hi (m*3);have hX:=jM2 hi (m*3+1);have hY:=jM2 hi (m*3+2);have ht:=qB5 hi ⟨vk,vn,vt⟩ m hQ;obtain⟨g',Hu,hv,Hv,Hf⟩:=jCc (f:=Val.cells) (fun _=>rfl) hw.o.1 m hQ;rw[hh.o] at hv;simp only[Value.slice.injEq,Option.some.injEq,Addr.mk.injEq] at hv;obtain⟨⟨rfl,-,-⟩,-,rfl⟩:=hv;have y0:=Hf 0 (.int .i64 row[m].kind) (by decide) rfl;have y1:=Hf 1 (.int .i64 row[m].number) (by decide) rfl;have y2:=Hf 2 (.string row[m].text) (by decide) rfl;simp only[dB] at y0;have hG:=hd ht;have Hk:=(jZ5 (jQM (w1:=wc) (b:=g) (c:=w1.heap.size) (by omega) (m*3) (m*3+1) (m*3+2) (.int .i64 vk) (.int .i64 vn) (.string vt)) 0).trans Hg;have R1:=hd Hk;have hR:(row.set m ⟨vk,vn,vt⟩).length=h7.length:=by rw[dZ];exact hh.o
      have hH:=hd hR;clear hf hi ht Hf Hk hR;go_wp2_with (go_at_call 148;refine(jFS cols _ cn _ (H.o.below he.o).1 hl).mono ?_;rintro e w' ⟨rfl,Hb⟩;rw[HF.o,Hb];clear Hb w');go_roundw
      case rel =>
       have CL:k+1<=ak.length/\Value.int .i64 ((k:Int)+1)=.int .i64 ((k+1:Nat):Int)/\(row.set m ⟨vk,vn,vt⟩).length=h7.length/\w1.heap.size<(((wc.setCell ⟨g,m*3,none⟩ (.int .i64 vk)).setCell ⟨g,m*3+1,none⟩ (.int .i64 vn)).setCell ⟨g,m*3+2,none⟩ (.string vt)).heap.size/\(((wc.setCell ⟨g,m*3,none⟩ (.int .i64 vk)).setCell ⟨g,m*3+1,none⟩ (.int .i64 vn)).setCell ⟨g,m*3+2,none⟩ (.string vt)).cell? ⟨w1.heap.size,0,none⟩=some (.slice (some ⟨g,0,none⟩) h7.length h8)/\jEf (w.heap.size+1+1) (((wc.setCell ⟨g,m*3,none⟩ (.int .i64 vk)).setCell ⟨g,m*3+1,none⟩ (.int .i64 vn)).setCell ⟨g,m*3+2,none⟩ (.string vt)) (.slice (some ⟨g,0,none⟩) h7.length h8) (row.set m ⟨vk,vn,vt⟩)/\Hid (Sq.assigned cols h7 ak=jAn cols h7 (ak.drop (k+1)) (row.set m ⟨vk,vn,vt⟩))/\Below (w.heap.size+1+1) ((w.alloc (.cells #[.slice ao h7.length Ha] 138)).alloc (.cells #[.slice none 0 0] 138)) (((wc.setCell ⟨g,m*3,none⟩ (.int .i64 vk)).setCell ⟨g,m*3+1,none⟩ (.int .i64 vn)).setCell ⟨g,m*3+2,none⟩ (.string vt)) :=
        ⟨by omega,by go_num,hH.o,by simp;omega,R1.o,⟨by rw[hH.o];exact hG.o,by rw[hH.o];exact hP⟩,by have:=hF.o;rw[hn.o] at this;exact this,jXx hB.o Hl _ _ _ _ _ _⟩
       first
        | exact⟨k+1,row.set m ⟨vk,vn,vt⟩,CL⟩
        | ((repeat apply Exists.intro);exact⟨⟨k+1,row.set m ⟨vk,vn,vt⟩,CL⟩,rfl⟩)
      case measure=>simp[intOf];omega
     have hn:Hid (jAA cols h7 row ⟨cn,⟨lc,⟨lk,ln,lt⟩⟩,sg,⟨rc,⟨rk,rn,rt⟩⟩⟩=row):=by show _=_;rw[hy.o,hf,cy (by omega),cC,List.set_eq_of_length_le (by rw[hh.o];omega)]
     clear hf;go_wp2_with (go_at_call 148;refine(jFS cols _ cn _ (H.o.below he.o).1 hl).mono ?_;rintro e w' ⟨rfl,Hb⟩;rw[HF.o,Hb];clear Hb w');go_roundw
     case rel =>
      have CL:k+1<=ak.length/\Value.int .i64 ((k:Int)+1)=.int .i64 ((k+1:Nat):Int)/\row.length=h7.length/\w1.heap.size<wc.heap.size/\wc.cell? ⟨w1.heap.size,0,none⟩=some (.slice (some ⟨g,0,none⟩) h7.length h8)/\jEf (w.heap.size+1+1) wc (.slice (some ⟨g,0,none⟩) h7.length h8) row/\Hid (Sq.assigned cols h7 ak=jAn cols h7 (ak.drop (k+1)) row)/\Below (w.heap.size+1+1) ((w.alloc (.cells #[.slice ao h7.length Ha] 138)).alloc (.cells #[.slice none 0 0] 138)) wc :=
       ⟨by omega,by go_num,hh.o,hu,Hg,hw.o,by have:=hF.o;rw[hn.o] at this;exact this,hB.o⟩
      first
       | exact⟨k+1,row,CL⟩
       | ((repeat apply Exists.intro);exact⟨⟨k+1,row,CL⟩,rfl⟩)
     case measure=>simp[intOf];omega
  have HE:Hid (Sq.assigned cols h7 ak=(row,true)):=by show _=_;rw[hr.o,cD (by omega)];rfl
  clear hr;go_wp2;refine cp (v:=.tuple #[.agg #[.slice (some ⟨g,0,none⟩) h7.length h8],.bool true]) (by simp[results,Tryz.results120,go_sem, *]) rfl ⟨_,by rw[HE.o],?_,?_⟩
  ·rw[HE.o];refine⟨?_,HN.o.2⟩;exact jQj (jQp HN.o.1 fun k hk=>jQg (fun e=>by have:=(World.ownsRow.lt HN.o.1 k hk).1;omega)) (by omega)
  exact cj (B:=w.heap.size) hg (by simp) _
def jAh (s:Sq.Span):Array Value:=#[.int .i64 s.lo,.int .i64 s.hi]
def jAy (s:Sq.bS):Array Value:=#[.int .i64 s.yes.lo,.int .i64 s.yes.hi,.int .i64 s.no.lo,.int .i64 s.no.hi]
theorem jG1 (w:World):Calls Tryz.prog 200 #[] w fun e w'=>e=.returned (.agg (jAh jAG))/\Below w.heap.size w w':=by
 go_enter Tryz.func200,Tryz.ntmps200;go_wp2;refine cp (v:=.agg (jAh jAG)) (by simp[results,Tryz.results200,go_sem,jAh,jAG]) rfl ⟨rfl,?_⟩
 repeat (first | exact bR | refine cj (B:=w.heap.size) ?_ (by simp) _ | refine cH (B:=w.heap.size) ?_ (by simp) _)
theorem jMT (s:Sq.Span)(w:World):Calls Tryz.prog 117 #[.agg (jAh s)] w fun e w'=>e=.returned (.bool (jBZ s))/\Below w.heap.size w w':=by
 obtain⟨lo,hi⟩:=s;unfold jAh;go_enter Tryz.func117,Tryz.ntmps117;go_wp2;go_ret;exact⟨rfl,bA⟩
theorem jUs (a b:Sq.Span)(w:World):Calls Tryz.prog 201 #[.agg (jAh a),.agg (jAh b)] w fun e w'=>e=.returned (.agg (jAh (jEH a b)))/\Below w.heap.size w w':=by
 obtain⟨al,ah⟩:=a;obtain⟨bl,bh⟩:=b;have HE:Hid (jAh (jEH ⟨al,ah⟩ ⟨bl,bh⟩)=#[.int .i64 (if al<bl then bl else al),.int .i64 (if bh<ah then bh else ah)]):=rfl;rw[HE.o];unfold jAh
 by_cases h1:al<bl
 ·have i1:decide (al<bl)=true:=by simpa using h1
  by_cases h2:bh<ah
  ·have i2:decide (bh<ah)=true:=by simpa using h2
   rw[cE h1,cE h2];go_enter Tryz.func201,Tryz.ntmps201;go_wp2;refine cp (v:=.agg #[.int .i64 bl,.int .i64 bh]) (by simp[results,Tryz.results201,go_sem]) rfl ⟨rfl,?_⟩
   repeat (first | exact bR | refine cj (B:=w.heap.size) ?_ (by simp<;>omega) _ | refine cH (B:=w.heap.size) ?_ (by simp<;>omega) _)
  have i2:decide (bh<ah)=false:=by simpa using h2
  rw[cE h1,cy h2];go_enter Tryz.func201,Tryz.ntmps201;go_wp2;refine cp (v:=.agg #[.int .i64 bl,.int .i64 ah]) (by simp[results,Tryz.results201,go_sem]) rfl ⟨rfl,?_⟩
  repeat (first | exact bR | refine cj (B:=w.heap.size) ?_ (by simp<;>omega) _ | refine cH (B:=w.heap.size) ?_ (by simp<;>omega) _)
 have i1:decide (al<bl)=false:=by simpa using h1
 by_cases h2:bh<ah
 ·have i2:decide (bh<ah)=true:=by simpa using h2
  rw[cy h1,cE h2];go_enter Tryz.func201,Tryz.ntmps201;go_wp2;refine cp (v:=.agg #[.int .i64 al,.int .i64 bh]) (by simp[results,Tryz.results201,go_sem]) rfl ⟨rfl,?_⟩
  repeat (first | exact bR | refine cj (B:=w.heap.size) ?_ (by simp<;>omega) _ | refine cH (B:=w.heap.size) ?_ (by simp<;>omega) _)
 have i2:decide (bh<ah)=false:=by simpa using h2
 rw[cy h1,cy h2];go_enter Tryz.func201,Tryz.ntmps201;go_wp2;refine cp (v:=.agg #[.int .i64 al,.int .i64 ah]) (by simp[results,Tryz.results201,go_sem]) rfl ⟨rfl,?_⟩
 repeat (first | exact bR | refine cj (B:=w.heap.size) ?_ (by simp<;>omega) _ | refine cH (B:=w.heap.size) ?_ (by simp<;>omega) _)
theorem jWy (op:BA)(w:World):Calls Tryz.prog 199 #[.string op] w fun e w'=>e=.returned (.string (jAE op))/\w'=w:=by
 have HE:Hid (jAE op=if op.toList==[60] then jId else if op.toList==[60,61] then jIc else if op.toList==[62] then jIf else if op.toList==[62,61] then jIe else op):=rfl;rw[HE.o];cases h1:op.toList==[60]
 ·cases h2:op.toList==[60,61]
  ·cases h3:op.toList==[62]
   ·cases h4:op.toList==[62,61]
    all_goals
     go_enter Tryz.func199,Tryz.ntmps199;go_wp2;go_ret;exact⟨rfl,rfl⟩
   go_enter Tryz.func199,Tryz.ntmps199;go_wp2;go_ret;exact⟨rfl,rfl⟩
  go_enter Tryz.func199,Tryz.ntmps199;go_wp2;go_ret;exact⟨rfl,rfl⟩
 go_enter Tryz.func199,Tryz.ntmps199;go_wp2;go_ret;exact⟨rfl,rfl⟩
theorem jW7 (op:BA)(w:World):Calls Tryz.prog 223 #[.string op] w fun e w'=>e=.returned (.string (jAr op))/\w'=w:=by
 have HE:Hid (jAr op=if op.toList==[61] then Sq.jMf else if op.toList==[60,62] then Sq.jMe else if op.toList==[60] then jIc else if op.toList==[60,61] then jId else if op.toList==[62] then jIe else jIf):=rfl;rw[HE.o];cases h0:op.toList==[61]
 ·cases h1:op.toList==[60,62]
  ·cases h2:op.toList==[60]
   ·cases h3:op.toList==[60,61]
    ·cases h4:op.toList==[62]
     all_goals
      go_enter Tryz.func223,Tryz.ntmps223;go_wp2;go_ret;exact⟨rfl,rfl⟩
    go_enter Tryz.func223,Tryz.ntmps223;go_wp2;go_ret;exact⟨rfl,rfl⟩
   go_enter Tryz.func223,Tryz.ntmps223;go_wp2;go_ret;exact⟨rfl,rfl⟩
  go_enter Tryz.func223,Tryz.ntmps223;go_wp2;go_ret;exact⟨rfl,rfl⟩
 go_enter Tryz.func223,Tryz.ntmps223;go_wp2;go_ret;exact⟨rfl,rfl⟩
theorem jMH (t:Sq.Term)(w:World):Calls Tryz.prog 197 #[.agg t.cells.toArray] w fun e w'=>e=.returned (.bool (jC7 t))/\Below w.heap.size w w':=by
 obtain⟨tc,⟨tk,tn,tt⟩⟩:=t;have HE:Hid (jC7 ⟨tc,⟨tk,tn,tt⟩⟩=(tc.toList.isEmpty&&(tk==0))):=rfl;rw[HE.o];unfold Sq.Term.cells;cases h:tc.toList.isEmpty
 ·go_enter Tryz.func197,Tryz.ntmps197;go_wp2;go_ret;exact⟨rfl,bA⟩
 go_enter Tryz.func197,Tryz.ntmps197;go_wp2;go_ret;exact⟨rfl,bA⟩
theorem qAn (cols:List Col)(cv:Value)(t:Sq.Term)(w:World)(h:aX w cv cols):Calls Tryz.prog 196 #[cv,.agg t.cells.toArray] w fun e w'=>e=.returned (.bool (jDr cols t))/\Below w.heap.size w w':=by
 obtain⟨tc,⟨tk,tn,tt⟩⟩:=t;have HE:Hid (jDr cols ⟨tc,⟨tk,tn,tt⟩⟩=(!tc.toList.isEmpty&&(Sq.find cols tc==0))):=rfl;rw[HE.o];unfold Sq.Term.cells;have hl:=h.2;have H:=hd h;have hW:∀o,Below w.heap.size w (w.alloc o):=fun o=>bA
 have HW:=hd hW;clear h hW;cases h:tc.toList.isEmpty
 ·go_enter Tryz.func196,Tryz.ntmps196;go_wp2_with (go_at_call 148;refine(jFS cols _ tc _ (H.o.below (HW.o _)).1 hl).mono ?_;rintro e w' ⟨rfl,rfl⟩);go_ret;exact⟨rfl,HW.o _⟩
 go_enter Tryz.func196,Tryz.ntmps196;go_wp2;go_ret;exact⟨rfl,HW.o _⟩
theorem jF4 {x y:Value}(h:w.heap[b]?=some (.cells #[x,y] t)):w.cell? ⟨b,0,none⟩=some x/\w.cell? ⟨b,1,none⟩=some y/\w.frozen? ⟨b,0,none⟩=false/\w.frozen? ⟨b,1,none⟩=false/\b<w.heap.size :=
 ⟨by rw[jQb h];rfl,by rw[jQb h];rfl,jQd h _,jQd h _,jQe h⟩
theorem jWG (w:World)(a b c:Obj):∃W,W=((w.alloc a).alloc b).alloc c/\Below w.heap.size w W/\W.heap[w.heap.size]?=some a/\W.heap[w.heap.size+1]?=some b/\W.heap[w.heap.size+1+1]?=some c:=by
 refine⟨_,rfl,?_,?_,?_,?_⟩
 ·exact((bA).alloc (by simp) _).alloc (by simp;omega) _
 ·exact((((Below.refl (w.alloc a).heap.size (w.alloc a)).alloc nR b).alloc (by simp) c).block w.heap.size (by simp)).trans (jQi _ _)
 ·have hs:(w.alloc a).heap.size=w.heap.size+1:=by simp
  rw[<-hs];exact(((Below.refl ((w.alloc a).alloc b).heap.size ((w.alloc a).alloc b)).alloc nR c).block _ (by simp)).trans (jQi _ _)
 have hs:((w.alloc a).alloc b).heap.size=w.heap.size+1+1:=by simp
 rw[<-hs];exact jQi _ _
theorem jSe (a b:Sq.Span)(w:World):Calls Tryz.prog 202 #[.agg (jAh a),.agg (jAh b)] w fun e w'=>e=.returned (.agg (jAh (jBP a b)))/\Below w.heap.size w w':=by
 obtain⟨al,ah⟩:=a;obtain⟨bl,bh⟩:=b;obtain⟨R,hR⟩:∃R,R=jBP ⟨al,ah⟩ ⟨bl,bh⟩:=⟨_,rfl⟩;rw[<-hR];have he:=hd hR;clear hR;obtain⟨W,hW,hj,k0,k1,k2⟩:=jWG w (.cells #[.int .i64 al,.int .i64 ah] 174) (.cells #[.int .i64 bl,.int .i64 bh] 174) (.cells #[.int .i64 0,.int .i64 0] 174);obtain⟨a0,a1,a2,a3,a4⟩:=jF4 k0;obtain⟨b0,b1,b2,b3,b4⟩:=jF4 k1;obtain⟨c0,c1,c2,c3,c4⟩:=jF4 k2;have HW:=hd hj;have K0:=hd k0;have K1:=hd k1;have K2:=hd k2;clear hj k0 k1 k2;unfold jAh;go_enter Tryz.func202,Tryz.ntmps202;go_wp2_with fail;rw[<-hW];clear hW;refine(jMT ⟨al,ah⟩ W).mono ?_;rintro e w1 ⟨rfl,hg⟩;obtain⟨d0,d1,d2,d3,d4⟩:=jF4 ((hg.block _ a4).trans K0.o);obtain⟨e0,e1,e2,e3,e4⟩:=jF4 ((hg.block _ b4).trans K1.o);obtain⟨f0,f1,f2,f3,f4⟩:=jF4 ((hg.block _ c4).trans K2.o);have hf:=hd (HW.o.trans (hg.mono (by omega)));have ha:=hd hg;clear hg a0 a1 a2 a3 b0 b1 b2 b3 c0 c1 c2 c3;cases h1:jBZ ⟨al,ah⟩
 ·have HE:Hid (R=⟨bl,bh⟩):=by show _=_;rw[he.o];unfold jBP;rw[h1];rfl
  go_wp2;refine cp (v:=.agg #[.int .i64 bl,.int .i64 bh]) (by simp[results,Tryz.results202,go_sem, *]) rfl ⟨by rw[HE.o]<;>rfl,?_⟩;exact cj (B:=w.heap.size) (cj (B:=w.heap.size) hf.o (by simp;omega) _) (by simp;omega) _
 go_wp2_with fail;refine(jMT ⟨bl,bh⟩ w1).mono ?_;rintro e w2 ⟨rfl,hh⟩;obtain⟨g0,g1,g2,g3,g4⟩:=jF4 ((hh.block _ d4).trans ((ha.o.block _ a4).trans K0.o));obtain⟨i0,i1,i2,i3,i4⟩:=jF4 ((hh.block _ e4).trans ((ha.o.block _ b4).trans K1.o));obtain⟨j0,j1,j2,j3,j4⟩:=jF4 ((hh.block _ f4).trans ((ha.o.block _ c4).trans K2.o));have hc:=hd (hf.o.trans (hh.mono (by omega)));clear hh d0 d1 d2 d3 e0 e1 e2 e3 f0 f1 f2 f3;cases h2:jBZ ⟨bl,bh⟩
 ·have HE:Hid (R=⟨al,ah⟩):=by show _=_;rw[he.o];unfold jBP;rw[h1,h2];rfl
  go_wp2;refine cp (v:=.agg #[.int .i64 al,.int .i64 ah]) (by simp[results,Tryz.results202,go_sem, *]) rfl ⟨by rw[HE.o]<;>rfl,?_⟩;exact cj (B:=w.heap.size) (cj (B:=w.heap.size) hc.o (by simp;omega) _) (by simp;omega) _
 have HE:Hid (R=⟨if bl<al then bl else al,if ah<bh then bh else ah⟩):=by show _=_;rw[he.o];unfold jBP;rw[h1,h2];rfl
 by_cases h3:bl<al
 ·have n3:decide (bl<al)=true:=by simpa using h3
  by_cases h4:ah<bh
  ·have n4:decide (ah<bh)=true:=by simpa using h4
   have hb:Hid (R=⟨bl,bh⟩):=by show _=_;rw[HE.o,cE h3,cE h4]
   clear HE;go_wp2;refine cp (v:=.agg #[.int .i64 bl,.int .i64 bh]) (by simp[results,Tryz.results202,go_sem, *]) rfl ⟨by rw[hb.o]<;>rfl,?_⟩
   repeat (first | exact hc.o | refine cj (B:=w.heap.size) ?_ (by simp<;>omega) _)
  have n4:decide (ah<bh)=false:=by simpa using h4
  have hb:Hid (R=⟨bl,ah⟩):=by show _=_;rw[HE.o,cE h3,cy h4]
  clear HE;go_wp2;refine cp (v:=.agg #[.int .i64 bl,.int .i64 ah]) (by simp[results,Tryz.results202,go_sem, *]) rfl ⟨by rw[hb.o]<;>rfl,?_⟩
  repeat (first | exact hc.o | refine cj (B:=w.heap.size) ?_ (by simp<;>omega) _)
 have n3:decide (bl<al)=false:=by simpa using h3
 by_cases h4:ah<bh
 ·have n4:decide (ah<bh)=true:=by simpa using h4
  have hb:Hid (R=⟨al,bh⟩):=by show _=_;rw[HE.o,cy h3,cE h4]
  clear HE;go_wp2;refine cp (v:=.agg #[.int .i64 al,.int .i64 bh]) (by simp[results,Tryz.results202,go_sem, *]) rfl ⟨by rw[hb.o]<;>rfl,?_⟩
  repeat (first | exact hc.o | refine cj (B:=w.heap.size) ?_ (by simp<;>omega) _)
 have n4:decide (ah<bh)=false:=by simpa using h4
 have hb:Hid (R=⟨al,ah⟩):=by show _=_;rw[HE.o,cy h3,cy h4]
 clear HE;go_wp2;refine cp (v:=.agg #[.int .i64 al,.int .i64 ah]) (by simp[results,Tryz.results202,go_sem, *]) rfl ⟨by rw[hb.o]<;>rfl,?_⟩
 repeat (first | exact hc.o | refine cj (B:=w.heap.size) ?_ (by simp<;>omega) _)
theorem jPz (op:BA)(n:Int)(w:World)(h0:-100000000000<=n)(h1:n<=100000000000):Calls Tryz.prog 222 #[.string op,.int .i64 n] w fun e w'=>e=.returned (.agg (jAh (aW op n)))/\Below w.heap.size w w':=by
 obtain⟨R,hR⟩:∃R,R=aW op n:=⟨_,rfl⟩;rw[<-hR];have hb:=hd hR;clear hR;obtain⟨W,hW⟩:∃W,W=w.alloc (.cells #[.int .i64 0,.int .i64 0] 174):=⟨_,rfl⟩;have hc:Below w.heap.size w W:=by rw[hW];exact bA
 have k0:W.heap[w.heap.size]?=some (.cells #[.int .i64 0,.int .i64 0] 174):=by rw[hW];exact jQi _ _
 have HW:=hd hc;have K0:=hd k0;have hz:=jQe k0;clear hc k0;go_enter Tryz.func222,Tryz.ntmps222;go_wp2_with fail;rw[<-hW];clear hW;refine(jG1 W).mono ?_;rintro e w1 ⟨rfl,hf⟩;obtain⟨d0,d1,d2,d3,d4⟩:=jF4 ((hf.block _ hz).trans K0.o);have ha:=hd (HW.o.trans (hf.mono (by omega)));clear hf;unfold jAh jAG;cases g1:op.toList==[61]
 ·cases g2:op.toList==[60]
  ·cases g3:op.toList==[60,61]
   ·cases g4:op.toList==[62]
    ·cases g5:op.toList==[62,61]
     ·have HE:Hid (R=⟨-2147483648,2147483647⟩):=by show _=_;rw[hb.o];unfold aW;rw[g1,g2,g3,g4,g5];rfl
      go_wp2;refine cp (v:=.agg #[.int .i64 (-2147483648),.int .i64 2147483647]) (by simp[results,Tryz.results222,go_sem, *]) rfl ⟨by rw[HE.o]<;>rfl,?_⟩
      repeat (first | exact ha.o | refine cj (B:=w.heap.size) ?_ (by simp<;>omega) _ | refine cH (B:=w.heap.size) ?_ (by simp<;>omega) _)
     have HE:Hid (R=⟨n,2147483647⟩):=by show _=_;rw[hb.o];unfold aW;rw[g1,g2,g3,g4,g5];rfl
     go_wp2;refine cp (v:=.agg #[.int .i64 n,.int .i64 2147483647]) (by simp[results,Tryz.results222,go_sem, *]) rfl ⟨by rw[HE.o]<;>rfl,?_⟩
     repeat (first | exact ha.o | refine cj (B:=w.heap.size) ?_ (by simp<;>omega) _ | refine cH (B:=w.heap.size) ?_ (by simp<;>omega) _)
    have HE:Hid (R=⟨n+1,2147483647⟩):=by show _=_;rw[hb.o];unfold aW;rw[g1,g2,g3,g4];rfl
    go_wp2;refine cp (v:=.agg #[.int .i64 (n+1),.int .i64 2147483647]) (by simp[results,Tryz.results222,go_sem, *]) rfl ⟨by rw[HE.o]<;>rfl,?_⟩
    repeat (first | exact ha.o | refine cj (B:=w.heap.size) ?_ (by simp<;>omega) _ | refine cH (B:=w.heap.size) ?_ (by simp<;>omega) _)
   have HE:Hid (R=⟨-2147483648,n⟩):=by show _=_;rw[hb.o];unfold aW;rw[g1,g2,g3];rfl
   go_wp2;refine cp (v:=.agg #[.int .i64 (-2147483648),.int .i64 n]) (by simp[results,Tryz.results222,go_sem, *]) rfl ⟨by rw[HE.o]<;>rfl,?_⟩
   repeat (first | exact ha.o | refine cj (B:=w.heap.size) ?_ (by simp<;>omega) _ | refine cH (B:=w.heap.size) ?_ (by simp<;>omega) _)
  have HE:Hid (R=⟨-2147483648,n-1⟩):=by show _=_;rw[hb.o];unfold aW;rw[g1,g2];rfl
  go_wp2;refine cp (v:=.agg #[.int .i64 (-2147483648),.int .i64 (n-1)]) (by simp[results,Tryz.results222,go_sem, *]) rfl ⟨by rw[HE.o]<;>rfl,?_⟩
  repeat (first | exact ha.o | refine cj (B:=w.heap.size) ?_ (by simp<;>omega) _ | refine cH (B:=w.heap.size) ?_ (by simp<;>omega) _)
 have HE:Hid (R=⟨n,n⟩):=by show _=_;rw[hb.o];unfold aW;rw[g1];rfl
 go_wp2;refine cp (v:=.agg #[.int .i64 n,.int .i64 n]) (by simp[results,Tryz.results222,go_sem, *]) rfl ⟨by rw[HE.o]<;>rfl,?_⟩
 repeat (first | exact ha.o | refine cj (B:=w.heap.size) ?_ (by simp<;>omega) _ | refine cH (B:=w.heap.size) ?_ (by simp<;>omega) _)
theorem jQH {x y z u:Value}(h:w.heap[b]?=some (.cells #[x,y,z,u] t)):(w.cell? ⟨b,0,none⟩=some x/\w.cell? ⟨b,1,none⟩=some y/\w.cell? ⟨b,2,none⟩=some z/\w.cell? ⟨b,3,none⟩=some u)/\(w.frozen? ⟨b,0,none⟩=false/\w.frozen? ⟨b,1,none⟩=false/\w.frozen? ⟨b,2,none⟩=false/\w.frozen? ⟨b,3,none⟩=false)/\b<w.heap.size :=
 ⟨⟨by rw[jQb h];rfl,by rw[jQb h];rfl,by rw[jQb h];rfl,by rw[jQb h];rfl⟩,⟨jQd h _,jQd h _,jQd h _,jQd h _⟩,jQe h⟩
theorem jW2 (op:BA)(n:Int)(w:World)(h0:-100000000000<=n)(h1:n<=100000000000):Calls Tryz.prog 198 #[.string op,.int .i64 n] w fun e w'=>e=.returned (.agg (jAy (jB9 op n)))/\Below w.heap.size w w':=by
 obtain⟨W,hW⟩:∃W,W=w.alloc (.cells #[.int .i64 0,.int .i64 0,.int .i64 0,.int .i64 0] 224):=⟨_,rfl⟩;have hf:Below w.heap.size w W:=by rw[hW];exact bA
 have k0:W.heap[w.heap.size]?=some (.cells #[.int .i64 0,.int .i64 0,.int .i64 0,.int .i64 0] 224):=by rw[hW];exact jQi _ _
 have HW:=hd hf;have K0:=hd k0;have hz:=jQe k0;have HE:Hid (jB9 op n=⟨aW op n,aW (jAr op) n⟩):=rfl;rw[HE.o];have hb:=fun w=>jPz op n w h0 h1
 have hc:=fun w=>jPz (jAr op) n w h0 h1
 obtain⟨A,hA⟩:∃A,A=aW op n:=⟨_,rfl⟩;obtain⟨B,hB⟩:∃A,A=aW (jAr op) n:=⟨_,rfl⟩;rw[<-hA] at hb ⊢;rw[<-hB] at hc ⊢;have hh:=hd hb;have hi:=hd hc;obtain⟨al,ah⟩:=A;obtain⟨bl,bh⟩:=B;clear hf k0 hb hc hA hB HE;go_enter Tryz.func198,Tryz.ntmps198;go_wp2_with fail;rw[<-hW];clear hW;refine(hh.o W).mono ?_;rintro e w1 ⟨rfl,hj⟩;have he:=hd hj;clear hj;go_wp2_with fail;refine(jW7 op w1).mono ?_;rintro e w2 ⟨rfl,hn⟩;rw[hn];clear hn w2;go_wp2_with fail;refine(hi.o w1).mono ?_;rintro e w2 ⟨rfl,hk⟩;have ha:=he.o.trans (hk.mono he.o.size);obtain⟨⟨d0,d1,d2,d3⟩,⟨e0,e1,e2,e3⟩,d4⟩:=jQH ((ha.block _ hz).trans K0.o);have hg:=hd (HW.o.trans (ha.mono (by omega)));clear hk ha;unfold jAh;go_wp2;refine cp (v:=.agg #[.int .i64 al,.int .i64 ah,.int .i64 bl,.int .i64 bh]) (by simp[results,Tryz.results198,go_sem, *]) rfl ⟨rfl,?_⟩
 repeat (first | exact hg.o | refine cj (B:=w.heap.size) ?_ (by simp<;>omega) _ | refine cH (B:=w.heap.size) ?_ (by simp<;>omega) _)
end
end Go.Proofs.YtahpihjialbanaaGreatDoor
