import Derived.Carry
import Derived.ChangeSame
import Derived.ChangeVars
import Derived.JoinedOf
import Derived.LaidHandle
import Derived.LaidLaws
import Derived.LaidMore
import Derived.OpenShut
import Derived.ProofKit
import Derived.RowKit
import Derived.RowKitTokens
import Derived.SizedLaws
import Derived.SliceStrings
import Derived.Stop.Joined
import Derived.Stop.LaidErr
import Derived.Test.YtahpihjialbanaaGreatDoorRows
import Derived.Test.YtahpihjialbanaaGreatDoorQbd
set_option linter.all false
set_option maxRecDepth 100000
set_option maxHeartbeats 20000000
namespace Go.Proofs.YtahpihjialbanaaGreatDoor
open Sq (ba aJ aj by4 iv jAU jB2 jBW jBf jBi jE1 jEI jEa jEk jFB jFQ jFc jJ1 jLa)
variable {W w w':World}{b:Nat}{e t:TypeId}{v:Value}
section
open Go.RowKit
def jGb:Value->Nat
 | .string b=>b.size
 | _=>0
theorem jL7 (a b:BA):(a++b).data.toList=a.data.toList++b.data.toList:=by simp[ByteArray.data_append]
namespace Sq
def tb (n:Int)(k:Nat):UInt8:=UInt8.ofNat (HMod.hMod (8*n / 2^(8*k)) (256:Int)).toNat
def tl (n:Int):Nat->List UInt8
 | 0=>[]
 | k+1=>tb n k::tl n k
theorem qBf (n:Int):jEr 8 (n*8)=tl n 8:=by rw[qBg];simp only[tl,tb];rw[show(2:Int)^(8*0)=1 from rfl,Int.ediv_one];rfl
end Sq
theorem jFi.below (h:jFi w b)(hb:Below w.heap.size w w'):jFi w' b:=by
 obtain⟨kv,sv,h1,h2,h3⟩:=h;exact⟨kv,sv,(hb.block _ (jQe h1)).trans h1,h2.below hb,h3.below hb⟩
theorem jUt (l:List UInt8):∀(k p:Nat),p<8->W32 (Sq.at0 (Sq.blocks l k) p)
 | 0,p,hp=>by
  have h:∀p,p<8->(Decidable.decide (0<=Sq.at0 iv p)&&Decidable.decide (Sq.at0 iv p<4294967296))=true:=by decide +kernel
  have:=h p hp
  simp only[cP,cZ] at this;exact this
 | k+1,p,hp=>by
  show W32 (Sq.at0 (Sq.jMd _ _) p)
  match p,hp with
  | 0,_=>exact jE1 _
  | 1,_=>exact jE1 _
  | 2,_=>exact jE1 _
  | 3,_=>exact jE1 _
  | 4,_=>exact jE1 _
  | 5,_=>exact jE1 _
  | 6,_=>exact jE1 _
  | 7,_=>exact jE1 _
  | p+8,h=>omega
theorem jOO (w:World)(x:Int)(b:UInt8)(hx:(b.toNat:Int)=x):(convert 55 9 (.slice (some ⟨w.heap.size,0,none⟩) 1 1)).run Tryz.prog (w.alloc (.cells #[.int .u8 x] 5))=.ok (.string ⟨#[b]⟩) (w.alloc (.cells #[.int .u8 x] 5)):=by
 have:=run_convert_bytes_back (P:=Tryz.prog) (w.alloc (.cells #[.int .u8 x] 5)) 55 9 5 ⟨w.heap.size,0,none⟩ 1 [b] Tryz.underlying55 Tryz.underlying5 Tryz.underlying9 (fun j hj=>by
  rw[jHP,jQb (dJ w _)]
  match j,hj with
  | 0,_=>simp[<-hx])
 exact this
theorem jOP (w:World)(x:Int)(h0:0<=x)(h1:x<4294967296):(convert 55 9 (.slice (some ⟨w.heap.size,0,none⟩) 4 4)).run Tryz.prog (w.alloc (.cells #[.int .u8 (x / 16777216),.int .u8 (HMod.hMod (x / 65536) (256:Int)),.int .u8 (HMod.hMod (x / 256) (256:Int)),.int .u8 (HMod.hMod x (256:Int))] 5)).drew=.ok (.string ⟨(by4 x).toArray⟩) (w.alloc (.cells #[.int .u8 (x / 16777216),.int .u8 (HMod.hMod (x / 65536) (256:Int)),.int .u8 (HMod.hMod (x / 256) (256:Int)),.int .u8 (HMod.hMod x (256:Int))] 5)).drew:=by
 have:=run_convert_bytes_back (P:=Tryz.prog) (w.alloc (.cells #[.int .u8 (x / 16777216),.int .u8 (HMod.hMod (x / 65536) (256:Int)),.int .u8 (HMod.hMod (x / 256) (256:Int)),.int .u8 (HMod.hMod x (256:Int))] 5)).drew 55 9 5 ⟨w.heap.size,0,none⟩ 4 (by4 x) Tryz.underlying55 Tryz.underlying5 Tryz.underlying9 (fun j hj=>by
  rw[jHP,jQb (show(w.alloc (.cells #[.int .u8 (x / 16777216),.int .u8 (HMod.hMod (x / 65536) (256:Int)),.int .u8 (HMod.hMod (x / 256) (256:Int)),.int .u8 (HMod.hMod x (256:Int))] 5)).drew.heap[w.heap.size]?=some (.cells #[.int .u8 (x / 16777216),.int .u8 (HMod.hMod (x / 65536) (256:Int)),.int .u8 (HMod.hMod (x / 256) (256:Int)),.int .u8 (HMod.hMod x (256:Int))] 5) from dJ w _)]
  match j,hj with
  | 0,_=>exact congrArg (fun z=>some (Value.int .u8 z)) ((jFB _).trans (by rw[IntKind.wrap_u8'];omega)).symm
  | 1,_=>exact congrArg (fun z=>some (Value.int .u8 z)) ((jFB _).trans (by rw[IntKind.wrap_u8'])).symm
  | 2,_=>exact congrArg (fun z=>some (Value.int .u8 z)) ((jFB _).trans (by rw[IntKind.wrap_u8'])).symm
  | 3,_=>exact congrArg (fun z=>some (Value.int .u8 z)) ((jFB _).trans (by rw[IntKind.wrap_u8'])).symm)
 exact this
theorem jVd (Ho:Nat)(t:BA)(w:World)(hH:jFi w Ho)(ht:t.size<=1000000) :
  Calls Tryz.prog 41 #[.pointer (some ⟨Ho,0,none⟩),.string t] w fun e w'=>e=.returned (.string (Sq.whole t))/\Below w.heap.size w w':=by
 have HH:=hd hH;have hn:=Sq.jRP t;have hO:=hd hn;have hQ:Hid (Sq.whole t=⟨(jFc (Sq.blocks (jBi t) ((jBi t).length / 64))).toArray⟩):=rfl;have hN:Hid (jBi t=jAU 64 (t.data.toList++[0x80])++Sq.jEr 8 ((t.size:Int)*8)):=rfl;clear hH hn;go_enter Tryz.func41,Tryz.ntmps41;go_wp2;have Hb:(t++(⟨#[128]⟩:BA)).size=t.size+1:=by rw[cO];rfl
 have hy:Hid ((t++(⟨#[128]⟩:BA)).data.toList=t.data.toList++[0x80]):=jL7 _ _;obtain⟨m0,Hu⟩:∃y,y=t++(⟨#[128]⟩:BA):=⟨_,rfl⟩;rw[<-Hu] at Hb hy ⊢;clear Hu
 go_loopw [5] (fun v wr=>∃(f:Nat) (m:BA),v=.string m/\f<=64/\t.size+1<=m.size/\m.size+f<=t.size+65/\HMod.hMod (120-(HMod.hMod m.size 64:Nat)) 64<=f/\Hid (jAU 64 (t.data.toList++[0x80])=jAU f m.data.toList)/\Hid (wr=w)) (fun v _=>100000000-jGb v)
 case atStart=>exact⟨64,m0,rfl,by omega,by omega,by omega,by omega,by show _=_;rw[hy.o],rfl⟩
 case round =>
  obtain⟨f,m,rfl,hf,HL,HK,Hn,Hr,hw⟩:=hrel;have Hh:=hw.o.symm;subst Hh;clear hw;have hc:m.data.toList.length=m.size:=dj
  by_cases hm:HMod.hMod m.size 64=56
  ·have i1:HMod.hMod (m.size:Int) (64:Int)=56:=by omega
   have h9:Hid (jBi t=m.data.toList++Sq.tl (t.size:Int) 8):=by
    show _=_;rw[hN.o,Hr.o,Sq.qBf];cases f with
    | zero=>rfl
    | succ f=>rw[jAU,hc,cE hm]
   clear Hr hc hN hy;have Hd:m.size<=1000065:=by omega
   go_wp2;clear i1 hm Hn
   go_loopw [5,6] (fun v i wr=>∃(k:Nat) (m:BA),k<=8/\v=.string m/\i=.int .i64 ((k:Int)-1)/\m.size+k<=1000080/\Hid (jBi t=m.data.toList++Sq.tl (t.size:Int) k)/\Hid (Below w.heap.size w wr)) (fun _ i _=>(intOf i+1).toNat)
   case atStart=>exact⟨8,m,by omega,rfl,by go_num,by omega,h9,bR⟩
   case round =>
    obtain⟨k,m,hk,rfl,rfl,hI,Hv,hb⟩:=hrel;cases k with
    | succ k =>
     have j1:((k+1:Nat):Int)-1=(k:Int):=by omega
     rw[j1];have j3:(0:Int)<=(k:Int):=by omega
     have j4:(k:Int)<=7:=by omega
     clear j1;have hF:=jOO wr (HMod.hMod (8*(t.size:Int) / 2^(8*k)) (256:Int)) (Sq.tb (t.size:Int) k) (Sq.jLW _);have h4:=hd hF;clear hF;have Hg:(⟨#[Sq.tb (t.size:Int) k]⟩:BA).size=1:=rfl;go_wp2;rw[h4.o];go_wp2;go_roundw
     case rel =>
      refine⟨k,_,by omega,rfl,by go_num,?_,?_,hb.o.alloc hb.o.size _⟩
      ·rw[cO];omega
      show _=_;rw[Hv.o,jL7,dm];rfl
     case measure=>simp[intOf]
    | zero =>
     have hP:Hid (jBi t=m.data.toList):=by show _=_;rw[Hv.o];exact cW _
     clear Hv;obtain⟨V,hV⟩:∃V:World,V=wr:=⟨_,rfl⟩;rw[<-hV] at hb ⊢;clear hV;obtain⟨kv,sv,Ht,HF,HA⟩:=HH.o;have hL:=hd (HH.o.below hb.o);have he:=(hb.o.block _ (jQe Ht)).trans Ht;have c1:V.cell? ⟨Ho,1,none⟩=some sv:=by rw[jQb he];rfl
     have Hl:=jQe he;have hB:=hd ((HA.below hb.o).r (by decide));clear Ht he HF HA;obtain⟨gs,gc,HE,HG,HI⟩:=hB.o;subst HG;clear HI;go_wp2_with (at_builtin;refine jO3 rfl (.const (.slice none 0 0)) (.tmp 37) rfl V.heap.size rfl iv _ rfl hB.o (by decide) (by decide) nR ?_;intro v2 w2 HD Hw;have Ha:=hd HD;have hu:=hd Hw;clear HD Hw);obtain⟨l,hl⟩:∃y,y=jBi t:=⟨_,rfl⟩;have hr:=hP.o;have hn:=hO.o;have hh:=hQ.o;rw[<-hl] at hr hn hh;have hA:=hd hr;have hC:=hd hh;obtain⟨HM,HN,HO⟩:=hn;have h5:=hd (hL.o.below hu.o);have h0:=hu.o.size;have h1:=hb.o.size;have hs:=hd (hb.o.trans (hu.o.mono h1));have Hj:l.length=m.size:=by rw[hr];exact dj
     clear hr hh hl hP hO hQ hB hL hb
     go_loopw [5,7] (fun v sv wr=>∃(k q:Nat) (m:BA),v=.string m/\Hid (q=64*k)/\q+m.size=l.length/\Hid (m.data.toList=l.drop q)/\Hid (jEQ V.heap.size wr sv (Sq.blocks l k))/\Hid (Below w2.heap.size w2 wr)) (fun v _ _=>jGb v)
     case atStart=>exact⟨0,0,m,rfl,rfl,by omega,by show _=_;rw[<-hA.o];rfl,Ha,bR⟩
     case round =>
      obtain⟨k,q,m,rfl,hq,HP,hc,Hp,hb⟩:=hrel
      by_cases Hu:0<m.size
      ·have i1:(0:Int)<(m.size:Int):=by omega
       have Hc:64<=m.size:=by have:=hq.o;omega
       have i2:(64:Int)<=(m.size:Int):=by omega
       have hZ:(m.extract 0 64).size=64:=by rw[dk];omega
       have hT:∀j,j<64->aJ (m.extract 0 64) j=((jEI l (q+j)).toNat:Int):=fun j hj=>by
        unfold aJ jEI;rw[Lib.extract_data,hc.o,List.drop_zero,List.getElem?_take,cE (by omega),List.getElem?_drop]
       have hX:(m.extract 64 m.size).data.toList=l.drop (q+64):=by
        rw[Lib.extract_data,hc.o,List.drop_drop,cL];rw[ef];omega
       have hY:(m.extract 64 m.size).size=m.size-64:=by rw[dk];omega
       have ha:=jZj Ho (Sq.blocks l k) u7 l q (m.extract 0 64) wr (h5.o.below hb.o) (Hp.o.base zR) (jJ1 l k) (jUt l k) hZ hT;have hS:Sq.mixed (Sq.blocks l k) (Sq.sched l q)=Sq.blocks l (k+1):=by rw[hq.o];rfl
       rw[hS] at ha;have HC:=hd ha;have h7:=hd hX;have hM:=hd hY;clear hZ hT hX hY hc Hp ha hS;go_wp2_with fail;refine HC.o.mono ?_;rintro e w3 ⟨v3,rfl,Hy,Hx⟩;have h6:=hd (Hy.base (C:=V.heap.size) (cm h0 hb.o.size));have h2:=hb.t Hx;clear Hy Hx HC;go_wp2;go_roundw;exact⟨k+1,q+64,_,rfl,by show _=_;have:=hq.o;omega,by rw[hM.o];omega,h7,h6,h2⟩;simp only[jGb];rw[hM.o];omega
      have i1:¬((0:Int)<(m.size:Int)):=by omega
      have hW:l.length / 64=k:=by have:=hq.o;omega
      have hh:=hC.o;rw[hW] at hh;have hD:=hd hh;have hE:=jJ1 l k;have hR:=jUt l k;have hG:=Hp.o;generalize Sq.blocks l k=b at *;obtain⟨g,cap,cur,HB,HJ,Hs,Hm⟩:=hG;rw[hE] at HB Hm;subst HB;have hK:=hd Hs;have hv:=hd Hm;have hg:=jQe Hs;have hJ:=hd hE;have h3:=hd hR;obtain⟨U,hU⟩:∃V:World,V=wr:=⟨_,rfl⟩;rw[<-hU] at hK hg hb ⊢;have hi:=hd (hs.o.trans (hb.o.mono (cm h1 h0)));clear Hs Hm hh hW Hp hc hq hU hE hR hb;go_wp2
      go_loopw [8,9] (fun v i wr=>∃(j:Nat) (o:BA),j<=8/\i=.int .i64 j/\v=.string o/\o.size=4*j/\Hid (o.data.toList=jFc (b.take j))/\Hid (Below U.heap.size U wr)) (fun _ i _=>8-(intOf i).toNat)
      case atStart=>exact⟨0,_,by omega,rfl,rfl,rfl,rfl,bR⟩
      case round =>
       obtain⟨j,o,hj,rfl,rfl,Hz,Hq,hb⟩:=hrel
       by_cases hjt:j<8
       ·have l1:(j:Int)<8:=by omega
        have l2:¬((8:Int)<=(j:Int)):=by omega
        have l3:¬((j:Int)<0):=by omega
        have c0:wr.cell? ⟨g,j,none⟩=some (.int .i64 (Sq.at0 b j)):=by rw[jQb ((hb.o.block _ hg).trans hK.o)];exact hv.o j hjt
        have Hi:g<wr.heap.size:=dz hg hb.o.size;obtain⟨x1,x2⟩:=h3.o j hjt;have He:o.size<=32:=by omega
        have hz:Hid (jFc (b.take (j+1))=o.data.toList++by4 (Sq.at0 b j)):=by show _=_;rw[Sq.jSL _ _ (by rw[hJ.o];exact hjt),Hq.o]
        have h8:=hd Hz;clear Hq Hz;generalize Sq.at0 b j=x at *;have hF:=jOP wr x x1 x2;have Hf:(⟨(by4 x).toArray⟩:BA).size=4:=rfl;go_wp2
        go_region
        all_goals(try go_wp2)
        all_goals
         go_roundw
         case rel =>
          refine⟨j+1,_,by omega,by go_num,rfl,?_,?_,cB (hb.o.alloc hb.o.size _)⟩
          ·rw[cO,Hf,h8.o];omega
          show _=_;rw[jL7,hz.o]
         case measure=>simp[intOf];omega
       have l1:¬((j:Int)<8):=by omega
       have hx:Hid (o=Sq.whole t):=by
        show _=_;rw[hD.o];apply ey;apply Array.toList_inj.1;rw[Hq.o,cL (by rw[hJ.o];omega)]
       clear Hq;go_wp2;go_ret;exact⟨by rw[<-hx.o];rfl,hi.o.trans (hb.o.mono hi.o.size)⟩
  have ho:jAU 64 (t.data.toList++[0x80])=jAU (f-1) (m++(⟨#[0]⟩:BA)).data.toList:=by
   rw[Hr.o,jL7];cases f with
   | zero=>omega
   | succ f=>rw[jAU,hc,cy hm];rfl
  have HZ:=hd ho;have i1:¬(HMod.hMod (m.size:Int) (64:Int)=56):=by omega
  have hI:(m++(⟨#[0]⟩:BA)).size=m.size+1:=by rw[cO];rfl
  have hp:=hd hI;have Hk:m.size<=1000100:=by omega
  clear Hr ho hc hI;go_wp2;go_roundw;exact⟨f-1,_,rfl,by omega,by rw[hp.o];omega,by rw[hp.o];omega,by rw[hp.o];omega,HZ,trivial⟩;simp only[jGb];rw[hp.o];omega
theorem jNp (wide:Nat)(h1:1<=wide)(h2:wide<=32)(root ha jAP proof:BA)(w:World)(hT:Tbl w)(hR:Rnd w) :
  Calls Tryz.prog 38 #[.int .i64 wide,.string root,.string ha,.string jAP,.string proof] w fun e w'=>e=.returned (.tuple #[.string (jBW (HS wide) wide root ha jAP proof).1,.bool (jBW (HS wide) wide root ha jAP proof).2])/\Below w.heap.size w w':=by
 cases hn:Sq.jAM wide proof with
 | none =>
  have:=jZL wide h1 h2 root ha jAP proof w hn
  unfold jBW;rw[hn];exact this
 | some P=>exact jZK wide h1 h2 root ha jAP proof P w hn (qBd h2 hn root ha) hT hR
theorem jRU (wb sb wide:Nat)(x:aj)(h1 told proof:BA)(w:World)(h:jCH w wb sb wide x)(Hc:1<=wide)(hw:wide<=32) :
  Calls Tryz.prog 32 #[.pointer (some ⟨wb,0,none⟩),.string h1,.string told,.string proof] w fun e w'=>e=.returned (.bool true)/\Below w.heap.size w w':=by
 have hg:∀w,jCH w wb sb wide x->Calls Tryz.prog 29 #[.pointer (some ⟨sb,0,none⟩)] w fun e w'=>e=.returned (.string (jBf wide x))/\jCH w' wb sb wide x/\Below w.heap.size w w':=fun w h=>jVH h hw
 have hf:∀w,jCH w wb sb wide x->Calls Tryz.prog 22 #[.pointer (some ⟨sb,0,none⟩),.string h1] w fun e w'=>e=.returned (.agg #[.string (jEa x h1),.string (jB2 wide x h1),.string (jBf wide (ba x h1))])/\jCH w' wb sb wide x/\Below w.heap.size w w':=fun w h=>jMo h hw h1
 have hn:∀w,jCH w wb sb wide x->Calls Tryz.prog 38 #[.int .i64 wide,.string (jBf wide x),.string h1,.string told,.string proof] w fun e w'=>e=.returned (.tuple #[.string (jBW (HS wide) wide (jBf wide x) h1 told proof).1,.bool (jBW (HS wide) wide (jBf wide x) h1 told proof).2])/\jCH w' wb sb wide x/\Below w.heap.size w w':=fun w h=>(jNp wide Hc hw _ h1 told proof w h.tbl h.rnd).mono fun e w' hh=>⟨hh.1,h.below hh.2,hh.2⟩
 have ho:Sq.aT 99998 x.d x.t:=by obtain⟨db,hk⟩:=h.bV;exact hk.jGr
 have ht:∀w,jCH w wb sb wide x->Calls Tryz.prog 39 #[.pointer (some ⟨sb,0,none⟩),.string proof] w fun e w'=>e=.returned (jCA (jEk (HS wide) wide x proof))/\jCH w' wb sb wide x/\Below w.heap.size w w':=fun w h=>(jZI sb wide Hc hw proof x w h.srv ho h.rnd).mono fun e w' hh=>⟨hh.1,h.below hh.2,hh.2⟩
 have hi:jEk (HS wide) wide x proof=none->∀d,jBW (HS wide) wide (jBf wide x) h1 told proof=(d,true)->told=jEa x h1/\d=jBf wide (ba x h1):=fun hc d hk=>Sq.jY1 h.bV hw h1 told proof d hc hk
 have he:∀a b,jEk (HS wide) wide x proof=some (a,b)->a≠b/\HS wide a=HS wide b/\a.size<=1000000/\b.size<=1000000:=fun a b hc=>Sq.jZY h.bV Hc hw proof a b hc
 have hq:=hd hg;have hp:=hd hf;have hl:=hd hn;have hj:=hd ht;have hx:=hd hi;have hK:=hd he;have HL:=hd h;have h0:=h.srv.lt;obtain⟨c0,c1,Hj⟩:=h.cells;clear hg hf hn ht hi he h ho;generalize jBf wide (ba x h1)=dg2 at *;generalize jBf wide x=dg at *;generalize jEa x h1=rep at *;generalize jB2 wide x h1=nb at *;generalize jBW (HS wide) wide dg h1 told proof=ck at *;generalize jEk (HS wide) wide x proof=cs at *;obtain⟨cd,Hd⟩:=ck;simp only at hl;go_enter Tryz.func32,Tryz.ntmps32;go_wp2_with fail;refine(hq.o _ HL.o).mono ?_;rintro e w1 ⟨rfl,h4,Hf⟩;have hM:=hd h4;have hz:=hd Hf;have hY:=h4.srv.lt;obtain⟨p0,p1,Hk⟩:=h4.cells;clear h4 Hf c0 c1 HL Hj;go_wp2_with fail;refine(hp.o _ hM.o).mono ?_;rintro e w2 ⟨rfl,Ha,h6⟩;obtain⟨V,hV⟩:∃V:World,V=w2.alloc (.cells #[.string rep,.string nb,.string dg2] 30):=⟨_,rfl⟩;have hB:Below w2.heap.size w2 V:=by rw[hV];exact bA
 have hC:V.heap[w2.heap.size]?=some (.cells #[.string rep,.string nb,.string dg2] 30):=by rw[hV];exact jQi _ _
 have hR:=hd (Ha.below hB);have hJ:=hd ((hz.t h6).o.trans (hB.mono (cm hz.o.size h6.size)));have hS:=hd hC;obtain⟨q0,q1,Hl⟩:=Ha.cells;have hE:=jQe hC;clear Ha h6 hB hC p0 p1 hM hz Hk;go_wp2_with fail;rw[<-hV];clear hV q0 q1;refine(hl.o _ hR.o).mono ?_;rintro e w3 ⟨rfl,Hb,h7⟩;have hv:=hd Hb;have hu:=hJ.t h7;have hy:=hd ((h7.block _ hE).trans hS.o);obtain⟨q0,q1,Hm⟩:=Hb.cells;clear Hb h7 hR hJ hS hE;have hD:=jQe hy.o;go_wp2_with fail;cases cs with
 | none =>
  have hm:=hj.o;unfold jCA at hm;have hs:=hd hm;clear hm hj;refine(hs.o _ hv.o).mono ?_;rintro e w4 ⟨rfl,h5,h2⟩;have hr:=hu.t h2;obtain⟨m0,m1,m2,hE⟩:=jEV ((h2.block _ hD).trans hy.o);clear h5 h2 hv hu hy q0 q1 hs;cases Hd
  ·clear hx;go_wp2;go_ret;exact⟨rfl,hr.o⟩
  obtain⟨rfl,rfl⟩:=hx.o rfl cd rfl;clear hx;go_wp2;go_ret;exact⟨rfl,hr.o⟩
 | some ab =>
  obtain⟨a,b⟩:=ab;obtain⟨He,hH,ha,hb⟩:=hK.o a b rfl;have hm:=hj.o;unfold jCA at hm;simp only at hm;have hs:=hd hm;clear hm hj hK hx;refine(hs.o _ hv.o).mono ?_;rintro e w4 ⟨rfl,h5,h2⟩;have hN:=hd h5;have hr:=hu.t h2;clear h5 h2 hv hu hy q0 q1 hs;go_wp2_with fail;refine(qCm w4).mono ?_;rintro e w5 ⟨rfl,Hh,h8⟩;have hA:=hd Hh;have hO:=hd (hN.o.below h8);have hF:=hr.t h8;clear Hh h8 hN hr;go_wp2_with fail;refine(jVd w4.heap.size a w5 hA.o ha).mono ?_;rintro e w6 ⟨rfl,h3⟩;have hL:=hd (hA.o.below h3);have hP:=hd (hO.o.below h3);have hG:=hF.t h3;clear h3 hO hF hA;go_wp2_with fail;refine(jVd w4.heap.size b w6 hL.o hb).mono ?_;rintro e w7 ⟨rfl,h9⟩;have hQ:=hd (hP.o.below h9);have hI:=hG.t h9;obtain⟨q0,q1,Hn⟩:=hQ.o.cells;clear h9 hP hG hL;have hZ:=jLa a;have hW:=jLa b;have hU:(Sq.whole a).extract 0 wide=(Sq.whole b).extract 0 wide:=hH
  have hX:(a.toList==b.toList)=false:=by
   simp only[beq_eq_false_iff_ne,ne_eq];intro e;exact He (jJS e)
  clear hH He;generalize Sq.whole a=pa at *;generalize Sq.whole b=pb at *;have i1:(wide:Int)<=32:=by omega
  have i2:(0:Int)<=(wide:Int):=by omega
  have i3:(wide:Int)<=(pa.size:Int):=by omega
  have i4:(wide:Int)<=(pb.size:Int):=by omega
  go_wp2
  go_quiet (fail)
  obtain⟨w8,Hg,Hi⟩:∃wq,Below w7.heap.size w7 wq/\w7.drewN nq=wq:=⟨_,jHp _ _,rfl⟩;rw[Hi];have hT:=hI.t Hg;clear Hi nq Hg hI hQ;cases Hd
  all_goals
   go_wp2;go_ret;exact⟨rfl,hT.o⟩
end
namespace Sq
def ck1:BA:=⟨#[99,114,101,97,116,101,32,116,97,98,108,101,32,116,32,40,105,100,32,105,110,116,41]⟩
def ck2:BA:=⟨#[105,110,115,101,114,116,32,105,110,116,111,32,116,32,118,97,108,117,101,115,32,40,50,41]⟩
def ck3:BA:=⟨#[115,101,108,101,99,116,32,42,32,102,114,111,109,32,116]⟩
def ckX:aj:=ba (ba jBX ck1) ck2
def ckP:aj:=⟨(jB2 32 ckX ck3).size,(aN 32 (jB2 32 ckX ck3).size ⟨jB2 32 ckX ck3,false⟩).1⟩
theorem jUO:jDB ckX:=(jFQ.next ck1).next ck2
theorem qCJ:jEa ckX ck3=⟨#[50,59]⟩:=by decide +kernel
theorem qCv:jAM 32 (jB2 32 ckX ck3)=some ckP:=by
 unfold jAM;rw[cE (by decide +kernel),cE (by decide +kernel)];rfl
theorem qCw:aw (aa ckP.d ckP.t)=false:=by decide +kernel
theorem qBM:aw (aa ckX.d ckX.t)=false:=by decide +kernel
theorem qBN:bq (HS 32) ckP.d ckP.t=bq (HS 32) ckX.d ckX.t:=by decide +kernel
theorem jVk:bj (HS 32) ckP.d ckP.t=jBf 32 ckX:=by
 show _=bj (HS 32) ckX.d ckX.t;rw[jKb _ qCw,jKb _ qBM,qBN]
theorem jVj:(bI ckP ck3 ⟨false,[]⟩).2.2.lost=false/\(bI ckP ck3 ⟨false,[]⟩).1=⟨#[50,59]⟩:=by decide +kernel
theorem jOB:(aL ckP ck3 ⟨false,[]⟩).1.makes=false/\(aL ckP ck3 ⟨false,[]⟩).1.puts.length=0/\(aL ckP ck3 ⟨false,[]⟩).1.cuts.length=0:=by decide +kernel
theorem qCx:(bI ckP ck3 ⟨false,[]⟩).2.1=ckP:=by
 have h:=jZg (o:=(aL ckP ck3 ⟨false,[]⟩).1) ⟨jOB.1,List.length_eq_zero_iff.1 jOB.2.1,List.length_eq_zero_iff.1 jOB.2.2⟩ (ckP,(aL ckP ck3 ⟨false,[]⟩).2)
 show(jBU (aL ckP ck3 ⟨false,[]⟩).1 (ckP,(aL ckP ck3 ⟨false,[]⟩).2)).1=ckP
 rw[h]
theorem jUK (told:BA):jBW (HS 32) 32 (jBf 32 ckX) ck3 told (jB2 32 ckX ck3)=if(⟨#[50,59]⟩:BA)≠told then(ar,false) else(jBf 32 ckX,true):=by
 unfold jBW;rw[qCv];simp only;rw[cy (by rw[jVk];simp),jVj.1,jVj.2,qCx,jVk]
 by_cases h:(⟨#[50,59]⟩:BA)=told
 ·rw[cy (by simp[h]),cy (by simp[h])]
 rw[cE (Or.inr h),cE h]
end Sq
section
open Go.RowKit
theorem jSl (w:World)(hT:Tbl w)(hR:Rnd w):Calls Tryz.prog 31 #[] w fun e w'=>e=.returned (.bool true)/\Below w.heap.size w w':=by
 have hi:∀(X:aj),Sq.jDB X->∀(hK:BA) (w':World),jBB w.heap.size w' 32 X->Below w.heap.size w w'->Calls Tryz.prog 16 #[.pointer (some ⟨w.heap.size,0,none⟩),.string hK] w' fun e hI=>(∃a b c,e=.returned (.agg #[.string a,.string b,.string c]))/\jBB w.heap.size hI 32 (ba X hK)/\Below w.heap.size w hI:=fun X hX hK w' hs hb=>by
  obtain⟨db,hk⟩:=hX;exact(jUR w.heap.size 32 X db hK w' (by decide) hs hk (hT.below hb) (hR.below hb)).mono fun e hI hh=>⟨⟨_,_,_,hh.1⟩,hh.2.1,hb.trans (hh.2.2.below nR hb.size)⟩
 have hg:∀w',jBB w.heap.size w' 32 Sq.ckX->Below w.heap.size w w'->Calls Tryz.prog 29 #[.pointer (some ⟨w.heap.size,0,none⟩)] w' fun e hI=>e=.returned (.string (jBf 32 Sq.ckX))/\Below w'.heap.size w' hI:=fun w' hs hb=>by
  obtain⟨db,hk⟩:=Sq.jUO;exact jK7 w.heap.size 32 Sq.ckX 99998 w' (by decide) hs hk.jGr (hR.below hb)
 have hf:∀w',jBB w.heap.size w' 32 Sq.ckX->Below w.heap.size w w'->Calls Tryz.prog 22 #[.pointer (some ⟨w.heap.size,0,none⟩),.string Sq.ck3] w' fun e hI=>(∃c,e=.returned (.agg #[.string ⟨#[50,59]⟩,.string (jB2 32 Sq.ckX Sq.ck3),.string c]))/\Below w'.heap.size w' hI:=fun w' hs hb=>by
  obtain⟨db,hk⟩:=Sq.jUO
  have:=jUD w.heap.size 32 Sq.ckX db Sq.ck3 w' (by decide) hs hk (hT.below hb) (hR.below hb)
  rw[Sq.qCJ] at this;exact this.mono fun e hI hh=>⟨⟨_,hh.1⟩,hh.2⟩
 have hm:∀w',Below w.heap.size w w'->Calls Tryz.prog 38 #[.int .i64 32,.string (jBf 32 Sq.ckX),.string Sq.ck3,.string ⟨#[50,59]⟩,.string (jB2 32 Sq.ckX Sq.ck3)] w' fun e hI=>e=.returned (.tuple #[.string (jBf 32 Sq.ckX),.bool true])/\Below w'.heap.size w' hI:=fun w' hb=>by
  have:=jNp 32 (by decide) (by decide) (jBf 32 Sq.ckX) Sq.ck3 ⟨#[50,59]⟩ (jB2 32 Sq.ckX Sq.ck3) w' (hT.below hb) (hR.below hb)
  rw[Sq.jUK,cy (by simp)] at this;exact this
 have hn:∀w',Below w.heap.size w w'->Calls Tryz.prog 38 #[.int .i64 32,.string (jBf 32 Sq.ckX),.string Sq.ck3,.string ⟨#[51,59]⟩,.string (jB2 32 Sq.ckX Sq.ck3)] w' fun e hI=>e=.returned (.tuple #[.string ⟨#[]⟩,.bool false])/\Below w'.heap.size w' hI:=fun w' hb=>by
  have:=jNp 32 (by decide) (by decide) (jBf 32 Sq.ckX) Sq.ck3 ⟨#[51,59]⟩ (jB2 32 Sq.ckX Sq.ck3) w' (hT.below hb) (hR.below hb)
  rw[Sq.jUK,cE (by decide)] at this;exact this
 have he:=hd hi;have hc:=hd hg;have ha:=hd hf;have hj:=hd hm;have hl:=hd hn;have HN:=hd (jBB.new 32 w);have hy:Hid (Below w.heap.size w (w.alloc (.cells (jMh 32) 62))):=bA;clear hi hg hf hm hn hT hR;generalize jB2 32 Sq.ckX Sq.ck3=pf at *;generalize jBf 32 Sq.ckX=dg at *;go_enter Tryz.func31,Tryz.ntmps31;go_wp2_with (go_at_call 14;refine(jUT 32 _ (by decide) (by decide)).mono ?_;rintro e w' ⟨rfl,hW⟩;rw[hW];clear hW w');refine(he.o Sq.jBX jFQ Sq.ck1 _ HN.o hy.o).mono ?_;rintro e w1 ⟨⟨a1,b1,d1,rfl⟩,hP,hS⟩;have hz:=hd hP;have hx:=hd hS;have hF:=hP.lt;clear hP hS HN hy;go_wp2_with fail;refine(he.o _ (jFQ.next Sq.ck1) Sq.ck2 _ hz.o hx.o).mono ?_;rintro e w2 ⟨⟨a2,b2,d2,rfl⟩,hQ,hU⟩;have ht:Hid (jBB w.heap.size w2 32 Sq.ckX):=hQ;have hp:=hd hU;have hG:=hQ.lt;clear hQ hU hz hx hF he;go_wp2_with fail;refine(hc.o _ ht.o hp.o).mono ?_;rintro e w3 ⟨rfl,hL⟩;have hu:=hd (ht.o.below hL);have ho:=hp.t hL;have hH:=hu.o.lt;clear hL ht hp hG hc;go_wp2_with fail;refine(ha.o _ hu.o ho.o).mono ?_;rintro e w4 ⟨⟨c4,rfl⟩,hM⟩;obtain⟨V,hV⟩:∃V:World,V=w4.alloc (.cells #[.string ⟨#[50,59]⟩,.string pf,.string c4] 30):=⟨_,rfl⟩;have hC:Below w4.heap.size w4 V:=by rw[hV];exact bA
 have hv:V.heap[w4.heap.size]?=some (.cells #[.string ⟨#[50,59]⟩,.string pf,.string c4] 30):=by rw[hV];exact jQi _ _
 have hr:=hd ((ho.t hM).o.trans (hC.mono (cm ho.o.size hM.size)));have hA:=hd hv;obtain⟨m0,m1,m2,hJ⟩:=jEV hv;clear hM hC hv hu ho hH ha;go_wp2_with fail;rw[<-hV];clear hV;refine(hj.o _ hr.o).mono ?_;rintro e w5 ⟨rfl,hN⟩;have hw:=(hN.block _ hJ).trans hA.o;have hB:=hd hw;have hq:=hr.t hN;clear m0 m1 m2 hJ;obtain⟨m0,m1,m2,hJ⟩:=jEV hw;clear hN hw hA hr hj;go_wp2_with fail;refine(hl.o _ hq.o).mono ?_;rintro e w6 ⟨rfl,hO⟩;have hE:=hq.t hO;have hD:=(hO.block _ hJ).trans hB.o;clear m0 m1 m2 hJ;obtain⟨m0,m1,m2,hJ⟩:=jEV hD;clear hO hD hB hq hl;go_wp2;go_ret;exact⟨rfl,hE.o⟩
end
section
open Go.ChangeShapes Go.WideShapes Go.RowKit
theorem Tryz.own:ownKnob Tryz.prog.godebug=none:=by kernel_rfl
theorem Tryz.laidOut:laidOutB Tryz.prog=true:=by kernel_rfl
theorem Tryz.jVJ:Tryz.prog.globalNamed "internal/strconv.uint64pow10"=some 1:=by kernel_rfl
theorem Tryz.qC1:(Tryz.prog.globals[1]?).map (·.type)=some 279:=by kernel_rfl
theorem Tryz.jJF:Tryz.prog.cellsOf 186=1:=by kernel_rfl
theorem Tryz.jJB:Tryz.prog.cellsOf 279=20:=by kernel_rfl
theorem Tryz.jVK:Tryz.prog.globalNamed "sqlproof/digest.rounds"=some 0:=by kernel_rfl
theorem Tryz.qC2:(Tryz.prog.globals[0]?).map (·.type)=some 146:=by kernel_rfl
theorem Tryz.jJE:Tryz.prog.cellsOf 143=1:=by kernel_rfl
theorem Tryz.jJC:Tryz.prog.cellsOf 146=64:=by kernel_rfl
def jFF:List (String×DataW Unit):=[("math/bits.deBruijn32tab",Rows.laid_math_bits_deBruijn32tab),("math/bits.deBruijn64tab",Rows.laid_math_bits_deBruijn64tab),("internal/strconv.uint64pow10",Rows.laid_internal_strconv_uint64pow10),("sqlproof/digest.rounds",Rows.laid_sqlproof_digest_rounds)]
theorem qCe:(Rows.laid_sqlproof_digest_rounds:DataW Unit)=Lib.tabData .u32 Sq.jAz:=by rfl
theorem qCf:(Rows.laid_internal_strconv_uint64pow10:DataW Unit)=Lib.tabData .u64 Lib.pow10Tab:=by rfl
theorem jUG (os:Os)(args:Array Value):laidMetH Tryz.prog jFF ((World.doorLaid Tryz.prog 400 os).forCall (fun _ _=>0) ⟨#[],args,[]⟩).memory :=
 laidMetH_of_parts3 (fuel:=8) (laidMet_of_run' 8 (by kernel_rfl) (by kernel_rfl)) (by kernel_rfl) (by kernel_rfl)
theorem jP4 (h:laidMetH Tryz.prog jFF W):Tbl W:=by
 rw[MakeChecks.laidMetH_plain _ _ _ (by kernel_rfl)] at h;have h2:=laidMet.tail (laidMet.tail h);rw[qCf] at h2;exact Lib.tabIs_of_head Tryz.jVJ Tryz.qC1 Tryz.underlying279 Tryz.underlying186 Tryz.jJF Tryz.jJB h2
theorem jP9 (h:laidMetH Tryz.prog jFF W):Rnd W:=by
 rw[MakeChecks.laidMetH_plain _ _ _ (by kernel_rfl)] at h;have h2:=laidMet.tail (laidMet.tail (laidMet.tail h));rw[qCe] at h2;exact Lib.tabIs_of_head Tryz.jVK Tryz.qC2 Tryz.underlying146 Tryz.underlying143 Tryz.jJE Tryz.jJC h2
end
section
open Go.ChangeShapes Go.WideShapes Go.ChangeMaps Go.RowKit
theorem Tryz.jJD:Tryz.prog.cellsOf 9=1:=by kernel_rfl
theorem Tryz.jJz:Tryz.prog.bytesOf 9=16:=by kernel_rfl
theorem jUP {a:Addr}(h:w.cell? a=some v):a.block<w.heap.size:=by
 rcases dL a.block w.heap.size with h' | h'
 ·exact h'
 simp[World.cell?,Array.getElem?_eq_none h'] at h
theorem jPj {H:Type}{P:Program}:∀{l:List (DataW H)} {d:DataW H},d∈l->∀n∈d.weights P e,n∈DataW.weightsAll P e l
 | d0::l,d,hd,n,hn=>by
  simp only[DataW.weightsAll,List.mem_append];rcases List.mem_cons.1 hd with rfl | h
  ·exact Or.inl hn
  exact Or.inr (jPj h n hn)
theorem jSx {H:Type}{enc:TypeId×Value->H}{a0:Option Addr}{len cap fuel:Nat}{x:DataW H×List MemPlace}{ts:List TypeId}{ds:List (DataW H)}{j:Nat}
  (hf:DataW.trod enc Tryz.prog W 0 (fun _=>true) true fuel 35 [.slice a0 len cap]=some x)
  (hg:(DataW.weightsEach Tryz.prog ts ds).all (·<=reachBytes)=true) (ht:ts[j]?=some 35) (hd:ds[j]?=some x.1):∃l,jGs W (.slice a0 len cap) l:=by
 have hb:reachBytes<=1000000000000000:=by decide
 rcases open_strings Tryz.underlying35 Tryz.underlying9 Tryz.jJD hf with⟨hcs,hx⟩ | ⟨a,len',cap',ss,hcs,_,hl,hm,hz,hx,hcell,_⟩
 ·simp at hcs;obtain⟨rfl,rfl,rfl⟩:=hcs;exact⟨[],none,0,rfl,by simp,by simp,fun k hk=>by simp at hk⟩
 simp at hcs;obtain⟨rfl,rfl,rfl⟩:=hcs;subst hx;simp only[dT] at hz;have ha:(ss.take len).length=len:=by rw[dq];omega
 have h1:=sized_slice hg ht hd Tryz.underlying35;rw[Tryz.jJz] at h1;simp only[strs,cF] at h1;refine⟨ss.take len,some a,cap,by rw[ha],by omega,fun s hs=>?_,fun k hk=>?_⟩
 ·have h2:=List.all_eq_true.1 hg s.size (DataW.weights_mem_each ht hd _ (by
   simp only[DataW.weights,Tryz.underlying35,dI,List.mem_append];refine Or.inr (Or.inl (jPj (d:=.lit (.string s.data.toList)) ?_ _ (by simp[DataW.weights])));unfold strs;exact List.mem_map.2 ⟨s,hs,rfl⟩))
  have h3:s.size<=reachBytes:=of_decide_eq_true h2;omega
 rw[ha] at hk;have hc:=hcell k (by omega);refine⟨a,rfl,by have:=jUP (hcell 0 (by omega));rwa [show(a.add 0).block=a.block from by unfold Addr.add;split<;>rfl] at this,?_⟩;rw[hc]
 congr 2
 rw[List.getElem_take];simp[List.getD,show k<ss.length by omega]
theorem jPH {H:Type}{enc:TypeId×Value->H}{P:Program}{base:Nat}{spare:Nat->Bool}{held:Bool}{t' hj t3 t4:TypeId}{args:Array Value}{ds:List (DataW H)}{ps:List MemPlace}(h:DataW.TrodAll enc P w base spare held [t,t',hj,t3,t4] args.toList ds ps) :
  ∃v v' hc v3 v4 d d' hf d3 d4 p p' hg p3 p4,args=#[v,v',hc,v3,v4]/\ds=[d,d',hf,d3,d4]/\ps=p++p'++hg++p3++p4/\DataW.Trod enc P w base spare held t v d p/\DataW.Trod enc P w base spare held t' v' d' p'/\DataW.Trod enc P w base spare held hj hc hf hg/\DataW.Trod enc P w base spare held t3 v3 d3 p3/\DataW.Trod enc P w base spare held t4 v4 d4 p4:=by
 obtain⟨v,vs,d,hk,p,q,hh,rfl,rfl,hd,hb⟩:=trodAll_cons h;obtain⟨v',hc,v3,v4,d',hf,d3,d4,p',hg,p3,p4,hv,rfl,rfl,h1,h2,h3,h4⟩:=trodAll_four (args:=vs.toArray) (by simpa using hb);have ha:vs=[v',hc,v3,v4]:=by have:=congrArg Array.toList hv;simpa using this
 subst ha;exact⟨v,v',hc,v3,v4,d,d',hf,d3,d4,p,p',hg,p3,p4,by cases args;simp_all,rfl,by simp,hd,h1,h2,h3,h4⟩
theorem jP3 {H:Type}{enc:TypeId×Value->H}{P:Program}{base:Nat}{spare:Nat->Bool}{held:Bool}{t' hc t3 t4:TypeId}{v' hf v3 v4:Value}{d d' hb d3 d4:DataW H}{p p' ha p3 p4:List MemPlace}(h:DataW.Trod enc P w base spare held t v d p)(h':DataW.Trod enc P w base spare held t' v' d' p')
  (hg:DataW.Trod enc P w base spare held hc hf hb ha) (h3:DataW.Trod enc P w base spare held t3 v3 d3 p3) (h4:DataW.Trod enc P w base spare held t4 v4 d4 p4):DataW.TrodAll enc P w base spare held [t,t',hc,t3,t4] [v,v',hf,v3,v4] [d,d',hb,d3,d4] (p++(p'++(ha++(p3++p4)))):=⟨p,p'++(ha++(p3++p4)),h,trodAll_mk4 h' hg h3 h4,rfl⟩
end
end Go.Proofs.YtahpihjialbanaaGreatDoor
