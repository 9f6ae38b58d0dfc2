import Derived.Test.YtahpihjialbanaaGreatDoorQcf
set_option linter.unusedVariables false
set_option linter.unusedSimpArgs false
set_option maxRecDepth 100000
namespace Go.Proofs.YtahpihjialbanaaGreatDoor
namespace Sq
def bZZ:ByteArray:=⟨#[122,122]⟩
def bV:ByteArray:=⟨#[118]⟩
def zzC:List Col:=[⟨bId,0⟩,⟨bV,0⟩]
def zz (rows:List (List Val)):Tab:=⟨bZZ,zzC,rows⟩
def vnum (n:Int):Val:=⟨0,n,nobytes⟩
def tcol (n:ByteArray):Term:=⟨n,val0⟩
def tlit (n:Int):Term:=⟨nobytes,vnum n⟩
def vkey (v:Val):List ByteArray×List Int:=([v.text],[v.kind,v.number])
def skey (s:StepS):List ByteArray×List Int:=([s.op,s.left.column,s.left.lit.text,s.right.column,s.right.lit.text],[s.left.lit.kind,s.left.lit.number,s.right.lit.kind,s.right.lit.number])
def akey (s:SetS):List ByteArray×List Int:=([s.column,s.first.column,s.first.lit.text,s.sign,s.second.column,s.second.lit.text],[s.first.lit.kind,s.first.lit.number,s.second.lit.kind,s.second.lit.number])
def ckey (c:Col):List ByteArray×List Int:=([c.name],[c.kind])
theorem jQp7 {a b:Val}(h:vkey a=vkey b):a=b:=by
 cases a;cases b;simp only[vkey,Prod.mk.injEq,List.cons.injEq,and_true] at h;obtain⟨rfl,rfl,rfl⟩:=h;rfl
theorem jQgg {a b:StepS}(h:skey a=skey b):a=b:=by
 obtain⟨o,⟨c,⟨k,n,t⟩⟩,⟨d,⟨k2,n2,t2⟩⟩⟩:=a
 obtain⟨o',⟨c',⟨k',n',t'⟩⟩,⟨d',⟨k2',n2',t2'⟩⟩⟩:=b
 simp only[skey,Prod.mk.injEq,List.cons.injEq,and_true] at h
 obtain⟨⟨rfl,rfl,rfl,rfl,rfl⟩,rfl,rfl,rfl,rfl⟩:=h
 rfl
theorem jQrv {a b:SetS}(h:akey a=akey b):a=b:=by
 obtain⟨o,⟨c,⟨k,n,t⟩⟩,g,⟨d,⟨k2,n2,t2⟩⟩⟩:=a
 obtain⟨o',⟨c',⟨k',n',t'⟩⟩,g',⟨d',⟨k2',n2',t2'⟩⟩⟩:=b
 simp only[akey,Prod.mk.injEq,List.cons.injEq,and_true] at h
 obtain⟨⟨rfl,rfl,rfl,rfl,rfl,rfl⟩,rfl,rfl,rfl,rfl⟩:=h
 rfl
theorem jQrg {a b:Col}(h:ckey a=ckey b):a=b:=by
 cases a;cases b;simp only[ckey,Prod.mk.injEq,List.cons.injEq,and_true] at h;obtain⟨rfl,rfl⟩:=h;rfl
theorem jQdC {α β:Type}{f:α→β}(hf:∀{a b:α},f a=f b→a=b):∀{a b:List α},a.map f=b.map f→a=b
 | [],[],_=>rfl
 | [],_ :: _,h=>by simp at h
 | _ :: _,[],h=>by simp at h
 | x :: r,y :: q,h=>by
  simp only[List.map_cons,List.cons.injEq] at h
  rw[hf h.1,jQdC hf h.2]
def tx (p:List UInt8)(k:Nat)(s:List UInt8):ByteArray:=⟨(p++(Lib.decDigits k++s)).toArray⟩
def lcreate:ByteArray:=⟨#[99,114,101,97,116,101,32,116,97,98,108,101,32,122,122,32,40,105,100,32,105,110,116,44,32,118,32,105,110,116,41]⟩
def pIns:List UInt8:=[105,110,115,101,114,116,32,105,110,116,111,32,122,122,32,118,97,108,117,101,115,32,40]
def pSel:List UInt8:=[115,101,108,101,99,116,32,118,44,32,105,100,32,102,114,111,109,32,122,122,32,119,104,101,114,101,32,105,100,32,61,32]
def pNe:List UInt8:=[115,101,108,101,99,116,32,42,32,102,114,111,109,32,122,122,32,119,104,101,114,101,32,105,100,32,60,62,32]
def pUpd:List UInt8:=[117,112,100,97,116,101,32,122,122,32,115,101,116,32,118,32,61,32,118,32,45,32,105,100,32,119,104,101,114,101,32,105,100,32,62,61,32]
def lsum:ByteArray:=⟨#[115,101,108,101,99,116,32,115,117,109,32,40,118,41,32,102,114,111,109,32,122,122]⟩
def ldel:ByteArray:=⟨#[100,101,108,101,116,101,32,102,114,111,109,32,122,122,32,119,104,101,114,101,32,118,32,60,32,49,48,48]⟩
def lcnt:ByteArray:=⟨#[115,101,108,101,99,116,32,99,111,117,110,116,32,102,114,111,109,32,122,122]⟩
def lins (k x:Nat):ByteArray:=⟨(pIns++(Lib.decDigits k++([44,32]++(Lib.decDigits x++[41])))).toArray⟩
theorem jQk5:(parse lcreate).1=0∧(parse lcreate).2.act=1∧(parse lcreate).2.table=bZZ∧(parse lcreate).2.cols.map ckey=zzC.map ckey:=by decide +kernel
theorem jQpe:∀k:Fin 100,(parse (tx pIns k.val [44,32,49,41])).1=0∧(parse (tx pIns k.val [44,32,49,41])).2.act=2∧(parse (tx pIns k.val [44,32,49,41])).2.table=bZZ∧(parse (tx pIns k.val [44,32,49,41])).2.vals.map vkey=[vkey (vnum k.val),vkey (vnum 1)]∧(parse (tx pIns k.val [44,32,49,41])).2.wher.length=0:=by decide +kernel
theorem jQqo:∀k:Fin 100,(parse (tx pSel k.val [])).1=0∧(parse (tx pSel k.val [])).2.act=5∧(parse (tx pSel k.val [])).2.table=bZZ∧(parse (tx pSel k.val [])).2.shw=0∧(parse (tx pSel k.val [])).2.items=[bV,bId]∧(parse (tx pSel k.val [])).2.wher.map skey=[skey ⟨⟨#[61]⟩,tcol bId,tlit k.val⟩]:=by decide +kernel
theorem jQrZ:∀k:Fin 100,(parse (tx pNe k.val [])).1=0∧(parse (tx pNe k.val [])).2.act=5∧(parse (tx pNe k.val [])).2.table=bZZ∧(parse (tx pNe k.val [])).2.shw=1∧(parse (tx pNe k.val [])).2.items=[]∧(parse (tx pNe k.val [])).2.wher.map skey=[skey ⟨⟨#[60,62]⟩,tcol bId,tlit k.val⟩]:=by decide +kernel
theorem jQp9:∀k:Fin 100,(parse (tx pUpd k.val [])).1=0∧(parse (tx pUpd k.val [])).2.act=3∧(parse (tx pUpd k.val [])).2.table=bZZ∧(parse (tx pUpd k.val [])).2.sets.map akey=[akey ⟨bV,tcol bV,⟨#[45]⟩,tcol bId⟩]∧(parse (tx pUpd k.val [])).2.wher.map skey=[skey ⟨⟨#[62,61]⟩,tcol bId,tlit k.val⟩]:=by decide +kernel
theorem jQqe:(parse lsum).1=0∧(parse lsum).2.act=5∧(parse lsum).2.table=bZZ∧(parse lsum).2.shw=3∧(parse lsum).2.items=[bV]∧(parse lsum).2.wher.length=0:=by decide +kernel
theorem jQq8:(parse ldel).1=0∧(parse ldel).2.act=4∧(parse ldel).2.table=bZZ∧(parse ldel).2.wher.map skey=[skey ⟨⟨#[60]⟩,tcol bV,tlit 100⟩]:=by decide +kernel
theorem jQrd:(parse lcnt).1=0∧(parse lcnt).2.act=5∧(parse lcnt).2.table=bZZ∧(parse lcnt).2.shw=2∧(parse lcnt).2.items=[]∧(parse lcnt).2.wher.length=0:=by decide +kernel
end Sq
end Go.Proofs.YtahpihjialbanaaGreatDoor
