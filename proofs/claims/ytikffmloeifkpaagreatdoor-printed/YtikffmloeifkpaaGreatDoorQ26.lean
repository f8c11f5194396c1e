/- Contracts. -/
import Derived.Test.YtikffmloeifkpaaGreatDoorQ19
import Derived.Test.YtikffmloeifkpaaGreatDoorQ06
import Derived.Test.YtikffmloeifkpaaGreatDoorQ20
namespace Go.Proofs.YtikffmloeifkpaaGreatDoor
section
open Go.RowKit Go.Lib
structure LS where
 ws:List Tok
 bad:Bool
 start:Nat
 mode:Int
 acc:List UInt8
 p:Nat
def LS.goes(c:LS)(r:Int):Bool:=
 if c.mode=1 then r !=10 else if c.mode=2 then oK r||kZ r else if c.mode=3 then kZ r
 else if c.mode=4 then bsB (c.acc++(Utf8.encode r).data.toList)else false
def LS.push(c:LS)(k v:Int)(t:ByteArray):LS:={c with ws:=⟨k,c.start,t,v⟩::c.ws}
def LS.fail(c:LS):LS:={c with bad:=true}
def LS.finish(c:LS):LS:=
 if c.mode=2 then(if 12 < Lib.runeCount ⟨c.acc.toArray⟩then c.fail else if spB c.acc then c.push (spK c.acc) 0 (ByteArray.mk #[])else c.push 1 0 ⟨c.acc.toArray⟩)
 else if c.mode=3 then(if 999999999 < bCW c.acc then c.fail else c.push 2 (bCW c.acc) (ByteArray.mk #[]))
 else if c.mode=4 then(if spB c.acc then c.push (spK c.acc) 0 (ByteArray.mk #[])else c.fail)
 else c
def LS.begins(c:LS)(r:Int):LS:=
 if aA0 r then {c with start:=c.p,mode:=0}else if r=35 then {c with start:=c.p,mode:=1}
 else if oK r then {c with start:=c.p,mode:=2}else if kZ r then {c with start:=c.p,mode:=3}
 else if bsB (Utf8.encode r).data.toList then {c with start:=c.p,mode:=4}else {c with start:=c.p,bad:=true}
structure Ch where
 r:Nat
 bs:List UInt8
def LS.step(c:LS)(x:Ch):LS:=
 if c.goes x.r then {c with acc:=c.acc++x.bs,p:=c.p+x.bs.length}else {(c.finish.begins x.r)with acc:=x.bs,p:=c.p+x.bs.length}
def LS.run(c:LS)(l:List Ch):LS:=l.foldl LS.step c
def ls0:LS:=⟨[],false,0,0,[],0⟩
theorem LS.run_append(c:LS)(a b:List Ch):c.run (a++b)=(c.run a).run b:=List.foldl_append
theorem LS.run_cons(c:LS)(x:Ch)(b:List Ch):c.run (x::b)=(c.step x).run b:=rfl
def aW0(s:ByteArray):Nat->List Ch->Prop
 |p,[]=>p=s.size
 |p,x::l=>p < s.size/\Utf8.decode s p=(x.r,x.bs.length)/\vH s p x.r=false/\(s.data.toList.take (p+x.bs.length)).drop p=x.bs/\aW0 s (p+x.bs.length) l
theorem LS.finish_bad(c:LS)(h:c.bad=true):c.finish.bad=true:=by
 unfold LS.finish LS.push LS.fail
 repeat' split
 all_goals simp[h]
theorem LS.begins_bad(c:LS)(r:Int)(h:c.bad=true):(c.begins r).bad=true:=by
 unfold LS.begins
 repeat' split
 all_goals simp[h]
theorem LS.step_bad(c:LS)(x:Ch)(h:c.bad=true):(c.step x).bad=true:=by
 unfold LS.step
 split
 ·exact h
 ·exact(c.finish).begins_bad x.r (c.finish_bad h)
theorem LS.run_bad:∀ (l:List Ch) (c:LS),c.bad=true->(c.run l).bad=true
 |[],_,h=>h
 |x::l,c,h=>LS.run_bad l (c.step x) (c.step_bad x h)
theorem LS.finish_keeps(c:LS):c.finish.start=c.start/\c.finish.mode=c.mode/\c.finish.acc=c.acc/\c.finish.p=c.p:=by
 unfold LS.finish LS.push LS.fail
 repeat' split
 all_goals simp
structure LsR(s:ByteArray)(c:Cut)(L:LS)(p:Nat):Prop where
 text:c.text=s
 words:c.words=L.ws.reverse
 code:c.code=0
 bad:L.bad=false
 start:c.start=L.start
 mode:c.mode=L.mode
 acc:(s.data.toList.take p).drop L.start=L.acc
 at_:L.p=p
 le:L.start<=p
variable {s:ByteArray} {c:Cut} {L:LS} {p:Nat}
theorem LsR.piece(h:LsR s c L p):c.text.extract c.start.toNat p=⟨L.acc.toArray⟩:=by
 have h1:(c.text.extract c.start.toNat p).data.toList=L.acc:=by
  rw[h.text,h.start,Int.toNat_natCast,Lib.extract_data,<-h.acc,List.drop_take]
 rw[<-h1]
theorem LsR.finish(h:LsR s c L p)(hb:L.finish.bad=false):(c.finish p).text=s/\(c.finish p).words=L.finish.ws.reverse/\(c.finish p).code=0:=by
 have hp:=h.piece;unfold Cut.finish LS.finish at*;rw[h.mode]
 by_cases h2:L.mode=2
 ·rw[if_pos h2,if_pos h2]at*;unfold Cut.named;rw[hp]
  by_cases ha:12 < Lib.runeCount ⟨L.acc.toArray⟩
  ·rw[if_pos ha]at hb;cases hb
  ·rw[if_neg ha]at hb ⊢;rw[if_neg ha]
   by_cases hs:spB L.acc=true
   ·rw[if_pos hs,if_pos (show spB L.acc.toArray.toList=true by simpa using hs)];exact⟨h.text,by simp[Cut.push,LS.push,h.words,h.start],h.code⟩
   ·rw[if_neg hs,if_neg (show ¬spB L.acc.toArray.toList=true by simpa using hs)];exact⟨h.text,by simp[Cut.push,LS.push,h.words,h.start],h.code⟩
 rw[if_neg h2,if_neg h2]at*
 by_cases h3:L.mode=3
 ·rw[if_pos h3,if_pos h3]at*;unfold Cut.number;rw[hp]
  by_cases ha:999999999 < bCW L.acc
  ·rw[if_pos ha]at hb;cases hb
  ·rw[if_neg ha]at hb ⊢;rw[if_neg (show ¬999999999 < bCW L.acc.toArray.toList by simpa using ha)];exact⟨h.text,by simp[Cut.push,LS.push,h.words,h.start],h.code⟩
 rw[if_neg h3,if_neg h3]at*
 by_cases h4:L.mode=4
 ·rw[if_pos h4,if_pos h4]at*;unfold Cut.sign;rw[hp]
  by_cases hs:spB L.acc=true
  ·rw[if_pos hs,if_pos (show spB L.acc.toArray.toList=true by simpa using hs)];exact⟨h.text,by simp[Cut.push,LS.push,h.words,h.start],h.code⟩
  ·rw[if_neg hs]at hb;cases hb
 rw[if_neg h4,if_neg h4]at*;exact⟨h.text,h.words,h.code⟩
theorem LsR.goes(h:LsR s c L p){r:Int}(hr:vH s p r=false):c.goes p r=L.goes r:=by
 unfold Cut.goes LS.goes;rw[h.mode,h.text,hr,h.start,Int.toNat_natCast,h.acc];simp
theorem LsR.step(h:LsR s c L p){x:Ch}(hr:vH s p x.r=false)(hx:(s.data.toList.take (p+x.bs.length)).drop p=x.bs)(hb:(L.step x).bad=false):LsR s (c.step p x.r) (L.step x) (p+x.bs.length):=by
 have hg:=h.goes hr;unfold Cut.step LS.step at*;rw[hg]
 by_cases h7:L.goes x.r=true
 ·rw[if_pos h7,if_pos h7];refine⟨h.text,h.words,h.code,h.bad,h.start,h.mode,?_,by rw[h.at_],by have:=h.le;show L.start<=_;omega⟩;show(s.data.toList.take (p+x.bs.length)).drop L.start=L.acc++x.bs
  have h1:s.data.toList.take (p+x.bs.length)=s.data.toList.take p++((s.data.toList.take (p+x.bs.length)).drop p):=by
   conv=>lhs;rw[<-List.take_append_drop p (s.data.toList.take (p+x.bs.length))]
   rw[List.take_take,Nat.min_eq_left Oa]
  rw[h1,hx,List.drop_append,h.acc]
  congr 1
  by_cases hz:x.bs=[]
  ·rw[hz];simp
  ·have hlen:p+x.bs.length<=s.data.toList.length:=by
    have:=congrArg List.length hx;rw[List.length_drop,List.length_take]at this;have h0:0 < x.bs.length:=List.length_pos_iff.2 hz;omega
   have h8:=h.le;rw[List.length_take,Nat.min_eq_left Oa,Nat.sub_eq_zero_of_le h8];rfl
 ·rw[if_neg h7]at hb ⊢;rw[if_neg h7]
  have h9:L.finish.bad=false:=by
   cases e:L.finish.bad with
   |false=>rfl
   |true=>exact absurd (L.finish.begins_bad x.r e) (by simpa using hb)
  obtain⟨f1,f2,f3⟩:=h.finish h9;obtain⟨k1,k2,k3,k4⟩:=L.finish_keeps;have hp:L.finish.p=p:=k4.trans h.at_;have h6:(s.data.toList.take (p+x.bs.length)).drop p=x.bs:=hx;generalize c.finish p=C at*;generalize L.finish=M at*;unfold Cut.begins LS.begins at*
  by_cases h1:aA0 x.r=true
  ·rw[if_pos h1]at hb ⊢;rw[if_pos h1];exact⟨f1,f2,f3,hb,by show(p:Int)=(M.p:Int);rw[hp],rfl,by show List.drop M.p _=_;rw[hp];exact h6,by show L.p+_=_;rw[h.at_],by show M.p<=_;omega⟩
  rw[if_neg h1]at hb ⊢;rw[if_neg h1]
  by_cases h2:(x.r:Int)=35
  ·rw[if_pos h2]at hb ⊢;rw[if_pos h2];exact⟨f1,f2,f3,hb,by show(p:Int)=(M.p:Int);rw[hp],rfl,by show List.drop M.p _=_;rw[hp];exact h6,by show L.p+_=_;rw[h.at_],by show M.p<=_;omega⟩
  rw[if_neg h2]at hb ⊢;rw[if_neg h2]
  by_cases h3:oK x.r=true
  ·rw[if_pos h3]at hb ⊢;rw[if_pos h3];exact⟨f1,f2,f3,hb,by show(p:Int)=(M.p:Int);rw[hp],rfl,by show List.drop M.p _=_;rw[hp];exact h6,by show L.p+_=_;rw[h.at_],by show M.p<=_;omega⟩
  rw[if_neg h3]at hb ⊢;rw[if_neg h3]
  by_cases h4:kZ x.r=true
  ·rw[if_pos h4]at hb ⊢;rw[if_pos h4];exact⟨f1,f2,f3,hb,by show(p:Int)=(M.p:Int);rw[hp],rfl,by show List.drop M.p _=_;rw[hp];exact h6,by show L.p+_=_;rw[h.at_],by show M.p<=_;omega⟩
  rw[if_neg h4]at hb ⊢;rw[if_neg h4]
  by_cases h5:bsB (Utf8.encode x.r).data.toList=true
  ·rw[if_pos h5]at hb ⊢;rw[if_pos h5];exact⟨f1,f2,f3,hb,by show(p:Int)=(M.p:Int);rw[hp],rfl,by show List.drop M.p _=_;rw[hp];exact h6,by show L.p+_=_;rw[h.at_],by show M.p<=_;omega⟩
  rw[if_neg h5]at hb;cases hb
theorem LsR.run:∀ (l:List Ch) (n p:Nat) (c:Cut) (L:LS),LsR s c L p->aW0 s p l->l.length < n->(L.run l).finish.bad=false->(c.run n p).words=(L.run l).finish.ws.reverse/\(c.run n p).code=0
 |[],n+1,p,c,L,h,hd,_,hb=>by
  have hd:p=s.size:=hd;have h0:c.run (n+1) p=c.finish p:=if_neg (by rw[h.text];omega);rw[h0];obtain⟨_,f2,f3⟩:=h.finish hb;exact⟨f2,f3⟩
 |x::l,n+1,p,c,L,h,hd,hn,hb=>by
  obtain⟨d1,d2,d3,d4,d5⟩:=hd
  have h2:(L.step x).bad=false:=by
   cases e:(L.step x).bad with
   |false=>rfl
   |true=>exact absurd (LS.finish_bad _ (LS.run_bad l (L.step x) e)) (by rw[LS.run_cons]at hb;simp[hb])
  have h1:=h.step d3 d4 h2;have e1:(Utf8.decode c.text p).1=x.r:=by rw[h.text,d2]
  have e2:(Utf8.decode c.text p).2=x.bs.length:=by rw[h.text,d2]
  have h0:c.run (n+1) p=(c.step p x.r).run n (p+x.bs.length):=by
   show(if p < c.text.size then _ else _)=_;rw[if_pos (by rw[h.text];exact d1),e1,e2,if_neg (by rw[h1.code];simp)]
  rw[h0];exact LsR.run l n _ _ _ h1 d5 (by simp at hn;omega) hb
theorem bH7:∀ (l:List Ch) (p:Nat),aW0 s p l->(∀ x∈l,0 < x.bs.length)->l.length+p<=s.size
 |[],p,h,_=>by have h:p=s.size:=h;simp[h]
 |x::l,p,h,hx=>by
  have h1:=bH7 l _ h.2.2.2.2 (fun y hy=>hx y (Ql _ hy));have h2:=hx x Qj;simp;omega
theorem aVN{l:List Ch}(hd:aW0 s 0 l)(hl:l.length<=s.size)(hb:(ls0.run l).finish.bad=false):(dN s).words=(ls0.run l).finish.ws.reverse/\(dN s).code=0:=
 LsR.run l (s.size+1) 0 ⟨s,[],0,0,0,0⟩ ls0 ⟨rfl,rfl,rfl,rfl,rfl,rfl,by simp[ls0],rfl,Qc _⟩ hd Oa hb
def asc(l:List UInt8):List Ch:=l.map fun b=>⟨b.toNat,[b]⟩
end
section
open Go.RowKit Go.Lib Go.Deep Go.ChangeMaps Go.MapKept
variable {F:cM} {its:List Tr}
structure SE(s s':Rs):Prop where
 vars:s.vars=s'.vars
 code:s.code=s'.code
theorem SE.refl(s:Rs):SE s s:=⟨rfl,rfl⟩
variable {s s':Rs}
theorem SE.failed(h:SE s s')(c p p':Int):SE (s.fail c p) (s'.fail c p'):=by
 unfold Rs.fail;rw[h.code]
 split
 ·exact⟨h.vars,rfl⟩
 ·exact h
theorem SE.addVar(h:SE s s')(x:ByteArray):SE (s.addVar x) (s'.addVar x):=⟨by show put x s.vars.length s.vars=put x s'.vars.length s'.vars;rw[h.vars],h.code⟩
theorem SE.oldVar(h:SE s s')(x:ByteArray)(p p':Int):SE (s.oldVar x p) (s'.oldVar x p'):=by
 unfold Rs.oldVar;rw[h.vars]
 split
 ·exact h
 ·exact h.failed _ _ _
theorem SE.newVar(h:SE s s')(x:ByteArray)(p p' m:Int):SE (s.newVar x p m) (s'.newVar x p' m):=by
 unfold Rs.newVar;rw[h.vars]
 split
 ·split
  ·exact(h.failed _ _ _).failed _ _ _
  ·exact h.failed _ _ _
 ·split
  ·exact h.failed _ _ _
  ·exact h
theorem bEQ(t:Tr):bCF (ep t)=ep (bCF t):=by cases t<;>rfl
theorem bGI(e:Tr)(n:Int):iX (ep e) n=ep (iX e n):=by cases e<;>rfl
theorem bIG(e:Tr):bN (ep e)=bN e:=by cases e<;>rfl
theorem bGK(e:Tr):eI (ep e)=eI e:=by cases e<;>rfl
theorem bGU(e:Tr):lH (ep e)=lH e:=by cases e<;>rfl
theorem bFW(t l:Tr):iS (ep t) (ep l)=ep (iS t l):=by cases t<;>rfl
theorem bIJ(t l r:Tr):bCU (ep t) (ep l) (ep r)=ep (bCU t l r):=by cases t<;>rfl
theorem bGX(t:Tr):lX (ep t)=ep (lX t):=by cases t<;>rfl
theorem bGW(t:Tr):qJ (ep t)=ep (qJ t):=by cases t<;>rfl
theorem bJC(t:Tr):aO (ep t)=aO t:=by
 induction t with
 |nil=>rfl
 |node b o a l r _ ih=>simp only[ep,aO,ih]
theorem bFA(t:Tr):aD (ep t)=aD t:=by
 cases t with
 |nil=>rfl
 |node b o a l r=>exact bJC l
theorem bHL:∀ (L:Tr) (nA nF:Nat),gaT (ep L) nA nF=ep (gaT L nA nF):=by
 intro L
 induction L with
 |nil=>intro _ _;rfl
 |node b o a e r _ ih=>
  intro nA nF;show(if bN (ep e)=16 then _ else _)=ep (if bN e=16 then _ else _);rw[bIG,bGI,bGI,ih,ih]
  split<;>rfl
theorem bJX:∀ (L:Tr) (i:Nat) (F:cM),gaF (ep L) i F=gaF L i F:=by
 intro L
 induction L with
 |nil=>intro _ _;rfl
 |node b o a e r _ ih=>
  intro i F;show gaF (ep r) (i+1) (if(look (eI (ep e)) F).isSome then F else put (eI (ep e)) i F)=_;rw[bGK,ih];rfl
theorem bJO(L:Tr):toL (ep L)=(toL L).map ep:=by
 induction L with
 |nil=>rfl
 |node b o a e r _ ih=>show ep e::toL (ep r)=_;rw[ih];rfl
theorem bFH(k:Nat)(L:Tr):aF k (ep L)=(aF k L).map ep:=by
 induction L with
 |nil=>rfl
 |node b o a e r _ ih=>
  show(if bN (ep e)=k then ep e::aF k (ep r)else aF k (ep r))=(if bN e=k then e::aF k r else aF k r:List Tr).map ep;rw[bIG,ih]
  split<;>rfl
theorem bH0(x:ByteArray):fP F (its.map ep) x=(fP F its x).map ep:=by
 unfold fP;cases look x F with
 |none=>rfl
 |some i=>simp[List.getElem?_map]
theorem bG7(x:ByteArray):fY F (its.map ep) x=(fY F its x).map ep:=by
 unfold fY;rw[bH0];cases fP F its x with
 |none=>rfl
 |some e=>
  cases e with
  |nil=>rfl
  |node b o a l r=>
   show(if a.tag=16 then _ else _)=Option.map ep (if a.tag=16 then _ else _)
   split<;>rfl
theorem bFB(x:ByteArray):eK F (its.map ep) x=(eK F its x).map ep:=by
 unfold eK;rw[bH0];cases fP F its x with
 |none=>rfl
 |some e=>
  cases e with
  |nil=>rfl
  |node b o a l r=>
   show(if a.tag=17 then _ else _)=Option.map ep (if a.tag=17 then _ else _)
   split<;>rfl
theorem SE.callName(h:SE s s')(x:ByteArray)(p p':Int)(n:Nat):SE (s.callName F (its.map ep) x p n) (s'.callName F its x p' n):=by
 unfold Rs.callName;rw[bFB];cases eK F its x with
 |none=>exact h.failed _ _ _
 |some e=>
  cases e with
  |nil=>exact h.failed _ _ _
  |node b o a l r=>
   show SE (if n=aD (ep l)then _ else _) (if n=aD l then _ else _);rw[bFA]
   split
   ·exact h
   ·exact h.failed _ _ _
theorem bI3(x:ByteArray)(n:Nat)(q:Int):iY F (its.map ep) x n q=iY F its x n q:=by
 unfold iY;rw[bFB];cases eK F its x with
 |none=>rfl
 |some e=>
  cases e with
  |nil=>rfl
  |node b o a l r=>
   show(if n=aD (ep l)then _ else _)=(if n=aD l then _ else _);rw[bFA];rfl
theorem SE.arrayName(h:SE s s')(x:ByteArray)(p p':Int):SE (s.arrayName F (its.map ep) x p) (s'.arrayName F its x p'):=by
 unfold Rs.arrayName;rw[bG7];cases fY F its x with
 |none=>exact h.failed _ _ _
 |some e=>exact h
theorem bI4(x:ByteArray)(q:Int):fL F (its.map ep) x q=fL F its x q:=by
 unfold fL;rw[bG7];cases fY F its x with
 |none=>rfl
 |some e=>exact bGU e
theorem SE.rs1(h:SE s s')(a:Nd)(n:Nat):SE (rs1 F (its.map ep) (epN a) n s) (rs1 F its a n s'):=by
 unfold YtikffmloeifkpaaGreatDoor.rs1;show SE (if a.tag=9 then(if a.flag=true then s.newVar a.name 0 12 else s.oldVar a.name 0)else if a.tag=1 then s.oldVar a.name 0 else if a.tag=2\/a.tag=10 then s.arrayName F (its.map ep) a.name 0 else if a.tag=3 then s.callName F (its.map ep) a.name 0 n else s) _
 split
 ·split
  ·exact h.newVar _ _ _ _
  ·exact h.oldVar _ _ _
 split
 ·exact h.oldVar _ _ _
 split
 ·exact h.arrayName _ _ _
 split
 ·exact h.callName _ _ _ _
 ·exact h
theorem bJN(h:SE s s')(a:Nd)(n:Nat):wh1 F (its.map ep) (epN a) n s=wh1 F its a n s':=by
 unfold wh1;show(if a.tag=1\/a.tag=9 then(look a.name s.vars).getD 0 else if a.tag=2\/a.tag=10 then fL F (its.map ep) a.name a.which else if a.tag=3 then iY F (its.map ep) a.name n a.which else a.which)=_;rw[bI4,bI3,h.vars]
theorem SE.rsT:∀ (t:Tr) {s s':Rs},SE s s'->SE (rsT F (its.map ep) (ep t) s) (rsT F its t s'):=by
 intro t
 induction t with
 |nil=>intro s s' h;exact h
 |node b o a l r ihl ihr=>
  intro s s' h;show SE (if a.tag=9/\a.flag=true then(YtikffmloeifkpaaGreatDoor.rsT F (its.map ep) (ep l) (YtikffmloeifkpaaGreatDoor.rs1 F (its.map ep) (epN a) (aD (ep l)) s)).addVar a.name else YtikffmloeifkpaaGreatDoor.rsT F (its.map ep) (ep r) (YtikffmloeifkpaaGreatDoor.rsT F (its.map ep) (ep l) (YtikffmloeifkpaaGreatDoor.rs1 F (its.map ep) (epN a) (aD (ep l)) s))) (if a.tag=9/\a.flag=true then(YtikffmloeifkpaaGreatDoor.rsT F its l (YtikffmloeifkpaaGreatDoor.rs1 F its a (aD l) s')).addVar a.name else YtikffmloeifkpaaGreatDoor.rsT F its r (YtikffmloeifkpaaGreatDoor.rsT F its l (YtikffmloeifkpaaGreatDoor.rs1 F its a (aD l) s')));rw[bFA]
  split
  ·exact(ihl (h.rs1 a _)).addVar _
  ·exact ihr (ihl (h.rs1 a _))
theorem bHG:∀ (t:Tr) {s s':Rs},SE s s'->reT F (its.map ep) (ep t) s=ep (reT F its t s'):=by
 intro t
 induction t with
 |nil=>intro s s' h;rfl
 |node b o a l r ihl ihr=>
  intro s s' h;have h1:=h.rs1 (F:=F) (its:=its) a (aD l);have h2:=SE.rsT (F:=F) (its:=its) l h1;show(if a.tag=9/\a.flag=true then BT.node 0 0 {epN a with which:=(YtikffmloeifkpaaGreatDoor.rsT F (its.map ep) (ep l) (YtikffmloeifkpaaGreatDoor.rs1 F (its.map ep) (epN a) (aD (ep l)) s)).vars.length} (reT F (its.map ep) (ep l) (YtikffmloeifkpaaGreatDoor.rs1 F (its.map ep) (epN a) (aD (ep l)) s)) (ep r)else .node 0 0 {epN a with which:=wh1 F (its.map ep) (epN a) (aD (ep l)) s} (reT F (its.map ep) (ep l) (YtikffmloeifkpaaGreatDoor.rs1 F (its.map ep) (epN a) (aD (ep l)) s)) (reT F (its.map ep) (ep r) (YtikffmloeifkpaaGreatDoor.rsT F (its.map ep) (ep l) (YtikffmloeifkpaaGreatDoor.rs1 F (its.map ep) (epN a) (aD (ep l)) s))))=ep (if a.tag=9/\a.flag=true then _ else _);rw[bFA,h2.vars,ihl h1,ihr h2,bJN h]
  split<;>rfl
theorem SE.param(h:SE s s')(x:ByteArray)(p p':Int):SE (s.param x p) (s'.param x p'):=(h.newVar x p p' 4).addVar x
theorem SE.parR:∀ (L:Tr) {s s':Rs},SE s s'->SE (jF (ep L) s) (jF L s'):=by
 intro L
 induction L with
 |nil=>intro s s' h;exact h
 |node b o a e r _ ih=>
  intro s s' h;show SE (YtikffmloeifkpaaGreatDoor.jF (ep r) (s.param (eI (ep e)) (bEN (ep e)))) (YtikffmloeifkpaaGreatDoor.jF r (s'.param (eI e) (bEN e)));rw[bGK];exact ih (h.param _ _ _)
theorem bJA:∀ (L:Tr) {s s':Rs},SE s s'->lE (ep L) s=ep (lE L s'):=by
 intro L
 induction L with
 |nil=>intro s s' h;rfl
 |node b o a e r _ ih=>
  intro s s' h;show BT.node 0 0 (epN a) (iX (ep e) s.vars.length) (lE (ep r) (s.param (eI (ep e)) (bEN (ep e))))=BT.node 0 0 (epN a) (ep (iX e s'.vars.length)) (ep (lE r (s'.param (eI e) (bEN e))));rw[bGK,bGI,h.vars,ih (h.param _ _ _)]
theorem SE.fifth(h:SE s s')(i:Nat)(p p':Int):SE (s.fifth i p) (s'.fifth i p'):=by
 unfold Rs.fifth
 split
 ·exact h.failed _ _ _
 ·exact h
theorem SE.whR:∀ (L:Tr) (i:Nat) {s s':Rs},SE s s'->SE (whR F (its.map ep) (ep L) i s) (whR F its L i s'):=by
 intro L
 induction L with
 |nil=>intro i s s' h;exact h
 |node b o a e r _ ih=>
  intro i s s' h;show SE (YtikffmloeifkpaaGreatDoor.whR F (its.map ep) (ep r) (i+1) (YtikffmloeifkpaaGreatDoor.rsT F (its.map ep) (qJ (ep e)) ((YtikffmloeifkpaaGreatDoor.rsT F (its.map ep) (lX (ep e)) s).fifth i (mF (ep e))))) (YtikffmloeifkpaaGreatDoor.whR F its r (i+1) (YtikffmloeifkpaaGreatDoor.rsT F its (qJ e) ((YtikffmloeifkpaaGreatDoor.rsT F its (lX e) s').fifth i (mF e))));rw[bGX,bGW];exact ih _ (SE.rsT _ ((SE.rsT _ h).fifth _ _ _))
theorem bJM:∀ (L:Tr) (i:Nat) {s s':Rs},SE s s'->whT F (its.map ep) (ep L) i s=ep (whT F its L i s'):=by
 intro L
 induction L with
 |nil=>intro i s s' h;rfl
 |node b o a e r _ ih=>
  intro i s s' h;have h1:=(SE.rsT (F:=F) (its:=its) (lX e) h).fifth i (mF (ep e)) (mF e);have h2:=SE.rsT (F:=F) (its:=its) (qJ e) h1;show BT.node 0 0 (epN a) (bCU (ep e) (reT F (its.map ep) (lX (ep e)) s) (reT F (its.map ep) (qJ (ep e)) ((YtikffmloeifkpaaGreatDoor.rsT F (its.map ep) (lX (ep e)) s).fifth i (mF (ep e))))) (whT F (its.map ep) (ep r) (i+1) (YtikffmloeifkpaaGreatDoor.rsT F (its.map ep) (qJ (ep e)) ((YtikffmloeifkpaaGreatDoor.rsT F (its.map ep) (lX (ep e)) s).fifth i (mF (ep e)))))=BT.node 0 0 (epN a) (ep _) (ep _);rw[bGX,bGW,bHG _ h,bHG _ h1,ih _ h2,bIJ]
theorem SE.few(h:SE s s')(a:Nd):SE (s.few (epN a)) (s'.few a):=by
 unfold Rs.few;show SE (if 8<=a.which then _ else _) _
 split
 ·exact h.failed _ _ _
 ·exact h
theorem SE.clear(h:SE s s'):SE s.clear s'.clear:=⟨rfl,h.code⟩
theorem bIT(h:SE s s')(a:Nd)(l p:Tr):SE (fnS F (its.map ep) (epN a) (ep l) (ep p) s).1 (fnS F its a l p s').1/\SE (fnS F (its.map ep) (epN a) (ep l) (ep p) s).2 (fnS F its a l p s').2:=by
 have h1:=SE.parR (bCF l) (h.few a).clear;unfold fnS;rw[bEQ,bEQ];exact⟨h1,SE.whR (bCF p) 0 h1⟩
theorem SE.twice(h:SE s s')(a:Nd)(i:Nat):SE (s.twice F (epN a) i) (s'.twice F a i):=by
 unfold Rs.twice;show SE (if(look a.name F).getD 0=(i:Int)then _ else _) _
 split
 ·exact h
 ·exact h.failed _ _ _
theorem SE.arr(h:SE s s')(a:Nd):SE (s.arr (epN a)) (s'.arr a):=by
 have h6:SE (s.six (epN a)) (s'.six a):=by
  unfold Rs.six;show SE (if 6<=a.which then _ else _) _
  split
  ·exact h.failed _ _ _
  ·exact h
 unfold Rs.arr;show SE (if mH a then _ else _) _
 split
 ·exact h6.failed _ _ _
 ·exact h6
theorem bJZ(h:SE s s')(e:Tr):SE (fnR F (its.map ep) (ep e) s) (fnR F its e s'):=by
 cases e with
 |nil=>exact h
 |node b o a l r=>
  cases r with
  |nil=>exact h
  |node x y z p q=>exact SE.rsT q (bIT h a l p).2
theorem bJY(h:SE s s')(e:Tr):fnT F (its.map ep) (ep e) s=ep (fnT F its e s'):=by
 cases e with
 |nil=>rfl
 |node b o a l r=>
  cases r with
  |nil=>rfl
  |node x y z p q=>
   obtain⟨h1,h2⟩:=bIT (F:=F) (its:=its) h a l p;show BT.node 0 0 {epN a with val:=(YtikffmloeifkpaaGreatDoor.rsT F (its.map ep) (ep q) (fnS F (its.map ep) (epN a) (ep l) (ep p) s).2).vars.length} (iS (ep l) (lE (bCF (ep l)) (s.few (epN a)).clear)) (.node 0 0 (epN z) (iS (ep p) (whT F (its.map ep) (bCF (ep p)) 0 (fnS F (its.map ep) (epN a) (ep l) (ep p) s).1)) (reT F (its.map ep) (ep q) (fnS F (its.map ep) (epN a) (ep l) (ep p) s).2))=_;rw[(SE.rsT q h2).vars,bEQ,bEQ,bJA _ (h.few a).clear,bJM _ _ h1,bHG _ h2,bFW,bFW];rfl
theorem SE.itR(h:SE s s')(e:Tr)(i:Nat):SE (itR F (its.map ep) (ep e) i s) (itR F its e i s'):=by
 cases e with
 |nil=>exact h
 |node b o a l r=>
  show SE (if a.tag=16 then(s.twice F (epN a) i).arr (epN a)else fnR F (its.map ep) (ep (.node b o a l r)) (s.twice F (epN a) i)) (if a.tag=16 then(s'.twice F a i).arr a else fnR F its (.node b o a l r) (s'.twice F a i))
  split
  ·exact(h.twice a i).arr a
  ·exact bJZ (h.twice a i) _
theorem bJW(h:SE s s')(e:Tr)(i:Nat):itT F (its.map ep) (ep e) i s=ep (itT F its e i s'):=by
 cases e with
 |nil=>rfl
 |node b o a l r=>
  show(if a.tag=16 then ep (.node b o a l r)else fnT F (its.map ep) (ep (.node b o a l r)) (s.twice F (epN a) i))=ep (if a.tag=16 then .node b o a l r else fnT F its (.node b o a l r) (s'.twice F a i))
  split
  ·rfl
  ·exact bJY (h.twice a i) _
theorem SE.itsR:∀ (L:Tr) (i:Nat) {s s':Rs},SE s s'->SE (aAC F (its.map ep) (ep L) i s) (aAC F its L i s'):=by
 intro L
 induction L with
 |nil=>intro i s s' h;exact h
 |node b o a e r _ ih=>intro i s s' h;exact ih _ (h.itR e i)
theorem bJE:∀ (L:Tr) (i:Nat) {s s':Rs},SE s s'->hY F (its.map ep) (ep L) i s=ep (hY F its L i s'):=by
 intro L
 induction L with
 |nil=>intro i s s' h;rfl
 |node b o a e r _ ih=>
  intro i s s' h;show BT.node 0 0 (epN a) (itT F (its.map ep) (ep e) i s) (hY F (its.map ep) (ep r) (i+1) (YtikffmloeifkpaaGreatDoor.itR F (its.map ep) (ep e) i s))=BT.node 0 0 (epN a) (ep _) (ep _);rw[bJW h,ih _ (h.itR e i)]
theorem bFI(t:Tr):fC (ep t)=(fC t).map ep:=by unfold fC;rw[bEQ,bHL,bJO]
theorem bF5(t:Tr):dB (ep t)=dB t:=by unfold dB;rw[bEQ,bJX]
theorem bHR(t:Tr):SE (aFV (ep t)) (aFV t):=by unfold aFV;rw[bF5,bFI,bEQ,bHL];exact SE.itsR _ _ (SE.refl _)
theorem bHQ(t:Tr)(n n':Int):SE (fO (ep t) n) (fO t n'):=by
 unfold fO;rw[bF5,bFI,bFB];cases eK (dB t) (fC t) rF with
 |none=>exact(bHR t).failed _ _ _
 |some e=>exact bHR t
theorem bF8(t:Tr):dY (ep t)=ep (dY t):=by unfold dY;rw[bF5,bFI,bEQ,bHL,bJE _ _ (SE.refl _),bFW]
theorem bFG(t:Tr):qV (ep t)=qV t:=by
 unfold qV;rw[bF5,bFI,bFB];cases eK (dB t) (fC t) rF with
 |none=>rfl
 |some e=>exact bGU e
theorem bIM{t t':Tr}(h:ep t=ep t')(n n':Int):(fO t n).code=(fO t' n').code/\ep (dY t)=ep (dY t')/\qV t=qV t':=
 ⟨by rw[<-(bHQ t 0 n).code,h,(bHQ t' 0 n').code],by rw[<-bF8,h,bF8],by rw[<-bFG,h,bFG]⟩
end
section
open Go.RowKit Go.Lib Go.Deep
def up(k:Nat)(r:Rn):Rn:={r with fuel:=r.fuel+k}
structure Sp(s b:Rn):Prop where
 fin:s.fin=3
 outs:s.outs <+:b.outs
theorem Sp.gr{s b s' b':Rn}(h:Sp s b)(g:Gr s s')(g':Gr b b'):Sp s' b':=by
 obtain⟨e1,e2⟩:=g.dead (by rw[h.fin];decide);exact⟨e1.trans h.fin,by rw[e2];exact h.outs.trans g'.outs⟩
variable {k:Nat} {lens:Nat->Int} {Cs Cb:Cl} {vars:Nat->Int} {d:Nat}
end
end Go.Proofs.YtikffmloeifkpaaGreatDoor
