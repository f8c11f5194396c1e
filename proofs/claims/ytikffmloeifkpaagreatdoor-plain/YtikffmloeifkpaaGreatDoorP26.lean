/- Contracts. -/
import Derived.Test.YtikffmloeifkpaaGreatDoorP19
namespace Go.Proofs.YtikffmloeifkpaaGreatDoor
open Go.RowKit Go.Lib
structure LS where
 ws:List Tok
 bad:Bool
 start:Nat
 mode:Int
 acc:List UInt8
 p:Nat
def LS.goes(c:LS)(r:Int):Bool:=
 if c.mode=1 then r !=10 else if c.mode=2 then oK r||kZ r else if c.mode=3 then kZ r
 else if c.mode=4 then bsB (c.acc++(Utf8.encode r).data.toList)else false
def LS.push(c:LS)(k v:Int)(t:ByteArray):LS:={c with ws:=⟨k,c.start,t,v⟩::c.ws}
def LS.fail(c:LS):LS:={c with bad:=true}
def LS.finish(c:LS):LS:=
 if c.mode=2 then(if 12 < Lib.runeCount ⟨c.acc.toArray⟩then c.fail else if spB c.acc then c.push (spK c.acc) 0 (ByteArray.mk #[])else c.push 1 0 ⟨c.acc.toArray⟩)
 else if c.mode=3 then(if 999999999 < rA c.acc then c.fail else c.push 2 (rA c.acc) (ByteArray.mk #[]))
 else if c.mode=4 then(if spB c.acc then c.push (spK c.acc) 0 (ByteArray.mk #[])else c.fail)
 else c
def LS.begins(c:LS)(r:Int):LS:=
 if aA0 r then {c with start:=c.p,mode:=0}else if r=35 then {c with start:=c.p,mode:=1}
 else if oK r then {c with start:=c.p,mode:=2}else if kZ r then {c with start:=c.p,mode:=3}
 else if bsB (Utf8.encode r).data.toList then {c with start:=c.p,mode:=4}else {c with start:=c.p,bad:=true}
structure Ch where
 r:Nat
 bs:List UInt8
def LS.step(c:LS)(x:Ch):LS:=
 if c.goes x.r then {c with acc:=c.acc++x.bs,p:=c.p+x.bs.length}else {(c.finish.begins x.r)with acc:=x.bs,p:=c.p+x.bs.length}
def LS.run(c:LS)(l:List Ch):LS:=l.foldl LS.step c
def ls0:LS:=⟨[],false,0,0,[],0⟩
theorem LS.run_append(c:LS)(a b:List Ch):c.run (a++b)=(c.run a).run b:=List.foldl_append
theorem LS.run_cons(c:LS)(x:Ch)(b:List Ch):c.run (x::b)=(c.step x).run b:=rfl
def aW0(s:ByteArray):Nat->List Ch->Prop
 |p,[]=>p=s.size
 |p,x::l=>p < s.size/\Utf8.decode s p=(x.r,x.bs.length)/\vH s p x.r=false/\(s.data.toList.take (p+x.bs.length)).drop p=x.bs/\aW0 s (p+x.bs.length) l
theorem LS.finish_bad(c:LS)(h:c.bad=true):c.finish.bad=true:=by
 unfold LS.finish LS.push LS.fail
 repeat' split
 all_goals simp[h]
theorem LS.begins_bad(c:LS)(r:Int)(h:c.bad=true):(c.begins r).bad=true:=by
 unfold LS.begins
 repeat' split
 all_goals simp[h]
theorem LS.step_bad(c:LS)(x:Ch)(h:c.bad=true):(c.step x).bad=true:=by
 unfold LS.step
 split
 ·exact h
 ·exact(c.finish).begins_bad x.r (c.finish_bad h)
theorem LS.run_bad:∀ (l:List Ch) (c:LS),c.bad=true->(c.run l).bad=true
 |[],_,h=>h
 |x::l,c,h=>LS.run_bad l (c.step x) (c.step_bad x h)
theorem LS.finish_keeps(c:LS):c.finish.start=c.start/\c.finish.mode=c.mode/\c.finish.acc=c.acc/\c.finish.p=c.p:=by
 unfold LS.finish LS.push LS.fail
 repeat' split
 all_goals simp
structure LsR(s:ByteArray)(c:Cut)(L:LS)(p:Nat):Prop where
 text:c.text=s
 words:c.words=L.ws.reverse
 code:c.code=0
 bad:L.bad=false
 start:c.start=L.start
 mode:c.mode=L.mode
 acc:(s.data.toList.take p).drop L.start=L.acc
 at_:L.p=p
 le:L.start<=p
variable {s:ByteArray} {c:Cut} {L:LS} {p:Nat}
theorem LsR.piece(h:LsR s c L p):c.text.extract c.start.toNat p=⟨L.acc.toArray⟩:=by
 have h1:(c.text.extract c.start.toNat p).data.toList=L.acc:=by
  rw[h.text,h.start,Int.toNat_natCast,Lib.extract_data,<-h.acc,List.drop_take]
 rw[<-h1]
theorem LsR.finish(h:LsR s c L p)(hb:L.finish.bad=false):(c.finish p).text=s/\(c.finish p).words=L.finish.ws.reverse/\(c.finish p).code=0:=by
 have hp:=h.piece;unfold Cut.finish LS.finish at*;rw[h.mode]
 by_cases h2:L.mode=2
 ·rw[if_pos h2,if_pos h2]at*;unfold Cut.named;rw[hp]
  by_cases ha:12 < Lib.runeCount ⟨L.acc.toArray⟩
  ·rw[if_pos ha]at hb;cases hb
  ·rw[if_neg ha]at hb ⊢;rw[if_neg ha]
   by_cases hs:spB L.acc=true
   ·rw[if_pos hs,if_pos (show spB L.acc.toArray.toList=true by simpa using hs)];exact⟨h.text,by simp[Cut.push,LS.push,h.words,h.start],h.code⟩
   ·rw[if_neg hs,if_neg (show ¬spB L.acc.toArray.toList=true by simpa using hs)];exact⟨h.text,by simp[Cut.push,LS.push,h.words,h.start],h.code⟩
 rw[if_neg h2,if_neg h2]at*
 by_cases h3:L.mode=3
 ·rw[if_pos h3,if_pos h3]at*;unfold Cut.number;rw[hp]
  by_cases ha:999999999 < rA L.acc
  ·rw[if_pos ha]at hb;cases hb
  ·rw[if_neg ha]at hb ⊢;rw[if_neg (show ¬999999999 < rA L.acc.toArray.toList by simpa using ha)];exact⟨h.text,by simp[Cut.push,LS.push,h.words,h.start],h.code⟩
 rw[if_neg h3,if_neg h3]at*
 by_cases h4:L.mode=4
 ·rw[if_pos h4,if_pos h4]at*;unfold Cut.sign;rw[hp]
  by_cases hs:spB L.acc=true
  ·rw[if_pos hs,if_pos (show spB L.acc.toArray.toList=true by simpa using hs)];exact⟨h.text,by simp[Cut.push,LS.push,h.words,h.start],h.code⟩
  ·rw[if_neg hs]at hb;cases hb
 rw[if_neg h4,if_neg h4]at*;exact⟨h.text,h.words,h.code⟩
theorem LsR.goes(h:LsR s c L p){r:Int}(hr:vH s p r=false):c.goes p r=L.goes r:=by
 unfold Cut.goes LS.goes;rw[h.mode,h.text,hr,h.start,Int.toNat_natCast,h.acc];simp
theorem LsR.step(h:LsR s c L p){x:Ch}(hr:vH s p x.r=false)(hx:(s.data.toList.take (p+x.bs.length)).drop p=x.bs)(hb:(L.step x).bad=false):LsR s (c.step p x.r) (L.step x) (p+x.bs.length):=by
 have hg:=h.goes hr;unfold Cut.step LS.step at*;rw[hg]
 by_cases h7:L.goes x.r=true
 ·rw[if_pos h7,if_pos h7];refine⟨h.text,h.words,h.code,h.bad,h.start,h.mode,?_,by rw[h.at_],by have:=h.le;show L.start<=_;omega⟩;show(s.data.toList.take (p+x.bs.length)).drop L.start=L.acc++x.bs
  have h1:s.data.toList.take (p+x.bs.length)=s.data.toList.take p++((s.data.toList.take (p+x.bs.length)).drop p):=by
   conv=>lhs;rw[<-List.take_append_drop p (s.data.toList.take (p+x.bs.length))]
   rw[List.take_take,Nat.min_eq_left (by omega)]
  rw[h1,hx,List.drop_append,h.acc]
  congr 1
  by_cases hz:x.bs=[]
  ·rw[hz];simp
  ·have hlen:p+x.bs.length<=s.data.toList.length:=by
    have:=congrArg List.length hx;rw[List.length_drop,List.length_take]at this;have h0:0 < x.bs.length:=List.length_pos_iff.2 hz;omega
   have h8:=h.le;rw[List.length_take,Nat.min_eq_left (by omega),Nat.sub_eq_zero_of_le h8];rfl
 ·rw[if_neg h7]at hb ⊢;rw[if_neg h7]
  have h9:L.finish.bad=false:=by
   cases e:L.finish.bad with
   |false=>rfl
   |true=>exact absurd (L.finish.begins_bad x.r e) (by simpa using hb)
  obtain⟨f1,f2,f3⟩:=h.finish h9;obtain⟨k1,k2,k3,k4⟩:=L.finish_keeps;have hp:L.finish.p=p:=k4.trans h.at_;have h6:(s.data.toList.take (p+x.bs.length)).drop p=x.bs:=hx;generalize c.finish p=C at*;generalize L.finish=M at*;unfold Cut.begins LS.begins at*
  by_cases h1:aA0 x.r=true
  ·rw[if_pos h1]at hb ⊢;rw[if_pos h1];exact⟨f1,f2,f3,hb,by show(p:Int)=(M.p:Int);rw[hp],rfl,by show List.drop M.p _=_;rw[hp];exact h6,by show L.p+_=_;rw[h.at_],by show M.p<=_;omega⟩
  rw[if_neg h1]at hb ⊢;rw[if_neg h1]
  by_cases h2:(x.r:Int)=35
  ·rw[if_pos h2]at hb ⊢;rw[if_pos h2];exact⟨f1,f2,f3,hb,by show(p:Int)=(M.p:Int);rw[hp],rfl,by show List.drop M.p _=_;rw[hp];exact h6,by show L.p+_=_;rw[h.at_],by show M.p<=_;omega⟩
  rw[if_neg h2]at hb ⊢;rw[if_neg h2]
  by_cases h3:oK x.r=true
  ·rw[if_pos h3]at hb ⊢;rw[if_pos h3];exact⟨f1,f2,f3,hb,by show(p:Int)=(M.p:Int);rw[hp],rfl,by show List.drop M.p _=_;rw[hp];exact h6,by show L.p+_=_;rw[h.at_],by show M.p<=_;omega⟩
  rw[if_neg h3]at hb ⊢;rw[if_neg h3]
  by_cases h4:kZ x.r=true
  ·rw[if_pos h4]at hb ⊢;rw[if_pos h4];exact⟨f1,f2,f3,hb,by show(p:Int)=(M.p:Int);rw[hp],rfl,by show List.drop M.p _=_;rw[hp];exact h6,by show L.p+_=_;rw[h.at_],by show M.p<=_;omega⟩
  rw[if_neg h4]at hb ⊢;rw[if_neg h4]
  by_cases h5:bsB (Utf8.encode x.r).data.toList=true
  ·rw[if_pos h5]at hb ⊢;rw[if_pos h5];exact⟨f1,f2,f3,hb,by show(p:Int)=(M.p:Int);rw[hp],rfl,by show List.drop M.p _=_;rw[hp];exact h6,by show L.p+_=_;rw[h.at_],by show M.p<=_;omega⟩
  rw[if_neg h5]at hb;cases hb
theorem LsR.run:∀ (l:List Ch) (n p:Nat) (c:Cut) (L:LS),LsR s c L p->aW0 s p l->l.length < n->(L.run l).finish.bad=false->(c.run n p).words=(L.run l).finish.ws.reverse/\(c.run n p).code=0
 |[],n+1,p,c,L,h,hd,_,hb=>by
  have hd:p=s.size:=hd;have h0:c.run (n+1) p=c.finish p:=if_neg (by rw[h.text];omega);rw[h0];obtain⟨_,f2,f3⟩:=h.finish hb;exact⟨f2,f3⟩
 |x::l,n+1,p,c,L,h,hd,hn,hb=>by
  obtain⟨d1,d2,d3,d4,d5⟩:=hd
  have h2:(L.step x).bad=false:=by
   cases e:(L.step x).bad with
   |false=>rfl
   |true=>exact absurd (LS.finish_bad _ (LS.run_bad l (L.step x) e)) (by rw[LS.run_cons]at hb;simp[hb])
  have h1:=h.step d3 d4 h2;have e1:(Utf8.decode c.text p).1=x.r:=by rw[h.text,d2]
  have e2:(Utf8.decode c.text p).2=x.bs.length:=by rw[h.text,d2]
  have h0:c.run (n+1) p=(c.step p x.r).run n (p+x.bs.length):=by
   show(if p < c.text.size then _ else _)=_;rw[if_pos (by rw[h.text];exact d1),e1,e2,if_neg (by rw[h1.code];simp)]
  rw[h0];exact LsR.run l n _ _ _ h1 d5 (by simp at hn;omega) hb
theorem aVN{l:List Ch}(hd:aW0 s 0 l)(hl:l.length<=s.size)(hb:(ls0.run l).finish.bad=false):(dN s).words=(ls0.run l).finish.ws.reverse/\(dN s).code=0:=
 LsR.run l (s.size+1) 0 ⟨s,[],0,0,0,0⟩ ls0 ⟨rfl,rfl,rfl,rfl,rfl,rfl,by simp[ls0],rfl,Nat.le_refl _⟩ hd (by omega) hb
def asc(l:List UInt8):List Ch:=l.map fun b=>⟨b.toNat,[b]⟩
theorem aVJ{l:List UInt8}(hs:s.data.toList=l):∀ (k:Nat) (m:List UInt8),l.drop k=m->(∀ b∈m,b.toNat < 128)->k<=l.length->aW0 s k (asc m)
 |k,[],h,_,hk=>by
  have:l.length<=k:=by simpa using h
  show k=s.size;rw[show s.size=l.length by rw[<-hs];rfl];omega
 |k,b::m,h,ha,hk=>by
  have hk2:k < l.length:=by
   have:=congrArg List.length h;simp at this;omega
  have hz:s.size=l.length:=by rw[<-hs];rfl
  have hb:l[k]=b:=by
   have h0:=congrArg (fun q:List UInt8=>q[0]?) h;simp[List.getElem?_drop]at h0;exact(List.getElem?_eq_some_iff.1 h0).2
  have h2:s[k]'(by omega)=b:=by
   rw[<-hb];simp only[<-hs];rfl
  have h3:=ha b List.mem_cons_self;have h1:=decode_ascii s k (by omega) (by rw[h2];exact h3);refine⟨by omega,?_,?_,?_,?_⟩
  ·rw[h1,h2];rfl
  ·unfold vH;rw[decide_eq_false (by show ¬((b.toNat:Int)=65533);omega)];rfl
  ·show(s.data.toList.take (k+1)).drop k=[b];rw[hs,List.drop_take,h];simp
  ·exact aVJ hs (k+1) m (by rw[<-List.drop_drop,h];rfl) (fun x hx=>ha x (List.mem_cons_of_mem _ hx)) (by omega)
theorem aUX{l:List UInt8}(hs:s.data.toList=l)(ha:∀ b∈l,b.toNat < 128)(hb:(ls0.run (asc l)).finish.bad=false):(dN s).words=(ls0.run (asc l)).finish.ws.reverse/\(dN s).code=0:=
 aVN (aVJ hs 0 l rfl ha (Nat.zero_le _)) (by show(l.map _).length<=_;rw[List.length_map,<-hs];exact Nat.le_refl _) hb
end Go.Proofs.YtikffmloeifkpaaGreatDoor
namespace Go.Proofs.YtikffmloeifkpaaGreatDoor
open Go.RowKit Go.Lib
def nm(l:List UInt8):ByteArray:=⟨l.toArray⟩
def e0:ByteArray:=ByteArray.mk #[]
def fW(n:Nat):List UInt8:=if n < 10 then[UInt8.ofNat (48+n)]else[UInt8.ofNat (48+n / 10),UInt8.ofNat (48+n % 10)]
def aVU(n:Nat):Bool:=decide (rA (fW n)=n)&&(fW n).all fun b=>decide (48<=b.toNat/\b.toNat<=57)
theorem aVI:(List.range 100).all aVU=true:=by decide+kernel
theorem aVS{n:Nat}(h:n < 100):rA (fW n)=n:=by
 have:=List.all_eq_true.1 aVI n (List.mem_range.2 h);unfold aVU at this;simp only[Bool.and_eq_true,decide_eq_true_eq]at this;exact this.1
theorem aVH{n:Nat}(h:n < 100):∀ b∈fW n,48<=b.toNat/\b.toNat<=57:=by
 have:=List.all_eq_true.1 aVI n (List.mem_range.2 h);unfold aVU at this;simp only[Bool.and_eq_true,List.all_eq_true,decide_eq_true_eq]at this;exact this.2
theorem aVX(n:Nat):fW n≠[]:=by unfold fW;split<;>simp
theorem aVL(W:List Tok)(st p:Nat):∀ (l acc:List UInt8) (k:Nat),(∀ b∈l,48<=b.toNat/\b.toNat<=57)->LS.run ⟨W,false,p,3,acc,k⟩ (asc l)=⟨W,false,p,3,acc++l,k+l.length⟩
 |[],acc,k,_=>by simp[asc,LS.run]
 |b::l,acc,k,h=>by
  have hb:=h b List.mem_cons_self;show LS.run (LS.step ⟨W,false,p,3,acc,k⟩ ⟨b.toNat,[b]⟩) (asc l)=_
  have hs:LS.step ⟨W,false,p,3,acc,k⟩ ⟨b.toNat,[b]⟩=⟨W,false,p,3,acc++[b],k+1⟩:=by
   unfold LS.step;rw[if_pos (show LS.goes _ _=true by show kZ (b.toNat:Int)=true;unfold kZ;exact decide_eq_true (by omega))];rfl
  rw[hs,aVL W st p l _ _ (fun x hx=>h x (List.mem_cons_of_mem _ hx))];simp;omega
theorem aUO(W:List Tok)(st p:Nat)(acc:List UInt8){n:Nat}(hn:n < 100):LS.run ⟨W,false,st,0,acc,p⟩ (asc (fW n))=⟨W,false,p,3,fW n,p+(fW n).length⟩:=by
 have hd:=aVH hn;generalize hl:fW n=l at*;cases l with
 |nil=>exact absurd hl (aVX n)
 |cons b l=>
  have hb:=hd b List.mem_cons_self;show LS.run (LS.step ⟨W,false,st,0,acc,p⟩ ⟨b.toNat,[b]⟩) (asc l)=_
  have hs:LS.step ⟨W,false,st,0,acc,p⟩ ⟨b.toNat,[b]⟩=⟨W,false,p,3,[b],p+1⟩:=by
   unfold LS.step;rw[if_neg (show ¬LS.goes _ _=true by show ¬false=true;simp)];show({LS.begins ⟨W,false,st,0,acc,p⟩ (b.toNat:Int)with acc:=[b],p:=p+1}:LS)=_;unfold LS.begins;rw[if_neg (show ¬aA0 (b.toNat:Int)=true by unfold aA0;simp;omega),if_neg (by omega),if_neg (show ¬oK (b.toNat:Int)=true by unfold oK;simp;omega),if_pos (show kZ (b.toNat:Int)=true by unfold kZ;simp;omega)]
  rw[hs,aVL W st p l _ _ (fun x hx=>hd x (List.mem_cons_of_mem _ hx))];simp;omega
theorem aUQ(W:List Tok)(st p:Nat){n:Nat}(hn:n < 100)(b:UInt8)(rest:List UInt8)(hb:kZ b.toNat=false):LS.run ⟨W,false,st,3,fW n,p⟩ (asc (b::rest))=LS.run {((⟨⟨2,st,e0,n⟩::W,false,st,3,fW n,p⟩:LS).begins b.toNat)with acc:=[b],p:=p+1} (asc rest):=by
 show LS.run (LS.step ⟨W,false,st,3,fW n,p⟩ ⟨b.toNat,[b]⟩) (asc rest)=_
 congr 1
 unfold LS.step;rw[if_neg (show ¬LS.goes _ _=true by show ¬kZ (b.toNat:Int)=true;rw[hb];simp)]
 have hf:LS.finish ⟨W,false,st,3,fW n,p⟩=⟨⟨2,st,e0,n⟩::W,false,st,3,fW n,p⟩:=by
  show(if 999999999 < rA (fW n)then _ else _)=_;rw[aVS hn,if_neg (by omega)];rfl
 rw[hf];rfl
theorem aUS(a b:List UInt8):asc (a++b)=asc a++asc b:=List.map_append
theorem aUN{n:Nat}(h:n < 100):∀ b∈fW n,b.toNat < 128:=fun b hb=>by have:=aVH h b hb;omega
set_option maxRecDepth 100000
def aVD:List UInt8:=[97,114,114,32,97,32]
def aVC:List UInt8:=[59,32,102,110,32,109,97,105,110,40,120,41,32,123,32,108,101,116,32,105,32,61,32,48,59,32,108,101,116,32,115,32,61,32,48,59,32,119,104,105,108,101,32,105,32,60,32]
def aVB:List UInt8:=[32,123,32,97,91,105,93,32,61,32,105,32,42,32,120,59,32,115,32,61,32,115,32,43,32,97,91,105,93,59,32,105,32,61,32,105,32,43,32]
def aVA:List UInt8:=[59,32,125,32,114,101,116,117,114,110,32,115,59,32,125]
def txA(n s:Nat):ByteArray:=⟨(aVD++(fW n++(aVC++(fW n++(aVB++(fW s++(aVA))))))).toArray⟩
def tkA(q:Nat->Int)(n s:Int):List Tok:=[⟨3,q 0,e0,0⟩,⟨1,q 1,(nm [97]),0⟩,⟨2,q 2,e0,n⟩,⟨19,q 3,e0,0⟩,⟨4,q 4,e0,0⟩,⟨1,q 5,(nm [109,97,105,110]),0⟩,⟨12,q 6,e0,0⟩,⟨1,q 7,(nm [120]),0⟩,⟨13,q 8,e0,0⟩,⟨14,q 9,e0,0⟩,⟨6,q 10,e0,0⟩,⟨1,q 11,(nm [105]),0⟩,⟨20,q 12,e0,0⟩,⟨2,q 13,e0,0⟩,⟨19,q 14,e0,0⟩,⟨6,q 15,e0,0⟩,⟨1,q 16,(nm [115]),0⟩,⟨20,q 17,e0,0⟩,⟨2,q 18,e0,0⟩,⟨19,q 19,e0,0⟩,⟨9,q 20,e0,0⟩,⟨1,q 21,(nm [105]),0⟩,⟨23,q 22,e0,0⟩,⟨2,q 23,e0,n⟩,⟨14,q 24,e0,0⟩,⟨1,q 25,(nm [97]),0⟩,⟨16,q 26,e0,0⟩,⟨1,q 27,(nm [105]),0⟩,⟨17,q 28,e0,0⟩,⟨20,q 29,e0,0⟩,⟨1,q 30,(nm [105]),0⟩,⟨29,q 31,e0,0⟩,⟨1,q 32,(nm [120]),0⟩,⟨19,q 33,e0,0⟩,⟨1,q 34,(nm [115]),0⟩,⟨20,q 35,e0,0⟩,⟨1,q 36,(nm [115]),0⟩,⟨27,q 37,e0,0⟩,⟨1,q 38,(nm [97]),0⟩,⟨16,q 39,e0,0⟩,⟨1,q 40,(nm [105]),0⟩,⟨17,q 41,e0,0⟩,⟨19,q 42,e0,0⟩,⟨1,q 43,(nm [105]),0⟩,⟨20,q 44,e0,0⟩,⟨1,q 45,(nm [105]),0⟩,⟨27,q 46,e0,0⟩,⟨2,q 47,e0,s⟩,⟨19,q 48,e0,0⟩,⟨15,q 49,e0,0⟩,⟨10,q 50,e0,0⟩,⟨1,q 51,(nm [115]),0⟩,⟨19,q 52,e0,0⟩,⟨15,q 53,e0,0⟩,⟨0,q 54,e0,0⟩]
theorem sA0:LS.run ls0 (asc aVD)=⟨[⟨1,4,nm [97],0⟩,⟨3,0,e0,0⟩],false,5,0,[32],6⟩:=by kernel_rfl
theorem sA1(V:List Tok)(st p:Nat)(acc:List UInt8):LS.run {((⟨V,false,st,3,acc,p⟩:LS).begins (59:UInt8).toNat)with acc:=[59],p:=p+1} (asc [32,102,110,32,109,97,105,110,40,120,41,32,123,32,108,101,116,32,105,32,61,32,48,59,32,108,101,116,32,115,32,61,32,48,59,32,119,104,105,108,101,32,105,32,60,32])=⟨[⟨23,((p+45:Nat):Int),e0,0⟩,⟨1,((p+43:Nat):Int),nm [105],0⟩,⟨9,((p+37:Nat):Int),e0,0⟩,⟨19,((p+35:Nat):Int),e0,0⟩,⟨2,((p+34:Nat):Int),e0,0⟩,⟨20,((p+32:Nat):Int),e0,0⟩,⟨1,((p+30:Nat):Int),nm [115],0⟩,⟨6,((p+26:Nat):Int),e0,0⟩,⟨19,((p+24:Nat):Int),e0,0⟩,⟨2,((p+23:Nat):Int),e0,0⟩,⟨20,((p+21:Nat):Int),e0,0⟩,⟨1,((p+19:Nat):Int),nm [105],0⟩,⟨6,((p+15:Nat):Int),e0,0⟩,⟨14,((p+13:Nat):Int),e0,0⟩,⟨13,((p+11:Nat):Int),e0,0⟩,⟨1,((p+10:Nat):Int),nm [120],0⟩,⟨12,((p+9:Nat):Int),e0,0⟩,⟨1,((p+5:Nat):Int),nm [109,97,105,110],0⟩,⟨4,((p+2:Nat):Int),e0,0⟩,⟨19,((p+0:Nat):Int),e0,0⟩]++V,false,p+46,0,[32],p+47⟩:=by kernel_rfl
theorem sA2(V:List Tok)(st p:Nat)(acc:List UInt8):LS.run {((⟨V,false,st,3,acc,p⟩:LS).begins (32:UInt8).toNat)with acc:=[32],p:=p+1} (asc [123,32,97,91,105,93,32,61,32,105,32,42,32,120,59,32,115,32,61,32,115,32,43,32,97,91,105,93,59,32,105,32,61,32,105,32,43,32])=⟨[⟨27,((p+37:Nat):Int),e0,0⟩,⟨1,((p+35:Nat):Int),nm [105],0⟩,⟨20,((p+33:Nat):Int),e0,0⟩,⟨1,((p+31:Nat):Int),nm [105],0⟩,⟨19,((p+29:Nat):Int),e0,0⟩,⟨17,((p+28:Nat):Int),e0,0⟩,⟨1,((p+27:Nat):Int),nm [105],0⟩,⟨16,((p+26:Nat):Int),e0,0⟩,⟨1,((p+25:Nat):Int),nm [97],0⟩,⟨27,((p+23:Nat):Int),e0,0⟩,⟨1,((p+21:Nat):Int),nm [115],0⟩,⟨20,((p+19:Nat):Int),e0,0⟩,⟨1,((p+17:Nat):Int),nm [115],0⟩,⟨19,((p+15:Nat):Int),e0,0⟩,⟨1,((p+14:Nat):Int),nm [120],0⟩,⟨29,((p+12:Nat):Int),e0,0⟩,⟨1,((p+10:Nat):Int),nm [105],0⟩,⟨20,((p+8:Nat):Int),e0,0⟩,⟨17,((p+6:Nat):Int),e0,0⟩,⟨1,((p+5:Nat):Int),nm [105],0⟩,⟨16,((p+4:Nat):Int),e0,0⟩,⟨1,((p+3:Nat):Int),nm [97],0⟩,⟨14,((p+1:Nat):Int),e0,0⟩]++V,false,p+38,0,[32],p+39⟩:=by kernel_rfl
theorem sA3(V:List Tok)(st p:Nat)(acc:List UInt8):LS.run {((⟨V,false,st,3,acc,p⟩:LS).begins (59:UInt8).toNat)with acc:=[59],p:=p+1} (asc [32,125,32,114,101,116,117,114,110,32,115,59,32,125])=⟨[⟨19,((p+12:Nat):Int),e0,0⟩,⟨1,((p+11:Nat):Int),nm [115],0⟩,⟨10,((p+4:Nat):Int),e0,0⟩,⟨15,((p+2:Nat):Int),e0,0⟩,⟨19,((p+0:Nat):Int),e0,0⟩]++V,false,p+14,4,[125],p+15⟩:=by kernel_rfl
theorem bC1(n s:Nat)(hn:1<=n/\n<=64)(hs:1<=s/\s<=9):(∃ q,aW (txA n s)=tkA q n s)/\(dN (txA n s)).code=0:=by
 have h1:n < 100:=by omega
 have h2:n - 1 < 100:=by omega
 have h3:s < 100:=by omega
 have ha:∀ b∈aVD++(fW n++(aVC++(fW n++(aVB++(fW s++(aVA)))))),b.toNat < 128:=by
  intro b hb;simp only[List.mem_append]at hb;rcases hb with hb|hb|hb|hb|hb|hb|hb
  ·exact(show ∀ b∈aVD,b.toNat < 128 by decide+kernel) b hb
  ·exact aUN h1 b hb
  ·exact(show ∀ b∈aVC,b.toNat < 128 by decide+kernel) b hb
  ·exact aUN h1 b hb
  ·exact(show ∀ b∈aVB,b.toNat < 128 by decide+kernel) b hb
  ·exact aUN h3 b hb
  ·exact(show ∀ b∈aVA,b.toNat < 128 by decide+kernel) b hb
 have hr:∃ L,ls0.run (asc (aVD++(fW n++(aVC++(fW n++(aVB++(fW s++(aVA))))))))=L/\L.finish.bad=false/\∃ q,L.finish.ws.reverse++[⟨0,((txA n s).size:Int),e0,0⟩]=tkA q n s:=by
  simp only[aUS,LS.run_append,sA0];rw[aUO _ _ _ _ h1];rw[show aVC=59::[32,102,110,32,109,97,105,110,40,120,41,32,123,32,108,101,116,32,105,32,61,32,48,59,32,108,101,116,32,115,32,61,32,48,59,32,119,104,105,108,101,32,105,32,60,32]from rfl,aUQ _ _ _ h1 _ _ (by decide+kernel),sA1];rw[aUO _ _ _ _ h1];rw[show aVB=32::[123,32,97,91,105,93,32,61,32,105,32,42,32,120,59,32,115,32,61,32,115,32,43,32,97,91,105,93,59,32,105,32,61,32,105,32,43,32]from rfl,aUQ _ _ _ h1 _ _ (by decide+kernel),sA2];rw[aUO _ _ _ _ h3];rw[show aVA=59::[32,125,32,114,101,116,117,114,110,32,115,59,32,125]from rfl,aUQ _ _ _ h3 _ _ (by decide+kernel),sA3];generalize ((txA n s).size:Int)=z;generalize (fW n).length=dn;generalize (fW s).length=ds;exact⟨_,rfl,by kernel_rfl,fun i=>[0,4,((6:Nat):Int),((6+dn+0:Nat):Int),((6+dn+2:Nat):Int),((6+dn+5:Nat):Int),((6+dn+9:Nat):Int),((6+dn+10:Nat):Int),((6+dn+11:Nat):Int),((6+dn+13:Nat):Int),((6+dn+15:Nat):Int),((6+dn+19:Nat):Int),((6+dn+21:Nat):Int),((6+dn+23:Nat):Int),((6+dn+24:Nat):Int),((6+dn+26:Nat):Int),((6+dn+30:Nat):Int),((6+dn+32:Nat):Int),((6+dn+34:Nat):Int),((6+dn+35:Nat):Int),((6+dn+37:Nat):Int),((6+dn+43:Nat):Int),((6+dn+45:Nat):Int),((6+dn+47:Nat):Int),((6+dn+47+dn+1:Nat):Int),((6+dn+47+dn+3:Nat):Int),((6+dn+47+dn+4:Nat):Int),((6+dn+47+dn+5:Nat):Int),((6+dn+47+dn+6:Nat):Int),((6+dn+47+dn+8:Nat):Int),((6+dn+47+dn+10:Nat):Int),((6+dn+47+dn+12:Nat):Int),((6+dn+47+dn+14:Nat):Int),((6+dn+47+dn+15:Nat):Int),((6+dn+47+dn+17:Nat):Int),((6+dn+47+dn+19:Nat):Int),((6+dn+47+dn+21:Nat):Int),((6+dn+47+dn+23:Nat):Int),((6+dn+47+dn+25:Nat):Int),((6+dn+47+dn+26:Nat):Int),((6+dn+47+dn+27:Nat):Int),((6+dn+47+dn+28:Nat):Int),((6+dn+47+dn+29:Nat):Int),((6+dn+47+dn+31:Nat):Int),((6+dn+47+dn+33:Nat):Int),((6+dn+47+dn+35:Nat):Int),((6+dn+47+dn+37:Nat):Int),((6+dn+47+dn+39:Nat):Int),((6+dn+47+dn+39+ds+0:Nat):Int),((6+dn+47+dn+39+ds+2:Nat):Int),((6+dn+47+dn+39+ds+4:Nat):Int),((6+dn+47+dn+39+ds+11:Nat):Int),((6+dn+47+dn+39+ds+12:Nat):Int),((6+dn+47+dn+39+ds+14:Nat):Int),z].getD i 0,by kernel_rfl⟩
 obtain⟨L,e1,e2,q,e3⟩:=hr;obtain⟨w1,w2⟩:=aUX (s:=txA n s) (l:=aVD++(fW n++(aVC++(fW n++(aVB++(fW s++(aVA))))))) rfl ha (by rw[e1];exact e2);refine⟨⟨q,?_⟩,w2⟩;unfold aW;rw[w1,e1];exact e3
def aV9:List UInt8:=[97,114,114,32,97,32]
def aV8:List UInt8:=[59,32,102,110,32,97,116,40,105,44,32,120,41,32,119,104,101,114,101,32,105,32,62,61,32,48,44,32,105,32,60,32]
def aV7:List UInt8:=[32,123,32,97,91,105,93,32,61,32,105,32,42,32,120,59,32,114,101,116,117,114,110,32,97,91,105,93,59,32,125,32,102,110,32,109,97,105,110,40,120,41,32,123,32,108,101,116,32,105,32,61,32,48,59,32,108,101,116,32,115,32,61,32,48,59,32,119,104,105,108,101,32,105,32,60,61,32]
def aV6:List UInt8:=[32,123,32,115,32,61,32,115,32,43,32,97,116,40,105,44,32,120,41,59,32,105,32,61,32,105,32,43,32]
def aV5:List UInt8:=[59,32,125,32,114,101,116,117,114,110,32,115,59,32,125]
def txB(n s:Nat):ByteArray:=⟨(aV9++(fW n++(aV8++(fW n++(aV7++(fW (n - 1)++(aV6++(fW s++(aV5))))))))).toArray⟩
def tkB(q:Nat->Int)(n s:Int):List Tok:=[⟨3,q 0,e0,0⟩,⟨1,q 1,(nm [97]),0⟩,⟨2,q 2,e0,n⟩,⟨19,q 3,e0,0⟩,⟨4,q 4,e0,0⟩,⟨1,q 5,(nm [97,116]),0⟩,⟨12,q 6,e0,0⟩,⟨1,q 7,(nm [105]),0⟩,⟨18,q 8,e0,0⟩,⟨1,q 9,(nm [120]),0⟩,⟨13,q 10,e0,0⟩,⟨5,q 11,e0,0⟩,⟨1,q 12,(nm [105]),0⟩,⟨26,q 13,e0,0⟩,⟨2,q 14,e0,0⟩,⟨18,q 15,e0,0⟩,⟨1,q 16,(nm [105]),0⟩,⟨23,q 17,e0,0⟩,⟨2,q 18,e0,n⟩,⟨14,q 19,e0,0⟩,⟨1,q 20,(nm [97]),0⟩,⟨16,q 21,e0,0⟩,⟨1,q 22,(nm [105]),0⟩,⟨17,q 23,e0,0⟩,⟨20,q 24,e0,0⟩,⟨1,q 25,(nm [105]),0⟩,⟨29,q 26,e0,0⟩,⟨1,q 27,(nm [120]),0⟩,⟨19,q 28,e0,0⟩,⟨10,q 29,e0,0⟩,⟨1,q 30,(nm [97]),0⟩,⟨16,q 31,e0,0⟩,⟨1,q 32,(nm [105]),0⟩,⟨17,q 33,e0,0⟩,⟨19,q 34,e0,0⟩,⟨15,q 35,e0,0⟩,⟨4,q 36,e0,0⟩,⟨1,q 37,(nm [109,97,105,110]),0⟩,⟨12,q 38,e0,0⟩,⟨1,q 39,(nm [120]),0⟩,⟨13,q 40,e0,0⟩,⟨14,q 41,e0,0⟩,⟨6,q 42,e0,0⟩,⟨1,q 43,(nm [105]),0⟩,⟨20,q 44,e0,0⟩,⟨2,q 45,e0,0⟩,⟨19,q 46,e0,0⟩,⟨6,q 47,e0,0⟩,⟨1,q 48,(nm [115]),0⟩,⟨20,q 49,e0,0⟩,⟨2,q 50,e0,0⟩,⟨19,q 51,e0,0⟩,⟨9,q 52,e0,0⟩,⟨1,q 53,(nm [105]),0⟩,⟨24,q 54,e0,0⟩,⟨2,q 55,e0,(n - 1)⟩,⟨14,q 56,e0,0⟩,⟨1,q 57,(nm [115]),0⟩,⟨20,q 58,e0,0⟩,⟨1,q 59,(nm [115]),0⟩,⟨27,q 60,e0,0⟩,⟨1,q 61,(nm [97,116]),0⟩,⟨12,q 62,e0,0⟩,⟨1,q 63,(nm [105]),0⟩,⟨18,q 64,e0,0⟩,⟨1,q 65,(nm [120]),0⟩,⟨13,q 66,e0,0⟩,⟨19,q 67,e0,0⟩,⟨1,q 68,(nm [105]),0⟩,⟨20,q 69,e0,0⟩,⟨1,q 70,(nm [105]),0⟩,⟨27,q 71,e0,0⟩,⟨2,q 72,e0,s⟩,⟨19,q 73,e0,0⟩,⟨15,q 74,e0,0⟩,⟨10,q 75,e0,0⟩,⟨1,q 76,(nm [115]),0⟩,⟨19,q 77,e0,0⟩,⟨15,q 78,e0,0⟩,⟨0,q 79,e0,0⟩]
theorem sB0:LS.run ls0 (asc aV9)=⟨[⟨1,4,nm [97],0⟩,⟨3,0,e0,0⟩],false,5,0,[32],6⟩:=by kernel_rfl
theorem sB1(V:List Tok)(st p:Nat)(acc:List UInt8):LS.run {((⟨V,false,st,3,acc,p⟩:LS).begins (59:UInt8).toNat)with acc:=[59],p:=p+1} (asc [32,102,110,32,97,116,40,105,44,32,120,41,32,119,104,101,114,101,32,105,32,62,61,32,48,44,32,105,32,60,32])=⟨[⟨23,((p+30:Nat):Int),e0,0⟩,⟨1,((p+28:Nat):Int),nm [105],0⟩,⟨18,((p+26:Nat):Int),e0,0⟩,⟨2,((p+25:Nat):Int),e0,0⟩,⟨26,((p+22:Nat):Int),e0,0⟩,⟨1,((p+20:Nat):Int),nm [105],0⟩,⟨5,((p+14:Nat):Int),e0,0⟩,⟨13,((p+12:Nat):Int),e0,0⟩,⟨1,((p+11:Nat):Int),nm [120],0⟩,⟨18,((p+9:Nat):Int),e0,0⟩,⟨1,((p+8:Nat):Int),nm [105],0⟩,⟨12,((p+7:Nat):Int),e0,0⟩,⟨1,((p+5:Nat):Int),nm [97,116],0⟩,⟨4,((p+2:Nat):Int),e0,0⟩,⟨19,((p+0:Nat):Int),e0,0⟩]++V,false,p+31,0,[32],p+32⟩:=by kernel_rfl
theorem sB2(V:List Tok)(st p:Nat)(acc:List UInt8):LS.run {((⟨V,false,st,3,acc,p⟩:LS).begins (32:UInt8).toNat)with acc:=[32],p:=p+1} (asc [123,32,97,91,105,93,32,61,32,105,32,42,32,120,59,32,114,101,116,117,114,110,32,97,91,105,93,59,32,125,32,102,110,32,109,97,105,110,40,120,41,32,123,32,108,101,116,32,105,32,61,32,48,59,32,108,101,116,32,115,32,61,32,48,59,32,119,104,105,108,101,32,105,32,60,61,32])=⟨[⟨24,((p+75:Nat):Int),e0,0⟩,⟨1,((p+73:Nat):Int),nm [105],0⟩,⟨9,((p+67:Nat):Int),e0,0⟩,⟨19,((p+65:Nat):Int),e0,0⟩,⟨2,((p+64:Nat):Int),e0,0⟩,⟨20,((p+62:Nat):Int),e0,0⟩,⟨1,((p+60:Nat):Int),nm [115],0⟩,⟨6,((p+56:Nat):Int),e0,0⟩,⟨19,((p+54:Nat):Int),e0,0⟩,⟨2,((p+53:Nat):Int),e0,0⟩,⟨20,((p+51:Nat):Int),e0,0⟩,⟨1,((p+49:Nat):Int),nm [105],0⟩,⟨6,((p+45:Nat):Int),e0,0⟩,⟨14,((p+43:Nat):Int),e0,0⟩,⟨13,((p+41:Nat):Int),e0,0⟩,⟨1,((p+40:Nat):Int),nm [120],0⟩,⟨12,((p+39:Nat):Int),e0,0⟩,⟨1,((p+35:Nat):Int),nm [109,97,105,110],0⟩,⟨4,((p+32:Nat):Int),e0,0⟩,⟨15,((p+30:Nat):Int),e0,0⟩,⟨19,((p+28:Nat):Int),e0,0⟩,⟨17,((p+27:Nat):Int),e0,0⟩,⟨1,((p+26:Nat):Int),nm [105],0⟩,⟨16,((p+25:Nat):Int),e0,0⟩,⟨1,((p+24:Nat):Int),nm [97],0⟩,⟨10,((p+17:Nat):Int),e0,0⟩,⟨19,((p+15:Nat):Int),e0,0⟩,⟨1,((p+14:Nat):Int),nm [120],0⟩,⟨29,((p+12:Nat):Int),e0,0⟩,⟨1,((p+10:Nat):Int),nm [105],0⟩,⟨20,((p+8:Nat):Int),e0,0⟩,⟨17,((p+6:Nat):Int),e0,0⟩,⟨1,((p+5:Nat):Int),nm [105],0⟩,⟨16,((p+4:Nat):Int),e0,0⟩,⟨1,((p+3:Nat):Int),nm [97],0⟩,⟨14,((p+1:Nat):Int),e0,0⟩]++V,false,p+77,0,[32],p+78⟩:=by kernel_rfl
theorem sB3(V:List Tok)(st p:Nat)(acc:List UInt8):LS.run {((⟨V,false,st,3,acc,p⟩:LS).begins (32:UInt8).toNat)with acc:=[32],p:=p+1} (asc [123,32,115,32,61,32,115,32,43,32,97,116,40,105,44,32,120,41,59,32,105,32,61,32,105,32,43,32])=⟨[⟨27,((p+27:Nat):Int),e0,0⟩,⟨1,((p+25:Nat):Int),nm [105],0⟩,⟨20,((p+23:Nat):Int),e0,0⟩,⟨1,((p+21:Nat):Int),nm [105],0⟩,⟨19,((p+19:Nat):Int),e0,0⟩,⟨13,((p+18:Nat):Int),e0,0⟩,⟨1,((p+17:Nat):Int),nm [120],0⟩,⟨18,((p+15:Nat):Int),e0,0⟩,⟨1,((p+14:Nat):Int),nm [105],0⟩,⟨12,((p+13:Nat):Int),e0,0⟩,⟨1,((p+11:Nat):Int),nm [97,116],0⟩,⟨27,((p+9:Nat):Int),e0,0⟩,⟨1,((p+7:Nat):Int),nm [115],0⟩,⟨20,((p+5:Nat):Int),e0,0⟩,⟨1,((p+3:Nat):Int),nm [115],0⟩,⟨14,((p+1:Nat):Int),e0,0⟩]++V,false,p+28,0,[32],p+29⟩:=by kernel_rfl
theorem sB4(V:List Tok)(st p:Nat)(acc:List UInt8):LS.run {((⟨V,false,st,3,acc,p⟩:LS).begins (59:UInt8).toNat)with acc:=[59],p:=p+1} (asc [32,125,32,114,101,116,117,114,110,32,115,59,32,125])=⟨[⟨19,((p+12:Nat):Int),e0,0⟩,⟨1,((p+11:Nat):Int),nm [115],0⟩,⟨10,((p+4:Nat):Int),e0,0⟩,⟨15,((p+2:Nat):Int),e0,0⟩,⟨19,((p+0:Nat):Int),e0,0⟩]++V,false,p+14,4,[125],p+15⟩:=by kernel_rfl
theorem bC0(n s:Nat)(hn:1<=n/\n<=64)(hs:1<=s/\s<=9):(∃ q,aW (txB n s)=tkB q n s)/\(dN (txB n s)).code=0:=by
 have h1:n < 100:=by omega
 have h2:n - 1 < 100:=by omega
 have h3:s < 100:=by omega
 have ha:∀ b∈aV9++(fW n++(aV8++(fW n++(aV7++(fW (n - 1)++(aV6++(fW s++(aV5)))))))),b.toNat < 128:=by
  intro b hb;simp only[List.mem_append]at hb;rcases hb with hb|hb|hb|hb|hb|hb|hb|hb|hb
  ·exact(show ∀ b∈aV9,b.toNat < 128 by decide+kernel) b hb
  ·exact aUN h1 b hb
  ·exact(show ∀ b∈aV8,b.toNat < 128 by decide+kernel) b hb
  ·exact aUN h1 b hb
  ·exact(show ∀ b∈aV7,b.toNat < 128 by decide+kernel) b hb
  ·exact aUN h2 b hb
  ·exact(show ∀ b∈aV6,b.toNat < 128 by decide+kernel) b hb
  ·exact aUN h3 b hb
  ·exact(show ∀ b∈aV5,b.toNat < 128 by decide+kernel) b hb
 have hr:∃ L,ls0.run (asc (aV9++(fW n++(aV8++(fW n++(aV7++(fW (n - 1)++(aV6++(fW s++(aV5))))))))))=L/\L.finish.bad=false/\∃ q,L.finish.ws.reverse++[⟨0,((txB n s).size:Int),e0,0⟩]=tkB q n s:=by
  simp only[aUS,LS.run_append,sB0];rw[aUO _ _ _ _ h1];rw[show aV8=59::[32,102,110,32,97,116,40,105,44,32,120,41,32,119,104,101,114,101,32,105,32,62,61,32,48,44,32,105,32,60,32]from rfl,aUQ _ _ _ h1 _ _ (by decide+kernel),sB1];rw[aUO _ _ _ _ h1];rw[show aV7=32::[123,32,97,91,105,93,32,61,32,105,32,42,32,120,59,32,114,101,116,117,114,110,32,97,91,105,93,59,32,125,32,102,110,32,109,97,105,110,40,120,41,32,123,32,108,101,116,32,105,32,61,32,48,59,32,108,101,116,32,115,32,61,32,48,59,32,119,104,105,108,101,32,105,32,60,61,32]from rfl,aUQ _ _ _ h1 _ _ (by decide+kernel),sB2];rw[aUO _ _ _ _ h2];rw[show aV6=32::[123,32,115,32,61,32,115,32,43,32,97,116,40,105,44,32,120,41,59,32,105,32,61,32,105,32,43,32]from rfl,aUQ _ _ _ h2 _ _ (by decide+kernel),sB3];rw[aUO _ _ _ _ h3];rw[show aV5=59::[32,125,32,114,101,116,117,114,110,32,115,59,32,125]from rfl,aUQ _ _ _ h3 _ _ (by decide+kernel),sB4];generalize ((txB n s).size:Int)=z;generalize (fW n).length=dn;generalize (fW s).length=ds;generalize (fW (n - 1)).length=dm;have hm:((n - 1:Nat):Int)=(n:Int) - 1:=by omega
  rw[hm];exact⟨_,rfl,by kernel_rfl,fun i=>[0,4,((6:Nat):Int),((6+dn+0:Nat):Int),((6+dn+2:Nat):Int),((6+dn+5:Nat):Int),((6+dn+7:Nat):Int),((6+dn+8:Nat):Int),((6+dn+9:Nat):Int),((6+dn+11:Nat):Int),((6+dn+12:Nat):Int),((6+dn+14:Nat):Int),((6+dn+20:Nat):Int),((6+dn+22:Nat):Int),((6+dn+25:Nat):Int),((6+dn+26:Nat):Int),((6+dn+28:Nat):Int),((6+dn+30:Nat):Int),((6+dn+32:Nat):Int),((6+dn+32+dn+1:Nat):Int),((6+dn+32+dn+3:Nat):Int),((6+dn+32+dn+4:Nat):Int),((6+dn+32+dn+5:Nat):Int),((6+dn+32+dn+6:Nat):Int),((6+dn+32+dn+8:Nat):Int),((6+dn+32+dn+10:Nat):Int),((6+dn+32+dn+12:Nat):Int),((6+dn+32+dn+14:Nat):Int),((6+dn+32+dn+15:Nat):Int),((6+dn+32+dn+17:Nat):Int),((6+dn+32+dn+24:Nat):Int),((6+dn+32+dn+25:Nat):Int),((6+dn+32+dn+26:Nat):Int),((6+dn+32+dn+27:Nat):Int),((6+dn+32+dn+28:Nat):Int),((6+dn+32+dn+30:Nat):Int),((6+dn+32+dn+32:Nat):Int),((6+dn+32+dn+35:Nat):Int),((6+dn+32+dn+39:Nat):Int),((6+dn+32+dn+40:Nat):Int),((6+dn+32+dn+41:Nat):Int),((6+dn+32+dn+43:Nat):Int),((6+dn+32+dn+45:Nat):Int),((6+dn+32+dn+49:Nat):Int),((6+dn+32+dn+51:Nat):Int),((6+dn+32+dn+53:Nat):Int),((6+dn+32+dn+54:Nat):Int),((6+dn+32+dn+56:Nat):Int),((6+dn+32+dn+60:Nat):Int),((6+dn+32+dn+62:Nat):Int),((6+dn+32+dn+64:Nat):Int),((6+dn+32+dn+65:Nat):Int),((6+dn+32+dn+67:Nat):Int),((6+dn+32+dn+73:Nat):Int),((6+dn+32+dn+75:Nat):Int),((6+dn+32+dn+78:Nat):Int),((6+dn+32+dn+78+dm+1:Nat):Int),((6+dn+32+dn+78+dm+3:Nat):Int),((6+dn+32+dn+78+dm+5:Nat):Int),((6+dn+32+dn+78+dm+7:Nat):Int),((6+dn+32+dn+78+dm+9:Nat):Int),((6+dn+32+dn+78+dm+11:Nat):Int),((6+dn+32+dn+78+dm+13:Nat):Int),((6+dn+32+dn+78+dm+14:Nat):Int),((6+dn+32+dn+78+dm+15:Nat):Int),((6+dn+32+dn+78+dm+17:Nat):Int),((6+dn+32+dn+78+dm+18:Nat):Int),((6+dn+32+dn+78+dm+19:Nat):Int),((6+dn+32+dn+78+dm+21:Nat):Int),((6+dn+32+dn+78+dm+23:Nat):Int),((6+dn+32+dn+78+dm+25:Nat):Int),((6+dn+32+dn+78+dm+27:Nat):Int),((6+dn+32+dn+78+dm+29:Nat):Int),((6+dn+32+dn+78+dm+29+ds+0:Nat):Int),((6+dn+32+dn+78+dm+29+ds+2:Nat):Int),((6+dn+32+dn+78+dm+29+ds+4:Nat):Int),((6+dn+32+dn+78+dm+29+ds+11:Nat):Int),((6+dn+32+dn+78+dm+29+ds+12:Nat):Int),((6+dn+32+dn+78+dm+29+ds+14:Nat):Int),z].getD i 0,by kernel_rfl⟩
 obtain⟨L,e1,e2,q,e3⟩:=hr;obtain⟨w1,w2⟩:=aUX (s:=txB n s) (l:=aV9++(fW n++(aV8++(fW n++(aV7++(fW (n - 1)++(aV6++(fW s++(aV5))))))))) rfl ha (by rw[e1];exact e2);refine⟨⟨q,?_⟩,w2⟩;unfold aW;rw[w1,e1];exact e3
def aV4:List UInt8:=[97,114,114,32,97,32]
def aV3:List UInt8:=[59,32,102,110,32,109,97,105,110,40,120,41,32,123,32,108,101,116,32,105,32,61,32,45,49,59,32,108,101,116,32,115,32,61,32,48,59,32,119,104,105,108,101,32,105,32,60,32,57,57,32,123,32,105,102,32,105,32,62,61,32,48,32,38,38,32,105,32,60,32]
def aV2:List UInt8:=[32,38,38,32,105,32,37,32]
def aV1:List UInt8:=[32,61,61,32,48,32,123,32,97,91,105,93,32,61,32,105,32,42,32,120,59,32,115,32,61,32,115,32,43,32,97,91,105,93,59,32,125,32,105,32,61,32,105,32,43,32,49,59,32,125,32,114,101,116,117,114,110,32,115,59,32,125]
def txC(n s:Nat):ByteArray:=⟨(aV4++(fW n++(aV3++(fW n++(aV2++(fW s++(aV1))))))).toArray⟩
def tkC(q:Nat->Int)(n s:Int):List Tok:=[⟨3,q 0,e0,0⟩,⟨1,q 1,(nm [97]),0⟩,⟨2,q 2,e0,n⟩,⟨19,q 3,e0,0⟩,⟨4,q 4,e0,0⟩,⟨1,q 5,(nm [109,97,105,110]),0⟩,⟨12,q 6,e0,0⟩,⟨1,q 7,(nm [120]),0⟩,⟨13,q 8,e0,0⟩,⟨14,q 9,e0,0⟩,⟨6,q 10,e0,0⟩,⟨1,q 11,(nm [105]),0⟩,⟨20,q 12,e0,0⟩,⟨28,q 13,e0,0⟩,⟨2,q 14,e0,1⟩,⟨19,q 15,e0,0⟩,⟨6,q 16,e0,0⟩,⟨1,q 17,(nm [115]),0⟩,⟨20,q 18,e0,0⟩,⟨2,q 19,e0,0⟩,⟨19,q 20,e0,0⟩,⟨9,q 21,e0,0⟩,⟨1,q 22,(nm [105]),0⟩,⟨23,q 23,e0,0⟩,⟨2,q 24,e0,99⟩,⟨14,q 25,e0,0⟩,⟨7,q 26,e0,0⟩,⟨1,q 27,(nm [105]),0⟩,⟨26,q 28,e0,0⟩,⟨2,q 29,e0,0⟩,⟨32,q 30,e0,0⟩,⟨1,q 31,(nm [105]),0⟩,⟨23,q 32,e0,0⟩,⟨2,q 33,e0,n⟩,⟨32,q 34,e0,0⟩,⟨1,q 35,(nm [105]),0⟩,⟨31,q 36,e0,0⟩,⟨2,q 37,e0,s⟩,⟨21,q 38,e0,0⟩,⟨2,q 39,e0,0⟩,⟨14,q 40,e0,0⟩,⟨1,q 41,(nm [97]),0⟩,⟨16,q 42,e0,0⟩,⟨1,q 43,(nm [105]),0⟩,⟨17,q 44,e0,0⟩,⟨20,q 45,e0,0⟩,⟨1,q 46,(nm [105]),0⟩,⟨29,q 47,e0,0⟩,⟨1,q 48,(nm [120]),0⟩,⟨19,q 49,e0,0⟩,⟨1,q 50,(nm [115]),0⟩,⟨20,q 51,e0,0⟩,⟨1,q 52,(nm [115]),0⟩,⟨27,q 53,e0,0⟩,⟨1,q 54,(nm [97]),0⟩,⟨16,q 55,e0,0⟩,⟨1,q 56,(nm [105]),0⟩,⟨17,q 57,e0,0⟩,⟨19,q 58,e0,0⟩,⟨15,q 59,e0,0⟩,⟨1,q 60,(nm [105]),0⟩,⟨20,q 61,e0,0⟩,⟨1,q 62,(nm [105]),0⟩,⟨27,q 63,e0,0⟩,⟨2,q 64,e0,1⟩,⟨19,q 65,e0,0⟩,⟨15,q 66,e0,0⟩,⟨10,q 67,e0,0⟩,⟨1,q 68,(nm [115]),0⟩,⟨19,q 69,e0,0⟩,⟨15,q 70,e0,0⟩,⟨0,q 71,e0,0⟩]
theorem sC0:LS.run ls0 (asc aV4)=⟨[⟨1,4,nm [97],0⟩,⟨3,0,e0,0⟩],false,5,0,[32],6⟩:=by kernel_rfl
theorem sC1(V:List Tok)(st p:Nat)(acc:List UInt8):LS.run {((⟨V,false,st,3,acc,p⟩:LS).begins (59:UInt8).toNat)with acc:=[59],p:=p+1} (asc [32,102,110,32,109,97,105,110,40,120,41,32,123,32,108,101,116,32,105,32,61,32,45,49,59,32,108,101,116,32,115,32,61,32,48,59,32,119,104,105,108,101,32,105,32,60,32,57,57,32,123,32,105,102,32,105,32,62,61,32,48,32,38,38,32,105,32,60,32])=⟨[⟨23,((p+68:Nat):Int),e0,0⟩,⟨1,((p+66:Nat):Int),nm [105],0⟩,⟨32,((p+63:Nat):Int),e0,0⟩,⟨2,((p+61:Nat):Int),e0,0⟩,⟨26,((p+58:Nat):Int),e0,0⟩,⟨1,((p+56:Nat):Int),nm [105],0⟩,⟨7,((p+53:Nat):Int),e0,0⟩,⟨14,((p+51:Nat):Int),e0,0⟩,⟨2,((p+48:Nat):Int),e0,99⟩,⟨23,((p+46:Nat):Int),e0,0⟩,⟨1,((p+44:Nat):Int),nm [105],0⟩,⟨9,((p+38:Nat):Int),e0,0⟩,⟨19,((p+36:Nat):Int),e0,0⟩,⟨2,((p+35:Nat):Int),e0,0⟩,⟨20,((p+33:Nat):Int),e0,0⟩,⟨1,((p+31:Nat):Int),nm [115],0⟩,⟨6,((p+27:Nat):Int),e0,0⟩,⟨19,((p+25:Nat):Int),e0,0⟩,⟨2,((p+24:Nat):Int),e0,1⟩,⟨28,((p+23:Nat):Int),e0,0⟩,⟨20,((p+21:Nat):Int),e0,0⟩,⟨1,((p+19:Nat):Int),nm [105],0⟩,⟨6,((p+15:Nat):Int),e0,0⟩,⟨14,((p+13:Nat):Int),e0,0⟩,⟨13,((p+11:Nat):Int),e0,0⟩,⟨1,((p+10:Nat):Int),nm [120],0⟩,⟨12,((p+9:Nat):Int),e0,0⟩,⟨1,((p+5:Nat):Int),nm [109,97,105,110],0⟩,⟨4,((p+2:Nat):Int),e0,0⟩,⟨19,((p+0:Nat):Int),e0,0⟩]++V,false,p+69,0,[32],p+70⟩:=by kernel_rfl
theorem sC2(V:List Tok)(st p:Nat)(acc:List UInt8):LS.run {((⟨V,false,st,3,acc,p⟩:LS).begins (32:UInt8).toNat)with acc:=[32],p:=p+1} (asc [38,38,32,105,32,37,32])=⟨[⟨31,((p+6:Nat):Int),e0,0⟩,⟨1,((p+4:Nat):Int),nm [105],0⟩,⟨32,((p+1:Nat):Int),e0,0⟩]++V,false,p+7,0,[32],p+8⟩:=by kernel_rfl
theorem sC3(V:List Tok)(st p:Nat)(acc:List UInt8):LS.run {((⟨V,false,st,3,acc,p⟩:LS).begins (32:UInt8).toNat)with acc:=[32],p:=p+1} (asc [61,61,32,48,32,123,32,97,91,105,93,32,61,32,105,32,42,32,120,59,32,115,32,61,32,115,32,43,32,97,91,105,93,59,32,125,32,105,32,61,32,105,32,43,32,49,59,32,125,32,114,101,116,117,114,110,32,115,59,32,125])=⟨[⟨19,((p+59:Nat):Int),e0,0⟩,⟨1,((p+58:Nat):Int),nm [115],0⟩,⟨10,((p+51:Nat):Int),e0,0⟩,⟨15,((p+49:Nat):Int),e0,0⟩,⟨19,((p+47:Nat):Int),e0,0⟩,⟨2,((p+46:Nat):Int),e0,1⟩,⟨27,((p+44:Nat):Int),e0,0⟩,⟨1,((p+42:Nat):Int),nm [105],0⟩,⟨20,((p+40:Nat):Int),e0,0⟩,⟨1,((p+38:Nat):Int),nm [105],0⟩,⟨15,((p+36:Nat):Int),e0,0⟩,⟨19,((p+34:Nat):Int),e0,0⟩,⟨17,((p+33:Nat):Int),e0,0⟩,⟨1,((p+32:Nat):Int),nm [105],0⟩,⟨16,((p+31:Nat):Int),e0,0⟩,⟨1,((p+30:Nat):Int),nm [97],0⟩,⟨27,((p+28:Nat):Int),e0,0⟩,⟨1,((p+26:Nat):Int),nm [115],0⟩,⟨20,((p+24:Nat):Int),e0,0⟩,⟨1,((p+22:Nat):Int),nm [115],0⟩,⟨19,((p+20:Nat):Int),e0,0⟩,⟨1,((p+19:Nat):Int),nm [120],0⟩,⟨29,((p+17:Nat):Int),e0,0⟩,⟨1,((p+15:Nat):Int),nm [105],0⟩,⟨20,((p+13:Nat):Int),e0,0⟩,⟨17,((p+11:Nat):Int),e0,0⟩,⟨1,((p+10:Nat):Int),nm [105],0⟩,⟨16,((p+9:Nat):Int),e0,0⟩,⟨1,((p+8:Nat):Int),nm [97],0⟩,⟨14,((p+6:Nat):Int),e0,0⟩,⟨2,((p+4:Nat):Int),e0,0⟩,⟨21,((p+1:Nat):Int),e0,0⟩]++V,false,p+61,4,[125],p+62⟩:=by kernel_rfl
theorem bBZ(n s:Nat)(hn:1<=n/\n<=64)(hs:1<=s/\s<=9):(∃ q,aW (txC n s)=tkC q n s)/\(dN (txC n s)).code=0:=by
 have h1:n < 100:=by omega
 have h2:n - 1 < 100:=by omega
 have h3:s < 100:=by omega
 have ha:∀ b∈aV4++(fW n++(aV3++(fW n++(aV2++(fW s++(aV1)))))),b.toNat < 128:=by
  intro b hb;simp only[List.mem_append]at hb;rcases hb with hb|hb|hb|hb|hb|hb|hb
  ·exact(show ∀ b∈aV4,b.toNat < 128 by decide+kernel) b hb
  ·exact aUN h1 b hb
  ·exact(show ∀ b∈aV3,b.toNat < 128 by decide+kernel) b hb
  ·exact aUN h1 b hb
  ·exact(show ∀ b∈aV2,b.toNat < 128 by decide+kernel) b hb
  ·exact aUN h3 b hb
  ·exact(show ∀ b∈aV1,b.toNat < 128 by decide+kernel) b hb
 have hr:∃ L,ls0.run (asc (aV4++(fW n++(aV3++(fW n++(aV2++(fW s++(aV1))))))))=L/\L.finish.bad=false/\∃ q,L.finish.ws.reverse++[⟨0,((txC n s).size:Int),e0,0⟩]=tkC q n s:=by
  simp only[aUS,LS.run_append,sC0];rw[aUO _ _ _ _ h1];rw[show aV3=59::[32,102,110,32,109,97,105,110,40,120,41,32,123,32,108,101,116,32,105,32,61,32,45,49,59,32,108,101,116,32,115,32,61,32,48,59,32,119,104,105,108,101,32,105,32,60,32,57,57,32,123,32,105,102,32,105,32,62,61,32,48,32,38,38,32,105,32,60,32]from rfl,aUQ _ _ _ h1 _ _ (by decide+kernel),sC1];rw[aUO _ _ _ _ h1];rw[show aV2=32::[38,38,32,105,32,37,32]from rfl,aUQ _ _ _ h1 _ _ (by decide+kernel),sC2];rw[aUO _ _ _ _ h3];rw[show aV1=32::[61,61,32,48,32,123,32,97,91,105,93,32,61,32,105,32,42,32,120,59,32,115,32,61,32,115,32,43,32,97,91,105,93,59,32,125,32,105,32,61,32,105,32,43,32,49,59,32,125,32,114,101,116,117,114,110,32,115,59,32,125]from rfl,aUQ _ _ _ h3 _ _ (by decide+kernel),sC3];generalize ((txC n s).size:Int)=z;generalize (fW n).length=dn;generalize (fW s).length=ds;exact⟨_,rfl,by kernel_rfl,fun i=>[0,4,((6:Nat):Int),((6+dn+0:Nat):Int),((6+dn+2:Nat):Int),((6+dn+5:Nat):Int),((6+dn+9:Nat):Int),((6+dn+10:Nat):Int),((6+dn+11:Nat):Int),((6+dn+13:Nat):Int),((6+dn+15:Nat):Int),((6+dn+19:Nat):Int),((6+dn+21:Nat):Int),((6+dn+23:Nat):Int),((6+dn+24:Nat):Int),((6+dn+25:Nat):Int),((6+dn+27:Nat):Int),((6+dn+31:Nat):Int),((6+dn+33:Nat):Int),((6+dn+35:Nat):Int),((6+dn+36:Nat):Int),((6+dn+38:Nat):Int),((6+dn+44:Nat):Int),((6+dn+46:Nat):Int),((6+dn+48:Nat):Int),((6+dn+51:Nat):Int),((6+dn+53:Nat):Int),((6+dn+56:Nat):Int),((6+dn+58:Nat):Int),((6+dn+61:Nat):Int),((6+dn+63:Nat):Int),((6+dn+66:Nat):Int),((6+dn+68:Nat):Int),((6+dn+70:Nat):Int),((6+dn+70+dn+1:Nat):Int),((6+dn+70+dn+4:Nat):Int),((6+dn+70+dn+6:Nat):Int),((6+dn+70+dn+8:Nat):Int),((6+dn+70+dn+8+ds+1:Nat):Int),((6+dn+70+dn+8+ds+4:Nat):Int),((6+dn+70+dn+8+ds+6:Nat):Int),((6+dn+70+dn+8+ds+8:Nat):Int),((6+dn+70+dn+8+ds+9:Nat):Int),((6+dn+70+dn+8+ds+10:Nat):Int),((6+dn+70+dn+8+ds+11:Nat):Int),((6+dn+70+dn+8+ds+13:Nat):Int),((6+dn+70+dn+8+ds+15:Nat):Int),((6+dn+70+dn+8+ds+17:Nat):Int),((6+dn+70+dn+8+ds+19:Nat):Int),((6+dn+70+dn+8+ds+20:Nat):Int),((6+dn+70+dn+8+ds+22:Nat):Int),((6+dn+70+dn+8+ds+24:Nat):Int),((6+dn+70+dn+8+ds+26:Nat):Int),((6+dn+70+dn+8+ds+28:Nat):Int),((6+dn+70+dn+8+ds+30:Nat):Int),((6+dn+70+dn+8+ds+31:Nat):Int),((6+dn+70+dn+8+ds+32:Nat):Int),((6+dn+70+dn+8+ds+33:Nat):Int),((6+dn+70+dn+8+ds+34:Nat):Int),((6+dn+70+dn+8+ds+36:Nat):Int),((6+dn+70+dn+8+ds+38:Nat):Int),((6+dn+70+dn+8+ds+40:Nat):Int),((6+dn+70+dn+8+ds+42:Nat):Int),((6+dn+70+dn+8+ds+44:Nat):Int),((6+dn+70+dn+8+ds+46:Nat):Int),((6+dn+70+dn+8+ds+47:Nat):Int),((6+dn+70+dn+8+ds+49:Nat):Int),((6+dn+70+dn+8+ds+51:Nat):Int),((6+dn+70+dn+8+ds+58:Nat):Int),((6+dn+70+dn+8+ds+59:Nat):Int),((6+dn+70+dn+8+ds+61:Nat):Int),z].getD i 0,by kernel_rfl⟩
 obtain⟨L,e1,e2,q,e3⟩:=hr;obtain⟨w1,w2⟩:=aUX (s:=txC n s) (l:=aV4++(fW n++(aV3++(fW n++(aV2++(fW s++(aV1))))))) rfl ha (by rw[e1];exact e2);refine⟨⟨q,?_⟩,w2⟩;unfold aW;rw[w1,e1];exact e3
end Go.Proofs.YtikffmloeifkpaaGreatDoor
