/- Contracts. -/
import Derived.Test.YtikffmloeifkpaaGreatDoorR09
import Derived.Maps.OwnSet
import Derived.Maps.Views
set_option maxHeartbeats 4000000
set_option maxRecDepth 100000
namespace Go.Proofs.YtikffmloeifkpaaGreatDoor
open Go.RowKit Go.Lib Go.Deep Go.Maps Go.ChangeMaps Go.MapKept Tryz
section
abbrev dB:=List (ByteArray × Int)
def dP(s:ByteArray):dB->Option Int
 |[]=>none
 |(t,v)::r=>if t=s then some v else dP s r
def put(s:ByteArray)(v:Int):dB->dB
 |[]=>[(s,v)]
 |(t,u)::r=>if t=s then(s,v)::r else(t,u)::put s v r
theorem lC(s:ByteArray)(v:Int)(l:dB):dP s (put s v l)=some v:=by
 induction l with
 |nil=>simp[put,dP]
 |cons p r ih=>grind[put,dP]
theorem jY{s t:ByteArray}(h:t≠s)(v:Int)(l:dB):dP t (put s v l)=dP t l:=by
 induction l with
 |nil=>simp[put,dP,h.symm]
 |cons p r ih=>
  grind[put,dP]
theorem oV(s:ByteArray)(v:Int)(l:dB):(put s v l).length=if(dP s l).isSome then l.length else l.length+1:=by
 induction l with
 |nil=>rfl
 |cons p r ih=>
  grind[put,dP]
def kl(s:ByteArray):Lit:= .string s.data.toList
theorem aSX{s t:ByteArray}(h:s≠t):kl s≠kl t:=by
 intro e;apply h;simp only[kl,Lit.string.injEq]at e;cases s;cases t;simpa using Array.ext' e
def Mp(w:World)(b n:Nat)(l:dB):Prop:=∃ D:DataW Unit,w.ownsMap prog 9 (plainElem prog 3) b n D/\(∀ s,has D (kl s)=(dP s l).isSome)/\(∀ s,D.atKey (kl s) (.lit (.int .i64 0))= .lit (.int .i64 ((dP s l).getD 0)))/\Maps.size D=l.length
theorem zero3(w:World):(zeroValue 3).run prog w= .ok (Qc 0) w:=by kernel_rfl
theorem Mp.made(w:World):Mp (w.alloc (.map #[] 0)) w.1.size 0 []:=
 ⟨.map [],World.ownsMap_made w _ _ _,fun _=>rfl,fun _=>rfl,rfl⟩
theorem Mp.lt{w:World}{b n:Nat}{l:dB}(h:Mp w b n l):b < w.1.size:=by obtain⟨D,a,_⟩:=h;exact a.lt
theorem Mp.mono{w:World}{b n a:Nat}{l:dB}(h:Mp w b n l)(e:n<=a):Mp w b a l:=by obtain⟨D,c,d⟩:=h;exact⟨D,c.mono e,d⟩
theorem Mp.same{w w':World}{b n:Nat}{l:dB}(h:Mp w b n l)(e:w'.1[b]?=w.1[b]?):Mp w' b n l:=by
 obtain⟨D,⟨c,a,f,r⟩,d⟩:=h;exact⟨D,⟨c,a,e.t f,r⟩,d⟩
theorem Mp.ismap{w:World}{b n:Nat}{l:dB}(h:Mp w b n l):∃ c a,w.1[b]?=some (.map c a):=by
 obtain⟨D,⟨c,a,e,r⟩,d⟩:=h;simp[*]
theorem Mp.look_ok{w:World}{b n:Nat}{l:dB}(h:Mp w b n l)(s:ByteArray)(j:s.size<=maxLen):
 (Instr.lookup 147 (.map (some b)) (.string s) true).run prog w= .ok (.tuple #[Qc ((dP s l).getD 0),.bool (dP s l).isSome]) w:=by
 obtain⟨D,d,f,g,_⟩:=h;obtain⟨v,ps,h0,k⟩:=d.look_ok (string_keyed underlying9) underlying147 (zero3 w) (plainElem_int underlying3 Ob) (WideMaps.keyOf_string_mk underlying9 j);obtain⟨c,rfl,i,_⟩:=plainElem_int_inv underlying3 k;have e:=congrArg Prod.fst i;have a:=g s;unfold kl at a;rw[a]at e;simp only[DataW.lit.injEq,Lit.int.injEq,true_and]at e;rw[h0,<-e,<-f s];rfl
theorem Mp.look{w:World}{b n:Nat}{l:dB}(h:Mp w b n l)(s:ByteArray)(c:s.size<=maxLen):
 (Instr.lookup 147 (.map (some b)) (.string s) false).run prog w= .ok (Qc ((YtikffmloeifkpaaGreatDoor.dP s l).getD 0)) w:=by
 obtain⟨D,a,d,e,_⟩:=h;obtain⟨v,ps,f,g⟩:=a.lookup (string_keyed Od) underlying147 (zero3 w) (plainElem_int Od Ob) (WideMaps.keyOf_string_mk Od c)
 grind[kl,plainElem_int_inv,underlying3,DataW.lit.injEq,Lit.int.injEq]
theorem Mp.len{w:World}{b n:Nat}{l:dB}(h:Mp w b n l)(Z:TypeId):(Builtin.len_ #[147] Z #[.map (some b)]).run prog w= .ok (Qc l.length) w:=by
 obtain⟨D,a,_,_,c⟩:=h;rw[<-c];exact a.len underlying147 Z
theorem Mp.put{w:World}{b n:Nat}{l:dB}(h:Mp w b n l)(m:n < maxLen)(s:ByteArray)(o:s.size<=maxLen)(v:Int)(p:(Lit.int .i64 v).wf=true):
 ∃ c,(Instr.mapUpdate 147 (.map (some b)) (.string s) (Qc v)).run prog w= .ok () c/\Mp c b (n+1) (YtikffmloeifkpaaGreatDoor.put s v l)/\w.mapTurned c b:=by
 obtain⟨D,d,e,g,i⟩:=h;obtain⟨c,h0,j,k⟩:=d.store (string_keyed Od) underlying147 m (WideMaps.keyOf_string_mk Od o) (plainElem_int Od p);have f:WideAt.IsKeyLit (kl s):=trivial;refine⟨c,h0,⟨_,j,fun t=>?_,fun t=>?_,?_⟩,k⟩
 ·by_cases a:t=s
  ·subst a;rw[lC];exact has_put_same d.isMap f _
  ·rw[jY a,<-e t];exact has_put_other (aSX a) _
 ·by_cases a:t=s
  ·subst a;rw[lC];exact atKey_put_same d.isMap f _ _
  ·rw[jY a,<-g t];exact atKey_put_other (aSX a) _ _
 ·rw[oV,<-e s,<-i];exact size_put (d.tidy (string_keyed Od)) _
theorem Mp.clear{w:World}{b n:Nat}{l:dB}(h:Mp w b n l):∃ d,(∀ Z,(Builtin.clear_ #[147] Z #[.map (some b)]).run prog w= .ok (.tuple #[]) d)/\Mp d b 0 []/\w.mapTurned d b:=by
 obtain⟨D,⟨e,a,c,_⟩,_⟩:=h;refine⟨setBlock w b (.map #[] a),fun Z=>?_,⟨.map [],⟨#[],a,heap_setBlock_same c _,⟨Od,MapKept.stamped_empty a,Od⟩,Ql _,rfl⟩,fun _=>rfl,fun _=>rfl,rfl⟩,⟨e,a,#[],a,c,rfl⟩⟩;simp[Builtin.clear_,run_underlying underlying147,MapKept.run_getObj_map c,MapKept.run_setObj_map _ c,setBlock,Result.andThen]
def aS(t:TypeId):Prop:=
 t=364\/t=361\/t=395\/t=450\/t=400\/t=402\/t=405\/t=271\/t=409\/t=328\/t=331\/
 t=337\/t=340\/t=343\/t=345\/t=196\/t=105\/t=100\/t=253\/t=269\/t=250\/t=151\/t=37
def dH(t:TypeId):Prop:=aS t\/t=192\/t=106
theorem aS.to{t:TypeId}(h:aS t):dH t:= .l h
structure tL(Q:TypeId->Prop)(H:Nat)(P:TypeId->Int->Prop)(w w':World):Prop where
 os:w'.os=w.os
 tape:w'.tape=w.tape
 output:w'.output=w.output
 size:w.1.size<=w'.1.size
 below:∀ k,k < H->w'.1[k]?=w.1[k]?
 block:∀ (k:Nat) (cs:Array Value) (t:TypeId),Q t->w.1[k]?=some (.cells cs t (0,0))->∃ cs',w'.1[k]?=some (.cells cs' t (0,0))/\(cs'=cs\/(cs'[1]?=cs[1]?/\∃ p:Int,cs[1]?=some (Qc p)/\P t p))
abbrev Fr(H:Nat)(P:TypeId->Int->Prop)(w w':World):Prop:=tL dH H P w w'
abbrev Fw(H:Nat)(P:TypeId->Int->Prop)(w w':World):Prop:=tL aS H P w w'
variable {H:Nat} {P Q:TypeId->Int->Prop} {X:TypeId->Prop} {u v w w':World}
theorem tL.refl(X:TypeId->Prop)(H:Nat)(P:TypeId->Int->Prop)(w:World):tL X H P w w:=⟨rfl,rfl,rfl,Oa,Od,Qg⟩
theorem Fr.refl(H:Nat)(P:TypeId->Int->Prop)(w:World):Fr H P w w:=tL.refl _ _ _ _
theorem Fw.refl(H:Nat)(P:TypeId->Int->Prop)(w:World):Fw H P w w:=tL.refl _ _ _ _
theorem tL.weak(h:tL dH H P w w'):Fw H P w w':=⟨h.os,h.tape,h.output,h.size,h.below,fun k a t c b=>h.block k a t c.to b⟩
theorem tL.mono(h:tL X H P w w')(g:∀ t p,P t p->Q t p):tL X H Q w w':=
 ⟨h.os,h.tape,h.output,h.size,h.below,fun k a t c b=>by
   obtain⟨d,e,f⟩:=h.block k a t c b
   grind⟩
theorem tL.t(h:tL X H P u v)(k:tL X H P v w):tL X H P u w:=by
 refine⟨k.os.t h.os,k.tape.t h.tape,k.output.t h.output,Qm h.size k.size,fun i hi=>(k.below i hi).t (h.below i hi),fun i b t a hi=>?_⟩;obtain⟨c1,c,e⟩:=h.block i b t a hi;obtain⟨c2,d,f⟩:=k.block i c1 t a c
 grind
theorem tL.drewN(h:tL X H P u w)(n:Nat):tL X H P u (w.drewN n):=⟨h.os,h.tape,h.output,h.size,h.below,h.block⟩
theorem tL.drew(h:tL X H P u w):tL X H P u w.drew:=⟨h.os,h.tape,h.output,h.size,h.below,h.block⟩
theorem tL.alloc(h:tL X H P u w)(o:Obj)(a:H<=w.1.size):tL X H P u (w.alloc o):=
 h.t ⟨rfl,rfl,rfl,Od,(by grind[Below.heap_alloc]),(by grind[Below.heap_alloc,Array.getElem?_eq_some_iff,trans])⟩
theorem tL.set(h:tL X H P u w){k:Nat}(b:H<=k)(c:∀ a t,X t->w.1[k]?≠some (.cells a t (0,0)))(o:Nat)(x:Value):tL X H P u (w.setCell ⟨k,o,none⟩ x):=by
 refine h.t ⟨rfl,rfl,rfl,Od,(by grind[Below.heap_setCell]),fun i a t d hi=>⟨a,(Om ?_).t hi,Od⟩⟩
 grind
theorem tL.write(h:tL X H P u w){k o:Nat}{cs:Array Value}{t:TypeId}{p:Int}(a:w.1[k]?=some (.cells cs t (0,0)))(c:H<=k)(d:o≠1)(b:cs[1]?=some (Qc p))(f:P t p)(x:Value):tL X H P u (w.setCell ⟨k,o,none⟩ x):=by
 refine h.t ⟨rfl,rfl,rfl,Od,(by grind[Below.heap_setCell]),fun i c2 g _ hi=>?_⟩
 by_cases e:i=k
 ·subst e;rw[a]at hi;simp only[Option.some.injEq,Obj.cells.injEq]at hi;obtain⟨rfl,rfl,_⟩:=hi;exact⟨_,aI _ a,Qh⟩
 grind[Below.heap_setCell,trans]
theorem tL.turned{b:Nat}(h:tL X H P u w)(k:H<=b)(e:w.mapTurned w' b):tL X H P u w':=by
 obtain⟨i,f,j,g,c,rfl⟩:=e;refine h.t ⟨rfl,rfl,rfl,by simp[setBlock],(by grind[heap_setBlock_other]),fun l a t _ d=>⟨a,(heap_setBlock_other c _ ?_).t d,Od⟩⟩
 grind
theorem tL.same{k:Nat}{cs:Array Value}{t:TypeId}(h:tL X H P w w')(a:w.1[k]?=some (.cells cs t (0,0)))(b:X t)(f:∀ p:Int,cs[1]?=some (Qc p)->¬P t p):w'.1[k]?=some (.cells cs t (0,0)):=by
 obtain⟨c,d,e⟩:=h.block k cs t b a
 grind
theorem tL.at{k:Nat}{t:TypeId}{R:Array Value->Prop}(h:tL X H P w w')(c:At w k t R)(e:X t)(f:∀ a,R a->∀ p:Int,a[1]?=some (Qc p)->¬P t p):At w' k t R:=by
 obtain⟨a,d,b⟩:=c;exact⟨a,h.same d e Qg,b⟩
def dX(t:TypeId):Prop:=t=361\/t=395\/t=450\/t=405\/t=328\/t=331\/t=196\/t=105\/t=100
theorem aIB(l:Tr)(c:∃ b o a e r,l= .node b o a e r/\∃ b o a x y,e=BT.node b o a x y):aS (cI l):=by
 grind[cI,aS]
theorem aIC{b o:Nat}{a:Nd}{e r:Tr}(h:dX (cI (.node b o a e r))):∃ b o a x y,e=BT.node b o a x y/\a.a=19:=by
 cases e with
 |nil=>grind[cI,dX]
 |node b2 o2 a2 x y=>
  refine⟨b2,o2,a2,x,y,rfl,?_⟩;unfold cI at h;dsimp only at h
  revert h
  repeat' split
  all_goals first|(intro _;assumption)|(intro h;exact(by grind[dX]))
def po(a:Nd):List Int:=if a.a=6 then[a.e]else if eV a.a then[a.b]else[]
theorem aFE{b o:Nat}{a:Nd}{l r:Tr}{p:Int}(h:p∈po a):p∈ps (.node b o a l r):=by
 grind[po,ps]
theorem gM.frX{k:Nat}{a:Nd}{l r:Tr}(L:∀ t,aS t->X t)(h0:tL X H P w w')(C:∀ t p,P t p->dX t)(h:gM a.a w k a l r)(S:∀ p∈po a,∀ t,¬P t p)(A:a.a=20->(∃ b o j e r,l= .node b o j e r/\j.a=15/\∃ b o a x y,e=BT.node b o a x y)/\∀ p∈ps l,¬P 100 p):gM a.a w' k a l r:=by
 have c:∀ {t:TypeId} {R:Array Value->Prop},At w k t R->aS t->¬dX t->At w' k t R:=fun n F E=>h0.at n Qh Qg
 have f:∀ {t:TypeId} {R:Array Value->Prop},At w k t R->aS t->eV a.a=true->a.a≠6->(∀ d,R d->uB d 0 a)->At w' k t R:=by
  intro t R n F E K D;refine h0.at n Qh (fun d g p i=>?_);rw[(D d g).2.1]at i
  grind[po]
 generalize O:a.a=s at*
 match s,h with
 |0,h=>exact c h (by simp[aS]) (by simp[dX])
 |1,h=>exact f h (by simp[aS]) rfl Ob Od
 |2,h=>exact f h (by simp[aS]) rfl Ob Qg
 |3,h=>exact f h (by simp[aS]) rfl Ob Qg
 |4,h=>exact c h (by simp[aS]) (by simp[dX])
 |5,h=>exact c h (by simp[aS]) (by simp[dX])
 |6,h=>
  refine h0.at h (by grind[aS]) (fun d g p i=>?_)
  grind[po]
 |7,h=>exact c h (by simp[aS]) (by simp[dX])
 |8,h=>exact c h (by simp[aS]) (by simp[dX])
 |9,h=>exact f h (by simp[aS]) rfl Ob Qg
 |10,h=>exact f h (by simp[aS]) rfl Ob Qg
 |11,h=>exact c h (by simp[aS]) (by simp[dX])
 |12,h=>exact c h (by simp[aS]) (by simp[dX])
 |13,h=>exact c h (by simp[aS]) (by simp[dX])
 |14,h=>exact c h (by simp[aS]) (by simp[dX])
 |16,h=>exact f h (by simp[aS]) rfl Ob Qg
 |17,h=>exact f h (by simp[aS]) rfl Ob Qg
 |20,h=>
  obtain⟨⟨G,T,j,e,V,rfl,J,M⟩,N⟩:=A rfl;refine⟨h.1,h0.at h.2 (by grind[aIB]) (fun d g p i z=>?_)⟩;obtain⟨I,U,m,x,y,rfl,B⟩:=aIC (C _ _ z);have q:(if m.a=19 then uB d (0*3) m else if m.a=7 then _ else _):=g.1;rw[if_pos B]at q;rw[q.2.1]at i
  grind[cI,ps,eV]
 |15,_|18,_|19,_=>trivial
 |s+21,_=>trivial
theorem gM.fr{k:Nat}{a:Nd}{l r:Tr}(h0:Fr H P w w')(f:∀ t p,P t p->dX t)(h:gM a.a w k a l r)(g:∀ p∈po a,∀ t,¬P t p)(d:a.a=20->(∃ b o c e r,l= .node b o c e r/\c.a=15/\∃ b o a x y,e=BT.node b o a x y)/\∀ p∈ps l,¬P 100 p):gM a.a w' k a l r:=gM.frX (fun _ h=>h.to) h0 f h g d
theorem gM.fw{k:Nat}{a:Nd}{l r:Tr}(h0:Fw H P w w')(f:∀ t p,P t p->dX t)(h:gM a.a w k a l r)(g:∀ p∈po a,∀ t,¬P t p)(d:a.a=20->(∃ b o c e r,l= .node b o c e r/\c.a=15/\∃ b o a x y,e=BT.node b o a x y)/\∀ p∈ps l,¬P 100 p):gM a.a w' k a l r:=gM.frX Od h0 f h g d
theorem jI{b o:Nat}{a:Nd}{l r:Tr}{p:Int}(h:p∈ps l):p∈ps (.node b o a l r):=by
 grind[ps]
theorem lQ{b o:Nat}{a:Nd}{l r:Tr}{p:Int}(h:p∈ps r):p∈ps (.node b o a l r):=by
 grind[ps]
theorem Ws.list{s b o:Nat}{a:Nd}{l r:Tr}(h:Ws s (.node b o a l r))(p:a.a=20)(A:l≠ .nil):∃ b o d e q,l= .node b o d e q/\d.a=15/\∃ b o a x y,e=BT.node b o a x y:=by
 unfold Ws at h;obtain⟨_,_,h⟩:=h
 have n:∃ k,(k=3\/k=4\/k=5\/k=6\/k=8)/\mD s a.a=some (10+k,99):=by
  rw[p]at h ⊢;unfold mD at h ⊢
  by_cases h0:s=0
  ·grind
  by_cases c:s=1
  ·grind
  by_cases j:s=2
  ·grind
  by_cases m:s=9
  ·grind
  by_cases g:s=3\/s=4\/s=5\/s=6\/s=8
  ·simp[*]
  ·exfalso;simp[h0,c,j,m,g]at h
 obtain⟨k,g,e⟩:=n;rw[e]at h;obtain⟨c,_⟩:=h;cases l with
 |nil=>trivial
 |node b2 o2 d e2 q=>
  refine⟨b2,o2,d,e2,q,rfl,?_⟩;unfold Ws at c;obtain⟨_,_,c⟩:=c
  have f:∀ z,z=0\/z=2\/z=20\/z=22\/z=7->Ws z e2->∃ b o a x y,e2=BT.node b o a x y:=by
   intro z B t;cases e2 with
   |nil=>exact absurd t (by unfold Ws eX;omega)
   |node b o a x y=>simp
  by_cases i:d.a=15
  ·refine⟨i,?_⟩;rw[i]at c;rcases g with rfl|rfl|rfl|rfl|rfl
   ·exact f 0 Oa c.1
   ·exact f 2 Oa c.1
   ·exact f 20 Oa c.1
   ·exact f 22 Oa c.1
   ·exact f 7 Oa c.1
  grind[mD]
theorem Ws.parts{s b o:Nat}{a:Nd}{l r:Tr}(h:Ws s (.node b o a l r)):vJ a/\∃ x y,mD s a.a=some (x,y)/\Ws x l/\Ws y r:=by
 grind[Ws,mD]
theorem bU.frX(f:∀ t,aS t->X t)(d:tL X H P w w')(e:∀ t p,P t p->dX t):∀ {t:Tr} {s:Nat},Ws s t->bU w t->(∀ p∈ps t,∀ Z,¬P Z p)->bU w' t:=by
 intro t
 induction t with
 |nil=>intro _ _ _ _;trivial
 |node k o a l r ihl ihr=>
  intro s c h j;obtain⟨_,x,y,_,g,i⟩:=c.parts;refine⟨ihl g h.1 (by grind[jI]),ihr i h.2.1 (by grind[lQ]),?_⟩;have b:=h.2.2;refine gM.frX f d e b (by grind[aFE]) (fun h0=>⟨c.list h0 ?_,(by grind[jI])⟩);unfold iR at b;rw[h0]at b;exact b.1
theorem bU.fr(h0:Fr H P w w')(a:∀ t p,P t p->dX t){t:Tr}{s:Nat}(c:Ws s t)(hi:bU w t)(b:∀ p∈ps t,∀ Z,¬P Z p):bU w' t:=bU.frX (fun _ h=>h.to) h0 a c hi b
theorem bU.fw(h0:Fw H P w w')(a:∀ t p,P t p->dX t){t:Tr}{s:Nat}(c:Ws s t)(hi:bU w t)(b:∀ p∈ps t,∀ Z,¬P Z p):bU w' t:=bU.frX Od h0 a c hi b
def Sh:Tr->Tr->Prop
 | .nil,.nil=>True
 | .node b o a l r,.node b' o' a' l' r'=>b'=b/\o'=o/\a'.a=a.a/\a'.h=a.h/\a'.b=a.b/\a'.e=a.e/\a'.op=a.op/\a'.flag=a.flag/\(a.a=19->a'.c=a.c)/\(a.a≠17->a'.g=a.g)/\Sh l l'/\Sh r r'
 |_,_=>False
theorem Sh.refl:∀ t:Tr,Sh t t:=by
 intro t
 induction t with
 |nil=>trivial
 |node b o a l r ihl ihr=>exact⟨rfl,rfl,rfl,rfl,rfl,rfl,rfl,rfl,fun _=>rfl,fun _=>rfl,ihl,ihr⟩
theorem Sh.lenL:∀ {t C:Tr},Sh t C->bG C=bG t:=by
 intro t
 induction t with
 |nil=>intro C h;cases C with
  |nil=>rfl
  |node=>exact absurd h id
 |node b o a l r _ ihr=>intro C h;cases C with
  |nil=>exact absurd h id
  |node b' o' a' l' r'=>simp only[YtikffmloeifkpaaGreatDoor.bG];rw[ihr h.2.2.2.2.2.2.2.2.2.2.2]
theorem Sh.g{t C:Tr}(h:Sh t C):aH C=aH t:=by
 cases t<;>cases C
 ·rfl
 ·trivial
 ·trivial
 ·obtain⟨rfl,rfl,a,_,_,_,_,_,_,_,b,_⟩:=h;unfold aH;dsimp only;rw[a,b.lenL]
theorem Sh.ptr{t C:Tr}(h:Sh t C):fO C=fO t:=by
 cases t<;>cases C
 ·rfl
 ·trivial
 ·trivial
 ·obtain⟨rfl,_⟩:=h;rfl
theorem Sh.nil_iff{t C:Tr}(h:Sh t C):C= .nil↔t= .nil:=by
 cases t<;>cases C
 ·simp
 ·trivial
 ·trivial
 ·simp
theorem Sh.rowTyp{t C:Tr}(h:Sh t C):cI C=cI t:=by
 cases t<;>cases C
 ·rfl
 ·exact absurd h id
 ·exact absurd h id
 ·rename_i b o a l r b' o' a' l' r';have c:=h.2.2.2.2.2.2.2.2.2.2.1;cases l<;>cases l'
  ·rfl
  ·exact absurd c id
  ·exact absurd c id
  ·unfold YtikffmloeifkpaaGreatDoor.cI;dsimp only;rw[c.2.2.1]
theorem Sh.rowOk{cs:Array Value}:∀ {t C:Tr} {o:Nat},Sh t C->mI cs o t->mI cs o C:=by
 intro t
 induction t with
 |nil=>intro C o h _;cases C with
  |nil=>trivial
  |node=>exact absurd h id
 |node b o1 a l r _ ihr=>intro C o h e;cases C with
  |nil=>exact absurd h id
  |node b' o' a' l' r'=>
   refine⟨?_,ihr h.2.2.2.2.2.2.2.2.2.2.2 e.2⟩;have d:=h.2.2.2.2.2.2.2.2.2.2.1;have c:=e.1;cases l with
   |nil=>exact absurd c id
   |node b2 o2 a2 x y=>
    cases l' with
    |nil=>exact absurd d id
    |node b3 o3 a3 x3 y3=>
     have k:=d.g;have i:=d.ptr;obtain⟨rfl,rfl,j,g,f,_,_,_,h0,_⟩:=d;show(if a3.a=19 then uB cs (o*3) a3 else if a3.a=7 then cs[o]?=some (fO _)else cs[o]?=some (aH _));replace c:(if a2.a=19 then uB cs (o*3) a2 else if a2.a=7 then cs[o]?=some (fO _)else cs[o]?=some (aH _)):=c;rw[j]
     split
     ·rename_i h19;rw[if_pos h19]at c;exact⟨by rw[g];exact c.1,by rw[f];exact c.2.1,by rw[h0 h19];exact c.2.2⟩
     ·rename_i h19;rw[if_neg h19]at c
      split
      ·rename_i h7;rw[if_pos h7]at c;rw[i];exact c
      ·rename_i h7;rw[if_neg h7]at c;rw[k];exact c
theorem Sh.node{t C:Tr}(h:Sh t C){b o:Nat}{a:Nd}{p q:Tr}(e:t= .node b o a p q):∃ f c d,C= .node b o f c d/\Sh p c/\Sh q d:=by
 subst e;cases C with
 |nil=>trivial
 |node b' o' f c d=>
  obtain⟨rfl,rfl,_,_,_,_,_,_,_,_,g,i⟩:=h
  grind
theorem gM.sh{n b:Nat}{w:World}{a:Nd}{l r t z:Tr}(h:gM n w b a l r)(f:Sh l t)(p:Sh r z):gM n w b a t z:=by
 have I:=f.g;have J:=p.g
 match n,h with
 |0,h=>exact h
 |1,h=>exact h
 |2,h=>grind[gM]
 |3,h=>grind[gM]
 |4,h=>grind[gM]
 |5,h=>grind[gM]
 |6,h=>grind[gM]
 |7,h=>grind[gM]
 |8,h=>grind[gM]
 |9,h=>grind[gM]
 |10,h=>grind[gM]
 |11,h=>
  obtain⟨c,d,h0,x,y,G,E,F,e,j,k⟩:=h;obtain⟨g,q,s,i,m,o⟩:=p.node e;exact⟨c,d,Qh,x,y,g,q,s,i,by rw[m.g];exact j,by rw[o.g];exact k⟩
 |12,h=>grind[gM]
 |13,h=>grind[gM]
 |14,h=>grind[gM]
 |16,h=>exact h
 |17,h=>
  obtain⟨c,d,D,h0,x,y,G,E,F,e,j,k,A⟩:=h;obtain⟨g,q,s,i,m,o⟩:=p.node e;exact⟨c,d,D,Qh,x,y,g,q,s,i,by rw[m.g];exact j,by rw[o.g];exact k,A⟩
 |20,h=>
  obtain⟨B,c,d,C⟩:=h;exact⟨fun e=>B (f.nil_iff.1 e),c,by rw[f.rowTyp];exact d,f.rowOk C⟩
 |15,_|18,_|19,_=>trivial
 |n+21,_=>trivial
theorem Sh.ps:∀ {t C:Tr},Sh t C->ps C=ps t:=by
 intro t
 induction t with
 |nil=>intro C h;cases C with
  |nil=>rfl
  |node=>exact absurd h id
 |node b o a l r ihl ihr=>intro C h;cases C with
  |nil=>exact absurd h id
  |node b' o' a' l' r'=>
   obtain⟨_,_,g,_,e,f,_,_,_,_,c,d⟩:=h;unfold YtikffmloeifkpaaGreatDoor.ps;rw[g,e,f,ihl c,ihr d]
theorem Sh.t:∀ {t u v:Tr},Sh t u->Sh u v->Sh t v:=by
 intro t
 induction t with
 |nil=>
   intro u v h k;cases u<;>cases v
   ·trivial
   ·exact k
   ·trivial
   assumption
 |node b o a l r ihl ihr=>
  intro u v h k;cases u with
  |nil=>trivial
  |node b1 o1 a1 l1 r1=>
   cases v with
   |nil=>assumption
   |node b2 o2 a2 l2 r2=>
    obtain⟨d,f,c,g,i,j,m,n,p,h0,q,s⟩:=h;obtain⟨x,z,A,B,C,D,E,F,G,y,kl,I⟩:=k;exact⟨x.t d,z.t f,A.t c,B.t g,C.t i,D.t j,E.t m,F.t n,fun e=>(G (c.t e)).t (p e),fun e=>(y (fun J=>e (c.symm.t J))).t (h0 e),ihl q kl,ihr s I⟩
theorem vJ.sh{a a':Nd}(h:vJ a)(f:a'.a=a.a)(e:a'.h=a.h)(c:a'.op=a.op)(d:a.a≠17->a'.g=a.g):vJ a':=
 ⟨by rw[e];exact h.h,fun b=>by rw[d Oa];exact h.g Oa,fun b=>by rw[d Oa];exact h.val0 Oa,fun b=>by rw[c];exact h.op6 Oa,fun b=>by rw[c];exact h.op7 Oa,fun b=>by rw[c];exact h.op8 Oa⟩
theorem Sh.ws:∀ {t C:Tr} {s:Nat},Sh t C->Ws s t->Ws s C:=by
 intro t
 induction t with
 |nil=>intro C s h c;cases C with
  |nil=>exact c
  |node=>trivial
 |node b o a l r ihl ihr=>intro C s h c;cases C with
  |nil=>trivial
  |node b' o' a' l' r'=>
   obtain⟨_,_,i,g,_,_,h0,_,_,j,d,k⟩:=h;obtain⟨f,x,y,p,m,n⟩:=c.parts;exact Ws.of20 (x:=x) (y:=y) Qh (f.sh i g h0 j) (fun e=>by rw[d.lenL];exact c.len Oa) Qh Qh
end
section
structure Rs where
 b:dB
 a:Int
 e:Int
def Rs.fail(s:Rs)(c p:Int):Rs:=if s.a=0 then⟨s.b,c,p⟩else s
def xP(O I U:Nat)(s:Rs):Array Value:=#[Qd O,.map (some I),.map (some U),Qc s.a,Qc s.e]
structure lZ(H O N I U:Nat)(E:Array Value)(F:dB)(s:Rs)(w:World):Prop where
 blk:w.1[N]?=some (.cells (xP O I U s) 149 (0,0))
 prog:w.1[O]?=some (.cells E 111 (0,0))
 first:Mp w I F.length F
 b:Mp w U s.b.length s.b
 rge:H<=N
 vge:H<=U
 ne:I≠U
def F0:TypeId->Int->Prop:=fun _ _=>False
variable {H O N I U:Nat} {E:Array Value} {F:dB} {s:Rs} {w w':World} {P:TypeId->Int->Prop}
theorem lZ.cell(h:lZ H O N I U E F s w)(o:Nat):w.cell? ⟨N,o,none⟩=(xP O I U s)[o]?:=cell_of_row _ _ _ _ _ _ h.blk
theorem lZ.froz(h:lZ H O N I U E F s w)(o:Nat):w.frozen? ⟨N,o,none⟩=false:=by simp[World.frozen?,h.blk]
theorem lZ.nomap(h:lZ H O N I U E F s w):∀ b a,w.1[N]?≠some (.map b a):=fun b a e=>by rw[h.blk]at e;cases e
theorem lZ.notree(h:lZ H O N I U E F s w):∀ a t,dH t->w.1[N]?≠some (.cells a t (0,0)):=fun a t b e=>by
 rw[h.blk]at e;simp only[Option.some.injEq,Obj.cells.injEq]at e;rw[<-e.2.1]at b
 grind[dH,aS]
theorem lZ.fne(h:lZ H O N I U E F s w):I≠N:=by
 obtain⟨b,a,e⟩:=h.first.ismap;intro x;subst x;exact h.nomap b a e
theorem lZ.vne(h:lZ H O N I U E F s w):U≠N:=by
 obtain⟨b,a,e⟩:=h.b.ismap;intro x;subst x;exact h.nomap b a e
theorem lZ.pne(h:lZ H O N I U E F s w):O≠N:=by
 intro x;have a:=h.prog;rw[x,h.blk]at a
 grind
theorem lZ.pvne(h:lZ H O N I U E F s w):O≠U:=by
 obtain⟨b,a,e⟩:=h.b.ismap;intro x;subst x;rw[h.prog]at e;cases e
theorem lZ.drewN(h:lZ H O N I U E F s w)(n:Nat):lZ H O N I U E F s (w.drewN n):=⟨h.blk,h.prog,h.first.same rfl,h.b.same rfl,h.rge,h.vge,h.ne⟩
theorem lZ.drew(h:lZ H O N I U E F s w):lZ H O N I U E F s w.drew:=⟨h.blk,h.prog,h.first.same rfl,h.b.same rfl,h.rge,h.vge,h.ne⟩
theorem lZ.write(h:lZ H O N I U E F s w)(o:Nat)(v:Value){a:Rs}(b:(xP O I U s).setIfInBounds o v=xP O I U a)(c:a.b=s.b):lZ H O N I U E F a (w.setCell ⟨N,o,none⟩ v):=
 ⟨by rw[aI v h.blk,b],(Om h.pne).t h.prog,h.first.same (Om h.fne),by rw[c];exact h.b.same (Om h.vne),h.rge,h.vge,h.ne⟩
theorem lZ.c(h:lZ H O N I U E F s w){k o:Nat}{cs:Array Value}{t:TypeId}(c:w.1[k]?=some (.cells cs t (0,0)))(d:dH t)(v:Value):lZ H O N I U E F s (w.setCell ⟨k,o,none⟩ v):=by
 have f:N≠k:=fun e=>h.notree cs t d Qh
 have g:O≠k:=by
  intro e;rw[<-e,h.prog]at c;simp only[Option.some.injEq,Obj.cells.injEq]at c;rw[<-c.2.1]at d
  grind[dH,aS]
 have a:∀ b n l,Mp w b n l->b≠k:=by
  intro b n l a e;obtain⟨m,i,j⟩:=a.ismap
  grind
 exact⟨(Om f).t h.blk,(Om g).t h.prog,h.first.same (Om (a _ _ _ h.first)),h.b.same (Om (a _ _ _ h.b)),h.rge,h.vge,h.ne⟩
theorem Mp.tight{w:World}{b n:Nat}{l:dB}(h:Mp w b n l):Mp w b l.length l:=by
 obtain⟨D,⟨c,a,g,F,i,rfl⟩,d,e,f⟩:=h;refine⟨_,⟨c,a,g,F,?_,rfl⟩,d,e,f⟩
 grind[Maps.size,length_sorted]
theorem lZ.turned(h:lZ H O N I U E F s w){n:Nat}{l:dB}(b:Mp w' U n l)(c:w.mapTurned w' U):lZ H O N I U E F ⟨l,s.a,s.e⟩ w':=by
 obtain⟨f,d,g,e,a,rfl⟩:=c;exact⟨(heap_setBlock_other a _ h.vne.symm).t h.blk,(heap_setBlock_other a _ h.pvne).t h.prog,h.first.same (heap_setBlock_other a _ h.ne),b.tight,h.rge,h.vge,h.ne⟩
def Wr(k o:Nat)(f:Int->Int)(w w':World):Prop:=∀ cs t q,w.1[k]?=some (.cells cs t (0,0))->cs[o]?=some (Qc q)->w'.1[k]?=some (.cells (cs.setIfInBounds o (Qc (f q))) t (0,0))
theorem Wr.id{k o:Nat}(h:∀ a t,w.1[k]?=some (.cells a t (0,0))->w'.1[k]?=some (.cells a t (0,0))):Wr k o (fun q=>q) w w':=by
 intro a t q b c;rw[h a t b]
 congr 2
 grind
theorem Wr.of_set{k o:Nat}(i:Int):Wr k o (fun _=>i) w (w.setCell ⟨k,o,none⟩ (Qc i)):=fun _ _ _ a _=>aI _ a
theorem Wr.after{u:World}{k o:Nat}{f:Int->Int}(h:∀ a t,u.1[k]?=some (.cells a t (0,0))->w.1[k]?=some (.cells a t (0,0)))(c:Wr k o f w w'):Wr k o f u w':=fun a t q d b=>c a t q Qg b
theorem Wr.ahead{u:World}{k o:Nat}{f:Int->Int}(d:Wr k o f u w)(h:∀ a t,w.1[k]?=some (.cells a t (0,0))->w'.1[k]?=some (.cells a t (0,0))):Wr k o f u w':=fun a t q b c=>h _ _ (d a t q b c)
theorem dR(c p:Int)(w:World)(h:lZ H O N I U E F s w):
 Calls prog 75 #[Qd N,Qc c,Qc p] w fun e w'=>e= .returned (.tuple #[])/\lZ H O N I U E F (s.fail c p) w'/\Fr H F0 w w':=by
 have c3:w.cell? ⟨N,3,none⟩=some (Qc s.a):=h.cell 3;have c4:w.cell? ⟨N,4,none⟩=some (Qc s.e):=h.cell 4;have f3:=h.froz 3;have i:=h.froz 4
 by_cases a:s.a=0
 ·have b:lZ H O N I U E F ⟨s.b,c,s.e⟩ (w.setCell ⟨N,3,none⟩ (Qc c)):=h.write 3 _ rfl rfl;have f:lZ H O N I U E F ⟨s.b,c,p⟩ ((w.setCell ⟨N,3,none⟩ (Qc c)).setCell ⟨N,4,none⟩ (Qc p)):=b.write 4 _ rfl rfl;have g:=(((Fr.refl H F0 w).set h.rge h.notree 3 (Qc c)).set h.rge b.notree 4 (Qc p));have d:Hid (s.fail c p=⟨s.b,c,p⟩):=if_pos a;rw[a]at c3;clear a b;go_enter func75,ntmps75
  go_wp2;go_end0
  exact⟨rfl,by rw[d.o];exact f,g⟩
 ·have d:Hid (s.fail c p=s):=if_neg a;have j:(s.a==0)=false:=by simpa using a
  go_enter func75,ntmps75
  go_wp2;go_end0
  exact⟨rfl,by rw[d.o];exact h,Fr.refl _ _ _⟩
end
section
structure pX(H:Nat)(P:TypeId->Int->Prop)(w:World)(k o:Nat)(x:ByteArray)(p:Int):Prop where
 ex:∃ cs t q p0,w.1[k]?=some (.cells cs t (0,0))/\cs[o]?=some (.string x)/\cs[o+1]?=some (Qc p)/\cs[o+2]?=some (Qc q)/\cs[1]?=some (Qc p0)/\P t p0/\dH t
 ge:H<=k
variable {H O N I U:Nat} {E:Array Value} {F:dB} {s:Rs} {w w':World} {k o:Nat} {x:ByteArray} {p:Int} {P:TypeId->Int->Prop}
theorem Fr.keep0(c:Fr H F0 w w'){cs:Array Value}{t:TypeId}(b:dH t)(a:w.1[k]?=some (.cells cs t (0,0))):w'.1[k]?=some (.cells cs t (0,0)):=c.same a b (fun _ _ h=>h)
theorem pX.fr0(h:pX H P w k o x p)(i:Fr H F0 w w'):pX H P w' k o x p:=by
 obtain⟨b,t,q,p0,g,h0,c,d,e,f,a⟩:=h.ex;exact⟨⟨b,t,q,p0,i.keep0 a g,h0,c,d,e,f,a⟩,h.ge⟩
theorem pX.keep0(h:pX H P w k o x p)(d:Fr H F0 w w'):∀ a t,w.1[k]?=some (.cells a t (0,0))->w'.1[k]?=some (.cells a t (0,0)):=by
 obtain⟨a,t,q,p0,b,h0,f,g,i,j,c⟩:=h.ex;intro c2 l e;rw[b]at e;simp only[Option.some.injEq,Obj.cells.injEq]at e;obtain⟨rfl,rfl,_⟩:=e;exact d.keep0 c b
theorem pX.c0(h:pX H P w k o x p):w.cell? ⟨k,o,none⟩=some (.string x):=by
 obtain⟨a,t,q,p0,b,h0,_⟩:=h.ex
 grind[cell_of_row]
theorem pX.c1(h:pX H P w k o x p):w.cell? ⟨k,o+1,none⟩=some (Qc p):=by
 obtain⟨a,t,q,p0,c,_,b,_⟩:=h.ex
 grind[cell_of_row]
theorem pX.c2(h:pX H P w k o x p):∃ q,w.cell? ⟨k,o+2,none⟩=some (Qc q):=by
 obtain⟨a,t,q,p0,c,_,_,b,_⟩:=h.ex
 grind[cell_of_row]
theorem pX.froz(h:pX H P w k o x p)(j:Nat):w.frozen? ⟨k,j,none⟩=false:=by
 obtain⟨b,t,q,p0,a,_⟩:=h.ex;simp[World.frozen?,a]
theorem pX.drewN(h:pX H P w k o x p)(n:Nat):pX H P (w.drewN n) k o x p:=⟨h.ex,h.ge⟩
def Rs.k0(s:Rs)(x:ByteArray)(p most:Int):Rs:=
 if most<=s.b.length then(if(dP x s.b).isSome then s.fail 4 p else s).fail 5 p else if(dP x s.b).isSome then s.fail 4 p else s
theorem Rs.fail_vars(s:Rs)(c p:Int):(s.fail c p).b=s.b:=by grind[Rs.fail]
theorem jN{Z:Array Oper}{rest:List Oper}{c:Oper}{a:Act}{Q:Exit->Act->World->Prop}(g:c.guard=none)(m:Operand)(h0:c.op=Op.call {callee:=Callee.builtin Builtin.len,args:=#[m],argTypes:=#[147]})(b n:Nat)(l:dB)(i:a.eval m= .map (some b))(h:Mp w b n l)(f:wpList prog Z Q rest (a.put c.dst (Qc l.length)) w):wpList prog Z Q (c::rest) a w:=by
 obtain⟨D,d,_,_,e⟩:=h;refine wpList_len_own w g m 147 h0 9 3 Od _ b n D i d ?_;rw[e];exact f
theorem yY(w:World)(b:Int)(h:lZ H O N I U E F s w)(i:pX H P w k o x p)(t:x.size<=maxLen):
 Calls prog 193 #[Qd N,.pointer (some ⟨k,o,none⟩),Qc b] w fun e w'=>e= .returned (.tuple #[])/\lZ H O N I U E F (s.k0 x p b) w'/\Fr H F0 w w':=by
 have c2:w.cell? ⟨N,2,none⟩=some (.map (some U)):=h.cell 2;have n0:=i.c0;have B:=i.c1;have l:∀ n,(Instr.lookup 147 (.map (some U)) (.string x) true).run prog (w.drewN n)= .ok (.tuple #[Qc ((dP x s.b).getD 0),.bool (dP x s.b).isSome]) (w.drewN n):=fun n=>(h.drewN n).b.look_ok x t;cases hv:(dP x s.b).isSome
 ·rw[hv]at l
  by_cases f:b<=s.b.length
  ·have c:Hid (s.k0 x p b=s.fail 5 p):=by unfold Hid Rs.k0;rw[if_pos f,hv];rfl
   go_enter func193,ntmps193
   go_wp2_with fail
   go_quiet (fail)
   go_wp2_with (at_len;refine jN rfl _ rfl U _ _ rfl (h.drewN _).b ?_)
   refine(dR 5 p _ (h.drewN _)).mono ?_;rintro e g ⟨rfl,a,d⟩;go_wp2;go_end0
   exact⟨rfl,by rw[c.o];exact a,((Fr.refl H F0 w).drewN _).t d⟩
  ·have c:Hid (s.k0 x p b=s):=by unfold Hid Rs.k0;rw[if_neg f,hv];rfl
   go_enter func193,ntmps193
   go_wp2_with fail
   go_quiet (fail)
   go_wp2_with (at_len;refine jN rfl _ rfl U _ _ rfl (h.drewN _).b ?_)
   go_end0
   exact⟨rfl,by rw[c.o];exact h.drewN _,(Fr.refl H F0 w).drewN _⟩
 ·rw[hv]at l;have j:∀ p,(s.fail 4 p).b=s.b:=fun p=>s.fail_vars 4 p
  by_cases f:b<=s.b.length
  ·have c:Hid (s.k0 x p b=(s.fail 4 p).fail 5 p):=by unfold Hid Rs.k0;rw[if_pos f,hv];rfl
   go_enter func193,ntmps193
   go_wp2_with fail
   go_quiet (fail)
   go_wp2_with fail
   refine(dR 4 p _ (h.drewN _)).mono ?_;rintro e g ⟨rfl,a,d⟩;have r:=(i.drewN _).fr0 d;have m:g.cell? ⟨N,2,none⟩=some (.map (some U)):=a.cell 2;have A:=r.c1;have h0:=a.b;rw[j]at h0;go_wp2_with (at_len;refine jN rfl _ rfl U _ _ rfl h0 ?_)
   refine(dR 5 p _ a).mono ?_;rintro e z ⟨rfl,q,y⟩;go_wp2;go_end0
   exact⟨rfl,by rw[c.o];exact q,(((Fr.refl H F0 w).drewN _).t d).t y⟩
  ·have c:Hid (s.k0 x p b=s.fail 4 p):=by unfold Hid Rs.k0;rw[if_neg f,hv];rfl
   go_enter func193,ntmps193
   go_wp2_with fail
   go_quiet (fail)
   go_wp2_with fail
   refine(dR 4 p _ (h.drewN _)).mono ?_;rintro e g ⟨rfl,a,d⟩;have m:g.cell? ⟨N,2,none⟩=some (.map (some U)):=a.cell 2;have h0:=a.b;rw[j]at h0;go_wp2_with (at_len;refine jN rfl _ rfl U _ _ rfl h0 ?_)
   go_end0
   exact⟨rfl,by rw[c.o];exact a,((Fr.refl H F0 w).drewN _).t d⟩
end
section
variable {H O N I U:Nat} {E:Array Value} {F:dB} {s:Rs} {w w':World} {k o:Nat} {x:ByteArray} {p:Int} {P:TypeId->Int->Prop}
def Rs.v0(s:Rs)(x:ByteArray):Rs:=⟨put x s.b.length s.b,s.a,s.e⟩
def Rs.oldVar(s:Rs)(x:ByteArray)(p:Int):Rs:=if(dP x s.b).isSome then s else s.fail 4 p
theorem F0.to(t:TypeId)(p:Int):F0 t p->P t p:=fun h=>Qj
theorem pX.write(b:pX H P w k o x p)(h:lZ H O N I U E F s w)(i:Int):lZ H O N I U E F s (w.setCell ⟨k,o+2,none⟩ (Qc i))/\Fr H P w (w.setCell ⟨k,o+2,none⟩ (Qc i))/\(w.setCell ⟨k,o+2,none⟩ (Qc i)).cell? ⟨k,o+2,none⟩=some (Qc i)/\
 (w.setCell ⟨k,o+2,none⟩ (Qc i)).cell? ⟨k,o,none⟩=some (.string x):=by
 obtain⟨f,t,q,p0,a,h0,g,j,c,d,e⟩:=b.ex;refine⟨h.c a e _,(Fr.refl H P w).write a b.ge Oa c d _,?_,?_⟩
 ·rw[cell_of_row _ _ _ _ _ _ (aI (o:=o+2) (Qc i) a)]
  grind
 ·rw[cell_of_row _ _ _ _ _ _ (aI (o:=o+2) (Qc i) a),Qq Oa];exact h0
theorem aD2(w:World)(h:lZ H O N I U E F s w)(a:pX H P w k o x p)(m:x.size<=maxLen):
 Calls prog 247 #[Qd N,.pointer (some ⟨k,o,none⟩)] w fun e w'=>e= .returned (.tuple #[])/\lZ H O N I U E F (s.oldVar x p) w'/\Fr H P w w'/\Wr k (o+2) (fun _=>(dP x s.b).getD 0) w w':=by
 have c2:w.cell? ⟨N,2,none⟩=some (.map (some U)):=h.cell 2;have n0:=a.c0;have z:=a.c1;have d:∀ n,(Instr.lookup 147 (.map (some U)) (.string x) true).run prog (w.drewN n)= .ok (.tuple #[Qc ((dP x s.b).getD 0),.bool (dP x s.b).isSome]) (w.drewN n):=fun n=>(h.drewN n).b.look_ok x m;cases hv:(dP x s.b).isSome
 ·rw[hv]at d;have b:Hid (s.oldVar x p=s.fail 4 p):=by unfold Hid Rs.oldVar;rw[hv];rfl
  go_enter func247,ntmps247
  go_wp2_with fail
  go_quiet (fail)
  go_wp2_with fail
  refine(dR 4 p _ (h.drewN _)).mono ?_;rintro e y ⟨rfl,i,c⟩;have h0:=(a.drewN nq).fr0 c;have l:=(a.drewN nq).keep0 c;obtain⟨r,q⟩:=h0.c2;have g:=h0.froz (o+2);obtain⟨j,t,_,_⟩:=h0.write i ((dP x s.b).getD 0);go_wp2;go_end0
  exact⟨rfl,by rw[b.o];exact j,(((Fr.refl H P w).drewN _).t (c.mono F0.to)).t t,Wr.after l (Wr.of_set _)⟩
 ·rw[hv]at d;have b:Hid (s.oldVar x p=s):=by unfold Hid Rs.oldVar;rw[hv];rfl
  obtain⟨r,q⟩:=a.c2;have g:=a.froz (o+2);have f:=fun n=>(a.drewN n).write (h.drewN n) ((dP x s.b).getD 0);go_enter func247,ntmps247
  go_wp2_with fail
  go_quiet (fail)
  go_wp2;go_end0
  exact⟨rfl,by rw[b.o];exact(f _).1,((Fr.refl H P w).drewN _).t (f _).2.1,Wr.after (w:=w.drewN nq) (fun _ _ h=>h) (Wr.of_set _)⟩
theorem zO(w:World)(h:lZ H O N I U E F s w)(c:pX H P w k o x p)(z:x.size<=maxLen)(L:s.b.length<=1000000):
 Calls prog 194 #[Qd N,.pointer (some ⟨k,o,none⟩)] w fun e w'=>e= .returned (.tuple #[])/\lZ H O N I U E F (s.v0 x) w'/\Fr H P w w'/\Wr k (o+2) (fun _=>s.b.length) w w':=by
 have c2:w.cell? ⟨N,2,none⟩=some (.map (some U)):=h.cell 2;obtain⟨S,R⟩:=c.c2;have J:=c.froz (o+2);obtain⟨b,A,K,d0⟩:=c.write h s.b.length;have q:(Lit.int .i64 (s.b.length:Int)).wf=true:=by simp[Lit.wf,IntKind.min,IntKind.max,IntKind.bits,IntKind.signed];omega
 obtain⟨f,M,r,d⟩:=(b.drew).b.put (by unfold maxLen;omega) x z s.b.length q;have D:(w.setCell ⟨k,o+2,none⟩ (Qc s.b.length)).cell? ⟨N,2,none⟩=some (.map (some U)):=b.cell 2
 have h0:∀ a t,(w.setCell ⟨k,o+2,none⟩ (Qc s.b.length)).1[k]?=some (.cells a t (0,0))->f.1[k]?=some (.cells a t (0,0)):=by
  intro a t l;obtain⟨n,m,G,C,j,rfl⟩:=d;refine(heap_setBlock_other j _ ?_).t l;intro e;subst e;have i:(w.setCell ⟨k,o+2,none⟩ (Qc s.b.length)).1[k]?=some (.map n m):=j;rw[l]at i;cases i
 have g:Wr k (o+2) (fun _=>(s.b.length:Int)) w f:=(Wr.of_set _).ahead h0;have y:Hid _:=g;clear h0 g;go_enter func194,ntmps194
 go_wp2_with (at_len;refine jN rfl _ rfl U _ _ rfl h.b ?_)
 generalize w.setCell ⟨k,o+2,none⟩ (Qc s.b.length)=B at*;go_region
 all_goals go_wp2
 all_goals go_end0
 all_goals exact⟨rfl,(b.drew).turned r d,A.drew.turned h.vge d,y.o⟩
end
section
def ItO(w:World)(b:Nat)(a:Nd)(l:Tr):Prop:=(a.a=16/\At w b 196 fun cs=>uB cs 0 a)\/(a.a=17/\At w b 105 fun cs=>uB cs 0 a/\cs[3]?=some (aH l))
structure ItW(E:Array Value)(its:List Tr)(w:World):Prop where
 row:0 < its.length->∃ g cp rw,E[0]?=some (Qe g its.length cp)/\w.1[g]?=some (.cells rw 151 (0,0))/\∀ (i:Nat) t,its[i]?=some t->rw[i]?=some (aH t)
 own:∀ t∈its,∃ b o a l r,t= .node b o a l r/\ItO w b a l
 few:its.length<=1000000
def aNR(F:dB)(its:List Tr):Prop:=∀ x i,dP x F=some i->0<=i/\i < its.length
def iU(F:dB)(its:List Tr)(x:ByteArray):Option Tr:=(dP x F).bind fun i=>its[i.toNat]?
def zX:Option Tr->Value
 |none=> .nilIface
 |some t=>aH t
variable {H O N I U:Nat} {E:Array Value} {F:dB} {s:Rs} {w w':World} {its:List Tr} {x:ByteArray} {P:TypeId->Int->Prop}
def cD(t:TypeId):Prop:=t=361\/t=395\/t=450\/t=405\/t=328\/t=331
theorem cD.e{t:TypeId}(h:cD t):dX t:=by grind[cD,dX]
def aIX(t:TypeId):Prop:=t≠196/\t≠105/\t≠151
theorem cD.inT{t:TypeId}(h:cD t):aIX t:=by
 unfold cD at h;rcases h with h|h|h|h|h|h<;>rw[h]<;>exact Qj
theorem ItO.fr{b:Nat}{a:Nd}{l:Tr}(h:ItO w b a l)(g:Fr H P w w')(f:∀ t p,P t p->aIX t):ItO w' b a l:=by
 rcases h with⟨c,d⟩|⟨c,d⟩
 ·exact .l ⟨c,g.at d (by simp[dH,aS]) (fun _ _ p _ e=>(f _ _ e).1 rfl)⟩
 ·exact .r ⟨c,g.at d (by simp[dH,aS]) (fun _ _ p _ e=>(f _ _ e).2.1 rfl)⟩
theorem ItW.fr(h:ItW E its w)(f:Fr H P w w')(d:∀ t p,P t p->aIX t):ItW E its w':=by
 refine⟨fun c=>?_,fun t y=>?_,h.few⟩
 ·obtain⟨g,i,z,j,m,n⟩:=h.row c;exact⟨g,i,z,j,f.same m (by simp[dH,aS]) (fun p _ c=>(d _ _ c).2.2 rfl),n⟩
 ·obtain⟨b,o,a,l,r,e,q⟩:=h.own t y;exact⟨b,o,a,l,r,e,q.fr f d⟩
theorem ItW.d(h:ItW E its w):∀ t∈its,∃ b o a l r,t= .node b o a l r/\(a.a=16\/a.a=17):=fun t d=>by
 obtain⟨b,o,a,l,r,e,c⟩:=h.own t d;refine⟨b,o,a,l,r,e,?_⟩;rcases c with⟨h,_⟩|⟨h,_⟩<;>simp[h]
theorem lB(w:World)(h:lZ H O N I U E F s w)(hi:ItW E its w)(B:aNR F its)(C:x.size<=maxLen):
 Calls prog 74 #[Qd N,.string x] w fun e w'=>e= .returned (zX (iU F its x))/\w=w':=by
 have c0:w.cell? ⟨N,0,none⟩=some (Qd O):=h.cell 0;have c1:w.cell? ⟨N,1,none⟩=some (.map (some I)):=h.cell 1;have h0:=h.first.look_ok x C;cases hl:dP x F with
 |none=>
  rw[hl]at h0;have f:Hid (zX (iU F its x)= .nilIface):=by unfold Hid iU;rw[hl];rfl
  simp only[Option.isSome_none,Option.getD_none]at h0;go_enter func74,ntmps74
  go_wp2;go_ret;exact⟨congrArg Ending.returned f.o.symm,rfl⟩
 |some i=>
  rw[hl]at h0;obtain⟨i0,K⟩:=B x i hl;obtain⟨j,rfl⟩:∃ j:Nat,i=j:=⟨i.toNat,Oa⟩;have d:j < its.length:=Oa
  obtain⟨g,y,L,z,A,m⟩:=hi.row Oa;have p0:w.cell? ⟨O,0,none⟩=some (Qe g its.length y):=Og h.prog z
  have q:=m j its[j] (List.getElem?_eq_getElem d);have D:w.cell? ⟨g,j,none⟩=some (aH its[j]):=Og A q
  have f:Hid (zX (iU F its x)=aH its[j]):=by unfold Hid iU;rw[hl];simp[List.getElem?_eq_getElem d,zX]
  obtain⟨b,o,a,l,r,n,J⟩:=hi.d its[j] (List.getElem_mem d);have c:aH its[j]= .iface (iV a.a) (Qd b):=by rw[n];exact Oh
  have t:Hid (aH its[j]= .iface (iV a.a) (Qd b)):=c;rw[c]at D;have G:=hi.few;simp only[Option.isSome_some,Option.getD_some]at h0;clear q m c n hl;go_enter func74,ntmps74
  go_wp2;go_ret;exact⟨congrArg Ending.returned (f.o.t t.o).symm,rfl⟩
end
section
structure yB(H O N I U:Nat)(E:Array Value)(F:dB)(its:List Tr)(s:Rs)(w:World):Prop where
 rs:lZ H O N I U E F s w
 it:ItW E its w
 fo:aNR F its
variable {H O N I U:Nat} {E:Array Value} {F:dB} {its:List Tr} {s B:Rs} {w w':World} {k o:Nat} {x:ByteArray} {p:Int} {P:TypeId->Int->Prop}
theorem yB.fr(h:yB H O N I U E F its s w)(c:lZ H O N I U E F B w')(d:Fr H P w w')(a:∀ t p,P t p->cD t):yB H O N I U E F its B w':=
 ⟨c,h.it.fr d fun t p b=>(a t p b).inT,h.fo⟩
def iK(F:dB)(its:List Tr)(x:ByteArray):Option Tr:=match iU F its x with
 |some (.node b o a l r)=>if a.a=16 then some (.node b o a l r)else none
 |_=>none
def eG(F:dB)(its:List Tr)(x:ByteArray):Option Tr:=match iU F its x with
 |some (.node b o a l r)=>if a.a=17 then some (.node b o a l r)else none
 |_=>none
def Rs.o0(s:Rs)(F:dB)(its:List Tr)(x:ByteArray)(p:Int):Rs:=if(iK F its x).isSome then s else s.fail 4 p
def mJ:Tr->Int
 | .nil=>0
 | .node _ _ a _ _=>a.c
def kH(F:dB)(its:List Tr)(x:ByteArray)(q:Int):Int:=match iK F its x with
 |some t=>mJ t
 |none=>q
theorem aK8(w:World):(Instr.typeAssert .nilIface 151 192 true).run prog w= .ok (.tuple #[.pointer none,.bool false]) w:=by kernel_rfl
theorem yK(q:Option Addr)(w:World):(Instr.typeAssert (.iface 192 (.pointer q)) 151 192 true).run prog w= .ok (.tuple #[.pointer q,.bool true]) w:=by kernel_rfl
theorem wE(q:Option Addr)(w:World):(Instr.typeAssert (.iface 106 (.pointer q)) 151 192 true).run prog w= .ok (.tuple #[.pointer none,.bool false]) w:=by kernel_rfl
theorem aCJ(w:World):(Instr.typeAssert .nilIface 151 106 true).run prog w= .ok (.tuple #[.pointer none,.bool false]) w:=by kernel_rfl
theorem uF(q:Option Addr)(w:World):(Instr.typeAssert (.iface 106 (.pointer q)) 151 106 true).run prog w= .ok (.tuple #[.pointer q,.bool true]) w:=by kernel_rfl
theorem aB8(q:Option Addr)(w:World):(Instr.typeAssert (.iface 192 (.pointer q)) 151 106 true).run prog w= .ok (.tuple #[.pointer none,.bool false]) w:=by kernel_rfl
theorem aFJ{x:ByteArray}{t:Tr}(a:iU F its x=some t):t∈its:=by
 unfold iU at a;cases hl:dP x F with
 |none=>grind
 |some i=>
  grind
theorem zD(h:yB H O N I U E F its s w)(x:ByteArray):iU F its x=none\/(∃ b o a l r,iU F its x=some (.node b o a l r)/\a.a=16/\At w b 196 fun c=>uB c 0 a)\/(∃ b o a l r,iU F its x=some (.node b o a l r)/\a.a=17/\At w b 105 fun c=>uB c 0 a/\c[3]?=some (aH l)):=by
 cases hm:iU F its x with
 |none=>simp
 |some t=>
  right;obtain⟨b,o,a,l,r,rfl,f⟩:=h.it.own t (aFJ hm);rcases f with⟨d,e⟩|⟨d,e⟩
  ·grind
  grind
theorem yH(w:World)(h:yB H O N I U E F its s w)(d:pX H P w k o x p)(y:x.size<=maxLen):
 Calls prog 248 #[Qd N,.pointer (some ⟨k,o,none⟩)] w fun e w'=>e= .returned (.tuple #[])/\lZ H O N I U E F (s.o0 F its x p) w'/\Fr H P w w'/\Wr k (o+2) (kH F its x) w w':=by
 have V:=aK8 w;have W:=fun q=>yK q w;have Y:=fun q=>wE q w;have n0:=d.c0;have R:=d.c1;obtain⟨T,S⟩:=d.c2;have L:=d.froz (o+2);rcases zD h x with c|⟨b,z,a,l,r,c,h0,j⟩|⟨b,z,a,l,r,c,h0,j⟩
 ·have f:Hid (s.o0 F its x p=s.fail 4 p):=by unfold Hid Rs.o0 iK;rw[c];rfl
  have g:Hid (kH F its x=fun q=>q):=by unfold Hid;funext q;unfold kH iK;rw[c]
  go_enter func248,ntmps248
  go_wp2_with fail
  refine(lB w h.rs h.it h.fo y).mono ?_;rintro e A ⟨rfl,rfl⟩;rw[c];unfold zX;go_wp2_with fail
  refine(dR 4 p _ h.rs).mono ?_;rintro e G ⟨rfl,n,i⟩;have m:=d.keep0 i;go_wp2;refine bodyPost_ret (results_none rfl _ _ _) rfl ?_;exact⟨rfl,by rw[f.o];exact n,i.mono F0.to,by rw[g.o];exact Wr.id m⟩
 ·have f:Hid (s.o0 F its x p=s):=by unfold Hid Rs.o0 iK;rw[c];simp[h0]
  have g:Hid (kH F its x=fun _=>a.c):=by unfold Hid;funext q;unfold kH iK;rw[c];simp[h0,mJ]
  have t:aH (.node b z a l r)= .iface 192 (Qd b):=by show(if a.a=20 then _ else _)=_;rw[Oh,h0];rfl
  obtain⟨K,D,⟨_,_,J⟩⟩:=j;have M:w.cell? ⟨b,2,none⟩=some (Qc a.c):=Og D J
  have C:=d.write h.rs a.c;clear D h0;go_enter func248,ntmps248
  go_wp2_with fail
  refine(lB w h.rs h.it h.fo y).mono ?_;rintro e A ⟨rfl,rfl⟩;rw[c];unfold zX;dsimp only;rw[t];go_wp2;go_end0
  exact⟨rfl,by rw[f.o];exact C.1,C.2.1,by rw[g.o];exact Wr.of_set _⟩
 ·have f:Hid (s.o0 F its x p=s.fail 4 p):=by unfold Hid Rs.o0 iK;rw[c];simp[h0]
  have g:Hid (kH F its x=fun q=>q):=by unfold Hid;funext q;unfold kH iK;rw[c];simp[h0]
  have t:aH (.node b z a l r)= .iface 106 (Qd b):=by show(if a.a=20 then _ else _)=_;rw[Oh,h0];rfl
  clear j h0;go_enter func248,ntmps248
  go_wp2_with fail
  refine(lB w h.rs h.it h.fo y).mono ?_;rintro e A ⟨rfl,rfl⟩;rw[c];unfold zX;dsimp only;rw[t];go_wp2_with fail
  refine(dR 4 p _ h.rs).mono ?_;rintro e G ⟨rfl,n,i⟩;have m:=d.keep0 i;go_wp2;refine bodyPost_ret (results_none rfl _ _ _) rfl ?_;exact⟨rfl,by rw[f.o];exact n,i.mono F0.to,by rw[g.o];exact Wr.id m⟩
end
section
theorem iO{T e:TypeId}(x u:TypeId)(v:Value)(w:World)(a:prog.underlying T=some (.pointer e))(b:(zeroValue T).run prog w= .ok (.pointer none) w):
 (Instr.typeAssert (.iface u v) x T true).run prog w= .ok (.tuple #[if u=T then v else .pointer none,.bool (decide (u=T))]) w:=by
 unfold Instr.typeAssert
 by_cases h:u=T
 ·subst h;simp[run_underlying a,Result.andThen]
 ·simp[run_underlying a,Result.andThen,h,b]
theorem aHU(u:TypeId)(v:Value)(w:World):(Instr.typeAssert (.iface u v) 269 359 true).run prog w= .ok (.tuple #[if u=359 then v else .pointer none,.bool (decide (u=359))]) w:=iO _ u v w underlying359 Od
theorem aCK(u:TypeId)(v:Value)(w:World):(Instr.typeAssert (.iface u v) 269 393 true).run prog w= .ok (.tuple #[if u=393 then v else .pointer none,.bool (decide (u=393))]) w:=iO _ u v w underlying393 Od
theorem aMJ(u:TypeId)(v:Value)(w:World):(Instr.typeAssert (.iface u v) 269 396 true).run prog w= .ok (.tuple #[if u=396 then v else .pointer none,.bool (decide (u=396))]) w:=iO _ u v w underlying396 Od
theorem aCM(u:TypeId)(v:Value)(w:World):(Instr.typeAssert (.iface u v) 269 398 true).run prog w= .ok (.tuple #[if u=398 then v else .pointer none,.bool (decide (u=398))]) w:=iO _ u v w underlying398 Od
theorem aEV(u:TypeId)(v:Value)(w:World):(Instr.typeAssert (.iface u v) 269 401 true).run prog w= .ok (.tuple #[if u=401 then v else .pointer none,.bool (decide (u=401))]) w:=iO _ u v w underlying401 Od
theorem aEW(u:TypeId)(v:Value)(w:World):(Instr.typeAssert (.iface u v) 269 403 true).run prog w= .ok (.tuple #[if u=403 then v else .pointer none,.bool (decide (u=403))]) w:=iO _ u v w underlying403 Od
def aJ:Tr->Nat
 | .nil=>0
 | .node _ _ _ l _=>bG l
def Rs.n0(s:Rs)(F:dB)(its:List Tr)(x:ByteArray)(p:Int)(n:Nat):Rs:=match eG F its x with
 |some (.node _ _ _ l _)=>if n=aJ l then s else s.fail 5 p
 |_=>s.fail 4 p
def nT(F:dB)(its:List Tr)(x:ByteArray)(n:Nat)(q:Int):Int:=match eG F its x with
 |some (.node _ _ a l _)=>if n=aJ l then a.c else q
 |_=>q
def mH(F:dB)(its:List Tr)(a:Nd)(n:Nat)(s:Rs):Rs:=
 if a.a=9 then(if a.flag=true then s.k0 a.h a.b 12 else s.oldVar a.h a.b)
 else if a.a=1 then s.oldVar a.h a.b else if a.a=2\/a.a=10 then s.o0 F its a.h a.b else if a.a=3 then s.n0 F its a.h a.b n else s
def wh1(F:dB)(its:List Tr)(a:Nd)(n:Nat)(s:Rs):Int:=
 if a.a=1\/a.a=9 then(dP a.h s.b).getD 0 else if a.a=2\/a.a=10 then kH F its a.h a.c else if a.a=3 then nT F its a.h n a.c else a.c
def eE(F:dB)(its:List Tr):Tr->Rs->Rs
 | .nil,s=>s
 | .node _ _ a l r,s=>
  if a.a=9/\a.flag=true then(eE F its l (mH F its a (aJ l) s)).v0 a.h
  else eE F its r (eE F its l (mH F its a (aJ l) s))
def pI(F:dB)(its:List Tr):Tr->Rs->Tr
 | .nil,_=> .nil
 | .node b o a l r,s=>
  if a.a=9/\a.flag=true then .node b o {a with c:=(eE F its l (mH F its a (aJ l) s)).b.length} (pI F its l (mH F its a (aJ l) s)) r
  else .node b o {a with c:=wh1 F its a (aJ l) s} (pI F its l (mH F its a (aJ l) s)) (pI F its r (eE F its l (mH F its a (aJ l) s)))
theorem aC7(t:Tr):aJ (er t)=aJ t:=by
 cases t with
 |nil=>rfl
 |node b o a l r=>exact aN9 l
theorem aKL(F:dB)(its:List Tr):∀ (t:Tr) (s:Rs),eE F its (er t) s=eE F its t s:=by
 intro t
 induction t with
 |nil=>intro s;rfl
 |node b o a l r ihl ihr=>
  grind[er,eE,aC7]
theorem eZ(F:dB)(its:List Tr):∀ (t:Tr) (s:Rs),Sh t (pI F its t s):=by
 intro t
 induction t with
 |nil=>intro s;trivial
 |node b o a l r ihl ihr=>
  intro s;unfold pI
  split
  ·rename_i h;exact⟨rfl,rfl,rfl,rfl,rfl,rfl,rfl,rfl,fun e=>Oa,fun _=>rfl,ihl _,Sh.refl _⟩
  ·refine⟨rfl,rfl,rfl,rfl,rfl,rfl,rfl,rfl,fun e=>?_,fun _=>rfl,ihl _,ihr _⟩
   grind[wh1]
def Pt(t:Tr):TypeId->Int->Prop:=fun Z p=>cD Z/\p∈ps t
def Po(a:Nd):TypeId->Int->Prop:=fun Z p=>cD Z/\p∈po a
theorem Po.to{b o:Nat}{a:Nd}{l r:Tr}(Z:TypeId)(p:Int)(h:Po a Z p):Pt (.node b o a l r) Z p:=⟨h.1,aFE h.2⟩
theorem Pt.left{b o:Nat}{a:Nd}{l r:Tr}(Z:TypeId)(p:Int)(h:Pt l Z p):Pt (.node b o a l r) Z p:=⟨h.1,jI h.2⟩
theorem Pt.right{b o:Nat}{a:Nd}{l r:Tr}(Z:TypeId)(p:Int)(h:Pt r Z p):Pt (.node b o a l r) Z p:=⟨h.1,lQ h.2⟩
theorem xT{H k:Nat}{w:World}{a:Nd}{l r:Tr}(h:iR w k a l r)(i:H<=k)(c:a.a=1\/a.a=2\/a.a=3\/a.a=9\/a.a=10):pX H (Po a) w k 0 a.h a.b:=by
 have n:a.b∈po a:=by unfold po;rw[Oh,if_pos (by rcases c with h|h|h|h|h<;>rw[h]<;>rfl)];simp
 have key:∀ t b,w.1[k]?=some (.cells b t (0,0))->uB b 0 a->cD t->dH t->pX H (Po a) w k 0 a.h a.b:=by
  intro t b d e m g;obtain⟨n0,f,j⟩:=e;exact⟨⟨b,t,a.c,a.b,d,n0,f,j,f,Qj,g⟩,i⟩
 unfold iR at h;rcases c with c|c|c|c|c<;>rw[c]at h
 ·obtain⟨b,d,e⟩:=h
  grind[cD,dH,aS]
 ·obtain⟨b,d,e,_⟩:=h
  grind[cD,dH,aS]
 ·obtain⟨b,d,e,_⟩:=h
  grind[cD,dH,aS]
 ·obtain⟨b,d,e,_⟩:=h
  grind[cD,dH,aS]
 ·obtain⟨b,d,e,_⟩:=h
  grind[cD,dH,aS]
theorem uB.set{cs:Array Value}{a:Nd}(h:uB cs 0 a)(i:Int):uB (cs.setIfInBounds 2 (Qc i)) 0 {a with c:=i}:=by
 refine⟨(Qq Oa).t h.1,(Qq Oa).t h.2.1,?_⟩;show(cs.setIfInBounds 2 _)[2]?=_;rw[Array.getElem?_setIfInBounds_self_of_lt (Oo h.2.2)]
theorem yS{k:Nat}{w w':World}{a:Nd}{l r:Tr}{f:Int->Int}(h:iR w k a l r)(g:a.a=1\/a.a=2\/a.a=3\/a.a=9\/a.a=10)(i:Wr k 2 f w w'):iR w' k {a with c:=f a.c} l r:=by
 unfold iR at h ⊢;dsimp only;have ne:∀ {e:Array Value} {n:Nat} {v:Value} {x:Value},2≠n->e[n]?=some v->(e.setIfInBounds 2 x)[n]?=some v:=Qg;rcases g with g|g|g|g|g<;>rw[g]at h ⊢
 ·obtain⟨e,d,b⟩:=h;exact⟨_,i _ _ _ d b.2.2,b.set _⟩
 ·obtain⟨e,d,b,j,m⟩:=h;exact⟨_,i _ _ _ d b.2.2,b.set _,Qh,Qh⟩
 ·obtain⟨e,d,b,j,m⟩:=h;exact⟨_,i _ _ _ d b.2.2,b.set _,Qh,Qh⟩
 ·obtain⟨e,d,b,j,m⟩:=h;exact⟨_,i _ _ _ d b.2.2,b.set _,Qh,Qh⟩
 ·obtain⟨e,d,b,j,m,q⟩:=h;exact⟨_,i _ _ _ d b.2.2,b.set _,Qh,Qh,Qh⟩
structure Uq(a:Nd)(l r:Tr):Prop where
 left:(ps l).Nodup
 right:(ps r).Nodup
 own_l:∀ p∈po a,p ∉ ps l
 own_r:∀ p∈po a,p ∉ ps r
 apart:∀ p∈ps l,p ∉ ps r
theorem fU{b o:Nat}{a:Nd}{l r:Tr}(h:(ps (.node b o a l r)).Nodup):Uq a l r:=by
 unfold ps at h
 split at h
 ·rename_i h6;have e:po a=[a.e]:=if_pos h6;rw[List.nodup_append]at h;obtain⟨d,c,g⟩:=h;rw[List.nodup_cons]at c;refine⟨d,c.2,fun p f i=>?_,fun p f j=>?_,Qg⟩
  ·grind
  grind
 ·rename_i h6
  split at h
  ·rename_i hn;have e:po a=[a.b]:=(if_neg h6).t (if_pos hn);rw[List.nodup_cons,List.nodup_append]at h;obtain⟨h0,d,c,g⟩:=h;refine⟨d,c,fun p f i=>?_,fun p f j=>?_,Qg⟩
   ·grind
   grind
  ·rename_i hn;have e:po a=[]:=(if_neg h6).t (if_neg hn);rw[List.nodup_append]at h;obtain⟨d,c,g⟩:=h;exact⟨d,c,Qh,Qh,Qg⟩
def isV(t:Tr):Prop:=∃ u p,aH t= .iface u (.pointer (some p))
theorem Ws.g{t:Tr}{s:Nat}(h:Ws s t)(c:s=0\/s=1\/s=2\/s=21):isV t:=by
 cases t with
 |nil=>exact absurd h (by unfold Ws eX;omega)
 |node b o a l r=>
  obtain⟨_,x,y,e,_⟩:=h.parts;refine⟨iV a.a,⟨b,0,none⟩,if_neg (fun d=>?_)⟩;rw[d]at e;rcases c with rfl|rfl|rfl|rfl<;>cases e
theorem Ws.nil_of{t:Tr}(h:Ws 99 t):t= .nil:=by
 cases t with
 |nil=>rfl
 |node b o a l r=>obtain⟨_,x,y,e,_⟩:=h.parts;cases e
variable {H O N I U:Nat} {E:Array Value} {F:dB} {its:List Tr}
def xD(H O N I U:Nat)(E:Array Value)(F:dB)(P:TypeId->Int->Prop)(t:Tr)(s:Rs)(w:World):Ending->World->Prop:=fun e w'=>e= .returned (.tuple #[])/\lZ H O N I U E F s w'/\bU w' t/\Fr H P w w'
def GN(f H O N I U:Nat)(E:Array Value)(F:dB)(its:List Tr)(val:Tr->Value)(t:Tr):Prop:=
 ∀ s w,yB H O N I U E F its s w->bU w t->Calls prog f #[Qd N,val t] w (xD H O N I U E F (Pt t) (pI F its t s) (eE F its t s) w)
theorem Po.body{a:Nd}(t:TypeId)(p:Int)(h:Po a t p):cD t:=h.1
theorem Pt.body{l:Tr}(t:TypeId)(p:Int)(h:Pt l t p):cD t:=h.1
theorem F0.body(t:TypeId)(p:Int)(h:F0 t p):cD t:=Qj
theorem Po.o{a:Nd}{l:Tr}(h:∀ p∈po a,p ∉ ps l):∀ p∈ps l,∀ Z,¬Po a Z p:=fun p b _ c=>h p c.2 b
theorem Pt.o{l r:Tr}(h:∀ p∈ps l,p ∉ ps r):∀ p∈ps r,∀ Z,¬Pt l Z p:=fun p a _ b=>h p b.2 a
theorem dZ{H b:Nat}{P:TypeId->Int->Prop}{w w':World}{a:Nd}{l r:Tr}(h:iR w b a l r)(f:Fr H P w w')(c:∀ t p,P t p->cD t)(d:∀ p∈po a,∀ t,¬P t p)(g:a.a≠20):iR w' b a l r:=
 gM.fr f (fun t p e=>(c t p e).e) h d Oa
theorem Uq.apart_{a:Nd}{l r:Tr}(h:Uq a l r):∀ p∈ps r,p ∉ ps l:=fun p c b=>h.apart p b c
theorem uR{H s:Nat}{w w':World}{t C r:Tr}(h:bU w C)(e:Fr H (Pt r) w w')(d:Ws s t)(b:Sh t C)(c:∀ p∈ps r,p ∉ ps t):bU w' C:=
 bU.fr e (fun Z p a=>(Pt.body Z p a).e) (b.ws d) h (fun p a=>by rw[b.ps]at a;exact Pt.o c p a)
theorem kK{b:Nat}{w:World}{a:Nd}{l r c d:Tr}(h:iR w b a l r)(e:Sh l c)(f:Sh r d):iR w b a c d:=gM.sh h e f
theorem bM{b:Nat}{w:World}{a:Nd}{l r:Tr}(h:iR w b a l r){n:Nat}(c:a.a=n):gM n w b a l r:=by grind[iR]
theorem qL{a:Nd}{b o:Nat}{l r:Tr}{s:Rs}(h: ¬(a.a=9/\a.flag=true)):pI F its (.node b o a l r) s= .node b o {a with c:=wh1 F its a (aJ l) s} (pI F its l (mH F its a (aJ l) s)) (pI F its r (eE F its l (mH F its a (aJ l) s))):=by
 show(if _ then _ else _)=_;simp[*]
theorem jB{a:Nd}{b o:Nat}{l r:Tr}{s:Rs}(h: ¬(a.a=9/\a.flag=true)):eE F its (.node b o a l r) s=eE F its r (eE F its l (mH F its a (aJ l) s)):=by
 show(if _ then _ else _)=_;simp[*]
theorem aTE{b o:Nat}{a:Nd}{l r:Tr}(hw:Ws 0 (.node b o a l r))(Y:dE H (.node b o a l r))(k8:(ps (.node b o a l r)).Nodup)(J:a.a=2\/a.a=4\/a.a=5\/a.a=6->Ws 0 l/\GN 195 H O N I U E F its aH l)(Z:a.a=6->Ws 0 r/\GN 195 H O N I U E F its aH r)(f:a.a=3->GN 249 H O N I U E F its fO (.node b o a l r)):GN 195 H O N I U E F its aH (.node b o a l r):=by
 intro s w h hi;obtain⟨y4,sx,sy,R,y3,y2⟩:=hw.parts;have hn:a.h.size<=maxLen:=by have:=y4.h;unfold maxLen;omega
 have ht:a.a < 7:=by
  rcases Qt a.a 7 with h|h
  ·exact h
  ·exfalso;unfold mD at R;rw[if_pos rfl]at R;rw[Oh,Oh,Oh,Oh,Oh]at R;cases R
 have S:a.a=0\/a.a=1->l= .nil:=fun h=>by
  have:sx=99:=by rcases h with h|h<;>rw[h]at R<;>cases R<;>rfl
  subst this;exact y3.nil_of
 have z:a.a≠6->r= .nil:=fun h=>by
  have:sy=99:=by
   have d:a.a=0\/a.a=1\/a.a=2\/a.a=3\/a.a=4\/a.a=5:=Oa
   rcases d with d|d|d|d|d|d<;>rw[d]at R<;>cases R<;>rfl
  subst this;exact y2.nil_of
 have y7:H<=b:=Y.2.2 (by unfold kJ;omega);have g:=hi.2.2;have K:=fU k8;have L: ¬(a.a=9/\a.flag=true):=fun h=>Oa
 rw[qL L,jB L];have hv:aH (.node b o a l r)= .iface (iV a.a) (Qd b):=Oh;rw[hv];clear hv R;have t1:=fun u v=>aHU u v w;have t2:=fun u v=>aCK u v w;have t3:=fun u v=>aMJ u v w;have t4:=fun u v=>aCM u v w;have t5:=fun u v=>aEV u v w;have t6:=fun u v=>aEW u v w
 by_cases j:a.a=1
 ·obtain rfl:=S (.r j);obtain rfl:=z Oa;have hs:mH F its a (aJ .nil) s=s.oldVar a.h a.b:=by simp[mH,j]
  have k7:wh1 F its a (aJ .nil) s=(dP a.h s.b).getD 0:=by simp[wh1,j]
  rw[hs,k7];have HS:Hid (iR w b a .nil .nil):=g;have hN:=xT g y7 (.l j);have y:Hid (a.a=1):=j;rw[show iV a.a=359 by rw[j];rfl];clear S z J Z f g j hs k7 L ht K k8 hi y3 y2 Y hw;go_enter func195,ntmps195
  go_wp2_with fail
  refine(aD2 w h.rs hN hn).mono ?_;rintro e W ⟨rfl,d,A,a3⟩;go_wp2;go_end0
  exact⟨rfl,d,⟨trivial,trivial,yS HS.o (.l y.o) a3⟩,A.mono Po.to⟩
 by_cases m:a.a=2
 ·obtain rfl:=z Oa;have hs:mH F its a (aJ l) s=s.o0 F its a.h a.b:=by simp[mH,m]
  have k7:wh1 F its a (aJ l) s=kH F its a.h a.c:=by simp[wh1,m]
  rw[hs,k7];have hN:=xT g y7 (.r (.l m));obtain⟨M,G⟩:=J (.l m);obtain⟨u,p,k9⟩:=M.g Oy;have HL:Hid (GN 195 H O N I U E F its aH l):=G;have y:Hid (a.a=2):=m;have D:Hid (Uq a l .nil):=K;have HI:Hid (bU w (.node b o a l .nil)):=hi;rw[show iV a.a=393 by rw[m];rfl];clear S z J Z f g j m G hs k7 L ht K k8 hi Y hw;go_enter func195,ntmps195
  go_wp2_with fail
  refine(yH w h hN hn).mono ?_;rintro e W ⟨rfl,d,A,a3⟩;have i2:bU W l:=bU.fr A (fun t p q=>(Po.body t p q).e) M HI.o.1 (Po.o D.o.own_l);have o2:=yS HI.o.2.2 (.r (.l y.o)) a3
  have m3:W.cell? ⟨b,3,none⟩=some (aH l):=by
   obtain⟨cs,f,_,i,_⟩:=bM o2 (n:=2) y.o;rw[cell_of_row _ _ _ _ _ _ f];exact i
  have h0:=HL.o _ _ (h.fr d A Po.body) i2;rw[k9]at m3 h0;have y9:Hid (iR W b {a with c:=kH F its a.h a.c} l .nil):=o2;clear o2 a3;go_wp2_with fail
  refine h0.mono ?_;rintro e W3 ⟨rfl,i,i3,C⟩;go_wp2;go_end0
  have o3:=dZ y9.o C Pt.body (fun p q a2 T=>D.o.own_l p q T.2) (by have:=y.o;show a.a≠20;omega);exact⟨rfl,i,⟨i3,trivial,kK o3 (eZ _ _ _ _) (Sh.refl _)⟩,(A.mono Po.to).t (C.mono Pt.left)⟩
 by_cases V:a.a=3
 ·have h0:=f V s w h hi;rw[qL L,jB L]at h0;have y0:Calls prog 249 #[Qd N,Qd b] w _:=h0;rw[show iV a.a=396 by rw[V];rfl];clear S z J Z f g j m V h0 L ht K k8 hi y3 y2 Y hw;go_enter func195,ntmps195
  go_wp2_with fail
  refine y0.mono ?_;rintro e W ⟨rfl,d,i2,A⟩;go_wp2;go_end0
  exact⟨rfl,d,i2,A⟩
 have k7:a.a≠1->a.a≠2->a.a≠3->wh1 F its a (aJ l) s=a.c:=fun _ _ _=>by unfold wh1;rw[Oh,Oh,Oh]
 have y5:a.a≠1->a.a≠2->a.a≠3->mH F its a (aJ l) s=s:=fun _ _ _=>by unfold mH;rw[Oh,Oh,Oh,Oh]
 rw[k7 j m V,y5 j m V];clear k7 y5
 by_cases k4:a.a=4
 ·obtain rfl:=z Oa;obtain⟨M,G⟩:=J (.r (.l k4));obtain⟨u,p,k9⟩:=M.g Oy
  have m3:w.cell? ⟨b,0,none⟩=some (aH l):=by
   obtain⟨cs,f,i⟩:=bM g (n:=4) k4;rw[cell_of_row _ _ _ _ _ _ f];exact i
  have h0:=G s w h hi.1;rw[k9]at m3 h0;have y:Hid (a.a=4):=k4;have D:Hid (Uq a l .nil):=K;have HO:Hid (iR w b a l .nil):=g;rw[show iV a.a=398 by rw[k4];rfl];clear S z J Z f g j m V k4 G L ht K k8 hi Y hw;go_enter func195,ntmps195
  go_wp2_with fail
  refine h0.mono ?_;rintro e W3 ⟨rfl,i,i3,C⟩;go_wp2;go_end0
  have o3:=dZ HO.o C Pt.body (fun p q a2 T=>D.o.own_l p q T.2) (Oi y.o);exact⟨rfl,i,⟨i3,trivial,kK o3 (eZ _ _ _ _) (Sh.refl _)⟩,C.mono Pt.left⟩
 by_cases k5:a.a=5
 ·obtain rfl:=z Oa;obtain⟨M,G⟩:=J (.r (.r (.l k5)));obtain⟨u,p,k9⟩:=M.g Oy
  have m3:w.cell? ⟨b,0,none⟩=some (aH l):=by
   obtain⟨cs,f,i⟩:=bM g (n:=5) k5;rw[cell_of_row _ _ _ _ _ _ f];exact i
  have h0:=G s w h hi.1;rw[k9]at m3 h0;have y:Hid (a.a=5):=k5;have D:Hid (Uq a l .nil):=K;have HO:Hid (iR w b a l .nil):=g;rw[show iV a.a=401 by rw[k5];rfl];clear S z J Z f g j m V k4 k5 G L ht K k8 hi Y hw;go_enter func195,ntmps195
  go_wp2_with fail
  refine h0.mono ?_;rintro e W3 ⟨rfl,i,i3,C⟩;go_wp2;go_end0
  have o3:=dZ HO.o C Pt.body (fun p q a2 T=>D.o.own_l p q T.2) (Oi y.o);exact⟨rfl,i,⟨i3,trivial,kK o3 (eZ _ _ _ _) (Sh.refl _)⟩,C.mono Pt.left⟩
 by_cases k6:a.a=6
 ·obtain⟨M,G⟩:=J (.r (.r (.r k6)));obtain⟨u,p,k9⟩:=M.g Oy;obtain⟨y1,y6⟩:=Z k6;obtain⟨u2,p2,y8⟩:=y1.g Oy;have HR:Hid (GN 195 H O N I U E F its aH r):=y6
  have a4:∀ w',iR w' b a l r->w'.cell? ⟨b,2,none⟩=some (aH l)/\w'.cell? ⟨b,3,none⟩=some (aH r):=by
   intro w' ho;obtain⟨cs,f,_,_,d,i,_⟩:=bM ho (n:=6) k6;exact⟨Og f d,Og f i⟩
  have m2:=(a4 w g).1;have h0:=G s w h hi.1;rw[k9]at m2 h0;have y:Hid (a.a=6):=k6;have D:Hid (Uq a l r):=K;have HI:Hid (bU w (.node b o a l r)):=hi;rw[show iV a.a=403 by rw[k6];rfl];clear S z J Z f g j m V k4 k5 k6 G y6 L ht K k8 hi Y hw;go_enter func195,ntmps195
  go_wp2_with fail
  refine h0.mono ?_;rintro e W ⟨rfl,d,i2,A⟩;have o2:=dZ HI.o.2.2 A Pt.body (fun p q a2 T=>D.o.own_l p q T.2) (Oi y.o);have j2:bU W r:=bU.fr A (fun t p q=>(Pt.body t p q).e) y1 HI.o.2.1 (Pt.o D.o.apart);have m3:=(a4 W o2).2;have h8:=HR.o _ _ (h.fr d A Pt.body) j2;rw[y8]at m3 h8;go_wp2_with fail
  refine h8.mono ?_;rintro e W3 ⟨rfl,i,i3,C⟩;go_wp2;go_end0
  have o3:=dZ o2 C Pt.body (fun p q a2 T=>D.o.own_r p q T.2) (Oi y.o);have l3:=uR i2 C M (eZ _ _ _ _) D.o.apart_;exact⟨rfl,i,⟨l3,i3,kK o3 (eZ _ _ _ _) (eZ _ _ _ _)⟩,(A.mono Pt.left).t (C.mono Pt.right)⟩
 ·have k0:a.a=0:=Oa
  obtain rfl:=S (.l k0);obtain rfl:=z Oa;rw[show iV a.a=362 by rw[k0];rfl];clear S z J Z f g j m V k4 k5 k6 k0 L ht K k8 Y hw;go_enter func195,ntmps195
  go_wp2;go_end0
  exact⟨rfl,h.rs,hi,Fr.refl _ _ _⟩
end
end Go.Proofs.YtikffmloeifkpaaGreatDoor
