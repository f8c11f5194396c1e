/- Contracts. -/
import Derived.Test.YtikffmloeifkpaaGreatDoorR10
import Derived.Maps.OwnSet
import Derived.Maps.Views
set_option maxHeartbeats 2000000
set_option maxRecDepth 100000
namespace Go.Proofs.YtikffmloeifkpaaGreatDoor
open Go.RowKit Go.Lib Go.Deep Go.Maps Go.ChangeMaps Go.MapKept Tryz
section
abbrev cM:=List (ByteArray × Int)
def bCK(s:ByteArray):cM->Option Int
 |[]=>none
 |(t,v)::r=>if t=s then some v else bCK s r
def put(s:ByteArray)(v:Int):cM->cM
 |[]=>[(s,v)]
 |(t,u)::r=>if t=s then(s,v)::r else(t,u)::put s v r
theorem lU(s:ByteArray)(v:Int)(l:cM):bCK s (put s v l)=some v:=by
 induction l with
 |nil=>simp[put,bCK]
 |cons p r ih=>grind[put,bCK]
theorem kX{s t:ByteArray}(h:t≠s)(v:Int)(l:cM):bCK t (put s v l)=bCK t l:=by
 induction l with
 |nil=>simp[put,bCK,h.symm]
 |cons p r ih=>
  grind[put,bCK]
theorem nO(s:ByteArray)(v:Int)(l:cM):(put s v l).length=if(bCK s l).isSome then l.length else l.length+1:=by
 induction l with
 |nil=>rfl
 |cons p r ih=>
  grind[put,bCK]
def kl(s:ByteArray):Lit:= .string s.data.toList
theorem aNM{s t:ByteArray}(h:s≠t):kl s≠kl t:=by
 intro e;apply h;simp only[kl,Lit.string.injEq]at e;cases s;cases t;simpa using Array.ext' e
def Mp(w:World)(b n:Nat)(l:cM):Prop:=∃ D:DataW Unit,w.ownsMap prog 9 (plainElem prog 3) b n D/\(∀ s,has D (kl s)=(bCK s l).isSome)/\(∀ s,D.atKey (kl s) (.lit (Qc 0))= .lit (Qc ((bCK s l).getD 0)))/\Maps.size D=l.length
theorem zero3(w:World):(zeroValue 3).run prog w= .ok (Qc 0) w:=by kernel_rfl
theorem Mp.made(w:World):Mp (w.alloc (.map #[] 0)) w.1.size 0 []:=
 ⟨.map [],World.ownsMap_made w _ _ _,fun _=>rfl,fun _=>rfl,rfl⟩
theorem Mp.lt{w:World}{b n:Nat}{l:cM}(h:Mp w b n l):b < w.1.size:=by obtain⟨D,a,_⟩:=h;exact a.lt
theorem Mp.mono{w:World}{b n a:Nat}{l:cM}(h:Mp w b n l)(e:n<=a):Mp w b a l:=by obtain⟨D,c,d⟩:=h;exact⟨D,c.mono e,d⟩
theorem Mp.same{w w':World}{b n:Nat}{l:cM}(h:Mp w b n l)(e:w'.1[b]?=w.1[b]?):Mp w' b n l:=by
 obtain⟨D,⟨c,a,f,r⟩,d⟩:=h;exact⟨D,⟨c,a,e.t f,r⟩,d⟩
theorem Mp.ismap{w:World}{b n:Nat}{l:cM}(h:Mp w b n l):∃ c a,w.1[b]?=some (.map c a):=by
 obtain⟨D,⟨c,a,e,r⟩,d⟩:=h;simp[*]
theorem Mp.look_ok{w:World}{b n:Nat}{l:cM}(h:Mp w b n l)(s:ByteArray)(k:s.size<=maxLen):
 (Instr.lookup 147 (.map (some b)) (.string s) true).run prog w= .ok (.tuple #[Qc ((bCK s l).getD 0),.bool (bCK s l).isSome]) w:=by
 obtain⟨D,f,g,i,_⟩:=h;obtain⟨v,ps,d,m⟩:=f.look_ok (string_keyed underlying9) underlying147 (zero3 w) (plainElem_int underlying3 Ob) (WideMaps.keyOf_string_mk underlying9 k);obtain⟨c,rfl,j,_⟩:=plainElem_int_inv underlying3 m;have e:=congrArg Prod.fst j;have a:=i s;unfold kl at a;rw[a]at e;simp only[DataW.lit.injEq,Lit.int.injEq,true_and]at e;rw[d,<-e,<-g s];rfl
theorem Mp.look{w:World}{b n:Nat}{l:cM}(h:Mp w b n l)(s:ByteArray)(c:s.size<=maxLen):
 (Instr.lookup 147 (.map (some b)) (.string s) false).run prog w= .ok (Qc ((YtikffmloeifkpaaGreatDoor.bCK s l).getD 0)) w:=by
 obtain⟨D,a,d,e,_⟩:=h;obtain⟨v,ps,f,g⟩:=a.lookup (string_keyed Od) underlying147 (zero3 w) (plainElem_int Od Ob) (WideMaps.keyOf_string_mk Od c)
 grind[kl,plainElem_int_inv,underlying3,DataW.lit.injEq,Lit.int.injEq]
theorem Mp.len{w:World}{b n:Nat}{l:cM}(h:Mp w b n l)(a:TypeId):(Builtin.len_ #[147] a #[.map (some b)]).run prog w= .ok (Qc l.length) w:=by
 obtain⟨D,c,_,_,d⟩:=h;rw[<-d];exact c.len underlying147 a
theorem Mp.put{w:World}{b n:Nat}{l:cM}(h:Mp w b n l)(o:n < maxLen)(s:ByteArray)(p:s.size<=maxLen)(v:Int)(q:(Lit.int .i64 v).wf=true):
 ∃ c,(Instr.mapUpdate 147 (.map (some b)) (.string s) (Qc v)).run prog w= .ok () c/\Mp c b (n+1) (YtikffmloeifkpaaGreatDoor.put s v l)/\w.mapTurned c b:=by
 obtain⟨D,d,e,i,j⟩:=h;obtain⟨c,g,k,m⟩:=d.store (string_keyed Od) underlying147 o (WideMaps.keyOf_string_mk Od p) (plainElem_int Od q);have f:WideAt.IsKeyLit (kl s):=trivial;refine⟨c,g,⟨_,k,fun t=>?_,fun t=>?_,?_⟩,m⟩
 ·by_cases a:t=s
  ·subst a;rw[lU];exact has_put_same d.isMap f _
  ·rw[kX a,<-e t];exact has_put_other (aNM a) _
 ·by_cases a:t=s
  ·subst a;rw[lU];exact atKey_put_same d.isMap f _ _
  ·rw[kX a,<-i t];exact atKey_put_other (aNM a) _ _
 ·rw[nO,<-e s,<-j];exact size_put (d.tidy (string_keyed Od)) _
theorem Mp.clear{w:World}{b n:Nat}{l:cM}(h:Mp w b n l):∃ d,(∀ e,(Builtin.clear_ #[147] e #[.map (some b)]).run prog w= .ok (.tuple #[]) d)/\Mp d b 0 []/\w.mapTurned d b:=by
 obtain⟨D,⟨f,a,c,_⟩,_⟩:=h;refine⟨setBlock w b (.map #[] a),fun e=>?_,⟨.map [],⟨#[],a,heap_setBlock_same c _,⟨Od,MapKept.stamped_empty a,Od⟩,Ql _,rfl⟩,fun _=>rfl,fun _=>rfl,rfl⟩,⟨f,a,#[],a,c,rfl⟩⟩;simp[Builtin.clear_,run_underlying underlying147,MapKept.run_getObj_map c,MapKept.run_setObj_map _ c,setBlock,Result.andThen]
def aK(t:TypeId):Prop:=
 t=364\/t=361\/t=395\/t=450\/t=400\/t=402\/t=405\/t=271\/t=409\/t=328\/t=331\/
 t=337\/t=340\/t=343\/t=345\/t=196\/t=105\/t=100\/t=253\/t=269\/t=250\/t=151\/t=37
def bLB(t:TypeId):Prop:=aK t\/t=192\/t=106
theorem aK.to{t:TypeId}(h:aK t):bLB t:= .l h
structure FrX(Q:TypeId->Prop)(H:Nat)(P:TypeId->Int->Prop)(w w':World):Prop where
 os:w'.os=w.os
 tape:w'.tape=w.tape
 output:w'.output=w.output
 size:w.1.size<=w'.1.size
 below:∀ k,k < H->w'.1[k]?=w.1[k]?
 block:∀ (k:Nat) (cs:Array Value) (t:TypeId),Q t->w.1[k]?=some (.cells cs t (0,0))->∃ cs',w'.1[k]?=some (.cells cs' t (0,0))/\(cs'=cs\/(cs'[1]?=cs[1]?/\∃ p:Int,cs[1]?=some (Qc p)/\P t p))
abbrev Fr(H:Nat)(P:TypeId->Int->Prop)(w w':World):Prop:=FrX bLB H P w w'
abbrev Fw(H:Nat)(P:TypeId->Int->Prop)(w w':World):Prop:=FrX aK H P w w'
variable {H:Nat} {P Q:TypeId->Int->Prop} {X:TypeId->Prop} {u v w w':World}
theorem FrX.refl(X:TypeId->Prop)(H:Nat)(P:TypeId->Int->Prop)(w:World):FrX X H P w w:=⟨rfl,rfl,rfl,Oa,Od,Qg⟩
theorem Fr.refl(H:Nat)(P:TypeId->Int->Prop)(w:World):Fr H P w w:=FrX.refl _ _ _ _
theorem Fw.refl(H:Nat)(P:TypeId->Int->Prop)(w:World):Fw H P w w:=FrX.refl _ _ _ _
theorem FrX.weak(h:FrX bLB H P w w'):Fw H P w w':=⟨h.os,h.tape,h.output,h.size,h.below,fun k a t c b=>h.block k a t c.to b⟩
theorem FrX.mono(h:FrX X H P w w')(g:∀ t p,P t p->Q t p):FrX X H Q w w':=
 ⟨h.os,h.tape,h.output,h.size,h.below,fun k a t c b=>by
   obtain⟨d,e,f⟩:=h.block k a t c b
   grind⟩
theorem FrX.t(h:FrX X H P u v)(k:FrX X H P v w):FrX X H P u w:=by
 refine⟨k.os.t h.os,k.tape.t h.tape,k.output.t h.output,Qm h.size k.size,fun i hi=>(k.below i hi).t (h.below i hi),fun i b t a hi=>?_⟩;obtain⟨c1,c,e⟩:=h.block i b t a hi;obtain⟨c2,d,f⟩:=k.block i c1 t a c
 grind
theorem FrX.drewN(h:FrX X H P u w)(n:Nat):FrX X H P u (w.drewN n):=⟨h.os,h.tape,h.output,h.size,h.below,h.block⟩
theorem FrX.drew(h:FrX X H P u w):FrX X H P u w.drew:=⟨h.os,h.tape,h.output,h.size,h.below,h.block⟩
theorem FrX.alloc(h:FrX X H P u w)(o:Obj)(a:H<=w.1.size):FrX X H P u (w.alloc o):=
 h.t ⟨rfl,rfl,rfl,Od,(by grind[Below.heap_alloc]),(by grind[Below.heap_alloc,Array.getElem?_eq_some_iff,trans])⟩
theorem FrX.set(h:FrX X H P u w){k:Nat}(b:H<=k)(c:∀ a t,X t->w.1[k]?≠some (.cells a t (0,0)))(o:Nat)(x:Value):FrX X H P u (w.setCell ⟨k,o,none⟩ x):=by
 refine h.t ⟨rfl,rfl,rfl,Od,(by grind[Below.heap_setCell]),fun i a t d hi=>⟨a,(Om ?_).t hi,Od⟩⟩
 grind
theorem FrX.write(h:FrX X H P u w){k o:Nat}{cs:Array Value}{t:TypeId}{p:Int}(a:w.1[k]?=some (.cells cs t (0,0)))(c:H<=k)(d:o≠1)(b:cs[1]?=some (Qc p))(f:P t p)(x:Value):FrX X H P u (w.setCell ⟨k,o,none⟩ x):=by
 refine h.t ⟨rfl,rfl,rfl,Od,(by grind[Below.heap_setCell]),fun i c2 g _ hi=>?_⟩
 by_cases e:i=k
 ·subst e;rw[a]at hi;simp only[Option.some.injEq,Obj.cells.injEq]at hi;obtain⟨rfl,rfl,_⟩:=hi;exact⟨_,aM _ a,Qh⟩
 grind[Below.heap_setCell,trans]
theorem FrX.turned{b:Nat}(h:FrX X H P u w)(k:H<=b)(e:w.mapTurned w' b):FrX X H P u w':=by
 obtain⟨i,f,j,g,c,rfl⟩:=e;refine h.t ⟨rfl,rfl,rfl,by simp[setBlock],(by grind[heap_setBlock_other]),fun l a t _ d=>⟨a,(heap_setBlock_other c _ ?_).t d,Od⟩⟩
 grind
theorem FrX.same{k:Nat}{cs:Array Value}{t:TypeId}(h:FrX X H P w w')(a:w.1[k]?=some (.cells cs t (0,0)))(b:X t)(f:∀ p:Int,cs[1]?=some (Qc p)->¬P t p):w'.1[k]?=some (.cells cs t (0,0)):=by
 obtain⟨c,d,e⟩:=h.block k cs t b a
 grind
theorem FrX.at{k:Nat}{t:TypeId}{R:Array Value->Prop}(h:FrX X H P w w')(c:At w k t R)(e:X t)(f:∀ a,R a->∀ p:Int,a[1]?=some (Qc p)->¬P t p):At w' k t R:=by
 obtain⟨a,d,b⟩:=c;exact⟨a,h.same d e Qg,b⟩
def cU(t:TypeId):Prop:=t=361\/t=395\/t=450\/t=405\/t=328\/t=331\/t=196\/t=105\/t=100
theorem aDP(l:Tr)(c:∃ b o a e r,l= .node b o a e r/\∃ b o a x y,e=BT.node b o a x y):aK (bL l):=by
 grind[bL,aK]
theorem aDQ{b o:Nat}{a:Nd}{e r:Tr}(h:cU (bL (.node b o a e r))):∃ b o a x y,e=BT.node b o a x y/\a.a=19:=by
 cases e with
 |nil=>grind[bL,cU]
 |node b2 o2 a2 x y=>
  refine⟨b2,o2,a2,x,y,rfl,?_⟩;unfold bL at h;dsimp only at h
  revert h
  repeat' split
  all_goals first|(intro _;assumption)|(intro h;exact(by grind[cU]))
def po(a:Nd):List Int:=if a.a=6 then[a.e]else if eO a.a then[a.b]else[]
theorem aAU{b o:Nat}{a:Nd}{l r:Tr}{p:Int}(h:p∈po a):p∈ps (.node b o a l r):=by
 grind[po,ps]
theorem dH.frX{k:Nat}{a:Nd}{l r:Tr}(M:∀ t,aK t->X t)(g:FrX X H P w w')(D:∀ t p,P t p->cU t)(h:dH a.a w k a l r)(T:∀ p∈po a,∀ t,¬P t p)(B:a.a=20->(∃ b o m e r,l= .node b o m e r/\m.a=15/\∃ b o a y z,e=BT.node b o a y z)/\∀ p∈ps l,¬P 100 p):dH a.a w' k a l r:=by
 have c:∀ {t:TypeId} {R:Array Value->Prop},At w k t R->aK t->¬cU t->At w' k t R:=fun q G F=>g.at q Qh Qg
 have f:∀ {t:TypeId} {R:Array Value->Prop},At w k t R->aK t->eO a.a=true->a.a≠6->(∀ d,R d->Nam d 0 a)->At w' k t R:=by
  intro t R q G F L E;refine g.at q Qh (fun d i p j=>?_);rw[(E d i).2.1]at j
  grind[po]
 generalize S:a.a=x at*
 match x,h with
 |0,h=>exact c h (by simp[aK]) (by simp[cU])
 |1,h=>exact f h (by simp[aK]) rfl Ob Od
 |2,h=>exact f h (by simp[aK]) rfl Ob Qg
 |3,h=>exact f h (by simp[aK]) rfl Ob Qg
 |4,h=>exact c h (by simp[aK]) (by simp[cU])
 |5,h=>exact c h (by simp[aK]) (by simp[cU])
 |6,h=>
  refine g.at h (by grind[aK]) (fun d i p j=>?_)
  grind[po]
 |7,h=>exact c h (by simp[aK]) (by simp[cU])
 |8,h=>exact c h (by simp[aK]) (by simp[cU])
 |9,h=>exact f h (by simp[aK]) rfl Ob Qg
 |10,h=>exact f h (by simp[aK]) rfl Ob Qg
 |11,h=>exact c h (by simp[aK]) (by simp[cU])
 |12,h=>exact c h (by simp[aK]) (by simp[cU])
 |13,h=>exact c h (by simp[aK]) (by simp[cU])
 |14,h=>exact c h (by simp[aK]) (by simp[cU])
 |16,h=>exact f h (by simp[aK]) rfl Ob Qg
 |17,h=>exact f h (by simp[aK]) rfl Ob Qg
 |20,h=>
  obtain⟨⟨I,U,m,e,W,rfl,K,N⟩,O⟩:=B rfl;refine⟨h.1,g.at h.2 (by grind[aDP]) (fun d i p j A=>?_)⟩;obtain⟨J,V,n,y,z,rfl,C⟩:=aDQ (D _ _ A);have s:(if n.a=19 then Nam d (0*3) n else if n.a=7 then _ else _):=i.1;rw[if_pos C]at s;rw[s.2.1]at j
  grind[bL,ps,eO]
 |15,_|18,_|19,_=>trivial
 |x+21,_=>trivial
theorem dH.fr{k:Nat}{a:Nd}{l r:Tr}(d:Fr H P w w')(g:∀ t p,P t p->cU t)(h:dH a.a w k a l r)(i:∀ p∈po a,∀ t,¬P t p)(f:a.a=20->(∃ b o c e r,l= .node b o c e r/\c.a=15/\∃ b o a x y,e=BT.node b o a x y)/\∀ p∈ps l,¬P 100 p):dH a.a w' k a l r:=dH.frX (fun _ h=>h.to) d g h i f
theorem dH.fw{k:Nat}{a:Nd}{l r:Tr}(d:Fw H P w w')(g:∀ t p,P t p->cU t)(h:dH a.a w k a l r)(i:∀ p∈po a,∀ t,¬P t p)(f:a.a=20->(∃ b o c e r,l= .node b o c e r/\c.a=15/\∃ b o a x y,e=BT.node b o a x y)/\∀ p∈ps l,¬P 100 p):dH a.a w' k a l r:=dH.frX Od d g h i f
theorem fT{b o:Nat}{a:Nd}{l r:Tr}{p:Int}(h:p∈ps l):p∈ps (.node b o a l r):=by
 grind[ps]
theorem jE{b o:Nat}{a:Nd}{l r:Tr}{p:Int}(h:p∈ps r):p∈ps (.node b o a l r):=by
 grind[ps]
theorem Ws.list{s b o:Nat}{a:Nd}{l r:Tr}(h:Ws s (.node b o a l r))(t:a.a=20)(B:l≠ .nil):∃ b o d e q,l= .node b o d e q/\d.a=15/\∃ b o a x y,e=BT.node b o a x y:=by
 unfold Ws at h;obtain⟨_,_,h⟩:=h
 have p:∃ k,(k=3\/k=4\/k=5\/k=6\/k=8)/\sig s a.a=some (10+k,99):=by
  rw[t]at h ⊢;unfold sig at h ⊢
  by_cases j:s=0
  ·grind
  by_cases c:s=1
  ·grind
  by_cases m:s=2
  ·grind
  by_cases n:s=9
  ·grind
  by_cases g:s=3\/s=4\/s=5\/s=6\/s=8
  ·simp[*]
  ·exfalso;simp[j,c,m,n,g]at h
 obtain⟨k,g,e⟩:=p;rw[e]at h;obtain⟨c,_⟩:=h;cases l with
 |nil=>trivial
 |node b2 o2 d e2 q=>
  refine⟨b2,o2,d,e2,q,rfl,?_⟩;unfold Ws at c;obtain⟨_,_,c⟩:=c
  have f:∀ z,z=0\/z=2\/z=20\/z=22\/z=7->Ws z e2->∃ b o a x y,e2=BT.node b o a x y:=by
   intro z C A;cases e2 with
   |nil=>exact absurd A (by unfold Ws bK;omega)
   |node b o a x y=>simp
  by_cases i:d.a=15
  ·refine⟨i,?_⟩;rw[i]at c;rcases g with rfl|rfl|rfl|rfl|rfl
   ·exact f 0 Oa c.1
   ·exact f 2 Oa c.1
   ·exact f 20 Oa c.1
   ·exact f 22 Oa c.1
   ·exact f 7 Oa c.1
  grind[sig]
theorem Ws.parts{s b o:Nat}{a:Nd}{l r:Tr}(h:Ws s (.node b o a l r)):OkA a/\∃ x y,sig s a.a=some (x,y)/\Ws x l/\Ws y r:=by
 grind[Ws,sig]
theorem IsT.frX(g:∀ t,aK t->X t)(e:FrX X H P w w')(f:∀ t p,P t p->cU t):∀ {t:Tr} {s:Nat},Ws s t->IsT w t->(∀ p∈ps t,∀ m,¬P m p)->IsT w' t:=by
 intro t
 induction t with
 |nil=>intro _ _ _ _;trivial
 |node k o a l r ihl ihr=>
  intro s d h n;obtain⟨_,x,y,_,i,j⟩:=d.parts;refine⟨ihl i h.1 (by grind[fT]),ihr j h.2.1 (by grind[jE]),?_⟩;have b:=h.2.2;refine dH.frX g e f b (by grind[aAU]) (fun c=>⟨d.list c ?_,(by grind[fT])⟩);unfold Own at b;rw[c]at b;exact b.1
theorem IsT.fr(a:Fr H P w w')(b:∀ t p,P t p->cU t){t:Tr}{s:Nat}(d:Ws s t)(hi:IsT w t)(c:∀ p∈ps t,∀ e,¬P e p):IsT w' t:=IsT.frX (fun _ h=>h.to) a b d hi c
theorem IsT.fw(a:Fw H P w w')(b:∀ t p,P t p->cU t){t:Tr}{s:Nat}(d:Ws s t)(hi:IsT w t)(c:∀ p∈ps t,∀ e,¬P e p):IsT w' t:=IsT.frX Od a b d hi c
def Sh:Tr->Tr->Prop
 | .nil,.nil=>True
 | .node b o a l r,.node b' o' a' l' r'=>b'=b/\o'=o/\a'.a=a.a/\a'.h=a.h/\a'.b=a.b/\a'.e=a.e/\a'.op=a.op/\a'.flag=a.flag/\(a.a=19->a'.c=a.c)/\(a.a≠17->a'.g=a.g)/\Sh l l'/\Sh r r'
 |_,_=>False
theorem Sh.refl:∀ t:Tr,Sh t t:=by
 intro t
 induction t with
 |nil=>trivial
 |node b o a l r ihl ihr=>exact⟨rfl,rfl,rfl,rfl,rfl,rfl,rfl,rfl,fun _=>rfl,fun _=>rfl,ihl,ihr⟩
theorem Sh.lenL:∀ {t C:Tr},Sh t C->aO C=aO t:=by
 intro t
 induction t with
 |nil=>intro C h;cases C with
  |nil=>rfl
  |node=>exact absurd h id
 |node b o a l r _ ihr=>intro C h;cases C with
  |nil=>exact absurd h id
  |node b' o' a' l' r'=>simp only[YtikffmloeifkpaaGreatDoor.aO];rw[ihr h.2.2.2.2.2.2.2.2.2.2.2]
theorem Sh.g{t C:Tr}(h:Sh t C):bCH C=bCH t:=by
 cases t<;>cases C
 ·rfl
 ·trivial
 ·trivial
 ·obtain⟨rfl,rfl,a,_,_,_,_,_,_,_,b,_⟩:=h;unfold bCH;dsimp only;rw[a,b.lenL]
theorem Sh.ptr{t C:Tr}(h:Sh t C):cB C=cB t:=by
 cases t<;>cases C
 ·rfl
 ·trivial
 ·trivial
 ·obtain⟨rfl,_⟩:=h;rfl
theorem Sh.nil_iff{t C:Tr}(h:Sh t C):C= .nil↔t= .nil:=by
 cases t<;>cases C
 ·simp
 ·trivial
 ·trivial
 ·simp
theorem Sh.rowTyp{t C:Tr}(h:Sh t C):bL C=bL t:=by
 cases t<;>cases C
 ·rfl
 ·exact absurd h id
 ·exact absurd h id
 ·rename_i b o a l r b' o' a' l' r';have c:=h.2.2.2.2.2.2.2.2.2.2.1;cases l<;>cases l'
  ·rfl
  ·exact absurd c id
  ·exact absurd c id
  ·unfold YtikffmloeifkpaaGreatDoor.bL;dsimp only;rw[c.2.2.1]
theorem Sh.rowOk{cs:Array Value}:∀ {t C:Tr} {o:Nat},Sh t C->jO cs o t->jO cs o C:=by
 intro t
 induction t with
 |nil=>intro C o h _;cases C with
  |nil=>trivial
  |node=>exact absurd h id
 |node b o1 a l r _ ihr=>intro C o h e;cases C with
  |nil=>exact absurd h id
  |node b' o' a' l' r'=>
   refine⟨?_,ihr h.2.2.2.2.2.2.2.2.2.2.2 e.2⟩;have d:=h.2.2.2.2.2.2.2.2.2.2.1;have c:=e.1;cases l with
   |nil=>exact absurd c id
   |node b2 o2 a2 x y=>
    cases l' with
    |nil=>exact absurd d id
    |node b3 o3 a3 x3 y3=>
     have m:=d.g;have j:=d.ptr;obtain⟨rfl,rfl,k,i,g,_,_,_,f,_⟩:=d;show(if a3.a=19 then Nam cs (o*3) a3 else if a3.a=7 then cs[o]?=some (cB _)else cs[o]?=some (bCH _));replace c:(if a2.a=19 then Nam cs (o*3) a2 else if a2.a=7 then cs[o]?=some (cB _)else cs[o]?=some (bCH _)):=c;rw[k]
     split
     ·rename_i h19;rw[if_pos h19]at c;exact⟨by rw[i];exact c.1,by rw[g];exact c.2.1,by rw[f h19];exact c.2.2⟩
     ·rename_i h19;rw[if_neg h19]at c
      split
      ·rename_i h7;rw[if_pos h7]at c;rw[j];exact c
      ·rename_i h7;rw[if_neg h7]at c;rw[m];exact c
theorem Sh.node{t C:Tr}(h:Sh t C){b o:Nat}{a:Nd}{p q:Tr}(e:t= .node b o a p q):∃ f c d,C= .node b o f c d/\Sh p c/\Sh q d:=by
 subst e;cases C with
 |nil=>trivial
 |node b' o' f c d=>
  obtain⟨rfl,rfl,_,_,_,_,_,_,_,_,g,i⟩:=h
  grind
theorem dH.sh{n b:Nat}{w:World}{a:Nd}{l r t z:Tr}(h:dH n w b a l r)(f:Sh l t)(p:Sh r z):dH n w b a t z:=by
 have J:=f.g;have K:=p.g
 match n,h with
 |0,h=>exact h
 |1,h=>exact h
 |2,h=>grind[dH]
 |3,h=>grind[dH]
 |4,h=>grind[dH]
 |5,h=>grind[dH]
 |6,h=>grind[dH]
 |7,h=>grind[dH]
 |8,h=>grind[dH]
 |9,h=>grind[dH]
 |10,h=>grind[dH]
 |11,h=>
  obtain⟨c,d,A,x,y,I,F,G,e,j,k⟩:=h;obtain⟨g,q,s,i,m,o⟩:=p.node e;exact⟨c,d,Qh,x,y,g,q,s,i,by rw[m.g];exact j,by rw[o.g];exact k⟩
 |12,h=>grind[dH]
 |13,h=>grind[dH]
 |14,h=>grind[dH]
 |16,h=>exact h
 |17,h=>
  obtain⟨c,d,E,A,x,y,I,F,G,e,j,k,B⟩:=h;obtain⟨g,q,s,i,m,o⟩:=p.node e;exact⟨c,d,E,Qh,x,y,g,q,s,i,by rw[m.g];exact j,by rw[o.g];exact k,B⟩
 |20,h=>
  obtain⟨C,c,d,D⟩:=h;exact⟨fun e=>C (f.nil_iff.1 e),c,by rw[f.rowTyp];exact d,f.rowOk D⟩
 |15,_|18,_|19,_=>trivial
 |n+21,_=>trivial
theorem Sh.ps:∀ {t C:Tr},Sh t C->ps C=ps t:=by
 intro t
 induction t with
 |nil=>intro C h;cases C with
  |nil=>rfl
  |node=>exact absurd h id
 |node b o a l r ihl ihr=>intro C h;cases C with
  |nil=>exact absurd h id
  |node b' o' a' l' r'=>
   obtain⟨_,_,g,_,e,f,_,_,_,_,c,d⟩:=h;unfold YtikffmloeifkpaaGreatDoor.ps;rw[g,e,f,ihl c,ihr d]
theorem Sh.t:∀ {t u v:Tr},Sh t u->Sh u v->Sh t v:=by
 intro t
 induction t with
 |nil=>
   intro u v h k;cases u<;>cases v
   ·trivial
   ·exact k
   ·trivial
   assumption
 |node b o a l r ihl ihr=>
  intro u v h k;cases u with
  |nil=>trivial
  |node b1 o1 a1 l1 r1=>
   cases v with
   |nil=>assumption
   |node b2 o2 a2 l2 r2=>
    obtain⟨f,g,c,i,j,m,n,p,q,d,s,x⟩:=h;obtain⟨y,A,B,C,D,E,F,G,I,z,kl,J⟩:=k;exact⟨y.t f,A.t g,B.t c,C.t i,D.t j,E.t m,F.t n,G.t p,fun e=>(I (c.t e)).t (q e),fun e=>(z (fun K=>e (c.symm.t K))).t (d e),ihl s kl,ihr x J⟩
theorem OkA.sh{a a':Nd}(h:OkA a)(f:a'.a=a.a)(e:a'.h=a.h)(c:a'.op=a.op)(d:a.a≠17->a'.g=a.g):OkA a':=
 ⟨by rw[e];exact h.h,fun b=>by rw[d Oa];exact h.g Oa,fun b=>by rw[d Oa];exact h.val0 Oa,fun b=>by rw[c];exact h.op6 Oa,fun b=>by rw[c];exact h.op7 Oa,fun b=>by rw[c];exact h.op8 Oa⟩
theorem Sh.ws:∀ {t C:Tr} {s:Nat},Sh t C->Ws s t->Ws s C:=by
 intro t
 induction t with
 |nil=>intro C s h c;cases C with
  |nil=>exact c
  |node=>trivial
 |node b o a l r ihl ihr=>intro C s h c;cases C with
  |nil=>trivial
  |node b' o' a' l' r'=>
   obtain⟨_,_,j,i,_,_,d,_,_,k,f,m⟩:=h;obtain⟨g,x,y,q,n,p⟩:=c.parts;exact Ws.of20 (x:=x) (y:=y) Qh (g.sh j i d k) (fun e=>by rw[f.lenL];exact c.len Oa) Qh Qh
end
section
structure Rs where
 b:cM
 a:Int
 e:Int
def Rs.fail(s:Rs)(c p:Int):Rs:=if s.a=0 then⟨s.b,c,p⟩else s
def bD0(O I U:Nat)(s:Rs):Array Value:=#[Qd O,.map (some I),.map (some U),Qc s.a,Qc s.e]
structure RsW(H O N I U:Nat)(Z:Array Value)(F:cM)(s:Rs)(w:World):Prop where
 blk:w.1[N]?=some (.cells (bD0 O I U s) 149 (0,0))
 prog:w.1[O]?=some (.cells Z 111 (0,0))
 first:Mp w I F.length F
 b:Mp w U s.b.length s.b
 rge:H<=N
 vge:H<=U
 ne:I≠U
def F0:TypeId->Int->Prop:=fun _ _=>False
variable {H O N I U:Nat} {Z:Array Value} {F:cM} {s:Rs} {w w':World} {P:TypeId->Int->Prop}
theorem RsW.cell(h:RsW H O N I U Z F s w)(o:Nat):w.cell? ⟨N,o,none⟩=(bD0 O I U s)[o]?:=cell_of_row _ _ _ _ _ _ h.blk
theorem RsW.froz(h:RsW H O N I U Z F s w)(o:Nat):w.frozen? ⟨N,o,none⟩=false:=by simp[World.frozen?,h.blk]
theorem RsW.nomap(h:RsW H O N I U Z F s w):∀ b a,w.1[N]?≠some (.map b a):=fun b a e=>by rw[h.blk]at e;cases e
theorem RsW.notree(h:RsW H O N I U Z F s w):∀ a t,bLB t->w.1[N]?≠some (.cells a t (0,0)):=fun a t b e=>by
 rw[h.blk]at e;simp only[Option.some.injEq,Obj.cells.injEq]at e;rw[<-e.2.1]at b
 grind[bLB,aK]
theorem RsW.fne(h:RsW H O N I U Z F s w):I≠N:=by
 obtain⟨b,a,e⟩:=h.first.ismap;intro x;subst x;exact h.nomap b a e
theorem RsW.vne(h:RsW H O N I U Z F s w):U≠N:=by
 obtain⟨b,a,e⟩:=h.b.ismap;intro x;subst x;exact h.nomap b a e
theorem RsW.pne(h:RsW H O N I U Z F s w):O≠N:=by
 intro x;have a:=h.prog;rw[x,h.blk]at a
 grind
theorem RsW.pvne(h:RsW H O N I U Z F s w):O≠U:=by
 obtain⟨b,a,e⟩:=h.b.ismap;intro x;subst x;rw[h.prog]at e;cases e
theorem RsW.drewN(h:RsW H O N I U Z F s w)(n:Nat):RsW H O N I U Z F s (w.drewN n):=⟨h.blk,h.prog,h.first.same rfl,h.b.same rfl,h.rge,h.vge,h.ne⟩
theorem RsW.drew(h:RsW H O N I U Z F s w):RsW H O N I U Z F s w.drew:=⟨h.blk,h.prog,h.first.same rfl,h.b.same rfl,h.rge,h.vge,h.ne⟩
theorem RsW.write(h:RsW H O N I U Z F s w)(o:Nat)(v:Value){a:Rs}(b:(bD0 O I U s).setIfInBounds o v=bD0 O I U a)(c:a.b=s.b):RsW H O N I U Z F a (w.setCell ⟨N,o,none⟩ v):=
 ⟨by rw[aM v h.blk,b],(Om h.pne).t h.prog,h.first.same (Om h.fne),by rw[c];exact h.b.same (Om h.vne),h.rge,h.vge,h.ne⟩
theorem RsW.c(h:RsW H O N I U Z F s w){k o:Nat}{cs:Array Value}{t:TypeId}(c:w.1[k]?=some (.cells cs t (0,0)))(d:bLB t)(v:Value):RsW H O N I U Z F s (w.setCell ⟨k,o,none⟩ v):=by
 have f:N≠k:=fun e=>h.notree cs t d Qh
 have g:O≠k:=by
  intro e;rw[<-e,h.prog]at c;simp only[Option.some.injEq,Obj.cells.injEq]at c;rw[<-c.2.1]at d
  grind[bLB,aK]
 have a:∀ b n l,Mp w b n l->b≠k:=by
  intro b n l a e;obtain⟨m,i,j⟩:=a.ismap
  grind
 exact⟨(Om f).t h.blk,(Om g).t h.prog,h.first.same (Om (a _ _ _ h.first)),h.b.same (Om (a _ _ _ h.b)),h.rge,h.vge,h.ne⟩
theorem Mp.tight{w:World}{b n:Nat}{l:cM}(h:Mp w b n l):Mp w b l.length l:=by
 obtain⟨D,⟨c,a,g,F,i,rfl⟩,d,e,f⟩:=h;refine⟨_,⟨c,a,g,F,?_,rfl⟩,d,e,f⟩
 grind[Maps.size,length_sorted]
theorem RsW.turned(h:RsW H O N I U Z F s w){n:Nat}{l:cM}(b:Mp w' U n l)(c:w.mapTurned w' U):RsW H O N I U Z F ⟨l,s.a,s.e⟩ w':=by
 obtain⟨f,d,g,e,a,rfl⟩:=c;exact⟨(heap_setBlock_other a _ h.vne.symm).t h.blk,(heap_setBlock_other a _ h.pvne).t h.prog,h.first.same (heap_setBlock_other a _ h.ne),b.tight,h.rge,h.vge,h.ne⟩
def Wr(k o:Nat)(f:Int->Int)(w w':World):Prop:=∀ cs t q,w.1[k]?=some (.cells cs t (0,0))->cs[o]?=some (Qc q)->w'.1[k]?=some (.cells (cs.setIfInBounds o (Qc (f q))) t (0,0))
theorem Wr.id{k o:Nat}(h:∀ a t,w.1[k]?=some (.cells a t (0,0))->w'.1[k]?=some (.cells a t (0,0))):Wr k o (fun q=>q) w w':=by
 intro a t q b c;rw[h a t b]
 congr 2
 grind
theorem Wr.of_set{k o:Nat}(i:Int):Wr k o (fun _=>i) w (w.setCell ⟨k,o,none⟩ (Qc i)):=fun _ _ _ a _=>aM _ a
theorem Wr.after{u:World}{k o:Nat}{f:Int->Int}(h:∀ a t,u.1[k]?=some (.cells a t (0,0))->w.1[k]?=some (.cells a t (0,0)))(c:Wr k o f w w'):Wr k o f u w':=fun a t q d b=>c a t q Qg b
theorem Wr.ahead{u:World}{k o:Nat}{f:Int->Int}(d:Wr k o f u w)(h:∀ a t,w.1[k]?=some (.cells a t (0,0))->w'.1[k]?=some (.cells a t (0,0))):Wr k o f u w':=fun a t q b c=>h _ _ (d a t q b c)
theorem bCJ(c p:Int)(w:World)(h:RsW H O N I U Z F s w):
 Calls prog 75 #[Qd N,Qc c,Qc p] w fun e f=>e= .returned (.tuple #[])/\RsW H O N I U Z F (s.fail c p) f/\Fr H F0 w f:=by
 have c3:w.cell? ⟨N,3,none⟩=some (Qc s.a):=h.cell 3;have c4:w.cell? ⟨N,4,none⟩=some (Qc s.e):=h.cell 4;have f3:=h.froz 3;have j:=h.froz 4
 by_cases a:s.a=0
 ·have b:RsW H O N I U Z F ⟨s.b,c,s.e⟩ (w.setCell ⟨N,3,none⟩ (Qc c)):=h.write 3 _ rfl rfl;have g:RsW H O N I U Z F ⟨s.b,c,p⟩ ((w.setCell ⟨N,3,none⟩ (Qc c)).setCell ⟨N,4,none⟩ (Qc p)):=b.write 4 _ rfl rfl;have i:=(((Fr.refl H F0 w).set h.rge h.notree 3 (Qc c)).set h.rge b.notree 4 (Qc p));have d:Hid (s.fail c p=⟨s.b,c,p⟩):=if_pos a;rw[a]at c3;clear a b;go_enter func75,ntmps75
  go_wp2;go_end0
  exact⟨rfl,by rw[d.o];exact g,i⟩
 ·have d:Hid (s.fail c p=s):=if_neg a;have k:(s.a==0)=false:=by simpa using a
  go_enter func75,ntmps75
  go_wp2;go_end0
  exact⟨rfl,by rw[d.o];exact h,Fr.refl _ _ _⟩
end
section
structure mE(H:Nat)(P:TypeId->Int->Prop)(w:World)(k o:Nat)(x:ByteArray)(p:Int):Prop where
 ex:∃ cs t q p0,w.1[k]?=some (.cells cs t (0,0))/\cs[o]?=some (.string x)/\cs[o+1]?=some (Qc p)/\cs[o+2]?=some (Qc q)/\cs[1]?=some (Qc p0)/\P t p0/\bLB t
 ge:H<=k
variable {H O N I U:Nat} {Z:Array Value} {F:cM} {s:Rs} {w w':World} {k o:Nat} {x:ByteArray} {p:Int} {P:TypeId->Int->Prop}
theorem Fr.keep0(c:Fr H F0 w w'){cs:Array Value}{t:TypeId}(b:bLB t)(a:w.1[k]?=some (.cells cs t (0,0))):w'.1[k]?=some (.cells cs t (0,0)):=c.same a b (fun _ _ h=>h)
theorem mE.fr0(h:mE H P w k o x p)(j:Fr H F0 w w'):mE H P w' k o x p:=by
 obtain⟨b,t,q,l,i,c,d,e,f,g,a⟩:=h.ex;exact⟨⟨b,t,q,l,j.keep0 a i,c,d,e,f,g,a⟩,h.ge⟩
theorem mE.keep0(h:mE H P w k o x p)(d:Fr H F0 w w'):∀ a t,w.1[k]?=some (.cells a t (0,0))->w'.1[k]?=some (.cells a t (0,0)):=by
 obtain⟨a,t,q,m,b,f,g,i,j,l,c⟩:=h.ex;intro c2 n e;rw[b]at e;simp only[Option.some.injEq,Obj.cells.injEq]at e;obtain⟨rfl,rfl,_⟩:=e;exact d.keep0 c b
theorem mE.c0(h:mE H P w k o x p):w.cell? ⟨k,o,none⟩=some (.string x):=by
 obtain⟨a,t,q,d,c,b,_⟩:=h.ex
 grind[cell_of_row]
theorem mE.c1(h:mE H P w k o x p):w.cell? ⟨k,o+1,none⟩=some (Qc p):=by
 obtain⟨a,t,q,d,c,_,b,_⟩:=h.ex
 grind[cell_of_row]
theorem mE.c2(h:mE H P w k o x p):∃ q,w.cell? ⟨k,o+2,none⟩=some (Qc q):=by
 obtain⟨a,t,q,d,c,_,_,b,_⟩:=h.ex
 grind[cell_of_row]
theorem mE.froz(h:mE H P w k o x p)(j:Nat):w.frozen? ⟨k,j,none⟩=false:=by
 obtain⟨b,t,q,c,a,_⟩:=h.ex;simp[World.frozen?,a]
theorem mE.drewN(h:mE H P w k o x p)(n:Nat):mE H P (w.drewN n) k o x p:=⟨h.ex,h.ge⟩
def Rs.K(s:Rs)(x:ByteArray)(p most:Int):Rs:=
 if most<=s.b.length then(if(bCK x s.b).isSome then s.fail 4 p else s).fail 5 p else if(bCK x s.b).isSome then s.fail 4 p else s
theorem Rs.fail_vars(s:Rs)(c p:Int):(s.fail c p).b=s.b:=by grind[Rs.fail]
theorem bMC{G:Array Oper}{rest:List Oper}{c:Oper}{a:Act}{Q:Exit->Act->World->Prop}(i:c.guard=none)(m:Operand)(d:c.op=Op.call {callee:=Callee.builtin Builtin.len,args:=#[m],argTypes:=#[147]})(b n:Nat)(l:cM)(j:a.eval m= .map (some b))(h:Mp w b n l)(g:wpList prog G Q rest (a.put c.dst (Qc l.length)) w):wpList prog G Q (c::rest) a w:=by
 obtain⟨D,e,_,_,f⟩:=h;refine wpList_len_own w i m 147 d 9 3 Od _ b n D j e ?_;rw[f];exact g
theorem tI(w:World)(b:Int)(h:RsW H O N I U Z F s w)(j:mE H P w k o x p)(z:x.size<=maxLen):
 Calls prog 193 #[Qd N,.pointer (some ⟨k,o,none⟩),Qc b] w fun e q=>e= .returned (.tuple #[])/\RsW H O N I U Z F (s.K x p b) q/\Fr H F0 w q:=by
 have c2:w.cell? ⟨N,2,none⟩=some (.map (some U)):=h.cell 2;have D:=j.c0;have E:=j.c1;have m:∀ n,(Instr.lookup 147 (.map (some U)) (.string x) true).run prog (w.drewN n)= .ok (.tuple #[Qc ((bCK x s.b).getD 0),.bool (bCK x s.b).isSome]) (w.drewN n):=fun n=>(h.drewN n).b.look_ok x z;cases hv:(bCK x s.b).isSome
 ·rw[hv]at m
  by_cases g:b<=s.b.length
  ·have c:Hid (s.K x p b=s.fail 5 p):=by unfold Hid Rs.K;rw[if_pos g,hv];rfl
   go_enter func193,ntmps193
   go_wp2_with fail
   go_quiet (fail)
   go_wp2_with (at_len;refine bMC rfl _ rfl U _ _ rfl (h.drewN _).b ?_)
   refine(bCJ 5 p _ (h.drewN _)).mono ?_;rintro e i ⟨rfl,a,d⟩;go_wp2;go_end0
   exact⟨rfl,by rw[c.o];exact a,((Fr.refl H F0 w).drewN _).t d⟩
  ·have c:Hid (s.K x p b=s):=by unfold Hid Rs.K;rw[if_neg g,hv];rfl
   go_enter func193,ntmps193
   go_wp2_with fail
   go_quiet (fail)
   go_wp2_with (at_len;refine bMC rfl _ rfl U _ _ rfl (h.drewN _).b ?_)
   go_end0
   exact⟨rfl,by rw[c.o];exact h.drewN _,(Fr.refl H F0 w).drewN _⟩
 ·rw[hv]at m;have l:∀ p,(s.fail 4 p).b=s.b:=fun p=>s.fail_vars 4 p
  by_cases g:b<=s.b.length
  ·have c:Hid (s.K x p b=(s.fail 4 p).fail 5 p):=by unfold Hid Rs.K;rw[if_pos g,hv];rfl
   go_enter func193,ntmps193
   go_wp2_with fail
   go_quiet (fail)
   go_wp2_with fail
   refine(bCJ 4 p _ (h.drewN _)).mono ?_;rintro e i ⟨rfl,a,d⟩;have y:=(j.drewN _).fr0 d;have r:i.cell? ⟨N,2,none⟩=some (.map (some U)):=a.cell 2;have C:=y.c1;have f:=a.b;rw[l]at f;go_wp2_with (at_len;refine bMC rfl _ rfl U _ _ rfl f ?_)
   refine(bCJ 5 p _ a).mono ?_;rintro e B ⟨rfl,t,A⟩;go_wp2;go_end0
   exact⟨rfl,by rw[c.o];exact t,(((Fr.refl H F0 w).drewN _).t d).t A⟩
  ·have c:Hid (s.K x p b=s.fail 4 p):=by unfold Hid Rs.K;rw[if_neg g,hv];rfl
   go_enter func193,ntmps193
   go_wp2_with fail
   go_quiet (fail)
   go_wp2_with fail
   refine(bCJ 4 p _ (h.drewN _)).mono ?_;rintro e i ⟨rfl,a,d⟩;have r:i.cell? ⟨N,2,none⟩=some (.map (some U)):=a.cell 2;have f:=a.b;rw[l]at f;go_wp2_with (at_len;refine bMC rfl _ rfl U _ _ rfl f ?_)
   go_end0
   exact⟨rfl,by rw[c.o];exact a,((Fr.refl H F0 w).drewN _).t d⟩
end
section
variable {H O N I U:Nat} {Z:Array Value} {F:cM} {s:Rs} {w w':World} {k o:Nat} {x:ByteArray} {p:Int} {P:TypeId->Int->Prop}
def Rs.V(s:Rs)(x:ByteArray):Rs:=⟨put x s.b.length s.b,s.a,s.e⟩
def Rs.oldVar(s:Rs)(x:ByteArray)(p:Int):Rs:=if(bCK x s.b).isSome then s else s.fail 4 p
theorem F0.to(t:TypeId)(p:Int):F0 t p->P t p:=fun h=>Qj
theorem mE.write(b:mE H P w k o x p)(h:RsW H O N I U Z F s w)(i:Int):RsW H O N I U Z F s (w.setCell ⟨k,o+2,none⟩ (Qc i))/\Fr H P w (w.setCell ⟨k,o+2,none⟩ (Qc i))/\(w.setCell ⟨k,o+2,none⟩ (Qc i)).cell? ⟨k,o+2,none⟩=some (Qc i)/\
 (w.setCell ⟨k,o+2,none⟩ (Qc i)).cell? ⟨k,o,none⟩=some (.string x):=by
 obtain⟨g,t,q,m,a,c,j,l,d,e,f⟩:=b.ex;refine⟨h.c a f _,(Fr.refl H P w).write a b.ge Oa d e _,?_,?_⟩
 ·rw[cell_of_row _ _ _ _ _ _ (aM (o:=o+2) (Qc i) a)]
  grind
 ·rw[cell_of_row _ _ _ _ _ _ (aM (o:=o+2) (Qc i) a),Qq Oa];exact c
theorem yP(w:World)(h:RsW H O N I U Z F s w)(a:mE H P w k o x p)(r:x.size<=maxLen):
 Calls prog 247 #[Qd N,.pointer (some ⟨k,o,none⟩)] w fun e d=>e= .returned (.tuple #[])/\RsW H O N I U Z F (s.oldVar x p) d/\Fr H P w d/\Wr k (o+2) (fun _=>(bCK x s.b).getD 0) w d:=by
 have c2:w.cell? ⟨N,2,none⟩=some (.map (some U)):=h.cell 2;have B:=a.c0;have C:=a.c1;have g:∀ n,(Instr.lookup 147 (.map (some U)) (.string x) true).run prog (w.drewN n)= .ok (.tuple #[Qc ((bCK x s.b).getD 0),.bool (bCK x s.b).isSome]) (w.drewN n):=fun n=>(h.drewN n).b.look_ok x r;cases hv:(bCK x s.b).isSome
 ·rw[hv]at g;have c:Hid (s.oldVar x p=s.fail 4 p):=by unfold Hid Rs.oldVar;rw[hv];rfl
  go_enter func247,ntmps247
  go_wp2_with fail
  go_quiet (fail)
  go_wp2_with fail
  refine(bCJ 4 p _ (h.drewN _)).mono ?_;rintro e A ⟨rfl,l,f⟩;have b:=(a.drewN nq).fr0 f;have q:=(a.drewN nq).keep0 f;obtain⟨y,t⟩:=b.c2;have j:=b.froz (o+2);obtain⟨m,z,_,_⟩:=b.write l ((bCK x s.b).getD 0);go_wp2;go_end0
  exact⟨rfl,by rw[c.o];exact m,(((Fr.refl H P w).drewN _).t (f.mono F0.to)).t z,Wr.after q (Wr.of_set _)⟩
 ·rw[hv]at g;have c:Hid (s.oldVar x p=s):=by unfold Hid Rs.oldVar;rw[hv];rfl
  obtain⟨y,t⟩:=a.c2;have j:=a.froz (o+2);have i:=fun n=>(a.drewN n).write (h.drewN n) ((bCK x s.b).getD 0);go_enter func247,ntmps247
  go_wp2_with fail
  go_quiet (fail)
  go_wp2;go_end0
  exact⟨rfl,by rw[c.o];exact(i _).1,((Fr.refl H P w).drewN _).t (i _).2.1,Wr.after (w:=w.drewN nq) (fun _ _ h=>h) (Wr.of_set _)⟩
theorem tX(w:World)(h:RsW H O N I U Z F s w)(c:mE H P w k o x p)(B:x.size<=maxLen)(M:s.b.length<=1000000):
 Calls prog 194 #[Qd N,.pointer (some ⟨k,o,none⟩)] w fun e f=>e= .returned (.tuple #[])/\RsW H O N I U Z F (s.V x) f/\Fr H P w f/\Wr k (o+2) (fun _=>s.b.length) w f:=by
 have c2:w.cell? ⟨N,2,none⟩=some (.map (some U)):=h.cell 2;obtain⟨T,S⟩:=c.c2;have K:=c.froz (o+2);obtain⟨b,C,L,d0⟩:=c.write h s.b.length;have y:(Lit.int .i64 (s.b.length:Int)).wf=true:=by simp[Lit.wf,IntKind.min,IntKind.max,IntKind.bits,IntKind.signed];omega
 obtain⟨g,R,z,d⟩:=(b.drew).b.put (by unfold maxLen;omega) x B s.b.length y;have G:(w.setCell ⟨k,o+2,none⟩ (Qc s.b.length)).cell? ⟨N,2,none⟩=some (.map (some U)):=b.cell 2
 have i:∀ a t,(w.setCell ⟨k,o+2,none⟩ (Qc s.b.length)).1[k]?=some (.cells a t (0,0))->g.1[k]?=some (.cells a t (0,0)):=by
  intro a t n;obtain⟨r,q,J,E,m,rfl⟩:=d;refine(heap_setBlock_other m _ ?_).t n;intro e;subst e;have l:(w.setCell ⟨k,o+2,none⟩ (Qc s.b.length)).1[k]?=some (.map r q):=m;rw[n]at l;cases l
 have j:Wr k (o+2) (fun _=>(s.b.length:Int)) w g:=(Wr.of_set _).ahead i;have A:Hid _:=j;clear i j;go_enter func194,ntmps194
 go_wp2_with (at_len;refine bMC rfl _ rfl U _ _ rfl h.b ?_)
 generalize w.setCell ⟨k,o+2,none⟩ (Qc s.b.length)=D at*;go_region
 all_goals go_wp2
 all_goals go_end0
 all_goals exact⟨rfl,(b.drew).turned z d,C.drew.turned h.vge d,A.o⟩
end
section
def ItO(w:World)(b:Nat)(a:Nd)(l:Tr):Prop:=(a.a=16/\At w b 196 fun cs=>Nam cs 0 a)\/(a.a=17/\At w b 105 fun cs=>Nam cs 0 a/\cs[3]?=some (bCH l))
structure ItW(Z:Array Value)(its:List Tr)(w:World):Prop where
 row:0 < its.length->∃ g cp rw,Z[0]?=some (Qe g its.length cp)/\w.1[g]?=some (.cells rw 151 (0,0))/\∀ (i:Nat) t,its[i]?=some t->rw[i]?=some (bCH t)
 own:∀ t∈its,∃ b o a l r,t= .node b o a l r/\ItO w b a l
 few:its.length<=1000000
def aIE(F:cM)(its:List Tr):Prop:=∀ x i,bCK x F=some i->0<=i/\i < its.length
def fP(F:cM)(its:List Tr)(x:ByteArray):Option Tr:=(bCK x F).bind fun i=>its[i.toNat]?
def uC:Option Tr->Value
 |none=> .nilIface
 |some t=>bCH t
variable {H O N I U:Nat} {Z:Array Value} {F:cM} {s:Rs} {w w':World} {its:List Tr} {x:ByteArray} {P:TypeId->Int->Prop}
def bCI(t:TypeId):Prop:=t=361\/t=395\/t=450\/t=405\/t=328\/t=331
theorem bCI.e{t:TypeId}(h:bCI t):cU t:=by grind[bCI,cU]
def aED(t:TypeId):Prop:=t≠196/\t≠105/\t≠151
theorem bCI.inT{t:TypeId}(h:bCI t):aED t:=by
 unfold bCI at h;rcases h with h|h|h|h|h|h<;>rw[h]<;>exact Qj
theorem ItO.fr{b:Nat}{a:Nd}{l:Tr}(h:ItO w b a l)(g:Fr H P w w')(f:∀ t p,P t p->aED t):ItO w' b a l:=by
 rcases h with⟨c,d⟩|⟨c,d⟩
 ·exact .l ⟨c,g.at d (by simp[bLB,aK]) (fun _ _ p _ e=>(f _ _ e).1 rfl)⟩
 ·exact .r ⟨c,g.at d (by simp[bLB,aK]) (fun _ _ p _ e=>(f _ _ e).2.1 rfl)⟩
theorem ItW.fr(h:ItW Z its w)(f:Fr H P w w')(d:∀ t p,P t p->aED t):ItW Z its w':=by
 refine⟨fun c=>?_,fun t y=>?_,h.few⟩
 ·obtain⟨g,i,z,j,m,n⟩:=h.row c;exact⟨g,i,z,j,f.same m (by simp[bLB,aK]) (fun p _ c=>(d _ _ c).2.2 rfl),n⟩
 ·obtain⟨b,o,a,l,r,e,q⟩:=h.own t y;exact⟨b,o,a,l,r,e,q.fr f d⟩
theorem ItW.d(h:ItW Z f w):∀ t∈f,∃ b o a l r,t= .node b o a l r/\(a.a=16\/a.a=17):=fun t d=>by
 obtain⟨b,o,a,l,r,e,c⟩:=h.own t d;refine⟨b,o,a,l,r,e,?_⟩;rcases c with⟨h,_⟩|⟨h,_⟩<;>simp[h]
theorem iM(w:World)(h:RsW H O N I U Z F s w)(hi:ItW Z its w)(C:aIE F its)(D:x.size<=maxLen):
 Calls prog 74 #[Qd N,.string x] w fun e G=>e= .returned (uC (fP F its x))/\w=G:=by
 have c0:w.cell? ⟨N,0,none⟩=some (Qd O):=h.cell 0;have c1:w.cell? ⟨N,1,none⟩=some (.map (some I)):=h.cell 1;have c:=h.first.look_ok x D;cases hl:bCK x F with
 |none=>
  rw[hl]at c;have m:Hid (uC (fP F its x)= .nilIface):=by unfold Hid fP;rw[hl];rfl
  simp only[Option.isSome_none,Option.getD_none]at c;go_enter func74,ntmps74
  go_wp2;go_ret;exact⟨congrArg Ending.returned m.o.symm,rfl⟩
 |some i=>
  rw[hl]at c;obtain⟨L,M⟩:=C x i hl;obtain⟨j,rfl⟩:∃ j:Nat,i=j:=⟨i.toNat,Oa⟩;have f:j < its.length:=Oa
  obtain⟨g,z,S,A,B,n⟩:=hi.row Oa;have R:w.cell? ⟨O,0,none⟩=some (Qe g its.length z):=Og h.prog A
  have t:=n j its[j] (List.getElem?_eq_getElem f);have E:w.cell? ⟨g,j,none⟩=some (bCH its[j]):=Og B t
  have m:Hid (uC (fP F its x)=bCH its[j]):=by unfold Hid fP;rw[hl];simp[List.getElem?_eq_getElem f,uC]
  obtain⟨b,o,a,l,r,q,K⟩:=hi.d its[j] (List.getElem_mem f);have d:bCH its[j]= .iface (bZ a.a) (Qd b):=by rw[q];exact Oh
  have y:Hid (bCH its[j]= .iface (bZ a.a) (Qd b)):=d;rw[d]at E;have J:=hi.few;simp only[Option.isSome_some,Option.getD_some]at c;clear t n d q hl;go_enter func74,ntmps74
  go_wp2;go_ret;exact⟨congrArg Ending.returned (m.o.t y.o).symm,rfl⟩
end
section
structure NsW(H O N I U:Nat)(Z:Array Value)(F:cM)(its:List Tr)(s:Rs)(w:World):Prop where
 rs:RsW H O N I U Z F s w
 it:ItW Z its w
 fo:aIE F its
variable {H O N I U:Nat} {Z:Array Value} {F:cM} {its:List Tr} {s B:Rs} {w w':World} {k o:Nat} {x:ByteArray} {p:Int} {P:TypeId->Int->Prop}
theorem NsW.fr(h:NsW H O N I U Z F its s w)(c:RsW H O N I U Z F B w')(d:Fr H P w w')(a:∀ t p,P t p->bCI t):NsW H O N I U Z F its B w':=
 ⟨c,h.it.fr d fun t p b=>(a t p b).inT,h.fo⟩
def fY(F:cM)(its:List Tr)(x:ByteArray):Option Tr:=match fP F its x with
 |some (.node b o a l r)=>if a.a=16 then some (.node b o a l r)else none
 |_=>none
def eK(F:cM)(its:List Tr)(x:ByteArray):Option Tr:=match fP F its x with
 |some (.node b o a l r)=>if a.a=17 then some (.node b o a l r)else none
 |_=>none
def Rs.P(s:Rs)(F:cM)(its:List Tr)(x:ByteArray)(p:Int):Rs:=if(fY F its x).isSome then s else s.fail 4 p
def lH:Tr->Int
 | .nil=>0
 | .node _ _ a _ _=>a.c
def fL(F:cM)(its:List Tr)(x:ByteArray)(q:Int):Int:=match fY F its x with
 |some t=>lH t
 |none=>q
theorem aFL(w:World):(Instr.typeAssert .nilIface 151 192 true).run prog w= .ok (.tuple #[.pointer none,.bool false]) w:=by kernel_rfl
theorem bD1(q:Option Addr)(w:World):(Instr.typeAssert (.iface 192 (.pointer q)) 151 192 true).run prog w= .ok (.tuple #[.pointer q,.bool true]) w:=by kernel_rfl
theorem bP0(q:Option Addr)(w:World):(Instr.typeAssert (.iface 106 (.pointer q)) 151 192 true).run prog w= .ok (.tuple #[.pointer none,.bool false]) w:=by kernel_rfl
theorem yB(w:World):(Instr.typeAssert .nilIface 151 106 true).run prog w= .ok (.tuple #[.pointer none,.bool false]) w:=by kernel_rfl
theorem pS(q:Option Addr)(w:World):(Instr.typeAssert (.iface 106 (.pointer q)) 151 106 true).run prog w= .ok (.tuple #[.pointer q,.bool true]) w:=by kernel_rfl
theorem wU(q:Option Addr)(w:World):(Instr.typeAssert (.iface 192 (.pointer q)) 151 106 true).run prog w= .ok (.tuple #[.pointer none,.bool false]) w:=by kernel_rfl
theorem aAY{x:ByteArray}{t:Tr}(a:fP F its x=some t):t∈its:=by
 unfold fP at a;cases hl:bCK x F with
 |none=>grind
 |some i=>
  grind
theorem tJ(h:NsW H O N I U Z F its s w)(x:ByteArray):fP F its x=none\/(∃ b o a l r,fP F its x=some (.node b o a l r)/\a.a=16/\At w b 196 fun c=>Nam c 0 a)\/(∃ b o a l r,fP F its x=some (.node b o a l r)/\a.a=17/\At w b 105 fun c=>Nam c 0 a/\c[3]?=some (bCH l)):=by
 cases hm:fP F its x with
 |none=>simp
 |some t=>
  right;obtain⟨b,o,a,l,r,rfl,f⟩:=h.it.own t (aAY hm);rcases f with⟨d,e⟩|⟨d,e⟩
  ·grind
  grind
theorem sW(w:World)(h:NsW H O N I U Z F its s w)(f:mE H P w k o x p)(z:x.size<=maxLen):
 Calls prog 248 #[Qd N,.pointer (some ⟨k,o,none⟩)] w fun e C=>e= .returned (.tuple #[])/\RsW H O N I U Z F (s.P F its x p) C/\Fr H P w C/\Wr k (o+2) (fL F its x) w C:=by
 have Y:=aFL w;have t2:=fun q=>bD1 q w;have t3:=fun q=>bP0 q w;have S:=f.c0;have T:=f.c1;obtain⟨W,V⟩:=f.c2;have M:=f.froz (o+2);rcases tJ h x with c|⟨b,A,a,l,r,c,d,m⟩|⟨b,A,a,l,r,c,d,m⟩
 ·have g:Hid (s.P F its x p=s.fail 4 p):=by unfold Hid Rs.P fY;rw[c];rfl
  have i:Hid (fL F its x=fun q=>q):=by unfold Hid;funext q;unfold fL fY;rw[c]
  go_enter func248,ntmps248
  go_wp2_with fail
  refine(iM w h.rs h.it h.fo z).mono ?_;rintro e D ⟨rfl,rfl⟩;rw[c];unfold uC;go_wp2_with fail
  refine(bCJ 4 p _ h.rs).mono ?_;rintro e J ⟨rfl,t,j⟩;have n:=f.keep0 j;go_wp2;refine bodyPost_ret (results_none rfl _ _ _) rfl ?_;exact⟨rfl,by rw[g.o];exact t,j.mono F0.to,by rw[i.o];exact Wr.id n⟩
 ·have g:Hid (s.P F its x p=s):=by unfold Hid Rs.P fY;rw[c];simp[d]
  have i:Hid (fL F its x=fun _=>a.c):=by unfold Hid;funext q;unfold fL fY;rw[c];simp[d,lH]
  have y:bCH (.node b A a l r)= .iface 192 (Qd b):=by show(if a.a=20 then _ else _)=_;rw[Oh,d];rfl
  obtain⟨L,G,⟨_,_,K⟩⟩:=m;have R:w.cell? ⟨b,2,none⟩=some (Qc a.c):=Og G K
  have E:=f.write h.rs a.c;clear G d;go_enter func248,ntmps248
  go_wp2_with fail
  refine(iM w h.rs h.it h.fo z).mono ?_;rintro e D ⟨rfl,rfl⟩;rw[c];unfold uC;dsimp only;rw[y];go_wp2;go_end0
  exact⟨rfl,by rw[g.o];exact E.1,E.2.1,by rw[i.o];exact Wr.of_set _⟩
 ·have g:Hid (s.P F its x p=s.fail 4 p):=by unfold Hid Rs.P fY;rw[c];simp[d]
  have i:Hid (fL F its x=fun q=>q):=by unfold Hid;funext q;unfold fL fY;rw[c];simp[d]
  have y:bCH (.node b A a l r)= .iface 106 (Qd b):=by show(if a.a=20 then _ else _)=_;rw[Oh,d];rfl
  clear m d;go_enter func248,ntmps248
  go_wp2_with fail
  refine(iM w h.rs h.it h.fo z).mono ?_;rintro e D ⟨rfl,rfl⟩;rw[c];unfold uC;dsimp only;rw[y];go_wp2_with fail
  refine(bCJ 4 p _ h.rs).mono ?_;rintro e J ⟨rfl,t,j⟩;have n:=f.keep0 j;go_wp2;refine bodyPost_ret (results_none rfl _ _ _) rfl ?_;exact⟨rfl,by rw[g.o];exact t,j.mono F0.to,by rw[i.o];exact Wr.id n⟩
end
section
theorem eY{T e:TypeId}(x u:TypeId)(v:Value)(w:World)(a:prog.underlying T=some (.pointer e))(b:(zeroValue T).run prog w= .ok (.pointer none) w):
 (Instr.typeAssert (.iface u v) x T true).run prog w= .ok (.tuple #[if u=T then v else .pointer none,.bool (decide (u=T))]) w:=by
 unfold Instr.typeAssert
 by_cases h:u=T
 ·subst h;simp[run_underlying a,Result.andThen]
 ·simp[run_underlying a,Result.andThen,h,b]
theorem oD(u:TypeId)(v:Value)(w:World):(Instr.typeAssert (.iface u v) 269 359 true).run prog w= .ok (.tuple #[if u=359 then v else .pointer none,.bool (decide (u=359))]) w:=eY _ u v w underlying359 Od
theorem pT(u:TypeId)(v:Value)(w:World):(Instr.typeAssert (.iface u v) 269 393 true).run prog w= .ok (.tuple #[if u=393 then v else .pointer none,.bool (decide (u=393))]) w:=eY _ u v w underlying393 Od
theorem xL(u:TypeId)(v:Value)(w:World):(Instr.typeAssert (.iface u v) 269 396 true).run prog w= .ok (.tuple #[if u=396 then v else .pointer none,.bool (decide (u=396))]) w:=eY _ u v w underlying396 Od
theorem mX(u:TypeId)(v:Value)(w:World):(Instr.typeAssert (.iface u v) 269 398 true).run prog w= .ok (.tuple #[if u=398 then v else .pointer none,.bool (decide (u=398))]) w:=eY _ u v w underlying398 Od
theorem rP(u:TypeId)(v:Value)(w:World):(Instr.typeAssert (.iface u v) 269 401 true).run prog w= .ok (.tuple #[if u=401 then v else .pointer none,.bool (decide (u=401))]) w:=eY _ u v w underlying401 Od
theorem rQ(u:TypeId)(v:Value)(w:World):(Instr.typeAssert (.iface u v) 269 403 true).run prog w= .ok (.tuple #[if u=403 then v else .pointer none,.bool (decide (u=403))]) w:=eY _ u v w underlying403 Od
def aD:Tr->Nat
 | .nil=>0
 | .node _ _ _ l _=>aO l
def Rs.O(s:Rs)(F:cM)(its:List Tr)(x:ByteArray)(p:Int)(n:Nat):Rs:=match eK F its x with
 |some (.node _ _ _ l _)=>if n=aD l then s else s.fail 5 p
 |_=>s.fail 4 p
def iY(F:cM)(its:List Tr)(x:ByteArray)(n:Nat)(q:Int):Int:=match eK F its x with
 |some (.node _ _ a l _)=>if n=aD l then a.c else q
 |_=>q
def rs1(F:cM)(its:List Tr)(a:Nd)(n:Nat)(s:Rs):Rs:=
 if a.a=9 then(if a.flag=true then s.K a.h a.b 12 else s.oldVar a.h a.b)
 else if a.a=1 then s.oldVar a.h a.b else if a.a=2\/a.a=10 then s.P F its a.h a.b else if a.a=3 then s.O F its a.h a.b n else s
def wh1(F:cM)(its:List Tr)(a:Nd)(n:Nat)(s:Rs):Int:=
 if a.a=1\/a.a=9 then(bCK a.h s.b).getD 0 else if a.a=2\/a.a=10 then fL F its a.h a.c else if a.a=3 then iY F its a.h n a.c else a.c
def rsT(F:cM)(its:List Tr):Tr->Rs->Rs
 | .nil,s=>s
 | .node _ _ a l r,s=>
  if a.a=9/\a.flag=true then(rsT F its l (rs1 F its a (aD l) s)).V a.h
  else rsT F its r (rsT F its l (rs1 F its a (aD l) s))
def reT(F:cM)(its:List Tr):Tr->Rs->Tr
 | .nil,_=> .nil
 | .node b o a l r,s=>
  if a.a=9/\a.flag=true then .node b o {a with c:=(rsT F its l (rs1 F its a (aD l) s)).b.length} (reT F its l (rs1 F its a (aD l) s)) r
  else .node b o {a with c:=wh1 F its a (aD l) s} (reT F its l (rs1 F its a (aD l) s)) (reT F its r (rsT F its l (rs1 F its a (aD l) s)))
theorem bQW(t:Tr):aD (er t)=aD t:=by
 cases t with
 |nil=>rfl
 |node b o a l r=>exact aHY l
theorem tE(F:cM)(its:List Tr):∀ (t:Tr) (s:Rs),rsT F its (er t) s=rsT F its t s:=by
 intro t
 induction t with
 |nil=>intro s;rfl
 |node b o a l r ihl ihr=>
  grind[er,rsT,bQW]
theorem dJ(F:cM)(its:List Tr):∀ (t:Tr) (s:Rs),Sh t (reT F its t s):=by
 intro t
 induction t with
 |nil=>intro s;trivial
 |node b o a l r ihl ihr=>
  intro s;unfold reT
  split
  ·rename_i h;exact⟨rfl,rfl,rfl,rfl,rfl,rfl,rfl,rfl,fun e=>Oa,fun _=>rfl,ihl _,Sh.refl _⟩
  ·refine⟨rfl,rfl,rfl,rfl,rfl,rfl,rfl,rfl,fun e=>?_,fun _=>rfl,ihl _,ihr _⟩
   grind[wh1]
def Pt(t:Tr):TypeId->Int->Prop:=fun ty p=>bCI ty/\p∈ps t
def Po(a:Nd):TypeId->Int->Prop:=fun ty p=>bCI ty/\p∈po a
theorem Po.to{b o:Nat}{a:Nd}{l r:Tr}(c:TypeId)(p:Int)(h:Po a c p):Pt (.node b o a l r) c p:=⟨h.1,aAU h.2⟩
theorem Pt.left{b o:Nat}{a:Nd}{l r:Tr}(c:TypeId)(p:Int)(h:Pt l c p):Pt (.node b o a l r) c p:=⟨h.1,fT h.2⟩
theorem Pt.right{b o:Nat}{a:Nd}{l r:Tr}(c:TypeId)(p:Int)(h:Pt r c p):Pt (.node b o a l r) c p:=⟨h.1,jE h.2⟩
theorem rX{H k:Nat}{w:World}{a:Nd}{l r:Tr}(h:Own w k a l r)(i:H<=k)(c:a.a=1\/a.a=2\/a.a=3\/a.a=9\/a.a=10):mE H (Po a) w k 0 a.h a.b:=by
 have q:a.b∈po a:=by unfold po;rw[Oh,if_pos (by rcases c with h|h|h|h|h<;>rw[h]<;>rfl)];simp
 have key:∀ t b,w.1[k]?=some (.cells b t (0,0))->Nam b 0 a->bCI t->bLB t->mE H (Po a) w k 0 a.h a.b:=by
  intro t b d e n g;obtain⟨j,f,m⟩:=e;exact⟨⟨b,t,a.c,a.b,d,j,f,m,f,Qj,g⟩,i⟩
 unfold Own at h;rcases c with c|c|c|c|c<;>rw[c]at h
 ·obtain⟨b,d,e⟩:=h
  grind[bCI,bLB,aK]
 ·obtain⟨b,d,e,_⟩:=h
  grind[bCI,bLB,aK]
 ·obtain⟨b,d,e,_⟩:=h
  grind[bCI,bLB,aK]
 ·obtain⟨b,d,e,_⟩:=h
  grind[bCI,bLB,aK]
 ·obtain⟨b,d,e,_⟩:=h
  grind[bCI,bLB,aK]
theorem Nam.set{cs:Array Value}{a:Nd}(h:Nam cs 0 a)(i:Int):Nam (cs.setIfInBounds 2 (Qc i)) 0 {a with c:=i}:=by
 refine⟨(Qq Oa).t h.1,(Qq Oa).t h.2.1,?_⟩;show(cs.setIfInBounds 2 _)[2]?=_;rw[Array.getElem?_setIfInBounds_self_of_lt (Oo h.2.2)]
theorem tH{k:Nat}{w w':World}{a:Nd}{l r:Tr}{f:Int->Int}(h:Own w k a l r)(g:a.a=1\/a.a=2\/a.a=3\/a.a=9\/a.a=10)(i:Wr k 2 f w w'):Own w' k {a with c:=f a.c} l r:=by
 unfold Own at h ⊢;dsimp only;have ne:∀ {e:Array Value} {n:Nat} {v:Value} {x:Value},2≠n->e[n]?=some v->(e.setIfInBounds 2 x)[n]?=some v:=Qg;rcases g with g|g|g|g|g<;>rw[g]at h ⊢
 ·obtain⟨e,d,b⟩:=h;exact⟨_,i _ _ _ d b.2.2,b.set _⟩
 ·obtain⟨e,d,b,j,m⟩:=h;exact⟨_,i _ _ _ d b.2.2,b.set _,Qh,Qh⟩
 ·obtain⟨e,d,b,j,m⟩:=h;exact⟨_,i _ _ _ d b.2.2,b.set _,Qh,Qh⟩
 ·obtain⟨e,d,b,j,m⟩:=h;exact⟨_,i _ _ _ d b.2.2,b.set _,Qh,Qh⟩
 ·obtain⟨e,d,b,j,m,q⟩:=h;exact⟨_,i _ _ _ d b.2.2,b.set _,Qh,Qh,Qh⟩
structure Uq(a:Nd)(l r:Tr):Prop where
 left:(ps l).Nodup
 right:(ps r).Nodup
 own_l:∀ p∈po a,p ∉ ps l
 own_r:∀ p∈po a,p ∉ ps r
 apart:∀ p∈ps l,p ∉ ps r
theorem dZ{b o:Nat}{a:Nd}{l r:Tr}(h:(ps (.node b o a l r)).Nodup):Uq a l r:=by
 unfold ps at h
 split at h
 ·rename_i h6;have e:po a=[a.e]:=if_pos h6;rw[List.nodup_append]at h;obtain⟨d,c,g⟩:=h;rw[List.nodup_cons]at c;refine⟨d,c.2,fun p f i=>?_,fun p f j=>?_,Qg⟩
  ·grind
  grind
 ·rename_i h6
  split at h
  ·rename_i hn;have e:po a=[a.b]:=(if_neg h6).t (if_pos hn);rw[List.nodup_cons,List.nodup_append]at h;obtain⟨m,d,c,g⟩:=h;refine⟨d,c,fun p f i=>?_,fun p f j=>?_,Qg⟩
   ·grind
   grind
  ·rename_i hn;have e:po a=[]:=(if_neg h6).t (if_neg hn);rw[List.nodup_append]at h;obtain⟨d,c,g⟩:=h;exact⟨d,c,Qh,Qh,Qg⟩
end
end Go.Proofs.YtikffmloeifkpaaGreatDoor
