/- Contracts. -/
import Derived.Test.YtikffmloeifkpaaGreatDoorQ10
import Derived.Maps.OwnSet
import Derived.Maps.Views
set_option maxHeartbeats 2000000
set_option maxRecDepth 100000
namespace Go.Proofs.YtikffmloeifkpaaGreatDoor
section
open Go.RowKit Go.Lib Go.Deep Go.Maps Go.ChangeMaps Go.MapKept
abbrev cM:=List (ByteArray × Int)
def look(s:ByteArray):cM->Option Int
 |[]=>none
 |(t,v)::r=>if t=s then some v else look s r
def put(s:ByteArray)(v:Int):cM->cM
 |[]=>[(s,v)]
 |(t,u)::r=>if t=s then(s,v)::r else(t,u)::put s v r
theorem lU(s:ByteArray)(v:Int)(l:cM):look s (put s v l)=some v:=by
 induction l with
 |nil=>simp[put,look]
 |cons p r ih=>obtain⟨t,u⟩:=p;by_cases h:t=s<;>simp[put,look,h,ih]
theorem kX{s t:ByteArray}(h:t≠s)(v:Int)(l:cM):look t (put s v l)=look t l:=by
 induction l with
 |nil=>simp[put,look,h.symm]
 |cons p r ih=>
  obtain⟨x,u⟩:=p
  by_cases h1:x=s
  ·subst h1;simp[put,look,h.symm]
  ·by_cases h2:x=t
   ·subst h2;simp[put,look,h1]
   ·simp[put,look,h1,h2,ih]
theorem nO(s:ByteArray)(v:Int)(l:cM):(put s v l).length=if(look s l).isSome then l.length else l.length+1:=by
 induction l with
 |nil=>simp[put,look]
 |cons p r ih=>
  obtain⟨t,u⟩:=p
  by_cases h:t=s
  ·simp[put,look,h]
  ·simp only[put,look,if_neg h,List.length_cons,ih]
   split<;>rfl
def kl(s:ByteArray):Lit:= .string s.data.toList
theorem aNM{s t:ByteArray}(h:s≠t):kl s≠kl t:=by
 intro e;apply h;simp only[kl,Lit.string.injEq]at e;cases s;cases t;simpa using Array.ext' e
def Mp(w:World)(b n:Nat)(l:cM):Prop:=∃ D:DataW Unit,w.ownsMap Tryz.prog 9 (plainElem Tryz.prog 3) b n D/\(∀ s,has D (kl s)=(look s l).isSome)/\(∀ s,D.atKey (kl s) (.lit (.int .i64 0))= .lit (.int .i64 ((look s l).getD 0)))/\Maps.size D=l.length
theorem Tryz.zero3(w:World):(zeroValue 3).run Tryz.prog w= .ok (.int .i64 0) w:=by kernel_rfl
theorem Mp.made(w:World):Mp (w.alloc (.map #[] 0)) w.heap.size 0 []:=
 ⟨.map [],World.ownsMap_made w _ _ _,fun _=>rfl,fun _=>rfl,rfl⟩
theorem Mp.lt{w:World}{b n:Nat}{l:cM}(h:Mp w b n l):b < w.heap.size:=by obtain⟨D,h1,_⟩:=h;exact h1.lt
theorem Mp.mono{w:World}{b n n':Nat}{l:cM}(h:Mp w b n l)(hn:n<=n'):Mp w b n' l:=by obtain⟨D,h1,h2⟩:=h;exact⟨D,h1.mono hn,h2⟩
theorem Mp.same{w w':World}{b n:Nat}{l:cM}(h:Mp w b n l)(e:w'.heap[b]?=w.heap[b]?):Mp w' b n l:=by
 obtain⟨D,⟨es,clock,hb,r⟩,h2⟩:=h;exact⟨D,⟨es,clock,e.trans hb,r⟩,h2⟩
theorem Mp.ismap{w:World}{b n:Nat}{l:cM}(h:Mp w b n l):∃ es clock,w.heap[b]?=some (.map es clock):=by
 obtain⟨D,⟨es,clock,hb,r⟩,h2⟩:=h;exact⟨es,clock,hb⟩
theorem Mp.look_ok{w:World}{b n:Nat}{l:cM}(h:Mp w b n l)(s:ByteArray)(hs:s.size<=maxLen):
 (Instr.lookup 147 (.map (some b)) (.string s) true).run Tryz.prog w= .ok (.tuple #[.int .i64 ((look s l).getD 0),.bool (look s l).isSome]) w:=by
 obtain⟨D,h1,h2,h3,_⟩:=h;obtain⟨v,ps,h0,hv⟩:=h1.look_ok (string_keyed Tryz.underlying9) Tryz.underlying147 (Tryz.zero3 w) (plainElem_int Tryz.underlying3 Ob) (WideMaps.keyOf_string_mk Tryz.underlying9 hs);obtain⟨c,rfl,hc,_⟩:=plainElem_int_inv Tryz.underlying3 hv;have e:=congrArg Prod.fst hc;have e2:=h3 s;unfold kl at e2;rw[e2]at e;simp only[DataW.lit.injEq,Lit.int.injEq,true_and]at e;rw[h0,<-e,<-h2 s];rfl
theorem Mp.look{w:World}{b n:Nat}{l:cM}(h:Mp w b n l)(s:ByteArray)(hs:s.size<=maxLen):
 (Instr.lookup 147 (.map (some b)) (.string s) false).run Tryz.prog w= .ok (.int .i64 ((YtikffmloeifkpaaGreatDoor.look s l).getD 0)) w:=by
 obtain⟨D,h1,h2,h3,_⟩:=h;obtain⟨v,ps,h0,hv⟩:=h1.lookup (string_keyed Tryz.underlying9) Tryz.underlying147 (Tryz.zero3 w) (plainElem_int Tryz.underlying3 Ob) (WideMaps.keyOf_string_mk Tryz.underlying9 hs);obtain⟨c,rfl,hc,_⟩:=plainElem_int_inv Tryz.underlying3 hv;have e:=congrArg Prod.fst hc;have e2:=h3 s;unfold kl at e2;rw[e2]at e;simp only[DataW.lit.injEq,Lit.int.injEq,true_and]at e;rw[h0,<-e]
theorem Mp.len{w:World}{b n:Nat}{l:cM}(h:Mp w b n l)(ty:TypeId):(Builtin.len_ #[147] ty #[.map (some b)]).run Tryz.prog w= .ok (.int .i64 l.length) w:=by
 obtain⟨D,h1,_,_,h2⟩:=h;rw[<-h2];exact h1.len Tryz.underlying147 ty
theorem Mp.put{w:World}{b n:Nat}{l:cM}(h:Mp w b n l)(hn:n < maxLen)(s:ByteArray)(hs:s.size<=maxLen)(v:Int)(hv:(Lit.int .i64 v).wf=true):
 ∃ w',(Instr.mapUpdate 147 (.map (some b)) (.string s) (.int .i64 v)).run Tryz.prog w= .ok () w'/\Mp w' b (n+1) (YtikffmloeifkpaaGreatDoor.put s v l)/\w.mapTurned w' b:=by
 obtain⟨D,h1,h2,h3,h4⟩:=h;obtain⟨w',h0,h5,h6⟩:=h1.store (string_keyed Tryz.underlying9) Tryz.underlying147 hn (WideMaps.keyOf_string_mk Tryz.underlying9 hs) (plainElem_int Tryz.underlying3 hv);have hk:WideAt.IsKeyLit (kl s):=trivial;refine⟨w',h0,⟨_,h5,fun t=>?_,fun t=>?_,?_⟩,h6⟩
 ·by_cases ht:t=s
  ·subst ht;rw[lU];exact has_put_same h1.isMap hk _
  ·rw[kX ht,<-h2 t];exact has_put_other (aNM ht) _
 ·by_cases ht:t=s
  ·subst ht;rw[lU];exact atKey_put_same h1.isMap hk _ _
  ·rw[kX ht,<-h3 t];exact atKey_put_other (aNM ht) _ _
 ·rw[nO,<-h2 s,<-h4];exact size_put (h1.tidy (string_keyed Tryz.underlying9)) _
theorem Mp.clear{w:World}{b n:Nat}{l:cM}(h:Mp w b n l):∃ w',(∀ ty,(Builtin.clear_ #[147] ty #[.map (some b)]).run Tryz.prog w= .ok (.tuple #[]) w')/\Mp w' b 0 []/\w.mapTurned w' b:=by
 obtain⟨D,⟨es,clock,hb,_⟩,_⟩:=h;refine⟨setBlock w b (.map #[] clock),fun ty=>?_,⟨.map [],⟨#[],clock,heap_setBlock_same hb _,⟨Od,MapKept.stamped_empty clock,Od⟩,Qc _,rfl⟩,fun _=>rfl,fun _=>rfl,rfl⟩,⟨es,clock,#[],clock,hb,rfl⟩⟩;simp[Builtin.clear_,run_underlying Tryz.underlying147,MapKept.run_getObj_map hb,MapKept.run_setObj_map _ hb,setBlock,Result.andThen]
def aK(t:TypeId):Prop:=
 t=364\/t=361\/t=395\/t=450\/t=400\/t=402\/t=405\/t=271\/t=409\/t=328\/t=331\/
 t=337\/t=340\/t=343\/t=345\/t=196\/t=105\/t=100\/t=253\/t=269\/t=250\/t=151\/t=37
def cK(t:TypeId):Prop:=aK t\/t=192\/t=106
theorem aK.to{t:TypeId}(h:aK t):cK t:= .inl h
structure FrX(Q:TypeId->Prop)(H:Nat)(P:TypeId->Int->Prop)(w w':World):Prop where
 os:w'.os=w.os
 tape:w'.tape=w.tape
 output:w'.output=w.output
 size:w.heap.size<=w'.heap.size
 below:∀ k,k < H->w'.heap[k]?=w.heap[k]?
 block:∀ (k:Nat) (cs:Array Value) (t:TypeId),Q t->w.heap[k]?=some (.cells cs t (0,0))->∃ cs',w'.heap[k]?=some (.cells cs' t (0,0))/\(cs'=cs\/(cs'[1]?=cs[1]?/\∃ p:Int,cs[1]?=some (.int .i64 p)/\P t p))
abbrev Fr(H:Nat)(P:TypeId->Int->Prop)(w w':World):Prop:=FrX cK H P w w'
abbrev Fw(H:Nat)(P:TypeId->Int->Prop)(w w':World):Prop:=FrX aK H P w w'
variable {H:Nat} {P Q:TypeId->Int->Prop} {X:TypeId->Prop} {u v w w':World}
theorem FrX.refl(X:TypeId->Prop)(H:Nat)(P:TypeId->Int->Prop)(w:World):FrX X H P w w:=⟨rfl,rfl,rfl,Qc _,fun _ _=>rfl,fun _ cs _ _ h=>⟨cs,h,.inl rfl⟩⟩
theorem Fr.refl(H:Nat)(P:TypeId->Int->Prop)(w:World):Fr H P w w:=FrX.refl _ _ _ _
theorem Fw.refl(H:Nat)(P:TypeId->Int->Prop)(w:World):Fw H P w w:=FrX.refl _ _ _ _
theorem FrX.weak(h:FrX cK H P w w'):Fw H P w w':=⟨h.os,h.tape,h.output,h.size,h.below,fun k cs t ht hk=>h.block k cs t ht.to hk⟩
theorem FrX.mono(h:FrX X H P w w')(hp:∀ t p,P t p->Q t p):FrX X H Q w w':=
 ⟨h.os,h.tape,h.output,h.size,h.below,fun k cs t ht hk=>by
   obtain⟨cs',h1,h2⟩:=h.block k cs t ht hk;refine⟨cs',h1,?_⟩;rcases h2 with h2|⟨h2,p,h3,h4⟩
   ·exact .inl h2
   ·exact .inr ⟨h2,p,h3,hp _ _ h4⟩⟩
theorem FrX.low{H':Nat}(h:FrX X H P w w')(hh:H'<=H):FrX X H' P w w':=⟨h.os,h.tape,h.output,h.size,fun k hk=>h.below k Oa,h.block⟩
theorem FrX.trans(h:FrX X H P u v)(k:FrX X H P v w):FrX X H P u w:=by
 refine⟨k.os.trans h.os,k.tape.trans h.tape,k.output.trans h.output,Qd h.size k.size,fun i hi=>(k.below i hi).trans (h.below i hi),fun i cs t ht hi=>?_⟩;obtain⟨c1,h1,s1⟩:=h.block i cs t ht hi;obtain⟨c2,h2,s2⟩:=k.block i c1 t ht h1;refine⟨c2,h2,?_⟩;rcases s1 with rfl|⟨e1,p,e2,e3⟩
 ·exact s2
 ·rcases s2 with rfl|⟨f1,_⟩
  ·exact .inr ⟨e1,p,e2,e3⟩
  ·exact .inr ⟨f1.trans e1,p,e2,e3⟩
theorem FrX.drewN(h:FrX X H P u w)(n:Nat):FrX X H P u (w.drewN n):=⟨h.os,h.tape,h.output,h.size,h.below,h.block⟩
theorem FrX.drew(h:FrX X H P u w):FrX X H P u w.drew:=⟨h.os,h.tape,h.output,h.size,h.below,h.block⟩
theorem FrX.alloc(h:FrX X H P u w)(o:Obj)(hh:H<=w.heap.size):FrX X H P u (w.alloc o):=
 h.trans ⟨rfl,rfl,rfl,Od,fun k hk=>On Oa,fun k cs t _ hk=>⟨cs,(On (Oo hk)).trans hk,.inl rfl⟩⟩
theorem FrX.set(h:FrX X H P u w){k:Nat}(hk:H<=k)(hn:∀ cs t,X t->w.heap[k]?≠some (.cells cs t (0,0)))(o:Nat)(x:Value):FrX X H P u (w.setCell ⟨k,o,none⟩ x):=by
 refine h.trans ⟨rfl,rfl,rfl,by simp[World.setCell],fun i hi=>Om (by show i≠k;omega),fun i cs t ht hi=>⟨cs,(Om ?_).trans hi,.inl rfl⟩⟩;intro e;replace e:i=k:=e;subst e;exact hn cs t ht hi
theorem FrX.write(h:FrX X H P u w){k o:Nat}{cs:Array Value}{t:TypeId}{p:Int}(hk:w.heap[k]?=some (.cells cs t (0,0)))(hH:H<=k)(ho:o≠1)(h1:cs[1]?=some (.int .i64 p))(hp:P t p)(x:Value):FrX X H P u (w.setCell ⟨k,o,none⟩ x):=by
 refine h.trans ⟨rfl,rfl,rfl,by simp[World.setCell],fun i hi=>Om (by show i≠k;omega),fun i c2 t2 _ hi=>?_⟩
 by_cases e:i=k
 ·subst e;rw[hk]at hi;simp only[Option.some.injEq,Obj.cells.injEq]at hi;obtain⟨rfl,rfl,_⟩:=hi;exact⟨_,aM _ hk,.inr ⟨Qh ho,p,h1,hp⟩⟩
 ·exact⟨c2,(Om e).trans hi,.inl rfl⟩
theorem FrX.turned{b:Nat}(h:FrX X H P u w)(hv:H<=b)(ht:w.mapTurned w' b):FrX X H P u w':=by
 obtain⟨es,cl,es',cl',hb,rfl⟩:=ht;refine h.trans ⟨rfl,rfl,rfl,by simp[setBlock],fun k hk=>heap_setBlock_other hb _ Oa,fun k cs t _ he=>⟨cs,(heap_setBlock_other hb _ ?_).trans he,.inl rfl⟩⟩;intro e;subst e;rw[hb]at he;cases he
theorem FrX.same{k:Nat}{cs:Array Value}{t:TypeId}(h:FrX X H P w w')(hk:w.heap[k]?=some (.cells cs t (0,0)))(ht:X t)(hn:∀ p:Int,cs[1]?=some (.int .i64 p)->¬P t p):w'.heap[k]?=some (.cells cs t (0,0)):=by
 obtain⟨cs',h1,h2⟩:=h.block k cs t ht hk;rcases h2 with rfl|⟨_,p,h3,h4⟩
 ·exact h1
 ·exact absurd h4 (hn p h3)
theorem FrX.at{k:Nat}{t:TypeId}{R:Array Value->Prop}(h:FrX X H P w w')(ha:At w k t R)(ht:X t)(hn:∀ cs,R cs->∀ p:Int,cs[1]?=some (.int .i64 p)->¬P t p):At w' k t R:=by
 obtain⟨cs,hc,hR⟩:=ha;exact⟨cs,h.same hc ht (hn cs hR),hR⟩
def cU(t:TypeId):Prop:=t=361\/t=395\/t=450\/t=405\/t=328\/t=331\/t=196\/t=105\/t=100
theorem aDP(l:Tr)(hl:∃ b o a e r,l= .node b o a e r/\∃ b o a x y,e=BT.node b o a x y):aK (bL l):=by
 obtain⟨b,o,a,e,r,rfl,b2,o2,a2,x,y,rfl⟩:=hl;unfold bL;dsimp only
 repeat' split
 all_goals (unfold aK;simp)
theorem aDQ{b o:Nat}{a:Nd}{e r:Tr}(h:cU (bL (.node b o a e r))):∃ b o a x y,e=BT.node b o a x y/\a.tag=19:=by
 cases e with
 |nil=>exact absurd h (by unfold bL cU;simp)
 |node b2 o2 a2 x y=>
  refine⟨b2,o2,a2,x,y,rfl,?_⟩;unfold bL at h;dsimp only at h
  revert h
  repeat' split
  all_goals first|(intro _;assumption)|(intro h;exact absurd h (by unfold cU;simp))
def po(a:Nd):List Int:=if a.tag=6 then[a.pos]else if eO a.tag then[a.npos]else[]
theorem aAU{b o:Nat}{a:Nd}{l r:Tr}{p:Int}(h:p∈po a):p∈ps (.node b o a l r):=by
 unfold po at h;unfold ps
 split
 ·rename_i h6;rw[if_pos h6]at h;simp only[List.mem_singleton]at h;subst h;simp
 ·rename_i h6;rw[if_neg h6]at h
  split
  ·rename_i hn;rw[if_pos hn]at h;simp only[List.mem_singleton]at h;subst h;simp
  ·rename_i hn;rw[if_neg hn]at h;cases h
theorem dH.frX{k:Nat}{a:Nd}{l r:Tr}(hX:∀ t,aK t->X t)(h0:FrX X H P w w')(hP:∀ t p,P t p->cU t)(h:dH a.tag w k a l r)(hs:∀ p∈po a,∀ t,¬P t p)(h7:a.tag=20->(∃ b o a2 e r,l= .node b o a2 e r/\a2.tag=15/\∃ b o a x y,e=BT.node b o a x y)/\∀ p∈ps l,¬P 100 p):dH a.tag w' k a l r:=by
 have none_:∀ {t:TypeId} {R:Array Value->Prop},At w k t R->aK t->¬cU t->At w' k t R:=fun ha ht hn=>h0.at ha (hX _ ht) (fun _ _ p _ hp=>hn (hP _ _ hp))
 have nam:∀ {t:TypeId} {R:Array Value->Prop},At w k t R->aK t->eO a.tag=true->a.tag≠6->(∀ cs,R cs->Nam cs 0 a)->At w' k t R:=by
  intro t R ha ht hn h6 hR;refine h0.at ha (hX _ ht) (fun cs hc p hp=>?_);rw[(hR cs hc).2.1]at hp;simp only[Option.some.injEq,Value.int.injEq,true_and]at hp;subst hp;refine hs _ ?_ t;unfold po;rw[if_neg h6,if_pos hn];exact Qj
 generalize hq:a.tag=n at*
 match n,h with
 |0,h=>exact none_ h (by simp[aK]) (by simp[cU])
 |1,h=>exact nam h (by simp[aK]) rfl Ob (fun _ h=>h)
 |2,h=>exact nam h (by simp[aK]) rfl Ob (fun _ h=>h.1)
 |3,h=>exact nam h (by simp[aK]) rfl Ob (fun _ h=>h.1)
 |4,h=>exact none_ h (by simp[aK]) (by simp[cU])
 |5,h=>exact none_ h (by simp[aK]) (by simp[cU])
 |6,h=>
  refine h0.at h (hX _ (by simp[aK])) (fun cs hc p hp=>?_);rw[hc.2.1]at hp;simp only[Option.some.injEq,Value.int.injEq,true_and]at hp;subst hp;refine hs _ ?_ _;unfold po;rw[if_pos hq];exact Qj
 |7,h=>exact none_ h (by simp[aK]) (by simp[cU])
 |8,h=>exact none_ h (by simp[aK]) (by simp[cU])
 |9,h=>exact nam h (by simp[aK]) rfl Ob (fun _ h=>h.1)
 |10,h=>exact nam h (by simp[aK]) rfl Ob (fun _ h=>h.1)
 |11,h=>exact none_ h (by simp[aK]) (by simp[cU])
 |12,h=>exact none_ h (by simp[aK]) (by simp[cU])
 |13,h=>exact none_ h (by simp[aK]) (by simp[cU])
 |14,h=>exact none_ h (by simp[aK]) (by simp[cU])
 |16,h=>exact nam h (by simp[aK]) rfl Ob (fun _ h=>h.1)
 |17,h=>exact nam h (by simp[aK]) rfl Ob (fun _ h=>h.1)
 |20,h=>
  obtain⟨⟨b2,o2,a2,e,q,rfl,h8,he⟩,h2⟩:=h7 rfl;refine⟨h.1,h0.at h.2 (hX _ (aDP _ ⟨_,_,_,_,_,rfl,he⟩)) (fun cs hc p hp h3=>?_)⟩;obtain⟨b3,o3,a3,x,y,rfl,h4⟩:=aDQ (hP _ _ h3);have h1:(if a3.tag=19 then Nam cs (0*3) a3 else if a3.tag=7 then _ else _):=hc.1;rw[if_pos h4]at h1;rw[h1.2.1]at hp;simp only[Option.some.injEq,Value.int.injEq,true_and]at hp;subst hp;have h5:bL (.node b2 o2 a2 (.node b3 o3 a3 x y) q)=100:=if_pos h4;rw[h5]at h3;refine h2 _ ?_ h3
  have e2:ps (.node b2 o2 a2 (.node b3 o3 a3 x y) q)=ps (.node b3 o3 a3 x y)++ps q:=by
   show(if a2.tag=6 then _ else if eO a2.tag then _ else _)=_;rw[h8];rfl
  have e3:ps (.node b3 o3 a3 x y)=a3.npos::(ps x++ps y):=by
   show(if a3.tag=6 then _ else if eO a3.tag then _ else _)=_;rw[h4];rfl
  rw[e2,e3];simp
 |15,_|18,_|19,_=>trivial
 |n+21,_=>trivial
theorem dH.fr{k:Nat}{a:Nd}{l r:Tr}(h0:Fr H P w w')(hP:∀ t p,P t p->cU t)(h:dH a.tag w k a l r)(hs:∀ p∈po a,∀ t,¬P t p)(h1:a.tag=20->(∃ b o a2 e r,l= .node b o a2 e r/\a2.tag=15/\∃ b o a x y,e=BT.node b o a x y)/\∀ p∈ps l,¬P 100 p):dH a.tag w' k a l r:=dH.frX (fun _ h=>h.to) h0 hP h hs h1
theorem dH.fw{k:Nat}{a:Nd}{l r:Tr}(h0:Fw H P w w')(hP:∀ t p,P t p->cU t)(h:dH a.tag w k a l r)(hs:∀ p∈po a,∀ t,¬P t p)(h1:a.tag=20->(∃ b o a2 e r,l= .node b o a2 e r/\a2.tag=15/\∃ b o a x y,e=BT.node b o a x y)/\∀ p∈ps l,¬P 100 p):dH a.tag w' k a l r:=dH.frX (fun _ h=>h) h0 hP h hs h1
theorem fT{b o:Nat}{a:Nd}{l r:Tr}{p:Int}(h:p∈ps l):p∈ps (.node b o a l r):=by
 unfold ps;split
 ·exact List.mem_append_left _ h
 ·split
  ·exact Ql _ (List.mem_append_left _ h)
  ·exact List.mem_append_left _ h
theorem jE{b o:Nat}{a:Nd}{l r:Tr}{p:Int}(h:p∈ps r):p∈ps (.node b o a l r):=by
 unfold ps;split
 ·exact List.mem_append_right _ (Ql _ h)
 ·split
  ·exact Ql _ (List.mem_append_right _ h)
  ·exact List.mem_append_right _ h
theorem Ws.list{s b o:Nat}{a:Nd}{l r:Tr}(h:Ws s (.node b o a l r))(ht:a.tag=20)(hl:l≠ .nil):∃ b o a2 e q,l= .node b o a2 e q/\a2.tag=15/\∃ b o a x y,e=BT.node b o a x y:=by
 unfold Ws at h;obtain⟨_,_,h⟩:=h
 have hs:∃ k,(k=3\/k=4\/k=5\/k=6\/k=8)/\sig s a.tag=some (10+k,99):=by
  rw[ht]at h ⊢;unfold sig at h ⊢
  by_cases h0:s=0
  ·subst h0;simp at h
  by_cases h1:s=1
  ·subst h1;simp at h
  by_cases h2:s=2
  ·subst h2;simp at h
  by_cases h9:s=9
  ·subst h9;simp at h
  by_cases hk:s=3\/s=4\/s=5\/s=6\/s=8
  ·exact⟨s,hk,by simp[h0,h1,h2,h9,hk]⟩
  ·exfalso;simp[h0,h1,h2,h9,hk]at h
 obtain⟨k,hk,e⟩:=hs;rw[e]at h;obtain⟨h1,_⟩:=h;cases l with
 |nil=>exact absurd rfl hl
 |node b2 o2 a2 e2 q=>
  refine⟨b2,o2,a2,e2,q,rfl,?_⟩;unfold Ws at h1;obtain⟨_,_,h1⟩:=h1
  have hn:∀ z,z=0\/z=2\/z=20\/z=22\/z=7->Ws z e2->∃ b o a x y,e2=BT.node b o a x y:=by
   intro z hz hw;cases e2 with
   |nil=>exact absurd hw (by unfold Ws bK;omega)
   |node b o a x y=>exact⟨_,_,_,_,_,rfl⟩
  by_cases h3:a2.tag=15
  ·refine⟨h3,?_⟩;rw[h3]at h1;rcases hk with rfl|rfl|rfl|rfl|rfl
   ·exact hn 0 Oa h1.1
   ·exact hn 2 Oa h1.1
   ·exact hn 20 Oa h1.1
   ·exact hn 22 Oa h1.1
   ·exact hn 7 Oa h1.1
  ·exfalso;rcases hk with rfl|rfl|rfl|rfl|rfl<;>simp[sig,h3]at h1
theorem Ws.parts{s b o:Nat}{a:Nd}{l r:Tr}(h:Ws s (.node b o a l r)):OkA a/\∃ x y,sig s a.tag=some (x,y)/\Ws x l/\Ws y r:=by
 unfold Ws at h;refine⟨h.1,?_⟩;have h2:=h.2.2;cases hs:sig s a.tag with
 |none=>rw[hs]at h2;exact absurd h2 id
 |some p=>rw[hs]at h2;exact⟨p.1,p.2,rfl,h2.1,h2.2⟩
theorem IsT.frX(hX:∀ t,aK t->X t)(h1:FrX X H P w w')(hP:∀ t p,P t p->cU t):∀ {t:Tr} {s:Nat},Ws s t->IsT w t->(∀ p∈ps t,∀ ty,¬P ty p)->IsT w' t:=by
 intro t
 induction t with
 |nil=>intro _ _ _ _;trivial
 |node k o a l r ihl ihr=>
  intro s hw h hs;obtain⟨_,x,y,_,hx,hy⟩:=hw.parts;refine⟨ihl hx h.1 (fun p hp=>hs p (fT hp)),ihr hy h.2.1 (fun p hp=>hs p (jE hp)),?_⟩;have ho:=h.2.2;refine dH.frX hX h1 hP ho (fun p hp=>hs p (aAU hp)) (fun h0=>⟨hw.list h0 ?_,fun p hp=>hs p (fT hp) _⟩);unfold Own at ho;rw[h0]at ho;exact ho.1
theorem IsT.fr(h0:Fr H P w w')(hP:∀ t p,P t p->cU t){t:Tr}{s:Nat}(hw:Ws s t)(hi:IsT w t)(hs:∀ p∈ps t,∀ ty,¬P ty p):IsT w' t:=IsT.frX (fun _ h=>h.to) h0 hP hw hi hs
theorem IsT.fw(h0:Fw H P w w')(hP:∀ t p,P t p->cU t){t:Tr}{s:Nat}(hw:Ws s t)(hi:IsT w t)(hs:∀ p∈ps t,∀ ty,¬P ty p):IsT w' t:=IsT.frX (fun _ h=>h) h0 hP hw hi hs
def Sh:Tr->Tr->Prop
 | .nil,.nil=>True
 | .node b o a l r,.node b' o' a' l' r'=>b'=b/\o'=o/\a'.tag=a.tag/\a'.name=a.name/\a'.npos=a.npos/\a'.pos=a.pos/\a'.op=a.op/\a'.flag=a.flag/\(a.tag=19->a'.which=a.which)/\(a.tag≠17->a'.val=a.val)/\Sh l l'/\Sh r r'
 |_,_=>False
theorem Sh.refl:∀ t:Tr,Sh t t:=by
 intro t
 induction t with
 |nil=>trivial
 |node b o a l r ihl ihr=>exact⟨rfl,rfl,rfl,rfl,rfl,rfl,rfl,rfl,fun _=>rfl,fun _=>rfl,ihl,ihr⟩
theorem Sh.lenL:∀ {t t':Tr},Sh t t'->aO t'=aO t:=by
 intro t
 induction t with
 |nil=>intro t' h;cases t' with
  |nil=>rfl
  |node=>exact absurd h id
 |node b o a l r _ ihr=>intro t' h;cases t' with
  |nil=>exact absurd h id
  |node b' o' a' l' r'=>simp only[YtikffmloeifkpaaGreatDoor.aO];rw[ihr h.2.2.2.2.2.2.2.2.2.2.2]
theorem Sh.val{t t':Tr}(h:Sh t t'):bCH t'=bCH t:=by
 cases t<;>cases t'
 ·rfl
 ·exact absurd h id
 ·exact absurd h id
 ·obtain⟨rfl,rfl,h3,_,_,_,_,_,_,_,hl,_⟩:=h;unfold bCH;dsimp only;rw[h3,hl.lenL]
theorem Sh.ptr{t t':Tr}(h:Sh t t'):cB t'=cB t:=by
 cases t<;>cases t'
 ·rfl
 ·exact absurd h id
 ·exact absurd h id
 ·obtain⟨rfl,_⟩:=h;rfl
theorem Sh.nil_iff{t t':Tr}(h:Sh t t'):t'= .nil↔t= .nil:=by
 cases t<;>cases t'
 ·simp
 ·exact absurd h id
 ·exact absurd h id
 ·simp
theorem Sh.rowTyp{t t':Tr}(h:Sh t t'):bL t'=bL t:=by
 cases t<;>cases t'
 ·rfl
 ·exact absurd h id
 ·exact absurd h id
 ·rename_i b o a l r b' o' a' l' r';have hl:=h.2.2.2.2.2.2.2.2.2.2.1;cases l<;>cases l'
  ·rfl
  ·exact absurd hl id
  ·exact absurd hl id
  ·unfold YtikffmloeifkpaaGreatDoor.bL;dsimp only;rw[hl.2.2.1]
theorem Sh.rowOk{cs:Array Value}:∀ {t t':Tr} {o:Nat},Sh t t'->jO cs o t->jO cs o t':=by
 intro t
 induction t with
 |nil=>intro t' o h _;cases t' with
  |nil=>trivial
  |node=>exact absurd h id
 |node b o1 a l r _ ihr=>intro t' o h hr;cases t' with
  |nil=>exact absurd h id
  |node b' o' a' l' r'=>
   refine⟨?_,ihr h.2.2.2.2.2.2.2.2.2.2.2 hr.2⟩;have hl:=h.2.2.2.2.2.2.2.2.2.2.1;have h1:=hr.1;cases l with
   |nil=>exact absurd h1 id
   |node b2 o2 a2 x y=>
    cases l' with
    |nil=>exact absurd hl id
    |node b3 o3 a3 x3 y3=>
     have hv:=hl.val;have hp:=hl.ptr;obtain⟨rfl,rfl,ht,hn,h2,_,_,_,h0,_⟩:=hl;show(if a3.tag=19 then Nam cs (o*3) a3 else if a3.tag=7 then cs[o]?=some (cB _)else cs[o]?=some (bCH _));replace h1:(if a2.tag=19 then Nam cs (o*3) a2 else if a2.tag=7 then cs[o]?=some (cB _)else cs[o]?=some (bCH _)):=h1;rw[ht]
     split
     ·rename_i h19;rw[if_pos h19]at h1;exact⟨by rw[hn];exact h1.1,by rw[h2];exact h1.2.1,by rw[h0 h19];exact h1.2.2⟩
     ·rename_i h19;rw[if_neg h19]at h1
      split
      ·rename_i h7;rw[if_pos h7]at h1;rw[hp];exact h1
      ·rename_i h7;rw[if_neg h7]at h1;rw[hv];exact h1
theorem Sh.node{t t':Tr}(h:Sh t t'){b o:Nat}{a:Nd}{p q:Tr}(e:t= .node b o a p q):∃ a' p' q',t'= .node b o a' p' q'/\Sh p p'/\Sh q q':=by
 subst e;cases t' with
 |nil=>exact absurd h id
 |node b' o' a' p' q'=>
  obtain⟨rfl,rfl,_,_,_,_,_,_,_,_,h1,h2⟩:=h;exact⟨_,_,_,rfl,h1,h2⟩
theorem dH.sh{n b:Nat}{w:World}{a:Nd}{l r l' r':Tr}(h:dH n w b a l r)(hl:Sh l l')(hr:Sh r r'):dH n w b a l' r':=by
 have vl:=hl.val;have vr:=hr.val
 match n,h with
 |0,h=>exact h
 |1,h=>exact h
 |2,h=>unfold dH at h ⊢;rw[vl];exact h
 |3,h=>unfold dH at h ⊢;rw[vl];exact h
 |4,h=>unfold dH at h ⊢;rw[vl];exact h
 |5,h=>unfold dH at h ⊢;rw[vl];exact h
 |6,h=>unfold dH at h ⊢;rw[vl,vr];exact h
 |7,h=>unfold dH at h ⊢;rw[vl,vr];exact h
 |8,h=>unfold dH at h ⊢;rw[vl,vr];exact h
 |9,h=>unfold dH at h ⊢;rw[vl];exact h
 |10,h=>unfold dH at h ⊢;rw[vl,vr];exact h
 |11,h=>
  obtain⟨cs,hc,h0,x,y,z,p,q,e,h1,h2⟩:=h;obtain⟨a',p',q',e',hp,hq⟩:=hr.node e;exact⟨cs,hc,by rw[vl];exact h0,x,y,a',p',q',e',by rw[hp.val];exact h1,by rw[hq.val];exact h2⟩
 |12,h=>unfold dH at h ⊢;rw[vl,vr];exact h
 |13,h=>unfold dH at h ⊢;rw[vl];exact h
 |14,h=>unfold dH at h ⊢;rw[vl];exact h
 |16,h=>exact h
 |17,h=>
  obtain⟨cs,hc,hn,h0,x,y,z,p,q,e,h1,h2,h3⟩:=h;obtain⟨a',p',q',e',hp,hq⟩:=hr.node e;exact⟨cs,hc,hn,by rw[vl];exact h0,x,y,a',p',q',e',by rw[hp.val];exact h1,by rw[hq.val];exact h2,h3⟩
 |20,h=>
  obtain⟨h4,cs,hc,hk⟩:=h;exact⟨fun e=>h4 (hl.nil_iff.1 e),cs,by rw[hl.rowTyp];exact hc,hl.rowOk hk⟩
 |15,_|18,_|19,_=>trivial
 |n+21,_=>trivial
theorem Sh.ps:∀ {t t':Tr},Sh t t'->ps t'=ps t:=by
 intro t
 induction t with
 |nil=>intro t' h;cases t' with
  |nil=>rfl
  |node=>exact absurd h id
 |node b o a l r ihl ihr=>intro t' h;cases t' with
  |nil=>exact absurd h id
  |node b' o' a' l' r'=>
   obtain⟨_,_,ht,_,hn,hp,_,_,_,_,h1,h2⟩:=h;unfold YtikffmloeifkpaaGreatDoor.ps;rw[ht,hn,hp,ihl h1,ihr h2]
theorem Sh.trans:∀ {t u v:Tr},Sh t u->Sh u v->Sh t v:=by
 intro t
 induction t with
 |nil=>
   intro u v h k;cases u<;>cases v
   ·trivial
   ·exact k
   ·exact absurd h id
   ·exact absurd h id
 |node b o a l r ihl ihr=>
  intro u v h k;cases u with
  |nil=>exact absurd h id
  |node b1 o1 a1 l1 r1=>
   cases v with
   |nil=>exact absurd k id
   |node b2 o2 a2 l2 r2=>
    obtain⟨h1,h2,h3,h4,h5,h6,h7,h8,h9,h0,hl,hr⟩:=h;obtain⟨k1,k2,k3,k4,k5,k6,k7,k8,k9,k10,kl,kr⟩:=k;exact⟨k1.trans h1,k2.trans h2,k3.trans h3,k4.trans h4,k5.trans h5,k6.trans h6,k7.trans h7,k8.trans h8,fun e=>(k9 (h3.trans e)).trans (h9 e),fun e=>(k10 (fun x=>e (h3.symm.trans x))).trans (h0 e),ihl hl kl,ihr hr kr⟩
theorem OkA.sh{a a':Nd}(h:OkA a)(ht:a'.tag=a.tag)(hn:a'.name=a.name)(ho:a'.op=a.op)(hv:a.tag≠17->a'.val=a.val):OkA a':=
 ⟨by rw[hn];exact h.name,fun h1=>by rw[hv Oa];exact h.val Oa,fun h1=>by rw[hv Oa];exact h.val0 Oa,fun h1=>by rw[ho];exact h.op6 Oa,fun h1=>by rw[ho];exact h.op7 Oa,fun h1=>by rw[ho];exact h.op8 Oa⟩
theorem Sh.ws:∀ {t t':Tr} {s:Nat},Sh t t'->Ws s t->Ws s t':=by
 intro t
 induction t with
 |nil=>intro t' s h hw;cases t' with
  |nil=>exact hw
  |node=>exact absurd h id
 |node b o a l r ihl ihr=>intro t' s h hw;cases t' with
  |nil=>exact absurd h id
  |node b' o' a' l' r'=>
   obtain⟨_,_,ht,hn,_,_,h0,_,_,hv,h1,h2⟩:=h;obtain⟨h3,x,y,hs,hl,hr⟩:=hw.parts;exact Ws.of20 (x:=x) (y:=y) (by rw[ht];exact hs) (h3.sh ht hn h0 hv) (fun e=>by rw[h1.lenL];exact hw.len (ht.symm.trans e)) (ihl h1 hl) (ihr h2 hr)
end
section
open Go.RowKit Go.Lib Go.Deep Go.ChangeMaps Go.MapKept
structure Rs where
 vars:cM
 code:Int
 pos:Int
def Rs.fail(s:Rs)(c p:Int):Rs:=if s.code=0 then⟨s.vars,c,p⟩else s
def bD0(pb fb vb:Nat)(s:Rs):Array Value:=#[.pointer (some ⟨pb,0,none⟩),.map (some fb),.map (some vb),.int .i64 s.code,.int .i64 s.pos]
structure RsW(H pb rb fb vb:Nat)(pc:Array Value)(F:cM)(s:Rs)(w:World):Prop where
 blk:w.heap[rb]?=some (.cells (bD0 pb fb vb s) 149 (0,0))
 prog:w.heap[pb]?=some (.cells pc 111 (0,0))
 first:Mp w fb F.length F
 vars:Mp w vb s.vars.length s.vars
 rge:H<=rb
 vge:H<=vb
 ne:fb≠vb
def F0:TypeId->Int->Prop:=fun _ _=>False
variable {H pb rb fb vb:Nat} {pc:Array Value} {F:cM} {s:Rs} {w w':World} {P:TypeId->Int->Prop}
theorem RsW.cell(h:RsW H pb rb fb vb pc F s w)(o:Nat):w.cell? ⟨rb,o,none⟩=(bD0 pb fb vb s)[o]?:=cell_of_row _ _ _ _ _ _ h.blk
theorem RsW.froz(h:RsW H pb rb fb vb pc F s w)(o:Nat):w.frozen? ⟨rb,o,none⟩=false:=by simp[World.frozen?,h.blk]
theorem RsW.nomap(h:RsW H pb rb fb vb pc F s w):∀ es cl,w.heap[rb]?≠some (.map es cl):=fun es cl e=>by rw[h.blk]at e;cases e
theorem RsW.notree(h:RsW H pb rb fb vb pc F s w):∀ cs t,cK t->w.heap[rb]?≠some (.cells cs t (0,0)):=fun cs t ht e=>by
 rw[h.blk]at e;simp only[Option.some.injEq,Obj.cells.injEq]at e;rw[<-e.2.1]at ht;exact absurd ht (by unfold cK aK;decide)
theorem RsW.fne(h:RsW H pb rb fb vb pc F s w):fb≠rb:=by
 obtain⟨es,cl,e⟩:=h.first.ismap;intro x;subst x;exact h.nomap es cl e
theorem RsW.vne(h:RsW H pb rb fb vb pc F s w):vb≠rb:=by
 obtain⟨es,cl,e⟩:=h.vars.ismap;intro x;subst x;exact h.nomap es cl e
theorem RsW.pne(h:RsW H pb rb fb vb pc F s w):pb≠rb:=by
 intro x;have h1:=h.prog;rw[x,h.blk]at h1;simp at h1
theorem RsW.pvne(h:RsW H pb rb fb vb pc F s w):pb≠vb:=by
 obtain⟨es,cl,e⟩:=h.vars.ismap;intro x;subst x;rw[h.prog]at e;cases e
theorem RsW.drewN(h:RsW H pb rb fb vb pc F s w)(n:Nat):RsW H pb rb fb vb pc F s (w.drewN n):=⟨h.blk,h.prog,h.first.same rfl,h.vars.same rfl,h.rge,h.vge,h.ne⟩
theorem RsW.drew(h:RsW H pb rb fb vb pc F s w):RsW H pb rb fb vb pc F s w.drew:=⟨h.blk,h.prog,h.first.same rfl,h.vars.same rfl,h.rge,h.vge,h.ne⟩
theorem RsW.write(h:RsW H pb rb fb vb pc F s w)(o:Nat)(v:Value){s':Rs}(hc:(bD0 pb fb vb s).setIfInBounds o v=bD0 pb fb vb s')(hv:s'.vars=s.vars):RsW H pb rb fb vb pc F s' (w.setCell ⟨rb,o,none⟩ v):=
 ⟨by rw[aM v h.blk,hc],(Om h.pne).trans h.prog,h.first.same (Om h.fne),by rw[hv];exact h.vars.same (Om h.vne),h.rge,h.vge,h.ne⟩
theorem RsW.which(h:RsW H pb rb fb vb pc F s w){k o:Nat}{cs:Array Value}{t:TypeId}(hk:w.heap[k]?=some (.cells cs t (0,0)))(ht:cK t)(v:Value):RsW H pb rb fb vb pc F s (w.setCell ⟨k,o,none⟩ v):=by
 have h1:rb≠k:=fun e=>h.notree cs t ht (by rw[e];exact hk)
 have h2:pb≠k:=by
  intro e;rw[<-e,h.prog]at hk;simp only[Option.some.injEq,Obj.cells.injEq]at hk;rw[<-hk.2.1]at ht;exact absurd ht (by unfold cK aK;decide)
 have hm:∀ b n l,Mp w b n l->b≠k:=by
  intro b n l hm e;obtain⟨es,cl,e2⟩:=hm.ismap;rw[e,hk]at e2;cases e2
 exact⟨(Om h1).trans h.blk,(Om h2).trans h.prog,h.first.same (Om (hm _ _ _ h.first)),h.vars.same (Om (hm _ _ _ h.vars)),h.rge,h.vge,h.ne⟩
theorem Mp.tight{w:World}{b n:Nat}{l:cM}(h:Mp w b n l):Mp w b l.length l:=by
 obtain⟨D,⟨es,clock,hb,F,hs,rfl⟩,h2,h3,h4⟩:=h;refine⟨_,⟨es,clock,hb,F,?_,rfl⟩,h2,h3,h4⟩;rw[<-h4];simp[Maps.size,length_sorted]
theorem RsW.turned(h:RsW H pb rb fb vb pc F s w){n:Nat}{l:cM}(hl:Mp w' vb n l)(ht:w.mapTurned w' vb):RsW H pb rb fb vb pc F ⟨l,s.code,s.pos⟩ w':=by
 obtain⟨es,cl,es',cl',hb,rfl⟩:=ht;exact⟨(heap_setBlock_other hb _ h.vne.symm).trans h.blk,(heap_setBlock_other hb _ h.pvne).trans h.prog,h.first.same (heap_setBlock_other hb _ h.ne),hl.tight,h.rge,h.vge,h.ne⟩
def Wr(k o:Nat)(f:Int->Int)(w w':World):Prop:=∀ cs t q,w.heap[k]?=some (.cells cs t (0,0))->cs[o]?=some (.int .i64 q)->w'.heap[k]?=some (.cells (cs.setIfInBounds o (.int .i64 (f q))) t (0,0))
theorem Wr.id{k o:Nat}(h:∀ cs t,w.heap[k]?=some (.cells cs t (0,0))->w'.heap[k]?=some (.cells cs t (0,0))):Wr k o (fun q=>q) w w':=by
 intro cs t q hk ho;rw[h cs t hk]
 congr 2
 refine Array.ext_getElem? fun j=>?_
 by_cases hj:o=j
 ·subst hj;rw[Array.getElem?_setIfInBounds_self_of_lt (Oo ho),ho]
 ·rw[Qh hj]
theorem Wr.of_set{k o:Nat}(i:Int):Wr k o (fun _=>i) w (w.setCell ⟨k,o,none⟩ (.int .i64 i)):=fun _ _ _ hk _=>aM _ hk
theorem Wr.after{u:World}{k o:Nat}{f:Int->Int}(h:∀ cs t,u.heap[k]?=some (.cells cs t (0,0))->w.heap[k]?=some (.cells cs t (0,0)))(hw:Wr k o f w w'):Wr k o f u w':=fun cs t q hk ho=>hw cs t q (h cs t hk) ho
theorem Wr.ahead{u:World}{k o:Nat}{f:Int->Int}(hw:Wr k o f u w)(h:∀ cs t,w.heap[k]?=some (.cells cs t (0,0))->w'.heap[k]?=some (.cells cs t (0,0))):Wr k o f u w':=fun cs t q hk ho=>h _ _ (hw cs t q hk ho)
theorem bCJ(c p:Int)(w:World)(h:RsW H pb rb fb vb pc F s w):
 Calls Tryz.prog 75 #[.pointer (some ⟨rb,0,none⟩),.int .i64 c,.int .i64 p] w fun e w'=>e= .returned (.tuple #[])/\RsW H pb rb fb vb pc F (s.fail c p) w'/\Fr H F0 w w':=by
 have c3:w.cell? ⟨rb,3,none⟩=some (.int .i64 s.code):=h.cell 3;have c4:w.cell? ⟨rb,4,none⟩=some (.int .i64 s.pos):=h.cell 4;have f3:=h.froz 3;have f4:=h.froz 4
 by_cases hc:s.code=0
 ·have h1:RsW H pb rb fb vb pc F ⟨s.vars,c,s.pos⟩ (w.setCell ⟨rb,3,none⟩ (.int .i64 c)):=h.write 3 _ rfl rfl;have h2:RsW H pb rb fb vb pc F ⟨s.vars,c,p⟩ ((w.setCell ⟨rb,3,none⟩ (.int .i64 c)).setCell ⟨rb,4,none⟩ (.int .i64 p)):=h1.write 4 _ rfl rfl;have hx:=(((Fr.refl H F0 w).set h.rge h.notree 3 (.int .i64 c)).set h.rge h1.notree 4 (.int .i64 p));have hf:Hid (s.fail c p=⟨s.vars,c,p⟩):=if_pos hc;rw[hc]at c3;clear hc h1;go_enter Tryz.func75,Tryz.ntmps75
  go_wp2;go_end0
  exact⟨rfl,by rw[hf.out];exact h2,hx⟩
 ·have hf:Hid (s.fail c p=s):=if_neg hc;have hc':(s.code==0)=false:=by simpa using hc
  go_enter Tryz.func75,Tryz.ntmps75
  go_wp2;go_end0
  exact⟨rfl,by rw[hf.out];exact h,Fr.refl _ _ _⟩
end
section
open Go.RowKit Go.Lib Go.Deep Go.ChangeMaps Go.MapKept
structure mE(H:Nat)(P:TypeId->Int->Prop)(w:World)(k o:Nat)(x:ByteArray)(p:Int):Prop where
 ex:∃ cs t q p0,w.heap[k]?=some (.cells cs t (0,0))/\cs[o]?=some (.string x)/\cs[o+1]?=some (.int .i64 p)/\cs[o+2]?=some (.int .i64 q)/\cs[1]?=some (.int .i64 p0)/\P t p0/\cK t
 ge:H<=k
variable {H pb rb fb vb:Nat} {pc:Array Value} {F:cM} {s:Rs} {w w':World} {k o:Nat} {x:ByteArray} {p:Int} {P:TypeId->Int->Prop}
theorem Fr.keep0(hx:Fr H F0 w w'){cs:Array Value}{t:TypeId}(ht:cK t)(hk:w.heap[k]?=some (.cells cs t (0,0))):w'.heap[k]?=some (.cells cs t (0,0)):=hx.same hk ht (fun _ _ h=>h)
theorem mE.fr0(h:mE H P w k o x p)(hx:Fr H F0 w w'):mE H P w' k o x p:=by
 obtain⟨cs,t,q,p0,hk,h0,h1,h2,h3,h4,ht⟩:=h.ex;exact⟨⟨cs,t,q,p0,hx.keep0 ht hk,h0,h1,h2,h3,h4,ht⟩,h.ge⟩
theorem mE.keep0(h:mE H P w k o x p)(hx:Fr H F0 w w'):∀ cs t,w.heap[k]?=some (.cells cs t (0,0))->w'.heap[k]?=some (.cells cs t (0,0)):=by
 obtain⟨cs,t,q,p0,hk,h0,h1,h2,h3,h4,ht⟩:=h.ex;intro c2 t2 e;rw[hk]at e;simp only[Option.some.injEq,Obj.cells.injEq]at e;obtain⟨rfl,rfl,_⟩:=e;exact hx.keep0 ht hk
theorem mE.c0(h:mE H P w k o x p):w.cell? ⟨k,o,none⟩=some (.string x):=by
 obtain⟨cs,t,q,p0,hk,h0,_⟩:=h.ex;rw[cell_of_row _ _ _ _ _ _ hk];exact h0
theorem mE.c1(h:mE H P w k o x p):w.cell? ⟨k,o+1,none⟩=some (.int .i64 p):=by
 obtain⟨cs,t,q,p0,hk,_,h1,_⟩:=h.ex;rw[cell_of_row _ _ _ _ _ _ hk];exact h1
theorem mE.c2(h:mE H P w k o x p):∃ q,w.cell? ⟨k,o+2,none⟩=some (.int .i64 q):=by
 obtain⟨cs,t,q,p0,hk,_,_,h2,_⟩:=h.ex;exact⟨q,Og hk h2⟩
theorem mE.froz(h:mE H P w k o x p)(j:Nat):w.frozen? ⟨k,j,none⟩=false:=by
 obtain⟨cs,t,q,p0,hk,_⟩:=h.ex;simp[World.frozen?,hk]
theorem mE.drewN(h:mE H P w k o x p)(n:Nat):mE H P (w.drewN n) k o x p:=⟨h.ex,h.ge⟩
def Rs.newVar(s:Rs)(x:ByteArray)(p most:Int):Rs:=
 if most<=s.vars.length then(if(look x s.vars).isSome then s.fail 4 p else s).fail 5 p else if(look x s.vars).isSome then s.fail 4 p else s
theorem Rs.fail_vars(s:Rs)(c p:Int):(s.fail c p).vars=s.vars:=by unfold Rs.fail;split<;>rfl
theorem gA{ops:Array Oper}{rest:List Oper}{oo:Oper}{a:Act}{Q:Exit->Act->World->Prop}(hg:oo.guard=none)(m:Operand)(h0:oo.op=Op.call {callee:=Callee.builtin Builtin.len,args:=#[m],argTypes:=#[147]})(b n:Nat)(l:cM)(hm:a.eval m= .map (some b))(h:Mp w b n l)(hK:wpList Tryz.prog ops Q rest (a.put oo.dst (.int .i64 l.length)) w):wpList Tryz.prog ops Q (oo::rest) a w:=by
 obtain⟨D,h1,_,_,h2⟩:=h;refine wpList_len_own w hg m 147 h0 9 3 Tryz.underlying147 _ b n D hm h1 ?_;rw[h2];exact hK
theorem tI(w:World)(most:Int)(h:RsW H pb rb fb vb pc F s w)(hn:mE H P w k o x p)(hx:x.size<=maxLen):
 Calls Tryz.prog 193 #[.pointer (some ⟨rb,0,none⟩),.pointer (some ⟨k,o,none⟩),.int .i64 most] w fun e w'=>e= .returned (.tuple #[])/\RsW H pb rb fb vb pc F (s.newVar x p most) w'/\Fr H F0 w w':=by
 have c2:w.cell? ⟨rb,2,none⟩=some (.map (some vb)):=h.cell 2;have n0:=hn.c0;have n1:=hn.c1;have h4:∀ n,(Instr.lookup 147 (.map (some vb)) (.string x) true).run Tryz.prog (w.drewN n)= .ok (.tuple #[.int .i64 ((look x s.vars).getD 0),.bool (look x s.vars).isSome]) (w.drewN n):=fun n=>(h.drewN n).vars.look_ok x hx;cases hv:(look x s.vars).isSome
 ·rw[hv]at h4
  by_cases hm:most<=s.vars.length
  ·have hs:Hid (s.newVar x p most=s.fail 5 p):=by unfold Hid Rs.newVar;rw[if_pos hm,hv];rfl
   go_enter Tryz.func193,Tryz.ntmps193
   go_wp2_with fail
   go_quiet (fail)
   go_wp2_with (at_len;refine gA rfl _ rfl vb _ _ rfl (h.drewN _).vars ?_)
   refine(bCJ 5 p _ (h.drewN _)).mono ?_;rintro e W2 ⟨rfl,h2,x2⟩;go_wp2;go_end0
   exact⟨rfl,by rw[hs.out];exact h2,((Fr.refl H F0 w).drewN _).trans x2⟩
  ·have hs:Hid (s.newVar x p most=s):=by unfold Hid Rs.newVar;rw[if_neg hm,hv];rfl
   go_enter Tryz.func193,Tryz.ntmps193
   go_wp2_with fail
   go_quiet (fail)
   go_wp2_with (at_len;refine gA rfl _ rfl vb _ _ rfl (h.drewN _).vars ?_)
   go_end0
   exact⟨rfl,by rw[hs.out];exact h.drewN _,(Fr.refl H F0 w).drewN _⟩
 ·rw[hv]at h4;have h1:∀ p,(s.fail 4 p).vars=s.vars:=fun p=>s.fail_vars 4 p
  by_cases hm:most<=s.vars.length
  ·have hs:Hid (s.newVar x p most=(s.fail 4 p).fail 5 p):=by unfold Hid Rs.newVar;rw[if_pos hm,hv];rfl
   go_enter Tryz.func193,Tryz.ntmps193
   go_wp2_with fail
   go_quiet (fail)
   go_wp2_with fail
   refine(bCJ 4 p _ (h.drewN _)).mono ?_;rintro e W2 ⟨rfl,h2,x2⟩;have h5:=(hn.drewN _).fr0 x2;have d2:W2.cell? ⟨rb,2,none⟩=some (.map (some vb)):=h2.cell 2;have m1:=h5.c1;have h0:=h2.vars;rw[h1]at h0;go_wp2_with (at_len;refine gA rfl _ rfl vb _ _ rfl h0 ?_)
   refine(bCJ 5 p _ h2).mono ?_;rintro e W3 ⟨rfl,h3,x3⟩;go_wp2;go_end0
   exact⟨rfl,by rw[hs.out];exact h3,(((Fr.refl H F0 w).drewN _).trans x2).trans x3⟩
  ·have hs:Hid (s.newVar x p most=s.fail 4 p):=by unfold Hid Rs.newVar;rw[if_neg hm,hv];rfl
   go_enter Tryz.func193,Tryz.ntmps193
   go_wp2_with fail
   go_quiet (fail)
   go_wp2_with fail
   refine(bCJ 4 p _ (h.drewN _)).mono ?_;rintro e W2 ⟨rfl,h2,x2⟩;have d2:W2.cell? ⟨rb,2,none⟩=some (.map (some vb)):=h2.cell 2;have h0:=h2.vars;rw[h1]at h0;go_wp2_with (at_len;refine gA rfl _ rfl vb _ _ rfl h0 ?_)
   go_end0
   exact⟨rfl,by rw[hs.out];exact h2,((Fr.refl H F0 w).drewN _).trans x2⟩
end
section
open Go.RowKit Go.Lib Go.Deep Go.ChangeMaps Go.MapKept
variable {H pb rb fb vb:Nat} {pc:Array Value} {F:cM} {s:Rs} {w w':World} {k o:Nat} {x:ByteArray} {p:Int} {P:TypeId->Int->Prop}
def Rs.addVar(s:Rs)(x:ByteArray):Rs:=⟨put x s.vars.length s.vars,s.code,s.pos⟩
def Rs.oldVar(s:Rs)(x:ByteArray)(p:Int):Rs:=if(look x s.vars).isSome then s else s.fail 4 p
theorem F0.to(t:TypeId)(p:Int):F0 t p->P t p:=fun h=>absurd h id
theorem mE.write(hn:mE H P w k o x p)(h:RsW H pb rb fb vb pc F s w)(i:Int):RsW H pb rb fb vb pc F s (w.setCell ⟨k,o+2,none⟩ (.int .i64 i))/\Fr H P w (w.setCell ⟨k,o+2,none⟩ (.int .i64 i))/\(w.setCell ⟨k,o+2,none⟩ (.int .i64 i)).cell? ⟨k,o+2,none⟩=some (.int .i64 i)/\
 (w.setCell ⟨k,o+2,none⟩ (.int .i64 i)).cell? ⟨k,o,none⟩=some (.string x):=by
 obtain⟨cs,t,q,p0,hk,h0,h1,h2,h3,h4,ht⟩:=hn.ex;refine⟨h.which hk ht _,(Fr.refl H P w).write hk hn.ge Oa h3 h4 _,?_,?_⟩
 ·rw[cell_of_row _ _ _ _ _ _ (aM (o:=o+2) (.int .i64 i) hk)];simp[Array.getElem?_setIfInBounds_self_of_lt (Oo h2)]
 ·rw[cell_of_row _ _ _ _ _ _ (aM (o:=o+2) (.int .i64 i) hk),Qh Oa];exact h0
theorem yP(w:World)(h:RsW H pb rb fb vb pc F s w)(hn:mE H P w k o x p)(hx:x.size<=maxLen):
 Calls Tryz.prog 247 #[.pointer (some ⟨rb,0,none⟩),.pointer (some ⟨k,o,none⟩)] w fun e w'=>e= .returned (.tuple #[])/\RsW H pb rb fb vb pc F (s.oldVar x p) w'/\Fr H P w w'/\Wr k (o+2) (fun _=>(look x s.vars).getD 0) w w':=by
 have c2:w.cell? ⟨rb,2,none⟩=some (.map (some vb)):=h.cell 2;have n0:=hn.c0;have n1:=hn.c1;have h1:∀ n,(Instr.lookup 147 (.map (some vb)) (.string x) true).run Tryz.prog (w.drewN n)= .ok (.tuple #[.int .i64 ((look x s.vars).getD 0),.bool (look x s.vars).isSome]) (w.drewN n):=fun n=>(h.drewN n).vars.look_ok x hx;cases hv:(look x s.vars).isSome
 ·rw[hv]at h1;have hs:Hid (s.oldVar x p=s.fail 4 p):=by unfold Hid Rs.oldVar;rw[hv];rfl
  go_enter Tryz.func247,Tryz.ntmps247
  go_wp2_with fail
  go_quiet (fail)
  go_wp2_with fail
  refine(bCJ 4 p _ (h.drewN _)).mono ?_;rintro e W2 ⟨rfl,h2,x2⟩;have h0:=(hn.drewN nq).fr0 x2;have h4:=(hn.drewN nq).keep0 x2;obtain⟨q2,m2⟩:=h0.c2;have f2:=h0.froz (o+2);obtain⟨h3,x3,_,_⟩:=h0.write h2 ((look x s.vars).getD 0);go_wp2;go_end0
  exact⟨rfl,by rw[hs.out];exact h3,(((Fr.refl H P w).drewN _).trans (x2.mono F0.to)).trans x3,Wr.after h4 (Wr.of_set _)⟩
 ·rw[hv]at h1;have hs:Hid (s.oldVar x p=s):=by unfold Hid Rs.oldVar;rw[hv];rfl
  obtain⟨q2,m2⟩:=hn.c2;have f2:=hn.froz (o+2);have hw:=fun n=>(hn.drewN n).write (h.drewN n) ((look x s.vars).getD 0);go_enter Tryz.func247,Tryz.ntmps247
  go_wp2_with fail
  go_quiet (fail)
  go_wp2;go_end0
  exact⟨rfl,by rw[hs.out];exact(hw _).1,((Fr.refl H P w).drewN _).trans (hw _).2.1,Wr.after (w:=w.drewN nq) (fun _ _ h=>h) (Wr.of_set _)⟩
theorem tX(w:World)(h:RsW H pb rb fb vb pc F s w)(hn:mE H P w k o x p)(hx:x.size<=maxLen)(hl:s.vars.length<=1000000):
 Calls Tryz.prog 194 #[.pointer (some ⟨rb,0,none⟩),.pointer (some ⟨k,o,none⟩)] w fun e w'=>e= .returned (.tuple #[])/\RsW H pb rb fb vb pc F (s.addVar x) w'/\Fr H P w w'/\Wr k (o+2) (fun _=>s.vars.length) w w':=by
 have c2:w.cell? ⟨rb,2,none⟩=some (.map (some vb)):=h.cell 2;obtain⟨q2,m2⟩:=hn.c2;have f2:=hn.froz (o+2);obtain⟨h1,x1,g2,d0⟩:=hn.write h s.vars.length;have h4:(Lit.int .i64 (s.vars.length:Int)).wf=true:=by simp[Lit.wf,IntKind.min,IntKind.max,IntKind.bits,IntKind.signed];omega
 obtain⟨W3,hrun,h5,ht⟩:=(h1.drew).vars.put (by unfold maxLen;omega) x hx s.vars.length h4;have d2:(w.setCell ⟨k,o+2,none⟩ (.int .i64 s.vars.length)).cell? ⟨rb,2,none⟩=some (.map (some vb)):=h1.cell 2
 have h0:∀ cs t,(w.setCell ⟨k,o+2,none⟩ (.int .i64 s.vars.length)).heap[k]?=some (.cells cs t (0,0))->W3.heap[k]?=some (.cells cs t (0,0)):=by
  intro cs t hk;obtain⟨es,cl,es',cl',hb,rfl⟩:=ht;refine(heap_setBlock_other hb _ ?_).trans hk;intro e;subst e;have h3:(w.setCell ⟨k,o+2,none⟩ (.int .i64 s.vars.length)).heap[k]?=some (.map es cl):=hb;rw[hk]at h3;cases h3
 have h2:Wr k (o+2) (fun _=>(s.vars.length:Int)) w W3:=(Wr.of_set _).ahead h0;have h6:Hid _:=h2;clear h0 h2;go_enter Tryz.func194,Tryz.ntmps194
 go_wp2_with (at_len;refine gA rfl _ rfl vb _ _ rfl h.vars ?_)
 generalize w.setCell ⟨k,o+2,none⟩ (.int .i64 s.vars.length)=W1 at*;go_region
 all_goals go_wp2
 all_goals go_end0
 all_goals exact⟨rfl,(h1.drew).turned h5 ht,x1.drew.turned h.vge ht,h6.out⟩
end
section
open Go.RowKit Go.Lib Go.Deep Go.ChangeMaps Go.MapKept
def ItO(w:World)(b:Nat)(a:Nd)(l:Tr):Prop:=(a.tag=16/\At w b 196 fun cs=>Nam cs 0 a)\/(a.tag=17/\At w b 105 fun cs=>Nam cs 0 a/\cs[3]?=some (bCH l))
structure ItW(pc:Array Value)(its:List Tr)(w:World):Prop where
 row:0 < its.length->∃ g cp rw,pc[0]?=some (.slice (some ⟨g,0,none⟩) its.length cp)/\w.heap[g]?=some (.cells rw 151 (0,0))/\∀ (i:Nat) t,its[i]?=some t->rw[i]?=some (bCH t)
 own:∀ t∈its,∃ b o a l r,t= .node b o a l r/\ItO w b a l
 few:its.length<=1000000
def aIE(F:cM)(its:List Tr):Prop:=∀ x i,look x F=some i->0<=i/\i < its.length
def fP(F:cM)(its:List Tr)(x:ByteArray):Option Tr:=(look x F).bind fun i=>its[i.toNat]?
def uC:Option Tr->Value
 |none=> .nilIface
 |some t=>bCH t
variable {H pb rb fb vb:Nat} {pc:Array Value} {F:cM} {s:Rs} {w w':World} {its:List Tr} {x:ByteArray} {P:TypeId->Int->Prop}
def bCI(t:TypeId):Prop:=t=361\/t=395\/t=450\/t=405\/t=328\/t=331
theorem bCI.pos{t:TypeId}(h:bCI t):cU t:=by unfold bCI at h;unfold cU;rcases h with h|h|h|h|h|h<;>simp[h]
def aED(t:TypeId):Prop:=t≠196/\t≠105/\t≠151
theorem bCI.inT{t:TypeId}(h:bCI t):aED t:=by
 unfold bCI at h;rcases h with h|h|h|h|h|h<;>rw[h]<;>exact⟨Ob,Ob,Ob⟩
theorem ItO.fr{b:Nat}{a:Nd}{l:Tr}(h:ItO w b a l)(hx:Fr H P w w')(hP:∀ t p,P t p->aED t):ItO w' b a l:=by
 rcases h with⟨h1,h2⟩|⟨h1,h2⟩
 ·exact .inl ⟨h1,hx.at h2 (by simp[cK,aK]) (fun _ _ p _ hp=>(hP _ _ hp).1 rfl)⟩
 ·exact .inr ⟨h1,hx.at h2 (by simp[cK,aK]) (fun _ _ p _ hp=>(hP _ _ hp).2.1 rfl)⟩
theorem ItW.fr(h:ItW pc its w)(hx:Fr H P w w')(hP:∀ t p,P t p->aED t):ItW pc its w':=by
 refine⟨fun hp=>?_,fun t ht=>?_,h.few⟩
 ·obtain⟨g,cp,rw',h2,h3,h4⟩:=h.row hp;exact⟨g,cp,rw',h2,hx.same h3 (by simp[cK,aK]) (fun p _ hp=>(hP _ _ hp).2.2 rfl),h4⟩
 ·obtain⟨b,o,a,l,r,e,ho⟩:=h.own t ht;exact⟨b,o,a,l,r,e,ho.fr hx hP⟩
theorem ItW.kind(h:ItW pc its w):∀ t∈its,∃ b o a l r,t= .node b o a l r/\(a.tag=16\/a.tag=17):=fun t ht=>by
 obtain⟨b,o,a,l,r,e,ho⟩:=h.own t ht;refine⟨b,o,a,l,r,e,?_⟩;rcases ho with⟨h,_⟩|⟨h,_⟩<;>simp[h]
theorem iM(w:World)(h:RsW H pb rb fb vb pc F s w)(hi:ItW pc its w)(hf:aIE F its)(hx:x.size<=maxLen):
 Calls Tryz.prog 74 #[.pointer (some ⟨rb,0,none⟩),.string x] w fun e w'=>e= .returned (uC (fP F its x))/\w=w':=by
 have c0:w.cell? ⟨rb,0,none⟩=some (.pointer (some ⟨pb,0,none⟩)):=h.cell 0;have c1:w.cell? ⟨rb,1,none⟩=some (.map (some fb)):=h.cell 1;have h0:=h.first.look_ok x hx;cases hl:look x F with
 |none=>
  rw[hl]at h0;have hm:Hid (uC (fP F its x)= .nilIface):=by unfold Hid fP;rw[hl];rfl
  simp only[Option.isSome_none,Option.getD_none]at h0;go_enter Tryz.func74,Tryz.ntmps74
  go_wp2;go_ret;exact⟨congrArg Ending.returned hm.out.symm,rfl⟩
 |some i=>
  rw[hl]at h0;obtain⟨i0,i1⟩:=hf x i hl;obtain⟨j,rfl⟩:∃ j:Nat,i=j:=⟨i.toNat,Oa⟩;have hj:j < its.length:=Oa
  obtain⟨g,cp,rw',h2,h3,h4⟩:=hi.row Oa;have p0:w.cell? ⟨pb,0,none⟩=some (.slice (some ⟨g,0,none⟩) its.length cp):=Og h.prog h2
  have ht:=h4 j its[j] (List.getElem?_eq_getElem hj);have p1:w.cell? ⟨g,j,none⟩=some (bCH its[j]):=Og h3 ht
  have hm:Hid (uC (fP F its x)=bCH its[j]):=by unfold Hid fP;rw[hl];simp[List.getElem?_eq_getElem hj,uC]
  obtain⟨b,o,a,l,r,hn,htag⟩:=hi.kind its[j] (List.getElem_mem hj);have h1:bCH its[j]= .iface (bZ a.tag) (.pointer (some ⟨b,0,none⟩)):=by rw[hn];exact Oh
  have HV:Hid (bCH its[j]= .iface (bZ a.tag) (.pointer (some ⟨b,0,none⟩))):=h1;rw[h1]at p1;have hfew:=hi.few;simp only[Option.isSome_some,Option.getD_some]at h0;clear ht h4 h1 hn hl;go_enter Tryz.func74,Tryz.ntmps74
  go_wp2;go_ret;exact⟨congrArg Ending.returned (hm.out.trans HV.out).symm,rfl⟩
end
section
open Go.RowKit Go.Lib Go.Deep Go.ChangeMaps Go.MapKept
structure NsW(H pb rb fb vb:Nat)(pc:Array Value)(F:cM)(its:List Tr)(s:Rs)(w:World):Prop where
 rs:RsW H pb rb fb vb pc F s w
 it:ItW pc its w
 fo:aIE F its
variable {H pb rb fb vb:Nat} {pc:Array Value} {F:cM} {its:List Tr} {s s':Rs} {w w':World} {k o:Nat} {x:ByteArray} {p:Int} {P:TypeId->Int->Prop}
theorem NsW.fr(h:NsW H pb rb fb vb pc F its s w)(hr:RsW H pb rb fb vb pc F s' w')(hx:Fr H P w w')(hP:∀ t p,P t p->bCI t):NsW H pb rb fb vb pc F its s' w':=
 ⟨hr,h.it.fr hx fun t p hp=>(hP t p hp).inT,h.fo⟩
def fY(F:cM)(its:List Tr)(x:ByteArray):Option Tr:=match fP F its x with
 |some (.node b o a l r)=>if a.tag=16 then some (.node b o a l r)else none
 |_=>none
def eK(F:cM)(its:List Tr)(x:ByteArray):Option Tr:=match fP F its x with
 |some (.node b o a l r)=>if a.tag=17 then some (.node b o a l r)else none
 |_=>none
def Rs.arrayName(s:Rs)(F:cM)(its:List Tr)(x:ByteArray)(p:Int):Rs:=if(fY F its x).isSome then s else s.fail 4 p
def lH:Tr->Int
 | .nil=>0
 | .node _ _ a _ _=>a.which
def fL(F:cM)(its:List Tr)(x:ByteArray)(q:Int):Int:=match fY F its x with
 |some t=>lH t
 |none=>q
theorem aFL(w:World):(Instr.typeAssert .nilIface 151 192 true).run Tryz.prog w= .ok (.tuple #[.pointer none,.bool false]) w:=by kernel_rfl
theorem bD1(q:Option Addr)(w:World):(Instr.typeAssert (.iface 192 (.pointer q)) 151 192 true).run Tryz.prog w= .ok (.tuple #[.pointer q,.bool true]) w:=by kernel_rfl
theorem qR(q:Option Addr)(w:World):(Instr.typeAssert (.iface 106 (.pointer q)) 151 192 true).run Tryz.prog w= .ok (.tuple #[.pointer none,.bool false]) w:=by kernel_rfl
theorem yB(w:World):(Instr.typeAssert .nilIface 151 106 true).run Tryz.prog w= .ok (.tuple #[.pointer none,.bool false]) w:=by kernel_rfl
theorem pS(q:Option Addr)(w:World):(Instr.typeAssert (.iface 106 (.pointer q)) 151 106 true).run Tryz.prog w= .ok (.tuple #[.pointer q,.bool true]) w:=by kernel_rfl
theorem wU(q:Option Addr)(w:World):(Instr.typeAssert (.iface 192 (.pointer q)) 151 106 true).run Tryz.prog w= .ok (.tuple #[.pointer none,.bool false]) w:=by kernel_rfl
theorem aAY{x:ByteArray}{t:Tr}(hm:fP F its x=some t):t∈its:=by
 unfold fP at hm;cases hl:look x F with
 |none=>rw[hl]at hm;cases hm
 |some i=>
  rw[hl]at hm;exact Qi hm
theorem tJ(h:NsW H pb rb fb vb pc F its s w)(x:ByteArray):fP F its x=none\/(∃ b o a l r,fP F its x=some (.node b o a l r)/\a.tag=16/\At w b 196 fun cs=>Nam cs 0 a)\/(∃ b o a l r,fP F its x=some (.node b o a l r)/\a.tag=17/\At w b 105 fun cs=>Nam cs 0 a/\cs[3]?=some (bCH l)):=by
 cases hm:fP F its x with
 |none=>exact .inl rfl
 |some t=>
  right;obtain⟨b,o,a,l,r,rfl,ho⟩:=h.it.own t (aAY hm);rcases ho with⟨h1,h2⟩|⟨h1,h2⟩
  ·exact .inl ⟨b,o,a,l,r,rfl,h1,h2⟩
  ·exact .inr ⟨b,o,a,l,r,rfl,h1,h2⟩
theorem sW(w:World)(h:NsW H pb rb fb vb pc F its s w)(hn:mE H P w k o x p)(hx:x.size<=maxLen):
 Calls Tryz.prog 248 #[.pointer (some ⟨rb,0,none⟩),.pointer (some ⟨k,o,none⟩)] w fun e w'=>e= .returned (.tuple #[])/\RsW H pb rb fb vb pc F (s.arrayName F its x p) w'/\Fr H P w w'/\Wr k (o+2) (fL F its x) w w':=by
 have t1:=aFL w;have t2:=fun q=>bD1 q w;have t3:=fun q=>qR q w;have n0:=hn.c0;have n1:=hn.c1;obtain⟨q2,n2⟩:=hn.c2;have f2:=hn.froz (o+2);rcases tJ h x with hm|⟨b,oo,a,l,r,hm,h0,h1⟩|⟨b,oo,a,l,r,hm,h0,h1⟩
 ·have hs:Hid (s.arrayName F its x p=s.fail 4 p):=by unfold Hid Rs.arrayName fY;rw[hm];rfl
  have hw:Hid (fL F its x=fun q=>q):=by unfold Hid;funext q;unfold fL fY;rw[hm]
  go_enter Tryz.func248,Tryz.ntmps248
  go_wp2_with fail
  refine(iM w h.rs h.it h.fo hx).mono ?_;rintro e W2 ⟨rfl,rfl⟩;rw[hm];unfold uC;go_wp2_with fail
  refine(bCJ 4 p _ h.rs).mono ?_;rintro e W3 ⟨rfl,h3,x3⟩;have h2:=hn.keep0 x3;go_wp2;refine bodyPost_ret (results_none rfl _ _ _) rfl ?_;exact⟨rfl,by rw[hs.out];exact h3,x3.mono F0.to,by rw[hw.out];exact Wr.id h2⟩
 ·have hs:Hid (s.arrayName F its x p=s):=by unfold Hid Rs.arrayName fY;rw[hm];simp[h0]
  have hw:Hid (fL F its x=fun _=>a.which):=by unfold Hid;funext q;unfold fL fY;rw[hm];simp[h0,lH]
  have hv:bCH (.node b oo a l r)= .iface 192 (.pointer (some ⟨b,0,none⟩)):=by show(if a.tag=20 then _ else _)=_;rw[Oh,h0];rfl
  obtain⟨cs,hc,⟨_,_,h5⟩⟩:=h1;have m5:w.cell? ⟨b,2,none⟩=some (.int .i64 a.which):=Og hc h5
  have h4:=hn.write h.rs a.which;clear hc h0;go_enter Tryz.func248,Tryz.ntmps248
  go_wp2_with fail
  refine(iM w h.rs h.it h.fo hx).mono ?_;rintro e W2 ⟨rfl,rfl⟩;rw[hm];unfold uC;dsimp only;rw[hv];go_wp2;go_end0
  exact⟨rfl,by rw[hs.out];exact h4.1,h4.2.1,by rw[hw.out];exact Wr.of_set _⟩
 ·have hs:Hid (s.arrayName F its x p=s.fail 4 p):=by unfold Hid Rs.arrayName fY;rw[hm];simp[h0]
  have hw:Hid (fL F its x=fun q=>q):=by unfold Hid;funext q;unfold fL fY;rw[hm];simp[h0]
  have hv:bCH (.node b oo a l r)= .iface 106 (.pointer (some ⟨b,0,none⟩)):=by show(if a.tag=20 then _ else _)=_;rw[Oh,h0];rfl
  clear h1 h0;go_enter Tryz.func248,Tryz.ntmps248
  go_wp2_with fail
  refine(iM w h.rs h.it h.fo hx).mono ?_;rintro e W2 ⟨rfl,rfl⟩;rw[hm];unfold uC;dsimp only;rw[hv];go_wp2_with fail
  refine(bCJ 4 p _ h.rs).mono ?_;rintro e W3 ⟨rfl,h3,x3⟩;have h2:=hn.keep0 x3;go_wp2;refine bodyPost_ret (results_none rfl _ _ _) rfl ?_;exact⟨rfl,by rw[hs.out];exact h3,x3.mono F0.to,by rw[hw.out];exact Wr.id h2⟩
end
section
open Go.RowKit Go.Lib Go.Deep Go.Maps Go.ChangeMaps Go.MapKept
def aKI:Option Nat->Value
 |none=> .pointer none
 |some b=> .pointer (some ⟨b,0,none⟩)
def aCE:Option Nat->DataW Unit
 |none=> .lit (.int .i64 (-1))
 |some b=> .lit (.int .i64 b)
def aBY:Value->Option (DataW Unit × List MemPlace)
 | .pointer none=>some (aCE none,[])
 | .pointer (some ⟨b,0,none⟩)=>some (aCE (some b),[])
 |_=>none
theorem aES{o o':Option Nat}(h:aCE o=aCE o'):o=o':=by
 cases o<;>cases o'<;>simp[aCE]at h ⊢<;>omega
theorem yN{v:Value}{o:Option Nat}{q:List MemPlace}(h:aBY v=some (aCE o,q)):v=aKI o:=by
 unfold aBY at h
 split at h
 ·simp only[Option.some.injEq,Prod.mk.injEq]at h;rw[<-aES h.1];rfl
 ·simp only[Option.some.injEq,Prod.mk.injEq]at h;rw[<-aES h.1];rfl
 ·cases h
theorem vW(o:Option Nat):aBY (aKI o)=some (aCE o,[]):=by cases o<;>rfl
def ik(p:Int):Lit:= .int .i64 p
theorem aC8{p q:Int}(h:p≠q):ik p≠ik q:=fun e=>h (by simpa[ik]using e)
def Pm(w:World)(b n:Nat)(E:Int->Option Nat):Prop:=∃ D:DataW Unit,w.ownsMap Tryz.prog 171 aBY b n D/\(∀ p,has D (ik p)=(E p).isSome)/\∀ p,D.atKey (ik p) (aCE none)=aCE (E p)
theorem Tryz.zero257(w:World):(zeroValue 257).run Tryz.prog w= .ok (.pointer none) w:=by kernel_rfl
variable {w w':World} {b n:Nat} {E:Int->Option Nat}
theorem Pm.made(w:World):Pm (w.alloc (.map #[] 0)) w.heap.size 0 fun _=>none:=⟨.map [],World.ownsMap_made w _ _ _,fun _=>rfl,fun _=>rfl⟩
theorem Pm.lt(h:Pm w b n E):b < w.heap.size:=by obtain⟨D,h1,_⟩:=h;exact h1.lt
theorem Pm.mono{n':Nat}(h:Pm w b n E)(hn:n<=n'):Pm w b n' E:=by obtain⟨D,h1,h2⟩:=h;exact⟨D,h1.mono hn,h2⟩
theorem Pm.same(h:Pm w b n E)(e:w'.heap[b]?=w.heap[b]?):Pm w' b n E:=by
 obtain⟨D,⟨es,clock,hb,r⟩,h2⟩:=h;exact⟨D,⟨es,clock,e.trans hb,r⟩,h2⟩
theorem Pm.ismap(h:Pm w b n E):∃ es clock,w.heap[b]?=some (.map es clock):=by
 obtain⟨D,⟨es,clock,hb,r⟩,h2⟩:=h;exact⟨es,clock,hb⟩
theorem aBM{p:Int}(h:-9223372036854775808<=p/\p<=9223372036854775807):(Lit.int .i64 p).wf=true:=by
 simp[Lit.wf,IntKind.min,IntKind.max,IntKind.bits,IntKind.signed];omega
theorem Pm.look_ok(h:Pm w b n E){p:Int}(hp:-9223372036854775808<=p/\p<=9223372036854775807):
 (Instr.lookup 170 (.map (some b)) (.int .i64 p) true).run Tryz.prog w= .ok (.tuple #[aKI (E p),.bool (E p).isSome]) w:=by
 obtain⟨D,h1,h2,h3⟩:=h;obtain⟨v,q,h0,hv⟩:=h1.look_ok (int_keyed Tryz.underlying171) Tryz.underlying170 (Tryz.zero257 w) (vW none) (keyOf_int_mk Tryz.underlying171 (aBM hp));have e:=h3 p;unfold ik at e;rw[e]at hv;rw[h0,yN hv,<-h2 p];rfl
theorem Pm.look(h:Pm w b n E){p:Int}(hp:-9223372036854775808<=p/\p<=9223372036854775807):
 (Instr.lookup 170 (.map (some b)) (.int .i64 p) false).run Tryz.prog w= .ok (aKI (E p)) w:=by
 obtain⟨D,h1,h2,h3⟩:=h;obtain⟨v,q,h0,hv⟩:=h1.lookup (int_keyed Tryz.underlying171) Tryz.underlying170 (Tryz.zero257 w) (vW none) (keyOf_int_mk Tryz.underlying171 (aBM hp));have e:=h3 p;unfold ik at e;rw[e]at hv;rw[h0,yN hv]
def kT(E:Int->Option Nat)(p:Int)(o:Option Nat):Int->Option Nat:=fun q=>if q=p then o else E q
theorem Pm.put(h:Pm w b n E)(hn:n < maxLen){p:Int}(hp:-9223372036854775808<=p/\p<=9223372036854775807)(k:Nat):
 ∃ w',(Instr.mapUpdate 170 (.map (some b)) (.int .i64 p) (.pointer (some ⟨k,0,none⟩))).run Tryz.prog w= .ok () w'/\Pm w' b (n+1) (kT E p (some k))/\w.mapTurned w' b:=by
 obtain⟨D,h1,h2,h3⟩:=h;obtain⟨w',h0,h5,h6⟩:=h1.store (int_keyed Tryz.underlying171) Tryz.underlying170 hn (keyOf_int_mk Tryz.underlying171 (aBM hp)) (vW (some k));have hk:WideAt.IsKeyLit (ik p):=trivial;refine⟨w',h0,⟨_,h5,fun t=>?_,fun t=>?_⟩,h6⟩
 ·unfold kT
  by_cases ht:t=p
  ·subst ht;rw[if_pos rfl];exact has_put_same h1.isMap hk _
  ·rw[if_neg ht,<-h2 t];exact has_put_other (aC8 ht) _
 ·unfold kT
  by_cases ht:t=p
  ·subst ht;rw[if_pos rfl];exact atKey_put_same h1.isMap hk _ _
  ·rw[if_neg ht,<-h3 t];exact atKey_put_other (aC8 ht) _ _
theorem Pm.drop(h:Pm w b n E){p:Int}(hp:-9223372036854775808<=p/\p<=9223372036854775807):
 ∃ w',(∀ ty,(Builtin.delete_ #[170,171] ty #[.map (some b),.int .i64 p]).run Tryz.prog w= .ok (.tuple #[]) w')/\Pm w' b n (kT E p none)/\w.mapTurned w' b:=by
 obtain⟨D,h1,h2,h3⟩:=h;obtain⟨w',h0,h5,h6⟩:=h1.drop (int_keyed Tryz.underlying171) Tryz.underlying170 (keyOf_int_mk Tryz.underlying171 (aBM hp)) 0;refine⟨w',fun ty=>h0,⟨_,h5,fun t=>?_,fun t=>?_⟩,h6⟩
 ·unfold kT
  by_cases ht:t=p
  ·subst ht;rw[if_pos rfl];exact has_del_same
  ·rw[if_neg ht,<-h2 t];exact has_del_other (aC8 ht)
 ·unfold kT
  by_cases ht:t=p
  ·subst ht;rw[if_pos rfl];exact atKey_del_same _
  ·rw[if_neg ht,<-h3 t];exact atKey_del_other (aC8 ht) _
theorem Pm.clear(h:Pm w b n E):∃ w',(∀ ty,(Builtin.clear_ #[170] ty #[.map (some b)]).run Tryz.prog w= .ok (.tuple #[]) w')/\Pm w' b 0 (fun _=>none)/\w.mapTurned w' b:=by
 obtain⟨D,⟨es,clock,hb,_⟩,_⟩:=h;refine⟨setBlock w b (.map #[] clock),fun ty=>?_,⟨.map [],⟨#[],clock,heap_setBlock_same hb _,⟨Od,MapKept.stamped_empty clock,Od⟩,Qc _,rfl⟩,fun _=>rfl,fun _=>rfl⟩,⟨es,clock,#[],clock,hb,rfl⟩⟩;simp[Builtin.clear_,run_underlying Tryz.underlying170,MapKept.run_getObj_map hb,MapKept.run_setObj_map _ hb,setBlock,Result.andThen]
end
end Go.Proofs.YtikffmloeifkpaaGreatDoor
