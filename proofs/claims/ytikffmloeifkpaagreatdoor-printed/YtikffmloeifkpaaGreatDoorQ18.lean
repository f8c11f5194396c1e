/- Contracts. -/
import Derived.Test.YtikffmloeifkpaaGreatDoorQ17
set_option maxHeartbeats 8000000
set_option maxRecDepth 100000
namespace Go.Proofs.YtikffmloeifkpaaGreatDoor
section
open Go.RowKit Go.Lib Go.Deep Go.ChangeMaps Go.MapKept
abbrev Sl:=List (Int × Int)
def dC:Sl->List Value
 |[]=>[]
 |(k,p)::r=> .int .i64 k:: .int .i64 p:: .bool false::dC r
theorem yI(l:Sl)(k p:Int):dC (l++[(k,p)])=dC l++[.int .i64 k,.int .i64 p,.bool false]:=by
 induction l with
 |nil=>rfl
 |cons x r ih=>obtain⟨a,b⟩:=x;simp only[List.cons_append,dC,ih]
structure aAG(H:Nat)(vF:Value)(fl:List Tr)(w:World):Prop where
 row:w.ownsRow H 106 1 vF fl.length (fl.map cB)
 own:∀ e∈fl,∃ b o a l x y z p q,e= .node b o a l (.node x y z p q)/\FnW w b a l p q/\Ws 5 p/\Ws 4 q
theorem aAG.fr{H:Nat}{vF:Value}{fl:List Tr}{w w':World}{P:TypeId->Int->Prop}(h:aAG H vF fl w)(hx:Fr H P w w')(hP:∀ t p,P t p->bCI t):aAG H vF fl w':=
 ⟨kJ h.row hx Oy (fun t p hp=>(hP t p hp).pos),fun e he=>by
   obtain⟨b,o,a,l,x,y,z,p,q,e1,e2,e3⟩:=h.own e he;exact⟨b,o,a,l,x,y,z,p,q,e1,e2.fr hx (fun t p hp=>(hP t p hp).inT),e3⟩⟩
structure SiW(H pb nb:Nat)(it vA vF:Value)(m:Int)(fl:List Tr)(S:Sl)(w:World):Prop where
 blk:w.heap[nb]?=some (.cells #[.pointer (some ⟨pb,0,none⟩)] 156 (0,0))
 prog:∃ vS,w.heap[pb]?=some (.cells (qM it vA vF m vS) 111 (0,0))/\w.ownsRow H 55 3 vS S.length (dC S)
 fns:aAG H vF fl w
 ge:H<=nb/\H<=pb
variable {H pb nb:Nat} {it vA vF:Value} {m:Int} {fl:List Tr} {S S':Sl} {w w':World} {P:TypeId->Int->Prop}
theorem aTZ(h:SiW H pb nb it vA vF m fl S w):pb≠nb:=by
 obtain⟨vS,hp,_⟩:=h.prog;exact bEF hp h.blk Ob
theorem SiW.drewN(h:SiW H pb nb it vA vF m fl S w)(n:Nat):SiW H pb nb it vA vF m fl S (w.drewN n):=⟨h.blk,h.prog,⟨h.fns.row,h.fns.own⟩,h.ge⟩
theorem SiW.set(h:SiW H pb nb it vA vF m fl S w){k o:Nat}{cs:Array Value}{t:TypeId}(hk:w.heap[k]?=some (.cells cs t (0,0)))(ht:bCI t)(v:Value):SiW H pb nb it vA vF m fl S (w.setCell ⟨k,o,none⟩ v):=by
 have off:∀ {j:Nat} {c:Array Value} {ty:TypeId},w.heap[j]?=some (.cells c ty (0,0))->¬bCI ty->(w.setCell ⟨k,o,none⟩ v).heap[j]?=some (.cells c ty (0,0)):=fun hj hn=>by
  refine(Om ?_).trans hj;intro e;subst e;rw[hk]at hj;simp only[Option.some.injEq,Obj.cells.injEq]at hj;rw[<-hj.2.1]at hn;exact hn ht
 obtain⟨vS,hp,ho⟩:=h.prog;refine⟨off h.blk (by unfold bCI;decide),⟨vS,off hp (by unfold bCI;decide),cD ho (fun j hj=>?_)⟩,⟨cD h.fns.row (fun j hj=>?_),fun e he=>?_⟩,h.ge⟩
 ·obtain⟨⟨c,hc⟩,_⟩:=bEH ho hj;rw[off hc (by unfold bCI;decide),hc]
 ·obtain⟨⟨c,hc⟩,_⟩:=bEH h.fns.row hj;rw[off hc (by unfold bCI;decide),hc]
 ·obtain⟨b,o2,a,l,x,y,z,p,q,e1,⟨c,hc,hr⟩,e3⟩:=h.fns.own e he;exact⟨b,o2,a,l,x,y,z,p,q,e1,⟨c,off hc (by unfold bCI;decide),hr⟩,e3⟩
theorem Tryz.infoSI:(Tryz.prog.info? 55).map (fun i=>(i.zero,i.size,i.bytes))=some (some (.agg #[.int .i64 0,.int .i64 0,.bool false]),3,24):=by kernel_rfl
theorem vK(k p:Int)(w:World)(h:SiW H pb nb it vA vF m fl S w)(hS:S.length<=1000000):
 Calls Tryz.prog 198 #[.pointer (some ⟨nb,0,none⟩),.int .i64 k,.int .i64 p] w fun e w'=>e= .returned (.int .i64 S.length)/\SiW H pb nb it vA vF m fl (S++[(k,p)]) w'/\Fr H F0 w w':=by
 obtain⟨i0,k4,k1,k0,h9⟩:=info_parts Tryz.infoSI;obtain⟨vS,hp,ho⟩:=h.prog;have h3:=(Oo hp);have h8:=(Oo h.blk);obtain⟨hH1,k7⟩:=h.ge;obtain⟨ao,cp,rfl,hao⟩:=eQ ho;have c0:w.cell? ⟨nb,0,none⟩=some (.pointer (some ⟨pb,0,none⟩)):=Og h.blk rfl
 have c4:w.cell? ⟨pb,4,none⟩=some (.slice ao S.length cp):=Og hp rfl
 have f4:w.frozen? ⟨pb,4,none⟩=false:=by simp[World.frozen?,hp]
 have ag:some pb≠(Value.slice ao S.length cp).ownBlock:=fun e=>by
  obtain⟨⟨c2,h2⟩,_⟩:=bEH ho e.symm;exact bEF hp h2 Ob rfl
 have agn:some nb≠(Value.slice ao S.length cp).ownBlock:=fun e=>by
  obtain⟨⟨c2,h2⟩,_⟩:=bEH ho e.symm;exact bEF h.blk h2 Ob rfl
 have k3:nb≠pb:=(aTZ h).symm
 have FIN:Hid (∀ (g cap:Nat) (w1:World),w1.ownsRow H 55 3 (.slice (some ⟨g,0,none⟩) (S.length+1) cap) (S.length+1) (dC S++[.int .i64 k,.int .i64 p,.bool false])->
  ((w.alloc (.cells #[.int .i64 k,.int .i64 p,.bool false] 55)).drew).grownBy w1 (Value.slice ao S.length cp).ownBlock->((Value.slice ao S.length cp).ownBlock=some g\/g=w.heap.size+1)->
  SiW H pb nb it vA vF m fl (S++[(k,p)]) (w1.setCell ⟨pb,4,none⟩ (.slice (some ⟨g,0,none⟩) (S.length+1) cap))/\Fr H F0 w (w1.setCell ⟨pb,4,none⟩ (.slice (some ⟨g,0,none⟩) (S.length+1) cap))):=by
  intro g cap w1 h1 h0 h6;have z1:(w.alloc (.cells #[.int .i64 k,.int .i64 p,.bool false] 55)).drew.heap.size=w.heap.size+1:=by show(w.alloc _).heap.size=_;simp
  have off:∀ {j:Nat} {c:Array Value} {ty:TypeId},w.heap[j]?=some (.cells c ty (0,0))->ty≠55->w1.heap[j]?=some (.cells c ty (0,0)):=fun {j c ty} hj k2=>by
   have h5:=(Oo hj);refine(h0.block j (by rw[z1];omega) (fun e=>?_)).trans ((On h5).trans hj);obtain⟨⟨c2,h2⟩,_⟩:=bEH ho e.symm;exact bEF hj h2 k2 rfl
  have h7:=off hp Ob
  have k5:g≠pb:=by
   rcases h6 with e|e
   ·intro e2;rw[e2]at e;obtain⟨⟨c2,h2⟩,_⟩:=bEH ho e;exact bEF hp h2 Ob rfl
   ·omega
  have fr1:Fr H F0 w w1:=by
   have f0:Fr H F0 w (w.alloc (.cells #[.int .i64 k,.int .i64 p,.bool false] 55)).drew:=((Fr.refl H F0 w).alloc _ Oa).drew;refine f0.grown h0 (by rw[z1];omega) (fun j hj=>?_);obtain⟨⟨c2,h2⟩,hb⟩:=bEH ho hj;refine⟨hb,fun c t ht e=>?_⟩;have h5:=(Oo h2);have e2:(w.alloc (.cells #[.int .i64 k,.int .i64 p,.bool false] 55)).drew.heap[j]?=w.heap[j]?:=On h5;rw[e2,h2]at e;simp only[Option.some.injEq,Obj.cells.injEq]at e;rw[<-e.2.1]at ht;exact absurd ht (by unfold cK aK;decide)
  have fr2:Fr H F0 w (w1.setCell ⟨pb,4,none⟩ (.slice (some ⟨g,0,none⟩) (S.length+1) cap)):=fr1.set k7 (fun c t ht e=>by
   rw[h7]at e;simp only[Option.some.injEq,Obj.cells.injEq]at e;rw[<-e.2.1]at ht;exact absurd ht (by unfold cK aK;decide)) _ _
  refine⟨⟨(Om k3).trans (off h.blk Ob),⟨_,aM (o:=4) _ h7,?_⟩,h.fns.fr fr2 F0.body,h.ge⟩,fr2⟩;rw[yI,List.length_append];refine⟨h1.1,?_⟩;rcases h1.2 with⟨hx,_⟩|⟨g',cap',cur,h4,k6,hh,r'⟩
  ·cases hx
  ·refine .inr ⟨g',cap',cur,h4,k6,?_,r'⟩;simp only[Value.slice.injEq,Option.some.injEq,Addr.mk.injEq]at h4;obtain⟨⟨rfl,_,_⟩,_,_⟩:=h4;exact(Om k5).trans hh
 clear hp h;go_enter Tryz.func198,Tryz.ntmps198
 go_wp2_with fail
 go_region_law
  ((refine step_append_lies _ (by rfl) _ _ _ (by rfl) H 55 i0 _ 3 24 Tryz.underlying52 k4 k1 k0 h9 rfl Oa (.slice ao S.length cp) S.length (dC S) (by rfl) ((ho.alloc _).drew)
     ⟨w.heap.size,0,none⟩ 1 1 [.int .i64 k,.int .i64 p,.bool false] (by rfl) (by rfl) (World.news_of_block (cs:=#[.int .i64 k,.int .i64 p,.bool false]) (t:=55) (fr:=(0,0)) (Qb w _)) (by simp[Value.oneCell'])
     Oa (by unfold maxLen;omega) Oa (by simp;omega) (w.heap.size+1) Od ?_;intro g cap w1 h1 h0 h6 hlt1;have q1:=(h0.cell_far ⟨pb,4,none⟩ (kO h3) ag).trans (sS h3 c4);have q2:=(h0.frozen_far ⟨pb,4,none⟩ (kO h3) ag).trans (xB h3 f4);have q3:=(h0.cell_far ⟨nb,0,none⟩ (kO h8) agn).trans (sS h8 c0)))
 all_goals obtain⟨f1,f2⟩:=FIN.out g cap w1 h1 h0 h6
 all_goals go_wp2
 all_goals go_ret
 all_goals exact⟨rfl,f1,f2⟩
end
section
open Go.RowKit Go.Lib Go.Deep Go.ChangeMaps Go.MapKept
def mG(fl:List Tr)(k:Int):Nat:=match fl[k.toNat]? with
 |some (.node _ _ _ _ (.node _ _ _ p _))=>aD p
 |_=>0
def vD(a:Nd):Bool:=decide (a.op=30)||decide (a.op=31)
def bO(fl:List Tr)(a:Nd)(S:Sl):Sl:=if a.tag=2 then S++[(1,a.npos)]else if a.tag=10 then S++[(2,a.npos)]else if a.tag=3 then(if 0 < mG fl a.which then S++[(4,a.npos)]else S)else S
def dE(a:Nd)(S:Sl):Sl:=if a.tag=6 then(if vD a then S++[(3,a.pos)]else S)else S
def gI(fl:List Tr)(a:Nd)(S S1:Sl):Int:=
 if a.tag=2\/a.tag=10 then S.length else if a.tag=3 then(if 0 < mG fl a.which then(S.length:Int)else -1)else if a.tag=6 then(if vD a then(S1.length:Int)else -1)else a.site
def siR(fl:List Tr):Tr->Sl->Sl
 | .nil,S=>S
 | .node _ _ a l r,S=>siR fl r (dE a (siR fl l (bO fl a S)))
def siT(fl:List Tr):Tr->Sl->Tr
 | .nil,_=> .nil
 | .node b o a l r,S=> .node b o {a with site:=gI fl a S (siR fl l (bO fl a S))} (siT fl l (bO fl a S)) (siT fl r (dE a (siR fl l (bO fl a S))))
theorem gO(fl:List Tr):∀ (t:Tr) (S:Sl),Sh t (siT fl t S):=by
 intro t
 induction t with
 |nil=>intro S;trivial
 |node b o a l r ihl ihr=>intro S;exact⟨rfl,rfl,rfl,rfl,rfl,rfl,rfl,rfl,fun _=>rfl,fun _=>rfl,ihl _,ihr _⟩
theorem aMJ(fl:List Tr):∀ (t:Tr) (S:Sl),siR fl (er t) S=siR fl t S:=by
 intro t
 induction t with
 |nil=>intro S;rfl
 |node b o a l r ihl ihr=>intro S;simp only[er,siR,ihl,ihr]
theorem aFS(fl:List Tr):∀ (t:Tr) (S:Sl),siT fl (er t) S=er (siT fl t S):=by
 intro t
 induction t with
 |nil=>intro S;rfl
 |node b o a l r ihl ihr=>intro S;simp only[er,siT,aMJ,ihl,ihr]
theorem aJ4(fl:List Tr)(a:Nd)(S:Sl):(bO fl a S).length<=S.length+(if eO a.tag then 1 else 0):=by
 unfold bO
 by_cases h2:a.tag=2
 ·rw[if_pos h2,h2];simp[eO]
 rw[if_neg h2]
 by_cases h0:a.tag=10
 ·rw[if_pos h0,h0];simp[eO]
 rw[if_neg h0]
 by_cases h3:a.tag=3
 ·rw[if_pos h3,h3]
  split<;>simp[eO]
 ·rw[if_neg h3];omega
theorem aJ6(a:Nd)(S:Sl):(dE a S).length<=S.length+(if a.tag=6 then 1 else 0):=by
 unfold dE
 split
 ·split<;>simp
 ·omega
theorem kI(b o:Nat)(a:Nd)(l r:Tr):(ps (.node b o a l r)).length=(if a.tag=6 then 1 else 0)+(if a.tag≠6/\eO a.tag then 1 else 0)+(ps l).length+(ps r).length:=by
 show(if a.tag=6 then ps l++a.pos::ps r else if eO a.tag then a.npos::(ps l++ps r)else ps l++ps r).length=_
 by_cases h6:a.tag=6
 ·rw[if_pos h6,if_pos h6,Oh];simp only[List.length_append,List.length_cons];omega
 ·rw[if_neg h6,if_neg h6]
  by_cases hn:eO a.tag
  ·rw[if_pos hn,if_pos ⟨h6,hn⟩];simp only[List.length_append,List.length_cons];omega
  ·rw[if_neg hn,if_neg (fun h=>hn h.2)];simp only[List.length_append];omega
theorem lS(fl:List Tr):∀ (t:Tr) (S:Sl),(siR fl t S).length<=S.length+(ps t).length:=by
 intro t
 induction t with
 |nil=>intro S;exact Qc _
 |node b o a l r ihl ihr=>
  intro S;have h1:=aJ4 fl a S;have h2:=ihl (bO fl a S);have h3:=aJ6 a (siR fl l (bO fl a S));have h4:=ihr (dE a (siR fl l (bO fl a S)));rw[kI];show(siR fl r _).length<=_
  by_cases h6:a.tag=6
  ·rw[if_pos h6]at h3 ⊢;have:eO a.tag=false:=by rw[h6];rfl
   rw[this]at h1;simp only[Bool.false_eq_true,if_false]at h1;omega
  ·rw[if_neg h6]at h3 ⊢
   by_cases hn:eO a.tag
   ·rw[if_pos hn]at h1;rw[if_pos ⟨h6,hn⟩];omega
   ·rw[if_neg hn]at h1;rw[if_neg (fun h=>hn h.2)];omega
def Cv(n:Nat):Tr->Prop
 | .nil=>True
 | .node _ _ a l r=>Cv n l/\Cv n r/\(a.tag=3->0<=a.which/\a.which < n)
variable {H pb nb:Nat} {it vA vF:Value} {m:Int} {fl:List Tr}
theorem aN1{k o:Nat}{w w':World}{a:Nd}{l r:Tr}{i:Int}(h:Own w k a l r)(ht:(a.tag=2\/a.tag=3\/a.tag=6)/\o=4\/a.tag=10/\o=5)(hw:∀ (cs:Array Value) (t:TypeId),w.heap[k]?=some (.cells cs t (0,0))->w'.heap[k]?=some (.cells (cs.setIfInBounds o (.int .i64 i)) t (0,0))):Own w' k {a with site:=i} l r:=by
 unfold Own at h ⊢;dsimp only;have ne:∀ {cs:Array Value} {j:Nat} {v:Value} {x:Value},o≠j->cs[j]?=some v->(cs.setIfInBounds o x)[j]?=some v:=fun hj hv=>(Qh hj).trans hv;have eq:∀ {cs:Array Value} {v x:Value},cs[o]?=some v->(cs.setIfInBounds o x)[o]?=some x:=fun hv=>by rw[Array.getElem?_setIfInBounds_self_of_lt (Oo hv)]
 have nm:∀ {cs:Array Value} {x:Value},3<=o->Nam cs 0 a->Nam (cs.setIfInBounds o x) 0 {a with site:=i}:=fun ho hn=>⟨ne Oa hn.1,ne Oa hn.2.1,ne Oa hn.2.2⟩;rcases ht with⟨ht,rfl⟩|⟨ht,rfl⟩
 ·rcases ht with ht|ht|ht<;>rw[ht]at h ⊢
  ·obtain⟨cs,hc,hn,h3,h4⟩:=h;exact⟨_,hw _ _ hc,nm Oa hn,ne Ob h3,eq h4⟩
  ·obtain⟨cs,hc,hn,h3,h4⟩:=h;exact⟨_,hw _ _ hc,nm Oa hn,ne Ob h3,eq h4⟩
  ·obtain⟨cs,hc,h0,h1,h2,h3,h4⟩:=h;exact⟨_,hw _ _ hc,ne Ob h0,ne Ob h1,ne Ob h2,ne Ob h3,eq h4⟩
 ·rw[ht]at h ⊢;obtain⟨cs,hc,hn,h3,h4,h5⟩:=h;exact⟨_,hw _ _ hc,nm Oa hn,ne Ob h3,ne Ob h4,eq h5⟩
theorem mZ{S:Sl}{k o:Nat}{w:World}{a:Nd}{l r:Tr}{i:Int}(hS:SiW H pb nb it vA vF m fl S w)(h:Own w k a l r)(hk:H<=k)(ht:(a.tag=2\/a.tag=3\/a.tag=6)/\o=4\/a.tag=10/\o=5):
 SiW H pb nb it vA vF m fl S (w.setCell ⟨k,o,none⟩ (.int .i64 i))/\Fr H (Po a) w (w.setCell ⟨k,o,none⟩ (.int .i64 i))/\Own (w.setCell ⟨k,o,none⟩ (.int .i64 i)) k {a with site:=i} l r/\(∃ q,w.cell? ⟨k,o,none⟩=some (.int .i64 q))/\w.frozen? ⟨k,o,none⟩=false:=by
 have key:∀ (t:TypeId) (cs:Array Value) (p:Int),w.heap[k]?=some (.cells cs t (0,0))->bCI t->cs[1]?=some (.int .i64 p)->p∈po a->(∃ q,cs[o]?=some (.int .i64 q))->o≠1->
  SiW H pb nb it vA vF m fl S (w.setCell ⟨k,o,none⟩ (.int .i64 i))/\Fr H (Po a) w (w.setCell ⟨k,o,none⟩ (.int .i64 i))/\Own (w.setCell ⟨k,o,none⟩ (.int .i64 i)) k {a with site:=i} l r/\(∃ q,w.cell? ⟨k,o,none⟩=some (.int .i64 q))/\w.frozen? ⟨k,o,none⟩=false:=by
  intro t cs p hc hb h1 hp hq ho;refine⟨hS.set hc hb _,(Fr.refl _ _ _).write hc hk ho h1 ⟨hb,hp⟩ _,aN1 h ht (fun c ty h8=>aM _ h8),?_,by simp[World.frozen?,hc]⟩;obtain⟨q,hq⟩:=hq;exact⟨q,Og hc hq⟩
 have h7:a.tag≠6->eO a.tag=true->a.npos∈po a:=fun h6 hn=>by unfold po;rw[if_neg h6,if_pos hn];simp
 rcases ht with⟨ht,rfl⟩|⟨ht,rfl⟩
 ·rcases ht with ht|ht|ht
  ·obtain⟨cs,hc,hn,h3,h4⟩:=aI h (n:=2) ht;exact key _ cs _ hc (by simp[bCI]) hn.2.1 (h7 Oa (by rw[ht];rfl)) ⟨_,h4⟩ Oa
  ·obtain⟨cs,hc,hn,h3,h4⟩:=aI h (n:=3) ht;exact key _ cs _ hc (by simp[bCI]) hn.2.1 (h7 Oa (by rw[ht];rfl)) ⟨_,h4⟩ Oa
  ·obtain⟨cs,hc,h0,h1,h2,h3,h4⟩:=aI h (n:=6) ht;exact key _ cs _ hc (by simp[bCI]) h1 (by unfold po;rw[if_pos ht];simp) ⟨_,h4⟩ Oa
 ·obtain⟨cs,hc,hn,h3,h4,h5⟩:=aI h (n:=10) ht;exact key _ cs _ hc (by simp[bCI]) hn.2.1 (h7 Oa (by rw[ht];rfl)) ⟨_,h5⟩ Oa
def aA7(H pb nb:Nat)(it vA vF:Value)(m:Int)(fl:List Tr)(P:TypeId->Int->Prop)(t:Tr)(S:Sl)(w:World):Ending->World->Prop:=fun e w'=>e= .returned (.tuple #[])/\SiW H pb nb it vA vF m fl S w'/\IsT w' t/\Fr H P w w'
def GSi(f H pb nb:Nat)(it vA vF:Value)(m:Int)(fl:List Tr)(val:Tr->Value)(t:Tr):Prop:=
 ∀ S w,SiW H pb nb it vA vF m fl S w->IsT w t->S.length+(ps t).length<=1000000->Calls Tryz.prog f #[.pointer (some ⟨nb,0,none⟩),val t] w (aA7 H pb nb it vA vF m fl (Pt t) (siT fl t S) (siR fl t S) w)
theorem xR{H s:Nat}{w w':World}{t t' r:Tr}(h:IsT w t')(hx:Fr H (Pt r) w w')(hw:Ws s t)(hs:Sh t t')(ha:∀ p∈ps r,p ∉ ps t):IsT w' t':=qE h hx hw hs ha
theorem Cv.mk{n:Nat}{b o:Nat}{a:Nd}{l r:Tr}(h:Cv n (.node b o a l r)):Cv n l/\Cv n r/\(a.tag=3->0<=a.which/\a.which < n):=h
theorem kV{a:Nd}{S S1:Sl}(h:a.tag≠2/\a.tag≠3/\a.tag≠6/\a.tag≠10):bO fl a S=S/\dE a S1=S1/\gI fl a S S1=a.site:=by
 refine⟨?_,?_,?_⟩
 ·unfold bO;rw[Oh,Oh,Oh]
 ·unfold dE;rw[Oh]
 ·unfold gI;rw[Oh,Oh,Oh]
end
section
open Go.RowKit Go.Lib Go.Deep Go.ChangeMaps Go.MapKept
variable {H pb nb:Nat} {it vA vF:Value} {m:Int} {fl:List Tr}
theorem oG{b:Nat}{w:World}{a:Nd}{l r:Tr}(ho:Own w b a l r)(h:a.tag=6):w.cell? ⟨b,0,none⟩=some (.int .i64 a.op)/\w.cell? ⟨b,1,none⟩=some (.int .i64 a.pos)/\w.cell? ⟨b,2,none⟩=some (bCH l)/\w.cell? ⟨b,3,none⟩=some (bCH r):=by
 obtain⟨cs,hc,h0,h1,h2,h3,_⟩:=aI ho (n:=6) h;exact⟨Og hc h0,Og hc h1,Og hc h2,Og hc h3⟩
theorem aKL(a:Nd):(vD a=true/\(a.op==30)=true)\/(vD a=true/\(a.op==30)=false/\(a.op==31)=true)\/(vD a=false/\(a.op==30)=false/\(a.op==31)=false):=by
 unfold vD
 by_cases h1:a.op=30
 ·left;simp[h1]
 ·by_cases h2:a.op=31
  ·right;left;simp[h2]
  ·right;right;simp[h1,h2]
theorem aKW{b o:Nat}{a:Nd}{l r:Tr}(ht:a.tag=6)(hH:aUI H (.node b o a l r))(y5:(ps (.node b o a l r)).Nodup)(hl:Ws 0 l/\GSi 197 H pb nb it vA vF m fl bCH l)(hr:Ws 0 r/\GSi 197 H pb nb it vA vF m fl bCH r):GSi 252 H pb nb it vA vF m fl cB (.node b o a l r):=by
 intro S w h hi hS;have uq:=dZ y5;have y8:H<=b:=hH.2.2 (by unfold gY;omega);obtain⟨y1,y7⟩:=hl;obtain⟨y0,y6⟩:=hr;obtain⟨u,p,z0⟩:=y1.val Ox;obtain⟨u2,p2,y2⟩:=y0.val Ox;have k5:=kI b o a l r;rw[if_pos ht,if_neg (fun h=>h.1 ht)]at k5;have z2:=lS fl l S;have k0:bO fl a S=S:=by unfold bO;rw[Oh,Oh,Oh]
 have z1:po a=[a.pos]:=by unfold po;rw[if_pos ht]
 have h8:=y7 S w h hi.1 Oa;obtain⟨_,_,m2,_⟩:=oG hi.2.2 ht;rw[z0]at m2 h8;have HR:Hid (GSi 197 H pb nb it vA vF m fl bCH r):=y6;have RK:Hid _:=fun W2 x2=>gV (H:=H) (W2:=W2) y0 uq hi x2 (by omega:a.tag≠20)
 have KP:Hid (∀ (i:Int) (S2:Sl) (W2 W3:World),Fr H (Po a) W2 W3->IsT W2 (siT fl l S)->IsT W2 r->IsT W3 (siT fl l S)/\IsT W3 r):=fun i S2 W2 W3 x k1 k2=>
  ⟨IsT.fr x (fun t p hp=>(Po.body t p hp).pos) ((gO fl l S).ws y1) k1 (by rw[(gO fl l S).ps];exact Po.out uq.own_l),IsT.fr x (fun t p hp=>(Po.body t p hp).pos) y0 k2 (Po.out uq.own_r)⟩
 have FIN:Hid (∀ (S1:Sl) (i:Int) (W3 W4:World),dE a (siR fl l S)=S1->gI fl a S (siR fl l S)=i->Own W3 b {a with site:=i} l r->IsT W3 (siT fl l S)->Fr H (Pt (.node b o a l r)) w W3->SiW H pb nb it vA vF m fl (siR fl r S1) W4->IsT W4 (siT fl r S1)->Fr H (Pt r) W3 W4->
  aA7 H pb nb it vA vF m fl (Pt (.node b o a l r)) (siT fl (.node b o a l r) S) (siR fl (.node b o a l r) S) w (.returned (.tuple #[])) W4):=by
  intro S1 i W3 W4 e1 e2 o3 i3 x3 h4 i4 x4;have o4:=cX o3 x4 Pt.body (fun p hp ty hq=>uq.own_r p hp hq.2) (by show a.tag≠20;omega);have l4:=xR i3 x4 y1 (gO _ _ _) uq.apart_;have eR:siR fl (.node b o a l r) S=siR fl r S1:=by show siR fl r (dE a (siR fl l (bO fl a S)))=_;rw[k0,e1]
  have eT:siT fl (.node b o a l r) S= .node b o {a with site:=i} (siT fl l S) (siT fl r S1):=by
   show BT.node b o {a with site:=gI fl a S (siR fl l (bO fl a S))} (siT fl l (bO fl a S)) (siT fl r (dE a (siR fl l (bO fl a S))))=_;rw[k0,e1,e2]
  rw[eR,eT];exact⟨rfl,h4,⟨l4,i4,gZ o4 (gO _ _ _) (gO _ _ _)⟩,x3.trans (x4.mono Pt.right)⟩
 have HT:Hid (a.tag=6):=ht;have HB:Hid (H<=b):=y8;show Calls Tryz.prog 252 #[.pointer (some ⟨nb,0,none⟩),.pointer (some ⟨b,0,none⟩)] w _;have h1:vD a=true->dE a (siR fl l S)=siR fl l S++[(3,a.pos)]:=fun hd=>by unfold dE;rw[if_pos ht,if_pos hd]
 have k3:vD a=true->gI fl a S (siR fl l S)=((siR fl l S).length:Int):=fun hd=>by unfold gI;rw[Oh,Oh,if_pos ht,if_pos hd]
 have h7:vD a=false->dE a (siR fl l S)=siR fl l S:=fun hd=>by unfold dE;rw[if_pos ht,if_neg (by rw[hd];decide)]
 have k4:vD a=false->gI fl a S (siR fl l S)= -1:=fun hd=>by unfold gI;rw[Oh,Oh,if_pos ht,if_neg (by rw[hd];decide)]
 have y9:(siR fl l S).length+1+(ps r).length<=1000000:=Oa
 have h9:Hid _:=h1;have k7:Hid _:=k3;have k8:Hid _:=h7;have y4:Hid _:=k4;have k9:Hid ((siR fl l S).length+1+(ps r).length<=1000000):=y9;clear y7 y6 y1 y0 hi hS uq y5 hH k5 z2 k0 z1 h1 h7 k3 k4 y9 y8 h;rcases aKL a with⟨hd,d1⟩|⟨hd,d1,d2⟩|⟨hd,d1,d2⟩
 all_goals
  go_enter Tryz.func252,Tryz.ntmps252
  go_wp2_with fail
  refine h8.mono ?_;rintro e W2 ⟨rfl,h2,i2,x2⟩;obtain⟨j2,o2⟩:=RK.out W2 x2;obtain⟨h3,x3,o3,⟨q3,c3⟩,z3⟩:=mZ (o:=4) (i:=-1) h2 o2 HB.out (.inl ⟨.inr (.inr HT.out),rfl⟩);obtain⟨i3,j3⟩:=KP.out (-1) S W2 _ x3 i2 j2;obtain⟨n0,n1,_,n3⟩:=oG o3 HT.out;have n0:(W2.setCell ⟨b,4,none⟩ (.int .i64 (-1))).cell? ⟨b,0,none⟩=some (.int .i64 a.op):=n0;have n1:(W2.setCell ⟨b,4,none⟩ (.int .i64 (-1))).cell? ⟨b,1,none⟩=some (.int .i64 a.pos):=n1;have X3:Hid (Fr H (Pt (.node b o a l r)) w (W2.setCell ⟨b,4,none⟩ (.int .i64 (-1)))):=(x2.mono Pt.left).trans (x3.mono Po.to);have k6:Hid (Own (W2.setCell ⟨b,4,none⟩ (.int .i64 (-1))) b {a with site:=(-1:Int)} l r):=o3;clear o3 x3 x2 o2 h2 i2 j2;go_upto_region 2 with fail
  generalize W2.setCell ⟨b,4,none⟩ (.int .i64 (-1))=W3 at*
 ·go_wp2_with fail
  refine(vK 3 a.pos W3 h3 (Oi k9.out)).mono ?_;rintro e W4 ⟨rfl,h4,x4⟩;have o4:Own W4 b {a with site:=(-1:Int)} l r:=cX k6.out x4 F0.body (fun p hp ty hq=>hq) (by have:=HT.out;show a.tag≠20;omega);have i4:IsT W4 (siT fl l S)/\IsT W4 r:=KP.out 0 S W3 W4 (x4.mono F0.to) i3 j3;obtain⟨h5,x5,o5,⟨q5,c5⟩,z5⟩:=mZ (o:=4) (i:=((siR fl l S).length:Int)) h4 o4 HB.out (.inl ⟨.inr (.inr HT.out),rfl⟩);obtain⟨i5,j5⟩:=KP.out 0 S W4 _ x5 i4.1 i4.2;obtain⟨_,_,_,n5⟩:=oG o5 HT.out;have X5:Hid (Fr H (Pt (.node b o a l r)) w (W4.setCell ⟨b,4,none⟩ (.int .i64 ((siR fl l S).length:Int)))):=(X3.out.trans (x4.mono F0.to)).trans ((show Fr H (Po a) W4 _ from x5).mono Po.to);have y3:Hid (Own (W4.setCell ⟨b,4,none⟩ (.int .i64 ((siR fl l S).length:Int))) b {a with site:=((siR fl l S).length:Int)} l r):=o5;have h0:=HR.out _ _ h5 j5 (by have:=k9.out;rw[List.length_append];simp only[List.length_cons,List.length_nil];omega);rw[y2]at n5 h0;clear o4 o5 x4 x5 i4 h4 k6 X3 n0 n1 n3 i3 j3 h3 j5;go_upto_region 4 with fail
  generalize W4.setCell ⟨b,4,none⟩ (.int .i64 ((siR fl l S).length:Int))=W5 at*;go_wp2_with fail
  refine h0.mono ?_;rintro e W6 ⟨rfl,h6,i6,x6⟩;go_wp2;go_end0
  exact FIN.out _ _ W5 W6 (h9.out hd) (k7.out hd) y3.out i5 X5.out h6 i6 x6
 ·go_wp2_with fail
  refine(vK 3 a.pos W3 h3 (Oi k9.out)).mono ?_;rintro e W4 ⟨rfl,h4,x4⟩;have o4:Own W4 b {a with site:=(-1:Int)} l r:=cX k6.out x4 F0.body (fun p hp ty hq=>hq) (by have:=HT.out;show a.tag≠20;omega);have i4:IsT W4 (siT fl l S)/\IsT W4 r:=KP.out 0 S W3 W4 (x4.mono F0.to) i3 j3;obtain⟨h5,x5,o5,⟨q5,c5⟩,z5⟩:=mZ (o:=4) (i:=((siR fl l S).length:Int)) h4 o4 HB.out (.inl ⟨.inr (.inr HT.out),rfl⟩);obtain⟨i5,j5⟩:=KP.out 0 S W4 _ x5 i4.1 i4.2;obtain⟨_,_,_,n5⟩:=oG o5 HT.out;have X5:Hid (Fr H (Pt (.node b o a l r)) w (W4.setCell ⟨b,4,none⟩ (.int .i64 ((siR fl l S).length:Int)))):=(X3.out.trans (x4.mono F0.to)).trans ((show Fr H (Po a) W4 _ from x5).mono Po.to);have y3:Hid (Own (W4.setCell ⟨b,4,none⟩ (.int .i64 ((siR fl l S).length:Int))) b {a with site:=((siR fl l S).length:Int)} l r):=o5;have h0:=HR.out _ _ h5 j5 (by have:=k9.out;rw[List.length_append];simp only[List.length_cons,List.length_nil];omega);rw[y2]at n5 h0;clear o4 o5 x4 x5 i4 h4 k6 X3 n0 n1 n3 i3 j3 h3 j5;go_upto_region 4 with fail
  generalize W4.setCell ⟨b,4,none⟩ (.int .i64 ((siR fl l S).length:Int))=W5 at*;go_wp2_with fail
  refine h0.mono ?_;rintro e W6 ⟨rfl,h6,i6,x6⟩;go_wp2;go_end0
  exact FIN.out _ _ W5 W6 (h9.out hd) (k7.out hd) y3.out i5 X5.out h6 i6 x6
 ·have h0:=HR.out _ _ h3 j3 (Oi k9.out);rw[y2]at n3 h0;clear n1 h3 j3;go_wp2_with fail
  refine h0.mono ?_;rintro e W6 ⟨rfl,h6,i6,x6⟩;go_wp2;go_end0
  exact FIN.out _ _ W3 W6 (k8.out hd) (y4.out hd) k6.out i3 X3.out h6 i6 x6
end
section
open Go.RowKit Go.Lib Go.Deep Go.ChangeMaps Go.MapKept
variable {H pb nb:Nat} {it vA vF:Value} {m:Int} {fl:List Tr}
theorem xO{b o:Nat}{a:Nd}{e r:Tr}(h:a.tag=15\/a.tag=20\/a.tag=18)(S:Sl):siR fl (.node b o a e r) S=siR fl r (siR fl e S)/\siT fl (.node b o a e r) S= .node b o a (siT fl e S) (siT fl r (siR fl e S)):=by
 obtain⟨e1,_,_⟩:=kV (fl:=fl) (a:=a) (S:=S) (S1:=S) Oa;have e2:∀ S1,dE a S1=S1:=fun S1=>(kV (fl:=fl) (a:=a) (S:=S) (S1:=S1) Oa).2.1;have e3:∀ S1,gI fl a S S1=a.site:=fun S1=>(kV (fl:=fl) (a:=a) (S:=S) (S1:=S1) Oa).2.2;refine⟨by show siR fl r (dE a (siR fl e (bO fl a S)))=_;rw[e1,e2],?_⟩;show BT.node b o {a with site:=gI fl a S (siR fl e (bO fl a S))} (siT fl e (bO fl a S)) (siT fl r (dE a (siR fl e (bO fl a S))))=_;rw[e1,e2,e3]
structure LpS(H pb nb:Nat)(it vA vF:Value)(m:Int)(fl:List Tr)(L:Tr)(S1:Sl)(W1:World)(i:Nat)(si:Sl)(wr:World):Prop where
 rs:SiW H pb nb it vA vF m fl si wr
 fr:Fr H (Pt L) W1 wr
 rest:IsT wr (aL i L)
 wand:∀ w2,Fr H (Pt (aL i L)) wr w2->IsT w2 (siT fl (aL i L) si)->IsT w2 (siT fl L S1)
 run:siR fl (aL i L) si=siR fl L S1
variable {L:Tr} {S1 si:Sl} {W1 wr w3:World} {i:Nat}
theorem LpS.start(h:SiW H pb nb it vA vF m fl S1 W1)(hi:IsT W1 L):LpS H pb nb it vA vF m fl L S1 W1 0 S1 W1:=⟨h,Fr.refl _ _ _,hi,fun _ _ h=>h,rfl⟩
theorem LpS.step(h:LpS H pb nb it vA vF m fl L S1 W1 i si wr){s:Nat}(hs:s=13\/s=14\/s=15\/s=16\/s=18)(hw:Ws s L)(h9:(ps L).Nodup){b o:Nat}{a:Nd}{e r:Tr}(hd:aL i L= .node b o a e r)(h0:aL (i+1) L=r)(h1:SiW H pb nb it vA vF m fl (siR fl e si) w3)(h2:IsT w3 (siT fl e si))(h3:Fr H (Pt e) wr w3):LpS H pb nb it vA vF m fl L S1 W1 (i+1) (siR fl e si) w3:=by
 have h5:=eX hs i _ hw;have uq:=lT i _ h9;have h6:=rU i L;obtain⟨_,k0,rest,wand,run⟩:=h;rw[hd]at h5 uq h6 rest wand run;obtain⟨h4,h8,h7⟩:=aY hs h5;have uq:=dZ uq;rw[(xO (.inl h4) si).2]at wand;rw[(xO (.inl h4) si).1]at run;refine⟨h1,k0.trans (h3.mono fun t p hp=>⟨hp.1,h6 p (fT hp.2)⟩),?_,fun w2 hx hi=>?_,?_⟩
 ·rw[h0];exact IsT.fr h3 (fun t p hp=>(Pt.body t p hp).pos) h7 rest.2.1 (Pt.out uq.apart)
 ·rw[h0]at hx hi;refine wand w2 ((h3.mono Pt.left).trans (hx.mono Pt.right)) ⟨?_,hi,?_⟩
  ·exact xR h2 hx h8 (gO _ _ _) uq.apart_
  ·unfold Own;rw[h4];trivial
 ·rw[h0];exact run
theorem LpS.fin(h:LpS H pb nb it vA vF m fl L S1 W1 (aO L) si wr):si=siR fl L S1/\IsT wr (siT fl L S1):=by
 obtain⟨_,_,_,wand,run⟩:=h;rw[eS]at wand run;exact⟨run,wand wr (Fr.refl _ _ _) trivial⟩
theorem aC3{s:Nat}{t:Tr}(hs:s=3\/s=4\/s=5\/s=6\/s=8)(h:Ws s t)(S:Sl):siR fl t S=siR fl (bCF t) S:=by
 rcases h.lst hs with rfl|⟨b,o,a,l,rfl,ht,_⟩
 ·rfl
 ·rw[(xO (.inr (.inl ht)) S).1];rfl
theorem aG2{s:Nat}{t:Tr}{P:TypeId->Int->Prop}{w w':World}{S:Sl}(hs:s=3\/s=4\/s=5\/s=6\/s=8)(h:Ws s t)(hi:IsT w t)(hx:Fr H P w w')(hP:∀ t p,P t p->bCI t)(hd:IsT w' (siT fl (bCF t) S)):IsT w' (siT fl t S):=by
 rcases h.lst hs with rfl|⟨b,o,a,l,rfl,ht,hl⟩
 ·trivial
 ·rw[(xO (.inr (.inl ht)) S).2];have ho:=hi.2.2;have h1:=(aI ho (n:=20) ht).1;have h0:po a=[]:=by unfold po;rw[ht];rfl
  have o2:=dH.fr hx (fun t p hp=>(hP t p hp).pos) ho (fun p hp=>by rw[h0]at hp;cases hp) (fun e=>⟨h.list e h1,fun p _ hq=>absurd (hP _ _ hq) (by unfold bCI;decide)⟩);exact⟨hd,trivial,gZ o2 (gO _ _ _) (Sh.refl _)⟩
theorem aAG.at{w:World}(h:aAG H vF fl w){j:Nat}(hj:j < fl.length):∃ g cp b a l p q ap cpp,vF= .slice (some ⟨g,0,none⟩) fl.length cp/\w.cell? ⟨g,j,none⟩=some (.pointer (some ⟨b,0,none⟩))/\FnW w b a l p q/\bCH p= .slice ap (mG fl j) cpp/\Ws 4 q/\mG fl j<=10000:=by
 obtain⟨b,o,a,l,x,y,z,p,q,e,hf,h2,h4⟩:=h.own fl[j] (List.getElem_mem hj);have h0:fl[j]?=some (.node b o a l (.node x y z p q)):=by rw[List.getElem?_eq_getElem hj,e]
 have h3:mG fl (j:Int)=aD p:=by unfold mG;simp[h0]
 obtain⟨ap,cpp,h5⟩:=h2.lstval Ov
 obtain⟨g,cp,hv⟩:∃ g cp,vF= .slice (some ⟨g,0,none⟩) fl.length cp:=by
  obtain⟨ao,cp,e1,e2⟩:=eQ h.row;rcases e2 with e2|⟨g,e2⟩
  ·omega
  ·exact⟨g,cp,by rw[e1,e2]⟩
 have hc:=h.row;rw[hv]at hc;have h1:=hc.cellAt j Oa;refine⟨g,cp,b,a,l,p,q,ap,cpp,hv,?_,hf,by rw[h3];exact h5,h4,by rw[h3];exact fB Ov h2⟩;rw[h1,List.getElem?_map,h0];rfl
theorem aR8{b o:Nat}{a:Nd}{l r:Tr}(ht:a.tag=3)(hw:Ws 0 (.node b o a l r))(hH:aUI H (.node b o a l r))(j9:(ps (.node b o a l r)).Nodup)(d5:0<=a.which/\a.which < fl.length)(hA:fE (fun e=>Ws 0 e/\GSi 197 H pb nb it vA vF m fl bCH e) (bCF l)):GSi 251 H pb nb it vA vF m fl cB (.node b o a l r):=by
 obtain⟨j0,sx,sy,y0,h8,g9⟩:=hw.parts;rw[ht]at y0;cases y0;obtain rfl:=g9.nil_of;have uq:=dZ j9;have j3:=hH.2.2 (by unfold gY;omega);intro S w h hi hS;obtain⟨j,hj⟩:∃ j:Nat,a.which=j:=⟨a.which.toNat,Oa⟩;have d4:j < fl.length:=Oa
 obtain⟨ao,cp,z4⟩:=h8.lstval Ox;have z6:=jU Ox h8;have y5:(ps (bCF l)).Nodup:=by rw[<-z6];exact uq.left
 have k9:=h8.elems Ox;have y6:=kI b o a l .nil;rw[Oh,if_pos ⟨Oa,by rw[ht];rfl⟩]at y6
 have isel:∀ W1,IsT W1 l->IsT W1 (bCF l):=fun W1 h=>by
  cases l with
  |nil=>trivial
  |node=>exact h.1
 have cellsO:∀ (W:World) (i:Int),Own W b {a with site:=i} l .nil->W.cell? ⟨b,1,none⟩=some (.int .i64 a.npos)/\W.cell? ⟨b,2,none⟩=some (.int .i64 a.which)/\W.cell? ⟨b,3,none⟩=some (bCH l):=fun W i ho=>by
  obtain⟨cs,hc,hn,h4,_⟩:=aI ho (n:=3) ht;exact⟨Og hc hn.2.1,Og hc hn.2.2,Og hc h4⟩
 have KP:Hid (∀ (W2 W3:World),Fr H (Po a) W2 W3->IsT W2 l->IsT W3 l):=fun W2 W3 x k1=>IsT.fr x (fun t p hp=>(Po.body t p hp).pos) h8 k1 (Po.out uq.own_l)
 have FIN:Hid (∀ (S1:Sl) (i:Int) (W3 W4:World),bO fl a S=S1->gI fl a S S=i->Own W3 b {a with site:=i} l .nil->Fr H (Pt (.node b o a l .nil)) w W3->IsT W3 l->Fr H (Pt (bCF l)) W3 W4->SiW H pb nb it vA vF m fl (siR fl (bCF l) S1) W4->IsT W4 (siT fl (bCF l) S1)->
  aA7 H pb nb it vA vF m fl (Pt (.node b o a l .nil)) (siT fl (.node b o a l .nil) S) (siR fl (.node b o a l .nil) S) w (.returned (.tuple #[])) W4):=by
  intro S1 i W3 W4 e1 e2 o3 x3 i3 x4 h4 i4;have x4':Fr H (Pt l) W3 W4:=x4.mono fun t p hp=>⟨hp.1,by rw[z6];exact hp.2⟩;have o4:=cX o3 x4' Pt.body (fun p hp ty hq=>uq.own_l p hp hq.2) (by show a.tag≠20;omega);have j1:∀ S2,dE a S2=S2:=fun S2=>by unfold dE;rw[Oh]
  have d0:∀ S2,gI fl a S S2=i:=fun S2=>by
   have g2: ¬(a.tag=2\/a.tag=10):=Oa
   rw[<-e2];unfold gI;rw[if_neg g2,if_pos ht,if_neg g2,if_pos ht]
  have eR:siR fl (.node b o a l .nil) S=siR fl (bCF l) S1:=by show siR fl .nil (dE a (siR fl l (bO fl a S)))=_;rw[j1,e1,aC3 Ox h8];rfl
  have eT:siT fl (.node b o a l .nil) S= .node b o {a with site:=i} (siT fl l S1) .nil:=by
   show BT.node b o {a with site:=gI fl a S (siR fl l (bO fl a S))} (siT fl l (bO fl a S)) _=_;rw[e1,d0];rfl
  rw[eR,eT];exact⟨rfl,h4,⟨aG2 Ox h8 i3 x4' Pt.body i4,trivial,gZ o4 (gO _ _ _) (Sh.refl _)⟩,x3.trans (x4'.mono Pt.left)⟩
 obtain⟨h1,x1,o1,⟨q1,c1⟩,z1⟩:=mZ (o:=4) (i:=-1) h hi.2.2 j3 (.inl ⟨.inr (.inl ht),rfl⟩);have i1:=KP.out w _ x1 hi.1;obtain⟨u1,u2,n3⟩:=cellsO _ _ o1;have n1:=u1;have n2:(w.setCell ⟨b,4,none⟩ (.int .i64 (-1))).cell? ⟨b,2,none⟩=some (.int .i64 (j:Int)):=by rw[<-hj];exact u2
 clear u1 u2;have X1:Hid (Fr H (Pt (.node b o a l .nil)) w (w.setCell ⟨b,4,none⟩ (.int .i64 (-1)))):=x1.mono Po.to;have z7:Hid _:=o1;have y2:mG fl a.which=mG fl (j:Int):=by rw[hj]
 have k0:0 < mG fl (j:Int)->bO fl a S=S++[(4,a.npos)]:=fun hh=>by unfold bO;rw[Oh,Oh,if_pos ht,y2,if_pos hh]
 have y3:0 < mG fl (j:Int)->gI fl a S S=(S.length:Int):=fun hh=>by unfold gI;rw[Oh,if_pos ht,y2,if_pos hh]
 have k2: ¬0 < mG fl (j:Int)->bO fl a S=S:=fun hh=>by unfold bO;rw[Oh,Oh,if_pos ht,y2,if_neg hh]
 have y4: ¬0 < mG fl (j:Int)->gI fl a S S= -1:=fun hh=>by unfold gI;rw[Oh,if_pos ht,y2,if_neg hh]
 have d6:Hid _:=k0;have d8:Hid _:=y3;have d7:Hid _:=k2;have d9:Hid _:=y4;have HT:Hid _:=ht;have m0:Hid (H<=b):=j3;have g8:Hid _:=cellsO;have z2:Hid _:=isel;have g6:Hid _:=y5;have g5:Hid _:=k9;have g4:Hid (Ws 3 l):=h8;have j5:Hid (S.length+1+(ps (bCF l)).length<=1000000):=by rw[Hid,<-z6];omega
 have g7:Hid _:=fB Ox h8;show Calls Tryz.prog 251 #[.pointer (some ⟨nb,0,none⟩),.pointer (some ⟨b,0,none⟩)] w _;clear k0 y3 k2 y4 cellsO isel y5 k9 h8 z6 y6 uq j9 hH hw j0 d5 x1 o1 hS hi y2 hj ht j3;go_enter Tryz.func251,Tryz.ntmps251
 go_upto_region 1 with fail
 generalize w.setCell ⟨b,4,none⟩ (.int .i64 (-1))=W1 at*;obtain⟨g,cpF,bf,af,lf,pf,qf,ap,cpp,j8,g0,g1,j7,_,hnwl⟩:=h1.fns.at d4;obtain⟨_,_,_,k4,_,_,_⟩:=g1.cells;rw[j7]at k4;have c0:W1.cell? ⟨nb,0,none⟩=some (.pointer (some ⟨pb,0,none⟩)):=Og h1.blk rfl
 have p2:W1.cell? ⟨pb,2,none⟩=some vF:=by
  obtain⟨vS,hp,_⟩:=h1.prog;rw[cell_of_row _ _ _ _ _ _ hp];rfl
 rw[j8]at p2;have hjI:(j:Int) < (fl.length:Int):=Oa
 clear g1 j7 j8 c1 z1
 by_cases hk:0 < mG fl (j:Int)
 ·have d3:(0:Int) < (mG fl (j:Int):Int):=Oa
  go_quiet (fail)
  have g3:=h1.drewN nq;have x1d:Fr H F0 W1 (W1.drewN nq):=(Fr.refl _ _ _).drewN nq;have o1d:=cX z7.out x1d F0.body (fun p hp ty hq=>hq) (by have:=HT.out;show a.tag≠20;omega);have i1d:=KP.out W1 _ (x1d.mono F0.to) i1;have X1d:Hid (Fr H (Pt (.node b o a l .nil)) w (W1.drewN nq)):=X1.out.trans (x1d.mono F0.to);have n1d:(W1.drewN nq).cell? ⟨b,1,none⟩=some (.int .i64 a.npos):=n1;clear n1 n2 n3 i1 h1 X1 z7 x1d c0 p2 g0 k4;generalize W1.drewN nq=W2 at*;go_wp2_with fail
  refine(vK 4 a.npos W2 g3 (Oi j5.out)).mono ?_;rintro e W4 ⟨rfl,h4,x4⟩;have o4:Own W4 b {a with site:=(-1:Int)} l .nil:=cX o1d x4 F0.body (fun p hp ty hq=>hq) (by have:=HT.out;show a.tag≠20;omega);have i4:=KP.out W2 W4 (x4.mono F0.to) i1d;obtain⟨h5,x5,o5,⟨q5,c5⟩,z5⟩:=mZ (o:=4) (i:=(S.length:Int)) h4 o4 m0.out (.inl ⟨.inr (.inl HT.out),rfl⟩);have i5:=KP.out W4 _ x5 i4;obtain⟨_,_,m3⟩:=g8.out _ _ o5;rw[z4]at m3;have X5:Hid (Fr H (Pt (.node b o a l .nil)) w (W4.setCell ⟨b,4,none⟩ (.int .i64 (S.length:Int)))):=(X1d.out.trans (x4.mono F0.to)).trans ((show Fr H (Po a) W4 _ from x5).mono Po.to);have k8:Hid (Own (W4.setCell ⟨b,4,none⟩ (.int .i64 (S.length:Int))) b {a with site:=(S.length:Int)} l .nil):=o5;clear o4 o5 x4 x5 i4 h4 X1d o1d i1d g3 n1d;go_upto_region 3 with fail
  generalize W4.setCell ⟨b,4,none⟩ (.int .i64 (S.length:Int))=W5 at*;obtain⟨SS,h9⟩:∃ SS,SS=S++[(4,a.npos)]:=⟨_,rfl⟩;rw[<-h9]at h5;have HB:Hid (SS.length+(ps (bCF l)).length<=1000000):=by rw[Hid,h9,List.length_append];simp only[List.length_cons,List.length_nil];exact j5.out
  have h7:Hid (bO fl a S=SS):=by rw[Hid,h9];exact d6.out hk
  have z0:Hid (gI fl a S S=(S.length:Int)):=d8.out hk;clear h9;have j6:Hid (IsT W5 l):=i5;have L0:=LpS.start (L:=bCF l) h5 (z2.out _ i5);have FIN5:Hid _:=fun W6=>FIN.out SS _ W5 W6 h7.out z0.out k8.out X5.out i5;have y7:=HB.out;have d1:=g7.out;clear h5 i5 X5 k8 FIN KP h7 z0;go_wp2_with fail
  go_loopg [43] (aD l) (fun m' v wr=>∃ (i:Nat) (si:Sl),v= .int .i64 i/\i<=aD l/\aD l<=i+m'/\si.length+(ps (aL i (bCF l))).length<=1000000/\LpS H pb nb it vA vF m fl (bCF l) SS W5 i si wr)
  case atStart=>exact⟨0,SS,rfl,Qe _,Oa,y7,L0⟩
  case round=>
   clear L0 m3 y7;obtain⟨i,si,rfl,d2,hm,hb,LP⟩:=hrel;have k7:Hid _:=LP
   by_cases j2:i < aD l
   ·have k3:(i:Int) < (aD l:Int):=Oa
    obtain⟨b2,o2,a2,e2,r2,hd,k6⟩:=dK i (bCF l) (by rw[<-aT];exact j2);have y9:=fE.drop i _ hA;rw[hd]at y9 hb;obtain⟨j4,⟨hE,hG⟩,_⟩:=y9
    obtain⟨gg,rfl,h3⟩:=gQ Ox g4.out j6.out LP.fr Pt.body z4 hd (by
     cases e2 with
     |nil=>exact absurd hE (by unfold Ws bK;omega)
     |node b o a l r=>
      obtain⟨_,x,y,e,_⟩:=hE.parts;exact⟨b,o,a,l,r,rfl,fun h=>(by rw[h]at e;cases e),fun h=>(by rw[h]at e;cases e)⟩)
    obtain⟨u,p,z8⟩:=hE.val Ox;have k5:=LP.rest;rw[hd]at k5;have y1:=kI b2 o2 a2 e2 r2;rw[Oh,if_neg (by rw[j4];intro h;exact absurd h.2 Ob)]at y1;have z9:=lS fl e2 si;have z3:Hid ((siR fl e2 si).length+(ps (aL (i+1) (bCF l))).length<=1000000):=by rw[Hid,k6];omega
    have h0:=hG si wr LP.rs k5.1 Oa;rw[z8]at h3 h0;have h2:Hid _:=fun w3=>k7.out.step (w3:=w3) Ox g5.out g6.out hd k6;clear hG hE hd k6 k5 LP y1 z9 hb;go_wp2_with fail
    refine h0.mono ?_;rintro e W6 ⟨rfl,h6,i6,x6⟩;obtain⟨m',rfl⟩:∃ m',gk=m'+1:=⟨gk - 1,Oa⟩
    have fin:∃ (i':Nat) (si:Sl),Value.int .i64 ((i:Int)+1)= .int .i64 i'/\i'<=aD l/\aD l<=i'+m'/\si.length+(ps (aL i' (bCF l))).length<=1000000/\LpS H pb nb it vA vF m fl (bCF l) SS W5 i' si W6:=
     ⟨i+1,_,Od,Oa,Oa,z3.out,h2.out W6 h6 i6 x6⟩
    clear h2 k7 h6 i6 x6 z3;go_wp2;go_roundg m'
    case rel=>exact fin
    case measure=>omega
   ·have k3: ¬(i:Int) < (aD l:Int):=Oa
    have y8:i=aO (bCF l):=by rw[<-aT];omega
    have fin:aA7 H pb nb it vA vF m fl (Pt (.node b o a l .nil)) (siT fl (.node b o a l .nil) S) (siR fl (.node b o a l .nil) S) w (.returned (.tuple #[])) wr:=by
     subst y8;obtain⟨e1,e2⟩:=LP.fin;have hr:=LP.rs;rw[e1]at hr;exact FIN5.out wr LP.fr hr e2
    clear y8 LP k7 FIN5;go_wp2;go_end0
    exact fin
 ·have d3: ¬(0:Int) < (mG fl (j:Int):Int):=Oa
  go_quiet (fail)
  have h5:=h1.drewN nq;have x1d:Fr H F0 W1 (W1.drewN nq):=(Fr.refl _ _ _).drewN nq;have k8:Hid (Own (W1.drewN nq) b {a with site:=(-1:Int)} l .nil):=cX z7.out x1d F0.body (fun p hp ty hq=>hq) (by have:=HT.out;show a.tag≠20;omega);have i5:IsT (W1.drewN nq) l:=KP.out W1 _ (x1d.mono F0.to) i1;have X5:Hid (Fr H (Pt (.node b o a l .nil)) w (W1.drewN nq)):=X1.out.trans (x1d.mono F0.to);obtain⟨_,_,m3⟩:=g8.out _ _ k8.out;rw[z4]at m3;clear n1 n2 n3 i1 h1 X1 z7 x1d c0 p2 g0 k4;generalize W1.drewN nq=W5 at*;obtain⟨SS,h9⟩:∃ SS,SS=S:=⟨_,rfl⟩;rw[<-h9]at h5;have HB:Hid (SS.length+(ps (bCF l)).length<=1000000):=by rw[Hid,h9];have:=j5.out;omega
  have h7:Hid (bO fl a S=SS):=by rw[Hid,h9];exact d7.out hk
  have z0:Hid (gI fl a S S= -1):=d9.out hk;clear h9;have j6:Hid (IsT W5 l):=i5;have L0:=LpS.start (L:=bCF l) h5 (z2.out _ i5);have FIN5:Hid _:=fun W6=>FIN.out SS _ W5 W6 h7.out z0.out k8.out X5.out i5;have y7:=HB.out;have d1:=g7.out;clear h5 i5 X5 k8 FIN KP h7 z0;go_wp2_with fail
  go_loopg [43] (aD l) (fun m' v wr=>∃ (i:Nat) (si:Sl),v= .int .i64 i/\i<=aD l/\aD l<=i+m'/\si.length+(ps (aL i (bCF l))).length<=1000000/\LpS H pb nb it vA vF m fl (bCF l) SS W5 i si wr)
  case atStart=>exact⟨0,SS,rfl,Qe _,Oa,y7,L0⟩
  case round=>
   clear L0 m3 y7;obtain⟨i,si,rfl,d2,hm,hb,LP⟩:=hrel;have k7:Hid _:=LP
   by_cases j2:i < aD l
   ·have k3:(i:Int) < (aD l:Int):=Oa
    obtain⟨b2,o2,a2,e2,r2,hd,k6⟩:=dK i (bCF l) (by rw[<-aT];exact j2);have y9:=fE.drop i _ hA;rw[hd]at y9 hb;obtain⟨j4,⟨hE,hG⟩,_⟩:=y9
    obtain⟨gg,rfl,h3⟩:=gQ Ox g4.out j6.out LP.fr Pt.body z4 hd (by
     cases e2 with
     |nil=>exact absurd hE (by unfold Ws bK;omega)
     |node b o a l r=>
      obtain⟨_,x,y,e,_⟩:=hE.parts;exact⟨b,o,a,l,r,rfl,fun h=>(by rw[h]at e;cases e),fun h=>(by rw[h]at e;cases e)⟩)
    obtain⟨u,p,z8⟩:=hE.val Ox;have k5:=LP.rest;rw[hd]at k5;have y1:=kI b2 o2 a2 e2 r2;rw[Oh,if_neg (by rw[j4];intro h;exact absurd h.2 Ob)]at y1;have z9:=lS fl e2 si;have z3:Hid ((siR fl e2 si).length+(ps (aL (i+1) (bCF l))).length<=1000000):=by rw[Hid,k6];omega
    have h0:=hG si wr LP.rs k5.1 Oa;rw[z8]at h3 h0;have h2:Hid _:=fun w3=>k7.out.step (w3:=w3) Ox g5.out g6.out hd k6;clear hG hE hd k6 k5 LP y1 z9 hb;go_wp2_with fail
    refine h0.mono ?_;rintro e W6 ⟨rfl,h6,i6,x6⟩;obtain⟨m',rfl⟩:∃ m',gk=m'+1:=⟨gk - 1,Oa⟩
    have fin:∃ (i':Nat) (si:Sl),Value.int .i64 ((i:Int)+1)= .int .i64 i'/\i'<=aD l/\aD l<=i'+m'/\si.length+(ps (aL i' (bCF l))).length<=1000000/\LpS H pb nb it vA vF m fl (bCF l) SS W5 i' si W6:=
     ⟨i+1,_,Od,Oa,Oa,z3.out,h2.out W6 h6 i6 x6⟩
    clear h2 k7 h6 i6 x6 z3;go_wp2;go_roundg m'
    case rel=>exact fin
    case measure=>omega
   ·have k3: ¬(i:Int) < (aD l:Int):=Oa
    have y8:i=aO (bCF l):=by rw[<-aT];omega
    have fin:aA7 H pb nb it vA vF m fl (Pt (.node b o a l .nil)) (siT fl (.node b o a l .nil) S) (siR fl (.node b o a l .nil) S) w (.returned (.tuple #[])) wr:=by
     subst y8;obtain⟨e1,e2⟩:=LP.fin;have hr:=LP.rs;rw[e1]at hr;exact FIN5.out wr LP.fr hr e2
    clear y8 LP k7 FIN5;go_wp2;go_end0
    exact fin
end
section
open Go.RowKit Go.Lib Go.Deep Go.ChangeMaps Go.MapKept
variable {H pb nb:Nat} {it vA vF:Value} {m:Int} {fl:List Tr}
theorem xY{b o:Nat}{a:Nd}{l r:Tr}{w W2 W3:World}{S:Sl}{sl:Nat}(h1:Ws sl l)(uq:Uq a l r)(h0:a.tag≠20)(hp:a.tag≠2/\a.tag≠3/\a.tag≠6/\a.tag≠10)(ho:Own w b a l r)(x2:Fr H (Pt l) w W2)(i2:IsT W2 (siT fl l S))(x3:Fr H (Pt r) W2 W3)(i3:IsT W3 (siT fl r (siR fl l S))):
 IsT W3 (siT fl (.node b o a l r) S)/\Fr H (Pt (.node b o a l r)) w W3:=by
 have o2:=cX ho x2 Pt.body (fun p hp ty hq=>uq.own_l p hp hq.2) h0;have o3:=cX o2 x3 Pt.body (fun p hp ty hq=>uq.own_r p hp hq.2) h0;have l3:=xR i2 x3 h1 (gO _ _ _) uq.apart_
 have eT:siT fl (.node b o a l r) S= .node b o a (siT fl l S) (siT fl r (siR fl l S)):=by
  show BT.node b o {a with site:=gI fl a S (siR fl l (bO fl a S))} (siT fl l (bO fl a S)) (siT fl r (dE a (siR fl l (bO fl a S))))=_;rw[(kV (fl:=fl) (S:=S) (S1:=S) hp).1,(kV (fl:=fl) (S:=S) (S1:=siR fl l S) hp).2.1,(kV (fl:=fl) (S:=S) (S1:=siR fl l S) hp).2.2]
 rw[eT];exact⟨⟨l3,i3,gZ o3 (gO _ _ _) (gO _ _ _)⟩,(x2.mono Pt.left).trans (x3.mono Pt.right)⟩
theorem qU{b o:Nat}{a:Nd}{l r:Tr}{S:Sl}(hp:a.tag≠2/\a.tag≠3/\a.tag≠6/\a.tag≠10):siR fl (.node b o a l r) S=siR fl r (siR fl l S):=by
 show siR fl r (dE a (siR fl l (bO fl a S)))=_;rw[(kV (fl:=fl) (S:=S) (S1:=S) hp).1,(kV (fl:=fl) (S:=S) (S1:=siR fl l S) hp).2.1]
theorem aRV{b o:Nat}{a:Nd}{l r:Tr}{S:Sl}{k:Int}(h:a.tag=2/\k=1\/a.tag=10/\k=2):siT fl (.node b o a l r) S= .node b o {a with site:=(S.length:Int)} (siT fl l (S++[(k,a.npos)])) (siT fl r (siR fl l (S++[(k,a.npos)])))/\siR fl (.node b o a l r) S=siR fl r (siR fl l (S++[(k,a.npos)])):=by
 have e1:bO fl a S=S++[(k,a.npos)]:=by
  unfold bO;rcases h with⟨h,rfl⟩|⟨h,rfl⟩
  ·rw[if_pos h]
  ·rw[Oh,if_pos h]
 have e2:∀ S2,dE a S2=S2:=fun S2=>by unfold dE;rw[Oh]
 have e3:∀ S2,gI fl a S S2=(S.length:Int):=fun S2=>by unfold gI;rw[if_pos Oa]
 constructor
 ·show BT.node b o {a with site:=gI fl a S (siR fl l (bO fl a S))} (siT fl l (bO fl a S)) (siT fl r (dE a (siR fl l (bO fl a S))))=_;rw[e1,e2,e3]
 ·show siR fl r (dE a (siR fl l (bO fl a S)))=_;rw[e1,e2]
theorem aQX{b o:Nat}{a:Nd}{l r:Tr}(hw:Ws 0 (.node b o a l r))(hH:aUI H (.node b o a l r))(k8:(ps (.node b o a l r)).Nodup)(hl:a.tag=2\/a.tag=4\/a.tag=5->Ws 0 l/\GSi 197 H pb nb it vA vF m fl bCH l)(h6:a.tag=6->GSi 252 H pb nb it vA vF m fl cB (.node b o a l r))(hc:a.tag=3->GSi 251 H pb nb it vA vF m fl cB (.node b o a l r)):GSi 197 H pb nb it vA vF m fl bCH (.node b o a l r):=by
 intro S w h hi hS;obtain⟨hoka,sx,sy,h8,y3,y4⟩:=hw.parts
 have ht:a.tag < 7:=by
  rcases Qk a.tag 7 with h|h
  ·exact h
  ·exfalso;unfold sig at h8;rw[if_pos rfl]at h8;rw[Oh,Oh,Oh,Oh,Oh]at h8;cases h8
 have k9:a.tag=0\/a.tag=1->l= .nil:=fun h=>by
  have:sx=99:=by rcases h with h|h<;>rw[h]at h8<;>cases h8<;>rfl
  subst this;exact y3.nil_of
 have k7:a.tag≠6->r= .nil:=fun h=>by
  have:sy=99:=by
   have h2:a.tag=0\/a.tag=1\/a.tag=2\/a.tag=3\/a.tag=4\/a.tag=5:=Oa
   rcases h2 with h2|h2|h2|h2|h2|h2<;>rw[h2]at h8<;>cases h8<;>rfl
  subst this;exact y4.nil_of
 have y0:H<=b:=hH.2.2 (by unfold gY;omega);have h7:=hi.2.2;have uq:=dZ k8;have h9:=kI b o a l r;have hv:bCH (.node b o a l r)= .iface (bZ a.tag) (.pointer (some ⟨b,0,none⟩)):=Oh;rw[hv];clear hv h8;have t2:=fun u v=>pT u v w;have t3:=fun u v=>xL u v w;have t4:=fun u v=>mX u v w;have t5:=fun u v=>rP u v w;have t6:=fun u v=>rQ u v w
 by_cases k2:a.tag=2
 ·obtain rfl:=k7 Oa;obtain⟨k5,y1⟩:=hl (.inl k2);obtain⟨u,p,y5⟩:=k5.val Ox;rw[Oh,if_pos ⟨Oa,by rw[k2];rfl⟩]at h9
  have n1:w.cell? ⟨b,1,none⟩=some (.int .i64 a.npos):=by
   obtain⟨cs,hc,hn,_⟩:=aI h7 (n:=2) k2;rw[cell_of_row _ _ _ _ _ _ hc];exact hn.2.1
  obtain⟨eT,eR⟩:=aRV (fl:=fl) (b:=b) (o:=o) (l:=l) (r:= .nil) (S:=S) (k:=1) (.inl ⟨k2,rfl⟩);rw[eT,eR];have HL:Hid (GSi 197 H pb nb it vA vF m fl bCH l):=y1;have HK:Hid (a.tag=2):=k2;have HU:Hid (Uq a l .nil):=uq;have HI:Hid (IsT w (.node b o a l .nil)):=hi;have HB:Hid (H<=b):=y0;have y6:Hid (S.length+1+(ps l).length<=1000000):=by rw[Hid];have h0:(ps (.nil:Tr)).length=0:=rfl;omega
  rw[show bZ a.tag=393 by rw[k2];rfl];clear k9 k7 hl h6 hc h7 k2 y1 ht uq k8 hi hH hw eT eR h9 hS y0;go_enter Tryz.func197,Tryz.ntmps197
  go_wp2_with fail
  refine(vK 1 a.npos w h (Oi y6.out)).mono ?_;rintro e W4 ⟨rfl,h4,x4⟩;have o4:Own W4 b a l .nil:=cX HI.out.2.2 x4 F0.body (fun p hp ty hq=>hq) (Oi HK.out);have i4:IsT W4 l:=IsT.fr x4 (fun t p hp=>absurd hp id) k5 HI.out.1 (fun _ _ _ h=>h);obtain⟨h5,x5,o5,⟨q5,c5⟩,z5⟩:=mZ (o:=4) (i:=(S.length:Int)) h4 o4 HB.out (.inl ⟨.inl HK.out,rfl⟩);have i5:IsT (W4.setCell ⟨b,4,none⟩ (.int .i64 (S.length:Int))) l:=IsT.fr x5 (fun t p hp=>(Po.body t p hp).pos) k5 i4 (Po.out HU.out.own_l)
  have n3:(W4.setCell ⟨b,4,none⟩ (.int .i64 (S.length:Int))).cell? ⟨b,3,none⟩=some (bCH l):=by
   obtain⟨cs,hc,_,h3,_⟩:=aI o5 (n:=2) HK.out;rw[cell_of_row _ _ _ _ _ _ hc];exact h3
  have X5:Hid (Fr H (Pt (.node b o a l .nil)) w (W4.setCell ⟨b,4,none⟩ (.int .i64 (S.length:Int)))):=(x4.mono F0.to).trans ((show Fr H (Po a) W4 _ from x5).mono Po.to);have y7:Hid (Own (W4.setCell ⟨b,4,none⟩ (.int .i64 (S.length:Int))) b {a with site:=(S.length:Int)} l .nil):=o5;have h1:=HL.out _ _ h5 i5 (by have:=y6.out;rw[List.length_append];simp only[List.length_cons,List.length_nil];omega);rw[y5]at n3 h1;clear o4 o5 x4 x5 i4 h4 n1 i5 h5;go_upto_region 4 with fail
  generalize W4.setCell ⟨b,4,none⟩ (.int .i64 (S.length:Int))=W5 at*;go_wp2_with fail
  refine h1.mono ?_;rintro e W6 ⟨rfl,h6,i6,x6⟩;go_wp2;go_end0
  have o6:=cX y7.out x6 Pt.body (fun p hp ty hq=>HU.out.own_l p hp hq.2) (by have:=HK.out;show a.tag≠20;omega);exact⟨rfl,h6,⟨i6,trivial,gZ o6 (gO _ _ _) (Sh.refl _)⟩,X5.out.trans (x6.mono Pt.left)⟩
 by_cases k3:a.tag=3
 ·have h1:=hc k3 S w h hi hS;have k1:Calls Tryz.prog 251 #[.pointer (some ⟨nb,0,none⟩),.pointer (some ⟨b,0,none⟩)] w _:=h1;rw[show bZ a.tag=396 by rw[k3];rfl];clear k9 k7 hl h6 hc h7 k2 k3 h1 ht uq k8 hi y3 y4 hH hw h9 hS y0;go_enter Tryz.func197,Tryz.ntmps197
  go_wp2_with fail
  refine k1.mono ?_;rintro e W2 ⟨rfl,h2,i2,x2⟩;go_wp2;go_end0
  exact⟨rfl,h2,i2,x2⟩
 by_cases k6:a.tag=6
 ·have h1:=h6 k6 S w h hi hS;have k1:Calls Tryz.prog 252 #[.pointer (some ⟨nb,0,none⟩),.pointer (some ⟨b,0,none⟩)] w _:=h1;rw[show bZ a.tag=403 by rw[k6];rfl];clear k9 k7 hl h6 hc h7 k2 k3 k6 h1 ht uq k8 hi y3 y4 hH hw h9 hS y0;go_enter Tryz.func197,Tryz.ntmps197
  go_wp2_with fail
  refine k1.mono ?_;rintro e W2 ⟨rfl,h2,i2,x2⟩;go_wp2;go_end0
  exact⟨rfl,h2,i2,x2⟩
 have hp:a.tag≠2/\a.tag≠3/\a.tag≠6/\a.tag≠10:=Oa
 obtain rfl:=k7 k6;rw[qU hp]
 by_cases k45:a.tag=4\/a.tag=5
 ·obtain⟨k5,y1⟩:=hl (.inr k45);obtain⟨u,p,y5⟩:=k5.val Ox
  have m3:w.cell? ⟨b,0,none⟩=some (bCH l):=by
   rcases k45 with k4|k4
   ·obtain⟨cs,hc,h3⟩:=aI h7 (n:=4) k4;rw[cell_of_row _ _ _ _ _ _ hc];exact h3
   ·obtain⟨cs,hc,h3⟩:=aI h7 (n:=5) k4;rw[cell_of_row _ _ _ _ _ _ hc];exact h3
  have h1:=y1 S w h hi.1 Oa;rw[y5]at m3 h1;have FIN:Hid _:=fun W2 x2 i2=>xY (H:=H) (fl:=fl) (S:=S) (o:=o) (W2:=W2) (W3:=W2) k5 uq (by omega:a.tag≠20) hp h7 x2 i2 (Fr.refl _ _ _) trivial;rcases k45 with k4|k4
  ·rw[show bZ a.tag=398 by rw[k4];rfl];clear k9 k7 hl h6 hc h7 k2 k3 k6 k4 y1 ht uq k8 hi hH hw h9 hS y0 hp;go_enter Tryz.func197,Tryz.ntmps197
   go_wp2_with fail
   refine h1.mono ?_;rintro e W3 ⟨rfl,h3,i3,x3⟩;go_wp2;go_end0
   exact⟨rfl,h3,FIN.out W3 x3 i3⟩
  ·rw[show bZ a.tag=401 by rw[k4];rfl];clear k9 k7 hl h6 hc h7 k2 k3 k6 k4 y1 ht uq k8 hi hH hw h9 hS y0 hp;go_enter Tryz.func197,Tryz.ntmps197
   go_wp2_with fail
   refine h1.mono ?_;rintro e W3 ⟨rfl,h3,i3,x3⟩;go_wp2;go_end0
   exact⟨rfl,h3,FIN.out W3 x3 i3⟩
 ·have k01:a.tag=0\/a.tag=1:=Oa
  obtain rfl:=k9 k01;have y2:=xY (H:=H) (fl:=fl) (o:=o) (S:=S) (W2:=w) (W3:=w) y3 uq (by omega:a.tag≠20) hp h7 (Fr.refl _ _ _) trivial (Fr.refl _ _ _) trivial;rcases k01 with k0|k0
  ·rw[show bZ a.tag=362 by rw[k0];rfl];clear k9 k7 hl h6 hc h7 k2 k3 k6 k0 k45 ht uq k8 hH hw h9 hS y0 hp;go_enter Tryz.func197,Tryz.ntmps197
   go_wp2;go_end0
   exact⟨rfl,h,y2⟩
  ·rw[show bZ a.tag=359 by rw[k0];rfl];clear k9 k7 hl h6 hc h7 k2 k3 k6 k0 k45 ht uq k8 hH hw h9 hS y0 hp;go_enter Tryz.func197,Tryz.ntmps197
   go_wp2;go_end0
   exact⟨rfl,h,y2⟩
theorem aR5{b o:Nat}{a:Nd}{l r:Tr}(hw:Ws 1 (.node b o a l r))(y2:(ps (.node b o a l r)).Nodup)(h7:a.tag=7->Ws 0 l/\Ws 0 r/\GSi 197 H pb nb it vA vF m fl bCH l/\GSi 197 H pb nb it vA vF m fl bCH r)(h8:a.tag=8->Ws 1 l/\Ws 1 r/\GSi 199 H pb nb it vA vF m fl bCH l/\GSi 199 H pb nb it vA vF m fl bCH r):GSi 199 H pb nb it vA vF m fl bCH (.node b o a l r):=by
 intro S w h hi hS;obtain⟨y1,sx,sy,k0,k6,k5⟩:=hw.parts
 have ht:a.tag=7\/a.tag=8:=by
  by_cases h1:a.tag=7
  ·exact .inl h1
  by_cases h2:a.tag=8
  ·exact .inr h2
  ·exfalso;simp[sig,h1,h2]at k0
 have uq:=dZ y2;have k1:a.tag≠20:=Oa
 have h5:=hi.2.2;have hp:a.tag≠2/\a.tag≠3/\a.tag≠6/\a.tag≠10:=Oa
 have k2:=kI b o a l r;have y4:=lS fl l S;have y6:S.length+(ps l).length<=1000000:=Oa
 have y5:(siR fl l S).length+(ps r).length<=1000000:=Oa
 have hv:bCH (.node b o a l r)= .iface (bZ a.tag) (.pointer (some ⟨b,0,none⟩)):=if_neg k1;rw[hv,qU hp];clear hv k0 y1;have t1:=fun u v=>pU u v w;have t2:=fun u v=>uF u v w;have FIN:Hid _:=fun W2 W3 x2 i2 x3 i3=>xY (H:=H) (fl:=fl) (o:=o) (S:=S) (W2:=W2) (W3:=W3) k6 uq k1 hp h5 x2 i2 x3 i3;have RK:Hid _:=fun W2 x2=>gV (H:=H) (W2:=W2) k5 uq hi x2 k1;rcases ht with k7|k8
 ·obtain⟨h9,h6,k4,k3⟩:=h7 k7;obtain⟨u,p,y0⟩:=h9.val Ox;obtain⟨u2,p2,k9⟩:=h6.val Ox;have HR:Hid (GSi 197 H pb nb it vA vF m fl bCH r):=k3
  have own2:∀ w',Own w' b a l r->w'.cell? ⟨b,2,none⟩=some (bCH l)/\w'.cell? ⟨b,3,none⟩=some (bCH r):=by
   intro w' ho;obtain⟨cs,hc,_,_,h2,h3⟩:=aI ho (n:=7) k7;exact⟨Og hc h2,Og hc h3⟩
  have m2:=(own2 w h5).1;have y3:Hid _:=own2;have h4:=k4 S w h hi.1 y6;rw[y0]at m2 h4;rw[show bZ a.tag=253 by rw[k7];rfl];clear h7 h8 k4 k3 h5 uq y2 hi hw k1 hp k6 k5 h9 h6 own2 k7 h k2 y4 hS;go_enter Tryz.func199,Tryz.ntmps199
  go_wp2_with fail
  refine h4.mono ?_;rintro e W2 ⟨rfl,h2,i2,x2⟩;obtain⟨j2,o2⟩:=RK.out W2 x2;have m3:=(y3.out W2 o2).2;have h0:=HR.out _ _ h2 j2 y5;rw[k9]at m3 h0;go_wp2_with fail
  refine h0.mono ?_;rintro e W3 ⟨rfl,h3,i3,x3⟩;go_wp2;go_end0
  exact⟨rfl,h3,FIN.out W2 W3 x2 i2 x3 i3⟩
 ·obtain⟨h9,h6,k4,k3⟩:=h8 k8;obtain⟨u,p,y0⟩:=h9.val Ow;obtain⟨u2,p2,k9⟩:=h6.val Ow;have HR:Hid (GSi 199 H pb nb it vA vF m fl bCH r):=k3
  have own2:∀ w',Own w' b a l r->w'.cell? ⟨b,1,none⟩=some (bCH l)/\w'.cell? ⟨b,2,none⟩=some (bCH r):=by
   intro w' ho;obtain⟨cs,hc,_,h2,h3⟩:=aI ho (n:=8) k8;exact⟨Og hc h2,Og hc h3⟩
  have m2:=(own2 w h5).1;have y3:Hid _:=own2;have h4:=k4 S w h hi.1 y6;rw[y0]at m2 h4;rw[show bZ a.tag=407 by rw[k8];rfl];clear h7 h8 k4 k3 h5 uq y2 hi hw k1 hp k6 k5 h9 h6 own2 k8 h k2 y4 hS;go_enter Tryz.func199,Tryz.ntmps199
  go_wp2_with fail
  refine h4.mono ?_;rintro e W2 ⟨rfl,h2,i2,x2⟩;obtain⟨j2,o2⟩:=RK.out W2 x2;have m3:=(y3.out W2 o2).2;have h0:=HR.out _ _ h2 j2 y5;rw[k9]at m3 h0;go_wp2_with fail
  refine h0.mono ?_;rintro e W3 ⟨rfl,h3,i3,x3⟩;go_wp2;go_end0
  exact⟨rfl,h3,FIN.out W2 W3 x2 i2 x3 i3⟩
end
end Go.Proofs.YtikffmloeifkpaaGreatDoor
