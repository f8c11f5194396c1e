/- Contracts. -/
import Derived.Test.YtikffmloeifkpaaGreatDoorR38
import Derived.Test.YtikffmloeifkpaaGreatDoorR36
import Derived.Test.YtikffmloeifkpaaGreatDoorR28
import Derived.Test.YtikffmloeifkpaaGreatDoorR26
import Derived.Test.YtikffmloeifkpaaGreatDoorR19
set_option maxHeartbeats 16000000
set_option maxRecDepth 100000
namespace Go.Proofs.YtikffmloeifkpaaGreatDoor
open Go.RowKit Go.Lib Go.Deep Go.ChangeMaps Go.MapKept Tryz
section
variable {L:List NQ} {S:List (ByteArray × Int)} {FQ:List (Nat × Nat)}
def cnt(kd:Int):List (ByteArray × Int)->Nat
 |[]=>0
 |(_,k)::r=>(if k=kd then 1 else 0)+cnt kd r
theorem bT1(x:ByteArray)(b:Int):∀ (l:List (ByteArray × Int)) (n:Int),0<=n->bL8 x b l n < n+cnt b l\/bL8 x b l n= -1
 |[],n,_=> .r rfl
 |(y,k)::r,n,h=>by
  unfold bL8 cnt
  by_cases e:y=x
  ·rw[if_pos e]
   by_cases a:k=b
   ·rw[if_pos a,if_pos a];exact .l Oa
   ·rw[if_neg a];exact .r rfl
  ·rw[if_neg e]
   by_cases a:k=b
   ·rw[if_pos a,if_pos a];rcases bT1 x b r (n+1) (by omega)with h|h
    ·exact .l Oa
    ·exact .r h
   ·rw[if_neg a,if_neg a];rcases bT1 x b r n h with h|h
    ·exact .l Oa
    ·exact .r h
def bOW:List Int->List NQ->List Int
 |k::I,x::N=>if x.d=1 then k::bOW I N else bOW I N
 |_,_=>[]
def bP2:List Int->List NQ->List Int
 |k::I,x::N=>if x.d=1 then bP2 I N else k::bP2 I N
 |_,_=>[]
theorem bVS:∀ (I:List Int) (N D:List NQ) (t:Is),(bNJ I N D t).A=t.A++bOW I N/\(bNJ I N D t).F=t.F++bP2 I N
 |[],_,_,t=>by simp[bNJ,bOW,bP2]
 |_::_,[],_,t=>by simp[bNJ,bOW,bP2]
 |k::I,x::N,D,t=>by
  have h:=bVS I N (D++[x]) (bNZ k x (bP8 x D t.s) t);have e:bNJ (k::I) (x::N) D t=bNJ I N (D++[x]) (bNZ k x (bP8 x D t.s) t):=rfl;have a:bOW (k::I) (x::N)=if x.d=1 then k::bOW I N else bOW I N:=rfl
  have b:bP2 (k::I) (x::N)=if x.d=1 then bP2 I N else k::bP2 I N:=rfl
  rw[e,h.1,h.2,a,b];unfold bNZ
  by_cases c:x.d=1
  ·simp[c]
  ·simp[c]
def fqS:Tr->List (Nat × Nat)
 | .nil=>[]
 | .node _ _ _ e r=>if bN e=17 then fq e::fqS r else fqS r
theorem bZD(e:Tr)(n:Int):fq (iX e n)=fq e:=by cases e<;>rfl
theorem cAO:∀ (L:Tr) (Y R:Nat),(aU2 (toL (gaT L Y R))).map fq=fqS L:=by
 intro L
 induction L with
 |nil=>intro _ _;rfl
 |node b o a e r _ ih=>
  intro Y R
  by_cases c:bN e=16
  ·have f:gaT (.node b o a e r) Y R= .node b o a (iX e Y) (gaT r (Y+1) R):=if_pos c;have d: ¬bN e=17:=Oa
   rw[f];show((iX e (Y:Int)::toL (gaT r (Y+1) R)).filter _).map fq=if bN e=17 then _ else _
   rw[List.filter_cons_of_neg (by rw[jB];simpa using d),if_neg d];exact ih _ _
  ·have f:gaT (.node b o a e r) Y R= .node b o a (iX e R) (gaT r Y (R+1)):=if_neg c;rw[f];show((iX e (R:Int)::toL (gaT r Y (R+1))).filter _).map fq=if bN e=17 then _ else _
   by_cases d:bN e=17
   ·rw[List.filter_cons_of_pos (by rw[jB];simpa using d),if_pos d,List.map_cons,bZD];exact congrArg _ (ih _ _)
   ·rw[List.filter_cons_of_neg (by rw[jB];simpa using d),if_neg d];exact ih _ _
def FnP(L:List NQ)(S:List (ByteArray × Int))(FQ:List (Nat × Nat))(lo k:Int)(G:Ns->Ns):Prop:=
 ∃ C ws bd mid y,Ndq L k C/\lo<=mid/\NW L ws C.e lo mid/\C.c=[y]/\NBx mid L bd y/\y < k/\G=fnQ C.g (bQP S FQ ws) (nmT S FQ bd)/\Ws 15 ws/\Ws 4 bd/\C.g.length<=90000/\C.e.length<=100000
def bT7(L:List NQ)(S:List (ByteArray × Int))(FQ:List (Nat × Nat)):List Int->List (Ns->Ns)->Int->Prop
 |[],[],_=>True
 |k::F,G::Gs,lo=>(∃ lo2,lo<=lo2/\FnP L S FQ lo2 k G)/\bT7 L S FQ F Gs (k+1)
 |_,_,_=>False
theorem bT7.mono:∀ {F:List Int} {a:List (Ns->Ns)} {lo b:Int},bT7 L S FQ F a lo->b<=lo->bT7 L S FQ F a b
 |[],[],_,_,_,_=>trivial
 |_::_,_::_,_,_,⟨⟨l2,h1,h2⟩,h3⟩,h4=>⟨⟨l2,Int.le_trans h4 h1,h2⟩,h3⟩
theorem NP.len:∀ {t:Tr} {a:List Tok},NP t a->a.length=aO t
 | .nil,a,h=>by
  have h:a=[]:=h;subst h;rfl
 | .node _ _ _ l r,a,⟨p,ys,e,_,h⟩=>by
  subst e;simp only[List.length_cons,aO];rw[NP.len h]
theorem NW.len:∀ {t:Tr} {a:List Int} {lo hi:Int},NW L t a lo hi->a.length=aO t
 | .nil,a,_,_,h=>by
  rw[h.1];rfl
 | .node _ _ _ l r,a,_,_,⟨x,ys,n,m,e,_,_,_,h⟩=>by
  subst e;simp only[List.length_cons,aO];rw[NW.len h]
theorem bVR{s:Nat}(d:s=3\/s=4\/s=5\/s=6\/s=8){t:Tr}(h:Ws s t):aO (unl t)<=10000/\aD t=aO (unl t):=by
 rcases h.lst d with rfl|⟨b,o,a,l,rfl,c,_⟩
 ·exact⟨Qn _,rfl⟩
 ·exact⟨Ws.len h c,rfl⟩
theorem bZ4:∀ (t:Tr) (j:List Int) (lo hi:Int),Ws 18 t->NIs L t j lo hi->∃ Z:Zs,NIz S FQ t Z/\bZM L j (Z.map (·.1))/\bQQ L j (itL t)/\bT7 L S FQ (bP2 j (Z.map (·.1))) (Z.filterMap (·.2)) lo
 /\(bP2 j (Z.map (·.1))).length=cnt 2 (itL t)/\(bOW j (Z.map (·.1))).length=cnt 1 (itL t)/\bQ8 L (bP2 j (Z.map (·.1))) (fqS t):=by
 intro t
 induction t with
 |nil=>
  rintro j lo hi _ ⟨rfl,h⟩;exact⟨[],rfl,⟨rfl,fun i x h=>by simp at h⟩,⟨rfl,fun i x h=>by simp at h⟩,trivial,rfl,rfl,⟨rfl,fun i x h=>by simp[bP2]at h⟩⟩
 |node b o a e r _ ih=>
  rintro j lo hi hw ⟨x,I,rfl,hx,hr⟩;obtain⟨_,B,h9⟩:=aY Ot hw;have B:Ws 7 e:=B;obtain⟨Z,K,M,N,P,Q,R,C⟩:=ih I (x+1) hi h9 hr;obtain⟨n,f,g,d,l,q,rfl,u,V,E,k3,hk⟩:=hx
  have T:∀ w:Zs,w=Z->∀ W,bZM L (x::I) (((n,W)::w).map (·.1)):=fun w e W=>⟨by subst e;simp[M.len],fun i y m=>by
   subst e;cases i with
   |zero=>simp only[List.getElem?_cons_zero,Option.some.injEq]at m;subst m;exact⟨n,u,rfl⟩
   |succ i=>
    obtain⟨s,c,k⟩:=M.at_ i y (by simpa using m);exact⟨s,c,by simpa using k⟩⟩
  have U:∀ F:Int,n.d=F->(if bN (.node f g d l q:Tr)=16 then(1:Int)else 2)=F->bQQ L (x::I) (itL (.node b o a (.node f g d l q) r)):=fun F e1 e2=>⟨by simp[itL,N.len],fun i y m=>by
   cases i with
   |zero=>
    simp only[List.getElem?_cons_zero,Option.some.injEq]at m;subst m;refine⟨n,u,?_⟩;show some (eI (.node f g d l q),if bN (.node f g d l q:Tr)=16 then(1:Int)else 2)=_;rw[e2,e1,E];rfl
   |succ i=>
    obtain⟨s,c,k⟩:=N.at_ i y (by simpa using m);exact⟨s,c,by simpa[itL]using k⟩⟩
  rcases hk with⟨X,c,k,p,_⟩|⟨H,c,k,A,G,z,ws,bd,rfl,s,p,y,g4,g5,g6⟩
  ·have c1:(if bN (.node f g d l q:Tr)=16 then(1:Int)else 2)=1:=if_pos X;have a2: ¬bN (.node f g d l q:Tr)=17:=by show ¬d.a=17;omega
   refine⟨(n,none)::Z,⟨n,none,Z,rfl,⟨_,_,_,_,_,rfl,V,E,.l ⟨X,c,k,p,rfl⟩⟩,K⟩,T Z rfl none,U 1 c c1,?_,?_,?_,?_⟩
   ·show bT7 L S FQ (if n.d=1 then _ else _) _ _;rw[if_pos c];exact P.mono Oa
   ·show(if n.d=1 then _ else _:List Int).length=(if(if _ then(1:Int)else 2)=2 then 1 else 0)+_;rw[if_pos c,c1,Q];simp
   ·show(if n.d=1 then _ else _:List Int).length=(if(if _ then(1:Int)else 2)=1 then 1 else 0)+_;rw[if_pos c,c1,List.length_cons,R];simp;omega
   ·show bQ8 L (if n.d=1 then _ else _) (if _ then _ else _);rw[if_pos c,if_neg a2];exact C
  ·have a1: ¬bN (.node f g d l (.node A G z ws bd):Tr)=16:=by show ¬d.a=16;omega
   have c1:(if bN (.node f g d l (.node A G z ws bd):Tr)=16 then(1:Int)else 2)=2:=if_neg a1;have Y:bN (.node f g d l (.node A G z ws bd):Tr)=17:=H;have v: ¬n.d=1:=Oa
   obtain⟨hl,x4,y4,z4,p4,q4,J,a4,O,k0⟩:=oO B H;simp only[BT.node.injEq]at J;obtain⟨rfl,rfl,rfl,rfl,rfl⟩:=J;have l6:=bVR Ou hl;have l5:=bVR Ov O;have el:=k.len;have ew:=p.len;have hm:=p.le;refine⟨(n,some (fnQ n.g (bQP S FQ (unl ws)) (nmT S FQ bd)))::Z,⟨n,_,Z,rfl,⟨_,_,_,_,_,rfl,V,E,.r ⟨H,c,_,_,_,_,_,rfl,k,rfl⟩⟩,K⟩,T Z rfl _,U 2 c c1,?_,?_,?_,?_⟩
   ·show bT7 L S FQ (if n.d=1 then _ else _) _ _;rw[if_neg v];exact⟨⟨lo,Int.le_refl _,n,unl ws,bd,s,y,u,hm,p,g4,g5,g6,rfl,by rw[bS1];exact O.elems Ov,k0,Oa,Oa⟩,P⟩
   ·show(if n.d=1 then _ else _:List Int).length=(if(if _ then(1:Int)else 2)=2 then 1 else 0)+_;rw[if_neg v,c1,List.length_cons,Q];simp;omega
   ·show(if n.d=1 then _ else _:List Int).length=(if(if _ then(1:Int)else 2)=1 then 1 else 0)+_;rw[if_neg v,c1,R];simp
   ·show bQ8 L (if n.d=1 then _ else _) (if _ then _ else _);rw[if_neg v,if_pos Y];refine⟨by simp[C.len],fun i a3 D=>?_⟩;cases i with
    |zero=>
     simp only[List.getElem?_cons_zero,Option.some.injEq]at D;subst D;refine⟨n,u,?_⟩;show some (aD l,aD ws)=some (n.g.length,n.e.length);rw[l6.2,l5.2,el,ew]
    |succ i=>
     obtain⟨m',q1,q2⟩:=C.at_ i a3 (by simpa using D);exact⟨m',q1,by simpa using q2⟩
end
section
variable {H X U:Nat} {L:List NQ} {I A F:List Int} {m:Int} {s:Ns} {Y vI D M B E:Value} {V:List V3} {w G w1 w2:World} {g J:Nat}
structure bW4(z:Nat)(D M:Value):Prop where
 a:∀ k,D.ownBlock=some k->z<=k
 f:∀ k,M.ownBlock=some k->z<=k
 d:∀ k,D.ownBlock=some k->M.ownBlock≠some k
theorem NmW.grewAF(c:Bool)(h:NmW H X U L I A F m s Y vI D M B E V w)(a:Nx X U Y B E B E G w)(hi:∀ k,vI.ownBlock=some k->k < G.1.size)(hu:∀ k,bOJ V k->k < G.1.size)(j:bW4 G.1.size D M){x:Int}(O:w1.os=w.os/\w1.tape=w.tape/\w1.output=w.output/\w.1.size<=w1.1.size)(hb:∀ k,k < w.1.size->w1.1[k]?=w.1[k]?)(b1:w2.ownsRow H 3 1 (Qe g ((cond c A F).length+1) J) ((cond c A F).length+1) (bLU (cond c A F)++[Qc x]))(i:w1.grownBy w2 (cond c D M).ownBlock)(k4:(cond c D M).ownBlock=some g\/g=w1.1.size):
 NmW H X U L I (cond c (A++[x]) A) (cond c F (F++[x])) m s Y vI (cond c (Qe g (A.length+1) J) D) (cond c M (Qe g (F.length+1) J)) B E V (w2.setCell ⟨U,cond c 2 3,none⟩ (Qe g ((cond c A F).length+1) J))
  /\Nx X U Y B E B E G (w2.setCell ⟨U,cond c 2 3,none⟩ (Qe g ((cond c A F).length+1) J))/\bW4 G.1.size (cond c (Qe g (A.length+1) J) D) (cond c M (Qe g (F.length+1) J)):=by
 have hsz:=a.size;have a8:=i.size;have a1:=h.size;have a3:U < w.1.size:=(Oo h.prog);generalize f:cond c D M=b at*
 have q:∃ l:List Int,w.ownsRow H 3 1 b l.length (bLU l):=by
  cases c
  ·exact⟨F,f ▸ h.fns⟩
  ·exact⟨A,f ▸ h.arrs⟩
 obtain⟨l,q⟩:=q
 have k5:∀ k,b.ownBlock=some k->G.1.size<=k:=by
  cases c
  ·exact f ▸ j.f
  ·exact f ▸ j.a
 have old:∀ k,k < w.1.size->b.ownBlock≠some k->k≠U->∀ o u,(w2.setCell ⟨U,o,none⟩ u).1[k]?=w.1[k]?:=fun k t N d o u=>(Om d).t ((i.block k Oa Qg).t Qh);have a5:b.ownBlock≠some U:=bL5 q h.prog Ob
 have a4:g≠U:=by
  grind
 have a2:G.1.size<=g:=by
  grind
 have p:∀ {n y:Nat} {e:TypeId} {z:Value} {C:List Value},w.ownsRow H e y z n C->(∀ k,z.ownBlock=some k->b.ownBlock≠some k)->e≠76->∀ o u,(w2.setCell ⟨U,o,none⟩ u).ownsRow H e y z n C:=fun v K d o u=>cD v (fun Q P=>by
  obtain⟨⟨c,r⟩,_⟩:=bEH v P;exact old Q Qg Qh (bEF r h.prog d) o u)
 have R:∀ {n y:Nat} {e:TypeId} {z:Value} {C:List Value},w.ownsRow H e y z n C->e≠3->∀ k,z.ownBlock=some k->b.ownBlock≠some k:=fun v K k t=>by
  obtain⟨⟨c,r⟩,_⟩:=bEH v t
  grind[bL5]
 have N:∀ k,(cond c M D).ownBlock=some k->b.ownBlock≠some k:=by
  cases c
  ·exact fun k e=>f ▸ j.d k e
  ·exact fun k e=>f ▸ fun T=>j.d k T e
 have a9:∀ l:List Int,l=cond c A F->(w2.setCell ⟨U,cond c 2 3,none⟩ (Qe g ((cond c A F).length+1) J)).ownsRow H 3 1 (Qe g (l.length+1) J) (l++[x]).length (bLU (l++[x])):=(by grind[bLU,Value.ownBlock,List.length_append,cD,Below.heap_setCell])
 have a7:∀ k,(cond c M D).ownBlock=some k->g≠k:=fun k e T=>by
  rcases k4 with e3|e3
  ·grind
  ·have:k < w.1.size:=by
    cases c
    ·exact bLP h.arrs e
    ·exact bLP h.fns e
   omega
 have a6:∀ (n:Nat) k,(Qe g n J).ownBlock=some k->g=k:=(by grind[Value.ownBlock]);have k2:=(old X (Oo h.nm) (bL5 q h.nm Ob) (bEF h.nm h.prog Ob) (cond c 2 3) (Qe g ((cond c A F).length+1) J)).t h.nm;have k0:=aM (o:=cond c 2 3) (Qe g ((cond c A F).length+1) J) (((i.block U Oa Qg).t Qh).t h.prog)
 have k3:bMQ H (w2.setCell ⟨U,cond c 2 3,none⟩ (Qe g ((cond c A F).length+1) J)) L V:=h.c.move (fun Q P=>by
  refine old Q Qg Qg ?_ _ _;rintro rfl;obtain⟨⟨c,r⟩,_⟩:=h.c.typ P;rw[h.prog]at r
  grind)
 have Z:=p h.its Qg Ob (cond c 2 3) (Qe g ((cond c A F).length+1) J);have W:H<=(w2.setCell ⟨U,cond c 2 3,none⟩ (Qe g ((cond c A F).length+1) J)).1.size:=by grind[World.setCell]
 have k1:Nx X U Y B E B E G (w2.setCell ⟨U,cond c 2 3,none⟩ (Qe g ((cond c A F).length+1) J)):=⟨i.os.t (O.1.t a.os),i.tape.t (O.2.1.t a.tape),i.output.t (O.2.2.1.t a.output),by grind[World.setCell],fun k t K d h3 h4 h5=>(old k Oa (fun e=>by have:=k5 k e;omega) d _ _).t (a.keep k t K d h3 h4 h5),a.rs,a.rv⟩;have n1:=p h.nodes (R h.nodes Ob) Ob (cond c 2 3) (Qe g ((cond c A F).length+1) J);have n2:=p h.d (R h.d Ob) Ob (cond c 2 3) (Qe g ((cond c A F).length+1) J);have n3:=p h.b (R h.b Ob) Ob (cond c 2 3) (Qe g ((cond c A F).length+1) J);cases c
 ·exact⟨⟨k2,k0,n1,Z,p h.arrs N Ob _ _,Qg,n2,n3,k3,W⟩,k1,⟨j.a,Qg,Qg⟩⟩
 ·exact⟨⟨k2,k0,n1,Z,Qg,p h.fns N Ob _ _,n2,n3,k3,W⟩,k1,⟨Qg,j.f,Qg⟩⟩
abbrev ndB(b:NQ)(a1:Option Addr)(k1:Nat)(a2:Option Addr)(k2:Nat)(a3:Option Addr)(k3:Nat):Obj:= Qf #[Qc b.d,Qc b.at_,.string b.s,Qc b.n,Qc b.mid,.slice a1 b.c.length k1,.slice a2 b.g.length k2,.slice a3 b.e.length k3,Qc b.b,Qc b.ref,Qc b.f] 73
theorem NmW.itm(h:NmW H X U L I A F m s Y (Qe g I.length J) D M B E V w){i:Nat}{y:Int}(a:I[i]?=some y):w.cell? ⟨g,i,none⟩=some (Qc y):=by
 obtain⟨c,b,e,d⟩:=bLE h.its a
 grind
theorem NmW.ndc(h:NmW H X U L I A F m s (Qe g L.length J) vI D M B E V w){k:Nat}{a:NQ}(d:L[k]?=some a):w.cell? ⟨g,k*11+2,none⟩=some (.string a.s):=by
 obtain⟨f,e,v,b,-,-,c,-⟩:=h.node d;simp only[Value.slice.injEq,Option.some.injEq,Addr.mk.injEq]at b;obtain⟨⟨rfl,_⟩,_⟩:=b;exact c 2 Oa
theorem bZB{N:List NQ}(hI:bZM L I N)(hz:I.length<=90000)(_:L.length<=100000)(h:NmW H X U L I [] [] m s Y vI (.slice none 0 0) (.slice none 0 0) B E V w):
 Calls prog 62 #[Qd X] w fun e z=>e= .returned (.tuple #[])/\∃ D M,NmW H X U L I (bNJ I N [] ⟨[],[],s⟩).A (bNJ I N [] ⟨[],[],s⟩).F m (bNJ I N [] ⟨[],[],s⟩).s Y vI D M B E V z/\Nx X U Y B E B E w z:=by
 have y2:Hid ((∀ k,vI.ownBlock=some k->k < w.1.size)/\∀ k,bOJ V k->k < w.1.size):=⟨fun k hk=>bLP h.its hk,fun k hk=>by
  obtain⟨⟨c,hc⟩,_⟩:=h.c.typ hk;rcases hc with hc|hc<;>exact(Oo hc)⟩
 obtain⟨ai,ci,rfl,_⟩:=eQ h.its;obtain⟨i0,z8,z2,z1,z0⟩:=info_parts info3;go_enter func62,ntmps62
 go_wp2_with fail
 go_loopg [2] (I.length+1) (fun a1 v2 wr=>∃ (i:Nat) (t:Is) (D M:Value),v2= Qc i/\i+a1=I.length+1/\NmW H X U L I t.A t.F m t.s Y (.slice ai I.length ci) D M B E V wr/\Nx X U Y B E B E w wr/\bW4 w.1.size D M/\t.A.length+t.F.length=i/\bNJ (I.drop i) (N.drop i) (N.take i) t=bNJ I N [] ⟨[],[],s⟩)
 case atStart=>exact⟨0,⟨[],[],s⟩,_,_,rfl,Oa,h,Nx.refl _ _ _ _ _ _,⟨(fun k e=>by cases e),(fun k e=>by cases e),(fun k e=>by cases e)⟩,rfl,Od⟩
 case round=>
  clear h;obtain⟨i,t,D,M,rfl,b6,b,K,hn,c6,hq⟩:=hrel;have HQ:Hid (bNJ (I.drop i) (N.drop i) (N.take i) t=bNJ I N [] ⟨[],[],s⟩):=hq;have HN:Hid (bW4 w.1.size D M):=hn;clear hq hn
  by_cases hi:i < I.length
  ·obtain⟨y,hy⟩:∃ y,I[i]?=some y:=⟨I[i],by simp[hi]⟩;obtain⟨C,y0,y8⟩:=hI.at_ i y hy;obtain⟨g,J,hv,h2⟩:=bLE b.its hy;obtain⟨k,rfl⟩:=Int.eq_ofNat_of_zero_le y0.1;have hk:L[k]?=some C:=by have:=y0.2;simpa using this
   obtain⟨gr,j,Q,k1,R,k2,T,k3,j2,_,_,⟨e0,e1,e2,e3,e4,e5,e6,e7,e8,e9,a4⟩,_,b5⟩:=b.Q hk;have b7:=y0.lt;have hb:0<=(i:Int)/\(i:Int) < (I.length:Int):=Oa
   have a8:0<=(k:Int)/\(k:Int) < (L.length:Int):=Oa
   have t0:decide ((i:Int) < (I.length:Int))=true:=by simp;omega
   simp only[Value.slice.injEq]at hv;obtain⟨rfl,_,rfl⟩:=hv;subst j2;obtain⟨n2,rfl⟩:=Oj gk;have c7:IntKind.i64.wrap ((i:Int)+1)=(i:Int)+1:=IntWalk.i64_in _ Oa;have HD:Hid (I.drop i=(k:Int)::I.drop (i+1)/\N.drop i=C::N.drop (i+1)/\N.take (i+1)=N.take i++[C]):=⟨bNL hy,bNL y8,by rw[List.take_add_one,y8];rfl⟩;obtain⟨⟨O,_⟩,g0,g1,_⟩:=b.cells;have o1:=b.fresh Ol;have h1:=b.alloc (ndO C Q k1 R k2 T k3);have y1:=K.alloc (ndO C Q k1 R k2 T k3);have f:(wr.alloc (ndO C Q k1 R k2 T k3)).1[wr.1.size]?=some (ndB C Q k1 R k2 T k3):=Qk wr _;have c9:=K.size;have HH:Hid (NmW H X U L I t.A t.F m t.s (Qe gr L.length j) (Qe g I.length ci) D M B E V (wr.alloc (ndO C Q k1 R k2 T k3))/\Nx X U (Qe gr L.length j) B E B E w (wr.alloc (ndO C Q k1 R k2 T k3))/\bPK X U (Qe gr L.length j) B E wr.1.size):=⟨h1,y1,o1⟩;clear b K h1 y1 o1 y0 y8;go_upto_region 5 with fail
   generalize (wr.alloc (ndO C Q k1 R k2 T k3))=W1 at*;generalize wr.1.size=v at*;clear O g0 g1 h2 e0 e1 e2 e3 e4 e5 e6 e7 e8 e9 a4;go_wp2_with fail
   go_loopg [5] (i+1) (fun a1 v5 wJ=>∃ (p:Nat) (q:Ns),v5= Qc p/\p+a1=i+1/\NmW H X U L I t.A t.F m q (Qe gr L.length j) (Qe g I.length ci) D M B E V wJ/\Nx X U (Qe gr L.length j) B E B E w wJ/\bPK X U (Qe gr L.length j) B E v/\wJ.1[v]?=some (ndB C Q k1 R k2 T k3)/\bP8 C ((N.take i).drop p) q=bP8 C (N.take i) t.s)
   case atStart=>exact⟨0,t.s,rfl,Oa,HH.o.1,HH.o.2.1,HH.o.2.2,f,by rw[List.drop_zero]⟩
   case round=>
    clear f HH;obtain⟨p,q,rfl,j3,b,K,o,f,z9⟩:=hrel;have y3:Hid (bP8 C ((N.take i).drop p) q=bP8 C (N.take i) t.s):=z9;clear z9
    by_cases hj:p < i
    ·skip
     obtain⟨y',z6⟩:∃ y,I[p]?=some y:=⟨I[p]'Oa,List.getElem?_eq_getElem _⟩;obtain⟨a2,k4,k8⟩:=hI.at_ p y' z6;obtain⟨k',rfl⟩:=Int.eq_ofNat_of_zero_le k4.1;have h2:=b.itm z6;have ec:=b.ndc (k:=k') (a:=a2) (by have:=k4.2;simpa using this);have b8:=k4.lt;have a9:0<=(p:Int)/\(p:Int) < (I.length:Int):=Oa
     have b1:0<=(k':Int)/\(k':Int) < (L.length:Int):=Oa
     have t1:decide ((p:Int) < (i:Int))=true:=by simp;omega
     obtain⟨m2,rfl⟩:=Oj gk;have c8:IntKind.i64.wrap ((p:Int)+1)=(p:Int)+1:=IntWalk.i64_in _ Oa
     have HE:Hid (bP8 C ((N.take i).drop (p+1)) (if a2.s=C.s then q.E 4 C.at_ else q)=bP8 C (N.take i) t.s):=by
      rw[Hid,<-y3.o,bNL (l:=N.take i) (i:=p) (y:=a2) (by rw[List.getElem?_take,if_pos hj];exact k8)];rfl
     obtain⟨⟨O,_⟩,g0,g1,_⟩:=b.cells;have l2:wr.cell? ⟨v,2,none⟩=some (.string C.s):=cell_of_row _ _ _ _ _ _ f;have b9:X < wr.1.size:=Qp wr _ O;have b3:U < wr.1.size:=Qp wr _ g0;have b4:g < wr.1.size:=Qp wr _ h2;have b2:gr < wr.1.size:=Qp wr _ ec;have c5:v < wr.1.size:=Qp wr _ l2;have HR:Hid (∀ a1,NmW H X U L I t.A t.F m q (Qe gr L.length j) (Qe g I.length ci) D M B E V (wr.drewN a1)/\Nx X U (Qe gr L.length j) B E B E w (wr.drewN a1)/\(wr.drewN a1).1[v]?=some (ndB C Q k1 R k2 T k3)):=fun a1=>⟨b.drewN a1,K.drewN a1,f⟩;clear b K f k4 k8 y3;go_upto_region 8 with fail
     go_quiet (fail)
     clear O g0 g1 h2 ec l2;obtain⟨b,K,f⟩:=HR.o nq;generalize wr.drewN nq=W2 at*;clear HR;have l1:W2.cell? ⟨v,1,none⟩=some (Qc C.at_):=cell_of_row _ _ _ _ _ _ f;generalize j0:(a2.s.toList==C.s.toList)=W;have k0:Hid (W=decide (a2.s=C.s)):=by rw[Hid,<-j0,bOK]
     clear j0
     by_cases hs:a2.s=C.s
     ·have t2:W=true:=by rw[k0.o,decide_eq_true hs]
      subst t2;rw[if_pos hs]at HE;clear hs;go_wp2_with fail
      refine(bMJ 4 C.at_ b).mono ?_;rintro e W3 ⟨rfl,h3,z3⟩;obtain⟨o3,q3⟩:=o.nx z3 (Oo f);have q3:=q3.t f;clear l1 b f;go_wp2;go_roundg m2
      case rel=>exact⟨p+1,_,Od,Oa,h3,K.t z3,o3,q3,HE.o⟩
      case measure=>omega
     ·have t2:W=false:=by rw[k0.o,decide_eq_false hs]
      subst t2;rw[if_neg hs]at HE;clear hs;go_wp2;go_roundg m2
      case rel=>exact⟨p+1,_,Od,Oa,b,K,o,f,HE.o⟩
      case measure=>omega
    ·have t1:decide ((p:Int) < (i:Int))=false:=by simp;omega
     have z7:q=bP8 C (N.take i) t.s:=by
      rw[<-y3.o,List.drop_eq_nil_of_le (by rw[List.length_take];omega)];rfl
     have j1:Hid (bNJ (I.drop (i+1)) (N.drop (i+1)) (N.take (i+1)) (bNZ (k:Int) C q t)=bNJ I N [] ⟨[],[],s⟩):=by
      rw[Hid,<-HQ.o,HD.o.1,HD.o.2.1,HD.o.2.2,z7];rfl
     clear y3 j3 z7 HQ HD t1;have l0:wr.cell? ⟨v,0,none⟩=some (Qc C.d):=cell_of_row _ _ _ _ _ _ f;have l1:wr.cell? ⟨v,1,none⟩=some (Qc C.at_):=cell_of_row _ _ _ _ _ _ f;obtain⟨⟨O,_⟩,g0,_,gA,gF,_⟩:=b.cells;obtain⟨av,cv,rfl,_⟩:=eQ b.arrs;obtain⟨fv,cf,rfl,_⟩:=eQ b.fns;have a6:t.A.length<=90000:=Oa
     have a7:t.F.length<=90000:=Oa
     by_cases k6:C.d=1
     ·skip
      have t2:(C.d==1)=true:=by simp[k6]
      obtain⟨bt,P⟩:∃ bt,Hid (bt=decide (6<=t.A.length)):=⟨_,rfl⟩
      have t6:decide ((t.A.length:Int)≥6)=bt:=by
       rw[P.o];rcases(by omega:6<=t.A.length\/¬6<=t.A.length)with e|e
       ·rw[decide_eq_true e];simp;omega
       ·rw[decide_eq_false e];simp;omega
      have h3:((C.n < 1\/64 < C.n)/\(decide (C.n < 1)=true\/(decide (C.n < 1)=false/\decide (C.n > 64)=true)))\/(¬(C.n < 1\/64 < C.n)/\(decide (C.n < 1)=false/\decide (C.n > 64)=false)):=by
       by_cases e:C.n < 1
       ·exact .l ⟨.l e,.l (by simp[e])⟩
       by_cases e2:64 < C.n
       ·exact .l ⟨.r e2,.r ⟨by simp;omega,by simp[e2]⟩⟩
       ·exact .r ⟨Oa,by simp;omega,by simp;omega⟩
      obtain⟨s4,k9⟩:∃ s4,Hid (s4=if 6<=t.A.length then q.E 5 C.at_ else q):=⟨_,rfl⟩;obtain⟨u,Z⟩:∃ u,Hid (u=if C.n < 1\/64 < C.n then s4.E 5 C.mid else s4):=⟨_,rfl⟩;have HI:Hid (bNZ (k:Int) C q t=⟨t.A++[(k:Int)],t.F,u⟩):=by rw[Hid,bNZ,if_pos k6,Z.o,k9.o]
      clear k6;go_upto_if 81 with fail
      go_cut []from 73 to 142 (fun z=>NmW H X U L I t.A t.F m s4 (Qe gr L.length j) (Qe g I.length ci) (.slice av t.A.length cv) (.slice fv t.F.length cf) B E V z/\Nx X U (Qe gr L.length j) B E B E w z/\bPK X U (Qe gr L.length j) B E v/\z.1[v]?=some (ndB C Q k1 R k2 T k3))
      case first=>
       by_cases e:6<=t.A.length
       ·have es:s4=q.E 5 C.at_:=by rw[k9.o,if_pos e]
        have r:bt=true:=by rw[P.o,decide_eq_true e]
        clear e P t6;subst r;go_wp2_with fail
        refine(bMJ 5 C.at_ b).mono ?_;rintro e W4 ⟨rfl,h4,z4⟩;rw[<-es]at h4;obtain⟨o4,q4⟩:=o.nx z4 (Oo f);go_wp2;go_meet;exact⟨h4,K.t z4,o4,q4.t f⟩
       ·have es:s4=q:=by rw[k9.o,if_neg e]
        have r:bt=false:=by rw[P.o,decide_eq_false e]
        clear e P t6;subst r;rw[<-es]at b;go_wp2;go_meet;exact⟨b,K,o,f⟩
      obtain⟨h4,y4,o4,q4⟩:=hcut;clear b K f l0 l1 O g0 gA gF o k9 t6 P;have l3:wc.cell? ⟨v,3,none⟩=some (Qc C.n):=cell_of_row _ _ _ _ _ _ q4;have l4:wc.cell? ⟨v,4,none⟩=some (Qc C.mid):=cell_of_row _ _ _ _ _ _ q4;obtain⟨W,k0⟩:∃ W,Hid (W=decide (C.n < 1\/64 < C.n)):=⟨_,rfl⟩;go_upto_region 13 with fail
      go_cut [93]from 86 to 142 (fun a5 z=>a5= .bool W/\wc=z)
      case first=>
       rcases h3 with⟨e,t3|⟨t3,t4⟩⟩|⟨e,t3,t4⟩
       ·have r:W=true:=by rw[k0.o,decide_eq_true e]
        clear e Z;go_wp2;go_meet;exact⟨by rw[r],rfl⟩
       ·have r:W=true:=by rw[k0.o,decide_eq_true e]
        clear e Z;go_wp2;go_meet;exact⟨by rw[r],rfl⟩
       ·have r:W=false:=by rw[k0.o,decide_eq_false e]
        clear e Z;go_wp2;go_meet;exact⟨by rw[r],rfl⟩
      obtain⟨rfl,rfl⟩:=hcut;clear l3 h3;go_upto_if 93 with fail
      go_cut []from 86 to 142 (fun z=>NmW H X U L I t.A t.F m u (Qe gr L.length j) (Qe g I.length ci) (.slice av t.A.length cv) (.slice fv t.F.length cf) B E V z/\Nx X U (Qe gr L.length j) B E B E w z/\bPK X U (Qe gr L.length j) B E v/\z.1[v]?=some (ndB C Q k1 R k2 T k3))
      case first=>
       by_cases e:C.n < 1\/64 < C.n
       ·have es:u=s4.E 5 C.mid:=by rw[Z.o,if_pos e]
        have r:W=true:=by rw[k0.o,decide_eq_true e]
        clear e k0;subst r;go_wp2_with fail
        refine(bMJ 5 C.mid h4).mono ?_;rintro e n ⟨rfl,d,z5⟩;rw[<-es]at d;obtain⟨o5,q5⟩:=o4.nx z5 (Oo q4);go_wp2;go_meet;exact⟨d,y4.t z5,o5,q5.t q4⟩
       ·have es:u=s4:=by rw[Z.o,if_neg e]
        have r:W=false:=by rw[k0.o,decide_eq_false e]
        clear e k0;subst r;rw[<-es]at h4;go_wp2;go_meet;exact⟨h4,y4,o4,q4⟩
      obtain⟨d,y5,o5,q5⟩:=hcut;clear h4 y4 q4 l4 o4 Z k0;generalize wc=n at*;obtain⟨⟨O,_⟩,_,_,gA,gF,_,_,gf⟩:=d.cells;have f1:=gf 2;have k7:X < n.1.size:=Qp _ _ O;have k5:U < n.1.size:=Qp _ _ gA;have hH:=d.size;have ho:=d.arrs;have ag:some U≠(Value.slice av t.A.length cv).ownBlock:=fun e=>bL5 d.arrs d.prog Ob e.symm;have an:some X≠(Value.slice av t.A.length cv).ownBlock:=fun e=>bL5 d.arrs d.nm Ob e.symm;have H5:Hid (NmW H X U L I t.A t.F m u (Qe gr L.length j) (Qe g I.length ci) (.slice av t.A.length cv) (.slice fv t.F.length cf) B E V n/\Nx X U (Qe gr L.length j) B E B E w n):=⟨d,y5⟩;clear d y5 gf q5 o5;go_upto_region 15 with fail
      go_region_law
       ((refine step_append_lies _ (by rfl) _ _ _ (by rfl) H 3 i0 _ 1 8 underlying70 z8 z2 z1 z0 rfl Oa (.slice av t.A.length cv) t.A.length (bLU t.A) (by rfl) ((ho.alloc _).drew)
          ⟨n.1.size,0,none⟩ 1 1 [Qc (k:Int)] (by rfl) (by rfl) (World.news_of_block (cs:=#[Qc (k:Int)]) (t:=3) (fr:=(0,0)) (Qk n _)) (by simp[Value.oneCell'])
          Oa (by unfold maxLen;omega) Oa (by simp;omega) (n.1.size+1) Od ?_;intro gg a3 w1 h9 h0 y9 y7;have f:=(h0.cell_far ⟨X,0,none⟩ (kO k7) an).t (sS k7 O);have q2:=(h0.cell_far ⟨U,2,none⟩ (kO k5) ag).t (sS k5 gA);have q3:=(h0.frozen_far ⟨U,2,none⟩ (kO k5) ag).t (xB k5 f1)))
      all_goals go_wp2
      all_goals go_roundg n2
      all_goals first
       |omega
       |(obtain⟨h6,y6,n6⟩:=H5.o.1.grewAF true H5.o.2 y2.o.1 y2.o.2 HN.o (x:=(k:Int)) (w1:=(n.alloc (Qf #[Qc (k:Int)] 3)).drew) ⟨rfl,rfl,rfl,by simp[World.drew]⟩ (fun _ hk=>On hk) h9 h0 (y9.imp id (fun e=>e.t (by simp[World.drew])))
        exact⟨i+1,⟨t.A++[(k:Int)],t.F,u⟩,_,_,Od,Oa,h6,y6,n6,by simp;omega,by rw[<-HI.o];exact j1.o⟩)
     ·skip
      have t2:(C.d==1)=false:=by simp[k6]
      obtain⟨bt,P⟩:∃ bt,Hid (bt=decide (8<=t.F.length)):=⟨_,rfl⟩
      have t6:decide ((t.F.length:Int)≥8)=bt:=by
       rw[P.o];rcases(by omega:8<=t.F.length\/¬8<=t.F.length)with e|e
       ·rw[decide_eq_true e];simp;omega
       ·rw[decide_eq_false e];simp;omega
      obtain⟨u,Z⟩:∃ u,Hid (u=if 8<=t.F.length then q.E 5 C.at_ else q):=⟨_,rfl⟩;have HI:Hid (bNZ (k:Int) C q t=⟨t.A,t.F++[(k:Int)],u⟩):=by rw[Hid,bNZ,if_neg k6,Z.o]
      clear k6;go_upto_if 122 with fail
      go_cut []from 114 to 142 (fun z=>NmW H X U L I t.A t.F m u (Qe gr L.length j) (Qe g I.length ci) (.slice av t.A.length cv) (.slice fv t.F.length cf) B E V z/\Nx X U (Qe gr L.length j) B E B E w z/\bPK X U (Qe gr L.length j) B E v/\z.1[v]?=some (ndB C Q k1 R k2 T k3))
      case first=>
       by_cases e:8<=t.F.length
       ·have es:u=q.E 5 C.at_:=by rw[Z.o,if_pos e]
        have r:bt=true:=by rw[P.o,decide_eq_true e]
        clear e P t6;subst r;go_wp2_with fail
        refine(bMJ 5 C.at_ b).mono ?_;rintro e n ⟨rfl,d,z5⟩;rw[<-es]at d;obtain⟨o5,q5⟩:=o.nx z5 (Oo f);go_wp2;go_meet;exact⟨d,K.t z5,o5,q5.t f⟩
       ·have es:u=q:=by rw[Z.o,if_neg e]
        have r:bt=false:=by rw[P.o,decide_eq_false e]
        clear e P t6;subst r;rw[<-es]at b;go_wp2;go_meet;exact⟨b,K,o,f⟩
      obtain⟨d,y5,o5,q5⟩:=hcut;clear b K f l0 l1 O g0 gA gF o Z t6 P;generalize wc=n at*;obtain⟨⟨O,_⟩,_,_,gA,gF,_,_,gf⟩:=d.cells;have f1:=gf 3;have k7:X < n.1.size:=Qp _ _ O;have k5:U < n.1.size:=Qp _ _ gA;have hH:=d.size;have ho:=d.fns;have ag:some U≠(Value.slice fv t.F.length cf).ownBlock:=fun e=>bL5 d.fns d.prog Ob e.symm;have an:some X≠(Value.slice fv t.F.length cf).ownBlock:=fun e=>bL5 d.fns d.nm Ob e.symm;have H5:Hid (NmW H X U L I t.A t.F m u (Qe gr L.length j) (Qe g I.length ci) (.slice av t.A.length cv) (.slice fv t.F.length cf) B E V n/\Nx X U (Qe gr L.length j) B E B E w n):=⟨d,y5⟩;clear d y5 gf q5 o5;go_upto_region 18 with fail
      go_region_law
       ((refine step_append_lies _ (by rfl) _ _ _ (by rfl) H 3 i0 _ 1 8 underlying70 z8 z2 z1 z0 rfl Oa (.slice fv t.F.length cf) t.F.length (bLU t.F) (by rfl) ((ho.alloc _).drew)
          ⟨n.1.size,0,none⟩ 1 1 [Qc (k:Int)] (by rfl) (by rfl) (World.news_of_block (cs:=#[Qc (k:Int)]) (t:=3) (fr:=(0,0)) (Qk n _)) (by simp[Value.oneCell'])
          Oa (by unfold maxLen;omega) Oa (by simp;omega) (n.1.size+1) Od ?_;intro gg a3 w1 h9 h0 y9 y7;have f:=(h0.cell_far ⟨X,0,none⟩ (kO k7) an).t (sS k7 O);have q2:=(h0.cell_far ⟨U,3,none⟩ (kO k5) ag).t (sS k5 gF);have q3:=(h0.frozen_far ⟨U,3,none⟩ (kO k5) ag).t (xB k5 f1)))
      all_goals go_wp2
      all_goals go_roundg n2
      all_goals first
       |omega
       |(obtain⟨h6,y6,n6⟩:=H5.o.1.grewAF false H5.o.2 y2.o.1 y2.o.2 HN.o (x:=(k:Int)) (w1:=(n.alloc (Qf #[Qc (k:Int)] 3)).drew) ⟨rfl,rfl,rfl,by simp[World.drew]⟩ (fun _ hk=>On hk) h9 h0 (y9.imp id (fun e=>e.t (by simp[World.drew])))
        exact⟨i+1,⟨t.A,t.F++[(k:Int)],u⟩,_,_,Od,Oa,h6,y6,n6,by simp;omega,by rw[<-HI.o];exact j1.o⟩)
  ·have t0:decide ((i:Int) < (I.length:Int))=false:=by simp;omega
   have HE:Hid (bNJ I N [] ⟨[],[],s⟩=t):=by
    rw[Hid,<-HQ.o,List.drop_eq_nil_of_le Oa];rfl
   clear HQ;obtain⟨⟨O,_⟩,g0,g1,_⟩:=b.cells;go_wp2;go_end0
   rw[HE.o];exact⟨rfl,D,M,b,K⟩
end
section
theorem bUM{s:ByteArray}(c:s.size<=4000)(a:(dN s).a=0):∃ Q,bNC s=(Q,0,0)/\Tw (aW s) Q/\Q.length<=5000/\(dD Q (Q.length - 1)).d=0:=by
 obtain⟨Q,d,e⟩:=(bRY s c).2 a;obtain⟨f,i⟩:=e.get;have k:0 < (aW s).length:=by simp[aW]
 have b:Tw (aW s) Q:=⟨f,i,lI s,mV a c,k⟩;have j:=b.len;have n:=(mV a c).few;refine⟨Q,d,b,Oa,?_⟩;rw[<-j];have l:(dD (aW s) ((aW s).length - 1)).d=0:=lI s;rcases(b.tok _ (show(aW s).length - 1 < (aW s).length by omega)).2 with⟨_,h,_⟩|⟨h,_⟩|⟨h,_⟩|⟨h,_⟩
 ·exact h
 all_goals omega
theorem bWY{s:ByteArray}(e:s.size<=4000)(b:(dN s).a=0):Ups (aW s):=by
 have d:=aBN b
 have c:∀ i j,i < j->j < (aW s).length->(dD (aW s) i).e < (dD (aW s) j).e:=by
  grind[dD,Nat.lt_trans,List.pairwise_iff_getElem,List.length_map,List.getElem?_eq_getElem]
 refine⟨c,fun i hi=>?_⟩;have h:=aGP s b;have a:=Qr (lJ hi);generalize dD (aW s) i=u at*;unfold aW at a;rcases List.mem_append.1 a with a|a
 ·have:=h.lt _ a;omega
 ·rw[List.mem_singleton.1 a];dsimp only;omega
theorem bR7:∀ (I:List Int) (N:List NQ),∀ x∈bOW I N,x∈I
 |[],_,x,h=>by simp[bOW]at h
 |_::_,[],x,h=>by simp[bOW]at h
 |k::I,y::N,x,h=>by
  unfold bOW at h
  split at h
  ·rcases List.mem_cons.1 h with rfl|h
   ·exact Qs
   ·exact Qu _ (bR7 I N x h)
  ·exact Qu _ (bR7 I N x h)
theorem bVK:∀ (I:List Int) (N:List NQ),(bOW I N).length<=I.length/\(bP2 I N).length<=I.length
 |[],_=>by simp[bOW,bP2]
 |_::_,[]=>by simp[bOW,bP2]
 |k::I,y::N=>by
  obtain⟨a,b⟩:=bVK I N;unfold bOW bP2
  split<;>simp only[List.length_cons]<;>omega
theorem bSK:∀ (I:List Int) (N D:List NQ) (t:Is),(bNJ I N D t).s.d=t.s.d
 |[],_,_,_=>by simp[bNJ]
 |_::_,[],_,_=>by simp[bNJ]
 |k::I,x::N,D,t=>by
  have e:(bNZ k x (bP8 x D t.s) t).s.d=t.s.d:=by
   have a:(bP8 x D t.s).d=t.s.d:=by rw[bV0];split<;>simp[bL7]
   rw[<-a];unfold bNZ
   split<;>repeat' split
   all_goals simp[bL7]
  exact(bSK I N _ _).t e
def bXJ:List (Ns->Ns)->Ns->Ns
 |[],s=>s
 |G::r,s=>bXJ r (G s)
theorem bUK:∀ (Z:Zs) (s:Ns),bXK Z s=bXJ (Z.filterMap (·.2)) s
 |[],_=>rfl
 |(_,none)::Z,s=>bUK Z s
 |(_,some G)::Z,s=>bUK Z (G s)
structure RdN(s:ByteArray)(L:List NQ)(I A F:List Int)(S:List (ByteArray × Int))(FQ:List (Nat × Nat))(N:List NQ)(Gs:List (Ns->Ns)):Prop where
 few:A.length<=I.length/\F.length<=I.length
 itn:bZM L I N
 itq:bQQ L I S
 fnp:bT7 L S FQ F Gs 0
 fnq:bQ8 L F FQ
 ia:∀ x,bL8 x 1 S 0 < A.length
 if_:∀ x,bL8 x 2 S 0 < F.length
 arr:∀ x∈A,∃ n,Ndq L x n
 a:(bNJ I N [] ⟨[],[],⟨[],0,0,[]⟩⟩).A=A
 f:(bNJ I N [] ⟨[],[],⟨[],0,0,[]⟩⟩).F=F
 same:∀ u,u=bXJ Gs (bNJ I N [] ⟨[],[],⟨[],0,0,[]⟩⟩).s->((fO (rdT s) s.size).a=0/\(if bL8 rF 2 S 0 < 0 then u.E 4 s.size else u).a=0)\/((fO (rdT s) s.size).a≠0/\(fO (rdT s) s.size).a=(if bL8 rF 2 S 0 < 0 then u.E 4 s.size else u).a/\(fO (rdT s) s.size).e=(if bL8 rF 2 S 0 < 0 then u.E 4 s.size else u).e)
 main:(fO (rdT s) s.size).a=0->0<=bL8 rF 2 S 0/\mI (rdT s) (qV (rdT s)).toNat=some (FQ.getD (bL8 rF 2 S 0).toNat (0,0)).1
theorem bUN{s:ByteArray}(hz:s.size<=4000)(hc:(dN s).a=0)(j:(bP (aW s)).1.a=0){Q:List Tok}(c:Tw (aW s) Q):∃ A F S FQ N v,RdN s (bLI Q).L (bLI Q).c A F S FQ N v:=by
 have h:=(bNX c.small c.ends c.some j).1;have q:=(bQJ c).2.2 j;have K:∀ t:Tr,unl t=bCF t:=fun t=>by cases t<;>rfl
 rw[K]at q;obtain⟨Z,O,f,P,R,T,W,h7⟩:=bZ4 (S:=itL (bCF (rdT s))) (FQ:=fqL (rdT s)) _ _ _ _ (h.elems Oa) q;have hF:fqL (rdT s)=fqS (bCF (rdT s)):=cAO _ _ _;obtain⟨s1,s2⟩:=bVS (bLI Q).c (Z.map (·.1)) [] ⟨[],[],⟨[],0,0,[]⟩⟩;have k0:=bVT (Z.map (·.1)) (bLI Q).c Z [] ⟨[],[],⟨[],0,0,[]⟩⟩ rfl f.len.symm;have i:(s.size:Int)=(dD (aW s) ((aW s).length - 1)).e:=by simp[aW,dD]
 have u:∀ (x:ByteArray) (d:Int) (n:Nat),n=cnt d (itL (bCF (rdT s)))->bL8 x d (itL (bCF (rdT s))) 0 < n\/bL8 x d (itL (bCF (rdT s))) 0= -1:=fun x d n e=>by
  have:=bT1 x d (itL (bCF (rdT s))) 0 (Int.le_refl _);omega
 refine⟨bOW (bLI Q).c (Z.map (·.1)),bP2 (bLI Q).c (Z.map (·.1)),itL (bCF (rdT s)),fqL (rdT s),Z.map (·.1),Z.filterMap (·.2),bVK _ _,f,P,R,by rw[hF];exact h7,fun x=>?_,fun x=>?_,fun x hx=>?_,by rw[s1];rfl,by rw[s2];rfl,fun a2 hu=>?_,fun k=>?_⟩
 ·have:=u x 1 _ W;omega
 ·have:=u x 2 _ T;omega
 ·obtain⟨a1,hi⟩:=List.getElem?_of_mem (bR7 _ _ x hx);obtain⟨n,i,_⟩:=f.at_ a1 x hi;exact⟨n,i⟩
 ·refine bUT c.small c.ends (bWY hz hc) c.some j O i ?_;rw[hu,bUK,k0];rfl
 ·have hI:=aSQ h;have k:(fO (rdT s) s.size).a=0:=k
  have p:(eK (dB (rdT s)) (fC (rdT s)) rF).isSome:=by
   grind[fO,eK,dB,fC,rF,dX]
  rcases(bZT h).fn rF with⟨e,_⟩|⟨b,o,a,l,r,e,y,z⟩
  ·have e:eK (dB (rdT s)) (fC (rdT s)) rF=none:=e;rw[e]at p;cases p
  ·obtain⟨k1,k2⟩:=hI.fn _ _ _ _ _ _ e;refine⟨y,?_⟩
   have C:qV (rdT s)=a.c:=by
    have e:eK (dB (rdT s)) (fC (rdT s)) rF=_:=e;unfold qV;rw[e];rfl
   rw[C];exact k2.t (congrArg some z.symm)
variable {H O U gw cw:Nat} {T:List Tok} {st:QS} {Y C vI:Value} {V E:List V3} {w B w1 w2:World}
theorem PW.item(h:PW H O U gw cw T st Y vI V w)(a:Px O U C Y E V B w)(hi:∀ k,vI.ownBlock=some k->B.1.size<=k){x:Int}{g J:Nat}(n:w1.os=w.os/\w1.tape=w.tape/\w1.output=w.output/\w.1.size<=w1.1.size)(Z:∀ k,k < w.1.size->w1.1[k]?=w.1[k]?)(a3:w2.ownsRow H 3 1 (Qe g (st.c.length+1) J) (st.c.length+1) (bLU st.c++[Qc x]))(b:w1.grownBy w2 vI.ownBlock)(R:vI.ownBlock=some g\/g=w1.1.size):
 PW H O U gw cw T (bMM x st) Y (Qe g (st.c.length+1) J) V (w2.setCell ⟨U,1,none⟩ (Qe g (st.c.length+1) J))/\Px O U C Y E V B (w2.setCell ⟨U,1,none⟩ (Qe g (st.c.length+1) J))/\B.1.size<=g:=by
 have hsz:=a.size;have P:U < w.1.size:=(Oo h.prog);have old:∀ k,k < w.1.size->vI.ownBlock≠some k->w2.1[k]?=w.1[k]?:=fun k o a2=>(b.block k Oa Qg).t Qh;have l:∀ k,k < w.1.size->vI.ownBlock≠some k->k≠U->∀ u,(w2.setCell ⟨U,1,none⟩ u).1[k]?=w.1[k]?:=(by grind[Below.heap_setCell]);have K:vI.ownBlock≠some U:=bL5 h.its h.prog Ob
 have a1:g≠U:=by
  grind
 have Q:B.1.size<=g:=by
  grind
 have t:∀ {r v:Nat} {e:TypeId} {z:Value} {y:List Value},w.ownsRow H e v z r y->e≠3->e≠76->∀ u,(w2.setCell ⟨U,1,none⟩ u).ownsRow H e v z r y:=fun q p f u=>cD q (fun j d=>by
  obtain⟨⟨c,i⟩,_⟩:=bEH q d;exact l j Qg (bL5 h.its i Qg) (bEF i h.prog f) u)
 refine⟨⟨t h.words Ob Ob _,(l O h.lt_pb (bL5 h.its h.par Ob) (bEF h.par h.prog Ob) _).t h.par,aM _ ((old U P K).t h.prog),t h.nodes Ob Ob _,?_,h.c.move (fun j d=>?_),h.lt,h.few,h.ends,fun k o=>?_⟩,⟨b.os.t (n.1.t a.os),b.tape.t (n.2.1.t a.tape),b.output.t (n.2.2.1.t a.output),?_,fun k o p f N=>?_,a.row,a.used⟩,Q⟩
 ·show(w2.setCell _ _).ownsRow H 3 1 _ (st.c++[x]).length (bLU (st.c++[x]))
  grind[bLU,Value.ownBlock,List.length_append,cD,Below.heap_setCell]
 ·refine l j (h.used_lt d) (fun e=>h.off j e d) ?_ _;rintro rfl;obtain⟨⟨c,i⟩,_⟩:=h.c.typ d;rw[h.prog]at i
  grind
 ·have e:g=k:=by grind[Value.ownBlock]
  subst e;rcases R with e|e
  ·exact h.off g e
  ·exact fun W=>by have:=h.used_lt W;omega
 ·have:=b.size
  grind[World.setCell]
 ·exact(l k Oa (fun e=>by have:=hi k e;omega) f _).t (a.keep k o p f N)
theorem bZV{n g J k m:Nat}(h:m<=g)(a:(Qe g n J).ownBlock=some k):m<=k:=by
 grind[Value.ownBlock]
theorem bWM(h:PW H O U gw cw T ⟨0,0,0,0,[],[]⟩ (.slice none 0 0) (.slice none 0 0) [] w):
 Calls prog 61 #[Qd O] w fun e w'=>e= .returned (.tuple #[])/\∃ a6 a5 V',PW H O U gw cw T (bLI T) a6 a5 V' w'/\Px O U (.slice none 0 0) a6 [] V' w w'/\∀ k,a5.ownBlock=some k->w.1.size<=k:=by
 have a8:=h.few;have j0:bLS T ⟨0,0,0,0,[],[]⟩ 0 8:=by unfold bLS;simp;omega
 obtain⟨i0,j1,z9,z8,z5⟩:=info_parts info3;go_enter func61,ntmps61
 go_wp2_with fail
 go_loopg [] T.length (fun m wr=>∃ (R:QS) (a3 a2:Value) (Vr:List V3),PW H O U gw cw T R a3 a2 Vr wr/\Px O U (.slice none 0 0) a3 [] Vr w wr/\(∀ k,a2.ownBlock=some k->w.1.size<=k)/\bKZ T R<=m/\R.c.length+m<=T.length/\bLS T R 0 8/\bLD T (qB T) m R=bLI T)
 case atStart=>exact⟨_,_,_,_,h,Px.refl _ _ _ _ _,(fun k p=>by cases p),bNA T _,Od,j0,rfl⟩
 case round=>
  obtain⟨R,a3,a2,Vr,P,xc,hi,hm,z3,z0,k9⟩:=hrel;have HR:Hid (bLD T (qB T) gk R=bLI T):=k9;obtain⟨p0,p1,_,p3,_,_,_⟩:=P.cells;obtain⟨x0,_,_,_⟩:=P.w4;have b2:=P.lt;have a9:0<=(R.i:Int)/\(R.i:Int) < (T.length:Int):=Oa
  clear k9 h j0
  by_cases j:R.a=0/\(dD T R.i).d≠0
  ·have t0:(R.a==0)=true:=by simp[j.1]
   have k0:((dD T R.i).d !=0)=true:=by simp[j.2]
   obtain⟨m,rfl⟩:∃ m,gk=m+1:=⟨gk - 1,by
    unfold bKZ at hm;rw[if_pos j.1]at hm;omega⟩
   have y2:bKZ T (bKV T R)<=m:=by
    unfold bKZ at hm ⊢;rw[if_pos j.1]at hm
    split
    ·rw[bMK T R j.2];omega
    ·exact Qn _
   have y1:(bKV T R).i < T.length->bLS T (bKV T R) 0 16:=fun hl=>by
    unfold bLS at z0 ⊢;rw[bMK T R j.2]at hl ⊢;rw[bKY];omega
   have HS:Hid ((if qat T R bYL=true then bLD T (qB T) m (bMM (bOE T (bKV T R)).2 (bOE T (bKV T R)).1)
    else if qat T R bY7=true then bLD T (qB T) m (bMM (bNG T (qB T) (bKV T R)).2 (bNG T (qB T) (bKV T R)).1)
    else bLD T (qB T) m (bLH T R))=bLI T):=by
    rw[Hid,<-HR.o];exact(if_pos j).symm
   clear HR hm;go_upto_region 0 with fail
   go_quiet (fail)
   go_wp2_with fail
   refine(bNE bYL (P.drewN _)).mono ?_;rintro e w2 ⟨rfl,n2,rfl⟩;go_wp2_with fail
   refine(bNE bY7 (P.drewN _)).mono ?_;rintro e w3 ⟨rfl,n3,rfl⟩;have h3:=P.drewN (nq+n2+n3);have y3:=xc.drewN (nq+n2+n3);clear P xc p0 p1 p3 x0 t0 k0;cases hb1:qat T R bYL
   ·cases hb2:qat T R bY7
    ·
      have HT:Hid (bLD T (qB T) m (bLH T R)=bLI T):=by
       have:=HS.o;rw[hb1,hb2]at this;exact this
      have u:bKZ T (bLH T R)<=m:=by
       unfold bKZ;rw[if_neg (by unfold bLH;rw[if_pos j.1];simp)];exact Qn _
      have Q:(bLH T R).c=R.c:=(Gr.E T R).c;clear HS j y2 y1;go_wp2_with fail
      refine(bPA h3).mono ?_;rintro e w4 ⟨rfl,q,W⟩
      have r:bLS T (bLH T R) 0 8:=by
       have:=z0.gr (Gr.E T R) (Nat.le_of_lt q.lt) Oa;unfold bLS at this ⊢;omega
      go_wp2;go_roundg m
      case rel=>exact⟨_,_,_,_,q,y3.t (Px.I W),hi,u,by rw[Q];omega,r,HT.o⟩
      case measure=>omega
    ·
      have y9:Hid (bLD T (qB T) m (bMM (bNG T (qB T) (bKV T R)).2 (bNG T (qB T) (bKV T R)).1)=bLI T):=by
       have:=HS.o;rw[hb1,hb2]at this;exact this
      have Q:(bNG T (qB T) (bKV T R)).1.c=R.c:=(bRH (bY6 T) (T:=T) (bKV T R)).c.t (Gr.b T R).c;clear HS j;go_wp2_with fail
      refine(bMS h3).mono ?_;rintro e w4 ⟨rfl,q,W⟩;unfold Tok.g;have y4:=y3.t (Px.I W);have k7:=y1 q.lt;have y0:bLS T (bKV T R) 0 8:=by unfold bLS at k7 ⊢;omega
      have N:=bRH (bY6 T) (T:=T) (bKV T R);clear h3 y3 W y1 z0;generalize bKV T R=i at*;go_wp2_with fail
      refine(bUX 40000 Ol (qB T) (bY6 T) bWU i _ _ _ 0 Oa q y0).mono ?_;rintro e c ⟨rfl,a1,V8,a,x8⟩;have K:=y4.t x8
      have r:bLS T (bNG T (qB T) i).1 0 8:=by
       have:=k7.gr N (Nat.le_of_lt a.lt) Oa;unfold bLS at this ⊢;omega
      have u:bKZ T (bNG T (qB T) i).1<=m:=Qm (N.need (T:=T)) y2;clear q y4 x8 N k7 y0 y2;generalize (bNG T (qB T) i).2=f at*;generalize (bNG T (qB T) i).1=b at*;have HT:Hid (bLD T (qB T) m (bMM f b)=bLI T):=y9;have u:bKZ T (bMM f b)<=m:=u;have r:bLS T (bMM f b) 0 8:=r;rw[<-Q]at z3;clear y9 Q;obtain⟨l,o,rfl,_⟩:=eQ a.its;have h9:=a.lt_pb;have z:U < c.1.size:=(Oo a.prog);obtain⟨_,_,_,_,_,p5,_⟩:=a.cells;have Z:c.cell? ⟨U,1,none⟩=some (.slice l b.c.length o):=Og a.prog rfl
      have f1:c.frozen? ⟨U,1,none⟩=false:=by simp[World.frozen?,a.prog]
      have j5:=a.T;have k8:=a.its;have ag:some U≠(Value.slice l b.c.length o).ownBlock:=fun e=>bL5 a.its a.prog Ob e.symm;have ap:some O≠(Value.slice l b.c.length o).ownBlock:=fun e=>bL5 a.its a.par Ob e.symm;have z1:(c.alloc (Qf #[Qc f] 3)).drew.1[c.1.size]?=some (Qf #[Qc f] 3):=Qk c _;have hP:Hid (PW H O U gw cw T b a1 (.slice l b.c.length o) V8 c/\Px O U (.slice none 0 0) a1 [] V8 w c/\(∀ k,(Value.slice l b.c.length o).ownBlock=some k->w.1.size<=k)):=⟨a,K,hi⟩;clear a K hi;go_upto_region 14 with fail
      go_region_law
       ((refine step_append_lies _ (by rfl) _ _ _ (by rfl) H 3 i0 _ 1 8 underlying70 j1 z9 z8 z5 rfl Oa (.slice l b.c.length o) b.c.length (bLU b.c) (by rfl) ((k8.alloc _).drew)
          ⟨c.1.size,0,none⟩ 1 1 [Qc f] (by rfl) (by rfl) (World.news_of_block (cs:=#[Qc f]) (t:=3) (fr:=(0,0)) z1) (by simp[Value.oneCell'])
          Oa (by unfold maxLen;omega) Oa (by simp;omega) (c.1.size+1) Od ?_;intro gg J w1 k2 y z4 z2;have q1:=(y.cell_far ⟨O,5,none⟩ (kO h9) ap).t (sS h9 p5);have q2:=(y.cell_far ⟨U,1,none⟩ (kO z) ag).t (sS z Z);have q3:=(y.frozen_far ⟨U,1,none⟩ (kO z) ag).t (xB z f1)))
      all_goals go_wp2
      all_goals go_roundg m
      all_goals first
       |omega
       |(obtain⟨a,K,hi⟩:=hP.o
        obtain⟨Z,g2,g3⟩:=a.item K hi (x:=f) (w1:=(c.alloc (Qf #[Qc f] 3)).drew) ⟨rfl,rfl,rfl,by simp[World.drew]⟩ (fun _ p=>On p) k2 y (z4.imp id (fun e=>e.t (by simp[World.drew])));exact⟨bMM f b,_,_,_,Z,g2,(fun k p=>bZV g3 p),u,by simp[bMM];omega,r,HT.o⟩)
   ·
     have y9:Hid (bLD T (qB T) m (bMM (bOE T (bKV T R)).2 (bOE T (bKV T R)).1)=bLI T):=by
      have:=HS.o;rw[hb1]at this;exact this
     have Q:(bOE T (bKV T R)).1.c=R.c:=(bRI (T:=T) (bKV T R)).c.t (Gr.b T R).c;clear HS j;go_wp2_with fail
     refine(bMS h3).mono ?_;rintro e w4 ⟨rfl,q,W⟩;unfold Tok.g;have y4:=y3.t (Px.I W);have k7:=y1 q.lt;have N:=bRI (T:=T) (bKV T R);have HA:Hid (bOE T (bKV T R)=(bL2 {d:=1,at_:=(bL9 T 1 (bKV T R)).e,s:=(bL9 T 1 (bKV T R)).f,n:=(bL9 T 2 (bL6 T 1 (bKV T R))).a,mid:=(bL9 T 2 (bL6 T 1 (bKV T R))).e} (bL1 T bOA (bL6 T 2 (bL6 T 1 (bKV T R)))),((bL1 T bOA (bL6 T 2 (bL6 T 1 (bKV T R)))).L.length:Int))):=rfl;clear h3 y3 W y1 z0;generalize bKV T R=i at*;go_wp2_with fail
     refine(bPT 1 q).mono ?_;rintro e w5 ⟨rfl,h5,e5⟩;have y5:=(y4.t (Px.I e5)).alloc (bLM (bL9 T 1 i));have j3:=h5.alloc (bLM (bL9 T 1 i));have o5:=h5.fresh Ol;have q5:(w5.alloc (bLM (bL9 T 1 i))).1[w5.1.size]?=some (Qf #[Qc (bL9 T 1 i).d,Qc (bL9 T 1 i).e,.string (bL9 T 1 i).f,Qc (bL9 T 1 i).a] 220):=Qk w5 _;clear q y4 e5 h5;generalize bL6 T 1 i=v at*;generalize bL9 T 1 i=t1 at*;unfold Tok.g;go_wp2_with fail
     refine(bPT 2 j3).mono ?_;rintro e w6 ⟨rfl,h6,e6⟩;have a7:(w5.alloc (bLM t1)).1.size=w5.1.size+1:=Od
     have q6:=(e6.block w5.1.size Oa o5.p).t q5;have y6:=(y5.t (Px.I e6)).alloc (bLM (bL9 T 2 v));have j2:=h6.alloc (bLM (bL9 T 2 v));have o6:=h6.fresh Ol;have z6:(w6.alloc (bLM (bL9 T 2 v))).1[w6.1.size]?=some (Qf #[Qc (bL9 T 2 v).d,Qc (bL9 T 2 v).e,.string (bL9 T 2 v).f,Qc (bL9 T 2 v).a] 220):=Qk w6 _;have a4:=(Below.heap_alloc w6 (bLM (bL9 T 2 v)) w5.1.size (Oo q6)).t q6;clear j3 y5 e6 q5 h6 q6 a7;generalize bL6 T 2 v=s6 at*;generalize bL9 T 2 v=t2 at*;unfold Tok.g;go_wp2_with fail
     refine(bNY bOA j2).mono ?_;rintro e w7 ⟨rfl,h7,e7⟩;have q7:=(e7.block _ (Oo a4) o5.p).t a4;have z7:=(e7.block _ (Oo z6) o6.p).t z6;have y7:=y6.t (Px.I e7);obtain⟨_,l1,l2,_,_⟩:=dG q7;obtain⟨_,k1,_,k3,_⟩:=dG z7
     have j6:(bL1 T bOA s6).L.length<=200000:=by
      have:=N.room;rw[HA.o]at this;have b1:=h7.lt;simp only[bL2,List.length_append,List.length_cons,List.length_nil]at this;unfold bLS at k7;omega
     clear j2 y6 e7 a4 z6 o5 o6 q7 z7;generalize bL1 T bOA s6=s7 at*;go_wp2_with fail
     refine(bOI {d:=1,at_:=t1.e,s:=t1.f,n:=t2.a,mid:=t2.e} v0 h7 (NdW.none rfl rfl rfl) (fun k _=>bP7 k) j6).mono ?_;rintro e c ⟨rfl,a1,a,x8⟩;have K:=(y7.t x8).more (fun k p=>absurd p (bP7 k));have u:bKZ T (bOE T i).1<=m:=Qm (N.need (T:=T)) y2
     have r:bLS T (bOE T i).1 0 8:=by
      have:=k7.gr N (by rw[HA.o];exact Nat.le_of_lt a.lt) Oa;unfold bLS at this ⊢;omega
     clear h7 y7 x8 N k7 y2 l1 l2 k1 k3;rw[HA.o]at u r Q
     have j4:Hid (bLD T (qB T) m (bMM (s7.L.length:Int) (bL2 {d:=1,at_:=t1.e,s:=t1.f,n:=t2.a,mid:=t2.e} s7))=bLI T):=by
      have:=y9.o;rw[HA.o]at this;exact this
     clear y9 HA;generalize (bL2 {d:=1,at_:=t1.e,s:=t1.f,n:=t2.a,mid:=t2.e} s7)=b at*;generalize (s7.L.length:Int)=f at*;generalize j8:Vr++[v0]=V8 at*;have HT:Hid (bLD T (qB T) m (bMM f b)=bLI T):=j4;have u:bKZ T (bMM f b)<=m:=u;have r:bLS T (bMM f b) 0 8:=r;rw[<-Q]at z3;clear j4 Q j8;obtain⟨l,o,rfl,_⟩:=eQ a.its;have h9:=a.lt_pb;have z:U < c.1.size:=(Oo a.prog);obtain⟨_,_,_,_,_,p5,_⟩:=a.cells;have Z:c.cell? ⟨U,1,none⟩=some (.slice l b.c.length o):=Og a.prog rfl
     have f1:c.frozen? ⟨U,1,none⟩=false:=by simp[World.frozen?,a.prog]
     have j5:=a.T;have k8:=a.its;have ag:some U≠(Value.slice l b.c.length o).ownBlock:=fun e=>bL5 a.its a.prog Ob e.symm;have ap:some O≠(Value.slice l b.c.length o).ownBlock:=fun e=>bL5 a.its a.par Ob e.symm;have z1:(c.alloc (Qf #[Qc f] 3)).drew.1[c.1.size]?=some (Qf #[Qc f] 3):=Qk c _;have hP:Hid (PW H O U gw cw T b a1 (.slice l b.c.length o) V8 c/\Px O U (.slice none 0 0) a1 [] V8 w c/\(∀ k,(Value.slice l b.c.length o).ownBlock=some k->w.1.size<=k)):=⟨a,K,hi⟩;clear a K hi;go_upto_region 10 with fail
     go_region_law
      ((refine step_append_lies _ (by rfl) _ _ _ (by rfl) H 3 i0 _ 1 8 underlying70 j1 z9 z8 z5 rfl Oa (.slice l b.c.length o) b.c.length (bLU b.c) (by rfl) ((k8.alloc _).drew)
         ⟨c.1.size,0,none⟩ 1 1 [Qc f] (by rfl) (by rfl) (World.news_of_block (cs:=#[Qc f]) (t:=3) (fr:=(0,0)) z1) (by simp[Value.oneCell'])
         Oa (by unfold maxLen;omega) Oa (by simp;omega) (c.1.size+1) Od ?_;intro gg J w1 k2 y z4 z2;have q1:=(y.cell_far ⟨O,5,none⟩ (kO h9) ap).t (sS h9 p5);have q2:=(y.cell_far ⟨U,1,none⟩ (kO z) ag).t (sS z Z);have q3:=(y.frozen_far ⟨U,1,none⟩ (kO z) ag).t (xB z f1)))
     all_goals go_wp2
     all_goals go_roundg m
     all_goals first
      |omega
      |(obtain⟨a,K,hi⟩:=hP.o
       obtain⟨Z,g2,g3⟩:=a.item K hi (x:=f) (w1:=(c.alloc (Qf #[Qc f] 3)).drew) ⟨rfl,rfl,rfl,by simp[World.drew]⟩ (fun _ p=>On p) k2 y (z4.imp id (fun e=>e.t (by simp[World.drew])));exact⟨bMM f b,_,_,_,Z,g2,(fun k p=>bZV g3 p),u,by simp[bMM];omega,r,HT.o⟩)
  ·have HF:Hid (bLI T=R):=by
    rw[Hid,<-HR.o];cases gk
    ·rfl
    ·exact if_neg j
   have j7:(R.a==0)=false\/((R.a==0)=true/\((dD T R.i).d !=0)=false):=by
    by_cases h0:R.a=0
    ·exact .r ⟨by simp[h0],by simpa using fun e=>j ⟨h0,e⟩⟩
    ·exact .l (by simp[h0])
   clear j hm HR z3;rcases j7 with t0|⟨t0,k0⟩
   all_goals
    go_upto_region 0 with fail
    go_quiet (fail)
    go_wp2;go_end0
    rw[HF.o];exact⟨rfl,a3,a2,Vr,P.drewN _,xc.drewN _,hi⟩
end
end Go.Proofs.YtikffmloeifkpaaGreatDoor
