/- Contracts. -/
import Derived.Test.YtikffmloeifkpaaGreatDoorR09
import Derived.Test.YtikffmloeifkpaaGreatDoorR05
namespace Go.Proofs.YtikffmloeifkpaaGreatDoor
open Go.RowKit Go.Lib Go.Deep Tryz
structure aGY(T:List Tok)(g J:Nat)(w:World):Prop where
 row:∃ cur,w.1[g]?=some (.cells cur 143 (0,0))/\cur.toList.take (T.length*4)=fJ T
 cap_:T.length<=J
 few:T.length<=5000
 e:0 < T.length
 last:cY T
 vals:∀ t∈T,0<=t.a/\t.a<=999999999
theorem Prg.tree{T:List Tok}{g J b O:Nat}{i w:World}{v:Value}{c:Tr}{U:Rd}(h:Prg T g J b O i v c U w):∃ t,bCH t=v/\er t=bM3 (er c)/\New i.1.size w t/\dV O t:=by
 cases hac:c with
 |nil=>exact⟨.nil,(h.nil hac).symm,rfl,New.nil _ _,trivial⟩
 |node b1 o1 a1 x1 q1=>
  have f:c≠ .nil:=Qh
  rw[<-hac];have own:=h.own;obtain⟨ao,d,rfl,j⟩:=eQ own;rcases j with k|⟨e,rfl⟩
  ·grind[uO]
  refine⟨.node e d {a:=20} c .nil,rfl,?_,New.listed f h.sized h.new (by rw[h.typ f];exact own),⟨h.nip,trivial,fun _=>(h.own_ne rfl).2.2⟩⟩;show er (.node e d {a:=20} c .nil)=bM3 (er c);rw[hac];rfl
def aU9(T:List Tok)(w:World):Ending->World->Prop:=fun e w'=>Below w.1.size w w'/\
 (((bP T).1.a≠0/\e= .returned (.tuple #[.pointer none,.agg #[Qc (bP T).1.a,Qc (bP T).1.e]]))\/
  ((bP T).1.a=0/\∃ O t,e= .returned (.tuple #[Qd O,.agg #[Qc 0,Qc 0]])/\w.1.size<=O/\w'.1[O]?=some (.cells (qW (bCH t)) 111 (0,0))/\
     er t=(bP T).2/\New w.1.size w' t/\dV O t))
set_option maxRecDepth 100000 in
set_option maxHeartbeats 4000000 in
theorem aL2(T:List Tok)(g J:Nat)(w:World)(h:aGY T g J w):
 Calls prog 42 #[Qe g T.length J] w (aU9 T w):=by
 obtain⟨S,n,C⟩:=h.row;have I:g < w.1.size:=(Oo n);have r:(w.alloc (Qf #[Qc 0,Qc 0] 37)).1.size=w.1.size+1:=Od
 have k:RdW T g J (w.1.size+1) rd0 ((w.alloc (Qf #[Qc 0,Qc 0] 37)).alloc (Qf #[Qe g T.length J,Qc 0,Qc 0,Qc 0,Qc 0] 145)):=by
  refine⟨?_,⟨S,?_,C⟩,h.cap_,h.few,h.e,h.last,h.vals⟩
  ·rw[<-r];exact Qk _ _
  ·exact(On (by rw[r];omega)).t ((On I).t n)
 have f:Below w.1.size w ((w.alloc (Qf #[Qc 0,Qc 0] 37)).alloc (Qf #[Qe g T.length J,Qc 0,Qc 0,Qc 0,Qc 0] 145)):=
  ((Below.refl _ _).alloc Ol _).alloc Od _
 have M:((w.alloc (Qf #[Qc 0,Qc 0] 37)).alloc (Qf #[Qe g T.length J,Qc 0,Qc 0,Qc 0,Qc 0] 145)).1[w.1.size]?=some (Qf #[Qc 0,Qc 0] 37):=
  (On (by rw[r];omega)).t (Qk w _)
 have m:w.1.size≠w.1.size+1:=Oa
 have a2:=h.few;have z:=h.last;clear n C I;go_enter func42,ntmps42
 go_wp2_with fail
 generalize (w.alloc (Qf #[Qc 0,Qc 0] 37)).alloc (Qf #[Qe g T.length J,Qc 0,Qc 0,Qc 0,Qc 0] 145)=c at*;refine(aDU T g J (w.1.size+1) (bY T) (iH T (bY T) 6) rd0 c (aJD T z g J _ (bY T) 6 Ob) (bM1 z _ _) ((aDI _ 6).2.2.1 rfl) k (by unfold bY;omega) (by unfold bY;omega) rfl).mono ?_;rintro e b ⟨v,R,rfl,B,a⟩;have Q:Hid (er R=(aJ T (iH T (bY T) 6) (bY T) (bY T) rd0).2):=B;have G:(bP T).1=(aJ T (iH T (bY T) 6) (bY T) (bY T) rd0).1:=rfl;rw[<-G]at a;have q:=(a.ex.block w.1.size (Oo M) m).t M;have l:Below w.1.size w b:=f.t ⟨a.ex.os,a.ex.tape,a.ex.output,a.ex.size,fun X hk=>a.ex.block X (Oi f.size) Oa⟩;have F:=f.size;have A:Hid (w.1.size+1 < c.1.size):=k.size;have i:=a.rd;have U:=i.c3;have g4:=i.c4;have N:b.cell? ⟨w.1.size,0,none⟩=some (Qc 0):=Og q rfl
 have O:b.cell? ⟨w.1.size,1,none⟩=some (Qc 0):=Og q rfl
 have z0:∀ o,b.frozen? ⟨w.1.size,o,none⟩=false:=fun o=>by simp[World.frozen?,q]
 have z1:∀ o,b.frozen? ⟨w.1.size+1,o,none⟩=false:=i.froz;have y:Hid _:=a;have Z:Hid _:=m;clear a i G B m k f
 by_cases d:(bP T).1.a=0
 ·have j:Hid ((bP T).1.a=0):=d;rw[d]at U;go_wp2;obtain⟨s,u⟩:=dQ (w:=b) (u0:= Qc 0) (u1:= Qc 0) N O;refine bodyPost_ret (v:= .tuple #[Qd c.1.size,.agg #[Qc 0,Qc 0]]) (by simp[results,results42,go_sem,s,u]) rfl ?_;obtain⟨t,W,V,H,Y⟩:=y.o.tree;have a:=y.o;have l2:=(Oo a.blk);have E:w.1.size≠c.1.size:=by have:=A.o;omega
  refine⟨(l.setCell Ol _).setCell Ol _,.r ⟨j.o,c.1.size,t,rfl,F,?_,?_,?_,Y⟩⟩
  ·rw[W];exact(Om E.symm).t ((Om E.symm).t a.blk)
  ·rw[V,Q.o];rfl
  ·have D:dV w.1.size t:=H.fresh.notIn (Oi A.o);exact((H.mono F).set D _ _).set D _ _
 ·have a1:((bP T).1.a !=0)=true:=by simpa using d
  have j:Hid ((bP T).1.a≠0):=d;clear d;generalize L:(bP T).1.a=c3 at*;generalize K:(bP T).1.e=c4 at*;have x:Hid ((bP T).1.a=c3):=L;have P:Hid ((bP T).1.e=c4):=K;clear L K;go_wp2_with fail
  go_region
  all_goals go_wp2
  all_goals obtain⟨s,u⟩:=dQ (w:=b) (u0:= Qc c3) (u1:= Qc c4) N O
  all_goals (refine bodyPost_ret (v:= .tuple #[.pointer none,.agg #[Qc c3,Qc c4]]) (by simp[results,results42,go_sem,s,u]) rfl ⟨?_,Or.l ⟨?_,?_⟩⟩)
  all_goals first|(rw[x.o];exact j.o)|(rw[x.o,P.o])|exact(Qv (p:=⟨w.1.size,1,none⟩) (Qv (p:=⟨w.1.size,0,none⟩) l Ol _) Ol _).drew|exact Qv (p:=⟨w.1.size,1,none⟩) (Qv (p:=⟨w.1.size,0,none⟩) l.drew Ol _) Ol _
def sig(s n:Nat):Option (Nat × Nat):=
 if s=0 then(if n<=1 then some (99,99)else if n=2 then some (0,99)else if n=3 then some (3,99)else if n<=5 then some (0,99)else if n=6 then some (0,0)else none)
 else if s=1 then(if n=7 then some (0,0)else if n=8 then some (1,1)else none)
 else if s=2 then(if n=9 then some (0,99)else if n=10 then some (0,0)else if n=11 then some (1,9)else if n=12 then some (1,4)else if n=13\/n=14 then some (0,99)else none)
 else if s=9 then(if n=18 then some (4,4)else none)
 else if s=3\/s=4\/s=5\/s=6\/s=8 then(if n=20 then some (10+s,99)else none)
 else if s=13 then(if n=15 then some (0,13)else none)
 else if s=14 then(if n=15 then some (2,14)else none)
 else if s=15 then(if n=15 then some (20,15)else none)
 else if s=16 then(if n=15 then some (22,16)else none)
 else if s=18 then(if n=15 then some (7,18)else none)
 else if s=20 then(if n=7 then some (21,21)else none)
 else if s=21 then(if n<=1 then some (99,99)else none)
 else if s=22 then(if n=19 then some (99,99)else none)
 else if s=7 then(if n=16 then some (99,99)else if n=17 then some (6,23)else none)
 else if s=23 then(if n=18 then some (5,4)else none)
 else none
def bK(s:Nat):Prop:=s=99\/s=3\/s=4\/s=5\/s=6\/s=8\/s=13\/s=14\/s=15\/s=16\/s=18
structure OkA(a:Nd):Prop where
 h:a.h.size<=4000
 g:a.a=0\/a.a=16->-999999999<=a.g/\a.g<=999999999
 val0:a.a=16->0<=a.g
 op6:a.a=6->27<=a.op/\a.op<=31
 op7:a.a=7->21<=a.op/\a.op<=26
 op8:a.a=8->a.op=32\/a.op=33
def Ws:Nat->Tr->Prop
 |s,.nil=>bK s
 |s,.node _ _ a l r=>OkA a/\(a.a=20->aO l<=10000)/\match sig s a.a with
  |none=>False
  |some (x,y)=>Ws x l/\Ws y r
theorem Ws.of20{s x y b o:Nat}{a:Nd}{l r:Tr}(h:sig s a.a=some (x,y))(d:OkA a)(c:a.a=20->aO l<=10000)(e:Ws x l)(f:Ws y r):Ws s (.node b o a l r):=by
 grind[Ws]
theorem Ws.of{s x y b o:Nat}{a:Nd}{l r:Tr}(h:sig s a.a=some (x,y))(d:OkA a)(e:Ws x l)(f:Ws y r)(c:a.a≠20:=by simp):Ws s (.node b o a l r):=
 (by grind[Ws.of20])
theorem Ws.len{s b o:Nat}{a:Nd}{l r:Tr}(c:Ws s (.node b o a l r))(h:a.a=20):aO l<=10000:=by
 grind[Ws]
theorem Ws.X:Ws 99 .nil:= .l rfl
theorem Ws.er:∀ (t:Tr) (s:Nat),Ws s (YtikffmloeifkpaaGreatDoor.er t)↔Ws s t:=by
 intro t
 induction t with
 |nil=>intro s;rfl
 |node b o a l r ihl ihr=>
  intro s;show(OkA a/\_/\_)↔(OkA a/\_/\_)
  grind[sig,aHY]
def eO(n:Nat):Bool:=n==1||n==2||n==3||n==9||n==10||n==16||n==17||n==19
def ps:Tr->List Int
 | .nil=>[]
 | .node _ _ a l r=>if a.a=6 then ps l++a.e::ps r else if eO a.a then a.b::(ps l++ps r)else ps l++ps r
theorem aRP(t:Tr):ps (er t)=ps t:=by
 induction t with
 |nil=>rfl
 |node b o a l r ihl ihr=>grind[er,ps]
variable {T:List Tok}
def Sg(T:List Tok)(i j:Nat)(l:List Int):Prop:=i<=j/\∃ ix:List Nat,l=ix.map (fun k=>(dD T k).e)/\ix.Pairwise (·< ·)/\∀ x∈ix,i<=x/\x < j
theorem Sg.nil{i j:Nat}(h:i<=j):Sg T i j []:=⟨h,[],rfl,.nil,fun _ h=>by cases h⟩
theorem Sg.one(i:Nat):Sg T i (i+1) [(dD T i).e]:=⟨Oa,[i],rfl,Od,Od⟩
theorem Sg.app{i j k:Nat}{l m:List Int}(c:Sg T i j l)(d:Sg T j k m):Sg T i k (l++m):=by
 obtain⟨n,g,rfl,e,s⟩:=c;obtain⟨o,h,rfl,f,t⟩:=d;refine⟨Oa,g++h,Od,List.pairwise_append.2 ⟨e,f,fun a p b q=>?_⟩,fun x r=>?_⟩
 ·grind
 grind
theorem Sg.mono{i j K j':Nat}{l:List Int}(h:Sg T i j l)(f:K<=i)(g:j<=j'):Sg T K j' l:=by
 obtain⟨e,d,rfl,b,c⟩:=h;exact⟨Oa,d,rfl,b,fun x a=>Oi (c x a)⟩
structure eF(T:List Tok):Prop where
 f:∀ t∈T,t.f.size<=4000
 vals:∀ t∈T,0<=t.a/\t.a<=999999999
 few:T.length<=5000
theorem eF.at(h:eF T)(i:Nat):(dD T i).f.size<=4000/\0<=(dD T i).a/\(dD T i).a<=999999999:=by
 rcases Qt i T.length with hi|hi
 ·have:=Qr (lJ hi);exact⟨h.f _ this,h.vals _ this⟩
 ·have:dD T i=aD6:=by grind[dD]
  rw[this];trivial
theorem OkA.mk_{a:Nd}(g:a.h=ByteArray.mk #[]\/∃ i,a.h=(dD T i).f)(f:eF T)(j:-999999999<=a.g/\a.g<=999999999)(b:a.a=16->0<=a.g)(c:a.a=6->27<=a.op/\a.op<=31)(d:a.a=7->21<=a.op/\a.op<=26)(e:a.a=8->a.op=32\/a.op=33):OkA a:=by
 refine⟨?_,Oa,b,c,d,e⟩;rcases g with h|⟨i,h⟩
 ·rw[h];decide
 ·rw[h];exact(f.at i).1
theorem mS{n:Nat}{r:Rd}{c p:Int}(a:c≠0):(r.fail n c p).a≠0:=by
 grind[Rd.fail]
theorem bR{r:Rd}{O:List Int}(h:(r.take T O).a=0):r.a=0/\aN T r O=true/\(r.take T O).b=r.b+1/\cN T r O=dD T r.b:=by
 unfold Rd.take at h ⊢
 by_cases a:aN T r O=true
 ·rw[if_pos a]at h ⊢;exact⟨h,a,rfl,by grind[cN]⟩
 grind[mS]
theorem aH6{r:Rd}{O:List Int}(h:aN T r O=true):(cN T r O).d∈O:=by
 grind[cN,aN,aQ]
theorem pE{r:Rd}{O:List Int}(h:(r.C T O).a=0):r.a=0:=by
 unfold Rd.C at h
 by_cases a:aN T r O=true
 ·rw[if_pos a]at h;exact h
 grind
theorem uH(r:Rd)(O:List Int):r.b<=(r.C T O).b:=by
 unfold Rd.C
 split
 ·show r.b<=r.b+1;omega
 omega
theorem wN{n:Nat}{r:Rd}{p:Int}(h:(r.M n p).a=0):r.a=0/\(r.M n p).b=r.b:=by
 grind[Rd.M,mS]
theorem mR{r:Rd}{O:List Int}(h:(r.B T O).a=0):r.a=0/\(r.B T O).b=r.b+1:=by
 obtain⟨a,b⟩:=wN h;obtain⟨c,_,d,_⟩:=bR a;exact⟨c,b.t d⟩
theorem pV{r:Rd}{k:Int}(h:(r.H T k).a=0):r.a=0/\(r.H T k).b=r.b+1:=by
 obtain⟨a,_,b,_⟩:=bR (r:=r) h;trivial
def Ok(T:List Tok)(s:Nat)(S:Pr):Prop:=∀ r,r.b < T.length->(S r).1.a=0->r.a=0/\Ws s (S r).2/\Sg T r.b (S r).1.b (ps (S r).2)
theorem aJM(C:eF T)(u:cY T){S:Pr}(s:aZ T S)(t:Ok T 0 S){G:List Int}(D:∀ k∈G,27<=k/\k<=31)(h:aQ G 0=false):∀ n r v,r.b < T.length->(bCL T S G n r v).1.a=0->
 r.a=0/\∀ i,Ws 0 v->Sg T i r.b (ps v)->Ws 0 (bCL T S G n r v).2/\Sg T i (bCL T S G n r v).1.b (ps (bCL T S G n r v).2):=by
 intro n
 induction n with
 |zero=>intro r v _ a;exact⟨a,fun i f d=>Qj⟩
 |succ n ih=>
  intro r v w a;unfold bCL at a ⊢
  by_cases z:aN T r G=true
  ·rw[if_pos z]at a ⊢;have b:=aP u w h;have g:=s _ b.lt;obtain⟨j,q⟩:=ih _ _ g.lt a;obtain⟨l,m,c⟩:=t _ b.lt j;obtain⟨o,A,p,B⟩:=bR l;refine⟨o,fun i f d=>q i (Ws.of (x:=0) (y:=0) rfl (by grind[OkA.mk_,aH6]) f m) ?_⟩;show Sg T i _ (if(6:Nat)=6 then _ else _);rw[if_pos rfl];rw[p]at c;have e:=(d.app (Sg.one r.b)).app c
   grind
  grind
theorem aDX(l:eF T)(o:cY T){S:Pr}(a:aZ T S)(b:Ok T 0 S){G:List Int}(j:∀ k∈G,27<=k/\k<=31)(d:aQ G 0=false)(n:Nat):Ok T 0 (lA T S G n):=by
 intro r c m;obtain⟨e,i⟩:=aJM l o a b j d n _ _ (a r c).lt m;obtain⟨f,g,h⟩:=b r c e;exact⟨f,i _ g h⟩
theorem vX(t:eF T)(p:cY T){S:Pr}(m:aZ T S)(o:Ok T 1 S){op:Int}(u:op=32\/op=33)(f:aQ [op] 0=false):∀ n r v,r.b < T.length->(bM8 T S op n r v).1.a=0->
 r.a=0/\∀ i,Ws 1 v->Sg T i r.b (ps v)->Ws 1 (bM8 T S op n r v).2/\Sg T i (bM8 T S op n r v).1.b (ps (bM8 T S op n r v).2):=by
 intro n
 induction n with
 |zero=>intro r v _ a;exact⟨a,fun i d c=>Qj⟩
 |succ n ih=>
  intro r v q a;unfold bM8 at a ⊢
  by_cases s:aN T r [op]=true
  ·rw[if_pos s]at a ⊢;have b:=dU p q f;have e:=m _ b.lt;obtain⟨g,l⟩:=ih _ _ e.lt a;obtain⟨h,j,k⟩:=o _ b.lt g;refine⟨pE h,fun i d c=>l i (Ws.of (x:=1) (y:=1) rfl (by grind[OkA.mk_]) d j) ?_⟩;exact c.app (k.mono (uH _ _) Oa)
  grind
theorem aDW(k:eF T)(m:cY T){S:Pr}(a:aZ T S)(b:Ok T 1 S){op:Int}(j:op=32\/op=33)(d:aQ [op] 0=false)(n:Nat):Ok T 1 (kK T S op n):=by
 intro r c l;obtain⟨e,i⟩:=vX k m a b j d n _ _ (a r c).lt l;obtain⟨f,g,h⟩:=b r c e;exact⟨f,i _ g h⟩
theorem yQ(v:eF T)(n:cY T){S:Pr}(s s2:Nat)(f:s=0/\s2=1\/s=21/\s2=20)(l:aZ T S)(b:Ok T s S):Ok T s2 (iJ T S):=by
 intro r c m;have d:=l r c;have e:=aP n d.lt (show aQ iR 0=false by decide);obtain⟨g,h,a⟩:=b _ e.lt m;obtain⟨i,t,j,u⟩:=bR g;obtain⟨o,p,q⟩:=b r c i;have w:∀ k∈iR,21<=k/\k<=26:=Ob
 refine⟨o,Ws.of (x:=s) (y:=s) (by rcases f with⟨rfl,rfl⟩|⟨rfl,rfl⟩<;>rfl) (by grind[OkA.mk_,aH6]) p h,?_⟩;rw[j]at a;exact q.app (a.mono Oa Ol)
theorem aN7(l:cY T){S:Pr}{s s2:Nat}(i:sig s2 15=some (s,s2))(c:bK s2)(j:aZ T S)(k:Ok T s S):∀ n r,r.b < T.length->(bEG T S n r).1.a=0->r.a=0/\Ws s2 (bEG T S n r).2/\Sg T r.b (bEG T S n r).1.b (ps (bEG T S n r).2):=by
 intro n
 induction n with
 |zero=>intro r _ a;exact⟨a,c,Sg.nil Ol⟩
 |succ n ih=>
  intro r m a;unfold bEG at a ⊢
  by_cases d:aN T r [18]=true
  ·rw[if_pos d]at a ⊢;have b:=dU l m (show aQ [18] 0=false by decide);have e:=j _ b.lt;obtain⟨f,g,h⟩:=ih _ e.lt a;obtain⟨o,p,q⟩:=k _ b.lt f;exact⟨pE o,Ws.of i ⟨Ob,Od,Od,Od,Od,Od⟩ p g,(q.app h).mono (uH _ _) Ol⟩
  ·rw[if_neg d]at a ⊢;exact⟨a,c,Sg.nil Ol⟩
theorem rV{s:Nat}(c:s=3\/s=4\/s=5\/s=6\/s=8){l:Tr}(h:Ws (10+s) l)(d:aO l<=10000):Ws s (bM3 l)/\ps (bM3 l)=ps l:=by
 cases l with
 |nil=>grind[bM3,Ws,bK]
 |node b o a x y=>
  refine⟨Ws.of20 (x:=10+s) (y:=99) ?_ ⟨Ob,Od,Od,Od,Od,Od⟩ Oa h Ws.X,?_⟩
  ·rcases c with rfl|rfl|rfl|rfl|rfl<;>rfl
  ·show ps (.node b o a x y)++[]=_;simp
theorem aK4(e:cY T){S:Pr}(d:aZ T S):∀ n r,r.b < T.length->aO (bEG T S n r).2+r.b<=(bEG T S n r).1.b:=by
 intro n
 induction n with
 |zero=>intro r _;show 0+r.b<=r.b;omega
 |succ n ih=>
  intro r f;unfold bEG
  by_cases a:aN T r [18]=true
  ·rw[if_pos a];have c:=dU e f (show aQ [18] 0=false by decide);have b:=d _ c.lt;have g:=ih _ b.lt;have h:=lW a;have i:=b.ge;show aO (bEG T S n (S (r.C T [18])).1).2+1+r.b<=_
   grind
  ·rw[if_neg a];show 0+r.b<=r.b;omega
theorem aBZ(j:eF T)(c:cY T){S:Pr}{s s2:Nat}(d:sig (10+s2) 15=some (s,10+s2))(x:s2=3\/s2=5\/s2=6)(a:aZ T S)(f:Ok T s S)(n:Nat):Ok T s2 (fX T S n):=by
 intro r b k;obtain⟨g,h,i⟩:=aN7 c d (by unfold bK;omega) a f n _ (a r b).lt k;obtain⟨m,o,p⟩:=f r b g;have l:Ws (10+s2) (cons (S r).2 (bEG T S n (S r).1).2):=Ws.of d ⟨Ob,Od,Od,Od,Od,Od⟩ o h;have v:=aK4 c a n _ (a r b).lt;have w:=(zK c a n _ (a r b).lt).lt;have u:=j.few;obtain⟨q,t⟩:=rV Oa l (by show aO (bEG T S n (S r).1).2+1<=10000;omega);refine⟨m,q,?_⟩;have e:(fX T S n r).2=bM3 (cons (S r).2 (bEG T S n (S r).1).2):=rfl;rw[e,t];exact p.app i
theorem qY(d:cY T){S:Pr}(b:Ok T 0 S):∀ r,r.b < T.length->(gR T S r).1.a=0->r.a=0/\Ws 0 (gR T S r).2/\Sg T r.b (gR T S r).1.b (ps (gR T S r).2):=by
 intro r e c;obtain⟨j,k,n⟩:=dF d e (show aQ [16] 0=false by decide);obtain⟨a,l⟩:=pV c;obtain⟨f,g,h⟩:=b _ k a;obtain⟨i,m⟩:=mR f;exact⟨i,g,h.mono j (by show _<=(Rd.H T _ 17).b;omega)⟩
theorem aHT(i:eF T)(e:cY T){S:Pr}(g:aZ T S)(h:Ok T 0 S)(n:Nat):∀ r,r.b < T.length->(lB T S n r).1.a=0->r.a=0/\Ws 3 (lB T S n r).2/\Sg T r.b (lB T S n r).1.b (ps (lB T S n r).2):=by
 intro r j a;obtain⟨p,q,t⟩:=dF e j (show aQ [12] 0=false by decide);unfold lB at a ⊢
 by_cases f:aN T (r.B T [12]) [13]=true
 ·rw[if_pos f]at a ⊢;obtain⟨b,d⟩:=pV a;obtain⟨c,o⟩:=mR b;exact⟨c,by unfold Ws bK;omega,Sg.nil (by show _<=(Rd.H T _ 13).b;rw[d];omega)⟩
 ·rw[if_neg f]at a ⊢;obtain⟨b,d⟩:=pV a;obtain⟨k,l,m⟩:=aBZ i e (s:=0) (s2:=3) rfl Oa g h n _ q b;obtain⟨c,o⟩:=mR k;exact⟨c,l,m.mono p Qh⟩
theorem aN6(l:eF T)(h:cY T){S:Pr}(k:aZ T S)(g:Ok T 0 S)(n i:Nat):∀ r,r.b < T.length->r.b=i+1->(bM2 T S n (dD T i) r).1.a=0->r.a=0/\Ws 0 (bM2 T S n (dD T i) r).2/\Sg T i (bM2 T S n (dD T i) r).1.b (ps (bM2 T S n (dD T i) r).2):=by
 intro r j hi a;unfold bM2 at a ⊢
 by_cases e:aN T r [16]=true
 ·rw[if_pos e]at a ⊢;obtain⟨c,d,b⟩:=qY h g r j a;refine⟨c,Ws.of (x:=0) (y:=99) rfl (by grind[OkA.mk_]) d Ws.X,?_⟩;rw[hi]at b;have:=(Sg.one i).app b
  grind[ps,mk,eO]
 ·rw[if_neg e]at a ⊢
  by_cases f:aN T r [12]=true
  ·rw[if_pos f]at a ⊢;obtain⟨c,d,b⟩:=aHT l h k g n r j a;refine⟨c,Ws.of (x:=3) (y:=99) rfl (by grind[OkA.mk_]) d Ws.X,?_⟩;rw[hi]at b;have:=(Sg.one i).app b
   grind[ps,mk,eO]
  ·rw[if_neg f]at a ⊢;refine⟨a,Ws.of (x:=99) (y:=99) rfl (by grind[OkA.mk_]) Ws.X Ws.X,?_⟩
   grind[ps,mk,eO,mO,Sg.one]
theorem aJL(t:eF T)(u:cY T){S F:Pr}(C:aZ T S)(s:Ok T 0 S)(q:Ok T 0 F)(n:Nat):Ok T 0 (gM T S F n):=by
 intro r v a;have o:=aP u v (show aQ cA 0=false by decide);obtain⟨z,j,A⟩:=mD o.lt (cN T r cA).e;unfold gM at a ⊢;dsimp only at a ⊢
 by_cases l:(cN T r cA).d=2
 ·rw[if_pos l]at a ⊢;obtain⟨b,c,d,e⟩:=bR a;have E:=t.at r.b;refine⟨b,Ws.of (x:=99) (y:=99) rfl (by grind[OkA.mk_]) Ws.X Ws.X,Sg.nil (by simp only;omega)⟩
 rw[if_neg l]at a ⊢
 by_cases k:(cN T r cA).d=12
 ·rw[if_pos k]at a ⊢;obtain⟨p,B⟩:=pV a;obtain⟨f,g,h⟩:=s _ j p;obtain⟨i,w⟩:=wN f;obtain⟨b,c,d,e⟩:=bR i;refine⟨b,Ws.of (x:=0) (y:=99) rfl (by grind[OkA.mk_]) g Ws.X,?_⟩;have:=h.mono (K:=r.b) (j':=(Rd.H T (S (Rd.M T.length (r.take T cA) (cN T r cA).e)).1 13).b) Oa Oa
  grind[ps,mk,eO]
 rw[if_neg k]at a ⊢
 by_cases m:(cN T r cA).d=28
 ·rw[if_pos m]at a ⊢;obtain⟨f,g,h⟩:=q _ j a;obtain⟨i,w⟩:=wN f;obtain⟨b,c,d,e⟩:=bR i;refine⟨b,Ws.of (x:=0) (y:=99) rfl (by grind[OkA.mk_]) g Ws.X,?_⟩;have:=h.mono (K:=r.b) Oa Ol
  grind[ps,mk,eO]
 rw[if_neg m]at a ⊢;have D:(r.take T cA).a=0\/(r.take T cA).a≠0:=Oa
 have key:(r.take T cA).a=0:=by
  grind[bM2,qY,aHT]
 obtain⟨b,c,d,e⟩:=bR key
 grind[aN6]
theorem aQD(f:eF T)(i:cY T):Ok T 21 (lG T):=by
 intro r j a;have m:=aP i j (show aQ [28,2,1] 0=false by decide);unfold lG at a ⊢;dsimp only at a ⊢
 by_cases h:(cN T r [28,2,1]).d=28
 ·rw[if_pos h]at a ⊢;obtain⟨l,n,o,p⟩:=bR a;obtain⟨b,c,d,e⟩:=bR l;have k:=f.at (r.take T [28,2,1]).b;exact⟨b,Ws.of (x:=99) (y:=99) rfl (by grind[OkA.mk_]) Ws.X Ws.X,Sg.nil (by simp only;omega)⟩
 rw[if_neg h]at a ⊢
 by_cases g:(cN T r [28,2,1]).d=2
 ·rw[if_pos g]at a ⊢;obtain⟨b,c,d,e⟩:=bR a;have k:=f.at r.b;exact⟨b,Ws.of (x:=99) (y:=99) rfl (by grind[OkA.mk_]) Ws.X Ws.X,Sg.nil (by simp only;omega)⟩
 rw[if_neg g]at a ⊢;obtain⟨b,c,d,e⟩:=bR a;refine⟨b,Ws.of (x:=99) (y:=99) rfl (by grind[OkA.mk_]) Ws.X Ws.X,?_⟩
 grind[ps,mk,eO,mO,Sg.one]
theorem aSM(b:eF T)(a:cY T):Ok T 20 (uK T):=yQ b a 21 20 (.r ⟨rfl,rfl⟩) (wH a) (aQD b a)
theorem iI{S:Pr}{s:Nat}(b:Ok T s S):Ok T s (fM T S):=by
 intro r d c;obtain⟨a,h,i,j⟩:=bR c;obtain⟨e,f,g⟩:=b r d a;exact⟨e,f,g.mono Oa (by show _<=(Rd.take T _ _).b;omega)⟩
theorem aN4(n:eF T)(e:cY T){S:Pr}(c:Ok T 0 S)(q:Bool)(i:Nat):∀ r,r.b < T.length->r.b=i+1->(sQ T S (dD T i) q r).1.a=0->r.a=0/\Ws 2 (sQ T S (dD T i) q r).2/\Sg T i (sQ T S (dD T i) q r).1.b (ps (sQ T S (dD T i) q r).2):=by
 intro r f hi d;have a:=aP e f (show aQ [20] 0=false by decide);obtain⟨g,h,j⟩:=iI c _ a.lt d;obtain⟨b,k,l,m⟩:=bR g;refine⟨b,Ws.of (x:=0) (y:=99) rfl (by grind[OkA.mk_]) h Ws.X,?_⟩;have:=(Sg.one i).app (j.mono (K:=i+1) Oa Ol)
 grind[ps,mk,eO,sQ]
theorem aN3(t:eF T)(b:cY T){S:Pr}(l:aZ T S)(c:Ok T 0 S)(i:Nat):∀ r,r.b < T.length->r.b=i+1->(lK T S (dD T i) r).1.a=0->r.a=0/\Ws 2 (lK T S (dD T i) r).2/\Sg T i (lK T S (dD T i) r).1.b (ps (lK T S (dD T i) r).2):=by
 intro r d hi a;have g:=lN b l r d;have h:=aP b g.lt (show aQ [20] 0=false by decide);unfold lK at a ⊢;dsimp only at a ⊢;obtain⟨o,p,f⟩:=iI c _ h.lt a;obtain⟨j,q,k,s⟩:=bR o;obtain⟨m,n,e⟩:=qY b c r d j;refine⟨m,Ws.of (x:=0) (y:=0) rfl (by grind[OkA.mk_]) n p,?_⟩;rw[k]at f;rw[hi]at e;have:=((Sg.one i).app e).app (f.mono (K:=(gR T S r).1.b) Oa Ol)
 assumption
theorem pI{S:Pr}(h:aZ T S)(i:Ok T 2 S):∀ n r,r.b < T.length->(cL T S n r).1.a=0->r.a=0/\Ws 14 (cL T S n r).2/\Sg T r.b (cL T S n r).1.b (ps (cL T S n r).2):=by
 intro n
 induction n with
 |zero=>intro r _ a;exact⟨a,by unfold cL Ws bK;omega,Sg.nil Ol⟩
 |succ n ih=>
  intro r b a;unfold cL at a ⊢
  by_cases c:aN T r [15,0]=true
  ·rw[if_pos c]at a ⊢;exact⟨a,by unfold Ws bK;omega,Sg.nil Ol⟩
  ·rw[if_neg c]at a ⊢;have d:=h _ b;obtain⟨e,f,g⟩:=ih _ d.lt a;obtain⟨j,k,l⟩:=i _ b e;exact⟨j,Ws.of (x:=2) (y:=14) rfl ⟨Ob,Od,Od,Od,Od,Od⟩ k f,l.app g⟩
def aIA(T:List Tok)(S:Pr):Prop:=∀ r,r.b < T.length->(S r).1.a=0->r.b < (S r).1.b
theorem aG4{S:Pr}(b:aZ T S)(e:Ok T 2 S)(g:aIA T S):∀ n r,r.b < T.length->(cL T S n r).1.a=0->aO (cL T S n r).2+r.b<=(cL T S n r).1.b:=by
 intro n
 induction n with
 |zero=>intro r _ _;show 0+r.b<=r.b;omega
 |succ n ih=>
  intro r c a;have j:=pI b e (n+1) r c a;unfold cL at a ⊢
  by_cases f:aN T r [15,0]=true
  ·rw[if_pos f]at a ⊢;show 0+r.b<=r.b;omega
  ·rw[if_neg f]at a ⊢;have d:=b _ c;have h:=ih _ d.lt a;have i:=g _ c (pI b e n _ d.lt a).1;show aO (cL T S n (S r).1).2+1+r.b<=_
   grind
theorem aCA{S:Pr}(a:aZ T S)(n:Nat)(r:Rd)(h:r.b < T.length):Adv T r (cL T S n r).1:=xC a n r h
theorem aN8(f:eF T)(h:cY T){S:Pr}(a:aZ T S)(d:Ok T 2 S)(e:aIA T S)(n:Nat):Ok T 4 (qI T S n):=by
 intro r i g;obtain⟨q,b,y⟩:=dF h i (show aQ [14] 0=false by decide);obtain⟨c,t⟩:=pV g;obtain⟨j,k,l⟩:=pI a d n _ b c;obtain⟨m,x⟩:=mR j;have v:=aG4 a d e n _ b c;have w:=(aCA a n _ b).lt;have u:=f.few;obtain⟨o,p⟩:=rV (s:=4) Oa k Oa;refine⟨m,o,?_⟩;show Sg T _ _ (ps (bM3 _));rw[p];exact l.mono q (by show _<=(Rd.H T _ 15).b;omega)
theorem aRQ(v:eF T)(u:cY T){C B:Pr}(o:aZ T C)(k:Ok T 1 C)(t:aZ T B)(c:Ok T 4 B):Ok T 2 (ifP T C B):=by
 intro r d a;have b:=o r d;have m:=t _ b.lt;have n:=dU u m.lt (show aQ [8] 0=false by decide);unfold ifP at a ⊢;dsimp only at a ⊢
 by_cases l:aN T (B (C r).1).1 [8]=true
 ·rw[if_pos l]at a ⊢;obtain⟨p,q,s⟩:=c _ n.lt a;obtain⟨e,f,g⟩:=c _ b.lt (pE p);obtain⟨h,i,j⟩:=k r d e;refine⟨h,Ws.of (x:=1) (y:=9) rfl (by grind[OkA.mk_]) i (Ws.of (x:=4) (y:=4) rfl (by grind[OkA.mk_]) f q),?_⟩;have:=(j.app g).app (s.mono (uH _ _) Ol)
  grind[ps,mk,eO]
 ·rw[if_neg l]at a ⊢;obtain⟨e,f,g⟩:=c _ b.lt a;obtain⟨h,i,j⟩:=k r d e;refine⟨h,Ws.of (x:=1) (y:=9) rfl (by grind[OkA.mk_]) i (Ws.of (x:=4) (y:=4) rfl (by grind[OkA.mk_]) f (by unfold Ws bK;omega)),?_⟩;have:=j.app g
  grind[ps,mk,eO]
theorem aHS(n:eF T)(d:cY T){S C B:Pr}(s:aZ T S)(h:Ok T 0 S)(o:aZ T C)(q:Ok T 1 C)(E:aZ T B)(p:Ok T 4 B):Ok T 2 (eL T S C B):=by
 intro r F a;have b:=aP d F (show aQ aR 0=false by decide);unfold eL at a ⊢;dsimp only at a ⊢
 by_cases w:(cN T r aR).d=6
 ·rw[if_pos w]at a ⊢;have m:=aP d b.lt (show aQ [1] 0=false by decide)
  have key:((r.take T aR).take T [1]).a=0:=by
   obtain⟨l,_,_⟩:=iI h _ (aP d m.lt rfl).lt a;exact(bR l).1
  obtain⟨G,N,H,I⟩:=bR key;obtain⟨c,k,i,j⟩:=bR G;rw[I]at a ⊢;obtain⟨g,e,f⟩:=aN4 n d h true _ _ m.lt H a;exact⟨c,e,f.mono Oa Oa⟩
 rw[if_neg w]at a ⊢
 by_cases z:(cN T r aR).d=7
 ·rw[if_pos z]at a ⊢;obtain⟨g,e,f⟩:=aRQ n d o q E p _ b.lt a;obtain⟨c,k,i,j⟩:=bR g;exact⟨c,e,f.mono Oa Oa⟩
 rw[if_neg z]at a ⊢
 by_cases A:(cN T r aR).d=9
 ·rw[if_pos A]at a ⊢;have m:=o _ b.lt;obtain⟨g,e,f⟩:=p _ m.lt a;obtain⟨J,L,M⟩:=q _ b.lt g;obtain⟨c,k,i,j⟩:=bR J;refine⟨c,Ws.of (x:=1) (y:=4) rfl (by grind[OkA.mk_]) L e,?_⟩;have:=(M.app f).mono (K:=r.b) Oa Ol
  assumption
 rw[if_neg A]at a ⊢
 by_cases t:(cN T r aR).d=10
 ·rw[if_pos t]at a ⊢;obtain⟨g,e,f⟩:=iI h _ b.lt a;obtain⟨c,k,i,j⟩:=bR g;refine⟨c,Ws.of (x:=0) (y:=99) rfl (by grind[OkA.mk_]) e Ws.X,?_⟩;have:=f.mono (K:=r.b) Oa Ol
  grind[ps,mk,eO]
 rw[if_neg t]at a ⊢
 by_cases u:(cN T r aR).d=11
 ·rw[if_pos u]at a ⊢;obtain⟨g,e,f⟩:=iI h _ b.lt a;obtain⟨c,k,i,j⟩:=bR g;refine⟨c,Ws.of (x:=0) (y:=99) rfl (by grind[OkA.mk_]) e Ws.X,?_⟩;have:=f.mono (K:=r.b) Oa Ol
  grind[ps,mk,eO]
 rw[if_neg u]at a ⊢
 by_cases v:aN T (r.take T aR) [16]=true
 ·rw[if_pos v]at a ⊢
  have key:(r.take T aR).a=0:=by
   have D:=lN d s _ b.lt;obtain⟨l,_,_⟩:=iI h _ (aP d D.lt rfl).lt a;exact(qY d h _ b.lt (bR l).1).1
  obtain⟨c,k,i,j⟩:=bR key;rw[j]at a ⊢;obtain⟨g,e,f⟩:=aN3 n d s h _ _ b.lt i a;trivial
 ·rw[if_neg v]at a ⊢
  have key:(r.take T aR).a=0:=by
   obtain⟨l,_,_⟩:=iI h _ (aP d b.lt rfl).lt a;exact(bR l).1
  obtain⟨c,k,i,j⟩:=bR key;rw[j]at a ⊢;obtain⟨g,e,f⟩:=aN4 n d h false _ _ b.lt i a;trivial
theorem aIW(t:eF T)(c:cY T){S C B:Pr}(s:aZ T S)(d:Ok T 0 S)(f:aZ T C)(h:Ok T 1 C)(q:aZ T B)(g:Ok T 4 B){r:Rd}(u:r.b < T.length)(a:(eL T S C B r).1.a=0):(r.take T aR).a=0:=by
 have b:=aP c u (show aQ aR 0=false by decide);unfold eL at a;dsimp only at a
 by_cases l:(cN T r aR).d=6
 ·rw[if_pos l]at a;have o:=aP c b.lt (show aQ [1] 0=false by decide);obtain⟨e,_,_⟩:=iI d _ (aP c o.lt rfl).lt a;exact(bR (bR e).1).1
 rw[if_neg l]at a
 by_cases m:(cN T r aR).d=7
 ·rw[if_pos m]at a;exact(aRQ t c f h q g _ b.lt a).1
 rw[if_neg m]at a
 by_cases n:(cN T r aR).d=9
 ·rw[if_pos n]at a;exact(h _ b.lt (g _ (f _ b.lt).lt a).1).1
 rw[if_neg n]at a
 by_cases i:(cN T r aR).d=10
 ·rw[if_pos i]at a;exact(iI d _ b.lt a).1
 rw[if_neg i]at a
 by_cases j:(cN T r aR).d=11
 ·rw[if_pos j]at a;exact(iI d _ b.lt a).1
 rw[if_neg j]at a
 by_cases k:aN T (r.take T aR) [16]=true
 ·rw[if_pos k]at a;have p:=lN c s _ b.lt;obtain⟨e,_,_⟩:=iI d _ (aP c p.lt rfl).lt a;exact(qY c d _ b.lt (bR e).1).1
 ·rw[if_neg k]at a;obtain⟨e,_,_⟩:=iI d _ (aP c b.lt rfl).lt a;exact(bR e).1
theorem aFJ(l:eF T)(a:cY T){S C B:Pr}(c:aZ T S)(k:Ok T 0 S)(d:aZ T C)(j:Ok T 1 C)(e:aZ T B)(i:Ok T 4 B):aIA T (eL T S C B):=by
 intro r g m;have b:=aP a g (show aQ aR 0=false by decide);have n:=(bR (aIW l a c k d j e i g m)).2.2.1
 have h:Adv T (r.take T aR) (eL T S C B r).1:=by
  unfold eL;dsimp only
  split
  ·have f:=aP a b.lt (show aQ [1] 0=false by decide);exact f.t (pL a c _ _ _ f.lt)
  split
  ·exact aC9 a d e _ b.lt
  split
  ·exact(d _ b.lt).t (e _ (d _ b.lt).lt)
  split
  ·exact jH a c _ b.lt
  split
  ·exact jH a c _ b.lt
  split
  ·exact tN a c _ _ b.lt
  ·exact pL a c _ _ _ b.lt
 have:=h.ge;omega
def aHO(s:Nat):Nat:=if s < 3 then 0 else if s < 6 then 1 else if s=6 then 4 else 2
theorem aJJ(d:eF T)(c:cY T):∀ n,(∀ s,Ok T (aHO s) (iH T n s))/\aIA T (iH T n 7):=by
 intro n
 induction n with
 |zero=>exact⟨fun s r _ e=>absurd e (mS Ob),fun r _ e=>absurd e (mS Ob)⟩
 |succ n a=>
  obtain⟨a,f⟩:=a;have b:=bM1 c n;refine⟨fun s=>?_,aFJ d c (b 2) (a 2) (b 5) (a 5) (b 6) (a 6)⟩
  match s with
  |0=>exact aJL d c (b 2) (a 2) (a 0) n
  |1=>exact aDX d c (b 0) (a 0) Ob Ob n
  |2=>exact aDX d c (b 1) (a 1) Ob Ob n
  |3=>exact yQ d c 0 1 Oa (b 2) (a 2)
  |4=>exact aDW d c (b 3) (a 3) Oa Ob n
  |5=>exact aDW d c (b 4) (a 4) Oa Ob n
  |6=>exact aN8 d c (b 7) (a 7) f n
  |s+7=>exact aHS d c (b 2) (a 2) (b 5) (a 5) (b 6) (a 6)
theorem pH(a:eF T)(b:cY T)(n s:Nat):Ok T (aHO s) (iH T n s):=(aJJ a b n).1 s
theorem aN5(f:eF T)(_:cY T):Ok T 22 (nK T):=by
 intro r g b;obtain⟨a,c,d,e⟩:=bR b;refine⟨a,Ws.of (x:=99) (y:=99) rfl (by grind[OkA.mk_]) Ws.X Ws.X,?_⟩
 grind[ps,mk,eO,nK,Sg.one]
theorem aDY(c:eF T)(d:cY T):Ok T 7 (fQ T):=by
 intro r e a;have h:=aP d e (show aQ [1] 0=false by decide);unfold fQ at a ⊢;dsimp only at a ⊢;obtain⟨f,m,n,o⟩:=bR a;obtain⟨g,p,q,s⟩:=bR f;obtain⟨b,i,j,k⟩:=bR g;have l:=c.at (r.take T [1]).b;refine⟨b,Ws.of (x:=99) (y:=99) rfl (by grind[OkA.mk_]) Ws.X Ws.X,?_⟩;have:=(Sg.one (T:=T) r.b).mono Ol (j':=(((r.take T [1]).take T [2]).take T [19]).b) Oa
 grind[ps,mk,eO]
theorem aJK(c:eF T)(b:cY T)(n:Nat):Ok T 6 (aV T n):=by
 intro r e a;unfold aV at a ⊢
 by_cases d:aN T r [1]=true
 ·rw[if_pos d]at a ⊢;exact aBZ c b (s:=22) (s2:=6) rfl Oa (tO b) (aN5 c b) n r e a
 ·rw[if_neg d]at a ⊢;exact⟨a,by unfold Ws bK;omega,Sg.nil Ol⟩
theorem aJI(d:eF T)(c:cY T)(n:Nat):Ok T 5 (dA T n):=by
 intro r f b;unfold dA at b ⊢
 by_cases e:aN T r [5]=true
 ·rw[if_pos e]at b ⊢;have a:=dU c f (show aQ [5] 0=false by decide);obtain⟨g,h,i⟩:=aBZ d c (s:=20) (s2:=5) rfl Oa (uV c) (aSM d c) n _ a.lt b;exact⟨pE g,h,i.mono (uH _ _) Oa⟩
 ·rw[if_neg e]at b ⊢;exact⟨b,by unfold Ws bK;omega,Sg.nil Ol⟩
theorem wZ(d:eF T)(a:cY T){B:Pr}(_:aZ T B)(k:Ok T 4 B)(n:Nat):Ok T 7 (cZ T B n):=by
 intro r l b;have f:=aP a l (show aQ [1] 0=false by decide);obtain⟨o,e,p⟩:=dF a f.lt (show aQ [12] 0=false by decide);rw[mN]at b ⊢;dsimp only at b ⊢;have q:=bCX a n _ e;have c:=lC a o p q (show aQ [13] 0=false by decide);have w:=oM a n _ c.lt;obtain⟨g,h,i⟩:=k _ w.lt b;obtain⟨z,w4,A⟩:=aJI d a n _ c.lt g;obtain⟨v,G⟩:=pV z;obtain⟨s,t,u⟩:=aJK d a n _ e v;obtain⟨m,F⟩:=mR s;obtain⟨j,C,D,E⟩:=bR m;refine⟨j,Ws.of (x:=6) (y:=23) rfl (by grind[OkA.mk_]) t (Ws.of (x:=5) (y:=4) rfl (by grind[OkA.mk_]) w4 h),?_⟩;have:=(((Sg.one (T:=T) r.b).app (u.mono (K:=r.b+1) Oa Oa)).app (A.mono (K:=(aV T n ((r.take T [1]).B T [12])).1.b) Oa Oa)).app i
 grind[ps,mk,eO]
theorem mB(s:eF T)(d:cY T){B:Pr}(l:aZ T B)(w:Ok T 4 B)(m:Nat):∀ n r,r.b < T.length->(aJ T B m n r).1.a=0->r.a=0/\Ws 18 (aJ T B m n r).2/\Sg T r.b (aJ T B m n r).1.b (ps (aJ T B m n r).2):=by
 intro n
 induction n with
 |zero=>intro r _ a;exact⟨a,by unfold aJ Ws bK;omega,Sg.nil Ol⟩
 |succ n ih=>
  intro r z a;unfold aJ at a ⊢;dsimp only at a ⊢
  by_cases t:aN T r [0]=true
  ·rw[if_pos t]at a ⊢;exact⟨a,by unfold Ws bK;omega,Sg.nil Ol⟩
  rw[if_neg t]at a ⊢;have b:=aP d z (show aQ [3,4] 0=false by decide)
  by_cases u:(cN T r [3,4]).d=3
  ·rw[if_pos u]at a ⊢;have h:=nS d _ b.lt;obtain⟨e,f,g⟩:=ih _ h.lt a;obtain⟨i,j,k⟩:=aDY s d _ b.lt e;obtain⟨c,o,p,q⟩:=bR i;exact⟨c,Ws.of (x:=7) (y:=18) rfl ⟨Ob,Od,Od,Od,Od,Od⟩ j f,(k.app g).mono Oa Ol⟩
  rw[if_neg u]at a ⊢
  by_cases v:(cN T r [3,4]).d=4
  ·rw[if_pos v]at a ⊢;have h:=jX d l m _ b.lt;obtain⟨e,f,g⟩:=ih _ h.lt a;obtain⟨i,j,k⟩:=wZ s d l w m _ b.lt e;obtain⟨c,o,p,q⟩:=bR i;exact⟨c,Ws.of (x:=7) (y:=18) rfl ⟨Ob,Od,Od,Od,Od,Od⟩ j f,(k.app g).mono Oa Ol⟩
  ·rw[if_neg v]at a ⊢;obtain⟨e,f,g⟩:=ih _ b.lt a;obtain⟨c,o,p,q⟩:=bR e;exact⟨c,f,g.mono Oa Oa⟩
theorem oV(_:eF T)(d:cY T){B:Pr}(e:aZ T B)(m:Nat):∀ n r,r.b < T.length->Adv T r (aJ T B m n r).1:=by
 intro n
 induction n with
 |zero=>intro r c;exact Adv.refl c
 |succ n ih=>
  intro r c;unfold aJ;dsimp only;have a:=aP d c (show aQ [3,4] 0=false by decide)
  split
  ·exact Adv.refl c
  split
  ·have b:=a.t (nS d _ a.lt);exact b.t (ih _ b.lt)
  split
  ·have b:=a.t (jX d e m _ a.lt);exact b.t (ih _ b.lt)
  ·exact a.t (ih _ a.lt)
theorem uN(f:eF T)(c:cY T){B:Pr}(e:aZ T B)(g:Ok T 4 B)(m:Nat):∀ n r,r.b < T.length->(aJ T B m n r).1.a=0->aO (aJ T B m n r).2+r.b<=(aJ T B m n r).1.b:=by
 intro n
 induction n with
 |zero=>intro r _ _;show 0+r.b<=r.b;omega
 |succ n ih=>
  intro r p a;unfold aJ at a ⊢;dsimp only at a ⊢
  by_cases j:aN T r [0]=true
  ·rw[if_pos j]at a ⊢;show 0+r.b<=r.b;omega
  rw[if_neg j]at a ⊢;have d:=aP c p (show aQ [3,4] 0=false by decide)
  by_cases k:(cN T r [3,4]).d=3
  ·rw[if_pos k]at a ⊢;have b:=nS c _ d.lt;have h:=ih _ b.lt a;have o:=(bR (aDY f c _ d.lt (mB f c e g m n _ b.lt a).1).1).2.2.1;have i:=b.ge;show aO (aJ T B m n (fQ T (r.take T [3,4])).1).2+1+r.b<=_
   grind
  rw[if_neg k]at a ⊢
  by_cases l:(cN T r [3,4]).d=4
  ·rw[if_pos l]at a ⊢;have b:=jX c e m _ d.lt;have h:=ih _ b.lt a;have o:=(bR (wZ f c e g m _ d.lt (mB f c e g m n _ b.lt a).1).1).2.2.1;have i:=b.ge;show aO (aJ T B m n (cZ T B m (r.take T [3,4])).1).2+1+r.b<=_
   grind
  ·rw[if_neg l]at a ⊢;have h:=ih _ d.lt a;have i:=d.ge;omega
theorem bNX(a:eF T)(b:cY T)(d:0 < T.length)(e:(bP T).1.a=0):Ws 8 (bP T).2/\Sg T 0 T.length (ps (bP T).2):=by
 have c:=bM1 b (bY T) 6;obtain⟨_,f,g⟩:=mB a b c (pH a b (bY T) 6) (bY T) (bY T) rd0 d e;have k:=uN a b c (pH a b (bY T) 6) (bY T) (bY T) rd0 d e;have l:=(oV a b c (bY T) (bY T) rd0 d).lt;have j:=a.few;obtain⟨h,i⟩:=rV (s:=8) Oa f Oa;refine⟨h,?_⟩;show Sg T _ _ (ps (bM3 _));rw[i];exact g.mono Oa Oa
end Go.Proofs.YtikffmloeifkpaaGreatDoor
