/- Contracts. -/
import Derived.Test.YtikffmloeifkpaaGreatDoorR28
import Derived.Test.YtikffmloeifkpaaGreatDoorR16
set_option maxHeartbeats 8000000
set_option maxRecDepth 100000
namespace Go.Proofs.YtikffmloeifkpaaGreatDoor
open Go.RowKit Go.Lib Go.Deep Go.ChangeMaps Go.MapKept Tryz
section
variable {T Q:List Tok} {r:Rd} {st:QS} {N M:Nat}
def Ndq(L:List NQ)(x:Int)(n:NQ):Prop:=0<=x/\L[x.toNat]?=some n
theorem Ndq.mono{L a:List NQ}{x:Int}{n:NQ}(h:Ndq L x n)(c:L <+:a):Ndq a x n:=by
 obtain⟨M,rfl⟩:=c;have b:=(List.getElem?_eq_some_iff.1 h.2).1;exact⟨h.1,by rw[List.getElem?_append_left b];exact h.2⟩
theorem bXR(a:NQ)(st:QS):(st.L.length:Int) < (bL2 a st).L.length:=by
 grind[bL2]
theorem Ndq.last(st:QS)(a:NQ):Ndq (bL2 a st).L st.L.length {a with f:=-1}:=⟨Oa,by simp[bL2]⟩
theorem Ndq.at{st:QS}{a:NQ}{x:Int}(b:x=st.L.length):Ndq (bL2 a st).L x {a with f:=-1}:=b ▸ Ndq.last st a
def NX(L:List NQ):Tr->List Int->Int->Int->Prop
 | .nil,xs,lo,hi=>xs=[]/\lo<=hi
 | .node _ _ a l r,xs,lo,hi=>
  if a.a=15 then ∃ x ys m,xs=x::ys/\NX L l [x] lo m/\NX L r ys m hi
  else if a.a=20 then NX L l xs lo hi
  else if a.a=4 then NX L l xs lo hi
  else if a.a=18 then ∃ b n,Ndq L b n/\n.d=19/\NX L l n.c lo b/\((xs=[b]/\r= .nil/\b < hi)\/∃ e m,xs=[b,e]/\Ndq L e m/\m.d=19/\NX L r m.c (b+1) e/\e < hi)
  else ∃ x n,xs=[x]/\Ndq L x n/\lo<=x/\x < hi/\
   (if a.a=0 then n.d=3/\n.n=a.g/\n.c=[]
   else if a.a=1 then n.d=4/\n.at_=a.b/\n.s=a.h/\n.c=[]
   else if a.a=2 then n.d=5/\n.at_=a.b/\n.s=a.h/\(∃ y,n.c=[y]/\NX L l [y] lo x)
   else if a.a=3 then n.d=6/\n.at_=a.b/\n.s=a.h/\NX L l n.c lo x
   else if a.a=5 then n.d=7/\(∃ y,n.c=[y]/\NX L l [y] lo x)
   else if a.a=6 then n.d=8/\n.at_=a.e/\n.s=sp a.op.toNat/\(∃ y z m,n.c=[y,z]/\NX L l [y] lo m/\NX L r [z] m x)
   else if a.a=7 then n.d=9/\n.s=sp a.op.toNat/\(∃ y z m,n.c=[y,z]/\NX L l [y] lo m/\NX L r [z] m x)
   else if a.a=8 then n.d=(if a.op=32 then 10 else 11)/\(∃ y z m,n.c=[y,z]/\NX L l [y] lo m/\NX L r [z] m x)
   else if a.a=9 then n.d=(if a.flag then 12 else 13)/\n.at_=a.b/\n.s=a.h/\(∃ y,n.c=[y]/\NX L l [y] lo x)
   else if a.a=10 then n.d=14/\n.at_=a.b/\n.s=a.h/\(∃ y z m,n.c=[y,z]/\NX L l [y] lo m/\NX L r [z] m x)
   else if a.a=11 then n.d=15/\(∃ y ys m,n.c=y::ys/\NX L l [y] lo m/\NX L r ys m x)
   else if a.a=12 then n.d=16/\(∃ y b m k,n.c=[y,b]/\NX L l [y] lo k/\Ndq L b m/\m.d=19/\NX L r m.c k b/\b < x)
   else if a.a=13 then n.d=17/\(∃ y,n.c=[y]/\NX L l [y] lo x)
   else n.d=18/\(∃ y,n.c=[y]/\NX L l [y] lo x))
theorem Ndq.lt{L:List NQ}{x:Int}{n:NQ}(h:Ndq L x n):x < L.length:=by
 have:=(List.getElem?_eq_some_iff.1 h.2).1;omega
theorem NX.mono{L d:List NQ}(g:L <+:d):∀ (t:Tr) (k:List Int) (lo hi:Int),NX L t k lo hi->NX d t k lo hi:=by
 intro t
 induction t with
 |nil=>exact fun _ _ _ h=>h
 |node b o a l r ihl ihr=>
  intro k lo hi h;unfold NX at h ⊢
  by_cases H:a.a=15
  ·grind
  rw[if_neg H]at h ⊢
  by_cases G:a.a=20
  ·grind
  rw[if_neg G]at h ⊢
  by_cases B:a.a=4
  ·grind
  rw[if_neg B]at h ⊢
  by_cases p:a.a=18
  ·rw[if_pos p]at h ⊢;obtain⟨x,n,i,j,c,f⟩:=h;refine⟨x,n,i.mono g,j,Qh,?_⟩;rcases f with f|⟨e,m,f,C,D,h8,E⟩
   ·simp[*]
   ·exact .r ⟨e,m,f,C.mono g,D,Qh,E⟩
  rw[if_neg p]at h ⊢;obtain⟨x,n,i,j,A,I,c⟩:=h;refine⟨x,n,i,j.mono g,A,I,?_⟩;have one:(∃ y,n.c=[y]/\NX L l [y] lo x)->∃ y,n.c=[y]/\NX d l [y] lo x:=Qg;have two:(∃ y z m,n.c=[y,z]/\NX L l [y] lo m/\NX L r [z] m x)->∃ y z m,n.c=[y,z]/\NX d l [y] lo m/\NX d r [z] m x:=Qg
  by_cases J:a.a=0
  ·grind
  rw[if_neg J]at c ⊢
  by_cases K:a.a=1
  ·grind
  rw[if_neg K]at c ⊢
  by_cases S:a.a=2
  ·grind
  rw[if_neg S]at c ⊢
  by_cases U:a.a=3
  ·grind
  rw[if_neg U]at c ⊢
  by_cases V:a.a=5
  ·grind
  rw[if_neg V]at c ⊢
  by_cases W:a.a=6
  ·grind
  rw[if_neg W]at c ⊢
  by_cases X:a.a=7
  ·grind
  rw[if_neg X]at c ⊢
  by_cases Y:a.a=8
  ·grind
  rw[if_neg Y]at c ⊢
  by_cases Z:a.a=9
  ·grind
  rw[if_neg Z]at c ⊢
  by_cases O:a.a=10
  ·grind
  rw[if_neg O]at c ⊢
  by_cases P:a.a=11
  ·grind
  rw[if_neg P]at c ⊢
  by_cases R:a.a=12
  ·rw[if_pos R]at c ⊢;obtain⟨q,y,b,m,F,s,g3,u,v,g6,w⟩:=c;exact⟨q,y,b,m,F,s,Qh,u.mono g,v,Qh,w⟩
  grind
theorem NX.le{L:List NQ}:∀ {t:Tr} {c:List Int} {lo hi:Int},NX L t c lo hi->lo<=hi:=by
 intro t
 induction t with
 |nil=>exact fun h=>h.2
 |node b o a l r ihl ihr=>
  grind[NX]
def Stk(S:Pr):Prop:=∀ r,r.a≠0->(S r).1.a=r.a/\(S r).1.e=r.e
structure Smx(X:Int->List NQ->Tr->Int->Prop)(T Q:List Tok)(N:Nat)(S:Pr)(P:QS->QS × Int):Prop where
 stk:Stk S
 go:aZ T S
 gr:∃ n,∀ st,Gr st (P st).1 n
 run:∀ r st,Ro r st->r.b < T.length->T.length - r.b<=N->Rl (S r).1 (P st).1/\((S r).1.a=0->X st.L.length (P st).1.L (S r).2 (P st).2)
abbrev Sm:=Smx (fun lo L t x=>NX L t [x] lo L.length)
theorem Smx.le{X:Int->List NQ->Tr->Int->Prop}{S:Pr}{P:QS->QS × Int}(h:Smx X T Q N S P)(d:M<=N):Smx X T Q M S P:=⟨h.stk,h.go,h.gr,fun r st a b c=>h.run r st a b Oa⟩
theorem Smx.all{X:Int->List NQ->Tr->Int->Prop}{S:Pr}{P:QS->QS × Int}(h:Smx X T Q N S P)(a:Rl r st)(f:r.b < T.length)(e:r.a=0->T.length - r.b<=N):Rl (S r).1 (P st).1/\((S r).1.a=0->r.a=0/\X st.L.length (P st).1.L (S r).2 (P st).2):=by
 rcases a with a|a
 ·obtain⟨c,d⟩:=h.run r st a f (e a.c);exact⟨c,fun b=>⟨a.c,d b⟩⟩
 ·obtain⟨n,g⟩:=h.gr;have i:=h.stk r a.c;exact⟨.r (a.gr i (g st)),fun b=>absurd (Oa) a.c⟩
theorem bOM{S:Pr}(a:Stk S)(G:List Int):∀ n r v,r.a≠0->(bCL T S G n r v).1.a=r.a/\(bCL T S G n r v).1.e=r.e:=by
 intro n
 induction n with
 |zero=>exact fun _ _ _=>Qj
 |succ n ih=>
  intro r v h;unfold bCL
  split
  ·obtain⟨b,c⟩:=bLN (T:=T) G h;obtain⟨d,e⟩:=a (r.take T G) Oa;simp[*]
  trivial
theorem bUI(l:Tw T Q){S:Pr}{P:QS->QS × Int}(i:Sm T Q N S P){all:ByteArray}{G:List Int}(C:(List.range 34).all (fun k=>decide (k < 3)||(inQ (sp k) all==aQ G k))=true)(m:aQ G 0=false)(A:aQ G 1=false)(B:aQ G 2=false):
 ∀ n k r st x v (lo:Int),Ro r st->r.b < T.length->T.length - r.b<=N->T.length - r.b<=n->T.length - r.b<=k->NX st.L v [x] lo st.L.length->
  Rl (bCL T S G n r v).1 (bN5 Q P all k x st).1/\((bCL T S G n r v).1.a=0->NX (bN5 Q P all k x st).1.L (bCL T S G n r v).2 [(bN5 Q P all k x st).2] lo (bN5 Q P all k x st).1.L.length):=by
 intro n
 induction n with
 |zero=>omega
 |succ n ih=>
  intro k r st x v lo f j U hn Y u;obtain⟨k,rfl⟩:∃ J,k=J+1:=⟨k - 1,Oa⟩;have H:=bV6 l f j C m A B;unfold bCL bN5;rw[H];cases hs:aN T r G
  ·rw[if_neg Od,if_neg Od];exact⟨.l f,Qh⟩
  ·rw[if_pos rfl,if_pos ⟨rfl,f.d⟩];obtain⟨w,L,z,O⟩:=bMH l f j hs m;obtain⟨b,K⟩:=i.run _ _ w Oa Oa;have q:=i.go (r.take T G) Oa;have W:=q.ge;obtain⟨R,I⟩:=i.gr;have p:=I (bKV Q st);have o:=l.tok r.b j;generalize F:({d:=8,at_:=(dD Q st.i).e,s:=(dD Q st.i).f,c:=[x,(P (bKV Q st)).2]}:NQ)=X;rcases b with b|b
   ·have Z:aQ G (dD T r.b).d=true:=hs;refine ih k _ _ _ _ lo ⟨b.c,b.d,b.i,b.o,b.lo,b.hi⟩ q.lt Oa Oa Oa ?_;unfold mk NX;rw[if_neg Od,if_neg Od,if_neg Od,if_neg Od];have E:=p.pre.length_le;rw[bKY]at E;have a1:=u.le;refine⟨_,_,rfl,Ndq.last _ X,Oa,bXR _ _,?_⟩;rw[if_neg Od,if_neg Od,if_neg Od,if_neg Od,if_neg Od,if_pos rfl,z,<-F];refine⟨rfl,?_,?_,x,_,st.L.length,rfl,?_,?_⟩
    ·show(dD Q st.i).e=(dD T r.b).e;rw[<-f.i];exact o.1
    ·show(dD Q st.i).f=sp (dD T r.b).d.toNat;rw[<-f.i];rcases o.2 with⟨g,_⟩|⟨g,_⟩|⟨g,_⟩|⟨_,_,_,g⟩
     ·grind
     ·grind
     ·grind
     ·exact g
    ·refine NX.mono ?_ _ _ _ _ u;have:=p.pre;rw[bKY]at this;exact this.t (List.prefix_append _ _)
    ·have t:=K b.c;rw[bKY]at t;exact NX.mono (List.prefix_append _ _) _ _ _ _ t
   ·have D:=bOM (T:=T) i.stk G n _ (mk {a:=6,op:=(cN T r G).d,e:=(cN T r G).e} v (S (r.take T G)).2) b.c
    have hq:∀ k y,(bN5 Q P all k y (bL2 X (P (bKV Q st)).1)).1.a=(P (bKV Q st)).1.a/\(bN5 Q P all k y (bL2 X (P (bKV Q st)).1)).1.e=(P (bKV Q st)).1.e:=by
     intro k y;cases k with
     |zero=>trivial
     |succ k=>
      unfold bN5;rw[if_neg (fun h=>b.c (b.d.symm.t h.2))];trivial
    exact⟨.r (b.to D Qh),fun V=>absurd (Oa) b.c⟩
theorem bSD(c:Tw T Q){S:Pr}{P:QS->QS × Int}(b:Sm T Q N S P)(f:Grs P){all:ByteArray}{G:List Int}(q:(List.range 34).all (fun k=>decide (k < 3)||(inQ (sp k) all==aQ G k))=true)(d:aQ G 0=false)(o:aQ G 1=false)(p:aQ G 2=false){n:Nat}(y:N<=n):
 Sm T Q N (lA T S G n) (bN4 Q P all):=by
 refine⟨fun r h=>?_,zL c.ends b.go d n,⟨1,f.chain all⟩,fun r st u g t=>?_⟩
 ·obtain⟨i,j⟩:=b.stk r h;obtain⟨l,m⟩:=bOM (T:=T) b.stk G n (S r).1 (S r).2 Oa;exact⟨l.t i,m.t j⟩
 ·obtain⟨a,v⟩:=b.run r st u g t;have e:=b.go r g;have:=e.ge;have x:=c.len;unfold lA bN4;rcases a with a|a
  ·exact bUI c b q d o p n Q.length _ _ _ _ _ a e.lt Oa Oa Oa (v a.c)
  ·have s:=bOM (T:=T) b.stk G n (S r).1 (S r).2 a.c;exact⟨.r (a.gr s (f.loop all _ _ _)),fun w=>absurd (Oa) a.c⟩
end
section
variable {H X U:Nat} {L:List NQ} {I A F:List Int} {m:Int} {s:Ns} {Y vI D M B E:Value} {V:List V3} {w:World} {S:List (ByteArray × Int)}
structure bQQ(L:List NQ)(I:List Int)(S:List (ByteArray × Int)):Prop where
 len:S.length=I.length
 at_:∀ (i:Nat) (x:Int),I[i]?=some x->∃ n,Ndq L x n/\S[i]?=some (n.s,n.d)
theorem bLE{v:Value}{l:List Int}(h:w.ownsRow H 3 1 v l.length (bLU l)){i:Nat}{y:Int}(hi:l[i]?=some y):∃ g J,v= Qe g l.length J/\w.cell? ⟨g,i,none⟩=some (Qc y):=by
 have f:=(List.getElem?_eq_some_iff.1 hi).1;obtain⟨_,b⟩:=h;rcases b with⟨_,j⟩|⟨g,J,c,a,_,e,_,_,_,k⟩
 ·omega
 ·refine⟨g,J,a,?_⟩;have d:(bLU l)[i]?=some (Qc y):=by simp[bLU,hi]
  grind[cell_of_row]
theorem bNL{α:Type}{l:List α}{i:Nat}{y:α}(h:l[i]?=some y):l.drop i=y::l.drop (i+1):=by
 grind[List.getElem?_eq_some_iff,List.drop_eq_getElem_cons,List.getElem?_eq_getElem,Option.some.inj]
theorem NmW.Q(h:NmW H X U L I A F m s Y vI D M B E V w){k:Nat}{a:NQ}(hi:L[k]?=some a):∃ g J c c1 d c2 e c3,Y= Qe g L.length J/\V[k]?=some (.slice c a.c.length c1,.slice d a.g.length c2,.slice e a.e.length c3)/\NdW H w a (.slice c a.c.length c1,.slice d a.g.length c2,.slice e a.e.length c3)/\(w.cell? ⟨g,k*11,none⟩=some (Qc a.d)/\w.cell? ⟨g,k*11+1,none⟩=some (Qc a.at_)/\w.cell? ⟨g,k*11+2,none⟩=some (.string a.s)/\w.cell? ⟨g,k*11+3,none⟩=some (Qc a.n)/\w.cell? ⟨g,k*11+4,none⟩=some (Qc a.mid)/\w.cell? ⟨g,k*11+5,none⟩=some (.slice c a.c.length c1)/\w.cell? ⟨g,k*11+6,none⟩=some (.slice d a.g.length c2)/\w.cell? ⟨g,k*11+7,none⟩=some (.slice e a.e.length c3)/\w.cell? ⟨g,k*11+8,none⟩=some (Qc a.b)/\w.cell? ⟨g,k*11+9,none⟩=some (Qc a.ref)/\w.cell? ⟨g,k*11+10,none⟩=some (Qc a.f))/\(∀ o,w.frozen? ⟨g,o,none⟩=false)/\g < w.1.size:=by
 obtain⟨g,J,⟨q,t,u⟩,l,n,f,b,p⟩:=h.node hi;obtain⟨c,c1,rfl,_⟩:=eQ f.k;obtain⟨d,c2,i,_⟩:=eQ f.p;obtain⟨e,c3,j,_⟩:=eQ f.h;dsimp only at i j;subst i j;exact⟨g,J,c,c1,d,c2,e,c3,l,n,f,⟨b 0 Oa,b 1 Oa,b 2 Oa,b 3 Oa,b 4 Oa,b 5 Oa,b 6 Oa,b 7 Oa,b 8 Oa,b 9 Oa,b 10 Oa⟩,p,Qp w ⟨g,k*11,none⟩ (b 0 Oa)⟩
abbrev ndO(a:NQ)(a1:Option Addr)(c1:Nat)(a2:Option Addr)(c2:Nat)(a3:Option Addr)(c3:Nat):Obj:= Qf #[Qc a.d,Qc a.at_,.string a.s,Qc a.n,Qc a.mid,.slice a1 a.c.length c1,.slice a2 a.g.length c2,.slice a3 a.e.length c3,Qc a.b,Qc a.ref,Qc a.f] 73
theorem bUV(x:ByteArray)(b:Int)(hI:bQQ L I S)(hz:I.length<=100000)(_:L.length<=200000)(h:NmW H X U L I A F m s Y vI D M B E V w):Calls prog 64 #[Qd X,.string x,Qc b] w fun e w'=>e= .returned (Qc (bL8 x b S 0))/\Below w.1.size w w':=by
 obtain⟨ai,ci,rfl,_⟩:=eQ h.its;have h5:Hid (bL8 x b S 0=bL8 x b (S.drop 0) 0):=by rw[List.drop_zero];rfl
 go_enter func64,ntmps64
 go_wp2_with fail
 go_loopg [7,8] (I.length+1) (fun k v7 v8 wr=>∃ (i:Nat) (n:Nat),v7= Qc n/\v8= Qc i/\Below w.1.size w wr/\i+k=I.length+1/\n<=i/\bL8 x b S 0=bL8 x b (S.drop i) n)
 case atStart=>exact⟨0,0,rfl,rfl,Below.refl _ _,Oa,Ql _,h5.o⟩
 case round=>
  obtain⟨i,n,rfl,rfl,v,a7,b1,f⟩:=hrel;have y:Hid (bL8 x b S 0=bL8 x b (S.drop i) n):=f;have K:=h.same v.block v.size;obtain⟨⟨c0,_⟩,g0,g1,_⟩:=K.cells;clear f h5
  by_cases hi:i < I.length
  ·obtain⟨R,O⟩:∃ R,I[i]?=some R:=⟨I[i],by simp[hi]⟩;obtain⟨C,z,h6⟩:=hI.at_ i R O;obtain⟨g,J,hv,h0⟩:=bLE K.its O;obtain⟨k,rfl⟩:=Int.eq_ofNat_of_zero_le z.1;obtain⟨gr,a2,l,q,o,t,p,u,h8,_,_,⟨e0,e1,e2,e3,e4,e5,e6,e7,e8,e9,a1⟩,_,a6⟩:=K.Q (k:=k) (a:=C) (by have:=z.2;simpa using this);have a8:=z.lt;have hb:0<=(i:Int)/\(i:Int) < (I.length:Int):=Oa
   have a3:0<=(k:Int)/\(k:Int) < (L.length:Int):=Oa
   have t0:decide ((i:Int) < (I.length:Int))=true:=by simp;omega
   simp only[Value.slice.injEq]at hv;obtain⟨rfl,_,rfl⟩:=hv;subst h8;obtain⟨m2,rfl⟩:=Oj gk;have b2:IntKind.i64.wrap ((i:Int)+1)=(i:Int)+1:=IntWalk.i64_in _ Oa;have b3:IntKind.i64.wrap ((n:Int)+1)=(n:Int)+1:=IntWalk.i64_in _ Oa;have Z:Hid (S.drop i=(C.s,C.d)::S.drop (i+1)):=bNL h6;have a9:X < wr.1.size:=Qp wr _ c0;have a4:U < wr.1.size:=Qp wr _ g0;have a5:g < wr.1.size:=Qp wr _ h0;have h7:Below w.1.size w (wr.alloc (ndO C l q o t p u)).drew:=(v.alloc v.size _).drew;have l0:(wr.alloc (ndO C l q o t p u)).drew.cell? ⟨wr.1.size,0,none⟩=some (Qc C.d):=cell_of_row _ _ _ _ _ _ (Qk wr (ndO C l q o t p u));have l2:(wr.alloc (ndO C l q o t p u)).drew.cell? ⟨wr.1.size,2,none⟩=some (.string C.s):=cell_of_row _ _ _ _ _ _ (Qk wr (ndO C l q o t p u));have G:Hid (Below w.1.size w (wr.alloc (ndO C l q o t p u)).drew):=h7;clear K z h6 O h7;go_upto_region 5 with fail
   go_region
   have j:Hid (bL8 x b S 0=if C.s=x then(if C.d=b then(n:Int)else -1)else bL8 x b (S.drop (i+1)) (if C.d=b then(n:Int)+1 else n)):=by rw[Hid,y.o,Z.o];rfl
   clear c0 g0 g1 h0 e0 e1 e2 e3 e4 e5 e6 e7 e8 e9 a1 y Z;generalize (wr.alloc (ndO C l q o t p u)).drew=W at*
   by_cases d:C.s=x
   ·have t1:(C.s.toList==x.toList)=true:=by rw[bOK,decide_eq_true d]
    by_cases c:C.d=b
    ·have P:(C.d==b)=true:=by simp[c]
     have f:Hid (bL8 x b S 0=(n:Int)):=by rw[Hid,j.o,if_pos d,if_pos c]
     clear d c j;go_wp2;go_ret;rw[f.o];exact⟨rfl,G.o⟩
    ·have P:(C.d==b)=false:=by simp[c]
     have f:Hid (bL8 x b S 0= -1):=by rw[Hid,j.o,if_pos d,if_neg c]
     clear d c j;go_wp2;go_ret;rw[f.o];exact⟨rfl,G.o⟩
   ·have t1:(C.s.toList==x.toList)=false:=by rw[bOK,decide_eq_false d]
    by_cases c:C.d=b
    ·have P:(C.d==b)=true:=by simp[c]
     have f:Hid (bL8 x b S 0=bL8 x b (S.drop (i+1)) ((n:Int)+1)):=by rw[Hid,j.o,if_neg d,if_pos c]
     clear d c j;go_wp2;go_roundg m2
     case rel=>exact⟨i+1,n+1,Od,Od,G.o,Oa,Oa,by rw[f.o];simp⟩
     case measure=>omega
    ·have P:(C.d==b)=false:=by simp[c]
     have f:Hid (bL8 x b S 0=bL8 x b (S.drop (i+1)) (n:Int)):=by rw[Hid,j.o,if_neg d,if_neg c]
     clear d c j;go_wp2;go_roundg m2
     case rel=>exact⟨i+1,n,rfl,Od,G.o,Oa,Oa,f.o⟩
     case measure=>omega
  ·have t0:decide ((i:Int) < (I.length:Int))=false:=by simp;omega
   have h9:Hid (bL8 x b S 0= -1):=by
    rw[Hid,y.o,List.drop_eq_nil_of_le (Oi hI.len)];rfl
   clear y;go_wp2;go_ret;rw[h9.o];exact⟨rfl,v⟩
end
section
variable {H X U:Nat} {L:List NQ} {I A F:List Int} {m:Int} {s:Ns} {Y vI D M B E:Value} {V:List V3} {w w1 w2:World}
theorem NmW.a0(h:NmW H X U L I A F m s Y vI D M B E V w){k p:Int}{g J:Nat}(l:w1.os=w.os/\w1.tape=w.tape/\w1.output=w.output/\w.1.size<=w1.1.size)(K:∀ k,k < w.1.size->w1.1[k]?=w.1[k]?)(R:w2.ownsRow H 55 3 (Qe g (s.d.length+1) J) (s.d.length+1) (dC s.d++[Qc k,Qc p,.bool false]))(d:w1.grownBy w2 B.ownBlock)(C:B.ownBlock=some g\/g=w1.1.size):
 NmW H X U L I A F m (s.f k p) Y vI D M (Qe g (s.d.length+1) J) E V (w2.setCell ⟨U,5,none⟩ (Qe g (s.d.length+1) J))/\Nx X U Y B E (Qe g (s.d.length+1) J) E w (w2.setCell ⟨U,5,none⟩ (Qe g (s.d.length+1) J)):=by
 have z:U < w.1.size:=(Oo h.prog);have hsz:=h.size;have P:=d.size;have old:∀ j,j < w.1.size->B.ownBlock≠some j->w2.1[j]?=w.1[j]?:=fun j b x=>(d.block j Oa Qg).t Qh
 have O:g≠U:=by
  rcases C with e|e
  ·exact fun G=>bL5 h.d h.prog Ob Qh
  ·omega
 have off:∀ {j:Nat} {c:Array Value} {t:TypeId},w.1[j]?=some (.cells c t (0,0))->t≠55->j≠U->(w2.setCell ⟨U,5,none⟩ (Qe g (s.d.length+1) J)).1[j]?=w.1[j]?:=fun b x i=>(Om i).t (old _ Qg (bL5 h.d b Qg))
 have f:∀ {o q:Nat} {e:TypeId} {v:Value} {u:List Value},w.ownsRow H e q v o u->e≠55->e≠76->(w2.setCell ⟨U,5,none⟩ (Qe g (s.d.length+1) J)).ownsRow H e q v o u:=fun n y i=>cD n (fun j b=>by
  obtain⟨⟨c,a⟩,_⟩:=bEH n b;exact off a y (bEF a h.prog i))
 refine⟨⟨(off h.nm Ob (bEF h.nm h.prog Ob)).t h.nm,aM _ ((old U z (bL5 h.d h.prog Ob)).t h.prog),f h.nodes Ob Ob,f h.its Ob Ob,f h.arrs Ob Ob,f h.fns Ob Ob,?_,f h.b Ob Ob,h.c.move (fun j b=>?_),by grind[World.setCell]⟩,⟨d.os.t l.1,d.tape.t l.2.1,d.output.t Qh,by grind[World.setCell],(by grind[Below.heap_setCell]),fun j b=>?_,Qg⟩⟩
 ·show(w2.setCell _ _).ownsRow H 55 3 _ (s.d++[(k,p)]).length (dC (s.d++[(k,p)]))
  grind[Value.ownBlock,yI,List.length_append,cD,Below.heap_setCell]
 ·obtain⟨⟨c,a⟩,_⟩:=h.c.typ b;rcases a with a|a
  ·exact off a Ob (bEF a h.prog Ob)
  ·exact off a Ob (bEF a h.prog Ob)
 grind[Value.ownBlock]
theorem bQV(k p:Int)(hS:s.d.length<=1000000)(h:NmW H X U L I A F m s Y vI D M B E V w):Calls prog 172 #[Qd X,Qc k,Qc p] w fun Z l=>Z= .returned (.tuple #[])/\∃ j,NmW H X U L I A F m (s.f k p) Y vI D M j E V l/\Nx X U Y B E j E w l:=by
 obtain⟨W,G,C,z,y⟩:=info_parts infoSI;obtain⟨ao,a,rfl,_⟩:=eQ h.d;obtain⟨⟨c0,_⟩,_,_,_,_,_,o,f⟩:=h.cells;have v:=f 5;have i:X < w.1.size:=(Oo h.nm);have c:U < w.1.size:=(Oo h.prog);have hH:=h.size;have R:=h.d;have d:some U≠(Value.slice ao s.d.length a).ownBlock:=fun e=>bL5 h.d h.prog Ob e.symm;have n:some X≠(Value.slice ao s.d.length a).ownBlock:=fun e=>bL5 h.d h.nm Ob e.symm;have O:Hid (NmW H X U L I A F m s Y vI D M (.slice ao s.d.length a) E V w):=h;clear h f;go_enter func172,ntmps172
 go_wp2_with fail
 go_region_law
  ((refine step_append_lies _ (by rfl) _ _ _ (by rfl) H 55 W _ 3 24 underlying52 G C z y rfl Oa (.slice ao s.d.length a) s.d.length (dC s.d) (by rfl) ((R.alloc _).drew)
     ⟨w.1.size,0,none⟩ 1 1 [Qc k,Qc p,.bool false] (by rfl) (by rfl) (World.news_of_block (cs:=#[Qc k,Qc p,.bool false]) (t:=55) (fr:=(0,0)) (Qk w _)) (by simp[Value.oneCell'])
     Oa (by unfold maxLen;omega) Oa (by simp;omega) (w.1.size+1) Od ?_;intro g J w1 x b K a1;have q1:=(b.cell_far ⟨U,5,none⟩ (kO c) d).t (sS c o);have q2:=(b.frozen_far ⟨U,5,none⟩ (kO c) d).t (xB c v);have q3:=(b.cell_far ⟨X,0,none⟩ (kO i) n).t (sS i c0)))
 all_goals obtain⟨q,u⟩:=O.o.a0 (w1:=(w.alloc (Qf #[Qc k,Qc p,.bool false] 55)).drew) ⟨rfl,rfl,rfl,by simp[World.drew]⟩ (fun _ P=>On P) x b (K.imp id (fun e=>e.t (by simp[World.drew])))
 all_goals go_wp2
 all_goals go_end0
 all_goals exact⟨rfl,_,q,u⟩
end
section
variable {H X U:Nat} {L:List NQ} {I A F:List Int} {m:Int} {s:Ns} {Y vI D M B E:Value} {V:List V3} {w:World} {FQ:List (Nat × Nat)}
structure bQ8(L:List NQ)(F:List Int)(FQ:List (Nat × Nat)):Prop where
 len:FQ.length=F.length
 at_:∀ (i:Nat) (x:Int),F[i]?=some x->∃ n,Ndq L x n/\FQ[i]?=some (n.g.length,n.e.length)
structure bPK(X U:Nat)(Y B E:Value)(k:Nat):Prop where
 n:k≠X
 g:k≠U
 l:Y.ownBlock≠some k
 s:B.ownBlock≠some k
 v:E.ownBlock≠some k
theorem NmW.fresh(h:NmW H X U L I A F m s Y vI D M B E V w){k:Nat}(a:w.1.size<=k):bPK X U Y B E k:=
 ⟨fun e=>Oi ((Oo h.nm)),fun e=>Oi ((Oo h.prog)),fun e=>Oi (bLP h.nodes e),fun e=>Oi (bLP h.d e),fun e=>Oi (bLP h.b e)⟩
theorem bPK.nx{w':World}{c d:Value}{k:Nat}(a:bPK X U Y B E k)(b:Nx X U Y B E c d w w')(f:k < w.1.size):bPK X U Y c d k/\w'.1[k]?=w.1[k]?:=
 ⟨⟨a.n,a.g,a.l,fun e=>(b.rs k e).elim a.s Oa,fun e=>(b.rv k e).elim a.v Oa⟩,b.keep k f a.n a.g a.l a.s a.v⟩
theorem bZ5(x:NQ)(f:Option Addr)(c1:Nat)(j:Option Addr)(c2:Nat)(l:Option Addr)(c3:Nat)(O:Int)(hF:bQ8 L F FQ)(h7:O < F.length)(_:L.length<=200000)(hS:s.d.length<=1000000)(_:F.length<=200000)(h:NmW H X U L I A F m s Y vI D M B E V w):
 Calls prog 173 #[Qd X,NdA x (.slice f x.c.length c1,.slice j x.g.length c2,.slice l x.e.length c3),Qc O] w fun e w'=>e= .returned (.tuple #[])/\∃ W,NmW H X U L I A F m (s.call FQ O x.c.length x.at_) Y vI D M W E V w'/\Nx X U Y B E W E w w':=by
 have v:=h.alloc (ndO x f c1 j c2 l c3);have y1:=(Nx.refl X U Y B E w).alloc (ndO x f c1 j c2 l c3);have q1:(w.alloc (ndO x f c1 j c2 l c3)).1[w.1.size]?=some (Qf #[Qc x.d,Qc x.at_,.string x.s,Qc x.n,Qc x.mid,.slice f x.c.length c1,.slice j x.g.length c2,.slice l x.e.length c3,Qc x.b,Qc x.ref,Qc x.f] 73):=Qk w _;unfold NdA
 by_cases G:O < 0
 ·have o:Hid (s.call FQ O x.c.length x.at_=s):=if_pos G;have t0:decide (O < 0)=true:=by simp[G]
  have hh:Hid (NmW H X U L I A F m s Y vI D M B E V (w.alloc (ndO x f c1 j c2 l c3))/\Nx X U Y B E B E w (w.alloc (ndO x f c1 j c2 l c3))):=⟨v,y1⟩;clear G h v y1 q1;go_enter func173,ntmps173
  go_wp2;refine bodyPost_ret (results_none rfl _ _ _) rfl ?_;rw[o.o];exact⟨rfl,B,hh.o⟩
 ·have t0:decide (O < 0)=false:=by simp[G]
  obtain⟨i,rfl⟩:=Int.eq_ofNat_of_zero_le (Int.not_lt.1 G);have hi:i < F.length:=Oa
  obtain⟨a1,hy⟩:∃ a1,F[i]?=some a1:=⟨F[i],by simp[hi]⟩;obtain⟨C,h6,h8⟩:=hF.at_ i a1 hy;have a9:=h6.lt;obtain⟨k,rfl⟩:=Int.eq_ofNat_of_zero_le h6.1
  have o:Hid (s.call FQ (i:Int) x.c.length x.at_=(if 0 < C.e.length then(if C.g.length≠x.c.length then s.E 5 x.at_ else s).f 4 x.at_ else(if C.g.length≠x.c.length then s.E 5 x.at_ else s))):=by
   unfold Hid Ns.call;rw[if_neg G]
   have:FQ.getD (i:Int).toNat (0,0)=(C.g.length,C.e.length):=by
    show FQ.getD i (0,0)=_;simp[List.getD,h8]
   rw[this]
  have hsz:(w.alloc (ndO x f c1 j c2 l c3)).1.size=w.1.size+1:=Od
  have o1:=h.fresh Ol;clear G h h8 h7;go_enter func173,ntmps173
  go_upto_region 2 with fail
  generalize (w.alloc (ndO x f c1 j c2 l c3))=b at*;obtain⟨⟨p0,_⟩,g0,_,_,g3,_⟩:=v.cells;obtain⟨g,J,hv,h0⟩:=bLE v.fns hy;obtain⟨gr,a2,q,u,n,p,c,d,h9,_,k0,⟨e0,e1,e2,e3,e4,e5,e6,e7,e8,e9,a4⟩,_,a8⟩:=v.Q (k:=k) (a:=C) (by have:=h6.2;simpa using this);have hb:0<=(i:Int)/\(i:Int) < (F.length:Int):=Oa
  have a5:0<=(k:Int)/\(k:Int) < (L.length:Int):=Oa
  subst hv h9;have b1:X < b.1.size:=Qp _ _ p0;have a6:U < b.1.size:=Qp _ _ g0;have a7:g < b.1.size:=Qp _ _ h0;have h2:=(v.alloc (ndO C q u n p c d)).drewN 1;have y2:=(y1.alloc (ndO C q u n p c d)).drewN 1;have q2:(b.alloc (ndO C q u n p c d)).drew.1[w.1.size]?=_:=(On Oa).t q1;have r2:(b.alloc (ndO C q u n p c d)).drew.1[b.1.size]?=some (Qf #[Qc C.d,Qc C.at_,.string C.s,Qc C.n,Qc C.mid,.slice q C.c.length u,.slice n C.g.length p,.slice c C.e.length d,Qc C.b,Qc C.ref,Qc C.f] 73):=Qk _ _;have y:Hid (NmW H X U L I A F m s (Qe gr L.length a2) vI D (Qe g F.length J) B E V (b.alloc (ndO C q u n p c d)).drew/\Nx X U (Qe gr L.length a2) B E B E w (b.alloc (ndO C q u n p c d)).drew):=⟨h2,y2⟩;have o2:=v.fresh Ol;clear hy h6 hF k0 v y1 h2 y2 q1 hsz;go_region
  clear p0 g0 g3 h0 e0 e1 e2 e3 e4 e5 e6 e7 e8 e9 a4;generalize (b.alloc (ndO C q u n p c d)).drew=R at*;have l1:R.cell? ⟨w.1.size,1,none⟩=some (Qc x.at_):=cell_of_row _ _ _ _ _ _ q2;have l5:R.cell? ⟨w.1.size,5,none⟩=some (.slice f x.c.length c1):=cell_of_row _ _ _ _ _ _ q2;have r6:R.cell? ⟨b.1.size,6,none⟩=some (.slice n C.g.length p):=cell_of_row _ _ _ _ _ _ r2;have r7:R.cell? ⟨b.1.size,7,none⟩=some (.slice c C.e.length d):=cell_of_row _ _ _ _ _ _ r2;have P:Hid (R.1[w.1.size]?=some (Qf #[Qc x.d,Qc x.at_,.string x.s,Qc x.n,Qc x.mid,.slice f x.c.length c1,.slice j x.g.length c2,.slice l x.e.length c3,Qc x.b,Qc x.ref,Qc x.f] 73)/\R.1[b.1.size]?=some (Qf #[Qc C.d,Qc C.at_,.string C.s,Qc C.n,Qc C.mid,.slice q C.c.length u,.slice n C.g.length p,.slice c C.e.length d,Qc C.b,Qc C.ref,Qc C.f] 73)):=⟨q2,r2⟩;clear q2 r2;have HS:Hid (s.d.length<=1000000):=hS;have wS:∀ e a3,(s.E e a3).d=s.d:=fun e a3=>by unfold Ns.E;split<;>rfl
  by_cases t:C.g.length=x.c.length
  ·have t1:((C.g.length:Int)!=(x.c.length:Int))=false:=by simp[t]
   by_cases hw:0 < C.e.length
   ·have t2:decide ((0:Int) < (C.e.length:Int))=true:=by simp;omega
    have K:Hid (s.call FQ (i:Int) x.c.length x.at_=s.f 4 x.at_):=by rw[Hid,o.o,if_pos hw,if_neg (by simp[t])]
    clear o t;go_wp2_with fail
    refine(bQV 4 x.at_ HS.o y.o.1).mono ?_;rintro e w3 ⟨rfl,W,Z,z⟩;clear l1 l5 r6 r7;go_wp2;go_end0
    rw[K.o];exact⟨rfl,W,Z,y.o.2.t z⟩
   ·have t2:decide ((0:Int) < (C.e.length:Int))=false:=decide_eq_false Oa;have K:Hid (s.call FQ (i:Int) x.c.length x.at_=s):=by rw[Hid,o.o,if_neg hw,if_neg (by simp[t])]
    clear o t;go_wp2;go_end0
    rw[K.o];exact⟨rfl,B,y.o.1,y.o.2⟩
  ·have t1:((C.g.length:Int)!=(x.c.length:Int))=true:=by simp;omega
   by_cases hw:0 < C.e.length
   ·have t2:decide ((0:Int) < (C.e.length:Int))=true:=by simp;omega
    have K:Hid (s.call FQ (i:Int) x.c.length x.at_=(s.E 5 x.at_).f 4 x.at_):=by rw[Hid,o.o,if_pos hw,if_pos t]
    clear o t;go_wp2_with fail
    refine(bMJ 5 x.at_ y.o.1).mono ?_;rintro e w3 ⟨rfl,Z,z⟩;have m1:w3.cell? ⟨w.1.size,1,none⟩=some (Qc x.at_):=cell_of_row _ _ _ _ _ _ ((o1.nx z (Oo P.o.1)).2.t P.o.1);have m7:w3.cell? ⟨b.1.size,7,none⟩=some (.slice c C.e.length d):=cell_of_row _ _ _ _ _ _ ((o2.nx z (Oo P.o.2)).2.t P.o.2);clear l1 l5 r6 r7;go_wp2_with fail
    refine(bQV 4 x.at_ (by rw[wS];exact HS.o) Z).mono ?_;rintro e w4 ⟨rfl,W,h4,y4⟩;clear m1 m7;go_wp2;go_end0
    rw[K.o];exact⟨rfl,W,h4,(y.o.2.t z).t y4⟩
   ·have t2:decide ((0:Int) < (C.e.length:Int))=false:=decide_eq_false Oa;have K:Hid (s.call FQ (i:Int) x.c.length x.at_=s.E 5 x.at_):=by rw[Hid,o.o,if_neg hw,if_pos t]
    clear o t;go_wp2_with fail
    refine(bMJ 5 x.at_ y.o.1).mono ?_;rintro e w3 ⟨rfl,Z,z⟩;have m7:w3.cell? ⟨b.1.size,7,none⟩=some (.slice c C.e.length d):=cell_of_row _ _ _ _ _ _ ((o2.nx z (Oo P.o.2)).2.t P.o.2);clear l1 l5 r6 r7;go_wp2;go_end0
    rw[K.o];exact⟨rfl,B,Z,y.o.2.t z⟩
end
section
variable {H X U:Nat} {L:List NQ} {I A F:List Int} {m:Int} {s:Ns} {Y vI D M B E:Value} {V:List V3} {w:World}
theorem bU6:∀ (L:List NQ) (V:List V3) (i:Nat) (a:NQ) (r:Int),L[i]?=some a->L.length=V.length->bMY (L.set i {a with ref:=r}) V=(bMY L V).set (i*11+9) (Qc r)
 |b::L,u::V,0,a,r,h1,_=>by
  simp only[List.getElem?_cons_zero,Option.some.injEq]at h1;subst h1;rfl
 |b::L,u::V,i+1,a,r,h1,h2=>by
  show NdV b u++bMY (L.set i {a with ref:=r}) V=(NdV b u++bMY L V).set _ _;rw[bU6 L V i a r Qi Qg];have e:(NdV b u).length=11:=rfl
  grind
 |[],_,_,_,_,h1,_=>by rfl
 |b::L,[],_,_,_,_,h2=>by simp at h2
theorem bMQ.set{H:Nat}{w:World}{a b:NQ}(d:bNM a b):∀ {L:List NQ} {V:List V3} {i:Nat},bMQ H w L V->L[i]?=some a->bMQ H w (L.set i b) V:=by
 intro L
 induction L with
 |nil=>simp
 |cons c L ih=>
  intro V i h e;cases V with
  |nil=>trivial
  |cons u V=>
   cases i with
   |zero=>
    simp only[List.getElem?_cons_zero,Option.some.injEq]at e;subst e;exact⟨⟨by rw[d.c];exact h.1.k,by rw[d.g];exact h.1.p,by rw[d.e];exact h.1.h⟩,h.2⟩
   |succ i=>exact⟨h.1,ih h.2 Qi⟩
theorem NmW.d0(h:NmW H X U L I A F m s Y vI D M B E V w){i:Nat}{a:NQ}(hi:L[i]?=some a)(r:Int){g J:Nat}(hv:Y= Qe g L.length J):
 NmW H X U (L.set i {a with ref:=r}) I A F m s Y vI D M B E V (w.setCell ⟨g,i*11+9,none⟩ (Qc r))/\Nx X U Y B E B E w (w.setCell ⟨g,i*11+9,none⟩ (Qc r))/\Upd i (i+1) L (L.set i {a with ref:=r}):=by
 have a3:=(List.getElem?_eq_some_iff.1 hi).1;have l:bNM a {a with ref:=r}:=⟨rfl,rfl,rfl,rfl,rfl,rfl,rfl,rfl,rfl⟩;subst hv;have f:=h.nodes;obtain⟨y,W⟩:=f;rcases W with⟨_,f⟩|⟨g2,a1,u,d,O,R,z,G,hsz,x⟩
 ·omega
 simp only[Value.slice.injEq,Option.some.injEq,Addr.mk.injEq]at d;obtain⟨⟨rfl,_⟩,_,rfl⟩:=d;have off:∀ {k:Nat} {q:Array Value} {t:TypeId},w.1[k]?=some (.cells q t (0,0))->t≠73->(w.setCell ⟨g,i*11+9,none⟩ (Qc r)).1[k]?=w.1[k]?:=(by grind[Below.heap_setCell,bEF])
 have b:∀ {n o:Nat} {e:TypeId} {v:Value} {p:List Value},w.ownsRow H e o v n p->e≠73->(w.setCell ⟨g,i*11+9,none⟩ (Qc r)).ownsRow H e o v n p:=fun j a4=>cD j (fun k P=>by
  obtain⟨⟨c,K⟩,_⟩:=bEH j P
  grind)
 have C:bMQ H (w.setCell ⟨g,i*11+9,none⟩ (Qc r)) L V:=h.c.move (fun k Z=>by
  obtain⟨⟨c,K⟩,_⟩:=h.c.typ Z
  grind)
 have a2:(bMY L V).length=L.length*11:=y;refine⟨⟨(off h.nm Ob).t h.nm,(off h.prog Ob).t h.prog,?_,b h.its Ob,b h.arrs Ob,b h.fns Ob,b h.d Ob,b h.b Ob,bMQ.set l C hi,by grind[World.setCell]⟩,⟨rfl,rfl,rfl,Od,(by grind[Value.ownBlock,Below.heap_setCell]),Qg,Qg⟩,Upd.set hi l⟩;rw[bU6 L V i a r hi h.c.len,List.length_set];refine⟨Qh,.r ⟨g,J,u.setIfInBounds (i*11+9) (Qc r),rfl,O,aM _ R,z,G,Qh,?_⟩⟩;rw[Array.toList_setIfInBounds,List.take_set,x]
end
section
variable {T Q:List Tok} {r:Rd} {st:QS} {N n:Nat} {S F:Pr} {E P:QS->QS × Int}
theorem Ro.add(h:Ro r st)(a:NQ):Ro r (bL2 a st):=⟨h.c,h.d,h.i,h.o,h.lo,h.hi⟩
theorem Rl.add(h:Rl r st)(a:NQ):Rl r (bL2 a st):=h.elim (fun h=> .l (h.add a)) (fun h=> .r ⟨h.c,h.d,h.p⟩)
theorem bLX(s:ByteArray):(bL1 T s st).L=st.L:=by
 grind[bL1,bKY,bOF]
theorem bNH(s:ByteArray):(bKW T s st).L=st.L:=by
 grind[bKW,bLX]
theorem bLR(s:ByteArray):(bL0 T s st).L=st.L:=by unfold bL0;rw[bLX]
theorem bUG(a:Tw T Q)(d:Sm T Q N S E)(h:Rl r st)(g:r.b < T.length)(J:r.a=0->T.length - r.b<=N+1){j k:Nat}(f:3<=j)(t:j < 34)(x:3<=k)(q:k < 34):
 Rl ((S (r.B T [(j:Int)])).1.H T (k:Int)) (bL0 Q (sp k) (E (bKW Q (sp j) st)).1)/\(((S (r.B T [(j:Int)])).1.H T (k:Int)).a=0->r.a=0/\NX (E (bKW Q (sp j) st)).1.L (S (r.B T [(j:Int)])).2 [(E (bKW Q (sp j) st)).2] st.L.length (E (bKW Q (sp j) st)).1.L.length):=by
 obtain⟨y,K⟩:=bPW a h g f t;have l:aQ [(j:Int)] 0=false:=bZ1 f;obtain⟨G,b,i⟩:=dF a.ends g l;have p:(r.B T [(j:Int)]).a=0->T.length - (r.B T [(j:Int)]).b<=N:=(by grind[mR]);obtain⟨z,C⟩:=d.all y b p;have c:=d.go _ b
 have o:(S (r.B T [(j:Int)])).1.a=0->1<=(S (r.B T [(j:Int)])).1.c:=fun e=>by
  have u:=(C e).1;have v:=(mR u).1;have:=(h.ok v).lo;rw[c.c,i];omega
 refine⟨bPG a z c.lt o x q,fun e=>?_⟩
 grind[pV,bNH,mR]
theorem bX0{j k:Int}(a:Stk S)(h:r.a≠0):((S (r.B T [j])).1.H T k).a=r.a/\((S (r.B T [j])).1.H T k).e=r.e:=by
 obtain⟨b,c⟩:=bND (T:=T) [j] h;obtain⟨d,e⟩:=a (r.B T [j]) Oa
 grind[bMU]
theorem bPE(a:Stk S):∀ n r,r.a≠0->(bEG T S n r).1.a=r.a/\(bEG T S n r).1.e=r.e:=by
 intro n
 induction n with
 |zero=>exact fun _ _=>Qj
 |succ n ih=>
  intro r h;unfold bEG
  split
  ·obtain⟨b,c⟩:=bNS (T:=T) [18] h;obtain⟨d,e⟩:=a (r.C T [18]) Oa;simp[*]
  trivial
theorem bOD(b:Stk S)(n:Nat):Stk (fX T S n):=fun r h=>by
 obtain⟨a,c⟩:=b r h;obtain⟨d,e⟩:=bPE (T:=T) b n (S r).1 (by rw[a];exact h);exact⟨d.t a,e.t c⟩
theorem bX1(b:Stk S)(n:Nat):Stk (lB T S n):=fun r h=>by
 obtain⟨c,d⟩:=bND (T:=T) [12] h;have a:(r.B T [12]).a≠0:=Oa
 unfold lB
 split
 ·grind[bMU]
 ·obtain⟨e,f⟩:=bOD (T:=T) b n (r.B T [12]) a
  grind[fX,bMU]
theorem bS4(a:Stk S)(n:Nat)(t:Tok):Stk (bM2 T S n t):=fun r h=>by
 unfold bM2
 split
 ·exact bX0 a h
 split
 ·exact bX1 a n r h
 trivial
theorem bR4(e:Stk S)(f:Stk F)(n:Nat):Stk (gM T S F n):=fun r h=>by
 obtain⟨g,i⟩:=bLN (T:=T) cA h;have c:(r.take T cA).a≠0:=Oa
 have j:=bPO (r:=r.take T cA) T.length (cN T r cA).e c;have d:((r.take T cA).M T.length (cN T r cA).e).a≠0:=Oa
 unfold gM;dsimp only
 split
 ·trivial
 split
 ·obtain⟨a,b⟩:=e _ d
  grind[cA,cN,bMU]
 split
 ·obtain⟨a,b⟩:=f _ d;simp[*]
 ·obtain⟨a,b⟩:=bS4 (T:=T) e n (cN T r cA) _ c;omega
theorem bWG(t:Tw T Q)(d:Sm T Q N S E):∀ n k r st l,Rl r st->r.b < T.length->(r.a=0->T.length - r.b<=N+1/\T.length - r.b<=n/\T.length - r.b<=k)->
 Rl (bEG T S n r).1 (bLK Q E k (qat Q st (sp 18)) l (if qat Q st (sp 18)=true then bKV Q st else st)).1/\st.L <+:(bLK Q E k (qat Q st (sp 18)) l (if qat Q st (sp 18)=true then bKV Q st else st)).1.L/\((bEG T S n r).1.a=0->r.a=0/\∃ c,(bLK Q E k (qat Q st (sp 18)) l (if qat Q st (sp 18)=true then bKV Q st else st)).2=l++c/\NX (bLK Q E k (qat Q st (sp 18)) l (if qat Q st (sp 18)=true then bKV Q st else st)).1.L (bEG T S n r).2 c st.L.length (bLK Q E k (qat Q st (sp 18)) l (if qat Q st (sp 18)=true then bKV Q st else st)).1.L.length):=by
 intro n
 have g:∀ (n k:Nat) (r:Rd) (st:QS) (l:List Int),Rf r st->Rl (bEG T S n r).1 (bLK Q E k (qat Q st (sp 18)) l (if qat Q st (sp 18)=true then bKV Q st else st)).1/\st.L <+:(bLK Q E k (qat Q st (sp 18)) l (if qat Q st (sp 18)=true then bKV Q st else st)).1.L/\((bEG T S n r).1.a=0->r.a=0/\∃ c,(bLK Q E k (qat Q st (sp 18)) l (if qat Q st (sp 18)=true then bKV Q st else st)).2=l++c/\NX (bLK Q E k (qat Q st (sp 18)) l (if qat Q st (sp 18)=true then bKV Q st else st)).1.L (bEG T S n r).2 c st.L.length (bLK Q E k (qat Q st (sp 18)) l (if qat Q st (sp 18)=true then bKV Q st else st)).1.L.length):=by
  intro n k r st l a;have v:=bPE (T:=T) d.stk n r a.c
  have q:Gr st (if qat Q st (sp 18)=true then bKV Q st else st) 0:=by
   grind[Gr.b,Gr.refl]
  have p:=q.stick (by rw[a.d];exact a.c)
  have b:(bLK Q E k (qat Q st (sp 18)) l (if qat Q st (sp 18)=true then bKV Q st else st)).1=(if qat Q st (sp 18)=true then bKV Q st else st):=by
   cases k with
   |zero=>rfl
   |succ k=>
    unfold bLK;rw[if_neg (fun h=>a.c (a.d.symm.t Oa))]
  rw[b];exact⟨.r (a.to v p),q.pre,fun h=>absurd (Oa) a.c⟩
 induction n with
 |zero=>
  intro k r st l a f e;rcases a with a|a
  ·have:=e a.c;omega
  ·exact g 0 k r st l a
 |succ n ih=>
  intro k r st l a f e;rcases a with a|a
  ·obtain⟨Z,hn,hk⟩:=e a.c;have z:=bN6 t a f (k:=18) Oa Oa;unfold bEG;rw[z];cases hs:aN T r [((18:Nat):Int)]
   ·have j:aN T r [18]=false:=hs;rw[if_neg (by simp[]),if_neg Od];have b:bLK Q E k false l st=(st,l):=by cases k<;>simp[bLK]
    rw[b];exact⟨.l a,Od,fun _=>⟨a.c,[],Od,rfl,Int.le_refl _⟩⟩
   ·have j:aN T r [18]=true:=hs;obtain⟨i,K,O,R⟩:=bMH t a f j Ob;have x:r.C T [18]=r.take T [18]:=by grind[Rd.C,Rd.take]
    rw[if_pos rfl,if_pos rfl,x];obtain⟨k,rfl⟩:∃ G,k=G+1:=⟨k - 1,Oa⟩
    have b:bLK Q E (k+1) true l (bKV Q st)=bLK Q E k (qat Q (E (bKV Q st)).1 (sp 18)) (l++[(E (bKV Q st)).2]) (if qat Q (E (bKV Q st)).1 (sp 18)=true then bKV Q (E (bKV Q st)).1 else(E (bKV Q st)).1):=by
     rw[bLK,if_pos ⟨rfl,i.d⟩];rfl
    rw[b];have m:(r.take T [18]).b < T.length:=Oa
    obtain⟨J,p2⟩:=d.run _ _ i m Oa;have o:=d.go (r.take T [18]) m;have a1:=o.ge;obtain⟨W,y⟩:=d.gr;have u:=(y (bKV Q st)).pre;rw[bKY]at u;obtain⟨C,i2,i3⟩:=ih k _ _ (l++[(E (bKV Q st)).2]) J o.lt Oa;refine⟨C,Qg,fun p=>⟨a.c,?_⟩⟩
    grind[bKV,cons,mk,NX,bKY,NX.mono]
  ·exact g (n+1) k r st l a
theorem NX.listed{L:List NQ}{t:Tr}{c:List Int}{lo hi:Int}(h:NX L t c lo hi):NX L (bM3 t) c lo hi:=by
 cases t with
 |nil=>exact h
 |node b o a l r=>
  show NX L (mk {a:=20} _ .nil) c lo hi;unfold mk NX;rw[if_neg Od,if_pos rfl];exact h
theorem bXA(c:Tw T Q)(d:Sm T Q N S E)(m:Ro r st)(l:r.b < T.length)(W:T.length - r.b<=N+1)(hn:N<=n):
 Rl (lB T S n r).1 (bL0 Q (sp 13) (bLK Q E Q.length (!qat Q (bKW Q (sp 12) st) (sp 13)) [] (bKW Q (sp 12) st)).1)/\
 ((lB T S n r).1.a=0->NX (bLK Q E Q.length (!qat Q (bKW Q (sp 12) st) (sp 13)) [] (bKW Q (sp 12) st)).1.L (lB T S n r).2 (bLK Q E Q.length (!qat Q (bKW Q (sp 12) st) (sp 13)) [] (bKW Q (sp 12) st)).2 st.L.length (bLK Q E Q.length (!qat Q (bKW Q (sp 12) st) (sp 13)) [] (bKW Q (sp 12) st)).1.L.length):=by
 obtain⟨a,o2⟩:=bPW c (.l m) l (k:=12) Oa Oa;obtain⟨K,f,o⟩:=dF c.ends l (show aQ [((12:Nat):Int)] 0=false by decide);have a2:=c.len;rcases a with a|a
 ·have u:=mR a.c;have t:=bN6 c a f (k:=13) Oa Oa;have a3:1<=(r.B T [((12:Nat):Int)]).c:=by rw[o];have:=m.lo;omega
  unfold lB;rw[t];cases hs:aN T (r.B T [((12:Nat):Int)]) [((13:Nat):Int)]
  ·have q:aN T (r.B T [12]) [13]=false:=hs;rw[if_neg (by simp[])];obtain⟨k,x⟩:∃ G,Q.length=G+1:=⟨Q.length - 1,Oa⟩
   have e:bLK Q E Q.length (!false) [] (bKW Q (sp 12) st)=bLK Q E k (qat Q (E (bKW Q (sp 12) st)).1 (sp 18)) ([]++[(E (bKW Q (sp 12) st)).2]) (if qat Q (E (bKW Q (sp 12) st)).1 (sp 18)=true then bKV Q (E (bKW Q (sp 12) st)).1 else(E (bKW Q (sp 12) st)).1):=by
    rw[x,bLK,if_pos ⟨rfl,a.d⟩];rfl
   rw[e];obtain⟨J,p2⟩:=d.run _ _ a f Oa;have g:=d.go _ f;have a1:=g.ge;have Z:=u.2;obtain⟨y,i2,z⟩:=bWG c d n k _ _ ([]++[(E (bKW Q (sp 12) st)).2]) J g.lt Oa;have i:=zK c.ends d.go n _ g.lt;have a4:(fX T S n (r.B T [12])).1.c=(r.B T [12]).c:=i.c.t g.c;refine⟨bPG c y i.lt (by grind[fX]) (k:=13) Oa Oa,fun v=>?_⟩;obtain⟨c1,_⟩:=pV v;obtain⟨j1,ys,C,j3⟩:=z c1;rw[C];show NX _ (bM3 (cons (S (r.B T [12])).2 (bEG T S n (S (r.B T [12])).1).2)) _ _ _
   grind[cons,mk,NX,NX.listed,bNH,NX.mono]
  ·have q:aN T (r.B T [12]) [13]=true:=hs;have e:bLK Q E Q.length (!true) [] (bKW Q (sp 12) st)=(bKW Q (sp 12) st,[]):=by cases Q.length<;>simp[bLK]
   rw[if_pos rfl,e];exact⟨bPG c (.l a) f Oa (k:=13) Oa Oa,fun _=>⟨rfl,by rw[bNH];omega⟩⟩
 ·have j:(lB T S n r).1.a=(r.B T [12]).a/\(lB T S n r).1.e=(r.B T [12]).e:=by
   have p:(r.B T [12]).a≠0:=a.c;unfold lB
   split
   ·grind[bMU]
   ·obtain⟨O,R⟩:=bOD (T:=T) d.stk n (r.B T [12]) p
    grind[fX,bMU]
  have e:∀ k b,(bLK Q E k b [] (bKW Q (sp 12) st)).1=bKW Q (sp 12) st:=fun k b=>by
   cases k with
   |zero=>rfl
   |succ k=>unfold bLK;rw[if_neg (fun h=>a.c (a.d.symm.t h.2))]
  rw[e];exact⟨.r (a.gr j (Gr.H Q _ _)),fun h=>absurd (j.1 ▸ h) a.c⟩
end
section
variable {T Q:List Tok} {r:Rd} {st:QS} {N n:Nat} {S F:Pr} {E P:QS->QS × Int}
theorem bWF(f:Tw T Q)(l:Sm T Q N S E){t q:Tok}(e:q.e=t.e/\q.f=t.f)(b:Ro r st)(d:r.b < T.length)(z:T.length - r.b<=N+1)(J:N<=n):
 Rl (bM2 T S n t r).1 (bP5 Q E q st).1/\((bM2 T S n t r).1.a=0->NX (bP5 Q E q st).1.L (bM2 T S n t r).2 [(bP5 Q E q st).2] st.L.length (bP5 Q E q st).1.L.length):=by
 have C:=bN6 f b d (k:=16) Oa Oa;have G:=bN6 f b d (k:=12) Oa Oa;have u:brT=sp 16:=rfl;have v:bOB=sp 17:=rfl;have o:bL3=sp 12:=rfl;have p:bLV=sp 13:=rfl;unfold bM2 bP5;rw[u,v,o,p,C,G];cases h1:aN T r [((16:Nat):Int)]
 ·have y:aN T r [16]=false:=h1;rw[if_neg (c:=false=true) Bool.false_ne_true,if_neg (c:=false=true) Bool.false_ne_true];cases h2:aN T r [((12:Nat):Int)]
  ·have x:aN T r [12]=false:=h2;rw[if_neg (c:=false=true) Bool.false_ne_true,if_neg (c:=false=true) Bool.false_ne_true];refine⟨.l (b.add _),fun _=>?_⟩;unfold mO mk NX;rw[if_neg Od,if_neg Od,if_neg Od,if_neg Od];refine⟨_,_,rfl,Ndq.last _ _,Oa,by grind[bL2],?_⟩;simp[*]
  ·have x:aN T r [12]=true:=h2;rw[if_pos (c:=true=true) rfl,if_pos (c:=true=true) rfl];obtain⟨h,i⟩:=bXA f l b d z J;dsimp only;refine⟨h.add _,fun g=>?_⟩;unfold mk NX;rw[if_neg Od,if_neg Od,if_neg Od,if_neg Od];have a:=i g;refine⟨_,_,rfl,Ndq.at (by rw[bLR]),a.le,by grind[bL2,bLR,List.length_append,List.length_cons,List.length_nil],?_⟩;rw[if_neg Od,if_neg Od,if_neg Od,if_pos rfl];refine⟨rfl,e.1,e.2,NX.mono ?_ _ _ _ _ a⟩;show _ <+:(bL0 Q _ _).L++_
   grind[bLR,List.prefix_append]
 ·have y:aN T r [16]=true:=h1;rw[if_pos (c:=true=true) rfl,if_pos (c:=true=true) rfl];obtain⟨h,i⟩:=bUG f l (.l b) d Oa (j:=16) (k:=17) Oa Oa Oa Oa;dsimp only;refine⟨h.add _,fun g=>?_⟩;unfold mk NX;rw[if_neg Od,if_neg Od,if_neg Od,if_neg Od];have a:=(i g).2;refine⟨_,_,rfl,Ndq.at (by rw[bLR]),a.le,by grind[bL2,bLR,List.length_append,List.length_cons,List.length_nil],?_⟩;rw[if_neg Od,if_neg Od,if_pos rfl];refine⟨rfl,e.1,e.2,_,rfl,NX.mono ?_ _ _ _ _ a⟩;show _ <+:(bL0 Q _ _).L++_
  grind[bLR,List.prefix_append]
theorem bRL{k:Int}(h:(dD T r.b).d=k)(a:k=12\/k=28):(r.take T cA).M T.length (cN T r cA).e=r.B T [k]:=by
 have b:aN T r cA=true:=by
  unfold aN;rw[h];rcases a with rfl|rfl<;>rfl
 grind[aN,Rd.B,Rd.take,cN,bLY]
theorem bUH(f:Tw T Q)(v:Sm T Q N S E)(z:Sm T Q N F P)(gE:Grs E)(gF:Grs P)(sF:bW3 P)(hn:N<=n):Sm T Q (N+1) (gM T S F n) (bOX Q E P):=by
 refine⟨bR4 v.stk z.stk n,aEG f.ends v.go z.go n,⟨1,gE.fac gF sF⟩,fun r st d i hN=>?_⟩;have a:=f.tok r.b i;have k0:dD Q st.i=dD Q r.b:=by rw[d.i]
 have G:bL3=sp 12:=rfl;have a2:bLV=sp 13:=rfl;have W:bLT=sp 28:=rfl;have O:=bN6 f d i (k:=12) Oa Oa;have hb:=bN6 f d i (k:=28) Oa Oa;unfold gM bOX;dsimp only;rw[if_neg (c:=st.a≠0) (by simp[d.d]),k0]
 by_cases hs:aN T r cA=true
 ·obtain⟨Z,g2,o,g4⟩:=bMH f d i hs Ob
  have k4:(dD T r.b).d=2\/(dD T r.b).d=1\/(dD T r.b).d=12\/(dD T r.b).d=28:=by
   have:=aH6 hs;rw[o]at this;simpa[cA]using this
  have h5:(cN T r cA).d=(dD T r.b).d:=by rw[o]
  rcases k4 with h|h|h|h
  ·rw[if_pos (by rw[h5];exact h),if_pos (a.Y.2.1.2 h)];refine⟨.l (Z.add _),fun _=>?_⟩;unfold vY mk NX;rw[if_neg Od,if_neg Od,if_neg Od,if_neg Od];refine⟨_,_,rfl,Ndq.at (by rw[bKY]),Oa,by grind[bL2,bKY,List.length_append,List.length_cons,List.length_nil],?_⟩;rw[if_pos rfl];refine⟨rfl,?_,rfl⟩;show(dD Q r.b).a=(cN T r cA).a;rw[o];rcases a.2 with⟨g,_⟩|⟨g,_⟩|⟨_,_,g⟩|⟨g,_⟩
   ·omega
   ·omega
   ·exact g
   ·omega
  ·have l:(dD Q r.b).d=1:=a.Y.1.2 h;rw[Oh,Oh,Oh,Oh,if_pos l];have y:=bWF (n:=n) f v (t:=cN T r cA) (q:=dD Q r.b) ⟨by rw[o];exact a.1,?_⟩ Z Oa Oa hn
   ·grind[bKY]
   rw[o];rcases a.2 with⟨g,_⟩|⟨_,_,g⟩|⟨g,_⟩|⟨g,_⟩
   ·omega
   ·exact g
   ·omega
   ·omega
  ·have u:aN T r [((12:Nat):Int)]=true:=by grind[bLY]
   have l: ¬(dD Q r.b).d=1:=fun e=>by have:=a.Y.1.1 e;omega
   have p: ¬(dD Q r.b).d=2:=fun e=>by have:=a.Y.2.1.1 e;omega
   rw[Oh,if_pos Oa,if_neg p,if_neg l,G,O,if_pos u,bRL h Oa,a2];obtain⟨b,p2⟩:=bUG f v (.l d) i Oa (j:=12) (k:=13) Oa Oa Oa Oa
   grind[mk,NX,bLR]
  ·have u:aN T r [((12:Nat):Int)]=false:=by grind[bLY]
   have K:aN T r [((28:Nat):Int)]=true:=by grind[bLY]
   have l: ¬(dD Q r.b).d=1:=fun e=>by have:=a.Y.1.1 e;omega
   have p: ¬(dD Q r.b).d=2:=fun e=>by have:=a.Y.2.1.1 e;omega
   rw[Oh,Oh,if_pos Oa,if_neg p,if_neg l,G,O,if_neg (by rw[u];exact Bool.false_ne_true),W,hb,if_pos K,bRL h Oa];obtain⟨o1,o2⟩:=bPW f (.l d) i (k:=28) Oa Oa;obtain⟨a1,R,a3⟩:=dF f.ends i (show aQ [((28:Nat):Int)] 0=false by decide);obtain⟨b,p2⟩:=z.all o1 R (fun C=>by have:=(mR C).2;omega);have k5:=z.go _ R;refine⟨?_,fun C=>?_⟩
   ·rcases b with b|b
    ·have a4:(F (r.B T [((28:Nat):Int)])).1.c=r.c+1:=k5.c.t a3;have h1:=d.lo;have h2:=d.hi;refine .l ⟨b.c,b.d,b.i,?_,?_,?_⟩
     ·show _ - 1=wrap64 (_ - 1);rw[<-b.o,kE Oa];rfl
     ·grind
     grind
    ·exact .r ⟨b.c,b.d,b.p⟩
   ·unfold mk NX;rw[if_neg Od,if_neg Od,if_neg Od,if_neg Od];have y:=(p2 C).2;rw[bNH]at y;refine⟨_,_,rfl,Ndq.last {(P (bKW Q (sp 28) st)).1 with op:=_} _,y.le,by grind[bL2],?_⟩;rw[if_neg Od,if_neg Od,if_neg Od,if_neg Od,if_pos rfl];exact⟨rfl,_,rfl,NX.mono (List.prefix_append _ _) _ _ _ _ y⟩
 ·have k3:aN T r cA=false:=Qh
  have J:=bN7 f d i k3;have k1:cN T r cA=aD6:=by grind[cN]
  have x:∀ k:Int,aQ cA k=true->(dD T r.b).d≠k:=(by grind[aN]);have l: ¬(dD Q r.b).d=1:=fun e=>x 1 Ob (a.Y.1.1 e);have p: ¬(dD Q r.b).d=2:=fun e=>x 2 Ob (a.Y.2.1.1 e);have u:aN T r [((12:Nat):Int)]=false:=by rw[bLY];exact decide_eq_false (x 12 Ob)
  have K:aN T r [((28:Nat):Int)]=false:=by rw[bLY];exact decide_eq_false (x 28 Ob)
  rw[k1,if_neg Ob,if_neg Ob,if_neg Ob,if_neg p,if_neg l,G,O,if_neg (by rw[u];exact Bool.false_ne_true),W,hb,if_neg (by rw[K];exact Bool.false_ne_true)];have k2:=bS4 (T:=T) v.stk n aD6 _ J.c;exact⟨.r (J.to k2 Qj),fun C=>absurd (Oa) J.c⟩
theorem Sm.zero(b:Stk S)(c:aZ T S)(a:Grs P):Sm T Q 0 S P:=⟨b,c,⟨1,a⟩,Oa⟩
theorem bS5(b:Stk S)(G:List Int)(n:Nat):Stk (lA T S G n):=fun r h=>by
 obtain⟨a,c⟩:=b r h;obtain⟨d,e⟩:=bOM (T:=T) b G n (S r).1 (S r).2 (by rw[a];exact h);exact⟨d.t a,e.t c⟩
theorem bPN(a:Stk S)(op:Int):∀ n r v,r.a≠0->(bM8 T S op n r v).1.a=r.a/\(bM8 T S op n r v).1.e=r.e:=by
 intro n
 induction n with
 |zero=>exact fun _ _ _=>Qj
 |succ n ih=>
  intro r v h;unfold bM8
  split
  ·obtain⟨b,c⟩:=bNS (T:=T) [op] h;obtain⟨d,e⟩:=a (r.C T [op]) Oa;simp[*]
  trivial
theorem bQC(b:Stk S)(op:Int)(n:Nat):Stk (kK T S op n):=fun r h=>by
 obtain⟨a,c⟩:=b r h;obtain⟨d,e⟩:=bPN (T:=T) b op n (S r).1 (S r).2 (by rw[a];exact h);exact⟨d.t a,e.t c⟩
theorem bP1(b:Stk S):Stk (iJ T S):=fun r h=>by
 obtain⟨a,c⟩:=b r h;obtain⟨d,e⟩:=bLN (T:=T) (r:=(S r).1) iR (by rw[a];exact h);obtain⟨f,g⟩:=b ((S r).1.take T iR) Oa;exact⟨f.t (d.t a),g.t (e.t c)⟩
theorem bPC(e:Stk S):Stk (fM T S):=fun r h=>by
 obtain⟨a,b⟩:=e r h;obtain⟨c,d⟩:=bLN (T:=T) (r:=(S r).1) [19] (by rw[a];exact h);exact⟨c.t a,d.t b⟩
theorem bQS(e:Stk S)(t:Tok)(q:Bool):Stk (sQ T S t q):=fun r h=>by
 obtain⟨a,b⟩:=bLN (T:=T) [20] h;obtain⟨c,d⟩:=bPC (T:=T) e (r.take T [20]) Oa;exact⟨c.t a,d.t b⟩
theorem bS3(b:Stk S)(t:Tok):Stk (lK T S t):=fun r h=>by
 obtain⟨a,c⟩:=bX0 (T:=T) (j:=16) (k:=17) b h;obtain⟨d,e⟩:=bLN (T:=T) (r:=(gR T S r).1) [20] (by rw[show(gR T S r).1.a=r.a from a];exact h);obtain⟨f,g⟩:=bPC (T:=T) b ((gR T S r).1.take T [20]) (by grind[gR]);exact⟨f.t (d.t a),g.t (e.t c)⟩
theorem bR5(a:Stk S):∀ n r,r.a≠0->(cL T S n r).1.a=r.a/\(cL T S n r).1.e=r.e:=by
 intro n
 induction n with
 |zero=>exact fun _ _=>Qj
 |succ n ih=>
  intro r h;unfold cL
  split
  ·trivial
  ·obtain⟨b,c⟩:=a r h;simp[*]
theorem bS6(g:Stk S)(n:Nat):Stk (qI T S n):=fun r h=>by
 obtain⟨a,c⟩:=bND (T:=T) [14] h;obtain⟨b,d⟩:=bR5 (T:=T) g n (r.B T [14]) (by rw[a];exact h);obtain⟨e,f⟩:=bMU (T:=T) (r:=(cL T S n (r.B T [14])).1) 15 (by rw[b,a];exact h);exact⟨e.t (b.t a),f.t (d.t c)⟩
theorem cA5{C B:Pr}(d:Stk C)(a:Stk B):Stk (ifP T C B):=fun r h=>by
 obtain⟨b,e⟩:=d r h;obtain⟨c,f⟩:=a (C r).1 Oa;unfold ifP;dsimp only
 split
 ·obtain⟨g,i⟩:=bNS (T:=T) (r:=(B (C r).1).1) [8] (by rw[c,b];exact h);obtain⟨j,k⟩:=a ((B (C r).1).1.C T [8]) Oa;simp[*]
 simp[*]
theorem bTG{C B:Pr}(b:Stk S)(e:Stk C)(d:Stk B):Stk (eL T S C B):=fun r h=>by
 obtain⟨k,l⟩:=bLN (T:=T) aR h;have a:(r.take T aR).a≠0:=Oa
 have c:∀ {x:Rd},x.a=(r.take T aR).a/\x.e=(r.take T aR).e->x.a=r.a/\x.e=r.e:=Oa;unfold eL;dsimp only
 split
 ·obtain⟨f,g⟩:=bLN (T:=T) (r:=r.take T aR) [1] a;obtain⟨i,j⟩:=bQS (T:=T) b (cN T (r.take T aR) [1]) true ((r.take T aR).take T [1]) Oa;omega
 split
 ·exact c (cA5 e d _ a)
 split
 ·obtain⟨f,g⟩:=e _ a;obtain⟨i,j⟩:=d (C (r.take T aR)).1 Oa;simp[*]
 split
 ·exact c (bPC b _ a)
 split
 ·exact c (bPC b _ a)
 split
 ·exact c (bS3 b _ _ a)
 ·exact c (bQS b _ _ _ a)
theorem bPD:∀ n s,Stk (iH T n s):=by
 intro n
 induction n with
 |zero=>exact fun s r h=>bR3 _ _ _ h
 |succ n ih=>
  intro s
  match s with
  |0=>exact bR4 (ih 2) (ih 0) n
  |1=>exact bS5 (ih 0) _ n
  |2=>exact bS5 (ih 1) _ n
  |3=>exact bP1 (ih 2)
  |4=>exact bQC (ih 3) _ n
  |5=>exact bQC (ih 4) _ n
  |6=>exact bS6 (ih 7) n
  |s+7=>exact bTG (ih 2) (ih 5) (ih 6)
theorem bXB(a:Tw T Q):∀ N n m,N+1<=m->(16*N+1<=n->Sm T Q N (iH T n 0) (qEF Q m).2)/\(16*N+3<=n->Sm T Q N (iH T n 2) (qEF Q m).1):=by
 intro N
 induction N with
 |zero=>exact fun n m _=>⟨fun _=>Sm.zero (bPD n 0) (bM1 a.ends n 0) (bM6 Q m).1.2,fun _=>Sm.zero (bPD n 2) (bM1 a.ends n 2) (bM6 Q m).1.1⟩
 |succ N ih=>
  intro n m h;obtain⟨m,rfl⟩:∃ k,m=k+1:=⟨m - 1,Oa⟩
  have fac:∀ n,16*(N+1)+1<=n->Sm T Q (N+1) (iH T n 0) (qEF Q (m+1)).2:=by
   intro n g;obtain⟨n,rfl⟩:∃ k,n=k+1:=⟨n - 1,Oa⟩;exact bUH a ((ih n m Oa).2 Oa) ((ih n m Oa).1 Oa) (bM6 Q m).1.1 (bM6 Q m).1.2 (bM6 Q m).2.2 Oa
  refine⟨fac n,fun g=>?_⟩;obtain⟨n,rfl⟩:∃ k,n=k+2:=⟨n - 2,Oa⟩;have d:=bSD a (fac n Oa) ((bM6 Q m).1.1.fac (bM6 Q m).1.2 (bM6 Q m).2.2) (all:=bQN) (G:=[29,30,31]) (by rfl) Ob Ob Ob (n:=n) Oa;have b:=bSD a d (((bM6 Q m).1.1.fac (bM6 Q m).1.2 (bM6 Q m).2.2).chain bQN) (all:=bRX) (G:=[27,28]) (by rfl) Ob Ob Ob (n:=n+1) Oa;refine⟨b.stk,b.go,⟨1,(bM6 Q (m+1)).1.1⟩,fun r st c f e=>?_⟩;have:(qEF Q (m+1)).1 st=bN4 Q (bN4 Q (bOX Q (qEF Q m).1 (qEF Q m).2) bQN) bRX st:=if_neg (by simp[c.d]);rw[this];exact b.run r st c f e
end
end Go.Proofs.YtikffmloeifkpaaGreatDoor
