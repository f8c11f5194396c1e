/- Contracts. -/
import Derived.Test.YtikffmloeifkpaaGreatDoorR08
import Derived.Test.YtikffmloeifkpaaGreatDoorR07
set_option maxHeartbeats 8000000
set_option maxRecDepth 100000
namespace Go.Proofs.YtikffmloeifkpaaGreatDoor
open Go.RowKit Go.Lib Go.Deep Tryz
section
def aJR:Tr->Value
 | .nil=> .agg #[]
 | .node _ _ a _ _=>fV a.h a.b
def SoN(S:Pr):Prop:=∀ r,∃ a x y,(S r).2=mk a x y/\19<=a.a/\(a.a < 20/\a.c=0)
theorem infoN:(prog.info? 100).map (fun i=>(i.zero,i.size,i.bytes))=some (some (.agg #[.string (ByteArray.mk #[]),Qc 0,Qc 0]),3,32):=by kernel_rfl
theorem aRI{t:Tr}{a:Nd}{x y:Tr}(h:er t=mk a x y)(e:19<=a.a)(d:a.a < 20/\a.c=0):cP t=[.string a.h,Qc a.b,Qc 0]/\bL (cons t .nil)=100/\∃ b o a l q,t= .node b o a l q/\(a.a=19↔3=3):=by
 obtain⟨b,o,l,r,rfl,_,_⟩:=oI h;have c:a.a=19:=Oa
 exact⟨(if_pos c).t (by rw[d.2]),if_pos c,b,o,a,l,r,rfl,Oa⟩
theorem aD7{t:Tr}(h:∃ b o a l q,t=BT.node b o a l q/\(a.a=19↔True)):∃ b o a l q,t=BT.node b o a l q/\(a.a=19↔3=3):=by
 obtain⟨b,o,a,l,q,c,d⟩:=h;exact⟨b,o,a,l,q,c,by simpa using d⟩
theorem aH5{t:Tr}{a:Nd}{x y:Tr}(h:er t=mk a x y):aJR t= .agg #[.string a.h,Qc a.b,Qc 0]:=by
 obtain⟨b,o,l,r,rfl,_,_⟩:=oI h;rfl
theorem aK0(T:List Tok)(g J b f n I:Nat)(S:Pr)(r:Rd)(w:World)(hf:∀ args wx,(callFunc f args).run prog wx= .ok (.enter f args) wx)(hS:uA T g J b f S (Dm T n I) aJR)(hG:aZ T S)(hO:SoN S)(h:RdW T g J b r w)(hd:Dm T n I r):
 Calls prog 187 #[Qd b,fv f b] w (jL T g J b w (fX T S n r) bCH):=by
 have X:Hid (uA T g J b f S (Dm T n I) aJR):=hS;have D:Hid (aZ T S):=hG;have W:Hid (SoN S):=hO;clear hS hG hO;obtain⟨i0,j6,z7,z6,z5⟩:=info_parts infoN;unfold fv;go_enter func187,ntmps187
 go_wp2_with fail
 refine(X.o r w h hd).mono ?_;rintro e w1 ⟨t,rfl,ht,it,h1,i⟩;have L:Hid (er t=(S r).2):=ht;clear ht;have a1:=D.o r h.lt;have z3:=hd.adv a1;have d3:=h.few;obtain⟨u,sx,sy,y8,j2,j1⟩:=W.o r;obtain⟨z0,G,j4⟩:=aRI (L.o.t y8) j2 j1;have A:=aH5 (L.o.t y8);have HV:Hid (aJR t= .agg #[.string u.h,Qc u.b,Qc 0]):=A;have V:Hid (cP t=[.string u.h,Qc u.b,Qc 0]):=z0;have z4:Hid (bL (cons t .nil)=100):=G;rw[A];clear A z0 G;have bML:(w1.alloc (Qf #[.string u.h,Qc u.b,Qc 0] 100)).ownsRow w.1.size 100 3 (Qe w1.1.size 1 1) 1 [.string u.h,Qc u.b,Qc 0]:=qX i.size rfl;go_wp2_with fail
 go_loopg [5] n (fun m c7 wr=>∃ (U:Rd) (c:Tr),wr.ownsRow w.1.size 100 3 c7 (aO c) (bLF c)/\c≠ .nil/\bL c=100/\jZ 3 c/\New w.1.size wr c/\(∀ k,c7.ownBlock=some k->dV k c)/\RdW T g J b U wr/\Ex b w wr/\Dm T n I U/\T.length - U.b<=m/\aO c<=U.b+1/\
  app (er c) (bEG T S m U).2=cons (S r).2 (bEG T S n (S r).1).2/\(bEG T S m U).1=(bEG T S n (S r).1).1)
 case atStart=>
  refine⟨_,cons t .nil,?_,?_,z4.o,⟨rfl,aD7 j4,by rw[V.o];rfl,trivial⟩,(it.ex h1 ((Ex.refl b w1).alloc _)).cons (New.nil _ _),?_,h1.alloc _,i.alloc _,z3,?_,?_,?_,rfl⟩
  ·show World.ownsRow _ _ _ _ _ 1 (cP t++[]);rw[V.o];exact bML
  ·intro e;cases e
  ·intro k p;simp only[Value.ownBlock,Option.some.injEq]at p;subst p;exact⟨it.o Ol,trivial,fun c8=>absurd rfl c8.1⟩
  ·have:=z3.1;omega
  ·show 0+1<=_;omega
  ·show cons (er t) _=_;rw[L.o];rfl
 case round=>
  obtain⟨U,c,own,k9,G,hsz,b6,y9,F,ec,y3,hm,d6,h9,h0⟩:=hrel;have K:Hid (app (er c) (bEG T S gk U).2=cons (S r).2 (bEG T S n (S r).1).2):=h9;have Q:Hid ((bEG T S gk U).1=(bEG T S n (S r).1).1):=h0;have h8:Hid (bL c=100):=G;clear h9 h0 G bML;obtain⟨l,M,j0⟩:=vU own (uO k9);subst j0;have y4:=F.alloc (Qf #[Qc 18] 141);have e2:=(Ex.refl b wr).alloc (Qf #[Qc 18] 141);have b3:=b6.ex F e2;have c5:=own.alloc (Qf #[Qc 18] 141);have j5:=bM wr [18] #[Qc 18] rfl;go_wp2_with fail
  refine(lL T g J b U wr.1.size 1 [18] _ y4 j5 Ob Ob).mono ?_;rintro e Y ⟨rfl,H,Z⟩;have a3:=b3.ex y4 Z;have R:=bME c5 y4.blk Ob Z;have a2:=(ec.t e2).t Z;have y1:=F.lt;have y:=dU F.ends y1 (show aQ [18] 0=false by decide);have z2:=y3.adv y;cases hs:aN T U [18]
  ·have y7:U.C T [18]=U:=by unfold Rd.C;rw[hs];rfl
   rw[y7]at H
   have k1:bEG T S gk U=(U,.nil):=by
    cases gk with
    |zero=>rfl
    |succ gk=>show(if _ then _ else _)=_;rw[if_neg (by rw[hs];decide)]
   have o:=K.o;have v:=Q.o;rw[k1]at o v;rw[vJ]at o
   have fin:jL T g J b w (fX T S n r) bCH (.returned (Qe l (aO c) M)) Y:=by
    refine⟨.node l M {a:=20} c .nil,rfl,?_,New.listed k9 hsz a3 (by rw[h8.o];exact R),?_,a2⟩
    ·show BT.node 0 0 _ (er c) .nil=bM3 (cons (S r).2 (bEG T S n (S r).1).2);rw[o];rfl
    ·show RdW T g J b (bEG T S n (S r).1).1 Y;rw[<-v];exact H
   clear o v k1 y7 K Q;go_wp2;go_ret;exact fin
  ·have HN:Hid ((U.C T [18]).b=U.b+1):=lW hs;go_wp2_with fail
   refine(X.o _ _ H z2).mono ?_;rintro e j ⟨x,rfl,y6,b8,h5,e5⟩;have P:Hid (er x=(S (U.C T [18])).2):=y6;obtain⟨d,yx,yy,k7,z9,z8⟩:=W.o (U.C T [18]);obtain⟨k2,_,y0⟩:=aRI (P.o.t k7) z9 z8;have k8:=aH5 (P.o.t k7);have j8:Hid (aJR x= .agg #[.string d.h,Qc d.b,Qc 0]):=k8;have y5:Hid (cP x=[.string d.h,Qc d.b,Qc 0]):=k2;rw[k8];clear k8 k7 y6 k2;obtain⟨m,rfl⟩:=Oj gk;have a5:=y.t (D.o _ y.lt);have z1:=y3.adv a5;have a8:=bME R H.blk Ob e5;have b4:=a3.ex H e5;have b2:=a2.t e5;have e3:=b2.size;have d9:=HN.o;have d4:=(D.o _ y.lt).ge;have d8:=(D.o _ y.lt).lt;have d5:aO c<=5000:=Oa
   go_wp2_with (at_builtin;refine wpList_append_lies _ rfl _ _ 101 rfl w.1.size 100 i0 _ 3 32 underlying101 j6 z7 z6 z5 rfl Oa (Qe l (aO c) M) (aO c) (bLF c) rfl (a8.alloc _) ⟨j.1.size,0,none⟩ 1 1 [.string d.h,Qc d.b,Qc 0] rfl rfl (World.news_of_block (cs:=#[.string d.h,Qc d.b,Qc 0]) (t:=100) (fr:=(0,0)) (Qk j _)) (by simp[Value.oneCell']) Oa (by unfold maxLen;omega) Oa (by simp;omega) (j.1.size+1) Od ?_;intro g6 b1 q c6 E k4 d7)
   have e6:Ex b j (j.alloc (Qf #[.string d.h,Qc d.b,Qc 0] 100)):=(Ex.refl b j).alloc _;have z:=h5.alloc (Qf #[.string d.h,Qc d.b,Qc 0] 100);have a4:=b4.ex h5 e6;have O:=b8.ex h5 e6
   have a9:∀ k,Value.ownBlock (Qe l (aO c) M)=some k->k≠b/\k≠g:=by
    intro k p;rcases(a8.alloc (Qf #[.string d.h,Qc d.b,Qc 0] 100)).2 with⟨B,_⟩|⟨g',c9,d1,A,_,N,_⟩
    ·cases B
    ·simp only[Value.slice.injEq,Option.some.injEq,Addr.mk.injEq]at A;obtain⟨⟨rfl,_,_⟩,_,_⟩:=A;simp only[Value.ownBlock,Option.some.injEq]at p;subst p;refine⟨fun i=>?_,fun i=>?_⟩
     ·rw[i,z.blk]at N;simp at N
     ·obtain⟨d2,j7,_⟩:=z.row;rw[i,j7]at N;simp at N
   have h7:RdW T g J b (S (U.C T [18])).1 q:=z.move (E.block b z.size (fun i=>(a9 b i.symm).1 rfl)) (E.block g z.gsize (fun i=>(a9 g i.symm).2 rfl));have e7:Ex b w q:=Ex.grown (b2.alloc _) E (fun k p=>(own.lt k p).1);have a7:dV l c:=y9 l rfl;have y2:l < Y.1.size:=(R.lt l rfl).2;have h4:∀ C,C < (j.alloc (Qf #[.string d.h,Qc d.b,Qc 0] 100)).1.size->C≠l->q.1[C]?=(j.alloc (Qf #[.string d.h,Qc d.b,Qc 0] 100)).1[C]?:=fun C hi j3=>E.block C hi (fun i=>j3 (Oq i));have b5:New w.1.size q c:=a4.but h4 a7;have a6:dV l x:=O.fresh.notIn y2;have b7:New w.1.size q x:=(O.but h4 a6).mono a2.size
   have b9:dV g6 (lD c x):=by
    rcases k4 with B|B
    ·simp only[Value.ownBlock,Option.some.injEq]at B;subst B;exact fH a7 a6
    ·subst B;have e1:(j.alloc (Qf #[.string d.h,Qc d.b,Qc 0] 100)).1.size=j.1.size+1:=Od
     exact fH (a4.o Oa) (O.o Oa)
   have fin:∃ (U:Rd) (s:Tr),q.ownsRow w.1.size 100 3 (Qe g6 (aO c+1) b1) (aO s) (bLF s)/\s≠ .nil/\bL s=100/\jZ 3 s/\New w.1.size q s/\
    (∀ k,(Qe g6 (aO c+1) b1).ownBlock=some k->dV k s)/\RdW T g J b U q/\Ex b w q/\Dm T n I U/\T.length - U.b<=m/\aO s<=U.b+1/\
    app (er s) (bEG T S m U).2=cons (S r).2 (bEG T S n (S r).1).2/\(bEG T S m U).1=(bEG T S n (S r).1).1:=by
    refine⟨_,lD c x,?_,uG _ _,?_,?_,New.snoc hsz b5 b7,?_,h7,e7,z1,?_,?_,?_,?_⟩
    ·rw[iN,jT,y5.o];exact c6
    ·rw[lZ k9];exact h8.o
    ·exact mY hsz (aD7 y0) (by rw[y5.o];rfl)
    ·intro k p;simp only[Value.ownBlock,Option.some.injEq]at p;subst p;exact b9
    ·omega
    ·rw[iN];omega
    ·have o:=K.o
     have v:bEG T S (m+1) U=((bEG T S m (S (U.C T [18])).1).1,cons (S (U.C T [18])).2 (bEG T S m (S (U.C T [18])).1).2):=by
      show(if _ then _ else _)=_;rw[if_pos hs]
     rw[v]at o;rw[sE,pN,P.o];exact o
    ·have o:=Q.o
     have v:bEG T S (m+1) U=((bEG T S m (S (U.C T [18])).1).1,cons (S (U.C T [18])).2 (bEG T S m (S (U.C T [18])).1).2):=by
      show(if _ then _ else _)=_;rw[if_pos hs]
     rw[v]at o;exact o
   clear K Q X D W L HV V HN P j8 y5 z4 h8 k4 b5 b7 b9 a6 a7 a4 O b4 a3 b3 b8 c6 a8 R c5 own h7 e7 z e6 hsz b6 y9 F ec y3 a9 h4 E z1 z2 a5 y;go_wp2;go_roundg m
   case rel=>exact fin
   case measure=>omega
theorem aKY(T:List Tok)(g J b:Nat)(r:Rd)(w:World)(h:RdW T g J b r w):
 Calls prog 125 #[Qd b] w (jL T g J b w (fQ T r) cB):=by
 have W:=h.ends;have y:=aP h.ends h.lt (show aQ [1] 0=false by decide);have V:=y.t (aP h.ends y.lt (show aQ [2] 0=false by decide));go_enter func125,ntmps125
 go_wp2_with fail
 refine(uM T g J b r w h).mono ?_;rintro e c ⟨rfl,j,z⟩;generalize G:cN T r [1]=q at*;have O:Hid (cN T r [1]=q):=G;clear G;unfold fV;have L:(c.alloc (Qf #[.string q.f,Qc q.e,Qc 0] 100)).1[c.1.size]?=some (Qf #[.string q.f,Qc q.e,Qc 0] 100):=Qk c _;have K:(c.alloc (Qf #[.string q.f,Qc q.e,Qc 0] 100)).1.size=c.1.size+1:=Od
 have m:=bM (c.alloc (Qf #[.string q.f,Qc q.e,Qc 0] 100)) [2] #[Qc 2] rfl;rw[K]at m;have k:=(j.alloc (Qf #[.string q.f,Qc q.e,Qc 0] 100)).alloc (Qf #[Qc 2] 141);have A:=(z.alloc (Qf #[.string q.f,Qc q.e,Qc 0] 100)).alloc (Qf #[Qc 2] 141)
 have s:((c.alloc (Qf #[.string q.f,Qc q.e,Qc 0] 100)).alloc (Qf #[Qc 2] 141)).1[c.1.size]?=some (Qf #[.string q.f,Qc q.e,Qc 0] 100):=
  (On (by rw[K];omega)).t L
 have D:c.1.size≠b:=by have:=j.size;omega
 go_wp2_with fail
 generalize (c.alloc (Qf #[.string q.f,Qc q.e,Qc 0] 100)).alloc (Qf #[Qc 2] 141)=P at*;refine(fG T g J b _ (c.1.size+1) 1 [2] P k m Ob Ob).mono ?_;rintro e d ⟨rfl,l,i⟩;have X:=aAL k [2];have t:=(i.block c.1.size (Oo s) D).t s;generalize F:cN T (r.take T [1]) [2]=p at*;have N:Hid (cN T (r.take T [1]) [2]=p):=F;clear F;rw[Tok.val_eq];have M:(d.alloc (Qf #[Qc p.d,Qc p.e,.string p.f,Qc p.a] 143)).1[d.1.size]?=some (Qf #[Qc p.d,Qc p.e,.string p.f,Qc p.a] 143):=Qk d _;have v:(d.alloc (Qf #[Qc p.d,Qc p.e,.string p.f,Qc p.a] 143)).1.size=d.1.size+1:=Od
 have n:=bM (d.alloc (Qf #[Qc p.d,Qc p.e,.string p.f,Qc p.a] 143)) [19] #[Qc 19] rfl;rw[v]at n;have U:c.1.size < d.1.size:=(Oo t);have E:=(l.alloc (Qf #[Qc p.d,Qc p.e,.string p.f,Qc p.a] 143)).alloc (Qf #[Qc 19] 141);have B:=((A.t i).alloc (Qf #[Qc p.d,Qc p.e,.string p.f,Qc p.a] 143)).alloc (Qf #[Qc 19] 141)
 have u:((d.alloc (Qf #[Qc p.d,Qc p.e,.string p.f,Qc p.a] 143)).alloc (Qf #[Qc 19] 141)).1[c.1.size]?=some (Qf #[.string q.f,Qc q.e,Qc 0] 100):=
  (On (by rw[v];omega)).t ((On U).t t)
 have o:((d.alloc (Qf #[Qc p.d,Qc p.e,.string p.f,Qc p.a] 143)).alloc (Qf #[Qc 19] 141)).1[d.1.size]?=some (Qf #[Qc p.d,Qc p.e,.string p.f,Qc p.a] 143):=
  (On (by rw[v];omega)).t M
 have S:d.1.size≠b:=by have:=l.size;omega
 clear j z k A i;go_wp2_with fail
 generalize (d.alloc (Qf #[Qc p.d,Qc p.e,.string p.f,Qc p.a] 143)).alloc (Qf #[Qc 19] 141)=Q at*;refine(fG T g J b _ (d.1.size+1) 1 [19] Q E n Ob Ob).mono ?_;rintro e x ⟨rfl,R,f⟩;have I:=(f.block c.1.size (Oo u) D).t u;have H:=(f.block d.1.size (Oo o) S).t o;obtain⟨Y,Z,x2,_⟩:=bCM I;obtain⟨y0,y1,y2,y3,_⟩:=dG H;have C:=B.t f;clear s t u o L M m n l E B f I H;go_wp2;go_ret;refine⟨.node x.1.size 0 {a:=16,h:=q.f,b:=q.e,g:=p.a,e:=p.e} .nil .nil,rfl,?_,New.node (New.nil _ _) (New.nil _ _) (fun _=>C.size) Od ?_,R.alloc _,C.alloc _⟩
 ·show mk _ .nil .nil=(fQ T r).2;unfold fQ;dsimp only;rw[O.o,N.o]
 ·exact⟨_,Qk x _,⟨rfl,rfl,rfl⟩,rfl,rfl⟩
theorem aJF(T:List Tok)(g J b n f:Nat):uA T g J b 185 (nK T) (Dm T n f) aJR:=fun r w h _=>
 (uM T g J b r w h).mono fun _ _ ⟨c,d,e⟩=>⟨.node 0 0 {a:=19,h:=(cN T r [1]).f,b:=(cN T r [1]).e} .nil .nil,c,rfl,New.node (New.nil _ _) (New.nil _ _) (fun p=>absurd rfl p.2.2) Od trivial,d,e⟩
theorem tO{T:List Tok}(a:cY T):aZ T (nK T):=fun _ h=>aP a h Ob
theorem aMC{T:List Tok}:SoN (nK T):=fun _=>⟨_,_,_,rfl,Od,Od⟩
def aV(T:List Tok)(n:Nat):Pr:=fun r=>if aN T r [1]then fX T (nK T) n r else(r,.nil)
def dA(T:List Tok)(n:Nat):Pr:=fun r=>if aN T r [5]then fX T (uK T) n (r.C T [5])else(r,.nil)
theorem mN(T:List Tok)(B:Pr)(n:Nat)(r:Rd):cZ T B n r=
 ((B (dA T n ((aV T n ((r.take T [1]).B T [12])).1.H T 13)).1).1,mk {a:=17,h:=(cN T r [1]).f,b:=(cN T r [1]).e} (aV T n ((r.take T [1]).B T [12])).2
  (mk {a:=18} (dA T n ((aV T n ((r.take T [1]).B T [12])).1.H T 13)).2 (B (dA T n ((aV T n ((r.take T [1]).B T [12])).1.H T 13)).1).2)):=rfl
theorem bCX{T:List Tok}(a:cY T)(n:Nat):aZ T (aV T n):=fun r h=>by
 unfold aV
 split
 ·exact rY a (tO a) n r h
 ·exact Adv.refl h
theorem oM{T:List Tok}(b:cY T)(n:Nat):aZ T (dA T n):=fun r h=>by
 unfold dA
 split
 ·have a:=dU b h (show aQ [5] 0=false by decide);exact a.t (rY b (uV b) n _ a.lt)
 ·exact Adv.refl h
theorem aMB{T:List Tok}:So 7 8 (uK T):=fun r=>⟨_,_,_,rfl,Od,Od⟩
theorem yG{T:List Tok}(S:Pr)(n:Nat):SoL (fX T S n):=fun _=> .r ⟨_,_,rfl,rfl⟩
theorem jC{w:World}{k:Nat}{a0 d e a b c f:Value}{t:TypeId}(h:w.1[k]?=some (Qf #[a0,d,e,a,b,c,f] t)):
 w.cell? ⟨k,3,none⟩=some a/\w.cell? ⟨k,4,none⟩=some b/\w.cell? ⟨k,5,none⟩=some c/\(∀ o,w.frozen? ⟨k,o,none⟩=false):=
 ⟨cell_of_row _ _ _ _ _ _ h,cell_of_row _ _ _ _ _ _ h,cell_of_row _ _ _ _ _ _ h,(by grind[World.frozen?])⟩
theorem aCB(T:List Tok)(g J b n:Nat)(B:Pr)(r:Rd)(w:World)(hB:dI T g J b 192 B (Dm T n 6))(j5:SoL B)(h:RdW T g J b r w)(hd:Dm T n 6 r)(g0:r.c+1+n<=1000000):
 Calls prog 126 #[Qd b] w (jL T g J b w (cZ T B n r) cB):=by
 have HB:Hid (dI T g J b 192 B (Dm T n 6)):=hB;have j0:Hid (SoL B):=j5;have d6:∀ (fn:Fn) (first J:Array Value) (w:World),(Instr.makeFunc fn first J).run prog w= .ok (.func fn first J) w:=fun _ _ _ _=>rfl;have h0:=h.ends;have a1:=aP h.ends h.lt (show aQ [1] 0=false by decide);obtain⟨o1,o2,o3⟩:=dF h.ends a1.lt (show aQ [12] 0=false by decide);have j8:=a1.c;have j9:=a1.ge;obtain⟨d1,d2,d3⟩:=hd;have j2:Dm T n 0 ((r.take T [1]).B T [12]):=⟨Oa,Oa,Oa⟩;have ap:=bCX h0 n _ o2;have c8:=ap.c;have b1:=lC h0 o1 o3 ap (show aQ [13] 0=false by decide);have c9:=b1.ge;have d4:=b1.c
 have z6:∀ r',Adv T ((aV T n ((r.take T [1]).B T [12])).1.H T 13) r'->∀ q,q<=6->Dm T n q r':=fun r' a q hq=>by
  have x1:=a.ge;have x2:=a.c;exact⟨Oa,Oa,Oa⟩
 have aw:=oM h0 n _ b1.lt;have j7:0<=(r.take T [1]).c/\(r.take T [1]).c<=1000000:=⟨Oa,Oa⟩;have j4:0<=(aV T n ((r.take T [1]).B T [12])).1.c/\(aV T n ((r.take T [1]).B T [12])).1.c<=1000000:=⟨Oa,Oa⟩;have HF:Hid (cZ T B n r=_):=mN T B n r;have z5:Hid (∀ r',Adv T ((aV T n ((r.take T [1]).B T [12])).1.H T 13) r'->∀ q,q<=6->Dm T n q r'):=z6;clear hB j5 z6 o1 o2 o3 d1 d2 d3 g0 j8 j9 c8 c9 d4;go_enter func126,ntmps126
 go_wp2_with fail
 refine(uM T g J b r w h).mono ?_;rintro e c ⟨rfl,h1,e1⟩;generalize hq:cN T r [1]=q at*;have HQ:Hid (cN T r [1]=q):=hq;clear hq;unfold fV;have z2:(c.alloc (Qf #[.string q.f,Qc q.e,Qc 0,.slice none 0 0,.slice none 0 0,.slice none 0 0,Qc 0] 105)).1[c.1.size]?=some (Qf #[.string q.f,Qc q.e,Qc 0,.slice none 0 0,.slice none 0 0,.slice none 0 0,Qc 0] 105):=Qk c _;have s2:(c.alloc (Qf #[.string q.f,Qc q.e,Qc 0,.slice none 0 0,.slice none 0 0,.slice none 0 0,Qc 0] 105)).1.size=c.1.size+1:=Od
 have k2:=bM (c.alloc (Qf #[.string q.f,Qc q.e,Qc 0,.slice none 0 0,.slice none 0 0,.slice none 0 0,Qc 0] 105)) [12] #[Qc 12] rfl;rw[s2]at k2;have h2:=(h1.alloc (Qf #[.string q.f,Qc q.e,Qc 0,.slice none 0 0,.slice none 0 0,.slice none 0 0,Qc 0] 105)).alloc (Qf #[Qc 12] 141);have e2:=(e1.alloc (Qf #[.string q.f,Qc q.e,Qc 0,.slice none 0 0,.slice none 0 0,.slice none 0 0,Qc 0] 105)).alloc (Qf #[Qc 12] 141)
 have n2:((c.alloc (Qf #[.string q.f,Qc q.e,Qc 0,.slice none 0 0,.slice none 0 0,.slice none 0 0,Qc 0] 105)).alloc (Qf #[Qc 12] 141)).1[c.1.size]?=some (Qf #[.string q.f,Qc q.e,Qc 0,.slice none 0 0,.slice none 0 0,.slice none 0 0,Qc 0] 105):=
  (On (by rw[s2];omega)).t z2
 have A:c.1.size≠b:=by have:=h1.size;omega
 have K:w.1.size<=c.1.size:=e1.size;go_wp2_with fail
 generalize (c.alloc (Qf #[.string q.f,Qc q.e,Qc 0,.slice none 0 0,.slice none 0 0,.slice none 0 0,Qc 0] 105)).alloc (Qf #[Qc 12] 141)=W2 at*;refine(uL T g J b _ (c.1.size+1) 1 [12] W2 h2 k2 Ob Ob j7).mono ?_;rintro e W3 ⟨rfl,h3,e3⟩;have n3:=(e3.block c.1.size (Oo n2) A).t n2;have l3:c.1.size < W3.1.size:=(Oo n3);have k4:=bM W3 [1] #[Qc 1] rfl;have h4:=h3.alloc (Qf #[Qc 1] 141);have e4:=(e2.t e3).alloc (Qf #[Qc 1] 141);have n4:(W3.alloc (Qf #[Qc 1] 141)).1[c.1.size]?=some (Qf #[.string q.f,Qc q.e,Qc 0,.slice none 0 0,.slice none 0 0,.slice none 0 0,Qc 0] 105):=(On l3).t n3;clear z2 s2 k2 h2 e2 n2 h3 e3 n3 l3;go_wp2_with fail
 refine(bMD T g J b _ W3.1.size 1 [1] _ h4 k4 Ob).mono ?_;rintro e W5 ⟨rfl,nn,rfl⟩;have h5:=h4.drewN nn;have e5:=e4.drewN nn;have n5:((W3.alloc (Qf #[Qc 1] 141)).drewN nn).1[c.1.size]?=some (Qf #[.string q.f,Qc q.e,Qc 0,.slice none 0 0,.slice none 0 0,.slice none 0 0,Qc 0] 105):=n4;have HP:Hid (aV T n ((r.take T [1]).B T [12])=if aN T ((r.take T [1]).B T [12]) [1]then fX T (nK T) n ((r.take T [1]).B T [12])else((r.take T [1]).B T [12],.nil)):=rfl;clear k4 h4 e4 n4 h1 e1;generalize (W3.alloc (Qf #[Qc 1] 141)).drewN nn=W5 at*;cases hs:aN T ((r.take T [1]).B T [12]) [1]
 ·have z4:aV T n ((r.take T [1]).B T [12])=((r.take T [1]).B T [12],.nil):=by rw[HP.o,hs];rfl
  have h6:RdW T g J b (aV T n ((r.take T [1]).B T [12])).1 W5:=by rw[z4];exact h5
  obtain⟨s,Q⟩:∃ s:Tr,s= .nil:=⟨_,rfl⟩;have b3:New w.1.size W5 s:=by rw[Q];exact New.nil _ _
  have a2:dV c.1.size s:=by rw[Q];trivial
  obtain⟨E,G,F,y2⟩:∃ ao n cp,bCH s= .slice ao n cp/\(Value.slice ao n cp= .slice none 0 0):=⟨none,0,0,by rw[Q];rfl,rfl⟩;obtain⟨y2,y6⟩:=y2;have n6:W5.1[c.1.size]?=some (Qf #[.string q.f,Qc q.e,Qc 0,.slice E G F,.slice none 0 0,.slice none 0 0,Qc 0] 105):=by rw[y6];exact n5
  replace Q:er s=(aV T n ((r.take T [1]).B T [12])).2:=by rw[Q,z4];rfl
  have e6:=e5;clear n5 e5 h5 z4 HP y6;have z9:Hid (er s=(aV T n ((r.take T [1]).B T [12])).2):=Q;have z8:Hid (bCH s= .slice E G F):=y2;clear Q y2 hs;go_wp2_with fail
  refine(nC T g J b _ 13 _ h6 Ob j4).mono ?_;rintro e H ⟨rfl,h7,R⟩;have n7:=(R.block c.1.size (Oo n6) A).t n6;have b5:=b3.ex h6 R;have l7:c.1.size < H.1.size:=(Oo n7);have k8:=bM H [5] #[Qc 5] rfl;have h8:=h7.alloc (Qf #[Qc 5] 141);have S:=(Ex.refl b H).alloc (Qf #[Qc 5] 141);have b2:=(e6.t R).t S;have b6:=b5.ex h7 S;have n8:=(S.block c.1.size l7 A).t n7;clear h6 n6 e6 b3 h7 n7 b5 l7 R S;go_wp2_with fail
  generalize H.alloc (Qf #[Qc 5] 141)=W8 at*;refine(lL T g J b _ H.1.size 1 [5] W8 h8 k8 Ob Ob).mono ?_;rintro e W9 ⟨rfl,C,U⟩;have y:=(U.block c.1.size (Oo n8) A).t n8;have X:=b6.ex h8 U;have I:=b2.t U;have W:Hid (dA T n ((aV T n ((r.take T [1]).B T [12])).1.H T 13)=if aN T ((aV T n ((r.take T [1]).B T [12])).1.H T 13) [5]then fX T (uK T) n (((aV T n ((r.take T [1]).B T [12])).1.H T 13).C T [5])else((aV T n ((r.take T [1]).B T [12])).1.H T 13,.nil)):=rfl;clear h8 k8 n8 b6 b2 U;cases hs5:aN T ((aV T n ((r.take T [1]).B T [12])).1.H T 13) [5]
  ·have D:dA T n ((aV T n ((r.take T [1]).B T [12])).1.H T 13)=((aV T n ((r.take T [1]).B T [12])).1.H T 13,.nil):=by rw[W.o,hs5];rfl
   have l:RdW T g J b (dA T n ((aV T n ((r.take T [1]).B T [12])).1.H T 13)).1 W9:=by
    have j1:((aV T n ((r.take T [1]).B T [12])).1.H T 13).C T [5]=(aV T n ((r.take T [1]).B T [12])).1.H T 13:=by unfold Rd.C;rw[hs5];rfl
    rw[j1]at C;rw[D];exact C
   obtain⟨tw,j⟩:∃ tw:Tr,tw= .nil:=⟨_,rfl⟩;have N:New w.1.size W9 tw:=by rw[j];exact New.nil _ _
   have Z:dV c.1.size tw:=by rw[j];trivial
   obtain⟨f,k,i,p⟩:∃ ao n cp,bCH tw= .slice ao n cp/\(Value.slice ao n cp= .slice none 0 0):=⟨none,0,0,by rw[j];rfl,rfl⟩;obtain⟨p,y6⟩:=p;rw[<-y6]at y;replace j:er tw=(dA T n ((aV T n ((r.take T [1]).B T [12])).1.H T 13)).2:=by rw[j,D];rfl
   have Y:=y;have M:=X;have v:=I;clear y X I C D W y6;have z3:Hid (er tw=(dA T n ((aV T n ((r.take T [1]).B T [12])).1.H T 13)).2):=j;have z0:Hid (bCH tw= .slice f k i):=p;clear j p hs5;go_wp2_with fail
   refine(HB.o _ _ l (z5.o _ aw 6 Oa)).mono ?_;rintro e WB ⟨m,rfl,O,L,y8,d⟩;have P:Hid (er m=(B (dA T n ((aV T n ((r.take T [1]).B T [12])).1.H T 13)).1).2):=O;obtain⟨ab,lb,cb,x⟩:=iZ (t:=m) (by rw[P.o];exact j0.o _);have z1:Hid (bCH m= .slice ab lb cb):=x;rw[x];clear x O;have z:=(d.block c.1.size (Oo Y) A).t Y;obtain⟨_,_,y5,u⟩:=jC z;have c6:=u 5;have a7:=L.fresh.notIn (Oo Y);have a3:=M.ex l d;have a5:=N.ex l d;have ee:=v.t d;have hsz:=v.size;clear l v d M N Y;go_wp2;go_ret;refine⟨.node c.1.size 0 {a:=17,h:=q.f,b:=q.e} s (.node 0 0 {a:=18} tw m),rfl,?_,New.node (a3.set a2 _ _) (New.node (a5.set Z _ _) ((L.mono hsz).set a7 _ _) (fun a8=>absurd rfl a8.2.1) Od trivial) (fun _=>K) Od ?_,by rw[HF.o];exact y8.J z Ob Ob _ _,ee.J K _ _⟩
   ·rw[HF.o,<-z9.o,<-z3.o,<-P.o];rfl
   ·exact⟨_,aM _ z,⟨rfl,rfl,rfl⟩,by rw[z8.o];rfl,_,_,_,_,_,rfl,by rw[z0.o];rfl,by rw[z1.o];rfl,rfl⟩
  ·have D:dA T n ((aV T n ((r.take T [1]).B T [12])).1.H T 13)=fX T (uK T) n (((aV T n ((r.take T [1]).B T [12])).1.H T 13).C T [5]):=by rw[W.o,hs5];rfl
   have y9:Hid (dA T n ((aV T n ((r.take T [1]).B T [12])).1.H T 13)=fX T (uK T) n (((aV T n ((r.take T [1]).B T [12])).1.H T 13).C T [5])):=D;clear D W;have b8:=dU h0 b1.lt (show aQ [5] 0=false by decide);go_wp2_with fail
   refine(aB0 T g J b 191 n 0 (uK T) _ W9 zU (fun r w h hd=>aHJ T g J b n r w (aF6 T g J b n) h hd) (uV h0) aMB C (z5.o _ b8 0 Oa)).mono ?_;rintro e a9 ⟨tw,rfl,k5,a4,z7,V⟩;have j:er tw=(dA T n ((aV T n ((r.take T [1]).B T [12])).1.H T 13)).2:=by rw[y9.o];exact k5
   obtain⟨f,k,i,p⟩:=iZ (t:=tw) (by rw[k5];exact yG _ _ _);rw[p];have a6:=(V.block c.1.size (Oo y) A).t y;obtain⟨_,y4,_,u⟩:=jC a6;have d5:=u 4;have Z:=a4.fresh.notIn (Oo y);have b4:=X.ex C V;have M:=b4.set a2 4 (.slice f k i);have N:=(a4.mono I.size).set Z 4 (.slice f k i);have v:=(I.t V).J K 4 (.slice f k i);have Y:=aM (o:=4) (.slice f k i) a6
   have l:RdW T g J b (dA T n ((aV T n ((r.take T [1]).B T [12])).1.H T 13)).1 (a9.setCell ⟨c.1.size,4,none⟩ (.slice f k i)):=by
    rw[y9.o];exact z7.J a6 Ob Ob _ _
   replace Y:(a9.setCell ⟨c.1.size,4,none⟩ (.slice f k i)).1[c.1.size]?=some (Qf #[.string q.f,Qc q.e,Qc 0,.slice E G F,.slice f k i,.slice none 0 0,Qc 0] 105):=Y;clear k5 a4 z7 V y X I C b4 y9 u;have z3:Hid (er tw=(dA T n ((aV T n ((r.take T [1]).B T [12])).1.H T 13)).2):=j;have z0:Hid (bCH tw= .slice f k i):=p;clear j p hs5;go_wp2_with fail
   refine(HB.o _ _ l (z5.o _ aw 6 Oa)).mono ?_;rintro e WB ⟨m,rfl,O,L,y8,d⟩;have P:Hid (er m=(B (dA T n ((aV T n ((r.take T [1]).B T [12])).1.H T 13)).1).2):=O;obtain⟨ab,lb,cb,x⟩:=iZ (t:=m) (by rw[P.o];exact j0.o _);have z1:Hid (bCH m= .slice ab lb cb):=x;rw[x];clear x O;have z:=(d.block c.1.size (Oo Y) A).t Y;obtain⟨_,_,y5,u⟩:=jC z;have c6:=u 5;have a7:=L.fresh.notIn (Oo Y);have a3:=M.ex l d;have a5:=N.ex l d;have ee:=v.t d;have hsz:=v.size;clear l v d M N Y;go_wp2;go_ret;refine⟨.node c.1.size 0 {a:=17,h:=q.f,b:=q.e} s (.node 0 0 {a:=18} tw m),rfl,?_,New.node (a3.set a2 _ _) (New.node (a5.set Z _ _) ((L.mono hsz).set a7 _ _) (fun a8=>absurd rfl a8.2.1) Od trivial) (fun _=>K) Od ?_,by rw[HF.o];exact y8.J z Ob Ob _ _,ee.J K _ _⟩
   ·rw[HF.o,<-z9.o,<-z3.o,<-P.o];rfl
   ·exact⟨_,aM _ z,⟨rfl,rfl,rfl⟩,by rw[z8.o];rfl,_,_,_,_,_,rfl,by rw[z0.o];rfl,by rw[z1.o];rfl,rfl⟩
 ·have z4:aV T n ((r.take T [1]).B T [12])=fX T (nK T) n ((r.take T [1]).B T [12]):=by rw[HP.o,hs];rfl
  have j3:Hid (aV T n ((r.take T [1]).B T [12])=fX T (nK T) n ((r.take T [1]).B T [12])):=z4;clear z4 HP;go_wp2_with fail
  refine(aK0 T g J b 185 n 0 (nK T) _ W5 aEO (aJF T g J b n 0) (tO h0) aMC h5 j2).mono ?_;rintro e c7 ⟨s,rfl,y7,c5,j6,b9⟩;have Q:er s=(aV T n ((r.take T [1]).B T [12])).2:=by rw[j3.o];exact y7
  obtain⟨E,G,F,y2⟩:=iZ (t:=s) (by rw[y7];exact yG _ _ _);rw[y2];have b7:=(b9.block c.1.size (Oo n5) A).t n5;obtain⟨y3,_,_,u⟩:=jC b7;have d7:=u 3;have a2:=c5.fresh.notIn (Oo n5);have b3:=(c5.mono e5.size).set a2 3 (.slice E G F);have e6:=(e5.t b9).J K 3 (.slice E G F);have n6:(c7.setCell ⟨c.1.size,3,none⟩ (.slice E G F)).1[c.1.size]?=some (Qf #[.string q.f,Qc q.e,Qc 0,.slice E G F,.slice none 0 0,.slice none 0 0,Qc 0] 105):=aM (o:=3) (.slice E G F) b7
  have h6:RdW T g J b (aV T n ((r.take T [1]).B T [12])).1 (c7.setCell ⟨c.1.size,3,none⟩ (.slice E G F)):=by
   rw[j3.o];exact j6.J b7 Ob Ob _ _
  clear y7 c5 j6 b9 n5 e5 h5 b7 j3 u;have z9:Hid (er s=(aV T n ((r.take T [1]).B T [12])).2):=Q;have z8:Hid (bCH s= .slice E G F):=y2;clear Q y2 hs;go_wp2_with fail
  refine(nC T g J b _ 13 _ h6 Ob j4).mono ?_;rintro e H ⟨rfl,h7,R⟩;have n7:=(R.block c.1.size (Oo n6) A).t n6;have b5:=b3.ex h6 R;have l7:c.1.size < H.1.size:=(Oo n7);have k8:=bM H [5] #[Qc 5] rfl;have h8:=h7.alloc (Qf #[Qc 5] 141);have S:=(Ex.refl b H).alloc (Qf #[Qc 5] 141);have b2:=(e6.t R).t S;have b6:=b5.ex h7 S;have n8:=(S.block c.1.size l7 A).t n7;clear h6 n6 e6 b3 h7 n7 b5 l7 R S;go_wp2_with fail
  generalize H.alloc (Qf #[Qc 5] 141)=W8 at*;refine(lL T g J b _ H.1.size 1 [5] W8 h8 k8 Ob Ob).mono ?_;rintro e W9 ⟨rfl,C,U⟩;have y:=(U.block c.1.size (Oo n8) A).t n8;have X:=b6.ex h8 U;have I:=b2.t U;have W:Hid (dA T n ((aV T n ((r.take T [1]).B T [12])).1.H T 13)=if aN T ((aV T n ((r.take T [1]).B T [12])).1.H T 13) [5]then fX T (uK T) n (((aV T n ((r.take T [1]).B T [12])).1.H T 13).C T [5])else((aV T n ((r.take T [1]).B T [12])).1.H T 13,.nil)):=rfl;clear h8 k8 n8 b6 b2 U;cases hs5:aN T ((aV T n ((r.take T [1]).B T [12])).1.H T 13) [5]
  ·have D:dA T n ((aV T n ((r.take T [1]).B T [12])).1.H T 13)=((aV T n ((r.take T [1]).B T [12])).1.H T 13,.nil):=by rw[W.o,hs5];rfl
   have l:RdW T g J b (dA T n ((aV T n ((r.take T [1]).B T [12])).1.H T 13)).1 W9:=by
    have j1:((aV T n ((r.take T [1]).B T [12])).1.H T 13).C T [5]=(aV T n ((r.take T [1]).B T [12])).1.H T 13:=by unfold Rd.C;rw[hs5];rfl
    rw[j1]at C;rw[D];exact C
   obtain⟨tw,j⟩:∃ tw:Tr,tw= .nil:=⟨_,rfl⟩;have N:New w.1.size W9 tw:=by rw[j];exact New.nil _ _
   have Z:dV c.1.size tw:=by rw[j];trivial
   obtain⟨f,k,i,p⟩:∃ ao n cp,bCH tw= .slice ao n cp/\(Value.slice ao n cp= .slice none 0 0):=⟨none,0,0,by rw[j];rfl,rfl⟩;obtain⟨p,y6⟩:=p;rw[<-y6]at y;replace j:er tw=(dA T n ((aV T n ((r.take T [1]).B T [12])).1.H T 13)).2:=by rw[j,D];rfl
   have Y:=y;have M:=X;have v:=I;clear y X I C D W y6;have z3:Hid (er tw=(dA T n ((aV T n ((r.take T [1]).B T [12])).1.H T 13)).2):=j;have z0:Hid (bCH tw= .slice f k i):=p;clear j p hs5;go_wp2_with fail
   refine(HB.o _ _ l (z5.o _ aw 6 Oa)).mono ?_;rintro e WB ⟨m,rfl,O,L,y8,d⟩;have P:Hid (er m=(B (dA T n ((aV T n ((r.take T [1]).B T [12])).1.H T 13)).1).2):=O;obtain⟨ab,lb,cb,x⟩:=iZ (t:=m) (by rw[P.o];exact j0.o _);have z1:Hid (bCH m= .slice ab lb cb):=x;rw[x];clear x O;have z:=(d.block c.1.size (Oo Y) A).t Y;obtain⟨_,_,y5,u⟩:=jC z;have c6:=u 5;have a7:=L.fresh.notIn (Oo Y);have a3:=M.ex l d;have a5:=N.ex l d;have ee:=v.t d;have hsz:=v.size;clear l v d M N Y;go_wp2;go_ret;refine⟨.node c.1.size 0 {a:=17,h:=q.f,b:=q.e} s (.node 0 0 {a:=18} tw m),rfl,?_,New.node (a3.set a2 _ _) (New.node (a5.set Z _ _) ((L.mono hsz).set a7 _ _) (fun a8=>absurd rfl a8.2.1) Od trivial) (fun _=>K) Od ?_,by rw[HF.o];exact y8.J z Ob Ob _ _,ee.J K _ _⟩
   ·rw[HF.o,<-z9.o,<-z3.o,<-P.o];rfl
   ·exact⟨_,aM _ z,⟨rfl,rfl,rfl⟩,by rw[z8.o];rfl,_,_,_,_,_,rfl,by rw[z0.o];rfl,by rw[z1.o];rfl,rfl⟩
  ·have D:dA T n ((aV T n ((r.take T [1]).B T [12])).1.H T 13)=fX T (uK T) n (((aV T n ((r.take T [1]).B T [12])).1.H T 13).C T [5]):=by rw[W.o,hs5];rfl
   have y9:Hid (dA T n ((aV T n ((r.take T [1]).B T [12])).1.H T 13)=fX T (uK T) n (((aV T n ((r.take T [1]).B T [12])).1.H T 13).C T [5])):=D;clear D W;have b8:=dU h0 b1.lt (show aQ [5] 0=false by decide);go_wp2_with fail
   refine(aB0 T g J b 191 n 0 (uK T) _ W9 zU (fun r w h hd=>aHJ T g J b n r w (aF6 T g J b n) h hd) (uV h0) aMB C (z5.o _ b8 0 Oa)).mono ?_;rintro e a9 ⟨tw,rfl,k5,a4,z7,V⟩;have j:er tw=(dA T n ((aV T n ((r.take T [1]).B T [12])).1.H T 13)).2:=by rw[y9.o];exact k5
   obtain⟨f,k,i,p⟩:=iZ (t:=tw) (by rw[k5];exact yG _ _ _);rw[p];have a6:=(V.block c.1.size (Oo y) A).t y;obtain⟨_,y4,_,u⟩:=jC a6;have d5:=u 4;have Z:=a4.fresh.notIn (Oo y);have b4:=X.ex C V;have M:=b4.set a2 4 (.slice f k i);have N:=(a4.mono I.size).set Z 4 (.slice f k i);have v:=(I.t V).J K 4 (.slice f k i);have Y:=aM (o:=4) (.slice f k i) a6
   have l:RdW T g J b (dA T n ((aV T n ((r.take T [1]).B T [12])).1.H T 13)).1 (a9.setCell ⟨c.1.size,4,none⟩ (.slice f k i)):=by
    rw[y9.o];exact z7.J a6 Ob Ob _ _
   replace Y:(a9.setCell ⟨c.1.size,4,none⟩ (.slice f k i)).1[c.1.size]?=some (Qf #[.string q.f,Qc q.e,Qc 0,.slice E G F,.slice f k i,.slice none 0 0,Qc 0] 105):=Y;clear k5 a4 z7 V y X I C b4 y9 u;have z3:Hid (er tw=(dA T n ((aV T n ((r.take T [1]).B T [12])).1.H T 13)).2):=j;have z0:Hid (bCH tw= .slice f k i):=p;clear j p hs5;go_wp2_with fail
   refine(HB.o _ _ l (z5.o _ aw 6 Oa)).mono ?_;rintro e WB ⟨m,rfl,O,L,y8,d⟩;have P:Hid (er m=(B (dA T n ((aV T n ((r.take T [1]).B T [12])).1.H T 13)).1).2):=O;obtain⟨ab,lb,cb,x⟩:=iZ (t:=m) (by rw[P.o];exact j0.o _);have z1:Hid (bCH m= .slice ab lb cb):=x;rw[x];clear x O;have z:=(d.block c.1.size (Oo Y) A).t Y;obtain⟨_,_,y5,u⟩:=jC z;have c6:=u 5;have a7:=L.fresh.notIn (Oo Y);have a3:=M.ex l d;have a5:=N.ex l d;have ee:=v.t d;have hsz:=v.size;clear l v d M N Y;go_wp2;go_ret;refine⟨.node c.1.size 0 {a:=17,h:=q.f,b:=q.e} s (.node 0 0 {a:=18} tw m),rfl,?_,New.node (a3.set a2 _ _) (New.node (a5.set Z _ _) ((L.mono hsz).set a7 _ _) (fun a8=>absurd rfl a8.2.1) Od trivial) (fun _=>K) Od ?_,by rw[HF.o];exact y8.J z Ob Ob _ _,ee.J K _ _⟩
   ·rw[HF.o,<-z9.o,<-z3.o,<-P.o];rfl
   ·exact⟨_,aM _ z,⟨rfl,rfl,rfl⟩,by rw[z8.o];rfl,_,_,_,_,_,rfl,by rw[z0.o];rfl,by rw[z1.o];rfl,rfl⟩
theorem infoI:(prog.info? 151).map (fun i=>(i.zero,i.size,i.bytes))=some (some .nilIface,1,16):=by kernel_rfl
theorem aTP{t:Tr}{a:Nd}{x y:Tr}(h:er t=mk a x y)(c:16<=a.a)(d:a.a < 18):cP t=[bCH t]/\bL (cons t .nil)=151/\∃ b o a l q,t= .node b o a l q/\(a.a=19↔1=3):=by
 obtain⟨b,o,l,r,rfl,_,_⟩:=oI h;refine⟨?_,?_,b,o,a,l,r,rfl,Oa⟩
 ·show(if a.a=19 then[Value.string a.h,Qc a.b,Qc a.c]else if a.a=7 then[cB (.node b o a l r)]else[bCH (.node b o a l r)])=_
  grind
 ·show(if a.a=19 then _ else if a.a=7 then _ else if a.a < 7 then _ else if a.a < 15 then _ else _)=_
  grind
def qW(v:Value):Array Value:=#[v,.slice none 0 0,.slice none 0 0,Qc 0,.slice none 0 0]
structure Prg(T:List Tok)(g J b O:Nat)(C:World)(v:Value)(acc:Tr)(U:Rd)(w:World):Prop where
 own:w.ownsRow C.1.size 151 1 v (aO acc) (bLF acc)
 nil:acc= .nil->v= .slice none 0 0
 typ:acc≠ .nil->bL acc=151
 sized:jZ 1 acc
 new:New C.1.size w acc
 ni:∀ k,v.ownBlock=some k->dV k acc
 rd:RdW T g J b U w
 ex:Ex b C w
 blk:w.1[O]?=some (.cells (qW v) 111 (0,0))
 ge:C.1.size<=O
 nip:dV O acc
 len:aO acc<=U.b
 c:U.c=0
variable {T:List Tok} {g J b O:Nat} {C w w':World} {v:Value} {acc:Tr} {U D:Rd}
theorem Prg.ne(h:Prg T g J b O C v acc U w):O≠b:=by
 intro e;have a:=h.blk;rw[e,h.rd.blk]at a
 grind
theorem Prg.lt(h:Prg T g J b O C v acc U w):O < w.1.size:=(Oo h.blk)
theorem Prg.cell(h:Prg T g J b O C v acc U w):w.cell? ⟨O,0,none⟩=some v:=cell_of_row _ _ _ _ _ _ h.blk
theorem Prg.froz(h:Prg T g J b O C v acc U w):w.frozen? ⟨O,0,none⟩=false:=by simp[World.frozen?,h.blk]
theorem Prg.own_ne(h:Prg T g J b O C v acc U w){k:Nat}(c:v.ownBlock=some k):k≠b/\k≠g/\k≠O:=by
 rcases h.own.2 with⟨n,_⟩|⟨l,f,i,e,_,d,_⟩
 ·grind[Value.ownBlock]
 ·rw[e]at c;simp only[Value.ownBlock,Option.some.injEq]at c;subst c;refine⟨fun a=>?_,fun a=>?_,fun a=>?_⟩
  ·rw[a,h.rd.blk]at d
   grind
  ·obtain⟨j,m,_⟩:=h.rd.row
   grind
  ·rw[a,h.blk]at d
   grind
theorem Prg.move(h:Prg T g J b O C v acc U w)(e:Ex b w w')(d:RdW T g J b D w')(a:U.b<=D.b)(c:D.c=U.c):Prg T g J b O C v acc D w':=
 ⟨bME h.own h.rd.blk Ob e,h.nil,h.typ,h.sized,h.new.ex h.rd e,h.ni,d,h.ex.t e,(e.block O h.lt h.ne).t h.blk,h.ge,h.nip,Qm h.len a,c.t h.c⟩
theorem Prg.push(h:Prg T g J b O C v acc U w){l:Tr}{t:Rd}{a:Nd}{x y:Tr}{f i:World}{j z u5:Nat}{s:Addr}(ht:er l= .node 0 0 a x y)(Y:16<=a.a)(Z:a.a < 18)(hv:bCH l= .iface u5 (.pointer (some s)))(a4:New w.1.size f l)(E:RdW T g J b t f)(H:Ex b w f)(R:i.ownsRow C.1.size 151 1 (Qe j (aO acc+1) z) (aO acc+1) (bLF acc++[.iface u5 (.pointer (some s))]))(I:(f.alloc (Qf #[.iface u5 (.pointer (some s))] 151)).grownBy i v.ownBlock)(M:v.ownBlock=some j\/j=f.1.size+1)(hl:U.b<=t.b)(k2:aO acc+1<=t.b)(N:t.c=U.c):
 Prg T g J b O C (Qe j (aO acc+1) z) (lD acc l) t (i.setCell ⟨O,0,none⟩ (Qe j (aO acc+1) z)):=by
 obtain⟨L,h9,k1⟩:=aTP ht Y Z;have S:=h.move H E hl N;have B:=(Ex.refl b f).alloc (Qf #[.iface u5 (.pointer (some s))] 151);have c:=S.move B (E.alloc _) Ol rfl;have q:=a4.ex E B;have s5:(f.alloc (Qf #[.iface u5 (.pointer (some s))] 151)).1.size=f.1.size+1:=Od
 generalize f.alloc (Qf #[.iface u5 (.pointer (some s))] 151)=u at*;have n:∀ k,v.ownBlock≠some k->k < u.1.size->i.1[k]?=u.1[k]?:=fun k m k3=>I.block k k3 (fun e=>m e.symm);have P:i.1[O]?=some (.cells (qW v) 111 (0,0)):=(n O (fun e=>(c.own_ne e).2.2 rfl) c.lt).t c.blk;have h7:RdW T g J b t i:=c.rd.move (n b (fun e=>(c.own_ne e).1 rfl) c.rd.size) (n g (fun e=>(c.own_ne e).2.1 rfl) c.rd.gsize);have a6:w.1.size<=u.1.size:=(H.t B).size;have K:∀ k,v.ownBlock=some k->k < w.1.size:=fun k m=>(h.own.lt k m).2
 have a2:New C.1.size i acc:=by
  cases hob:v.ownBlock with
  |none=>exact c.new.but (k:=u.1.size) (fun p hi _=>n p (by rw[hob];simp) hi) (c.new.o Ol)
  |some k=>exact c.new.but (k:=k) (fun p hi G=>n p (fun A=>G (Oq (A.symm.t hob))) hi) (c.ni k hob)
 have a3:New C.1.size i l:=by
  refine New.mono ?_ h.ex.size;cases hob:v.ownBlock with
  |none=>exact q.but (k:=u.1.size) (fun p hi _=>n p (by rw[hob];simp) hi) (q.o Ol)
  |some k=>exact q.but (k:=k) (fun p hi G=>n p (fun A=>G (Oq (A.symm.t hob))) hi) (q.fresh.notIn (K k hob))
 have a5:dV j (lD acc l):=by
  rcases M with d|d
  ·exact fH (h.ni j d) (q.fresh.notIn (K j d))
  ·subst d;exact fH (c.new.o Oa) (q.o Oa)
 have Q:dV O (lD acc l):=fH h.nip (q.fresh.notIn h.lt)
 have k4:j≠O:=by
  rcases M with d|d
  ·exact(h.own_ne d).2.2
  ·have:=h.lt;omega
 have i7:New C.1.size i (lD acc l):=New.snoc h.sized a2 a3;refine⟨?_,fun d=>absurd d (uG _ _),fun _=>?_,mY h.sized k1 (by rw[L];rfl),i7.set Q _ _,?_,h7.J P Ob Ob _ _,?_,?_,h.ge,Q,?_,N.t h.c⟩
 ·rw[iN,jT,L,hv];refine⟨R.1,?_⟩;rcases R.2 with⟨d,_⟩|⟨X,V,W,F,k5,hh,r⟩
  ·cases d
  ·refine .r ⟨X,V,W,F,k5,?_,r⟩;simp only[Value.slice.injEq,Option.some.injEq,Addr.mk.injEq]at F;obtain⟨⟨rfl,_,_⟩,_,_⟩:=F;exact(Om k4).t hh
 ·cases hac:acc with
  |nil=>show bL (cons l .nil)=_;exact h9
  |node b1 o1 a1 x1 q1=>rw[<-hac,lZ (by rw[hac];intro h;cases h)];exact h.typ (by rw[hac];intro h;cases h)
 ·intro k m;simp only[Value.ownBlock,Option.some.injEq]at m;subst m;exact a5
 ·exact Ex.J (Ex.grown c.ex I (fun k m=>(h.own.lt k m).1)) h.ge _ _
 ·exact aM (o:=0) _ P
 ·rw[iN];exact k2
end
section
theorem aGL(t:Tok)(w:World):(Instr.field 143 (.agg #[Qc t.d,Qc t.e,.string t.f,Qc t.a]) 0).run prog w= .ok (Qc t.d) w:=by kernel_rfl
theorem nS{T:List Tok}(a:cY T):aZ T (fQ T):=fun r h=>by
 have c:=aP a h (show aQ [1] 0=false by decide);have d:=c.t (aP a c.lt (show aQ [2] 0=false by decide));exact d.t (aP a d.lt rfl)
theorem jX{T:List Tok}(a:cY T){B:Pr}(f:aZ T B)(n:Nat):aZ T (cZ T B n):=fun r h=>by
 rw[mN];have c:=aP a h (show aQ [1] 0=false by decide);obtain⟨i,j,k⟩:=dF a c.lt (show aQ [12] 0=false by decide);have d:=c.t (lC a i k (bCX a n _ j) (show aQ [13] 0=false by decide));have e:=d.t (oM a n _ d.lt);exact e.t (f _ e.lt)
theorem aIV{T:List Tok}(c:cY T){r:Rd}(h:r.b < T.length)(a:aN T r [0]=false):r.b+1 < T.length:=by
 have d:r.b≠T.length - 1:=by
  intro e;unfold aN dD at a;rw[e,c]at a;trivial
 omega
def aP1(T:List Tok)(g J b:Nat)(w:World)(q:Rd × Tr):Ending->World->Prop:=
 fun e w'=>∃ v acc,e= .returned (Qd w.1.size)/\er acc=q.2/\Prg T g J b w.1.size w v acc q.1 w'
theorem aDU(T:List Tok)(g J b n:Nat)(B:Pr)(r:Rd)(w:World)(hB:dI T g J b 192 B (Dm T n 6))(j5:aZ T B)(j4:SoL B)(h:RdW T g J b r w)(hd:T.length*16+6 < n)(b3:n+1<=1000000)(h0:r.c=0):
 Calls prog 71 #[Qd b] w (aP1 T g J b w (aJ T B n n r)):=by
 have HB:Hid (dI T g J b 192 B (Dm T n 6)):=hB;have z0:Hid (aZ T B):=j5;have y9:Hid (SoL B):=j4;clear hB j5 j4;obtain⟨i0,j3,z7,z6,z5⟩:=info_parts infoI;have h2:=h.ends;have b4:=h.few;have j6:∀ U:Rd,U.c=0->Dm T n 6 U/\U.c+1+n<=1000000:=fun U hn=>⟨⟨Oa,Oa,Oa⟩,Oa⟩;have z1:Hid _:=j6;clear j6
 have PS:Prg T g J b w.1.size w (.slice none 0 0) .nil r (w.alloc (.cells (qW (.slice none 0 0)) 111)):=
  ⟨World.ownsRow_nil _ _ _ _,fun _=>rfl,fun h=>absurd rfl h,trivial,New.nil _ _,fun b8 hk=>by simp[Value.ownBlock]at hk,h.alloc _,(Ex.refl b w).alloc _,Qk w _,Ql _,trivial,Qn _,h0⟩
 have y5:Hid _:=PS;clear PS;unfold qW at y5;go_enter func71,ntmps71
 go_wp2_with fail
 go_loopg [] n (fun m wr=>∃ (U:Rd) (d:Tr) (q:Value),Prg T g J b w.1.size w q d U wr/\T.length - U.b<=m+1/\app (er d) (aJ T B n m U).2=(aJ T B n n r).2/\(aJ T B n m U).1=(aJ T B n n r).1)
 case atStart=>
  exact⟨r,.nil,.slice none 0 0,y5.o,Oa,rfl,rfl⟩
 case round=>
  obtain⟨U,d,q,PP,hm,k8,h7⟩:=hrel;have E:Hid (app (er d) (aJ T B n gk U).2=(aJ T B n n r).2):=k8;have G:Hid ((aJ T B n gk U).1=(aJ T B n n r).1):=h7;clear k8 h7;have y7:=PP.rd.alloc (Qf #[Qc 0] 141);have e2:=(Ex.refl b wr).alloc (Qf #[Qc 0] 141);have j2:=bM wr [0] #[Qc 0] rfl;have P2:=PP.move e2 y7 Ol rfl;have j8:Hid _:=P2;clear P2 PP e2;go_wp2_with fail
  refine(bMD T g J b U wr.1.size 1 [0] _ y7 j2 Ob).mono ?_;rintro e W ⟨rfl,nn,rfl⟩;have K:=j8.o.move ((Ex.refl b _).drewN nn) (y7.drewN nn) Ol rfl;clear y7 j2 j8;generalize (wr.alloc (Qf #[Qc 0] 141)).drewN nn=W at*;cases hs:aN T U [0]
  ·have y6:=K.rd.alloc (Qf #[Qc 3,Qc 4] 141);have e4:=(Ex.refl b W).alloc (Qf #[Qc 3,Qc 4] 141);have j1:=bM W [3,4] #[Qc 3,Qc 4] rfl;have P4:=K.move e4 y6 Ol rfl;have h8:=K.len;have j0:=aIV h2 K.rd.lt hs;have j7:Hid _:=P4;clear P4 K e4;obtain⟨m,rfl⟩:=Oj gk;go_wp2_with fail
   refine(fG T g J b U W.1.size 2 [3,4] _ y6 j1 Ob Ob).mono ?_;rintro e W5 ⟨rfl,h5,e5⟩;have a5:=aP h2 y6.lt (show aQ [3,4] 0=false by decide);have g5:=aHA j0 [3,4];have f:=j7.o.move e5 h5 a5.ge a5.c;clear y6 j1 j7 e5 j0 h5;generalize z8:U.take T [3,4]=c at*;generalize hq:cN T U [3,4]=A at*
   have S:Hid (aJ T B n (m+1) U=if A.d=3 then((aJ T B n m (fQ T c).1).1,cons (fQ T c).2 (aJ T B n m (fQ T c).1).2)
    else if A.d=4 then((aJ T B n m (cZ T B n c).1).1,cons (cZ T B n c).2 (aJ T B n m (cZ T B n c).1).2)else aJ T B n m c):=by
    unfold Hid;rw[<-hq,<-z8];show(if _ then _ else _)=_;rw[if_neg (by rw[hs];decide)]
   clear z8 hq hs;rw[Tok.val_eq];have b5:=aGL A;have k2:=f.nest;obtain⟨z4,z3⟩:=z1.o c k2;have b6:=a5.ge;have y0:aO d+1<=c.b:=Qm (Nat.succ_le_succ h8) g5;have b7:aO d<=5000:=by have:=f.rd.lt;omega
   clear h8;have ag:some w.1.size≠q.ownBlock:=fun e=>(f.own_ne e.symm).2.2 rfl;obtain⟨ao,cp,rfl,j9⟩:=eQ f.own;have c5:=f.cell;have f5:=f.froz;have l5:=f.lt;have b2:w.1.size<=W5.1.size:=f.ex.size;have a3:=f.rd.drew;have a8:=f.move ((Ex.refl b W5).drew) a3 Ol rfl;have P:Hid _:=a8;have y8:Hid _:=f;have R:Hid (T.length - U.b<=m+1+1):=hm;clear a8 f a5 j9 hm
   by_cases I:A.d=3
   ·have a9:(A.d==3)=true:=by simpa using I
    have H:Hid (aJ T B n (m+1) U=((aJ T B n m (fQ T c).1).1,cons (fQ T c).2 (aJ T B n m (fQ T c).1).2)):=S.o.t (if_pos I);have y4:Hid (∃ a a6 a7,(fQ T c).2= .node 0 0 a a6 a7/\a.a=16):=⟨_,_,_,rfl,rfl⟩;have p:Hid (Adv T c (fQ T c).1):=nS h2 c a3.lt;clear S I;go_wp2_with fail
    go_region_law
     (first
       |(refine step_append_lies _ (by rfl) _ _ _ (by rfl) w.1.size 151 i0 _ 1 16 underlying107 j3 z7 z6 z5 rfl Oa (.slice ao (aO d) cp) (aO d) (bLF d) (by rfl) (a1.alloc _)
          ⟨o.1.size,0,none⟩ 1 1 [.iface 192 (.pointer (some z))] (by rfl) (by rfl) (World.news_of_block (cs:=#[.iface 192 (.pointer (some z))]) (t:=151) (fr:=(0,0)) (Qk o _)) (by simp[Value.oneCell'])
          Oa (by unfold maxLen;omega) Oa (by simp;omega) (o.1.size+1) Od ?_;intro g7 a4 W7 a2 u X z2;have q1:=(u.cell_far ⟨w.1.size,0,none⟩ l.o.lt ag).t l.o.cell;have q2:=(u.frozen_far ⟨w.1.size,0,none⟩ l.o.lt ag).t l.o.froz)
       |(refine eC rfl 125 #[Qd b] _ (by go_simp) (aKY T g J b c _ a3) ?_;rintro e o ⟨Q,rfl,k7,Y,y,L⟩;refine⟨_,rfl,?_⟩;have x:Hid (er Q=(fQ T c).2):=k7;obtain⟨xa,xx,xy,N,M⟩:=y4.o;obtain⟨z,k9,Z⟩:=rO (x.o.t N) Oa;have y3:Hid (bCH Q= .iface 192 (.pointer (some z))):=(Z.t (by rw[M];rfl));have s:Hid (er Q= .node 0 0 xa xx xy/\xa.a=16):=⟨x.o.t N,M⟩;rw[k9];clear Z k9 N k7 M;have i:=P.o.move L y p.o.ge p.o.c;have c6:=i.cell;have f6:=i.froz;have l6:=i.lt;have a1:=i.own;have g0:w.1.size<=o.1.size:=i.ex.size;have l:Hid _:=i.move ((Ex.refl b o).alloc (Qf #[.iface 192 (.pointer (some z))] 151)) (y.alloc _) Ol rfl;clear i))
    all_goals
     have fin:∃ (U:Rd) (F:Tr) (q:Value),Prg T g J b w.1.size w q F U (W7.setCell ⟨w.1.size,0,none⟩ (Qe g7 (aO d+1) a4))/\T.length - U.b<=m+1/\app (er F) (aJ T B n m U).2=(aJ T B n n r).2/\(aJ T B n m U).1=(aJ T B n n r).1:=by
      have z9:=R.o;have j:=E.o;have k:=G.o;rw[H.o]at j k;have y1:=p.o.ge;refine⟨_,_,_,Prg.push P.o s.o.1 (Oi s.o.2) (Oi s.o.2) y3.o Y y L a2 u X y1 (Qm y0 y1) p.o.c,Oa,?_,k⟩;rw[sE,pN,x.o];exact j
    all_goals clear E G H P y8 R HB z0 y9 z1 y5 y4 p x y3 s l Y y L a2 u X a1
    all_goals go_wp2
    all_goals go_roundg m
    all_goals first|exact fin|omega
   ·have a9:(A.d==3)=false:=by simpa using I
    by_cases V:A.d=4
    ·have b1:(A.d==4)=true:=by simpa using V
     have H:Hid (aJ T B n (m+1) U=((aJ T B n m (cZ T B n c).1).1,cons (cZ T B n c).2 (aJ T B n m (cZ T B n c).1).2)):=S.o.t ((if_neg I).t (if_pos V));have y4:Hid (∃ a a6 a7,(cZ T B n c).2= .node 0 0 a a6 a7/\a.a=17):=⟨_,_,_,rfl,rfl⟩;have p:Hid (Adv T c (cZ T B n c).1):=jX h2 z0.o n c a3.lt;clear S I V;go_wp2_with fail
     go_region_law
      (first
        |(refine step_append_lies _ (by rfl) _ _ _ (by rfl) w.1.size 151 i0 _ 1 16 underlying107 j3 z7 z6 z5 rfl Oa (.slice ao (aO d) cp) (aO d) (bLF d) (by rfl) (a1.alloc _)
           ⟨o.1.size,0,none⟩ 1 1 [.iface 106 (.pointer (some z))] (by rfl) (by rfl) (World.news_of_block (cs:=#[.iface 106 (.pointer (some z))]) (t:=151) (fr:=(0,0)) (Qk o _)) (by simp[Value.oneCell'])
           Oa (by unfold maxLen;omega) Oa (by simp;omega) (o.1.size+1) Od ?_;intro g7 a4 W7 a2 u X z2;have q1:=(u.cell_far ⟨w.1.size,0,none⟩ l.o.lt ag).t l.o.cell;have q2:=(u.frozen_far ⟨w.1.size,0,none⟩ l.o.lt ag).t l.o.froz)
        |(refine eC rfl 126 #[Qd b] _ (by go_simp) (aCB T g J b n B c _ HB.o y9.o a3 z4 z3) ?_;rintro e o ⟨Q,rfl,k7,Y,y,L⟩;refine⟨_,rfl,?_⟩;have x:Hid (er Q=(cZ T B n c).2):=k7;obtain⟨xa,xx,xy,N,M⟩:=y4.o;obtain⟨z,k9,Z⟩:=rO (x.o.t N) Oa;have y3:Hid (bCH Q= .iface 106 (.pointer (some z))):=(Z.t (by rw[M];rfl));have s:Hid (er Q= .node 0 0 xa xx xy/\xa.a=17):=⟨x.o.t N,M⟩;rw[k9];clear Z k9 N k7 M;have i:=P.o.move L y p.o.ge p.o.c;have c6:=i.cell;have f6:=i.froz;have l6:=i.lt;have a1:=i.own;have g0:w.1.size<=o.1.size:=i.ex.size;have l:Hid _:=i.move ((Ex.refl b o).alloc (Qf #[.iface 106 (.pointer (some z))] 151)) (y.alloc _) Ol rfl;clear i))
     all_goals
      have fin:∃ (U:Rd) (F:Tr) (q:Value),Prg T g J b w.1.size w q F U (W7.setCell ⟨w.1.size,0,none⟩ (Qe g7 (aO d+1) a4))/\T.length - U.b<=m+1/\app (er F) (aJ T B n m U).2=(aJ T B n n r).2/\(aJ T B n m U).1=(aJ T B n n r).1:=by
       have z9:=R.o;have j:=E.o;have k:=G.o;rw[H.o]at j k;have y1:=p.o.ge;refine⟨_,_,_,Prg.push P.o s.o.1 (Oi s.o.2) (Oi s.o.2) y3.o Y y L a2 u X y1 (Qm y0 y1) p.o.c,Oa,?_,k⟩;rw[sE,pN,x.o];exact j
     all_goals clear E G H P y8 R HB z0 y9 z1 y5 y4 p x y3 s l Y y L a2 u X a1
     all_goals go_wp2
     all_goals go_roundg m
     all_goals first|exact fin|omega
    ·have b1:(A.d==4)=false:=by simpa using V
     have H:Hid (aJ T B n (m+1) U=aJ T B n m c):=S.o.t ((if_neg I).t (if_neg V));have f:=y8.o
     have fin:∃ (U:Rd) (F:Tr) (q:Value),Prg T g J b w.1.size w q F U W5/\T.length - U.b<=m+1/\app (er F) (aJ T B n m U).2=(aJ T B n n r).2/\(aJ T B n m U).1=(aJ T B n n r).1:=by
      have z9:=R.o;have j:=E.o;have k:=G.o;rw[H.o]at j k;exact⟨c,d,_,f,Oa,j,k⟩
     clear S I V E G H P y8 f R HB z0 y9 z1 y5;go_wp2;go_roundg m
     case rel=>exact fin
     case measure=>omega
  ·have y2:aJ T B n gk U=(U,.nil):=by
    cases gk with
    |zero=>rfl
    |succ gk=>show(if _ then _ else _)=_;rw[if_pos hs]
   have j:=E.o;have k:=G.o;rw[y2]at j k;rw[vJ]at j;have fin:aP1 T g J b w (aJ T B n n r) (.returned (Qd w.1.size)) W:=⟨q,d,rfl,j,by rw[<-k];exact K⟩;clear j k y2 E G K;go_wp2;go_ret;exact fin
end
end Go.Proofs.YtikffmloeifkpaaGreatDoor
