/- Contracts. -/
import Derived.Test.YtikffmloeifkpaaGreatDoorR07
set_option maxHeartbeats 4000000
set_option maxRecDepth 100000
namespace Go.Proofs.YtikffmloeifkpaaGreatDoor
open Go.RowKit Go.Lib Go.Deep Tryz
theorem infoS:(prog.info? 250).map (fun i=>(i.zero,i.size,i.bytes))=some (some .nilIface,1,16):=by kernel_rfl
theorem aZI{t:Tr}{a:Nd}{x y:Tr}(h:er t=mk a x y)(c:9<=a.a)(d:a.a < 15):dM t=[aH t]/\cI (cons t .nil)=250/\∃ b o a l q,t= .node b o a l q/\(a.a=19↔1=3):=by
 obtain⟨b,o,l,r,rfl,_,_⟩:=sP h;refine⟨?_,?_,b,o,a,l,r,rfl,Oa⟩
 ·show(if a.a=19 then[Value.string a.h,Qc a.b,Qc a.c]else if a.a=7 then[fO (.node b o a l r)]else[aH (.node b o a l r)])=_
  grind
 ·show(if a.a=19 then _ else if a.a=7 then _ else if a.a < 7 then _ else if a.a < 15 then _ else _)=_
  grind
theorem aOV{T:List aU}{r:Rd}{Y:List Int}:aF T r Y=true\/(r.a0 T Y).b=T.length - 1:=by
 cases hs:aF T r Y
 ·right;show((r.take T Y).l0 T.length (bX T r Y).e).b=_
  grind[Rd.take,Rd.l0,tW]
 simp
theorem bP{w:World}{a n c:Nat}{e:TypeId}{v:Value}{d:List Value}(h:w.ownsRow a e c v n d):∃ ao b,v= .slice ao n b/\(n=0\/∃ g,ao=some ⟨g,0,none⟩):=by
 rcases h.2 with⟨rfl,rfl⟩|⟨g,J,f,rfl,_⟩
 ·simp
 simp
def aLZ(T:List aU)(n:Nat)(S:Pr):Prop:=∀ r,Dm T n 7 r->r.b+1 < T.length->r.b+1<=(S r).1.b
theorem aPX(T:List aU)(g J b n:Nat)(S:Pr)(r:Rd)(w:World)(hS:eJ T g J b 246 S (Dm T n 7))(hG:bV T S)(hO:So 9 15 S)(hA:aLZ T n S)(h:eK T g J b r w)(O:Dm T (n+1) 6 r):
 Calls prog 192 #[Qd b] w (mB T g J b w (rU T S n r) aH):=by
 have HS:Hid (eJ T g J b 246 S (Dm T n 7)):=hS;have HG:Hid (bV T S):=hG;have HO:Hid (So 9 15 S):=hO;have HA:Hid (aLZ T n S):=hA;clear hS hG hO hA;obtain⟨i0,j9,j5,j4,j3⟩:=info_parts infoS;have h1:=h.alloc (Qf #[Qc 14] 141);have e1:=(Ex.refl b w).alloc (Qf #[Qc 14] 141);have k1:=cA w [14] #[Qc 14] rfl;obtain⟨o1,o2,o3⟩:=cZ h.ends h.lt (show aM [14] 0=false by decide);have d7:=h.few;have k3:=h.ends;have z3:=h.lt
 have z8:∀ U:Rd,(r.a0 T [14]).b<=U.b->U.c=(r.a0 T [14]).c->U.b < T.length->aF T U [15,0]=false->Dm T n 7 U/\U.b+1 < T.length:=by
  intro U z9 h8 hl y9
  have u:U.b≠T.length - 1:=by
   intro e;unfold aF aE at y9;rw[e,k3]at y9;exact absurd y9 Ob
  rcases aOV (T:=T) (r:=r) (Y:=[14])with hs|hs
  ·have h2:=yC k3 z3 (show aM [14] 0=false by decide) hs;obtain⟨c5,c6,c7⟩:=O;exact⟨⟨Oa,Oa,Oa⟩,Oa⟩
  ·omega
 have g1:Hid _:=z8;clear z8;go_enter func192,ntmps192
 go_wp2_with fail
 refine(aA4 T g J b r w.1.size 1 [14] _ h1 k1 Ob Ob O.c).mono ?_;rintro e W2 ⟨rfl,h2,E⟩;have c8:=e1.t E;go_wp2_with fail
 go_loopg [3] n (fun m a7 wr=>∃ (U:Rd) (c:Tr),wr.ownsRow w.1.size 250 1 a7 (bG c) (dS c)/\(c= .nil->a7= .slice none 0 0)/\(c≠ .nil->cI c=250)/\mS 1 c/\eW w.1.size wr c/\(∀ k,a7.ownBlock=some k->fN k c)/\eK T g J b U wr/\Ex b w wr/\
  (r.a0 T [14]).b<=U.b/\U.c=(r.a0 T [14]).c/\T.length - U.b<=m+1/\bG c<=U.b/\
  vH (er c) (cM T S m U).2=(cM T S n (r.a0 T [14])).2/\(cM T S m U).1=(cM T S n (r.a0 T [14])).1)
 case atStart=>
  refine⟨_,.nil,World.ownsRow_nil _ _ _ _,fun _=>rfl,fun h=>absurd rfl h,trivial,eW.nil _ _,fun k d=>by simp[Value.ownBlock]at d,h2,c8,Ql _,rfl,?_,Qn _,rfl,rfl⟩;obtain⟨c5,c6,c7⟩:=O;omega
 case round=>
  obtain⟨U,c,own,k9,z6,cP,b4,z0,F,ec,z9,h8,hm,d9,k7,k0⟩:=hrel;have K:Hid (vH (er c) (cM T S gk U).2=(cM T S n (r.a0 T [14])).2):=k7;have V:Hid ((cM T S gk U).1=(cM T S n (r.a0 T [14])).1):=k0;have N:Hid (c≠ .nil->cI c=250):=z6;obtain⟨ao,l,rfl,j1⟩:=bP own;have k5:Hid (c= .nil->(Value.slice ao (bG c) l)= .slice none 0 0):=k9;clear k7 k0 z6 k9;have I:=F.alloc (Qf #[Qc 15,Qc 0] 141);have E:=(Ex.refl b wr).alloc (Qf #[Qc 15,Qc 0] 141);have a9:=b4.ex F E;have b8:=own.alloc (Qf #[Qc 15,Qc 0] 141);have z7:=cA wr [15,0] #[Qc 15,Qc 0] rfl;go_wp2_with fail
  refine(jO T g J b U wr.1.size 2 [15,0] _ I z7 Ob).mono ?_;rintro e X ⟨rfl,H,rfl⟩;have C:=I.drewN H;have a3:=a9.ex I ((Ex.refl b _).drewN H);have Q:=jP b8 I.blk Ob ((Ex.refl b _).drewN H);have M:=(ec.t E).drewN H;clear b8 a9 z7 I E;generalize ((wr.alloc (Qf #[Qc 15,Qc 0] 141)).drewN H)=X at*;cases hs:aF T U [15,0]
  ·obtain⟨j0,z2⟩:=g1.o U z9 h8 F.lt hs;go_wp2_with fail
   refine(HS.o _ _ C j0).mono ?_;rintro e i ⟨p,rfl,z5,b6,A,e5⟩;have R:Hid (er p=(S U).2):=z5;obtain⟨ya,yx,yy,y7,j7,j6⟩:=HO.o U;obtain⟨y1,k8,z1⟩:=aZI (R.o.t y7) j7 j6;obtain⟨u5,o,y8⟩:=eY (R.o.t y7) Oa;have j2:Hid (aH p= .iface u5 (.pointer (some o))):=y8;have z4:Hid (dM p=[aH p]):=y1;have y4:Hid (cI (cons p .nil)=250):=k8;rw[y8];clear y8 y7 z5 y1 k8;obtain⟨m,rfl⟩:=Oj gk;have a5:=HG.o U F.lt;have d6:=HA.o U j0 z2;have a4:=jP Q C.blk Ob e5;have b2:=a3.ex C e5;have a8:=M.t e5;have e8:=a8.size;have e3:=a5.lt;have d8:bG c<=5000:=Oa
   go_wp2_with (at_builtin;refine wpList_append_lies _ rfl _ _ 103 rfl w.1.size 250 i0 _ 1 16 underlying103 j9 j5 j4 j3 rfl Oa (.slice ao (bG c) l) (bG c) (dS c) rfl (a4.alloc _) ⟨i.1.size,0,none⟩ 1 1 [.iface u5 (.pointer (some o))] rfl rfl (World.news_of_block (cs:=#[.iface u5 (.pointer (some o))]) (t:=250) (fr:=(0,0)) (Qk i _)) (by simp[Value.oneCell']) Oa (by unfold maxLen;omega) Oa (by simp;omega) (i.1.size+1) Od ?_;intro z a2 q b9 f y3 e2)
   have e6:Ex b i (i.alloc (Qf #[.iface u5 (.pointer (some o))] 250)):=(Ex.refl b i).alloc _;have B:=A.alloc (Qf #[.iface u5 (.pointer (some o))] 250);have G:=b2.ex A e6;have x:=b6.ex A e6
   have a6:∀ k,Value.ownBlock (.slice ao (bG c) l)=some k->k≠b/\k≠g:=by
    intro k d;rcases(a4.alloc (Qf #[.iface u5 (.pointer (some o))] 250)).2 with⟨s,_⟩|⟨g',d3,d4,hv,_,P,_⟩
    ·rw[s]at d;simp[Value.ownBlock]at d
    ·rw[hv]at d;simp only[Value.ownBlock,Option.some.injEq]at d;subst d;refine⟨fun e1=>?_,fun e1=>?_⟩
     ·rw[e1,B.blk]at P;simp at P
     ·obtain⟨d5,g0,_⟩:=B.row;rw[e1,g0]at P;simp at P
   have h7:eK T g J b (S U).1 q:=B.move (f.block b B.size (fun e1=>(a6 b e1.symm).1 rfl)) (f.block g B.gsize (fun e1=>(a6 g e1.symm).2 rfl));have e7:Ex b w q:=Ex.grown (a8.alloc _) f (fun k d=>(own.lt k d).1);have k4:∀ k,(Value.slice ao (bG c) l).ownBlock=some k->k < X.1.size:=fun k d=>(Q.lt k d).2
   have b3:eW w.1.size q c:=by
    cases hob:(Value.slice ao (bG c) l).ownBlock with
    |none=>rw[hob]at f;exact G.but (k:=(i.alloc (Qf #[.iface u5 (.pointer (some o))] 250)).1.size) (fun v hi _=>f.block v hi Od) (G.o Ol)
    |some k=>rw[hob]at f;exact G.but (k:=k) (fun v hi u=>f.block v hi (fun e1=>u (Oq e1))) (z0 k hob)
   have b5:eW w.1.size q p:=by
    refine eW.mono ?_ M.size;cases hob:(Value.slice ao (bG c) l).ownBlock with
    |none=>rw[hob]at f;exact x.but (k:=(i.alloc (Qf #[.iface u5 (.pointer (some o))] 250)).1.size) (fun v hi _=>f.block v hi Od) (x.o Ol)
    |some k=>rw[hob]at f;exact x.but (k:=k) (fun v hi u=>f.block v hi (fun e1=>u (Oq e1))) (x.fresh.notIn (k4 k hob))
   have b7:fN z (oI c p):=by
    rcases y3 with s|s
    ·exact iZ (z0 z s) (x.fresh.notIn (k4 z s))
    ·subst s;have e4:(i.alloc (Qf #[.iface u5 (.pointer (some o))] 250)).1.size=i.1.size+1:=Od
     exact iZ (G.o Oa) (x.o Oa)
   have fin:∃ (U:Rd) (j:Tr),q.ownsRow w.1.size 250 1 (Qe z (bG c+1) a2) (bG j) (dS j)/\(j= .nil->Qe z (bG c+1) a2= .slice none 0 0)/\(j≠ .nil->cI j=250)/\mS 1 j/\eW w.1.size q j/\
    (∀ k,(Qe z (bG c+1) a2).ownBlock=some k->fN k j)/\eK T g J b U q/\Ex b w q/\(r.a0 T [14]).b<=U.b/\U.c=(r.a0 T [14]).c/\T.length - U.b<=m+1/\bG j<=U.b/\
    vH (er j) (cM T S m U).2=(cM T S n (r.a0 T [14])).2/\(cM T S m U).1=(cM T S n (r.a0 T [14])).1:=by
    have h3:cM T S (m+1) U=((cM T S m (S U).1).1,cons (S U).2 (cM T S m (S U).1).2):=by
     show(if _ then _ else _)=_;rw[if_neg (by rw[hs];decide)]
    have y:=K.o;have D:=V.o;rw[h3]at y D;refine⟨(S U).1,oI c p,?_,fun s=>absurd s (zZ _ _),fun _=>?_,?_,eW.snoc cP b3 b5,?_,h7,e7,Oa,by rw[a5.c];exact h8,Oa,?_,?_,D⟩
    ·rw[lD,mN,z4.o,j2.o];exact b9
    ·cases hac:c with
     |nil=>show cI (cons p .nil)=_;exact y4.o
     |node b1 o1 a1 x1 q1=>rw[<-hac,pM (by rw[hac];intro h;cases h)];exact N.o (by rw[hac];intro h;cases h)
    ·exact qW cP z1 (by rw[z4.o];rfl)
    ·intro k d;simp only[Value.ownBlock,Option.some.injEq]at d;subst d;exact b7
    ·rw[lD];omega
    ·rw[xV,tX,R.o];exact y
   clear K V HS HG HO HA j2 z4 N y4 k5 R y3 b3 b5 b7 G x b2 a3 b6 b9 a4 Q own h7 e7 B e6 cP b4 z0 F ec a6 f k4 j1;go_wp2;go_roundg m
   case rel=>exact fin
   case measure=>omega
  ·have y0:cM T S gk U=(U,.nil):=by
    cases gk with
    |zero=>rfl
    |succ gk=>show(if _ then _ else _)=_;rw[if_pos hs]
   have y:=K.o;have D:=V.o;rw[y0]at y D;rw[aAI]at y;have j8:0<=U.c/\U.c<=1000000:=by obtain⟨c5,c6,c7⟩:=O;omega
   have W:Hid (er c=(cM T S n (r.a0 T [14])).2):=y;have R2:Hid (U=(cM T S n (r.a0 T [14])).1):=D;clear y D y0 K V;go_wp2_with fail
   refine(qY T g J b U 15 X C Ob j8).mono ?_;rintro e Z ⟨rfl,h4,L⟩;have d2:=jP Q C.blk Ob L;have c9:=a3.ex C L
   have fin:mB T g J b w (rU T S n r) aH (.returned (.slice ao (bG c) l)) Z:=by
    have A:eK T g J b (rU T S n r).1 Z:=by
     show eK T g J b ((cM T S n (r.a0 T [14])).1.h0 T 15) Z;rw[<-R2.o];exact h4
    cases hac:c with
    |nil=>
     refine⟨.nil,?_,?_,eW.nil _ _,A,M.t L⟩
     ·have:=k5.o hac;rw[hac]at this;rw[this];rfl
     ·show er .nil=gW (cM T S n (r.a0 T [14])).2;rw[<-W.o,hac];rfl
    |node b1 o1 a1 x1 q1=>
     have u:c≠ .nil:=by rw[hac];intro h;cases h
     rw[<-hac];rcases j1 with h0|⟨gg,rfl⟩
     ·have:=aA7 u;omega
     refine⟨.node gg l {a:=20} c .nil,rfl,?_,eW.listed u cP c9 (by rw[N.o u];exact d2),A,M.t L⟩;show er (.node gg l {a:=20} c .nil)=gW (cM T S n (r.a0 T [14])).2;rw[<-W.o,hac];rfl
   clear W R2 N k5;go_wp2;go_ret;exact fin
theorem xJ{t:Tr}{a:Nd}{x y:Tr}(h:er t=mk a x y)(c:a.a≠20):∃ p,fO t= .pointer (some p)/\aH t= .iface (iV a.a) (.pointer (some p)):=by
 obtain⟨b,o,l,r,rfl,_,_⟩:=sP h;exact⟨⟨b,0,none⟩,rfl,if_neg c⟩
theorem sW{T:List aU}{n:Nat}{r b:Rd}(h:Dm T (n+1) 7 r)(a:sJ T r b)(q:Nat)(f:q<=6):Dm T n q b:=by
 obtain⟨c,d,e⟩:=h;have:=a.ge;have:=a.c;exact⟨Oa,Oa,Oa⟩
theorem aH3{T:List aU}(c:eD T){n:Nat}{r b:Rd}(h:Dm T (n+1) 7 r)(a:sJ T r b){Y:List Int}(h0:aM Y 0=false)(q:Nat)(g:q<=6):Dm T n q (b.a0 T Y):=by
 obtain⟨d,e,f⟩:=h;have:=a.ge;have:=a.c;obtain⟨i,j,k⟩:=cZ c a.lt h0;exact⟨Oa,Oa,Oa⟩
theorem aQW(T:List aU)(g J b n:Nat)(E C B:Pr)(r:Rd)(w:World)(hE:eJ T g J b 335 E (Dm T n 2))(z1:bV T E)(y8:So 0 7 E)(hC:eJ T g J b 299 C (Dm T n 5))(z2:bV T C)(y9:So 7 9 C)(hB:eJ T g J b 192 B (Dm T n 6))(z3:bV T B)(z0:SoL B)(h:eK T g J b r w)(y:Dm T (n+1) 7 r):
 Calls prog 246 #[Qd b] w (mB T g J b w (iQ T E C B r) aH):=by
 have W:Hid (eJ T g J b 335 E (Dm T n 2)):=hE;have z7:Hid (bV T E):=z1;have y3:Hid (So 0 7 E):=y8;have HC:Hid (eJ T g J b 299 C (Dm T n 5)):=hC;have z8:Hid (bV T C):=z2;have z5:Hid (So 7 9 C):=y9;have HB:Hid (eJ T g J b 192 B (Dm T n 6)):=hB;have j2:Hid (bV T B):=z3;have z6:Hid (SoL B):=z0;clear hE z1 y8 hC z2 y9 hB z3 z0;have h1:=h.alloc (Qf #[Qc 6,Qc 1,Qc 7,Qc 9,Qc 10,Qc 11] 141);have e1:=(Ex.refl b w).alloc (Qf #[Qc 6,Qc 1,Qc 7,Qc 9,Qc 10,Qc 11] 141);have k1:=cA w aP #[Qc 6,Qc 1,Qc 7,Qc 9,Qc 10,Qc 11] rfl;go_enter func246,ntmps246
 go_wp2_with fail
 refine(iY T g J b r w.1.size 6 aP _ h1 k1 Ob Ob).mono ?_;rintro e d ⟨rfl,h2,e2⟩;have h0:=h.ends;have j:=aN h.ends h.lt (show aM aP 0=false by decide);generalize hq:bX T r aP=q at*;have S:Hid (bX T r aP=q):=hq;clear hq;rw[aU.val_eq];have N:=h2.alloc (Qf #[Qc q.d,Qc q.e,.string q.f,Qc q.a] 143);have l:=(e1.t e2).alloc (Qf #[Qc q.d,Qc q.e,.string q.f,Qc q.a] 143);have n3:(d.alloc (Qf #[Qc q.d,Qc q.e,.string q.f,Qc q.a] 143)).1[d.1.size]?=some (Qf #[Qc q.d,Qc q.e,.string q.f,Qc q.a] 143):=Qk d _;obtain⟨m0,m1,m2,m3,_⟩:=bK n3;have j0:0<=(r.take T aP).c/\(r.take T aP).c<=1000000:=by rw[j.c];exact y.c
 clear h1 e1 k1 h2 e2
 by_cases k:q.d=6
 ·have a7:(q.d==6)=true:=by simpa using k
  have c:Hid (iQ T E C B r=tG T E (bX T (r.take T aP) [1]) true ((r.take T aP).take T [1])):=by unfold Hid iQ;dsimp only;rw[S.o,if_pos k]
  clear k;go_wp2_with fail
  generalize d.alloc (Qf #[Qc q.d,Qc q.e,.string q.f,Qc q.a] 143)=A at*;refine(aA6 T g J b _ A N).mono ?_;rintro e W4 ⟨rfl,H,F⟩;have a4:=j.t (aN h0 j.lt (show aM [1] 0=false by decide));have U:=a4.t (aN h0 a4.lt (show aM [20] 0=false by decide));go_wp2_with fail
  refine(aMR T g J b n E (bX T (r.take T aP) [1]) true _ W4 W.o y3.o H (sW y U 2 Oa)).mono ?_;rintro e W7 ⟨i,rfl,k0,P,O,M⟩;have x:Hid (er i=(tG T E (bX T (r.take T aP) [1]) true ((r.take T aP).take T [1])).2):=k0;clear k0;obtain⟨Q,v,o⟩:=xJ x.o Od;have R:Hid (aH i= .iface 326 (.pointer (some Q))):=o;rw[v];clear v o;go_wp2;go_ret;exact⟨i,by rw[R.o];rfl,by rw[c.o];exact x.o,P.mono (l.t F).size,by rw[c.o];exact O,(l.t F).t M⟩
 have a7:(q.d==6)=false:=by simpa using k
 by_cases p:q.d=7
 ·have a8:(q.d==7)=true:=by simpa using p
  have c:Hid (iQ T E C B r=ifP T C B (r.take T aP)):=by unfold Hid iQ;dsimp only;rw[S.o,if_neg k,if_pos p]
  clear k p;go_wp2_with fail
  generalize d.alloc (Qf #[Qc q.d,Qc q.e,.string q.f,Qc q.a] 143)=A at*;refine(aYH T g J b n C B _ A HC.o z8.o z5.o HB.o j2.o z6.o N (sW y j 6 Oa)).mono ?_;rintro e W7 ⟨i,rfl,k0,P,O,M⟩;have x:Hid (er i=(ifP T C B (r.take T aP)).2):=k0;clear k0;obtain⟨zp,zx,zy,hz,z9⟩:∃ zp zx zy,(ifP T C B (r.take T aP)).2=mk zp zx zy/\zp.a=11:=by unfold ifP;dsimp only;split<;>exact⟨_,_,_,rfl,rfl⟩
  obtain⟨Q,v,o⟩:=xJ (x.o.t hz) Oa;rw[z9]at o;have R:Hid (aH i= .iface 332 (.pointer (some Q))):=o;rw[v];clear v o hz;go_wp2;go_ret;exact⟨i,by rw[R.o];rfl,by rw[c.o];exact x.o,P.mono l.size,by rw[c.o];exact O,l.t M⟩
 have a8:(q.d==7)=false:=by simpa using p
 by_cases z:q.d=9
 ·have a9:(q.d==9)=true:=by simpa using z
  have c:Hid (iQ T E C B r=((B (C (r.take T aP)).1).1,mk {a:=12} (C (r.take T aP)).2 (B (C (r.take T aP)).1).2)):=by unfold Hid iQ;dsimp only;rw[S.o,if_neg k,if_neg p,if_pos z]
  clear k p z;go_wp2_with fail
  generalize d.alloc (Qf #[Qc q.d,Qc q.e,.string q.f,Qc q.a] 143)=A at*;refine(HC.o _ A N (sW y j 5 Oa)).mono ?_;rintro e W4 ⟨t4,rfl,y6,a2,H,F⟩;have z4:Hid (er t4=(C (r.take T aP)).2):=y6;obtain⟨xa,xx,xy,K,_,y5⟩:=z5.o (r.take T aP);obtain⟨u4,p4,y4⟩:=eY (z4.o.t K) Oa;have j1:Hid (aH t4= .iface u4 (.pointer (some p4))):=y4;rw[y4];clear y4 K y6;have a4:=j.t (z8.o _ j.lt);go_wp2_with fail
  refine(HB.o _ W4 H (sW y a4 6 Oa)).mono ?_;rintro e f ⟨s,rfl,L,Z,m,D⟩;have y0:Hid (er s=(B (C (r.take T aP)).1).2):=L;obtain⟨ao,ln,cq,u⟩:=lM (t:=s) (by rw[y0.o];exact z6.o _);have y2:Hid (aH s= .slice ao ln cq):=u;rw[u];clear u L;go_wp2;go_ret;have G:=(l.t F).t D;refine⟨.node f.1.size 0 {a:=12} t4 s,rfl,?_,eW.node (((a2.mono l.size).ex H D).ex m ((Ex.refl b f).alloc _)) ((Z.mono (l.t F).size).ex m ((Ex.refl b f).alloc _)) (fun _=>G.size) Od ?_,by rw[c.o];exact m.alloc _,G.alloc _⟩
  ·rw[c.o,<-z4.o,<-y0.o];rfl
  ·exact⟨_,Qk f _,by rw[j1.o];rfl,by rw[y2.o];rfl⟩
 have a9:(q.d==9)=false:=by simpa using z
 by_cases I:q.d=10
 ·have a3:(q.d==10)=true:=by simpa using I
  have c:Hid (iQ T E C B r=((gQ T E (r.take T aP)).1,mk {a:=13} (gQ T E (r.take T aP)).2 .nil)):=by unfold Hid iQ;dsimp only;rw[S.o,if_neg k,if_neg p,if_neg z,if_pos I]
  clear k p z I;go_wp2_with fail
  generalize d.alloc (Qf #[Qc q.d,Qc q.e,.string q.f,Qc q.a] 143)=A at*;refine(xH T g J b n E _ A W.o N (sW y j 2 Oa)).mono ?_;rintro e f ⟨s,rfl,L,Z,m,D⟩;have y0:Hid (er s=(gQ T E (r.take T aP)).2):=L;obtain⟨xa,xx,xy,K,_,y5⟩:=y3.o (r.take T aP);obtain⟨u5,p5,u⟩:=eY (y0.o.t K) Oa;have y2:Hid (aH s= .iface u5 (.pointer (some p5))):=u;rw[u];clear u K L;go_wp2;go_ret;have G:=l.t D;refine⟨.node f.1.size 0 {a:=13} s .nil,rfl,?_,eW.node ((Z.mono l.size).ex m ((Ex.refl b f).alloc _)) (eW.nil _ _) (fun _=>G.size) Od ?_,by rw[c.o];exact m.alloc _,G.alloc _⟩
  ·rw[c.o,<-y0.o];rfl
  ·exact⟨_,Qk f _,by rw[y2.o];rfl⟩
 have a3:(q.d==10)=false:=by simpa using I
 by_cases V:q.d=11
 ·have a5:(q.d==11)=true:=by simpa using V
  have c:Hid (iQ T E C B r=((gQ T E (r.take T aP)).1,mk {a:=14} (gQ T E (r.take T aP)).2 .nil)):=by unfold Hid iQ;dsimp only;rw[S.o,if_neg k,if_neg p,if_neg z,if_neg I,if_pos V]
  clear k p z I V;go_wp2_with fail
  generalize d.alloc (Qf #[Qc q.d,Qc q.e,.string q.f,Qc q.a] 143)=A at*;refine(xH T g J b n E _ A W.o N (sW y j 2 Oa)).mono ?_;rintro e f ⟨s,rfl,L,Z,m,D⟩;have y0:Hid (er s=(gQ T E (r.take T aP)).2):=L;obtain⟨xa,xx,xy,K,_,y5⟩:=y3.o (r.take T aP);obtain⟨u5,p5,u⟩:=eY (y0.o.t K) Oa;have y2:Hid (aH s= .iface u5 (.pointer (some p5))):=u;rw[u];clear u K L;go_wp2;go_ret;have G:=l.t D;refine⟨.node f.1.size 0 {a:=14} s .nil,rfl,?_,eW.node ((Z.mono l.size).ex m ((Ex.refl b f).alloc _)) (eW.nil _ _) (fun _=>G.size) Od ?_,by rw[c.o];exact m.alloc _,G.alloc _⟩
  ·rw[c.o,<-y0.o];rfl
  ·exact⟨_,Qk f _,by rw[y2.o];rfl⟩
 have a5:(q.d==11)=false:=by simpa using V
 have y7:Hid (iQ T E C B r=if aF T (r.take T aP) [16]then lF T E q (r.take T aP)else tG T E q false (r.take T aP)):=by unfold Hid iQ;dsimp only;rw[S.o,if_neg k,if_neg p,if_neg z,if_neg I,if_neg V]
 clear k p z I V;have s3:(d.alloc (Qf #[Qc q.d,Qc q.e,.string q.f,Qc q.a] 143)).1.size=d.1.size+1:=Od
 have k4:=cA (d.alloc (Qf #[Qc q.d,Qc q.e,.string q.f,Qc q.a] 143)) [16] #[Qc 16] rfl;rw[s3]at k4;have H:=N.alloc (Qf #[Qc 16] 141);have F:=l.alloc (Qf #[Qc 16] 141);have n4:((d.alloc (Qf #[Qc q.d,Qc q.e,.string q.f,Qc q.a] 143)).alloc (Qf #[Qc 16] 141)).1[d.1.size]?=_:=(On (by rw[s3];omega)).t n3;go_wp2_with fail
 refine(jO T g J b _ (d.1.size+1) 1 [16] _ H k4 Ob).mono ?_;rintro e w' ⟨rfl,nn,rfl⟩;have m:=H.drewN nn;have D:=F.drewN nn;have n5:(((d.alloc (Qf #[Qc q.d,Qc q.e,.string q.f,Qc q.a] 143)).alloc (Qf #[Qc 16] 141)).drewN nn).1[d.1.size]?=_:=n4;clear m0 m1 m2 m3 N l n3 k4 H F n4 s3;generalize (((d.alloc (Qf #[Qc q.d,Qc q.e,.string q.f,Qc q.a] 143)).alloc (Qf #[Qc 16] 141)).drewN nn)=f at*;obtain⟨m0,m1,m2,m3,_⟩:=bK n5;cases hs:aF T (r.take T aP) [16]
 ·have c:Hid (iQ T E C B r=tG T E q false (r.take T aP)):=by unfold Hid;rw[y7.o,hs];rfl
  go_wp2_with fail
  refine(rK q f).mono ?_;rintro e W6 ⟨rfl,X⟩;have h6:=m.below X;have Y:=D.t (Ex.of_below (b:=b) X);have U:=j.t (aN h0 j.lt (show aM [20] 0=false by decide));go_wp2_with fail
  refine(aMR T g J b n E q false _ W6 W.o y3.o h6 (sW y U 2 Oa)).mono ?_;rintro e W7 ⟨i,rfl,k0,P,O,M⟩;have x:Hid (er i=(tG T E q false (r.take T aP)).2):=k0;clear k0;obtain⟨Q,v,o⟩:=xJ x.o Od;have R:Hid (aH i= .iface 326 (.pointer (some Q))):=o;rw[v];clear v o;go_wp2;go_ret;exact⟨i,by rw[R.o];rfl,by rw[c.o];exact x.o,P.mono (Y).size,by rw[c.o];exact O,(Y).t M⟩
 ·have c:Hid (iQ T E C B r=lF T E q (r.take T aP)):=by unfold Hid;rw[y7.o,hs];rfl
  go_wp2_with fail
  refine(rK q f).mono ?_;rintro e W6 ⟨rfl,X⟩;have h6:=m.below X;have Y:=D.t (Ex.of_below (b:=b) X);have U:=j.t (nH h0 z7.o _ j.lt);have a6:=U.t (aN h0 U.lt (show aM [20] 0=false by decide));go_wp2_with fail
  refine(aNZ T g J b n E q _ W6 W.o z7.o y3.o h6 j0 (aH3 h0 y j Ob 2 Oa) (sW y a6 2 Oa)).mono ?_;rintro e W7 ⟨i,rfl,k0,P,O,M⟩;have x:Hid (er i=(lF T E q (r.take T aP)).2):=k0;clear k0;obtain⟨Q,v,o⟩:=xJ x.o Od;have R:Hid (aH i= .iface 329 (.pointer (some Q))):=o;rw[v];clear v o;go_wp2;go_ret;exact⟨i,by rw[R.o];rfl,by rw[c.o];exact x.o,P.mono (Y).size,by rw[c.o];exact O,(Y).t M⟩
theorem aMH{T:List aU}{r:Rd}(h:r.b+1 < T.length)(Y:List Int):r.b+1<=(r.take T Y).b:=by
 unfold Rd.take
 split
 ·exact Ql _
 grind[aE,tW]
theorem aHX{T:List aU}(a:eD T){S C B:Pr}(b:bV T S)(c:bV T C)(e:bV T B)(n:Nat):aLZ T n (iQ T S C B):=fun r f h=>by
 have a1:=aN a (show r.b < T.length by omega) (show aM aP 0=false by decide);refine Qm (aMH h aP) (sJ.ge (T:=T) ?_);unfold iQ;dsimp only
 split
 ·have d:=aN a a1.lt (show aM [1] 0=false by decide);exact d.t (tT a b _ _ _ d.lt)
 ·split
  ·exact aGW a c e _ a1.lt
  ·split
   ·exact(c _ a1.lt).t (e _ (c _ a1.lt).lt)
   ·split
    ·exact lU a b _ a1.lt
    ·split
     ·exact lU a b _ a1.lt
     ·split
      ·exact zH a b _ _ a1.lt
      ·exact tT a b _ _ _ a1.lt
def bAE(s:Nat):Nat:=match s with
 |0=>362
 |1=>353
 |2=>335
 |3=>351
 |4=>334
 |5=>299
 |6=>192
 |_=>246
theorem aAD{T:List aU}{n q p:Nat}{r:Rd}(h:Dm T (n+1) q r)(d:p < q):Dm T n p r:=by
 obtain⟨b,a,c⟩:=h;exact⟨Oa,a,Oa⟩
theorem aOS(T:List aU)(c:eD T)(g J b:Nat):∀ n s,s<=7->eJ T g J b (bAE s) (kQ T n s) (Dm T n s):=by
 intro n
 induction n with
 |zero=>exact fun s _ r w _ a=>absurd a.1 Oa
 |succ n ih=>
  have G:=fun s=>gU c n s;have O:=fun s=>aI3 (T:=T) n s;have d:=(O 2).1 Ob;have e:=(O 5).2.1 Ob Ob;intro s f r w h a
  match s,f with
  |0,_=>exact aLJ T g J b n _ _ r w (ih 2 Ob) (G 2) d (ih 0 Ob) (G 0) Qh h a
  |1,_=>exact aQQ T g J b n _ r w (ih 0 Ob) (G 0) Qh h (aAD a Ob)
  |2,_=>exact aTF T g J b n _ r w (ih 1 Ob) (G 1) Qh h (aAD a Ob)
  |3,_=>exact aTP T g J b n _ r w (ih 2 Ob) (G 2) d h (aAD a Ob)
  |4,_=>exact aTM T g J b n _ r w (ih 3 Ob) (G 3) Qh h (aAD a Ob)
  |5,_=>exact aTO T g J b n _ r w (ih 4 Ob) (G 4) Qh h (aAD a Ob)
  |6,_=>
   refine aPX T g J b n _ r w (ih 7 Ob) (G 7) Qh ?_ h a;cases n with
   |zero=>exact fun r a=>absurd a.1 Oa
   |succ n=>exact aHX c (gU c n 2) (gU c n 5) (gU c n 6) _
  |7,_=>exact aQW T g J b n _ _ _ r w (ih 2 Ob) (G 2) d (ih 5 Ob) (G 5) e (ih 6 Ob) (G 6) Qh h a
def aP7:Tr->Value
 | .nil=> .agg #[]
 | .node _ _ a _ _=>jK a.h a.b
def SoN(S:Pr):Prop:=∀ r,∃ a x y,(S r).2=mk a x y/\19<=a.a/\(a.a < 20/\a.c=0)
theorem infoN:(prog.info? 100).map (fun i=>(i.zero,i.size,i.bytes))=some (some (.agg #[.string (ByteArray.mk #[]),Qc 0,Qc 0]),3,32):=by kernel_rfl
theorem aWN{t:Tr}{a:Nd}{x y:Tr}(h:er t=mk a x y)(e:19<=a.a)(d:a.a < 20/\a.c=0):dM t=[.string a.h,Qc a.b,Qc 0]/\cI (cons t .nil)=100/\∃ b o a l q,t= .node b o a l q/\(a.a=19↔3=3):=by
 obtain⟨b,o,l,r,rfl,_,_⟩:=sP h;have c:a.a=19:=Oa
 exact⟨(if_pos c).t (by rw[d.2]),if_pos c,b,o,a,l,r,rfl,Oa⟩
theorem aHR{t:Tr}(h:∃ b o a l q,t=BT.node b o a l q/\(a.a=19↔True)):∃ b o a l q,t=BT.node b o a l q/\(a.a=19↔3=3):=by
 obtain⟨b,o,a,l,q,c,d⟩:=h;exact⟨b,o,a,l,q,c,by simpa using d⟩
theorem aMD{t:Tr}{a:Nd}{x y:Tr}(h:er t=mk a x y):aP7 t= .agg #[.string a.h,Qc a.b,Qc 0]:=by
 obtain⟨b,o,l,r,rfl,_,_⟩:=sP h;rfl
theorem aPA(T:List aU)(g J b f n G:Nat)(S:Pr)(r:Rd)(w:World)(hf:∀ args wx,(callFunc f args).run prog wx= .ok (.enter f args) wx)(hS:zR T g J b f S (Dm T n G) aP7)(hG:bV T S)(hO:SoN S)(h:eK T g J b r w)(hd:Dm T n G r):
 Calls prog 187 #[Qd b,fv f b] w (mB T g J b w (dV T S n r) aH):=by
 have V:Hid (zR T g J b f S (Dm T n G) aP7):=hS;have C:Hid (bV T S):=hG;have R:Hid (SoN S):=hO;clear hS hG hO;obtain⟨i0,j6,z7,z6,z5⟩:=info_parts infoN;unfold fv;go_enter func187,ntmps187
 go_wp2_with fail
 refine(V.o r w h hd).mono ?_;rintro e w1 ⟨t,rfl,ht,it,h1,e1⟩;have I:Hid (er t=(S r).2):=ht;clear ht;have a1:=C.o r h.lt;have z3:=hd.adv a1;have d5:=h.few;obtain⟨s,sx,sy,y8,j2,j1⟩:=R.o r;obtain⟨z0,k0,j4⟩:=aWN (I.o.t y8) j2 j1;have z:=aMD (I.o.t y8);have HV:Hid (aP7 t= .agg #[.string s.h,Qc s.b,Qc 0]):=z;have Q:Hid (dM t=[.string s.h,Qc s.b,Qc 0]):=z0;have z4:Hid (cI (cons t .nil)=100):=k0;rw[z];clear z z0 k0;have kG:(w1.alloc (Qf #[.string s.h,Qc s.b,Qc 0] 100)).ownsRow w.1.size 100 3 (Qe w1.1.size 1 1) 1 [.string s.h,Qc s.b,Qc 0]:=wO e1.size rfl;go_wp2_with fail
 go_loopg [5] n (fun m c8 wr=>∃ (U:Rd) (c:Tr),wr.ownsRow w.1.size 100 3 c8 (bG c) (dS c)/\c≠ .nil/\cI c=100/\mS 3 c/\eW w.1.size wr c/\(∀ k,c8.ownBlock=some k->fN k c)/\eK T g J b U wr/\Ex b w wr/\Dm T n G U/\T.length - U.b<=m/\bG c<=U.b+1/\
  vH (er c) (aZ T S m U).2=cons (S r).2 (aZ T S n (S r).1).2/\(aZ T S m U).1=(aZ T S n (S r).1).1)
 case atStart=>
  refine⟨_,cons t .nil,?_,?_,z4.o,⟨rfl,aHR j4,by rw[Q.o];rfl,trivial⟩,(it.ex h1 ((Ex.refl b w1).alloc _)).cons (eW.nil _ _),?_,h1.alloc _,e1.alloc _,z3,?_,?_,?_,rfl⟩
  ·show World.ownsRow _ _ _ _ _ 1 (dM t++[]);rw[Q.o];exact kG
  ·intro e;cases e
  ·intro k o;simp only[Value.ownBlock,Option.some.injEq]at o;subst o;exact⟨it.o Ol,trivial,fun c9=>absurd rfl c9.1⟩
  ·have:=z3.1;omega
  ·show 0+1<=_;omega
  ·show cons (er t) _=_;rw[I.o];rfl
 case round=>
  obtain⟨U,c,own,k9,k0,cP,b7,y9,E,ec,y3,hm,d8,h9,h0⟩:=hrel;have H:Hid (vH (er c) (aZ T S gk U).2=cons (S r).2 (aZ T S n (S r).1).2):=h9;have O:Hid ((aZ T S gk U).1=(aZ T S n (S r).1).1):=h0;have h8:Hid (cI c=100):=k0;clear h9 h0 k0 kG;obtain⟨j,K,j0⟩:=aAW own (aA7 k9);subst j0;have y4:=E.alloc (Qf #[Qc 18] 141);have e2:=(Ex.refl b wr).alloc (Qf #[Qc 18] 141);have b4:=b7.ex E e2;have c6:=own.alloc (Qf #[Qc 18] 141);have j5:=cA wr [18] #[Qc 18] rfl;go_wp2_with fail
  refine(oT T g J b U wr.1.size 1 [18] _ y4 j5 Ob Ob).mono ?_;rintro e W ⟨rfl,F,X⟩;have a3:=b4.ex y4 X;have P:=jP c6 y4.blk Ob X;have a2:=(ec.t e2).t X;have y1:=E.lt;have x:=fF E.ends y1 (show aM [18] 0=false by decide);have z2:=y3.adv x;cases hs:aF T U [18]
  ·have y7:U.b0 T [18]=U:=by unfold Rd.b0;rw[hs];rfl
   rw[y7]at F
   have k1:aZ T S gk U=(U,.nil):=by
    cases gk with
    |zero=>rfl
    |succ gk=>show(if _ then _ else _)=_;rw[if_neg (by rw[hs];decide)]
   have l:=H.o;have u:=O.o;rw[k1]at l u;rw[aAI]at l
   have fin:mB T g J b w (dV T S n r) aH (.returned (Qe j (bG c) K)) W:=by
    refine⟨.node j K {a:=20} c .nil,rfl,?_,eW.listed k9 cP a3 (by rw[h8.o];exact P),?_,a2⟩
    ·show BT.node 0 0 _ (er c) .nil=gW (cons (S r).2 (aZ T S n (S r).1).2);rw[l];rfl
    ·show eK T g J b (aZ T S n (S r).1).1 W;rw[<-u];exact F
   clear l u k1 y7 H O;go_wp2;go_ret;exact fin
  ·have HN:Hid ((U.b0 T [18]).b=U.b+1):=pL hs;go_wp2_with fail
   refine(V.o _ _ F z2).mono ?_;rintro e i ⟨v,rfl,y6,b9,h5,Y⟩;have N:Hid (er v=(S (U.b0 T [18])).2):=y6;obtain⟨d,yx,yy,k7,z9,z8⟩:=R.o (U.b0 T [18]);obtain⟨k2,_,y0⟩:=aWN (N.o.t k7) z9 z8;have k8:=aMD (N.o.t k7);have j8:Hid (aP7 v= .agg #[.string d.h,Qc d.b,Qc 0]):=k8;have y5:Hid (dM v=[.string d.h,Qc d.b,Qc 0]):=k2;rw[k8];clear k8 k7 y6 k2;obtain⟨m,rfl⟩:=Oj gk;have a5:=x.t (C.o _ x.lt);have z1:=y3.adv a5;have a8:=jP P F.blk Ob Y;have b5:=a3.ex F Y;have b3:=a2.t Y;have e6:=b3.size;have e4:=HN.o;have d6:=(C.o _ x.lt).ge;have e3:=(C.o _ x.lt).lt;have d7:bG c<=5000:=Oa
   go_wp2_with (at_builtin;refine wpList_append_lies _ rfl _ _ 101 rfl w.1.size 100 i0 _ 3 32 underlying101 j6 z7 z6 z5 rfl Oa (Qe j (bG c) K) (bG c) (dS c) rfl (a8.alloc _) ⟨i.1.size,0,none⟩ 1 1 [.string d.h,Qc d.b,Qc 0] rfl rfl (World.news_of_block (cs:=#[.string d.h,Qc d.b,Qc 0]) (t:=100) (fr:=(0,0)) (Qk i _)) (by simp[Value.oneCell']) Oa (by unfold maxLen;omega) Oa (by simp;omega) (i.1.size+1) Od ?_;intro g6 b2 p c7 D k4 d9)
   have Z:Ex b i (i.alloc (Qf #[.string d.h,Qc d.b,Qc 0] 100)):=(Ex.refl b i).alloc _;have y:=h5.alloc (Qf #[.string d.h,Qc d.b,Qc 0] 100);have a4:=b5.ex h5 Z;have M:=b9.ex h5 Z
   have a9:∀ k,Value.ownBlock (Qe j (bG c) K)=some k->k≠b/\k≠g:=by
    intro k o;rcases(a8.alloc (Qf #[.string d.h,Qc d.b,Qc 0] 100)).2 with⟨A,_⟩|⟨g',d2,d3,z,_,L,_⟩
    ·cases A
    ·simp only[Value.slice.injEq,Option.some.injEq,Addr.mk.injEq]at z;obtain⟨⟨rfl,_,_⟩,_,_⟩:=z;simp only[Value.ownBlock,Option.some.injEq]at o;subst o;refine⟨fun e1=>?_,fun e1=>?_⟩
     ·rw[e1,y.blk]at L;simp at L
     ·obtain⟨d4,j7,_⟩:=y.row;rw[e1,j7]at L;simp at L
   have h7:eK T g J b (S (U.b0 T [18])).1 p:=y.move (D.block b y.size (fun e1=>(a9 b e1.symm).1 rfl)) (D.block g y.gsize (fun e1=>(a9 g e1.symm).2 rfl));have e7:Ex b w p:=Ex.grown (b3.alloc _) D (fun k o=>(own.lt k o).1);have a7:fN j c:=y9 j rfl;have y2:j < W.1.size:=(P.lt j rfl).2;have h4:∀ B,B < (i.alloc (Qf #[.string d.h,Qc d.b,Qc 0] 100)).1.size->B≠j->p.1[B]?=(i.alloc (Qf #[.string d.h,Qc d.b,Qc 0] 100)).1[B]?:=fun B hi j3=>D.block B hi (fun e1=>j3 (Oq e1));have b6:eW w.1.size p c:=a4.but h4 a7;have a6:fN j v:=M.fresh.notIn y2;have b8:eW w.1.size p v:=(M.but h4 a6).mono a2.size
   have c5:fN g6 (oI c v):=by
    rcases k4 with A|A
    ·simp only[Value.ownBlock,Option.some.injEq]at A;subst A;exact iZ a7 a6
    ·subst A;have e5:(i.alloc (Qf #[.string d.h,Qc d.b,Qc 0] 100)).1.size=i.1.size+1:=Od
     exact iZ (a4.o Oa) (M.o Oa)
   have fin:∃ (U:Rd) (q:Tr),p.ownsRow w.1.size 100 3 (Qe g6 (bG c+1) b2) (bG q) (dS q)/\q≠ .nil/\cI q=100/\mS 3 q/\eW w.1.size p q/\
    (∀ k,(Qe g6 (bG c+1) b2).ownBlock=some k->fN k q)/\eK T g J b U p/\Ex b w p/\Dm T n G U/\T.length - U.b<=m/\bG q<=U.b+1/\
    vH (er q) (aZ T S m U).2=cons (S r).2 (aZ T S n (S r).1).2/\(aZ T S m U).1=(aZ T S n (S r).1).1:=by
    refine⟨_,oI c v,?_,zZ _ _,?_,?_,eW.snoc cP b6 b8,?_,h7,e7,z1,?_,?_,?_,?_⟩
    ·rw[lD,mN,y5.o];exact c7
    ·rw[pM k9];exact h8.o
    ·exact qW cP (aHR y0) (by rw[y5.o];rfl)
    ·intro k o;simp only[Value.ownBlock,Option.some.injEq]at o;subst o;exact c5
    ·omega
    ·rw[lD];omega
    ·have l:=H.o
     have u:aZ T S (m+1) U=((aZ T S m (S (U.b0 T [18])).1).1,cons (S (U.b0 T [18])).2 (aZ T S m (S (U.b0 T [18])).1).2):=by
      show(if _ then _ else _)=_;rw[if_pos hs]
     rw[u]at l;rw[xV,tX,N.o];exact l
    ·have l:=O.o
     have u:aZ T S (m+1) U=((aZ T S m (S (U.b0 T [18])).1).1,cons (S (U.b0 T [18])).2 (aZ T S m (S (U.b0 T [18])).1).2):=by
      show(if _ then _ else _)=_;rw[if_pos hs]
     rw[u]at l;exact l
   clear H O V C R I HV Q HN N j8 y5 z4 h8 k4 b6 b8 c5 a6 a7 a4 M b5 a3 b4 b9 c7 a8 P c6 own h7 e7 y Z cP b7 y9 E ec y3 a9 h4 D z1 z2 a5 x;go_wp2;go_roundg m
   case rel=>exact fin
   case measure=>omega
theorem aQ0(T:List aU)(g J b:Nat)(r:Rd)(w:World)(h:eK T g J b r w):
 Calls prog 125 #[Qd b] w (mB T g J b w (fM T r) fO):=by
 have S:=h.ends;have a1:=aN h.ends h.lt (show aM [1] 0=false by decide);have R:=a1.t (aN h.ends a1.lt (show aM [2] 0=false by decide));go_enter func125,ntmps125
 go_wp2_with fail
 refine(aA6 T g J b r w h).mono ?_;rintro e c ⟨rfl,j,e1⟩;generalize D:bX T r [1]=q at*;have L:Hid (bX T r [1]=q):=D;clear D;unfold jK;have H:(c.alloc (Qf #[.string q.f,Qc q.e,Qc 0] 100)).1[c.1.size]?=some (Qf #[.string q.f,Qc q.e,Qc 0] 100):=Qk c _;have G:(c.alloc (Qf #[.string q.f,Qc q.e,Qc 0] 100)).1.size=c.1.size+1:=Od
 have m:=cA (c.alloc (Qf #[.string q.f,Qc q.e,Qc 0] 100)) [2] #[Qc 2] rfl;rw[G]at m;have k:=(j.alloc (Qf #[.string q.f,Qc q.e,Qc 0] 100)).alloc (Qf #[Qc 2] 141);have y:=(e1.alloc (Qf #[.string q.f,Qc q.e,Qc 0] 100)).alloc (Qf #[Qc 2] 141)
 have s:((c.alloc (Qf #[.string q.f,Qc q.e,Qc 0] 100)).alloc (Qf #[Qc 2] 141)).1[c.1.size]?=some (Qf #[.string q.f,Qc q.e,Qc 0] 100):=
  (On (by rw[G];omega)).t H
 have h0:c.1.size≠b:=by have:=j.size;omega
 go_wp2_with fail
 generalize (c.alloc (Qf #[.string q.f,Qc q.e,Qc 0] 100)).alloc (Qf #[Qc 2] 141)=M at*;refine(iY T g J b _ (c.1.size+1) 1 [2] M k m Ob Ob).mono ?_;rintro e d ⟨rfl,l,i⟩;have U:=aET k [2];have t:=(i.block c.1.size (Oo s) h0).t s;generalize C:bX T (r.take T [1]) [2]=p at*;have K:Hid (bX T (r.take T [1]) [2]=p):=C;clear C;rw[aU.val_eq];have I:(d.alloc (Qf #[Qc p.d,Qc p.e,.string p.f,Qc p.a] 143)).1[d.1.size]?=some (Qf #[Qc p.d,Qc p.e,.string p.f,Qc p.a] 143):=Qk d _;have v:(d.alloc (Qf #[Qc p.d,Qc p.e,.string p.f,Qc p.a] 143)).1.size=d.1.size+1:=Od
 have n:=cA (d.alloc (Qf #[Qc p.d,Qc p.e,.string p.f,Qc p.a] 143)) [19] #[Qc 19] rfl;rw[v]at n;have Q:c.1.size < d.1.size:=(Oo t);have B:=(l.alloc (Qf #[Qc p.d,Qc p.e,.string p.f,Qc p.a] 143)).alloc (Qf #[Qc 19] 141);have z:=((y.t i).alloc (Qf #[Qc p.d,Qc p.e,.string p.f,Qc p.a] 143)).alloc (Qf #[Qc 19] 141)
 have u:((d.alloc (Qf #[Qc p.d,Qc p.e,.string p.f,Qc p.a] 143)).alloc (Qf #[Qc 19] 141)).1[c.1.size]?=some (Qf #[.string q.f,Qc q.e,Qc 0] 100):=
  (On (by rw[v];omega)).t ((On Q).t t)
 have o:((d.alloc (Qf #[Qc p.d,Qc p.e,.string p.f,Qc p.a] 143)).alloc (Qf #[Qc 19] 141)).1[d.1.size]?=some (Qf #[Qc p.d,Qc p.e,.string p.f,Qc p.a] 143):=
  (On (by rw[v];omega)).t I
 have P:d.1.size≠b:=by have:=l.size;omega
 clear j e1 k y i;go_wp2_with fail
 generalize (d.alloc (Qf #[Qc p.d,Qc p.e,.string p.f,Qc p.a] 143)).alloc (Qf #[Qc 19] 141)=N at*;refine(iY T g J b _ (d.1.size+1) 1 [19] N B n Ob Ob).mono ?_;rintro e x ⟨rfl,O,f⟩;have F:=(f.block c.1.size (Oo u) h0).t u;have E:=(f.block d.1.size (Oo o) P).t o;obtain⟨x0,V,W,_⟩:=sM F;obtain⟨y0,X,Y,Z,_⟩:=bK E;have A:=z.t f;clear s t u o H I m n l B z f F E;go_wp2;go_ret;refine⟨.node x.1.size 0 {a:=16,h:=q.f,b:=q.e,g:=p.a,e:=p.e} .nil .nil,rfl,?_,eW.node (eW.nil _ _) (eW.nil _ _) (fun _=>A.size) Od ?_,O.alloc _,A.alloc _⟩
 ·show mk _ .nil .nil=(fM T r).2;unfold fM;dsimp only;rw[L.o,K.o]
 ·exact⟨_,Qk x _,⟨rfl,rfl,rfl⟩,rfl,rfl⟩
theorem aOU(T:List aU)(g J b n f:Nat):zR T g J b 185 (eL T) (Dm T n f) aP7:=fun r w h _=>
 (aA6 T g J b r w h).mono fun _ _ ⟨c,d,e⟩=>⟨.node 0 0 {a:=19,h:=(bX T r [1]).f,b:=(bX T r [1]).e} .nil .nil,c,rfl,eW.node (eW.nil _ _) (eW.nil _ _) (fun p=>absurd rfl p.2.2) Od trivial,d,e⟩
theorem zI{T:List aU}(a:eD T):bV T (eL T):=fun _ h=>aN a h Ob
theorem aR8{T:List aU}:SoN (eL T):=fun _=>⟨_,_,_,rfl,Od,Od⟩
end Go.Proofs.YtikffmloeifkpaaGreatDoor
