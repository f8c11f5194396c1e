/- Contracts. -/
import Derived.Test.YtikffmloeifkpaaGreatDoorR08
import Derived.Deep.CutRange
import Derived.Test.YtikffmloeifkpaaGreatDoorR05
set_option maxHeartbeats 8000000
set_option maxRecDepth 100000
namespace Go.Proofs.YtikffmloeifkpaaGreatDoor
open Go.RowKit Go.Lib Go.Deep Tryz
section
def bL(T:List aU)(n:Nat):Pr:=fun r=>if aF T r [1]then dV T (eL T) n r else(r,.nil)
def dN(T:List aU)(n:Nat):Pr:=fun r=>if aF T r [5]then dV T (iS T) n (r.b0 T [5])else(r,.nil)
theorem qP(T:List aU)(B:Pr)(n:Nat)(r:Rd):cH T B n r=
 ((B (dN T n ((bL T n ((r.take T [1]).a0 T [12])).1.h0 T 13)).1).1,mk {a:=17,h:=(bX T r [1]).f,b:=(bX T r [1]).e} (bL T n ((r.take T [1]).a0 T [12])).2
  (mk {a:=18} (dN T n ((bL T n ((r.take T [1]).a0 T [12])).1.h0 T 13)).2 (B (dN T n ((bL T n ((r.take T [1]).a0 T [12])).1.h0 T 13)).1).2)):=rfl
theorem sS{T:List aU}(a:eD T)(n:Nat):bV T (bL T n):=fun r h=>by
 unfold bL
 split
 ·exact qU a (zI a) n r h
 ·exact sJ.refl h
theorem sR{T:List aU}(b:eD T)(n:Nat):bV T (dN T n):=fun r h=>by
 unfold dN
 split
 ·have a:=fF b h (show aM [5] 0=false by decide);exact a.t (qU b (oC b) n _ a.lt)
 ·exact sJ.refl h
theorem aR7{T:List aU}:So 7 8 (iS T):=fun r=>⟨_,_,_,rfl,Od,Od⟩
theorem aCT{T:List aU}(S:Pr)(n:Nat):SoL (dV T S n):=fun _=> .r ⟨_,_,rfl,rfl⟩
theorem lP{w:World}{k:Nat}{a0 a1 d a b c e:Value}{t:TypeId}(h:w.1[k]?=some (Qf #[a0,a1,d,a,b,c,e] t)):
 w.cell? ⟨k,3,none⟩=some a/\w.cell? ⟨k,4,none⟩=some b/\w.cell? ⟨k,5,none⟩=some c/\(∀ o,w.frozen? ⟨k,o,none⟩=false):=
 ⟨cell_of_row _ _ _ _ _ _ h,cell_of_row _ _ _ _ _ _ h,cell_of_row _ _ _ _ _ _ h,fun o=>by simp[World.frozen?,h]⟩
theorem aGY(T:List aU)(g J b n:Nat)(B:Pr)(r:Rd)(w:World)(hB:eJ T g J b 192 B (Dm T n 6))(z3:SoL B)(h:eK T g J b r w)(hd:Dm T n 6 r)(j3:r.c+1+n<=1000000):
 Calls prog 126 #[Qd b] w (mB T g J b w (cH T B n r) fO):=by
 have HB:Hid (eJ T g J b 192 B (Dm T n 6)):=hB;have g0:Hid (SoL B):=z3;have d6:∀ (fn:Fn) (first J:Array Value) (w:World),(Instr.makeFunc fn first J).run prog w= .ok (.func fn first J) w:=fun _ _ _ _=>rfl;have h0:=h.ends;have a1:=aN h.ends h.lt (show aM [1] 0=false by decide);obtain⟨o1,o2,o3⟩:=cZ h.ends a1.lt (show aM [12] 0=false by decide);have j1:=a1.c;have j2:=a1.ge;obtain⟨d1,d2,d3⟩:=hd;have y8:Dm T n 0 ((r.take T [1]).a0 T [12]):=⟨Oa,Oa,Oa⟩;have ap:=sS h0 n _ o2;have b9:=ap.c;have a3:=oE h0 o1 o3 ap (show aM [13] 0=false by decide);have c5:=a3.ge;have c7:=a3.c
 have y6:∀ S,sJ T ((bL T n ((r.take T [1]).a0 T [12])).1.h0 T 13) S->∀ q,q<=6->Dm T n q S:=fun S a q hq=>by
  have x1:=a.ge;have x2:=a.c;exact⟨Oa,Oa,Oa⟩
 have aw:=sR h0 n _ a3.lt;have z9:0<=(r.take T [1]).c/\(r.take T [1]).c<=1000000:=⟨Oa,Oa⟩;have j0:0<=(bL T n ((r.take T [1]).a0 T [12])).1.c/\(bL T n ((r.take T [1]).a0 T [12])).1.c<=1000000:=⟨Oa,Oa⟩;have HF:Hid (cH T B n r=_):=qP T B n r;have z7:Hid (∀ S,sJ T ((bL T n ((r.take T [1]).a0 T [12])).1.h0 T 13) S->∀ q,q<=6->Dm T n q S):=y6;clear hB z3 y6 o1 o2 o3 d1 d2 d3 j3 j1 j2 b9 c5 c7;go_enter func126,ntmps126
 go_wp2_with fail
 refine(aA6 T g J b r w h).mono ?_;rintro e c ⟨rfl,h1,e1⟩;generalize hq:bX T r [1]=q at*;have HQ:Hid (bX T r [1]=q):=hq;clear hq;unfold jK;have z2:(c.alloc (Qf #[.string q.f,Qc q.e,Qc 0,.slice none 0 0,.slice none 0 0,.slice none 0 0,Qc 0] 105)).1[c.1.size]?=some (Qf #[.string q.f,Qc q.e,Qc 0,.slice none 0 0,.slice none 0 0,.slice none 0 0,Qc 0] 105):=Qk c _;have s2:(c.alloc (Qf #[.string q.f,Qc q.e,Qc 0,.slice none 0 0,.slice none 0 0,.slice none 0 0,Qc 0] 105)).1.size=c.1.size+1:=Od
 have k2:=cA (c.alloc (Qf #[.string q.f,Qc q.e,Qc 0,.slice none 0 0,.slice none 0 0,.slice none 0 0,Qc 0] 105)) [12] #[Qc 12] rfl;rw[s2]at k2;have h2:=(h1.alloc (Qf #[.string q.f,Qc q.e,Qc 0,.slice none 0 0,.slice none 0 0,.slice none 0 0,Qc 0] 105)).alloc (Qf #[Qc 12] 141);have e2:=(e1.alloc (Qf #[.string q.f,Qc q.e,Qc 0,.slice none 0 0,.slice none 0 0,.slice none 0 0,Qc 0] 105)).alloc (Qf #[Qc 12] 141)
 have n2:((c.alloc (Qf #[.string q.f,Qc q.e,Qc 0,.slice none 0 0,.slice none 0 0,.slice none 0 0,Qc 0] 105)).alloc (Qf #[Qc 12] 141)).1[c.1.size]?=some (Qf #[.string q.f,Qc q.e,Qc 0,.slice none 0 0,.slice none 0 0,.slice none 0 0,Qc 0] 105):=
  (On (by rw[s2];omega)).t z2
 have E:c.1.size≠b:=by have:=h1.size;omega
 have hH:w.1.size<=c.1.size:=e1.size;go_wp2_with fail
 generalize (c.alloc (Qf #[.string q.f,Qc q.e,Qc 0,.slice none 0 0,.slice none 0 0,.slice none 0 0,Qc 0] 105)).alloc (Qf #[Qc 12] 141)=W2 at*;refine(aA4 T g J b _ (c.1.size+1) 1 [12] W2 h2 k2 Ob Ob z9).mono ?_;rintro e K ⟨rfl,h3,e3⟩;have n3:=(e3.block c.1.size (Oo n2) E).t n2;have l3:c.1.size < K.1.size:=(Oo n3);have k4:=cA K [1] #[Qc 1] rfl;have h4:=h3.alloc (Qf #[Qc 1] 141);have e4:=(e2.t e3).alloc (Qf #[Qc 1] 141);have n4:(K.alloc (Qf #[Qc 1] 141)).1[c.1.size]?=some (Qf #[.string q.f,Qc q.e,Qc 0,.slice none 0 0,.slice none 0 0,.slice none 0 0,Qc 0] 105):=(On l3).t n3;clear z2 s2 k2 h2 e2 n2 h3 e3 n3 l3;go_wp2_with fail
 refine(jO T g J b _ K.1.size 1 [1] _ h4 k4 Ob).mono ?_;rintro e W ⟨rfl,nn,rfl⟩;have h5:=h4.drewN nn;have L:=e4.drewN nn;have F:((K.alloc (Qf #[Qc 1] 141)).drewN nn).1[c.1.size]?=some (Qf #[.string q.f,Qc q.e,Qc 0,.slice none 0 0,.slice none 0 0,.slice none 0 0,Qc 0] 105):=n4;have V:Hid (bL T n ((r.take T [1]).a0 T [12])=if aF T ((r.take T [1]).a0 T [12]) [1]then dV T (eL T) n ((r.take T [1]).a0 T [12])else((r.take T [1]).a0 T [12],.nil)):=rfl;clear k4 h4 e4 n4 h1 e1;generalize (K.alloc (Qf #[Qc 1] 141)).drewN nn=W at*;go_upto_if 13 with fail
 go_cut [3]from 4 to 38 (fun f u=>f= Qd c.1.size/\∃ d i k j,er d=(bL T n ((r.take T [1]).a0 T [12])).2/\aH d= .slice i k j/\eW w.1.size u d/\fN c.1.size d/\eK T g J b (bL T n ((r.take T [1]).a0 T [12])).1 u/\Ex b w u/\u.1[c.1.size]?=some (Qf #[.string q.f,Qc q.e,Qc 0,.slice i k j,.slice none 0 0,.slice none 0 0,Qc 0] 105))
 case first=>as_aux_lemma=>
  cases hs:aF T ((r.take T [1]).a0 T [12]) [1]
  ·have U:bL T n ((r.take T [1]).a0 T [12])=((r.take T [1]).a0 T [12],.nil):=by rw[V.o,hs];rfl
   have C:eK T g J b (bL T n ((r.take T [1]).a0 T [12])).1 W:=by rw[U];exact h5
   obtain⟨d,s⟩:∃ d:Tr,d= .nil:=⟨_,rfl⟩;have O:eW w.1.size W d:=by rw[s];exact eW.nil _ _
   have H:fN c.1.size d:=by rw[s];trivial
   obtain⟨i,k,j,x⟩:∃ ao n Z,aH d= .slice ao n Z/\(Value.slice ao n Z= .slice none 0 0):=⟨none,0,0,by rw[s];rfl,rfl⟩;obtain⟨x,y2⟩:=x;have G:W.1[c.1.size]?=some (Qf #[.string q.f,Qc q.e,Qc 0,.slice i k j,.slice none 0 0,.slice none 0 0,Qc 0] 105):=by rw[y2];exact F
   replace s:er d=(bL T n ((r.take T [1]).a0 T [12])).2:=by rw[s,U];rfl
   have M:=L;clear F L h5 U V y2;go_wp2;go_meet
   case rel=>exact⟨rfl,d,i,k,j,s,x,O,H,C,M,G⟩
  ·have U:bL T n ((r.take T [1]).a0 T [12])=dV T (eL T) n ((r.take T [1]).a0 T [12]):=by rw[V.o,hs];rfl
   have z0:Hid (bL T n ((r.take T [1]).a0 T [12])=dV T (eL T) n ((r.take T [1]).a0 T [12])):=U;clear U V;go_wp2_with fail
   refine(aPA T g J b 185 n 0 (eL T) _ W aJ8 (aOU T g J b n 0) (zI h0) aR8 h5 y8).mono ?_;rintro e b2 ⟨d,rfl,k7,a7,z5,a6⟩;have s:er d=(bL T n ((r.take T [1]).a0 T [12])).2:=by rw[z0.o];exact k7
   obtain⟨i,k,j,x⟩:=lM (t:=d) (by rw[k7];exact aCT _ _ _);rw[x];have a5:=(a6.block c.1.size (Oo F) E).t F;obtain⟨y3,_,_,I⟩:=lP a5;have d7:=I 3;have H:=a7.fresh.notIn (Oo F);have O:=(a7.mono L.size).set H 3 (.slice i k j);have M:=(L.t a6).j0 hH 3 (.slice i k j);have G:(b2.setCell ⟨c.1.size,3,none⟩ (.slice i k j)).1[c.1.size]?=some (Qf #[.string q.f,Qc q.e,Qc 0,.slice i k j,.slice none 0 0,.slice none 0 0,Qc 0] 105):=aI (o:=3) (.slice i k j) a5
   have C:eK T g J b (bL T n ((r.take T [1]).a0 T [12])).1 (b2.setCell ⟨c.1.size,3,none⟩ (.slice i k j)):=by
    rw[z0.o];exact z5.j0 a5 Ob Ob _ _
   clear k7 a7 z5 a6 F L h5 a5 z0 I;go_wp2;go_meet
   case rel=>exact⟨rfl,d,i,k,j,s,x,O,H,C,M,G⟩
 case rest=>as_aux_lemma=>
  obtain⟨rfl,d,i,k,j,s,x,O,H,C,M,G⟩:=hcut;clear V h5 F L;have j9:Hid (er d=(bL T n ((r.take T [1]).a0 T [12])).2):=s;have j6:Hid (aH d= .slice i k j):=x;clear s x;go_wp2_with fail
  refine(qY T g J b _ 13 _ C Ob j0).mono ?_;rintro e X ⟨rfl,h7,e7⟩;have n7:=(e7.block c.1.size (Oo G) E).t G;have b7:=O.ex C e7;have l7:c.1.size < X.1.size:=(Oo n7);have k8:=cA X [5] #[Qc 5] rfl;have h8:=h7.alloc (Qf #[Qc 5] 141);have e8:=(Ex.refl b X).alloc (Qf #[Qc 5] 141);have b4:=(M.t e7).t e8;have b8:=b7.ex h7 e8;have n8:=(e8.block c.1.size l7 E).t n7;clear C G M O h7 n7 b7 l7 e7 e8;go_wp2_with fail
  generalize X.alloc (Qf #[Qc 5] 141)=W8 at*;refine(oT T g J b _ X.1.size 1 [5] W8 h8 k8 Ob Ob).mono ?_;rintro e W9 ⟨rfl,D,e9⟩;have y:=(e9.block c.1.size (Oo n8) E).t n8;have a2:=b8.ex h8 e9;have N:=b4.t e9;have hW:Hid (dN T n ((bL T n ((r.take T [1]).a0 T [12])).1.h0 T 13)=if aF T ((bL T n ((r.take T [1]).a0 T [12])).1.h0 T 13) [5]then dV T (iS T) n (((bL T n ((r.take T [1]).a0 T [12])).1.h0 T 13).b0 T [5])else((bL T n ((r.take T [1]).a0 T [12])).1.h0 T 13,.nil)):=rfl;clear h8 k8 n8 b8 b4 e9;go_upto_if 25 with fail
  go_cut [3]from 4 to 38 (fun f u=>f= Qd c.1.size/\∃ tw l p m,er tw=(dN T n ((bL T n ((r.take T [1]).a0 T [12])).1.h0 T 13)).2/\aH tw= .slice l p m/\eW w.1.size u tw/\fN c.1.size tw/\eK T g J b (dN T n ((bL T n ((r.take T [1]).a0 T [12])).1.h0 T 13)).1 u/\Ex b w u/\eW w.1.size u d/\u.1[c.1.size]?=some (Qf #[.string q.f,Qc q.e,Qc 0,.slice i k j,.slice l p m,.slice none 0 0,Qc 0] 105))
  case first=>as_aux_lemma=>
   cases hs5:aF T ((bL T n ((r.take T [1]).a0 T [12])).1.h0 T 13) [5]
   ·have y0:dN T n ((bL T n ((r.take T [1]).a0 T [12])).1.h0 T 13)=((bL T n ((r.take T [1]).a0 T [12])).1.h0 T 13,.nil):=by rw[hW.o,hs5];rfl
    have z:eK T g J b (dN T n ((bL T n ((r.take T [1]).a0 T [12])).1.h0 T 13)).1 W9:=by
     have z8:((bL T n ((r.take T [1]).a0 T [12])).1.h0 T 13).b0 T [5]=(bL T n ((r.take T [1]).a0 T [12])).1.h0 T 13:=by unfold Rd.b0;rw[hs5];rfl
     rw[z8]at D;rw[y0];exact D
    obtain⟨tw,k0⟩:∃ tw:Tr,tw= .nil:=⟨_,rfl⟩;have Q:eW w.1.size W9 tw:=by rw[k0];exact eW.nil _ _
    have R:fN c.1.size tw:=by rw[k0];trivial
    obtain⟨l,p,m,v⟩:∃ ao n Z,aH tw= .slice ao n Z/\(Value.slice ao n Z= .slice none 0 0):=⟨none,0,0,by rw[k0];rfl,rfl⟩;obtain⟨v,y2⟩:=v;replace y:W9.1[c.1.size]?=some (Qf #[.string q.f,Qc q.e,Qc 0,.slice i k j,.slice l p m,.slice none 0 0,Qc 0] 105):=by rw[y2];exact y
    replace k0:er tw=(dN T n ((bL T n ((r.take T [1]).a0 T [12])).1.h0 T 13)).2:=by rw[k0,y0];rfl
    have Y:=y;have P:=a2;have A:=N;clear y a2 N D y0 hW y2;go_wp2;go_meet
    case rel=>exact⟨rfl,tw,l,p,m,k0,v,Q,R,z,A,P,Y⟩
   ·have y0:dN T n ((bL T n ((r.take T [1]).a0 T [12])).1.h0 T 13)=dV T (iS T) n (((bL T n ((r.take T [1]).a0 T [12])).1.h0 T 13).b0 T [5]):=by rw[hW.o,hs5];rfl
    have y9:Hid (dN T n ((bL T n ((r.take T [1]).a0 T [12])).1.h0 T 13)=dV T (iS T) n (((bL T n ((r.take T [1]).a0 T [12])).1.h0 T 13).b0 T [5])):=y0;clear y0 hW;have c6:=fF h0 a3.lt (show aM [5] 0=false by decide);go_wp2_with fail
    refine(aFM T g J b 191 n 0 (iS T) _ W9 aDR (fun r w h hd=>aMY T g J b n r w (aJM T g J b n) h hd) (oC h0) aR7 D (z7.o _ c6 0 Oa)).mono ?_;rintro e b3 ⟨tw,rfl,k6,a8,z4,a4⟩;have k0:er tw=(dN T n ((bL T n ((r.take T [1]).a0 T [12])).1.h0 T 13)).2:=by rw[y9.o];exact k6
    obtain⟨l,p,m,v⟩:=lM (t:=tw) (by rw[k6];exact aCT _ _ _);rw[v];have a9:=(a4.block c.1.size (Oo y) E).t y;obtain⟨_,y4,_,I⟩:=lP a9;have d8:=I 4;have R:=a8.fresh.notIn (Oo y);have b6:=a2.ex D a4;have P:=b6.set H 4 (.slice l p m);have Q:=(a8.mono N.size).set R 4 (.slice l p m);have A:=(N.t a4).j0 hH 4 (.slice l p m);have Y:=aI (o:=4) (.slice l p m) a9
    have z:eK T g J b (dN T n ((bL T n ((r.take T [1]).a0 T [12])).1.h0 T 13)).1 (b3.setCell ⟨c.1.size,4,none⟩ (.slice l p m)):=by
     rw[y9.o];exact z4.j0 a9 Ob Ob _ _
    replace Y:(b3.setCell ⟨c.1.size,4,none⟩ (.slice l p m)).1[c.1.size]?=some (Qf #[.string q.f,Qc q.e,Qc 0,.slice i k j,.slice l p m,.slice none 0 0,Qc 0] 105):=Y;clear k6 a8 z4 a4 y a2 N D b6 y9 I;go_wp2;go_meet
    case rel=>exact⟨rfl,tw,l,p,m,k0,v,Q,R,z,A,P,Y⟩
  case rest=>as_aux_lemma=>
   obtain⟨rfl,tw,l,p,m,k0,v,Q,R,z,A,P,Y⟩:=hcut;clear hW D y a2 N;have j8:Hid (er tw=(dN T n ((bL T n ((r.take T [1]).a0 T [12])).1.h0 T 13)).2):=k0;have j5:Hid (aH tw= .slice l p m):=v;clear k0 v;go_wp2_with fail
   refine(HB.o _ _ z (z7.o _ aw 6 Oa)).mono ?_;rintro e WB ⟨tb,rfl,z1,b5,j4,eB⟩;have z6:Hid (er tb=(B (dN T n ((bL T n ((r.take T [1]).a0 T [12])).1.h0 T 13)).1).2):=z1;obtain⟨ab,lb,cb,y7⟩:=lM (t:=tb) (by rw[z6.o];exact g0.o _);have j7:Hid (aH tb= .slice ab lb cb):=y7;rw[y7];clear y7 z1;have nB:=(eB.block c.1.size (Oo Y) E).t Y;obtain⟨_,_,y5,I⟩:=lP nB;have d9:=I 5;have d4:=b5.fresh.notIn (Oo Y);have c8:=P.ex z eB;have c9:=Q.ex z eB;have ee:=A.t eB;have cP:=A.size;clear z A eB P Q Y;go_wp2;go_ret;refine⟨.node c.1.size 0 {a:=17,h:=q.f,b:=q.e} d (.node 0 0 {a:=18} tw tb),rfl,?_,eW.node (c8.set H _ _) (eW.node (c9.set R _ _) ((b5.mono cP).set d4 _ _) (fun d5=>absurd rfl d5.2.1) Od trivial) (fun _=>hH) Od ?_,by rw[HF.o];exact j4.j0 nB Ob Ob _ _,ee.j0 hH _ _⟩
   ·rw[HF.o,<-j9.o,<-j8.o,<-z6.o];rfl
   ·exact⟨_,aI _ nB,⟨rfl,rfl,rfl⟩,by rw[j6.o];rfl,_,_,_,_,_,rfl,by rw[j5.o];rfl,by rw[j7.o];rfl,rfl⟩
theorem infoI:(prog.info? 151).map (fun i=>(i.zero,i.size,i.bytes))=some (some .nilIface,1,16):=by kernel_rfl
theorem aZJ{t:Tr}{a:Nd}{x y:Tr}(h:er t=mk a x y)(c:16<=a.a)(d:a.a < 18):dM t=[aH t]/\cI (cons t .nil)=151/\∃ b o a l q,t= .node b o a l q/\(a.a=19↔1=3):=by
 obtain⟨b,o,l,r,rfl,_,_⟩:=sP h;refine⟨?_,?_,b,o,a,l,r,rfl,Oa⟩
 ·show(if a.a=19 then[Value.string a.h,Qc a.b,Qc a.c]else if a.a=7 then[fO (.node b o a l r)]else[aH (.node b o a l r)])=_
  grind
 ·show(if a.a=19 then _ else if a.a=7 then _ else if a.a < 7 then _ else if a.a < 15 then _ else _)=_
  grind
def wN(v:Value):Array Value:=#[v,.slice none 0 0,.slice none 0 0,Qc 0,.slice none 0 0]
structure Prg(T:List aU)(g J b O:Nat)(w0:World)(v:Value)(acc:Tr)(U:Rd)(w:World):Prop where
 own:w.ownsRow w0.1.size 151 1 v (bG acc) (dS acc)
 nil:acc= .nil->v= .slice none 0 0
 typ:acc≠ .nil->cI acc=151
 sized:mS 1 acc
 new:eW w0.1.size w acc
 ni:∀ k,v.ownBlock=some k->fN k acc
 rd:eK T g J b U w
 ex:Ex b w0 w
 blk:w.1[O]?=some (.cells (wN v) 111 (0,0))
 ge:w0.1.size<=O
 nip:fN O acc
 len:bG acc<=U.b
 c:U.c=0
variable {T:List aU} {g J b O:Nat} {w0 w w':World} {v:Value} {acc:Tr} {U C:Rd}
theorem Prg.ne(h:Prg T g J b O w0 v acc U w):O≠b:=by
 intro e;have a:=h.blk;rw[e,h.rd.blk]at a
 grind
theorem Prg.lt(h:Prg T g J b O w0 v acc U w):O < w.1.size:=(Oo h.blk)
theorem Prg.cell(h:Prg T g J b O w0 v acc U w):w.cell? ⟨O,0,none⟩=some v:=cell_of_row _ _ _ _ _ _ h.blk
theorem Prg.froz(h:Prg T g J b O w0 v acc U w):w.frozen? ⟨O,0,none⟩=false:=by simp[World.frozen?,h.blk]
theorem Prg.own_ne(h:Prg T g J b O w0 v acc U w){k:Nat}(a:v.ownBlock=some k):k≠b/\k≠g/\k≠O:=by
 rcases h.own.2 with⟨m,_⟩|⟨j,e,f,d,_,c,_⟩
 ·grind[Value.ownBlock]
 ·rw[d]at a;simp only[Value.ownBlock,Option.some.injEq]at a;subst a;refine⟨fun e1=>?_,fun e1=>?_,fun e1=>?_⟩
  ·rw[e1,h.rd.blk]at c
   grind
  ·obtain⟨i,l,_⟩:=h.rd.row
   grind
  ·rw[e1,h.blk]at c
   grind
theorem Prg.move(h:Prg T g J b O w0 v acc U w)(e:Ex b w w')(d:eK T g J b C w')(a:U.b<=C.b)(c:C.c=U.c):Prg T g J b O w0 v acc C w':=
 ⟨jP h.own h.rd.blk Ob e,h.nil,h.typ,h.sized,h.new.ex h.rd e,h.ni,d,h.ex.t e,(e.block O h.lt h.ne).t h.blk,h.ge,h.nip,Qm h.len a,c.t h.c⟩
theorem Prg.push(h:Prg T g J b O w0 v acc U w){l:Tr}{s:Rd}{a:Nd}{x y:Tr}{f i:World}{j u u5:Nat}{q:Addr}(ht:er l= .node 0 0 a x y)(S:16<=a.a)(V:a.a < 18)(hv:aH l= .iface u5 (.pointer (some q)))(a4:eW w.1.size f l)(A:eK T g J b s f)(D:Ex b w f)(M:i.ownsRow w0.1.size 151 1 (Qe j (bG acc+1) u) (bG acc+1) (dS acc++[.iface u5 (.pointer (some q))]))(E:(f.alloc (Qf #[.iface u5 (.pointer (some q))] 151)).grownBy i v.ownBlock)(H:v.ownBlock=some j\/j=f.1.size+1)(Z:U.b<=s.b)(k2:bG acc+1<=s.b)(I:s.c=U.c):
 Prg T g J b O w0 (Qe j (bG acc+1) u) (oI acc l) s (i.setCell ⟨O,0,none⟩ (Qe j (bG acc+1) u)):=by
 obtain⟨G,X,k1⟩:=aZJ ht S V;have N:=h.move D A Z I;have z:=(Ex.refl b f).alloc (Qf #[.iface u5 (.pointer (some q))] 151);have c:=N.move z (A.alloc _) Ol rfl;have p:=a4.ex A z;have s5:(f.alloc (Qf #[.iface u5 (.pointer (some q))] 151)).1.size=f.1.size+1:=Od
 generalize f.alloc (Qf #[.iface u5 (.pointer (some q))] 151)=t at*;have h0:∀ k,v.ownBlock≠some k->k < t.1.size->i.1[k]?=t.1[k]?:=fun k m k3=>E.block k k3 (fun e=>m e.symm);have K:i.1[O]?=some (.cells (wN v) 111 (0,0)):=(h0 O (fun e=>(c.own_ne e).2.2 rfl) c.lt).t c.blk;have W:eK T g J b s i:=c.rd.move (h0 b (fun e=>(c.own_ne e).1 rfl) c.rd.size) (h0 g (fun e=>(c.own_ne e).2.1 rfl) c.rd.gsize);have a6:w.1.size<=t.1.size:=(D.t z).size;have F:∀ k,v.ownBlock=some k->k < w.1.size:=fun k m=>(h.own.lt k m).2
 have a2:eW w0.1.size i acc:=by
  cases hob:v.ownBlock with
  |none=>exact c.new.but (k:=t.1.size) (fun n hi _=>h0 n (by rw[hob];simp) hi) (c.new.o Ol)
  |some k=>exact c.new.but (k:=k) (fun n hi k0=>h0 n (fun e1=>k0 (Oq (e1.symm.t hob))) hi) (c.ni k hob)
 have a3:eW w0.1.size i l:=by
  refine eW.mono ?_ h.ex.size;cases hob:v.ownBlock with
  |none=>exact p.but (k:=t.1.size) (fun n hi _=>h0 n (by rw[hob];simp) hi) (p.o Ol)
  |some k=>exact p.but (k:=k) (fun n hi k0=>h0 n (fun e1=>k0 (Oq (e1.symm.t hob))) hi) (p.fresh.notIn (F k hob))
 have a5:fN j (oI acc l):=by
  rcases H with d|d
  ·exact iZ (h.ni j d) (p.fresh.notIn (F j d))
  ·subst d;exact iZ (c.new.o Oa) (p.o Oa)
 have L:fN O (oI acc l):=iZ h.nip (p.fresh.notIn h.lt)
 have k4:j≠O:=by
  rcases H with d|d
  ·exact(h.own_ne d).2.2
  ·have:=h.lt;omega
 have i7:eW w0.1.size i (oI acc l):=eW.snoc h.sized a2 a3;refine⟨?_,fun d=>absurd d (zZ _ _),fun _=>?_,qW h.sized k1 (by rw[G];rfl),i7.set L _ _,?_,W.j0 K Ob Ob _ _,?_,?_,h.ge,L,?_,I.t h.c⟩
 ·rw[lD,mN,G,hv];refine⟨M.1,?_⟩;rcases M.2 with⟨d,_⟩|⟨R,P,Q,B,k5,Y,r⟩
  ·cases d
  ·refine .r ⟨R,P,Q,B,k5,?_,r⟩;simp only[Value.slice.injEq,Option.some.injEq,Addr.mk.injEq]at B;obtain⟨⟨rfl,_,_⟩,_,_⟩:=B;exact(Om k4).t Y
 ·cases hac:acc with
  |nil=>show cI (cons l .nil)=_;exact X
  |node b1 o1 a1 x1 q1=>rw[<-hac,pM (by rw[hac];intro h;cases h)];exact h.typ (by rw[hac];intro h;cases h)
 ·intro k m;simp only[Value.ownBlock,Option.some.injEq]at m;subst m;exact a5
 ·exact Ex.j0 (Ex.grown c.ex E (fun k m=>(h.own.lt k m).1)) h.ge _ _
 ·exact aI (o:=0) _ K
 ·rw[lD];exact k2
end
section
theorem aLI(t:aU)(w:World):(Instr.field 143 (.agg #[Qc t.d,Qc t.e,.string t.f,Qc t.a]) 0).run prog w= .ok (Qc t.d) w:=by kernel_rfl
theorem pA{T:List aU}(a:eD T):bV T (fM T):=fun r h=>by
 have a1:=aN a h (show aM [1] 0=false by decide);have c:=a1.t (aN a a1.lt (show aM [2] 0=false by decide));exact c.t (aN a c.lt rfl)
theorem lE{T:List aU}(a:eD T){B:Pr}(e:bV T B)(n:Nat):bV T (cH T B n):=fun r h=>by
 rw[qP];have a1:=aN a h (show aM [1] 0=false by decide);obtain⟨f,i,j⟩:=cZ a a1.lt (show aM [12] 0=false by decide);have c:=a1.t (oE a f j (sS a n _ i) (show aM [13] 0=false by decide));have d:=c.t (sR a n _ c.lt);exact d.t (e _ d.lt)
theorem aO0{T:List aU}(c:eD T){r:Rd}(h:r.b < T.length)(a:aF T r [0]=false):r.b+1 < T.length:=by
 have d:r.b≠T.length - 1:=by
  intro e;unfold aF aE at a;rw[e,c]at a;trivial
 omega
def aU9(T:List aU)(g J b:Nat)(w:World)(q:Rd × Tr):Ending->World->Prop:=
 fun e w'=>∃ v acc,e= .returned (Qd w.1.size)/\er acc=q.2/\Prg T g J b w.1.size w v acc q.1 w'
theorem aIH(T:List aU)(g J b n:Nat)(B:Pr)(r:Rd)(w:World)(hB:eJ T g J b 192 B (Dm T n 6))(j5:bV T B)(j4:SoL B)(h:eK T g J b r w)(hd:T.length*16+6 < n)(b4:n+1<=1000000)(h0:r.c=0):
 Calls prog 71 #[Qd b] w (aU9 T g J b w (aL T B n n r)):=by
 have HB:Hid (eJ T g J b 192 B (Dm T n 6)):=hB;have z0:Hid (bV T B):=j5;have y9:Hid (SoL B):=j4;clear hB j5 j4;obtain⟨i0,j3,z7,z6,z5⟩:=info_parts infoI;have h2:=h.ends;have b5:=h.few;have j6:∀ U:Rd,U.c=0->Dm T n 6 U/\U.c+1+n<=1000000:=fun U hn=>⟨⟨Oa,Oa,Oa⟩,Oa⟩;have z1:Hid _:=j6;clear j6
 have PS:Prg T g J b w.1.size w (.slice none 0 0) .nil r (w.alloc (.cells (wN (.slice none 0 0)) 111)):=
  ⟨World.ownsRow_nil _ _ _ _,fun _=>rfl,fun h=>absurd rfl h,trivial,eW.nil _ _,fun b9 hk=>by simp[Value.ownBlock]at hk,h.alloc _,(Ex.refl b w).alloc _,Qk w _,Ql _,trivial,Qn _,h0⟩
 have y5:Hid _:=PS;clear PS;unfold wN at y5;go_enter func71,ntmps71
 go_wp2_with fail
 go_loopg [] n (fun m wr=>∃ (U:Rd) (acc:Tr) (p:Value),Prg T g J b w.1.size w p acc U wr/\T.length - U.b<=m+1/\vH (er acc) (aL T B n m U).2=(aL T B n n r).2/\(aL T B n m U).1=(aL T B n n r).1)
 case atStart=>
  exact⟨r,.nil,.slice none 0 0,y5.o,Oa,rfl,rfl⟩
 case round=>
  obtain⟨U,acc,p,PP,hm,k8,h7⟩:=hrel;have A:Hid (vH (er acc) (aL T B n gk U).2=(aL T B n n r).2):=k8;have E:Hid ((aL T B n gk U).1=(aL T B n n r).1):=h7;clear k8 h7;have y7:=PP.rd.alloc (Qf #[Qc 0] 141);have e2:=(Ex.refl b wr).alloc (Qf #[Qc 0] 141);have j2:=cA wr [0] #[Qc 0] rfl;have P2:=PP.move e2 y7 Ol rfl;have j8:Hid _:=P2;clear P2 PP e2;go_wp2_with fail
  refine(jO T g J b U wr.1.size 1 [0] _ y7 j2 Ob).mono ?_;rintro e R ⟨rfl,nn,rfl⟩;have H:=j8.o.move ((Ex.refl b _).drewN nn) (y7.drewN nn) Ol rfl;clear y7 j2 j8;generalize (wr.alloc (Qf #[Qc 0] 141)).drewN nn=R at*;cases hs:aF T U [0]
  ·have y6:=H.rd.alloc (Qf #[Qc 3,Qc 4] 141);have e4:=(Ex.refl b R).alloc (Qf #[Qc 3,Qc 4] 141);have j1:=cA R [3,4] #[Qc 3,Qc 4] rfl;have P4:=H.move e4 y6 Ol rfl;have h8:=H.len;have j0:=aO0 h2 H.rd.lt hs;have j7:Hid _:=P4;clear P4 H e4;obtain⟨m,rfl⟩:=Oj gk;go_wp2_with fail
   refine(iY T g J b U R.1.size 2 [3,4] _ y6 j1 Ob Ob).mono ?_;rintro e W5 ⟨rfl,h5,e5⟩;have a5:=aN h2 y6.lt (show aM [3,4] 0=false by decide);have g5:=aMH j0 [3,4];have d:=j7.o.move e5 h5 a5.ge a5.c;clear y6 j1 j7 e5 j0 h5;generalize z8:U.take T [3,4]=c at*;generalize hq:bX T U [3,4]=z at*
   have P:Hid (aL T B n (m+1) U=if z.d=3 then((aL T B n m (fM T c).1).1,cons (fM T c).2 (aL T B n m (fM T c).1).2)
    else if z.d=4 then((aL T B n m (cH T B n c).1).1,cons (cH T B n c).2 (aL T B n m (cH T B n c).1).2)else aL T B n m c):=by
    unfold Hid;rw[<-hq,<-z8];show(if _ then _ else _)=_;rw[if_neg (by rw[hs];decide)]
   clear z8 hq hs;rw[aU.val_eq];have b6:=aLI z;have k2:=d.c;obtain⟨z4,z3⟩:=z1.o c k2;have b7:=a5.ge;have y0:bG acc+1<=c.b:=Qm (Nat.succ_le_succ h8) g5;have b8:bG acc<=5000:=by have:=d.rd.lt;omega
   clear h8;have ag:some w.1.size≠p.ownBlock:=fun e=>(d.own_ne e.symm).2.2 rfl;obtain⟨ao,cp,rfl,j9⟩:=bP d.own;have c5:=d.cell;have f5:=d.froz;have l5:=d.lt;have b3:w.1.size<=W5.1.size:=d.ex.size;have a3:=d.rd.drew;have a8:=d.move ((Ex.refl b W5).drew) a3 Ol rfl;have L:Hid _:=a8;have y8:Hid _:=d;have N:Hid (T.length - U.b<=m+1+1):=hm;clear a8 d a5 j9 hm
   by_cases G:z.d=3
   ·have a9:(z.d==3)=true:=by simpa using G
    have F:Hid (aL T B n (m+1) U=((aL T B n m (fM T c).1).1,cons (fM T c).2 (aL T B n m (fM T c).1).2)):=P.o.t (if_pos G);have y4:Hid (∃ a a6 a7,(fM T c).2= .node 0 0 a a6 a7/\a.a=16):=⟨_,_,_,rfl,rfl⟩;have o:Hid (sJ T c (fM T c).1):=pA h2 c a3.lt;clear P G;go_wp2_with fail
    go_region_law
     (first
       |(refine step_append_lies _ (by rfl) _ _ _ (by rfl) w.1.size 151 i0 _ 1 16 underlying107 j3 z7 z6 z5 rfl Oa (.slice ao (bG acc) cp) (bG acc) (dS acc) (by rfl) (Z.alloc _)
          ⟨l.1.size,0,none⟩ 1 1 [.iface 192 (.pointer (some y))] (by rfl) (by rfl) (World.news_of_block (cs:=#[.iface 192 (.pointer (some y))]) (t:=151) (fr:=(0,0)) (Qk l _)) (by simp[Value.oneCell'])
          Oa (by unfold maxLen;omega) Oa (by simp;omega) (l.1.size+1) Od ?_;intro g7 a4 W7 a2 s S z2;have q1:=(s.cell_far ⟨w.1.size,0,none⟩ k.o.lt ag).t k.o.cell;have q2:=(s.frozen_far ⟨w.1.size,0,none⟩ k.o.lt ag).t k.o.froz)
       |(refine mE rfl 125 #[Qd b] _ (by go_simp) (aQ0 T g J b c _ a3) ?_;rintro e l ⟨M,rfl,X,V,x,I⟩;refine⟨_,rfl,?_⟩;have u:Hid (er M=(fM T c).2):=X;obtain⟨xa,xx,xy,K,k0⟩:=y4.o;obtain⟨y,Y,W⟩:=xJ (u.o.t K) Oa;have y3:Hid (aH M= .iface 192 (.pointer (some y))):=(W.t (by rw[k0];rfl));have q:Hid (er M= .node 0 0 xa xx xy/\xa.a=16):=⟨u.o.t K,k0⟩;rw[Y];clear W Y K X k0;have f:=L.o.move I x o.o.ge o.o.c;have c6:=f.cell;have f6:=f.froz;have l6:=f.lt;have Z:=f.own;have g0:w.1.size<=l.1.size:=f.ex.size;have k:Hid _:=f.move ((Ex.refl b l).alloc (Qf #[.iface 192 (.pointer (some y))] 151)) (x.alloc _) Ol rfl;clear f))
    all_goals
     have fin:∃ (U:Rd) (D:Tr) (p:Value),Prg T g J b w.1.size w p D U (W7.setCell ⟨w.1.size,0,none⟩ (Qe g7 (bG acc+1) a4))/\T.length - U.b<=m+1/\vH (er D) (aL T B n m U).2=(aL T B n n r).2/\(aL T B n m U).1=(aL T B n n r).1:=by
      have z9:=N.o;have i:=A.o;have j:=E.o;rw[F.o]at i j;have y1:=o.o.ge;refine⟨_,_,_,Prg.push L.o q.o.1 (Oi q.o.2) (Oi q.o.2) y3.o V x I a2 s S y1 (Qm y0 y1) o.o.c,Oa,?_,j⟩;rw[xV,tX,u.o];exact i
    all_goals clear A E F L y8 N HB z0 y9 z1 y5 y4 o u y3 q k V x I a2 s S Z
    all_goals go_wp2
    all_goals go_roundg m
    all_goals first|exact fin|omega
   ·have a9:(z.d==3)=false:=by simpa using G
    by_cases Q:z.d=4
    ·have b2:(z.d==4)=true:=by simpa using Q
     have F:Hid (aL T B n (m+1) U=((aL T B n m (cH T B n c).1).1,cons (cH T B n c).2 (aL T B n m (cH T B n c).1).2)):=P.o.t ((if_neg G).t (if_pos Q));have y4:Hid (∃ a a6 a7,(cH T B n c).2= .node 0 0 a a6 a7/\a.a=17):=⟨_,_,_,rfl,rfl⟩;have o:Hid (sJ T c (cH T B n c).1):=lE h2 z0.o n c a3.lt;clear P G Q;go_wp2_with fail
     go_region_law
      (first
        |(refine step_append_lies _ (by rfl) _ _ _ (by rfl) w.1.size 151 i0 _ 1 16 underlying107 j3 z7 z6 z5 rfl Oa (.slice ao (bG acc) cp) (bG acc) (dS acc) (by rfl) (Z.alloc _)
           ⟨l.1.size,0,none⟩ 1 1 [.iface 106 (.pointer (some y))] (by rfl) (by rfl) (World.news_of_block (cs:=#[.iface 106 (.pointer (some y))]) (t:=151) (fr:=(0,0)) (Qk l _)) (by simp[Value.oneCell'])
           Oa (by unfold maxLen;omega) Oa (by simp;omega) (l.1.size+1) Od ?_;intro g7 a4 W7 a2 s S z2;have q1:=(s.cell_far ⟨w.1.size,0,none⟩ k.o.lt ag).t k.o.cell;have q2:=(s.frozen_far ⟨w.1.size,0,none⟩ k.o.lt ag).t k.o.froz)
        |(refine mE rfl 126 #[Qd b] _ (by go_simp) (aGY T g J b n B c _ HB.o y9.o a3 z4 z3) ?_;rintro e l ⟨M,rfl,X,V,x,I⟩;refine⟨_,rfl,?_⟩;have u:Hid (er M=(cH T B n c).2):=X;obtain⟨xa,xx,xy,K,k0⟩:=y4.o;obtain⟨y,Y,W⟩:=xJ (u.o.t K) Oa;have y3:Hid (aH M= .iface 106 (.pointer (some y))):=(W.t (by rw[k0];rfl));have q:Hid (er M= .node 0 0 xa xx xy/\xa.a=17):=⟨u.o.t K,k0⟩;rw[Y];clear W Y K X k0;have f:=L.o.move I x o.o.ge o.o.c;have c6:=f.cell;have f6:=f.froz;have l6:=f.lt;have Z:=f.own;have g0:w.1.size<=l.1.size:=f.ex.size;have k:Hid _:=f.move ((Ex.refl b l).alloc (Qf #[.iface 106 (.pointer (some y))] 151)) (x.alloc _) Ol rfl;clear f))
     all_goals
      have fin:∃ (U:Rd) (D:Tr) (p:Value),Prg T g J b w.1.size w p D U (W7.setCell ⟨w.1.size,0,none⟩ (Qe g7 (bG acc+1) a4))/\T.length - U.b<=m+1/\vH (er D) (aL T B n m U).2=(aL T B n n r).2/\(aL T B n m U).1=(aL T B n n r).1:=by
       have z9:=N.o;have i:=A.o;have j:=E.o;rw[F.o]at i j;have y1:=o.o.ge;refine⟨_,_,_,Prg.push L.o q.o.1 (Oi q.o.2) (Oi q.o.2) y3.o V x I a2 s S y1 (Qm y0 y1) o.o.c,Oa,?_,j⟩;rw[xV,tX,u.o];exact i
     all_goals clear A E F L y8 N HB z0 y9 z1 y5 y4 o u y3 q k V x I a2 s S Z
     all_goals go_wp2
     all_goals go_roundg m
     all_goals first|exact fin|omega
    ·have b2:(z.d==4)=false:=by simpa using Q
     have F:Hid (aL T B n (m+1) U=aL T B n m c):=P.o.t ((if_neg G).t (if_neg Q));have d:=y8.o
     have fin:∃ (U:Rd) (D:Tr) (p:Value),Prg T g J b w.1.size w p D U W5/\T.length - U.b<=m+1/\vH (er D) (aL T B n m U).2=(aL T B n n r).2/\(aL T B n m U).1=(aL T B n n r).1:=by
      have z9:=N.o;have i:=A.o;have j:=E.o;rw[F.o]at i j;exact⟨c,acc,_,d,Oa,i,j⟩
     clear P G Q A E F L y8 d N HB z0 y9 z1 y5;go_wp2;go_roundg m
     case rel=>exact fin
     case measure=>omega
  ·have y2:aL T B n gk U=(U,.nil):=by
    cases gk with
    |zero=>rfl
    |succ gk=>show(if _ then _ else _)=_;rw[if_pos hs]
   have i:=A.o;have j:=E.o;rw[y2]at i j;rw[aAI]at i;have fin:aU9 T g J b w (aL T B n n r) (.returned (Qd w.1.size)) R:=⟨p,acc,rfl,i,by rw[<-j];exact H⟩;clear i j y2 A E H;go_wp2;go_ret;exact fin
structure aLY(T:List aU)(g J:Nat)(w:World):Prop where
 row:∃ cur,w.1[g]?=some (.cells cur 143 (0,0))/\cur.toList.take (T.length*4)=dD T
 cap_:T.length<=J
 few:T.length<=5000
 e:0 < T.length
 last:eD T
 vals:∀ t∈T,0<=t.a/\t.a<=999999999
theorem Prg.tree{T:List aU}{g J b O:Nat}{w0 w:World}{v:Value}{acc:Tr}{U:Rd}(h:Prg T g J b O w0 v acc U w):∃ t,aH t=v/\er t=gW (er acc)/\eW w0.1.size w t/\fN O t:=by
 cases hac:acc with
 |nil=>exact⟨.nil,(h.nil hac).symm,rfl,eW.nil _ _,trivial⟩
 |node b1 o1 a1 x1 q1=>
  have e:acc≠ .nil:=Qh
  rw[<-hac];have own:=h.own;obtain⟨ao,c,rfl,f⟩:=bP own;rcases f with h0|⟨d,rfl⟩
  ·grind[aA7]
  refine⟨.node d c {a:=20} acc .nil,rfl,?_,eW.listed e h.sized h.new (by rw[h.typ e];exact own),⟨h.nip,trivial,fun _=>(h.own_ne rfl).2.2⟩⟩;show er (.node d c {a:=20} acc .nil)=gW (er acc);rw[hac];rfl
def bA5(T:List aU)(w:World):Ending->World->Prop:=fun e w'=>Below w.1.size w w'/\
 (((aK T).1.a≠0/\e= .returned (.tuple #[.pointer none,.agg #[Qc (aK T).1.a,Qc (aK T).1.e]]))\/
  ((aK T).1.a=0/\∃ O t,e= .returned (.tuple #[Qd O,.agg #[Qc 0,Qc 0]])/\w.1.size<=O/\w'.1[O]?=some (.cells (wN (aH t)) 111 (0,0))/\
     er t=(aK T).2/\eW w.1.size w' t/\fN O t))
theorem aQ4(T:List aU)(g J:Nat)(w:World)(h:aLY T g J w):
 Calls prog 42 #[Qe g T.length J] w (bA5 T w):=by
 obtain⟨Q,m,A⟩:=h.row;have k0:g < w.1.size:=(Oo m);have q:(w.alloc (Qf #[Qc 0,Qc 0] 37)).1.size=w.1.size+1:=Od
 have j:eK T g J (w.1.size+1) rd0 ((w.alloc (Qf #[Qc 0,Qc 0] 37)).alloc (Qf #[Qe g T.length J,Qc 0,Qc 0,Qc 0,Qc 0] 145)):=by
  refine⟨?_,⟨Q,?_,A⟩,h.cap_,h.few,h.e,h.last,h.vals⟩
  ·rw[<-q];exact Qk _ _
  ·exact(On (by rw[q];omega)).t ((On k0).t m)
 have e1:Below w.1.size w ((w.alloc (Qf #[Qc 0,Qc 0] 37)).alloc (Qf #[Qe g T.length J,Qc 0,Qc 0,Qc 0,Qc 0] 145)):=
  ((Below.refl _ _).alloc Ol _).alloc Od _
 have K:((w.alloc (Qf #[Qc 0,Qc 0] 37)).alloc (Qf #[Qe g T.length J,Qc 0,Qc 0,Qc 0,Qc 0] 145)).1[w.1.size]?=some (Qf #[Qc 0,Qc 0] 37):=
  (On (by rw[q];omega)).t (Qk w _)
 have l:w.1.size≠w.1.size+1:=Oa
 have a3:=h.few;have x:=h.last;clear m A k0;go_enter func42,ntmps42
 go_wp2_with fail
 generalize (w.alloc (Qf #[Qc 0,Qc 0] 37)).alloc (Qf #[Qe g T.length J,Qc 0,Qc 0,Qc 0,Qc 0] 145)=d at*;refine(aIH T g J (w.1.size+1) (eC T) (kQ T (eC T) 6) rd0 d (aOS T x g J _ (eC T) 6 Ob) (gU x _ _) ((aI3 _ 6).2.2.1 rfl) j (by unfold eC;omega) (by unfold eC;omega) rfl).mono ?_;rintro e c ⟨v,acc,rfl,z,a⟩;have P:Hid (er acc=(aL T (kQ T (eC T) 6) (eC T) (eC T) rd0).2):=z;have F:(aK T).1=(aL T (kQ T (eC T) 6) (eC T) (eC T) rd0).1:=rfl;rw[<-F]at a;have n:=(a.ex.block w.1.size (Oo K) l).t K;have k:Below w.1.size w c:=e1.t ⟨a.ex.os,a.ex.tape,a.ex.output,a.ex.size,fun W hk=>a.ex.block W (Oi e1.size) Oa⟩;have E:=e1.size;have y:Hid (w.1.size+1 < d.1.size):=j.size;have f:=a.rd;have R:=f.c3;have Z:=f.c4;have L:c.cell? ⟨w.1.size,0,none⟩=some (Qc 0):=Og n rfl
 have M:c.cell? ⟨w.1.size,1,none⟩=some (Qc 0):=Og n rfl
 have z0:∀ o,c.frozen? ⟨w.1.size,o,none⟩=false:=fun o=>by simp[World.frozen?,n]
 have z1:∀ o,c.frozen? ⟨w.1.size+1,o,none⟩=false:=f.froz;have u:Hid _:=a;have Y:Hid _:=l;clear a f F z l j e1
 by_cases h0:(aK T).1.a=0
 ·have i:Hid ((aK T).1.a=0):=h0;rw[h0]at R;go_wp2;obtain⟨x0,r⟩:=iC (w:=c) (u0:= Qc 0) (u1:= Qc 0) L M;refine bodyPost_ret (v:= .tuple #[Qd d.1.size,.agg #[Qc 0,Qc 0]]) (by simp[results,results42,go_sem,x0,r]) rfl ?_;obtain⟨t,V,S,G,X⟩:=u.o.tree;have a:=u.o;have l2:=(Oo a.blk);have D:w.1.size≠d.1.size:=by have:=y.o;omega
  refine⟨(k.setCell Ol _).setCell Ol _,.r ⟨i.o,d.1.size,t,rfl,E,?_,?_,?_,X⟩⟩
  ·rw[V];exact(Om D.symm).t ((Om D.symm).t a.blk)
  ·rw[S,P.o];rfl
  ·have B:fN w.1.size t:=G.fresh.notIn (Oi y.o);exact((G.mono E).set B _ _).set B _ _
 ·have a2:((aK T).1.a !=0)=true:=by simpa using h0
  have i:Hid ((aK T).1.a≠0):=h0;clear h0;generalize I:(aK T).1.a=c3 at*;generalize H:(aK T).1.e=c4 at*;have s:Hid ((aK T).1.a=c3):=I;have N:Hid ((aK T).1.e=c4):=H;clear I H;go_wp2_with fail
  go_region
  all_goals go_wp2
  all_goals obtain⟨x0,r⟩:=iC (w:=c) (u0:= Qc c3) (u1:= Qc c4) L M
  all_goals (refine bodyPost_ret (v:= .tuple #[.pointer none,.agg #[Qc c3,Qc c4]]) (by simp[results,results42,go_sem,x0,r]) rfl ⟨?_,Or.l ⟨?_,?_⟩⟩)
  all_goals first|(rw[s.o];exact i.o)|(rw[s.o,N.o])|exact(Qv (p:=⟨w.1.size,1,none⟩) (Qv (p:=⟨w.1.size,0,none⟩) k Ol _) Ol _).drew|exact Qv (p:=⟨w.1.size,1,none⟩) (Qv (p:=⟨w.1.size,0,none⟩) k.drew Ol _) Ol _
def mD(s n:Nat):Option (Nat × Nat):=
 if s=0 then(if n<=1 then some (99,99)else if n=2 then some (0,99)else if n=3 then some (3,99)else if n<=5 then some (0,99)else if n=6 then some (0,0)else none)
 else if s=1 then(if n=7 then some (0,0)else if n=8 then some (1,1)else none)
 else if s=2 then(if n=9 then some (0,99)else if n=10 then some (0,0)else if n=11 then some (1,9)else if n=12 then some (1,4)else if n=13\/n=14 then some (0,99)else none)
 else if s=9 then(if n=18 then some (4,4)else none)
 else if s=3\/s=4\/s=5\/s=6\/s=8 then(if n=20 then some (10+s,99)else none)
 else if s=13 then(if n=15 then some (0,13)else none)
 else if s=14 then(if n=15 then some (2,14)else none)
 else if s=15 then(if n=15 then some (20,15)else none)
 else if s=16 then(if n=15 then some (22,16)else none)
 else if s=18 then(if n=15 then some (7,18)else none)
 else if s=20 then(if n=7 then some (21,21)else none)
 else if s=21 then(if n<=1 then some (99,99)else none)
 else if s=22 then(if n=19 then some (99,99)else none)
 else if s=7 then(if n=16 then some (99,99)else if n=17 then some (6,23)else none)
 else if s=23 then(if n=18 then some (5,4)else none)
 else none
def eX(s:Nat):Prop:=s=99\/s=3\/s=4\/s=5\/s=6\/s=8\/s=13\/s=14\/s=15\/s=16\/s=18
structure vJ(a:Nd):Prop where
 h:a.h.size<=4000
 g:a.a=0\/a.a=16->-999999999<=a.g/\a.g<=999999999
 val0:a.a=16->0<=a.g
 op6:a.a=6->27<=a.op/\a.op<=31
 op7:a.a=7->21<=a.op/\a.op<=26
 op8:a.a=8->a.op=32\/a.op=33
def Ws:Nat->Tr->Prop
 |s,.nil=>eX s
 |s,.node _ _ a l r=>vJ a/\(a.a=20->bG l<=10000)/\match mD s a.a with
  |none=>False
  |some (x,y)=>Ws x l/\Ws y r
theorem Ws.of20{s x y b o:Nat}{a:Nd}{l r:Tr}(h:mD s a.a=some (x,y))(d:vJ a)(c:a.a=20->bG l<=10000)(e:Ws x l)(f:Ws y r):Ws s (.node b o a l r):=by
 grind[Ws]
theorem Ws.of{s x y b o:Nat}{a:Nd}{l r:Tr}(h:mD s a.a=some (x,y))(d:vJ a)(e:Ws x l)(f:Ws y r)(c:a.a≠20:=by simp):Ws s (.node b o a l r):=
 (by grind[Ws.of20])
theorem Ws.len{s b o:Nat}{a:Nd}{l r:Tr}(c:Ws s (.node b o a l r))(h:a.a=20):bG l<=10000:=by
 grind[Ws]
theorem Ws.x0:Ws 99 .nil:= .l rfl
theorem Ws.er:∀ (t:Tr) (s:Nat),Ws s (YtikffmloeifkpaaGreatDoor.er t)↔Ws s t:=by
 intro t
 induction t with
 |nil=>intro s;rfl
 |node b o a l r ihl ihr=>
  intro s;show(vJ a/\_/\_)↔(vJ a/\_/\_)
  grind[mD,aN9]
def eV(n:Nat):Bool:=n==1||n==2||n==3||n==9||n==10||n==16||n==17||n==19
def ps:Tr->List Int
 | .nil=>[]
 | .node _ _ a l r=>if a.a=6 then ps l++a.e::ps r else if eV a.a then a.b::(ps l++ps r)else ps l++ps r
theorem aZS(t:Tr):ps (er t)=ps t:=by
 induction t with
 |nil=>rfl
 |node b o a l r ihl ihr=>grind[er,ps]
variable {T:List aU}
def Sg(T:List aU)(i j:Nat)(l:List Int):Prop:=i<=j/\∃ ix:List Nat,l=ix.map (fun k=>(aE T k).e)/\ix.Pairwise (·< ·)/\∀ x∈ix,i<=x/\x < j
theorem Sg.nil{i j:Nat}(h:i<=j):Sg T i j []:=⟨h,[],rfl,.nil,fun _ h=>by cases h⟩
theorem Sg.one(i:Nat):Sg T i (i+1) [(aE T i).e]:=⟨Oa,[i],rfl,Od,Od⟩
theorem Sg.app{i j k:Nat}{l m:List Int}(c:Sg T i j l)(d:Sg T j k m):Sg T i k (l++m):=by
 obtain⟨a1,h,rfl,e,s⟩:=c;obtain⟨o,n,rfl,f,t⟩:=d;refine⟨Oa,h++n,Od,List.pairwise_append.2 ⟨e,f,fun a p b q=>?_⟩,fun x r=>?_⟩
 ·grind
 grind
theorem Sg.mono{i j V j':Nat}{l:List Int}(h:Sg T i j l)(f:V<=i)(k:j<=j'):Sg T V j' l:=by
 obtain⟨a1,e,rfl,c,d⟩:=h;exact⟨Oa,e,rfl,c,fun x a=>Oi (d x a)⟩
structure fX(T:List aU):Prop where
 f:∀ t∈T,t.f.size<=4000
 vals:∀ t∈T,0<=t.a/\t.a<=999999999
 few:T.length<=5000
theorem fX.at(h:fX T)(i:Nat):(aE T i).f.size<=4000/\0<=(aE T i).a/\(aE T i).a<=999999999:=by
 rcases Qt i T.length with hi|hi
 ·have:=Qr (lN hi);exact⟨h.f _ this,h.vals _ this⟩
 ·have:aE T i=uE:=by grind[aE]
  rw[this];trivial
theorem vJ.mk_{a:Nd}(j:a.h=ByteArray.mk #[]\/∃ i,a.h=(aE T i).f)(f:fX T)(k:-999999999<=a.g/\a.g<=999999999)(h0:a.a=16->0<=a.g)(c:a.a=6->27<=a.op/\a.op<=31)(d:a.a=7->21<=a.op/\a.op<=26)(e:a.a=8->a.op=32\/a.op=33):vJ a:=by
 refine⟨?_,Oa,h0,c,d,e⟩;rcases j with h|⟨i,h⟩
 ·rw[h];decide
 ·rw[h];exact(f.at i).1
theorem xU{n:Nat}{r:Rd}{c p:Int}(a:c≠0):(r.fail n c p).a≠0:=by
 grind[Rd.fail]
theorem bO{r:Rd}{Y:List Int}(h:(r.take T Y).a=0):r.a=0/\aF T r Y=true/\(r.take T Y).b=r.b+1/\bX T r Y=aE T r.b:=by
 unfold Rd.take at h ⊢
 by_cases a:aF T r Y=true
 ·rw[if_pos a]at h ⊢;exact⟨h,a,rfl,by grind[bX]⟩
 grind[xU]
theorem xK{r:Rd}{Y:List Int}(h:aF T r Y=true):(bX T r Y).d∈Y:=by
 grind[bX,aF,aM]
theorem tN{r:Rd}{Y:List Int}(h:(r.b0 T Y).a=0):r.a=0:=by
 unfold Rd.b0 at h
 by_cases a:aF T r Y=true
 ·rw[if_pos a]at h;exact h
 grind
theorem tO(r:Rd)(Y:List Int):r.b<=(r.b0 T Y).b:=by
 unfold Rd.b0
 split
 ·show r.b<=r.b+1;omega
 omega
theorem aB3{n:Nat}{r:Rd}{p:Int}(h:(r.l0 n p).a=0):r.a=0/\(r.l0 n p).b=r.b:=by
 grind[Rd.l0,xU]
theorem iG{r:Rd}{Y:List Int}(h:(r.a0 T Y).a=0):r.a=0/\(r.a0 T Y).b=r.b+1:=by
 obtain⟨a,c⟩:=aB3 h;obtain⟨d,_,e,_⟩:=bO a;exact⟨d,c.t e⟩
theorem pH{r:Rd}{k:Int}(h:(r.h0 T k).a=0):r.a=0/\(r.h0 T k).b=r.b+1:=by
 obtain⟨a,_,c,_⟩:=bO (r:=r) h;trivial
def Ok(T:List aU)(s:Nat)(S:Pr):Prop:=∀ r,r.b < T.length->(S r).1.a=0->r.a=0/\Ws s (S r).2/\Sg T r.b (S r).1.b (ps (S r).2)
theorem aP1(E:fX T)(u:eD T){S:Pr}(s:bV T S)(t:Ok T 0 S){Z:List Int}(F:∀ k∈Z,27<=k/\k<=31)(h0:aM Z 0=false):∀ n r v,r.b < T.length->(jF T S Z n r v).1.a=0->
 r.a=0/\∀ i,Ws 0 v->Sg T i r.b (ps v)->Ws 0 (jF T S Z n r v).2/\Sg T i (jF T S Z n r v).1.b (ps (jF T S Z n r v).2):=by
 intro n
 induction n with
 |zero=>intro r v _ a;exact⟨a,fun i f d=>Qj⟩
 |succ n ih=>
  intro r v z a;unfold jF at a ⊢
  by_cases A:aF T r Z=true
  ·rw[if_pos A]at a ⊢;have a1:=aN u z h0;have h:=s _ a1.lt;obtain⟨j,q⟩:=ih _ _ h.lt a;obtain⟨l,m,c⟩:=t _ a1.lt j;obtain⟨o,B,p,D⟩:=bO l;refine⟨o,fun i f d=>q i (Ws.of (x:=0) (y:=0) rfl (by grind[vJ.mk_,xK]) f m) ?_⟩;show Sg T i _ (if(6:Nat)=6 then _ else _);rw[if_pos rfl];rw[p]at c;have e:=(d.app (Sg.one r.b)).app c
   grind
  grind
theorem aIO(m:fX T)(p:eD T){S:Pr}(a:bV T S)(c:Ok T 0 S){Z:List Int}(l:∀ k∈Z,27<=k/\k<=31)(h0:aM Z 0=false)(n:Nat):Ok T 0 (lX T S Z n):=by
 intro r d o;obtain⟨e,j⟩:=aP1 m p a c l h0 n _ _ (a r d).lt o;obtain⟨f,h,i⟩:=c r d e;exact⟨f,j _ h i⟩
theorem aOZ(t:fX T)(p:eD T){S:Pr}(m:bV T S)(o:Ok T 1 S){op:Int}(u:op=32\/op=33)(h0:aM [op] 0=false):∀ n r v,r.b < T.length->(jD T S op n r v).1.a=0->
 r.a=0/\∀ i,Ws 1 v->Sg T i r.b (ps v)->Ws 1 (jD T S op n r v).2/\Sg T i (jD T S op n r v).1.b (ps (jD T S op n r v).2):=by
 intro n
 induction n with
 |zero=>intro r v _ a;exact⟨a,fun i d c=>Qj⟩
 |succ n ih=>
  intro r v q a;unfold jD at a ⊢
  by_cases s:aF T r [op]=true
  ·rw[if_pos s]at a ⊢;have a1:=fF p q h0;have e:=m _ a1.lt;obtain⟨f,l⟩:=ih _ _ e.lt a;obtain⟨h,j,k⟩:=o _ a1.lt f;refine⟨tN h,fun i d c=>l i (Ws.of (x:=1) (y:=1) rfl (by grind[vJ.mk_]) d j) ?_⟩;exact c.app (k.mono (tO _ _) Oa)
  grind
theorem aIN(l:fX T)(o:eD T){S:Pr}(a:bV T S)(c:Ok T 1 S){op:Int}(k:op=32\/op=33)(h0:aM [op] 0=false)(n:Nat):Ok T 1 (lS T S op n):=by
 intro r d m;obtain⟨e,j⟩:=aOZ l o a c k h0 n _ _ (a r d).lt m;obtain⟨f,h,i⟩:=c r d e;exact⟨f,j _ h i⟩
theorem aD4(z:fX T)(n:eD T){S:Pr}(s s2:Nat)(h0:s=0/\s2=1\/s=21/\s2=20)(l:bV T S)(c:Ok T s S):Ok T s2 (jL T S):=by
 intro r d m;have a1:=l r d;have e:=aN n a1.lt (show aM gX 0=false by decide);obtain⟨f,h,a⟩:=c _ e.lt m;obtain⟨i,t,j,u⟩:=bO f;obtain⟨o,p,q⟩:=c r d i;have A:∀ k∈gX,21<=k/\k<=26:=Ob
 refine⟨o,Ws.of (x:=s) (y:=s) (by rcases h0 with⟨rfl,rfl⟩|⟨rfl,rfl⟩<;>rfl) (by grind[vJ.mk_,xK]) p h,?_⟩;rw[j]at a;exact q.app (a.mono Oa Ol)
theorem aSJ(l:eD T){S:Pr}{s s2:Nat}(i:mD s2 15=some (s,s2))(h0:eX s2)(j:bV T S)(k:Ok T s S):∀ n r,r.b < T.length->(aZ T S n r).1.a=0->r.a=0/\Ws s2 (aZ T S n r).2/\Sg T r.b (aZ T S n r).1.b (ps (aZ T S n r).2):=by
 intro n
 induction n with
 |zero=>intro r _ a;exact⟨a,h0,Sg.nil Ol⟩
 |succ n ih=>
  intro r m a;unfold aZ at a ⊢
  by_cases c:aF T r [18]=true
  ·rw[if_pos c]at a ⊢;have a1:=fF l m (show aM [18] 0=false by decide);have d:=j _ a1.lt;obtain⟨e,f,h⟩:=ih _ d.lt a;obtain⟨o,p,q⟩:=k _ a1.lt e;exact⟨tN o,Ws.of i ⟨Ob,Od,Od,Od,Od,Od⟩ p f,(q.app h).mono (tO _ _) Ol⟩
  ·rw[if_neg c]at a ⊢;exact⟨a,h0,Sg.nil Ol⟩
theorem aAZ{s:Nat}(c:s=3\/s=4\/s=5\/s=6\/s=8){l:Tr}(h:Ws (10+s) l)(d:bG l<=10000):Ws s (gW l)/\ps (gW l)=ps l:=by
 cases l with
 |nil=>grind[gW,Ws,eX]
 |node b o a x y=>
  refine⟨Ws.of20 (x:=10+s) (y:=99) ?_ ⟨Ob,Od,Od,Od,Od,Od⟩ Oa h Ws.x0,?_⟩
  ·rcases c with rfl|rfl|rfl|rfl|rfl<;>rfl
  ·show ps (.node b o a x y)++[]=_;simp
theorem aPD(e:eD T){S:Pr}(d:bV T S):∀ n r,r.b < T.length->bG (aZ T S n r).2+r.b<=(aZ T S n r).1.b:=by
 intro n
 induction n with
 |zero=>intro r _;show 0+r.b<=r.b;omega
 |succ n ih=>
  intro r f;unfold aZ
  by_cases a:aF T r [18]=true
  ·rw[if_pos a];have a1:=fF e f (show aM [18] 0=false by decide);have c:=d _ a1.lt;have h:=ih _ c.lt;have i:=pL a;have j:=c.ge;show bG (aZ T S n (S (r.b0 T [18])).1).2+1+r.b<=_
   grind
  ·rw[if_neg a];show 0+r.b<=r.b;omega
theorem aGO(k:fX T)(d:eD T){S:Pr}{s s2:Nat}(h0:mD (10+s2) 15=some (s,10+s2))(A:s2=3\/s2=5\/s2=6)(a:bV T S)(f:Ok T s S)(n:Nat):Ok T s2 (dV T S n):=by
 intro r c l;obtain⟨h,i,j⟩:=aSJ d h0 (by unfold eX;omega) a f n _ (a r c).lt l;obtain⟨o,p,q⟩:=f r c h;have m:Ws (10+s2) (cons (S r).2 (aZ T S n (S r).1).2):=Ws.of h0 ⟨Ob,Od,Od,Od,Od,Od⟩ p i;have y:=aPD d a n _ (a r c).lt;have z:=(uU d a n _ (a r c).lt).lt;have x:=k.few;obtain⟨t,u⟩:=aAZ Oa m (by show bG (aZ T S n (S r).1).2+1<=10000;omega);refine⟨o,t,?_⟩;have e:(dV T S n r).2=gW (cons (S r).2 (aZ T S n (S r).1).2):=rfl;rw[e,u];exact q.app j
theorem wR(e:eD T){S:Pr}(c:Ok T 0 S):∀ r,r.b < T.length->(gL T S r).1.a=0->r.a=0/\Ws 0 (gL T S r).2/\Sg T r.b (gL T S r).1.b (ps (gL T S r).2):=by
 intro r f d;obtain⟨l,m,p⟩:=cZ e f (show aM [16] 0=false by decide);obtain⟨a,n⟩:=pH d;obtain⟨h,i,j⟩:=c _ m a;obtain⟨k,o⟩:=iG h;exact⟨k,i,j.mono l (by show _<=(Rd.h0 T _ 17).b;omega)⟩
theorem aN4(k:fX T)(f:eD T){S:Pr}(i:bV T S)(j:Ok T 0 S)(n:Nat):∀ r,r.b < T.length->(jS T S n r).1.a=0->r.a=0/\Ws 3 (jS T S n r).2/\Sg T r.b (jS T S n r).1.b (ps (jS T S n r).2):=by
 intro r l a;obtain⟨t,u,x⟩:=cZ f l (show aM [12] 0=false by decide);unfold jS at a ⊢
 by_cases h:aF T (r.a0 T [12]) [13]=true
 ·rw[if_pos h]at a ⊢;obtain⟨c,e⟩:=pH a;obtain⟨d,q⟩:=iG c;exact⟨d,by unfold Ws eX;omega,Sg.nil (by show _<=(Rd.h0 T _ 13).b;rw[e];omega)⟩
 ·rw[if_neg h]at a ⊢;obtain⟨c,e⟩:=pH a;obtain⟨m,o,p⟩:=aGO k f (s:=0) (s2:=3) rfl Oa i j n _ u c;obtain⟨d,q⟩:=iG m;exact⟨d,o,p.mono t Qh⟩
theorem aSI(o:fX T)(k:eD T){S:Pr}(m:bV T S)(j:Ok T 0 S)(n i:Nat):∀ r,r.b < T.length->r.b=i+1->(gV T S n (aE T i) r).1.a=0->r.a=0/\Ws 0 (gV T S n (aE T i) r).2/\Sg T i (gV T S n (aE T i) r).1.b (ps (gV T S n (aE T i) r).2):=by
 intro r l hi a;unfold gV at a ⊢
 by_cases f:aF T r [16]=true
 ·rw[if_pos f]at a ⊢;obtain⟨d,e,c⟩:=wR k j r l a;refine⟨d,Ws.of (x:=0) (y:=99) rfl (by grind[vJ.mk_]) e Ws.x0,?_⟩;rw[hi]at c;have:=(Sg.one i).app c
  grind[ps,mk,eV]
 ·rw[if_neg f]at a ⊢
  by_cases h:aF T r [12]=true
  ·rw[if_pos h]at a ⊢;obtain⟨d,e,c⟩:=aN4 o k m j n r l a;refine⟨d,Ws.of (x:=3) (y:=99) rfl (by grind[vJ.mk_]) e Ws.x0,?_⟩;rw[hi]at c;have:=(Sg.one i).app c
   grind[ps,mk,eV]
  ·rw[if_neg h]at a ⊢;refine⟨a,Ws.of (x:=99) (y:=99) rfl (by grind[vJ.mk_]) Ws.x0 Ws.x0,?_⟩
   grind[ps,mk,eV,nJ,Sg.one]
theorem aP0(u:fX T)(z:eD T){S F:Pr}(G:bV T S)(t:Ok T 0 S)(s:Ok T 0 F)(n:Nat):Ok T 0 (iI T S F n):=by
 intro r A a;have a1:=aN z A (show aM bQ 0=false by decide);obtain⟨d1,l,D⟩:=pV a1.lt (bX T r bQ).e;unfold iI at a ⊢;dsimp only at a ⊢
 by_cases o:(bX T r bQ).d=2
 ·rw[if_pos o]at a ⊢;obtain⟨c,d,e,f⟩:=bO a;have I:=u.at r.b;refine⟨c,Ws.of (x:=99) (y:=99) rfl (by grind[vJ.mk_]) Ws.x0 Ws.x0,Sg.nil (by simp only;omega)⟩
 rw[if_neg o]at a ⊢
 by_cases m:(bX T r bQ).d=12
 ·rw[if_pos m]at a ⊢;obtain⟨q,E⟩:=pH a;obtain⟨h,i,j⟩:=t _ l q;obtain⟨k,B⟩:=aB3 h;obtain⟨c,d,e,f⟩:=bO k;refine⟨c,Ws.of (x:=0) (y:=99) rfl (by grind[vJ.mk_]) i Ws.x0,?_⟩;have:=j.mono (V:=r.b) (j':=(Rd.h0 T (S (Rd.l0 T.length (r.take T bQ) (bX T r bQ).e)).1 13).b) Oa Oa
  grind[ps,mk,eV]
 rw[if_neg m]at a ⊢
 by_cases p:(bX T r bQ).d=28
 ·rw[if_pos p]at a ⊢;obtain⟨h,i,j⟩:=s _ l a;obtain⟨k,B⟩:=aB3 h;obtain⟨c,d,e,f⟩:=bO k;refine⟨c,Ws.of (x:=0) (y:=99) rfl (by grind[vJ.mk_]) i Ws.x0,?_⟩;have:=j.mono (V:=r.b) Oa Ol
  grind[ps,mk,eV]
 rw[if_neg p]at a ⊢;have H:(r.take T bQ).a=0\/(r.take T bQ).a≠0:=Oa
 have key:(r.take T bQ).a=0:=by
  grind[gV,wR,aN4]
 obtain⟨c,d,e,f⟩:=bO key
 grind[aSI]
theorem aGP(h:fX T)(k:eD T):Ok T 21 (jZ T):=by
 intro r l a;have a1:=aN k l (show aM [28,2,1] 0=false by decide);unfold jZ at a ⊢;dsimp only at a ⊢
 by_cases j:(bX T r [28,2,1]).d=28
 ·rw[if_pos j]at a ⊢;obtain⟨n,o,p,q⟩:=bO a;obtain⟨c,d,e,f⟩:=bO n;have m:=h.at (r.take T [28,2,1]).b;exact⟨c,Ws.of (x:=99) (y:=99) rfl (by grind[vJ.mk_]) Ws.x0 Ws.x0,Sg.nil (by simp only;omega)⟩
 rw[if_neg j]at a ⊢
 by_cases i:(bX T r [28,2,1]).d=2
 ·rw[if_pos i]at a ⊢;obtain⟨c,d,e,f⟩:=bO a;have m:=h.at r.b;exact⟨c,Ws.of (x:=99) (y:=99) rfl (by grind[vJ.mk_]) Ws.x0 Ws.x0,Sg.nil (by simp only;omega)⟩
 rw[if_neg i]at a ⊢;obtain⟨c,d,e,f⟩:=bO a;refine⟨c,Ws.of (x:=99) (y:=99) rfl (by grind[vJ.mk_]) Ws.x0 Ws.x0,?_⟩
 grind[ps,mk,eV,nJ,Sg.one]
theorem aY6(c:fX T)(a:eD T):Ok T 20 (iS T):=aD4 c a 21 20 (.r ⟨rfl,rfl⟩) (tU a) (aGP c a)
theorem kV{S:Pr}{s:Nat}(c:Ok T s S):Ok T s (gQ T S):=by
 intro r e d;obtain⟨a,j,k,l⟩:=bO d;obtain⟨f,h,i⟩:=c r e a;exact⟨f,h,i.mono Oa (by show _<=(Rd.take T _ _).b;omega)⟩
theorem aSG(o:fX T)(e:eD T){S:Pr}(c:Ok T 0 S)(q:Bool)(i:Nat):∀ r,r.b < T.length->r.b=i+1->(tG T S (aE T i) q r).1.a=0->r.a=0/\Ws 2 (tG T S (aE T i) q r).2/\Sg T i (tG T S (aE T i) q r).1.b (ps (tG T S (aE T i) q r).2):=by
 intro r f hi d;have a1:=aN e f (show aM [20] 0=false by decide);obtain⟨h,j,k⟩:=kV c _ a1.lt d;obtain⟨a,l,m,n⟩:=bO h;refine⟨a,Ws.of (x:=0) (y:=99) rfl (by grind[vJ.mk_]) j Ws.x0,?_⟩;have:=(Sg.one i).app (k.mono (V:=i+1) Oa Ol)
 grind[ps,mk,eV,tG]
theorem aSF(u:fX T)(c:eD T){S:Pr}(m:bV T S)(d:Ok T 0 S)(i:Nat):∀ r,r.b < T.length->r.b=i+1->(lF T S (aE T i) r).1.a=0->r.a=0/\Ws 2 (lF T S (aE T i) r).2/\Sg T i (lF T S (aE T i) r).1.b (ps (lF T S (aE T i) r).2):=by
 intro r e hi a;have a1:=nH c m r e;have j:=aN c a1.lt (show aM [20] 0=false by decide);unfold lF at a ⊢;dsimp only at a ⊢;obtain⟨p,q,h⟩:=kV d _ j.lt a;obtain⟨k,s,l,t⟩:=bO p;obtain⟨n,o,f⟩:=wR c d r e k;refine⟨n,Ws.of (x:=0) (y:=0) rfl (by grind[vJ.mk_]) o q,?_⟩;rw[l]at h;rw[hi]at f;have:=((Sg.one i).app f).app (h.mono (V:=(gL T S r).1.b) Oa Ol)
 assumption
theorem aB0{S:Pr}(j:bV T S)(k:Ok T 2 S):∀ n r,r.b < T.length->(cM T S n r).1.a=0->r.a=0/\Ws 14 (cM T S n r).2/\Sg T r.b (cM T S n r).1.b (ps (cM T S n r).2):=by
 intro n
 induction n with
 |zero=>intro r _ a;exact⟨a,by unfold cM Ws eX;omega,Sg.nil Ol⟩
 |succ n ih=>
  intro r c a;unfold cM at a ⊢
  by_cases d:aF T r [15,0]=true
  ·rw[if_pos d]at a ⊢;exact⟨a,by unfold Ws eX;omega,Sg.nil Ol⟩
  ·rw[if_neg d]at a ⊢;have e:=j _ c;obtain⟨f,h,i⟩:=ih _ e.lt a;obtain⟨l,m,o⟩:=k _ c f;exact⟨l,Ws.of (x:=2) (y:=14) rfl ⟨Ob,Od,Od,Od,Od,Od⟩ m h,o.app i⟩
def aNM(T:List aU)(S:Pr):Prop:=∀ r,r.b < T.length->(S r).1.a=0->r.b < (S r).1.b
theorem aL4{S:Pr}(c:bV T S)(f:Ok T 2 S)(i:aNM T S):∀ n r,r.b < T.length->(cM T S n r).1.a=0->bG (cM T S n r).2+r.b<=(cM T S n r).1.b:=by
 intro n
 induction n with
 |zero=>intro r _ _;show 0+r.b<=r.b;omega
 |succ n ih=>
  intro r d a;have l:=aB0 c f (n+1) r d a;unfold cM at a ⊢
  by_cases h:aF T r [15,0]=true
  ·rw[if_pos h]at a ⊢;show 0+r.b<=r.b;omega
  ·rw[if_neg h]at a ⊢;have e:=c _ d;have j:=ih _ e.lt a;have k:=i _ d (aB0 c f n _ e.lt a).1;show bG (cM T S n (S r).1).2+1+r.b<=_
   grind
theorem aGX{S:Pr}(a:bV T S)(n:Nat)(r:Rd)(h:r.b < T.length):sJ T r (cM T S n r).1:=aBH a n r h
theorem aSK(h:fX T)(j:eD T){S:Pr}(a:bV T S)(e:Ok T 2 S)(f:aNM T S)(n:Nat):Ok T 4 (rU T S n):=by
 intro r k i;obtain⟨u,c,D⟩:=cZ j k (show aM [14] 0=false by decide);obtain⟨d,x⟩:=pH i;obtain⟨l,m,o⟩:=aB0 a e n _ c d;obtain⟨p,B⟩:=iG l;have z:=aL4 a e f n _ c d;have A:=(aGX a n _ c).lt;have y:=h.few;obtain⟨q,t⟩:=aAZ (s:=4) Oa m Oa;refine⟨p,q,?_⟩;show Sg T _ _ (ps (gW _));rw[t];exact o.mono u (by show _<=(Rd.h0 T _ 15).b;omega)
theorem aWV(z:fX T)(u:eD T){C B:Pr}(h0:bV T C)(l:Ok T 1 C)(t:bV T B)(c:Ok T 4 B):Ok T 2 (ifP T C B):=by
 intro r d a;have a1:=h0 r d;have n:=t _ a1.lt;have o:=fF u n.lt (show aM [8] 0=false by decide);unfold ifP at a ⊢;dsimp only at a ⊢
 by_cases m:aF T (B (C r).1).1 [8]=true
 ·rw[if_pos m]at a ⊢;obtain⟨p,q,s⟩:=c _ o.lt a;obtain⟨e,f,h⟩:=c _ a1.lt (tN p);obtain⟨i,j,k⟩:=l r d e;refine⟨i,Ws.of (x:=1) (y:=9) rfl (by grind[vJ.mk_]) j (Ws.of (x:=4) (y:=4) rfl (by grind[vJ.mk_]) f q),?_⟩;have:=(k.app h).app (s.mono (tO _ _) Ol)
  grind[ps,mk,eV]
 ·rw[if_neg m]at a ⊢;obtain⟨e,f,h⟩:=c _ a1.lt a;obtain⟨i,j,k⟩:=l r d e;refine⟨i,Ws.of (x:=1) (y:=9) rfl (by grind[vJ.mk_]) j (Ws.of (x:=4) (y:=4) rfl (by grind[vJ.mk_]) f (by unfold Ws eX;omega)),?_⟩;have:=k.app h
  grind[ps,mk,eV]
theorem aVE(o:fX T)(d:eD T){S C B:Pr}(s:bV T S)(i:Ok T 0 S)(h0:bV T C)(q:Ok T 1 C)(F:bV T B)(p:Ok T 4 B):Ok T 2 (iQ T S C B):=by
 intro r G a;have a1:=aN d G (show aM aP 0=false by decide);unfold iQ at a ⊢;dsimp only at a ⊢
 by_cases A:(bX T r aP).d=6
 ·rw[if_pos A]at a ⊢;have n:=aN d a1.lt (show aM [1] 0=false by decide)
  have key:((r.take T aP).take T [1]).a=0:=by
   obtain⟨m,_,_⟩:=kV i _ (aN d n.lt rfl).lt a;exact(bO m).1
  obtain⟨H,P,I,K⟩:=bO key;obtain⟨c,l,j,k⟩:=bO H;rw[K]at a ⊢;obtain⟨h,e,f⟩:=aSG o d i true _ _ n.lt I a;exact⟨c,e,f.mono Oa Oa⟩
 rw[if_neg A]at a ⊢
 by_cases D:(bX T r aP).d=7
 ·rw[if_pos D]at a ⊢;obtain⟨h,e,f⟩:=aWV o d h0 q F p _ a1.lt a;obtain⟨c,l,j,k⟩:=bO h;exact⟨c,e,f.mono Oa Oa⟩
 rw[if_neg D]at a ⊢
 by_cases E:(bX T r aP).d=9
 ·rw[if_pos E]at a ⊢;have n:=h0 _ a1.lt;obtain⟨h,e,f⟩:=p _ n.lt a;obtain⟨L,M,N⟩:=q _ a1.lt h;obtain⟨c,l,j,k⟩:=bO L;refine⟨c,Ws.of (x:=1) (y:=4) rfl (by grind[vJ.mk_]) M e,?_⟩;have:=(N.app f).mono (V:=r.b) Oa Ol
  assumption
 rw[if_neg E]at a ⊢
 by_cases t:(bX T r aP).d=10
 ·rw[if_pos t]at a ⊢;obtain⟨h,e,f⟩:=kV i _ a1.lt a;obtain⟨c,l,j,k⟩:=bO h;refine⟨c,Ws.of (x:=0) (y:=99) rfl (by grind[vJ.mk_]) e Ws.x0,?_⟩;have:=f.mono (V:=r.b) Oa Ol
  grind[ps,mk,eV]
 rw[if_neg t]at a ⊢
 by_cases u:(bX T r aP).d=11
 ·rw[if_pos u]at a ⊢;obtain⟨h,e,f⟩:=kV i _ a1.lt a;obtain⟨c,l,j,k⟩:=bO h;refine⟨c,Ws.of (x:=0) (y:=99) rfl (by grind[vJ.mk_]) e Ws.x0,?_⟩;have:=f.mono (V:=r.b) Oa Ol
  grind[ps,mk,eV]
 rw[if_neg u]at a ⊢
 by_cases z:aF T (r.take T aP) [16]=true
 ·rw[if_pos z]at a ⊢
  have key:(r.take T aP).a=0:=by
   have b1:=nH d s _ a1.lt;obtain⟨m,_,_⟩:=kV i _ (aN d b1.lt rfl).lt a;exact(wR d i _ a1.lt (bO m).1).1
  obtain⟨c,l,j,k⟩:=bO key;rw[k]at a ⊢;obtain⟨h,e,f⟩:=aSF o d s i _ _ a1.lt j a;trivial
 ·rw[if_neg z]at a ⊢
  have key:(r.take T aP).a=0:=by
   obtain⟨m,_,_⟩:=kV i _ (aN d a1.lt rfl).lt a;exact(bO m).1
  obtain⟨c,l,j,k⟩:=bO key;rw[k]at a ⊢;obtain⟨h,e,f⟩:=aSG o d i false _ _ a1.lt j a;trivial
theorem aO1(s:fX T)(c:eD T){S C B:Pr}(q:bV T S)(d:Ok T 0 S)(h0:bV T C)(h:Ok T 1 C)(p:bV T B)(f:Ok T 4 B){r:Rd}(t:r.b < T.length)(a:(iQ T S C B r).1.a=0):(r.take T aP).a=0:=by
 have a1:=aN c t (show aM aP 0=false by decide);unfold iQ at a;dsimp only at a
 by_cases l:(bX T r aP).d=6
 ·rw[if_pos l]at a;have o:=aN c a1.lt (show aM [1] 0=false by decide);obtain⟨e,_,_⟩:=kV d _ (aN c o.lt rfl).lt a;exact(bO (bO e).1).1
 rw[if_neg l]at a
 by_cases m:(bX T r aP).d=7
 ·rw[if_pos m]at a;exact(aWV s c h0 h p f _ a1.lt a).1
 rw[if_neg m]at a
 by_cases n:(bX T r aP).d=9
 ·rw[if_pos n]at a;exact(h _ a1.lt (f _ (h0 _ a1.lt).lt a).1).1
 rw[if_neg n]at a
 by_cases i:(bX T r aP).d=10
 ·rw[if_pos i]at a;exact(kV d _ a1.lt a).1
 rw[if_neg i]at a
 by_cases j:(bX T r aP).d=11
 ·rw[if_pos j]at a;exact(kV d _ a1.lt a).1
 rw[if_neg j]at a
 by_cases k:aF T (r.take T aP) [16]=true
 ·rw[if_pos k]at a;have b1:=nH c q _ a1.lt;obtain⟨e,_,_⟩:=kV d _ (aN c b1.lt rfl).lt a;exact(wR c d _ a1.lt (bO e).1).1
 ·rw[if_neg k]at a;obtain⟨e,_,_⟩:=kV d _ (aN c a1.lt rfl).lt a;exact(bO e).1
theorem aK6(l:fX T)(a:eD T){S C B:Pr}(c:bV T S)(k:Ok T 0 S)(h0:bV T C)(j:Ok T 1 C)(d:bV T B)(i:Ok T 4 B):aNM T (iQ T S C B):=by
 intro r f m;have a1:=aN a f (show aM aP 0=false by decide);have n:=(bO (aO1 l a c k h0 j d i f m)).2.2.1
 have h:sJ T (r.take T aP) (iQ T S C B r).1:=by
  unfold iQ;dsimp only
  split
  ·have e:=aN a a1.lt (show aM [1] 0=false by decide);exact e.t (tT a c _ _ _ e.lt)
  split
  ·exact aGW a h0 d _ a1.lt
  split
  ·exact(h0 _ a1.lt).t (d _ (h0 _ a1.lt).lt)
  split
  ·exact lU a c _ a1.lt
  split
  ·exact lU a c _ a1.lt
  split
  ·exact zH a c _ _ a1.lt
  ·exact tT a c _ _ _ a1.lt
 have:=h.ge;omega
def aN1(s:Nat):Nat:=if s < 3 then 0 else if s < 6 then 1 else if s=6 then 4 else 2
theorem aOY(e:fX T)(d:eD T):∀ n,(∀ s,Ok T (aN1 s) (kQ T n s))/\aNM T (kQ T n 7):=by
 intro n
 induction n with
 |zero=>exact⟨fun s r _ f=>absurd f (xU Ob),fun r _ f=>absurd f (xU Ob)⟩
 |succ n a=>
  obtain⟨a,h⟩:=a;have c:=gU d n;refine⟨fun s=>?_,aK6 e d (c 2) (a 2) (c 5) (a 5) (c 6) (a 6)⟩
  match s with
  |0=>exact aP0 e d (c 2) (a 2) (a 0) n
  |1=>exact aIO e d (c 0) (a 0) Ob Ob n
  |2=>exact aIO e d (c 1) (a 1) Ob Ob n
  |3=>exact aD4 e d 0 1 Oa (c 2) (a 2)
  |4=>exact aIN e d (c 3) (a 3) Oa Ob n
  |5=>exact aIN e d (c 4) (a 4) Oa Ob n
  |6=>exact aSK e d (c 7) (a 7) h n
  |s+7=>exact aVE e d (c 2) (a 2) (c 5) (a 5) (c 6) (a 6)
theorem aD3(a:fX T)(c:eD T)(n s:Nat):Ok T (aN1 s) (kQ T n s):=(aOY a c n).1 s
theorem aSH(h:fX T)(_:eD T):Ok T 22 (eL T):=by
 intro r i c;obtain⟨a,d,e,f⟩:=bO c;refine⟨a,Ws.of (x:=99) (y:=99) rfl (by grind[vJ.mk_]) Ws.x0 Ws.x0,?_⟩
 grind[ps,mk,eV,eL,Sg.one]
theorem aIP(d:fX T)(e:eD T):Ok T 7 (fM T):=by
 intro r f a;have a1:=aN e f (show aM [1] 0=false by decide);unfold fM at a ⊢;dsimp only at a ⊢;obtain⟨h,n,o,p⟩:=bO a;obtain⟨i,q,s,t⟩:=bO h;obtain⟨c,j,k,l⟩:=bO i;have m:=d.at (r.take T [1]).b;refine⟨c,Ws.of (x:=99) (y:=99) rfl (by grind[vJ.mk_]) Ws.x0 Ws.x0,?_⟩;have:=(Sg.one (T:=T) r.b).mono Ol (j':=(((r.take T [1]).take T [2]).take T [19]).b) Oa
 grind[ps,mk,eV]
theorem aFI(d:fX T)(c:eD T)(n:Nat):Ok T 6 (bL T n):=by
 intro r f a;unfold bL at a ⊢
 by_cases e:aF T r [1]=true
 ·rw[if_pos e]at a ⊢;exact aGO d c (s:=22) (s2:=6) rfl Oa (zI c) (aSH d c) n r f a
 ·rw[if_neg e]at a ⊢;exact⟨a,by unfold Ws eX;omega,Sg.nil Ol⟩
theorem aOX(e:fX T)(d:eD T)(n:Nat):Ok T 5 (dN T n):=by
 intro r h c;unfold dN at c ⊢
 by_cases f:aF T r [5]=true
 ·rw[if_pos f]at c ⊢;have a:=fF d h (show aM [5] 0=false by decide);obtain⟨i,j,k⟩:=aGO e d (s:=20) (s2:=5) rfl Oa (oC d) (aY6 e d) n _ a.lt c;exact⟨tN i,j,k.mono (tO _ _) Oa⟩
 ·rw[if_neg f]at c ⊢;exact⟨c,by unfold Ws eX;omega,Sg.nil Ol⟩
theorem aBD(e:fX T)(a:eD T){B:Pr}(_:bV T B)(k:Ok T 4 B)(n:Nat):Ok T 7 (cH T B n):=by
 intro r l c;have a1:=aN a l (show aM [1] 0=false by decide);obtain⟨o,f,p⟩:=cZ a a1.lt (show aM [12] 0=false by decide);rw[qP]at c ⊢;dsimp only at c ⊢;have q:=sS a n _ f;have d:=oE a o p q (show aM [13] 0=false by decide);have A:=sR a n _ d.lt;obtain⟨b1,h,i⟩:=k _ A.lt c;obtain⟨D,w4,E⟩:=aOX e a n _ d.lt b1;obtain⟨z,K⟩:=pH D;obtain⟨s,t,u⟩:=aFI e a n _ f z;obtain⟨m,I⟩:=iG s;obtain⟨j,F,G,H⟩:=bO m;refine⟨j,Ws.of (x:=6) (y:=23) rfl (by grind[vJ.mk_]) t (Ws.of (x:=5) (y:=4) rfl (by grind[vJ.mk_]) w4 h),?_⟩;have:=(((Sg.one (T:=T) r.b).app (u.mono (V:=r.b+1) Oa Oa)).app (E.mono (V:=(bL T n ((r.take T [1]).a0 T [12])).1.b) Oa Oa)).app i
 grind[ps,mk,eV]
theorem sO(s:fX T)(d:eD T){B:Pr}(h0:bV T B)(A:Ok T 4 B)(m:Nat):∀ n r,r.b < T.length->(aL T B m n r).1.a=0->r.a=0/\Ws 18 (aL T B m n r).2/\Sg T r.b (aL T B m n r).1.b (ps (aL T B m n r).2):=by
 intro n
 induction n with
 |zero=>intro r _ a;exact⟨a,by unfold aL Ws eX;omega,Sg.nil Ol⟩
 |succ n ih=>
  intro r D a;unfold aL at a ⊢;dsimp only at a ⊢
  by_cases t:aF T r [0]=true
  ·rw[if_pos t]at a ⊢;exact⟨a,by unfold Ws eX;omega,Sg.nil Ol⟩
  rw[if_neg t]at a ⊢;have a1:=aN d D (show aM [3,4] 0=false by decide)
  by_cases u:(bX T r [3,4]).d=3
  ·rw[if_pos u]at a ⊢;have i:=pA d _ a1.lt;obtain⟨e,f,h⟩:=ih _ i.lt a;obtain⟨j,k,l⟩:=aIP s d _ a1.lt e;obtain⟨c,o,p,q⟩:=bO j;exact⟨c,Ws.of (x:=7) (y:=18) rfl ⟨Ob,Od,Od,Od,Od,Od⟩ k f,(l.app h).mono Oa Ol⟩
  rw[if_neg u]at a ⊢
  by_cases z:(bX T r [3,4]).d=4
  ·rw[if_pos z]at a ⊢;have i:=lE d h0 m _ a1.lt;obtain⟨e,f,h⟩:=ih _ i.lt a;obtain⟨j,k,l⟩:=aBD s d h0 A m _ a1.lt e;obtain⟨c,o,p,q⟩:=bO j;exact⟨c,Ws.of (x:=7) (y:=18) rfl ⟨Ob,Od,Od,Od,Od,Od⟩ k f,(l.app h).mono Oa Ol⟩
  ·rw[if_neg z]at a ⊢;obtain⟨e,f,h⟩:=ih _ a1.lt a;obtain⟨c,o,p,q⟩:=bO e;exact⟨c,f,h.mono Oa Oa⟩
theorem yD(_:fX T)(d:eD T){B:Pr}(h0:bV T B)(m:Nat):∀ n r,r.b < T.length->sJ T r (aL T B m n r).1:=by
 intro n
 induction n with
 |zero=>intro r c;exact sJ.refl c
 |succ n ih=>
  intro r c;unfold aL;dsimp only;have a1:=aN d c (show aM [3,4] 0=false by decide)
  split
  ·exact sJ.refl c
  split
  ·have a:=a1.t (pA d _ a1.lt);exact a.t (ih _ a.lt)
  split
  ·have a:=a1.t (lE d h0 m _ a1.lt);exact a.t (ih _ a.lt)
  ·exact a1.t (ih _ a1.lt)
theorem aGR(e:fX T)(d:eD T){B:Pr}(h0:bV T B)(f:Ok T 4 B)(m:Nat):∀ n r,r.b < T.length->(aL T B m n r).1.a=0->bG (aL T B m n r).2+r.b<=(aL T B m n r).1.b:=by
 intro n
 induction n with
 |zero=>intro r _ _;show 0+r.b<=r.b;omega
 |succ n ih=>
  intro r p a;unfold aL at a ⊢;dsimp only at a ⊢
  by_cases j:aF T r [0]=true
  ·rw[if_pos j]at a ⊢;show 0+r.b<=r.b;omega
  rw[if_neg j]at a ⊢;have a1:=aN d p (show aM [3,4] 0=false by decide)
  by_cases k:(bX T r [3,4]).d=3
  ·rw[if_pos k]at a ⊢;have c:=pA d _ a1.lt;have h:=ih _ c.lt a;have o:=(bO (aIP e d _ a1.lt (sO e d h0 f m n _ c.lt a).1).1).2.2.1;have i:=c.ge;show bG (aL T B m n (fM T (r.take T [3,4])).1).2+1+r.b<=_
   grind
  rw[if_neg k]at a ⊢
  by_cases l:(bX T r [3,4]).d=4
  ·rw[if_pos l]at a ⊢;have c:=lE d h0 m _ a1.lt;have h:=ih _ c.lt a;have o:=(bO (aBD e d h0 f m _ a1.lt (sO e d h0 f m n _ c.lt a).1).1).2.2.1;have i:=c.ge;show bG (aL T B m n (cH T B m (r.take T [3,4])).1).2+1+r.b<=_
   grind
  ·rw[if_neg l]at a ⊢;have h:=ih _ a1.lt a;have i:=a1.ge;omega
theorem rI(a:fX T)(c:eD T)(e:0 < T.length)(f:(aK T).1.a=0):Ws 8 (aK T).2/\Sg T 0 T.length (ps (aK T).2):=by
 have d:=gU c (eC T) 6;obtain⟨_,h,i⟩:=sO a c d (aD3 a c (eC T) 6) (eC T) (eC T) rd0 e f;have m:=aGR a c d (aD3 a c (eC T) 6) (eC T) (eC T) rd0 e f;have n:=(yD a c d (eC T) (eC T) rd0 e).lt;have l:=a.few;obtain⟨j,k⟩:=aAZ (s:=8) Oa h Oa;refine⟨j,?_⟩;show Sg T _ _ (ps (gW _));rw[k];exact i.mono Oa Oa
end
end Go.Proofs.YtikffmloeifkpaaGreatDoor
