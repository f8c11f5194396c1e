/- Contracts. -/
import Derived.Test.YtikffmloeifkpaaGreatDoorR06
import Derived.Deep.LoopGhost
set_option maxHeartbeats 4000000
set_option maxRecDepth 100000
namespace Go.Proofs.YtikffmloeifkpaaGreatDoor
open Go.RowKit Go.Lib Go.Deep Tryz
def mB(T:List aU)(g J b:Nat)(w:World)(q:Rd × Tr)(val:Tr->Value):Ending->World->Prop:=
 fun e w'=>∃ t,e= .returned (val t)/\er t=q.2/\eW w.1.size w' t/\eK T g J b q.1 w'/\Ex b w w'
def eJ(T:List aU)(g J b f:Nat)(S:Pr)(D:Rd->Prop):Prop:=
 ∀ r w,eK T g J b r w->D r->Calls prog f #[Qd b] w (mB T g J b w (S r) aH)
def Dm(T:List aU)(n q:Nat)(r:Rd):Prop:=(T.length - r.b)*16+q < n/\0<=r.c/\r.c+n<=1000000
theorem Dm.adv{T:List aU}{n q:Nat}{r b:Rd}(h:Dm T n q r)(a:sJ T r b):Dm T n q b:=by
 obtain⟨e,c,d⟩:=h;have:=a.ge;exact⟨Oa,by rw[a.c];exact c,by rw[a.c];exact d⟩
def fv(f b:Nat):Value:= .func (Fn.func f) #[Qd b] #[]
theorem wG{T:List aU}{r:Rd}{Y:List Int}(a:aF T r Y=true):(r.take T Y).b=r.b+1:=by
 unfold Rd.take;rw[if_pos a];rfl
theorem pL{T:List aU}{r:Rd}{Y:List Int}(a:aF T r Y=true):(r.b0 T Y).b=r.b+1:=by
 unfold Rd.b0;rw[if_pos a];rfl
theorem eK.ends{T:List aU}{g J b:Nat}{r:Rd}{w:World}(h:eK T g J b r w):eD T:=h.last
theorem aG0(T:List aU)(g J b f n z k:Nat)(S:Pr)(Z:List Int)(O:Nat)(r:Rd)(w:World)(hf:∀ args wx,(callFunc f args).run prog wx= .ok (.enter f args) wx)(hS:eJ T g J b f S (Dm T n z))(hG:bV T S)(hO:So 0 7 S)(h:eK T g J b r w)(hd:Dm T n z r)(hk:nS w k Z)(y:k≠b)(hl:Z.length<=100)(h0:aM Z 0=false):
 Calls prog 352 #[Qd b,fv f b,Qe k Z.length O] w (mB T g J b w (lX T S Z n r) aH):=by
 have L:Hid (eJ T g J b f S (Dm T n z)):=hS;have A:Hid (bV T S):=hG;have I:Hid (So 0 7 S):=hO;clear hS hG hO;unfold fv;go_enter func352,ntmps352
 go_wp2_with fail
 refine(L.o r w h hd).mono ?_;rintro e w1 ⟨t,rfl,ht,it,h1,e1⟩;have M:Hid (er t=(S r).2):=ht;clear ht;have y5:nS w1 k Z:=hk.ex e1 y;have a1:=A.o r h.lt;have y1:=hd.adv a1;go_wp2_with fail
 go_loopg [7] n (fun m a9 wr=>∃ (U:Rd) (c:Tr),a9=aH c/\eW w.1.size wr c/\eK T g J b U wr/\Ex b w wr/\nS wr k Z/\Dm T n z U/\T.length - U.b<=m/\(∃ a a2 a3,er c=mk a a2 a3/\0<=a.a/\a.a < 7)/\jF T S Z m U (er c)=lX T S Z n r)
 case atStart=>
  refine⟨_,t,rfl,it,h1,e1,y5,y1,?_,?_,?_⟩
  ·have:=y1.1;omega
  ·rw[M.o];exact I.o r
  ·rw[M.o];rfl
 case round=>
  obtain⟨U,c,rfl,a8,F,ec,Y,k3,hm,y3,h3⟩:=hrel;have K:Hid (jF T S Z gk U (er c)=lX T S Z n r):=h3;obtain⟨sa,sx,sy,k0,_,b3⟩:=y3;obtain⟨v,s,W⟩:=eY k0 Oa;have N:Hid (aH c= .iface v (.pointer (some s))):=W;have HE:Hid (er c=mk sa sx sy):=k0;rw[W];clear h3 W k0;go_wp2_with fail
  refine(jO T g J b U k O Z wr F Y hl).mono ?_;rintro e w2 ⟨rfl,p,rfl⟩;have j:=F.drewN p;have Q:=ec.drewN p;have X:=a8.ex F ((Ex.refl b wr).drewN p);have k2:nS (wr.drewN p) k Z:=Y.ex ((Ex.refl b wr).drewN p) y;generalize wr.drewN p=W2 at*;clear F a8 ec Y;cases hs:aF T U Z
  ·have h7:Hid (lX T S Z n r=(U,er c)):=by
    unfold Hid;rw[<-K.o];cases gk with
    |zero=>rfl
    |succ gk=>show(if _ then _ else _)=_;rw[if_neg (by rw[hs];decide)]
   go_wp2;go_ret;exact⟨c,by rw[N.o];rfl,by rw[h7.o],X,by rw[h7.o];exact j,Q⟩
  ·go_wp2_with fail
   refine(iY T g J b U k O Z W2 j k2 hl h0).mono ?_;rintro e d ⟨rfl,E,B⟩;have a6:=X.ex j B;have k8:=k2.ex B y;have C:=Q.t B;have x:=aN j.ends j.lt h0;have y0:=k3.adv x;have k7:=wG hs;have HN:Hid ((U.take T Z).b=U.b+1):=k7;have b2:=j.lt;generalize hq:bX T U Z=q at*;have HQ:Hid (bX T U Z=q):=hq;clear k7 hq;rw[aU.val_eq];have R:=(E.alloc (Qf #[Qc q.d,Qc q.e,.string q.f,Qc q.a] 143)).drew;have l:=((Ex.refl b d).alloc (Qf #[Qc q.d,Qc q.e,.string q.f,Qc q.a] 143)).drew;have G:(d.alloc (Qf #[Qc q.d,Qc q.e,.string q.f,Qc q.a] 143)).drew.1[d.1.size]?=some (Qf #[Qc q.d,Qc q.e,.string q.f,Qc q.a] 143):=Qk d _;have y4:d.1.size≠b:=by have:=E.size;omega
   go_wp2_with fail
   have m0:=(bK G).1;have m1:=(bK G).2.1
   go_region_held3 (fun w'=>w'.cell? ⟨d.1.size,0,none⟩=some (Qc q.d)/\w'.cell? ⟨d.1.size,1,none⟩=some (Qc q.e))
    (first
      |(refine⟨?_,?_⟩<;>assumption)
      |go_keep)
    ((refine mE rfl f #[Qd b] _ (by go_simp) (L.o _ _ R y0) ?_;rintro e i ⟨H,rfl,k6,a7,D,o⟩;refine⟨_,rfl,?_⟩;have k4:Hid (er H=(S (U.take T Z)).2):=k6;clear k6;have n5:=(o.block d.1.size (Oo G) y4).t G;have p0:=(bK n5).1;have p1:=(bK n5).2.1;obtain⟨ya,yx,yy,k5,_,b4⟩:=I.o (U.take T Z);obtain⟨u5,u,V⟩:=eY (k4.o.t k5) Oa;have y2:Hid (aH H= .iface u5 (.pointer (some u))):=V;rw[V];clear V k5))
   obtain⟨m,rfl⟩:=Oj gk;have a5:=x.t (A.o _ x.lt);have k9:=k3.adv a5;have a4:=(a6.ex E l).ex R o;have P:=(Ex.refl b i).alloc (Qf #[Qc q.d,Qc q.e,.iface v (.pointer (some s)),.iface u5 (.pointer (some u)),Qc 0] 405)
   have fin:∃ (U:Rd) (c:Tr),Value.iface 403 (Qd i.1.size)=aH c/\eW w.1.size (i.alloc (Qf #[Qc q.d,Qc q.e,.iface v (.pointer (some s)),.iface u5 (.pointer (some u)),Qc 0] 405)) c/\
    eK T g J b U (i.alloc (Qf #[Qc q.d,Qc q.e,.iface v (.pointer (some s)),.iface u5 (.pointer (some u)),Qc 0] 405))/\
    Ex b w (i.alloc (Qf #[Qc q.d,Qc q.e,.iface v (.pointer (some s)),.iface u5 (.pointer (some u)),Qc 0] 405))/\
    nS (i.alloc (Qf #[Qc q.d,Qc q.e,.iface v (.pointer (some s)),.iface u5 (.pointer (some u)),Qc 0] 405)) k Z/\Dm T n z U/\T.length - U.b<=m/\
    (∃ a a2 a3,er c=mk a a2 a3/\0<=a.a/\a.a < 7)/\jF T S Z m U (er c)=lX T S Z n r:=by
    refine⟨_,.node i.1.size 0 {a:=6,op:=q.d,e:=q.e} c H,rfl,eW.node (a4.ex D P) ((a7.ex D P).mono (C.t l).size) (fun _=>((C.t l).t o).size) Od ?_,D.alloc _,((C.t l).t o).alloc _,((k8.ex l y).ex o y).alloc _,k9,?_,⟨_,_,_,rfl,Od,Od⟩,?_⟩
    ·exact⟨_,Qk i _,rfl,rfl,by rw[N.o];rfl,by rw[y2.o];rfl,rfl⟩
    ·have:=(A.o _ x.lt).ge;have:=HN.o;omega
    ·rw[<-K.o];show _=(if _ then _ else _);rw[if_pos hs,HQ.o];show jF T S Z m _ (.node 0 0 _ (er c) (er H))=_;rw[k4.o];rfl
   clear K L A I M N HE HN HQ k4 y2 X a6 a7 a4 j E R D B l o P x a5 y0 k9 k3 Q C k2 k8;go_wp2;go_roundg m
   case rel=>exact fin
   case measure=>omega
theorem aFL(T:List aU)(g J b f n q:Nat)(S:Pr)(op:Int)(r:Rd)(w:World)(hf:∀ args wx,(callFunc f args).run prog wx= .ok (.enter f args) wx)(hS:eJ T g J b f S (Dm T n q))(Y:bV T S)(Z:So 7 9 S)(h:eK T g J b r w)(hd:Dm T n q r)(h0:aM [op] 0=false):
 Calls prog 333 #[Qd b,Qc op,fv f b] w (mB T g J b w (lS T S op n r) aH):=by
 have B:Hid (eJ T g J b f S (Dm T n q)):=hS;have s:Hid (bV T S):=Y;have z:Hid (So 7 9 S):=Z;clear hS Y Z;unfold fv;go_enter func333,ntmps333
 go_wp2_with fail
 refine(B.o r w h hd).mono ?_;rintro e w1 ⟨t,rfl,ht,it,h1,e1⟩;have C:Hid (er t=(S r).2):=ht;clear ht;have a1:=s.o r h.lt;have k8:=hd.adv a1;go_wp2_with fail
 go_loopg [7] n (fun m a6 wr=>∃ (U:Rd) (c:Tr),a6=aH c/\eW w.1.size wr c/\eK T g J b U wr/\Ex b w wr/\Dm T n q U/\T.length - U.b<=m/\(∃ a O P,er c=mk a O P/\7<=a.a/\a.a < 9)/\jD T S op m U (er c)=lS T S op n r)
 case atStart=>
  refine⟨_,t,rfl,it,h1,e1,k8,?_,?_,?_⟩
  ·have:=k8.1;omega
  ·rw[C.o];exact z.o r
  ·rw[C.o];rfl
 case round=>
  obtain⟨U,c,rfl,a5,l,V,K,hm,y0,W⟩:=hrel;have A:Hid (jD T S op gk U (er c)=lS T S op n r):=W;obtain⟨sa,sx,sy,I,_,a7⟩:=y0;obtain⟨u,p,L⟩:=eY I Oa;have D:Hid (aH c= .iface u (.pointer (some p))):=L;have HE:Hid (er c=mk sa sx sy):=I;rw[L];clear W L I;have k0:=l.alloc (Qf #[Qc op] 141);have E:=(Ex.refl b wr).alloc (Qf #[Qc op] 141);have a3:=a5.ex l E;have k5:=cA wr [op] #[Qc op] rfl;go_wp2_with fail
  refine(oT T g J b U wr.1.size 1 [op] _ k0 k5 Od h0).mono ?_;rintro e W3 ⟨rfl,k,F⟩;have M:=a3.ex k0 F;have j:=(V.t E).t F;have h8:=l.lt;have i:=fF l.ends h8 h0;have k7:=K.adv i;cases hs:aF T U [op]
  ·have k4:U.b0 T [op]=U:=by unfold Rd.b0;rw[hs];rfl
   rw[k4]at k
   have X:Hid (lS T S op n r=(U,er c)):=by
    unfold Hid;rw[<-A.o];cases gk with
    |zero=>rfl
    |succ gk=>show(if _ then _ else _)=_;rw[if_neg (by rw[hs];decide)]
   clear k4;go_wp2;go_ret;exact⟨c,by rw[D.o];rfl,by rw[X.o],M,by rw[X.o];exact k,j⟩
  ·have Q:Hid ((U.b0 T [op]).b=U.b+1):=pL hs;go_wp2_with fail
   refine(B.o _ _ k k7).mono ?_;rintro e d ⟨y,rfl,k3,a4,x,v⟩;have N:Hid (er y=(S (U.b0 T [op])).2):=k3;obtain⟨ya,yx,yy,k2,_,a8⟩:=z.o (U.b0 T [op]);obtain⟨u5,o,H⟩:=eY (N.o.t k2) Oa;have k9:Hid (aH y= .iface u5 (.pointer (some o))):=H;rw[H];clear H k2 k3;obtain⟨m,rfl⟩:=Oj gk;have R:=i.t (s.o _ i.lt);have k6:=K.adv R;have a2:=M.ex k v;have G:=(Ex.refl b d).alloc (Qf #[Qc op,.iface u (.pointer (some p)),.iface u5 (.pointer (some o))] 409)
   have fin:∃ (U:Rd) (c:Tr),Value.iface 407 (Qd d.1.size)=aH c/\eW w.1.size (d.alloc (Qf #[Qc op,.iface u (.pointer (some p)),.iface u5 (.pointer (some o))] 409)) c/\
    eK T g J b U (d.alloc (Qf #[Qc op,.iface u (.pointer (some p)),.iface u5 (.pointer (some o))] 409))/\
    Ex b w (d.alloc (Qf #[Qc op,.iface u (.pointer (some p)),.iface u5 (.pointer (some o))] 409))/\Dm T n q U/\T.length - U.b<=m/\
    (∃ a O P,er c=mk a O P/\7<=a.a/\a.a < 9)/\jD T S op m U (er c)=lS T S op n r:=by
    refine⟨_,.node d.1.size 0 {a:=8,op:=op} c y,rfl,eW.node (a2.ex x G) ((a4.ex x G).mono j.size) (fun _=>(j.t v).size) Od ?_,x.alloc _,(j.t v).alloc _,k6,?_,⟨_,_,_,rfl,Od,Od⟩,?_⟩
    ·exact⟨_,Qk d _,rfl,by rw[D.o];rfl,by rw[k9.o];rfl⟩
    ·have:=(s.o _ i.lt).ge;have:=Q.o;omega
    ·rw[<-A.o];show _=(if _ then _ else _);rw[if_pos hs];show jD T S op m _ (.node 0 0 _ (er c) (er y))=_;rw[N.o];rfl
   clear A B s z C D HE Q N k9 a3 M a4 a2 k0 k x E F v G i R k7 k6 K j k5 l a5 V;go_wp2;go_roundg m
   case rel=>exact fin
   case measure=>omega
theorem yF(T:List aU)(g J b f n z:Nat)(S:Pr)(r:Rd)(w:World)(hf:∀ args Y,(callFunc f args).run prog Y= .ok (.enter f args) Y)(P:eJ T g J b f S (Dm T n z))(M:bV T S)(N:So 0 7 S)(h:eK T g J b r w)(Q:Dm T n z r):
 Calls prog 244 #[Qd b,fv f b] w (mB T g J b w (jL T S r) fO):=by
 have C:Hid (eJ T g J b f S (Dm T n z)):=P;have Z:Hid (bV T S):=M;have B:Hid (So 0 7 S):=N;clear P M N;unfold fv;have c0:=h.c0;have c1:=h.c1;have t1:=h.tok1;have a7:(r.b:Int) < (T.length:Int):=by have:=h.lt;omega
 have a6:(T.length:Int)<=5000:=by have:=h.few;omega
 generalize O:(aE T r.b).e=y at*;have HP:Hid ((aE T r.b).e=y):=O;clear O;go_enter func244,ntmps244
 go_wp2;go_quiet (fail)
 go_wp2_with fail
 have hw:=h.drewN nq;have l:=(Ex.refl b w).drewN nq;clear c0 c1 t1;generalize w.drewN nq=W0 at*;refine(C.o r W0 hw Q).mono ?_;rintro e m ⟨t,rfl,U,it,p,e1⟩;have D:Hid (er t=(S r).2):=U;clear U;have a1:=Z.o r h.lt;obtain⟨sa,sx,sy,K,_,a8⟩:=B.o r;obtain⟨X,V,v⟩:=eY (D.o.t K) Oa;have HV:Hid (aH t= .iface X (.pointer (some V))):=v;rw[v];clear v K;have F:=p.alloc (Qf #[Qc 23,Qc 24,Qc 25,Qc 26,Qc 21,Qc 22] 141);have d:=(Ex.refl b m).alloc (Qf #[Qc 23,Qc 24,Qc 25,Qc 26,Qc 21,Qc 22] 141);have k1:=cA m gX #[Qc 23,Qc 24,Qc 25,Qc 26,Qc 21,Qc 22] rfl;go_wp2_with fail
 refine(iY T g J b (S r).1 m.1.size 6 gX _ F k1 Ob Ob).mono ?_;rintro e c ⟨rfl,s,i⟩;have a4:=(it.ex p d).ex F i;have a3:=a1.t (aN p.ends a1.lt (show aM gX 0=false by decide));have k2:=Q.adv a3;generalize R:bX T (S r).1 gX=q at*;have HQ:Hid (bX T (S r).1 gX=q):=R;clear R;rw[aU.val_eq];have G:=(s.alloc (Qf #[Qc q.d,Qc q.e,.string q.f,Qc q.a] 143)).drew;have j:=((Ex.refl b c).alloc (Qf #[Qc q.d,Qc q.e,.string q.f,Qc q.a] 143)).drew;have x:(c.alloc (Qf #[Qc q.d,Qc q.e,.string q.f,Qc q.a] 143)).drew.1[c.1.size]?=some (Qf #[Qc q.d,Qc q.e,.string q.f,Qc q.a] 143):=Qk c _;have k0:c.1.size≠b:=by have:=s.size;omega
 go_wp2_with fail
 have m0:=(bK x).1
 go_region_held3 (fun w'=>w'.cell? ⟨c.1.size,0,none⟩=some (Qc q.d))
  (first
    |assumption
    |go_keep)
  ((refine mE rfl f #[Qd b] _ (by go_simp) (C.o _ _ G k2) ?_;rintro e o ⟨A,rfl,I,a5,u,k⟩;refine⟨_,rfl,?_⟩;have L:Hid (er A=(S ((S r).1.take T gX)).2):=I;clear I;have n5:=(k.block c.1.size (Oo x) k0).t x;have p0:=(bK n5).1;obtain⟨ya,yx,yy,H,_,a9⟩:=B.o ((S r).1.take T gX);obtain⟨u5,W,h0⟩:=eY (L.o.t H) Oa;have k3:Hid (aH A= .iface u5 (.pointer (some W))):=h0;rw[h0];clear h0 H))
 go_wp2;go_ret;have a2:=(a4.ex s j).ex G k;have E:=(Ex.refl b o).alloc (Qf #[Qc q.d,Qc y,.iface X (.pointer (some V)),.iface u5 (.pointer (some W))] 271);refine⟨.node o.1.size 0 {a:=7,op:=q.d,e:=y} t A,rfl,?_,eW.node ((a2.ex u E).mono l.size) ((a5.ex u E).mono ((((l.t e1).t d).t i).t j).size) (fun _=>(((((l.t e1).t d).t i).t j).t k).size) Od ?_,u.alloc _,(((((l.t e1).t d).t i).t j).t k).alloc _⟩
 ·unfold jL;rw[HQ.o,HP.o,<-D.o,<-L.o];rfl
 ·exact⟨_,Qk o _,rfl,rfl,by rw[HV.o];rfl,by rw[k3.o];rfl⟩
def dM:Tr->List Value
 | .nil=>[]
 | .node b o a l r=>if a.a=19 then[.string a.h,.int .i64 a.b,.int .i64 a.c]else if a.a=7 then[fO (.node b o a l r)]else[aH (.node b o a l r)]
def dS:Tr->List Value
 | .nil=>[]
 | .node _ _ _ e r=>dM e++dS r
def vH:Tr->Tr->Tr
 | .nil,y=>y
 | .node b o a e r,y=> .node b o a e (vH r y)
def oI(l e:Tr):Tr:=vH l (cons e .nil)
def mS(sz:Nat):Tr->Prop
 | .nil=>True
 | .node _ _ a e r=>a.a=15/\(∃ b o a l q,e= .node b o a l q/\(a.a=19↔sz=3))/\(dM e).length=sz/\mS sz r
theorem aAI(l:Tr):vH l .nil=l:=by
 induction l with
 |nil=>rfl
 |node b o a e r _ ih=>simp only[vH,ih]
theorem tX(l e r:Tr):vH (oI l e) r=vH l (cons e r):=by
 induction l with
 |nil=>rfl
 |node b o a x q _ ih=>grind[oI,vH]
theorem aSU(l m:Tr):bG (vH l m)=bG l+bG m:=by
 induction l with
 |nil=>simp[vH,bG]
 |node b o a x q _ ih=>grind[vH,bG]
theorem lD(l e:Tr):bG (oI l e)=bG l+1:=by unfold oI;rw[aSU];rfl
theorem aGI(l m:Tr):dS (vH l m)=dS l++dS m:=by
 induction l with
 |nil=>rfl
 |node b o a x q _ ih=>grind[vH,dS]
theorem mN(l e:Tr):dS (oI l e)=dS l++dM e:=by grind[oI,cons,mk,dS,aGI]
theorem aYO(l m:Tr):er (vH l m)=vH (er l) (er m):=by
 induction l with
 |nil=>rfl
 |node b o a x q _ ih=>simp only[vH,er,ih]
theorem xV(l e:Tr):er (oI l e)=oI (er l) (er e):=by unfold oI;rw[aYO];rfl
theorem aVX(w:World)(l m:Tr):(∀ c,mS c l->bU w l->bU w m->bU w (vH l m)):=by
 induction l with
 |nil=>intro c _ _ h;exact h
 |node b o a x q _ ih=>
  intro c d h e;refine⟨h.1,ih c d.2.2.2 h.2.1 e,?_⟩;unfold iR;rw[d.1];trivial
theorem aT2{w:World}{l e:Tr}{a:Nat}(c:mS a l)(b:bU w l)(d:bU w e):bU w (oI l e):=aVX w l _ a c b Qj
theorem aO9{d:Nat}{l m:Tr}(c:mS d l)(e:mS d m):mS d (vH l m):=by
 induction l with
 |nil=>exact e
 |node b o a x q _ ih=>exact⟨c.1,c.2.1,c.2.2.1,ih c.2.2.2⟩
theorem qW{c:Nat}{l e:Tr}(d:mS c l)(g:∃ b o a l q,e= .node b o a l q/\(a.a=19↔c=3))(f:(dM e).length=c):mS c (oI l e):=aO9 d Qj
theorem zZ(l e:Tr):oI l e≠ .nil:=by cases l<;>intro h<;>cases h
theorem aRS{p:Nat}{cs:Array Value}:∀ (l:Tr) (o:Nat) (m:List Value),mS p l->m.length=o*p->(∀ (j:Nat) (v:Value),(m++dS l)[j]?=some v->cs[j]?=some v)->mI cs o l:=by
 intro l
 induction l with
 |nil=>intro o m _ _ _;trivial
 |node b q a e r _ ih=>
  intro o m z A x;obtain⟨_,⟨d,g,c,f,h,rfl,u⟩,w,y⟩:=z
  have h0:∀ (j:Nat) (v:Value),(dM (.node d g c f h))[j]?=some v->cs[o*p+j]?=some v:=by
   grind[dM,dS]
  refine⟨?_,ih (o+1) (m++dM (.node d g c f h)) y Qg ?_⟩
  ·show(if c.a=19 then uB cs (o*3) c else if c.a=7 then cs[o]?=some (fO (.node d g c f h))else cs[o]?=some (aH (.node d g c f h)))
   by_cases i:c.a=19
   ·have cP:=u.1 i;subst cP;rw[if_pos i];have k:dM (.node d g c f h)=[.string c.h,Qc c.b,Qc c.c]:=if_pos i;rw[k]at h0;exact⟨h0 0 _ rfl,Qh,Qh⟩
   ·rw[if_neg i]
    have t:p=1:=by
     rw[<-w];show(if c.a=19 then[Value.string c.h,Qc c.b,Qc c.c]else if c.a=7 then[fO (.node d g c f h)]else[aH (.node d g c f h)]).length=1
     grind
    subst t
    by_cases n:c.a=7
    ·rw[if_pos n];have k:dM (.node d g c f h)=[fO (.node d g c f h)]:=(if_neg i).t (if_pos n);rw[k]at h0;simpa using h0 0 _ rfl
    ·rw[if_neg n];have k:dM (.node d g c f h)=[aH (.node d g c f h)]:=(if_neg i).t (if_neg n);rw[k]at h0;simpa using h0 0 _ rfl
  ·intro j v s;refine x j v ?_;rw[List.append_assoc]at s;exact s
theorem jP{b:Nat}{w w':World}{a:Nat}{e:TypeId}{size n:Nat}{v:Value}{d:List Value}(h:w.ownsRow a e size v n d){c:Array Value}(o:w.1[b]?=some (.cells c 145 (0,0)))(p:e≠145)(i:Ex b w w'):w'.ownsRow a e size v n d:=by
 refine⟨h.1,?_⟩;rcases h.2 with m|⟨g,J,f,l,j,k,r⟩
 ·simp[*]
 ·refine .r ⟨g,J,f,l,j,(i.block g Qg ?_).t k,r⟩
  grind
theorem aL8{w:World}{e d g b n:Nat}{l:Tr}(j:l≠ .nil)(k:mS d l)(hi:bU w l)(h:w.ownsRow e (cI l) d (Qe g n b) n (dS l)):bU w (.node g b {a:=20} l .nil):=by
 refine⟨hi,trivial,j,?_⟩;rcases h.2 with⟨m,_⟩|⟨o,J,f,c,_,i,_,_,cP,p⟩
 ·cases m
 ·simp only[Value.slice.injEq,Option.some.injEq,Addr.mk.injEq]at c;obtain⟨⟨rfl,_,_⟩,_,rfl⟩:=c;refine⟨f,i,aRS l 0 [] k Od ?_⟩
  grind
theorem aPM{H:Nat}{l m:Tr}(c:dE H l)(d:dE H m):dE H (vH l m):=by
 induction l with
 |nil=>exact d
 |node b o a x q _ ih=>exact⟨c.1,ih c.2.1,c.2.2⟩
theorem aPF{l m:Tr}(c:aBN l)(d:aBN m):aBN (vH l m):=by
 induction l with
 |nil=>exact d
 |node b o a x q _ ih=>exact⟨c.1,ih c.2.1,c.2.2⟩
theorem aP2{k:Nat}{l m:Tr}(c:fN k l)(d:fN k m):fN k (vH l m):=by
 induction l with
 |nil=>exact d
 |node b o a x q _ ih=>exact⟨c.1,ih c.2.1,c.2.2⟩
theorem iZ{k:Nat}{l e:Tr}(b:fN k l)(a:fN k e):fN k (oI l e):=aP2 b ⟨a,trivial,fun p=>absurd rfl p.1⟩
theorem eW.cons{H:Nat}{w:World}{e l:Tr}(a:eW H w e)(b:eW H w l):eW H w (cons e l):=eW.node a b (fun p=>absurd rfl p.1) Od trivial
theorem eW.snoc{H d:Nat}{w:World}{l e:Tr}(c:mS d l)(b:eW H w l)(a:eW H w e):eW H w (oI l e):=
 ⟨aT2 c b.is a.is,aPM b.fresh (a.cons (eW.nil H w)).fresh,aPF b.known (a.cons (eW.nil H w)).known⟩
theorem eW.listed{H c g b n:Nat}{w:World}{l:Tr}(e:l≠ .nil)(f:mS c l)(hi:eW H w l)(h:w.ownsRow H (cI l) c (Qe g n b) n (dS l)):eW H w (.node g b {a:=20} l .nil):=by
 have d:=aL8 e f hi.is h;exact⟨d,⟨hi.fresh,trivial,fun _=>(h.lt g rfl).1⟩,⟨hi.known,trivial,Od⟩⟩
theorem pM{l e:Tr}(h:l≠ .nil):cI (oI l e)=cI l:=by
 cases l with
 |nil=>trivial
 |node b o a x r=>rw[oI,vH];cases x<;>rfl
def zR(T:List aU)(g J b f:Nat)(S:Pr)(D:Rd->Prop)(val:Tr->Value):Prop:=
 ∀ r w,eK T g J b r w->D r->Calls prog f #[Qd b] w (mB T g J b w (S r) val)
theorem wO{w:World}{a:Nat}{e:TypeId}{c:Nat}{cs:Array Value}(d:a<=w.1.size)(b:cs.size=c):(w.alloc (.cells cs e)).ownsRow a e c (Qe w.1.size 1 1) 1 cs.toList:=
 ⟨by simp[b],.r ⟨w.1.size,1,cs,rfl,d,Qk w _,Oa,Qj,Oa,by rw[Nat.one_mul,List.take_of_length_le (by simp[b])]⟩⟩
theorem aMC{t:Tr}{a:Nd}{x y:Tr}(h:er t=mk a x y):∃ p,fO t= .pointer (some p):=by
 cases t with
 |nil=>cases h
 |node b o a' l r=>exact⟨_,rfl⟩
theorem sP{t:Tr}{a:Nd}{x y:Tr}(h:er t=mk a x y):∃ b o l r,t= .node b o a l r/\er l=x/\er r=y:=by
 cases t with
 |nil=>cases h
 |node b o a' l r=>
  grind[er,mk]
theorem aAW{w:World}{b n d:Nat}{e:TypeId}{v:Value}{f:List Value}(h:w.ownsRow b e d v n f)(c:0 < n):∃ g a,v= Qe g n a:=by
 obtain⟨g,a,i,_⟩:=h.form c;simp[*]
theorem aA7{l:Tr}(h:l≠ .nil):0 < bG l:=by
 cases l with
 |nil=>trivial
 |node b o a x r=>simp[bG]
theorem infoEE:(prog.info? 269).map (fun i=>(i.zero,i.size,i.bytes))=some (some .nilIface,1,16):=by kernel_rfl
theorem aWO{t:Tr}{a:Nd}{x y:Tr}(h:er t=mk a x y)(c:0<=a.a)(d:a.a < 7):dM t=[aH t]/\cI (cons t .nil)=269/\∃ b o a l q,t= .node b o a l q/\(a.a=19↔1=3):=by
 obtain⟨b,o,l,r,rfl,_,_⟩:=sP h;refine⟨?_,?_,b,o,a,l,r,rfl,Oa⟩
 ·show(if a.a=19 then[Value.string a.h,Qc a.b,Qc a.c]else if a.a=7 then[fO (.node b o a l r)]else[aH (.node b o a l r)])=_
  grind
 ·show(if a.a=19 then _ else if a.a=7 then _ else if a.a < 7 then _ else if a.a < 15 then _ else _)=_
  grind
theorem aPB(T:List aU)(g J b f n G:Nat)(S:Pr)(r:Rd)(w:World)(hf:∀ args wx,(callFunc f args).run prog wx= .ok (.enter f args) wx)(hS:zR T g J b f S (Dm T n G) aH)(hG:bV T S)(hO:So 0 7 S)(h:eK T g J b r w)(hd:Dm T n G r):
 Calls prog 366 #[Qd b,fv f b] w (mB T g J b w (dV T S n r) aH):=by
 have V:Hid (zR T g J b f S (Dm T n G) aH):=hS;have B:Hid (bV T S):=hG;have R:Hid (So 0 7 S):=hO;clear hS hG hO;obtain⟨i0,j7,z8,z7,z6⟩:=info_parts infoEE;unfold fv;go_enter func366,ntmps366
 go_wp2_with fail
 refine(V.o r w h hd).mono ?_;rintro e w1 ⟨t,rfl,ht,it,h1,e1⟩;have I:Hid (er t=(S r).2):=ht;clear ht;have a1:=B.o r h.lt;have z3:=hd.adv a1;have d5:=h.few;obtain⟨sa,sx,sy,y8,j3,j2⟩:=R.o r;obtain⟨z0,k0,j5⟩:=aWO (I.o.t y8) j3 j2;obtain⟨b2,F,y⟩:=eY (I.o.t y8) Oa;have HV:Hid (aH t= .iface b2 (.pointer (some F))):=y;have Q:Hid (dM t=[aH t]):=z0;have z5:Hid (cI (cons t .nil)=269):=k0;rw[y];clear y z0 k0;have kG:(w1.alloc (Qf #[.iface b2 (.pointer (some F))] 269)).ownsRow w.1.size 269 1 (Qe w1.1.size 1 1) 1 [.iface b2 (.pointer (some F))]:=wO e1.size rfl;go_wp2_with fail
 go_loopg [5] n (fun m c9 wr=>∃ (U:Rd) (c:Tr),wr.ownsRow w.1.size 269 1 c9 (bG c) (dS c)/\c≠ .nil/\cI c=269/\mS 1 c/\eW w.1.size wr c/\(∀ k,c9.ownBlock=some k->fN k c)/\eK T g J b U wr/\Ex b w wr/\Dm T n G U/\T.length - U.b<=m/\bG c<=U.b+1/\
  vH (er c) (aZ T S m U).2=cons (S r).2 (aZ T S n (S r).1).2/\(aZ T S m U).1=(aZ T S n (S r).1).1)
 case atStart=>
  refine⟨_,cons t .nil,?_,?_,z5.o,⟨rfl,j5,by rw[Q.o];rfl,trivial⟩,(it.ex h1 ((Ex.refl b w1).alloc _)).cons (eW.nil _ _),?_,h1.alloc _,e1.alloc _,z3,?_,?_,?_,rfl⟩
  ·show World.ownsRow _ _ _ _ _ 1 (dM t++[]);rw[Q.o,HV.o];exact kG
  ·intro e;cases e
  ·intro k l;simp only[Value.ownBlock,Option.some.injEq]at l;subst l;exact⟨it.o Ol,trivial,fun F=>absurd rfl F.1⟩
  ·have:=z3.1;omega
  ·show 0+1<=_;omega
  ·show cons (er t) _=_;rw[I.o];rfl
 case round=>
  obtain⟨U,c,own,k9,k0,cP,b8,y9,D,ec,y3,hm,d8,h9,h0⟩:=hrel;have H:Hid (vH (er c) (aZ T S gk U).2=cons (S r).2 (aZ T S n (S r).1).2):=h9;have O:Hid ((aZ T S gk U).1=(aZ T S n (S r).1).1):=h0;have h8:Hid (cI c=269):=k0;clear h9 h0 k0 kG;obtain⟨i,K,j1⟩:=aAW own (aA7 k9);subst j1;have y4:=D.alloc (Qf #[Qc 18] 141);have e2:=(Ex.refl b wr).alloc (Qf #[Qc 18] 141);have b5:=b8.ex D e2;have c7:=own.alloc (Qf #[Qc 18] 141);have j6:=cA wr [18] #[Qc 18] rfl;go_wp2_with fail
  refine(oT T g J b U wr.1.size 1 [18] _ y4 j6 Ob Ob).mono ?_;rintro e W ⟨rfl,E,X⟩;have a3:=b5.ex y4 X;have P:=jP c7 y4.blk Ob X;have a2:=(ec.t e2).t X;have y1:=D.lt;have v:=fF D.ends y1 (show aM [18] 0=false by decide);have z2:=y3.adv v;cases hs:aF T U [18]
  ·have y7:U.b0 T [18]=U:=by unfold Rd.b0;rw[hs];rfl
   rw[y7]at E
   have k1:aZ T S gk U=(U,.nil):=by
    cases gk with
    |zero=>rfl
    |succ gk=>show(if _ then _ else _)=_;rw[if_neg (by rw[hs];decide)]
   have j:=H.o;have u:=O.o;rw[k1]at j u;rw[aAI]at j
   have fin:mB T g J b w (dV T S n r) aH (.returned (Qe i (bG c) K)) W:=by
    refine⟨.node i K {a:=20} c .nil,rfl,?_,eW.listed k9 cP a3 (by rw[h8.o];exact P),?_,a2⟩
    ·show BT.node 0 0 _ (er c) .nil=gW (cons (S r).2 (aZ T S n (S r).1).2);rw[j];rfl
    ·show eK T g J b (aZ T S n (S r).1).1 W;rw[<-u];exact E
   clear j u k1 y7 H O;go_wp2;go_ret;exact fin
  ·have HN:Hid ((U.b0 T [18]).b=U.b+1):=pL hs;go_wp2_with fail
   refine(V.o _ _ E z2).mono ?_;rintro e d ⟨s,rfl,y6,c5,h5,Y⟩;have N:Hid (er s=(S (U.b0 T [18])).2):=y6;obtain⟨ya,yx,yy,k7,j0,z9⟩:=R.o (U.b0 T [18]);obtain⟨k2,_,y0⟩:=aWO (N.o.t k7) j0 z9;obtain⟨u5,q,k8⟩:=eY (N.o.t k7) Oa;have z4:Hid (aH s= .iface u5 (.pointer (some q))):=k8;have y5:Hid (dM s=[aH s]):=k2;rw[k8];clear k8 k7 y6 k2;obtain⟨m,rfl⟩:=Oj gk;have a5:=v.t (B.o _ v.lt);have z1:=y3.adv a5;have a8:=jP P E.blk Ob Y;have b6:=a3.ex E Y;have b4:=a2.t Y;have e6:=b4.size;have e4:=HN.o;have d6:=(B.o _ v.lt).ge;have e3:=(B.o _ v.lt).lt;have d7:bG c<=5000:=Oa
   go_wp2_with (at_builtin;refine wpList_append_lies _ rfl _ _ 448 rfl w.1.size 269 i0 _ 1 16 underlying448 j7 z8 z7 z6 rfl Oa (Qe i (bG c) K) (bG c) (dS c) rfl (a8.alloc _) ⟨d.1.size,0,none⟩ 1 1 [.iface u5 (.pointer (some q))] rfl rfl (World.news_of_block (cs:=#[.iface u5 (.pointer (some q))]) (t:=269) (fr:=(0,0)) (Qk d _)) (by simp[Value.oneCell']) Oa (by unfold maxLen;omega) Oa (by simp;omega) (d.1.size+1) Od ?_;intro g6 b3 o c8 C k4 d9)
   have Z:Ex b d (d.alloc (Qf #[.iface u5 (.pointer (some q))] 269)):=(Ex.refl b d).alloc _;have x:=h5.alloc (Qf #[.iface u5 (.pointer (some q))] 269);have a4:=b6.ex h5 Z;have M:=c5.ex h5 Z
   have a9:∀ k,Value.ownBlock (Qe i (bG c) K)=some k->k≠b/\k≠g:=by
    intro k l;rcases(a8.alloc (Qf #[.iface u5 (.pointer (some q))] 269)).2 with⟨z,_⟩|⟨g',d2,d3,y,_,L,_⟩
    ·cases z
    ·simp only[Value.slice.injEq,Option.some.injEq,Addr.mk.injEq]at y;obtain⟨⟨rfl,_,_⟩,_,_⟩:=y;simp only[Value.ownBlock,Option.some.injEq]at l;subst l;refine⟨fun e1=>?_,fun e1=>?_⟩
     ·rw[e1,x.blk]at L;simp at L
     ·obtain⟨d4,j8,_⟩:=x.row;rw[e1,j8]at L;simp at L
   have h7:eK T g J b (S (U.b0 T [18])).1 o:=x.move (C.block b x.size (fun e1=>(a9 b e1.symm).1 rfl)) (C.block g x.gsize (fun e1=>(a9 g e1.symm).2 rfl));have e7:Ex b w o:=Ex.grown (b4.alloc _) C (fun k l=>(own.lt k l).1);have a7:fN i c:=y9 i rfl;have y2:i < W.1.size:=(P.lt i rfl).2;have h4:∀ A,A < (d.alloc (Qf #[.iface u5 (.pointer (some q))] 269)).1.size->A≠i->o.1[A]?=(d.alloc (Qf #[.iface u5 (.pointer (some q))] 269)).1[A]?:=fun A hi j4=>C.block A hi (fun e1=>j4 (Oq e1));have b7:eW w.1.size o c:=a4.but h4 a7;have a6:fN i s:=M.fresh.notIn y2;have b9:eW w.1.size o s:=(M.but h4 a6).mono a2.size
   have c6:fN g6 (oI c s):=by
    rcases k4 with z|z
    ·simp only[Value.ownBlock,Option.some.injEq]at z;subst z;exact iZ a7 a6
    ·subst z;have e5:(d.alloc (Qf #[.iface u5 (.pointer (some q))] 269)).1.size=d.1.size+1:=Od
     exact iZ (a4.o Oa) (M.o Oa)
   have fin:∃ (U:Rd) (p:Tr),o.ownsRow w.1.size 269 1 (Qe g6 (bG c+1) b3) (bG p) (dS p)/\p≠ .nil/\cI p=269/\mS 1 p/\eW w.1.size o p/\
    (∀ k,(Qe g6 (bG c+1) b3).ownBlock=some k->fN k p)/\eK T g J b U o/\Ex b w o/\Dm T n G U/\T.length - U.b<=m/\bG p<=U.b+1/\
    vH (er p) (aZ T S m U).2=cons (S r).2 (aZ T S n (S r).1).2/\(aZ T S m U).1=(aZ T S n (S r).1).1:=by
    refine⟨_,oI c s,?_,zZ _ _,?_,?_,eW.snoc cP b7 b9,?_,h7,e7,z1,?_,?_,?_,?_⟩
    ·rw[lD,mN,y5.o,z4.o];exact c8
    ·rw[pM k9];exact h8.o
    ·exact qW cP y0 (by rw[y5.o];rfl)
    ·intro k l;simp only[Value.ownBlock,Option.some.injEq]at l;subst l;exact c6
    ·omega
    ·rw[lD];omega
    ·have j:=H.o
     have u:aZ T S (m+1) U=((aZ T S m (S (U.b0 T [18])).1).1,cons (S (U.b0 T [18])).2 (aZ T S m (S (U.b0 T [18])).1).2):=by
      show(if _ then _ else _)=_;rw[if_pos hs]
     rw[u]at j;rw[xV,tX,N.o];exact j
    ·have j:=O.o
     have u:aZ T S (m+1) U=((aZ T S m (S (U.b0 T [18])).1).1,cons (S (U.b0 T [18])).2 (aZ T S m (S (U.b0 T [18])).1).2):=by
      show(if _ then _ else _)=_;rw[if_pos hs]
     rw[u]at j;exact j
   clear H O V B R I HV Q HN N z4 y5 z5 h8 k4 b7 b9 c6 a6 a7 a4 M b6 a3 b5 c5 c8 a8 P c7 own h7 e7 x Z cP b8 y9 D ec y3 a9 h4 C z1 z2 a5 v;go_wp2;go_roundg m
   case rel=>exact fin
   case measure=>omega
theorem infoEC:(prog.info? 253).map (fun i=>(i.zero,i.size,i.bytes))=some (some (.pointer none),1,8):=by kernel_rfl
theorem aWP{t:Tr}{a:Nd}{x y:Tr}(h:er t=mk a x y)(c:7<=a.a)(d:a.a < 8):dM t=[fO t]/\cI (cons t .nil)=253/\∃ b o a l q,t= .node b o a l q/\(a.a=19↔1=3):=by
 obtain⟨b,o,l,r,rfl,_,_⟩:=sP h;refine⟨?_,?_,b,o,a,l,r,rfl,Oa⟩
 ·show(if a.a=19 then[Value.string a.h,Qc a.b,Qc a.c]else if a.a=7 then[fO (.node b o a l r)]else[aH (.node b o a l r)])=_
  grind
 ·show(if a.a=19 then _ else if a.a=7 then _ else if a.a < 7 then _ else if a.a < 15 then _ else _)=_
  grind
theorem aFM(T:List aU)(g J b f n G:Nat)(S:Pr)(r:Rd)(w:World)(hf:∀ args wx,(callFunc f args).run prog wx= .ok (.enter f args) wx)(hS:zR T g J b f S (Dm T n G) fO)(hG:bV T S)(hO:So 7 8 S)(h:eK T g J b r w)(hd:Dm T n G r):
 Calls prog 190 #[Qd b,fv f b] w (mB T g J b w (dV T S n r) aH):=by
 have V:Hid (zR T g J b f S (Dm T n G) fO):=hS;have B:Hid (bV T S):=hG;have R:Hid (So 7 8 S):=hO;clear hS hG hO;obtain⟨i0,j7,z8,z7,z6⟩:=info_parts infoEC;unfold fv;go_enter func190,ntmps190
 go_wp2_with fail
 refine(V.o r w h hd).mono ?_;rintro e w1 ⟨t,rfl,ht,it,h1,e1⟩;have I:Hid (er t=(S r).2):=ht;clear ht;have a1:=B.o r h.lt;have z3:=hd.adv a1;have d4:=h.few;obtain⟨sa,sx,sy,y8,j3,j2⟩:=R.o r;obtain⟨z0,k0,j5⟩:=aWP (I.o.t y8) j3 j2;obtain⟨F,y⟩:=aMC (I.o.t y8);have HV:Hid (fO t= .pointer (some F)):=y;have Q:Hid (dM t=[fO t]):=z0;have z5:Hid (cI (cons t .nil)=253):=k0;rw[y];clear y z0 k0;have kG:(w1.alloc (Qf #[.pointer (some F)] 253)).ownsRow w.1.size 253 1 (Qe w1.1.size 1 1) 1 [.pointer (some F)]:=wO e1.size rfl;go_wp2_with fail
 go_loopg [5] n (fun m c8 wr=>∃ (U:Rd) (c:Tr),wr.ownsRow w.1.size 253 1 c8 (bG c) (dS c)/\c≠ .nil/\cI c=253/\mS 1 c/\eW w.1.size wr c/\(∀ k,c8.ownBlock=some k->fN k c)/\eK T g J b U wr/\Ex b w wr/\Dm T n G U/\T.length - U.b<=m/\bG c<=U.b+1/\
  vH (er c) (aZ T S m U).2=cons (S r).2 (aZ T S n (S r).1).2/\(aZ T S m U).1=(aZ T S n (S r).1).1)
 case atStart=>
  refine⟨_,cons t .nil,?_,?_,z5.o,⟨rfl,j5,by rw[Q.o];rfl,trivial⟩,(it.ex h1 ((Ex.refl b w1).alloc _)).cons (eW.nil _ _),?_,h1.alloc _,e1.alloc _,z3,?_,?_,?_,rfl⟩
  ·show World.ownsRow _ _ _ _ _ 1 (dM t++[]);rw[Q.o,HV.o];exact kG
  ·intro e;cases e
  ·intro k l;simp only[Value.ownBlock,Option.some.injEq]at l;subst l;exact⟨it.o Ol,trivial,fun F=>absurd rfl F.1⟩
  ·have:=z3.1;omega
  ·show 0+1<=_;omega
  ·show cons (er t) _=_;rw[I.o];rfl
 case round=>
  obtain⟨U,c,own,k9,k0,cP,b7,y9,D,ec,y3,hm,d7,h9,h0⟩:=hrel;have H:Hid (vH (er c) (aZ T S gk U).2=cons (S r).2 (aZ T S n (S r).1).2):=h9;have O:Hid ((aZ T S gk U).1=(aZ T S n (S r).1).1):=h0;have h8:Hid (cI c=253):=k0;clear h9 h0 k0 kG;obtain⟨i,K,j1⟩:=aAW own (aA7 k9);subst j1;have y4:=D.alloc (Qf #[Qc 18] 141);have e2:=(Ex.refl b wr).alloc (Qf #[Qc 18] 141);have b4:=b7.ex D e2;have c6:=own.alloc (Qf #[Qc 18] 141);have j6:=cA wr [18] #[Qc 18] rfl;go_wp2_with fail
  refine(oT T g J b U wr.1.size 1 [18] _ y4 j6 Ob Ob).mono ?_;rintro e W ⟨rfl,E,X⟩;have a3:=b4.ex y4 X;have P:=jP c6 y4.blk Ob X;have a2:=(ec.t e2).t X;have y1:=D.lt;have v:=fF D.ends y1 (show aM [18] 0=false by decide);have z2:=y3.adv v;cases hs:aF T U [18]
  ·have y7:U.b0 T [18]=U:=by unfold Rd.b0;rw[hs];rfl
   rw[y7]at E
   have k1:aZ T S gk U=(U,.nil):=by
    cases gk with
    |zero=>rfl
    |succ gk=>show(if _ then _ else _)=_;rw[if_neg (by rw[hs];decide)]
   have j:=H.o;have u:=O.o;rw[k1]at j u;rw[aAI]at j
   have fin:mB T g J b w (dV T S n r) aH (.returned (Qe i (bG c) K)) W:=by
    refine⟨.node i K {a:=20} c .nil,rfl,?_,eW.listed k9 cP a3 (by rw[h8.o];exact P),?_,a2⟩
    ·show BT.node 0 0 _ (er c) .nil=gW (cons (S r).2 (aZ T S n (S r).1).2);rw[j];rfl
    ·show eK T g J b (aZ T S n (S r).1).1 W;rw[<-u];exact E
   clear j u k1 y7 H O;go_wp2;go_ret;exact fin
  ·have HN:Hid ((U.b0 T [18]).b=U.b+1):=pL hs;go_wp2_with fail
   refine(V.o _ _ E z2).mono ?_;rintro e d ⟨s,rfl,y6,b9,h5,Y⟩;have N:Hid (er s=(S (U.b0 T [18])).2):=y6;obtain⟨ya,yx,yy,k7,j0,z9⟩:=R.o (U.b0 T [18]);obtain⟨k2,_,y0⟩:=aWP (N.o.t k7) j0 z9;obtain⟨q,k8⟩:=aMC (N.o.t k7);have z4:Hid (fO s= .pointer (some q)):=k8;have y5:Hid (dM s=[fO s]):=k2;rw[k8];clear k8 k7 y6 k2;obtain⟨m,rfl⟩:=Oj gk;have a5:=v.t (B.o _ v.lt);have z1:=y3.adv a5;have a8:=jP P E.blk Ob Y;have b5:=a3.ex E Y;have b3:=a2.t Y;have e5:=b3.size;have e3:=HN.o;have d5:=(B.o _ v.lt).ge;have d9:=(B.o _ v.lt).lt;have d6:bG c<=5000:=Oa
   go_wp2_with (at_builtin;refine wpList_append_lies _ rfl _ _ 102 rfl w.1.size 253 i0 _ 1 8 underlying102 j7 z8 z7 z6 rfl Oa (Qe i (bG c) K) (bG c) (dS c) rfl (a8.alloc _) ⟨d.1.size,0,none⟩ 1 1 [.pointer (some q)] rfl rfl (World.news_of_block (cs:=#[.pointer (some q)]) (t:=253) (fr:=(0,0)) (Qk d _)) (by simp[Value.oneCell']) Oa (by unfold maxLen;omega) Oa (by simp;omega) (d.1.size+1) Od ?_;intro g6 b2 o c7 C k4 d8)
   have Z:Ex b d (d.alloc (Qf #[.pointer (some q)] 253)):=(Ex.refl b d).alloc _;have x:=h5.alloc (Qf #[.pointer (some q)] 253);have a4:=b5.ex h5 Z;have M:=b9.ex h5 Z
   have a9:∀ k,Value.ownBlock (Qe i (bG c) K)=some k->k≠b/\k≠g:=by
    intro k l;rcases(a8.alloc (Qf #[.pointer (some q)] 253)).2 with⟨z,_⟩|⟨g',c9,d2,y,_,L,_⟩
    ·cases z
    ·simp only[Value.slice.injEq,Option.some.injEq,Addr.mk.injEq]at y;obtain⟨⟨rfl,_,_⟩,_,_⟩:=y;simp only[Value.ownBlock,Option.some.injEq]at l;subst l;refine⟨fun e1=>?_,fun e1=>?_⟩
     ·rw[e1,x.blk]at L;simp at L
     ·obtain⟨d3,j8,_⟩:=x.row;rw[e1,j8]at L;simp at L
   have h7:eK T g J b (S (U.b0 T [18])).1 o:=x.move (C.block b x.size (fun e1=>(a9 b e1.symm).1 rfl)) (C.block g x.gsize (fun e1=>(a9 g e1.symm).2 rfl));have e7:Ex b w o:=Ex.grown (b3.alloc _) C (fun k l=>(own.lt k l).1);have a7:fN i c:=y9 i rfl;have y2:i < W.1.size:=(P.lt i rfl).2;have h4:∀ A,A < (d.alloc (Qf #[.pointer (some q)] 253)).1.size->A≠i->o.1[A]?=(d.alloc (Qf #[.pointer (some q)] 253)).1[A]?:=fun A hi j4=>C.block A hi (fun e1=>j4 (Oq e1));have b6:eW w.1.size o c:=a4.but h4 a7;have a6:fN i s:=M.fresh.notIn y2;have b8:eW w.1.size o s:=(M.but h4 a6).mono a2.size
   have c5:fN g6 (oI c s):=by
    rcases k4 with z|z
    ·simp only[Value.ownBlock,Option.some.injEq]at z;subst z;exact iZ a7 a6
    ·subst z;have e4:(d.alloc (Qf #[.pointer (some q)] 253)).1.size=d.1.size+1:=Od
     exact iZ (a4.o Oa) (M.o Oa)
   have fin:∃ (U:Rd) (p:Tr),o.ownsRow w.1.size 253 1 (Qe g6 (bG c+1) b2) (bG p) (dS p)/\p≠ .nil/\cI p=253/\mS 1 p/\eW w.1.size o p/\
    (∀ k,(Qe g6 (bG c+1) b2).ownBlock=some k->fN k p)/\eK T g J b U o/\Ex b w o/\Dm T n G U/\T.length - U.b<=m/\bG p<=U.b+1/\
    vH (er p) (aZ T S m U).2=cons (S r).2 (aZ T S n (S r).1).2/\(aZ T S m U).1=(aZ T S n (S r).1).1:=by
    refine⟨_,oI c s,?_,zZ _ _,?_,?_,eW.snoc cP b6 b8,?_,h7,e7,z1,?_,?_,?_,?_⟩
    ·rw[lD,mN,y5.o,z4.o];exact c7
    ·rw[pM k9];exact h8.o
    ·exact qW cP y0 (by rw[y5.o];rfl)
    ·intro k l;simp only[Value.ownBlock,Option.some.injEq]at l;subst l;exact c5
    ·omega
    ·rw[lD];omega
    ·have j:=H.o
     have u:aZ T S (m+1) U=((aZ T S m (S (U.b0 T [18])).1).1,cons (S (U.b0 T [18])).2 (aZ T S m (S (U.b0 T [18])).1).2):=by
      show(if _ then _ else _)=_;rw[if_pos hs]
     rw[u]at j;rw[xV,tX,N.o];exact j
    ·have j:=O.o
     have u:aZ T S (m+1) U=((aZ T S m (S (U.b0 T [18])).1).1,cons (S (U.b0 T [18])).2 (aZ T S m (S (U.b0 T [18])).1).2):=by
      show(if _ then _ else _)=_;rw[if_pos hs]
     rw[u]at j;exact j
   clear H O V B R I HV Q HN N z4 y5 z5 h8 k4 b6 b8 c5 a6 a7 a4 M b5 a3 b4 b9 c7 a8 P c6 own h7 e7 x Z cP b7 y9 D ec y3 a9 h4 C z1 z2 a5 v;go_wp2;go_roundg m
   case rel=>exact fin
   case measure=>omega
theorem Dm.c{T:List aU}{n q:Nat}{r:Rd}(h:Dm T n q r):0<=r.c/\r.c<=1000000:=by obtain⟨_,a,b⟩:=h;omega
theorem aFR(T:List aU)(g J b n:Nat)(E:Pr)(r:Rd)(w:World)(u:eJ T g J b 335 E (Dm T n 2))(v:bV T E)(x:So 0 7 E)(h:eK T g J b r w)(y:0<=r.c/\r.c<=1000000)(f:Dm T n 2 (r.a0 T [16])):
 Calls prog 336 #[Qd b] w (mB T g J b w (gL T E r) aH):=by
 have i:Hid _:=u;have j:Hid _:=v;have D:Hid _:=x;have p:=h.alloc (Qf #[Qc 16] 141);have e1:=(Ex.refl b w).alloc (Qf #[Qc 16] 141);have B:=cA w [16] #[Qc 16] rfl;obtain⟨H,C,I⟩:=cZ h.ends h.lt (show aM [16] 0=false by decide);go_enter func336,ntmps336
 go_wp2_with fail
 refine(aA4 T g J b r w.1.size 1 [16] _ p B Ob Ob y).mono ?_;rintro e F ⟨rfl,q,a⟩;go_wp2_with fail
 refine(i.o _ _ q f).mono ?_;rintro e l ⟨t,rfl,z,A,d,o⟩;have k:Hid _:=z;have m:=j.o _ C;have h0:0<=(E (r.a0 T [16])).1.c/\(E (r.a0 T [16])).1.c<=1000000:=by rw[m.c];exact f.c
 go_wp2_with fail
 refine(qY T g J b _ 17 l d Ob h0).mono ?_;rintro e G ⟨rfl,s,c⟩;go_wp2;go_ret;exact⟨t,rfl,k.o,(A.mono (e1.t a).size).ex d c,s,((e1.t a).t o).t c⟩
theorem xH(T:List aU)(g J b n:Nat)(E:Pr)(r:Rd)(w:World)(o:eJ T g J b 335 E (Dm T n 2))(h:eK T g J b r w)(p:Dm T n 2 r):
 Calls prog 300 #[Qd b] w (mB T g J b w (gQ T E r) aH):=by
 have j:Hid _:=o;go_enter func300,ntmps300
 go_wp2_with fail
 refine(j.o _ _ h p).mono ?_;rintro e a ⟨t,rfl,q,s,f,l⟩;have k:Hid _:=q;have i:=f.alloc (Qf #[Qc 19] 141);have c:=(Ex.refl b a).alloc (Qf #[Qc 19] 141);have u:=cA a [19] #[Qc 19] rfl;go_wp2_with fail
 refine(iY T g J b _ a.1.size 1 [19] _ i u Ob Ob).mono ?_;rintro e v ⟨rfl,m,d⟩;go_wp2;go_ret;exact⟨t,rfl,k.o,(s.ex f c).ex i d,m,(l.t c).t d⟩
theorem aBK:∀ args a,(callFunc 335 args).run prog a= .ok (.enter 335 args) a:=by
 intro args a;go_simp
theorem aU5(T:List aU)(g J b n:Nat)(E:Pr)(r:Rd)(w:World)(G:eJ T g J b 335 E (Dm T n 2))(H:bV T E)(I:So 0 7 E)(h:eK T g J b r w)(K:0<=r.c/\r.c<=1000000)(j:Dm T n 2 (r.a0 T [12])):
 Calls prog 365 #[Qd b] w (mB T g J b w (jS T E n r) aH):=by
 have s:Hid _:=G;have l:Hid _:=H;have u:Hid _:=I;have D:=h.alloc (Qf #[Qc 12] 141);have e1:=(Ex.refl b w).alloc (Qf #[Qc 12] 141);have N:=cA w [12] #[Qc 12] rfl;obtain⟨Q,P,R⟩:=cZ h.ends h.lt (show aM [12] 0=false by decide);go_enter func365,ntmps365
 go_wp2_with fail
 refine(aA4 T g J b r w.1.size 1 [12] _ D N Ob Ob K).mono ?_;rintro e c ⟨rfl,F,A⟩;have o:=F.alloc (Qf #[Qc 13] 141);have B:=(Ex.refl b c).alloc (Qf #[Qc 13] 141);have O:=cA c [13] #[Qc 13] rfl;go_wp2_with fail
 refine(jO T g J b _ c.1.size 1 [13] _ o O Ob).mono ?_;rintro e S ⟨rfl,k,rfl⟩;have p:=o.drewN k;have f:=((e1.t A).t B).drewN k;generalize ((c.alloc (Qf #[Qc 13] 141)).drewN k)=m at*;cases hs:aF T (r.a0 T [12]) [13]
 ·go_wp2_with fail
  refine(aPB T g J b 335 n 2 E _ m aBK s.o l.o u.o p j).mono ?_;rintro e x ⟨t,rfl,L,M,q,C⟩;have v:Hid _:=L;have z:=qU h.ends l.o n _ P;have h0:0<=(dV T E n (r.a0 T [12])).1.c/\(dV T E n (r.a0 T [12])).1.c<=1000000:=by rw[z.c];exact j.c
  go_wp2_with fail
  refine(qY T g J b _ 13 x q Ob h0).mono ?_;rintro e y ⟨rfl,i,d⟩;have a:Hid (jS T E n r=((dV T E n (r.a0 T [12])).1.h0 T 13,(dV T E n (r.a0 T [12])).2)):=by unfold Hid jS;rw[hs];rfl
  go_wp2;go_ret;exact⟨t,rfl,by rw[a.o];exact v.o,(M.mono f.size).ex q d,by rw[a.o];exact i,(f.t C).t d⟩
 ·have h0:=j.c;go_wp2_with fail
  refine(qY T g J b _ 13 m p Ob h0).mono ?_;rintro e y ⟨rfl,i,d⟩;have a:Hid (jS T E n r=((r.a0 T [12]).h0 T 13,.nil)):=by unfold Hid jS;rw[hs];rfl
  go_wp2;go_ret;exact⟨.nil,rfl,by rw[a.o];rfl,eW.nil _ _,by rw[a.o];exact i,f.t d⟩
theorem fK{w:World}{k:Nat}{x:ByteArray}{p:Int}(h:w.1[k]?=some (Qf #[.string x,Qc p,Qc 0] 100)):
 w.cell? ⟨k,0,none⟩=some (.string x)/\w.cell? ⟨k,1,none⟩=some (Qc p)/\w.cell? ⟨k,2,none⟩=some (Qc 0):=(by grind[sM])
theorem lM{t:Tr}(h:er t= .nil\/∃ a x,er t=mk a x .nil/\a.a=20):∃ ao n c,aH t= .slice ao n c:=by
 cases t with
 |nil=>exact⟨none,0,0,rfl⟩
 |node b o a l r=>
  rcases h with h|⟨e,x,h,d⟩
  ·cases h
  ·simp only[er,mk,BT.node.injEq]at h;obtain⟨_,_,rfl,_⟩:=h;exact⟨some ⟨b,0,none⟩,bG l,o,if_pos d⟩
theorem aR4(T:List aU)(E:Pr)(n:Nat):SoL (jS T E n):=fun r=>by
 unfold jS
 split
 ·simp
 ·exact .r ⟨_,_,rfl,rfl⟩
theorem aP5(T:List aU)(g J b n:Nat)(E:Pr)(U:aU)(r:Rd)(w:World)(P:eJ T g J b 335 E (Dm T n 2))(Q:bV T E)(R:So 0 7 E)(h:eK T g J b r w)(S:0<=r.c/\r.c<=1000000)(Y:aF T r [16]=true->Dm T n 2 (r.a0 T [16]))(W:aF T r [12]=true->Dm T n 2 (r.a0 T [12])):
 Calls prog 364 #[Qd b,jK U.f U.e] w (mB T g J b w (gV T E n U r) aH):=by
 have I:Hid (eJ T g J b 335 E (Dm T n 2)):=P;have K:Hid (bV T E):=Q;have v:Hid (So 0 7 E):=R;have H1:Hid (aF T r [16]=true->Dm T n 2 (r.a0 T [16])):=Y;have H2:Hid (aF T r [12]=true->Dm T n 2 (r.a0 T [12])):=W;clear P Q R Y W;unfold jK;have cP:(w.alloc (Qf #[.string U.f,Qc U.e,Qc 0] 100)).1.size=w.1.size+1:=Od
 have N:=h.alloc (Qf #[.string U.f,Qc U.e,Qc 0] 100);have z:=N.alloc (Qf #[Qc 16] 141);have L:=((Ex.refl b w).alloc (Qf #[.string U.f,Qc U.e,Qc 0] 100)).alloc (Qf #[Qc 16] 141);have H:=cA (w.alloc (Qf #[.string U.f,Qc U.e,Qc 0] 100)) [16] #[Qc 16] rfl;rw[cP]at H
 have Z:((w.alloc (Qf #[.string U.f,Qc U.e,Qc 0] 100)).alloc (Qf #[Qc 16] 141)).1[w.1.size]?=some (Qf #[.string U.f,Qc U.e,Qc 0] 100):=
  (On (by rw[cP];omega)).t (Qk w _)
 have V:w.1.size≠b:=by have:=h.size;omega
 go_enter func364,ntmps364
 go_wp2_with fail
 refine(jO T g J b r (w.1.size+1) 1 [16] _ z H Ob).mono ?_;rintro e c ⟨rfl,u,rfl⟩;have A:=z.drewN u;have o:=L.drewN u;have m:(((w.alloc (Qf #[.string U.f,Qc U.e,Qc 0] 100)).alloc (Qf #[Qc 16] 141)).drewN u).1[w.1.size]?=_:=Z;clear N z L H Z cP;generalize (((w.alloc (Qf #[.string U.f,Qc U.e,Qc 0] 100)).alloc (Qf #[Qc 16] 141)).drewN u)=l at*;cases hs:aF T r [16]
 ·have B:=A.alloc (Qf #[Qc 12] 141);have M:=o.alloc (Qf #[Qc 12] 141);have X:=cA l [12] #[Qc 12] rfl;have n4:(l.alloc (Qf #[Qc 12] 141)).1[w.1.size]?=_:=(On (Oo m)).t m;go_wp2_with fail
  refine(jO T g J b r l.1.size 1 [12] _ B X Ob).mono ?_;rintro e c ⟨rfl,t,rfl⟩;have O:=B.drewN t;have p:=M.drewN t;have y:((l.alloc (Qf #[Qc 12] 141)).drewN t).1[w.1.size]?=_:=n4;clear A B o M X m n4;generalize ((l.alloc (Qf #[Qc 12] 141)).drewN t)=x at*;obtain⟨m0,m1,m2⟩:=fK y;cases hs2:aF T r [12]
  ·have d:Hid (gV T E n U r=(r,nJ U)):=by unfold Hid gV;rw[hs,hs2];rfl
   go_wp2;go_ret;refine⟨.node x.1.size 0 {a:=1,h:=U.f,b:=U.e} .nil .nil,rfl,by rw[d.o];rfl,eW.node (eW.nil _ _) (eW.nil _ _) (fun _=>p.size) Od ?_,by rw[d.o];exact O.alloc _,p.alloc _⟩;exact⟨_,Qk x _,rfl,rfl,rfl⟩
  ·have d:Hid (gV T E n U r=((jS T E n r).1,mk {a:=3,h:=U.f,b:=U.e} (jS T E n r).2 .nil)):=by unfold Hid gV;rw[hs,hs2];rfl
   have F:=H2.o hs2;have a2:x.drew.cell? ⟨w.1.size,0,none⟩=some (.string U.f):=m0;go_wp2_with fail
   go_region_held3 (fun c=>c.cell? ⟨w.1.size,0,none⟩=some (.string U.f)/\c.cell? ⟨w.1.size,1,none⟩=some (Qc U.e)/\c.cell? ⟨w.1.size,2,none⟩=some (Qc 0))
    (first
      |(refine⟨?_,?_,?_⟩<;>assumption)
      |go_keep)
    ((refine mE rfl 365 #[Qd b] _ (by go_simp) (aU5 T g J b n E r _ I.o K.o v.o O.drew S F) ?_;rintro e f ⟨k,rfl,h0,G,s,i⟩;refine⟨_,rfl,?_⟩;have q:Hid (er k=(jS T E n r).2):=h0;clear h0;have j:=(i.block w.1.size (Oo y) V).t y;have p0:=(fK j).1;have p1:=(fK j).2.1;have p2:=(fK j).2.2;obtain⟨ao,ln,cq,C⟩:=lM (by rw[q.o];exact aR4 T E n r);have k6:Hid (aH k= .slice ao ln cq):=C;rw[C];clear C))
   go_wp2;go_ret;refine⟨.node f.1.size 0 {a:=3,h:=U.f,b:=U.e} k .nil,rfl,?_,eW.node ((G.mono p.size).ex s ((Ex.refl b f).alloc _)) (eW.nil _ _) (fun _=>(p.drew.t i).size) Od ?_,by rw[d.o];exact s.alloc _,(p.drew.t i).alloc _⟩
   ·rw[d.o,<-q.o];rfl
   ·exact⟨_,Qk f _,⟨rfl,rfl,rfl⟩,by rw[k6.o];rfl,rfl⟩
 ·have d:Hid (gV T E n U r=((gL T E r).1,mk {a:=2,h:=U.f,b:=U.e} (gL T E r).2 .nil)):=by unfold Hid gV;rw[hs];rfl
  have F:=H1.o hs;obtain⟨m0,m1,m2⟩:=fK m;have a2:l.drew.cell? ⟨w.1.size,0,none⟩=some (.string U.f):=m0;go_wp2_with fail
  go_region_held3 (fun c=>c.cell? ⟨w.1.size,0,none⟩=some (.string U.f)/\c.cell? ⟨w.1.size,1,none⟩=some (Qc U.e)/\c.cell? ⟨w.1.size,2,none⟩=some (Qc 0))
   (first
     |(refine⟨?_,?_,?_⟩<;>assumption)
     |go_keep)
   ((refine mE rfl 336 #[Qd b] _ (by go_simp) (aFR T g J b n E r _ I.o K.o v.o A.drew S F) ?_;rintro e f ⟨k,rfl,h0,G,s,i⟩;refine⟨_,rfl,?_⟩;have q:Hid (er k=(gL T E r).2):=h0;clear h0;have j:=(i.block w.1.size (Oo m) V).t m;have p0:=(fK j).1;have p1:=(fK j).2.1;have p2:=(fK j).2.2;obtain⟨ya,yx,yy,k0,_,a3⟩:=v.o (r.a0 T [16]);obtain⟨u7,p7,D⟩:=eY (q.o.t k0) Oa;have k7:Hid (aH k= .iface u7 (.pointer (some p7))):=D;rw[D];clear D k0))
  go_wp2;go_ret;refine⟨.node f.1.size 0 {a:=2,h:=U.f,b:=U.e} k .nil,rfl,?_,eW.node ((G.mono o.size).ex s ((Ex.refl b f).alloc _)) (eW.nil _ _) (fun _=>(o.drew.t i).size) Od ?_,by rw[d.o];exact s.alloc _,(o.drew.t i).alloc _⟩
  ·rw[d.o,<-q.o];rfl
  ·exact⟨_,Qk f _,⟨rfl,rfl,rfl⟩,by rw[k7.o];rfl,rfl⟩
theorem aCR{T:List aU}{r:Rd}{Y:List Int}(h:(bX T r Y).d≠0):aF T r Y=true:=by
 cases hs:aF T r Y
 ·unfold bX at h;rw[hs]at h;trivial
 ·rfl
theorem yC{T:List aU}(a:eD T){r:Rd}(h:r.b < T.length){Y:List Int}(h0:aM Y 0=false)(b:aF T r Y=true):r.b+1<=(r.a0 T Y).b:=by
 have c:=wG b;have d:=(pV (aN a h h0).lt (bX T r Y).e).1;show _<=((r.take T Y).l0 T.length (bX T r Y).e).b;omega
theorem aFX{T:List aU}(a:eD T){n q:Nat}{r:Rd}(h:r.b < T.length){Y:List Int}(h0:aM Y 0=false)(b:Dm T (n+1) q r)(c:aF T r Y=true):Dm T n 2 (r.a0 T Y):=by
 have f:=yC a h h0 c;obtain⟨g,i,j⟩:=cZ a h h0;obtain⟨d1,d,e⟩:=b;exact⟨Oa,Oa,Oa⟩
theorem aLJ(T:List aU)(g J b n:Nat)(E F:Pr)(r:Rd)(w:World)(Z:eJ T g J b 335 E (Dm T n 2))(y2:bV T E)(y0:So 0 7 E)(hF:eJ T g J b 362 F (Dm T n 0))(y1:bV T F)(k9:So 0 7 F)(h:eK T g J b r w)(C:Dm T (n+1) 0 r):
 Calls prog 362 #[Qd b] w (mB T g J b w (iI T E F n r) aH):=by
 have S:Hid (eJ T g J b 335 E (Dm T n 2)):=Z;have y4:Hid (bV T E):=y2;have y3:Hid (So 0 7 E):=y0;have HF:Hid (eJ T g J b 362 F (Dm T n 0)):=hF;have y8:Hid (bV T F):=y1;have y7:Hid (So 0 7 F):=k9;clear Z y2 y0 hF y1 k9;have h1:=h.alloc (Qf #[Qc 2,Qc 1,Qc 12,Qc 28] 141);have e1:=(Ex.refl b w).alloc (Qf #[Qc 2,Qc 1,Qc 12,Qc 28] 141);have k1:=cA w bQ #[Qc 2,Qc 1,Qc 12,Qc 28] rfl;go_enter func362,ntmps362
 go_wp2_with fail
 refine(iY T g J b r w.1.size 4 bQ _ h1 k1 Ob Ob).mono ?_;rintro e i ⟨rfl,Y,X⟩;have l:=aN h.ends h.lt (show aM bQ 0=false by decide);have U:Hid ((bX T r bQ).d≠0->(r.take T bQ).b=r.b+1):=fun hk=>wG (aCR hk);generalize hq:bX T r bQ=q at*;have G:Hid (bX T r bQ=q):=hq;clear hq;rw[aU.val_eq];have I:=Y.alloc (Qf #[Qc q.d,Qc q.e,.string q.f,Qc q.a] 143);have p:=(e1.t X).alloc (Qf #[Qc q.d,Qc q.e,.string q.f,Qc q.a] 143);have Q:(i.alloc (Qf #[Qc q.d,Qc q.e,.string q.f,Qc q.a] 143)).1[i.1.size]?=some (Qf #[Qc q.d,Qc q.e,.string q.f,Qc q.a] 143):=Qk i _;have a6:i.1.size≠b:=by have:=Y.size;omega
 have O:0<=(r.take T bQ).c/\(r.take T bQ).c<=1000000:=by rw[l.c];exact C.c
 have a5:=h.lt;obtain⟨d1,W,d3⟩:=pV l.lt q.e
 by_cases d:q.d=2
 ·have c:Hid (iI T E F n r=(r.take T bQ,uP q.a)):=by unfold Hid iI;dsimp only;rw[G.o,if_pos d]
  have a3:(q.d==2)=true:=by simpa using d
  clear d;go_wp2;go_ret;refine⟨.node (i.1.size+1) 0 {a:=0,g:=q.a} .nil .nil,rfl,by rw[c.o];rfl,eW.node (eW.nil _ _) (eW.nil _ _) (fun _=>by have:=(e1.t X).size;omega) Od ?_,by rw[c.o];exact I.alloc _,p.alloc _⟩;exact⟨_,by have:=Qk (i.alloc (Qf #[Qc q.d,Qc q.e,.string q.f,Qc q.a] 143)) (Qf #[Qc q.a] 364);simpa using this,rfl⟩
 have a3:(q.d==2)=false:=by simpa using d
 by_cases m:q.d=12
 ·have c:Hid (iI T E F n r=((E ((r.take T bQ).l0 T.length q.e)).1.h0 T 13,mk {a:=4} (E ((r.take T bQ).l0 T.length q.e)).2 .nil)):=by
   unfold Hid iI;dsimp only;rw[G.o,if_neg d,if_pos m]
  have y6:=U.o Oa
  have k8:Dm T n 2 ((r.take T bQ).l0 T.length q.e):=by
   obtain⟨x1,x2,x3⟩:=C;have:=l.c;exact⟨Oa,Oa,Oa⟩
  have a2:(q.d==12)=true:=by simpa using m
  clear d m;obtain⟨m0,m1,m2,m3,_⟩:=bK Q;go_wp2_with fail
  generalize i.alloc (Qf #[Qc q.d,Qc q.e,.string q.f,Qc q.a] 143)=x at*;refine(zN T g J b _ q x I O).mono ?_;rintro e K ⟨rfl,z,j⟩;go_wp2_with fail
  refine(S.o _ _ z k8).mono ?_;rintro e o ⟨f,rfl,h0,D,k,u⟩;have t:Hid (er f=(E ((r.take T bQ).l0 T.length q.e)).2):=h0;obtain⟨ya,yx,yy,B,_,y5⟩:=y3.o ((r.take T bQ).l0 T.length q.e);obtain⟨u5,R,s⟩:=eY (t.o.t B) Oa;have P:Hid (aH f= .iface u5 (.pointer (some R))):=s;rw[s];clear s B h0;have M:=y4.o _ W;have k0:0<=(E ((r.take T bQ).l0 T.length q.e)).1.c/\(E ((r.take T bQ).l0 T.length q.e)).1.c<=1000000:=by rw[M.c];exact k8.c
  go_wp2_with fail
  refine(qY T g J b _ 13 o k Ob k0).mono ?_;rintro e L ⟨rfl,A,y⟩;go_wp2;go_ret;have H:=((p.t j).t u).t y;refine⟨.node L.1.size 0 {a:=4} f .nil,rfl,?_,eW.node (((D.mono (p.t j).size).ex k y).ex A ((Ex.refl b L).alloc _)) (eW.nil _ _) (fun _=>H.size) Od ?_,by rw[c.o];exact A.alloc _,H.alloc _⟩
  ·rw[c.o,<-t.o];rfl
  ·exact⟨_,Qk L _,by rw[P.o];rfl⟩
 have a2:(q.d==12)=false:=by simpa using m
 by_cases v:q.d=28
 ·have c:Hid (iI T E F n r=(⟨(F ((r.take T bQ).l0 T.length q.e)).1.b,(F ((r.take T bQ).l0 T.length q.e)).1.c - 1,(F ((r.take T bQ).l0 T.length q.e)).1.a,(F ((r.take T bQ).l0 T.length q.e)).1.e⟩,mk {a:=5} (F ((r.take T bQ).l0 T.length q.e)).2 .nil)):=by
   unfold Hid iI;dsimp only;rw[G.o,if_neg d,if_neg m,if_pos v]
  have y6:=U.o Oa
  have k7:Dm T n 0 ((r.take T bQ).l0 T.length q.e):=by
   obtain⟨x1,x2,x3⟩:=C;have:=l.c;exact⟨Oa,Oa,Oa⟩
  have a4:(q.d==28)=true:=by simpa using v
  clear d m v;obtain⟨m0,m1,m2,m3,_⟩:=bK Q;go_wp2_with fail
  generalize i.alloc (Qf #[Qc q.d,Qc q.e,.string q.f,Qc q.a] 143)=x at*;refine(zN T g J b _ q x I O).mono ?_;rintro e K ⟨rfl,z,j⟩;go_wp2_with fail
  refine(HF.o _ _ z k7).mono ?_;rintro e o ⟨f,rfl,h0,D,k,u⟩;have t:Hid (er f=(F ((r.take T bQ).l0 T.length q.e)).2):=h0;obtain⟨ya,yx,yy,B,_,y5⟩:=y7.o ((r.take T bQ).l0 T.length q.e);obtain⟨u5,R,s⟩:=eY (t.o.t B) Oa;have P:Hid (aH f= .iface u5 (.pointer (some R))):=s;rw[s];clear s B h0;have M:=y8.o _ W;have k0:0<=(F ((r.take T bQ).l0 T.length q.e)).1.c/\(F ((r.take T bQ).l0 T.length q.e)).1.c<=1000000:=by rw[M.c];exact k7.c
  obtain⟨n5,n6⟩:=k0;have c2:=k.c2;have f2:=k.froz 2;have A:=k.setNest ((F ((r.take T bQ).l0 T.length q.e)).1.c - 1);have y:=(Ex.refl b o).set 2 (Qc ((F ((r.take T bQ).l0 T.length q.e)).1.c - 1));have s6:(o.setCell ⟨b,2,none⟩ (Qc ((F ((r.take T bQ).l0 T.length q.e)).1.c - 1))).1.size=o.1.size:=by simp[World.setCell]
  go_wp2;go_ret;have H:=((p.t j).t u).t y;refine⟨.node o.1.size 0 {a:=5} f .nil,rfl,?_,eW.node (((D.mono (p.t j).size).ex k y).ex A ((Ex.refl b _).alloc _)) (eW.nil _ _) (fun _=>((p.t j).t u).size) Od ?_,by rw[c.o];exact A.alloc _,H.alloc _⟩
  ·rw[c.o,<-t.o];rfl
  ·exact⟨_,by rw[<-s6];exact Qk _ _,by rw[P.o];rfl⟩
 ·have c:Hid (iI T E F n r=gV T E n q (r.take T bQ)):=by
   unfold Hid iI;dsimp only;rw[G.o,if_neg d,if_neg m,if_neg v]
  have a4:(q.d==28)=false:=by simpa using v
  have k6:aF T (r.take T bQ) [16]=true->Dm T n 2 ((r.take T bQ).a0 T [16]):=fun N=>aFX h.ends l.lt Ob (C.adv l) N;have k5:aF T (r.take T bQ) [12]=true->Dm T n 2 ((r.take T bQ).a0 T [12]):=fun N=>aFX h.ends l.lt Ob (C.adv l) N;have z0:Hid _:=k6;have y9:Hid _:=k5;clear d m v k6 k5;obtain⟨m0,m1,m2,m3,_⟩:=bK Q;go_wp2_with fail
  generalize i.alloc (Qf #[Qc q.d,Qc q.e,.string q.f,Qc q.a] 143)=x at*;refine(rK q x).mono ?_;rintro e K ⟨rfl,V⟩;have z:=I.below V;have j:=p.t (Ex.of_below (b:=b) V);go_wp2_with fail
  refine(aP5 T g J b n E q _ K S.o y4.o y3.o z O z0.o y9.o).mono ?_;rintro e o ⟨f,rfl,h0,D,k,u⟩;have t:Hid (er f=(gV T E n q (r.take T bQ)).2):=h0;clear h0;go_wp2;go_ret;exact⟨f,rfl,by rw[c.o];exact t.o,D.mono j.size,by rw[c.o];exact k,j.t u⟩
theorem aEI:∀ args a,(callFunc 362 args).run prog a= .ok (.enter 362 args) a:=by intro args a;go_simp
theorem aJ7:∀ args a,(callFunc 353 args).run prog a= .ok (.enter 353 args) a:=by intro args a;go_simp
theorem aJ9:∀ args a,(callFunc 334 args).run prog a= .ok (.enter 334 args) a:=by intro args a;go_simp
theorem aJA:∀ args a,(callFunc 351 args).run prog a= .ok (.enter 351 args) a:=by intro args a;go_simp
theorem aJB:∀ args a,(callFunc 245 args).run prog a= .ok (.enter 245 args) a:=by intro args a;go_simp
theorem aDR:∀ args a,(callFunc 191 args).run prog a= .ok (.enter 191 args) a:=by intro args a;go_simp
theorem aJ8:∀ args a,(callFunc 185 args).run prog a= .ok (.enter 185 args) a:=by intro args a;go_simp
theorem aET{T:List aU}{g J b:Nat}{r:Rd}{w:World}(h:eK T g J b r w)(Y:List Int):0<=(bX T r Y).a/\(bX T r Y).a<=999999999:=by
 unfold bX
 split
 ·have a:=lN h.lt;exact h.vals _ Qg
 trivial
theorem aJ5(t:aU)(w:World):(Instr.field 143 (.agg #[Qc t.d,Qc t.e,.string t.f,Qc t.a]) 3).run prog w= .ok (Qc t.a) w:=by kernel_rfl
theorem mB.from{T:List aU}{g J b:Nat}{w w1:World}{q:Rd × Tr}{c:Tr->Value}{e:Ending}{w':World}(h:mB T g J b w1 q c e w')(a:Ex b w w1):mB T g J b w q c e w':=by
 obtain⟨t,d,f,i,j,k⟩:=h;exact⟨t,d,f,i.mono a.size,j,a.t k⟩
theorem aQQ(T:List aU)(g J b n:Nat)(S:Pr)(r:Rd)(w:World)(f:eJ T g J b 362 S (Dm T n 0))(c:bV T S)(d:So 0 7 S)(h:eK T g J b r w)(s:Dm T n 0 r):
 Calls prog 353 #[Qd b] w (mB T g J b w (lX T S [29,30,31] n r) aH):=by
 have l:Hid (eJ T g J b 362 S (Dm T n 0)):=f;have j:Hid (bV T S):=c;have k:Hid (So 0 7 S):=d;clear f c d;have z:∀ (a:Fn) (first J:Array Value) (w:World),(Instr.makeFunc a first J).run prog w= .ok (.func a first J) w:=fun _ _ _ _=>rfl;have p:=h.alloc (Qf #[Qc 29,Qc 30,Qc 31] 141);have e1:=(Ex.refl b w).alloc (Qf #[Qc 29,Qc 30,Qc 31] 141);have v:=cA w [29,30,31] #[Qc 29,Qc 30,Qc 31] rfl;have y:=h.size;go_enter func353,ntmps353
 go_wp2_with fail
 refine(aG0 T g J b 362 n 0 w.1.size S [29,30,31] _ r _ aEI l.o j.o k.o p s v Oa Ob Ob).mono ?_;rintro e x ⟨t,rfl,i,u,q,o⟩;have m:Hid (er t=(lX T S [29,30,31] n r).2):=i;clear i;go_wp2;go_ret;exact mB.from ⟨t,rfl,m.o,u,q,o⟩ e1
theorem aTF(T:List aU)(g J b n:Nat)(S:Pr)(r:Rd)(w:World)(f:eJ T g J b 353 S (Dm T n 1))(c:bV T S)(d:So 0 7 S)(h:eK T g J b r w)(s:Dm T n 1 r):
 Calls prog 335 #[Qd b] w (mB T g J b w (lX T S [27,28] n r) aH):=by
 have l:Hid (eJ T g J b 353 S (Dm T n 1)):=f;have j:Hid (bV T S):=c;have k:Hid (So 0 7 S):=d;clear f c d;have z:∀ (a:Fn) (first J:Array Value) (w:World),(Instr.makeFunc a first J).run prog w= .ok (.func a first J) w:=fun _ _ _ _=>rfl;have p:=h.alloc (Qf #[Qc 27,Qc 28] 141);have e1:=(Ex.refl b w).alloc (Qf #[Qc 27,Qc 28] 141);have v:=cA w [27,28] #[Qc 27,Qc 28] rfl;have y:=h.size;go_enter func335,ntmps335
 go_wp2_with fail
 refine(aG0 T g J b 353 n 1 w.1.size S [27,28] _ r _ aJ7 l.o j.o k.o p s v Oa Ob Ob).mono ?_;rintro e x ⟨t,rfl,i,u,q,o⟩;have m:Hid (er t=(lX T S [27,28] n r).2):=i;clear i;go_wp2;go_ret;exact mB.from ⟨t,rfl,m.o,u,q,o⟩ e1
theorem aTM(T:List aU)(g J b n:Nat)(S:Pr)(r:Rd)(w:World)(f:eJ T g J b 351 S (Dm T n 3))(c:bV T S)(d:So 7 9 S)(h:eK T g J b r w)(q:Dm T n 3 r):
 Calls prog 334 #[Qd b] w (mB T g J b w (lS T S 32 n r) aH):=by
 have l:Hid (eJ T g J b 351 S (Dm T n 3)):=f;have j:Hid (bV T S):=c;have k:Hid (So 7 9 S):=d;clear f c d;have v:∀ (a:Fn) (first J:Array Value) (w:World),(Instr.makeFunc a first J).run prog w= .ok (.func a first J) w:=fun _ _ _ _=>rfl;go_enter func334,ntmps334
 go_wp2_with fail
 refine(aFL T g J b 351 n 3 S 32 r _ aJA l.o j.o k.o h q Ob).mono ?_;rintro e u ⟨t,rfl,i,s,p,o⟩;have m:Hid (er t=(lS T S 32 n r).2):=i;clear i;go_wp2;go_ret;exact⟨t,rfl,m.o,s,p,o⟩
theorem aTO(T:List aU)(g J b n:Nat)(S:Pr)(r:Rd)(w:World)(f:eJ T g J b 334 S (Dm T n 4))(c:bV T S)(d:So 7 9 S)(h:eK T g J b r w)(q:Dm T n 4 r):
 Calls prog 299 #[Qd b] w (mB T g J b w (lS T S 33 n r) aH):=by
 have l:Hid (eJ T g J b 334 S (Dm T n 4)):=f;have j:Hid (bV T S):=c;have k:Hid (So 7 9 S):=d;clear f c d;have v:∀ (a:Fn) (first J:Array Value) (w:World),(Instr.makeFunc a first J).run prog w= .ok (.func a first J) w:=fun _ _ _ _=>rfl;go_enter func299,ntmps299
 go_wp2_with fail
 refine(aFL T g J b 334 n 4 S 33 r _ aJ9 l.o j.o k.o h q Ob).mono ?_;rintro e u ⟨t,rfl,i,s,p,o⟩;have m:Hid (er t=(lS T S 33 n r).2):=i;clear i;go_wp2;go_ret;exact⟨t,rfl,m.o,s,p,o⟩
theorem aHO{t:Tr}{a:Nd}{x y:Tr}(h:er t=mk a x y)(c:a.a=7):∃ p,fO t= .pointer (some p)/\aH t= .iface 253 (.pointer (some p)):=by
 obtain⟨b,o,l,r,rfl,_,_⟩:=sP h;exact⟨⟨b,0,none⟩,rfl,by show(if a.a=20 then _ else _)=_;rw[Oh,c];rfl⟩
theorem aTP(T:List aU)(g J b n:Nat)(S:Pr)(r:Rd)(w:World)(i:eJ T g J b 335 S (Dm T n 2))(d:bV T S)(f:So 0 7 S)(h:eK T g J b r w)(v:Dm T n 2 r):
 Calls prog 351 #[Qd b] w (mB T g J b w (jL T S r) aH):=by
 have o:Hid (eJ T g J b 335 S (Dm T n 2)):=i;have l:Hid (bV T S):=d;have m:Hid (So 0 7 S):=f;clear i d f;have A:∀ (c:Fn) (first J:Array Value) (w:World),(Instr.makeFunc c first J).run prog w= .ok (.func c first J) w:=fun _ _ _ _=>rfl;go_enter func351,ntmps351
 go_wp2_with fail
 refine(yF T g J b 335 n 2 S r _ aBK o.o l.o m.o h v).mono ?_;rintro e z ⟨t,rfl,a,x,u,s⟩;obtain⟨y,j,k⟩:=aHO a rfl;have p:Hid (er t=(jL T S r).2):=a;have q:Hid (aH t= .iface 253 (.pointer (some y))):=k;rw[j];clear a j k;go_wp2;go_ret;exact⟨t,by rw[q.o];rfl,p.o,x,u,s⟩
theorem aMY(T:List aU)(g J b n:Nat)(r:Rd)(w:World)(f:eJ T g J b 245 (jZ T) (Dm T n 0))(h:eK T g J b r w)(o:Dm T n 0 r):
 Calls prog 191 #[Qd b] w (mB T g J b w (iS T r) fO):=by
 have j:Hid (eJ T g J b 245 (jZ T) (Dm T n 0)):=f;clear f;have v:∀ (d:Fn) (first J:Array Value) (w:World),(Instr.makeFunc d first J).run prog w= .ok (.func d first J) w:=fun _ _ _ _=>rfl;go_enter func191,ntmps191
 go_wp2_with fail
 refine(yF T g J b 245 n 0 (jZ T) r _ aJB j.o (tU h.ends) aUW h o).mono ?_;rintro e u ⟨t,rfl,c,q,m,l⟩;obtain⟨s,a,p⟩:=aHO c rfl;have k:Hid (er t=(jL T (jZ T) r).2):=c;have i:Hid (fO t= .pointer (some s)):=a;rw[a];clear c a p;go_wp2;go_ret;exact⟨t,by rw[i.o];rfl,k.o,q,m,l⟩
theorem aJM(T:List aU)(g J b n:Nat):eJ T g J b 245 (jZ T) (Dm T n 0):=by
 intro r w h M;have C:=h.alloc (Qf #[Qc 28,Qc 2,Qc 1] 141);have e1:=(Ex.refl b w).alloc (Qf #[Qc 28,Qc 2,Qc 1] 141);have F:=cA w [28,2,1] #[Qc 28,Qc 2,Qc 1] rfl;go_enter func245,ntmps245
 go_wp2_with fail
 refine(iY T g J b r w.1.size 3 [28,2,1] _ C F Ob Ob).mono ?_;rintro e c ⟨rfl,y,v⟩;generalize z:bX T r [28,2,1]=q at*;have k:Hid (bX T r [28,2,1]=q):=z;clear z;rw[aU.val_eq];have m:=y.alloc (Qf #[Qc q.d,Qc q.e,.string q.f,Qc q.a] 143);have l:=(e1.t v).alloc (Qf #[Qc q.d,Qc q.e,.string q.f,Qc q.a] 143);have I:(c.alloc (Qf #[Qc q.d,Qc q.e,.string q.f,Qc q.a] 143)).1[c.1.size]?=some (Qf #[Qc q.d,Qc q.e,.string q.f,Qc q.a] 143):=Qk c _;have K:(c.alloc (Qf #[Qc q.d,Qc q.e,.string q.f,Qc q.a] 143)).1.size=c.1.size+1:=Od
 obtain⟨m0,O,P,Q,_⟩:=bK I
 by_cases f:q.d=28
 ·have H:(q.d==28)=true:=by simpa using f
  have A:=cA (c.alloc (Qf #[Qc q.d,Qc q.e,.string q.f,Qc q.a] 143)) [2] #[Qc 2] rfl;rw[K]at A;have o:=m.alloc (Qf #[Qc 2] 141);have j:=l.alloc (Qf #[Qc 2] 141);have d:Hid (jZ T r=((r.take T [28,2,1]).take T [2],uP (-(bX T (r.take T [28,2,1]) [2]).a))):=by unfold Hid jZ;dsimp only;rw[k.o,if_pos f]
  clear f;go_wp2_with fail
  refine(iY T g J b _ (c.1.size+1) 1 [2] _ o A Ob Ob).mono ?_;rintro e t ⟨rfl,D,x⟩;have E:=aET y [2];generalize h0:bX T (r.take T [28,2,1]) [2]=p at*;have L:Hid (bX T (r.take T [28,2,1]) [2]=p):=h0;clear h0;obtain⟨R,S⟩:=E;rw[aU.val_eq];have N:=aJ5 p;go_wp2;go_ret;refine⟨.node t.1.size 0 {a:=0,g:=-p.a} .nil .nil,rfl,by rw[d.o];rfl,eW.node (eW.nil _ _) (eW.nil _ _) (fun _=>(j.t x).size) Od ?_,by rw[d.o];exact D.alloc _,(j.t x).alloc _⟩;exact⟨_,Qk t _,rfl⟩
 have H:(q.d==28)=false:=by simpa using f
 by_cases i:q.d=2
 ·have G:(q.d==2)=true:=by simpa using i
  have d:Hid (jZ T r=(r.take T [28,2,1],uP q.a)):=by unfold Hid jZ;dsimp only;rw[k.o,if_neg f,if_pos i]
  clear i f;go_wp2;go_ret;refine⟨.node (c.1.size+1) 0 {a:=0,g:=q.a} .nil .nil,rfl,by rw[d.o];rfl,eW.node (eW.nil _ _) (eW.nil _ _) (fun _=>by have:=(e1.t v).size;omega) Od ?_,by rw[d.o];exact m.alloc _,l.alloc _⟩;exact⟨_,by have:=Qk (c.alloc (Qf #[Qc q.d,Qc q.e,.string q.f,Qc q.a] 143)) (Qf #[Qc q.a] 364);simpa using this,rfl⟩
 ·have G:(q.d==2)=false:=by simpa using i
  have d:Hid (jZ T r=(r.take T [28,2,1],nJ q)):=by unfold Hid jZ;dsimp only;rw[k.o,if_neg f,if_neg i]
  clear i f;go_wp2_with fail
  generalize c.alloc (Qf #[Qc q.d,Qc q.e,.string q.f,Qc q.a] 143)=B at*;refine(rK q B).mono ?_;rintro e s ⟨rfl,u⟩;have o:=m.below u;have j:=l.t (Ex.of_below (b:=b) u);unfold jK;go_wp2;go_ret;refine⟨.node s.1.size 0 {a:=1,h:=q.f,b:=q.e} .nil .nil,rfl,by rw[d.o];rfl,eW.node (eW.nil _ _) (eW.nil _ _) (fun _=>j.size) Od ?_,by rw[d.o];exact o.alloc _,j.alloc _⟩;exact⟨_,Qk s _,rfl,rfl,rfl⟩
theorem aMR(T:List aU)(g J b n:Nat)(E:Pr)(U:aU)(q:Bool)(r:Rd)(w:World)(A:eJ T g J b 335 E (Dm T n 2))(B:So 0 7 E)(h:eK T g J b r w)(K:Dm T n 2 (r.take T [20])):
 Calls prog 297 #[Qd b,jK U.f U.e,.bool q] w (mB T g J b w (tG T E U q r) fO):=by
 have D:Hid (eJ T g J b 335 E (Dm T n 2)):=A;have F:Hid (So 0 7 E):=B;clear A B;unfold jK;have cP:(w.alloc (Qf #[.string U.f,Qc U.e,Qc 0] 100)).1.size=w.1.size+1:=Od
 have u:=(h.alloc (Qf #[.string U.f,Qc U.e,Qc 0] 100)).alloc (Qf #[Qc 20] 141);have p:=((Ex.refl b w).alloc (Qf #[.string U.f,Qc U.e,Qc 0] 100)).alloc (Qf #[Qc 20] 141);have i:=cA (w.alloc (Qf #[.string U.f,Qc U.e,Qc 0] 100)) [20] #[Qc 20] rfl;rw[cP]at i
 have j:((w.alloc (Qf #[.string U.f,Qc U.e,Qc 0] 100)).alloc (Qf #[Qc 20] 141)).1[w.1.size]?=some (Qf #[.string U.f,Qc U.e,Qc 0] 100):=
  (On (by rw[cP];omega)).t (Qk w _)
 have x:w.1.size≠b:=by have:=h.size;omega
 go_enter func297,ntmps297
 go_wp2_with fail
 refine(iY T g J b r (w.1.size+1) 1 [20] _ u i Ob Ob).mono ?_;rintro e G ⟨rfl,H,s⟩;have k:=(s.block w.1.size (Oo j) x).t j;have f:=p.t s;clear u p i j cP;obtain⟨m0,P,Q⟩:=fK k;have O:G.drew.cell? ⟨w.1.size,0,none⟩=some (.string U.f):=m0;have C:Hid (tG T E U q r=((gQ T E (r.take T [20])).1,mk {a:=9,h:=U.f,b:=U.e,flag:=q} (gQ T E (r.take T [20])).2 .nil)):=rfl;go_wp2_with fail
 go_region_held3 (fun o=>o.cell? ⟨w.1.size,0,none⟩=some (.string U.f)/\o.cell? ⟨w.1.size,1,none⟩=some (Qc U.e)/\o.cell? ⟨w.1.size,2,none⟩=some (Qc 0))
  (first
    |(refine⟨?_,?_,?_⟩<;>assumption)
    |go_keep)
  ((refine mE rfl 300 #[Qd b] _ (by go_simp) (xH T g J b n E _ _ D.o H.drew K) ?_;rintro e c ⟨m,rfl,v,L,z,d⟩;refine⟨_,rfl,?_⟩;have y:Hid (er m=(gQ T E (r.take T [20])).2):=v;clear v;have l:=(d.block w.1.size (Oo k) x).t k;have p0:=(fK l).1;have R:=(fK l).2.1;have S:=(fK l).2.2;obtain⟨V,W,X,t,_,N⟩:=F.o (r.take T [20]);obtain⟨u7,M,h0⟩:=eY (y.o.t t) Oa;have I:Hid (aH m= .iface u7 (.pointer (some M))):=h0;rw[h0];clear h0 t))
 go_wp2;go_ret;refine⟨.node c.1.size 0 {a:=9,h:=U.f,b:=U.e,flag:=q} m .nil,rfl,?_,eW.node ((L.mono f.size).ex z ((Ex.refl b c).alloc _)) (eW.nil _ _) (fun _=>(f.drew.t d).size) Od ?_,by rw[C.o];exact z.alloc _,(f.drew.t d).alloc _⟩
 ·rw[C.o,<-y.o];rfl
 ·exact⟨_,Qk c _,⟨rfl,rfl,rfl⟩,by rw[I.o];rfl,rfl⟩
theorem aNZ(T:List aU)(g J b n:Nat)(E:Pr)(U:aU)(r:Rd)(w:World)(M:eJ T g J b 335 E (Dm T n 2))(N:bV T E)(O:So 0 7 E)(h:eK T g J b r w)(Z:0<=r.c/\r.c<=1000000)(Y:Dm T n 2 (r.a0 T [16]))(k5:Dm T n 2 ((gL T E r).1.take T [20])):
 Calls prog 301 #[Qd b,jK U.f U.e] w (mB T g J b w (lF T E U r) fO):=by
 have D:Hid (eJ T g J b 335 E (Dm T n 2)):=M;have X:Hid (bV T E):=N;have i:Hid (So 0 7 E):=O;clear M O N;unfold jK;have H:=(h.alloc (Qf #[.string U.f,Qc U.e,Qc 0] 100));have j:=((Ex.refl b w).alloc (Qf #[.string U.f,Qc U.e,Qc 0] 100));have u:(w.alloc (Qf #[.string U.f,Qc U.e,Qc 0] 100)).1[w.1.size]?=some (Qf #[.string U.f,Qc U.e,Qc 0] 100):=Qk w _;have s:w.1.size≠b:=by have:=h.size;omega
 go_enter func301,ntmps301
 go_wp2_with fail
 refine(aFR T g J b n E r _ D.o X.o i.o H Z Y).mono ?_;rintro e c ⟨A,rfl,R,Q,I,G⟩;have V:Hid (er A=(gL T E r).2):=R;obtain⟨xa,xx,xy,L,_,a5⟩:=i.o (r.a0 T [16]);obtain⟨u3,p3,o⟩:=eY (V.o.t L) Oa;have k7:Hid (aH A= .iface u3 (.pointer (some p3))):=o;rw[o];clear o L R;have v:=(G.block w.1.size (Oo u) s).t u;have p:=I.alloc (Qf #[Qc 20] 141);have k:=(Ex.refl b c).alloc (Qf #[Qc 20] 141);have W:=cA c [20] #[Qc 20] rfl;have x:(c.alloc (Qf #[Qc 20] 141)).1[w.1.size]?=_:=(On (Oo v)).t v;go_wp2_with fail
 refine(iY T g J b _ c.1.size 1 [20] _ p W Ob Ob).mono ?_;rintro e F ⟨rfl,q,l⟩;have y:=(l.block w.1.size (Oo x) s).t x;have a2:=((Q.mono j.size).ex I k).ex p l;have m:=((j.t G).t k).t l;obtain⟨m0,m1,m2⟩:=fK y;have a7:F.drew.cell? ⟨w.1.size,0,none⟩=some (.string U.f):=m0;have P:Hid (lF T E U r=((gQ T E ((gL T E r).1.take T [20])).1,mk {a:=10,h:=U.f,b:=U.e} (gL T E r).2 (gQ T E ((gL T E r).1.take T [20])).2)):=rfl;clear H j u v x p k W Q;go_wp2_with fail
 go_region_held3 (fun C=>C.cell? ⟨w.1.size,0,none⟩=some (.string U.f)/\C.cell? ⟨w.1.size,1,none⟩=some (Qc U.e)/\C.cell? ⟨w.1.size,2,none⟩=some (Qc 0))
  (first
    |(refine⟨?_,?_,?_⟩<;>assumption)
    |go_keep)
  ((refine mE rfl 300 #[Qd b] _ (by go_simp) (xH T g J b n E _ _ D.o q.drew k5) ?_;rintro e d ⟨B,rfl,k0,a3,t,f⟩;refine⟨_,rfl,?_⟩;have S:Hid (er B=(gQ T E ((gL T E r).1.take T [20])).2):=k0;clear k0;have z:=(f.block w.1.size (Oo y) s).t y;have p0:=(fK z).1;have p1:=(fK z).2.1;have p2:=(fK z).2.2;obtain⟨ya,yx,yy,K,_,a6⟩:=i.o ((gL T E r).1.take T [20]);obtain⟨u7,p7,h0⟩:=eY (S.o.t K) Oa;have k6:Hid (aH B= .iface u7 (.pointer (some p7))):=h0;rw[h0];clear h0 K))
 go_wp2;go_ret;have a4:=(a2.ex q (Ex.refl b F).drew).ex q.drew f;refine⟨.node d.1.size 0 {a:=10,h:=U.f,b:=U.e} A B,rfl,?_,eW.node (a4.ex t ((Ex.refl b d).alloc _)) ((a3.mono m.size).ex t ((Ex.refl b d).alloc _)) (fun _=>(m.drew.t f).size) Od ?_,by rw[P.o];exact t.alloc _,(m.drew.t f).alloc _⟩
 ·rw[P.o,<-S.o,<-V.o];rfl
 ·exact⟨_,Qk d _,⟨rfl,rfl,rfl⟩,by rw[k7.o];rfl,by rw[k6.o];rfl,rfl⟩
theorem eK.j0{T:List aU}{g J b:Nat}{r:Rd}{w:World}(h:eK T g J b r w){k:Nat}{c:Array Value}{t:TypeId}(a:w.1[k]?=some (.cells c t (0,0)))(f:t≠145)(i:t≠143)(o:Nat)(v:Value):
 eK T g J b r (w.setCell ⟨k,o,none⟩ v):=by
 refine h.setOther ?_ ?_ o v
 ·intro e;rw[e,h.blk]at a
  grind
 ·obtain⟨d,j,_⟩:=h.row
  grind
theorem eW.set{H k:Nat}{w:World}{t:Tr}(h:eW H w t)(a:fN k t)(o:Nat)(v:Value):eW H (w.setCell ⟨k,o,none⟩ v) t:=h.but (by grind[Below.heap_setCell]) a
theorem aYH(T:List aU)(g J b n:Nat)(C B:Pr)(r:Rd)(w:World)(U:eJ T g J b 299 C (Dm T n 5))(y6:bV T C)(k6:So 7 9 C)(S:eJ T g J b 192 B (Dm T n 6))(y7:bV T B)(k7:SoL B)(h:eK T g J b r w)(H:Dm T n 6 r):
 Calls prog 298 #[Qd b] w (mB T g J b w (ifP T C B r) fO):=by
 have HC:Hid (eJ T g J b 299 C (Dm T n 5)):=U;have y9:Hid (So 7 9 C):=k6;have O:Hid (eJ T g J b 192 B (Dm T n 6)):=S;have y1:Hid (SoL B):=k7;have a1:=y6 r h.lt;have Q:=y7 _ a1.lt;have y5:Dm T n 5 r:=by obtain⟨b3,a7,a8⟩:=H;exact⟨Oa,a7,a8⟩
 have y4:Dm T n 6 (C r).1:=H.adv a1;have a3:=fF h.ends Q.lt (show aM [8] 0=false by decide);have y3:Dm T n 6 ((B (C r).1).1.b0 T [8]):=H.adv ((a1.t Q).t a3);clear U k6 S k7;go_enter func298,ntmps298
 go_wp2_with fail
 refine(HC.o r w h y5).mono ?_;rintro e W1 ⟨u,rfl,k4,a5,R,e1⟩;have F:Hid (er u=(C r).2):=k4;obtain⟨xa,xx,xy,k0,_,a9⟩:=y9.o r;obtain⟨u1,f,D⟩:=eY (F.o.t k0) Oa;have k9:Hid (aH u= .iface u1 (.pointer (some f))):=D;rw[D];clear D k0 k4;go_wp2_with fail
 refine(O.o _ W1 R y4).mono ?_;rintro e c ⟨l,rfl,k2,Y,p,x⟩;have E:Hid (er l=(B (C r).1).2):=k2;obtain⟨ao,d,cq,A⟩:=lM (t:=l) (by rw[E.o];exact y1.o _);have k8:Hid (aH l= .slice ao d cq):=A;rw[A];clear A k2;have X:=a5.ex R x;have N:(c.alloc (Qf #[.iface u1 (.pointer (some f)),.slice ao d cq,.slice none 0 0] 337)).1.size=c.1.size+1:=Od
 have q:=(p.alloc (Qf #[.iface u1 (.pointer (some f)),.slice ao d cq,.slice none 0 0] 337)).alloc (Qf #[Qc 8] 141);have y:=((Ex.refl b c).alloc (Qf #[.iface u1 (.pointer (some f)),.slice ao d cq,.slice none 0 0] 337)).alloc (Qf #[Qc 8] 141);have I:=cA (c.alloc (Qf #[.iface u1 (.pointer (some f)),.slice ao d cq,.slice none 0 0] 337)) [8] #[Qc 8] rfl;rw[N]at I
 have K:((c.alloc (Qf #[.iface u1 (.pointer (some f)),.slice ao d cq,.slice none 0 0] 337)).alloc (Qf #[Qc 8] 141)).1[c.1.size]?=some (Qf #[.iface u1 (.pointer (some f)),.slice ao d cq,.slice none 0 0] 337):=
  (On (by rw[N];omega)).t (Qk c _)
 have k5:c.1.size≠b:=by have:=p.size;omega
 have o1:=X.o (k:=c.1.size) Ol;have o2:=Y.o (k:=c.1.size) Ol;go_wp2_with fail
 refine(oT T g J b _ (c.1.size+1) 1 [8] _ q I Ob Ob).mono ?_;rintro e P ⟨rfl,i,m⟩;have s:=(m.block c.1.size (Oo K) k5).t K;have V:=(X.ex p y).ex q m;have W:=(Y.ex p y).ex q m;have z:=((e1.t x).t y).t m;have G:w.1.size<=c.1.size:=(e1.t x).size;clear I N q K;cases hs:aF T (B (C r).1).1 [8]
 ·have y2:(B (C r).1).1.b0 T [8]=(B (C r).1).1:=by unfold Rd.b0;rw[hs];rfl
  rw[y2]at i;have j:Hid (ifP T C B r=((B (C r).1).1,mk {a:=11} (C r).2 (mk {a:=18} (B (C r).1).2 .nil))):=by unfold Hid ifP;dsimp only;rw[hs];rfl
  go_wp2;go_ret;refine⟨.node c.1.size 0 {a:=11} u (.node 0 0 {a:=18} l .nil),rfl,?_,eW.node V (eW.node (W.mono e1.size) (eW.nil _ _) (fun M=>absurd rfl M.2.1) Od trivial) (fun _=>G) Od ?_,by rw[j.o];exact i,z⟩
  ·rw[j.o,<-F.o,<-E.o];rfl
  ·exact⟨_,s,by rw[k9.o];rfl,_,_,_,_,_,rfl,by rw[k8.o];rfl,rfl⟩
 ·have j:Hid (ifP T C B r=((B ((B (C r).1).1.b0 T [8])).1,mk {a:=11} (C r).2 (mk {a:=18} (B (C r).1).2 (B ((B (C r).1).1.b0 T [8])).2))):=by unfold Hid ifP;dsimp only;rw[hs];rfl
  go_wp2_with fail
  refine(O.o _ P i y3).mono ?_;rintro e W5 ⟨v,rfl,k1,Z,h5,o⟩;have y0:Hid (er v=(B ((B (C r).1).1.b0 T [8])).2):=k1;obtain⟨a2,a6,a4,h0⟩:=lM (t:=v) (by rw[y0.o];exact y1.o _);have y8:Hid (aH v= .slice a2 a6 a4):=h0;rw[h0];clear h0 k1;have L:=(o.block c.1.size (Oo s) k5).t s;obtain⟨m0,m1,m2,mf⟩:=sM L;have b2:=mf 2;have l4:c.1.size < P.1.size:=(Oo s);have o5:=Z.fresh.notIn l4;go_wp2;go_ret;refine⟨.node c.1.size 0 {a:=11} u (.node 0 0 {a:=18} l v),rfl,?_,eW.node ((V.ex i o).set o1 _ _) (eW.node (((W.ex i o).mono e1.size).set o2 _ _) ((Z.mono z.size).set o5 _ _) (fun M=>absurd rfl M.2.1) Od trivial) (fun _=>G) Od ?_,by rw[j.o];exact h5.j0 L Ob Ob _ _,(z.t o).j0 G _ _⟩
  ·rw[j.o,<-F.o,<-E.o,<-y0.o];rfl
  ·exact⟨_,aI _ L,by rw[k9.o];rfl,_,_,_,_,_,rfl,by rw[k8.o];rfl,by rw[y8.o];rfl⟩
end Go.Proofs.YtikffmloeifkpaaGreatDoor
