/- Contracts. -/
import Derived.Test.YtikffmloeifkpaaGreatDoorR06
import Derived.Deep.LoopGhost
set_option maxHeartbeats 4000000
set_option maxRecDepth 100000
namespace Go.Proofs.YtikffmloeifkpaaGreatDoor
open Go.RowKit Go.Lib Go.Deep Tryz
def jL(T:List Tok)(g J b:Nat)(w:World)(q:Rd × Tr)(val:Tr->Value):Ending->World->Prop:=
 fun e w'=>∃ t,e= .returned (val t)/\er t=q.2/\New w.1.size w' t/\RdW T g J b q.1 w'/\Ex b w w'
def dI(T:List Tok)(g J b f:Nat)(S:Pr)(D:Rd->Prop):Prop:=
 ∀ r w,RdW T g J b r w->D r->Calls prog f #[Qd b] w (jL T g J b w (S r) bCH)
def Dm(T:List Tok)(n q:Nat)(r:Rd):Prop:=(T.length - r.b)*16+q < n/\0<=r.c/\r.c+n<=1000000
theorem Dm.adv{T:List Tok}{n q:Nat}{r b:Rd}(h:Dm T n q r)(a:Adv T r b):Dm T n q b:=by
 obtain⟨e,c,d⟩:=h;have:=a.ge;exact⟨Oa,by rw[a.c];exact c,by rw[a.c];exact d⟩
def fv(f b:Nat):Value:= .func (Fn.func f) #[Qd b] #[]
theorem qS{T:List Tok}{r:Rd}{O:List Int}(a:aN T r O=true):(r.take T O).b=r.b+1:=by
 unfold Rd.take;rw[if_pos a];rfl
theorem lW{T:List Tok}{r:Rd}{O:List Int}(a:aN T r O=true):(r.C T O).b=r.b+1:=by
 unfold Rd.C;rw[if_pos a];rfl
theorem RdW.ends{T:List Tok}{g J b:Nat}{r:Rd}{w:World}(h:RdW T g J b r w):cY T:=h.last
theorem aBF(T:List Tok)(g J b f n z k:Nat)(S:Pr)(G:List Int)(P:Nat)(r:Rd)(w:World)(hf:∀ args wx,(callFunc f args).run prog wx= .ok (.enter f args) wx)(hS:dI T g J b f S (Dm T n z))(hG:aZ T S)(hO:So 0 7 S)(h:RdW T g J b r w)(hd:Dm T n z r)(hk:bCN w k G)(y:k≠b)(hl:G.length<=100)(h0:aQ G 0=false):
 Calls prog 352 #[Qd b,fv f b,Qe k G.length P] w (jL T g J b w (lA T S G n r) bCH):=by
 have M:Hid (dI T g J b f S (Dm T n z)):=hS;have A:Hid (aZ T S):=hG;have K:Hid (So 0 7 S):=hO;clear hS hG hO;unfold fv;go_enter func352,ntmps352
 go_wp2_with fail
 refine(M.o r w h hd).mono ?_;rintro e w1 ⟨t,rfl,ht,it,h1,e1⟩;have N:Hid (er t=(S r).2):=ht;clear ht;have y5:bCN w1 k G:=hk.ex e1 y;have a1:=A.o r h.lt;have y1:=hd.adv a1;go_wp2_with fail
 go_loopg [7] n (fun m a9 wr=>∃ (U:Rd) (c:Tr),a9=bCH c/\New w.1.size wr c/\RdW T g J b U wr/\Ex b w wr/\bCN wr k G/\Dm T n z U/\T.length - U.b<=m/\(∃ a a2 a3,er c=mk a a2 a3/\0<=a.a/\a.a < 7)/\bCL T S G m U (er c)=lA T S G n r)
 case atStart=>
  refine⟨_,t,rfl,it,h1,e1,y5,y1,?_,?_,?_⟩
  ·have:=y1.1;omega
  ·rw[N.o];exact K.o r
  ·rw[N.o];rfl
 case round=>
  obtain⟨U,c,rfl,a8,F,ec,k1,k3,hm,y3,h3⟩:=hrel;have L:Hid (bCL T S G gk U (er c)=lA T S G n r):=h3;obtain⟨sa,sx,sy,Z,_,b2⟩:=y3;obtain⟨v,s,X⟩:=aUJ Z Oa;have O:Hid (bCH c= .iface v (.pointer (some s))):=X;have HE:Hid (er c=mk sa sx sy):=Z;rw[X];clear h3 X Z;go_wp2_with fail
  refine(bMD T g J b U k P G wr F k1 hl).mono ?_;rintro e w2 ⟨rfl,p,rfl⟩;have j:=F.drewN p;have R:=ec.drewN p;have Y:=a8.ex F ((Ex.refl b wr).drewN p);have k2:bCN (wr.drewN p) k G:=k1.ex ((Ex.refl b wr).drewN p) y;generalize wr.drewN p=W2 at*;clear F a8 ec k1;cases hs:aN T U G
  ·have h7:Hid (lA T S G n r=(U,er c)):=by
    unfold Hid;rw[<-L.o];cases gk with
    |zero=>rfl
    |succ gk=>show(if _ then _ else _)=_;rw[if_neg (by rw[hs];decide)]
   go_wp2;go_ret;exact⟨c,by rw[O.o];rfl,by rw[h7.o],Y,by rw[h7.o];exact j,R⟩
  ·go_wp2_with fail
   refine(fG T g J b U k P G W2 j k2 hl h0).mono ?_;rintro e d ⟨rfl,E,B⟩;have a6:=Y.ex j B;have k8:=k2.ex B y;have C:=R.t B;have x:=aP j.ends j.lt h0;have y0:=k3.adv x;have k7:=qS hs;have HN:Hid ((U.take T G).b=U.b+1):=k7;have b1:=j.lt;generalize hq:cN T U G=q at*;have HQ:Hid (cN T U G=q):=hq;clear k7 hq;rw[Tok.val_eq];have V:=(E.alloc (Qf #[Qc q.d,Qc q.e,.string q.f,Qc q.a] 143)).drew;have l:=((Ex.refl b d).alloc (Qf #[Qc q.d,Qc q.e,.string q.f,Qc q.a] 143)).drew;have H:(d.alloc (Qf #[Qc q.d,Qc q.e,.string q.f,Qc q.a] 143)).drew.1[d.1.size]?=some (Qf #[Qc q.d,Qc q.e,.string q.f,Qc q.a] 143):=Qk d _;have y4:d.1.size≠b:=by have:=E.size;omega
   go_wp2_with fail
   have m0:=(dG H).1;have m1:=(dG H).2.1
   go_region_held3 (fun w'=>w'.cell? ⟨d.1.size,0,none⟩=some (Qc q.d)/\w'.cell? ⟨d.1.size,1,none⟩=some (Qc q.e))
    (first
      |(refine⟨?_,?_⟩<;>assumption)
      |go_keep)
    ((refine eC rfl f #[Qd b] _ (by go_simp) (M.o _ _ V y0) ?_;rintro e i ⟨I,rfl,k6,a7,D,o⟩;refine⟨_,rfl,?_⟩;have k4:Hid (er I=(S (U.take T G)).2):=k6;clear k6;have n5:=(o.block d.1.size (Oo H) y4).t H;have p0:=(dG n5).1;have p1:=(dG n5).2.1;obtain⟨ya,yx,yy,k5,_,b3⟩:=K.o (U.take T G);obtain⟨u5,u,W⟩:=aUJ (k4.o.t k5) Oa;have y2:Hid (bCH I= .iface u5 (.pointer (some u))):=W;rw[W];clear W k5))
   obtain⟨m,rfl⟩:=Oj gk;have a5:=x.t (A.o _ x.lt);have k9:=k3.adv a5;have a4:=(a6.ex E l).ex V o;have Q:=(Ex.refl b i).alloc (Qf #[Qc q.d,Qc q.e,.iface v (.pointer (some s)),.iface u5 (.pointer (some u)),Qc 0] 405)
   have fin:∃ (U:Rd) (c:Tr),Value.iface 403 (Qd i.1.size)=bCH c/\New w.1.size (i.alloc (Qf #[Qc q.d,Qc q.e,.iface v (.pointer (some s)),.iface u5 (.pointer (some u)),Qc 0] 405)) c/\
    RdW T g J b U (i.alloc (Qf #[Qc q.d,Qc q.e,.iface v (.pointer (some s)),.iface u5 (.pointer (some u)),Qc 0] 405))/\
    Ex b w (i.alloc (Qf #[Qc q.d,Qc q.e,.iface v (.pointer (some s)),.iface u5 (.pointer (some u)),Qc 0] 405))/\
    bCN (i.alloc (Qf #[Qc q.d,Qc q.e,.iface v (.pointer (some s)),.iface u5 (.pointer (some u)),Qc 0] 405)) k G/\Dm T n z U/\T.length - U.b<=m/\
    (∃ a a2 a3,er c=mk a a2 a3/\0<=a.a/\a.a < 7)/\bCL T S G m U (er c)=lA T S G n r:=by
    refine⟨_,.node i.1.size 0 {a:=6,op:=q.d,e:=q.e} c I,rfl,New.node (a4.ex D Q) ((a7.ex D Q).mono (C.t l).size) (fun _=>((C.t l).t o).size) Od ?_,D.alloc _,((C.t l).t o).alloc _,((k8.ex l y).ex o y).alloc _,k9,?_,⟨_,_,_,rfl,Od,Od⟩,?_⟩
    ·exact⟨_,Qk i _,rfl,rfl,by rw[O.o];rfl,by rw[y2.o];rfl,rfl⟩
    ·have:=(A.o _ x.lt).ge;have:=HN.o;omega
    ·rw[<-L.o];show _=(if _ then _ else _);rw[if_pos hs,HQ.o];show bCL T S G m _ (.node 0 0 _ (er c) (er I))=_;rw[k4.o];rfl
   clear L M A K N O HE HN HQ k4 y2 Y a6 a7 a4 j E V D B l o Q x a5 y0 k9 k3 R C k2 k8;go_wp2;go_roundg m
   case rel=>exact fin
   case measure=>omega
theorem aAZ(T:List Tok)(g J b f n q:Nat)(S:Pr)(op:Int)(r:Rd)(w:World)(hf:∀ args wx,(callFunc f args).run prog wx= .ok (.enter f args) wx)(hS:dI T g J b f S (Dm T n q))(hG:aZ T S)(hO:So 7 9 S)(h:RdW T g J b r w)(hd:Dm T n q r)(X:aQ [op] 0=false):
 Calls prog 333 #[Qd b,Qc op,fv f b] w (jL T g J b w (kK T S op n r) bCH):=by
 have B:Hid (dI T g J b f S (Dm T n q)):=hS;have s:Hid (aZ T S):=hG;have z:Hid (So 7 9 S):=hO;clear hS hG hO;unfold fv;go_enter func333,ntmps333
 go_wp2_with fail
 refine(B.o r w h hd).mono ?_;rintro e w1 ⟨t,rfl,ht,it,h1,e1⟩;have C:Hid (er t=(S r).2):=ht;clear ht;have a1:=s.o r h.lt;have k8:=hd.adv a1;go_wp2_with fail
 go_loopg [7] n (fun m a6 wr=>∃ (U:Rd) (c:Tr),a6=bCH c/\New w.1.size wr c/\RdW T g J b U wr/\Ex b w wr/\Dm T n q U/\T.length - U.b<=m/\(∃ a P Q,er c=mk a P Q/\7<=a.a/\a.a < 9)/\bM8 T S op m U (er c)=kK T S op n r)
 case atStart=>
  refine⟨_,t,rfl,it,h1,e1,k8,?_,?_,?_⟩
  ·have:=k8.1;omega
  ·rw[C.o];exact z.o r
  ·rw[C.o];rfl
 case round=>
  obtain⟨U,c,rfl,a5,l,W,K,hm,y0,Y⟩:=hrel;have A:Hid (bM8 T S op gk U (er c)=kK T S op n r):=Y;obtain⟨sa,sx,sy,I,_,a7⟩:=y0;obtain⟨u,p,L⟩:=aUJ I Oa;have D:Hid (bCH c= .iface u (.pointer (some p))):=L;have HE:Hid (er c=mk sa sx sy):=I;rw[L];clear Y L I;have N:=l.alloc (Qf #[Qc op] 141);have E:=(Ex.refl b wr).alloc (Qf #[Qc op] 141);have a3:=a5.ex l E;have k5:=bM wr [op] #[Qc op] rfl;go_wp2_with fail
  refine(lL T g J b U wr.1.size 1 [op] _ N k5 Od X).mono ?_;rintro e W3 ⟨rfl,k,F⟩;have M:=a3.ex N F;have j:=(W.t E).t F;have h8:=l.lt;have i:=dU l.ends h8 X;have k7:=K.adv i;cases hs:aN T U [op]
  ·have k4:U.C T [op]=U:=by unfold Rd.C;rw[hs];rfl
   rw[k4]at k
   have Z:Hid (kK T S op n r=(U,er c)):=by
    unfold Hid;rw[<-A.o];cases gk with
    |zero=>rfl
    |succ gk=>show(if _ then _ else _)=_;rw[if_neg (by rw[hs];decide)]
   clear k4;go_wp2;go_ret;exact⟨c,by rw[D.o];rfl,by rw[Z.o],M,by rw[Z.o];exact k,j⟩
  ·have R:Hid ((U.C T [op]).b=U.b+1):=lW hs;go_wp2_with fail
   refine(B.o _ _ k k7).mono ?_;rintro e d ⟨y,rfl,k3,a4,x,v⟩;have O:Hid (er y=(S (U.C T [op])).2):=k3;obtain⟨ya,yx,yy,k2,_,a8⟩:=z.o (U.C T [op]);obtain⟨u5,o,H⟩:=aUJ (O.o.t k2) Oa;have k9:Hid (bCH y= .iface u5 (.pointer (some o))):=H;rw[H];clear H k2 k3;obtain⟨m,rfl⟩:=Oj gk;have V:=i.t (s.o _ i.lt);have k6:=K.adv V;have a2:=M.ex k v;have G:=(Ex.refl b d).alloc (Qf #[Qc op,.iface u (.pointer (some p)),.iface u5 (.pointer (some o))] 409)
   have fin:∃ (U:Rd) (c:Tr),Value.iface 407 (Qd d.1.size)=bCH c/\New w.1.size (d.alloc (Qf #[Qc op,.iface u (.pointer (some p)),.iface u5 (.pointer (some o))] 409)) c/\
    RdW T g J b U (d.alloc (Qf #[Qc op,.iface u (.pointer (some p)),.iface u5 (.pointer (some o))] 409))/\
    Ex b w (d.alloc (Qf #[Qc op,.iface u (.pointer (some p)),.iface u5 (.pointer (some o))] 409))/\Dm T n q U/\T.length - U.b<=m/\
    (∃ a P Q,er c=mk a P Q/\7<=a.a/\a.a < 9)/\bM8 T S op m U (er c)=kK T S op n r:=by
    refine⟨_,.node d.1.size 0 {a:=8,op:=op} c y,rfl,New.node (a2.ex x G) ((a4.ex x G).mono j.size) (fun _=>(j.t v).size) Od ?_,x.alloc _,(j.t v).alloc _,k6,?_,⟨_,_,_,rfl,Od,Od⟩,?_⟩
    ·exact⟨_,Qk d _,rfl,by rw[D.o];rfl,by rw[k9.o];rfl⟩
    ·have:=(s.o _ i.lt).ge;have:=R.o;omega
    ·rw[<-A.o];show _=(if _ then _ else _);rw[if_pos hs];show bM8 T S op m _ (.node 0 0 _ (er c) (er y))=_;rw[O.o];rfl
   clear A B s z C D HE R O k9 a3 M a4 a2 N k x E F v G i V k7 k6 K j k5 l a5 W;go_wp2;go_roundg m
   case rel=>exact fin
   case measure=>omega
theorem sU(T:List Tok)(g J b f n B:Nat)(S:Pr)(r:Rd)(w:World)(hf:∀ args wx,(callFunc f args).run prog wx= .ok (.enter f args) wx)(U:dI T g J b f S (Dm T n B))(P:aZ T S)(Q:So 0 7 S)(h:RdW T g J b r w)(V:Dm T n B r):
 Calls prog 244 #[Qd b,fv f b] w (jL T g J b w (iJ T S r) cB):=by
 have E:Hid (dI T g J b f S (Dm T n B)):=U;have HG:Hid (aZ T S):=P;have D:Hid (So 0 7 S):=Q;clear U P Q;unfold fv;have c0:=h.c0;have c1:=h.c1;have t1:=h.tok1;have a7:(r.b:Int) < (T.length:Int):=by have:=h.lt;omega
 have a6:(T.length:Int)<=5000:=by have:=h.few;omega
 generalize R:(dD T r.b).e=A at*;have HP:Hid ((dD T r.b).e=A):=R;clear R;go_enter func244,ntmps244
 go_wp2;go_quiet (fail)
 go_wp2_with fail
 have hw:=h.drewN nq;have l:=(Ex.refl b w).drewN nq;clear c0 c1 t1;generalize w.drewN nq=W0 at*;refine(E.o r W0 hw V).mono ?_;rintro e m ⟨t,rfl,X,it,u,p⟩;have F:Hid (er t=(S r).2):=X;clear X;have G:=HG.o r h.lt;obtain⟨sa,sx,sy,N,_,a8⟩:=D.o r;obtain⟨a1,Y,y⟩:=aUJ (F.o.t N) Oa;have HV:Hid (bCH t= .iface a1 (.pointer (some Y))):=y;rw[y];clear y N;have I:=u.alloc (Qf #[Qc 23,Qc 24,Qc 25,Qc 26,Qc 21,Qc 22] 141);have d:=(Ex.refl b m).alloc (Qf #[Qc 23,Qc 24,Qc 25,Qc 26,Qc 21,Qc 22] 141);have k1:=bM m iR #[Qc 23,Qc 24,Qc 25,Qc 26,Qc 21,Qc 22] rfl;go_wp2_with fail
 refine(fG T g J b (S r).1 m.1.size 6 iR _ I k1 Ob Ob).mono ?_;rintro e c ⟨rfl,v,i⟩;have a4:=(it.ex u d).ex I i;have a3:=G.t (aP u.ends G.lt (show aQ iR 0=false by decide));have k2:=V.adv a3;generalize W:cN T (S r).1 iR=q at*;have HQ:Hid (cN T (S r).1 iR=q):=W;clear W;rw[Tok.val_eq];have K:=(v.alloc (Qf #[Qc q.d,Qc q.e,.string q.f,Qc q.a] 143)).drew;have j:=((Ex.refl b c).alloc (Qf #[Qc q.d,Qc q.e,.string q.f,Qc q.a] 143)).drew;have z:(c.alloc (Qf #[Qc q.d,Qc q.e,.string q.f,Qc q.a] 143)).drew.1[c.1.size]?=some (Qf #[Qc q.d,Qc q.e,.string q.f,Qc q.a] 143):=Qk c _;have k0:c.1.size≠b:=by have:=v.size;omega
 go_wp2_with fail
 have m0:=(dG z).1
 go_region_held3 (fun w'=>w'.cell? ⟨c.1.size,0,none⟩=some (Qc q.d))
  (first
    |assumption
    |go_keep)
  ((refine eC rfl f #[Qd b] _ (by go_simp) (E.o _ _ K k2) ?_;rintro e o ⟨C,rfl,M,a5,x,k⟩;refine⟨_,rfl,?_⟩;have O:Hid (er C=(S ((S r).1.take T iR)).2):=M;clear M;have n5:=(k.block c.1.size (Oo z) k0).t z;have p0:=(dG n5).1;obtain⟨ya,yx,yy,L,_,a9⟩:=D.o ((S r).1.take T iR);obtain⟨u5,Z,s⟩:=aUJ (O.o.t L) Oa;have k3:Hid (bCH C= .iface u5 (.pointer (some Z))):=s;rw[s];clear s L))
 go_wp2;go_ret;have a2:=(a4.ex v j).ex K k;have H:=(Ex.refl b o).alloc (Qf #[Qc q.d,Qc A,.iface a1 (.pointer (some Y)),.iface u5 (.pointer (some Z))] 271);refine⟨.node o.1.size 0 {a:=7,op:=q.d,e:=A} t C,rfl,?_,New.node ((a2.ex x H).mono l.size) ((a5.ex x H).mono ((((l.t p).t d).t i).t j).size) (fun _=>(((((l.t p).t d).t i).t j).t k).size) Od ?_,x.alloc _,(((((l.t p).t d).t i).t j).t k).alloc _⟩
 ·unfold iJ;rw[HQ.o,HP.o,<-F.o,<-O.o];rfl
 ·exact⟨_,Qk o _,rfl,rfl,by rw[HV.o];rfl,by rw[k3.o];rfl⟩
def cP:Tr->List Value
 | .nil=>[]
 | .node b o a l r=>if a.a=19 then[.string a.h,.int .i64 a.b,.int .i64 a.c]else if a.a=7 then[cB (.node b o a l r)]else[bCH (.node b o a l r)]
def bLF:Tr->List Value
 | .nil=>[]
 | .node _ _ _ e r=>cP e++bLF r
def app:Tr->Tr->Tr
 | .nil,y=>y
 | .node b o a e r,y=> .node b o a e (app r y)
def lD(l e:Tr):Tr:=app l (cons e .nil)
def jZ(sz:Nat):Tr->Prop
 | .nil=>True
 | .node _ _ a e r=>a.a=15/\(∃ b o a l q,e= .node b o a l q/\(a.a=19↔sz=3))/\(cP e).length=sz/\jZ sz r
theorem vJ(l:Tr):app l .nil=l:=by
 induction l with
 |nil=>rfl
 |node b o a e r _ ih=>simp only[app,ih]
theorem pN(l e r:Tr):app (lD l e) r=app l (cons e r):=by
 induction l with
 |nil=>rfl
 |node b o a x q _ ih=>grind[lD,app]
theorem aNK(l m:Tr):aO (app l m)=aO l+aO m:=by
 induction l with
 |nil=>simp[app,aO]
 |node b o a x q _ ih=>grind[app,aO]
theorem iN(l e:Tr):aO (lD l e)=aO l+1:=by unfold lD;rw[aNK];rfl
theorem aBV(l m:Tr):bLF (app l m)=bLF l++bLF m:=by
 induction l with
 |nil=>rfl
 |node b o a x q _ ih=>grind[app,bLF]
theorem jT(l e:Tr):bLF (lD l e)=bLF l++cP e:=by grind[lD,cons,mk,bLF,aBV]
theorem aT3(l m:Tr):er (app l m)=app (er l) (er m):=by
 induction l with
 |nil=>rfl
 |node b o a x q _ ih=>simp only[app,er,ih]
theorem sE(l e:Tr):er (lD l e)=lD (er l) (er e):=by unfold lD;rw[aT3];rfl
theorem aQT(w:World)(l m:Tr):(∀ c,jZ c l->IsT w l->IsT w m->IsT w (app l m)):=by
 induction l with
 |nil=>intro c _ _ h;exact h
 |node b o a x q _ ih=>
  intro c d h e;refine⟨h.1,ih c d.2.2.2 h.2.1 e,?_⟩;unfold Own;rw[d.1];trivial
theorem aNT{w:World}{l e:Tr}{a:Nat}(c:jZ a l)(b:IsT w l)(d:IsT w e):IsT w (lD l e):=aQT w l _ a c b Qj
theorem aJ3{d:Nat}{l m:Tr}(c:jZ d l)(e:jZ d m):jZ d (app l m):=by
 induction l with
 |nil=>exact e
 |node b o a x q _ ih=>exact⟨c.1,c.2.1,c.2.2.1,ih c.2.2.2⟩
theorem mY{c:Nat}{l e:Tr}(d:jZ c l)(g:∃ b o a l q,e= .node b o a l q/\(a.a=19↔c=3))(f:(cP e).length=c):jZ c (lD l e):=aJ3 d Qj
theorem uG(l e:Tr):lD l e≠ .nil:=by cases l<;>intro h<;>cases h
theorem aMP{s:Nat}{cs:Array Value}:∀ (l:Tr) (o:Nat) (n:List Value),jZ s l->n.length=o*s->(∀ (j:Nat) (v:Value),(n++bLF l)[j]?=some v->cs[j]?=some v)->jO cs o l:=by
 intro l
 induction l with
 |nil=>intro o n _ _ _;trivial
 |node b q a e r _ ih=>
  intro o n A B y;obtain⟨_,⟨d,g,c,f,h,rfl,w⟩,x,z⟩:=A
  have i:∀ (j:Nat) (v:Value),(cP (.node d g c f h))[j]?=some v->cs[o*s+j]?=some v:=by
   grind[cP,bLF]
  refine⟨?_,ih (o+1) (n++cP (.node d g c f h)) z Qg ?_⟩
  ·show(if c.a=19 then Nam cs (o*3) c else if c.a=7 then cs[o]?=some (cB (.node d g c f h))else cs[o]?=some (bCH (.node d g c f h)))
   by_cases k:c.a=19
   ·have hsz:=w.1 k;subst hsz;rw[if_pos k];have m:cP (.node d g c f h)=[.string c.h,Qc c.b,Qc c.c]:=if_pos k;rw[m]at i;exact⟨i 0 _ rfl,Qh,Qh⟩
   ·rw[if_neg k]
    have u:s=1:=by
     rw[<-x];show(if c.a=19 then[Value.string c.h,Qc c.b,Qc c.c]else if c.a=7 then[cB (.node d g c f h)]else[bCH (.node d g c f h)]).length=1
     grind
    subst u
    by_cases p:c.a=7
    ·rw[if_pos p];have m:cP (.node d g c f h)=[cB (.node d g c f h)]:=(if_neg k).t (if_pos p);rw[m]at i;simpa using i 0 _ rfl
    ·rw[if_neg p];have m:cP (.node d g c f h)=[bCH (.node d g c f h)]:=(if_neg k).t (if_neg p);rw[m]at i;simpa using i 0 _ rfl
  ·intro j v t;refine y j v ?_;rw[List.append_assoc]at t;exact t
theorem bME{b:Nat}{w w':World}{a:Nat}{e:TypeId}{size n:Nat}{v:Value}{d:List Value}(h:w.ownsRow a e size v n d){c:Array Value}(o:w.1[b]?=some (.cells c 145 (0,0)))(p:e≠145)(i:Ex b w w'):w'.ownsRow a e size v n d:=by
 refine⟨h.1,?_⟩;rcases h.2 with m|⟨g,J,f,l,j,k,r⟩
 ·simp[*]
 ·refine .r ⟨g,J,f,l,j,(i.block g Qg ?_).t k,r⟩
  grind
theorem aG6{w:World}{e d g b n:Nat}{l:Tr}(j:l≠ .nil)(k:jZ d l)(hi:IsT w l)(h:w.ownsRow e (bL l) d (Qe g n b) n (bLF l)):IsT w (.node g b {a:=20} l .nil):=by
 refine⟨hi,trivial,j,?_⟩;rcases h.2 with⟨m,_⟩|⟨o,J,f,c,_,i,_,_,hsz,p⟩
 ·cases m
 ·simp only[Value.slice.injEq,Option.some.injEq,Addr.mk.injEq]at c;obtain⟨⟨rfl,_,_⟩,_,rfl⟩:=c;refine⟨f,i,aMP l 0 [] k Od ?_⟩
  grind
theorem aKB{H:Nat}{l m:Tr}(c:aUI H l)(d:aUI H m):aUI H (app l m):=by
 induction l with
 |nil=>exact d
 |node b o a x q _ ih=>exact⟨c.1,ih c.2.1,c.2.2⟩
theorem aK5{l m:Tr}(c:xJ l)(d:xJ m):xJ (app l m):=by
 induction l with
 |nil=>exact d
 |node b o a x q _ ih=>exact⟨c.1,ih c.2.1,c.2.2⟩
theorem aJN{k:Nat}{l m:Tr}(c:dV k l)(d:dV k m):dV k (app l m):=by
 induction l with
 |nil=>exact d
 |node b o a x q _ ih=>exact⟨c.1,ih c.2.1,c.2.2⟩
theorem fH{k:Nat}{l e:Tr}(b:dV k l)(a:dV k e):dV k (lD l e):=aJN b ⟨a,trivial,fun p=>absurd rfl p.1⟩
theorem New.cons{H:Nat}{w:World}{e l:Tr}(a:New H w e)(b:New H w l):New H w (cons e l):=New.node a b (fun p=>absurd rfl p.1) Od trivial
theorem New.snoc{H d:Nat}{w:World}{l e:Tr}(c:jZ d l)(b:New H w l)(a:New H w e):New H w (lD l e):=
 ⟨aNT c b.is a.is,aKB b.fresh (a.cons (New.nil H w)).fresh,aK5 b.known (a.cons (New.nil H w)).known⟩
theorem New.listed{H c g b n:Nat}{w:World}{l:Tr}(e:l≠ .nil)(f:jZ c l)(hi:New H w l)(h:w.ownsRow H (bL l) c (Qe g n b) n (bLF l)):New H w (.node g b {a:=20} l .nil):=by
 have d:=aG6 e f hi.is h;exact⟨d,⟨hi.fresh,trivial,fun _=>(h.lt g rfl).1⟩,⟨hi.known,trivial,Od⟩⟩
theorem lZ{l e:Tr}(h:l≠ .nil):bL (lD l e)=bL l:=by
 cases l with
 |nil=>trivial
 |node b o a x r=>rw[lD,app];cases x<;>rfl
def uA(T:List Tok)(g J b f:Nat)(S:Pr)(D:Rd->Prop)(val:Tr->Value):Prop:=
 ∀ r w,RdW T g J b r w->D r->Calls prog f #[Qd b] w (jL T g J b w (S r) val)
theorem qX{w:World}{a:Nat}{e:TypeId}{c:Nat}{cs:Array Value}(d:a<=w.1.size)(b:cs.size=c):(w.alloc (.cells cs e)).ownsRow a e c (Qe w.1.size 1 1) 1 cs.toList:=
 ⟨by simp[b],.r ⟨w.1.size,1,cs,rfl,d,Qk w _,Oa,Qj,Oa,by rw[Nat.one_mul,List.take_of_length_le (by simp[b])]⟩⟩
theorem aH4{t:Tr}{a:Nd}{x y:Tr}(h:er t=mk a x y):∃ p,cB t= .pointer (some p):=by
 cases t with
 |nil=>cases h
 |node b o a' l r=>exact⟨_,rfl⟩
theorem oI{t:Tr}{a:Nd}{x y:Tr}(h:er t=mk a x y):∃ b o l r,t= .node b o a l r/\er l=x/\er r=y:=by
 cases t with
 |nil=>cases h
 |node b o a' l r=>
  grind[er,mk]
theorem vU{w:World}{b n d:Nat}{e:TypeId}{v:Value}{f:List Value}(h:w.ownsRow b e d v n f)(c:0 < n):∃ g a,v= Qe g n a:=by
 obtain⟨g,a,i,_⟩:=h.form c;simp[*]
theorem uO{l:Tr}(h:l≠ .nil):0 < aO l:=by
 cases l with
 |nil=>trivial
 |node b o a x r=>simp[aO]
theorem infoEE:(prog.info? 269).map (fun i=>(i.zero,i.size,i.bytes))=some (some .nilIface,1,16):=by kernel_rfl
theorem aRJ{t:Tr}{a:Nd}{x y:Tr}(h:er t=mk a x y)(c:0<=a.a)(d:a.a < 7):cP t=[bCH t]/\bL (cons t .nil)=269/\∃ b o a l q,t= .node b o a l q/\(a.a=19↔1=3):=by
 obtain⟨b,o,l,r,rfl,_,_⟩:=oI h;refine⟨?_,?_,b,o,a,l,r,rfl,Oa⟩
 ·show(if a.a=19 then[Value.string a.h,Qc a.b,Qc a.c]else if a.a=7 then[cB (.node b o a l r)]else[bCH (.node b o a l r)])=_
  grind
 ·show(if a.a=19 then _ else if a.a=7 then _ else if a.a < 7 then _ else if a.a < 15 then _ else _)=_
  grind
theorem aK1(T:List Tok)(g J b f n I:Nat)(S:Pr)(r:Rd)(w:World)(hf:∀ args wx,(callFunc f args).run prog wx= .ok (.enter f args) wx)(hS:uA T g J b f S (Dm T n I) bCH)(hG:aZ T S)(hO:So 0 7 S)(h:RdW T g J b r w)(hd:Dm T n I r):
 Calls prog 366 #[Qd b,fv f b] w (jL T g J b w (fX T S n r) bCH):=by
 have X:Hid (uA T g J b f S (Dm T n I) bCH):=hS;have C:Hid (aZ T S):=hG;have W:Hid (So 0 7 S):=hO;clear hS hG hO;obtain⟨i0,j7,z8,z7,z6⟩:=info_parts infoEE;unfold fv;go_enter func366,ntmps366
 go_wp2_with fail
 refine(X.o r w h hd).mono ?_;rintro e w1 ⟨t,rfl,ht,it,h1,d⟩;have L:Hid (er t=(S r).2):=ht;clear ht;have a1:=C.o r h.lt;have z3:=hd.adv a1;have d3:=h.few;obtain⟨sa,sx,sy,y8,j3,j2⟩:=W.o r;obtain⟨z0,F,j5⟩:=aRJ (L.o.t y8) j3 j2;obtain⟨b1,H,z⟩:=aUJ (L.o.t y8) Oa;have HV:Hid (bCH t= .iface b1 (.pointer (some H))):=z;have V:Hid (cP t=[bCH t]):=z0;have z5:Hid (bL (cons t .nil)=269):=F;rw[z];clear z z0 F;have bML:(w1.alloc (Qf #[.iface b1 (.pointer (some H))] 269)).ownsRow w.1.size 269 1 (Qe w1.1.size 1 1) 1 [.iface b1 (.pointer (some H))]:=qX d.size rfl;go_wp2_with fail
 go_loopg [5] n (fun m c8 wr=>∃ (U:Rd) (c:Tr),wr.ownsRow w.1.size 269 1 c8 (aO c) (bLF c)/\c≠ .nil/\bL c=269/\jZ 1 c/\New w.1.size wr c/\(∀ k,c8.ownBlock=some k->dV k c)/\RdW T g J b U wr/\Ex b w wr/\Dm T n I U/\T.length - U.b<=m/\aO c<=U.b+1/\
  app (er c) (bEG T S m U).2=cons (S r).2 (bEG T S n (S r).1).2/\(bEG T S m U).1=(bEG T S n (S r).1).1)
 case atStart=>
  refine⟨_,cons t .nil,?_,?_,z5.o,⟨rfl,j5,by rw[V.o];rfl,trivial⟩,(it.ex h1 ((Ex.refl b w1).alloc _)).cons (New.nil _ _),?_,h1.alloc _,d.alloc _,z3,?_,?_,?_,rfl⟩
  ·show World.ownsRow _ _ _ _ _ 1 (cP t++[]);rw[V.o,HV.o];exact bML
  ·intro e;cases e
  ·intro k o;simp only[Value.ownBlock,Option.some.injEq]at o;subst o;exact⟨it.o Ol,trivial,fun H=>absurd rfl H.1⟩
  ·have:=z3.1;omega
  ·show 0+1<=_;omega
  ·show cons (er t) _=_;rw[L.o];rfl
 case round=>
  obtain⟨U,c,own,k9,F,hsz,b7,y9,E,ec,y3,hm,d6,h9,h0⟩:=hrel;have K:Hid (app (er c) (bEG T S gk U).2=cons (S r).2 (bEG T S n (S r).1).2):=h9;have Q:Hid ((bEG T S gk U).1=(bEG T S n (S r).1).1):=h0;have h8:Hid (bL c=269):=F;clear h9 h0 F bML;obtain⟨j,M,j1⟩:=vU own (uO k9);subst j1;have y4:=E.alloc (Qf #[Qc 18] 141);have e2:=(Ex.refl b wr).alloc (Qf #[Qc 18] 141);have b4:=b7.ex E e2;have c6:=own.alloc (Qf #[Qc 18] 141);have j6:=bM wr [18] #[Qc 18] rfl;go_wp2_with fail
  refine(lL T g J b U wr.1.size 1 [18] _ y4 j6 Ob Ob).mono ?_;rintro e Y ⟨rfl,G,Z⟩;have a3:=b4.ex y4 Z;have R:=bME c6 y4.blk Ob Z;have a2:=(ec.t e2).t Z;have y1:=E.lt;have x:=dU E.ends y1 (show aQ [18] 0=false by decide);have z2:=y3.adv x;cases hs:aN T U [18]
  ·have y7:U.C T [18]=U:=by unfold Rd.C;rw[hs];rfl
   rw[y7]at G
   have k1:bEG T S gk U=(U,.nil):=by
    cases gk with
    |zero=>rfl
    |succ gk=>show(if _ then _ else _)=_;rw[if_neg (by rw[hs];decide)]
   have l:=K.o;have v:=Q.o;rw[k1]at l v;rw[vJ]at l
   have fin:jL T g J b w (fX T S n r) bCH (.returned (Qe j (aO c) M)) Y:=by
    refine⟨.node j M {a:=20} c .nil,rfl,?_,New.listed k9 hsz a3 (by rw[h8.o];exact R),?_,a2⟩
    ·show BT.node 0 0 _ (er c) .nil=bM3 (cons (S r).2 (bEG T S n (S r).1).2);rw[l];rfl
    ·show RdW T g J b (bEG T S n (S r).1).1 Y;rw[<-v];exact G
   clear l v k1 y7 K Q;go_wp2;go_ret;exact fin
  ·have HN:Hid ((U.C T [18]).b=U.b+1):=lW hs;go_wp2_with fail
   refine(X.o _ _ G z2).mono ?_;rintro e i ⟨u,rfl,y6,b9,h5,e5⟩;have P:Hid (er u=(S (U.C T [18])).2):=y6;obtain⟨ya,yx,yy,k7,j0,z9⟩:=W.o (U.C T [18]);obtain⟨k2,_,y0⟩:=aRJ (P.o.t k7) j0 z9;obtain⟨u5,s,k8⟩:=aUJ (P.o.t k7) Oa;have z4:Hid (bCH u= .iface u5 (.pointer (some s))):=k8;have y5:Hid (cP u=[bCH u]):=k2;rw[k8];clear k8 k7 y6 k2;obtain⟨m,rfl⟩:=Oj gk;have a5:=x.t (C.o _ x.lt);have z1:=y3.adv a5;have a8:=bME R G.blk Ob e5;have b5:=a3.ex G e5;have b3:=a2.t e5;have e3:=b3.size;have d9:=HN.o;have d4:=(C.o _ x.lt).ge;have d8:=(C.o _ x.lt).lt;have d5:aO c<=5000:=Oa
   go_wp2_with (at_builtin;refine wpList_append_lies _ rfl _ _ 448 rfl w.1.size 269 i0 _ 1 16 underlying448 j7 z8 z7 z6 rfl Oa (Qe j (aO c) M) (aO c) (bLF c) rfl (a8.alloc _) ⟨i.1.size,0,none⟩ 1 1 [.iface u5 (.pointer (some s))] rfl rfl (World.news_of_block (cs:=#[.iface u5 (.pointer (some s))]) (t:=269) (fr:=(0,0)) (Qk i _)) (by simp[Value.oneCell']) Oa (by unfold maxLen;omega) Oa (by simp;omega) (i.1.size+1) Od ?_;intro g6 b2 p c7 D k4 d7)
   have e6:Ex b i (i.alloc (Qf #[.iface u5 (.pointer (some s))] 269)):=(Ex.refl b i).alloc _;have y:=h5.alloc (Qf #[.iface u5 (.pointer (some s))] 269);have a4:=b5.ex h5 e6;have O:=b9.ex h5 e6
   have a9:∀ k,Value.ownBlock (Qe j (aO c) M)=some k->k≠b/\k≠g:=by
    intro k o;rcases(a8.alloc (Qf #[.iface u5 (.pointer (some s))] 269)).2 with⟨A,_⟩|⟨g',c9,d1,z,_,N,_⟩
    ·cases A
    ·simp only[Value.slice.injEq,Option.some.injEq,Addr.mk.injEq]at z;obtain⟨⟨rfl,_,_⟩,_,_⟩:=z;simp only[Value.ownBlock,Option.some.injEq]at o;subst o;refine⟨fun d=>?_,fun d=>?_⟩
     ·rw[d,y.blk]at N;simp at N
     ·obtain⟨d2,j8,_⟩:=y.row;rw[d,j8]at N;simp at N
   have h7:RdW T g J b (S (U.C T [18])).1 p:=y.move (D.block b y.size (fun d=>(a9 b d.symm).1 rfl)) (D.block g y.gsize (fun d=>(a9 g d.symm).2 rfl));have e7:Ex b w p:=Ex.grown (b3.alloc _) D (fun k o=>(own.lt k o).1);have a7:dV j c:=y9 j rfl;have y2:j < Y.1.size:=(R.lt j rfl).2;have h4:∀ B,B < (i.alloc (Qf #[.iface u5 (.pointer (some s))] 269)).1.size->B≠j->p.1[B]?=(i.alloc (Qf #[.iface u5 (.pointer (some s))] 269)).1[B]?:=fun B hi j4=>D.block B hi (fun d=>j4 (Oq d));have b6:New w.1.size p c:=a4.but h4 a7;have a6:dV j u:=O.fresh.notIn y2;have b8:New w.1.size p u:=(O.but h4 a6).mono a2.size
   have c5:dV g6 (lD c u):=by
    rcases k4 with A|A
    ·simp only[Value.ownBlock,Option.some.injEq]at A;subst A;exact fH a7 a6
    ·subst A;have e1:(i.alloc (Qf #[.iface u5 (.pointer (some s))] 269)).1.size=i.1.size+1:=Od
     exact fH (a4.o Oa) (O.o Oa)
   have fin:∃ (U:Rd) (q:Tr),p.ownsRow w.1.size 269 1 (Qe g6 (aO c+1) b2) (aO q) (bLF q)/\q≠ .nil/\bL q=269/\jZ 1 q/\New w.1.size p q/\
    (∀ k,(Qe g6 (aO c+1) b2).ownBlock=some k->dV k q)/\RdW T g J b U p/\Ex b w p/\Dm T n I U/\T.length - U.b<=m/\aO q<=U.b+1/\
    app (er q) (bEG T S m U).2=cons (S r).2 (bEG T S n (S r).1).2/\(bEG T S m U).1=(bEG T S n (S r).1).1:=by
    refine⟨_,lD c u,?_,uG _ _,?_,?_,New.snoc hsz b6 b8,?_,h7,e7,z1,?_,?_,?_,?_⟩
    ·rw[iN,jT,y5.o,z4.o];exact c7
    ·rw[lZ k9];exact h8.o
    ·exact mY hsz y0 (by rw[y5.o];rfl)
    ·intro k o;simp only[Value.ownBlock,Option.some.injEq]at o;subst o;exact c5
    ·omega
    ·rw[iN];omega
    ·have l:=K.o
     have v:bEG T S (m+1) U=((bEG T S m (S (U.C T [18])).1).1,cons (S (U.C T [18])).2 (bEG T S m (S (U.C T [18])).1).2):=by
      show(if _ then _ else _)=_;rw[if_pos hs]
     rw[v]at l;rw[sE,pN,P.o];exact l
    ·have l:=Q.o
     have v:bEG T S (m+1) U=((bEG T S m (S (U.C T [18])).1).1,cons (S (U.C T [18])).2 (bEG T S m (S (U.C T [18])).1).2):=by
      show(if _ then _ else _)=_;rw[if_pos hs]
     rw[v]at l;exact l
   clear K Q X C W L HV V HN P z4 y5 z5 h8 k4 b6 b8 c5 a6 a7 a4 O b5 a3 b4 b9 c7 a8 R c6 own h7 e7 y e6 hsz b7 y9 E ec y3 a9 h4 D z1 z2 a5 x;go_wp2;go_roundg m
   case rel=>exact fin
   case measure=>omega
theorem infoEC:(prog.info? 253).map (fun i=>(i.zero,i.size,i.bytes))=some (some (.pointer none),1,8):=by kernel_rfl
theorem aRK{t:Tr}{a:Nd}{x y:Tr}(h:er t=mk a x y)(c:7<=a.a)(d:a.a < 8):cP t=[cB t]/\bL (cons t .nil)=253/\∃ b o a l q,t= .node b o a l q/\(a.a=19↔1=3):=by
 obtain⟨b,o,l,r,rfl,_,_⟩:=oI h;refine⟨?_,?_,b,o,a,l,r,rfl,Oa⟩
 ·show(if a.a=19 then[Value.string a.h,Qc a.b,Qc a.c]else if a.a=7 then[cB (.node b o a l r)]else[bCH (.node b o a l r)])=_
  grind
 ·show(if a.a=19 then _ else if a.a=7 then _ else if a.a < 7 then _ else if a.a < 15 then _ else _)=_
  grind
theorem aB0(T:List Tok)(g J b f n I:Nat)(S:Pr)(r:Rd)(w:World)(hf:∀ args wx,(callFunc f args).run prog wx= .ok (.enter f args) wx)(hS:uA T g J b f S (Dm T n I) cB)(hG:aZ T S)(hO:So 7 8 S)(h:RdW T g J b r w)(hd:Dm T n I r):
 Calls prog 190 #[Qd b,fv f b] w (jL T g J b w (fX T S n r) bCH):=by
 have X:Hid (uA T g J b f S (Dm T n I) cB):=hS;have C:Hid (aZ T S):=hG;have W:Hid (So 7 8 S):=hO;clear hS hG hO;obtain⟨i0,j7,z8,z7,z6⟩:=info_parts infoEC;unfold fv;go_enter func190,ntmps190
 go_wp2_with fail
 refine(X.o r w h hd).mono ?_;rintro e w1 ⟨t,rfl,ht,it,h1,d⟩;have L:Hid (er t=(S r).2):=ht;clear ht;have a1:=C.o r h.lt;have z3:=hd.adv a1;have d2:=h.few;obtain⟨sa,sx,sy,y8,j3,j2⟩:=W.o r;obtain⟨z0,F,j5⟩:=aRK (L.o.t y8) j3 j2;obtain⟨H,z⟩:=aH4 (L.o.t y8);have HV:Hid (cB t= .pointer (some H)):=z;have V:Hid (cP t=[cB t]):=z0;have z5:Hid (bL (cons t .nil)=253):=F;rw[z];clear z z0 F;have bML:(w1.alloc (Qf #[.pointer (some H)] 253)).ownsRow w.1.size 253 1 (Qe w1.1.size 1 1) 1 [.pointer (some H)]:=qX d.size rfl;go_wp2_with fail
 go_loopg [5] n (fun m c7 wr=>∃ (U:Rd) (c:Tr),wr.ownsRow w.1.size 253 1 c7 (aO c) (bLF c)/\c≠ .nil/\bL c=253/\jZ 1 c/\New w.1.size wr c/\(∀ k,c7.ownBlock=some k->dV k c)/\RdW T g J b U wr/\Ex b w wr/\Dm T n I U/\T.length - U.b<=m/\aO c<=U.b+1/\
  app (er c) (bEG T S m U).2=cons (S r).2 (bEG T S n (S r).1).2/\(bEG T S m U).1=(bEG T S n (S r).1).1)
 case atStart=>
  refine⟨_,cons t .nil,?_,?_,z5.o,⟨rfl,j5,by rw[V.o];rfl,trivial⟩,(it.ex h1 ((Ex.refl b w1).alloc _)).cons (New.nil _ _),?_,h1.alloc _,d.alloc _,z3,?_,?_,?_,rfl⟩
  ·show World.ownsRow _ _ _ _ _ 1 (cP t++[]);rw[V.o,HV.o];exact bML
  ·intro e;cases e
  ·intro k o;simp only[Value.ownBlock,Option.some.injEq]at o;subst o;exact⟨it.o Ol,trivial,fun H=>absurd rfl H.1⟩
  ·have:=z3.1;omega
  ·show 0+1<=_;omega
  ·show cons (er t) _=_;rw[L.o];rfl
 case round=>
  obtain⟨U,c,own,k9,F,hsz,b6,y9,E,ec,y3,hm,d5,h9,h0⟩:=hrel;have K:Hid (app (er c) (bEG T S gk U).2=cons (S r).2 (bEG T S n (S r).1).2):=h9;have Q:Hid ((bEG T S gk U).1=(bEG T S n (S r).1).1):=h0;have h8:Hid (bL c=253):=F;clear h9 h0 F bML;obtain⟨j,M,j1⟩:=vU own (uO k9);subst j1;have y4:=E.alloc (Qf #[Qc 18] 141);have e2:=(Ex.refl b wr).alloc (Qf #[Qc 18] 141);have b3:=b6.ex E e2;have c5:=own.alloc (Qf #[Qc 18] 141);have j6:=bM wr [18] #[Qc 18] rfl;go_wp2_with fail
  refine(lL T g J b U wr.1.size 1 [18] _ y4 j6 Ob Ob).mono ?_;rintro e Y ⟨rfl,G,Z⟩;have a3:=b3.ex y4 Z;have R:=bME c5 y4.blk Ob Z;have a2:=(ec.t e2).t Z;have y1:=E.lt;have x:=dU E.ends y1 (show aQ [18] 0=false by decide);have z2:=y3.adv x;cases hs:aN T U [18]
  ·have y7:U.C T [18]=U:=by unfold Rd.C;rw[hs];rfl
   rw[y7]at G
   have k1:bEG T S gk U=(U,.nil):=by
    cases gk with
    |zero=>rfl
    |succ gk=>show(if _ then _ else _)=_;rw[if_neg (by rw[hs];decide)]
   have l:=K.o;have v:=Q.o;rw[k1]at l v;rw[vJ]at l
   have fin:jL T g J b w (fX T S n r) bCH (.returned (Qe j (aO c) M)) Y:=by
    refine⟨.node j M {a:=20} c .nil,rfl,?_,New.listed k9 hsz a3 (by rw[h8.o];exact R),?_,a2⟩
    ·show BT.node 0 0 _ (er c) .nil=bM3 (cons (S r).2 (bEG T S n (S r).1).2);rw[l];rfl
    ·show RdW T g J b (bEG T S n (S r).1).1 Y;rw[<-v];exact G
   clear l v k1 y7 K Q;go_wp2;go_ret;exact fin
  ·have HN:Hid ((U.C T [18]).b=U.b+1):=lW hs;go_wp2_with fail
   refine(X.o _ _ G z2).mono ?_;rintro e i ⟨u,rfl,y6,b8,h5,e5⟩;have P:Hid (er u=(S (U.C T [18])).2):=y6;obtain⟨ya,yx,yy,k7,j0,z9⟩:=W.o (U.C T [18]);obtain⟨k2,_,y0⟩:=aRK (P.o.t k7) j0 z9;obtain⟨s,k8⟩:=aH4 (P.o.t k7);have z4:Hid (cB u= .pointer (some s)):=k8;have y5:Hid (cP u=[cB u]):=k2;rw[k8];clear k8 k7 y6 k2;obtain⟨m,rfl⟩:=Oj gk;have a5:=x.t (C.o _ x.lt);have z1:=y3.adv a5;have a8:=bME R G.blk Ob e5;have b4:=a3.ex G e5;have b2:=a2.t e5;have e1:=b2.size;have d8:=HN.o;have d3:=(C.o _ x.lt).ge;have d7:=(C.o _ x.lt).lt;have d4:aO c<=5000:=Oa
   go_wp2_with (at_builtin;refine wpList_append_lies _ rfl _ _ 102 rfl w.1.size 253 i0 _ 1 8 underlying102 j7 z8 z7 z6 rfl Oa (Qe j (aO c) M) (aO c) (bLF c) rfl (a8.alloc _) ⟨i.1.size,0,none⟩ 1 1 [.pointer (some s)] rfl rfl (World.news_of_block (cs:=#[.pointer (some s)]) (t:=253) (fr:=(0,0)) (Qk i _)) (by simp[Value.oneCell']) Oa (by unfold maxLen;omega) Oa (by simp;omega) (i.1.size+1) Od ?_;intro g6 b1 p c6 D k4 d6)
   have e6:Ex b i (i.alloc (Qf #[.pointer (some s)] 253)):=(Ex.refl b i).alloc _;have y:=h5.alloc (Qf #[.pointer (some s)] 253);have a4:=b4.ex h5 e6;have O:=b8.ex h5 e6
   have a9:∀ k,Value.ownBlock (Qe j (aO c) M)=some k->k≠b/\k≠g:=by
    intro k o;rcases(a8.alloc (Qf #[.pointer (some s)] 253)).2 with⟨A,_⟩|⟨g',c8,c9,z,_,N,_⟩
    ·cases A
    ·simp only[Value.slice.injEq,Option.some.injEq,Addr.mk.injEq]at z;obtain⟨⟨rfl,_,_⟩,_,_⟩:=z;simp only[Value.ownBlock,Option.some.injEq]at o;subst o;refine⟨fun d=>?_,fun d=>?_⟩
     ·rw[d,y.blk]at N;simp at N
     ·obtain⟨d1,j8,_⟩:=y.row;rw[d,j8]at N;simp at N
   have h7:RdW T g J b (S (U.C T [18])).1 p:=y.move (D.block b y.size (fun d=>(a9 b d.symm).1 rfl)) (D.block g y.gsize (fun d=>(a9 g d.symm).2 rfl));have e7:Ex b w p:=Ex.grown (b2.alloc _) D (fun k o=>(own.lt k o).1);have a7:dV j c:=y9 j rfl;have y2:j < Y.1.size:=(R.lt j rfl).2;have h4:∀ B,B < (i.alloc (Qf #[.pointer (some s)] 253)).1.size->B≠j->p.1[B]?=(i.alloc (Qf #[.pointer (some s)] 253)).1[B]?:=fun B hi j4=>D.block B hi (fun d=>j4 (Oq d));have b5:New w.1.size p c:=a4.but h4 a7;have a6:dV j u:=O.fresh.notIn y2;have b7:New w.1.size p u:=(O.but h4 a6).mono a2.size
   have b9:dV g6 (lD c u):=by
    rcases k4 with A|A
    ·simp only[Value.ownBlock,Option.some.injEq]at A;subst A;exact fH a7 a6
    ·subst A;have d9:(i.alloc (Qf #[.pointer (some s)] 253)).1.size=i.1.size+1:=Od
     exact fH (a4.o Oa) (O.o Oa)
   have fin:∃ (U:Rd) (q:Tr),p.ownsRow w.1.size 253 1 (Qe g6 (aO c+1) b1) (aO q) (bLF q)/\q≠ .nil/\bL q=253/\jZ 1 q/\New w.1.size p q/\
    (∀ k,(Qe g6 (aO c+1) b1).ownBlock=some k->dV k q)/\RdW T g J b U p/\Ex b w p/\Dm T n I U/\T.length - U.b<=m/\aO q<=U.b+1/\
    app (er q) (bEG T S m U).2=cons (S r).2 (bEG T S n (S r).1).2/\(bEG T S m U).1=(bEG T S n (S r).1).1:=by
    refine⟨_,lD c u,?_,uG _ _,?_,?_,New.snoc hsz b5 b7,?_,h7,e7,z1,?_,?_,?_,?_⟩
    ·rw[iN,jT,y5.o,z4.o];exact c6
    ·rw[lZ k9];exact h8.o
    ·exact mY hsz y0 (by rw[y5.o];rfl)
    ·intro k o;simp only[Value.ownBlock,Option.some.injEq]at o;subst o;exact b9
    ·omega
    ·rw[iN];omega
    ·have l:=K.o
     have v:bEG T S (m+1) U=((bEG T S m (S (U.C T [18])).1).1,cons (S (U.C T [18])).2 (bEG T S m (S (U.C T [18])).1).2):=by
      show(if _ then _ else _)=_;rw[if_pos hs]
     rw[v]at l;rw[sE,pN,P.o];exact l
    ·have l:=Q.o
     have v:bEG T S (m+1) U=((bEG T S m (S (U.C T [18])).1).1,cons (S (U.C T [18])).2 (bEG T S m (S (U.C T [18])).1).2):=by
      show(if _ then _ else _)=_;rw[if_pos hs]
     rw[v]at l;exact l
   clear K Q X C W L HV V HN P z4 y5 z5 h8 k4 b5 b7 b9 a6 a7 a4 O b4 a3 b3 b8 c6 a8 R c5 own h7 e7 y e6 hsz b6 y9 E ec y3 a9 h4 D z1 z2 a5 x;go_wp2;go_roundg m
   case rel=>exact fin
   case measure=>omega
theorem Dm.c{T:List Tok}{n q:Nat}{r:Rd}(h:Dm T n q r):0<=r.c/\r.c<=1000000:=by obtain⟨_,a,b⟩:=h;omega
theorem aB2(T:List Tok)(g J b n:Nat)(E:Pr)(r:Rd)(w:World)(x:dI T g J b 335 E (Dm T n 2))(y:aZ T E)(z:So 0 7 E)(h:RdW T g J b r w)(A:0<=r.c/\r.c<=1000000)(i:Dm T n 2 (r.B T [16])):
 Calls prog 336 #[Qd b] w (jL T g J b w (gR T E r) bCH):=by
 have j:Hid _:=x;have k:Hid _:=y;have G:Hid _:=z;have s:=h.alloc (Qf #[Qc 16] 141);have a:=(Ex.refl b w).alloc (Qf #[Qc 16] 141);have D:=bM w [16] #[Qc 16] rfl;obtain⟨K,F,L⟩:=dF h.ends h.lt (show aQ [16] 0=false by decide);go_enter func336,ntmps336
 go_wp2_with fail
 refine(uL T g J b r w.1.size 1 [16] _ s D Ob Ob A).mono ?_;rintro e H ⟨rfl,u,c⟩;go_wp2_with fail
 refine(j.o _ _ u i).mono ?_;rintro e m ⟨t,rfl,B,C,f,p⟩;have l:Hid _:=B;have o:=k.o _ F;have q:0<=(E (r.B T [16])).1.c/\(E (r.B T [16])).1.c<=1000000:=by rw[o.c];exact i.c
 go_wp2_with fail
 refine(nC T g J b _ 17 m f Ob q).mono ?_;rintro e I ⟨rfl,v,d⟩;go_wp2;go_ret;exact⟨t,rfl,l.o,(C.mono (a.t c).size).ex f d,v,((a.t c).t p).t d⟩
theorem bCZ(T:List Tok)(g J b n:Nat)(E:Pr)(r:Rd)(w:World)(o:dI T g J b 335 E (Dm T n 2))(h:RdW T g J b r w)(p:Dm T n 2 r):
 Calls prog 300 #[Qd b] w (jL T g J b w (fM T E r) bCH):=by
 have j:Hid _:=o;go_enter func300,ntmps300
 go_wp2_with fail
 refine(j.o _ _ h p).mono ?_;rintro e a ⟨t,rfl,q,s,f,l⟩;have k:Hid _:=q;have i:=f.alloc (Qf #[Qc 19] 141);have c:=(Ex.refl b a).alloc (Qf #[Qc 19] 141);have u:=bM a [19] #[Qc 19] rfl;go_wp2_with fail
 refine(fG T g J b _ a.1.size 1 [19] _ i u Ob Ob).mono ?_;rintro e v ⟨rfl,m,d⟩;go_wp2;go_ret;exact⟨t,rfl,k.o,(s.ex f c).ex i d,m,(l.t c).t d⟩
theorem xG:∀ args a,(callFunc 335 args).run prog a= .ok (.enter 335 args) a:=by
 intro args a;go_simp
theorem aOZ(T:List Tok)(g J b n:Nat)(E:Pr)(r:Rd)(w:World)(I:dI T g J b 335 E (Dm T n 2))(K:aZ T E)(L:So 0 7 E)(h:RdW T g J b r w)(M:0<=r.c/\r.c<=1000000)(k:Dm T n 2 (r.B T [12])):
 Calls prog 365 #[Qd b] w (jL T g J b w (lB T E n r) bCH):=by
 have u:Hid _:=I;have m:Hid _:=K;have v:Hid _:=L;have G:=h.alloc (Qf #[Qc 12] 141);have B:=(Ex.refl b w).alloc (Qf #[Qc 12] 141);have P:=bM w [12] #[Qc 12] rfl;obtain⟨S,R,U⟩:=dF h.ends h.lt (show aQ [12] 0=false by decide);go_enter func365,ntmps365
 go_wp2_with fail
 refine(uL T g J b r w.1.size 1 [12] _ G P Ob Ob M).mono ?_;rintro e c ⟨rfl,H,C⟩;have p:=H.alloc (Qf #[Qc 13] 141);have D:=(Ex.refl b c).alloc (Qf #[Qc 13] 141);have Q:=bM c [13] #[Qc 13] rfl;go_wp2_with fail
 refine(bMD T g J b _ c.1.size 1 [13] _ p Q Ob).mono ?_;rintro e V ⟨rfl,l,rfl⟩;have q:=p.drewN l;have f:=((B.t C).t D).drewN l;generalize ((c.alloc (Qf #[Qc 13] 141)).drewN l)=o at*;cases hs:aN T (r.B T [12]) [13]
 ·go_wp2_with fail
  refine(aK1 T g J b 335 n 2 E _ o xG u.o m.o v.o q k).mono ?_;rintro e y ⟨t,rfl,N,O,s,F⟩;have x:Hid _:=N;have A:=rY h.ends m.o n _ R;have i:0<=(fX T E n (r.B T [12])).1.c/\(fX T E n (r.B T [12])).1.c<=1000000:=by rw[A.c];exact k.c
  go_wp2_with fail
  refine(nC T g J b _ 13 y s Ob i).mono ?_;rintro e z ⟨rfl,j,d⟩;have a:Hid (lB T E n r=((fX T E n (r.B T [12])).1.H T 13,(fX T E n (r.B T [12])).2)):=by unfold Hid lB;rw[hs];rfl
  go_wp2;go_ret;exact⟨t,rfl,by rw[a.o];exact x.o,(O.mono f.size).ex s d,by rw[a.o];exact j,(f.t F).t d⟩
 ·have i:=k.c;go_wp2_with fail
  refine(nC T g J b _ 13 o q Ob i).mono ?_;rintro e z ⟨rfl,j,d⟩;have a:Hid (lB T E n r=((r.B T [12]).H T 13,.nil)):=by unfold Hid lB;rw[hs];rfl
  go_wp2;go_ret;exact⟨.nil,rfl,by rw[a.o];rfl,New.nil _ _,by rw[a.o];exact j,f.t d⟩
theorem dO{w:World}{k:Nat}{x:ByteArray}{p:Int}(h:w.1[k]?=some (Qf #[.string x,Qc p,Qc 0] 100)):
 w.cell? ⟨k,0,none⟩=some (.string x)/\w.cell? ⟨k,1,none⟩=some (Qc p)/\w.cell? ⟨k,2,none⟩=some (Qc 0):=(by grind[bCM])
theorem iZ{t:Tr}(h:er t= .nil\/∃ a x,er t=mk a x .nil/\a.a=20):∃ ao n c,bCH t= .slice ao n c:=by
 cases t with
 |nil=>exact⟨none,0,0,rfl⟩
 |node b o a l r=>
  rcases h with h|⟨e,x,h,d⟩
  ·cases h
  ·simp only[er,mk,BT.node.injEq]at h;obtain⟨_,_,rfl,_⟩:=h;exact⟨some ⟨b,0,none⟩,aO l,o,if_pos d⟩
theorem aM8(T:List Tok)(E:Pr)(n:Nat):SoL (lB T E n):=fun r=>by
 unfold lB
 split
 ·simp
 ·exact .r ⟨_,_,rfl,rfl⟩
theorem aJP(T:List Tok)(g J b n:Nat)(E:Pr)(O:Tok)(r:Rd)(w:World)(S:dI T g J b 335 E (Dm T n 2))(U:aZ T E)(V:So 0 7 E)(h:RdW T g J b r w)(W:0<=r.c/\r.c<=1000000)(k5:aN T r [16]=true->Dm T n 2 (r.B T [16]))(Z:aN T r [12]=true->Dm T n 2 (r.B T [12])):
 Calls prog 364 #[Qd b,fV O.f O.e] w (jL T g J b w (bM2 T E n O r) bCH):=by
 have L:Hid (dI T g J b 335 E (Dm T n 2)):=S;have M:Hid (aZ T E):=U;have x:Hid (So 0 7 E):=V;have H1:Hid (aN T r [16]=true->Dm T n 2 (r.B T [16])):=k5;have H2:Hid (aN T r [12]=true->Dm T n 2 (r.B T [12])):=Z;clear S U V k5 Z;unfold fV;have hsz:(w.alloc (Qf #[.string O.f,Qc O.e,Qc 0] 100)).1.size=w.1.size+1:=Od
 have Q:=h.alloc (Qf #[.string O.f,Qc O.e,Qc 0] 100);have A:=Q.alloc (Qf #[Qc 16] 141);have N:=((Ex.refl b w).alloc (Qf #[.string O.f,Qc O.e,Qc 0] 100)).alloc (Qf #[Qc 16] 141);have I:=bM (w.alloc (Qf #[.string O.f,Qc O.e,Qc 0] 100)) [16] #[Qc 16] rfl;rw[hsz]at I
 have n2:((w.alloc (Qf #[.string O.f,Qc O.e,Qc 0] 100)).alloc (Qf #[Qc 16] 141)).1[w.1.size]?=some (Qf #[.string O.f,Qc O.e,Qc 0] 100):=
  (On (by rw[hsz];omega)).t (Qk w _)
 have Y:w.1.size≠b:=by have:=h.size;omega
 go_enter func364,ntmps364
 go_wp2_with fail
 refine(bMD T g J b r (w.1.size+1) 1 [16] _ A I Ob).mono ?_;rintro e c ⟨rfl,v,rfl⟩;have B:=A.drewN v;have o:=N.drewN v;have m:(((w.alloc (Qf #[.string O.f,Qc O.e,Qc 0] 100)).alloc (Qf #[Qc 16] 141)).drewN v).1[w.1.size]?=_:=n2;clear Q A N I n2 hsz;generalize (((w.alloc (Qf #[.string O.f,Qc O.e,Qc 0] 100)).alloc (Qf #[Qc 16] 141)).drewN v)=l at*;cases hs:aN T r [16]
 ·have C:=B.alloc (Qf #[Qc 12] 141);have P:=o.alloc (Qf #[Qc 12] 141);have k4:=bM l [12] #[Qc 12] rfl;have n4:(l.alloc (Qf #[Qc 12] 141)).1[w.1.size]?=_:=(On (Oo m)).t m;go_wp2_with fail
  refine(bMD T g J b r l.1.size 1 [12] _ C k4 Ob).mono ?_;rintro e c ⟨rfl,u,rfl⟩;have R:=C.drewN u;have p:=P.drewN u;have z:((l.alloc (Qf #[Qc 12] 141)).drewN u).1[w.1.size]?=_:=n4;clear B C o P k4 m n4;generalize ((l.alloc (Qf #[Qc 12] 141)).drewN u)=y at*;obtain⟨K,m1,m2⟩:=dO z;cases hs2:aN T r [12]
  ·have d:Hid (bM2 T E n O r=(r,mO O)):=by unfold Hid bM2;rw[hs,hs2];rfl
   go_wp2;go_ret;refine⟨.node y.1.size 0 {a:=1,h:=O.f,b:=O.e} .nil .nil,rfl,by rw[d.o];rfl,New.node (New.nil _ _) (New.nil _ _) (fun _=>p.size) Od ?_,by rw[d.o];exact R.alloc _,p.alloc _⟩;exact⟨_,Qk y _,rfl,rfl,rfl⟩
  ·have d:Hid (bM2 T E n O r=((lB T E n r).1,mk {a:=3,h:=O.f,b:=O.e} (lB T E n r).2 .nil)):=by unfold Hid bM2;rw[hs,hs2];rfl
   have G:=H2.o hs2;have a1:y.drew.cell? ⟨w.1.size,0,none⟩=some (.string O.f):=K;go_wp2_with fail
   go_region_held3 (fun c=>c.cell? ⟨w.1.size,0,none⟩=some (.string O.f)/\c.cell? ⟨w.1.size,1,none⟩=some (Qc O.e)/\c.cell? ⟨w.1.size,2,none⟩=some (Qc 0))
    (first
      |(refine⟨?_,?_,?_⟩<;>assumption)
      |go_keep)
    ((refine eC rfl 365 #[Qd b] _ (by go_simp) (aOZ T g J b n E r _ L.o M.o x.o R.drew W G) ?_;rintro e f ⟨k,rfl,q,H,t,i⟩;refine⟨_,rfl,?_⟩;have s:Hid (er k=(lB T E n r).2):=q;clear q;have j:=(i.block w.1.size (Oo z) Y).t z;have p0:=(dO j).1;have p1:=(dO j).2.1;have p2:=(dO j).2.2;obtain⟨ao,ln,cq,D⟩:=iZ (by rw[s.o];exact aM8 T E n r);have k6:Hid (bCH k= .slice ao ln cq):=D;rw[D];clear D))
   go_wp2;go_ret;refine⟨.node f.1.size 0 {a:=3,h:=O.f,b:=O.e} k .nil,rfl,?_,New.node ((H.mono p.size).ex t ((Ex.refl b f).alloc _)) (New.nil _ _) (fun _=>(p.drew.t i).size) Od ?_,by rw[d.o];exact t.alloc _,(p.drew.t i).alloc _⟩
   ·rw[d.o,<-s.o];rfl
   ·exact⟨_,Qk f _,⟨rfl,rfl,rfl⟩,by rw[k6.o];rfl,rfl⟩
 ·have d:Hid (bM2 T E n O r=((gR T E r).1,mk {a:=2,h:=O.f,b:=O.e} (gR T E r).2 .nil)):=by unfold Hid bM2;rw[hs];rfl
  have G:=H1.o hs;obtain⟨K,m1,m2⟩:=dO m;have a1:l.drew.cell? ⟨w.1.size,0,none⟩=some (.string O.f):=K;go_wp2_with fail
  go_region_held3 (fun c=>c.cell? ⟨w.1.size,0,none⟩=some (.string O.f)/\c.cell? ⟨w.1.size,1,none⟩=some (Qc O.e)/\c.cell? ⟨w.1.size,2,none⟩=some (Qc 0))
   (first
     |(refine⟨?_,?_,?_⟩<;>assumption)
     |go_keep)
   ((refine eC rfl 336 #[Qd b] _ (by go_simp) (aB2 T g J b n E r _ L.o M.o x.o B.drew W G) ?_;rintro e f ⟨k,rfl,q,H,t,i⟩;refine⟨_,rfl,?_⟩;have s:Hid (er k=(gR T E r).2):=q;clear q;have j:=(i.block w.1.size (Oo m) Y).t m;have p0:=(dO j).1;have p1:=(dO j).2.1;have p2:=(dO j).2.2;obtain⟨ya,yx,yy,X,_,a2⟩:=x.o (r.B T [16]);obtain⟨u7,p7,F⟩:=aUJ (s.o.t X) Oa;have k7:Hid (bCH k= .iface u7 (.pointer (some p7))):=F;rw[F];clear F X))
  go_wp2;go_ret;refine⟨.node f.1.size 0 {a:=2,h:=O.f,b:=O.e} k .nil,rfl,?_,New.node ((H.mono o.size).ex t ((Ex.refl b f).alloc _)) (New.nil _ _) (fun _=>(o.drew.t i).size) Od ?_,by rw[d.o];exact t.alloc _,(o.drew.t i).alloc _⟩
  ·rw[d.o,<-s.o];rfl
  ·exact⟨_,Qk f _,⟨rfl,rfl,rfl⟩,by rw[k7.o];rfl,rfl⟩
end Go.Proofs.YtikffmloeifkpaaGreatDoor
