/- Contracts. -/
import Derived.Test.YtikffmloeifkpaaGreatDoorR12
import Derived.Deep.Cut
set_option maxHeartbeats 8000000
set_option maxRecDepth 100000
namespace Go.Proofs.YtikffmloeifkpaaGreatDoor
open Go.RowKit Go.Lib Go.Deep Go.ChangeMaps Go.MapKept Tryz
section
def aL:Nat->Tr->Tr
 |0,t=>t
 |_+1,.nil=> .nil
 |n+1,.node _ _ _ _ r=>aL n r
theorem pZ{cs:Array Value}:∀ (i o:Nat) (l:Tr),jO cs o l->jO cs (o+i) (aL i l):=by
 intro i
 induction i with
 |zero=>intro o l h;exact h
 |succ n ih=>
  intro o l h;cases l with
  |nil=>trivial
  |node b q a e r=>rw[show o+(n+1)=o+1+n by omega];exact ih _ r h.2
theorem dK:∀ (i:Nat) (l:Tr),i < aO l->∃ b o a e r,aL i l= .node b o a e r/\aL (i+1) l=r:=by
 intro i
 induction i with
 |zero=>
  intro l h;cases l with
  |nil=>trivial
  |node b o a e r=>exact⟨b,o,a,e,r,rfl,rfl⟩
 |succ n ih=>
  intro l h;cases l with
  |nil=>trivial
  |node b o a e r=>exact ih r (by simp only[aO]at h;omega)
theorem eS:∀ (l:Tr),aL (aO l) l= .nil:=by
 intro l
 induction l with
 |nil=>rfl
 |node b o a e r _ ih=>exact ih
def fE(Q:Tr->Prop):Tr->Prop
 | .nil=>True
 | .node _ _ a e r=>a.a=15/\Q e/\fE Q r
theorem fE.drop{Q:Tr->Prop}:∀ (i:Nat) (l:Tr),fE Q l->fE Q (aL i l):=by
 intro i
 induction i with
 |zero=>intro l h;exact h
 |succ n ih=>
  intro l h;cases l with
  |nil=>trivial
  |node b o a e r=>exact ih r h.2.2
theorem nQ{w:World}:∀ (i:Nat) (l:Tr),IsT w l->IsT w (aL i l):=by
 intro i
 induction i with
 |zero=>intro l h;exact h
 |succ n ih=>
  intro l h;cases l with
  |nil=>trivial
  |node b o a e r=>exact ih r h.2.1
theorem aY{s b o:Nat}{a:Nd}{e r:Tr}(f:s=13\/s=14\/s=15\/s=16\/s=18)(h:Ws s (.node b o a e r)):a.a=15/\Ws (if s=13 then 0 else if s=14 then 2 else if s=15 then 20 else if s=16 then 22 else 7) e/\Ws s r:=by
 obtain⟨_,x,y,c,g,i⟩:=h.parts
 by_cases d:a.a=15
 ·refine⟨d,?_⟩;rw[d]at c;rcases f with rfl|rfl|rfl|rfl|rfl<;>cases c<;>exact Qj
 ·exfalso;rcases f with rfl|rfl|rfl|rfl|rfl<;>simp[sig,d]at c
theorem eX{s:Nat}(c:s=13\/s=14\/s=15\/s=16\/s=18):∀ (i:Nat) (l:Tr),Ws s l->Ws s (aL i l):=by
 intro i
 induction i with
 |zero=>intro l h;exact h
 |succ n ih=>
  intro l h;cases l with
  |nil=>exact h
  |node b o a e r=>exact ih r (aY c h).2.2
theorem lT:∀ (i:Nat) (l:Tr),(ps l).Nodup->(ps (aL i l)).Nodup:=by
 intro i
 induction i with
 |zero=>intro l h;exact h
 |succ n ih=>
  intro l h;cases l with
  |nil=>exact h
  |node b o a e r=>exact ih r (dZ h).right
theorem rU:∀ (i:Nat) (l:Tr) (p:Int),p∈ps (aL i l)->p∈ps l:=by
 intro i
 induction i with
 |zero=>intro l p h;exact h
 |succ n ih=>
  intro l p h;cases l with
  |nil=>exact h
  |node b o a e r=>exact jE (ih r p h)
def bCF:Tr->Tr
 | .nil=> .nil
 | .node _ _ _ l _=>l
variable {H O N I U:Nat} {Z:Array Value} {F:cM} {its:List Tr}
theorem Ws.lst{s:Nat}{t:Tr}(g:s=3\/s=4\/s=5\/s=6\/s=8)(h:Ws s t):t= .nil\/∃ b o a l,t= .node b o a l .nil/\a.a=20/\Ws (10+s) l:=by
 cases t with
 |nil=>simp
 |node b o a l r=>
  right;obtain⟨_,x,y,c,i,d⟩:=h.parts
  by_cases f:a.a=20
  ·rw[f]at c;have e:x=10+s/\y=99:=by rcases g with rfl|rfl|rfl|rfl|rfl<;>cases c<;>exact Oa
   obtain⟨rfl,rfl⟩:=e;obtain rfl:=d.nil_of
   grind
  grind[sig]
theorem Ws.elems{s:Nat}{t:Tr}(d:s=3\/s=4\/s=5\/s=6\/s=8)(h:Ws s t):Ws (10+s) (YtikffmloeifkpaaGreatDoor.bCF t):=by
 rcases h.lst d with rfl|⟨b,o,a,l,rfl,_,c⟩
 ·unfold YtikffmloeifkpaaGreatDoor.bCF Ws bK;omega
 ·exact c
theorem Ws.W{s:Nat}{t:Tr}(d:s=3\/s=4\/s=5\/s=6\/s=8)(h:Ws s t):∃ ao c,bCH t= .slice ao (aD t) c:=by
 rcases h.lst d with rfl|⟨b,o,a,l,rfl,e,_⟩
 ·exact⟨none,0,rfl⟩
 ·exact⟨_,_,if_pos e⟩
theorem bLA(t:Tr):aD t=aO (bCF t):=by cases t<;>rfl
theorem Ws.lstrs{s:Nat}{t:Tr}(c:s=3\/s=4\/s=5\/s=6\/s=8)(h:Ws s t)(S:Rs):rsT F its t S=rsT F its (YtikffmloeifkpaaGreatDoor.bCF t) S:=by
 rcases h.lst c with rfl|⟨b,o,a,l,rfl,d,_⟩
 ·rfl
 ·rw[jM (fun h=>Oa)];have:rs1 F its a (aD l) S=S:=by grind[rs1]
  rw[this];rfl
theorem jU{s:Nat}{t:Tr}(c:s=3\/s=4\/s=5\/s=6\/s=8)(h:Ws s t):ps t=ps (bCF t):=by
 rcases h.lst c with rfl|⟨b,o,a,l,rfl,d,_⟩
 ·rfl
 ·show(if a.a=6 then _ else if eO a.a then _ else _)=_;rw[d];show ps l++[]=ps l;simp
theorem aE8{s:Nat}{t:Tr}{P:TypeId->Int->Prop}{w w':World}{S:Rs}(q:s=3\/s=4\/s=5\/s=6\/s=8)(h:Ws s t)(hi:IsT w t)(r:Fr H P w w')(j:∀ t p,P t p->bCI t)(k:IsT w' (reT F its (bCF t) S)):IsT w' (reT F its t S):=by
 rcases h.lst q with rfl|⟨b,o,a,l,rfl,d,v⟩
 ·trivial
 ·rw[mL (fun h=>Oa)];have g:rs1 F its a (aD l) S=S:=by grind[rs1]
  have i:wh1 F its a (aD l) S=a.c:=by grind[wh1]
  rw[g,i];have c:=hi.2.2;have f:=(aI c (n:=20) d).1;have x:po a=[]:=by unfold po;rw[d];rfl
  have u:=dH.fr r (fun t p m=>(j t p m).e) c Qh (fun e=>⟨h.list e f,(by grind[bCI])⟩);exact⟨k,trivial,gZ u (dJ _ _ _ _) Qj⟩
theorem gQ{s:Nat}{w:World}{t:Tr}(M:s=3\/s=4\/s=5\/s=6\/s=8)(h:Ws s t){P:TypeId->Int->Prop}{B:World}(hi:IsT B t)(Q:Fr H P B w)(J:∀ t p,P t p->bCI t){ao:Option Addr}{n C i:Nat}(x:bCH t= .slice ao n C){b o:Nat}{a:Nd}{e r:Tr}(d:aL i (bCF t)= .node b o a e r)(G:∃ b o a l r,e= .node b o a l r/\a.a≠19/\a.a≠7):
 ∃ g,ao=some ⟨g,0,none⟩/\w.cell? ⟨g,i,none⟩=some (bCH e):=by
 rcases h.lst M with rfl|⟨b0,z,a0,j,rfl,f,_⟩
 ·cases i<;>cases d
 ·have D:bCH (.node b0 z a0 j .nil)= Qe b0 (aO j) z:=if_pos f;rw[D]at x;simp only[Value.slice.injEq]at x;refine⟨b0,Qh,?_⟩;have v:=hi.2.2;have E:=(aI v (n:=20) f).1;have W:po a0=[]:=by unfold po;rw[f];rfl
  have k:=dH.fr Q (fun t p K=>(J t p K).e) v Qh (fun e=>⟨h.list e E,(by grind[bCI])⟩);obtain⟨_,m,V,L⟩:=aI k (n:=20) f;have u:=pZ i 0 j L;replace d:aL i j= .node b o a e r:=d;rw[d,Nat.zero_add]at u;obtain⟨q,k,c,y,A,rfl,R,T⟩:=G;have S:(if c.a=19 then Nam m (i*3) c else if c.a=7 then m[i]?=some (cB (.node q k c y A))else m[i]?=some (bCH (.node q k c y A))):=u.1
  grind[cell_of_row]
structure LpN(H O N I U:Nat)(Z:Array Value)(F:cM)(its:List Tr)(L:Tr)(G:Rs)(B:World)(i:Nat)(J:Rs)(wr:World):Prop where
 rs:RsW H O N I U Z F J wr
 fr:Fr H (Pt L) B wr
 rest:IsT wr (aL i L)
 wand:∀ w2,Fr H (Pt (aL i L)) wr w2->IsT w2 (reT F its (aL i L) J)->IsT w2 (reT F its L G)
 run:rsT F its (aL i L) J=rsT F its L G
variable {L:Tr} {G J:Rs} {B wr w3:World} {i:Nat}
theorem LpN.start(h:RsW H O N I U Z F G B)(hi:IsT B L):LpN H O N I U Z F its L G B 0 G B:=⟨h,Fr.refl _ _ _,hi,fun _ _ h=>h,rfl⟩
theorem LpN.step(h:LpN H O N I U Z F its L G B i J wr){s:Nat}(n:s=13\/s=14\/s=15\/s=16\/s=18)(D:Ws s L)(z:(ps L).Nodup){b o:Nat}{a:Nd}{e r:Tr}(C:aL i L= .node b o a e r)(m:aL (i+1) L=r)(v:RsW H O N I U Z F (rsT F its e J) w3)(w:IsT w3 (reT F its e J))(d:Fr H (Pt e) wr w3):LpN H O N I U Z F its L G B (i+1) (rsT F its e J) w3:=by
 have k:=eX n i _ D;have E:=lT i _ z;have l:=rU i L;obtain⟨_,A,rest,g,run⟩:=h;rw[C]at k E l rest g run;obtain⟨K,y,x⟩:=aY n k;have E:=dZ E;have q: ¬(a.a=9/\a.flag=true):=Oa;have j:∀ S,rs1 F its a (aD e) S=S:=(by grind[rs1]);have u:∀ S,wh1 F its a (aD e) S=a.c:=(by grind[wh1]);rw[mL q,j,u]at g;rw[jM q,j]at run;refine⟨v,A.t (d.mono fun t p c=>⟨c.1,l p (fT c.2)⟩),?_,fun M f hi=>?_,?_⟩
 ·rw[m];exact IsT.fr d (fun t p c=>(Pt.body t p c).e) x rest.2.1 (Pt.o E.apart)
 ·rw[m]at f hi;refine g M ((d.mono Pt.left).t (f.mono Pt.right)) ⟨?_,hi,?_⟩
  ·exact bOT w f y (dJ _ _ _ _) E.apart_
  ·unfold Own;rw[K];trivial
 simp[*]
theorem LpN.fin(h:LpN H O N I U Z F its L G B (aO L) J wr):J=rsT F its L G/\IsT wr (reT F its L G):=by
 obtain⟨_,_,_,a,run⟩:=h;rw[eS]at a run;exact⟨run,a wr (Fr.refl _ _ _) trivial⟩
theorem aOO{b o:Nat}{a:Nd}{l r:Tr}(ht:a.a=3)(hw:Ws 0 (.node b o a l r))(hH:aUI H (.node b o a l r))(j5:(ps (.node b o a l r)).Nodup)(c5:aD l<=1000000)(z6:∀ b o a l r,(BT.node b o a l r)∈its->a.a=17->Ws 6 l/\aD l<=1000000)(hA:fE (fun e=>Ws 0 e/\GN 195 H O N I U Z F its bCH e) (bCF l)):GN 249 H O N I U Z F its cB (.node b o a l r):=by
 obtain⟨z8,sx,sy,y6,k8,j7⟩:=hw.parts;rw[ht]at y6;cases y6;obtain rfl:=j7.nil_of;have hn:a.h.size<=maxLen:=by have:=z8.h;unfold maxLen;omega
 have E:=dZ j5;have j8:=hH.2.2 (by unfold gY;omega);intro s w h hi;have hN:=rX hi.2.2 j8 (.r (.r (.l ht)));have n9: ¬(a.a=9/\a.flag=true):=fun h=>Oa
 have b6:∀ w',Own w' b a l .nil->w'.cell? ⟨b,3,none⟩=some (bCH l):=by
  intro w' ho;obtain⟨cs,hc,_,y,_⟩:=aI ho (n:=3) ht;rw[cell_of_row _ _ _ _ _ _ hc];exact y
 have z4:rs1 F its a (aD l) s=s.O F its a.h a.b (aD l):=by simp[rs1,ht]
 have j3:wh1 F its a (aD l) s=iY F its a.h (aD l) a.c:=by simp[wh1,ht]
 have n0:=hN.c0;have n1:=hN.c1;obtain⟨q2,n2⟩:∃ q,w.cell? ⟨b,2,none⟩=some (Qc q):=hN.c2;have f2:=hN.froz 2;obtain⟨ao,cp,k7⟩:=k8.W Oy;have mA:=b6 w hi.2.2;rw[k7]at mA;have y8:=jU Oy k8
 have a8:∀ (G:Rs) (g:Int->Int) (B wr:World),s.O F its a.h a.b (aD l)=G->iY F its a.h (aD l)=g->Fr H (Po a) w B->Wr b 2 g w B->IsT B l->Fr H (Pt (bCF l)) B wr->RsW H O N I U Z F (rsT F its (bCF l) G) wr->IsT wr (reT F its (bCF l) G)->
  bCY H O N I U Z F (Pt (.node b o a l .nil)) (reT F its (.node b o a l .nil) s) (rsT F its (.node b o a l .nil) s) w (.returned (.tuple #[])) wr:=by
  intro G g B wr e1 x d m k xr P ir;have a6:Fr H (Pt l) B wr:=xr.mono fun t a1 hp=>⟨hp.1,by rw[y8];exact hp.2⟩;have o1:=tH hi.2.2 (.r (.r (.l ht))) m;have o3:=cX o1 a6 Pt.body (fun a1 hp ty hq=>E.own_l a1 hp hq.2) (by show a.a≠20;omega);refine⟨rfl,?_,?_,(d.mono Po.to).t (a6.mono Pt.left)⟩
  ·rw[jM n9,z4,e1];show RsW H O N I U Z F (rsT F its l G) wr;rw[k8.lstrs Oy];exact P
  ·rw[mL n9,z4,j3,e1,x];refine⟨aE8 Oy k8 k a6 Pt.body ir,trivial,gZ o3 (dJ _ _ _ _) (Sh.refl _)⟩
 have bML:∀ (g:Int->Int) (B:World),Wr b 2 g w B->B.cell? ⟨b,3,none⟩=some (bCH l):=fun g B m=>by
  obtain⟨cs,hc,_,y,_⟩:=aI (tH hi.2.2 (.r (.r (.l ht))) m) (n:=3) ht;rw[cell_of_row _ _ _ _ _ _ hc];exact y
 have b1:∀ (B:World),Fr H (Po a) w B->IsT B l:=fun B d=>IsT.fr d (fun t a1 hp=>(Po.body t a1 hp).e) k8 hi.1 (Po.o E.own_l);have j4:∀ S (B:World),RsW H O N I U Z F S B->Fr H (Po a) w B->NsW H O N I U Z F its S B:=fun S B j d=>h.fr j d Po.body;have y7:(ps (bCF l)).Nodup:=by rw[<-y8];exact E.left
 have y5:=k8.elems Oy
 have a9:∀ B,IsT B l->IsT B (bCF l):=fun B h=>by
  cases l with
  |nil=>trivial
  |node=>exact h.1
 have HF:Hid _:=a8;have HI:Hid _:=b1;have HW:Hid _:=bML;have k9:Hid _:=j4;have h7:Hid _:=a9;have z2:Hid _:=y7;have z1:Hid _:=y5;have z0:Hid (Ws 3 l):=k8;have b8:Hid _:=y8;have t1:=yB w;have t2:=fun q=>pS q w;have t3:=fun q=>wU q w;clear a8 b1 bML j4 a9 y7 y5 k8 y8 z4 j3 n9 E j5 hH hw;show Calls prog 249 #[Qd N,Qd b] w (bCY H O N I U Z F (Pt (.node b o a l .nil)) (reT F its (.node b o a l .nil) s) (rsT F its (.node b o a l .nil) s) w);rcases tJ h a.h with u|⟨b5,o5,Q,l5,r5,u,M,y2⟩|⟨b5,o5,Q,l5,r5,u,M,y2⟩
 ·obtain⟨G,A⟩:∃ G,G=s.fail 4 a.b:=⟨_,rfl⟩;have k5:Hid (s.O F its a.h a.b (aD l)=G):=by unfold Hid;rw[A];unfold Rs.O eK;rw[u]
  have k6:Hid (iY F its a.h (aD l)=fun q=>q):=by unfold Hid;funext q;unfold iY eK;rw[u]
  go_enter func249,ntmps249
  go_wp2_with fail
  refine(iM w h.rs h.it h.fo hn).mono ?_;rintro e W2 ⟨rfl,rfl⟩;rw[u];unfold uC;go_wp2_with fail
  refine(bCJ 4 a.b _ h.rs).mono ?_;rintro e B ⟨rfl,j,D⟩;rw[<-A]at j;have m:Wr b 2 (fun q=>q) w B:=Wr.id (hN.keep0 D);have d:Fr H (Po a) w B:=D.mono F0.to;clear D A;have m3:=HW.o _ _ m;rw[k7]at m3;have k:=HI.o _ d;have y3:Hid _:=k9.o _ _ j d;have y4:Hid _:=k;have T:=LpN.start (its:=its) (L:=bCF l) j (h7.o _ k);have R:Hid _:=fun wr=>HF.o _ _ B wr k5.o k6.o d m k;clear k j d m k5 k6 HF k9 h7 HI HW;go_wp2_with fail
  go_loopg [62] (aD l) (fun v a3 wr=>∃ (i:Nat) (J:Rs),a3= Qc i/\i<=aD l/\aD l<=i+v/\LpN H O N I U Z F its (bCF l) G B i J wr)
  case atStart=>exact⟨0,G,rfl,Qn _,Oa,T⟩
  case round=>
   clear T;obtain⟨i,J,rfl,z9,u,c⟩:=hrel;have C:Hid _:=c
   by_cases y1:i < aD l
   ·have h8:(i:Int) < (aD l:Int):=Oa
    obtain⟨b2,o2,a2,x,r2,f,k3⟩:=dK i (bCF l) (by rw[<-bLA];exact y1);have k4:=fE.drop i _ hA;rw[f]at k4;obtain⟨j2,⟨p,Y⟩,_⟩:=k4
    obtain⟨gg,rfl,h5⟩:=gQ Oy z0.o y4.o c.fr Pt.body k7 f (by
     cases x with
     |nil=>exact absurd p (by unfold Ws bK;omega)
     |node b o a l r=>
      obtain⟨_,a5,a7,e,_⟩:=p.parts;exact⟨b,o,a,l,r,rfl,fun h=>(by rw[h]at e;cases e),fun h=>(by rw[h]at e;cases e)⟩)
    obtain⟨a4,a1,y0⟩:=p.g Oy;have z:=c.rest;rw[f]at z;have W:=Y J wr (y3.o.fr c.rs c.fr Pt.body) z.1;rw[y0]at h5 W;have X:Hid _:=fun w3=>C.o.step (w3:=w3) Oy z1.o z2.o f k3;clear Y p f k3 z c;go_wp2_with fail
    refine W.mono ?_;rintro e V ⟨rfl,y,i3,x3⟩;obtain⟨v,rfl⟩:=Oj gk
    have fin:∃ (K:Nat) (J:Rs),Qc ((i:Int)+1)= Qc K/\K<=aD l/\aD l<=K+v/\LpN H O N I U Z F its (bCF l) G B K J V:=
     ⟨i+1,_,Od,Oa,Oa,X.o V y i3 x3⟩
    clear X C y i3 x3;go_wp2;go_roundg v
    case rel=>exact fin
    case measure=>omega
   ·have h8: ¬(i:Int) < (aD l:Int):=Oa
    have k2:i=aO (bCF l):=by rw[<-bLA];omega
    have fin:bCY H O N I U Z F (Pt (.node b o a l .nil)) (reT F its (.node b o a l .nil) s) (rsT F its (.node b o a l .nil) s) w (.returned (.tuple #[])) wr:=by
     subst k2;obtain⟨e1,x⟩:=c.fin;have P:=c.rs;rw[e1]at P;exact R.o wr c.fr P x
    clear k2 c C R;go_wp2;go_end0
    exact fin
 ·obtain⟨G,A⟩:∃ G,G=s.fail 4 a.b:=⟨_,rfl⟩;have k5:Hid (s.O F its a.h a.b (aD l)=G):=by unfold Hid;rw[A];unfold Rs.O eK;rw[u];simp[M]
  have k6:Hid (iY F its a.h (aD l)=fun q=>q):=by unfold Hid;funext q;unfold iY eK;rw[u];simp[M]
  have hv:bCH (.node b5 o5 Q l5 r5)= .iface 192 (Qd b5):=by show(if Q.a=20 then _ else _)=_;rw[Oh,M];rfl
  clear y2 M;go_enter func249,ntmps249
  go_wp2_with fail
  refine(iM w h.rs h.it h.fo hn).mono ?_;rintro e W2 ⟨rfl,rfl⟩;rw[u];unfold uC;dsimp only;rw[hv];go_wp2_with fail
  refine(bCJ 4 a.b _ h.rs).mono ?_;rintro e B ⟨rfl,j,D⟩;rw[<-A]at j;have m:Wr b 2 (fun q=>q) w B:=Wr.id (hN.keep0 D);have d:Fr H (Po a) w B:=D.mono F0.to;clear D A hv;have m3:=HW.o _ _ m;rw[k7]at m3;have k:=HI.o _ d;have y3:Hid (NsW H O N I U Z F its G B):=k9.o _ _ j d;have y4:Hid (IsT B l):=k;have T:=LpN.start (its:=its) (L:=bCF l) j (h7.o _ k);have R:Hid _:=fun wr=>HF.o _ _ B wr k5.o k6.o d m k;clear k j d m k5 k6 HF k9 h7 HI HW;go_wp2_with fail
  go_loopg [62] (aD l) (fun v a3 wr=>∃ (i:Nat) (J:Rs),a3= Qc i/\i<=aD l/\aD l<=i+v/\LpN H O N I U Z F its (bCF l) G B i J wr)
  case atStart=>exact⟨0,G,rfl,Qn _,Oa,T⟩
  case round=>
   clear T;obtain⟨i,J,rfl,z9,u,c⟩:=hrel;have C:Hid _:=c
   by_cases y1:i < aD l
   ·have h8:(i:Int) < (aD l:Int):=Oa
    obtain⟨b2,o2,a2,x,r2,f,k3⟩:=dK i (bCF l) (by rw[<-bLA];exact y1);have k4:=fE.drop i _ hA;rw[f]at k4;obtain⟨j2,⟨p,Y⟩,_⟩:=k4
    obtain⟨gg,rfl,h5⟩:=gQ Oy z0.o y4.o c.fr Pt.body k7 f (by
     cases x with
     |nil=>exact absurd p (by unfold Ws bK;omega)
     |node b o a l r=>
      obtain⟨_,a5,a7,e,_⟩:=p.parts;exact⟨b,o,a,l,r,rfl,fun h=>(by rw[h]at e;cases e),fun h=>(by rw[h]at e;cases e)⟩)
    obtain⟨a4,a1,y0⟩:=p.g Oy;have z:=c.rest;rw[f]at z;have W:=Y J wr (y3.o.fr c.rs c.fr Pt.body) z.1;rw[y0]at h5 W;have X:Hid _:=fun w3=>C.o.step (w3:=w3) Oy z1.o z2.o f k3;clear Y p f k3 z c;go_wp2_with fail
    refine W.mono ?_;rintro e V ⟨rfl,y,i3,x3⟩;obtain⟨v,rfl⟩:=Oj gk
    have fin:∃ (K:Nat) (J:Rs),Qc ((i:Int)+1)= Qc K/\K<=aD l/\aD l<=K+v/\LpN H O N I U Z F its (bCF l) G B K J V:=
     ⟨i+1,_,Od,Oa,Oa,X.o V y i3 x3⟩
    clear X C y i3 x3;go_wp2;go_roundg v
    case rel=>exact fin
    case measure=>omega
   ·have h8: ¬(i:Int) < (aD l:Int):=Oa
    have k2:i=aO (bCF l):=by rw[<-bLA];omega
    have fin:bCY H O N I U Z F (Pt (.node b o a l .nil)) (reT F its (.node b o a l .nil) s) (rsT F its (.node b o a l .nil) s) w (.returned (.tuple #[])) wr:=by
     subst k2;obtain⟨e1,x⟩:=c.fin;have P:=c.rs;rw[e1]at P;exact R.o wr c.fr P x
    clear k2 c C R;go_wp2;go_end0
    exact fin
 ·have hv:bCH (.node b5 o5 Q l5 r5)= .iface 106 (Qd b5):=by show(if Q.a=20 then _ else _)=_;rw[Oh,M];rfl
  obtain⟨j1,c6⟩:=z6 b5 o5 Q l5 r5 (aAY u) M;obtain⟨b3,b4,z3⟩:=j1.W Ou;obtain⟨b9,y9,⟨_,_,z5⟩,z7⟩:=y2;have m5:w.cell? ⟨b5,2,none⟩=some (Qc Q.c):=Og y9 z5
  have m6:w.cell? ⟨b5,3,none⟩=some (.slice b3 (aD l5) b4):=by rw[cell_of_row _ _ _ _ _ _ y9,z7,z3]
  by_cases h6:aD l=aD l5
  ·obtain⟨G,A⟩:∃ G,G=s:=⟨_,rfl⟩;have k5:Hid (s.O F its a.h a.b (aD l)=G):=by unfold Hid;rw[A];unfold Rs.O eK;rw[u];simp[M,h6]
   have k6:Hid (iY F its a.h (aD l)=fun _=>Q.c):=by unfold Hid;funext q;unfold iY eK;rw[u];simp[M,h6]
   have hw:=fun n=>(hN.drewN n).write (h.rs.drewN n) Q.c;have j6:Hid _:=hw;have j0:((aD l:Int)!=(aD l5:Int))=false:=by simp[h6]
   have b7:Hid (aD l=aD l5):=h6;clear M y9 z7 z5 z3 j1 hw h6;go_enter func249,ntmps249
   go_wp2_with fail
   refine(iM w h.rs h.it h.fo hn).mono ?_;rintro e W2 ⟨rfl,rfl⟩;rw[u];unfold uC;dsimp only;rw[hv];go_wp2_with fail
   go_quiet (fail)
   obtain⟨j,D,_,_⟩:=j6.o nq;rw[<-A]at j;have d:=((Fr.refl H (Po a) w).drewN nq).t D;have m:Wr b 2 (fun _=>Q.c) w ((w.drewN nq).setCell ⟨b,0+2,none⟩ (Qc Q.c)):=Wr.after (w:=w.drewN nq) (fun _ _ h=>h) (Wr.of_set _);rw[Nat.zero_add]at j d m;clear j6 D j0 A hv;go_upto_region 6 with fail
   generalize (w.drewN nq).setCell ⟨b,2,none⟩ (Qc Q.c)=B at*;have m3:=HW.o _ _ m;rw[k7]at m3;have k:=HI.o _ d;have y3:Hid (NsW H O N I U Z F its G B):=k9.o _ _ j d;have y4:Hid (IsT B l):=k;have T:=LpN.start (its:=its) (L:=bCF l) j (h7.o _ k);have R:Hid _:=fun wr=>HF.o _ _ B wr k5.o k6.o d m k;clear k j d m k5 k6 HF k9 h7 HI HW;go_wp2_with fail
   go_loopg [62] (aD l) (fun v a3 wr=>∃ (i:Nat) (J:Rs),a3= Qc i/\i<=aD l/\aD l<=i+v/\LpN H O N I U Z F its (bCF l) G B i J wr)
   case atStart=>exact⟨0,G,rfl,Qn _,Oa,T⟩
   case round=>
    clear T;obtain⟨i,J,rfl,z9,u,c⟩:=hrel;have C:Hid _:=c
    by_cases y1:i < aD l
    ·have h8:(i:Int) < (aD l:Int):=Oa
     obtain⟨b2,o2,a2,x,r2,f,k3⟩:=dK i (bCF l) (by rw[<-bLA];exact y1);have k4:=fE.drop i _ hA;rw[f]at k4;obtain⟨j2,⟨p,Y⟩,_⟩:=k4
     obtain⟨gg,rfl,h5⟩:=gQ Oy z0.o y4.o c.fr Pt.body k7 f (by
      cases x with
      |nil=>exact absurd p (by unfold Ws bK;omega)
      |node b o a l r=>
       obtain⟨_,a5,a7,e,_⟩:=p.parts;exact⟨b,o,a,l,r,rfl,fun h=>(by rw[h]at e;cases e),fun h=>(by rw[h]at e;cases e)⟩)
     obtain⟨a4,a1,y0⟩:=p.g Oy;have z:=c.rest;rw[f]at z;have W:=Y J wr (y3.o.fr c.rs c.fr Pt.body) z.1;rw[y0]at h5 W;have X:Hid _:=fun w3=>C.o.step (w3:=w3) Oy z1.o z2.o f k3;clear Y p f k3 z c;go_wp2_with fail
     refine W.mono ?_;rintro e V ⟨rfl,y,i3,x3⟩;obtain⟨v,rfl⟩:=Oj gk
     have fin:∃ (K:Nat) (J:Rs),Qc ((i:Int)+1)= Qc K/\K<=aD l/\aD l<=K+v/\LpN H O N I U Z F its (bCF l) G B K J V:=
      ⟨i+1,_,Od,Oa,Oa,X.o V y i3 x3⟩
     clear X C y i3 x3;go_wp2;go_roundg v
     case rel=>exact fin
     case measure=>omega
    ·have h8: ¬(i:Int) < (aD l:Int):=Oa
     have k2:i=aO (bCF l):=by rw[<-bLA];omega
     have fin:bCY H O N I U Z F (Pt (.node b o a l .nil)) (reT F its (.node b o a l .nil) s) (rsT F its (.node b o a l .nil) s) w (.returned (.tuple #[])) wr:=by
      subst k2;obtain⟨e1,x⟩:=c.fin;have P:=c.rs;rw[e1]at P;exact R.o wr c.fr P x
     clear k2 c C R;go_wp2;go_end0
     exact fin
  ·obtain⟨G,A⟩:∃ G,G=s.fail 5 a.b:=⟨_,rfl⟩;have k5:Hid (s.O F its a.h a.b (aD l)=G):=by unfold Hid;rw[A];unfold Rs.O eK;rw[u];simp[M,h6]
   have k6:Hid (iY F its a.h (aD l)=fun q=>q):=by unfold Hid;funext q;unfold iY eK;rw[u];simp[M,h6]
   have j0:((aD l:Int)!=(aD l5:Int))=true:=by simpa using fun h=>h6 Oa
   clear M y9 z7 z5 z3 j1 h6;go_enter func249,ntmps249
   go_wp2_with fail
   refine(iM w h.rs h.it h.fo hn).mono ?_;rintro e W2 ⟨rfl,rfl⟩;rw[u];unfold uC;dsimp only;rw[hv];go_wp2_with fail
   go_quiet (fail)
   go_wp2_with fail
   refine(bCJ 5 a.b _ (h.rs.drewN nq)).mono ?_;rintro e B ⟨rfl,j,D⟩;rw[<-A]at j;have m:Wr b 2 (fun q=>q) w B:=Wr.id ((hN.drewN nq).keep0 D);have d:Fr H (Po a) w B:=((Fr.refl H (Po a) w).drewN nq).t (D.mono F0.to);clear j0 D A hv;have m3:=HW.o _ _ m;rw[k7]at m3;have k:=HI.o _ d;have y3:Hid (NsW H O N I U Z F its G B):=k9.o _ _ j d;have y4:Hid (IsT B l):=k;have T:=LpN.start (its:=its) (L:=bCF l) j (h7.o _ k);have R:Hid _:=fun wr=>HF.o _ _ B wr k5.o k6.o d m k;clear k j d m k5 k6 HF k9 h7 HI HW;go_wp2_with fail
   go_loopg [62] (aD l) (fun v a3 wr=>∃ (i:Nat) (J:Rs),a3= Qc i/\i<=aD l/\aD l<=i+v/\LpN H O N I U Z F its (bCF l) G B i J wr)
   case atStart=>exact⟨0,G,rfl,Qn _,Oa,T⟩
   case round=>
    clear T;obtain⟨i,J,rfl,z9,u,c⟩:=hrel;have C:Hid _:=c
    by_cases y1:i < aD l
    ·have h8:(i:Int) < (aD l:Int):=Oa
     obtain⟨b2,o2,a2,x,r2,f,k3⟩:=dK i (bCF l) (by rw[<-bLA];exact y1);have k4:=fE.drop i _ hA;rw[f]at k4;obtain⟨j2,⟨p,Y⟩,_⟩:=k4
     obtain⟨gg,rfl,h5⟩:=gQ Oy z0.o y4.o c.fr Pt.body k7 f (by
      cases x with
      |nil=>exact absurd p (by unfold Ws bK;omega)
      |node b o a l r=>
       obtain⟨_,a5,a7,e,_⟩:=p.parts;exact⟨b,o,a,l,r,rfl,fun h=>(by rw[h]at e;cases e),fun h=>(by rw[h]at e;cases e)⟩)
     obtain⟨a4,a1,y0⟩:=p.g Oy;have z:=c.rest;rw[f]at z;have W:=Y J wr (y3.o.fr c.rs c.fr Pt.body) z.1;rw[y0]at h5 W;have X:Hid _:=fun w3=>C.o.step (w3:=w3) Oy z1.o z2.o f k3;clear Y p f k3 z c;go_wp2_with fail
     refine W.mono ?_;rintro e V ⟨rfl,y,i3,x3⟩;obtain⟨v,rfl⟩:=Oj gk
     have fin:∃ (K:Nat) (J:Rs),Qc ((i:Int)+1)= Qc K/\K<=aD l/\aD l<=K+v/\LpN H O N I U Z F its (bCF l) G B K J V:=
      ⟨i+1,_,Od,Oa,Oa,X.o V y i3 x3⟩
     clear X C y i3 x3;go_wp2;go_roundg v
     case rel=>exact fin
     case measure=>omega
    ·have h8: ¬(i:Int) < (aD l:Int):=Oa
     have k2:i=aO (bCF l):=by rw[<-bLA];omega
     have fin:bCY H O N I U Z F (Pt (.node b o a l .nil)) (reT F its (.node b o a l .nil) s) (rsT F its (.node b o a l .nil) s) w (.returned (.tuple #[])) wr:=by
      subst k2;obtain⟨e1,x⟩:=c.fin;have P:=c.rs;rw[e1]at P;exact R.o wr c.fr P x
     clear k2 c C R;go_wp2;go_end0
     exact fin
end
section
variable {H O N I U:Nat} {Z:Array Value} {F:cM} {its:List Tr}
theorem pU(u:TypeId)(v:Value)(w:World):(Instr.typeAssert (.iface u v) 335 253 true).run prog w= .ok (.tuple #[if u=253 then v else .pointer none,.bool (decide (u=253))]) w:=eY _ u v w underlying253 Od
theorem uF(u:TypeId)(v:Value)(w:World):(Instr.typeAssert (.iface u v) 335 407 true).run prog w= .ok (.tuple #[if u=407 then v else .pointer none,.bool (decide (u=407))]) w:=eY _ u v w underlying407 Od
theorem xZ{b o:Nat}{a:Nd}{l r:Tr}{w W2 W3:World}{s:Rs}{y R:Nat}(h:Ws y l)(_:Ws R r)(E:Uq a l r)(f:a.a≠20)(m: ¬(a.a=9/\a.flag=true))(j:wh1 F its a (aD l) s=a.c)(k:rs1 F its a (aD l) s=s)(n:Own w b a l r)(g:Fr H (Pt l) w W2)(q:IsT W2 (reT F its l s))(e:Fr H (Pt r) W2 W3)(t:IsT W3 (reT F its r (rsT F its l s))):
 IsT W3 (reT F its (.node b o a l r) s)/\Fr H (Pt (.node b o a l r)) w W3:=by
 have v:=cX n g Pt.body (fun p c z d=>E.own_l p c d.2) f;have x:=cX v e Pt.body (fun p c z d=>E.own_r p c d.2) f;have u:=bOT q e h (dJ _ _ _ _) E.apart_;rw[mL m,j,k];exact⟨⟨u,t,gZ x (dJ _ _ _ _) (dJ _ _ _ _)⟩,(g.mono Pt.left).t (e.mono Pt.right)⟩
theorem gV{b o:Nat}{a:Nd}{l r:Tr}{w W2:World}{R:Nat}(e:Ws R r)(E:Uq a l r)(hi:IsT w (.node b o a l r))(d:Fr H (Pt l) w W2)(f:a.a≠20):IsT W2 r/\Own W2 b a l r:=
 ⟨IsT.fr d (fun t p c=>(Pt.body t p c).e) e hi.2.1 (Pt.o E.apart),cX hi.2.2 d Pt.body (fun p c _ g=>E.own_l p c g.2) f⟩
theorem tG{a:Nd}{n:Nat}{s:Rs}(h:a.a≠1/\a.a≠2/\a.a≠3/\a.a≠9/\a.a≠10): ¬(a.a=9/\a.flag=true)/\wh1 F its a n s=a.c/\rs1 F its a n s=s:=by
 grind[wh1,rs1]
theorem aOH{b o:Nat}{a:Nd}{l r:Tr}(hw:Ws 1 (.node b o a l r))(y4:(ps (.node b o a l r)).Nodup)(X:a.a=7->Ws 0 l/\Ws 0 r/\GN 195 H O N I U Z F its bCH l/\GN 195 H O N I U Z F its bCH r)(Y:a.a=8->Ws 1 l/\Ws 1 r/\GN 303 H O N I U Z F its bCH l/\GN 303 H O N I U Z F its bCH r):GN 303 H O N I U Z F its bCH (.node b o a l r):=by
 intro s w h hi;obtain⟨y3,sx,sy,k1,k9,K⟩:=hw.parts
 have ht:a.a=7\/a.a=8:=by
  by_cases h1:a.a=7
  ·exact .l h1
  by_cases d:a.a=8
  ·exact .r d
  ·exfalso;simp[sig,h1,d]at k1
 have E:=dZ y4;obtain⟨R,y0,M⟩:=tG (F:=F) (its:=its) (a:=a) (n:=aD l) (s:=s) Oa;have y:a.a≠20:=Oa
 have p:=hi.2.2;have hv:bCH (.node b o a l r)= .iface (bZ a.a) (Qd b):=if_neg y;rw[hv];clear hv k1 y3;have t1:=fun C a1=>pU C a1 w;have t2:=fun C a1=>uF C a1 w;have a2:Hid _:=fun W2 W3 c u D v=>xZ (H:=H) (o:=o) (W2:=W2) (W3:=W3) k9 K E y R y0 M p c u D v;have RK:Hid _:=fun W2 c=>gV (H:=H) (W2:=W2) K E hi c y;have W:rsT F its (.node b o a l r) s=rsT F its r (rsT F its l s):=by rw[jM R,M]
 rw[W];have HN:Hid (NsW H O N I U Z F its s w):=h;rcases ht with P|Q
 ·obtain⟨x,q,A,z⟩:=X P;obtain⟨C,a3,y2⟩:=x.g Oy;obtain⟨u2,p2,y1⟩:=q.g Oy;have S:Hid (GN 195 H O N I U Z F its bCH r):=z
  have j:∀ f,Own f b a l r->f.cell? ⟨b,2,none⟩=some (bCH l)/\f.cell? ⟨b,3,none⟩=some (bCH r):=by
   intro f ho;obtain⟨cs,t,_,_,d,g⟩:=aI ho (n:=7) P;exact⟨Og t d,Og t g⟩
  have m2:=(j w p).1;have y5:Hid _:=j;have m:=A s w h hi.1;rw[y2]at m2 m;rw[show bZ a.a=253 by rw[P];rfl];clear X Y A z p R E y4 hi hw y y0 M W k9 K x q j P h;go_enter func303,ntmps303
  go_wp2_with fail
  refine m.mono ?_;rintro e W2 ⟨rfl,d,u,c⟩;obtain⟨j2,o2⟩:=RK.o W2 c;have m3:=(y5.o W2 o2).2;have k:=S.o _ _ (HN.o.fr d c Pt.body) j2;rw[y1]at m3 k;go_wp2_with fail
  refine k.mono ?_;rintro e W3 ⟨rfl,g,v,D⟩;go_wp2;go_end0
  obtain⟨T,V⟩:=a2.o W2 W3 c u D v;exact⟨rfl,g,T,V⟩
 ·obtain⟨x,q,A,z⟩:=Y Q;obtain⟨C,a3,y2⟩:=x.g Ox;obtain⟨u2,p2,y1⟩:=q.g Ox;have S:Hid (GN 303 H O N I U Z F its bCH r):=z
  have j:∀ f,Own f b a l r->f.cell? ⟨b,1,none⟩=some (bCH l)/\f.cell? ⟨b,2,none⟩=some (bCH r):=by
   intro f ho;obtain⟨cs,t,_,d,g⟩:=aI ho (n:=8) Q;exact⟨Og t d,Og t g⟩
  have m2:=(j w p).1;have y5:Hid _:=j;have m:=A s w h hi.1;rw[y2]at m2 m;rw[show bZ a.a=407 by rw[Q];rfl];clear X Y A z p R E y4 hi hw y y0 M W k9 K x q j Q h;go_enter func303,ntmps303
  go_wp2_with fail
  refine m.mono ?_;rintro e W2 ⟨rfl,d,u,c⟩;obtain⟨j2,o2⟩:=RK.o W2 c;have m3:=(y5.o W2 o2).2;have k:=S.o _ _ (HN.o.fr d c Pt.body) j2;rw[y1]at m3 k;go_wp2_with fail
  refine k.mono ?_;rintro e W3 ⟨rfl,g,v,D⟩;go_wp2;go_end0
  obtain⟨T,V⟩:=a2.o W2 W3 c u D v;exact⟨rfl,g,T,V⟩
def eE:Tr->Nat
 | .nil=>0
 | .node _ _ a l r=>(if a.a=9 then 1 else 0)+eE l+eE r
theorem jG(s:Rs)(x:ByteArray)(p m:Int):(s.K x p m).b=s.b:=by
 grind[Rs.K,Rs.fail_vars]
theorem wY(s:Rs)(x:ByteArray)(p:Int):(s.oldVar x p).b=s.b:=by
 grind[Rs.oldVar,Rs.fail_vars]
theorem aDO(a:Nd)(n:Nat)(s:Rs):(rs1 F its a n s).b=s.b:=by
 grind[rs1,Rs.P,Rs.O,jG,wY,Rs.fail_vars]
theorem aA4(s:Rs)(x:ByteArray):(s.V x).b.length<=s.b.length+1:=by
 grind[Rs.V,nO]
theorem rM:∀ (t:Tr) (s:Rs),(rsT F its t s).b.length<=s.b.length+eE t:=by
 intro t
 induction t with
 |nil=>intro s;exact Ql _
 |node b o a l r ihl ihr=>
  grind[rs1,aD,eE,rsT,aDO,aA4]
end
section
variable {H O N I U:Nat} {Z:Array Value} {F:cM} {its:List Tr}
def GS(f H O N I U:Nat)(Z:Array Value)(F:cM)(its:List Tr)(val:Tr->Value)(t:Tr):Prop:=
 ∀ s w,NsW H O N I U Z F its s w->IsT w t->s.b.length+eE t<=1000000->Calls prog f #[Qd N,val t] w (bCY H O N I U Z F (Pt t) (reT F its t s) (rsT F its t s) w)
theorem aQ1{b o:Nat}{a:Nd}{l r:Tr}(d:a.a=9)(hw:Ws 2 (.node b o a l r))(W:aUI H (.node b o a l r))(V:(ps (.node b o a l r)).Nodup)(Y:Ws 0 l/\GN 195 H O N I U Z F its bCH l):GS 302 H O N I U Z F its cB (.node b o a l r):=by
 obtain⟨h8,sx,sy,h6,Q,k6⟩:=hw.parts;rw[d]at h6;cases h6;obtain rfl:=k6.nil_of;have hn:a.h.size<=maxLen:=by have:=h8.h;unfold maxLen;omega
 have E:=dZ V;have k5:H<=b:=W.2.2 (by unfold gY;omega);intro s w h hi k4;have hN:=rX hi.2.2 k5 (.r (.r (.r (.l d))));obtain⟨a3,p,k3⟩:=Q.g Oy;have HL:Hid (GN 195 H O N I U Z F its bCH l):=Y.2
 have R:∀ u S,S.a=9->Own u b S l .nil->u.cell? ⟨b,3,none⟩=some (bCH l):=by
  intro u S k7 ho;obtain⟨cs,X,_,m,_⟩:=aI ho (n:=9) k7;rw[cell_of_row _ _ _ _ _ _ X];exact m
 have mf:w.cell? ⟨b,4,none⟩=some (.bool a.flag):=by
  obtain⟨cs,X,_,_,m⟩:=aI hi.2.2 (n:=9) d;rw[cell_of_row _ _ _ _ _ _ X];exact m
 have K:Hid (NsW H O N I U Z F its s w):=h;have D:Hid (IsT w (.node b o a l .nil)):=hi;have M:Hid (Uq a l .nil):=E;have k:Hid (a.a=9):=d;show Calls prog 302 #[Qd N,Qd b] w _;cases hfl:a.flag
 ·rw[hfl]at mf;have n9: ¬(a.a=9/\a.flag=true):=fun h=>by rw[hfl]at h;cases h.2
  have v:rs1 F its a (aD l) s=s.oldVar a.h a.b:=by unfold rs1;rw[if_pos d,hfl];rfl
  have k2:wh1 F its a (aD l) s=(bCK a.h s.b).getD 0:=by unfold wh1;rw[if_pos (.r d)]
  rw[mL n9,jM n9,v,k2];have k1:Hid _:=R;clear Y hw W V E v k2 n9 R k4 d hi hfl;go_enter func302,ntmps302
  go_wp2_with fail
  refine(yP w h.rs hN hn).mono ?_;rintro e g ⟨rfl,T,j,a1⟩;have q:Own g b {a with c:=(bCK a.h s.b).getD 0} l .nil:=tH D.o.2.2 (.r (.r (.r (.l k.o)))) a1;have z:IsT g l:=IsT.fr j (fun t p f=>(Po.body t p f).e) Q D.o.1 (Po.o M.o.own_l);have m3:=k1.o g {a with c:=(bCK a.h s.b).getD 0} k.o q;have x:=HL.o _ _ (K.o.fr T j Po.body) z;rw[k3]at m3 x;have k0:Hid (Own g b {a with c:=(bCK a.h s.b).getD 0} l .nil):=q;clear q a1 z K;go_wp2_with fail
  refine x.mono ?_;rintro e P ⟨rfl,m,i3,C⟩;go_wp2;refine bodyPost_ret (results_none rfl _ _ _) rfl ?_;have A:=cX k0.o C Pt.body (fun p f ty y=>M.o.own_l p f y.2) (by have:=k.o;show a.a≠20;omega);exact⟨rfl,m,⟨i3,trivial,gZ A (dJ _ _ _ _) (Sh.refl _)⟩,(j.mono Po.to).t (C.mono Pt.left)⟩
 ·rw[hfl]at mf;have v:rs1 F its a (aD l) s=s.K a.h a.b 12:=by unfold rs1;rw[if_pos d,hfl];rfl
  have e1:rsT F its (.node b o a l .nil) s=(rsT F its l (s.K a.h a.b 12)).V a.h:=by
   show(if _ then _ else _)=_;rw[if_pos ⟨d,hfl⟩,v]
  have e2:reT F its (.node b o a l .nil) s= .node b o {a with c:=(rsT F its l (s.K a.h a.b 12)).b.length} (reT F its l (s.K a.h a.b 12)) .nil:=by
   show(if _ then _ else _)=_;rw[if_pos ⟨d,hfl⟩,v]
  rw[e1,e2];have h5:=rM (F:=F) (its:=its) l (s.K a.h a.b 12);rw[jG]at h5
  have k8:(rsT F its l (s.K a.h a.b 12)).b.length<=1000000:=by
   have:eE (.node b o a l .nil)=1+eE l+0:=by show(if a.a=9 then 1 else 0)+_+_=_;rw[if_pos d];rfl
   omega
  have k1:Hid _:=R;have y1:Hid (∀ u,Own u b a l .nil->mE H (Po a) u b 0 a.h a.b):=fun u ho=>rX ho k5 (.r (.r (.r (.l d))));clear Y hw W V E v R k4 d hi hfl e1 e2 h5;go_enter func302,ntmps302
  go_wp2_with fail
  refine(tI w 12 h.rs hN hn).mono ?_;rintro e g ⟨rfl,T,j⟩;have q:=cX D.o.2.2 j F0.body (fun p f ty y=>y) (Oi k.o);have z:IsT g l:=IsT.fr j (fun t p f=>absurd f id) Q D.o.1 (fun _ _ _ h=>h);have m3:=k1.o g a k.o q;have x:=HL.o _ _ (K.o.fr T j F0.body) z;rw[k3]at m3 x;have k0:Hid (Own g b a l .nil):=q;clear q z K;go_wp2_with fail
  refine x.mono ?_;rintro e P ⟨rfl,m,i3,C⟩;have A:=cX k0.o C Pt.body (fun p f ty y=>M.o.own_l p f y.2) (Oi k.o);have k9:=y1.o P A;have y0:Hid (Own P b a l .nil):=A;clear A;go_wp2_with fail
  refine(tX P m k9 hn k8).mono ?_;rintro e W4 ⟨rfl,h4,x4,a2⟩;go_wp2;go_end0
  have o4:Own W4 b {a with c:=((rsT F its l (s.K a.h a.b 12)).b.length:Int)} l .nil:=tH y0.o (.r (.r (.r (.l k.o)))) a2;have i4:IsT W4 (reT F its l (s.K a.h a.b 12)):=IsT.fr x4 (fun t p f=>(Po.body t p f).e) ((dJ F its l _).ws Q) i3 (by rw[(dJ F its l (s.K a.h a.b 12)).ps];exact Po.o M.o.own_l);exact⟨rfl,h4,⟨i4,trivial,gZ o4 (dJ _ _ _ _) (Sh.refl _)⟩,((j.mono F0.to).t (C.mono Pt.left)).t (x4.mono Po.to)⟩
end
section
variable {H O N I U:Nat} {Z:Array Value} {F:cM} {its:List Tr}
theorem kG(u:TypeId)(v:Value)(w:World):(Instr.typeAssert (.iface u v) 250 326 true).run prog w= .ok (.tuple #[if u=326 then v else .pointer none,.bool (decide (u=326))]) w:=eY _ u v w underlying326 Od
theorem gN(u:TypeId)(v:Value)(w:World):(Instr.typeAssert (.iface u v) 250 329 true).run prog w= .ok (.tuple #[if u=329 then v else .pointer none,.bool (decide (u=329))]) w:=eY _ u v w underlying329 Od
theorem pB(u:TypeId)(v:Value)(w:World):(Instr.typeAssert (.iface u v) 250 332 true).run prog w= .ok (.tuple #[if u=332 then v else .pointer none,.bool (decide (u=332))]) w:=eY _ u v w underlying332 Od
theorem iG(u:TypeId)(v:Value)(w:World):(Instr.typeAssert (.iface u v) 250 338 true).run prog w= .ok (.tuple #[if u=338 then v else .pointer none,.bool (decide (u=338))]) w:=eY _ u v w underlying338 Od
theorem iL(u:TypeId)(v:Value)(w:World):(Instr.typeAssert (.iface u v) 250 341 true).run prog w= .ok (.tuple #[if u=341 then v else .pointer none,.bool (decide (u=341))]) w:=eY _ u v w underlying341 Od
theorem pR(u:TypeId)(v:Value)(w:World):(Instr.typeAssert (.iface u v) 250 344 true).run prog w= .ok (.tuple #[if u=344 then v else .pointer none,.bool (decide (u=344))]) w:=eY _ u v w underlying344 Od
theorem jR{b o:Nat}{a:Nd}{l r:Tr}(c:Ws 2 (.node b o a l r)):9<=a.a/\a.a<=14:=by
 obtain⟨_,x,y,d,_⟩:=c.parts
 grind[sig]
theorem eD(b o:Nat)(a:Nd)(l r:Tr):eE (.node b o a l r)=(if a.a=9 then 1 else 0)+eE l+eE r:=rfl
theorem aLN{b o:Nat}{a:Nd}{l r:Tr}(hw:Ws 2 (.node b o a l r))(hH:aUI H (.node b o a l r))(y5:(ps (.node b o a l r)).Nodup)(h9:a.a=9->GS 302 H O N I U Z F its cB (.node b o a l r))(hE:a.a=10\/a.a=13\/a.a=14->Ws 0 l/\GN 195 H O N I U Z F its bCH l)(y7:a.a=10->Ws 0 r/\GN 195 H O N I U Z F its bCH r)(hC:a.a=11\/a.a=12->Ws 1 l/\GN 303 H O N I U Z F its bCH l)(hB:a.a=12->Ws 4 r/\GS 196 H O N I U Z F its bCH r)(hI:a.a=11->∃ W X P p x,r= .node W X P p x/\P.a=18/\Ws 4 p/\Ws 4 x/\GS 196 H O N I U Z F its bCH p/\GS 196 H O N I U Z F its bCH x):
 GS 250 H O N I U Z F its bCH (.node b o a l r):=by
 obtain⟨z4,sx,sy,k1,y3,T⟩:=hw.parts;obtain⟨c7,c8⟩:=jR hw;have hn:a.h.size<=maxLen:=by have:=z4.h;unfold maxLen;omega
 have E:=dZ y5;have j6:H<=b:=hH.2.2 (by unfold gY;omega);intro s w h hi Y;have z5:a.a≠20:=Oa
 have y:=hi.2.2;have hv:bCH (.node b o a l r)= .iface (bZ a.a) (Qd b):=if_neg z5;rw[hv];have t1:=fun u D=>kG u D w;have t2:=fun u D=>gN u D w;have t3:=fun u D=>pB u D w;have t4:=fun u D=>iG u D w;have t5:=fun u D=>iL u D w;have t6:=fun u D=>pR u D w;have HN:Hid (NsW H O N I U Z F its s w):=h;have HU:Hid (Uq a l r):=E;have HI:Hid (IsT w (.node b o a l r)):=hi
 by_cases K:a.a=9
 ·have j:=h9 K s w h hi Y;have y6:Calls prog 302 #[Qd N,Qd b] w (bCY H O N I U Z F (Pt (.node b o a l r)) (reT F its (.node b o a l r) s) (rsT F its (.node b o a l r) s) w):=j;rw[show bZ a.a=326 by rw[K];rfl];clear h9 hE y7 hC hB hI j hw hH y5 E y hv k1 y3 T h hi Y K;go_enter func250,ntmps250
  go_wp2_with fail
  refine y6.mono ?_;rintro e W2 ⟨rfl,f,g,d⟩;go_wp2;go_end0
  exact⟨rfl,f,g,d⟩
 have V: ¬(a.a=9/\a.flag=true):=fun h=>K h.1;have k0:eE (.node b o a l r)=eE l+eE r:=by rw[eD,if_neg K];omega
 rw[k0]at Y
 by_cases z:a.a=10
 ·have y1:rs1 F its a (aD l) s=s.P F its a.h a.b:=by unfold rs1;rw[Oh,Oh,if_pos (.r z)]
  have y2:wh1 F its a (aD l) s=fL F its a.h a.c:=by unfold wh1;rw[Oh,if_pos (.r z)]
  rw[mL V,jM V,y1,y2];have hN:=rX y j6 (.r (.r (.r (.r z))));obtain⟨q,A⟩:=hE (.l z);obtain⟨k3,y9⟩:=y7 z;obtain⟨u,p,y4⟩:=q.g Oy;obtain⟨u2,p2,z1⟩:=k3.g Oy;have HL:Hid (GN 195 H O N I U Z F its bCH l):=A;have HR:Hid (GN 195 H O N I U Z F its bCH r):=y9;have HT:Hid (a.a=10):=z
  have M:∀ k a',a'.a=10->Own k b a' l r->k.cell? ⟨b,3,none⟩=some (bCH l)/\k.cell? ⟨b,4,none⟩=some (bCH r):=by
   intro k a' j4 ho;obtain⟨cs,v,_,Q,h4,_⟩:=aI ho (n:=10) j4;exact⟨Og v Q,Og v h4⟩
  have y8:Hid _:=M;rw[show bZ a.a=329 by rw[z];rfl];clear h9 hE y7 hC hB hI hw hH y5 E y hv k1 y3 T hi Y K z V k0 y1 y2 M A y9;go_enter func250,ntmps250
  go_wp2_with fail
  refine(sW w h hN hn).mono ?_;rintro e W2 ⟨rfl,f,d,b2⟩;have g:IsT W2 l:=IsT.fr d (fun t p C=>(Po.body t p C).e) q HI.o.1 (Po.o HU.o.own_l);have j2:IsT W2 r:=IsT.fr d (fun t p C=>(Po.body t p C).e) k3 HI.o.2.1 (Po.o HU.o.own_r);have o2:Own W2 b {a with c:=fL F its a.h a.c} l r:=tH HI.o.2.2 (.r (.r (.r (.r HT.o)))) b2;have m3:=(y8.o W2 {a with c:=fL F its a.h a.c} HT.o o2).1;have k4:=HN.o.fr f d Po.body;have j:=HL.o _ _ k4 g;rw[y4]at m3 j;have j8:Hid (Own W2 b {a with c:=fL F its a.h a.c} l r):=o2;clear o2 b2 g;go_wp2_with fail
  refine j.mono ?_;rintro e W3 ⟨rfl,Q,R,m⟩;have o3:Own W3 b {a with c:=fL F its a.h a.c} l r:=cX j8.o m Pt.body (fun p C ty hq=>HU.o.own_l p C hq.2) (by have:=HT.o;show a.a≠20;omega);have j3:IsT W3 r:=IsT.fr m (fun t p C=>(Pt.body t p C).e) k3 j2 (Pt.o HU.o.apart);have m4:=(y8.o W3 {a with c:=fL F its a.h a.c} HT.o o3).2;have h6:=HR.o _ _ (k4.fr Q m Pt.body) j3;rw[z1]at m4 h6;have j7:Hid (Own W3 b {a with c:=fL F its a.h a.c} l r):=o3;clear o3 j3 j2 k4;go_wp2_with fail
  refine h6.mono ?_;rintro e W4 ⟨rfl,h4,i4,x4⟩;go_wp2;go_end0
  have o4:=cX j7.o x4 Pt.body (fun p C ty hq=>HU.o.own_r p C hq.2) (by have:=HT.o;show a.a≠20;omega);have l4:=bOT R x4 q (dJ _ _ _ _) HU.o.apart_;exact⟨rfl,h4,⟨l4,i4,gZ o4 (dJ _ _ _ _) (dJ _ _ _ _)⟩,((d.mono Po.to).t (m.mono Pt.left)).t (x4.mono Pt.right)⟩
 obtain⟨_,y2,y1⟩:=tG (F:=F) (its:=its) (a:=a) (n:=aD l) (s:=s) Oa;have k2:rsT F its (.node b o a l r) s=rsT F its r (rsT F its l s):=by rw[jM V,y1]
 have k8:=rM (F:=F) (its:=its) l s;have a2:Hid _:=fun W2 W3 d g m R=>xZ (H:=H) (o:=o) (W2:=W2) (W3:=W3) y3 T E z5 V y2 y1 y d g m R;have RK:Hid _:=fun W2 d=>gV (H:=H) (W2:=W2) T E hi d z5
 by_cases S:a.a=11
 ·obtain⟨W,X,P,p,x,rfl,hz,z6,z0,z9,z8⟩:=hI S;obtain⟨q,A⟩:=hC (.l S);obtain⟨u,pp,y4⟩:=q.g Ox;obtain⟨ao,cp,j1⟩:=z6.W Ox;obtain⟨c5,c6,j0⟩:=z0.W Ox;have HP:Hid (GS 196 H O N I U Z F its bCH p):=z9;have HQ:Hid (GS 196 H O N I U Z F its bCH x):=z8
  have M:∀ k,Own k b a l (.node W X P p x)->k.cell? ⟨b,0,none⟩=some (bCH l)/\k.cell? ⟨b,1,none⟩=some (bCH p)/\k.cell? ⟨b,2,none⟩=some (bCH x):=by
   intro k ho;obtain⟨cs,v,h0,x',y',z',p',q',e,h1,f⟩:=aI ho (n:=11) S;simp only[BT.node.injEq]at e;obtain⟨rfl,rfl,rfl,rfl,rfl⟩:=e;exact⟨Og v h0,Og v h1,Og v f⟩
  have a5:=dZ (b:=W) (o:=X) E.right;obtain⟨a7,b4,a8⟩:=tG (F:=F) (its:=its) (a:=P) (n:=aD p) (s:=rsT F its l s) Oa;have b3:rsT F its (.node W X P p x) (rsT F its l s)=rsT F its x (rsT F its p (rsT F its l s)):=by rw[jM a7,a8]
  have b5:Hid _:=fun(w1:World) ho W2 W3 d g m R=>xZ (H:=H) (b:=W) (o:=X) (W2:=W2) (W3:=W3) (w:=w1) z6 z0 a5 (by omega:P.a≠20) a7 b4 a8 ho d g m R;have b6:Hid _:=fun(w1:World) b7 W2 d=>gV (H:=H) (b:=W) (o:=X) (W2:=W2) (w:=w1) z0 a5 b7 d (by omega:P.a≠20);have z2:=rM (F:=F) (its:=its) p (rsT F its l s);have z7:eE (.node W X P p x)=eE p+eE x:=by rw[eD,Oh];omega
  rw[z7]at Y;have a6:(rsT F its l s).b.length+eE p<=1000000:=Oa
  have b8:(rsT F its p (rsT F its l s)).b.length+eE x<=1000000:=Oa
  have y8:Hid _:=M;have m2:=(M w y).1;have j:=A s w h hi.1;rw[y4]at m2 j;rw[k2,b3];have HT:Hid (a.a=11):=S;rw[show bZ a.a=332 by rw[S];rfl];clear h9 hE y7 hC hB hI hw hH y5 E y hv k1 y3 T hi Y K z S V k0 y1 y2 M A z9 z8 a5 a7 b4 a8 b3 z2 z7 k2 k8 h q;go_enter func250,ntmps250
  go_wp2_with fail
  refine j.mono ?_;rintro e W2 ⟨rfl,f,g,d⟩;obtain⟨j2,o2⟩:=RK.o W2 d;have m3:=(y8.o W2 o2).2.1;have k4:=HN.o.fr f d Pt.body;have h6:=HP.o _ _ k4 j2.1 a6;rw[j1]at m3 h6;go_wp2_with fail
  refine h6.mono ?_;rintro e W3 ⟨rfl,Q,R,m⟩;obtain⟨j3,z3⟩:=b6.o W2 j2 W3 m;have b9:Fr H (Pt (.node W X P p x)) W2 W3:=m.mono Pt.left;have o3:=cX o2 b9 Pt.body (fun p C ty hq=>HU.o.own_r p C hq.2) (Oi HT.o);have m4:=(y8.o W3 o3).2.2;have k6:=HQ.o _ _ (k4.fr Q m Pt.body) j3 b8;rw[j0]at m4 k6;go_wp2_with fail
  refine k6.mono ?_;rintro e W4 ⟨rfl,h4,i4,x4⟩;go_wp2;go_end0
  obtain⟨g1,g2⟩:=b5.o W2 j2.2.2 W3 W4 m R x4 i4;obtain⟨f1,f2⟩:=a2.o W2 W4 d g g2 g1;exact⟨rfl,h4,f1,f2⟩
 by_cases a1:a.a=12
 ·obtain⟨q,A⟩:=hC (.r a1);obtain⟨k3,y9⟩:=hB a1;obtain⟨u,pp,y4⟩:=q.g Ox;obtain⟨ao,cp,z1⟩:=k3.W Ox;have HR:Hid (GS 196 H O N I U Z F its bCH r):=y9
  have M:∀ k,Own k b a l r->k.cell? ⟨b,0,none⟩=some (bCH l)/\k.cell? ⟨b,1,none⟩=some (bCH r):=by
   intro k ho;obtain⟨cs,v,f,Q⟩:=aI ho (n:=12) a1;exact⟨Og v f,Og v Q⟩
  have m2:=(M w y).1;have y8:Hid _:=M;have j:=A s w h hi.1;have a6:(rsT F its l s).b.length+eE r<=1000000:=Oa
  rw[y4]at m2 j;rw[k2];rw[show bZ a.a=338 by rw[a1];rfl];clear h9 hE y7 hC hB hI hw hH y5 E y hv k1 y3 T hi Y K z S a1 V k0 y1 y2 M A y9 k2 k8 h q k3;go_enter func250,ntmps250
  go_wp2_with fail
  refine j.mono ?_;rintro e W2 ⟨rfl,f,g,d⟩;obtain⟨j2,o2⟩:=RK.o W2 d;have m3:=(y8.o W2 o2).2;have h6:=HR.o _ _ (HN.o.fr f d Pt.body) j2 a6;rw[z1]at m3 h6;go_wp2_with fail
  refine h6.mono ?_;rintro e W3 ⟨rfl,Q,R,m⟩;go_wp2;go_end0
  obtain⟨f1,f2⟩:=a2.o W2 W3 d g m R;exact⟨rfl,Q,f1,f2⟩
 have a3:a.a=13\/a.a=14:=Oa
 have j5:r= .nil:=by
  have:sy=99:=by rcases a3 with h|h<;>rw[h]at k1<;>cases k1<;>rfl
  subst this;exact T.nil_of
 subst j5;obtain⟨q,A⟩:=hE (.r a3);obtain⟨u,pp,y4⟩:=q.g Oy
 have m2:w.cell? ⟨b,0,none⟩=some (bCH l):=by
  rcases a3 with a4|a4
  ·obtain⟨cs,v,f⟩:=aI y (n:=13) a4;rw[cell_of_row _ _ _ _ _ _ v];exact f
  ·obtain⟨cs,v,f⟩:=aI y (n:=14) a4;rw[cell_of_row _ _ _ _ _ _ v];exact f
 have j:=A s w h hi.1;rw[y4]at m2 j;rw[k2];rcases a3 with a9|b1
 ·rw[show bZ a.a=341 by rw[a9];rfl];clear h9 hE y7 hC hB hI hw hH y5 E y hv k1 y3 T hi Y K z S a1 V k0 y1 y2 A k2 k8 h q a9;go_enter func250,ntmps250
  go_wp2_with fail
  refine j.mono ?_;rintro e W2 ⟨rfl,f,g,d⟩;go_wp2;go_end0
  obtain⟨f1,f2⟩:=a2.o W2 W2 d g (Fr.refl _ _ _) trivial;exact⟨rfl,f,f1,f2⟩
 ·rw[show bZ a.a=344 by rw[b1];rfl];clear h9 hE y7 hC hB hI hw hH y5 E y hv k1 y3 T hi Y K z S a1 V k0 y1 y2 A k2 k8 h q b1;go_enter func250,ntmps250
  go_wp2_with fail
  refine j.mono ?_;rintro e W2 ⟨rfl,f,g,d⟩;go_wp2;go_end0
  obtain⟨f1,f2⟩:=a2.o W2 W2 d g (Fr.refl _ _ _) trivial;exact⟨rfl,f,f1,f2⟩
end
section
variable {H O N I U:Nat} {Z:Array Value} {F:cM} {its:List Tr}
theorem tM{s:Nat}{t:Tr}(c:s=3\/s=4\/s=5\/s=6\/s=8)(h:Ws s t):eE (bCF t)=eE t:=by
 rcases h.lst c with rfl|⟨b,o,a,l,rfl,d,_⟩
 ·rfl
 ·rw[eD,Oh];show eE l=_;simp[eE]
theorem fB{s:Nat}{t:Tr}(c:s=3\/s=4\/s=5\/s=6\/s=8)(h:Ws s t):aD t<=10000:=by
 rcases h.lst c with rfl|⟨b,o,a,l,rfl,d,_⟩
 ·trivial
 ·exact h.len d
theorem aBH{l:Tr}(d:Ws 4 l)(X:(ps l).Nodup)(hA:fE (fun e=>Ws 2 e/\GS 250 H O N I U Z F its bCH e) (bCF l)):GS 196 H O N I U Z F its bCH l:=by
 intro s w h hi W;obtain⟨ao,cp,V⟩:=d.W Ox;have a6:=fB Ox d;have p:=jU Ox d;have M:(ps (bCF l)).Nodup:=by rw[<-p];exact X
 have E:=d.elems Ox
 have T:IsT w (bCF l):=by
  cases l with
  |nil=>trivial
  |node=>exact hi.1
 rw[<-tM Ox d]at W;have y5:Hid ((ps (bCF l)).Nodup):=M;have y4:Hid (Ws 14 (bCF l)):=E;have y3:Hid (Ws 4 l):=d;have y7:Hid (IsT w l):=hi;have y6:Hid (NsW H O N I U Z F its s w):=h;have y:=LpN.start (its:=its) (L:=bCF l) h.rs T
 have x:Hid (∀ wr,Fr H (Pt (bCF l)) w wr->RsW H O N I U Z F (rsT F its (bCF l) s) wr->IsT wr (reT F its (bCF l) s)->bCY H O N I U Z F (Pt l) (reT F its l s) (rsT F its l s) w (.returned (.tuple #[])) wr):=by
  intro wr R k ir;refine⟨rfl,by rw[d.lstrs Ox];exact k,aE8 Ox d hi R Pt.body ir,R.mono fun t a1 Q=>⟨Q.1,by rw[p];exact Q.2⟩⟩
 rw[V];clear p M E T d X hi h;go_enter func196,ntmps196
 go_wp2_with fail
 go_loopg [8] (aD l) (fun m a3 wr=>∃ (i:Nat) (J:Rs),a3= Qc i/\i<=aD l/\aD l<=i+m/\J.b.length+eE (aL i (bCF l))<=1000000/\LpN H O N I U Z F its (bCF l) s w i J wr)
 case atStart=>exact⟨0,s,rfl,Qn _,Oa,W,y⟩
 case round=>
  clear y;obtain⟨i,J,rfl,a5,hm,n,c⟩:=hrel;have v:Hid _:=c
  by_cases y2:i < aD l
  ·have h9:(i:Int) < (aD l:Int):=Oa
   obtain⟨b2,o2,a2,f,r2,g,u⟩:=dK i (bCF l) (by rw[<-bLA];exact y2);have k8:=fE.drop i _ hA;rw[g]at k8 n;obtain⟨a4,⟨j,P⟩,_⟩:=k8
   obtain⟨gg,rfl,h6⟩:=gQ Ox y3.o y7.o c.fr Pt.body V g (by
    cases f with
    |nil=>exact absurd j (by unfold Ws bK;omega)
    |node b o a l r=>
     have:=jR j;exact⟨b,o,a,l,r,rfl,Oa,Oa⟩)
   obtain⟨a7,a1,y0⟩:=j.g Ov;have q:=c.rest;rw[g]at q;have Y:eE (.node b2 o2 a2 f r2)=eE f+eE r2:=by rw[eD,Oh];omega
   rw[Y]at n;have A:=P J wr (y6.o.fr c.rs c.fr Pt.body) q.1 Oa;have y1:=rM (F:=F) (its:=its) f J;have k9:Hid ((rsT F its f J).b.length+eE (aL (i+1) (bCF l))<=1000000):=by rw[Hid,u];omega
   rw[y0]at h6 A;have C:Hid _:=fun w3=>v.o.step (w3:=w3) Ox y4.o y5.o g u;clear P j g u q c Y y1 n;go_wp2_with fail
   refine A.mono ?_;rintro e z ⟨rfl,D,S,x3⟩;obtain⟨m,rfl⟩:=Oj gk
   have fin:∃ (K:Nat) (J:Rs),Qc ((i:Int)+1)= Qc K/\K<=aD l/\aD l<=K+m/\J.b.length+eE (aL K (bCF l))<=1000000/\LpN H O N I U Z F its (bCF l) s w K J z:=
    ⟨i+1,_,Od,Oa,Oa,k9.o,C.o z D S x3⟩
   clear C v D S x3 k9;go_wp2;go_roundg m
   case rel=>exact fin
   case measure=>omega
  ·have h9: ¬(i:Int) < (aD l:Int):=Oa
   have k7:i=aO (bCF l):=by rw[<-bLA];omega
   have fin:bCY H O N I U Z F (Pt l) (reT F its l s) (rsT F its l s) w (.returned (.tuple #[])) wr:=by
    subst k7;obtain⟨e1,f⟩:=c.fin;have k:=c.rs;rw[e1]at k;exact x.o wr c.fr k f
   clear k7 c v x;go_wp2;go_end0
   exact fin
def szT:Tr->Nat
 | .nil=>1
 | .node _ _ _ l r=>szT l+szT r+1
def aID(its:List Tr):Prop:=∀ b o a l r,(BT.node b o a l r)∈its->a.a=17->Ws 6 l/\aD l<=1000000
theorem xD{b o:Nat}{a:Nd}{l r:Tr}(h:aUI H (.node b o a l r)):aUI H l/\aUI H r:=⟨h.1,h.2.1⟩
theorem aAW(h6:aID its):∀ (n:Nat) (t:Tr),szT t<=n->aUI H t->(ps t).Nodup->
 (Ws 0 t->GN 195 H O N I U Z F its bCH t)/\(Ws 1 t->GN 303 H O N I U Z F its bCH t)/\(Ws 2 t->GS 250 H O N I U Z F its bCH t)/\(Ws 4 t->GS 196 H O N I U Z F its bCH t)/\
 (Ws 13 t->fE (fun e=>Ws 0 e/\GN 195 H O N I U Z F its bCH e) t)/\(Ws 14 t->fE (fun e=>Ws 2 e/\GS 250 H O N I U Z F its bCH e) t):=by
 intro n
 induction n with
 |zero=>intro t h;cases t<;>simp[szT]at h
 |succ n ih=>
  intro t hsz u j;cases t with
  |nil=>
   refine⟨(by grind[Ws,bK]),(by grind[Ws,bK]),(by grind[Ws,bK]),fun h=>?_,fun _=>trivial,fun _=>trivial⟩;exact aBH h j trivial
  |node b o a l r=>
   have P:szT l<=n/\szT r<=n:=by grind[szT]
   obtain⟨C,s⟩:=xD u;have E:=dZ j;have v:=ih l P.1 C E.left;have D:=ih r P.2 s E.right
   have a1:∀ q,q=l\/q=r->Ws 3 q->fE (fun e=>Ws 0 e/\GN 195 H O N I U Z F its bCH e) (bCF q):=by
    intro q Q f;rcases f.lst (by omega)with rfl|⟨Y,o2,X,m,rfl,k5,w⟩
    ·trivial
    ·have h5:szT m<=n:=by
      grind[szT]
     have k4:aUI H m:=by rcases Q with rfl|rfl;exact C.1;exact s.1
     have k3:(ps m).Nodup:=by rcases Q with rfl|rfl;exact(dZ E.left).left;exact(dZ E.right).left
     exact(ih m h5 k4 k3).2.2.2.2.1 w
   refine⟨fun f=>?_,fun f=>?_,fun f=>?_,fun f=>?_,fun f=>?_,fun f=>?_⟩
   ·obtain⟨W,x,y,c,T,g⟩:=f.parts;refine aO3 f u j (fun d=>?_) (fun d=>?_) (fun d=>?_)
    ·have:x=0:=by rcases d with h|h|h|h<;>rw[h]at c<;>cases c<;>rfl
     grind
    ·have:y=0:=by rw[d]at c;cases c;rfl
     grind
    ·have:x=3:=by rw[d]at c;cases c;rfl
     subst this;exact aOO d f u j (by grind[fB]) h6 Qh
   ·obtain⟨W,x,y,c,T,g⟩:=f.parts;refine aOH f j (fun d=>?_) (fun d=>?_)
    ·rw[d]at c;cases c;simp[*]
    ·rw[d]at c;cases c;simp[*]
   ·obtain⟨W,x,y,c,T,g⟩:=f.parts;refine aLN f u j (fun d=>?_) (fun d=>?_) (fun d=>?_) (fun d=>?_) (fun d=>?_) (fun d=>?_)
    ·rw[d]at c;cases c
     grind[aQ1]
    ·have:x=0:=by rcases d with h|h|h<;>rw[h]at c<;>cases c<;>rfl
     grind
    ·rw[d]at c;cases c;simp[*]
    ·have:x=1:=by rcases d with h|h<;>rw[h]at c<;>cases c<;>rfl
     grind
    ·rw[d]at c;cases c;simp[*]
    ·rw[d]at c;cases c;cases r with
     |nil=>grind[Ws,bK]
     |node x y z p q=>
      obtain⟨_,sp,sq,V,M,K⟩:=g.parts
      have S:z.a=18:=by
       grind[sig]
      rw[S]at V;cases V;have R:szT p<=n/\szT q<=n:=by grind[szT]
      have u2:=dZ E.right;exact⟨x,y,z,p,q,rfl,S,M,K,(ih p R.1 s.1 u2.left).2.2.2.1 M,(ih q R.2 s.2.1 u2.right).2.2.2.1 K⟩
   ·obtain⟨Y,o2,X,m,e,k5,w⟩:=(f.lst Oa).resolve_left Od;simp only[BT.node.injEq]at e;obtain⟨rfl,rfl,rfl,rfl,rfl⟩:=e;exact aBH f j (v.2.2.2.2.2 w)
   ·obtain⟨A,k,g⟩:=aY Oa f;exact⟨A,⟨k,v.1 k⟩,D.2.2.2.2.1 g⟩
   ·obtain⟨A,k,g⟩:=aY Ox f;exact⟨A,⟨k,v.2.2.1 k⟩,D.2.2.2.2.2 g⟩
end
end Go.Proofs.YtikffmloeifkpaaGreatDoor
