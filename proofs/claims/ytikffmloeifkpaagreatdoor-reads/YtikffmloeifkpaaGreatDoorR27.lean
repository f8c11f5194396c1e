/- Contracts. -/
import Derived.Test.YtikffmloeifkpaaGreatDoorR25
import Derived.Test.YtikffmloeifkpaaGreatDoorR26
set_option maxHeartbeats 16000000
set_option maxRecDepth 100000
namespace Go.Proofs.YtikffmloeifkpaaGreatDoor
open Go.RowKit Go.Lib Go.Deep Go.ChangeMaps Go.MapKept Tryz
section
variable {B L C:List NQ} {A F:List Int} {K:Int->Prop} {ns:Nat}
def aE6(B:List NQ)(A F:List Int)(hi c:Int)(L:List NQ)(k:Int):Prop:=c=0->∃ (P b:NQ) (y:Int) (Kw Kb:Int->Prop) (Z:Nat),jM B k P/\jM L k b/\b.b=(Z:Int)/\P.g.length<=Z/\Z<=100000/\P.e.length<=100000/\P.g.length<=90000/\P.c=[y]/\(Kb y/\∃ n,jM B y n/\n.d=19)
 /\(∀ c∈P.e,Kw c/\∃ n,jM B c n/\n.d=9)/\Cl B Kw/\Cl B Kb/\(∀ i,Kw i->i < hi/\∃ b,jM L i b/\OkR B A F P.g.length b)/\(∀ i,Kb i->i < hi/\∃ b,jM L i b/\OkR B A F Z b)/\k < hi
theorem aE6.keep{hi lo hi' c c' k:Int}(h:aE6 B A F hi c L k)(u:xZ lo hi' L C)(D:hi<=lo)(t:c'=0->c=0):aE6 B A F hi c' C k:=fun e=>by
 obtain⟨P,b,z,g,f,Z,j,l,m,n,o,p,h0,q,r,s,y,x,w,v,k0⟩:=h (t e)
 exact⟨P,b,z,g,f,Z,j,u.off l Oa,m,n,o,p,h0,q,r,s,y,x,fun i hi=>by
  obtain⟨e1,b,a,d⟩:=w i hi;exact⟨e1,b,u.off a Oa,d⟩,fun i hi=>by
  obtain⟨e1,b,a,d⟩:=v i hi;exact⟨e1,b,u.off a Oa,d⟩,k0⟩
theorem aE6.wide{hi hi' c k:Int}(h:aE6 B A F hi c L k)(u:hi<=hi'):aE6 B A F hi' c L k:=fun e=>by
 obtain⟨P,b,y,d,a,Z,f,g,i,j,l,m,h0,n,o,p,q,k0,r,s,t⟩:=h e;exact⟨P,b,y,d,a,Z,f,g,i,j,l,m,h0,n,o,p,q,k0,Qg,Qg,Oa⟩
def Las(ns:Nat)(B L C:List NQ):Prop:=∀ y a,jM B y a->∃ (b:NQ) (s:Int),jM L y b/\pW a b/\jM C y {b with f:=s}/\s < ns
theorem aYD(h:vW B L)(i:Sit ns L C)(j:∀ a∈B,a.f < 0):Las ns B L C:=fun y a d=>by
 obtain⟨b,e,f⟩:=h.ndq d;obtain⟨s,g,c⟩:=i.at_ _ _ e.2
 exact⟨b,s,e,f,⟨d.1,g⟩,by
  rcases c with c|c
  ·exact c
  ·have:=j a (Qr d.2);rw[<-f.f]at this;omega⟩
theorem zQ.to{i y:Int}{c:Nat}(f:Las ns B L C)(h:zQ B K i c y):zQ C K i c y:=⟨h.1,h.2.1,by
 obtain⟨m,a,d⟩:=h.2.2;obtain⟨b,s,_,e,e1,_⟩:=f y m a;exact⟨_,e1,by rw[<-d,<-e.d]⟩⟩
theorem WfK.to{i:Int}{n m:NQ}(d:Las ns B L C)(o:m.d=n.d)(a:m.c=n.c)(f:m.n=n.n)(h:WfK B K i n):WfK C K i m:=by
 unfold WfK;rw[o,a,f];rcases h with h|⟨h,a⟩|⟨h,a⟩|⟨h,y,a,f⟩|⟨h,y,z,a,f,g⟩|⟨h,y,z,a,f,g⟩|⟨h,c,b,r,a,f,g,p⟩
 ·simp[*]
 ·exact .r (.l ⟨h,fun y j=>(a y j).to d⟩)
 ·exact .r (.r (.l ⟨h,fun y j=>(a y j).to d⟩))
 ·exact .r (.r (.r (.l ⟨h,y,a,f.to d⟩)))
 ·exact .r (.r (.r (.r (.l ⟨h,y,z,a,f.to d,g.to d⟩))))
 ·exact .r (.r (.r (.r (.r (.l ⟨h,y,z,a,f.to d,g.to d⟩)))))
 ·exact .r (.r (.r (.r (.r (.r ⟨h,c,b,r,a,f.to d,g.to d,p.imp id (fun⟨e1,e,k,l⟩=>⟨e1,e,k,l.to d⟩)⟩)))))
theorem aSN{Z h:Nat}{hi:Int}(g:Las ns B L C)(o:Cl B K)(p:∀ i,K i->i < hi/\∃ b,jM L i b/\OkR B A F Z b)(q:Z<=h):Nok B C A F h ns K:=fun i hi=>by
 obtain⟨r,c,d⟩:=o i hi;obtain⟨b,s,e1,e,j,k⟩:=g i r c;obtain⟨_,a,l,m⟩:=p i hi;have n:a=b:=by have c:=e1.2;have d:=l.2;grind
 subst n;exact⟨_,j,d.to g e.d e.c e.n,OkR.mono (b:={a with f:=s}) m q,k⟩
theorem aX0{c:Nat}{y:Int}(g:Las ns B L C)(d:K y){n:NQ}(f:jM B y n)(a:cK n.d=c):KdK C K c y:=by
 obtain⟨b,s,_,e,e1,_⟩:=g y n f;exact⟨d,_,e1,by rw[<-a,<-e.d]⟩
theorem aE6.ok{hi k:Int}(h:aE6 B A F hi 0 L k)(a:Las ns B L C):aXD B C A F ns k:=by
 obtain⟨P,b,X,i,n,Z,t,u,v,l,w,x,_,y,⟨D,a2,G,k0⟩,E,h0,S,R,Q,_⟩:=h rfl;obtain⟨d,a3,e1,e,o,_⟩:=a k P t;have r:d=b:=by have j:=e1.2;have g:=u.2;grind
 subst r;refine⟨_,Z,X,n,i,o,v,w,by show d.g.length<=Z;rw[e.g];exact l,by show d.e.length<=_;rw[e.e];exact x,by show d.c=_;rw[e.c];exact y,aSN a S Q Oa,aX0 a D G (by rw[k0];rfl),aSN a h0 R l,fun c f=>?_⟩;have f:c∈d.e:=f;rw[e.e]at f;obtain⟨j,T,g,k3⟩:=E c f;obtain⟨m,N,O⟩:=h0 c j;have s:m=T:=by have j:=N.2;have g:=g.2;grind
 subst s;obtain⟨p,q,I,J,M⟩:=O.two Oa;obtain⟨U,ms,_,V,W,_⟩:=a c m g
 have ex:∀ z,zQ B i c 0 z->ExK C i z:=fun z H=>by
  obtain⟨Y,_,zn,z2,z3⟩:=H;exact aX0 a Y z2 z3
 exact⟨_,p,q,W,by show U.c=_;rw[V.c];exact I,ex p J,ex q M⟩
theorem bA3(f:Las ns B L C)(w:∀ x∈A,∃ n,jM B x n)(y:∀ x∈F,∃ hi,aE6 B A F hi 0 L x):aM8 B C A F:=⟨fun H x E=>by
 obtain⟨n,D⟩:=w x Qg;obtain⟨b,V,_,_,e,_⟩:=f x n D
 grind,fun H x n0 E h0=>by
 obtain⟨hi,h⟩:=y x Qg;obtain⟨P,b,a7,l,Kb,a3,i,h2,h3,u,h5,h6,a6,h7,h8,v,Q,a4,k0,a5,_⟩:=h rfl;have s:P=n0:=by have g:=i.2;have a:=h0.2;grind
 subst s;obtain⟨m,V,e1,e,o,_⟩:=f x P i;refine⟨Oa,_,o,fun c d=>?_⟩;have d:c∈m.e:=d;rw[e.e]at d;obtain⟨g,R,a,k3⟩:=v c d;obtain⟨j,N,O⟩:=Q c g;have r:j=R:=by have g:=N.2;have a:=a.2;grind
 subst r;obtain⟨p,q,I,J,M⟩:=O.two Oa;obtain⟨S,ms,_,T,U,_⟩:=f c j a
 have k:∀ z,zQ B l c 0 z->aHB C P.g.length z:=fun z G=>by
  obtain⟨z1,_,zn,z2,z3⟩:=G;obtain⟨zb,zs,W,ye,X,_⟩:=f z zn z2;obtain⟨_,a2,Y,Z⟩:=k0 z z1;have t:a2=zb:=by have g:=W.2;have a:=Y.2;grind
  subst t;exact⟨_,X,fun u=>Z.1 Qg⟩
 exact⟨_,p,q,U,by show S.c=_;rw[T.c];exact I,k p J,k q M⟩⟩
end
section
variable {H U:Nat} {L C:List NQ} {A F:List Int} {ns Z g:Nat} {Y D M B:Value} {V:List V3} {K:Int->Prop}
def bA6(H U:Nat)(L:List NQ)(A F:List Int)(ns Z:Nat)(Y D M B:Value)(V:List V3)(w:World):Ending->World->Prop:=fun e w'=>∃ d1 g1 d2 g2,e= .returned (.tuple #[oH d1 g1 Z,oH d2 g2 Z])/\fG Z d1 g1 w'/\fG Z d2 g2 w'/\gY H U L A F ns Y D M B V w w'
theorem aMZ(hN:Nok C L A F Z ns K)(hO:aM8 C L A F)(hZ:L.length<=100000)(m1:A.length<=100000)(d8:F.length<=100000)(hv:Z<=100000)(g8:ns<=1000000):∀ (c5:Nat) (y:Int) (d:Bool) (g:Nat) (w:World),y.toNat < c5->KdK L K 1 y->qQ H U L A F ns Y D M B V w->fG Z d g w->
 Calls prog 236 #[Qd U,oH d g Z,Qc y] w (bA6 H U L A F ns Z Y D M B V w):=by
 intro c5
 induction c5 with
 |zero=>intro y d g w h;omega
 |succ c5 ih=>
  intro y d g w hn hk hw hs;obtain⟨hk,u,m7,h1⟩:=hk;obtain⟨a,ha,j3,_⟩:=hN y hk;obtain rfl:u=a:=by have x:=ha.2;have I:=m7.2;rw[x]at I;exact(Oq I).symm
  have h2:u.d=9\/u.d=10\/u.d=11:=by grind [cK]
  obtain⟨p,gr,a2,b1,c1,b2,c2,b3,c3,rfl,h6,rfl,z9,g0,e0,e1,e2,e3,e4,e5,e6,e7,e8,e9,f7⟩:=hw.p0 ha;have g4:0<=(p:Int)/\(p:Int) < (L.length:Int):=Oa
  have d6:=Qp w _ g0;have d0:=Qp w _ e0;dsimp only at d6 d0;have j5:U < w.1.size+1/\U < w.1.size+1+1/\gr < w.1.size+1/\gr < w.1.size+1+1:=Oa
  obtain⟨W1,d7,kb,-,q4,q6,q7,q8⟩:=al4 w (kE d g Z) pY pY (rJ u b1 c1 b2 c2 b3 c3);have HW:Hid (W1=_):=d7;go_enter func236,ntmps236
  go_upto_region 2 with fail
  rw[<-HW.o];clear HW d7 g0 e0 e1 e2 e3 e4 e5 e6 e7 e8 e9 f7 d6 d0 j5;have c6:∀ {c:Nat} {f6:Int},zQ L K p c f6->0<=f6:=fun h=>by obtain⟨_,_,h8,hm,_⟩:=h;exact hm.1
  obtain⟨Q,N,y9,k3,h7⟩:∃ Q N,u.c=[Q,N]/\(if u.d=9 then KdK L K 0 Q/\KdK L K 0 N else KdK L K 1 Q/\KdK L K 1 N)/\(0<=Q/\Q < p)/\0<=N/\N < p:=by
   by_cases h9:u.d=9
   ·obtain⟨Q,N,h,i1,i2⟩:=j3.two (.r (.l h9));exact⟨Q,N,h,by rw[if_pos h9];exact⟨⟨i1.1,i1.2.2⟩,i2.1,i2.2.2⟩,⟨c6 i1,i1.2.1⟩,c6 i2,i2.2.1⟩
   ·obtain⟨Q,N,h,i1,i2⟩:=j3.both Oa;exact⟨Q,N,h,by rw[if_neg h9];exact⟨⟨i1.1,i1.2.2⟩,i2.1,i2.2.2⟩,⟨c6 i1,i1.2.1⟩,c6 i2,i2.2.1⟩
  obtain⟨E,hE⟩:∃ E:World->Prop,E=fun W=>Bw H U L A F ns (Qe gr L.length a2) D M B V w W/\W.1[w.1.size]?=some (kE d g Z)/\W.1[w.1.size+1+1+1]?=some (jJ u b1 c1 b2 c2 b3 c3)/\(∃ J v,W.1[w.1.size+1]?=some (Qf #[J,v] 230))/\∃ J v,W.1[w.1.size+1+1]?=some (Qf #[J,v] 230):=⟨_,rfl⟩;have E1:In E W1:=by unfold In;rw[hE];exact⟨(Bw.start hw).below kb,q4,q8,⟨_,_,q6⟩,_,_,q7⟩
  have z7:∀ W W2,In E W->gY H U L A F ns (Qe gr L.length a2) D M B V W W2->In E W2:=fun W W2 h r=>by
   unfold In at h ⊢;rw[hE]at h ⊢;obtain⟨x,I,h3,⟨_,_,h4⟩,_,_,h5⟩:=h;exact⟨x.bz r,x.box r.2 Oa I,x.box r.2 Oa h3,⟨_,_,x.box r.2 Oa h4⟩,_,_,x.box r.2 Oa h5⟩
  have y7:∀ W,In E W->qQ H U L A F ns (Qe gr L.length a2) D M B V W:=fun W h=>by unfold In at h;rw[hE]at h;exact h.1.fd
  have y4:∀ W W2,In E W->Below W.1.size W W2->In E W2:=fun W W2 h hB=>z7 W W2 h (by unfold In at h;rw[hE]at h;exact h.1.post hB);have y6:∀ W,In E W->fG Z d g W:=fun W h=>by unfold In at h;rw[hE]at h;exact hs.fd hw h.1.fr
  have z6:∀ W,In E W->gY H U L A F ns (Qe gr L.length a2) D M B V w W:=fun W h=>by unfold In at h;rw[hE]at h;exact⟨h.1.fd,h.1.fr⟩
  obtain⟨g6,g3,j9,m5,m4⟩:=pZ z9 (i:=0) (y:=Q) (by rw[y9];rfl);have g9:u.c.length=2:=by rw[y9];rfl
  simp only[Value.slice.injEq]at j9;obtain⟨rfl,-,rfl⟩:=j9
  have j8:∀ W,In E W->(W.cell? ⟨w.1.size,0,none⟩=some (.bool d)/\W.cell? ⟨w.1.size,1,none⟩=some (Qe g Z Z)/\W.cell? ⟨w.1.size+1+1+1,2,none⟩=some (.string u.s)/\W.cell? ⟨w.1.size+1+1+1,5,none⟩=some (Qe g6 2 c1)/\W.cell? ⟨g6,0,none⟩=some (Qc Q)/\W.cell? ⟨g6,1,none⟩=some (Qc N))/\W.cell? ⟨w.1.size+1+1+1,0,none⟩=some (Qc u.d):=fun W h=>by
   unfold In at h;rw[hE]at h;obtain⟨x,I,h3,_⟩:=h;obtain⟨_,_,v1,x1⟩:=x.kid z9 (i:=0) (y:=Q) (by rw[y9];rfl);obtain⟨_,_,v2,x2⟩:=x.kid z9 (i:=1) (y:=N) (by rw[y9];rfl);simp only[Value.slice.injEq,Option.some.injEq,Addr.mk.injEq]at v1 v2;obtain⟨⟨rfl,-⟩,-⟩:=v1;obtain⟨⟨rfl,-⟩,-⟩:=v2;exact⟨⟨(aQ I).1,(aQ I).2.1,Og h3 rfl,by rw[cell_of_row _ _ _ _ _ _ h3,<-g9];rfl,x1,x2⟩,Og h3 rfl⟩
  have k0:∀ W b a3 J,In E W->b=w.1.size+1\/b=w.1.size+1+1->a3 < 2->In E (W.setCell ⟨b,a3,none⟩ J):=fun W b a3 J h hb hj=>by
   unfold In at h ⊢;rw[hE]at h ⊢;obtain⟨x,I,h3,⟨u1,u2,h4⟩,v1,v2,h5⟩:=h;have mv:∀ p,p≠b->(W.setCell ⟨b,a3,none⟩ J).1[p]?=W.1[p]?:=fun p hk=>Om hk
   have st:∀ {a8 y:Value},W.1[b]?=some (Qf #[a8,y] 230)->∃ a8 y,(W.setCell ⟨b,a3,none⟩ J).1[b]?=some (Qf #[a8,y] 230):=fun c7=>by
    have:=aI (o:=a3) J c7;obtain rfl|rfl:a3=0\/a3=1:=Oa
    ·exact⟨_,_,this⟩
    ·exact⟨_,_,this⟩
   refine⟨?_,(mv _ Oa).t I,(mv _ Oa).t h3,?_,?_⟩
   ·exact x.set Oa _ _
   ·rcases hb with rfl|rfl
    ·exact st h4
    ·exact⟨_,_,(mv _ Oa).t h4⟩
   ·rcases hb with rfl|rfl
    ·exact⟨_,_,(mv _ Oa).t h5⟩
    ·exact st h5
  have z5:∀ W,In E W->w.1.size+4<=W.1.size:=fun W h=>by
   unfold In at h;rw[hE]at h;have:=(Oo h.2.2.1);omega
  have q:Ck H U L A F ns (Qe gr L.length a2) D M B V (w.1.size+4) E:=⟨y7,z7,fun W b a8 y J v h hb c7=>by
   unfold In at h ⊢;rw[hE]at h ⊢;obtain⟨x,I,h3,⟨u1,u2,h4⟩,v1,v2,h5⟩:=h;have mv:∀ p,p≠b->((W.setCell ⟨b,0,none⟩ J).setCell ⟨b,1,none⟩ v).1[p]?=W.1[p]?:=fun p hk=>(Om hk).t (Om hk);exact⟨(x.set Oa _ _).set Oa _ _,(mv _ Oa).t I,(mv _ Oa).t h3,⟨_,_,(mv _ Oa).t h4⟩,_,_,(mv _ Oa).t h5⟩,fun W b4 b a3 J h hX hb=>by
   have hz:=z5 b4 hX;unfold In at h ⊢;rw[hE]at h ⊢;obtain⟨x,I,h3,⟨u1,u2,h4⟩,v1,v2,h5⟩:=h;have mv:∀ p,p≠b->(W.setCell ⟨b,a3,none⟩ J).1[p]?=W.1[p]?:=fun p hk=>Om hk;exact⟨x.set Oa _ _,(mv _ Oa).t I,(mv _ Oa).t h3,⟨_,_,(mv _ Oa).t h4⟩,_,_,(mv _ Oa).t h5⟩,z5,fun p e=>Oi ((Bw.start hw).vs p e)⟩
  have k7:Ow E (w.1.size+1):=fun W h=>⟨by unfold In at h;rw[hE]at h;exact h.2.2.2.1,fun J v=>k0 _ _ _ _ (k0 _ _ _ _ h Oy Ob) Oy Ob⟩;have y3:Ow E (w.1.size+1+1):=fun W h=>⟨by unfold In at h;rw[hE]at h;exact h.2.2.2.2,fun J v=>k0 _ _ _ _ (k0 _ _ _ _ h Oz Ob) Oz Ob⟩;have HE:Hid (In E W1):=E1;have l0:=(j8 W1 E1).2;have m3:∀ (a8 y:Int),a8≠y->(a8==y)=false:=fun a8 y h=>by simp[h]
  clear q4 q6 q7 q8 kb E1 hE m5 m4 j3 z9 g9 y9 hw hs
  by_cases h9:u.d=9
  ·have t9:(u.d==9)=true:=by simp[h9]
   rw[if_pos h9]at k3;go_upto_region 3 with fail
   have E0:=y4 _ _ HE.o (Below.refl _ _).drew
   go_region_held3 (fun s=>In E s) (first|assumption|exact G.o)
    ((go_at_call 234;refine(uN hN hO hZ m1 d8 hv g8 _ Q d _ (Nat.lt_succ_self _) k3.1 (y7 _ E0) (y6 _ E0)).mono ?_;rintro e Wa ⟨r1,rfl,-,r⟩;have G:Hid (In E Wa):=z7 _ _ E0 r))
   go_upto_region 4 with fail
   have t:=y4 _ _ G.o (Below.refl _ _).drew
   go_region_held3 (fun s=>In E s) (first|assumption|exact S2.o)
    ((go_at_call 234;refine(uN hN hO hZ m1 d8 hv g8 _ N d _ (Nat.lt_succ_self _) k3.2 (y7 _ t) (y6 _ t)).mono ?_;rintro e Wb ⟨r2,rfl,-,r⟩;have S2:Hid (In E Wb):=z7 _ _ t r))
   go_upto_region 5 with fail
   have n:=y4 _ _ S2.o (Below.refl _ _).drew
   go_region_held3 (fun s=>In E s)
    (first
      |assumption
      |exact S3.o
      |exact S4.o
      |exact S5.o
      |exact(k7 _ S5.o).2 _ _
      |exact(y3 _ ((k7 _ S5.o).2 _ _)).2 _ _)
    (first
      |(go_at_call 112;refine(aGV hN hZ hv Q N f8 d _ k3.1 k3.2 (y7 _ S4.o) (y6 _ S4.o)).mono ?_;rintro e We ⟨d2,g2,rfl,j,y8⟩;have S5:Hid (In E We):=y4 _ _ S4.o y8;obtain⟨u1,u2,u3,u4,u5⟩:=k7.cells S5.o;obtain⟨v1,v2,v3,v4,v5⟩:=y3.cells S5.o)
      |(go_at_call 295;refine(aKW u.s _).mono ?_;rintro e Wd ⟨f8,rfl,d9⟩;have S4:Hid (In E Wd):=y4 _ _ S3.o d9)
      |(go_at_call 112;refine(aGV hN hZ hv Q N u.s d _ k3.1 k3.2 (y7 _ n) (y6 _ n)).mono ?_;rintro e Wc ⟨d1,g1,rfl,k,m8⟩;have S3:Hid (In E Wc):=y4 _ _ n m8))
   go_wp2;have e6:=(k7 _ S5.o).2 (.bool d1) (Qe g1 Z Z);have e7:=(y3 _ e6).2 (.bool d2) (Qe g2 Z Z);exact bodyPost_ret (v:= .tuple #[oH d1 g1 Z,oH d2 g2 Z]) (by simp[results,results236,go_sem, *]) rfl ⟨d1,g1,d2,g2,rfl,y3.st e6 (k7.st S5.o ((k.below d9).below y8) _ _) _ _,y3.st e6 (k7.st S5.o j _ _) _ _,z6 _ e7⟩
  ·have t9:=m3 _ _ h9;rw[if_neg h9]at k3;have a9:∀ (b4:World) (p l:Nat) (J v:Value),p≠l->b4.1[p]?=some pY->((b4.setCell ⟨l,0,none⟩ J).setCell ⟨l,1,none⟩ v).1[p]?=some pY:=fun b4 p l J v hk c7=>((Om hk).t (Om hk)).t c7;go_upto_region 6 with fail
   have f:=q.sz _ HE.o;have z:=Nat.le_succ_of_le f;have E0:=q.dr HE.o;have k9:∀ W2,_->_:=fun W2=>q.one (o:=pY) (W2:=W2) HE.o;have k8:∀ W2,_->_:=fun W2=>q.two (W2:=W2) HE.o;go_cut [9,10]from 66 to 76 (fun v9 b8 s=>∃ d1 g1 d2 g2,Two (w.1.size+4) Z E d1 g1 d2 g2 v9 b8 s)
   case first=>
    go_region_held3 (fun s=>In E s)
     (first
       |assumption
       |exact G.o
       |with_reducible exact q.far _ _ _ _ _ _ G.o f m.o
       |with_reducible exact q.far _ _ _ _ _ _ G.o z P.o
       |with_reducible exact q.al (q.far _ _ _ _ _ _ G.o f m.o) _
       |with_reducible exact q.far _ _ _ _ _ _ (q.far _ _ _ _ _ _ G.o f m.o) z (a9 _ _ _ _ _ Oa P.o)
       |with_reducible exact q.far _ _ _ _ _ _ (q.far _ _ _ _ _ _ G.o z P.o) f (a9 _ _ _ _ _ Oa m.o)
       |(repeat (first|assumption|exact G.o|exact HE.o|refine q.dr ?_|refine q.al ?_ _)))
     ((go_at_call 236;refine(ih Q d g _ Oa k3.1 (q.fd _ Qi) (y6 _ Qi)).mono ?_;rintro e W2 ⟨c8,d3,c9,d4,rfl,k,j,r⟩;have G:Hid (In E W2):=q.nx _ _ Qi r;first|((with_reducible have nn:=k9 _ r);obtain⟨n0,z3⟩:=nn;have m:Hid _:=n0;obtain⟨b5,b6,b7⟩:=dU n0;clear n0)|(with_reducible have g7:=q.nx _ _ E0 r)|((with_reducible have nn:=k8 _ r);obtain⟨n0,m0,z3⟩:=nn;have m:Hid _:=n0;have P:Hid _:=m0;obtain⟨b5,b6,b7⟩:=dU n0;obtain⟨f2,f4,f5⟩:=dU m0;clear n0 m0)))
    all_goals go_wp2
    all_goals go_meet
    all_goals first
     |with_reducible exact⟨_,_,_,_,q.way1 G.o k j⟩
     |with_reducible exact⟨_,_,_,_,q.way2 G.o k j⟩
     |with_reducible exact⟨_,_,_,_,q.way3 G.o k j f m.o⟩
     |with_reducible exact⟨_,_,_,_,q.way4 G.o k j f m.o⟩
     |with_reducible exact⟨_,_,_,_,q.way5 G.o k j f z Oa m.o P.o⟩
     |with_reducible exact⟨_,_,_,_,q.way5 G.o k j z f Oa P.o m.o⟩
   case rest=>
    obtain⟨d1,g1,d2,g2,b9,a6,rfl,rfl,⟨m2,j4⟩,q9,a7,hW,k,j⟩:=hcut;obtain⟨t,y5⟩:∃ t,t=Twq Z E d1 g1 d2 g2 b9 a6:=⟨_,rfl⟩;have h0:Ck H U L A F ns (Qe gr L.length a2) D M B V (max b9 a6+1) t:=by rw[y5];exact q.tw m2 j4
    have j1:Ow t (w.1.size+1):=by rw[y5];exact k7.tw Oa Oa
    have j0:Ow t (w.1.size+1+1):=by rw[y5];exact y3.tw Oa Oa
    have HX:Hid (In t wc):=by unfold Hid In;rw[y5];exact⟨hW,q9,a7,k,j⟩
    have k6:∀ W,In t W->In E W/\fG Z d1 g1 W/\fG Z d2 g2 W:=fun W h=>by unfold In at h;rw[y5]at h;exact⟨h.1,h.2.2.2⟩
    have z0:∀ W,In t W->W.cell? ⟨b9,0,none⟩=some (.bool d1)/\W.cell? ⟨b9,1,none⟩=some (Qe g1 Z Z)/\W.cell? ⟨a6,0,none⟩=some (.bool d2)/\W.cell? ⟨a6,1,none⟩=some (Qe g2 Z Z)/\W.cell? ⟨w.1.size+1+1+1,5,none⟩=some (Qe g6 2 c1)/\W.cell? ⟨g6,1,none⟩=some (Qc N)/\W.cell? ⟨w.1.size+1+1+1,0,none⟩=some (Qc u.d):=fun W h=>by
     have x:=j8 W (k6 W h).1;unfold In at h;rw[y5]at h;exact⟨(aQ h.2.1).1,(aQ h.2.1).2.1,(aQ h.2.2.1).1,(aQ h.2.2.1).2.1,x.1.2.2.2.1,x.1.2.2.2.2.2,x.2⟩
    have l0:=(z0 _ HX.o).2.2.2.2.2.2;clear y5 q9 a7 hW k j k9 k8 E0 j8 y6 z7 y7 y4 k0 k7 y3 HE f z
    by_cases j2:u.d=10
    ·have f9:(u.d==10)=true:=by simp[j2]
     clear j2;go_upto_region 8 with fail
     have f:=h0.sz _ HX.o;have z:=Nat.le_succ_of_le f;have F0:=h0.dr HX.o;have k9:∀ W2,_->_:=fun W2=>h0.one (o:=pY) (W2:=W2) HX.o;have k8:∀ W2,_->_:=fun W2=>h0.two (W2:=W2) HX.o;go_cut [11,12]from 79 to 89 (fun v9 b8 s=>∃ R T S X,Two (max b9 a6+1) Z t R T S X v9 b8 s)
     case first=>
      go_region_held3 (fun s=>In t s)
       (first
         |assumption
         |exact G.o
         |with_reducible exact h0.far _ _ _ _ _ _ G.o f m.o
         |with_reducible exact h0.far _ _ _ _ _ _ G.o z P.o
         |with_reducible exact h0.al (h0.far _ _ _ _ _ _ G.o f m.o) _
         |with_reducible exact h0.far _ _ _ _ _ _ (h0.far _ _ _ _ _ _ G.o f m.o) z (a9 _ _ _ _ _ Oa P.o)
         |with_reducible exact h0.far _ _ _ _ _ _ (h0.far _ _ _ _ _ _ G.o z P.o) f (a9 _ _ _ _ _ Oa m.o)
         |(repeat (first|assumption|exact G.o|exact HX.o|refine h0.dr ?_|refine h0.al ?_ _)))
       ((go_at_call 236;refine(ih N d1 g1 _ Oa k3.2 (h0.fd _ Qi) (k6 _ Qi).2.1).mono ?_;rintro e W2 ⟨c8,d3,c9,d4,rfl,k,j,r⟩;have G:Hid (In t W2):=h0.nx _ _ Qi r;first|((with_reducible have nn:=k9 _ r);obtain⟨n0,z3⟩:=nn;have m:Hid _:=n0;obtain⟨b5,b6,b7⟩:=dU n0;clear n0)|(with_reducible have g7:=h0.nx _ _ F0 r)|((with_reducible have nn:=k8 _ r);obtain⟨n0,m0,z3⟩:=nn;have m:Hid _:=n0;have P:Hid _:=m0;obtain⟨b5,b6,b7⟩:=dU n0;obtain⟨f2,f4,f5⟩:=dU m0;clear n0 m0)))
      all_goals go_wp2
      all_goals go_meet
      all_goals first
       |with_reducible exact⟨_,_,_,_,h0.way1 G.o k j⟩
       |with_reducible exact⟨_,_,_,_,h0.way2 G.o k j⟩
       |with_reducible exact⟨_,_,_,_,h0.way3 G.o k j f m.o⟩
       |with_reducible exact⟨_,_,_,_,h0.way4 G.o k j f m.o⟩
       |with_reducible exact⟨_,_,_,_,h0.way5 G.o k j f z Oa m.o P.o⟩
       |with_reducible exact⟨_,_,_,_,h0.way5 G.o k j z f Oa P.o m.o⟩
     case rest=>
      obtain⟨R,T,S,X,a5,a4,rfl,rfl,⟨z4,k4⟩,q9,a7,hW,k,j⟩:=hcut;obtain⟨n,O⟩:∃ n,n=Twq Z t R T S X a5 a4:=⟨_,rfl⟩;have z8:Ck H U L A F ns (Qe gr L.length a2) D M B V (max a5 a4+1) n:=by rw[O];exact h0.tw z4 k4
      have k2:Ow n (w.1.size+1):=by rw[O];exact j1.tw Oa Oa
      have k5:Ow n (w.1.size+1+1):=by rw[O];exact j0.tw Oa Oa
      have HY:Hid (In n wc):=by unfold Hid In;rw[O];exact⟨hW,q9,a7,k,j⟩
      have m6:∀ W,In n W->W.cell? ⟨a5,0,none⟩=some (.bool R)/\W.cell? ⟨a5,1,none⟩=some (Qe T Z Z)/\W.cell? ⟨a6,0,none⟩=some (.bool d2)/\W.cell? ⟨a6,1,none⟩=some (Qe g2 Z Z)/\W.cell? ⟨a4,0,none⟩=some (.bool S)/\W.cell? ⟨a4,1,none⟩=some (Qe X Z Z):=fun W h=>by
       unfold In at h;rw[O]at h;have I:=z0 W h.1;exact⟨(aQ h.2.1).1,(aQ h.2.1).2.1,I.2.2.1,I.2.2.2.1,(aQ h.2.2.1).1,(aQ h.2.2.1).2.1⟩
      have y0:∀ W,In n W->fG Z d1 g1 W/\fG Z d2 g2 W/\fG Z R T W/\fG Z S X W:=fun W h=>by
       unfold In at h;rw[O]at h;exact⟨(k6 W h.1).2.1,(k6 W h.1).2.2,h.2.2.2⟩
      have j7:∀ W,In n W->gY H U L A F ns (Qe gr L.length a2) D M B V w W:=fun W h=>by
       unfold In at h;rw[O]at h;exact z6 W (k6 W h.1).1
      clear O q9 a7 hW k j k9 k8 F0 z0 j1 j0 HX f z z4 k4 z6;have G0:=z8.dr HY.o;go_upto_region 9 with fail
      go_region_held3 (fun s=>In n s) (first|assumption|exact G.o|exact(k2 _ G.o).2 _ _|exact(k5 _ ((k2 _ G.o).2 _ _)).2 _ _)
       ((go_at_call 237;refine(aL1 hv d2 S g2 X _ (y0 _ G0).2.1 (y0 _ G0).2.2.2).mono ?_;rintro e W5 ⟨d5,g5,rfl,j6,y8⟩;have G:Hid (In n W5):=z8.be G0 y8;obtain⟨u1,u2,u3,u4,u5⟩:=k2.cells G.o;obtain⟨v1,v2,v3,v4,v5⟩:=k5.cells G.o))
      go_wp2;have e6:=(k2 _ G.o).2 (.bool R) (Qe T Z Z);have e7:=(k5 _ e6).2 (.bool d5) (Qe g5 Z Z);exact bodyPost_ret (v:= .tuple #[oH R T Z,oH d5 g5 Z]) (by simp[results,results236,go_sem, *]) rfl ⟨R,T,d5,g5,rfl,k5.st e6 (k2.st G.o ((y0 _ G.o).2.2.1) _ _) _ _,k5.st e6 (k2.st G.o j6 _ _) _ _,j7 _ e7⟩
    ·have f9:(u.d==10)=false:=by simp[j2]
     clear j2;go_upto_region 10 with fail
     have f:=h0.sz _ HX.o;have z:=Nat.le_succ_of_le f;have F0:=h0.dr HX.o;have k9:∀ W2,_->_:=fun W2=>h0.one (o:=pY) (W2:=W2) HX.o;have k8:∀ W2,_->_:=fun W2=>h0.two (W2:=W2) HX.o;go_cut [13,14]from 93 to 103 (fun v9 b8 s=>∃ R T S X,Two (max b9 a6+1) Z t R T S X v9 b8 s)
     case first=>
      go_region_held3 (fun s=>In t s)
       (first
         |assumption
         |exact G.o
         |with_reducible exact h0.far _ _ _ _ _ _ G.o f m.o
         |with_reducible exact h0.far _ _ _ _ _ _ G.o z P.o
         |with_reducible exact h0.al (h0.far _ _ _ _ _ _ G.o f m.o) _
         |with_reducible exact h0.far _ _ _ _ _ _ (h0.far _ _ _ _ _ _ G.o f m.o) z (a9 _ _ _ _ _ Oa P.o)
         |with_reducible exact h0.far _ _ _ _ _ _ (h0.far _ _ _ _ _ _ G.o z P.o) f (a9 _ _ _ _ _ Oa m.o)
         |(repeat (first|assumption|exact G.o|exact HX.o|refine h0.dr ?_|refine h0.al ?_ _)))
       ((go_at_call 236;refine(ih N d2 g2 _ Oa k3.2 (h0.fd _ Qi) (k6 _ Qi).2.2).mono ?_;rintro e W2 ⟨c8,d3,c9,d4,rfl,k,j,r⟩;have G:Hid (In t W2):=h0.nx _ _ Qi r;first|((with_reducible have nn:=k9 _ r);obtain⟨n0,z3⟩:=nn;have m:Hid _:=n0;obtain⟨b5,b6,b7⟩:=dU n0;clear n0)|(with_reducible have g7:=h0.nx _ _ F0 r)|((with_reducible have nn:=k8 _ r);obtain⟨n0,m0,z3⟩:=nn;have m:Hid _:=n0;have P:Hid _:=m0;obtain⟨b5,b6,b7⟩:=dU n0;obtain⟨f2,f4,f5⟩:=dU m0;clear n0 m0)))
      all_goals go_wp2
      all_goals go_meet
      all_goals first
       |with_reducible exact⟨_,_,_,_,h0.way1 G.o k j⟩
       |with_reducible exact⟨_,_,_,_,h0.way2 G.o k j⟩
       |with_reducible exact⟨_,_,_,_,h0.way3 G.o k j f m.o⟩
       |with_reducible exact⟨_,_,_,_,h0.way4 G.o k j f m.o⟩
       |with_reducible exact⟨_,_,_,_,h0.way5 G.o k j f z Oa m.o P.o⟩
       |with_reducible exact⟨_,_,_,_,h0.way5 G.o k j z f Oa P.o m.o⟩
     case rest=>
      obtain⟨R,T,S,X,a5,a4,rfl,rfl,⟨z4,k4⟩,q9,a7,hW,k,j⟩:=hcut;obtain⟨n,O⟩:∃ n,n=Twq Z t R T S X a5 a4:=⟨_,rfl⟩;have z8:Ck H U L A F ns (Qe gr L.length a2) D M B V (max a5 a4+1) n:=by rw[O];exact h0.tw z4 k4
      have k2:Ow n (w.1.size+1):=by rw[O];exact j1.tw Oa Oa
      have k5:Ow n (w.1.size+1+1):=by rw[O];exact j0.tw Oa Oa
      have HY:Hid (In n wc):=by unfold Hid In;rw[O];exact⟨hW,q9,a7,k,j⟩
      have m6:∀ W,In n W->W.cell? ⟨b9,0,none⟩=some (.bool d1)/\W.cell? ⟨b9,1,none⟩=some (Qe g1 Z Z)/\W.cell? ⟨a5,0,none⟩=some (.bool R)/\W.cell? ⟨a5,1,none⟩=some (Qe T Z Z)/\W.cell? ⟨a4,0,none⟩=some (.bool S)/\W.cell? ⟨a4,1,none⟩=some (Qe X Z Z):=fun W h=>by
       unfold In at h;rw[O]at h;have I:=z0 W h.1;exact⟨I.1,I.2.1,(aQ h.2.1).1,(aQ h.2.1).2.1,(aQ h.2.2.1).1,(aQ h.2.2.1).2.1⟩
      have y0:∀ W,In n W->fG Z d1 g1 W/\fG Z d2 g2 W/\fG Z R T W/\fG Z S X W:=fun W h=>by
       unfold In at h;rw[O]at h;exact⟨(k6 W h.1).2.1,(k6 W h.1).2.2,h.2.2.2⟩
      have j7:∀ W,In n W->gY H U L A F ns (Qe gr L.length a2) D M B V w W:=fun W h=>by
       unfold In at h;rw[O]at h;exact z6 W (k6 W h.1).1
      clear O q9 a7 hW k j k9 k8 F0 z0 j1 j0 HX f z z4 k4 z6;have G0:=z8.dr HY.o;go_upto_region 11 with fail
      go_region_held3 (fun s=>In n s) (first|assumption|exact G.o|exact(k2 _ G.o).2 _ _|exact(k5 _ ((k2 _ G.o).2 _ _)).2 _ _)
       ((go_at_call 237;refine(aL1 hv d1 R g1 T _ (y0 _ G0).1 (y0 _ G0).2.2.1).mono ?_;rintro e W5 ⟨d5,g5,rfl,j6,y8⟩;have G:Hid (In n W5):=z8.be G0 y8;obtain⟨u1,u2,u3,u4,u5⟩:=k2.cells G.o;obtain⟨v1,v2,v3,v4,v5⟩:=k5.cells G.o))
      go_wp2;have e6:=(k2 _ G.o).2 (.bool d5) (Qe g5 Z Z);have e7:=(k5 _ e6).2 (.bool S) (Qe X Z Z);exact bodyPost_ret (v:= .tuple #[oH d5 g5 Z,oH S X Z]) (by simp[results,results236,go_sem, *]) rfl ⟨d5,g5,S,X,rfl,k5.st e6 (k2.st G.o j6 _ _) _ _,k5.st e6 (k2.st G.o ((y0 _ G.o).2.2.2) _ _) _ _,j7 _ e7⟩
end
section
variable {H U:Nat} {L C:List NQ} {A F:List Int} {ns Z g:Nat} {Y D M B:Value} {V:List V3} {K:Int->Prop}
def GoQ(H U:Nat)(L:List NQ)(A F:List Int)(ns Z:Nat)(Y D M B:Value)(V:List V3)(K:Int->Prop)(fn c n:Nat):Prop:=∀ (y:Int) (d:Bool) (g:Nat) (w:World),y.toNat < n->KdK L K c y->qQ H U L A F ns Y D M B V w->fG Z d g w->
 Calls prog fn #[Qd U,oH d g Z,Qc y] w (aM3 H U L A F ns Z Y D M B V w)
theorem aS0(hN:Nok C L A F Z ns K)(_:L.length<=100000)(n:Nat)(hS:GoQ H U L A F ns Z Y D M B V K 178 2 n):GoQ H U L A F ns Z Y D M B V K 113 3 (n+1):=by
 intro a2 d g w hn N s hs;obtain⟨N,b,k9,b4⟩:=N;obtain⟨a,ha,k2,_⟩:=hN a2 N;obtain rfl:b=a:=by have u:=ha.2;have r:=k9.2;rw[u]at r;exact(Oq r).symm
 have h0:∀ z∈b.c,KdK L K 2 z/\0<=z/\z < a2:=by
  have a7:b.d=19:=by grind [cK]
  rcases k2 with⟨h,_⟩|⟨h,_⟩|⟨_,h⟩|⟨h,_⟩|⟨h,_⟩|⟨h,_⟩|⟨h,_⟩
  case inr.inr.inl=>exact fun z l=>by obtain⟨u,r,Q,h3,h4⟩:=h z l;exact⟨⟨u,Q,h3,h4⟩,h3.1,r⟩
  all_goals omega
 obtain⟨O,gr,t,b1,c1,b2,c2,b3,c3,rfl,b7,rfl,x,g0,e0,e1,e2,e3,e4,X,e6,e7,e8,e9,a3⟩:=s.p0 ha;have k8:=aGM x.k;unfold maxLen at k8;have a8:0<=(O:Int)/\(O:Int) < (L.length:Int):=Oa
 have I:=Qp w _ g0;have y:=Qp w _ e0;dsimp only at I y;obtain⟨T,k5,q,-,f,q6⟩:=al2 w (kE d g Z) pY;have S:Hid (T=_):=k5;clear k5;go_enter func113,ntmps113
 go_upto_region 1 with fail
 rw[<-S.o];have a5:=(q.cell (p:=⟨U,0,none⟩) I).t g0;have a4:=(q.cell (p:=⟨gr,O*11+5,none⟩) y).t X;clear S g0 e0 e1 e2 e3 e4 X e6 e7 e8 e9 a3 I y;obtain⟨E,c⟩:∃ E,E=Kl H U L A F ns (Qe gr L.length t) D M B V w [w.1.size,w.1.size+1] []:=⟨_,rfl⟩;have P:Ck H U L A F ns (Qe gr L.length t) D M B V (w.1.size+2) E:=by rw[c];exact Kl.ck s Od Od Od Oa
 have k0:Ow E w.1.size:=by rw[c];exact Kl.ow Od Oa Od
 have J:Ow E (w.1.size+1):=by rw[c];exact Kl.ow Od Oa Od
 have R:Hid (In E T):=by unfold Hid In;rw[c];exact⟨(Bw.start s).below q,by simp[f,q6],Od⟩
 have y0:∀ W,In E W->gY H U L A F ns (Qe gr L.length t) D M B V w W:=fun W h=>by unfold In at h;rw[c]at h;exact⟨h.1.fd,h.1.fr⟩
 have h6:∀ W i z,In E W->b.c[i]?=some z->∃ o,b1=some ⟨o,0,none⟩/\W.cell? ⟨o,i,none⟩=some (Qc z):=fun W i z h l=>by
  unfold In at h;rw[c]at h;obtain⟨o,cp,e,a6⟩:=h.1.kid x l;simp only[Value.slice.injEq]at e;exact⟨o,e.1,a6⟩
 have k4:=hs.below q;clear c hs s k2 x q6 q;go_upto_region 2 with fail
 go_wp2;go_loopg [8] (b.c.length+1) (fun n v8 wr=>∃ (i:Nat) (j:Bool) (k:Nat),v8= Qc (i:Nat)/\i+n=b.c.length+1/\i<=b.c.length/\In E wr/\wr.1[w.1.size]?=some (kE j k Z)/\fG Z j k wr)
 case atStart=>exact⟨0,d,g,rfl,Od,Od,R.o,f,k4⟩
 case round=>
  clear R f k4 a5 a4;obtain⟨i,j,k,rfl,b6,b5,k6,f,k3⟩:=hrel;have m:Hid (In E wr):=k6;clear k6;obtain⟨s0,s1,_⟩:=aQ f;have Q4:Hid _:=f;clear f
  by_cases hi:i < b.c.length
  ·have t0:decide ((i:Int) < (b.c.length:Int))=true:=by simp;omega
   obtain⟨Q,rfl⟩:=Oj gk;have a9:0<=(i:Int)/\(i:Int) < (b.c.length:Int):=Oa
   have b8:IntKind.i64.wrap ((i:Int)+1)=(i:Int)+1:=IntWalk.i64_in _ Oa;obtain⟨z,l⟩:∃ z,b.c[i]?=some z:=⟨b.c[i],List.getElem?_eq_getElem _⟩;obtain⟨k7,b9,c5⟩:=h0 z (Qr l);obtain⟨o,rfl,x0⟩:=h6 wr i z m.o l;have F0:=P.dr m.o;go_upto_region 5 with fail
   go_region_with (go_at_call 178;refine(hS z j k _ Oa k7 (P.fd _ F0) (k3.below (Below.refl _ _).drew)).mono ?_;rintro e W ⟨d2,g2,rfl,hT,hp⟩;have G:Hid (In E W):=P.nx _ _ F0 hp;obtain⟨u1,u2,u3,u4,u5⟩:=k0.cells G.o)
   all_goals go_wp2
   all_goals go_roundg Q
   all_goals try (case rel=>
    obtain⟨⟨_,_,o4⟩,o5⟩:=k0 _ G.o;exact⟨i+1,d2,g2,Od,Oa,Oa,o5 _ _,nV o4,k0.st G.o hT _ _⟩)
   all_goals try (case measure=>omega)
  ·have t0:decide ((i:Int) < (b.c.length:Int))=false:=by simp;omega
   obtain⟨u1,u2,u3,u4,u5⟩:=J.cells m.o;go_wp2;exact bodyPost_ret (v:=oH j k Z) (by simp[results,results113,go_sem, *]) rfl ⟨j,k,rfl,J.st m.o k3 _ _,y0 _ ((J _ m.o).2 _ _)⟩
end
section
variable {H U:Nat} {L C:List NQ} {A F:List Int} {ns Z g:Nat} {Y D M B:Value} {V:List V3} {K:Int->Prop}
section
variable {W:World} {r:Int × Int}
theorem aMV:∀ (R:List (Int × Int)) (i:Nat),i < R.length->((qZ R).set (i*2) (Qc r.1)).set (i*2+1) (Qc r.2)=qZ (R.set i r)
 |[],i,h=>absurd h (Nat.not_lt_zero i)
 |x::R,0,_=>rfl
 |x::R,i+1,h=>by
  have:=aMV R i (Nat.lt_of_succ_lt_succ h);rw[show(i+1)*2=i*2+1+1 by omega,List.set_cons_succ,qZ,qZ,List.set_cons_succ,List.set_cons_succ,List.set_cons_succ,List.set_cons_succ,this]
theorem fG.put{i:Nat}(h:fG Z false g W)(e:Rk r)(hi:i < Z):fG Z false g ((W.setCell ⟨g,i*2,none⟩ (Qc r.1)).setCell ⟨g,i*2+1,none⟩ (Qc r.2)):=by
 obtain⟨R,a,b,c⟩:=h;refine⟨R.set i r,by simp[a],?_,fun _ q d=>?_⟩
 ·have:=aI (o:=i*2+1) (Qc r.2) (aI (o:=i*2) (Qc r.1) b);rw[<-aMV R i Oa];simpa using this
 ·rcases List.mem_or_eq_of_mem_set d with h|rfl
  ·exact c rfl q h
  ·exact e
theorem fG.frz{d:Bool}(h:fG Z d g W)(o:Nat):W.frozen? ⟨g,o,none⟩=false:=by
 obtain⟨R,_,a,_⟩:=h;simp[World.frozen?,a]
theorem aD8{a:NQ}{a1:Option Addr}{e:Nat}{c:Option Addr}{f:Nat}{d:Option Addr}{i b:Nat}(h:W.1[b]?=some (jJ a a1 e c f d i)):W.cell? ⟨b,0,none⟩=some (Qc a.d)/\W.cell? ⟨b,1,none⟩=some (Qc a.at_)/\W.cell? ⟨b,2,none⟩=some (.string a.s)/\W.cell? ⟨b,3,none⟩=some (Qc a.n)/\W.cell? ⟨b,4,none⟩=some (Qc a.mid)/\W.cell? ⟨b,5,none⟩=some (.slice a1 a.c.length e)/\W.cell? ⟨b,6,none⟩=some (.slice c a.g.length f)/\W.cell? ⟨b,7,none⟩=some (.slice d a.e.length i)/\W.cell? ⟨b,8,none⟩=some (Qc a.b)/\W.cell? ⟨b,9,none⟩=some (Qc a.ref)/\W.cell? ⟨b,10,none⟩=some (Qc a.f):=by
 refine⟨?_,?_,?_,?_,?_,?_,?_,?_,?_,?_,?_⟩<;>(rw[cell_of_row _ _ _ _ _ _ h];rfl)
theorem qQ.arrc{gr b f a:Nat}{e:NQ}(h:qQ H U L A F ns (Qe gr L.length b) D M B V W)(h0:A[f]?=some (a:Int))(o:jM L (a:Int) e):∃ d i,D= Qe d A.length i/\W.cell? ⟨U,0,none⟩=some (Qe gr L.length b)/\W.cell? ⟨U,2,none⟩=some D/\W.cell? ⟨d,f,none⟩=some (Qc (a:Int))/\W.cell? ⟨gr,a*11+3,none⟩=some (Qc e.n):=by
 obtain⟨n,q,s,j⟩:=dQ h.arrs h0;obtain⟨v,u,t,_,_,_,_,_,_,l,_,c,_,m,⟨_,_,_,k,_⟩⟩:=h.p0 o;obtain rfl:=Int.ofNat.inj l;simp only[Value.slice.injEq,Option.some.injEq,Addr.mk.injEq]at c;obtain⟨⟨rfl,-⟩,-,rfl⟩:=c;obtain⟨x,w,p⟩:=h.prog;exact⟨n,q,s,m,Og p rfl,j,k⟩
end
def aXC(H U:Nat)(L:List NQ)(A F:List Int)(ns Z:Nat)(Y D M B:Value)(V:List V3)(K:Int->Prop)(n:Nat):Prop:=∀ (x:NQ) (b1:Option Addr) (k1:Nat) (b2:Option Addr) (k2:Nat) (b3:Option Addr) (k3:Nat) (c b:Int) (d:Bool) (g:Nat) (w:World),x.c=[c,b]->c.toNat < n->b.toNat < n->KdK L K 1 c->KdK L K 3 b->uA H w x (.slice b1 x.c.length k1,.slice b2 x.g.length k2,.slice b3 x.e.length k3)->qQ H U L A F ns Y D M B V w->fG Z d g w->
 Calls prog 238 #[Qd U,oH d g Z,.agg #[Qc x.d,Qc x.at_,.string x.s,Qc x.n,Qc x.mid,.slice b1 x.c.length k1,.slice b2 x.g.length k2,.slice b3 x.e.length k3,Qc x.b,Qc x.ref,Qc x.f]] w (aM3 H U L A F ns Z Y D M B V w)
theorem aV0(hN:Nok C L A F Z ns K)(hO:aM8 C L A F)(hZ:L.length<=100000)(j4:A.length<=100000)(j2:F.length<=100000)(hv:Z<=100000)(y6:ns<=1000000)(n:Nat)(hB:GoQ H U L A F ns Z Y D M B V K 113 3 n)(hL:aXC H U L A F ns Z Y D M B V K n):GoQ H U L A F ns Z Y D M B V K 178 2 (n+1):=by
 intro b4 d g w hn hk hw hs;obtain⟨hk,j,j0,r4⟩:=hk;obtain⟨a,ha,k8,y5,j7⟩:=hN b4 hk;obtain rfl:j=a:=by have h1:=ha.2;have h2:=j0.2;rw[h1]at h2;exact(Oq h2).symm
 have m9:12<=j.d/\j.d<=18:=by grind [cK]
 obtain⟨a4,gr,a2,b1,c1,b2,c2,b3,c3,rfl,r7,rfl,k9,g0,e0,e1,e2,e3,e4,e5,e6,e7,e8,e9,n1⟩:=hw.p0 ha;have q5:0<=(a4:Int)/\(a4:Int) < (L.length:Int):=Oa
 have i2:=Qp w _ g0;have i3:=Qp w _ e0;dsimp only at i2 i3;have o9:U < w.1.size+1/\gr < w.1.size+1:=Oa
 obtain⟨W1,h8,kb,-,q4,q6,q7⟩:=al3 w (kE d g Z) pY (rJ j b1 c1 b2 c2 b3 c3);have HW:Hid (W1=_):=h8;clear h8;go_enter func178,ntmps178
 go_upto_region 2 with fail
 rw[<-HW.o];clear HW g0 e0 e1 e2 e3 e4 e5 e6 e7 e8 e9 n1 i2 i3 o9;obtain⟨E,hE⟩:∃ E,E=Kl H U L A F ns (Qe gr L.length a2) D M B V w [w.1.size+1] [(w.1.size,kE d g Z),(w.1.size+1+1,jJ j b1 c1 b2 c2 b3 c3)]:=⟨_,rfl⟩;have i:Ck H U L A F ns (Qe gr L.length a2) D M B V (w.1.size+3) E:=by rw[hE];exact Kl.ck hw (by simp<;>omega) (by simp<;>omega) (by simp<;>omega) Oa
 have R:Ow E (w.1.size+1):=by rw[hE];exact Kl.ow Od Oa (by simp<;>omega)
 have s:Hid (In E W1):=by unfold Hid In;rw[hE];exact⟨(Bw.start hw).below kb,by simp[q6],by simp[q4,q7]⟩
 have y3:∀ W,In E W->gY H U L A F ns (Qe gr L.length a2) D M B V w W:=fun W h=>by unfold In at h;rw[hE]at h;exact⟨h.1.fd,h.1.fr⟩
 have S:∀ W,In E W->fG Z d g W:=fun W h=>hs.fd hw (y3 W h).2
 have h0:∀ a3 f6,j.c[a3]?=some f6->∃ z,b1=some ⟨z,0,none⟩/\∀ W,In E W->W.cell? ⟨z,a3,none⟩=some (Qc f6):=fun a3 f6 hz=>by
  obtain⟨z,_,e,_⟩:=pZ k9 hz;simp only[Value.slice.injEq]at e;refine⟨z,e.1,fun W h=>?_⟩;unfold In at h;rw[hE]at h;obtain⟨_,_,e',f5⟩:=h.1.kid k9 hz;simp only[Value.slice.injEq,e.1,Option.some.injEq,Addr.mk.injEq]at e';obtain⟨⟨rfl,-⟩,-⟩:=e';exact f5
 have x:∀ W,In E W->W.cell? ⟨w.1.size,0,none⟩=some (.bool d)/\W.cell? ⟨w.1.size,1,none⟩=some (Qe g Z Z)/\W.cell? ⟨w.1.size+1+1,5,none⟩=some (.slice b1 j.c.length c1)/\W.cell? ⟨w.1.size+1+1,9,none⟩=some (Qc j.ref)/\W.cell? ⟨w.1.size+1+1,10,none⟩=some (Qc j.f):=fun W h=>by
  unfold In at h;rw[hE]at h;have h4:=h.2.2 _ (.head _);have h7:=h.2.2 _ (.tail _ (.head _));exact⟨(aQ h4).1,(aQ h4).2.1,Og h7 rfl,Og h7 rfl,Og h7 rfl⟩
 have l0:W1.cell? ⟨w.1.size+1+1,0,none⟩=some (Qc j.d):=Og q7 rfl
 have z7:∀ (y b4:Int),y≠b4->(y==b4)=false:=fun y b4 h=>by simp[h]
 have Q:=i.dr s.o;have z0:=i.sz _ s.o;have f7:Hid _:=k9.move (fun a4 hk=>kb.block a4 (k9.use_lt hk));have f8:Hid _:=aD8 q7;clear hE hs hw q4 q6 q7 kb
 by_cases y9:j.d=12\/j.d=13
 ·obtain⟨y1,u,k7⟩:=k8.one Oa;obtain⟨z,rfl,z8⟩:=h0 0 y1 (by rw[u];rfl);obtain⟨o1,o2⟩:=y5.1 (.r y9);obtain⟨a3,hi⟩:=Int.eq_ofNat_of_zero_le o1;rw[hi]at x;have i4:a3 < Z:=Oa
  simp only[show j.c.length=1 by rw[u];rfl]at x;have k6:∀ W2,_->_:=fun W2=>i.one (o:=vM (0,0)) (W2:=W2) s.o;clear k8 y5 u h0 k9 ha j0 hi o1 o2
  have f4:(j.d==12)=true\/(j.d==12)=false/\(j.d==13)=true:=by
   rcases y9 with h|h
   ·exact .l (by simp[h])
   ·exact .r ⟨by simp[h],by simp[h]⟩
  clear y9;rcases f4 with k1|⟨k1,p3⟩
  all_goals
   go_upto_region 6 with fail
   go_cut [8]from 34 to 41 (fun v8 q=>∃ r,One (w.1.size+3) E (vM r) v8 q/\Rk r)
   case first=>
    go_region_held3 (fun q=>In E q)
     (first
       |assumption
       |exact G.o
       |with_reducible exact i.far2 _ _ _ _ _ (i.far2 _ _ _ _ _ G.o s.o Ol) s.o Ol
       |(repeat (first|assumption|exact G.o|exact s.o|refine i.dr ?_|refine i.al ?_ _)))
     ((go_at_call 234;refine(uN hN hO hZ j4 j2 hv y6 _ y1 d _ (Nat.lt_succ_self _) ⟨k7.1,k7.2.2⟩ (i.fd _ Qi) (S _ Qi)).mono ?_;rintro e W2 ⟨r,rfl,P,m⟩;have G:Hid (In E W2):=i.nx _ _ Qi m;first|(with_reducible have hq:=i.nx _ _ Q m)|((with_reducible have nn:=k6 _ m);obtain⟨n0,z3⟩:=nn;have J:Hid _:=n0;obtain⟨b6,b7,c5⟩:=cU n0;clear n0)))
    all_goals go_wp2
    all_goals go_meet
    all_goals first
     |with_reducible exact⟨_,i.wayA G.o,P⟩
     |with_reducible exact⟨_,i.wayB s.o G.o J.o,P⟩
   case rest=>
    obtain⟨r,⟨b8,rfl,f2,q8,I⟩,P⟩:=hcut;obtain⟨p,T⟩:∃ p,p=Ad E b8 (vM r):=⟨_,rfl⟩;have X:Ck H U L A F ns (Qe gr L.length a2) D M B V (b8+1) p:=by rw[T];exact i.ad f2
    have O:Ow p (w.1.size+1):=by rw[T];exact R.ad Oa
    have N:Hid (In p wc):=by unfold Hid In;rw[T];exact⟨I,q8⟩
    have hx:∀ W,In p W->In E W/\W.cell? ⟨b8,0,none⟩=some (Qc r.1)/\W.cell? ⟨b8,1,none⟩=some (Qc r.2):=fun W h=>by
     unfold In at h;rw[T]at h;exact⟨h.1,(cU h.2).1,(cU h.2).2.1⟩
    obtain⟨s0,s1,_,_,_⟩:=x wc I;clear T q8 I k6 Q s z8;go_upto_region 8 with(go_at_call 233;refine(aA3 d g Z _ (S _ (hx _ N.o).1) hv).mono ?_;rintro e W4 ⟨k,rfl,d9,hS,m4⟩)
    obtain⟨W5,g8⟩:∃ W5,W5=W4.alloc (kE d k Z):=⟨_,rfl⟩;have X5:Hid (In p W5):=by rw[g8];exact X.al (X.be N.o m4) _
    have q9:W5.1[W4.1.size]?=some (kE d k Z):=by rw[g8];exact Qk _ _
    have g9:fG Z d k W5:=by rw[g8];exact hS.al
    have d8:k≠W4.1.size:=by have:=hS.lt;omega
    have HG:Hid (∀ W a6 v i6 l,In p W->In p ((W.setCell ⟨k,i6,none⟩ a6).setCell ⟨k,l,none⟩ v)):=fun W a6 v i6 l h=>X.far2 _ _ _ _ _ (X.far2 _ _ _ _ _ h N.o d9) N.o d9;rw[<-g8];clear g8 hS s0 s1 m4 d9;generalize W4.1.size=b9 at*;obtain⟨s0,s1,_⟩:=aQ q9;obtain⟨u1,u2,u3,u4,u5⟩:=O.cells X5.o;obtain⟨_,_,_,l9,_⟩:=x W5 (hx _ X5.o).1;obtain⟨_,x0,x1⟩:=hx _ X5.o;clear q9 N;cases d
    case true=>
     go_wp2;exact bodyPost_ret (v:=oH true k Z) (by simp[results,results178,go_sem, *]) rfl ⟨true,k,rfl,O.st X5.o g9 _ _,y3 _ (hx _ ((O _ X5.o).2 _ _)).1⟩
    case false=>
     obtain⟨rr,c0,k3,_⟩:=g9.get i4;have o8:=g9.frz;have n6:0<=(a3:Int)/\(a3:Int) < (Z:Int):=Oa
     have h9:(a3:Int) < (Z:Int):=n6.2;go_upto_region 10 with fail
     have r5:k≠w.1.size+1:=g9.ne (O _ X5.o).1.choose_spec.choose_spec;obtain⟨W6,j1⟩:∃ W6,W6=(W5.setCell ⟨k,a3*2,none⟩ (Qc r.1)).setCell ⟨k,a3*2+1,none⟩ (Qc r.2):=⟨_,rfl⟩;have X6:Hid (In p W6):=by rw[j1];exact HG.o _ _ _ _ _ X5.o
     have S6:fG Z false k W6:=by rw[j1];exact g9.put P i4
     have s7:W6.cell? ⟨b9,0,none⟩=some (.bool false):=by rw[j1];exact((mR d8.symm).t (mR d8.symm)).t s0
     have s8:W6.cell? ⟨b9,1,none⟩=some (Qe k Z Z):=by rw[j1];exact((mR d8.symm).t (mR d8.symm)).t s1
     rw[<-j1];clear j1 s0 s1 u3 u4 u5 c0 k3 o8;obtain⟨u1,u2,u3,u4,u5⟩:=O.cells X6.o;go_wp2;exact bodyPost_ret (v:=oH false k Z) (by simp[results,results178,go_sem, *]) rfl ⟨false,k,rfl,O.st X6.o S6 _ _,y3 _ (hx _ ((O _ X6.o).2 _ _)).1⟩
 have k1:=z7 j.d 12 Oa;have p3:=z7 j.d 13 Oa
 by_cases y4:j.d=14
 ·have p4:(j.d==14)=true:=by simp[y4]
  obtain⟨y1,y2,u,k7,i5⟩:=k8.two (.r (.r y4));obtain⟨z,rfl,z8⟩:=h0 0 y1 (by rw[u];rfl);obtain⟨c7,e6,j9⟩:=h0 1 y2 (by rw[u];rfl);obtain⟨rfl,-⟩:z=c7/\True:=by simpa using e6
  obtain⟨o1,o2⟩:=y5.2.1 (.r y4);obtain⟨f,hf⟩:=Int.eq_ofNat_of_zero_le o1;obtain⟨xa,m6⟩:∃ xa,A[f]?=some xa:=⟨A[f]'Oa,List.getElem?_eq_getElem _⟩;obtain⟨na,d7⟩:=hO.arr f xa m6;obtain⟨ka,rfl⟩:=Int.eq_ofNat_of_zero_le d7.1;have r6:ka < L.length:=by have:=(List.getElem?_eq_some_iff.1 d7.2).1;simpa using this
  obtain⟨ga,ca,rfl,_⟩:=(i.fd _ s.o).arrc m6 d7;rw[hf]at x;have r1:0<=(f:Int)/\(f:Int) < (A.length:Int):=Oa
  have r3:0<=(ka:Int)/\(ka:Int) < (L.length:Int):=Oa
  simp only[show j.c.length=2 by rw[u];rfl]at x;have k6:∀ W2,_->_:=fun W2=>i.one (o:=vM (0,0)) (W2:=W2) s.o;clear k8 y5 u h0 k9 ha j0 hf o1 o2 y4 y9 e6;go_upto_region 12 with fail
  go_cut [10]from 55 to 62 (fun v8 q=>∃ r,One (w.1.size+3) E (vM r) v8 q/\Rk r)
  case first=>
   go_region_held3 (fun q=>In E q)
    (first
      |assumption
      |exact G.o
      |with_reducible exact i.far2 _ _ _ _ _ (i.far2 _ _ _ _ _ G.o s.o Ol) s.o Ol
      |(repeat (first|assumption|exact G.o|exact s.o|refine i.dr ?_|refine i.al ?_ _)))
    ((go_at_call 234;refine(uN hN hO hZ j4 j2 hv y6 _ y1 d _ (Nat.lt_succ_self _) ⟨k7.1,k7.2.2⟩ (i.fd _ Qi) (S _ Qi)).mono ?_;rintro e W2 ⟨r,rfl,P,m⟩;have G:Hid (In E W2):=i.nx _ _ Qi m;first|(with_reducible have hq:=i.nx _ _ Q m)|((with_reducible have nn:=k6 _ m);obtain⟨n0,z3⟩:=nn;have J:Hid _:=n0;obtain⟨b6,b7,c5⟩:=cU n0;clear n0)))
   all_goals go_wp2
   all_goals go_meet
   all_goals first
    |with_reducible exact⟨_,i.wayA G.o,P⟩
    |with_reducible exact⟨_,i.wayB s.o G.o J.o,P⟩
  case rest=>
   obtain⟨⟨ra,f9⟩,⟨b8,rfl,f2,q8,I⟩,P⟩:=hcut;obtain⟨p,T⟩:∃ p,p=Ad E b8 (vM (ra,f9)):=⟨_,rfl⟩;have X:Ck H U L A F ns (Qe gr L.length a2) (Qe ga A.length ca) M B V (b8+1) p:=by rw[T];exact i.ad f2
   have O:Ow p (w.1.size+1):=by rw[T];exact R.ad Oa
   have N:Hid (In p wc):=by unfold Hid In;rw[T];exact⟨I,q8⟩
   have z6:∀ W,In p W->In E W:=fun W h=>by unfold In at h;rw[T]at h;exact h.1
   have hx:∀ W,In p W->(W.cell? ⟨b8,0,none⟩=some (Qc ra)/\W.cell? ⟨b8,1,none⟩=some (Qc f9))/\(W.cell? ⟨w.1.size,0,none⟩=some (.bool d)/\W.cell? ⟨w.1.size,1,none⟩=some (Qe g Z Z)/\W.cell? ⟨w.1.size+1+1,5,none⟩=some (Qe z 2 c1)/\W.cell? ⟨w.1.size+1+1,9,none⟩=some (Qc (f:Int))/\W.cell? ⟨w.1.size+1+1,10,none⟩=some (Qc j.f))/\W.cell? ⟨z,1,none⟩=some (Qc y2)/\W.cell? ⟨U,0,none⟩=some (Qe gr L.length a2)/\W.cell? ⟨U,2,none⟩=some (Qe ga A.length ca)/\W.cell? ⟨ga,f,none⟩=some (Qc (ka:Int))/\W.cell? ⟨gr,ka*11+3,none⟩=some (Qc na.n):=fun W h=>by
    obtain⟨k,_,e,h3,h4,h5,h6⟩:=(X.fd W h).arrc m6 d7;simp only[Value.slice.injEq,Option.some.injEq,Addr.mk.injEq]at e;obtain⟨⟨rfl,-⟩,-⟩:=e;refine⟨?_,x W (z6 W h),j9 W (z6 W h),h3,h4,h5,h6⟩;unfold In at h;rw[T]at h;exact⟨(cU h.2).1,(cU h.2).2.1⟩
   clear T q8 I k6 Q s z8 j9 x;go_upto_region 13 with fail
   have F0:=X.dr N.o
   go_region_held3 (fun q=>In p q) (first|assumption|exact G.o)
    ((go_at_call 234;refine(uN hN hO hZ j4 j2 hv y6 _ y2 d _ (Nat.lt_succ_self _) ⟨i5.1,i5.2.2⟩ (X.fd _ F0) (S _ (z6 _ F0))).mono ?_;rintro e W2 ⟨r2,rfl,-,m⟩;have G:Hid (In p W2):=X.nx _ _ F0 m))
   go_upto_region 14 with fail
   have G0:p W2.drew:=X.dr G.o;have s2:∀ y:Cls p,_:=fun y=>hx y.w y.h;have o6:∀ y:Cls p,qQ H U L A F ns (Qe gr L.length a2) (Qe ga A.length ca) M B V y.w:=fun y=>X.fd y.w y.h;have p1:∀ (y:Cls p) W,gY H U L A F ns (Qe gr L.length a2) (Qe ga A.length ca) M B V y.w W->p W:=fun y W m=>X.nx y.w W y.h m;have k4:∀ W,In p W->∀ a6 v,aM3 H U L A F ns Z (Qe gr L.length a2) (Qe ga A.length ca) M B V w (.returned (oH d g Z)) ((W.setCell ⟨w.1.size+1,0,none⟩ a6).setCell ⟨w.1.size+1,1,none⟩ v):=fun W h a6 v=>⟨d,g,rfl,O.st h (S _ (z6 _ h)) _ _,y3 _ (z6 _ ((O _ h).2 _ _))⟩;clear z6 S y3;obtain⟨tq,hq⟩:∃ t,decide (0<=ra)=t:=⟨_,rfl⟩;have j8:decide (ra≥0)=tq:=hq;cases tq
   all_goals
    refine rQ (E:=p) (by kernel_rfl) (by kernel_rfl) G0 (fun z7=>?_)
    repeat (go_big_quiet_step ((go_at_call 235;refine(yW j.f j7 y6 d _ (o6 _)).mono ?_;rintro e W ⟨rfl,m⟩;exact⟨rfl,⟨W,p1 _ _ m⟩,rfl⟩)))
    refine wpQuiet_nil ?_;rintro W ⟨⟨_,I⟩,rfl⟩;obtain⟨_,⟨s0,s1,_⟩,_⟩:=hx _ I;obtain⟨u1,u2,u3,u4,u5⟩:=O.cells I;go_wp2;exact bodyPost_ret (v:=oH d g Z) (by simp[results,results178,go_sem, *]) rfl (k4 _ I _ _)
 have p4:=z7 _ _ y4
 by_cases j5:j.d=15
 ·have p5:(j.d==15)=true:=by simp[j5]
  obtain⟨c,b,r,u,z9,y7,P⟩:=k8.iff (.l j5);obtain⟨z,rfl,z8⟩:=h0 0 c (by rw[u];rfl);obtain⟨c7,e6,j9⟩:=h0 1 b (by rw[u];rfl);obtain⟨rfl,-⟩:z=c7/\True:=by simpa using e6
  have h9:b.toNat < n:=by obtain⟨_,h3,m2,h4,_⟩:=y7;have:=h4.1;omega
  have HR:Hid ((j.c.length=2\/j.c.length=3/\∃ e,(e.toNat < n/\KdK L K 3 e)/\∀ W,In E W->W.cell? ⟨z,2,none⟩=some (Qc e))):=by
   rcases P with rfl|⟨_,e,rfl,he⟩
   ·exact .l (by rw[u];rfl)
   ·refine .r ⟨by rw[u];rfl,e,⟨by obtain⟨_,h3,m2,h4,_⟩:=he;have:=h4.1;omega,he.1,he.2.2⟩,?_⟩;obtain⟨g7,e7,h7⟩:=h0 2 e (by rw[u];rfl);obtain⟨rfl,-⟩:z=g7/\True:=by simpa using e7
    exact h7
  obtain⟨a5,hm⟩:∃ a5,j.c.length=a5:=⟨_,rfl⟩;rw[hm]at HR;simp only[hm]at x;have r8:0 < a5/\1 < a5/\a5≠0:=by rw[<-hm,u];simp
  have r9:(0:Int) < (a5:Int)/\(1:Int) < (a5:Int):=Oa
  have i7:∀ (c6:World) (a4 l:Nat) (a6 v:Value),a4≠l->c6.1[a4]?=some pY->((c6.setCell ⟨l,0,none⟩ a6).setCell ⟨l,1,none⟩ v).1[a4]?=some pY:=fun c6 a4 l a6 v hk f5=>((Om hk).t (Om hk)).t f5;clear k8 y5 u h0 k9 ha j0 y9 y4 j5 m9 P hm e6 f8 f7;go_upto_region 16 with fail
  have z1:=i.sz _ s.o;have z2:=Nat.le_succ_of_le z1;have k6:∀ W2,_->_:=fun W2=>i.one (o:=pY) (W2:=W2) s.o;have g6:∀ W2,_->_:=fun W2=>i.two (W2:=W2) s.o;go_cut [11,12]from 99 to 109 (fun v9 p8 q=>∃ d1 g1 d2 k,Two (w.1.size+3) Z E d1 g1 d2 k v9 p8 q)
  case first=>
   go_region_held3 (fun q=>In E q)
    (first
      |assumption
      |exact G.o
      |with_reducible exact i.far _ _ _ _ _ _ G.o z1 J.o
      |with_reducible exact i.far _ _ _ _ _ _ G.o z2 n2.o
      |with_reducible exact i.al (i.far _ _ _ _ _ _ G.o z1 J.o) _
      |with_reducible exact i.far _ _ _ _ _ _ (i.far _ _ _ _ _ _ G.o z1 J.o) z2 (i7 _ _ _ _ _ Oa n2.o)
      |with_reducible exact i.far _ _ _ _ _ _ (i.far _ _ _ _ _ _ G.o z2 n2.o) z1 (i7 _ _ _ _ _ Oa J.o)
      |(repeat (first|assumption|exact G.o|exact s.o|refine i.dr ?_|refine i.al ?_ _)))
    ((go_at_call 236;refine(aMZ hN hO hZ j4 j2 hv y6 _ c d g _ (Nat.lt_succ_self _) ⟨z9.1,z9.2.2⟩ (i.fd _ Qi) (S _ Qi)).mono ?_;rintro e W2 ⟨p9,q1,q0,q2,rfl,y0,k0,m⟩;have G:Hid (In E W2):=i.nx _ _ Qi m;first|((with_reducible have nn:=k6 _ m);obtain⟨n0,z3⟩:=nn;have J:Hid _:=n0;obtain⟨b6,b7,c5⟩:=dU n0;clear n0)|(with_reducible have j8:=i.nx _ _ Q m)|((with_reducible have nn:=g6 _ m);obtain⟨n0,m0,z3⟩:=nn;have J:Hid _:=n0;have n2:Hid _:=m0;obtain⟨b6,b7,c5⟩:=dU n0;obtain⟨s4,s5,s6⟩:=dU m0;clear n0 m0)))
   all_goals go_wp2
   all_goals go_meet
   all_goals first
    |with_reducible exact⟨_,_,_,_,i.way1 G.o y0 k0⟩
    |with_reducible exact⟨_,_,_,_,i.way2 G.o y0 k0⟩
    |with_reducible exact⟨_,_,_,_,i.way3 G.o y0 k0 z1 J.o⟩
    |with_reducible exact⟨_,_,_,_,i.way4 G.o y0 k0 z1 J.o⟩
    |with_reducible exact⟨_,_,_,_,i.way5 G.o y0 k0 z1 z2 Oa J.o n2.o⟩
    |with_reducible exact⟨_,_,_,_,i.way5 G.o y0 k0 z2 z1 Oa n2.o J.o⟩
  case rest=>
   obtain⟨d1,g1,d2,k,a9,a7,rfl,rfl,⟨p2,j8⟩,q9,i8,I,y0,k0⟩:=hcut;obtain⟨E2,d0⟩:∃ E2,E2=Twq Z E d1 g1 d2 k a9 a7:=⟨_,rfl⟩;have k5:Ck H U L A F ns (Qe gr L.length a2) D M B V (max a9 a7+1) E2:=by rw[d0];exact i.tw p2 j8
   have N:Hid (In E2 wc):=by unfold Hid In;rw[d0];exact⟨I,q9,i8,y0,k0⟩
   have j6:∀ W,In E2 W->In E W/\W.1[a7]?=some (kE d2 k Z)/\fG Z d1 g1 W/\fG Z d2 k W:=fun W h=>by unfold In at h;rw[d0]at h;exact⟨h.1,h.2.2⟩
   have n7:∀ W,In E2 W->(W.cell? ⟨a9,0,none⟩=some (.bool d1)/\W.cell? ⟨a9,1,none⟩=some (Qe g1 Z Z))/\W.cell? ⟨w.1.size+1+1,5,none⟩=some (Qe z a5 c1)/\W.cell? ⟨z,1,none⟩=some (Qc b):=fun W h=>by
    have h1:=x W (j6 W h).1;have h7:=j9 W (j6 W h).1;unfold In at h;rw[d0]at h;exact⟨⟨(aQ h.2.1).1,(aQ h.2.1).2.1⟩,h1.2.2.1,h7⟩
   clear d0 q9 i8 I y0 k0 k6 g6 Q s z1 z2 z0 z8 j9;go_upto_region 17 with fail
   have F0:=k5.dr N.o;have k6:∀ W2,_->_:=fun W2=>k5.one (o:=pY) (W2:=W2) N.o;have HC:Hid _:=x;clear x;go_cut [13]from 109 to 116 (fun v8 q=>∃ d3 g3,One (max a9 a7+1) E2 (kE d3 g3 Z) v8 q/\fG Z d3 g3 q)
   case first=>
    go_region_held3 (fun q=>In E2 q)
     (first
       |assumption
       |exact G.o
       |with_reducible exact k5.far2 _ _ _ _ _ (k5.far2 _ _ _ _ _ G.o N.o Ol) N.o Ol
       |(repeat (first|assumption|exact G.o|exact N.o|refine k5.dr ?_|refine k5.al ?_ _)))
     ((go_at_call 113;refine(hB b d1 g1 _ h9 ⟨y7.1,y7.2.2⟩ (k5.fd _ Qi) (j6 _ Qi).2.2.1).mono ?_;rintro e W2 ⟨d3,g3,rfl,hT,m⟩;have G:Hid (In E2 W2):=k5.nx _ _ Qi m;first|(with_reducible have hq:=k5.nx _ _ F0 m)|((with_reducible have nn:=k6 _ m);obtain⟨n0,z3⟩:=nn;have J:Hid _:=n0;obtain⟨b6,b7,c5⟩:=dU n0;clear n0)))
    all_goals go_wp2
    all_goals go_meet
    all_goals first
     |with_reducible exact⟨_,_,k5.wayA G.o,hT.al⟩
     |with_reducible exact⟨_,_,k5.wayB N.o G.o J.o,hT.set2 J.o _ _⟩
   case rest=>
    obtain⟨d3,g3,⟨b5,rfl,q3,i9,I⟩,m1⟩:=hcut;obtain⟨c8,a8,_,k0⟩:=j6 _ I;obtain⟨E4,j3⟩:∃ E4,E4=Ads Z (Ad (Ao E a7) b5 (kE d3 g3 Z)) d3 g3:=⟨_,rfl⟩;have m3:Ck H U L A F ns (Qe gr L.length a2) D M B V (b5+1) E4:=by rw[j3];exact((i.ao j8).ad Oa).ads
    have O:Ow E4 (w.1.size+1):=by rw[j3];exact((R.ao Oa).ad Oa).ads
    have y8:Ow E4 a7:=by rw[j3];exact((i.mine j8).ad Oa).ads
    have m5:Hid (In E4 wc):=by unfold Hid In;rw[j3];exact⟨⟨⟨c8,_,_,a8⟩,i9⟩,m1⟩
    have m7:∀ W,In E4 W->In E W/\(W.cell? ⟨b5,0,none⟩=some (.bool d3)/\W.cell? ⟨b5,1,none⟩=some (Qe g3 Z Z))/\fG Z d3 g3 W:=fun W h=>by
     unfold In at h;rw[j3]at h;exact⟨h.1.1.1,⟨(aQ h.1.2).1,(aQ h.1.2).2.1⟩,h.2⟩
    obtain⟨_,_,l5,_⟩:=HC.o _ c8;obtain⟨s0,s1,_⟩:=aQ a8;have g2:Hid _:=a8;clear j3 I c8 i9 m1 k6 F0 N a8 j6 n7;go_upto_if 119 with fail
    go_cut []from 116 to 127 (fun q=>∃ d4 g4,In E4 q/\q.1[a7]?=some (kE d4 g4 Z)/\fG Z d4 g4 q)
    case first=>
     rcases HR.o with rfl|⟨rfl,e,⟨o3,n9⟩,n8⟩
     ·go_wp2;go_meet;exact⟨d2,k,m5.o,g2.o,k0⟩
     ·have x2:=n8 _ (m7 _ m5.o).1;have F4:=m3.dr m5.o;go_upto_region 19 with fail
      go_region_with (go_at_call 113;refine(hB e d2 k _ o3 n9 (m3.fd _ F4) (k0.below (Below.refl _ _).drew)).mono ?_;rintro e' W2 ⟨d4,g4,rfl,hT,m⟩;have G:Hid (In E4 W2):=m3.nx _ _ F4 m;obtain⟨u1,u2,u3,u4,u5⟩:=y8.cells G.o)
      all_goals go_wp2
      all_goals go_meet
      all_goals
       obtain⟨⟨_,_,o4⟩,o5⟩:=y8 _ G.o;exact⟨d4,g4,o5 _ _,nV o4,y8.st G.o hT _ _⟩
    case rest=>
     obtain⟨d4,g4,c9,a8,n4⟩:=hcut;have X4:Hid (In E4 wc):=c9;obtain⟨_,⟨t0,t1⟩,m1⟩:=m7 _ c9;obtain⟨s0,s1,_⟩:=aQ a8;clear c9 a8 m5 g2;go_wp2_with (go_at_call 237;refine(aL1 hv d3 d4 g3 g4 _ m1 n4).mono ?_;rintro e W5 ⟨d5,g5,rfl,n5,n3⟩;have G:Hid (In E4 W5):=m3.be X4.o n3;obtain⟨u1,u2,u3,u4,u5⟩:=O.cells G.o)
     exact bodyPost_ret (v:=oH d5 g5 Z) (by simp[results,results178,go_sem, *]) rfl ⟨d5,g5,rfl,O.st G.o n5 _ _,y3 _ (m7 _ ((O _ G.o).2 _ _)).1⟩
 have p5:=z7 _ _ j5
 by_cases d6:j.d=16
 ·have p6:(j.d==16)=true:=by simp[d6]
  obtain⟨c,b,r,u,z9,y7,P⟩:=k8.iff (.r d6);obtain rfl:r=[]:=by rcases P with h|⟨h,_⟩;exact h;omega
  have i1:c.toNat < n/\b.toNat < n:=by
   obtain⟨_,h1,a5,h2,_⟩:=z9;obtain⟨_,h3,m2,h4,_⟩:=y7;have:=h2.1;have:=h4.1;omega
  obtain⟨s0,s1,_⟩:=x _ s.o;have o7:=i.fd _ s.o;have m8:=S _ s.o;obtain⟨l0,l1,l2,l3,l4,l5,l6,l7,l8,l9,s3⟩:=f8.o;have k2:Hid _:=u;clear x h0 k8 y5 m9 y9 y4 j5 d6 u k9 ha j0;go_wp2_with (go_at_call 238;refine(hL j b1 c1 b2 c2 b3 c3 c b d g _ k2.o i1.1 i1.2 ⟨z9.1,z9.2.2⟩ ⟨y7.1,y7.2.2⟩ f7.o o7 m8).mono ?_;rintro e W5 ⟨d2,k,rfl,hT,m⟩;have G:Hid (In E W5):=i.nx _ _ s.o m;obtain⟨u1,u2,u3,u4,u5⟩:=R.cells G.o)
  exact bodyPost_ret (v:=oH d2 k Z) (by simp[results,results178,go_sem, *]) rfl ⟨d2,k,rfl,R.st G.o hT _ _,y3 _ ((R _ G.o).2 _ _)⟩
 have p6:=z7 _ _ d6;obtain⟨y1,u,k7⟩:=k8.one Oa;obtain⟨z,rfl,z8⟩:=h0 0 y1 (by rw[u];rfl);simp only[show j.c.length=1 by rw[u];rfl]at x;have f4:(j.d==17)=true\/(j.d==17)=false:=by cases(j.d==17)<;>simp
 clear k8 y5 u h0 k9 ha j0 y9 y4 j5 d6 m9;rcases f4 with p7|p7
 ·go_upto_region 24 with fail
  go_region_held3 (fun q=>In E q) (first|assumption|exact G.o)
   ((go_at_call 234;refine(uN hN hO hZ j4 j2 hv y6 _ y1 d _ (Nat.lt_succ_self _) ⟨k7.1,k7.2.2⟩ (i.fd _ Q) (S _ Q)).mono ?_;rintro e W2 ⟨r2,rfl,-,m⟩;have G:Hid (In E W2):=i.nx _ _ Q m))
  obtain⟨s0,s1,_⟩:=x _ G.o;go_upto_region 26 with(go_at_call 233;refine(aA3 d g Z _ (S _ G.o) hv).mono ?_;rintro e W4 ⟨k,rfl,d9,hS,m4⟩)
  have X4:Hid (In E W4):=i.be G.o m4;have z4:=i.sz _ X4.o;have z5:w.1.size+1 < W4.1.size:=Oa
  obtain⟨u1,u2,u3,u4,u5⟩:=R.cells X4.o;go_wp2;exact bodyPost_ret (v:=oH true k Z) (by simp[results,results178,go_sem, *]) rfl ⟨true,k,rfl,(R.st X4.o hS.dead _ _).al,y3 _ (i.al ((R _ X4.o).2 _ _) _)⟩
 ·go_upto_region 3 with fail
  go_region_held3 (fun q=>In E q) (first|assumption|exact G.o)
   ((go_at_call 234;refine(uN hN hO hZ j4 j2 hv y6 _ y1 d _ (Nat.lt_succ_self _) ⟨k7.1,k7.2.2⟩ (i.fd _ Q) (S _ Q)).mono ?_;rintro e W2 ⟨r2,rfl,-,m⟩;have G:Hid (In E W2):=i.nx _ _ Q m))
  obtain⟨s0,s1,_⟩:=x _ G.o;obtain⟨u1,u2,u3,u4,u5⟩:=R.cells G.o;go_wp2;exact bodyPost_ret (v:=oH d g Z) (by simp[results,results178,go_sem, *]) rfl ⟨d,g,rfl,R.st G.o (S _ G.o) _ _,y3 _ ((R _ G.o).2 _ _)⟩
end
section
variable {H U:Nat} {L C:List NQ} {A F:List Int} {ns Z g:Nat} {Y D M B:Value} {V:List V3} {K:Int->Prop}
section
variable {W:World} {i:Nat}
theorem aRU(a:Int):∀ (R:List (Int × Int)) (i:Nat) (r:Int × Int),R[i]?=some r->(qZ R).set (i*2) (Qc a)=qZ (R.set i (a,r.2))
 |[],i,r,h=>by simp at h
 |x::R,0,r,h=>by simp at h;subst h;rfl
 |x::R,i+1,r,h=>by
  rw[show(i+1)*2=i*2+1+1 by omega,List.set_cons_succ,qZ,qZ,List.set_cons_succ,List.set_cons_succ,aRU a R i r (by simpa using h)]
theorem aRV(a:Int):∀ (R:List (Int × Int)) (i:Nat) (r:Int × Int),R[i]?=some r->(qZ R).set (i*2+1) (Qc a)=qZ (R.set i (r.1,a))
 |[],i,r,h=>by simp at h
 |x::R,0,r,h=>by simp at h;subst h;rfl
 |x::R,i+1,r,h=>by
  rw[show(i+1)*2+1=i*2+1+1+1 by omega,List.set_cons_succ,qZ,qZ,List.set_cons_succ,List.set_cons_succ,aRV a R i r (by simpa using h)]
theorem fG.lo{d:Bool}(h:fG Z d g W)(hi:i < Z):fG Z d g (W.setCell ⟨g,i*2,none⟩ (Qc (-9223372036854775808))):=by
 obtain⟨R,e,f,b⟩:=h;obtain⟨r,c⟩:∃ r,R[i]?=some r:=⟨R[i]'Oa,List.getElem?_eq_getElem _⟩;refine⟨R.set i (-9223372036854775808,r.2),by simp[e],?_,fun a q k=>?_⟩
 ·have:=aI (o:=i*2) (Qc (-9223372036854775808)) f;rw[<-aRU _ R i r c];simpa using this
 ·rcases List.mem_or_eq_of_mem_set k with h|rfl
  ·exact b a q h
  ·have j:=b a r (Qr c);unfold Rk at j ⊢;dsimp only;omega
theorem fG.hi{d:Bool}(h:fG Z d g W)(hi:i < Z):fG Z d g (W.setCell ⟨g,i*2+1,none⟩ (Qc 9223372036854775807)):=by
 obtain⟨R,e,f,b⟩:=h;obtain⟨r,c⟩:∃ r,R[i]?=some r:=⟨R[i]'Oa,List.getElem?_eq_getElem _⟩;refine⟨R.set i (r.1,9223372036854775807),by simp[e],?_,fun a q k=>?_⟩
 ·have:=aI (o:=i*2+1) (Qc 9223372036854775807) f;rw[<-aRV _ R i r c];simpa using this
 ·rcases List.mem_or_eq_of_mem_set k with h|rfl
  ·exact b a q h
  ·have j:=b a r (Qr c);unfold Rk at j ⊢;dsimp only;omega
end
theorem aV1(hN:Nok C L A F Z ns K)(hO:aM8 C L A F)(hZ:L.length<=100000)(f5:A.length<=100000)(f7:F.length<=100000)(hv:Z<=100000)(i3:ns<=1000000)(n:Nat)(hB:GoQ H U L A F ns Z Y D M B V K 113 3 n):aXC H U L A F ns Z Y D M B V K n:=by
 intro c6 b1 c1 b2 c2 b3 c3 c b d g w k9 l6 h8 i1 j9 j2 hw hs;obtain⟨W1,d8,kb,-,q4,q5,q6⟩:=al3 w (kE d g Z) (rJ c6 b1 c1 b2 c2 b3 c3) pY;have HW:Hid (W1=_):=d8;obtain⟨z,k3,d4,_⟩:=pZ j2 (i:=0) (y:=c) (by rw[k9];rfl);simp only[Value.slice.injEq]at d4;obtain⟨rfl,-,rfl⟩:=d4;have m6:Hid _:=k9;clear d8 k9;go_enter func238,ntmps238
 go_upto_region 1 with fail
 rw[<-HW.o];have k9:=m6.o;obtain⟨E,hE⟩:∃ E,E=Kl H U L A F ns Y D M B V w [w.1.size+1+1] [(w.1.size,kE d g Z),(w.1.size+1,jJ c6 (some ⟨z,0,none⟩) c1 b2 c2 b3 c3)]:=⟨_,rfl⟩;have hC:Ck H U L A F ns Y D M B V (w.1.size+3) E:=by rw[hE];exact Kl.ck hw (by simp<;>omega) (by simp<;>omega) (by simp<;>omega) Oa
 have j3:Ow E (w.1.size+1+1):=by rw[hE];exact Kl.ow Od Oa (by simp<;>omega)
 have HE:Hid (In E W1):=by unfold Hid In;rw[hE];exact⟨(Bw.start hw).below kb,by simp[q6],by simp[q4,q5]⟩
 have g8:∀ W,In E W->gY H U L A F ns Y D M B V w W:=fun W h=>by unfold In at h;rw[hE]at h;exact⟨h.1.fd,h.1.fr⟩
 have m4:∀ W,In E W->fG Z d g W:=fun W h=>hs.fd hw (g8 W h).2
 have hc:∀ W,In E W->W.cell? ⟨w.1.size+1,5,none⟩=some (Qe z 2 c1)/\W.cell? ⟨z,0,none⟩=some (Qc c)/\W.cell? ⟨z,1,none⟩=some (Qc b):=fun W h=>by
  unfold In at h;rw[hE]at h;obtain⟨_,_,v1,x1⟩:=h.1.kid j2 (i:=0) (y:=c) (by rw[k9];rfl);obtain⟨_,_,v2,x2⟩:=h.1.kid j2 (i:=1) (y:=b) (by rw[k9];rfl);simp only[Value.slice.injEq,Option.some.injEq,Addr.mk.injEq]at v1 v2;obtain⟨⟨rfl,-⟩,-⟩:=v1;obtain⟨⟨rfl,-⟩,-⟩:=v2;have h5:=h.2.2 _ (.tail _ (.head _));exact⟨by rw[cell_of_row _ _ _ _ _ _ h5,<-show c6.c.length=2 by rw[k9];rfl];rfl,x1,x2⟩
 obtain⟨s0,s1,_⟩:=aQ q4;have d5:=m4 _ HE.o;clear hE hs hw q4 q5 q6 kb HW k9 m6 j2;go_upto_region 2 with(go_at_call 233;refine(aA3 d g Z _ d5 hv).mono ?_;rintro e W4 ⟨a8,rfl,-,hS,z0⟩)
 obtain⟨N,k5⟩:∃ N,N=W4.alloc (kE d a8 Z):=⟨_,rfl⟩;have X5:Hid (In E N):=by rw[k5];exact hC.al (hC.be HE.o z0) _
 have q7:N.1[W4.1.size]?=some (kE d a8 Z):=by rw[k5];exact Qk _ _
 have m1:fG Z d a8 N:=by rw[k5];exact hS.al
 have g0:=hC.sz _ (hC.be HE.o z0);rw[<-k5];clear k5 hS s0 s1 z0 HE d5 m4;generalize W4.1.size=b7 at*;go_wp2;go_loopg [8] 5 (fun n v8 wr=>∃ (p:Nat) (a:Bool) (m:Nat),v8= Qc (p:Nat)/\p+n=6/\1<=p/\p<=5/\In E wr/\wr.1[b7]?=some (kE a m Z)/\fG Z a m wr)
 case atStart=>exact⟨1,d,a8,rfl,Od,Od,Od,X5.o,q7,m1⟩
 case round=>
  clear X5 q7 m1;obtain⟨p,a,m,rfl,n1,l8,l9,R,q7,y7⟩:=hrel;obtain⟨s0,s1,_⟩:=aQ q7
  by_cases hp:p<=4
  ·have t0:decide ((p:Int)<=4)=true:=by simp;omega
   obtain⟨a4,rfl⟩:=Oj gk;obtain⟨s,k0⟩:∃ s,s=Ads Z (Ad E b7 (kE a m Z)) a m:=⟨_,rfl⟩;have h0:Ck H U L A F ns Y D M B V (b7+1) s:=by rw[k0];exact(hC.ad g0).ads
   have g3:Ow s (w.1.size+1+1):=by rw[k0];exact(j3.ad Oa).ads
   have HX:Hid (In s wr):=by unfold Hid In;rw[k0];exact⟨⟨R,q7⟩,y7⟩
   have y0:∀ W,In s W->In E W/\fG Z a m W/\W.1[b7]?=some (kE a m Z):=fun W h=>by unfold In at h;rw[k0]at h;exact⟨h.1.1,h.2,h.1.2⟩
   have j8:∀ W,In s W->(W.cell? ⟨b7,0,none⟩=some (.bool a)/\W.cell? ⟨b7,1,none⟩=some (Qe m Z Z))/\W.cell? ⟨w.1.size+1,5,none⟩=some (Qe z 2 c1)/\W.cell? ⟨z,0,none⟩=some (Qc c)/\W.cell? ⟨z,1,none⟩=some (Qc b):=fun W h=>⟨⟨(aQ (y0 W h).2.2).1,(aQ (y0 W h).2.2).2.1⟩,hc W (y0 W h).1⟩;have c9:∀ (a2:World) (b5:Nat),Below a2.1.size a2 (a2.drewN b5):=fun a2 b5=>⟨rfl,rfl,rfl,Ql _,fun _ _=>rfl⟩;have d3:∀ (a2:World) (b4 l:Nat) (a3 v:Value),b4≠l->a2.1[b4]?=some pY->((a2.setCell ⟨l,0,none⟩ a3).setCell ⟨l,1,none⟩ v).1[b4]?=some pY:=fun a2 b4 l a3 v hk b5=>((Om hk).t (Om hk)).t b5;have k2:Hid (In E wr):=R;have HC:Hid _:=hc;clear k0 R q7 y7 s0 s1 hc;go_upto_region 5 with fail
   have X:=h0.sz _ HX.o;have z2:=Nat.le_succ_of_le X;have F0:=h0.dr HX.o;have z8:∀ W2,_->_:=fun W2=>h0.one (o:=pY) (W2:=W2) HX.o;have m5:∀ W2,_->_:=fun W2=>h0.two (W2:=W2) HX.o;go_cut [9,10]from 24 to 34 (fun v9 i7 T=>∃ d1 g1 d2 g2,Two (b7+1) Z s d1 g1 d2 g2 v9 i7 T)
   case first=>
    go_region_held3 (fun T=>In s T)
     (first
       |assumption
       |exact G.o
       |with_reducible exact h0.far _ _ _ _ _ _ G.o X j.o
       |with_reducible exact h0.far _ _ _ _ _ _ G.o z2 n2.o
       |with_reducible exact h0.al (h0.far _ _ _ _ _ _ G.o X j.o) _
       |with_reducible exact h0.far _ _ _ _ _ _ (h0.far _ _ _ _ _ _ G.o X j.o) z2 (d3 _ _ _ _ _ Oa n2.o)
       |with_reducible exact h0.far _ _ _ _ _ _ (h0.far _ _ _ _ _ _ G.o z2 n2.o) X (d3 _ _ _ _ _ Oa j.o)
       |(repeat (first|assumption|exact G.o|exact HX.o|refine h0.dr ?_|refine h0.al ?_ _)))
     ((go_at_call 236;refine(aMZ hN hO hZ f5 f7 hv i3 _ c a m _ (Nat.lt_succ_self _) i1 (h0.fd _ Qi) (y0 _ Qi).2.1).mono ?_;rintro e W2 ⟨l1,l3,l2,l4,rfl,k7,k6,hp⟩;have G:Hid (In s W2):=h0.nx _ _ Qi hp;first|((with_reducible have nn:=z8 _ hp);obtain⟨n0,z3⟩:=nn;have j:Hid _:=n0;obtain⟨e2,e3,e4⟩:=dU n0;clear n0)|(with_reducible have n3:=h0.nx _ _ F0 hp)|((with_reducible have nn:=m5 _ hp);obtain⟨n0,m0,z3⟩:=nn;have j:Hid _:=n0;have n2:Hid _:=m0;obtain⟨e2,e3,e4⟩:=dU n0;obtain⟨n9,o1,o2⟩:=dU m0;clear n0 m0)))
    all_goals go_wp2
    all_goals go_meet
    all_goals first
     |with_reducible exact⟨_,_,_,_,h0.way1 G.o k7 k6⟩
     |with_reducible exact⟨_,_,_,_,h0.way2 G.o k7 k6⟩
     |with_reducible exact⟨_,_,_,_,h0.way3 G.o k7 k6 X j.o⟩
     |with_reducible exact⟨_,_,_,_,h0.way4 G.o k7 k6 X j.o⟩
     |with_reducible exact⟨_,_,_,_,h0.way5 G.o k7 k6 X z2 Oa j.o n2.o⟩
     |with_reducible exact⟨_,_,_,_,h0.way5 G.o k7 k6 z2 X Oa n2.o j.o⟩
   case rest=>
    obtain⟨d1,g1,d2,g2,b9,a7,rfl,rfl,⟨i5,j4⟩,q9,e5,J,k7,k6⟩:=hcut;obtain⟨q,y9⟩:∃ q,q=Twq Z s d1 g1 d2 g2 b9 a7:=⟨_,rfl⟩;have u:Ck H U L A F ns Y D M B V (max b9 a7+1) q:=by rw[y9];exact h0.tw i5 j4
    have f8:Ow q (w.1.size+1+1):=by rw[y9];exact g3.tw Oa Oa
    have y6:Hid (In q wc):=by unfold Hid In;rw[y9];exact⟨J,q9,e5,k7,k6⟩
    have Q:∀ W,In q W->In s W/\W.1[a7]?=some (kE d2 g2 Z)/\fG Z d1 g1 W/\fG Z d2 g2 W:=fun W h=>by unfold In at h;rw[y9]at h;exact⟨h.1,h.2.2⟩
    have h9:∀ W,In q W->(W.cell? ⟨b9,0,none⟩=some (.bool d1)/\W.cell? ⟨b9,1,none⟩=some (Qe g1 Z Z))/\W.cell? ⟨w.1.size+1,5,none⟩=some (Qe z 2 c1)/\W.cell? ⟨z,1,none⟩=some (Qc b):=fun W h=>by
     have h1:=j8 W (Q W h).1;unfold In at h;rw[y9]at h;exact⟨⟨(aQ h.2.1).1,(aQ h.2.1).2.1⟩,h1.2.1,h1.2.2.2⟩
    clear y9 q9 e5 J k7 k6 z8 m5 F0 HX X z2;have c7:Hid _:=j8;clear j8;go_upto_region 6 with fail
    have F0:=u.dr y6.o;have z8:∀ W2,_->_:=fun W2=>u.one (o:=pY) (W2:=W2) y6.o;go_cut [11]from 34 to 41 (fun v8 T=>∃ t O,One (max b9 a7+1) q (kE t O Z) v8 T/\fG Z t O T)
    case first=>
     go_region_held3 (fun T=>In q T)
      (first
        |assumption
        |exact G.o
        |with_reducible exact u.far2 _ _ _ _ _ (u.far2 _ _ _ _ _ G.o y6.o Ol) y6.o Ol
        |(repeat (first|assumption|exact G.o|exact y6.o|refine u.dr ?_|refine u.al ?_ _)))
      ((go_at_call 113;refine(hB b d1 g1 _ h8 j9 (u.fd _ Qi) (Q _ Qi).2.2.1).mono ?_;rintro e W2 ⟨t,O,rfl,hT,hp⟩;have G:Hid (In q W2):=u.nx _ _ Qi hp;first|(with_reducible have hq:=u.nx _ _ F0 hp)|((with_reducible have nn:=z8 _ hp);obtain⟨n0,z3⟩:=nn;have j:Hid _:=n0;obtain⟨e2,e3,e4⟩:=dU n0;clear n0)))
     all_goals go_wp2
     all_goals go_meet
     all_goals first
      |with_reducible exact⟨_,_,u.wayA G.o,hT.al⟩
      |with_reducible exact⟨_,_,u.wayB y6.o G.o j.o,hT.set2 j.o _ _⟩
    case rest=>
     obtain⟨t,O,⟨a5,rfl,g5,a6,J⟩,d9⟩:=hcut;obtain⟨E3,z6⟩:∃ E3,E3=Ads Z (Ad q a5 (kE t O Z)) t O:=⟨_,rfl⟩;have z7:Ck H U L A F ns Y D M B V (a5+1) E3:=by rw[z6];exact(u.ad g5).ads
     have f9:Ow E3 (w.1.size+1+1):=by rw[z6];exact(f8.ad Oa).ads
     have d0:Hid (In E3 wc):=by unfold Hid In;rw[z6];exact⟨⟨J,a6⟩,d9⟩
     have z9:∀ W,In E3 W->In q W/\W.1[a5]?=some (kE t O Z)/\fG Z t O W:=fun W h=>by unfold In at h;rw[z6]at h;exact⟨h.1.1,h.1.2,h.2⟩
     obtain⟨⟨s0,s1⟩,_⟩:=c7.o wc (Q _ J).1;have y7:=(y0 _ (Q _ J).1).2.1;clear z6 a6 J d9 z8 F0 y6 h9;go_upto_region 8 with(go_at_call 233;refine(aA3 a m Z _ y7 hv).mono ?_;rintro e W4 ⟨k,rfl,d6,hS,z0⟩)
     obtain⟨N,k5⟩:∃ N,N=W4.alloc (kE a k Z):=⟨_,rfl⟩;have X4:=z7.be d0.o z0;have g4:=z7.sz _ X4;obtain⟨f,y8⟩:∃ f,f=Ads Z (Ad E3 W4.1.size (kE a k Z)) a k:=⟨_,rfl⟩;have y3:Ck H U L A F ns Y D M B V (W4.1.size+1) f:=by rw[y8];exact(z7.ad g4).ads
     have g7:Ow f (w.1.size+1+1):=by rw[y8];exact(f9.ad Oa).ads
     have X5:Hid (In f N):=by unfold Hid In;rw[y8,k5];exact⟨⟨z7.al X4 _,Qk _ _⟩,hS.al⟩
     have y1:∀ W,In f W->In E3 W/\W.1[W4.1.size]?=some (kE a k Z)/\fG Z a k W:=fun W h=>by unfold In at h;rw[y8]at h;exact⟨h.1.1,h.1.2,h.2⟩
     have k4:∀ W a9 a3,In f W->fG Z a k (W.setCell ⟨k,a9,none⟩ a3)->In f (W.setCell ⟨k,a9,none⟩ a3):=fun W a9 a3 h hs=>by
      have i2:=(y1 W h).2.2.ne (y1 W h).2.1;have h3:=z7.far2 W wc k a9 a3 (y1 W h).1 d0.o d6;have h4:=(y1 W h).2.1;unfold In;rw[y8];exact⟨⟨h3,(Om (Ne.symm i2)).t h4⟩,hs⟩
     rw[<-k5];clear k5 hS s0 s1 z0 d6 X4 y8 y7 d0;generalize W4.1.size=c8 at*;go_upto_region 9 with fail
     have P:∀ W,In f W->((W.cell? ⟨b7,0,none⟩=some (.bool a)/\W.cell? ⟨b7,1,none⟩=some (Qe m Z Z))/\(W.cell? ⟨a5,0,none⟩=some (.bool t)/\W.cell? ⟨a5,1,none⟩=some (Qe O Z Z))/\(W.cell? ⟨c8,0,none⟩=some (.bool a)/\W.cell? ⟨c8,1,none⟩=some (Qe k Z Z))/\W.cell? ⟨w.1.size+1,5,none⟩=some (Qe z 2 c1)/\W.cell? ⟨z,1,none⟩=some (Qc b))/\fG Z t O W/\fG Z a m W/\fG Z a k W:=fun W h=>by
      obtain⟨h3,e6,I⟩:=y1 W h;obtain⟨h2,a6,y5⟩:=z9 W h3;obtain⟨h7,h5,_,h6⟩:=c7.o W (Q W h2).1;exact⟨⟨h7,⟨(aQ a6).1,(aQ a6).2.1⟩,⟨(aQ e6).1,(aQ e6).2.1⟩,h5,h6⟩,y5,(y0 W (Q W h2).1).2.1,I⟩
     have m7:Hid (In f N):=X5;have l7:0<=(Z:Int)/\(Z:Int)<=100000:=Oa
     clear X5;go_wp2;go_loopg [13,14] (Z+1) (fun n c5 i8 wr=>∃ (ch:Bool) (v:Nat),c5= .bool ch/\i8= Qc (v:Nat)/\v+n=Z+1/\v<=Z/\In f wr)
     case atStart=>exact⟨false,0,rfl,rfl,Od,Od,m7.o⟩
     case round=>
      obtain⟨ch,v,rfl,rfl,n6,n4,R⟩:=hrel;obtain⟨⟨⟨a0,a1⟩,⟨e0,e1⟩,⟨n0,j⟩,l5,x1⟩,_⟩:=P _ R;have x:Hid (In f wr):=R;clear R m7
      by_cases y2:v < Z
      ·have t1:decide ((v:Int) < (Z:Int))=true:=by simp;omega
       obtain⟨m2,rfl⟩:∃ a4,gk=a4+1:=⟨gk - 1,Oa⟩;have g6:0<=(v:Int)/\(v:Int) < (Z:Int):=Oa
       have i6:IntKind.i64.wrap ((v:Int)+1)=(v:Int)+1:=IntWalk.i64_in _ Oa;have j7:=y3.fd _ x.o;go_upto_region 13 with(go_at_call 296;refine(aRL hN hZ (v:Int) _ b _ (Nat.lt_succ_self _) j9.1 j7).mono ?_;rintro e W6 ⟨bs,rfl,g9⟩;have S6:Hid (In f W6):=y3.be x.o g9;obtain⟨⟨⟨a0,a1⟩,⟨e0,e1⟩,⟨n0,j⟩,l5,x1⟩,y5,z5,I⟩:=P _ S6.o)
       by_cases d7:t=false/\a=false/\bs=true
       ·obtain⟨rfl,rfl,rfl⟩:=d7;obtain⟨r3,e7,e8,_⟩:=y5.get y2;obtain⟨rh,f2,f4,_⟩:=z5.get y2;have HS:Hid (fG Z false k W6):=I;clear y5 z5 I;go_upto_region 14 with fail
        go_quiet (fail)
        have D6:In f (W6.drewN nq):=y3.be S6.o (c9 _ _);have HD:Hid (fG Z false k (W6.drewN nq)):=(P _ D6).2.2.2;obtain⟨rn,b6,b8,_⟩:=fG.get HS.o y2;have j6:=fG.frz HS.o;go_upto_if 79 with fail
        go_cut [13]from 67 to 85 (fun c5 T=>∃ ch,c5= .bool ch/\In f T)
        case first=>
         go_wp2
         all_goals go_meet
         all_goals first
          |exact⟨true,rfl,k4 _ _ _ D6 (fG.lo HD.o y2)⟩
          |exact⟨ch,rfl,D6⟩
        case rest=>
         obtain⟨e9,rfl,J⟩:=hcut;have S7:Hid (In f wc):=J;obtain⟨⟨⟨a0,a1⟩,⟨e0,e1⟩,⟨n0,j⟩,l5,x1⟩,y5,z5,I⟩:=P _ J;obtain⟨r3,e7,e8,_⟩:=y5.get y2;obtain⟨rh,f2,f4,_⟩:=z5.get y2;have HS:Hid (fG Z false k wc):=I;clear y5 z5 I J b6 b8 j6 D6 HD S6;go_upto_region 17 with fail
         go_quiet (fail)
         have D7:In f (wc.drewN nq):=y3.be S7.o (c9 _ _);have HD:Hid (fG Z false k (wc.drewN nq)):=(P _ D7).2.2.2;obtain⟨rn,b6,b8,_⟩:=fG.get HS.o y2;have j6:=fG.frz HS.o;go_wp2
         all_goals go_roundg m2
         all_goals try (case rel=>first
          |exact⟨true,v+1,rfl,Od,Oa,Oa,k4 _ _ _ D7 (fG.hi HD.o y2)⟩
          |exact⟨e9,v+1,rfl,Od,Oa,Oa,D7⟩)
         all_goals try (case measure=>omega)
       ·rcases t<;>rcases a<;>rcases bs<;>try (exact absurd ⟨rfl,rfl,rfl⟩ d7)
        all_goals go_wp2
        all_goals go_roundg m2
        all_goals try (case rel=>exact⟨ch,v+1,rfl,Od,Oa,Oa,S6.o⟩)
        all_goals try (case measure=>omega)
      ·have t1:decide ((v:Int) < (Z:Int))=false:=by simp;omega
       have h2:=(z9 _ (y1 _ x.o).1).1;obtain⟨s0,s1,_⟩:=aQ (Q _ h2).2.1;have m8:Hid (fG Z d2 g2 wr):=(Q _ h2).2.2.2;clear h2;have j5:∀ W,In f W->In E W:=fun W h=>(y0 W (Q W (z9 W (y1 W h).1).1).1).1;cases ch
       case false=>
        obtain⟨u1,u2,u3,u4,u5⟩:=g7.cells x.o;go_wp2;exact bodyPost_ret (v:=oH d2 g2 Z) (by simp[results,results238,go_sem, *]) rfl ⟨d2,g2,rfl,g7.st x.o m8.o _ _,g8 _ (j5 _ ((g7 _ x.o).2 _ _))⟩
       case true=>
        clear s0 s1 m8;have n8:IntKind.i64.wrap ((p:Int)+1)=(p:Int)+1:=IntWalk.i64_in _ Oa;go_wp2;go_loopg [16] (Z+1) (fun n i9 k1=>∃ v:Nat,i9= Qc (v:Nat)/\v+n=Z+1/\v<=Z/\In f k1)
        case atStart=>exact⟨0,rfl,Od,Od,x.o⟩
        case round=>
         clear a0 a1 e0 e1 n0 j l5 x1 x;obtain⟨S,rfl,n7,n5,k8⟩:=hrel;obtain⟨⟨⟨a0,a1⟩,⟨e0,e1⟩,⟨n0,j⟩,l5,x1⟩,_,_,I⟩:=P _ k8;have y4:Hid _:=(y0 _ (Q _ (z9 _ (y1 _ k8).1).1).1).2.2;have z4:Hid (In f wr):=k8;clear k8 I
         by_cases j0:S < Z
         ·have t3:decide ((S:Int) < (Z:Int))=true:=by simp;omega
          by_cases i4:p=3
          ·have tp:((p:Int)==3)=true:=by simp;omega
           obtain⟨m3,rfl⟩:∃ a4,gk=a4+1:=⟨gk - 1,Oa⟩;have g6:0<=(S:Int)/\(S:Int) < (Z:Int):=Oa
           have i6:IntKind.i64.wrap ((S:Int)+1)=(S:Int)+1:=IntWalk.i64_in _ Oa;have j7:=y3.fd _ z4.o;clear i4;go_upto_region 26 with(go_at_call 296;refine(aRL hN hZ (S:Int) _ b _ (Nat.lt_succ_self _) j9.1 j7).mono ?_;rintro e W6 ⟨bs,rfl,g9⟩;have S6:Hid (In f W6):=y3.be z4.o g9)
           obtain⟨⟨⟨a0,a1⟩,⟨e0,e1⟩,⟨n0,j⟩,l5,x1⟩,_,_,I⟩:=P _ S6.o;clear I;cases bs
           case false=>
            go_wp2;go_roundg m3
            case rel=>exact⟨S+1,Od,Oa,Oa,S6.o⟩
            case measure=>omega
           case true=>
            go_upto_region 27 with fail
            go_region_with (go_at_call 111;refine(tY _).mono ?_;rintro e W8 ⟨rfl,f6⟩;have S8:Hid (In f W8):=y3.be (y3.dr S6.o) f6;obtain⟨⟨_,_,⟨n0,j⟩,_⟩,_,_,j1⟩:=P _ S8.o;obtain⟨rn,b6,b8,_⟩:=j1.get j0;have j6:=j1.frz;have m9:Hid (fG Z a k W8):=j1;clear j1)
            all_goals go_wp2
            all_goals go_roundg m3
            all_goals try (case rel=>exact⟨S+1,Od,Oa,Oa,k4 _ _ _ (k4 _ _ _ S8.o (fG.lo m9.o j0)) (fG.hi (fG.lo m9.o j0) j0)⟩)
            all_goals try (case measure=>omega)
          ·have tp:((p:Int)==3)=false:=by simp;omega
           obtain⟨_,_,qf⟩:=aQ y4.o;go_wp2;go_roundg a4
           case rel=>exact⟨p+1,a,k,Od,Oa,Oa,Oa,hC.far _ _ _ _ _ _ (j5 _ z4.o) g0 y4.o,nV y4.o,(P _ z4.o).2.2.2.set2 y4.o _ _⟩
           case measure=>omega
         ·have t3:decide ((S:Int) < (Z:Int))=false:=by simp;omega
          obtain⟨_,_,qf⟩:=aQ y4.o;go_wp2;go_roundg a4
          case rel=>exact⟨p+1,a,k,Od,Oa,Oa,Oa,hC.far _ _ _ _ _ _ (j5 _ z4.o) g0 y4.o,nV y4.o,(P _ z4.o).2.2.2.set2 y4.o _ _⟩
          case measure=>omega
  ·have t0:decide ((p:Int)<=4)=false:=by simp;omega
   obtain⟨u1,u2,u3,u4,u5⟩:=j3.cells R;have x:Hid (In E wr):=R;clear R q7;go_wp2;exact bodyPost_ret (v:=oH a m Z) (by simp[results,results238,go_sem, *]) rfl ⟨a,m,rfl,j3.st x.o y7 _ _,g8 _ ((j3 _ x.o).2 _ _)⟩
end
section
variable {H U:Nat} {L C:List NQ} {A F:List Int} {ns Z g:Nat} {Y D M B:Value} {V:List V3} {K:Int->Prop}
theorem aZQ(a:Nok C L A F Z ns K)(f:aM8 C L A F)(b:L.length<=100000)(e:A.length<=100000)(c:F.length<=100000)(j:Z<=100000)(h0:ns<=1000000):∀ n,GoQ H U L A F ns Z Y D M B V K 113 3 n/\GoQ H U L A F ns Z Y D M B V K 178 2 n:=by
 intro n
 induction n with
 |zero=>exact⟨fun y d g w h=>absurd h (Nat.not_lt_zero _),fun y d g w h=>absurd h (Nat.not_lt_zero _)⟩
 |succ n ih=>exact⟨aS0 a b n ih.2,aV0 a f b e c j h0 n ih.1 (aV1 a f b e c j h0 n ih.1)⟩
end
end Go.Proofs.YtikffmloeifkpaaGreatDoor
