/- Contracts. -/
import Derived.Test.YtikffmloeifkpaaGreatDoorR34
import Derived.Test.YtikffmloeifkpaaGreatDoorR35
import Derived.Test.YtikffmloeifkpaaGreatDoorR36
set_option maxHeartbeats 16000000
set_option maxRecDepth 100000
namespace Go.Proofs.YtikffmloeifkpaaGreatDoor
open Go.RowKit Go.Lib Go.Deep Go.ChangeMaps Go.MapKept Tryz
section
variable {B L D:List NQ} {A F:List Int} {K:Int->Prop} {ns:Nat}
def bRT(B:List NQ)(A F:List Int)(hi c:Int)(L:List NQ)(k:Int):Prop:=c=0->∃ (C b:NQ) (y:Int) (Kw Kb:Int->Prop) (Z:Nat),Ndq B k C/\Ndq L k b/\b.b=(Z:Int)/\C.g.length<=Z/\Z<=100000/\C.e.length<=100000/\C.g.length<=90000/\C.c=[y]/\(Kb y/\∃ n,Ndq B y n/\n.d=19)
 /\(∀ c∈C.e,Kw c/\∃ n,Ndq B c n/\n.d=9)/\Cl B Kw/\Cl B Kb/\(∀ i,Kw i->i < hi/\∃ b,Ndq L i b/\OkR B A F C.g.length b)/\(∀ i,Kb i->i < hi/\∃ b,Ndq L i b/\OkR B A F Z b)/\k < hi
theorem bRT.keep{hi lo hi' c c' k:Int}(h:bRT B A F hi c L k)(u:Upd lo hi' L D)(I:hi<=lo)(w:c'=0->c=0):bRT B A F hi c' D k:=fun e=>by
 obtain⟨C,b,H,j,g,Z,m,n,o,p,q,r,l,s,t,v,G,E,z,y,x⟩:=h (w e)
 exact⟨C,b,H,j,g,Z,m,u.off n (.l Oa),o,p,q,r,l,s,t,v,G,E,fun i hi=>by
  obtain⟨a,b,d,f⟩:=z i hi;exact⟨a,b,u.off d (.l Oa),f⟩,fun i hi=>by
  obtain⟨a,b,d,f⟩:=y i hi;exact⟨a,b,u.off d (.l Oa),f⟩,x⟩
theorem bRT.wide{hi hi' c k:Int}(h:bRT B A F hi c L k)(x:hi<=hi'):bRT B A F hi' c L k:=fun e=>by
 obtain⟨C,b,y,g,f,Z,j,l,m,n,o,p,t,q,r,s,v,u,d,a,w⟩:=h e;exact⟨C,b,y,g,f,Z,j,l,m,n,o,p,t,q,r,s,v,u,fun i hi=>⟨Oi ((d i hi).1),(d i hi).2⟩,fun i hi=>⟨Oi ((a i hi).1),(a i hi).2⟩,Oa⟩
def Las(ns:Nat)(B L D:List NQ):Prop:=∀ y a,Ndq B y a->∃ (b:NQ) (s:Int),Ndq L y b/\bNM a b/\Ndq D y {b with f:=s}/\s < ns
theorem cAL(h:bOY B L)(i:Sit ns L D)(j:∀ a∈B,a.f < 0):Las ns B L D:=fun y a d=>by
 obtain⟨b,e,f⟩:=h.ndq d;obtain⟨s,g,c⟩:=i.at_ _ _ e.2
 exact⟨b,s,e,f,⟨d.1,g⟩,by
  rcases c with c|c
  ·exact c
  ·have:=j a (Qr d.2);rw[<-f.f]at this;omega⟩
theorem InK.to{i y:Int}{c:Nat}(g:Las ns B L D)(h:InK B K i c y):InK D K i c y:=⟨h.1,h.2.1,by
 obtain⟨m,d,f⟩:=h.2.2;obtain⟨b,s,_,e,a,_⟩:=g y m d;exact⟨_,a,by rw[<-f,<-e.d]⟩⟩
theorem WfK.to{i:Int}{n m:NQ}(d:Las ns B L D)(p:m.d=n.d)(a:m.c=n.c)(f:m.n=n.n)(h:WfK B K i n):WfK D K i m:=by
 unfold WfK;rw[p,a,f];rcases h with h|⟨h,a⟩|⟨h,a⟩|⟨h,y,a,f⟩|⟨h,y,z,a,f,g⟩|⟨h,y,z,a,f,g⟩|⟨h,c,b,r,a,f,g,q⟩
 ·exact .l h
 ·exact .r (.l ⟨h,fun y j=>(a y j).to d⟩)
 ·exact .r (.r (.l ⟨h,fun y j=>(a y j).to d⟩))
 ·exact .r (.r (.r (.l ⟨h,y,a,f.to d⟩)))
 ·exact .r (.r (.r (.r (.l ⟨h,y,z,a,f.to d,g.to d⟩))))
 ·exact .r (.r (.r (.r (.r (.l ⟨h,y,z,a,f.to d,g.to d⟩)))))
 ·exact .r (.r (.r (.r (.r (.r ⟨h,c,b,r,a,f.to d,g.to d,q.imp id (fun⟨k,e,l,o⟩=>⟨k,e,l,o.to d⟩)⟩)))))
theorem bY0{Z h:Nat}{hi:Int}(g:Las ns B L D)(p:Cl B K)(q:∀ i,K i->i < hi/\∃ b,Ndq L i b/\OkR B A F Z b)(r:Z<=h):Nok B D A F h ns K:=fun i hi=>by
 obtain⟨s,c,a⟩:=p i hi;obtain⟨b,t,j,e,k,l⟩:=g i s c;obtain⟨_,d,m,n⟩:=q i hi;have o:d=b:=by have c:=j.2;have a:=m.2;rw[c]at a;exact(Oq a).symm
 subst o;exact⟨_,k,a.to g e.d e.c e.n,OkR.mono (b:={d with f:=t}) n r,l⟩
theorem bZU{c:Nat}{y:Int}(h:Las ns B L D)(f:K y){n:NQ}(g:Ndq B y n)(d:cK n.d=c):KdK D K c y:=by
 obtain⟨b,s,_,e,a,_⟩:=h y n g;exact⟨f,_,a,by rw[<-d,<-e.d]⟩
theorem bRT.ok{hi k:Int}(h:bRT B A F hi 0 L k)(d:Las ns B L D):cA0 B D A F ns k:=by
 obtain⟨C,b,a2,j,o,Z,v,w,x,m,y,E,_,G,⟨H,a3,J,Q⟩,I,l,W,V,U,_⟩:=h rfl;obtain⟨f,a4,r,e,s,_⟩:=d k C v;have t:f=b:=by have g:=r.2;have a:=w.2;rw[g]at a;exact Oq a
 subst t;refine⟨_,Z,a2,o,j,s,x,y,by show f.g.length<=Z;rw[e.g];exact m,by show f.e.length<=_;rw[e.e];exact E,by show f.c=_;rw[e.c];exact G,bY0 d W U Ol,bZU d H J (by rw[Q];rfl),bY0 d l V m,fun c i=>?_⟩;have i:c∈f.e:=i;rw[e.e]at i;obtain⟨g,X,a,R⟩:=I c i;obtain⟨n,S,T⟩:=l c g;have u:n=X:=by have g:=S.2;have a:=a.2;rw[g]at a;exact Oq a
 subst u;obtain⟨p,q,N,O,P⟩:=T.two (.r (.l R));obtain⟨Y,ms,_,me,a1,_⟩:=d c n a
 have ex:∀ z,InK B j c 0 z->ExK D j z:=fun z M=>by
  obtain⟨z1,_,zn,z2,z3⟩:=M;exact bZU d z1 z2 z3
 exact⟨_,p,q,a1,by show Y.c=_;rw[me.c];exact N,ex p O,ex q P⟩
theorem cB5(g:Las ns B L D)(E:∀ x∈A,∃ n,Ndq B x n)(G:∀ x∈F,∃ hi,bRT B A F hi 0 L x):bVB B D A F:=⟨fun J x i=>by
 obtain⟨n,H⟩:=E x (Qr i);obtain⟨b,a1,_,_,e,_⟩:=g x n H;exact⟨_,e⟩,fun J x Y i w=>by
 obtain⟨hi,h⟩:=G x (Qr i);obtain⟨C,b,a6,o,Kb,Z,j,h2,h3,k,h5,h6,a5,h7,h8,y,T,a3,P,a4,_⟩:=h rfl;have u:C=Y:=by have d:=j.2;have a:=w.2;rw[d]at a;exact Oq a
 subst u;obtain⟨r,a1,e1,e,s,_⟩:=g x C j;refine⟨Oa,_,s,fun c f=>?_⟩;have f:c∈r.e:=f;rw[e.e]at f;obtain⟨d,U,a,Q⟩:=y c f;obtain⟨l,R,S⟩:=T c d;have t:l=U:=by have d:=R.2;have a:=a.2;rw[d]at a;exact Oq a
 subst t;obtain⟨p,q,M,N,O⟩:=S.two (.r (.l Q));obtain⟨V,ms,_,W,X,_⟩:=g c l a
 have m:∀ z,InK B o c 0 z->bT5 D C.g.length z:=fun z I=>by
  obtain⟨z1,_,zn,z2,z3⟩:=I;obtain⟨zb,zs,y1,ye,y2,_⟩:=g z zn z2;obtain⟨_,a2,y3,y4⟩:=P z z1;have v:a2=zb:=by have d:=y1.2;have a:=y3.2;rw[d]at a;exact(Oq a).symm
  subst v;exact⟨_,y2,fun k=>y4.1 (.l k)⟩
 exact⟨_,p,q,X,by show V.c=_;rw[W.c];exact M,m p N,m q O⟩⟩
end
section
variable {H U:Nat} {L C:List NQ} {A F:List Int} {ns Z g:Nat} {Y D M B:Value} {V:List V3} {K:Int->Prop}
section
variable {W:World} {r:Int × Int}
theorem bVM:∀ (R:List (Int × Int)) (i:Nat),i < R.length->((rgC R).set (i*2) (Qc r.1)).set (i*2+1) (Qc r.2)=rgC (R.set i r)
 |[],i,h=>absurd h (Nat.not_lt_zero i)
 |x::R,0,_=>rfl
 |x::R,i+1,h=>by
  have:=bVM R i (Nat.lt_of_succ_lt_succ h);rw[show(i+1)*2=i*2+1+1 by omega,List.set_cons_succ,rgC,rgC,List.set_cons_succ,List.set_cons_succ,List.set_cons_succ,List.set_cons_succ,this]
theorem StW.put{i:Nat}(h:StW Z false g W)(e:Rk r)(hi:i < Z):StW Z false g ((W.setCell ⟨g,i*2,none⟩ (Qc r.1)).setCell ⟨g,i*2+1,none⟩ (Qc r.2)):=by
 obtain⟨R,a,b,c⟩:=h;refine⟨R.set i r,by simp[a],?_,fun _ q d=>?_⟩
 ·have:=aM (o:=i*2+1) (Qc r.2) (aM (o:=i*2) (Qc r.1) b);rw[<-bVM R i Oa];simpa using this
 ·rcases List.mem_or_eq_of_mem_set d with h|rfl
  ·exact c rfl q h
  ·exact e
theorem StW.frz{d:Bool}(h:StW Z d g W)(o:Nat):W.frozen? ⟨g,o,none⟩=false:=by
 obtain⟨R,_,a,_⟩:=h;simp[World.frozen?,a]
theorem bRD{a:NQ}{c:Option Addr}{f:Nat}{d:Option Addr}{i:Nat}{e:Option Addr}{j b:Nat}(h:W.1[b]?=some (bMB a c f d i e j)):W.cell? ⟨b,0,none⟩=some (Qc a.d)/\W.cell? ⟨b,1,none⟩=some (Qc a.at_)/\W.cell? ⟨b,2,none⟩=some (.string a.s)/\W.cell? ⟨b,3,none⟩=some (Qc a.n)/\W.cell? ⟨b,4,none⟩=some (Qc a.mid)/\W.cell? ⟨b,5,none⟩=some (.slice c a.c.length f)/\W.cell? ⟨b,6,none⟩=some (.slice d a.g.length i)/\W.cell? ⟨b,7,none⟩=some (.slice e a.e.length j)/\W.cell? ⟨b,8,none⟩=some (Qc a.b)/\W.cell? ⟨b,9,none⟩=some (Qc a.ref)/\W.cell? ⟨b,10,none⟩=some (Qc a.f):=by
 refine⟨?_,?_,?_,?_,?_,?_,?_,?_,?_,?_,?_⟩<;>(rw[cell_of_row _ _ _ _ _ _ h];rfl)
theorem FdW.arrc{gr b f a:Nat}{e:NQ}(h:FdW H U L A F ns (Qe gr L.length b) D M B V W)(o:A[f]?=some (a:Int))(p:Ndq L (a:Int) e):∃ d i,D= Qe d A.length i/\W.cell? ⟨U,0,none⟩=some (Qe gr L.length b)/\W.cell? ⟨U,2,none⟩=some D/\W.cell? ⟨d,f,none⟩=some (Qc (a:Int))/\W.cell? ⟨gr,a*11+3,none⟩=some (Qc e.n):=by
 obtain⟨n,s,t,j⟩:=bLE h.arrs o;obtain⟨w,v,u,_,_,_,_,_,_,l,_,c,_,m,⟨_,_,_,k,_⟩⟩:=h.Q p;obtain rfl:=Int.ofNat.inj l;simp only[Value.slice.injEq,Option.some.injEq,Addr.mk.injEq]at c;obtain⟨⟨rfl,-⟩,-,rfl⟩:=c;obtain⟨y,x,q⟩:=h.prog;exact⟨n,s,t,m,Og q rfl,j,k⟩
end
def bZZ(H U:Nat)(L:List NQ)(A F:List Int)(ns Z:Nat)(Y D M B:Value)(V:List V3)(K:Int->Prop)(n:Nat):Prop:=∀ (x:NQ) (b1:Option Addr) (k1:Nat) (b2:Option Addr) (k2:Nat) (b3:Option Addr) (k3:Nat) (c b:Int) (d:Bool) (g:Nat) (w:World),x.c=[c,b]->c.toNat < n->b.toNat < n->KdK L K 1 c->KdK L K 3 b->NdW H w x (.slice b1 x.c.length k1,.slice b2 x.g.length k2,.slice b3 x.e.length k3)->FdW H U L A F ns Y D M B V w->StW Z d g w->
 Calls prog 238 #[Qd U,stA d g Z,.agg #[Qc x.d,Qc x.at_,.string x.s,Qc x.n,Qc x.mid,.slice b1 x.c.length k1,.slice b2 x.g.length k2,.slice b3 x.e.length k3,Qc x.b,Qc x.ref,Qc x.f]] w (bV8 H U L A F ns Z Y D M B V w)
theorem bYU(hN:Nok C L A F Z ns K)(hO:bVB C L A F)(hZ:L.length<=100000)(j5:A.length<=100000)(j3:F.length<=100000)(hv:Z<=100000)(y6:ns<=1000000)(n:Nat)(hB:GoQ H U L A F ns Z Y D M B V K 113 3 n)(hL:bZZ H U L A F ns Z Y D M B V K n):GoQ H U L A F ns Z Y D M B V K 178 2 (n+1):=by
 intro a8 d g w hn hk hw hs;obtain⟨hk,j,j0,q2⟩:=hk;obtain⟨a,ha,k8,y5,j8⟩:=hN a8 hk;obtain rfl:j=a:=by have h1:=ha.2;have h2:=j0.2;rw[h1]at h2;exact(Oq h2).symm
 have c9:12<=j.d/\j.d<=18:=by grind [cK]
 obtain⟨a3,gr,a1,b1,c1,b2,c2,b3,c3,rfl,r0,rfl,k9,g0,e0,e1,e2,e3,e4,e5,e6,e7,e8,e9,i8⟩:=hw.Q ha;have p9:0<=(a3:Int)/\(a3:Int) < (L.length:Int):=Oa
 have g6:=Qp w _ g0;have h8:=Qp w _ e0;dsimp only at g6 h8;have o3:U < w.1.size+1/\gr < w.1.size+1:=Oa
 obtain⟨W1,j2⟩:∃ W1,W1=((w.alloc (stO d g Z)).alloc noO).alloc (ndO j b1 c1 b2 c2 b3 c3):=⟨_,rfl⟩
 have kb:Below w.1.size w W1:=by
  rw[j2]
  repeat (first|exact Below.refl _ _|refine Below.alloc ?_ (by first|(simp;f7)|(simp;omega)) _)
 have q4:W1.1[w.1.size]?=some (stO d g Z):=by
  rw[j2]
  repeat (first|rw[hal,if_neg (by simp only[hsz];omega)]|rw[hal,if_pos (by simp only[])])
 have q6:W1.1[w.1.size+1]?=some noO:=by
  rw[j2]
  repeat (first|rw[hal,if_neg (by simp only[hsz];omega)]|rw[hal,if_pos (by simp only[hsz])])
 have q7:W1.1[w.1.size+1+1]?=some (bMB j b1 c1 b2 c2 b3 c3):=by
  rw[j2]
  repeat (first|rw[hal,if_neg (by simp only[hsz];omega)]|rw[hal,if_pos (by simp only[hsz])])
 have HW:Hid (W1=_):=j2;clear j2;go_enter func178,ntmps178
 go_upto_region 2 with fail
 rw[<-HW.o];clear HW g0 e0 e1 e2 e3 e4 e5 e6 e7 e8 e9 i8 g6 h8 o3;obtain⟨E,hE⟩:∃ E,E=Kl H U L A F ns (Qe gr L.length a1) D M B V w [w.1.size+1] [(w.1.size,stO d g Z),(w.1.size+1+1,bMB j b1 c1 b2 c2 b3 c3)]:=⟨_,rfl⟩;have i:Ck H U L A F ns (Qe gr L.length a1) D M B V (w.1.size+3) E:=by rw[hE];exact Kl.ck hw (by simp<;>omega) (by simp<;>omega) (by simp<;>omega) Oa
 have k1:Ow E (w.1.size+1):=by rw[hE];exact Kl.ow Od Oa (by simp<;>omega)
 have s:Hid (In E W1):=by unfold Hid In;rw[hE];exact⟨(Bw.start hw).below kb,by simp[q6],by simp[q4,q7]⟩
 have y3:∀ W,In E W->bM4 H U L A F ns (Qe gr L.length a1) D M B V w W:=fun W h=>by unfold In at h;rw[hE]at h;exact⟨h.1.fd,h.1.fr⟩
 have k2:∀ W,In E W->StW Z d g W:=fun W h=>hs.fd hw (y3 W h).2
 have h0:∀ a2 f2,j.c[a2]?=some f2->∃ I,b1=some ⟨I,0,none⟩/\∀ W,In E W->W.cell? ⟨I,a2,none⟩=some (Qc f2):=fun a2 f2 hz=>by
  obtain⟨I,_,e,_⟩:=bNN k9 hz;simp only[Value.slice.injEq]at e;refine⟨I,e.1,fun W h=>?_⟩;unfold In at h;rw[hE]at h;obtain⟨_,_,e',f1⟩:=h.1.kid k9 hz;simp only[Value.slice.injEq,e.1,Option.some.injEq,Addr.mk.injEq]at e';obtain⟨⟨rfl,-⟩,-⟩:=e';exact f1
 have y:∀ W,In E W->W.cell? ⟨w.1.size,0,none⟩=some (.bool d)/\W.cell? ⟨w.1.size,1,none⟩=some (Qe g Z Z)/\W.cell? ⟨w.1.size+1+1,5,none⟩=some (.slice b1 j.c.length c1)/\W.cell? ⟨w.1.size+1+1,9,none⟩=some (Qc j.ref)/\W.cell? ⟨w.1.size+1+1,10,none⟩=some (Qc j.f):=fun W h=>by
  unfold In at h;rw[hE]at h;have h4:=h.2.2 _ (.head _);have h7:=h.2.2 _ (.tail _ (.head _));exact⟨(bKX h4).1,(bKX h4).2.1,Og h7 rfl,Og h7 rfl,Og h7 rfl⟩
 have l0:W1.cell? ⟨w.1.size+1+1,0,none⟩=some (Qc j.d):=Og q7 rfl
 have z7:∀ (z a8:Int),z≠a8->(z==a8)=false:=fun z a8 h=>by simp[h]
 have T:=i.dr s.o;have z0:=i.sz _ s.o;have f4:Hid _:=k9.move (fun a3 hk=>kb.block a3 (k9.use_lt hk));have f5:Hid _:=bRD q7;clear hE hs hw q4 q6 q7 kb
 by_cases y9:j.d=12\/j.d=13
 ·obtain⟨y1,u,k7⟩:=k8.one Oa;obtain⟨I,rfl,z8⟩:=h0 0 y1 (by rw[u];rfl);obtain⟨o1,o2⟩:=y5.1 (.r y9);obtain⟨a2,hi⟩:=Int.eq_ofNat_of_zero_le o1;rw[hi]at y;have h9:a2 < Z:=Oa
  simp only[show j.c.length=1 by rw[u];rfl]at y;have k6:∀ W2,_->_:=fun W2=>i.one (o:=rgO (0,0)) (W2:=W2) s.o;clear k8 y5 u h0 k9 ha j0 hi o1 o2
  have c8:(j.d==12)=true\/(j.d==12)=false/\(j.d==13)=true:=by
   rcases y9 with h|h
   ·exact .l (by simp[h])
   ·exact .r ⟨by simp[h],by simp[h]⟩
  clear y9;rcases c8 with i5|⟨i5,o8⟩
  all_goals
   go_upto_region 6 with fail
   go_cut [8]from 34 to 41 (fun v8 q=>∃ r,One (w.1.size+3) E (rgO r) v8 q/\Rk r)
   case first=>
    go_region_held3 (fun q=>In E q)
     (first
       |assumption
       |exact G.o
       |with_reducible exact i.far2 _ _ _ _ _ (i.far2 _ _ _ _ _ G.o s.o Ol) s.o Ol
       |(repeat (first|assumption|exact G.o|exact s.o|refine i.dr ?_|refine i.al ?_ _)))
     ((go_at_call 234;refine(bOQ hN hO hZ j5 j3 hv y6 _ y1 d _ (Nat.lt_succ_self _) ⟨k7.1,k7.2.2⟩ (i.fd _ Qi) (k2 _ Qi)).mono ?_;rintro e W2 ⟨r,rfl,S,m⟩;have G:Hid (In E W2):=i.nx _ _ Qi m;first|(with_reducible have hq:=i.nx _ _ T m)|((with_reducible have nn:=k6 _ m);obtain⟨x,z3⟩:=nn;have O:Hid _:=x;obtain⟨b4,b5,b6⟩:=bL4 x;clear x)))
    all_goals go_wp2
    all_goals go_meet
    all_goals first
     |with_reducible exact⟨_,i.wayA G.o,S⟩
     |with_reducible exact⟨_,i.wayB s.o G.o O.o,S⟩
   case rest=>
    obtain⟨r,⟨b8,rfl,c7,q8,J⟩,S⟩:=hcut;obtain⟨p,k3⟩:∃ p,p=Ad E b8 (rgO r):=⟨_,rfl⟩;have k4:Ck H U L A F ns (Qe gr L.length a1) D M B V (b8+1) p:=by rw[k3];exact i.ad c7
    have R:Ow p (w.1.size+1):=by rw[k3];exact k1.ad Oa
    have P:Hid (In p wc):=by unfold Hid In;rw[k3];exact⟨J,q8⟩
    have hx:∀ W,In p W->In E W/\W.cell? ⟨b8,0,none⟩=some (Qc r.1)/\W.cell? ⟨b8,1,none⟩=some (Qc r.2):=fun W h=>by
     unfold In at h;rw[k3]at h;exact⟨h.1,(bL4 h.2).1,(bL4 h.2).2.1⟩
    obtain⟨s0,s1,_,_,_⟩:=y wc J;clear k3 q8 J k6 T s z8;go_upto_region 8 with(go_at_call 233;refine(bPY d g Z _ (k2 _ (hx _ P.o).1) hv).mono ?_;rintro e W4 ⟨k,rfl,m1,hS,m5⟩)
    obtain⟨W5,g9⟩:∃ W5,W5=W4.alloc (stO d k Z):=⟨_,rfl⟩;have X5:Hid (In p W5):=by rw[g9];exact k4.al (k4.be P.o m5) _
    have q9:W5.1[W4.1.size]?=some (stO d k Z):=by rw[g9];exact Qk _ _
    have d0:StW Z d k W5:=by rw[g9];exact hS.al
    have d9:k≠W4.1.size:=by have:=hS.lt;omega
    have HG:Hid (∀ W a5 v i1 l,In p W->In p ((W.setCell ⟨k,i1,none⟩ a5).setCell ⟨k,l,none⟩ v)):=fun W a5 v i1 l h=>k4.far2 _ _ _ _ _ (k4.far2 _ _ _ _ _ h P.o m1) P.o m1;rw[<-g9];clear g9 hS s0 s1 m5 m1;generalize W4.1.size=b9 at*;obtain⟨s0,s1,_⟩:=bKX q9;obtain⟨u1,u2,u3,u4,u5⟩:=R.cells X5.o;obtain⟨_,_,_,l9,_⟩:=y W5 (hx _ X5.o).1;obtain⟨_,x0,x1⟩:=hx _ X5.o;clear q9 P;cases d
    case true=>
     go_wp2;exact bodyPost_ret (v:=stA true k Z) (by simp[results,results178,go_sem,*]) rfl ⟨true,k,rfl,R.st X5.o d0 _ _,y3 _ (hx _ ((R _ X5.o).2 _ _)).1⟩
    case false=>
     obtain⟨rr,c0,i7,_⟩:=d0.get h9;have o0:=d0.frz;have n3:0<=(a2:Int)/\(a2:Int) < (Z:Int):=Oa
     have f9:(a2:Int) < (Z:Int):=n3.2;go_upto_region 10 with fail
     have q3:k≠w.1.size+1:=d0.ne (R _ X5.o).1.choose_spec.choose_spec;obtain⟨W6,j1⟩:∃ W6,W6=(W5.setCell ⟨k,a2*2,none⟩ (Qc r.1)).setCell ⟨k,a2*2+1,none⟩ (Qc r.2):=⟨_,rfl⟩;have X6:Hid (In p W6):=by rw[j1];exact HG.o _ _ _ _ _ X5.o
     have S6:StW Z false k W6:=by rw[j1];exact d0.put S h9
     have r9:W6.cell? ⟨b9,0,none⟩=some (.bool false):=by rw[j1];exact((bN0 d9.symm).t (bN0 d9.symm)).t s0
     have s2:W6.cell? ⟨b9,1,none⟩=some (Qe k Z Z):=by rw[j1];exact((bN0 d9.symm).t (bN0 d9.symm)).t s1
     rw[<-j1];clear j1 s0 s1 u3 u4 u5 c0 i7 o0;obtain⟨u1,u2,u3,u4,u5⟩:=R.cells X6.o;go_wp2;exact bodyPost_ret (v:=stA false k Z) (by simp[results,results178,go_sem,*]) rfl ⟨false,k,rfl,R.st X6.o S6 _ _,y3 _ (hx _ ((R _ X6.o).2 _ _)).1⟩
 have i5:=z7 j.d 12 Oa;have o8:=z7 j.d 13 Oa
 by_cases y4:j.d=14
 ·have o9:(j.d==14)=true:=by simp[y4]
  obtain⟨y1,y2,u,k7,i0⟩:=k8.two (.r (.r y4));obtain⟨I,rfl,z8⟩:=h0 0 y1 (by rw[u];rfl);obtain⟨b7,e6,g8⟩:=h0 1 y2 (by rw[u];rfl);obtain⟨rfl,-⟩:I=b7/\True:=by simpa using e6
  obtain⟨o1,o2⟩:=y5.2.1 (.r y4);obtain⟨f,hf⟩:=Int.eq_ofNat_of_zero_le o1;obtain⟨xa,m7⟩:∃ xa,A[f]?=some xa:=⟨A[f]'Oa,List.getElem?_eq_getElem _⟩;obtain⟨na,d8⟩:=hO.arr f xa m7;obtain⟨ka,rfl⟩:=Int.eq_ofNat_of_zero_le d8.1;have q5:ka < L.length:=by have:=(List.getElem?_eq_some_iff.1 d8.2).1;simpa using this
  obtain⟨ga,ca,rfl,_⟩:=(i.fd _ s.o).arrc m7 d8;rw[hf]at y;have q0:0<=(f:Int)/\(f:Int) < (A.length:Int):=Oa
  have q1:0<=(ka:Int)/\(ka:Int) < (L.length:Int):=Oa
  simp only[show j.c.length=2 by rw[u];rfl]at y;have k6:∀ W2,_->_:=fun W2=>i.one (o:=rgO (0,0)) (W2:=W2) s.o;clear k8 y5 u h0 k9 ha j0 hf o1 o2 y4 y9 e6;go_upto_region 12 with fail
  go_cut [10]from 55 to 62 (fun v8 q=>∃ r,One (w.1.size+3) E (rgO r) v8 q/\Rk r)
  case first=>
   go_region_held3 (fun q=>In E q)
    (first
      |assumption
      |exact G.o
      |with_reducible exact i.far2 _ _ _ _ _ (i.far2 _ _ _ _ _ G.o s.o Ol) s.o Ol
      |(repeat (first|assumption|exact G.o|exact s.o|refine i.dr ?_|refine i.al ?_ _)))
    ((go_at_call 234;refine(bOQ hN hO hZ j5 j3 hv y6 _ y1 d _ (Nat.lt_succ_self _) ⟨k7.1,k7.2.2⟩ (i.fd _ Qi) (k2 _ Qi)).mono ?_;rintro e W2 ⟨r,rfl,S,m⟩;have G:Hid (In E W2):=i.nx _ _ Qi m;first|(with_reducible have hq:=i.nx _ _ T m)|((with_reducible have nn:=k6 _ m);obtain⟨x,z3⟩:=nn;have O:Hid _:=x;obtain⟨b4,b5,b6⟩:=bL4 x;clear x)))
   all_goals go_wp2
   all_goals go_meet
   all_goals first
    |with_reducible exact⟨_,i.wayA G.o,S⟩
    |with_reducible exact⟨_,i.wayB s.o G.o O.o,S⟩
  case rest=>
   obtain⟨⟨ra,N⟩,⟨b8,rfl,c7,q8,J⟩,S⟩:=hcut;obtain⟨p,k3⟩:∃ p,p=Ad E b8 (rgO (ra,N)):=⟨_,rfl⟩;have k4:Ck H U L A F ns (Qe gr L.length a1) (Qe ga A.length ca) M B V (b8+1) p:=by rw[k3];exact i.ad c7
   have R:Ow p (w.1.size+1):=by rw[k3];exact k1.ad Oa
   have P:Hid (In p wc):=by unfold Hid In;rw[k3];exact⟨J,q8⟩
   have z6:∀ W,In p W->In E W:=fun W h=>by unfold In at h;rw[k3]at h;exact h.1
   have hx:∀ W,In p W->(W.cell? ⟨b8,0,none⟩=some (Qc ra)/\W.cell? ⟨b8,1,none⟩=some (Qc N))/\(W.cell? ⟨w.1.size,0,none⟩=some (.bool d)/\W.cell? ⟨w.1.size,1,none⟩=some (Qe g Z Z)/\W.cell? ⟨w.1.size+1+1,5,none⟩=some (Qe I 2 c1)/\W.cell? ⟨w.1.size+1+1,9,none⟩=some (Qc (f:Int))/\W.cell? ⟨w.1.size+1+1,10,none⟩=some (Qc j.f))/\W.cell? ⟨I,1,none⟩=some (Qc y2)/\W.cell? ⟨U,0,none⟩=some (Qe gr L.length a1)/\W.cell? ⟨U,2,none⟩=some (Qe ga A.length ca)/\W.cell? ⟨ga,f,none⟩=some (Qc (ka:Int))/\W.cell? ⟨gr,ka*11+3,none⟩=some (Qc na.n):=fun W h=>by
    obtain⟨k,_,e,h3,h4,h5,h6⟩:=(k4.fd W h).arrc m7 d8;simp only[Value.slice.injEq,Option.some.injEq,Addr.mk.injEq]at e;obtain⟨⟨rfl,-⟩,-⟩:=e;refine⟨?_,y W (z6 W h),g8 W (z6 W h),h3,h4,h5,h6⟩;unfold In at h;rw[k3]at h;exact⟨(bL4 h.2).1,(bL4 h.2).2.1⟩
   clear k3 q8 J k6 T s z8 g8 y;go_upto_region 13 with fail
   have F0:=k4.dr P.o
   go_region_held3 (fun q=>In p q) (first|assumption|exact G.o)
    ((go_at_call 234;refine(bOQ hN hO hZ j5 j3 hv y6 _ y2 d _ (Nat.lt_succ_self _) ⟨i0.1,i0.2.2⟩ (k4.fd _ F0) (k2 _ (z6 _ F0))).mono ?_;rintro e W2 ⟨r2,rfl,-,m⟩;have G:Hid (In p W2):=k4.nx _ _ F0 m))
   go_upto_region 14 with fail
   have G0:p W2.drew:=k4.dr G.o;have r4:∀ z:Cls p,_:=fun z=>hx z.w z.h;have n8:∀ z:Cls p,FdW H U L A F ns (Qe gr L.length a1) (Qe ga A.length ca) M B V z.w:=fun z=>k4.fd z.w z.h;have o6:∀ (z:Cls p) W,bM4 H U L A F ns (Qe gr L.length a1) (Qe ga A.length ca) M B V z.w W->p W:=fun z W m=>k4.nx z.w W z.h m;have f7:∀ W,In p W->∀ a5 v,bV8 H U L A F ns Z (Qe gr L.length a1) (Qe ga A.length ca) M B V w (.returned (stA d g Z)) ((W.setCell ⟨w.1.size+1,0,none⟩ a5).setCell ⟨w.1.size+1,1,none⟩ v):=fun W h a5 v=>⟨d,g,rfl,R.st h (k2 _ (z6 _ h)) _ _,y3 _ (z6 _ ((R _ h).2 _ _))⟩;clear z6 k2 y3;obtain⟨tq,hq⟩:∃ t,decide (0<=ra)=t:=⟨_,rfl⟩;have j9:decide (ra≥0)=tq:=hq;cases tq
   all_goals
    refine bO0 (E:=p) (by kernel_rfl) (by kernel_rfl) G0 (fun z7=>?_)
    repeat (go_big_quiet_step ((go_at_call 235;refine(bPR j.f j8 y6 d _ (n8 _)).mono ?_;rintro e W ⟨rfl,m⟩;exact⟨rfl,⟨W,o6 _ _ m⟩,rfl⟩)))
    refine wpQuiet_nil ?_;rintro W ⟨⟨_,J⟩,rfl⟩;obtain⟨_,⟨s0,s1,_⟩,_⟩:=hx _ J;obtain⟨u1,u2,u3,u4,u5⟩:=R.cells J;go_wp2;exact bodyPost_ret (v:=stA d g Z) (by simp[results,results178,go_sem,*]) rfl (f7 _ J _ _)
 have o9:=z7 _ _ y4
 by_cases j6:j.d=15
 ·have p0:(j.d==15)=true:=by simp[j6]
  obtain⟨c,b,r,u,z9,y7,S⟩:=k8.iff (.l j6);obtain⟨I,rfl,z8⟩:=h0 0 c (by rw[u];rfl);obtain⟨b7,e6,g8⟩:=h0 1 b (by rw[u];rfl);obtain⟨rfl,-⟩:I=b7/\True:=by simpa using e6
  have f9:b.toNat < n:=by obtain⟨_,h3,m2,h4,_⟩:=y7;have:=h4.1;omega
  have HR:Hid ((j.c.length=2\/j.c.length=3/\∃ e,(e.toNat < n/\KdK L K 3 e)/\∀ W,In E W->W.cell? ⟨I,2,none⟩=some (Qc e))):=by
   rcases S with rfl|⟨_,e,rfl,he⟩
   ·exact .l (by rw[u];rfl)
   ·refine .r ⟨by rw[u];rfl,e,⟨by obtain⟨_,h3,m2,h4,_⟩:=he;have:=h4.1;omega,he.1,he.2.2⟩,?_⟩;obtain⟨g7,e7,h7⟩:=h0 2 e (by rw[u];rfl);obtain⟨rfl,-⟩:I=g7/\True:=by simpa using e7
    exact h7
  obtain⟨a4,hm⟩:∃ a4,j.c.length=a4:=⟨_,rfl⟩;rw[hm]at HR;simp only[hm]at y;have r1:0 < a4/\1 < a4/\a4≠0:=by rw[<-hm,u];simp
  have r3:(0:Int) < (a4:Int)/\(1:Int) < (a4:Int):=Oa
  have i2:∀ (X:World) (a3 l:Nat) (a5 v:Value),a3≠l->X.1[a3]?=some noO->((X.setCell ⟨l,0,none⟩ a5).setCell ⟨l,1,none⟩ v).1[a3]?=some noO:=fun X a3 l a5 v hk f1=>((Om hk).t (Om hk)).t f1;clear k8 y5 u h0 k9 ha j0 y9 y4 j6 c9 S hm e6 f5 f4;go_upto_region 16 with fail
  have z1:=i.sz _ s.o;have z2:=Nat.le_succ_of_le z1;have k6:∀ W2,_->_:=fun W2=>i.one (o:=noO) (W2:=W2) s.o;have f8:∀ W2,_->_:=fun W2=>i.two (W2:=W2) s.o;go_cut [11,12]from 99 to 109 (fun v9 p3 q=>∃ d1 g1 d2 k,Two (w.1.size+3) Z E d1 g1 d2 k v9 p3 q)
  case first=>
   go_region_held3 (fun q=>In E q)
    (first
      |assumption
      |exact G.o
      |with_reducible exact i.far _ _ _ _ _ _ G.o z1 O.o
      |with_reducible exact i.far _ _ _ _ _ _ G.o z2 n2.o
      |with_reducible exact i.al (i.far _ _ _ _ _ _ G.o z1 O.o) _
      |with_reducible exact i.far _ _ _ _ _ _ (i.far _ _ _ _ _ _ G.o z1 O.o) z2 (i2 _ _ _ _ _ Oa n2.o)
      |with_reducible exact i.far _ _ _ _ _ _ (i.far _ _ _ _ _ _ G.o z2 n2.o) z1 (i2 _ _ _ _ _ Oa O.o)
      |(repeat (first|assumption|exact G.o|exact s.o|refine i.dr ?_|refine i.al ?_ _)))
    ((go_at_call 236;refine(bVO hN hO hZ j5 j3 hv y6 _ c d g _ (Nat.lt_succ_self _) ⟨z9.1,z9.2.2⟩ (i.fd _ Qi) (k2 _ Qi)).mono ?_;rintro e W2 ⟨p4,p6,p5,p7,rfl,y0,k0,m⟩;have G:Hid (In E W2):=i.nx _ _ Qi m;first|((with_reducible have nn:=k6 _ m);obtain⟨x,z3⟩:=nn;have O:Hid _:=x;obtain⟨b4,b5,b6⟩:=bLG x;clear x)|(with_reducible have j9:=i.nx _ _ T m)|((with_reducible have nn:=f8 _ m);obtain⟨x,m0,z3⟩:=nn;have O:Hid _:=x;have n2:Hid _:=m0;obtain⟨b4,b5,b6⟩:=bLG x;obtain⟨r6,r7,r8⟩:=bLG m0;clear x m0)))
   all_goals go_wp2
   all_goals go_meet
   all_goals first
    |with_reducible exact⟨_,_,_,_,i.way1 G.o y0 k0⟩
    |with_reducible exact⟨_,_,_,_,i.way2 G.o y0 k0⟩
    |with_reducible exact⟨_,_,_,_,i.way3 G.o y0 k0 z1 O.o⟩
    |with_reducible exact⟨_,_,_,_,i.way4 G.o y0 k0 z1 O.o⟩
    |with_reducible exact⟨_,_,_,_,i.way5 G.o y0 k0 z1 z2 Oa O.o n2.o⟩
    |with_reducible exact⟨_,_,_,_,i.way5 G.o y0 k0 z2 z1 Oa n2.o O.o⟩
  case rest=>
   obtain⟨d1,g1,d2,k,a7,Q,rfl,rfl,⟨o7,j9⟩,q9,i3,J,y0,k0⟩:=hcut;obtain⟨E2,d6⟩:∃ E2,E2=Twq Z E d1 g1 d2 k a7 Q:=⟨_,rfl⟩;have k5:Ck H U L A F ns (Qe gr L.length a1) D M B V (max a7 Q+1) E2:=by rw[d6];exact i.tw o7 j9
   have P:Hid (In E2 wc):=by unfold Hid In;rw[d6];exact⟨J,q9,i3,y0,k0⟩
   have j7:∀ W,In E2 W->In E W/\W.1[Q]?=some (stO d2 k Z)/\StW Z d1 g1 W/\StW Z d2 k W:=fun W h=>by unfold In at h;rw[d6]at h;exact⟨h.1,h.2.2⟩
   have n4:∀ W,In E2 W->(W.cell? ⟨a7,0,none⟩=some (.bool d1)/\W.cell? ⟨a7,1,none⟩=some (Qe g1 Z Z))/\W.cell? ⟨w.1.size+1+1,5,none⟩=some (Qe I a4 c1)/\W.cell? ⟨I,1,none⟩=some (Qc b):=fun W h=>by
    have h1:=y W (j7 W h).1;have h7:=g8 W (j7 W h).1;unfold In at h;rw[d6]at h;exact⟨⟨(bKX h.2.1).1,(bKX h.2.1).2.1⟩,h1.2.2.1,h7⟩
   clear d6 q9 i3 J y0 k0 k6 f8 T s z1 z2 z0 z8 g8;go_upto_region 17 with fail
   have F0:=k5.dr P.o;have k6:∀ W2,_->_:=fun W2=>k5.one (o:=noO) (W2:=W2) P.o;have HC:Hid _:=y;clear y;go_cut [13]from 109 to 116 (fun v8 q=>∃ d3 g3,One (max a7 Q+1) E2 (stO d3 g3 Z) v8 q/\StW Z d3 g3 q)
   case first=>
    go_region_held3 (fun q=>In E2 q)
     (first
       |assumption
       |exact G.o
       |with_reducible exact k5.far2 _ _ _ _ _ (k5.far2 _ _ _ _ _ G.o P.o Ol) P.o Ol
       |(repeat (first|assumption|exact G.o|exact P.o|refine k5.dr ?_|refine k5.al ?_ _)))
     ((go_at_call 113;refine(hB b d1 g1 _ f9 ⟨y7.1,y7.2.2⟩ (k5.fd _ Qi) (j7 _ Qi).2.2.1).mono ?_;rintro e W2 ⟨d3,g3,rfl,hT,m⟩;have G:Hid (In E2 W2):=k5.nx _ _ Qi m;first|(with_reducible have hq:=k5.nx _ _ F0 m)|((with_reducible have nn:=k6 _ m);obtain⟨x,z3⟩:=nn;have O:Hid _:=x;obtain⟨b4,b5,b6⟩:=bLG x;clear x)))
    all_goals go_wp2
    all_goals go_meet
    all_goals first
     |with_reducible exact⟨_,_,k5.wayA G.o,hT.al⟩
     |with_reducible exact⟨_,_,k5.wayB P.o G.o O.o,hT.set2 O.o _ _⟩
   case rest=>
    obtain⟨d3,g3,⟨a9,rfl,p8,i4,J⟩,m3⟩:=hcut;obtain⟨c5,a6,_,k0⟩:=j7 _ J;obtain⟨E4,j4⟩:∃ E4,E4=Ads Z (Ad (Ao E Q) a9 (stO d3 g3 Z)) d3 g3:=⟨_,rfl⟩;have m4:Ck H U L A F ns (Qe gr L.length a1) D M B V (a9+1) E4:=by rw[j4];exact((i.ao j9).ad Oa).ads
    have R:Ow E4 (w.1.size+1):=by rw[j4];exact((k1.ao Oa).ad Oa).ads
    have y8:Ow E4 Q:=by rw[j4];exact((i.mine j9).ad Oa).ads
    have m6:Hid (In E4 wc):=by unfold Hid In;rw[j4];exact⟨⟨⟨c5,_,_,a6⟩,i4⟩,m3⟩
    have m8:∀ W,In E4 W->In E W/\(W.cell? ⟨a9,0,none⟩=some (.bool d3)/\W.cell? ⟨a9,1,none⟩=some (Qe g3 Z Z))/\StW Z d3 g3 W:=fun W h=>by
     unfold In at h;rw[j4]at h;exact⟨h.1.1.1,⟨(bKX h.1.2).1,(bKX h.1.2).2.1⟩,h.2⟩
    obtain⟨_,_,l5,_⟩:=HC.o _ c5;obtain⟨s0,s1,_⟩:=bKX a6;have f6:Hid _:=a6;clear j4 J c5 i4 m3 k6 F0 P a6 j7 n4;go_upto_if 119 with fail
    go_cut []from 116 to 127 (fun q=>∃ d4 g4,In E4 q/\q.1[Q]?=some (stO d4 g4 Z)/\StW Z d4 g4 q)
    case first=>
     rcases HR.o with rfl|⟨rfl,e,⟨n7,n6⟩,n5⟩
     ·go_wp2;go_meet;exact⟨d2,k,m6.o,f6.o,k0⟩
     ·have x2:=n5 _ (m8 _ m6.o).1;have F4:=m4.dr m6.o;go_upto_region 19 with fail
      go_region_with (go_at_call 113;refine(hB e d2 k _ n7 n6 (m4.fd _ F4) (k0.below (Below.refl _ _).drew)).mono ?_;rintro e' W2 ⟨d4,g4,rfl,hT,m⟩;have G:Hid (In E4 W2):=m4.nx _ _ F4 m;obtain⟨u1,u2,u3,u4,u5⟩:=y8.cells G.o)
      all_goals go_wp2
      all_goals go_meet
      all_goals
       obtain⟨⟨_,_,o4⟩,o5⟩:=y8 _ G.o;exact⟨d4,g4,o5 _ _,bN8 o4,y8.st G.o hT _ _⟩
    case rest=>
     obtain⟨d4,g4,c6,a6,n0⟩:=hcut;have X4:Hid (In E4 wc):=c6;obtain⟨_,⟨t0,t1⟩,m3⟩:=m8 _ c6;obtain⟨s0,s1,_⟩:=bKX a6;clear c6 a6 m6 f6;go_wp2_with (go_at_call 237;refine(bUU hv d3 d4 g3 g4 _ m3 n0).mono ?_;rintro e W5 ⟨d5,g5,rfl,n1,i9⟩;have G:Hid (In E4 W5):=m4.be X4.o i9;obtain⟨u1,u2,u3,u4,u5⟩:=R.cells G.o)
     exact bodyPost_ret (v:=stA d5 g5 Z) (by simp[results,results178,go_sem,*]) rfl ⟨d5,g5,rfl,R.st G.o n1 _ _,y3 _ (m8 _ ((R _ G.o).2 _ _)).1⟩
 have p0:=z7 _ _ j6
 by_cases d7:j.d=16
 ·have p1:(j.d==16)=true:=by simp[d7]
  obtain⟨c,b,r,u,z9,y7,S⟩:=k8.iff (.r d7);obtain rfl:r=[]:=by rcases S with h|⟨h,_⟩;exact h;omega
  have g2:c.toNat < n/\b.toNat < n:=by
   obtain⟨_,h1,a4,h2,_⟩:=z9;obtain⟨_,h3,m2,h4,_⟩:=y7;have:=h2.1;have:=h4.1;omega
  obtain⟨s0,s1,_⟩:=y _ s.o;have n9:=i.fd _ s.o;have m9:=k2 _ s.o;obtain⟨l0,l1,l2,l3,l4,l5,l6,l7,l8,l9,r5⟩:=f5.o;have i6:Hid _:=u;clear y h0 k8 y5 c9 y9 y4 j6 d7 u k9 ha j0;go_wp2_with (go_at_call 238;refine(hL j b1 c1 b2 c2 b3 c3 c b d g _ i6.o g2.1 g2.2 ⟨z9.1,z9.2.2⟩ ⟨y7.1,y7.2.2⟩ f4.o n9 m9).mono ?_;rintro e W5 ⟨d2,k,rfl,hT,m⟩;have G:Hid (In E W5):=i.nx _ _ s.o m;obtain⟨u1,u2,u3,u4,u5⟩:=k1.cells G.o)
  exact bodyPost_ret (v:=stA d2 k Z) (by simp[results,results178,go_sem,*]) rfl ⟨d2,k,rfl,k1.st G.o hT _ _,y3 _ ((k1 _ G.o).2 _ _)⟩
 have p1:=z7 _ _ d7;obtain⟨y1,u,k7⟩:=k8.one Oa;obtain⟨I,rfl,z8⟩:=h0 0 y1 (by rw[u];rfl);simp only[show j.c.length=1 by rw[u];rfl]at y;have c8:(j.d==17)=true\/(j.d==17)=false:=by cases(j.d==17)<;>simp
 clear k8 y5 u h0 k9 ha j0 y9 y4 j6 d7 c9;rcases c8 with p2|p2
 ·go_upto_region 24 with fail
  go_region_held3 (fun q=>In E q) (first|assumption|exact G.o)
   ((go_at_call 234;refine(bOQ hN hO hZ j5 j3 hv y6 _ y1 d _ (Nat.lt_succ_self _) ⟨k7.1,k7.2.2⟩ (i.fd _ T) (k2 _ T)).mono ?_;rintro e W2 ⟨r2,rfl,-,m⟩;have G:Hid (In E W2):=i.nx _ _ T m))
  obtain⟨s0,s1,_⟩:=y _ G.o;go_upto_region 26 with(go_at_call 233;refine(bPY d g Z _ (k2 _ G.o) hv).mono ?_;rintro e W4 ⟨k,rfl,m1,hS,m5⟩)
  have X4:Hid (In E W4):=i.be G.o m5;have z4:=i.sz _ X4.o;have z5:w.1.size+1 < W4.1.size:=Oa
  obtain⟨u1,u2,u3,u4,u5⟩:=k1.cells X4.o;go_wp2;exact bodyPost_ret (v:=stA true k Z) (by simp[results,results178,go_sem,*]) rfl ⟨true,k,rfl,(k1.st X4.o hS.dead _ _).al,y3 _ (i.al ((k1 _ X4.o).2 _ _) _)⟩
 ·go_upto_region 3 with fail
  go_region_held3 (fun q=>In E q) (first|assumption|exact G.o)
   ((go_at_call 234;refine(bOQ hN hO hZ j5 j3 hv y6 _ y1 d _ (Nat.lt_succ_self _) ⟨k7.1,k7.2.2⟩ (i.fd _ T) (k2 _ T)).mono ?_;rintro e W2 ⟨r2,rfl,-,m⟩;have G:Hid (In E W2):=i.nx _ _ T m))
  obtain⟨s0,s1,_⟩:=y _ G.o;obtain⟨u1,u2,u3,u4,u5⟩:=k1.cells G.o;go_wp2;exact bodyPost_ret (v:=stA d g Z) (by simp[results,results178,go_sem,*]) rfl ⟨d,g,rfl,k1.st G.o (k2 _ G.o) _ _,y3 _ ((k1 _ G.o).2 _ _)⟩
end
section
variable {H U:Nat} {L C:List NQ} {A F:List Int} {ns Z g:Nat} {Y D M B:Value} {V:List V3} {K:Int->Prop}
section
variable {W:World} {i:Nat}
theorem bXM(a:Int):∀ (R:List (Int × Int)) (i:Nat) (r:Int × Int),R[i]?=some r->(rgC R).set (i*2) (Qc a)=rgC (R.set i (a,r.2))
 |[],i,r,h=>by simp at h
 |x::R,0,r,h=>by simp at h;subst h;rfl
 |x::R,i+1,r,h=>by
  rw[show(i+1)*2=i*2+1+1 by omega,List.set_cons_succ,rgC,rgC,List.set_cons_succ,List.set_cons_succ,bXM a R i r (by simpa using h)]
theorem bXN(a:Int):∀ (R:List (Int × Int)) (i:Nat) (r:Int × Int),R[i]?=some r->(rgC R).set (i*2+1) (Qc a)=rgC (R.set i (r.1,a))
 |[],i,r,h=>by simp at h
 |x::R,0,r,h=>by simp at h;subst h;rfl
 |x::R,i+1,r,h=>by
  rw[show(i+1)*2+1=i*2+1+1+1 by omega,List.set_cons_succ,rgC,rgC,List.set_cons_succ,List.set_cons_succ,bXN a R i r (by simpa using h)]
theorem StW.lo{d:Bool}(h:StW Z d g W)(hi:i < Z):StW Z d g (W.setCell ⟨g,i*2,none⟩ (Qc (-9223372036854775808))):=by
 obtain⟨R,e,f,b⟩:=h;obtain⟨r,c⟩:∃ r,R[i]?=some r:=⟨R[i]'Oa,List.getElem?_eq_getElem _⟩;refine⟨R.set i (-9223372036854775808,r.2),by simp[e],?_,fun a q k=>?_⟩
 ·have:=aM (o:=i*2) (Qc (-9223372036854775808)) f;rw[<-bXM _ R i r c];simpa using this
 ·rcases List.mem_or_eq_of_mem_set k with h|rfl
  ·exact b a q h
  ·have j:=b a r (Qr c);unfold Rk at j ⊢;dsimp only;omega
theorem StW.hi{d:Bool}(h:StW Z d g W)(hi:i < Z):StW Z d g (W.setCell ⟨g,i*2+1,none⟩ (Qc 9223372036854775807)):=by
 obtain⟨R,e,f,b⟩:=h;obtain⟨r,c⟩:∃ r,R[i]?=some r:=⟨R[i]'Oa,List.getElem?_eq_getElem _⟩;refine⟨R.set i (r.1,9223372036854775807),by simp[e],?_,fun a q k=>?_⟩
 ·have:=aM (o:=i*2+1) (Qc 9223372036854775807) f;rw[<-bXN _ R i r c];simpa using this
 ·rcases List.mem_or_eq_of_mem_set k with h|rfl
  ·exact b a q h
  ·have j:=b a r (Qr c);unfold Rk at j ⊢;dsimp only;omega
end
theorem bYV(hN:Nok C L A F Z ns K)(hO:bVB C L A F)(hZ:L.length<=100000)(e9:A.length<=100000)(f2:F.length<=100000)(hv:Z<=100000)(h0:ns<=1000000)(n:Nat)(hB:GoQ H U L A F ns Z Y D M B V K 113 3 n):bZZ H U L A F ns Z Y D M B V K n:=by
 intro b4 b1 c1 b2 c2 b3 c3 c b d g w k9 l0 f8 g3 g0 j3 hw hs;obtain⟨W1,y8⟩:∃ W1,W1=((w.alloc (stO d g Z)).alloc (ndO b4 b1 c1 b2 c2 b3 c3)).alloc noO:=⟨_,rfl⟩
 have kb:Below w.1.size w W1:=by
  rw[y8]
  repeat (first|exact Below.refl _ _|refine Below.alloc ?_ (by first|(simp;done)|(simp;omega)) _)
 have q4:W1.1[w.1.size]?=some (stO d g Z):=by
  rw[y8]
  repeat (first|rw[hal,if_neg (by simp only[hsz];omega)]|rw[hal,if_pos (by simp only[])])
 have q5:W1.1[w.1.size+1]?=some (bMB b4 b1 c1 b2 c2 b3 c3):=by
  rw[y8]
  repeat (first|rw[hal,if_neg (by simp only[hsz];omega)]|rw[hal,if_pos (by simp only[hsz])])
 have q6:W1.1[w.1.size+1+1]?=some noO:=by
  rw[y8]
  repeat (first|rw[hal,if_neg (by simp only[hsz];omega)]|rw[hal,if_pos (by simp only[hsz])])
 have HW:Hid (W1=_):=y8;obtain⟨N,i6,d5,_⟩:=bNN j3 (i:=0) (y:=c) (by rw[k9];rfl);simp only[Value.slice.injEq]at d5;obtain⟨rfl,-,rfl⟩:=d5;have m6:Hid _:=k9;clear y8 k9;go_enter func238,ntmps238
 go_upto_region 1 with fail
 rw[<-HW.o];have k9:=m6.o;obtain⟨E,hE⟩:∃ E,E=Kl H U L A F ns Y D M B V w [w.1.size+1+1] [(w.1.size,stO d g Z),(w.1.size+1,bMB b4 (some ⟨N,0,none⟩) c1 b2 c2 b3 c3)]:=⟨_,rfl⟩;have hC:Ck H U L A F ns Y D M B V (w.1.size+3) E:=by rw[hE];exact Kl.ck hw (by simp<;>omega) (by simp<;>omega) (by simp<;>omega) Oa
 have j4:Ow E (w.1.size+1+1):=by rw[hE];exact Kl.ow Od Oa (by simp<;>omega)
 have HE:Hid (In E W1):=by unfold Hid In;rw[hE];exact⟨(Bw.start hw).below kb,by simp[q6],by simp[q4,q5]⟩
 have g9:∀ W,In E W->bM4 H U L A F ns Y D M B V w W:=fun W h=>by unfold In at h;rw[hE]at h;exact⟨h.1.fd,h.1.fr⟩
 have m4:∀ W,In E W->StW Z d g W:=fun W h=>hs.fd hw (g9 W h).2
 have hc:∀ W,In E W->W.cell? ⟨w.1.size+1,5,none⟩=some (Qe N 2 c1)/\W.cell? ⟨N,0,none⟩=some (Qc c)/\W.cell? ⟨N,1,none⟩=some (Qc b):=fun W h=>by
  unfold In at h;rw[hE]at h;obtain⟨_,_,v1,x1⟩:=h.1.kid j3 (i:=0) (y:=c) (by rw[k9];rfl);obtain⟨_,_,v2,x2⟩:=h.1.kid j3 (i:=1) (y:=b) (by rw[k9];rfl);simp only[Value.slice.injEq,Option.some.injEq,Addr.mk.injEq]at v1 v2;obtain⟨⟨rfl,-⟩,-⟩:=v1;obtain⟨⟨rfl,-⟩,-⟩:=v2;have h5:=h.2.2 _ (.tail _ (.head _));exact⟨by rw[cell_of_row _ _ _ _ _ _ h5,<-show b4.c.length=2 by rw[k9];rfl];rfl,x1,x2⟩
 obtain⟨s0,s1,_⟩:=bKX q4;have d6:=m4 _ HE.o;clear hE hs hw q4 q5 q6 kb HW k9 m6 j3;go_upto_region 2 with(go_at_call 233;refine(bPY d g Z _ d6 hv).mono ?_;rintro e W4 ⟨a6,rfl,-,hS,z4⟩)
 obtain⟨R,k5⟩:∃ R,R=W4.alloc (stO d a6 Z):=⟨_,rfl⟩;have X5:Hid (In E R):=by rw[k5];exact hC.al (hC.be HE.o z4) _
 have q7:R.1[W4.1.size]?=some (stO d a6 Z):=by rw[k5];exact Qk _ _
 have m1:StW Z d a6 R:=by rw[k5];exact hS.al
 have g4:=hC.sz _ (hC.be HE.o z4);rw[<-k5];clear k5 hS s0 s1 z4 HE d6 m4;generalize W4.1.size=b7 at*;go_wp2;go_loopg [8] 5 (fun n v8 wr=>∃ (q:Nat) (a:Bool) (s:Nat),v8= Qc (q:Nat)/\q+n=6/\1<=q/\q<=5/\In E wr/\wr.1[b7]?=some (stO a s Z)/\StW Z a s wr)
 case atStart=>exact⟨1,d,a6,rfl,Od,Od,Od,X5.o,q7,m1⟩
 case round=>
  clear X5 q7 m1;obtain⟨q,a,s,rfl,l4,l2,l3,k3,q7,y7⟩:=hrel;obtain⟨s0,s1,_⟩:=bKX q7
  by_cases hp:q<=4
  ·have t0:decide ((q:Int)<=4)=true:=by simp;omega
   obtain⟨a3,rfl⟩:=Oj gk;obtain⟨u,k0⟩:∃ u,u=Ads Z (Ad E b7 (stO a s Z)) a s:=⟨_,rfl⟩;have f:Ck H U L A F ns Y D M B V (b7+1) u:=by rw[k0];exact(hC.ad g4).ads
   have f6:Ow u (w.1.size+1+1):=by rw[k0];exact(j4.ad Oa).ads
   have HX:Hid (In u wr):=by unfold Hid In;rw[k0];exact⟨⟨k3,q7⟩,y7⟩
   have y0:∀ W,In u W->In E W/\StW Z a s W/\W.1[b7]?=some (stO a s Z):=fun W h=>by unfold In at h;rw[k0]at h;exact⟨h.1.1,h.2,h.1.2⟩
   have j9:∀ W,In u W->(W.cell? ⟨b7,0,none⟩=some (.bool a)/\W.cell? ⟨b7,1,none⟩=some (Qe s Z Z))/\W.cell? ⟨w.1.size+1,5,none⟩=some (Qe N 2 c1)/\W.cell? ⟨N,0,none⟩=some (Qc c)/\W.cell? ⟨N,1,none⟩=some (Qc b):=fun W h=>⟨⟨(bKX (y0 W h).2.2).1,(bKX (y0 W h).2.2).2.1⟩,hc W (y0 W h).1⟩;have c6:∀ (X:World) (a9:Nat),Below X.1.size X (X.drewN a9):=fun X a9=>⟨rfl,rfl,rfl,Ql _,fun _ _=>rfl⟩;have c7:∀ (X:World) (a8 l:Nat) (a2 v:Value),a8≠l->X.1[a8]?=some noO->((X.setCell ⟨l,0,none⟩ a2).setCell ⟨l,1,none⟩ v).1[a8]?=some noO:=fun X a8 l a2 v hk a9=>((Om hk).t (Om hk)).t a9;have i5:Hid (In E wr):=k3;have HC:Hid _:=hc;clear k0 k3 q7 y7 s0 s1 hc;go_upto_region 5 with fail
   have z1:=f.sz _ HX.o;have z2:=Nat.le_succ_of_le z1;have F0:=f.dr HX.o;have z9:∀ W2,_->_:=fun W2=>f.one (o:=noO) (W2:=W2) HX.o;have m5:∀ W2,_->_:=fun W2=>f.two (W2:=W2) HX.o;go_cut [9,10]from 24 to 34 (fun v9 i1 w'=>∃ d1 g1 d2 g2,Two (b7+1) Z u d1 g1 d2 g2 v9 i1 w')
   case first=>
    go_region_held3 (fun w'=>In u w')
     (first
       |assumption
       |exact G.o
       |with_reducible exact f.far _ _ _ _ _ _ G.o z1 k.o
       |with_reducible exact f.far _ _ _ _ _ _ G.o z2 n2.o
       |with_reducible exact f.al (f.far _ _ _ _ _ _ G.o z1 k.o) _
       |with_reducible exact f.far _ _ _ _ _ _ (f.far _ _ _ _ _ _ G.o z1 k.o) z2 (c7 _ _ _ _ _ Oa n2.o)
       |with_reducible exact f.far _ _ _ _ _ _ (f.far _ _ _ _ _ _ G.o z2 n2.o) z1 (c7 _ _ _ _ _ Oa k.o)
       |(repeat (first|assumption|exact G.o|exact HX.o|refine f.dr ?_|refine f.al ?_ _)))
     ((go_at_call 236;refine(bVO hN hO hZ e9 f2 hv h0 _ c a s _ (Nat.lt_succ_self _) g3 (f.fd _ Qi) (y0 _ Qi).2.1).mono ?_;rintro e W2 ⟨i7,i9,i8,k1,rfl,k7,k6,hp⟩;have G:Hid (In u W2):=f.nx _ _ Qi hp;first|((with_reducible have nn:=z9 _ hp);obtain⟨p,z3⟩:=nn;have k:Hid _:=p;obtain⟨c8,c9,d3⟩:=bLG p;clear p)|(with_reducible have l6:=f.nx _ _ F0 hp)|((with_reducible have nn:=m5 _ hp);obtain⟨p,m0,z3⟩:=nn;have k:Hid _:=p;have n2:Hid _:=m0;obtain⟨c8,c9,d3⟩:=bLG p;obtain⟨n3,n4,n5⟩:=bLG m0;clear p m0)))
    all_goals go_wp2
    all_goals go_meet
    all_goals first
     |with_reducible exact⟨_,_,_,_,f.way1 G.o k7 k6⟩
     |with_reducible exact⟨_,_,_,_,f.way2 G.o k7 k6⟩
     |with_reducible exact⟨_,_,_,_,f.way3 G.o k7 k6 z1 k.o⟩
     |with_reducible exact⟨_,_,_,_,f.way4 G.o k7 k6 z1 k.o⟩
     |with_reducible exact⟨_,_,_,_,f.way5 G.o k7 k6 z1 z2 Oa k.o n2.o⟩
     |with_reducible exact⟨_,_,_,_,f.way5 G.o k7 k6 z2 z1 Oa n2.o k.o⟩
   case rest=>
    obtain⟨d1,g1,d2,g2,b9,I,rfl,rfl,⟨h9,j5⟩,q9,e2,P,k7,k6⟩:=hcut;obtain⟨t,z0⟩:∃ t,t=Twq Z u d1 g1 d2 g2 b9 I:=⟨_,rfl⟩;have z:Ck H U L A F ns Y D M B V (max b9 I+1) t:=by rw[z0];exact f.tw h9 j5
    have f4:Ow t (w.1.size+1+1):=by rw[z0];exact f6.tw Oa Oa
    have y6:Hid (In t wc):=by unfold Hid In;rw[z0];exact⟨P,q9,e2,k7,k6⟩
    have k2:∀ W,In t W->In u W/\W.1[I]?=some (stO d2 g2 Z)/\StW Z d1 g1 W/\StW Z d2 g2 W:=fun W h=>by unfold In at h;rw[z0]at h;exact⟨h.1,h.2.2⟩
    have f9:∀ W,In t W->(W.cell? ⟨b9,0,none⟩=some (.bool d1)/\W.cell? ⟨b9,1,none⟩=some (Qe g1 Z Z))/\W.cell? ⟨w.1.size+1,5,none⟩=some (Qe N 2 c1)/\W.cell? ⟨N,1,none⟩=some (Qc b):=fun W h=>by
     have h1:=j9 W (k2 W h).1;unfold In at h;rw[z0]at h;exact⟨⟨(bKX h.2.1).1,(bKX h.2.1).2.1⟩,h1.2.1,h1.2.2.2⟩
    clear z0 q9 e2 P k7 k6 z9 m5 F0 HX z1 z2;have c5:Hid _:=j9;clear j9;go_upto_region 6 with fail
    have F0:=z.dr y6.o;have z9:∀ W2,_->_:=fun W2=>z.one (o:=noO) (W2:=W2) y6.o;go_cut [11]from 34 to 41 (fun v8 w'=>∃ x S,One (max b9 I+1) t (stO x S Z) v8 w'/\StW Z x S w')
    case first=>
     go_region_held3 (fun w'=>In t w')
      (first
        |assumption
        |exact G.o
        |with_reducible exact z.far2 _ _ _ _ _ (z.far2 _ _ _ _ _ G.o y6.o Ol) y6.o Ol
        |(repeat (first|assumption|exact G.o|exact y6.o|refine z.dr ?_|refine z.al ?_ _)))
      ((go_at_call 113;refine(hB b d1 g1 _ f8 g0 (z.fd _ Qi) (k2 _ Qi).2.2.1).mono ?_;rintro e W2 ⟨x,S,rfl,hT,hp⟩;have G:Hid (In t W2):=z.nx _ _ Qi hp;first|(with_reducible have hq:=z.nx _ _ F0 hp)|((with_reducible have nn:=z9 _ hp);obtain⟨p,z3⟩:=nn;have k:Hid _:=p;obtain⟨c8,c9,d3⟩:=bLG p;clear p)))
     all_goals go_wp2
     all_goals go_meet
     all_goals first
      |with_reducible exact⟨_,_,z.wayA G.o,hT.al⟩
      |with_reducible exact⟨_,_,z.wayB y6.o G.o k.o,hT.set2 k.o _ _⟩
    case rest=>
     obtain⟨x,S,⟨a4,rfl,g7,a5,P⟩,d9⟩:=hcut;obtain⟨E3,z7⟩:∃ E3,E3=Ads Z (Ad t a4 (stO x S Z)) x S:=⟨_,rfl⟩;have z8:Ck H U L A F ns Y D M B V (a4+1) E3:=by rw[z7];exact(z.ad g7).ads
     have f5:Ow E3 (w.1.size+1+1):=by rw[z7];exact(f4.ad Oa).ads
     have d4:Hid (In E3 wc):=by unfold Hid In;rw[z7];exact⟨⟨P,a5⟩,d9⟩
     have j0:∀ W,In E3 W->In t W/\W.1[a4]?=some (stO x S Z)/\StW Z x S W:=fun W h=>by unfold In at h;rw[z7]at h;exact⟨h.1.1,h.1.2,h.2⟩
     obtain⟨⟨s0,s1⟩,_⟩:=c5.o wc (k2 _ P).1;have y7:=(y0 _ (k2 _ P).1).2.1;clear z7 a5 P d9 z9 F0 y6 f9;go_upto_region 8 with(go_at_call 233;refine(bPY a s Z _ y7 hv).mono ?_;rintro e W4 ⟨m,rfl,d7,hS,z4⟩)
     obtain⟨R,k5⟩:∃ R,R=W4.alloc (stO a m Z):=⟨_,rfl⟩;have X4:=z8.be d4.o z4;have g5:=z8.sz _ X4;obtain⟨j,y9⟩:∃ j,j=Ads Z (Ad E3 W4.1.size (stO a m Z)) a m:=⟨_,rfl⟩;have y3:Ck H U L A F ns Y D M B V (W4.1.size+1) j:=by rw[y9];exact(z8.ad g5).ads
     have g8:Ow j (w.1.size+1+1):=by rw[y9];exact(f5.ad Oa).ads
     have X5:Hid (In j R):=by unfold Hid In;rw[y9,k5];exact⟨⟨z8.al X4 _,Qk _ _⟩,hS.al⟩
     have y1:∀ W,In j W->In E3 W/\W.1[W4.1.size]?=some (stO a m Z)/\StW Z a m W:=fun W h=>by unfold In at h;rw[y9]at h;exact⟨h.1.1,h.1.2,h.2⟩
     have k4:∀ W a7 a2,In j W->StW Z a m (W.setCell ⟨m,a7,none⟩ a2)->In j (W.setCell ⟨m,a7,none⟩ a2):=fun W a7 a2 h hs=>by
      have g6:=(y1 W h).2.2.ne (y1 W h).2.1;have h3:=z8.far2 W wc m a7 a2 (y1 W h).1 d4.o d7;have h4:=(y1 W h).2.1;unfold In;rw[y9];exact⟨⟨h3,(Om (Ne.symm g6)).t h4⟩,hs⟩
     rw[<-k5];clear k5 hS s0 s1 z4 d7 X4 y9 y7 d4;generalize W4.1.size=Q at*;go_upto_region 9 with fail
     have T:∀ W,In j W->((W.cell? ⟨b7,0,none⟩=some (.bool a)/\W.cell? ⟨b7,1,none⟩=some (Qe s Z Z))/\(W.cell? ⟨a4,0,none⟩=some (.bool x)/\W.cell? ⟨a4,1,none⟩=some (Qe S Z Z))/\(W.cell? ⟨Q,0,none⟩=some (.bool a)/\W.cell? ⟨Q,1,none⟩=some (Qe m Z Z))/\W.cell? ⟨w.1.size+1,5,none⟩=some (Qe N 2 c1)/\W.cell? ⟨N,1,none⟩=some (Qc b))/\StW Z x S W/\StW Z a s W/\StW Z a m W:=fun W h=>by
      obtain⟨h3,e3,O⟩:=y1 W h;obtain⟨h2,a5,y5⟩:=j0 W h3;obtain⟨h7,h5,_,h6⟩:=c5.o W (k2 W h2).1;exact⟨⟨h7,⟨(bKX a5).1,(bKX a5).2.1⟩,⟨(bKX e3).1,(bKX e3).2.1⟩,h5,h6⟩,y5,(y0 W (k2 W h2).1).2.1,O⟩
     have m7:Hid (In j R):=X5;have l1:0<=(Z:Int)/\(Z:Int)<=100000:=Oa
     clear X5;go_wp2;go_loopg [13,14] (Z+1) (fun n b8 i2 wr=>∃ (ch:Bool) (v:Nat),b8= .bool ch/\i2= Qc (v:Nat)/\v+n=Z+1/\v<=Z/\In j wr)
     case atStart=>exact⟨false,0,rfl,rfl,Od,Od,m7.o⟩
     case round=>
      obtain⟨ch,v,rfl,rfl,l9,l7,k3⟩:=hrel;obtain⟨⟨⟨a0,a1⟩,⟨e0,e1⟩,⟨p,k⟩,l5,x1⟩,_⟩:=T _ k3;have J:Hid (In j wr):=k3;clear k3 m7
      by_cases y2:v < Z
      ·have t1:decide ((v:Int) < (Z:Int))=true:=by simp;omega
       obtain⟨m2,rfl⟩:∃ a3,gk=a3+1:=⟨gk - 1,Oa⟩;have f7:0<=(v:Int)/\(v:Int) < (Z:Int):=Oa
       have i0:IntKind.i64.wrap ((v:Int)+1)=(v:Int)+1:=IntWalk.i64_in _ Oa;have j8:=y3.fd _ J.o;go_upto_region 13 with(go_at_call 296;refine(bXF hN hZ (v:Int) _ b _ (Nat.lt_succ_self _) g0.1 j8).mono ?_;rintro e W6 ⟨bs,rfl,d0⟩;have S6:Hid (In j W6):=y3.be J.o d0;obtain⟨⟨⟨a0,a1⟩,⟨e0,e1⟩,⟨p,k⟩,l5,x1⟩,y5,z6,O⟩:=T _ S6.o)
       by_cases d8:x=false/\a=false/\bs=true
       ·obtain⟨rfl,rfl,rfl⟩:=d8;obtain⟨r3,e4,e5,_⟩:=y5.get y2;obtain⟨rh,e7,e8,_⟩:=z6.get y2;have HS:Hid (StW Z false m W6):=O;clear y5 z6 O;go_upto_region 14 with fail
        go_quiet (fail)
        have D6:In j (W6.drewN nq):=y3.be S6.o (c6 _ _);have HD:Hid (StW Z false m (W6.drewN nq)):=(T _ D6).2.2.2;obtain⟨rn,b5,b6,_⟩:=StW.get HS.o y2;have j7:=StW.frz HS.o;go_upto_if 79 with fail
        go_cut [13]from 67 to 85 (fun b8 w'=>∃ ch,b8= .bool ch/\In j w')
        case first=>
         go_wp2
         all_goals go_meet
         all_goals first
          |exact⟨true,rfl,k4 _ _ _ D6 (StW.lo HD.o y2)⟩
          |exact⟨ch,rfl,D6⟩
        case rest=>
         obtain⟨e6,rfl,P⟩:=hcut;have S7:Hid (In j wc):=P;obtain⟨⟨⟨a0,a1⟩,⟨e0,e1⟩,⟨p,k⟩,l5,x1⟩,y5,z6,O⟩:=T _ P;obtain⟨r3,e4,e5,_⟩:=y5.get y2;obtain⟨rh,e7,e8,_⟩:=z6.get y2;have HS:Hid (StW Z false m wc):=O;clear y5 z6 O P b5 b6 j7 D6 HD S6;go_upto_region 17 with fail
         go_quiet (fail)
         have D7:In j (wc.drewN nq):=y3.be S7.o (c6 _ _);have HD:Hid (StW Z false m (wc.drewN nq)):=(T _ D7).2.2.2;obtain⟨rn,b5,b6,_⟩:=StW.get HS.o y2;have j7:=StW.frz HS.o;go_wp2
         all_goals go_roundg m2
         all_goals try (case rel=>first
          |exact⟨true,v+1,rfl,Od,Oa,Oa,k4 _ _ _ D7 (StW.hi HD.o y2)⟩
          |exact⟨e6,v+1,rfl,Od,Oa,Oa,D7⟩)
         all_goals try (case measure=>omega)
       ·rcases x<;>rcases a<;>rcases bs<;>try (exact absurd ⟨rfl,rfl,rfl⟩ d8)
        all_goals go_wp2
        all_goals go_roundg m2
        all_goals try (case rel=>exact⟨ch,v+1,rfl,Od,Oa,Oa,S6.o⟩)
        all_goals try (case measure=>omega)
      ·have t1:decide ((v:Int) < (Z:Int))=false:=by simp;omega
       have h2:=(j0 _ (y1 _ J.o).1).1;obtain⟨s0,s1,_⟩:=bKX (k2 _ h2).2.1;have m8:Hid (StW Z d2 g2 wr):=(k2 _ h2).2.2.2;clear h2;have j6:∀ W,In j W->In E W:=fun W h=>(y0 W (k2 W (j0 W (y1 W h).1).1).1).1;cases ch
       case false=>
        obtain⟨u1,u2,u3,u4,u5⟩:=g8.cells J.o;go_wp2;exact bodyPost_ret (v:=stA d2 g2 Z) (by simp[results,results238,go_sem,*]) rfl ⟨d2,g2,rfl,g8.st J.o m8.o _ _,g9 _ (j6 _ ((g8 _ J.o).2 _ _))⟩
       case true=>
        clear s0 s1 m8;have n1:IntKind.i64.wrap ((q:Int)+1)=(q:Int)+1:=IntWalk.i64_in _ Oa;go_wp2;go_loopg [16] (Z+1) (fun n i3 i4=>∃ v:Nat,i3= Qc (v:Nat)/\v+n=Z+1/\v<=Z/\In j i4)
        case atStart=>exact⟨0,rfl,Od,Od,J.o⟩
        case round=>
         clear a0 a1 e0 e1 p k l5 x1 J;obtain⟨v3,rfl,n0,l8,k8⟩:=hrel;obtain⟨⟨⟨a0,a1⟩,⟨e0,e1⟩,⟨p,k⟩,l5,x1⟩,_,_,O⟩:=T _ k8;have y4:Hid _:=(y0 _ (k2 _ (j0 _ (y1 _ k8).1).1).1).2.2;have z5:Hid (In j wr):=k8;clear k8 O
         by_cases j1:v3 < Z
         ·have t3:decide ((v3:Int) < (Z:Int))=true:=by simp;omega
          by_cases h8:q=3
          ·have tp:((q:Int)==3)=true:=by simp;omega
           obtain⟨m3,rfl⟩:∃ a3,gk=a3+1:=⟨gk - 1,Oa⟩;have f7:0<=(v3:Int)/\(v3:Int) < (Z:Int):=Oa
           have i0:IntKind.i64.wrap ((v3:Int)+1)=(v3:Int)+1:=IntWalk.i64_in _ Oa;have j8:=y3.fd _ z5.o;clear h8;go_upto_region 26 with(go_at_call 296;refine(bXF hN hZ (v3:Int) _ b _ (Nat.lt_succ_self _) g0.1 j8).mono ?_;rintro e W6 ⟨bs,rfl,d0⟩;have S6:Hid (In j W6):=y3.be z5.o d0)
           obtain⟨⟨⟨a0,a1⟩,⟨e0,e1⟩,⟨p,k⟩,l5,x1⟩,_,_,O⟩:=T _ S6.o;clear O;cases bs
           case false=>
            go_wp2;go_roundg m3
            case rel=>exact⟨v3+1,Od,Oa,Oa,S6.o⟩
            case measure=>omega
           case true=>
            go_upto_region 27 with fail
            go_region_with (go_at_call 111;refine(bOH _).mono ?_;rintro e W8 ⟨rfl,f1⟩;have S8:Hid (In j W8):=y3.be (y3.dr S6.o) f1;obtain⟨⟨_,_,⟨p,k⟩,_⟩,_,_,j2⟩:=T _ S8.o;obtain⟨rn,b5,b6,_⟩:=j2.get j1;have j7:=j2.frz;have m9:Hid (StW Z a m W8):=j2;clear j2)
            all_goals go_wp2
            all_goals go_roundg m3
            all_goals try (case rel=>exact⟨v3+1,Od,Oa,Oa,k4 _ _ _ (k4 _ _ _ S8.o (StW.lo m9.o j1)) (StW.hi (StW.lo m9.o j1) j1)⟩)
            all_goals try (case measure=>omega)
          ·have tp:((q:Int)==3)=false:=by simp;omega
           obtain⟨_,_,qf⟩:=bKX y4.o;go_wp2;go_roundg a3
           case rel=>exact⟨q+1,a,m,Od,Oa,Oa,Oa,hC.far _ _ _ _ _ _ (j6 _ z5.o) g4 y4.o,bN8 y4.o,(T _ z5.o).2.2.2.set2 y4.o _ _⟩
           case measure=>omega
         ·have t3:decide ((v3:Int) < (Z:Int))=false:=by simp;omega
          obtain⟨_,_,qf⟩:=bKX y4.o;go_wp2;go_roundg a3
          case rel=>exact⟨q+1,a,m,Od,Oa,Oa,Oa,hC.far _ _ _ _ _ _ (j6 _ z5.o) g4 y4.o,bN8 y4.o,(T _ z5.o).2.2.2.set2 y4.o _ _⟩
          case measure=>omega
  ·have t0:decide ((q:Int)<=4)=false:=by simp;omega
   obtain⟨u1,u2,u3,u4,u5⟩:=j4.cells k3;have J:Hid (In E wr):=k3;clear k3 q7;go_wp2;exact bodyPost_ret (v:=stA a s Z) (by simp[results,results238,go_sem,*]) rfl ⟨a,s,rfl,j4.st J.o y7 _ _,g9 _ ((j4 _ J.o).2 _ _)⟩
end
section
variable {H U:Nat} {L C:List NQ} {A F:List Int} {ns Z g:Nat} {Y D M B:Value} {V:List V3} {K:Int->Prop}
theorem cAZ(a:Nok C L A F Z ns K)(j:bVB C L A F)(b:L.length<=100000)(f:A.length<=100000)(e:F.length<=100000)(k:Z<=100000)(c:ns<=1000000):∀ n,GoQ H U L A F ns Z Y D M B V K 113 3 n/\GoQ H U L A F ns Z Y D M B V K 178 2 n:=by
 intro n
 induction n with
 |zero=>exact⟨fun y d g w h=>absurd h (Nat.not_lt_zero _),fun y d g w h=>absurd h (Nat.not_lt_zero _)⟩
 |succ n ih=>exact⟨bXQ a b n ih.2,bYU a j b f e k c n ih.1 (bYV a j b f e k c n ih.1)⟩
end
end Go.Proofs.YtikffmloeifkpaaGreatDoor
