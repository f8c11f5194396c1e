/- Contracts. -/
import Derived.Test.YtikffmloeifkpaaGreatDoorR26
import Derived.Test.YtikffmloeifkpaaGreatDoorR21
import Derived.Test.YtikffmloeifkpaaGreatDoorR19
import Derived.Test.YtikffmloeifkpaaGreatDoorR15
set_option maxHeartbeats 16000000
set_option maxRecDepth 100000
namespace Go.Proofs.YtikffmloeifkpaaGreatDoor
open Go.RowKit Go.Lib Go.Deep Go.ChangeMaps Go.MapKept Tryz
section
structure Is where
 A:List Int
 F:List Int
 s:Ns
def wY(x:NQ):List NQ->Ns->Ns
 |[],s=>s
 |d::r,s=>wY x r (if d.s=x.s then s.e0 4 x.at_ else s)
def rP(k:Int)(x:NQ)(s1:Ns)(t:Is):Is:=
 if x.d=1 then {t with A:=t.A++[k],s:=if x.n < 1\/64 < x.n then(if 6<=t.A.length then s1.e0 5 x.at_ else s1).e0 5 x.mid else if 6<=t.A.length then s1.e0 5 x.at_ else s1}
 else {t with F:=t.F++[k],s:=if 8<=t.F.length then s1.e0 5 x.at_ else s1}
def pR:List Int->List NQ->List NQ->Is->Is
 |k::I,x::N,D,t=>pR I N (D++[x]) (rP k x (wY x D t.s) t)
 |_,_,_,t=>t
structure aWH(L:List NQ)(I:List Int)(N:List NQ):Prop where
 len:N.length=I.length
 at_:∀ (i:Nat) (x:Int),I[i]?=some x->∃ n,jM L x n/\N[i]?=some n
variable {T:List aU}
theorem Sq.two'{p:Int}(a:0<=p/\p<=5000):Sq (fun s=>(s.fail 4 p).fail 5 p) (fun s=>(s.e0 4 p).e0 5 p) [p]:=by
 grind[Ns.e0,sZ.e0,comp,sub,Sq.two,st,sK]
theorem aMM(d1 a:Prop)[Decidable d1][Decidable a]{p:Int}(d:0<=p/\p<=5000):Sq (fun s=>if a then(if d1 then s.fail 4 p else s).fail 5 p else if d1 then s.fail 4 p else s) (fun s=>if a then(if d1 then s.e0 4 p else s).e0 5 p else if d1 then s.e0 4 p else s) [p]:=by
 by_cases c:d1
 ·by_cases b:a
  ·grind[Sq.two']
  ·simp only[if_pos c,if_neg b];exact Sq.one Oa d
 ·by_cases b:a
  ·simp only[if_neg c,if_pos b];exact Sq.one Oa d
  ·simp only[if_neg c,if_neg b];exact Sq.id
def CK(g:Ns->Ns)(c:Int):Prop:=c<=1000000/\∀ s,okF s.a s.e->okF (g s).a (g s).e/\(g s).key=min s.key c
theorem CK.id:CK (fun s=>s) 1000000:=⟨Oa,fun s h=>⟨h,by have:s.key<=1000000:=uQ h;grind⟩⟩
theorem CK.e0{e p:Int}(a:0 < e/\e < 8)(b:0<=p/\p<=5000):CK (fun s=>s.e0 e p) (p*8+e):=⟨Oa,fun s h=>⟨(lA h a b).1,(lA h a b).2.1⟩⟩
theorem CK.comp{f g:Ns->Ns}{c d:Int}(h:CK f c)(k:CK g d):CK (fun s=>g (f s)) (min c d):=⟨Oi h.1,fun s b=>by
 obtain⟨a,e⟩:=h.2 s b;obtain⟨i,j⟩:=k.2 _ a;simp[*]⟩
theorem CK.ite{f g:Ns->Ns}(C:Prop)[Decidable C](h:∃ c,CK f c)(k:∃ c,CK g c):∃ c,CK (fun s=>if C then f s else g s) c:=by
 by_cases a:C
 ·simp[*]
 simp[*]
def gI(Y R:Nat)(D:List NQ)(x:NQ)(s:Ns):Ns:=
 let s1:=if(D.any fun d=>decide (d.s=x.s))=true then s.e0 4 x.at_ else s
 if x.d=1 then(if x.n < 1\/64 < x.n then(if 6<=Y then s1.e0 5 x.at_ else s1).e0 5 x.mid else if 6<=Y then s1.e0 5 x.at_ else s1)
 else if 8<=R then s1.e0 5 x.at_ else s1
theorem aK0(s:Ns)(e p:Int)(a:e≠0):(s.e0 e p).e0 e p=s.e0 e p:=by
 grind[Ns.e0]
theorem aLL(x:NQ):∀ (D:List NQ) (s:Ns),wY x D s=if(D.any fun d=>decide (d.s=x.s))=true then s.e0 4 x.at_ else s
 |[],s=>by rfl
 |d::r,s=>by
  unfold wY;rw[aLL x r]
  grind[aK0]
abbrev Zs:=List (NQ × Option (Ns->Ns))
def aRO:Zs->List NQ->Nat->Nat->Ns->Ns
 |[],_,_,_,s=>s
 |(x,_)::Z,D,Y,R,s=>aRO Z (D++[x]) (if x.d=1 then Y+1 else Y) (if x.d=1 then R else R+1) (gI Y R D x s)
def aRQ:Zs->Ns->Ns
 |[],s=>s
 |(_,some G)::Z,s=>aRQ Z (G s)
 |(_,none)::Z,s=>aRQ Z s
def aEC:Zs->List NQ->Nat->Nat->Ns->Ns
 |[],_,_,_,s=>s
 |(x,some G)::Z,D,Y,R,s=>aEC Z (D++[x]) (if x.d=1 then Y+1 else Y) (if x.d=1 then R else R+1) (G (gI Y R D x s))
 |(x,none)::Z,D,Y,R,s=>aEC Z (D++[x]) (if x.d=1 then Y+1 else Y) (if x.d=1 then R else R+1) (gI Y R D x s)
theorem aNB:∀ (N:List NQ) (I:List Int) (Z:Zs) (D:List NQ) (t:Is),N=Z.map (·.1)->I.length=N.length->(pR I N D t).s=aRO Z D t.A.length t.F.length t.s
 |[],[],[],_,_,_,_=>rfl
 |x::N,k::I,(y,o)::Z,D,t,h,hl=>by
  simp only[List.map_cons,List.cons.injEq]at h;obtain⟨rfl,h⟩:=h
  have e:(rP k x (wY x D t.s) t).s=gI t.A.length t.F.length D x t.s:=by
   grind[rP,gI,aLL]
  show(pR I N (D++[x]) (rP k x (wY x D t.s) t)).s=aRO Z (D++[x]) _ _ (gI t.A.length t.F.length D x t.s);rw[aNB N I Z (D++[x]) _ h Qg,e]
  grind[rP]
 |[],_::_,_,_,_,_,hl=>by simp at hl
 |_::_,[],_,_,_,_,hl=>by simp at hl
 |[],[],_::_,_,_,h,_=>by simp at h
 |_::_,_::_,[],_,_,h,_=>by simp at h
def zOk(z:NQ × Option (Ns->Ns)):Prop:=0<=z.1.at_/\z.1.at_<=5000/\(z.1.d=1->0<=z.1.mid/\z.1.mid<=5000)/\∀ G,z.2=some G->∃ c,CK G c
theorem aRN:∀ (Z:Zs) (D:List NQ) (Y R:Nat),(∀ z∈Z,zOk z)->∃ a b,CK (aRO Z D Y R) a/\CK (aRQ Z) b/\CK (aEC Z D Y R) (min a b)
 |[],_,_,_,_=>⟨_,_,CK.id,CK.id,by rw[Int.min_self];exact CK.id⟩
 |(x,o)::Z,D,Y,R,h=>by
  obtain⟨a,b,g,i,j⟩:=aRN Z (D++[x]) (if x.d=1 then Y+1 else Y) (if x.d=1 then R else R+1) Qg;obtain⟨w,y,m,n⟩:=h (x,o) Qs;dsimp only at w y m n
  have q:∃ c,CK (gI Y R D x) c:=by
   have w4:∃ c,CK (fun s=>s.e0 4 x.at_) c:=⟨_,CK.e0 Oa Oa⟩;have p:∃ c,CK (fun s=>s.e0 5 x.at_) c:=⟨_,CK.e0 Oa Oa⟩;have i0:∃ c,CK (fun s=>s) c:=⟨_,CK.id⟩;obtain⟨c1,l⟩:=CK.ite ((D.any fun d=>decide (d.s=x.s))=true) w4 i0;obtain⟨c2,t⟩:=CK.ite (6<=Y) p i0;obtain⟨c3,u⟩:=CK.ite (8<=R) p i0
   by_cases r:x.d=1
   ·obtain⟨c4,v⟩:=CK.ite (x.n < 1\/64 < x.n) ⟨x.mid*8+5,CK.e0 (e:=5) Oa (m r)⟩ i0;have e:gI Y R D x=fun s=>(fun s=>if x.n < 1\/64 < x.n then s.e0 5 x.mid else s) ((fun s=>if 6<=Y then s.e0 5 x.at_ else s) ((fun s=>if(D.any fun d=>decide (d.s=x.s))=true then s.e0 4 x.at_ else s) s)):=(by grind[gI]);rw[e];exact⟨_,(l.comp t).comp v⟩
   ·have e:gI Y R D x=fun s=>(fun s=>if 8<=R then s.e0 5 x.at_ else s) ((fun s=>if(D.any fun d=>decide (d.s=x.s))=true then s.e0 4 x.at_ else s) s):=(by grind[gI]);rw[e];exact⟨_,l.comp u⟩
  obtain⟨c,f⟩:=q;cases o with
  |none=>exact⟨min c a,b,f.comp g,i,by
    have:=f.comp j;rw[<-Int.min_assoc]at this;exact this⟩
  |some G=>
   obtain⟨d,k⟩:=n G rfl;refine⟨min c a,min d b,f.comp g,k.comp i,?_⟩;have:=(f.comp k).comp j;have e:min (min c d) (min a b)=min (min c a) (min d b):=Oa
   rw[e]at this;exact this
theorem aNC(x:ByteArray):∀ (A B:List Tr) (i:Nat),pT x (A++B) i=(pT x A i).or (pT x B ((i+A.length:Nat):Int))
 |[],B,i=>by rfl
 |e::A,B,i=>by
  have e1:((i:Nat):Int)+1=((i+1:Nat):Int):=Oa
  show(if cC e=x then some (i:Int)else pT x (A++B) ((i:Int)+1))=(if cC e=x then some (i:Int)else pT x A ((i:Int)+1)).or _
  split
  ·rfl
  ·rw[e1,aNC x A B (i+1)]
   grind
theorem aJ3(x:ByteArray):∀ (A:List Tr) (i:Nat),(pT x A i=none/\∀ e∈A,cC e≠x)\/∃ k:Nat,pT x A i=some (k:Int)/\k < i+A.length/\∃ e∈A,cC e=x
 |[],i=> .l ⟨rfl,Od⟩
 |e::A,i=>by
  have e1:((i:Nat):Int)+1=((i+1:Nat):Int):=Oa
  by_cases h:cC e=x
  ·exact .r ⟨i,if_pos h,Od,e,Od,h⟩
  ·have a:pT x (e::A) i=pT x A ((i+1:Nat):Int):=by rw[<-e1];exact if_neg h
   rw[a];rcases aJ3 x A (i+1)with⟨h1,h2⟩|⟨k,h1,h2,u,h3,h4⟩
   ·grind
   grind
def NIz(S:List (ByteArray × Int))(FQ:List (Nat × Nat)):Tr->Zs->Prop
 | .nil,Z=>Z=[]
 | .node _ _ _ e r,Z=>∃ x o Z',Z=(x,o)::Z'/\(∃ b o2 a l q,e= .node b o2 a l q/\x.at_=a.b/\x.s=a.h/\((a.a=16/\x.d=1/\x.n=a.g/\x.mid=a.e/\o=none)
  \/(a.a=17/\x.d=2/\∃ b3 o3 a3 p bd,q= .node b3 o3 a3 p bd/\NP (unl l) x.g/\o=some (fnQ x.g (aBU S FQ (unl p)) (mQ S FQ bd)))))/\NIz S FQ r Z'
theorem aB6.le:∀ {L:Tr} {i j:Nat},aB6 T L i j->i<=j
 | .nil,_,_,h=>h
 | .node _ _ _ _ _,_,_,⟨k,⟨_,_,_,_,_,_,h⟩,h2⟩=>by
  have:=aB6.le h2;rcases h with⟨_,d,e,h⟩|⟨_,_,_,_,_,_,d,e,g,_,f,_,a,b,c⟩
  ·omega
  ·have:=a.1;have:=b.le;have:=c.1;omega
theorem bA1{ps:List aU}{ws:List (Int × (Ns->Ns))}{g:Ns->Ns}{P:List Int}(h:sZ (fnQ ps ws g) P):CK (fnQ ps ws g) (fnQ ps ws g ⟨[],0,0,[]⟩).key:=⟨uQ (h.ok _ Oy),fun s a=>⟨h.ok s a,h.key s a⟩⟩
theorem aR0{F:dB}{its:List Tr}{S:List (ByteArray × Int)}{FQ:List (Nat × Nat)}(hN:aM7 F its S FQ)(k:Ups T)(E:List Tr)(hF:∀ x,dP x F=pT x E 0):
 ∀ (L:Tr) (Z:Zs) (D:List NQ) (g:List Tr) (Y R i0 w:Nat),Ws 18 L->aB6 T L i0 w->w<=T.length->NIz S FQ L Z->E=g++oJ L->D.map (·.s)=g.map cC->
  ∃ P,Sq (uT F its (hY L Y R) g.length) (aEC Z D Y R) P/\(∀ a6∈P,Bt T i0 w a6)/\∀ N∈Z,zOk N:=by
 intro L
 induction L with
 |nil=>
  intro Z D g Y R i0 w _ _ _ J _ _;have J:Z=[]:=J;subst J;exact⟨[],Sq.id,Od,Od⟩
 |node b o a0 e r _ ih=>
  intro Z D g Y R i0 w hw hs I J hE hD;obtain⟨a7,h3,h7⟩:=bY Ot hw;have h3:Ws 7 e:=h3;obtain⟨x,og,z,rfl,⟨b1,i,a,l,q,rfl,U,x2,hx⟩,h9⟩:=J;obtain⟨m,⟨_,_,_,_,_,he,hi⟩,A⟩:=hs;simp only[BT.node.injEq]at he;obtain⟨rfl,rfl,rfl,rfl,rfl⟩:=he;have O:m<=T.length:=Qm A.le I;have k0:E=(g++[(BT.node b1 i a l q:Tr)])++oJ r:=by rw[hE];simp[oJ]
  have k4:(D++[x]).map (·.s)=(g++[(BT.node b1 i a l q:Tr)]).map cC:=by simp[hD,x2,cC]
  have b2:(dP a.h F).getD 0=(g.length:Int)↔¬(D.any fun d=>decide (d.s=x.s))=true:=by
   have k7:pT a.h (g++oJ (.node b o a0 (.node b1 i a l q) r)) 0=(pT a.h g ((0:Nat):Int)).or (pT a.h (oJ (.node b o a0 (.node b1 i a l q) r)) ((0+g.length:Nat):Int)):=aNC a.h g _ 0;rw[hF,hE,k7]
   have a9:(D.any fun d=>decide (d.s=x.s))=true↔∃ u∈g,cC u=a.h:=by
    rw[List.any_eq_true];constructor
    ·rintro⟨d,hd,h⟩;have:d.s∈D.map (·.s):=Qg
     grind
    ·rintro⟨u,f,h⟩;have:cC u∈g.map cC:=Qg
     grind
   grind[pT,oJ,cC,aJ3]
  have b7:∀ (s:Rs) (a5:Int),s.r0 F {a with c:=a5} g.length=if(D.any fun d=>decide (d.s=x.s))=true then s.fail 4 a.b else s:=(by grind[Rs.r0])
  rcases hi with⟨k9,G,k2,Q,i2,i3,B,C⟩|⟨k8,x3,y3,z3,p3,q3,G,k2,k3,Q,i2,i3,B,C,i6⟩
  ·obtain⟨_,y1,y2,y3,rfl⟩:=hx.resolve_right (fun h=>by have:=h.1;omega);obtain⟨P,X,H,g9⟩:=ih z (D++[x]) (g++[(BT.node b1 i a l q:Tr)]) (Y+1) R m w h7 A I h9 k0 k4;have p:Bt T i0 m a.b:=⟨G,Q,Oa,B⟩;have a2:Bt T i0 m a.e:=⟨k2,Oa,i3,C⟩;have v:=p.bd k O;have h8:=a2.bd k O
   have b6:a.b < a.e:=by
    rw[B,C];exact k.up G k2 i2 Oa
   have V:=aMM ((D.any fun d=>decide (d.s=x.s))=true) (6<=Y) v
   have h6:Sq (fun s=>if a.g < 1\/64 < a.g then s.fail 5 a.e else s) (fun s=>if a.g < 1\/64 < a.g then s.e0 5 a.e else s) [a.e]:=by
    by_cases c:a.g < 1\/64 < a.g
    ·simp only[if_pos c];exact Sq.one Oa h8
    ·simp only[if_neg c];exact Sq.id
   have h0:=V.comp h6 Qg;have hg:hY (.node b o a0 (.node b1 i a l q) r) Y R= .node b o a0 (.node b1 i {a with c:=(Y:Int)} l q) (hY r (Y+1) R):=if_pos k9;have e1:uT F its (hY (.node b o a0 (.node b1 i a l q) r) Y R) g.length=fun s=>uT F its (hY r (Y+1) R) (g++[(BT.node b1 i a l q:Tr)]).length ((fun s=>if a.g < 1\/64 < a.g then s.fail 5 a.e else s) ((fun s=>if 6<=Y then(if(D.any fun d=>decide (d.s=x.s))=true then s.fail 4 a.b else s).fail 5 a.b else if(D.any fun d=>decide (d.s=x.s))=true then s.fail 4 a.b else s) s)):=(by grind[uT,hY,itR,Rs.arr,Rs.six,qF]);have W:aEC ((x,none)::z) D Y R=fun s=>aEC z (D++[x]) (Y+1) R ((fun s=>if a.g < 1\/64 < a.g then s.e0 5 a.e else s) ((fun s=>if 6<=Y then(if(D.any fun d=>decide (d.s=x.s))=true then s.e0 4 a.b else s).e0 5 a.b else if(D.any fun d=>decide (d.s=x.s))=true then s.e0 4 a.b else s) s)):=(by grind[aEC,gI]);rw[e1,W];refine⟨_,h0.comp X (fun u f M K=>?_),fun u f=>?_,fun N hz=>(List.mem_cons.1 hz).elim (fun e=>e ▸ ⟨U ▸ v.1,U ▸ v.2,fun _=>y3 ▸ h8,fun a4 e=>by cases e⟩) (g9 N)⟩
   ·have h4:Bt T i0 m u:=by
     grind
    exact h4.lt k (H M K) Oa I
   ·rcases List.mem_append.1 f with f|f
    ·rcases List.mem_append.1 f with f|f
     ·rw[List.mem_singleton.1 f];exact p.mono Oa A.le
     ·rw[List.mem_singleton.1 f];exact a2.mono Oa A.le
    ·exact(H u f).mono Oa Oa
  ·rcases hx with⟨h,_⟩|⟨_,y1,t,y,n,j,bd,rfl,y2,rfl⟩
   ·omega
   simp only[BT.node.injEq]at Q;obtain⟨rfl,rfl,rfl,rfl,rfl⟩:=Q;obtain⟨P,X,H,g9⟩:=ih z (D++[x]) (g++[(BT.node b1 i a l (.node t y n j bd):Tr)]) Y (R+1) m w h7 A I h9 k0 k4;obtain⟨hl,x4,y4,z4,p4,q4,e4,a8,k6,k5⟩:=oD h3 k8;simp only[BT.node.injEq]at e4;obtain⟨rfl,rfl,rfl,rfl,rfl⟩:=e4;have b5:=i6.1;have b4:=C.le;have b3:=B.1;have p:Bt T i0 (G+1) a.b:=⟨G,i2,Oa,i3⟩;have v:=p.bd k Oa;have V:=aMM ((D.any fun d=>decide (d.s=x.s))=true) (8<=R) v;have hB:=aZL (F:=F) (its:=its) hN k hl k6 k5 y2 B C i6 O
   have h5:∀ u∈ps l++wps (aD j)++ps bd,Bt T (G+1) m u:=fun u f=>by
    rcases List.mem_append.1 f with f|f
    ·rcases List.mem_append.1 f with f|f
     ·exact(B.bt u f).mono Oa Oa
     ·exact(aG8 _ _ _ C u f).mono Oa Oa
    ·exact(i6.bt u f).mono Oa Oa
   have h0:=V.comp hB (fun u f M K=>by rw[List.mem_singleton.1 f];exact p.lt k (h5 M K) Oa O);have a3: ¬a.a=16:=Oa
   have hg:hY (.node b o a0 (.node b1 i a l (.node t y n j bd)) r) Y R= .node b o a0 (.node b1 i {a with c:=(R:Int)} l (.node t y n j bd)) (hY r Y (R+1)):=if_neg a3
   have e1:uT F its (hY (.node b o a0 (.node b1 i a l (.node t y n j bd)) r) Y R) g.length=fun s=>uT F its (hY r Y (R+1)) (g++[(BT.node b1 i a l (.node t y n j bd):Tr)]).length (fnB F its l j bd ((fun s=>if 8<=R then(if(D.any fun d=>decide (d.s=x.s))=true then s.fail 4 a.b else s).fail 5 a.b else if(D.any fun d=>decide (d.s=x.s))=true then s.fail 4 a.b else s) s)):=funext fun s=>by
    rw[hg,List.length_append];show uT F its (hY r Y (R+1)) (g.length+1) (itR F its (.node b1 i {a with c:=(R:Int)} l (.node t y n j bd)) g.length s)=_;have e:itR F its (.node b1 i {a with c:=(R:Int)} l (.node t y n j bd)) g.length s=fnB F its l j bd ((s.r0 F {a with c:=(R:Int)} g.length).few {a with c:=(R:Int)}):=if_neg a3
    grind[Rs.few]
   have W:aEC ((x,some (fnQ x.g (aBU S FQ (unl j)) (mQ S FQ bd)))::z) D Y R=fun s=>aEC z (D++[x]) Y (R+1) (fnQ x.g (aBU S FQ (unl j)) (mQ S FQ bd) ((fun s=>if 8<=R then(if(D.any fun d=>decide (d.s=x.s))=true then s.e0 4 a.b else s).e0 5 a.b else if(D.any fun d=>decide (d.s=x.s))=true then s.e0 4 a.b else s) s)):=(by grind[aEC,fnQ,aBU,unl,mQ,gI]);rw[e1,W]
   refine⟨_,h0.comp X (fun u f M K=>?_),fun u f=>?_,fun N hz=>(List.mem_cons.1 hz).elim (fun e=>e ▸ ⟨U ▸ v.1,U ▸ v.2,Qh,fun a4 e=>by
    simp only[Option.some.injEq]at e;subst e;exact⟨_,bA1 hB.lin⟩⟩) (g9 N)⟩
   ·have h4:Bt T i0 m u:=by
     rcases List.mem_append.1 f with f|f
     ·rw[List.mem_singleton.1 f];exact p.mono Oa Oa
     ·exact(h5 u f).mono Oa Oa
    exact h4.lt k (H M K) Oa I
   ·have:=A.le;rcases List.mem_append.1 f with f|f
    ·rcases List.mem_append.1 f with f|f
     ·rw[List.mem_singleton.1 f];exact p.mono Oa Oa
     ·exact(h5 u f).mono Oa Oa
    ·exact(H u f).mono Oa Oa
theorem aL0(p:fX T)(f:eD T)(q:Ups T)(t:0 < T.length)(x:(aK T).1.a=0){Z:Zs}(M:NIz (qO (aD (aK T).2)) (fqL (aK T).2) (aD (aK T).2) Z){n:Int}(y:n=(aE T (T.length - 1)).e){c:Ns}(J:c=aRQ Z (aRO Z [] 0 0 ⟨[],0,0,[]⟩)):
 ((fZ (aK T).2 n).a=0/\(if dA gJ 2 (qO (aD (aK T).2)) 0 < 0 then c.e0 4 n else c).a=0)\/((fZ (aK T).2 n).a≠0/\(fZ (aK T).2 n).a=(if dA gJ 2 (qO (aD (aK T).2)) 0 < 0 then c.e0 4 n else c).a/\(fZ (aK T).2 n).e=(if dA gJ 2 (qO (aD (aK T).2)) 0 < 0 then c.e0 4 n else c).e):=by
 have B:=(rI p f t x).1;have w:=aWY B;have K:(aK T).1.b < T.length:=(yD p f (gU f (eC T) 6) (eC T) (eC T) rd0 t).lt
 obtain⟨W,E,F,G⟩:=aR0 w q (oJ (aD (aK T).2)) (fun V=>by
  unfold cL;rw[aIV];rfl) (aD (aK T).2) Z [] [] 0 0 0 _ (B.elems Ot) (aKU p f t x) (Nat.le_of_lt K) M rfl rfl
 have m:0<=n/\n<=5000:=by rw[y];exact q.lo _ Oa
 have O:Sq (fun s=>if(eG (cL (aK T).2) (eH (aK T).2) gJ).isSome=true then s else s.fail 4 n) (fun s=>if dA gJ 2 (qO (aD (aK T).2)) 0 < 0 then s.e0 4 n else s) [n]:=by
  rcases w.fn gJ with⟨j,k⟩|⟨b,o,a,l,r,j,k,_⟩
  ·simp only[j,if_pos k];exact Sq.one Oa m
  ·simp only[j,if_neg (Int.not_lt.2 k)];exact Sq.id
 have H:=E.comp O (fun S I a2 P=>by
  rw[List.mem_singleton.1 P,y];obtain⟨R,X,Y,rfl⟩:=F S I;exact q.up R _ Oa Oa)
 have Q:=H.run rs0 ⟨[],0,0,[]⟩ rfl ⟨fun V=>by simp[rs0,dP],rfl⟩;obtain⟨a,b,c1,c2,c3⟩:=aRN Z [] 0 0 G;have o0:okF (0:Int) (0:Int):= .l rfl;have e1:=c3.2 ⟨[],0,0,[]⟩ o0;have d:=(c1.comp c2).2 ⟨[],0,0,[]⟩ o0;dsimp only at d;rw[<-J]at d
 have N:∀ u v:Ns,okF u.a u.e->okF v.a v.e->u.key=v.key->((if dA gJ 2 (qO (aD (aK T).2)) 0 < 0 then u.e0 4 n else u).a=0/\(if dA gJ 2 (qO (aD (aK T).2)) 0 < 0 then v.e0 4 n else v).a=0)\/((if dA gJ 2 (qO (aD (aK T).2)) 0 < 0 then u.e0 4 n else u).a≠0/\(if dA gJ 2 (qO (aD (aK T).2)) 0 < 0 then u.e0 4 n else u).a=(if dA gJ 2 (qO (aD (aK T).2)) 0 < 0 then v.e0 4 n else v).a/\(if dA gJ 2 (qO (aD (aK T).2)) 0 < 0 then u.e0 4 n else u).e=(if dA gJ 2 (qO (aD (aK T).2)) 0 < 0 then v.e0 4 n else v).e):=fun u v z A e=>by
  split
  ·have C:=lA (e:=4) z Oa m;have D:=lA (e:=4) A Oa m;exact aC8 C.1 D.1 (by show(u.e0 4 n).key=(v.e0 4 n).key;rw[C.2.1,D.2.1,e])
  ·exact aC8 z A e
 have h0:=N _ _ e1.1 d.1 (by rw[e1.2,d.2]);have L:fZ (aK T).2 n=if(eG (cL (aK T).2) (eH (aK T).2) gJ).isSome=true then uT (cL (aK T).2) (eH (aK T).2) (hY (aD (aK T).2) 0 0) 0 rs0 else(uT (cL (aK T).2) (eH (aK T).2) (hY (aD (aK T).2) 0 0) 0 rs0).fail 4 n:=rfl
 rw[L];rcases Q with⟨g,h,_⟩|⟨g,h,U⟩
 ·rcases h0 with⟨_,i⟩|⟨f1,_⟩
  ·exact .l ⟨g,i⟩
  ·exact absurd h f1
 ·rcases h0 with⟨f1,_⟩|⟨_,i,f3⟩
  ·exact absurd (h.t f1) g
  ·exact .r ⟨g,h.t i,U.t f3⟩
end
section
variable {L:List NQ} {S:List (ByteArray × Int)} {FQ:List (Nat × Nat)}
def cnt(kd:Int):List (ByteArray × Int)->Nat
 |[]=>0
 |(_,k)::r=>(if k=kd then 1 else 0)+cnt kd r
theorem aGU(x:ByteArray)(b:Int):∀ (l:List (ByteArray × Int)) (n:Int),0<=n->dA x b l n < n+cnt b l\/dA x b l n= -1
 |[],n,_=> .r rfl
 |(y,k)::r,n,h=>by
  unfold dA cnt
  by_cases e:y=x
  ·rw[if_pos e]
   by_cases a:k=b
   ·rw[if_pos a,if_pos a];exact .l Oa
   ·rw[if_neg a];exact .r rfl
  ·rw[if_neg e]
   by_cases a:k=b
   ·rw[if_pos a,if_pos a];rcases aGU x b r (n+1) (by omega)with h|h
    ·exact .l Oa
    ·exact .r h
   ·rw[if_neg a,if_neg a];rcases aGU x b r n h with h|h
    ·exact .l Oa
    ·exact .r h
def vK:List Int->List NQ->List Int
 |k::I,x::N=>if x.d=1 then k::vK I N else vK I N
 |_,_=>[]
def wI:List Int->List NQ->List Int
 |k::I,x::N=>if x.d=1 then wI I N else k::wI I N
 |_,_=>[]
theorem aNA:∀ (I:List Int) (N D:List NQ) (t:Is),(pR I N D t).A=t.A++vK I N/\(pR I N D t).F=t.F++wI I N
 |[],_,_,t=>by simp[pR,vK,wI]
 |_::_,[],_,t=>by simp[pR,vK,wI]
 |k::I,x::N,D,t=>by
  have h:=aNA I N (D++[x]) (rP k x (wY x D t.s) t);have e:pR (k::I) (x::N) D t=pR I N (D++[x]) (rP k x (wY x D t.s) t):=rfl;have a:vK (k::I) (x::N)=if x.d=1 then k::vK I N else vK I N:=rfl
  have b:wI (k::I) (x::N)=if x.d=1 then wI I N else k::wI I N:=rfl
  rw[e,h.1,h.2,a,b];unfold rP
  by_cases c:x.d=1
  ·simp[c]
  ·simp[c]
def fqS:Tr->List (Nat × Nat)
 | .nil=>[]
 | .node _ _ _ e r=>if cB e=17 then fq e::fqS r else fqS r
theorem aVZ(e:Tr)(n:Int):fq (jC e n)=fq e:=by cases e<;>rfl
theorem aYL:∀ (L:Tr) (Y R:Nat),(aT7 (oJ (hY L Y R))).map fq=fqS L:=by
 intro L
 induction L with
 |nil=>intro _ _;rfl
 |node b o a e r _ ih=>
  intro Y R
  by_cases c:cB e=16
  ·have h0:hY (.node b o a e r) Y R= .node b o a (jC e Y) (hY r (Y+1) R):=if_pos c;have d: ¬cB e=17:=Oa
   rw[h0];show((jC e (Y:Int)::oJ (hY r (Y+1) R)).filter _).map fq=if cB e=17 then _ else _
   rw[List.filter_cons_of_neg (by rw[iN];simpa using d),if_neg d];exact ih _ _
  ·have h0:hY (.node b o a e r) Y R= .node b o a (jC e R) (hY r Y (R+1)):=if_neg c;rw[h0];show((jC e (R:Int)::oJ (hY r Y (R+1))).filter _).map fq=if cB e=17 then _ else _
   by_cases d:cB e=17
   ·rw[List.filter_cons_of_pos (by rw[iN];simpa using d),if_pos d,List.map_cons,aVZ];exact congrArg _ (ih _ _)
   ·rw[List.filter_cons_of_neg (by rw[iN];simpa using d),if_neg d];exact ih _ _
def FnP(L:List NQ)(S:List (ByteArray × Int))(FQ:List (Nat × Nat))(lo k:Int)(G:Ns->Ns):Prop:=
 ∃ P ws bd mid y,jM L k P/\lo<=mid/\NW L ws P.e lo mid/\P.c=[y]/\NBx mid L bd y/\y < k/\G=fnQ P.g (aBU S FQ ws) (mQ S FQ bd)/\Ws 15 ws/\Ws 4 bd/\P.g.length<=90000/\P.e.length<=100000
def aHF(L:List NQ)(S:List (ByteArray × Int))(FQ:List (Nat × Nat)):List Int->List (Ns->Ns)->Int->Prop
 |[],[],_=>True
 |k::F,G::Gs,lo=>(∃ lo2,lo<=lo2/\FnP L S FQ lo2 k G)/\aHF L S FQ F Gs (k+1)
 |_,_,_=>False
theorem aHF.mono:∀ {F:List Int} {a:List (Ns->Ns)} {lo b:Int},aHF L S FQ F a lo->b<=lo->aHF L S FQ F a b
 |[],[],_,_,_,_=>trivial
 |_::_,_::_,_,_,⟨⟨l2,h1,h2⟩,h3⟩,h4=>⟨⟨l2,Int.le_trans h4 h1,h2⟩,h3⟩
theorem NP.len:∀ {t:Tr} {a:List aU},NP t a->a.length=bG t
 | .nil,a,h=>by
  have h:a=[]:=h;subst h;rfl
 | .node _ _ _ l r,a,⟨p,ys,e,_,h⟩=>by
  subst e;simp only[List.length_cons,bG];rw[NP.len h]
theorem NW.len:∀ {t:Tr} {a:List Int} {lo hi:Int},NW L t a lo hi->a.length=bG t
 | .nil,a,_,_,h=>by
  rw[h.1];rfl
 | .node _ _ _ l r,a,_,_,⟨x,ys,n,m,e,_,_,_,h⟩=>by
  subst e;simp only[List.length_cons,bG];rw[NW.len h]
theorem aN8{s:Nat}(c:s=3\/s=4\/s=5\/s=6\/s=8){t:Tr}(h:Ws s t):bG (unl t)<=10000/\aJ t=bG (unl t):=by
 rcases h.lst c with rfl|⟨b,o,a,l,rfl,h0,_⟩
 ·exact⟨Qn _,rfl⟩
 ·exact⟨Ws.len h h0,rfl⟩
theorem aVJ:∀ (t:Tr) (f:List Int) (lo hi:Int),Ws 18 t->NIs L t f lo hi->∃ Z:Zs,NIz S FQ t Z/\aWH L f (Z.map (·.1))/\aBX L f (qO t)/\aHF L S FQ (wI f (Z.map (·.1))) (Z.filterMap (·.2)) lo
 /\(wI f (Z.map (·.1))).length=cnt 2 (qO t)/\(vK f (Z.map (·.1))).length=cnt 1 (qO t)/\aAN L (wI f (Z.map (·.1))) (fqS t):=by
 intro t
 induction t with
 |nil=>
  rintro f lo hi _ ⟨rfl,h⟩;exact⟨[],rfl,⟨rfl,fun i x h=>by simp at h⟩,⟨rfl,fun i x h=>by simp at h⟩,trivial,rfl,rfl,⟨rfl,fun i x h=>by simp[wI]at h⟩⟩
 |node b o a e r _ ih=>
  rintro f lo hi hw ⟨x,F,rfl,hx,hr⟩;obtain⟨_,h0,h9⟩:=bY Ot hw;have h0:Ws 7 e:=h0;obtain⟨Z,H,I,J,M,N,O,z⟩:=ih F (x+1) hi h9 hr;obtain⟨n,b1,d,a1,l,q,rfl,p,R,B,k3,hk⟩:=hx
  have P:∀ u:Zs,u=Z->∀ U,aWH L (x::F) (((n,U)::u).map (·.1)):=fun u e U=>⟨by subst e;simp[I.len],fun i y j=>by
   subst e;cases i with
   |zero=>simp only[List.getElem?_cons_zero,Option.some.injEq]at j;subst j;exact⟨n,p,rfl⟩
   |succ i=>
    obtain⟨m,c,g⟩:=I.at_ i y (by simpa using j);exact⟨m,c,by simpa using g⟩⟩
  have Q:∀ C:Int,n.d=C->(if cB (.node b1 d a1 l q:Tr)=16 then(1:Int)else 2)=C->aBX L (x::F) (qO (.node b o a (.node b1 d a1 l q) r)):=fun C e1 X=>⟨by simp[qO,J.len],fun i y j=>by
   cases i with
   |zero=>
    simp only[List.getElem?_cons_zero,Option.some.injEq]at j;subst j;refine⟨n,p,?_⟩;show some (cC (.node b1 d a1 l q),if cB (.node b1 d a1 l q:Tr)=16 then(1:Int)else 2)=_;rw[X,e1,B];rfl
   |succ i=>
    obtain⟨m,c,g⟩:=J.at_ i y (by simpa using j);exact⟨m,c,by simpa[qO]using g⟩⟩
  rcases hk with⟨V,c,g,k,_⟩|⟨E,c,g,w,D,v,ws,bd,rfl,m,k,y,g4,g5,g6⟩
  ·have c1:(if cB (.node b1 d a1 l q:Tr)=16 then(1:Int)else 2)=1:=if_pos V;have a3: ¬cB (.node b1 d a1 l q:Tr)=17:=by show ¬a1.a=17;omega
   refine⟨(n,none)::Z,⟨n,none,Z,rfl,⟨_,_,_,_,_,rfl,R,B,.l ⟨V,c,g,k,rfl⟩⟩,H⟩,P Z rfl none,Q 1 c c1,?_,?_,?_,?_⟩
   ·show aHF L S FQ (if n.d=1 then _ else _) _ _;rw[if_pos c];exact M.mono Oa
   ·show(if n.d=1 then _ else _:List Int).length=(if(if _ then(1:Int)else 2)=2 then 1 else 0)+_;rw[if_pos c,c1,N];simp
   ·show(if n.d=1 then _ else _:List Int).length=(if(if _ then(1:Int)else 2)=1 then 1 else 0)+_;rw[if_pos c,c1,List.length_cons,O];simp;omega
   ·show aAN L (if n.d=1 then _ else _) (if _ then _ else _);rw[if_pos c,if_neg a3];exact z
  ·have a2: ¬cB (.node b1 d a1 l (.node w D v ws bd):Tr)=16:=by show ¬a1.a=16;omega
   have c1:(if cB (.node b1 d a1 l (.node w D v ws bd):Tr)=16 then(1:Int)else 2)=2:=if_neg a2;have W:cB (.node b1 d a1 l (.node w D v ws bd):Tr)=17:=E;have s: ¬n.d=1:=Oa
   obtain⟨hl,x4,y4,z4,p4,q4,G,a5,K,k0⟩:=oD h0 E;simp only[BT.node.injEq]at G;obtain⟨rfl,rfl,rfl,rfl,rfl⟩:=G;have l6:=aN8 Ou hl;have l5:=aN8 Ov K;have Y:=g.len;have ew:=k.len;have hm:=k.le;refine⟨(n,some (fnQ n.g (aBU S FQ (unl ws)) (mQ S FQ bd)))::Z,⟨n,_,Z,rfl,⟨_,_,_,_,_,rfl,R,B,.r ⟨E,c,_,_,_,_,_,rfl,g,rfl⟩⟩,H⟩,P Z rfl _,Q 2 c c1,?_,?_,?_,?_⟩
   ·show aHF L S FQ (if n.d=1 then _ else _) _ _;rw[if_neg s];exact⟨⟨lo,Int.le_refl _,n,unl ws,bd,m,y,p,hm,k,g4,g5,g6,rfl,by rw[aER];exact K.elems Ov,k0,Oa,Oa⟩,M⟩
   ·show(if n.d=1 then _ else _:List Int).length=(if(if _ then(1:Int)else 2)=2 then 1 else 0)+_;rw[if_neg s,c1,List.length_cons,N];simp;omega
   ·show(if n.d=1 then _ else _:List Int).length=(if(if _ then(1:Int)else 2)=1 then 1 else 0)+_;rw[if_neg s,c1,O];simp
   ·show aAN L (if n.d=1 then _ else _) (if _ then _ else _);rw[if_neg s,if_pos W];refine⟨by simp[z.len],fun i a4 A=>?_⟩;cases i with
    |zero=>
     simp only[List.getElem?_cons_zero,Option.some.injEq]at A;subst A;refine⟨n,p,?_⟩;show some (aJ l,aJ ws)=some (n.g.length,n.e.length);rw[l6.2,l5.2,Y,ew]
    |succ i=>
     obtain⟨m',q1,q2⟩:=z.at_ i a4 (by simpa using A);exact⟨m',q1,by simpa using q2⟩
end
section
variable {H X U:Nat} {L:List NQ} {I A F:List Int} {m:Int} {s:Ns} {Y vI D M B R:Value} {V:List V3} {w w0 w1 w2:World} {g J:Nat}
structure aNQ(z:Nat)(D M:Value):Prop where
 a:∀ k,D.ownBlock=some k->z<=k
 f:∀ k,M.ownBlock=some k->z<=k
 d:∀ k,D.ownBlock=some k->M.ownBlock≠some k
theorem gZ.grewAF(c:Bool)(h:gZ H X U L I A F m s Y vI D M B R V w)(a:Nx X U Y B R B R w0 w)(hi:∀ k,vI.ownBlock=some k->k < w0.1.size)(hu:∀ k,uC V k->k < w0.1.size)(j:aNQ w0.1.size D M){x:Int}(K:w1.os=w.os/\w1.tape=w.tape/\w1.output=w.output/\w.1.size<=w1.1.size)(hb:∀ k,k < w.1.size->w1.1[k]?=w.1[k]?)(b3:w2.ownsRow H 3 1 (Qe g ((cond c A F).length+1) J) ((cond c A F).length+1) (fQ (cond c A F)++[Qc x]))(i:w1.grownBy w2 (cond c D M).ownBlock)(k4:(cond c D M).ownBlock=some g\/g=w1.1.size):
 gZ H X U L I (cond c (A++[x]) A) (cond c F (F++[x])) m s Y vI (cond c (Qe g (A.length+1) J) D) (cond c M (Qe g (F.length+1) J)) B R V (w2.setCell ⟨U,cond c 2 3,none⟩ (Qe g ((cond c A F).length+1) J))
  /\Nx X U Y B R B R w0 (w2.setCell ⟨U,cond c 2 3,none⟩ (Qe g ((cond c A F).length+1) J))/\aNQ w0.1.size (cond c (Qe g (A.length+1) J) D) (cond c M (Qe g (F.length+1) J)):=by
 have cP:=a.size;have a9:=i.size;have a2:=h.size;have a4:U < w.1.size:=(Oo h.prog);generalize f:cond c D M=b at*
 have q:∃ l:List Int,w.ownsRow H 3 1 b l.length (fQ l):=by
  cases c
  ·exact⟨F,f ▸ h.fns⟩
  ·exact⟨A,f ▸ h.arrs⟩
 obtain⟨l,q⟩:=q
 have k5:∀ k,b.ownBlock=some k->w0.1.size<=k:=by
  cases c
  ·exact f ▸ j.f
  ·exact f ▸ j.a
 have old:∀ k,k < w.1.size->b.ownBlock≠some k->k≠U->∀ o u,(w2.setCell ⟨U,o,none⟩ u).1[k]?=w.1[k]?:=fun k t G d o u=>(Om d).t ((i.block k Oa Qg).t Qh);have a6:b.ownBlock≠some U:=cV q h.prog Ob
 have a5:g≠U:=by
  grind
 have a3:w0.1.size<=g:=by
  grind
 have p:∀ {n y:Nat} {e:TypeId} {z:Value} {C:List Value},w.ownsRow H e y z n C->(∀ k,z.ownBlock=some k->b.ownBlock≠some k)->e≠76->∀ o u,(w2.setCell ⟨U,o,none⟩ u).ownsRow H e y z n C:=fun v E d o u=>aR v (fun O N=>by
  obtain⟨⟨c,r⟩,_⟩:=aW v N;exact old O Qg Qh (bR r h.prog d) o u)
 have P:∀ {n y:Nat} {e:TypeId} {z:Value} {C:List Value},w.ownsRow H e y z n C->e≠3->∀ k,z.ownBlock=some k->b.ownBlock≠some k:=fun v E k t=>by
  obtain⟨⟨c,r⟩,_⟩:=aW v t
  grind[cV]
 have G:∀ k,(cond c M D).ownBlock=some k->b.ownBlock≠some k:=by
  cases c
  ·exact fun k e=>f ▸ j.d k e
  ·exact fun k e=>f ▸ fun Q=>j.d k Q e
 have b2:∀ l:List Int,l=cond c A F->(w2.setCell ⟨U,cond c 2 3,none⟩ (Qe g ((cond c A F).length+1) J)).ownsRow H 3 1 (Qe g (l.length+1) J) (l++[x]).length (fQ (l++[x])):=(by grind[fQ,Value.ownBlock,List.length_append,aR,Below.heap_setCell])
 have a8:∀ k,(cond c M D).ownBlock=some k->g≠k:=fun k e Q=>by
  rcases k4 with e3|e3
  ·grind
  ·have:k < w.1.size:=by
    cases c
    ·exact fC h.arrs e
    ·exact fC h.fns e
   omega
 have a7:∀ (n:Nat) k,(Qe g n J).ownBlock=some k->g=k:=(by grind[Value.ownBlock]);have k2:=(old X (Oo h.nm) (cV q h.nm Ob) (bR h.nm h.prog Ob) (cond c 2 3) (Qe g ((cond c A F).length+1) J)).t h.nm;have k0:=aI (o:=cond c 2 3) (Qe g ((cond c A F).length+1) J) (((i.block U Oa Qg).t Qh).t h.prog)
 have k3:kZ H (w2.setCell ⟨U,cond c 2 3,none⟩ (Qe g ((cond c A F).length+1) J)) L V:=h.c.move (fun O N=>by
  refine old O Qg Qg ?_ _ _;rintro rfl;obtain⟨⟨c,r⟩,_⟩:=h.c.typ N;rw[h.prog]at r
  grind)
 have W:=p h.its Qg Ob (cond c 2 3) (Qe g ((cond c A F).length+1) J);have h0:H<=(w2.setCell ⟨U,cond c 2 3,none⟩ (Qe g ((cond c A F).length+1) J)).1.size:=by grind[World.setCell]
 have Z:Nx X U Y B R B R w0 (w2.setCell ⟨U,cond c 2 3,none⟩ (Qe g ((cond c A F).length+1) J)):=⟨i.os.t (K.1.t a.os),i.tape.t (K.2.1.t a.tape),i.output.t (K.2.2.1.t a.output),by grind[World.setCell],fun k t E d h3 h4 h5=>(old k Oa (fun e=>by have:=k5 k e;omega) d _ _).t (a.keep k t E d h3 h4 h5),a.rs,a.rv⟩;have n1:=p h.nodes (P h.nodes Ob) Ob (cond c 2 3) (Qe g ((cond c A F).length+1) J);have n2:=p h.d (P h.d Ob) Ob (cond c 2 3) (Qe g ((cond c A F).length+1) J);have n3:=p h.b (P h.b Ob) Ob (cond c 2 3) (Qe g ((cond c A F).length+1) J);cases c
 ·exact⟨⟨k2,k0,n1,W,p h.arrs G Ob _ _,Qg,n2,n3,k3,h0⟩,Z,⟨j.a,Qg,Qg⟩⟩
 ·exact⟨⟨k2,k0,n1,W,Qg,p h.fns G Ob _ _,n2,n3,k3,h0⟩,Z,⟨Qg,j.f,Qg⟩⟩
abbrev ndB(b:NQ)(a1:Option Addr)(k1:Nat)(a2:Option Addr)(k2:Nat)(a3:Option Addr)(k3:Nat):Obj:= Qf #[Qc b.d,Qc b.at_,.string b.s,Qc b.n,Qc b.mid,.slice a1 b.c.length k1,.slice a2 b.g.length k2,.slice a3 b.e.length k3,Qc b.b,Qc b.ref,Qc b.f] 73
theorem gZ.itm(h:gZ H X U L I A F m s Y (Qe g I.length J) D M B R V w){i:Nat}{y:Int}(a:I[i]?=some y):w.cell? ⟨g,i,none⟩=some (Qc y):=by
 obtain⟨c,b,e,d⟩:=dQ h.its a
 grind
theorem gZ.ndc(h:gZ H X U L I A F m s (Qe g L.length J) vI D M B R V w){k:Nat}{a:NQ}(d:L[k]?=some a):w.cell? ⟨g,k*11+2,none⟩=some (.string a.s):=by
 obtain⟨f,e,v,b,-,-,c,-⟩:=h.node d;simp only[Value.slice.injEq,Option.some.injEq,Addr.mk.injEq]at b;obtain⟨⟨rfl,_⟩,_⟩:=b;exact c 2 Oa
theorem aVV{N:List NQ}(hI:aWH L I N)(hz:I.length<=90000)(_:L.length<=100000)(h:gZ H X U L I [] [] m s Y vI (.slice none 0 0) (.slice none 0 0) B R V w):
 Calls prog 62 #[Qd X] w fun e z=>e= .returned (.tuple #[])/\∃ D M,gZ H X U L I (pR I N [] ⟨[],[],s⟩).A (pR I N [] ⟨[],[],s⟩).F m (pR I N [] ⟨[],[],s⟩).s Y vI D M B R V z/\Nx X U Y B R B R w z:=by
 have y2:Hid ((∀ k,vI.ownBlock=some k->k < w.1.size)/\∀ k,uC V k->k < w.1.size):=⟨fun k hk=>fC h.its hk,fun k hk=>by
  obtain⟨⟨c,hc⟩,_⟩:=h.c.typ hk;rcases hc with hc|hc<;>exact(Oo hc)⟩
 obtain⟨ai,ci,rfl,_⟩:=bP h.its;obtain⟨i0,z8,z2,z1,z0⟩:=info_parts info3;go_enter func62,ntmps62
 go_wp2_with fail
 go_loopg [2] (I.length+1) (fun a2 v2 wr=>∃ (i:Nat) (t:Is) (D M:Value),v2= Qc i/\i+a2=I.length+1/\gZ H X U L I t.A t.F m t.s Y (.slice ai I.length ci) D M B R V wr/\Nx X U Y B R B R w wr/\aNQ w.1.size D M/\t.A.length+t.F.length=i/\pR (I.drop i) (N.drop i) (N.take i) t=pR I N [] ⟨[],[],s⟩)
 case atStart=>exact⟨0,⟨[],[],s⟩,_,_,rfl,Oa,h,Nx.refl _ _ _ _ _ _,⟨(fun k e=>by cases e),(fun k e=>by cases e),(fun k e=>by cases e)⟩,rfl,Od⟩
 case round=>
  clear h;obtain⟨i,t,D,M,rfl,b8,b,C,hn,c8,hq⟩:=hrel;have HQ:Hid (pR (I.drop i) (N.drop i) (N.take i) t=pR I N [] ⟨[],[],s⟩):=hq;have HN:Hid (aNQ w.1.size D M):=hn;clear hq hn
  by_cases hi:i < I.length
  ·obtain⟨y,hy⟩:∃ y,I[i]?=some y:=⟨I[i],by simp[hi]⟩;obtain⟨P,y0,y8⟩:=hI.at_ i y hy;obtain⟨g,J,hv,h2⟩:=dQ b.its hy;obtain⟨k,rfl⟩:=Int.eq_ofNat_of_zero_le y0.1;have hk:L[k]?=some P:=by have:=y0.2;simpa using this
   obtain⟨gr,j,a1,W,G,Z,K,k3,j2,_,_,⟨e0,e1,e2,e3,e4,e5,e6,e7,e8,e9,a5⟩,_,b7⟩:=b.p0 hk;have b9:=y0.lt;have hb:0<=(i:Int)/\(i:Int) < (I.length:Int):=Oa
   have a9:0<=(k:Int)/\(k:Int) < (L.length:Int):=Oa
   have t0:decide ((i:Int) < (I.length:Int))=true:=by simp;omega
   simp only[Value.slice.injEq]at hv;obtain⟨rfl,_,rfl⟩:=hv;subst j2;obtain⟨n2,rfl⟩:=Oj gk;have c9:IntKind.i64.wrap ((i:Int)+1)=(i:Int)+1:=IntWalk.i64_in _ Oa;have HD:Hid (I.drop i=(k:Int)::I.drop (i+1)/\N.drop i=P::N.drop (i+1)/\N.take (i+1)=N.take i++[P]):=⟨pU hy,pU y8,by rw[List.take_add_one,y8];rfl⟩;obtain⟨⟨p0,_⟩,g0,g1,_⟩:=b.cells;have o1:=b.fresh Ol;have h1:=b.alloc (rJ P a1 W G Z K k3);have y1:=C.alloc (rJ P a1 W G Z K k3);have f:(wr.alloc (rJ P a1 W G Z K k3)).1[wr.1.size]?=some (ndB P a1 W G Z K k3):=Qk wr _;have d3:=C.size;have HH:Hid (gZ H X U L I t.A t.F m t.s (Qe gr L.length j) (Qe g I.length ci) D M B R V (wr.alloc (rJ P a1 W G Z K k3))/\Nx X U (Qe gr L.length j) B R B R w (wr.alloc (rJ P a1 W G Z K k3))/\yA X U (Qe gr L.length j) B R wr.1.size):=⟨h1,y1,o1⟩;clear b C h1 y1 o1 y0 y8;go_upto_region 5 with fail
   generalize (wr.alloc (rJ P a1 W G Z K k3))=W1 at*;generalize wr.1.size=v at*;clear p0 g0 g1 h2 e0 e1 e2 e3 e4 e5 e6 e7 e8 e9 a5;go_wp2_with fail
   go_loopg [5] (i+1) (fun a2 v5 wJ=>∃ (p:Nat) (q:Ns),v5= Qc p/\p+a2=i+1/\gZ H X U L I t.A t.F m q (Qe gr L.length j) (Qe g I.length ci) D M B R V wJ/\Nx X U (Qe gr L.length j) B R B R w wJ/\yA X U (Qe gr L.length j) B R v/\wJ.1[v]?=some (ndB P a1 W G Z K k3)/\wY P ((N.take i).drop p) q=wY P (N.take i) t.s)
   case atStart=>exact⟨0,t.s,rfl,Oa,HH.o.1,HH.o.2.1,HH.o.2.2,f,by rw[List.drop_zero]⟩
   case round=>
    clear f HH;obtain⟨p,q,rfl,j3,b,C,o,f,z9⟩:=hrel;have y3:Hid (wY P ((N.take i).drop p) q=wY P (N.take i) t.s):=z9;clear z9
    by_cases hj:p < i
    ·skip
     obtain⟨y',z6⟩:∃ y,I[p]?=some y:=⟨I[p]'Oa,List.getElem?_eq_getElem _⟩;obtain⟨a3,k4,k8⟩:=hI.at_ p y' z6;obtain⟨k',rfl⟩:=Int.eq_ofNat_of_zero_le k4.1;have h2:=b.itm z6;have ec:=b.ndc (k:=k') (a:=a3) (by have:=k4.2;simpa using this);have c5:=k4.lt;have b2:0<=(p:Int)/\(p:Int) < (I.length:Int):=Oa
     have b3:0<=(k':Int)/\(k':Int) < (L.length:Int):=Oa
     have t1:decide ((p:Int) < (i:Int))=true:=by simp;omega
     obtain⟨m2,rfl⟩:=Oj gk;have d2:IntKind.i64.wrap ((p:Int)+1)=(p:Int)+1:=IntWalk.i64_in _ Oa
     have HE:Hid (wY P ((N.take i).drop (p+1)) (if a3.s=P.s then q.e0 4 P.at_ else q)=wY P (N.take i) t.s):=by
      rw[Hid,<-y3.o,pU (l:=N.take i) (i:=p) (y:=a3) (by rw[List.getElem?_take,if_pos hj];exact k8)];rfl
     obtain⟨⟨p0,_⟩,g0,g1,_⟩:=b.cells;have l2:wr.cell? ⟨v,2,none⟩=some (.string P.s):=cell_of_row _ _ _ _ _ _ f;have c6:X < wr.1.size:=Qp wr _ p0;have b5:U < wr.1.size:=Qp wr _ g0;have b6:g < wr.1.size:=Qp wr _ h2;have b4:gr < wr.1.size:=Qp wr _ ec;have c7:v < wr.1.size:=Qp wr _ l2;have HR:Hid (∀ a2,gZ H X U L I t.A t.F m q (Qe gr L.length j) (Qe g I.length ci) D M B R V (wr.drewN a2)/\Nx X U (Qe gr L.length j) B R B R w (wr.drewN a2)/\(wr.drewN a2).1[v]?=some (ndB P a1 W G Z K k3)):=fun a2=>⟨b.drewN a2,C.drewN a2,f⟩;clear b C f k4 k8 y3;go_upto_region 8 with fail
     go_quiet (fail)
     clear p0 g0 g1 h2 ec l2;obtain⟨b,C,f⟩:=HR.o nq;generalize wr.drewN nq=W2 at*;clear HR;have l1:W2.cell? ⟨v,1,none⟩=some (Qc P.at_):=cell_of_row _ _ _ _ _ _ f;generalize j0:(a3.s.toList==P.s.toList)=O;have k0:Hid (O=decide (a3.s=P.s)):=by rw[Hid,<-j0,uG]
     clear j0
     by_cases hs:a3.s=P.s
     ·have t2:O=true:=by rw[k0.o,decide_eq_true hs]
      subst t2;rw[if_pos hs]at HE;clear hs;go_wp2_with fail
      refine(jW 4 P.at_ b).mono ?_;rintro e W3 ⟨rfl,h3,z3⟩;obtain⟨o3,q3⟩:=o.nx z3 (Oo f);have q3:=q3.t f;clear l1 b f;go_wp2;go_roundg m2
      case rel=>exact⟨p+1,_,Od,Oa,h3,C.t z3,o3,q3,HE.o⟩
      case measure=>omega
     ·have t2:O=false:=by rw[k0.o,decide_eq_false hs]
      subst t2;rw[if_neg hs]at HE;clear hs;go_wp2;go_roundg m2
      case rel=>exact⟨p+1,_,Od,Oa,b,C,o,f,HE.o⟩
      case measure=>omega
    ·have t1:decide ((p:Int) < (i:Int))=false:=by simp;omega
     have z7:q=wY P (N.take i) t.s:=by
      rw[<-y3.o,List.drop_eq_nil_of_le (by rw[List.length_take];omega)];rfl
     have j1:Hid (pR (I.drop (i+1)) (N.drop (i+1)) (N.take (i+1)) (rP (k:Int) P q t)=pR I N [] ⟨[],[],s⟩):=by
      rw[Hid,<-HQ.o,HD.o.1,HD.o.2.1,HD.o.2.2,z7];rfl
     clear y3 j3 z7 HQ HD t1;have l0:wr.cell? ⟨v,0,none⟩=some (Qc P.d):=cell_of_row _ _ _ _ _ _ f;have l1:wr.cell? ⟨v,1,none⟩=some (Qc P.at_):=cell_of_row _ _ _ _ _ _ f;obtain⟨⟨p0,_⟩,g0,_,gA,gF,_⟩:=b.cells;obtain⟨av,cv,rfl,_⟩:=bP b.arrs;obtain⟨fv,cf,rfl,_⟩:=bP b.fns;have a7:t.A.length<=90000:=Oa
     have a8:t.F.length<=90000:=Oa
     by_cases k6:P.d=1
     ·skip
      have t2:(P.d==1)=true:=by simp[k6]
      obtain⟨bt,E⟩:∃ bt,Hid (bt=decide (6<=t.A.length)):=⟨_,rfl⟩
      have t6:decide ((t.A.length:Int)≥6)=bt:=by
       rw[E.o];rcases(by omega:6<=t.A.length\/¬6<=t.A.length)with e|e
       ·rw[decide_eq_true e];simp;omega
       ·rw[decide_eq_false e];simp;omega
      have h3:((P.n < 1\/64 < P.n)/\(decide (P.n < 1)=true\/(decide (P.n < 1)=false/\decide (P.n > 64)=true)))\/(¬(P.n < 1\/64 < P.n)/\(decide (P.n < 1)=false/\decide (P.n > 64)=false)):=by
       by_cases e:P.n < 1
       ·exact .l ⟨.l e,.l (by simp[e])⟩
       by_cases e2:64 < P.n
       ·exact .l ⟨.r e2,.r ⟨by simp;omega,by simp[e2]⟩⟩
       ·exact .r ⟨Oa,by simp;omega,by simp;omega⟩
      obtain⟨s4,k9⟩:∃ s4,Hid (s4=if 6<=t.A.length then q.e0 5 P.at_ else q):=⟨_,rfl⟩;obtain⟨u,Q⟩:∃ u,Hid (u=if P.n < 1\/64 < P.n then s4.e0 5 P.mid else s4):=⟨_,rfl⟩;have HI:Hid (rP (k:Int) P q t=⟨t.A++[(k:Int)],t.F,u⟩):=by rw[Hid,rP,if_pos k6,Q.o,k9.o]
      clear k6;go_upto_if 81 with fail
      go_cut []from 73 to 142 (fun z=>gZ H X U L I t.A t.F m s4 (Qe gr L.length j) (Qe g I.length ci) (.slice av t.A.length cv) (.slice fv t.F.length cf) B R V z/\Nx X U (Qe gr L.length j) B R B R w z/\yA X U (Qe gr L.length j) B R v/\z.1[v]?=some (ndB P a1 W G Z K k3))
      case first=>
       by_cases e:6<=t.A.length
       ·have es:s4=q.e0 5 P.at_:=by rw[k9.o,if_pos e]
        have r:bt=true:=by rw[E.o,decide_eq_true e]
        clear e E t6;subst r;go_wp2_with fail
        refine(jW 5 P.at_ b).mono ?_;rintro e W4 ⟨rfl,h4,z4⟩;rw[<-es]at h4;obtain⟨o4,q4⟩:=o.nx z4 (Oo f);go_wp2;go_meet;exact⟨h4,C.t z4,o4,q4.t f⟩
       ·have es:s4=q:=by rw[k9.o,if_neg e]
        have r:bt=false:=by rw[E.o,decide_eq_false e]
        clear e E t6;subst r;rw[<-es]at b;go_wp2;go_meet;exact⟨b,C,o,f⟩
      obtain⟨h4,y4,o4,q4⟩:=hcut;clear b C f l0 l1 p0 g0 gA gF o k9 t6 E;have l3:wc.cell? ⟨v,3,none⟩=some (Qc P.n):=cell_of_row _ _ _ _ _ _ q4;have l4:wc.cell? ⟨v,4,none⟩=some (Qc P.mid):=cell_of_row _ _ _ _ _ _ q4;obtain⟨O,k0⟩:∃ O,Hid (O=decide (P.n < 1\/64 < P.n)):=⟨_,rfl⟩;go_upto_region 13 with fail
      go_cut [93]from 86 to 142 (fun a6 z=>a6= .bool O/\wc=z)
      case first=>
       rcases h3 with⟨e,t3|⟨t3,t4⟩⟩|⟨e,t3,t4⟩
       ·have r:O=true:=by rw[k0.o,decide_eq_true e]
        clear e Q;go_wp2;go_meet;exact⟨by rw[r],rfl⟩
       ·have r:O=true:=by rw[k0.o,decide_eq_true e]
        clear e Q;go_wp2;go_meet;exact⟨by rw[r],rfl⟩
       ·have r:O=false:=by rw[k0.o,decide_eq_false e]
        clear e Q;go_wp2;go_meet;exact⟨by rw[r],rfl⟩
      obtain⟨rfl,rfl⟩:=hcut;clear l3 h3;go_upto_if 93 with fail
      go_cut []from 86 to 142 (fun z=>gZ H X U L I t.A t.F m u (Qe gr L.length j) (Qe g I.length ci) (.slice av t.A.length cv) (.slice fv t.F.length cf) B R V z/\Nx X U (Qe gr L.length j) B R B R w z/\yA X U (Qe gr L.length j) B R v/\z.1[v]?=some (ndB P a1 W G Z K k3))
      case first=>
       by_cases e:P.n < 1\/64 < P.n
       ·have es:u=s4.e0 5 P.mid:=by rw[Q.o,if_pos e]
        have r:O=true:=by rw[k0.o,decide_eq_true e]
        clear e k0;subst r;go_wp2_with fail
        refine(jW 5 P.mid h4).mono ?_;rintro e n ⟨rfl,d,z5⟩;rw[<-es]at d;obtain⟨o5,q5⟩:=o4.nx z5 (Oo q4);go_wp2;go_meet;exact⟨d,y4.t z5,o5,q5.t q4⟩
       ·have es:u=s4:=by rw[Q.o,if_neg e]
        have r:O=false:=by rw[k0.o,decide_eq_false e]
        clear e k0;subst r;rw[<-es]at h4;go_wp2;go_meet;exact⟨h4,y4,o4,q4⟩
      obtain⟨d,y5,o5,q5⟩:=hcut;clear h4 y4 q4 l4 o4 Q k0;generalize wc=n at*;obtain⟨⟨p0,_⟩,_,_,gA,gF,_,_,gf⟩:=d.cells;have f1:=gf 2;have k7:X < n.1.size:=Qp _ _ p0;have k5:U < n.1.size:=Qp _ _ gA;have hH:=d.size;have ho:=d.arrs;have ag:some U≠(Value.slice av t.A.length cv).ownBlock:=fun e=>cV d.arrs d.prog Ob e.symm;have an:some X≠(Value.slice av t.A.length cv).ownBlock:=fun e=>cV d.arrs d.nm Ob e.symm;have H5:Hid (gZ H X U L I t.A t.F m u (Qe gr L.length j) (Qe g I.length ci) (.slice av t.A.length cv) (.slice fv t.F.length cf) B R V n/\Nx X U (Qe gr L.length j) B R B R w n):=⟨d,y5⟩;clear d y5 gf q5 o5;go_upto_region 15 with fail
      go_region_law
       ((refine step_append_lies _ (by rfl) _ _ _ (by rfl) H 3 i0 _ 1 8 underlying70 z8 z2 z1 z0 rfl Oa (.slice av t.A.length cv) t.A.length (fQ t.A) (by rfl) ((ho.alloc _).drew)
          ⟨n.1.size,0,none⟩ 1 1 [Qc (k:Int)] (by rfl) (by rfl) (World.news_of_block (cs:=#[Qc (k:Int)]) (t:=3) (fr:=(0,0)) (Qk n _)) (by simp[Value.oneCell'])
          Oa (by unfold maxLen;omega) Oa (by simp;omega) (n.1.size+1) Od ?_;intro gg a4 w1 h9 h0 y9 y7;have f:=(h0.cell_far ⟨X,0,none⟩ (gK k7) an).t (lT k7 p0);have q2:=(h0.cell_far ⟨U,2,none⟩ (gK k5) ag).t (lT k5 gA);have q3:=(h0.frozen_far ⟨U,2,none⟩ (gK k5) ag).t (rO k5 f1)))
      all_goals go_wp2
      all_goals go_roundg n2
      all_goals first
       |omega
       |(obtain⟨h6,y6,n6⟩:=H5.o.1.grewAF true H5.o.2 y2.o.1 y2.o.2 HN.o (x:=(k:Int)) (w1:=(n.alloc (Qf #[Qc (k:Int)] 3)).drew) ⟨rfl,rfl,rfl,by simp[World.drew]⟩ (fun _ hk=>On hk) h9 h0 (y9.imp id (fun e=>e.t (by simp[World.drew])))
         exact⟨i+1,⟨t.A++[(k:Int)],t.F,u⟩,_,_,Od,Oa,h6,y6,n6,by simp;omega,by rw[<-HI.o];exact j1.o⟩)
     ·skip
      have t2:(P.d==1)=false:=by simp[k6]
      obtain⟨bt,E⟩:∃ bt,Hid (bt=decide (8<=t.F.length)):=⟨_,rfl⟩
      have t6:decide ((t.F.length:Int)≥8)=bt:=by
       rw[E.o];rcases(by omega:8<=t.F.length\/¬8<=t.F.length)with e|e
       ·rw[decide_eq_true e];simp;omega
       ·rw[decide_eq_false e];simp;omega
      obtain⟨u,Q⟩:∃ u,Hid (u=if 8<=t.F.length then q.e0 5 P.at_ else q):=⟨_,rfl⟩;have HI:Hid (rP (k:Int) P q t=⟨t.A,t.F++[(k:Int)],u⟩):=by rw[Hid,rP,if_neg k6,Q.o]
      clear k6;go_upto_if 122 with fail
      go_cut []from 114 to 142 (fun z=>gZ H X U L I t.A t.F m u (Qe gr L.length j) (Qe g I.length ci) (.slice av t.A.length cv) (.slice fv t.F.length cf) B R V z/\Nx X U (Qe gr L.length j) B R B R w z/\yA X U (Qe gr L.length j) B R v/\z.1[v]?=some (ndB P a1 W G Z K k3))
      case first=>
       by_cases e:8<=t.F.length
       ·have es:u=q.e0 5 P.at_:=by rw[Q.o,if_pos e]
        have r:bt=true:=by rw[E.o,decide_eq_true e]
        clear e E t6;subst r;go_wp2_with fail
        refine(jW 5 P.at_ b).mono ?_;rintro e n ⟨rfl,d,z5⟩;rw[<-es]at d;obtain⟨o5,q5⟩:=o.nx z5 (Oo f);go_wp2;go_meet;exact⟨d,C.t z5,o5,q5.t f⟩
       ·have es:u=q:=by rw[Q.o,if_neg e]
        have r:bt=false:=by rw[E.o,decide_eq_false e]
        clear e E t6;subst r;rw[<-es]at b;go_wp2;go_meet;exact⟨b,C,o,f⟩
      obtain⟨d,y5,o5,q5⟩:=hcut;clear b C f l0 l1 p0 g0 gA gF o Q t6 E;generalize wc=n at*;obtain⟨⟨p0,_⟩,_,_,gA,gF,_,_,gf⟩:=d.cells;have f1:=gf 3;have k7:X < n.1.size:=Qp _ _ p0;have k5:U < n.1.size:=Qp _ _ gA;have hH:=d.size;have ho:=d.fns;have ag:some U≠(Value.slice fv t.F.length cf).ownBlock:=fun e=>cV d.fns d.prog Ob e.symm;have an:some X≠(Value.slice fv t.F.length cf).ownBlock:=fun e=>cV d.fns d.nm Ob e.symm;have H5:Hid (gZ H X U L I t.A t.F m u (Qe gr L.length j) (Qe g I.length ci) (.slice av t.A.length cv) (.slice fv t.F.length cf) B R V n/\Nx X U (Qe gr L.length j) B R B R w n):=⟨d,y5⟩;clear d y5 gf q5 o5;go_upto_region 18 with fail
      go_region_law
       ((refine step_append_lies _ (by rfl) _ _ _ (by rfl) H 3 i0 _ 1 8 underlying70 z8 z2 z1 z0 rfl Oa (.slice fv t.F.length cf) t.F.length (fQ t.F) (by rfl) ((ho.alloc _).drew)
          ⟨n.1.size,0,none⟩ 1 1 [Qc (k:Int)] (by rfl) (by rfl) (World.news_of_block (cs:=#[Qc (k:Int)]) (t:=3) (fr:=(0,0)) (Qk n _)) (by simp[Value.oneCell'])
          Oa (by unfold maxLen;omega) Oa (by simp;omega) (n.1.size+1) Od ?_;intro gg a4 w1 h9 h0 y9 y7;have f:=(h0.cell_far ⟨X,0,none⟩ (gK k7) an).t (lT k7 p0);have q2:=(h0.cell_far ⟨U,3,none⟩ (gK k5) ag).t (lT k5 gF);have q3:=(h0.frozen_far ⟨U,3,none⟩ (gK k5) ag).t (rO k5 f1)))
      all_goals go_wp2
      all_goals go_roundg n2
      all_goals first
       |omega
       |(obtain⟨h6,y6,n6⟩:=H5.o.1.grewAF false H5.o.2 y2.o.1 y2.o.2 HN.o (x:=(k:Int)) (w1:=(n.alloc (Qf #[Qc (k:Int)] 3)).drew) ⟨rfl,rfl,rfl,by simp[World.drew]⟩ (fun _ hk=>On hk) h9 h0 (y9.imp id (fun e=>e.t (by simp[World.drew])))
         exact⟨i+1,⟨t.A,t.F++[(k:Int)],u⟩,_,_,Od,Oa,h6,y6,n6,by simp;omega,by rw[<-HI.o];exact j1.o⟩)
  ·have t0:decide ((i:Int) < (I.length:Int))=false:=by simp;omega
   have HE:Hid (pR I N [] ⟨[],[],s⟩=t):=by
    rw[Hid,<-HQ.o,List.drop_eq_nil_of_le Oa];rfl
   clear HQ;obtain⟨⟨p0,_⟩,g0,g1,_⟩:=b.cells;go_wp2;go_end0
   rw[HE.o];exact⟨rfl,D,M,b,C⟩
end
section
theorem aKR{s:ByteArray}(c:s.size<=4000)(a:(eI s).a=0):∃ Q,oP s=(Q,0,0)/\Tw (cE s) Q/\Q.length<=5000/\(aE Q (Q.length - 1)).d=0:=by
 obtain⟨Q,d,e⟩:=(aEN s c).2 a;obtain⟨f,i⟩:=e.get;have k:0 < (cE s).length:=by simp[cE]
 have b:Tw (cE s) Q:=⟨f,i,qS s,uD a c,k⟩;have j:=b.len;have n:=(uD a c).few;refine⟨Q,d,b,Oa,?_⟩;rw[<-j];have l:(aE (cE s) ((cE s).length - 1)).d=0:=qS s;rcases(b.tok _ (show(cE s).length - 1 < (cE s).length by omega)).2 with⟨_,h,_⟩|⟨h,_⟩|⟨h,_⟩|⟨h,_⟩
 ·exact h
 all_goals omega
theorem aQP{s:ByteArray}(e:s.size<=4000)(b:(eI s).a=0):Ups (cE s):=by
 have d:=aME b
 have c:∀ i j,i < j->j < (cE s).length->(aE (cE s) i).e < (aE (cE s) j).e:=by
  grind[aE,List.pairwise_iff_getElem,List.length_map,List.getElem?_eq_getElem]
 refine⟨c,fun i hi=>?_⟩;have h:=aLN s b;have a:=Qr (lN hi);generalize aE (cE s) i=u at*;unfold cE at a;rcases List.mem_append.1 a with a|a
 ·have:=h.lt _ a;omega
 grind
theorem aCU:∀ (I:List Int) (N:List NQ),∀ x∈vK I N,x∈I
 |[],_,x,h=>Qi
 |_::_,[],x,h=>Qj
 |k::I,y::N,x,h=>by
  unfold vK at h
  split at h
  ·rcases List.mem_cons.1 h with rfl|h
   ·simp
   ·exact Qu _ (aCU I N x h)
  ·exact Qu _ (aCU I N x h)
theorem aMT:∀ (I:List Int) (N:List NQ),(vK I N).length<=I.length/\(wI I N).length<=I.length
 |[],_=>by simp[vK,wI]
 |_::_,[]=>by simp[vK,wI]
 |k::I,y::N=>by
  obtain⟨a,b⟩:=aMT I N
  grind[vK,wI]
theorem aFQ:∀ (I:List Int) (N D:List NQ) (t:Is),(pR I N D t).s.d=t.s.d
 |[],_,_,_=>by rfl
 |_::_,[],_,_=>by rfl
 |k::I,x::N,D,t=>by
  have e:(rP k x (wY x D t.s) t).s.d=t.s.d:=by
   grind[wY,rP,aLL,cY]
  exact(aFQ I N _ _).t e
def aRP:List (Ns->Ns)->Ns->Ns
 |[],s=>s
 |G::r,s=>aRP r (G s)
theorem aKK:∀ (Z:Zs) (s:Ns),aRQ Z s=aRP (Z.filterMap (·.2)) s
 |[],_=>rfl
 |(_,none)::Z,s=>aKK Z s
 |(_,some G)::Z,s=>aKK Z (G s)
structure RdN(s:ByteArray)(L:List NQ)(I A F:List Int)(S:List (ByteArray × Int))(FQ:List (Nat × Nat))(N:List NQ)(Gs:List (Ns->Ns)):Prop where
 few:A.length<=I.length/\F.length<=I.length
 itn:aWH L I N
 itq:aBX L I S
 fnp:aHF L S FQ F Gs 0
 fnq:aAN L F FQ
 ia:∀ x,dA x 1 S 0 < A.length
 if_:∀ x,dA x 2 S 0 < F.length
 arr:∀ x∈A,∃ n,jM L x n
 a:(pR I N [] ⟨[],[],⟨[],0,0,[]⟩⟩).A=A
 f:(pR I N [] ⟨[],[],⟨[],0,0,[]⟩⟩).F=F
 same:∀ u,u=aRP Gs (pR I N [] ⟨[],[],⟨[],0,0,[]⟩⟩).s->((fZ (rZ s) s.size).a=0/\(if dA gJ 2 S 0 < 0 then u.e0 4 s.size else u).a=0)\/((fZ (rZ s) s.size).a≠0/\(fZ (rZ s) s.size).a=(if dA gJ 2 S 0 < 0 then u.e0 4 s.size else u).a/\(fZ (rZ s) s.size).e=(if dA gJ 2 S 0 < 0 then u.e0 4 s.size else u).e)
 main:(fZ (rZ s) s.size).a=0->0<=dA gJ 2 S 0/\oM (rZ s) (vQ (rZ s)).toNat=some (FQ.getD (dA gJ 2 S 0).toNat (0,0)).1
theorem aKS{s:ByteArray}(hz:s.size<=4000)(W:(eI s).a=0)(i:(aK (cE s)).1.a=0){Q:List aU}(c:Tw (cE s) Q):∃ A F S FQ N p,RdN s (dY Q).L (dY Q).c A F S FQ N p:=by
 have h:=(rI c.small c.ends c.some i).1;have j:=(aBB c).2.2 i;have v:∀ t:Tr,unl t=aD t:=fun t=>by rfl
 rw[v]at j;obtain⟨Z,y,f,z,C,E,G,K⟩:=aVJ (S:=qO (aD (rZ s))) (FQ:=fqL (rZ s)) _ _ _ _ (h.elems Oa) j;have O:fqL (rZ s)=fqS (aD (rZ s)):=aYL _ _ _;obtain⟨s1,s2⟩:=aNA (dY Q).c (Z.map (·.1)) [] ⟨[],[],⟨[],0,0,[]⟩⟩;have a3:=aNB (Z.map (·.1)) (dY Q).c Z [] ⟨[],[],⟨[],0,0,[]⟩⟩ rfl f.len.symm;have k:(s.size:Int)=(aE (cE s) ((cE s).length - 1)).e:=by simp[cE,aE]
 have k0:∀ (x:ByteArray) (d:Int) (n:Nat),n=cnt d (qO (aD (rZ s)))->dA x d (qO (aD (rZ s))) 0 < n\/dA x d (qO (aD (rZ s))) 0= -1:=fun x d n e=>by
  have:=aGU x d (qO (aD (rZ s))) 0 Oa;omega
 refine⟨vK (dY Q).c (Z.map (·.1)),wI (dY Q).c (Z.map (·.1)),qO (aD (rZ s)),fqL (rZ s),Z.map (·.1),Z.filterMap (·.2),aMT _ _,f,z,C,by rw[O];exact K,fun x=>?_,fun x=>?_,fun x hx=>?_,by rw[s1];rfl,by rw[s2];rfl,fun a5 hu=>?_,fun h0=>?_⟩
 ·have:=k0 x 1 _ G;omega
 ·have:=k0 x 2 _ E;omega
 ·obtain⟨a2,hi⟩:=List.getElem?_of_mem (aCU _ _ x hx);obtain⟨n,k,_⟩:=f.at_ a2 x hi
  grind
 ·refine aL0 c.small c.ends (aQP hz W) c.some i y k ?_
  grind[aKK]
 ·have P:=aSZ h;have h0:(fZ (rZ s) s.size).a=0:=h0
  have a4:(eG (cL (rZ s)) (eH (rZ s)) gJ).isSome:=by
   grind[fZ,eG,cL,eH,gJ,gR]
  rcases(aWY h).fn gJ with⟨e,_⟩|⟨b,o,a,l,r,e,e1,q⟩
  ·grind[eG,cL,rZ,eH,gJ]
  ·obtain⟨k1,k2⟩:=P.fn _ _ _ _ _ _ e;refine⟨e1,?_⟩
   have u:vQ (rZ s)=a.c:=by
    have e:eG (cL (rZ s)) (eH (rZ s)) gJ=_:=e;unfold vQ;rw[e];rfl
   rw[u];exact k2.t (congrArg some q.symm)
variable {H O U gw cw:Nat} {T:List aU} {st:QS} {Y B vI:Value} {V E:List V3} {w w0 w1 w2:World}
theorem PW.item(h:PW H O U gw cw T st Y vI V w)(a:Px O U B Y E V w0 w)(hi:∀ k,vI.ownBlock=some k->w0.1.size<=k){x:Int}{g J:Nat}(n:w1.os=w.os/\w1.tape=w.tape/\w1.output=w.output/\w.1.size<=w1.1.size)(Q:∀ k,k < w.1.size->w1.1[k]?=w.1[k]?)(a2:w2.ownsRow H 3 1 (Qe g (st.c.length+1) J) (st.c.length+1) (fQ st.c++[Qc x]))(b:w1.grownBy w2 vI.ownBlock)(N:vI.ownBlock=some g\/g=w1.1.size):
 PW H O U gw cw T (kM x st) Y (Qe g (st.c.length+1) J) V (w2.setCell ⟨U,1,none⟩ (Qe g (st.c.length+1) J))/\Px O U B Y E V w0 (w2.setCell ⟨U,1,none⟩ (Qe g (st.c.length+1) J))/\w0.1.size<=g:=by
 have cP:=a.size;have G:U < w.1.size:=(Oo h.prog);have old:∀ k,k < w.1.size->vI.ownBlock≠some k->w2.1[k]?=w.1[k]?:=fun k o Z=>(b.block k Oa Qg).t Qh;have l:∀ k,k < w.1.size->vI.ownBlock≠some k->k≠U->∀ u,(w2.setCell ⟨U,1,none⟩ u).1[k]?=w.1[k]?:=(by grind[Below.heap_setCell]);have h0:vI.ownBlock≠some U:=cV h.its h.prog Ob
 have W:g≠U:=by
  grind
 have K:w0.1.size<=g:=by
  grind
 have t:∀ {r v:Nat} {e:TypeId} {z:Value} {y:List Value},w.ownsRow H e v z r y->e≠3->e≠76->∀ u,(w2.setCell ⟨U,1,none⟩ u).ownsRow H e v z r y:=fun q p f u=>aR q (fun j d=>by
  obtain⟨⟨c,i⟩,_⟩:=aW q d;exact l j Qg (cV h.its i Qg) (bR i h.prog f) u)
 refine⟨⟨t h.words Ob Ob _,(l O h.lt_pb (cV h.its h.par Ob) (bR h.par h.prog Ob) _).t h.par,aI _ ((old U G h0).t h.prog),t h.nodes Ob Ob _,?_,h.c.move (fun j d=>?_),h.lt,h.few,h.ends,fun k o=>?_⟩,⟨b.os.t (n.1.t a.os),b.tape.t (n.2.1.t a.tape),b.output.t (n.2.2.1.t a.output),?_,fun k o p f C=>?_,a.row,a.used⟩,K⟩
 ·show(w2.setCell _ _).ownsRow H 3 1 _ (st.c++[x]).length (fQ (st.c++[x]))
  grind[fQ,Value.ownBlock,List.length_append,aR,Below.heap_setCell]
 ·refine l j (h.used_lt d) (fun e=>h.off j e d) ?_ _;rintro rfl;obtain⟨⟨c,i⟩,_⟩:=h.c.typ d;rw[h.prog]at i
  grind
 ·have e:g=k:=by grind[Value.ownBlock]
  subst e;rcases N with e|e
  ·exact h.off g e
  ·exact fun P=>by have:=h.used_lt P;omega
 ·have:=b.size
  grind[World.setCell]
 ·exact(l k Oa (fun e=>by have:=hi k e;omega) f _).t (a.keep k o p f C)
theorem aX1{n g J k m:Nat}(h:m<=g)(a:(Qe g n J).ownBlock=some k):m<=k:=by
 grind[Value.ownBlock]
theorem aOR(h:PW H O U gw cw T ⟨0,0,0,0,[],[]⟩ (.slice none 0 0) (.slice none 0 0) [] w):
 Calls prog 61 #[Qd O] w fun e w'=>e= .returned (.tuple #[])/\∃ a7 a6 V',PW H O U gw cw T (dY T) a7 a6 V' w'/\Px O U (.slice none 0 0) a7 [] V' w w'/\∀ k,a6.ownBlock=some k->w.1.size<=k:=by
 have a9:=h.few;have j0:fJ T ⟨0,0,0,0,[],[]⟩ 0 8:=by unfold fJ;simp;omega
 obtain⟨i0,j1,z9,z8,z5⟩:=info_parts info3;go_enter func61,ntmps61
 go_wp2_with fail
 go_loopg [] T.length (fun m wr=>∃ (C:QS) (a4 a3:Value) (Vr:List V3),PW H O U gw cw T C a4 a3 Vr wr/\Px O U (.slice none 0 0) a4 [] Vr w wr/\(∀ k,a3.ownBlock=some k->w.1.size<=k)/\bZ T C<=m/\C.c.length+m<=T.length/\fJ T C 0 8/\dO T (qB T) m C=dY T)
 case atStart=>exact⟨_,_,_,_,h,Px.refl _ _ _ _ _,(fun k p=>by cases p),nZ T _,Od,j0,rfl⟩
 case round=>
  obtain⟨C,a4,a3,Vr,N,xc,hi,hm,z3,z0,k9⟩:=hrel;have HR:Hid (dO T (qB T) gk C=dY T):=k9;obtain⟨p0,p1,_,p3,_,_,_⟩:=N.cells;obtain⟨x0,_,_,_⟩:=N.w4;have b4:=N.lt;have b2:0<=(C.i:Int)/\(C.i:Int) < (T.length:Int):=Oa
  clear k9 h j0
  by_cases j:C.a=0/\(aE T C.i).d≠0
  ·have t0:(C.a==0)=true:=by simp[j.1]
   have k0:((aE T C.i).d !=0)=true:=by simp[j.2]
   obtain⟨m,rfl⟩:∃ m,gk=m+1:=⟨gk - 1,by
    unfold bZ at hm;rw[if_pos j.1]at hm;omega⟩
   have y2:bZ T (aG T C)<=m:=by
    unfold bZ at hm ⊢;rw[if_pos j.1]at hm
    split
    ·rw[jX T C j.2];omega
    ·exact Qn _
   have y1:(aG T C).i < T.length->fJ T (aG T C) 0 16:=fun hl=>by
    unfold fJ at z0 ⊢;rw[jX T C j.2]at hl ⊢;rw[aV];omega
   have HS:Hid ((if dF T C aU4=true then dO T (qB T) m (kM (tQ T (aG T C)).2 (tQ T (aG T C)).1)
    else if dF T C aT8=true then dO T (qB T) m (kM (pN T (qB T) (aG T C)).2 (pN T (qB T) (aG T C)).1)
    else dO T (qB T) m (dW T C))=dY T):=by
    rw[Hid,<-HR.o];exact(if_pos j).symm
   clear HR hm;go_upto_region 0 with fail
   go_quiet (fail)
   go_wp2_with fail
   refine(pG aU4 (N.drewN _)).mono ?_;rintro e w2 ⟨rfl,n2,rfl⟩;go_wp2_with fail
   refine(pG aT8 (N.drewN _)).mono ?_;rintro e w3 ⟨rfl,n3,rfl⟩;have h3:=N.drewN (nq+n2+n3);have y3:=xc.drewN (nq+n2+n3);clear N xc p0 p1 p3 x0 t0 k0;cases hb1:dF T C aU4
   ·cases hb2:dF T C aT8
    ·
      have HT:Hid (dO T (qB T) m (dW T C)=dY T):=by
       have:=HS.o;rw[hb1,hb2]at this;exact this
      have u:bZ T (dW T C)<=m:=by
       unfold bZ;rw[if_neg (by unfold dW;rw[if_pos j.1];simp)];exact Qn _
      have P:(dW T C).c=C.c:=(Gr.e0 T C).c;clear HS j y2 y1;go_wp2_with fail
      refine(xE h3).mono ?_;rintro e w4 ⟨rfl,q,Q⟩
      have r:fJ T (dW T C) 0 8:=by
       have:=z0.gr (Gr.e0 T C) (Nat.le_of_lt q.lt) Oa;unfold fJ at this ⊢;omega
      go_wp2;go_roundg m
      case rel=>exact⟨_,_,_,_,q,y3.t (Px.i0 Q),hi,u,by rw[P];omega,r,HT.o⟩
      case measure=>omega
    ·
      have y9:Hid (dO T (qB T) m (kM (pN T (qB T) (aG T C)).2 (pN T (qB T) (aG T C)).1)=dY T):=by
       have:=HS.o;rw[hb1,hb2]at this;exact this
      have P:(pN T (qB T) (aG T C)).1.c=C.c:=(aDH (aT4 T) (T:=T) (aG T C)).c.t (Gr.bz T C).c;clear HS j;go_wp2_with fail
      refine(lG h3).mono ?_;rintro e w4 ⟨rfl,q,Q⟩;unfold aU.g;have y4:=y3.t (Px.i0 Q);have Z:=y1 q.lt;have y0:fJ T (aG T C) 0 8:=by unfold fJ at Z ⊢;omega
      have K:=aDH (aT4 T) (T:=T) (aG T C);clear h3 y3 Q y1 z0;generalize aG T C=i at*;go_wp2_with fail
      refine(aLD 40000 Ol (qB T) (aT4 T) aPW i _ _ _ 0 Oa q y0).mono ?_;rintro e c ⟨rfl,a2,V8,a,x8⟩;have G:=y4.t x8
      have r:fJ T (pN T (qB T) i).1 0 8:=by
       have:=Z.gr K (Nat.le_of_lt a.lt) Oa;unfold fJ at this ⊢;omega
      have u:bZ T (pN T (qB T) i).1<=m:=Qm (K.need (T:=T)) y2;clear q y4 x8 K Z y0 y2;generalize (pN T (qB T) i).2=f at*;generalize (pN T (qB T) i).1=b at*;have HT:Hid (dO T (qB T) m (kM f b)=dY T):=y9;have u:bZ T (kM f b)<=m:=u;have r:fJ T (kM f b) 0 8:=r;rw[<-P]at z3;clear y9 P;obtain⟨l,o,rfl,_⟩:=bP a.its;have h9:=a.lt_pb;have z:U < c.1.size:=(Oo a.prog);obtain⟨_,_,_,_,_,p5,_⟩:=a.cells;have W:c.cell? ⟨U,1,none⟩=some (.slice l b.c.length o):=Og a.prog rfl
      have f1:c.frozen? ⟨U,1,none⟩=false:=by simp[World.frozen?,a.prog]
      have j5:=a.t0;have k8:=a.its;have ag:some U≠(Value.slice l b.c.length o).ownBlock:=fun e=>cV a.its a.prog Ob e.symm;have ap:some O≠(Value.slice l b.c.length o).ownBlock:=fun e=>cV a.its a.par Ob e.symm;have z1:(c.alloc (Qf #[Qc f] 3)).drew.1[c.1.size]?=some (Qf #[Qc f] 3):=Qk c _;have hP:Hid (PW H O U gw cw T b a2 (.slice l b.c.length o) V8 c/\Px O U (.slice none 0 0) a2 [] V8 w c/\(∀ k,(Value.slice l b.c.length o).ownBlock=some k->w.1.size<=k)):=⟨a,G,hi⟩;clear a G hi;go_upto_region 14 with fail
      go_region_law
       ((refine step_append_lies _ (by rfl) _ _ _ (by rfl) H 3 i0 _ 1 8 underlying70 j1 z9 z8 z5 rfl Oa (.slice l b.c.length o) b.c.length (fQ b.c) (by rfl) ((k8.alloc _).drew)
          ⟨c.1.size,0,none⟩ 1 1 [Qc f] (by rfl) (by rfl) (World.news_of_block (cs:=#[Qc f]) (t:=3) (fr:=(0,0)) z1) (by simp[Value.oneCell'])
          Oa (by unfold maxLen;omega) Oa (by simp;omega) (c.1.size+1) Od ?_;intro gg J w1 k2 y z4 z2;have q1:=(y.cell_far ⟨O,5,none⟩ (gK h9) ap).t (lT h9 p5);have q2:=(y.cell_far ⟨U,1,none⟩ (gK z) ag).t (lT z W);have q3:=(y.frozen_far ⟨U,1,none⟩ (gK z) ag).t (rO z f1)))
      all_goals go_wp2
      all_goals go_roundg m
      all_goals first
       |omega
       |(obtain⟨a,G,hi⟩:=hP.o
         obtain⟨W,g2,g3⟩:=a.item G hi (x:=f) (w1:=(c.alloc (Qf #[Qc f] 3)).drew) ⟨rfl,rfl,rfl,by simp[World.drew]⟩ (fun _ p=>On p) k2 y (z4.imp id (fun e=>e.t (by simp[World.drew])));exact⟨kM f b,_,_,_,W,g2,(fun k p=>aX1 g3 p),u,by simp[kM];omega,r,HT.o⟩)
   ·
     have y9:Hid (dO T (qB T) m (kM (tQ T (aG T C)).2 (tQ T (aG T C)).1)=dY T):=by
      have:=HS.o;rw[hb1]at this;exact this
     have P:(tQ T (aG T C)).1.c=C.c:=(aDI (T:=T) (aG T C)).c.t (Gr.bz T C).c;clear HS j;go_wp2_with fail
     refine(lG h3).mono ?_;rintro e w4 ⟨rfl,q,Q⟩;unfold aU.g;have y4:=y3.t (Px.i0 Q);have Z:=y1 q.lt;have K:=aDI (T:=T) (aG T C);have HA:Hid (tQ T (aG T C)=(cQ {d:=1,at_:=(dC T 1 (aG T C)).e,s:=(dC T 1 (aG T C)).f,n:=(dC T 2 (cX T 1 (aG T C))).a,mid:=(dC T 2 (cX T 1 (aG T C))).e} (cO T tH (cX T 2 (cX T 1 (aG T C)))),((cO T tH (cX T 2 (cX T 1 (aG T C)))).L.length:Int))):=rfl;clear h3 y3 Q y1 z0;generalize aG T C=i at*;go_wp2_with fail
     refine(zG 1 q).mono ?_;rintro e w5 ⟨rfl,h5,e5⟩;have y5:=(y4.t (Px.i0 e5)).alloc (eS (dC T 1 i));have j3:=h5.alloc (eS (dC T 1 i));have o5:=h5.fresh Ol;have q5:(w5.alloc (eS (dC T 1 i))).1[w5.1.size]?=some (Qf #[Qc (dC T 1 i).d,Qc (dC T 1 i).e,.string (dC T 1 i).f,Qc (dC T 1 i).a] 220):=Qk w5 _;clear q y4 e5 h5;generalize cX T 1 i=v at*;generalize dC T 1 i=t1 at*;unfold aU.g;go_wp2_with fail
     refine(zG 2 j3).mono ?_;rintro e w6 ⟨rfl,h6,e6⟩;have a8:(w5.alloc (eS t1)).1.size=w5.1.size+1:=Od
     have q6:=(e6.block w5.1.size Oa o5.p).t q5;have y6:=(y5.t (Px.i0 e6)).alloc (eS (dC T 2 v));have j2:=h6.alloc (eS (dC T 2 v));have o6:=h6.fresh Ol;have z6:(w6.alloc (eS (dC T 2 v))).1[w6.1.size]?=some (Qf #[Qc (dC T 2 v).d,Qc (dC T 2 v).e,.string (dC T 2 v).f,Qc (dC T 2 v).a] 220):=Qk w6 _;have a5:=(Below.heap_alloc w6 (eS (dC T 2 v)) w5.1.size (Oo q6)).t q6;clear j3 y5 e6 q5 h6 q6 a8;generalize cX T 2 v=s6 at*;generalize dC T 2 v=t2 at*;unfold aU.g;go_wp2_with fail
     refine(rM tH j2).mono ?_;rintro e w7 ⟨rfl,h7,e7⟩;have q7:=(e7.block _ (Oo a5) o5.p).t a5;have z7:=(e7.block _ (Oo z6) o6.p).t z6;have y7:=y6.t (Px.i0 e7);obtain⟨_,l1,l2,_,_⟩:=bK q7;obtain⟨_,k1,_,k3,_⟩:=bK z7
     have j6:(cO T tH s6).L.length<=200000:=by
      have:=K.room;rw[HA.o]at this;have b3:=h7.lt;simp only[cQ,List.length_append,List.length_cons,List.length_nil]at this;unfold fJ at Z;omega
     clear j2 y6 e7 a5 z6 o5 o6 q7 z7;generalize cO T tH s6=s7 at*;go_wp2_with fail
     refine(tZ {d:=1,at_:=t1.e,s:=t1.f,n:=t2.a,mid:=t2.e} v0 h7 (uA.none rfl rfl rfl) (fun k _=>wU k) j6).mono ?_;rintro e c ⟨rfl,a2,a,x8⟩;have G:=(y7.t x8).more (fun k p=>absurd p (wU k));have u:bZ T (tQ T i).1<=m:=Qm (K.need (T:=T)) y2
     have r:fJ T (tQ T i).1 0 8:=by
      have:=Z.gr K (by rw[HA.o];exact Nat.le_of_lt a.lt) Oa;unfold fJ at this ⊢;omega
     clear h7 y7 x8 K Z y2 l1 l2 k1 k3;rw[HA.o]at u r P
     have j4:Hid (dO T (qB T) m (kM (s7.L.length:Int) (cQ {d:=1,at_:=t1.e,s:=t1.f,n:=t2.a,mid:=t2.e} s7))=dY T):=by
      have:=y9.o;rw[HA.o]at this;exact this
     clear y9 HA;generalize (cQ {d:=1,at_:=t1.e,s:=t1.f,n:=t2.a,mid:=t2.e} s7)=b at*;generalize (s7.L.length:Int)=f at*;generalize j8:Vr++[v0]=V8 at*;have HT:Hid (dO T (qB T) m (kM f b)=dY T):=j4;have u:bZ T (kM f b)<=m:=u;have r:fJ T (kM f b) 0 8:=r;rw[<-P]at z3;clear j4 P j8;obtain⟨l,o,rfl,_⟩:=bP a.its;have h9:=a.lt_pb;have z:U < c.1.size:=(Oo a.prog);obtain⟨_,_,_,_,_,p5,_⟩:=a.cells;have W:c.cell? ⟨U,1,none⟩=some (.slice l b.c.length o):=Og a.prog rfl
     have f1:c.frozen? ⟨U,1,none⟩=false:=by simp[World.frozen?,a.prog]
     have j5:=a.t0;have k8:=a.its;have ag:some U≠(Value.slice l b.c.length o).ownBlock:=fun e=>cV a.its a.prog Ob e.symm;have ap:some O≠(Value.slice l b.c.length o).ownBlock:=fun e=>cV a.its a.par Ob e.symm;have z1:(c.alloc (Qf #[Qc f] 3)).drew.1[c.1.size]?=some (Qf #[Qc f] 3):=Qk c _;have hP:Hid (PW H O U gw cw T b a2 (.slice l b.c.length o) V8 c/\Px O U (.slice none 0 0) a2 [] V8 w c/\(∀ k,(Value.slice l b.c.length o).ownBlock=some k->w.1.size<=k)):=⟨a,G,hi⟩;clear a G hi;go_upto_region 10 with fail
     go_region_law
      ((refine step_append_lies _ (by rfl) _ _ _ (by rfl) H 3 i0 _ 1 8 underlying70 j1 z9 z8 z5 rfl Oa (.slice l b.c.length o) b.c.length (fQ b.c) (by rfl) ((k8.alloc _).drew)
         ⟨c.1.size,0,none⟩ 1 1 [Qc f] (by rfl) (by rfl) (World.news_of_block (cs:=#[Qc f]) (t:=3) (fr:=(0,0)) z1) (by simp[Value.oneCell'])
         Oa (by unfold maxLen;omega) Oa (by simp;omega) (c.1.size+1) Od ?_;intro gg J w1 k2 y z4 z2;have q1:=(y.cell_far ⟨O,5,none⟩ (gK h9) ap).t (lT h9 p5);have q2:=(y.cell_far ⟨U,1,none⟩ (gK z) ag).t (lT z W);have q3:=(y.frozen_far ⟨U,1,none⟩ (gK z) ag).t (rO z f1)))
     all_goals go_wp2
     all_goals go_roundg m
     all_goals first
      |omega
      |(obtain⟨a,G,hi⟩:=hP.o
        obtain⟨W,g2,g3⟩:=a.item G hi (x:=f) (w1:=(c.alloc (Qf #[Qc f] 3)).drew) ⟨rfl,rfl,rfl,by simp[World.drew]⟩ (fun _ p=>On p) k2 y (z4.imp id (fun e=>e.t (by simp[World.drew])));exact⟨kM f b,_,_,_,W,g2,(fun k p=>aX1 g3 p),u,by simp[kM];omega,r,HT.o⟩)
  ·have HF:Hid (dY T=C):=by
    rw[Hid,<-HR.o];cases gk
    ·rfl
    ·exact if_neg j
   have j7:(C.a==0)=false\/((C.a==0)=true/\((aE T C.i).d !=0)=false):=by
    by_cases h0:C.a=0
    ·exact .r ⟨by simp[h0],by simpa using fun e=>j ⟨h0,e⟩⟩
    ·exact .l (by simp[h0])
   clear j hm HR z3;rcases j7 with t0|⟨t0,k0⟩
   all_goals
    go_upto_region 0 with fail
    go_quiet (fail)
    go_wp2;go_end0
    rw[HF.o];exact⟨rfl,a4,a3,Vr,N.drewN _,xc.drewN _,hi⟩
end
end Go.Proofs.YtikffmloeifkpaaGreatDoor
