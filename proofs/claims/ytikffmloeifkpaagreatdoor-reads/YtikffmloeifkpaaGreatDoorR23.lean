/- Contracts. -/
import Derived.Test.YtikffmloeifkpaaGreatDoorR22
namespace Go.Proofs.YtikffmloeifkpaaGreatDoor
open Go.RowKit Go.Lib Go.Deep
section
variable {H X U:Nat} {I A F:List Int} {m:Int} {Y vI D M:Value} {V:List V3} {C:List NQ} {S:List (ByteArray × Int)} {FQ:List (Nat × Nat)}
theorem kY.wide{x:Int}{f:Ns->Ns}{lo hi lo' hi':Int}{K E:Int->Prop}(h:kY H X U I A F m Y vI D M V C x f lo hi K)(o:lo'<=lo)(p:hi<=hi')(a:∀ j,E j->K j):kY H X U I A F m Y vI D M V C x f lo' hi' E:=
 ⟨⟨h.1.1,fun j q=>Oi (h.1.2 j (a j q))⟩,fun s L B R w a1 c u d=>(h.2 s L B R w a1 c Oa d).mono fun e y ⟨b1,g,v,b,r,t,i,k,l,n⟩=>⟨b1,g,Oa,b,r,t,i,k,l.wide o p,n.sub a⟩⟩
theorem fH.one{x:Int}{f:Ns->Ns}{lo hi:Int}{K:Int->Prop}(h:kY H X U I A F m Y vI D M V C x f lo hi K)(h0:lo<=hi):fH H X U I A F m Y vI D M V C [x] f lo hi K:=
 ⟨f,id,hi,K,fun _=>False,h,⟨fun _=>rfl,Int.le_refl _,fun _ h=>h⟩,fun _=>rfl,h0,fun _=> .l⟩
theorem fH.o{x:Int}{f:Ns->Ns}{lo hi:Int}{K:Int->Prop}(h:fH H X U I A F m Y vI D M V C [x] f lo hi K):kY H X U I A F m Y vI D M V C x f lo hi K:=by
 obtain⟨g,p,q,n,o,a,⟨b,c,k⟩,d,_,i⟩:=h;have e:f=g:=funext fun s=>by rw[d,b]
 subst e;exact a.wide (Int.le_refl _) c (fun j l=>(i j l).resolve_right (k j))
theorem fH.wide:∀ {b:List Int} {f:Ns->Ns} {lo hi a:Int} {K:Int->Prop},fH H X U I A F m Y vI D M V C b f lo hi K->hi<=a->fH H X U I A F m Y vI D M V C b f lo a K
 |[],_,_,_,_,_,h,h2=>⟨h.1,Int.le_trans h.2.1 h2,h.2.2⟩
 |_::_,_,_,_,_,_,⟨g,f2,k,K1,K2,a1,a2,a3,a4,a5⟩,h2=>⟨g,f2,k,K1,K2,a1,a2.wide h2,a3,a4,a5⟩
theorem fH.app:∀ {d c:List Int} {f g:Ns->Ns} {lo b hi:Int} {K E:Int->Prop},fH H X U I A F m Y vI D M V C d f lo b K->fH H X U I A F m Y vI D M V C c g b hi E->fH H X U I A F m Y vI D M V C (d++c) (fun s=>g (f s)) lo hi (fun j=>K j\/E j)
 |[],[],f,g,_,_,_,_,_,h,k=>⟨fun s=>by dsimp only;rw[h.1,k.1],Int.le_trans h.2.1 k.2.1,fun j a=>a.elim (h.2.2 j) (k.2.2 j)⟩
 |[],y::c,f,g,lo,b,hi,_,_,h,⟨g1,f2,kk,K1,K2,a1,a2,a3,a4,a5⟩=>⟨g1,f2,kk,K1,K2,a1.wide h.2.1 (Int.le_refl _) (fun _ h=>h),a2,fun s=>by dsimp only;rw[h.1,a3],Int.le_trans h.2.1 a4,fun j a=>a.elim (fun e=>absurd e (h.2.2 j)) (a5 j)⟩
 |_::_,_,f,g,_,_,_,_,E,⟨g1,f2,kk,K1,K2,a1,a2,a3,a4,a5⟩,k=>⟨g1,fun s=>g (f2 s),kk,K1,_,a1,a2.app k,fun s=>by dsimp only;rw[a3],a4,fun j a=>a.elim (fun e=>(a5 j e).imp id .l) (fun e=> .r (.r e))⟩
theorem NX.len{L:List NQ}:∀ {t:Tr} {c:List Int} {lo hi:Int},NX L t c lo hi->(c.length:Int)<=hi - lo:=by
 intro t
 induction t with
 |nil=>
  intro c lo hi h;obtain⟨rfl,h⟩:=h;simp;omega
 |node b o a l r ihl ihr=>
  intro c lo hi h;unfold NX at h
  by_cases k0:a.a=15
  ·rw[if_pos k0]at h;obtain⟨x,u,m,rfl,d,k⟩:=h;have:=ihl d;have:=ihr k;simp only[List.length_cons,List.length_nil]at*;omega
  rw[if_neg k0]at h
  by_cases i:a.a=20
  ·rw[if_pos i]at h;exact ihl h
  rw[if_neg i]at h
  by_cases f:a.a=4
  ·rw[if_pos f]at h;exact ihl h
  rw[if_neg f]at h
  by_cases j:a.a=18
  ·rw[if_pos j]at h;obtain⟨x,q,_,_,n,g⟩:=h;have:=n.le;rcases g with⟨rfl,_,g⟩|⟨e,m,rfl,_,_,p,s⟩
   ·simp;omega
   ·have:=p.le;simp;omega
  ·rw[if_neg j]at h;obtain⟨x,q,rfl,_,h0,d,_⟩:=h;simp;omega
theorem NX.lenL{L:List NQ}:∀ {t:Tr} {d:List Int} {lo hi:Int},Ws 13 t->NX L t d lo hi->d.length=YtikffmloeifkpaaGreatDoor.bG t:=by
 intro t
 induction t with
 |nil=>
  intro d lo hi _ h;rw[h.1];rfl
 |node b o a l r _ ihr=>
  intro d lo hi c h;unfold Ws at c;obtain⟨_,_,c⟩:=c;unfold NX at h
  by_cases h0:a.a=15
  ·rw[if_pos h0]at h;obtain⟨x,f,m,rfl,_,e⟩:=h;rw[h0]at c;have:=ihr c.2 e;simp[YtikffmloeifkpaaGreatDoor.bG,this]
  ·exfalso;simp[mD,h0]at c
theorem NX.lenV{L:List NQ}{t:Tr}{d:List Int}{lo hi:Int}(c:Ws 3 t)(h:NX L t d lo hi):d.length=YtikffmloeifkpaaGreatDoor.aJ t:=by
 cases t with
 |nil=>rw[h.1];rfl
 |node b o a l r=>
  unfold Ws at c;obtain⟨_,_,c⟩:=c
  by_cases h0:a.a=20
  ·unfold NX at h;rw[Oh,if_pos h0]at h;rw[h0]at c;exact h.lenL c.1
  ·exfalso;simp[mD,h0]at c
theorem aY5{o:Int}(h:27<=o/\o<=31):(sp o.toNat=aH4\/sp o.toNat=aKQ)↔(o=30\/o=31):=by
 obtain⟨a,b⟩:=h;rcases(by omega:o=27\/o=28\/o=29\/o=30\/o=31)with e|e|e|e|e<;>subst e<;>decide
theorem rG{n:NQ}{a:Nd}{c:Nat}(s:Ns)(i:vJ a)(h:(a.a=0/\n.d=3)\/(a.a=1/\n.d=4/\n.at_=a.b/\n.s=a.h)\/(a.a=2/\n.d=5/\n.at_=a.b/\n.s=a.h)\/(a.a=3/\n.d=6/\n.at_=a.b/\n.s=a.h/\n.c.length=c)\/(a.a=5/\n.d=7)
   \/(a.a=6/\n.d=8/\n.at_=a.e/\n.s=sp a.op.toNat)\/(a.a=7/\n.d=9)\/(a.a=8/\(n.d=10\/n.d=11))\/(a.a=9/\a.flag=false/\n.d=13/\n.at_=a.b/\n.s=a.h)\/(a.a=10/\n.d=14/\n.at_=a.b/\n.s=a.h)
   \/(11<=a.a/\15<=n.d)):
 nY S FQ n s=nm1 S FQ a c s:=by
 unfold nY kG nm1;rcases h with⟨d,b⟩|⟨d,b,e,f⟩|⟨d,b,e,f⟩|⟨d,b,e,f,g⟩|⟨d,b⟩|⟨d,b,e,f⟩|⟨d,b⟩|⟨d,b⟩|⟨d,h0,b,e,f⟩|⟨d,b,e,f⟩|⟨d,b⟩
 ·simp[d,b]
 ·simp[d,b,e,f]
 ·simp[d,b,e,f]
 ·simp[d,b,e,f,g]
 ·simp[d,b]
 ·have:=aY5 (i.op6 d);rw[f,e,b];simp only[this]
  by_cases q:a.op=30\/a.op=31
  ·simp[d,q]
  ·simp[d,q]
 ·simp[d,b]
 ·rcases b with b|b<;>simp[d,b]
 ·simp[d,h0,b,e,f]
 ·simp[d,b,e,f]
 ·have j:n.d≠4:=Oa
  have k:n.d≠13:=Oa
  have l:n.d≠5:=Oa
  have o:n.d≠14:=Oa
  have p:n.d≠6:=Oa
  have r:n.d≠8:=Oa
  have t:a.a≠1:=Oa
  have u:a.a≠9:=Oa
  have v:a.a≠2:=Oa
  have w:a.a≠10:=Oa
  have x:a.a≠3:=Oa
  have y:a.a≠6:=Oa
  simp[j,k,l,o,p,r,t,u,v,w,x,y]
theorem aWC(l:aBX C I S)(k:aAN C F FQ)(g:∀ x,dA x 1 S 0 < A.length)(d:∀ x,dA x 2 S 0 < F.length)(p:I.length<=100000)(o:F.length<=100000)(q:C.length<=100000){x lo hi:Int}{n:NQ}{K:Int->Prop}(a:jM C x n)(h0:0<=lo)(u:x < hi)(i:n.d≠12)(r:(n.c.length:Int)<=x - lo){f:Ns->Ns}(b:fH H X U I A F m Y vI D M V C n.c f lo x K):
 fH H X U I A F m Y vI D M V C [x] (fun s=>f (nY S FQ n s)) lo hi (fun j=>j=x\/K j):=by
 have t:=a.lt;have c:=a.1;have e:((x.toNat:Nat):Int)=x:=Int.toNat_of_nonneg c;have h:=aY7 (X:=X) (U:=U) (m:=m) (Y:=Y) (vI:=vI) (D:=D) (M:=M) (V:=V) (A:=A) (H:=H) l k g d p o Oa a.2 i Oa (lo:=lo) (f:=f) (K:=K) (by rw[e];exact b);rw[e]at h;exact fH.one (h.wide (Int.le_refl _) Oa (fun _ h=>h)) (Oi b.le)
def okB(s:Nat):Bool:=s !=6&&s !=7&&s !=8&&s !=16&&s !=18&&s !=22&&s !=23
def aZO(s n:Nat):Bool:=match mD s n with
 |none=>true
 |some (x,y)=>!okB s||(okB x&&okB y&&(decide (n<=15)||n==18||n==20)&&(!(decide (n<=5)||n==9||n==13||n==14||n==20)||y==99)&&(!decide (n<=1)||x==99)&&(n !=3||x==3))
theorem aUX:(List.range 24).all (fun s=>(List.range 21).all (fun n=>aZO s n))=true:=by decide+kernel
theorem aRH{s n:Nat}{p:Nat × Nat}(h:mD s n=some p):s < 24/\n < 21:=by
 constructor
 ·refine Nat.lt_of_not_le fun a=>?_;unfold mD at h;rw[Oh,Oh,Oh,Oh,Oh,Oh,Oh,Oh,Oh,Oh,Oh,Oh,Oh,Oh,Oh]at h;cases h
 ·refine Nat.lt_of_not_le fun a=>?_;unfold mD at h;have e:∀ k,k < 21->n≠k:=fun k b e=>Oa
  have l:∀ k,k < 21->¬n<=k:=fun k b e=>Oa
  simp[e,l]at h
theorem aXV{s n x y:Nat}(h:mD s n=some (x,y))(f:okB s=true):okB x=true/\okB y=true/\(n<=15\/n=18\/n=20)/\((n<=5\/n=9\/n=13\/n=14\/n=20)->y=99)/\(n<=1->x=99)/\(n=3->x=3):=by
 obtain⟨c,d⟩:=aRH h;have a:=List.all_eq_true.1 (List.all_eq_true.1 aUX s (List.mem_range.2 c)) n (List.mem_range.2 d);unfold aZO at a;rw[h]at a;simp only[f,Bool.not_true,Bool.false_or,Bool.and_eq_true,Bool.or_eq_true,decide_eq_true_eq,beq_iff_eq,Bool.not_eq_true',Bool.or_eq_false_iff,decide_eq_false_iff_not,bne_iff_ne,beq_eq_false_iff_ne]at a;obtain⟨⟨⟨⟨⟨a1,b⟩,g⟩,i⟩,j⟩,k⟩:=a;exact⟨a1,b,Oa,fun e=>Oa,fun e=>Oa,fun e=>Oa⟩
def cK(k:Int):Nat:=if k < 3 then 4 else if k<=8 then 0 else if k<=11 then 1 else if k<=18 then 2 else if k=19 then 3 else 4
def cS(s:Nat):Nat:=if s=0\/s=3\/s=13\/s=21 then 0 else if s=1\/s=5\/s=15\/s=20 then 1 else if s=2\/s=4\/s=14 then 2 else if s=9 then 3 else 4
def cT(n:Nat):Nat:=if n<=6 then 0 else if n<=8 then 1 else 2
def uK(s n x y:Nat):Bool:=
 if n=15 then cS x==cS s&&cS y==cS s
 else if n=4\/n=20 then cS x==cS s
 else if n=18 then cS s==3&&cS x==2&&cS y==2
 else cT n==cS s&&(if n<=1 then true else if n=8 then cS x==1&&cS y==1 else if n=11 then cS x==1&&cS y==3 else if n=12 then cS x==1&&cS y==2 else cS x==0&&(!(n==6||n==7||n==10)||cS y==0))
theorem aRI:(List.range 24).all (fun s=>(List.range 21).all (fun n=>match mD s n with|none=>true|some (x,y)=>!okB s||uK s n x y))=true:=by decide+kernel
theorem aXW{s n x y:Nat}(h:mD s n=some (x,y))(d:okB s=true):uK s n x y=true:=by
 obtain⟨b,c⟩:=aRH h;have a:=List.all_eq_true.1 (List.all_eq_true.1 aRI s (List.mem_range.2 b)) n (List.mem_range.2 c);rw[h]at a;simpa[d]using a
def zQ(L:List NQ)(K:Int->Prop)(i:Int)(c:Nat)(y:Int):Prop:=K y/\y < i/\∃ n,jM L y n/\cK n.d=c
def WfK(L:List NQ)(K:Int->Prop)(i:Int)(n:NQ):Prop:=
 (((n.d=3/\-999999999<=n.n/\n.n<=999999999)\/n.d=4)/\n.c=[])\/(n.d=6/\∀ y∈n.c,zQ L K i 0 y)\/(n.d=19/\∀ y∈n.c,zQ L K i 2 y)
  \/((n.d=5\/n.d=7\/n.d=12\/n.d=13\/n.d=17\/n.d=18)/\∃ y,n.c=[y]/\zQ L K i 0 y)
  \/((n.d=8\/n.d=9\/n.d=14)/\∃ y z,n.c=[y,z]/\zQ L K i 0 y/\zQ L K i 0 z)
  \/((n.d=10\/n.d=11)/\∃ y z,n.c=[y,z]/\zQ L K i 1 y/\zQ L K i 1 z)
  \/((n.d=15\/n.d=16)/\∃ c b r,n.c=c::b::r/\zQ L K i 1 c/\zQ L K i 3 b/\(r=[]\/n.d=15/\∃ e,r=[e]/\zQ L K i 3 e))
def Cl(L:List NQ)(K:Int->Prop):Prop:=∀ i,K i->∃ n,jM L i n/\WfK L K i n
section
variable {L:List NQ} {K E:Int->Prop} {i x y:Int} {c:Nat} {n:NQ}
theorem zQ.mono(h:zQ L K i c y)(a:∀ j,K j->E j):zQ L E i c y:=⟨a _ h.1,h.2⟩
theorem WfK.mono(h:WfK L K i n)(d:∀ k,K k->E k):WfK L E i n:=by
 rcases h with h|⟨h,a⟩|⟨h,a⟩|⟨h,y,a,f⟩|⟨h,y,z,a,f,g⟩|⟨h,y,z,a,f,g⟩|⟨h,c,b,r,a,f,g,p⟩
 ·exact .l h
 ·exact .r (.l ⟨h,fun y j=>(a y j).mono d⟩)
 ·exact .r (.r (.l ⟨h,fun y j=>(a y j).mono d⟩))
 ·exact .r (.r (.r (.l ⟨h,y,a,f.mono d⟩)))
 ·exact .r (.r (.r (.r (.l ⟨h,y,z,a,f.mono d,g.mono d⟩))))
 ·exact .r (.r (.r (.r (.r (.l ⟨h,y,z,a,f.mono d,g.mono d⟩)))))
 ·exact .r (.r (.r (.r (.r (.r ⟨h,c,b,r,a,f.mono d,g.mono d,p.imp id (fun⟨e1,e,l,o⟩=>⟨e1,e,l,o.mono d⟩)⟩)))))
theorem Cl.or(h:Cl L K)(k:Cl L E):Cl L (fun j=>K j\/E j):=fun i hi=>hi.elim (fun e=>by
 obtain⟨n,a,b⟩:=h i e;exact⟨n,a,b.mono (fun _=> .l)⟩) (fun e=>by
 obtain⟨n,a,b⟩:=k i e;exact⟨n,a,b.mono (fun _=> .r)⟩)
theorem Cl.node(h:Cl L K)(d:jM L x n)(f:WfK L K x n):Cl L (fun j=>j=x\/K j):=fun i hi=>hi.elim (fun e=>by
 subst e;exact⟨n,d,f.mono (fun _=> .r)⟩) (fun e=>by
 obtain⟨n,a,b⟩:=h i e;exact⟨n,a,b.mono (fun _=> .r)⟩)
end
section
variable (H X U:Nat) (I A F:List Int) (m:Int) (Y vI D M:Value) (V:List V3) (C:List NQ)
def KD(xs:List Int)(f:Ns->Ns)(lo hi:Int)(c:Nat):Prop:=∃ K,fH H X U I A F m Y vI D M V C xs f lo hi K/\Cl C K/\∀ y∈xs,K y/\∃ n,jM C y n/\cK n.d=c
end
theorem KD.app{d j:List Int}{f g:Ns->Ns}{lo mid hi:Int}{c:Nat}(h:KD H X U I A F m Y vI D M V C d f lo mid c)(k:KD H X U I A F m Y vI D M V C j g mid hi c):KD H X U I A F m Y vI D M V C (d++j) (fun s=>g (f s)) lo hi c:=by
 obtain⟨K,l,o,a⟩:=h;obtain⟨E,q,r,b⟩:=k;refine⟨_,l.app q,o.or r,fun y p=>?_⟩;rcases List.mem_append.1 p with e|e
 ·exact⟨.l (a y e).1,(a y e).2⟩
 ·exact⟨.r (b y e).1,(b y e).2⟩
theorem KD.ins{d:List Int}{f:Ns->Ns}{lo hi x:Int}{c:Nat}(h:KD H X U I A F m Y vI D M V C d f lo hi c)(j:hi<=x):∃ K,fH H X U I A F m Y vI D M V C d f lo hi K/\Cl C K/\∀ y∈d,zQ C K x c y:=by
 obtain⟨K,e,g,a⟩:=h;refine⟨K,e,g,fun y b=>⟨(a y b).1,?_,(a y b).2⟩⟩;have:=e.tame.2 y (a y b).1;omega
theorem aJZ{t:Tr}(h:Ws 99 t):t= .nil:=by
 cases t with
 |nil=>rfl
 |node b o a l r=>
  unfold Ws at h;have e:mD 99 a.a=none:=by simp[mD]
  rw[e]at h;exact h.2.2.elim
theorem aY8{a:Nd}{c:Nat}(s:Ns)(h:a.a≠1/\a.a≠2/\a.a≠3/\a.a≠6/\a.a≠9/\a.a≠10):nm1 S FQ a c s=s:=by
 obtain⟨b,d,e,f,g,j⟩:=h;unfold nm1;simp[b,d,e,f,g,j]
theorem aVC{n:NQ}(s:Ns)(h:15<=n.d):nY S FQ n s=s:=by
 have a:n.d≠4:=Oa
 have b:n.d≠13:=Oa
 have d:n.d≠5:=Oa
 have e:n.d≠14:=Oa
 have f:n.d≠6:=Oa
 have g:n.d≠8:=Oa
 unfold nY kG;simp[a,b,d,e,f,g]
theorem pP{b o:Nat}{a:Nd}{l r:Tr}(h: ¬(a.a=9/\a.flag=true)):mQ S FQ (.node b o a l r)=fun s=>mQ S FQ r (mQ S FQ l (nm1 S FQ a (YtikffmloeifkpaaGreatDoor.aJ l) s)):=
 funext fun s=>by rw[mQ,if_neg h]
theorem yX{b o:Nat}{a:Nd}{l r:Tr}(h:a.a≠1/\a.a≠2/\a.a≠3/\a.a≠6/\a.a≠9/\a.a≠10):mQ S FQ (.node b o a l r)=fun s=>mQ S FQ r (mQ S FQ l s):=by
 rw[pP (fun e=>h.2.2.2.2.1 e.1)]
 funext s
 rw[aY8 _ h]
end
section
variable {H X U:Nat} {I A F:List Int} {m:Int} {Y vI D M:Value} {V:List V3} {B:List NQ} {S:List (ByteArray × Int)} {FQ:List (Nat × Nat)}
theorem aK3{d:Nat}(h:cS d=3){r:Tr}(k:Ws d r){L:List NQ}{g:List Int}{lo hi:Int}(p:NX L r g lo hi):∃ b f,g=b::f/\(f=[]\/∃ e,f=[e]):=by
 have j:d=9:=by
  grind[cS]
 subst j;cases r with
 |nil=>simp[Ws,eX]at k
 |node b o a l r=>
  grind[Ws,NX,mD]
section
variable (N:aBX B I S) (hF:aAN B F FQ) (E:∀ x,dA x 1 S 0 < A.length) (C:∀ x,dA x 2 S 0 < F.length) (G:I.length<=100000) (O:F.length<=100000) (J:B.length<=100000)
include N hF E C G O J
theorem aN5{x lo hi:Int}{n:NQ}{K:Int->Prop}{f:Ns->Ns}(a:jM B x n)(h0:0<=lo)(j:x < hi)(b:n.d≠12)(g:(n.c.length:Int)<=x - lo)(e:fH H X U I A F m Y vI D M V B n.c f lo x K)(d:Cl B K)(h:WfK B K x n):KD H X U I A F m Y vI D M V B [x] (fun s=>f (nY S FQ n s)) lo hi (cK n.d):=
 ⟨_,aWC N hF E C G O J a h0 j b g e,d.node a h,fun y k=>by
   rw[List.mem_singleton.1 k];exact⟨.l rfl,n,a,rfl⟩⟩
theorem aCD{x lo hi:Int}{n:NQ}{f:Ns->Ns}(k:jM B x n)(h0:0<=lo)(l:x < hi)(a:n.d=19)(j:(n.c.length:Int)<=x - lo)(h:KD H X U I A F m Y vI D M V B n.c f lo x 2):KD H X U I A F m Y vI D M V B [x] f lo hi 3:=by
 obtain⟨K,b,d,g⟩:=h.ins (Int.le_refl x);have:=aN5 N hF E C G O J k h0 l Oa j b d (.r (.r (.l ⟨a,g⟩)));have e:(fun s=>f (nY S FQ n s))=f:=funext fun s=>by rw[aVC _ Oa]
 rw[e,a]at this;exact this
set_option maxHeartbeats 2000000 in
theorem aFP:
 ∀ (t:Tr) (s:Nat) (xs:List Int) (lo hi:Int),okB s=true->Ws s t->0<=lo->NX B t xs lo hi->KD H X U I A F m Y vI D M V B xs (mQ S FQ t) lo hi (cS s):=by
 intro t
 induction t with
 |nil=>
  intro s xs lo hi _ _ _ h;obtain⟨rfl,h⟩:=h;exact⟨fun _=>False,⟨fun _=>rfl,h,fun _ e=>e⟩,fun _ e=>e.elim,fun _ e=>by cases e⟩
 |node b o a l r ihl ihr=>
  intro s xs lo hi hp hw k0 h;unfold Ws at hw;obtain⟨Q,_,hw⟩:=hw;cases hs:mD s a.a with
  |none=>rw[hs]at hw;exact hw.elim
  |some p=>
  obtain⟨x',y'⟩:=p;rw[hs]at hw;obtain⟨hl,hr⟩:=hw;obtain⟨px,py,b9,b7,b6,x3⟩:=aXV hs hp;have f:=aXW hs hp;have T:(a.a<=5\/a.a=9\/a.a=13\/a.a=14\/a.a=20)->r= .nil:=fun e=>aJZ (b7 e ▸ hr);have L:=fun xs lo hi=>ihl x' xs lo hi px hl;have a2:=fun xs lo hi=>ihr y' xs lo hi py hr;unfold NX at h
  by_cases k7:a.a=15
  ·rw[if_pos k7]at h;obtain⟨x,ys,m,rfl,h1,h2⟩:=h;rw[yX Oa];have:=h1.le;rw[k7]at f;simp[uK]at f;have q:=L _ _ _ k0 h1;have z:=a2 _ _ _ Oa h2;rw[f.1]at q;rw[f.2]at z;exact q.app z
  rw[if_neg k7]at h
  by_cases k9:a.a=20
  ·rw[if_pos k9]at h;rw[yX Oa,T Oa];rw[k9]at f;simp[uK]at f;rw[<-f];exact L _ _ _ k0 h
  rw[if_neg k9]at h
  by_cases h4:a.a=4
  ·rw[if_pos h4]at h;rw[yX Oa,T Oa];rw[h4]at f;simp[uK]at f;rw[<-f];exact L _ _ _ k0 h
  rw[if_neg h4]at h
  by_cases k6:a.a=18
  ·rw[if_pos k6]at h;rw[yX Oa];rw[k6]at f;simp[uK]at f;obtain⟨⟨q1,q2⟩,q3⟩:=f;rw[q1];obtain⟨x,n,Z,hk,d,h5⟩:=h;have e3:=d.le;have q:=L _ _ _ k0 d;rw[q2]at q;have hb:∀ hi,x < hi->KD H X U I A F m Y vI D M V B [x] (mQ S FQ l) lo hi 3:=fun hi hh=>aCD N hF E C G O J Z k0 hh hk d.len q;rcases h5 with⟨rfl,rfl,h5⟩|⟨e,m2,rfl,h6,h7,h8,h9⟩
   ·exact hb _ h5
   ·have e8:=h8.le;have z:=a2 _ _ _ Oa h8;rw[q3]at z;exact(hb (x+1) Oa).app (aCD N hF E C G O J h6 Oa h9 h7 h8.len z)
  rw[if_neg k6]at h;obtain⟨x,n,rfl,Z,h0,h1,d⟩:=h
  have cs:cT a.a=cS s:=by
   unfold uK at f;rw[if_neg k7,Oh,if_neg k6]at f;simp only[Bool.and_eq_true,beq_iff_eq]at f;exact f.1
  have one:(∃ y,n.c=[y]/\NX B l [y] lo x)->r= .nil->cS x'=0->∃ K,fH H X U I A F m Y vI D M V B n.c (fun s=>mQ S FQ r (mQ S FQ l s)) lo x K/\(n.c.length:Int)<=x - lo/\Cl B K/\∃ y,n.c=[y]/\zQ B K x 0 y:=fun⟨y,v,u⟩ P g4=>by
   subst P;rw[v];have q:=L _ _ _ k0 u;rw[g4]at q;obtain⟨K,j,k,g⟩:=q.ins (Int.le_refl x);exact⟨K,j,u.len,k,y,rfl,g y Od⟩
  have two:∀ c,(∃ y W m,n.c=[y,W]/\NX B l [y] lo m/\NX B r [W] m x)->cS x'=c->cS y'=c->∃ K,fH H X U I A F m Y vI D M V B n.c (fun s=>mQ S FQ r (mQ S FQ l s)) lo x K/\(n.c.length:Int)<=x - lo/\Cl B K/\∃ y W,n.c=[y,W]/\zQ B K x c y/\zQ B K x c W:=fun c ⟨y,W,b3,v,u,P⟩ g4 g5=>by
   rw[v];have:=u.le;have e2:=u.len;have e3:=P.len;have q:=L _ _ _ k0 u;have z:=a2 _ _ _ Oa P;rw[g4]at q;rw[g5]at z;obtain⟨K,j,k,g⟩:=(q.app z).ins (Int.le_refl x);exact⟨K,j,by simp only[List.length_cons,List.length_nil]at*;omega,k,y,W,rfl,g y Od,g W Od⟩
  have b4:n.c=[]->a.a<=1->fH H X U I A F m Y vI D M V B n.c (fun s=>mQ S FQ r (mQ S FQ l s)) lo x (fun _=>False)/\(n.c.length:Int)<=x - lo:=fun v u=>by
   have y4:l= .nil:=aJZ (by rw[<-b6 u];exact hl);rw[v,T Oa,y4];exact⟨⟨fun _=>rfl,h0,fun _ e=>e⟩,by simp;omega⟩
  have fin:∀ {K:Int->Prop},¬(a.a=9/\a.flag=true)->n.d≠12->cK n.d=cT a.a->(∀ s,nY S FQ n s=nm1 S FQ a (YtikffmloeifkpaaGreatDoor.aJ l) s)->fH H X U I A F m Y vI D M V B n.c (fun s=>mQ S FQ r (mQ S FQ l s)) lo x K->(n.c.length:Int)<=x - lo->Cl B K->WfK B K x n->KD H X U I A F m Y vI D M V B [x] (mQ S FQ (.node b o a l r)) lo hi (cS s):=fun v u gc P g4 g5 g6 g7=>by
   have:=aN5 N hF E C G O J Z k0 h1 u g5 g4 g6 g7;rw[pP v,<-cs,<-gc];simp only[P]at this;exact this
  by_cases t0:a.a=0
  ·rw[if_pos t0]at d;obtain⟨n1,n2⟩:=b4 d.2.2 Oa;exact fin Oa Oa (by rw[d.1,t0];rfl) (fun s=>rG s Q (.l ⟨t0,d.1⟩)) n1 n2 (fun _ e=>e.elim) (.l ⟨.l ⟨d.1,by rw[d.2.1];exact(Q.g (.l t0)).1,by rw[d.2.1];exact(Q.g (.l t0)).2⟩,d.2.2⟩)
  rw[if_neg t0]at d
  by_cases t1:a.a=1
  ·rw[if_pos t1]at d;obtain⟨n1,n2⟩:=b4 d.2.2.2 Oa;exact fin Oa Oa (by rw[d.1,t1];rfl) (fun s=>rG s Q (.r (.l ⟨t1,d.1,d.2.1,d.2.2.1⟩))) n1 n2 (fun _ e=>e.elim) (.l ⟨.r d.1,d.2.2.2⟩)
  rw[if_neg t1]at d
  by_cases t2:a.a=2
  ·rw[if_pos t2]at d;rw[t2]at f;simp[uK]at f;obtain⟨K,j,k,g,w⟩:=one d.2.2.2 (T Oa) f.2;exact fin Oa Oa (by rw[d.1,t2];rfl) (fun s=>rG s Q (.r (.r (.l ⟨t2,d.1,d.2.1,d.2.2.1⟩)))) j k g (.r (.r (.r (.l ⟨Oa,w⟩))))
  rw[if_neg t2]at d
  by_cases t3:a.a=3
  ·rw[if_pos t3]at d;have y3:=x3 t3 ▸ hl;rw[t3]at f;simp[uK]at f;have q:=L _ _ _ k0 d.2.2.2;rw[f.2]at q;obtain⟨K,j,k,g⟩:=q.ins (Int.le_refl x);have y2:=T Oa;refine fin (K:=K) Oa Oa (by rw[d.1,t3];rfl) (fun s=>rG s Q (.r (.r (.r (.l ⟨t3,d.1,d.2.1,d.2.2.1,d.2.2.2.lenV y3⟩))))) ?_ d.2.2.2.len k (.r (.l ⟨d.1,g⟩));rw[y2];exact j
  rw[if_neg t3]at d
  by_cases t5:a.a=5
  ·rw[if_pos t5]at d;rw[t5]at f;simp[uK]at f;obtain⟨K,j,k,g,w⟩:=one d.2 (T Oa) f.2;exact fin Oa Oa (by rw[d.1,t5];rfl) (fun s=>rG s Q (.r (.r (.r (.r (.l ⟨t5,d.1⟩)))))) j k g (.r (.r (.r (.l ⟨Oa,w⟩))))
  rw[if_neg t5]at d
  by_cases t6:a.a=6
  ·rw[if_pos t6]at d;rw[t6]at f;simp[uK]at f;obtain⟨K,j,k,g,w⟩:=two 0 d.2.2.2 f.2.1 f.2.2;exact fin Oa Oa (by rw[d.1,t6];rfl) (fun s=>rG s Q (.r (.r (.r (.r (.r (.l ⟨t6,d.1,d.2.1,d.2.2.1⟩))))))) j k g (.r (.r (.r (.r (.l ⟨Oa,w⟩)))))
  rw[if_neg t6]at d
  by_cases t7:a.a=7
  ·rw[if_pos t7]at d;rw[t7]at f;simp[uK]at f;obtain⟨K,j,k,g,w⟩:=two 0 d.2.2 f.2.1 f.2.2;exact fin Oa Oa (by rw[d.1,t7];rfl) (fun s=>rG s Q (.r (.r (.r (.r (.r (.r (.l ⟨t7,d.1⟩)))))))) j k g (.r (.r (.r (.r (.l ⟨Oa,w⟩)))))
  rw[if_neg t7]at d
  by_cases t8:a.a=8
  ·rw[if_pos t8]at d
   have hk:n.d=10\/n.d=11:=by
    rw[d.1];split<;>simp
   rw[t8]at f;simp[uK]at f;obtain⟨K,j,k,g,w⟩:=two 1 d.2 f.2.1 f.2.2;exact fin Oa Oa (by rw[t8];rcases hk with e|e<;>rw[e]<;>rfl) (fun s=>rG s Q (.r (.r (.r (.r (.r (.r (.r (.l ⟨t8,hk⟩))))))))) j k g (.r (.r (.r (.r (.r (.l ⟨hk,w⟩))))))
  rw[if_neg t8]at d
  by_cases t9:a.a=9
  ·rw[if_pos t9]at d;rw[t9]at f;simp[uK]at f;cases hfl:a.flag with
   |false=>
    rw[hfl]at d;have R:n.d=13:=by simpa using d.1
    obtain⟨K,j,k,g,w⟩:=one d.2.2.2 (T Oa) f.2;exact fin (by simp[hfl]) Oa (by rw[R,t9];rfl) (fun s=>rG s Q (.r (.r (.r (.r (.r (.r (.r (.r (.l ⟨t9,hfl,R,d.2.1,d.2.2.1⟩)))))))))) j k g (.r (.r (.r (.l ⟨Oa,w⟩))))
   |true=>
    rw[hfl]at d;have R:n.d=12:=by simpa using d.1
    obtain⟨y,v,u⟩:=d.2.2.2;have y1:=Z.1;have b8:=Z.lt;have e:((x.toNat:Nat):Int)=x:=Int.toNat_of_nonneg y1;have q:=L _ _ _ k0 u;rw[f.2]at q;obtain⟨K,j,k,g⟩:=q.ins (Int.le_refl x);have:=aZX (X:=X) (U:=U) (m:=m) (Y:=Y) (vI:=vI) (D:=D) (M:=M) (V:=V) (A:=A) (H:=H) (I:=I) (F:=F) (K:=K) Oa Z.2 R v (by rw[e];exact h0) (by rw[e];exact j.o);rw[e]at this;have e2:mQ S FQ (.node b o a l r)=fun s=>(mQ S FQ l s).letQ n.s n.at_:=funext fun s=>by rw[mQ,if_pos ⟨t9,hfl⟩,d.2.1,d.2.2.1]
    rw[e2];refine⟨_,fH.one (this.wide (Int.le_refl _) Oa (fun _ h=>h)) Oa,k.node Z (.r (.r (.r (.l ⟨Oa,y,v,g y Od⟩)))),fun W G=>?_⟩;rw[List.mem_singleton.1 G];exact⟨.l rfl,n,Z,by rw[<-cs,t9,R];rfl⟩
  rw[if_neg t9]at d
  by_cases a4:a.a=10
  ·rw[if_pos a4]at d;rw[a4]at f;simp[uK]at f;obtain⟨K,j,k,g,w⟩:=two 0 d.2.2.2 f.2.1 f.2.2;exact fin Oa Oa (by rw[d.1,a4];rfl) (fun s=>rG s Q (.r (.r (.r (.r (.r (.r (.r (.r (.r (.l ⟨a4,d.1,d.2.1,d.2.2.1⟩))))))))))) j k g (.r (.r (.r (.r (.l ⟨Oa,w⟩)))))
  rw[if_neg a4]at d;have own:11<=a.a->15<=n.d->∀ s,nY S FQ n s=nm1 S FQ a (YtikffmloeifkpaaGreatDoor.aJ l) s:=fun v u s=>rG s Q (.r (.r (.r (.r (.r (.r (.r (.r (.r (.r ⟨v,u⟩))))))))))
  by_cases a6:a.a=11
  ·rw[if_pos a6]at d;rw[a6]at f;simp[uK]at f;obtain⟨R,y,ys,b3,v,u,P⟩:=d;have e1:=u.le;have e2:=u.len;have e3:=P.len;have e4:=P.le;have q:=L _ _ _ k0 u;have z:=a2 _ _ _ Oa P;rw[f.2.1]at q;rw[f.2.2]at z;obtain⟨K,j,k,g⟩:=q.ins (x:=x) Oa;obtain⟨K',a9,b2,a5⟩:=z.ins (Int.le_refl x);obtain⟨bb,yr,k8,y0⟩:=aK3 f.2.2 hr P;refine fin (K:=fun a3=>K a3\/K' a3) Oa Oa (by rw[R,a6];rfl) (own Oa Oa) ?_ ?_ (k.or b2) (.r (.r (.r (.r (.r (.r ⟨.l R,y,bb,yr,by rw[v,k8],(g y Od).mono (fun _=> .l),(a5 bb (by simp[k8])).mono (fun _=> .r),y0.imp id (fun⟨e,he⟩=>⟨R,e,he,(a5 e (by simp[k8,he])).mono (fun _=> .r)⟩)⟩))))))
   ·rw[v];exact j.app a9
   ·rw[v];simp only[List.length_cons,List.length_nil]at*;omega
  rw[if_neg a6]at d
  by_cases a7:a.a=12
  ·rw[if_pos a7]at d;rw[a7]at f;simp[uK]at f;obtain⟨R,y,c,m2,b3,v,u,P,g4,g5,g6⟩:=d;have e1:=u.le;have e2:=u.len;have e5:=g5.le;have q:=L _ _ _ k0 u;have z:=a2 _ _ _ Oa g5;rw[f.2.1]at q;rw[f.2.2]at z;obtain⟨K,j,k,g⟩:=q.ins (x:=x) Oa;obtain⟨K',a9,b2,a5⟩:=(aCD N hF E C G O J P Oa g6 g4 g5.len z).ins (Int.le_refl x);refine fin (K:=fun a3=>K a3\/K' a3) Oa Oa (by rw[R,a7];rfl) (own Oa Oa) ?_ ?_ (k.or b2) (.r (.r (.r (.r (.r (.r ⟨.r R,y,c,[],v,(g y Od).mono (fun _=> .l),(a5 c Od).mono (fun _=> .r),.l rfl⟩))))))
   ·rw[v];exact j.app a9
   ·rw[v];simp only[List.length_cons,List.length_nil]at*;omega
  rw[if_neg a7]at d
  by_cases a8:a.a=13
  ·rw[if_pos a8]at d;rw[a8]at f;simp[uK]at f;obtain⟨K,j,k,g,w⟩:=one d.2 (T Oa) f.2;exact fin Oa Oa (by rw[d.1,a8];rfl) (own Oa Oa) j k g (.r (.r (.r (.l ⟨Oa,w⟩))))
  rw[if_neg a8]at d;have b5:a.a=14:=Oa
  rw[b5]at f;simp[uK]at f;obtain⟨K,j,k,g,w⟩:=one d.2 (T Oa) f.2;exact fin Oa Oa (by rw[d.1,b5];rfl) (own Oa Oa) j k g (.r (.r (.r (.l ⟨Oa,w⟩))))
end
end
section
variable {T Q:List aU} {r:Rd} {st:QS} {N n:Nat} {S F:Pr} {E P:QS->QS × Int}
theorem Ro.add(h:Ro r st)(a:NQ):Ro r (cQ a st):=⟨h.c,h.d,h.i,h.o,h.lo,h.hi⟩
theorem Rl.add(h:Rl r st)(a:NQ):Rl r (cQ a st):=h.elim (fun h=> .l (h.add a)) (fun h=> .r ⟨h.c,h.d,h.p⟩)
theorem aKF(a:Tw T Q)(e:Sm T Q N S E)(l:Rl r st)(h:r.b < T.length)(Z:r.a=0->T.length - r.b<=N+1){j k:Nat}(g:3<=j)(t:j < 34)(w:3<=k)(s:k < 34):
 Rl ((S (r.a0 T [(j:Int)])).1.h0 T (k:Int)) (cN Q (sp k) (E (aO Q (sp j) st)).1)/\(((S (r.a0 T [(j:Int)])).1.h0 T (k:Int)).a=0->r.a=0/\NX (E (aO Q (sp j) st)).1.L (S (r.a0 T [(j:Int)])).2 [(E (aO Q (sp j) st)).2] st.L.length (E (aO Q (sp j) st)).1.L.length):=by
 obtain⟨z,o2⟩:=aA0 a l h g t;have h0:aM [(j:Int)] 0=false:=aVD g;obtain⟨a1,b,o⟩:=cZ a.ends h h0;have q:(r.a0 T [(j:Int)]).a=0->T.length - (r.a0 T [(j:Int)]).b<=N:=(by grind[iG]);obtain⟨R,W⟩:=e.all z b q;have d:=e.go _ b
 have p:(S (r.a0 T [(j:Int)])).1.a=0->1<=(S (r.a0 T [(j:Int)])).1.c:=fun f=>by
  have u:=(W f).1;have v:=(iG u).1;have:=(l.ok v).lo;rw[d.c,o];omega
 refine⟨xQ a R d.lt p w s,fun f=>?_⟩
 grind[pH,pO,iG]
theorem aQX{j k:Int}(a:sH S)(h:r.a≠0):((S (r.a0 T [j])).1.h0 T k).a=r.a/\((S (r.a0 T [j])).1.h0 T k).e=r.e:=by
 obtain⟨b,d⟩:=oQ (T:=T) [j] h;obtain⟨e,f⟩:=a (r.a0 T [j]) Oa
 grind[lO]
theorem xN(a:sH S):∀ n r,r.a≠0->(aZ T S n r).1.a=r.a/\(aZ T S n r).1.e=r.e:=by
 intro n
 induction n with
 |zero=>exact fun _ _=>Qj
 |succ n ih=>
  intro r h;unfold aZ
  split
  ·obtain⟨b,d⟩:=qT (T:=T) [18] h;obtain⟨e,f⟩:=a (r.b0 T [18]) Oa;simp[*]
  trivial
theorem tM(b:sH S)(n:Nat):sH (dV T S n):=fun r h=>by
 obtain⟨a,d⟩:=b r h;obtain⟨e,f⟩:=xN (T:=T) b n (S r).1 (by rw[a];exact h);exact⟨e.t a,f.t d⟩
theorem aQY(b:sH S)(n:Nat):sH (jS T S n):=fun r h=>by
 obtain⟨d,e⟩:=oQ (T:=T) [12] h;have a:(r.a0 T [12]).a≠0:=Oa
 unfold jS
 split
 ·grind[lO]
 ·obtain⟨f,g⟩:=tM (T:=T) b n (r.a0 T [12]) a
  grind[dV,lO]
theorem aEY(a:sH S)(n:Nat)(t:aU):sH (gV T S n t):=fun r h=>by
 unfold gV
 split
 ·exact aQX a h
 split
 ·exact aQY a n r h
 trivial
theorem aCO(f:sH S)(hF:sH F)(n:Nat):sH (iI T S F n):=fun r h=>by
 obtain⟨g,j⟩:=eU (T:=T) bQ h;have d:(r.take T bQ).a≠0:=Oa
 have k:=yM (r:=r.take T bQ) T.length (bX T r bQ).e d;have e:((r.take T bQ).l0 T.length (bX T r bQ).e).a≠0:=Oa
 unfold iI;dsimp only
 split
 ·trivial
 split
 ·obtain⟨a,b⟩:=f _ e
  grind[bQ,bX,lO]
 split
 ·obtain⟨a,b⟩:=hF _ e;simp[*]
 ·obtain⟨a,b⟩:=aEY (T:=T) f n (bX T r bQ) _ d;omega
theorem aOF(v:Tw T Q)(e:Sm T Q N S E):∀ n k r st l,Rl r st->r.b < T.length->(r.a=0->T.length - r.b<=N+1/\T.length - r.b<=n/\T.length - r.b<=k)->
 Rl (aZ T S n r).1 (eO Q E k (dF Q st (sp 18)) l (if dF Q st (sp 18)=true then aG Q st else st)).1/\st.L <+:(eO Q E k (dF Q st (sp 18)) l (if dF Q st (sp 18)=true then aG Q st else st)).1.L/\((aZ T S n r).1.a=0->r.a=0/\∃ d,(eO Q E k (dF Q st (sp 18)) l (if dF Q st (sp 18)=true then aG Q st else st)).2=l++d/\NX (eO Q E k (dF Q st (sp 18)) l (if dF Q st (sp 18)=true then aG Q st else st)).1.L (aZ T S n r).2 d st.L.length (eO Q E k (dF Q st (sp 18)) l (if dF Q st (sp 18)=true then aG Q st else st)).1.L.length):=by
 intro n
 have j:∀ (n k:Nat) (r:Rd) (st:QS) (l:List Int),Rf r st->Rl (aZ T S n r).1 (eO Q E k (dF Q st (sp 18)) l (if dF Q st (sp 18)=true then aG Q st else st)).1/\st.L <+:(eO Q E k (dF Q st (sp 18)) l (if dF Q st (sp 18)=true then aG Q st else st)).1.L/\((aZ T S n r).1.a=0->r.a=0/\∃ d,(eO Q E k (dF Q st (sp 18)) l (if dF Q st (sp 18)=true then aG Q st else st)).2=l++d/\NX (eO Q E k (dF Q st (sp 18)) l (if dF Q st (sp 18)=true then aG Q st else st)).1.L (aZ T S n r).2 d st.L.length (eO Q E k (dF Q st (sp 18)) l (if dF Q st (sp 18)=true then aG Q st else st)).1.L.length):=by
  intro n k r st l a;have w:=xN (T:=T) e.stk n r a.c
  have u:Gr st (if dF Q st (sp 18)=true then aG Q st else st) 0:=by
   grind[Gr.bz,Gr.refl]
  have t:=u.stick (by rw[a.d];exact a.c)
  have b:(eO Q E k (dF Q st (sp 18)) l (if dF Q st (sp 18)=true then aG Q st else st)).1=(if dF Q st (sp 18)=true then aG Q st else st):=by
   cases k with
   |zero=>rfl
   |succ k=>
    unfold eO;rw[if_neg (fun h=>a.c (a.d.symm.t Oa))]
  rw[b];exact⟨.r (a.to w t),u.pre,fun h=>absurd (Oa) a.c⟩
 induction n with
 |zero=>
  intro k r st l a g f;rcases a with a|a
  ·have:=f a.c;omega
  ·exact j 0 k r st l a
 |succ n ih=>
  intro k r st l a g f;rcases a with a|a
  ·obtain⟨a2,hn,hk⟩:=f a.c;have W:=nQ v a g (k:=18) Oa Oa;unfold aZ;rw[W];cases hs:aF T r [((18:Nat):Int)]
   ·have p:aF T r [18]=false:=hs;rw[if_neg (by simp[]),if_neg Od];have b:eO Q E k false l st=(st,l):=by cases k<;>simp[eO]
    rw[b];exact⟨.l a,Od,fun _=>⟨a.c,[],Od,rfl,Int.le_refl _⟩⟩
   ·have p:aF T r [18]=true:=hs;obtain⟨o,g2,g3,g4⟩:=jT v a g p Ob;have z:r.b0 T [18]=r.take T [18]:=by grind[Rd.b0,Rd.take]
    rw[if_pos rfl,if_pos rfl,z];obtain⟨k,rfl⟩:∃ m,k=m+1:=⟨k - 1,Oa⟩
    have b:eO Q E (k+1) true l (aG Q st)=eO Q E k (dF Q (E (aG Q st)).1 (sp 18)) (l++[(E (aG Q st)).2]) (if dF Q (E (aG Q st)).1 (sp 18)=true then aG Q (E (aG Q st)).1 else(E (aG Q st)).1):=by
     rw[eO,if_pos ⟨rfl,o.d⟩];rfl
    rw[b];have q:(r.take T [18]).b < T.length:=Oa
    obtain⟨p1,p2⟩:=e.run _ _ o q Oa;have s:=e.go (r.take T [18]) q;have a3:=s.ge;obtain⟨gn,R⟩:=e.gr;have h0:=(R (aG Q st)).pre;rw[aV]at h0;obtain⟨Z,i2,i3⟩:=ih k _ _ (l++[(E (aG Q st)).2]) p1 s.lt Oa;refine⟨Z,Qg,fun t=>⟨a.c,?_⟩⟩
    grind[aG,cons,mk,NX,aV,NX.mono]
  ·exact j (n+1) k r st l a
theorem NX.listed{L:List NQ}{t:Tr}{d:List Int}{lo hi:Int}(h:NX L t d lo hi):NX L (gW t) d lo hi:=by
 cases t with
 |nil=>exact h
 |node b o a l r=>
  show NX L (mk {a:=20} _ .nil) d lo hi;unfold mk NX;rw[if_neg Od,if_pos rfl];exact h
theorem aRE(d:Tw T Q)(e:Sm T Q N S E)(p:Ro r st)(o:r.b < T.length)(hN:T.length - r.b<=N+1)(hn:N<=n):
 Rl (jS T S n r).1 (cN Q (sp 13) (eO Q E Q.length (!dF Q (aO Q (sp 12) st) (sp 13)) [] (aO Q (sp 12) st)).1)/\
 ((jS T S n r).1.a=0->NX (eO Q E Q.length (!dF Q (aO Q (sp 12) st) (sp 13)) [] (aO Q (sp 12) st)).1.L (jS T S n r).2 (eO Q E Q.length (!dF Q (aO Q (sp 12) st) (sp 13)) [] (aO Q (sp 12) st)).2 st.L.length (eO Q E Q.length (!dF Q (aO Q (sp 12) st) (sp 13)) [] (aO Q (sp 12) st)).1.L.length):=by
 obtain⟨a,o2⟩:=aA0 d (.l p) o (k:=12) Oa Oa;obtain⟨a1,g,q⟩:=cZ d.ends o (show aM [((12:Nat):Int)] 0=false by decide);have a4:=d.len;rcases a with a|a
 ·have v:=iG a.c;have u:=nQ d a g (k:=13) Oa Oa;have a5:1<=(r.a0 T [((12:Nat):Int)]).c:=by rw[q];have:=p.lo;omega
  unfold jS;rw[u];cases hs:aF T (r.a0 T [((12:Nat):Int)]) [((13:Nat):Int)]
  ·have t:aF T (r.a0 T [12]) [13]=false:=hs;rw[if_neg (by simp[])];obtain⟨k,z⟩:∃ m,Q.length=m+1:=⟨Q.length - 1,Oa⟩
   have f:eO Q E Q.length (!false) [] (aO Q (sp 12) st)=eO Q E k (dF Q (E (aO Q (sp 12) st)).1 (sp 18)) ([]++[(E (aO Q (sp 12) st)).2]) (if dF Q (E (aO Q (sp 12) st)).1 (sp 18)=true then aG Q (E (aO Q (sp 12) st)).1 else(E (aO Q (sp 12) st)).1):=by
    rw[z,eO,if_pos ⟨rfl,a.d⟩];rfl
   rw[f];obtain⟨p1,p2⟩:=e.run _ _ a g Oa;have j:=e.go _ g;have a3:=j.ge;have a2:=v.2;obtain⟨R,i2,W⟩:=aOF d e n k _ _ ([]++[(E (aO Q (sp 12) st)).2]) p1 j.lt Oa;have h0:=uU d.ends e.go n _ j.lt;have a6:(dV T S n (r.a0 T [12])).1.c=(r.a0 T [12]).c:=h0.c.t j.c;refine⟨xQ d R h0.lt (by grind[dV]) (k:=13) Oa Oa,fun w=>?_⟩;obtain⟨c1,_⟩:=pH w;obtain⟨j1,ys,Z,j3⟩:=W c1;rw[Z];show NX _ (gW (cons (S (r.a0 T [12])).2 (aZ T S n (S (r.a0 T [12])).1).2)) _ _ _
   grind[cons,mk,NX,NX.listed,pO,NX.mono]
  ·have t:aF T (r.a0 T [12]) [13]=true:=hs;have f:eO Q E Q.length (!true) [] (aO Q (sp 12) st)=(aO Q (sp 12) st,[]):=by cases Q.length<;>simp[eO]
   rw[if_pos rfl,f];exact⟨xQ d (.l a) g Oa (k:=13) Oa Oa,fun _=>⟨rfl,by rw[pO];omega⟩⟩
 ·have l:(jS T S n r).1.a=(r.a0 T [12]).a/\(jS T S n r).1.e=(r.a0 T [12]).e:=by
   have s:(r.a0 T [12]).a≠0:=a.c;unfold jS
   split
   ·grind[lO]
   ·obtain⟨h4,h5⟩:=tM (T:=T) e.stk n (r.a0 T [12]) s
    grind[dV,lO]
  have f:∀ k b,(eO Q E k b [] (aO Q (sp 12) st)).1=aO Q (sp 12) st:=fun k b=>by
   cases k with
   |zero=>rfl
   |succ k=>unfold eO;rw[if_neg (fun h=>a.c (a.d.symm.t h.2))]
  rw[f];exact⟨.r (a.gr l (Gr.h0 Q _ _)),fun h=>absurd (l.1 ▸ h) a.c⟩
end
section
variable {T Q:List aU} {r:Rd} {st:QS} {N n:Nat} {S F:Pr} {E P:QS->QS × Int}
theorem aOE(f:Tw T Q)(o:Sm T Q N S E){t q:aU}(e:q.e=t.e/\q.f=t.f)(b:Ro r st)(d:r.b < T.length)(z:T.length - r.b<=N+1)(Z:N<=n):
 Rl (gV T S n t r).1 (wM Q E q st).1/\((gV T S n t r).1.a=0->NX (wM Q E q st).1.L (gV T S n t r).2 [(wM Q E q st).2] st.L.length (wM Q E q st).1.L.length):=by
 have R:=nQ f b d (k:=16) Oa Oa;have W:=nQ f b d (k:=12) Oa Oa;have u:qD=sp 16:=rfl;have v:tI=sp 17:=rfl;have p:cR=sp 12:=rfl;have s:fR=sp 13:=rfl;unfold gV wM;rw[u,v,p,s,R,W];cases h1:aF T r [((16:Nat):Int)]
 ·have w:aF T r [16]=false:=h1;rw[if_neg (c:=false=true) Bool.false_ne_true,if_neg (c:=false=true) Bool.false_ne_true];cases h2:aF T r [((12:Nat):Int)]
  ·have h0:aF T r [12]=false:=h2;rw[if_neg (c:=false=true) Bool.false_ne_true,if_neg (c:=false=true) Bool.false_ne_true];refine⟨.l (b.add _),fun _=>?_⟩;unfold nJ mk NX;rw[if_neg Od,if_neg Od,if_neg Od,if_neg Od];refine⟨_,_,rfl,jM.last _ _,Oa,by grind[cQ],?_⟩;simp[*]
  ·have h0:aF T r [12]=true:=h2;rw[if_pos (c:=true=true) rfl,if_pos (c:=true=true) rfl];obtain⟨h,l⟩:=aRE f o b d z Z;dsimp only;refine⟨h.add _,fun g=>?_⟩;unfold mk NX;rw[if_neg Od,if_neg Od,if_neg Od,if_neg Od];have a:=l g;refine⟨_,_,rfl,jM.at (by rw[fI]),a.le,by grind[cQ,fI,List.length_append,List.length_cons,List.length_nil],?_⟩;rw[if_neg Od,if_neg Od,if_neg Od,if_pos rfl];refine⟨rfl,e.1,e.2,NX.mono ?_ _ _ _ _ a⟩;show _ <+:(cN Q _ _).L++_
   grind[fI,List.prefix_append]
 ·have w:aF T r [16]=true:=h1;rw[if_pos (c:=true=true) rfl,if_pos (c:=true=true) rfl];obtain⟨h,l⟩:=aKF f o (.l b) d Oa (j:=16) (k:=17) Oa Oa Oa Oa;dsimp only;refine⟨h.add _,fun g=>?_⟩;unfold mk NX;rw[if_neg Od,if_neg Od,if_neg Od,if_neg Od];have a:=(l g).2;refine⟨_,_,rfl,jM.at (by rw[fI]),a.le,by grind[cQ,fI,List.length_append,List.length_cons,List.length_nil],?_⟩;rw[if_neg Od,if_neg Od,if_pos rfl];refine⟨rfl,e.1,e.2,_,rfl,NX.mono ?_ _ _ _ _ a⟩;show _ <+:(cN Q _ _).L++_
  grind[fI,List.prefix_append]
theorem aDQ{k:Int}(h:(aE T r.b).d=k)(a:k=12\/k=28):(r.take T bQ).l0 T.length (bX T r bQ).e=r.a0 T [k]:=by
 have b:aF T r bQ=true:=by
  unfold aF;rw[h];rcases a with rfl|rfl<;>rfl
 grind[aF,Rd.a0,Rd.take,bX,fY]
theorem aKG(f:Tw T Q)(u:Sm T Q N S E)(hF:Sm T Q N F P)(gE:oG E)(gF:oG P)(sF:aNN P)(hn:N<=n):Sm T Q (N+1) (iI T S F n) (vT Q E P):=by
 refine⟨aCO u.stk hF.stk n,aBG f.ends u.go hF.go n,⟨1,gE.fac gF sF⟩,fun r st d h hN=>?_⟩;have a:=f.tok r.b h;have k0:aE Q st.i=aE Q r.b:=by rw[d.i]
 have z:cR=sp 12:=rfl;have a5:fR=sp 13:=rfl;have a4:fL=sp 28:=rfl;have Z:=nQ f d h (k:=12) Oa Oa;have hb:=nQ f d h (k:=28) Oa Oa;unfold iI vT;dsimp only;rw[if_neg (c:=st.a≠0) (by simp[d.d]),k0]
 by_cases hs:aF T r bQ=true
 ·obtain⟨g1,g2,o,g4⟩:=jT f d h hs Ob
  have k4:(aE T r.b).d=2\/(aE T r.b).d=1\/(aE T r.b).d=12\/(aE T r.b).d=28:=by
   have:=xK hs;rw[o]at this;simpa[bQ]using this
  have h5:(bX T r bQ).d=(aE T r.b).d:=by rw[o]
  rcases k4 with g|g|g|g
  ·rw[if_pos (by rw[h5];exact g),if_pos (a.y0.2.1.2 g)];refine⟨.l (g1.add _),fun _=>?_⟩;unfold uP mk NX;rw[if_neg Od,if_neg Od,if_neg Od,if_neg Od];refine⟨_,_,rfl,jM.at (by rw[aV]),Oa,by grind[cQ,aV,List.length_append,List.length_cons,List.length_nil],?_⟩;rw[if_pos rfl];refine⟨rfl,?_,rfl⟩;show(aE Q r.b).a=(bX T r bQ).a;rw[o];rcases a.2 with⟨e1,_⟩|⟨e1,_⟩|⟨_,_,e1⟩|⟨e1,_⟩
   ·omega
   ·omega
   ·exact e1
   ·omega
  ·have l:(aE Q r.b).d=1:=a.y0.1.2 g;rw[Oh,Oh,Oh,Oh,if_pos l];have v:=aOE (n:=n) f u (t:=bX T r bQ) (q:=aE Q r.b) ⟨by rw[o];exact a.1,?_⟩ g1 Oa Oa hn
   ·grind[aV]
   rw[o];rcases a.2 with⟨e1,_⟩|⟨_,_,e1⟩|⟨e1,_⟩|⟨e1,_⟩
   ·omega
   ·exact e1
   ·omega
   ·omega
  ·have s:aF T r [((12:Nat):Int)]=true:=by grind[fY]
   have l: ¬(aE Q r.b).d=1:=fun e=>by have:=a.y0.1.1 e;omega
   have p: ¬(aE Q r.b).d=2:=fun e=>by have:=a.y0.2.1.1 e;omega
   rw[Oh,if_pos Oa,if_neg p,if_neg l,z,Z,if_pos s,aDQ g Oa,a5];obtain⟨b,p2⟩:=aKF f u (.l d) h Oa (j:=12) (k:=13) Oa Oa Oa Oa
   grind[mk,NX,fI]
  ·have s:aF T r [((12:Nat):Int)]=false:=by grind[fY]
   have W:aF T r [((28:Nat):Int)]=true:=by grind[fY]
   have l: ¬(aE Q r.b).d=1:=fun e=>by have:=a.y0.1.1 e;omega
   have p: ¬(aE Q r.b).d=2:=fun e=>by have:=a.y0.2.1.1 e;omega
   rw[Oh,Oh,if_pos Oa,if_neg p,if_neg l,z,Z,if_neg (by rw[s];exact Bool.false_ne_true),a4,hb,if_pos W,aDQ g Oa];obtain⟨o1,o2⟩:=aA0 f (.l d) h (k:=28) Oa Oa;obtain⟨a1,a2,a3⟩:=cZ f.ends h (show aM [((28:Nat):Int)] 0=false by decide);obtain⟨b,p2⟩:=hF.all o1 a2 (fun w=>by have:=(iG w).2;omega);have k5:=hF.go _ a2;refine⟨?_,fun w=>?_⟩
   ·rcases b with b|b
    ·have a6:(F (r.a0 T [((28:Nat):Int)])).1.c=r.c+1:=k5.c.t a3;have h1:=d.lo;have h2:=d.hi;refine .l ⟨b.c,b.d,b.i,?_,?_,?_⟩
     ·show _ - 1=wrap64 (_ - 1);rw[<-b.o,aK1 Oa];rfl
     ·grind
     grind
    ·exact .r ⟨b.c,b.d,b.p⟩
   ·unfold mk NX;rw[if_neg Od,if_neg Od,if_neg Od,if_neg Od];have v:=(p2 w).2;rw[pO]at v;refine⟨_,_,rfl,jM.last {(P (aO Q (sp 28) st)).1 with op:=_} _,v.le,by grind[cQ],?_⟩;rw[if_neg Od,if_neg Od,if_neg Od,if_neg Od,if_pos rfl];exact⟨rfl,_,rfl,NX.mono (List.prefix_append _ _) _ _ _ _ v⟩
 ·have k3:aF T r bQ=false:=Qh
  have R:=nU f d h k3;have k1:bX T r bQ=uE:=by grind[bX]
  have h0:∀ k:Int,aM bQ k=true->(aE T r.b).d≠k:=(by grind[aF]);have l: ¬(aE Q r.b).d=1:=fun e=>h0 1 Ob (a.y0.1.1 e);have p: ¬(aE Q r.b).d=2:=fun e=>h0 2 Ob (a.y0.2.1.1 e);have s:aF T r [((12:Nat):Int)]=false:=by rw[fY];exact decide_eq_false (h0 12 Ob)
  have W:aF T r [((28:Nat):Int)]=false:=by rw[fY];exact decide_eq_false (h0 28 Ob)
  rw[k1,if_neg Ob,if_neg Ob,if_neg Ob,if_neg p,if_neg l,z,Z,if_neg (by rw[s];exact Bool.false_ne_true),a4,hb,if_neg (by rw[W];exact Bool.false_ne_true)];have k2:=aEY (T:=T) u.stk n uE _ R.c;exact⟨.r (R.to k2 Qj),fun w=>absurd (Oa) R.c⟩
theorem Sm.zero(b:sH S)(d:bV T S)(a:oG P):Sm T Q 0 S P:=⟨b,d,⟨1,a⟩,Oa⟩
theorem aEZ(b:sH S)(Z:List Int)(n:Nat):sH (lX T S Z n):=fun r h=>by
 obtain⟨a,d⟩:=b r h;obtain⟨e,f⟩:=uI (T:=T) b Z n (S r).1 (S r).2 (by rw[a];exact h);exact⟨e.t a,f.t d⟩
theorem yL(a:sH S)(op:Int):∀ n r v,r.a≠0->(jD T S op n r v).1.a=r.a/\(jD T S op n r v).1.e=r.e:=by
 intro n
 induction n with
 |zero=>exact fun _ _ _=>Qj
 |succ n ih=>
  intro r v h;unfold jD
  split
  ·obtain⟨b,d⟩:=qT (T:=T) [op] h;obtain⟨e,f⟩:=a (r.b0 T [op]) Oa;simp[*]
  trivial
theorem aAT(b:sH S)(op:Int)(n:Nat):sH (lS T S op n):=fun r h=>by
 obtain⟨a,d⟩:=b r h;obtain⟨e,f⟩:=yL (T:=T) b op n (S r).1 (S r).2 (by rw[a];exact h);exact⟨e.t a,f.t d⟩
theorem wF(b:sH S):sH (jL T S):=fun r h=>by
 obtain⟨a,d⟩:=b r h;obtain⟨e,f⟩:=eU (T:=T) (r:=(S r).1) gX (by rw[a];exact h);obtain⟨g,j⟩:=b ((S r).1.take T gX) Oa;exact⟨g.t (e.t a),j.t (f.t d)⟩
theorem xL(f:sH S):sH (gQ T S):=fun r h=>by
 obtain⟨a,b⟩:=f r h;obtain⟨d,e⟩:=eU (T:=T) (r:=(S r).1) [19] (by rw[a];exact h);exact⟨d.t a,e.t b⟩
theorem aBZ(f:sH S)(t:aU)(q:Bool):sH (tG T S t q):=fun r h=>by
 obtain⟨a,b⟩:=eU (T:=T) [20] h;obtain⟨d,e⟩:=xL (T:=T) f (r.take T [20]) Oa;exact⟨d.t a,e.t b⟩
theorem aEX(b:sH S)(t:aU):sH (lF T S t):=fun r h=>by
 obtain⟨a,d⟩:=aQX (T:=T) (j:=16) (k:=17) b h;obtain⟨e,f⟩:=eU (T:=T) (r:=(gL T S r).1) [20] (by rw[show(gL T S r).1.a=r.a from a];exact h);obtain⟨g,l⟩:=xL (T:=T) b ((gL T S r).1.take T [20]) (by grind[gL]);exact⟨g.t (e.t a),l.t (f.t d)⟩
theorem aCP(a:sH S):∀ n r,r.a≠0->(cM T S n r).1.a=r.a/\(cM T S n r).1.e=r.e:=by
 intro n
 induction n with
 |zero=>exact fun _ _=>Qj
 |succ n ih=>
  intro r h;unfold cM
  split
  ·trivial
  ·obtain⟨b,d⟩:=a r h;simp[*]
theorem aF0(j:sH S)(n:Nat):sH (rU T S n):=fun r h=>by
 obtain⟨a,d⟩:=oQ (T:=T) [14] h;obtain⟨b,e⟩:=aCP (T:=T) j n (r.a0 T [14]) (by rw[a];exact h);obtain⟨f,g⟩:=lO (T:=T) (r:=(cM T S n (r.a0 T [14])).1) 15 (by rw[b,a];exact h);exact⟨f.t (b.t a),g.t (e.t d)⟩
theorem aXN{C B:Pr}(e:sH C)(a:sH B):sH (ifP T C B):=fun r h=>by
 obtain⟨b,f⟩:=e r h;obtain⟨d,g⟩:=a (C r).1 Oa;unfold ifP;dsimp only
 split
 ·obtain⟨j,k⟩:=qT (T:=T) (r:=(B (C r).1).1) [8] (by rw[d,b];exact h);obtain⟨l,o⟩:=a ((B (C r).1).1.b0 T [8]) Oa;simp[*]
 simp[*]
theorem aHZ{C B:Pr}(b:sH S)(f:sH C)(e:sH B):sH (iQ T S C B):=fun r h=>by
 obtain⟨o,p⟩:=eU (T:=T) aP h;have a:(r.take T aP).a≠0:=Oa
 have d:∀ {x:Rd},x.a=(r.take T aP).a/\x.e=(r.take T aP).e->x.a=r.a/\x.e=r.e:=Oa;unfold iQ;dsimp only
 split
 ·obtain⟨g,j⟩:=eU (T:=T) (r:=r.take T aP) [1] a;obtain⟨k,l⟩:=aBZ (T:=T) b (bX T (r.take T aP) [1]) true ((r.take T aP).take T [1]) Oa;omega
 split
 ·exact d (aXN f e _ a)
 split
 ·obtain⟨g,j⟩:=f _ a;obtain⟨k,l⟩:=e (C (r.take T aP)).1 Oa;simp[*]
 split
 ·exact d (xL b _ a)
 split
 ·exact d (xL b _ a)
 split
 ·exact d (aEX b _ _ a)
 ·exact d (aBZ b _ _ _ a)
theorem xM:∀ n s,sH (kQ T n s):=by
 intro n
 induction n with
 |zero=>exact fun s r h=>aCN _ _ _ h
 |succ n ih=>
  intro s
  match s with
  |0=>exact aCO (ih 2) (ih 0) n
  |1=>exact aEZ (ih 0) _ n
  |2=>exact aEZ (ih 1) _ n
  |3=>exact wF (ih 2)
  |4=>exact aAT (ih 3) _ n
  |5=>exact aAT (ih 4) _ n
  |6=>exact aF0 (ih 7) n
  |s+7=>exact aHZ (ih 2) (ih 5) (ih 6)
theorem aRF(a:Tw T Q):∀ N n m,N+1<=m->(16*N+1<=n->Sm T Q N (kQ T n 0) (zV Q m).2)/\(16*N+3<=n->Sm T Q N (kQ T n 2) (zV Q m).1):=by
 intro N
 induction N with
 |zero=>exact fun n m _=>⟨fun _=>Sm.zero (xM n 0) (gU a.ends n 0) (iL Q m).1.2,fun _=>Sm.zero (xM n 2) (gU a.ends n 2) (iL Q m).1.1⟩
 |succ N ih=>
  intro n m j;obtain⟨m,rfl⟩:∃ k,m=k+1:=⟨m - 1,Oa⟩
  have fac:∀ n,16*(N+1)+1<=n->Sm T Q (N+1) (kQ T n 0) (zV Q (m+1)).2:=by
   intro n h;obtain⟨n,rfl⟩:∃ k,n=k+1:=⟨n - 1,Oa⟩;exact aKG a ((ih n m Oa).2 Oa) ((ih n m Oa).1 Oa) (iL Q m).1.1 (iL Q m).1.2 (iL Q m).2.2 Oa
  refine⟨fac n,fun h=>?_⟩;obtain⟨n,rfl⟩:∃ k,n=k+2:=⟨n - 2,Oa⟩;have e:=aF8 a (fac n Oa) ((iL Q m).1.1.fac (iL Q m).1.2 (iL Q m).2.2) (all:=aBR) (Z:=[29,30,31]) (by rfl) Ob Ob Ob (n:=n) Oa;have b:=aF8 a e (((iL Q m).1.1.fac (iL Q m).1.2 (iL Q m).2.2).chain aBR) (all:=aEK) (Z:=[27,28]) (by rfl) Ob Ob Ob (n:=n+1) Oa;refine⟨b.stk,b.go,⟨1,(iL Q (m+1)).1.1⟩,fun r st d g f=>?_⟩;have:(zV Q (m+1)).1 st=mZ Q (mZ Q (vT Q (zV Q m).1 (zV Q m).2) aBR) aEK st:=if_neg (by simp[d.d]);rw[this];exact b.run r st d g f
end
section
variable {T Q:List aU} {r:Rd} {st:QS} {N n:Nat} {S C B:Pr} {E P D:QS->QS × Int}
theorem aCY:(kO T st).L=st.L:=by
 grind[kO,aV,tR]
theorem aMU(d:Tw T Q)(a:Rl r st)(b:r.b < T.length):Rl (r.take T gX) (kO Q st)/\((r.take T gX).a=0->r.a=0/\rE Q st=sp (bX T r gX).d.toNat/\(r.take T gX).b=r.b+1):=by
 rcases a with a|a
 ·have k:=aLX d a b (all:=aDW) (Y:=gX) (by rfl) Ob Ob Ob;unfold kO rE;rw[k];cases hs:aF T r gX
  ·have e:=nU d a b hs;rw[if_neg Od];exact⟨.r e,fun h=>absurd h e.c⟩
  ·obtain⟨f,g,j,l⟩:=jT d a b hs Ob;rw[if_pos ⟨rfl,a.d⟩,if_pos ⟨rfl,a.d⟩];refine⟨.l f,fun _=>⟨a.c,?_,g⟩⟩;rw[j,<-a.i];have h0:aM gX (aE T r.b).d=true:=hs;rcases(d.tok r.b b).2 with⟨e1,_⟩|⟨e1,_⟩|⟨e1,_⟩|⟨_,_,_,e1⟩
   ·rw[e1]at h0;cases h0
   ·rw[e1]at h0;cases h0
   ·rw[e1]at h0;cases h0
   ·exact e1
 ·exact⟨.r (a.gr (eU _ a.c) (Gr.comp Q st)),fun h=>absurd ((by grind[gX,eU])) a.c⟩
theorem aI7(d:Tw T Q)(a:Sm T Q N S E)(f:oG E):Sm T Q N (jL T S) (aKT Q E):=by
 refine⟨wF a.stk,uV d.ends a.go,⟨3,f.cmp⟩,fun r st q h o=>?_⟩;obtain⟨s,t⟩:=a.run r st q h o;have a1:=a.go r h;obtain⟨c1,c2⟩:=aMU d s a1.lt;have e:=aN d.ends a1.lt (show aM gX 0=false by decide);have w:=a1.ge;have z:=e.ge;obtain⟨u,v⟩:=a.all c1 e.lt Oa;unfold jL aKT;refine⟨u.add _,fun p=>?_⟩;obtain⟨j,b⟩:=v p;obtain⟨k,l,_⟩:=c2 j;have g:=t k;rw[aCY]at b;have W:=g.le;have R:=b.le;unfold mk NX;rw[if_neg Od,if_neg Od,if_neg Od,if_neg Od];refine⟨_,_,rfl,jM.last _ _,Oa,by grind[cQ],?_⟩;rw[if_neg Od,if_neg Od,if_neg Od,if_neg Od,if_neg Od,if_neg Od,if_pos rfl];refine⟨rfl,l,_,_,_,rfl,NX.mono ?_ _ _ _ _ g,NX.mono (List.prefix_append _ _) _ _ _ _ b⟩;exact((Gr.comp Q _).pre.trans (f _).pre).t (List.prefix_append _ _)
theorem aKE(s:Tw T Q)(f:Sm T Q N S E){k0:Nat}{e:Int}(u:k0=32/\e=10\/k0=33/\e=11):
 ∀ n k r st x v (lo:Int),Ro r st->r.b < T.length->T.length - r.b<=N->T.length - r.b<=n->T.length - r.b<=k->NX st.L v [x] lo st.L.length->
  Rl (jD T S (k0:Int) n r v).1 (jR Q E (sp k0) e k x st).1/\((jD T S (k0:Int) n r v).1.a=0->NX (jR Q E (sp k0) e k x st).1.L (jD T S (k0:Int) n r v).2 [(jR Q E (sp k0) e k x st).2] lo (jR Q E (sp k0) e k x st).1.L.length):=by
 intro n
 induction n with
 |zero=>omega
 |succ n ih=>
  intro k r st x v lo g p hN hn hk q;obtain⟨k,rfl⟩:∃ m,k=m+1:=⟨k - 1,Oa⟩;have ha:=nQ s g p (k:=k0) Oa Oa;unfold jD jR;rw[ha];cases hs:aF T r [(k0:Int)]
  ·rw[if_neg Od,if_neg Od];exact⟨.l g,Qh⟩
  ·have h0:aM [(k0:Int)] 0=false:=by rcases u with⟨rfl,_⟩|⟨rfl,_⟩<;>decide
   obtain⟨t,g2,g3,g4⟩:=jT s g p hs h0;have z:r.b0 T [(k0:Int)]=r.take T [(k0:Int)]:=by grind[Rd.b0,Rd.take]
   rw[if_pos rfl,if_pos ⟨rfl,g.d⟩,z];obtain⟨b,p2⟩:=f.run _ _ t Oa Oa;have l:=f.go (r.take T [(k0:Int)]) Oa;have a2:=l.ge;obtain⟨gn,W⟩:=f.gr;have j:=W (aG Q st);generalize Z:({d:=e,c:=[x,(E (aG Q st)).2]}:NQ)=X;rcases b with b|b
   ·refine ih k _ _ _ _ lo ⟨b.c,b.d,b.i,b.o,b.lo,b.hi⟩ l.lt Oa Oa Oa ?_;unfold mk NX;rw[if_neg Od,if_neg Od,if_neg Od,if_neg Od];have R:=j.pre.length_le;rw[aV]at R;have a3:=q.le;refine⟨_,_,rfl,jM.last _ X,Oa,by grind[cQ],?_⟩;rw[if_neg Od,if_neg Od,if_neg Od,if_neg Od,if_neg Od,if_neg Od,if_neg Od,if_pos rfl,<-Z];refine⟨?_,x,_,st.L.length,rfl,?_,?_⟩
    ·grind
    ·refine NX.mono ?_ _ _ _ _ q;have:=j.pre;rw[aV]at this;exact this.t (List.prefix_append _ _)
    ·have o:=p2 b.c;rw[aV]at o;exact NX.mono (List.prefix_append _ _) _ _ _ _ o
   ·have w:=yL (T:=T) f.stk (k0:Int) n _ (mk {a:=8,op:=(k0:Int)} v (S (r.take T [(k0:Int)])).2) b.c
    have hq:∀ k y,(jR Q E (sp k0) e k y (cQ X (E (aG Q st)).1)).1.a=(E (aG Q st)).1.a/\(jR Q E (sp k0) e k y (cQ X (E (aG Q st)).1)).1.e=(E (aG Q st)).1.e:=by
     intro k y;cases k with
     |zero=>trivial
     |succ k=>
      unfold jR;rw[if_neg (fun h=>b.c (b.d.symm.t h.2))];trivial
    exact⟨.r (b.to w Qh),fun hc=>absurd (Oa) b.c⟩
theorem aF7(d:Tw T Q)(b:Sm T Q N S E)(f:Grn 3 E){k0:Nat}{e:Int}(g:k0=32/\e=10\/k0=33/\e=11){n:Nat}(s:N<=n):Sm T Q N (lS T S (k0:Int) n) (aGK Q E (sp k0) e):=by
 refine⟨aAT b.stk _ n,zJ d.ends b.go (by rcases g with⟨rfl,_⟩|⟨rfl,_⟩<;>decide) n,⟨3,f.log Oa _ _⟩,fun r st l h k=>?_⟩;obtain⟨a,o⟩:=b.run r st l h k;have h0:=b.go r h;have:=h0.ge;have q:=d.len;unfold lS aGK;rcases a with a|a
 ·exact aKE d b g n Q.length _ _ _ _ _ a h0.lt Oa Oa Oa (o a.c)
 ·have j:=yL (T:=T) b.stk (k0:Int) n (S r).1 (S r).2 a.c;exact⟨.r (a.gr j (f.loop Oa _ _ _ _ _)),fun p=>absurd (Oa) a.c⟩
theorem aRD(a:Tw T Q){m:Nat}(e:N+1<=m)(f:16*N+6<=n):Sm T Q N (kQ T n 5) (aBC Q (zV Q m).1):=by
 obtain⟨n,rfl⟩:∃ k,n=k+3:=⟨n - 3,Oa⟩;have b:=aI7 a ((aRF a N n m e).2 Oa) (iL Q m).1.1;have d:=aF7 a b (iL Q m).1.1.cmp (.l ⟨rfl,rfl⟩) (n:=n+1) Oa;exact aF7 a d ((iL Q m).1.1.cmp.log Oa sG 10) (.r ⟨rfl,rfl⟩) (n:=n+2) Oa
def NBx(lo:Int)(L:List NQ)(t:Tr)(x:Int):Prop:=∃ m,jM L x m/\m.d=19/\NX L t m.c lo x
theorem NBx.mono{L a:List NQ}{t:Tr}{lo x:Int}(h:NBx lo L t x)(b:L <+:a):NBx lo a t x:=by
 obtain⟨m,d,e,f⟩:=h;exact⟨m,d.mono b,e,NX.mono b _ _ _ _ f⟩
def NB(lo:Int)(L:List NQ)(t:Tr)(x:Int):Prop:=NBx lo L t x/\x+1=L.length
abbrev Sb:=Smx NB
theorem aOG(j:Tw T Q)(p:Sm T Q N S P)(hP:∀ st,Gr st (P st).1 0/\((P st).1.a≠0\/st.i+1<=(P st).1.i))(hE:∀ st,st.a=0->(aE Q st.i).d=0->(P st).1=dW Q st):
 ∀ n k r st l,Rl r st->r.b < T.length->(r.a=0->T.length - r.b<=N/\T.length - r.b<=n/\T.length - r.b<=k/\1<=r.c)->
 Rl ((cM T S n r).1.h0 T 15) (cN Q (sp 15) (fS Q P k l st).1)/\st.L <+:(fS Q P k l st).1.L/\(((cM T S n r).1.h0 T 15).a=0->r.a=0/\∃ g,(fS Q P k l st).2=l++g/\NX (fS Q P k l st).1.L (cM T S n r).2 g st.L.length (fS Q P k l st).1.L.length):=by
 have v:∀ (k:Nat) (l:List Int) (st:QS),st.a≠0->(fS Q P k l st).1=st:=fun k l st h=>by
  cases k with
  |zero=>rfl
  |succ k=>grind[fS]
 have q:∀ (n k:Nat) (r:Rd) (st:QS) (l:List Int),Rf r st->Rl ((cM T S n r).1.h0 T 15) (cN Q (sp 15) (fS Q P k l st).1)/\st.L <+:(fS Q P k l st).1.L/\(((cM T S n r).1.h0 T 15).a=0->r.a=0/\∃ g,(fS Q P k l st).2=l++g/\NX (fS Q P k l st).1.L (cM T S n r).2 g st.L.length (fS Q P k l st).1.L.length):=by
  intro n k r st l a;obtain⟨R,h2⟩:=aCP (T:=T) p.stk n r a.c;obtain⟨h3,h4⟩:=lO (T:=T) (r:=(cM T S n r).1) 15 (by rw[R];exact a.c);rw[v k l st (by rw[a.d];exact a.c)];exact⟨.r (a.gr Oa (Gr.h0 Q _ st)),Od,fun h=>absurd (Oa) a.c⟩
 intro n
 induction n with
 |zero=>
  intro k r st l a b o;rcases a with a|a
  ·have:=o a.c;omega
  ·exact q 0 k r st l a
 |succ n ih=>
  intro k r st l a b o;rcases a with a|a
  ·obtain⟨Z,e,hk,a2⟩:=o a.c;obtain⟨k,rfl⟩:∃ m,k=m+1:=⟨k - 1,Oa⟩;have ha:=nQ j a b (k:=15) Oa Oa;have z:rbT=sp 15:=rfl;unfold cM fS;rw[z,ha]
   by_cases h9:(aE T r.b).d=15
   ·have f:aF T r [15,0]=true:=by unfold aF;rw[h9];rfl
    have d:aF T r [((15:Nat):Int)]=true:=by grind[fY]
    rw[if_pos f,if_neg (fun h=>by rw[d]at h;cases h.2)];exact⟨xQ j (.l a) b Oa (k:=15) Oa Oa,Od,fun _=>⟨a.c,[],Od,rfl,Int.le_refl _⟩⟩
   have d:aF T r [((15:Nat):Int)]=false:=by grind[fY]
   by_cases h0:(aE T r.b).d=0
   ·have f:aF T r [15,0]=true:=by unfold aF;rw[h0];rfl
    have W:(aE Q st.i).d=0:=by rw[<-a.i];exact(j.tok r.b b).y0.2.2.2 h0
    have e:=nU j a b d;rw[if_pos f,if_pos ⟨a.d,d⟩,hE st a.d W,v _ _ _ (by rw[e.d];exact e.c)];refine⟨.r (Rf.gr (r:=r.take T [15]) e Qj (Gr.h0 Q _ _)),(Gr.e0 Q st).pre,fun h=>absurd h e.c⟩
   ·have f:aF T r [15,0]=false:=(by grind[aF1]);rw[if_neg (by simp[f]),if_pos ⟨a.d,d⟩];obtain⟨w,p2⟩:=p.run r st a b Z;have s:=p.go r b;obtain⟨q1,q2⟩:=hP st
    obtain⟨i1,i2,i3⟩:=ih k (S r).1 (P st).1 (l++[(P st).2]) w s.lt (fun t=>by
     have u:=w.ok t;have e1:=u.i;have e2:=a.i;have e3:=q2.resolve_left (fun h=>h u.d);have e4:=s.c;omega)
    refine⟨i1,q1.pre.trans i2,fun t=>⟨a.c,?_⟩⟩
    grind[cons,mk,NX,NX.mono]
  ·exact q (n+1) k r st l a
theorem aF9(a:Tw T Q)(b:Sm T Q N S P)(e:∀ st,Gr st (P st).1 0/\((P st).1.a≠0\/st.i+1<=(P st).1.i))(q:∀ st,st.a=0->(aE Q st.i).d=0->(P st).1=dW Q st)(Z:N<=n):
 Sb T Q (N+1) (rU T S n) (wL Q P):=by
 refine⟨aF0 b.stk n,aDK a.ends b.go n,⟨1,Grn.block (fun st=>(e st).1)⟩,fun r st g f R=>?_⟩;obtain⟨s,o2⟩:=aA0 a (.l g) f (k:=14) Oa Oa;obtain⟨a1,h,v⟩:=cZ a.ends f (show aM [((14:Nat):Int)] 0=false by decide);have W:=a.len
 obtain⟨t,p2,u⟩:=aOG a b e q n Q.length _ _ [] s h (fun d=>by
  have:=(iG d).2;have:=g.lo;omega)
 have j:lbT=sp 14:=rfl;have l:rbT=sp 15:=rfl;unfold rU wL;rw[j,l];refine⟨t.add _,fun d=>?_⟩;obtain⟨w,ys,o,p⟩:=u d;refine⟨⟨_,jM.at (by rw[fI]),rfl,?_⟩,by grind[cQ,fI,List.length_append,List.length_cons,List.length_nil]⟩;show NX ((cN Q _ _).L++_) (gW (cM T S n (r.a0 T [14])).2) (fS Q P Q.length [] (aO Q (sp 14) st)).2 _ _;rw[fI,o];have z:=p.listed
 grind[pO,NX.mono,List.prefix_append]
end
section
variable {T Q:List aU} {r:Rd} {st:QS} {N n:Nat} {S C B:Pr} {E P D:QS->QS × Int}
theorem QT.h{t q:aU}(h:QT t q)(a:t.d=1):q.e=t.e/\q.f=t.f:=by
 refine⟨h.1,?_⟩;rcases h.2 with⟨e1,_⟩|⟨_,_,e1⟩|⟨e1,_⟩|⟨e1,_⟩
 ·omega
 ·exact e1
 ·omega
 ·omega
theorem xO(o:Tw T Q)(b:Sm T Q N S E)(_:oG E)(l:Rl r st)(d:r.b < T.length)(h:r.a=0->T.length - r.b<=N)(x:NQ):
 Rl (gQ T S r).1 (lK Q E x st).1/\((gQ T S r).1.a=0->r.a=0/\∃ y,jM (lK Q E x st).1.L (lK Q E x st).2 {x with c:=x.c++[y],f:=-1}/\NX (lK Q E x st).1.L (gQ T S r).2 [y] st.L.length (lK Q E x st).2/\(lK Q E x st).2+1=(lK Q E x st).1.L.length):=by
 obtain⟨p,q⟩:=b.all l d h;have a1:=b.go r d;have s:=aC3 o p a1.lt (k:=19) Oa Oa;unfold gQ lK;refine⟨s.add _,fun j=>?_⟩;obtain⟨e,g⟩:=q (bO j).1;refine⟨e,(E st).2,?_,?_,by grind[cQ,fV,List.length_append,List.length_cons,List.length_nil]⟩
 ·exact jM.at (a:={x with c:=x.c++[(E st).2]}) (by rw[fV])
 ·refine NX.mono ?_ _ _ _ _ g;show _ <+:(cO Q _ _).L++_
  grind[fV,List.prefix_append]
theorem aMN(e:Tw T Q)(l:Sm T Q N S E)(h:oG E){t q:aU}(R:q.e=t.e/\q.f=t.f)(a:Bool)(o:Ro r st)(g:r.b < T.length)(z:T.length - r.b<=N+1):
 Rl (tG T S t a r).1 (lK Q E {d:=if a then 12 else 13,at_:=q.e,s:=q.f} (cO Q mF st)).1/\((tG T S t a r).1.a=0->NX (lK Q E {d:=if a then 12 else 13,at_:=q.e,s:=q.f} (cO Q mF st)).1.L (tG T S t a r).2 [(lK Q E {d:=if a then 12 else 13,at_:=q.e,s:=q.f} (cO Q mF st)).2] st.L.length (lK Q E {d:=if a then 12 else 13,at_:=q.e,s:=q.f} (cO Q mF st)).1.L.length):=by
 have a1:=aN e.ends g (show aM [20] 0=false by decide);have p:Rl (r.take T [20]) (cO Q mF st):=aC3 e (.l o) g (k:=20) Oa Oa;obtain⟨u,v⟩:=xO e l h p a1.lt (fun b=>by have:=(bO b).2.2.1;omega) {d:=if a then 12 else 13,at_:=q.e,s:=q.f};refine⟨u,fun b=>?_⟩;obtain⟨_,y,j,f,w⟩:=v b;rw[fV]at f;unfold tG mk NX;rw[if_neg Od,if_neg Od,if_neg Od,if_neg Od];refine⟨_,_,rfl,j,f.le,Oa,?_⟩
 grind
theorem aOC(a:Tw T Q)(e:Sm T Q N S E)(p:oG E){t q:aU}(u:q.e=t.e/\q.f=t.f)(z:Ro r st)(g:r.b < T.length)(hN:T.length - r.b<=N+1):
 Rl (lF T S t r).1 (lK Q E {d:=14,at_:=q.e,s:=q.f,c:=[(E (aO Q qD st)).2]} (cO Q mF (cN Q tI (E (aO Q qD st)).1))).1/\((lF T S t r).1.a=0->NX (lK Q E {d:=14,at_:=q.e,s:=q.f,c:=[(E (aO Q qD st)).2]} (cO Q mF (cN Q tI (E (aO Q qD st)).1))).1.L (lF T S t r).2 [(lK Q E {d:=14,at_:=q.e,s:=q.f,c:=[(E (aO Q qD st)).2]} (cO Q mF (cN Q tI (E (aO Q qD st)).1))).2] st.L.length (lK Q E {d:=14,at_:=q.e,s:=q.f,c:=[(E (aO Q qD st)).2]} (cO Q mF (cN Q tI (E (aO Q qD st)).1))).1.L.length):=by
 obtain⟨h,l⟩:=aKF a e (.l z) g Oa (j:=16) (k:=17) Oa Oa Oa Oa;have h:Rl (gL T S r).1 (cN Q tI (E (aO Q qD st)).1):=h;have l:(gL T S r).1.a=0->r.a=0/\NX (E (aO Q qD st)).1.L (gL T S r).2 [(E (aO Q qD st)).2] st.L.length (E (aO Q qD st)).1.L.length:=l;have a1:=nH a.ends e.go r g;have o:=aN a.ends a1.lt (show aM [20] 0=false by decide);have R:Rl ((gL T S r).1.take T [20]) (cO Q mF (cN Q tI (E (aO Q qD st)).1)):=aC3 a h a1.lt (k:=20) Oa Oa;have g1:=a1.ge;have g2:=o.ge;have a2:=(cZ a.ends g (show aM [((16:Nat):Int)] 0=false by decide)).2.1;obtain⟨W,Z⟩:=xO a e p R o.lt (fun f=>by have:=(bO f).2.2.1;omega) {d:=14,at_:=q.e,s:=q.f,c:=[(E (aO Q qD st)).2]};refine⟨W,fun f=>?_⟩;obtain⟨v,y,w,b,h4⟩:=Z f;rw[fV,fI]at b;have hi:=(l (bO v).1).2;have l1:=b.le;have l2:=hi.le;unfold lF mk NX;dsimp only;rw[if_neg Od,if_neg Od,if_neg Od,if_neg Od];refine⟨_,_,rfl,w,Oa,Oa,?_⟩;rw[if_neg Od,if_neg Od,if_neg Od,if_neg Od,if_neg Od,if_neg Od,if_neg Od,if_neg Od,if_neg Od,if_pos rfl];refine⟨rfl,u.1,u.2,_,y,_,rfl,NX.mono ?_ _ _ _ _ hi,b⟩;have:=(p.fin (T:=Q) {d:=14,at_:=q.e,s:=q.f,c:=[(E (aO Q qD st)).2]} (cO Q mF (cN Q tI (E (aO Q qD st)).1))).pre
 grind[fV,fI]
theorem aXT(R:Tw T Q)(w:Sm T Q N C D)(d:Sb T Q N B P)(f:oG P)(x:NQ)(hr:Ro r st)(z:r.b < T.length)(hN:T.length - r.b<=N):
 Rl (ifP T C B r).1 (fB Q D P x true st).1/\((ifP T C B r).1.a=0->NX (fB Q D P x true st).1.L (ifP T C B r).2 [(fB Q D P x true st).2] st.L.length (fB Q D P x true st).1.L.length):=by
 obtain⟨c1,c2⟩:=w.run r st hr z hN;have a1:=w.go r z;have g1:=a1.ge;obtain⟨b1,s⟩:=d.all c1 a1.lt Oa;have e:=d.go _ a1.lt;have g2:=e.ge;have e8:aBL=sp 8:=rfl;unfold ifP fB;dsimp only;rw[e8]
 by_cases a:(B (C r).1).1.a=0
 ·have g:=b1.ok a;have ha:=nQ R g e.lt (k:=8) Oa Oa;rw[ha];obtain⟨f1,b,f3⟩:=s a;have j:=c2 f1;have a2:=j.le;obtain⟨_,_,_,Z⟩:=b;have Z:=Z.le;have b:=(s a).2.1;cases hs:aF T (B (C r).1).1 [((8:Nat):Int)]
  ·have t:aF T (B (C r).1).1 [8]=false:=hs;rw[if_neg (by simp[]),if_neg Od];refine⟨b1.add _,fun _=>?_⟩;unfold mk NX;rw[if_neg Od,if_neg Od,if_neg Od,if_neg Od];refine⟨_,_,rfl,jM.last _ _,Oa,by grind[cQ],?_⟩;rw[if_neg Od,if_neg Od,if_neg Od,if_neg Od,if_neg Od,if_neg Od,if_neg Od,if_neg Od,if_neg Od,if_neg Od,if_pos rfl];refine⟨rfl,_,_,_,rfl,NX.mono ((f _).pre.trans (List.prefix_append _ _)) _ _ _ _ j,?_⟩;unfold NX;rw[if_neg Od,if_neg Od,if_neg Od,if_pos rfl];obtain⟨m,l,p,q⟩:=b.mono (List.prefix_append _ _);exact⟨_,m,l,p,q,Qg⟩
  ·have t:aF T (B (C r).1).1 [8]=true:=hs;obtain⟨t1,t2,t3,t4⟩:=jT R g e.lt t Ob;have h6:(B (C r).1).1.b0 T [8]=(B (C r).1).1.take T [8]:=by grind[Rd.b0,Rd.take]
   rw[if_pos rfl,if_pos ⟨rfl,rfl,g.d⟩,h6];obtain⟨k1,k2⟩:=d.run _ _ t1 Oa Oa;refine⟨k1.add _,fun hc=>?_⟩;have h0:=(f (aG Q (P (D st).1).1)).pre;rw[aV]at h0;unfold mk NX;rw[if_neg Od,if_neg Od,if_neg Od,if_neg Od];have a3:=h0.length_le;obtain⟨W,k4⟩:=k2 hc;rw[aV]at W;refine⟨_,_,rfl,jM.last _ _,Oa,by grind[cQ],?_⟩;rw[if_neg Od,if_neg Od,if_neg Od,if_neg Od,if_neg Od,if_neg Od,if_neg Od,if_neg Od,if_neg Od,if_neg Od,if_pos rfl];refine⟨rfl,_,_,_,rfl,NX.mono (((f _).pre.trans h0).t (List.prefix_append _ _)) _ _ _ _ j,?_⟩;unfold NX;rw[if_neg Od,if_neg Od,if_neg Od,if_pos rfl];obtain⟨m,l,p,q⟩:=b.mono (h0.t (List.prefix_append _ _));obtain⟨o,o1,o2,o3⟩:=W.mono (List.prefix_append _ _);exact⟨_,m,l,p,q,.r ⟨_,o,rfl,o1,o2,by rw[f3];exact o3,Oa⟩⟩
 ·have v:Rf (B (C r).1).1 (P (D st).1).1:=b1.resolve_left (fun h=>a h.c);rw[if_neg (c:=true=true/\dF Q (P (D st).1).1 (sp 8)=true/\(P (D st).1).1.a=0) (fun h=>a (by rw[<-b1.a];omega))]
  have h5:∀ y:Rd × Tr,y.1=(B (C r).1).1\/(∃ u,y.1=(B u).1/\u=(B (C r).1).1.b0 T [8])->y.1.a=(B (C r).1).1.a/\y.1.e=(B (C r).1).1.e:=by
   rintro y (h|⟨u,h,rfl⟩)
   ·simp[*]
   ·obtain⟨s1,s2⟩:=qT (T:=T) (r:=(B (C r).1).1) [8] a;obtain⟨s3,s4⟩:=d.stk ((B (C r).1).1.b0 T [8]) Oa;simp[*]
  split
  ·have:=h5 ((B ((B (C r).1).1.b0 T [8])).1,.nil) (.r ⟨_,rfl,rfl⟩);exact⟨.r (v.to this Qj),Qh⟩
  ·exact⟨.r (v.to Qj Qj),Qh⟩
theorem aOA(_:Tw T Q)(b:Sm T Q N C D)(j:Sb T Q N B P)(h:oG P)(x:NQ)(o:Ro r st)(d:r.b < T.length)(k:T.length - r.b<=N):
 Rl (B (C r).1).1 (fB Q D P x false st).1/\((B (C r).1).1.a=0->NX (fB Q D P x false st).1.L (mk {a:=12} (C r).2 (B (C r).1).2) [(fB Q D P x false st).2] st.L.length (fB Q D P x false st).1.L.length):=by
 obtain⟨c1,c2⟩:=b.run r st o d k;have a1:=b.go r d;have s:=a1.ge;obtain⟨b1,f⟩:=j.all c1 a1.lt Oa;unfold fB;rw[if_neg Od];refine⟨b1.add _,fun l=>?_⟩;obtain⟨f1,g,f3⟩:=f l;have h0:=c2 f1;have u:=h0.le;obtain⟨m,p,q,e⟩:=g.mono (List.prefix_append _ _);have t:=e.le;unfold mk NX;rw[if_neg Od,if_neg Od,if_neg Od,if_neg Od];refine⟨_,_,rfl,jM.last _ _,Oa,by grind[cQ],?_⟩;rw[if_neg Od,if_neg Od,if_neg Od,if_neg Od,if_neg Od,if_neg Od,if_neg Od,if_neg Od,if_neg Od,if_neg Od,if_neg Od,if_pos rfl];exact⟨rfl,_,_,m,_,rfl,NX.mono ((h _).pre.trans (List.prefix_append _ _)) _ _ _ _ h0,p,q,e,Oa⟩
theorem aRB(b:Tw T Q)(f:Sm T Q N S E)(u:oG E)(hC:Sm T Q N C D)(gD:Grn 3 D)(hB:Sb T Q N B P)(gP:oG P):Sm T Q (N+1) (iQ T S C B) (jQ Q E D P):=by
 refine⟨aHZ f.stk hC.stk hB.stk,aFS b.ends f.go hC.go hB.go,⟨0,(by grind[uH])⟩,fun r st z w hN=>?_⟩;have s:=b.tok r.b w;have k4:aE Q st.i=aE Q r.b:=by rw[z.i]
 have k2:=aLX b z w (all:=stT) (Y:=[6,7,9,10,11]) (by rfl) Ob Ob Ob;unfold iQ jQ;dsimp only;rw[k4,k2]
 by_cases hs:aF T r aP=true
 ·obtain⟨t,g2,g3,g4⟩:=jT b z w hs Ob;have q:(r.take T aP).b < T.length:=Oa
  have a4:T.length - (r.take T aP).b<=N:=Oa
  have a5:(bX T r aP).d=(aE T r.b).d:=by rw[g3]
  have k7:(aE T r.b).d=6\/(aE T r.b).d=1\/(aE T r.b).d=7\/(aE T r.b).d=9\/(aE T r.b).d=10\/(aE T r.b).d=11:=by
   have:=xK hs;rw[g3]at this;simpa[aP]using this
  by_cases W:(aE T r.b).d=1
  ·have v:=s.y0.1.2 W;have k3:=s.h W;have ha:=nQ b t q (k:=16) Oa Oa;have a3:qD=sp 16:=rfl
   grind[aF,aP,aMN,aV,aOC]
  ·have v: ¬(aE Q r.b).d=1:=fun e=>W (s.y0.1.1 e);have k0:aF T r [6,7,9,10,11]=true:=aKB Qg
   have o:∀ k:Nat,(aE T r.b).d=(k:Int)->3<=k->(aE Q r.b).f=sp k:=by
    intro k a j;rcases s.2 with⟨e1,_⟩|⟨e1,_⟩|⟨e1,_⟩|⟨_,_,_,e1⟩
    ·omega
    ·omega
    ·omega
    simp[*]
   rw[if_neg v,if_pos k0];rcases k7 with a|a|a|a|a|a
   ·rw[if_pos Oa,o 6 a Oa,if_pos (c:=sp 6=aDC) rfl];obtain⟨g,n2⟩:=uM b (.l t) q (k:=1) Oa;have a2:=aN b.ends q (show aM [1] 0=false by decide);have g5:=a2.ge;rcases g with g|g
    ·obtain⟨m1,m2,m3,m4,m5⟩:=n2 g.c;have k3:=m3.h m4;rw[m1,m2];have h9:=aMN b f u k3 true g a2.lt Oa
     grind[kP,aV]
    ·have p:=aBZ (T:=T) f.stk (bX T (r.take T aP) [1]) true _ g.c;exact⟨.r (g.gr p (((Gr.must Q mF _).t (u.fin _ _)))),fun l=>absurd (Oa) g.c⟩
   ·omega
   ·rw[Oh,if_pos Oa,o 7 a Oa,if_neg (c:=sp 7=aDC) Ob,if_pos (c:=sp 7=ifT) rfl]
    grind[aE,aXT,aV]
   ·rw[Oh,Oh,if_pos Oa,o 9 a Oa,if_neg (c:=sp 9=aDC) Ob,if_neg (c:=sp 9=ifT) Ob,if_pos (c:=sp 9=tE) rfl]
    grind[aE,aOA,aV]
   ·rw[Oh,Oh,Oh,if_pos Oa,o 10 a Oa,if_neg (c:=sp 10=aDC) Ob,if_neg (c:=sp 10=ifT) Ob,if_neg (c:=sp 10=tE) Ob,if_pos (c:=sp 10=qK) rfl];obtain⟨Z,q2⟩:=xO b f u (.l t) q Oa {d:=17,at_:=(aE Q r.b).e};refine⟨Z,fun l=>?_⟩;obtain⟨_,y,R,j,h4⟩:=q2 l;rw[aV]at j;unfold mk NX;rw[if_neg Od,if_neg Od,if_neg Od,if_neg Od];refine⟨_,_,rfl,R,j.le,Oa,?_⟩;simp[*]
   ·rw[Oh,Oh,Oh,Oh,if_pos Oa,o 11 a Oa,if_neg (c:=sp 11=aDC) Ob,if_neg (c:=sp 11=ifT) Ob,if_neg (c:=sp 11=tE) Ob,if_neg (c:=sp 11=qK) Ob];obtain⟨Z,q2⟩:=xO b f u (.l t) q Oa {d:=18,at_:=(aE Q r.b).e};refine⟨Z,fun l=>?_⟩;obtain⟨_,y,R,j,h4⟩:=q2 l;rw[aV]at j;unfold mk NX;rw[if_neg Od,if_neg Od,if_neg Od,if_neg Od];refine⟨_,_,rfl,R,j.le,Oa,?_⟩;simp[*]
 ·have k6:aF T r aP=false:=Qh
  have h:=nU b z w k6;have h0:∀ k:Int,aM aP k=true->(aE T r.b).d≠k:=(by grind[aF]);have v: ¬(aE Q r.b).d=1:=fun e=>h0 1 Ob (s.y0.1.1 e)
  have k0:aF T r [6,7,9,10,11]=false:=aF1 (by
   simp only[List.mem_cons,List.not_mem_nil,or_false,not_or];exact⟨h0 6 Ob,h0 7 Ob,h0 9 Ob,h0 10 Ob,h0 11 Ob⟩)
  have k5:bX T r aP=uE:=by grind[bX]
  rw[k5,if_neg Ob,if_neg Ob,if_neg Ob,if_neg Ob,if_neg Ob,if_neg v,if_neg (c:=aF T r [6,7,9,10,11]=true) (by rw[k0];exact Bool.false_ne_true)]
  split
  ·have p:=aEX (T:=T) f.stk uE _ h.c;exact⟨.r (h.to p Qj),fun l=>absurd (Oa) h.c⟩
  ·have p:=aBZ (T:=T) f.stk uE false _ h.c;exact⟨.r (h.to p Qj),fun l=>absurd (Oa) h.c⟩
theorem aHY{E C B:QS->QS × Int}(st:QS)(_:st.a=0)(a:(aE Q st.i).d=0):(jQ Q E C B st).1=dW Q st:=by
 grind[jQ,qM,stT]
theorem aKI(b:Tw T Q){m:Nat}(h:T.length+1<=m):∀ N n k,N<=T.length->N+1<=k->16*N+1<=n->Sb T Q N (kQ T n 6) (qBl Q (zV Q m).1 (aBC Q (zV Q m).1) k):=by
 intro N
 induction N using Nat.strongRecOn with
 |ind N ih=>
  intro n k f g l
  match N with
  |0=>exact⟨xM n 6,gU b.ends n 6,⟨1,zT (iL Q m).1.1 (iL Q m).1.1.cond k⟩,Oa⟩
  |1=>
   obtain⟨k,rfl⟩:∃ j,k=j+1:=⟨k - 1,Oa⟩;obtain⟨n,rfl⟩:∃ j,n=j+1:=⟨n - 1,Oa⟩;have a:=(iL Q m).1.1;have d:=zT a (a.cond (T:=Q)) (T:=Q) k;have e:Sm T Q 0 (kQ T n 7) (jQ Q (zV Q m).1 (aBC Q (zV Q m).1) (qBl Q (zV Q m).1 (aBC Q (zV Q m).1) k)):=⟨xM n 7,gU b.ends n 7,⟨0,fun st=>(uH a (a.cond (T:=Q)) d st).1⟩,Oa⟩;exact aF9 b e (uH a (a.cond (T:=Q)) d) (fun st=>aHY st) Oa
  |N+2=>
   obtain⟨k,rfl⟩:∃ j,k=j+1:=⟨k - 1,Oa⟩;obtain⟨n,rfl⟩:∃ j,n=j+2:=⟨n - 2,Oa⟩;have a:=(iL Q m).1.1;have d:=zT a (a.cond (T:=Q)) (T:=Q) k
   have e:Sm T Q (N+1) (kQ T (n+1) 7) (jQ Q (zV Q m).1 (aBC Q (zV Q m).1) (qBl Q (zV Q m).1 (aBC Q (zV Q m).1) k)):=
    aRB b ((aRF b N n m Oa).2 Oa) a (by grind[aRD]) a.cond Qg d
   exact aF9 b e (uH a (a.cond (T:=Q)) d) (fun st=>aHY st) Oa
end
section
variable {T Q:List aU} {r:Rd} {st:QS} {N n:Nat} {S C B:Pr} {E P D:QS->QS × Int}
def aS3:Tr->Int
 | .nil=>0
 | .node _ _ a _ _=>a.e
def unl:Tr->Tr
 | .nil=> .nil
 | .node _ _ _ l _=>l
theorem yJ(t:Tr):unl (gW t)=t:=by cases t<;>rfl
def NW(L:List NQ):Tr->List Int->Int->Int->Prop
 | .nil,xs,lo,hi=>xs=[]/\lo<=hi
 | .node _ _ _ l r,xs,lo,hi=>∃ x ys n m,xs=x::ys/\NX L l [x] lo m/\jM L x n/\n.at_=aS3 l/\NW L r ys m hi
def NP:Tr->List aU->Prop
 | .nil,xs=>xs=[]
 | .node _ _ _ l r,xs=>∃ p ys,xs=p::ys/\(∃ b o a x y,l= .node b o a x y/\p.f=a.h/\p.e=a.b)/\NP r ys
def NI(lo:Int)(L:List NQ)(t:Tr)(x:Int):Prop:=∃ n b o a l r,t= .node b o a l r/\jM L x n/\n.at_=a.b/\n.s=a.h/\lo<=x/\
 ((a.a=16/\n.d=1/\n.n=a.g/\n.mid=a.e/\n.c=[])\/(a.a=17/\n.d=2/\NP (unl l) n.g/\∃ b2 o2 a2 ws bd,r= .node b2 o2 a2 ws bd/\∃ m,NW L (unl ws) n.e lo m/\∃ y,n.c=[y]/\NBx m L bd y/\y < x))
def NIs(L:List NQ):Tr->List Int->Int->Int->Prop
 | .nil,xs,lo,hi=>xs=[]/\lo<=hi
 | .node _ _ _ l r,xs,lo,hi=>∃ x ys,xs=x::ys/\NI lo L l x/\NIs L r ys (x+1) hi
theorem NW.mono{L e:List NQ}(f:L <+:e):∀ (t:Tr) (d:List Int) (lo hi:Int),NW L t d lo hi->NW e t d lo hi:=by
 intro t
 induction t with
 |nil=>exact fun _ _ _ h=>h
 |node b o a l r _ ihr=>
  rintro d lo hi ⟨x,q,n,m,g,j,k,p,s⟩;exact⟨x,q,n,m,g,NX.mono f _ _ _ _ j,k.mono f,p,Qh⟩
theorem NW.le{L:List NQ}:∀ {t:Tr} {d:List Int} {lo hi:Int},NW L t d lo hi->lo<=hi:=by
 intro t
 induction t with
 |nil=>exact fun h=>h.2
 |node b o a l r _ ihr=>
  rintro d lo hi ⟨x,p,n,m,f,e,g,j,k⟩;have:=e.le
  grind
theorem NI.mono{L e:List NQ}(d:L <+:e){t:Tr}{lo x:Int}(h:NI lo L t x):NI lo e t x:=by
 obtain⟨n,b,o,a,l,r,R,W,Z,h4,h0,f⟩:=h;refine⟨n,b,o,a,l,r,R,W.mono d,Z,h4,h0,?_⟩;rcases f with f|⟨k,p,q,j,o2,g,ws,bd,s,m,u,y,v,w,z⟩
 ·simp[*]
 ·exact .r ⟨k,p,q,j,o2,g,ws,bd,s,m,NW.mono d _ _ _ _ u,y,v,w.mono d,z⟩
theorem QT.num{t q:aU}(h:QT t q)(a:t.d=2):q.a=t.a:=by
 rcases h.2 with⟨e1,_⟩|⟨e1,_⟩|⟨_,_,e1⟩|⟨e1,_⟩
 ·omega
 ·omega
 ·exact e1
 ·omega
theorem aI0:sH (jZ T):=fun r h=>by
 obtain⟨a,b⟩:=eU (T:=T) [28,2,1] h;unfold jZ;dsimp only
 split
 ·obtain⟨d,e⟩:=eU (T:=T) (r:=r.take T [28,2,1]) [2] (by rw[a];exact h);exact⟨d.t a,e.t b⟩
 split<;>exact⟨a,b⟩
theorem aI8(g:Tw T Q)(a:Rl r st)(j:r.b < T.length):Rl (jZ T r).1 (jH Q st)/\((jZ T r).1.a=0->r.a=0/\NX (jH Q st).L (jZ T r).2 [(st.L.length:Int)] st.L.length (jH Q st).L.length):=by
 rcases a with a|a
 ·have b:=g.tok r.b j;have v:aE Q st.i=aE Q r.b:=by rw[a.i]
  have t:fL=sp 28:=rfl;have Z:=nQ g a j (k:=28) Oa Oa;unfold jZ jH;dsimp only;rw[v,t,Z]
  by_cases hs:aF T r [28,2,1]=true
  ·obtain⟨o,g2,p,g4⟩:=jT g a j hs Ob
   have k1:(aE T r.b).d=28\/(aE T r.b).d=2\/(aE T r.b).d=1:=by
    grind[xK]
   have a2:(bX T r [28,2,1]).d=(aE T r.b).d:=by rw[p]
   rcases k1 with f|f|f
   ·have d:aF T r [((28:Nat):Int)]=true:=by grind[fY]
    have k0:(r.take T [28,2,1]).b < T.length:=Oa
    rw[if_pos Oa,if_pos d];obtain⟨n1,n2⟩:=uM g (.l o) k0 (k:=2) Oa;refine⟨n1.add _,fun h=>⟨a.c,?_⟩⟩;obtain⟨m1,m2,m3,m4,m5⟩:=n2 h;have a3:=g.small.at (r.take T [28,2,1]).b;unfold uP mk NX;rw[if_neg Od,if_neg Od,if_neg Od,if_neg Od];refine⟨_,_,rfl,jM.at (by rw[kP,aV]),Oa,by grind[cQ,aV,kP,List.length_append,List.length_cons,List.length_nil],?_⟩;rw[if_pos rfl];refine⟨rfl,?_,rfl⟩;show wrap64 (-(dC Q 2 (aG Q st)).a)= -(bX T (r.take T [28,2,1]) [2]).a;rw[m1,m2,m3.num m4]
    grind[wrap64]
   ·have d:aF T r [((28:Nat):Int)]=false:=by grind[fY]
    rw[Oh,if_pos Oa,if_neg (by rw[d];exact Bool.false_ne_true),if_pos (b.y0.2.1.2 f)];refine⟨.l (o.add _),fun _=>⟨a.c,?_⟩⟩;unfold uP mk NX;rw[if_neg Od,if_neg Od,if_neg Od,if_neg Od];refine⟨_,_,rfl,jM.at (by rw[aV]),Oa,by grind[cQ,aV,List.length_append,List.length_cons,List.length_nil],?_⟩;rw[if_pos rfl,p];exact⟨rfl,b.num f,rfl⟩
   ·have d:aF T r [((28:Nat):Int)]=false:=by grind[fY]
    have q: ¬(aE Q r.b).d=2:=fun e=>by have:=b.y0.2.1.1 e;omega
    have W:=b.y0.1.2 f;have s:cX Q 1 st=aG Q st:=by grind[cX]
    have u:dC Q 1 st=aE Q r.b:=by grind[dC]
    rw[Oh,Oh,if_neg (by rw[d];exact Bool.false_ne_true),if_neg q,s,u,p];refine⟨.l (o.add _),fun _=>⟨a.c,?_⟩⟩;unfold nJ mk NX;rw[if_neg Od,if_neg Od,if_neg Od,if_neg Od];refine⟨_,_,rfl,jM.at (by rw[aV]),Oa,by grind[cQ,aV,List.length_append,List.length_cons,List.length_nil],?_⟩;rw[if_neg Od,if_pos rfl];exact⟨rfl,b.1,(b.h f).2,rfl⟩
  ·have R:aF T r [28,2,1]=false:=Qh
   have l:=nU g a j R;have h0:∀ k:Int,aM [28,2,1] k=true->(aE T r.b).d≠k:=(by grind[aF]);have W:(aE Q r.b).d≠1:=fun e=>h0 1 Ob (b.y0.1.1 e);have q: ¬(aE Q r.b).d=2:=fun e=>h0 2 Ob (b.y0.2.1.1 e);have d:aF T r [((28:Nat):Int)]=false:=by rw[fY];exact decide_eq_false (h0 28 Ob)
   have w:bX T r [28,2,1]=uE:=by grind[bX]
   have s:cX Q 1 st=dW Q st:=by grind[cX]
   rw[w,if_neg Ob,if_neg Ob,if_neg (by rw[d];exact Bool.false_ne_true),if_neg q,s];exact⟨.r ⟨l.c,l.d,l.p⟩,fun h=>absurd h l.c⟩
 ·have z:=aI0 (T:=T) r a.c;exact⟨.r (a.gr z (Gr.atom Q st)),fun h=>absurd (Oa) a.c⟩
theorem aGB:sH (iS T):=wF aI0
theorem aMO(a:Tw T Q)(g:Rl r st)(d:r.b < T.length):Rl (iS T r).1 (gT Q st).1/\((iS T r).1.a=0->r.a=0/\NX (gT Q st).1.L (iS T r).2 [(gT Q st).2] st.L.length (gT Q st).1.L.length/\∃ n,jM (gT Q st).1.L (gT Q st).2 n/\n.at_=aS3 (iS T r).2):=by
 obtain⟨p,q⟩:=aI8 a g d;have a1:=tU a.ends r d;obtain⟨c1,c2⟩:=aMU a p a1.lt;have h:=aN a.ends a1.lt (show aM gX 0=false by decide);obtain⟨s,t⟩:=aI8 a c1 h.lt;unfold iS jL gT;refine⟨s.add _,fun o=>?_⟩;obtain⟨j,b⟩:=t o;obtain⟨k,l,_⟩:=c2 j;obtain⟨e,f⟩:=q k;have v:=f.le;rw[aCY]at b;have u:=b.le;refine⟨e,?_,_,jM.last _ _,?_⟩
 ·unfold mk NX;rw[if_neg Od,if_neg Od,if_neg Od,if_neg Od];refine⟨_,_,rfl,jM.last _ _,Oa,by grind[cQ],?_⟩;rw[if_neg Od,if_neg Od,if_neg Od,if_neg Od,if_neg Od,if_neg Od,if_pos rfl];refine⟨rfl,l,_,_,_,rfl,NX.mono ?_ _ _ _ _ f,by rw[aCY];exact NX.mono (List.prefix_append _ _) _ _ _ _ b⟩;exact((Gr.comp Q _).pre.trans (Gr.atom Q _).pre).t (List.prefix_append _ _)
 ·show(aE Q st.i).e=(aE T r.b).e;have h0:=g.ok e;rw[<-h0.i];exact(a.tok r.b d).1
theorem aOB(e:Tw T Q):∀ n k r st l,Rl r st->r.b < T.length->(r.a=0->T.length - r.b<=n/\T.length - r.b<=k)->
 Rl (aZ T (iS T) n r).1 (eF Q k (dF Q st (sp 18)) l st).1/\st.L <+:(eF Q k (dF Q st (sp 18)) l st).1.L/\((aZ T (iS T) n r).1.a=0->r.a=0/\∃ b,(eF Q k (dF Q st (sp 18)) l st).2=l++b/\NW (eF Q k (dF Q st (sp 18)) l st).1.L (aZ T (iS T) n r).2 b st.L.length (eF Q k (dF Q st (sp 18)) l st).1.L.length):=by
 intro n
 have j:∀ (n k:Nat) (r:Rd) (st:QS) (l:List Int),Rf r st->Rl (aZ T (iS T) n r).1 (eF Q k (dF Q st (sp 18)) l st).1/\st.L <+:(eF Q k (dF Q st (sp 18)) l st).1.L/\((aZ T (iS T) n r).1.a=0->r.a=0/\∃ b,(eF Q k (dF Q st (sp 18)) l st).2=l++b/\NW (eF Q k (dF Q st (sp 18)) l st).1.L (aZ T (iS T) n r).2 b st.L.length (eF Q k (dF Q st (sp 18)) l st).1.L.length):=by
  intro n k r st l a;have v:=xN (T:=T) (aGB (T:=T)) n r a.c
  have d:(eF Q k (dF Q st (sp 18)) l st).1=st:=by
   cases k with
   |zero=>rfl
   |succ k=>unfold eF;rw[if_neg (fun h=>a.c (a.d.symm.t h.2))]
  rw[d];exact⟨.r (a.to v Oa),Od,fun h=>absurd (Oa) a.c⟩
 induction n with
 |zero=>
  intro k r st l a g f;rcases a with a|a
  ·have:=f a.c;omega
  ·exact j 0 k r st l a
 |succ n ih=>
  intro k r st l a g f;rcases a with a|a
  ·obtain⟨hn,hk⟩:=f a.c;have z:=nQ e a g (k:=18) Oa Oa;unfold aZ;rw[z];cases hs:aF T r [((18:Nat):Int)]
   ·have o:aF T r [18]=false:=hs;rw[if_neg (by simp[])];have d:eF Q k false l st=(st,l):=by cases k<;>simp[eF]
    rw[d];exact⟨.l a,Od,fun _=>⟨a.c,[],Od,rfl,Int.le_refl _⟩⟩
   ·have o:aF T r [18]=true:=hs;obtain⟨u,g2,g3,g4⟩:=jT e a g o Ob;have w:r.b0 T [18]=r.take T [18]:=by grind[Rd.b0,Rd.take]
    rw[if_pos rfl,w];obtain⟨k,rfl⟩:∃ m,k=m+1:=⟨k - 1,Oa⟩
    have d:eF Q (k+1) true l st=eF Q k (dF Q (gT Q (aG Q st)).1 (sp 18)) (l++[(gT Q (aG Q st)).2]) (gT Q (aG Q st)).1:=by
     rw[eF,if_pos ⟨rfl,a.d⟩];rfl
    rw[d];have p:(r.take T [18]).b < T.length:=Oa
    obtain⟨p1,p2⟩:=aMO e (.l u) p;have q:=oC e.ends (r.take T [18]) p;have a2:=q.ge;have h0:=(Gr.where_ Q (aG Q st)).pre;rw[aV]at h0;obtain⟨W,s,Z⟩:=ih k _ _ (l++[(gT Q (aG Q st)).2]) p1 q.lt Qg;refine⟨W,Qg,fun R=>⟨a.c,?_⟩⟩;obtain⟨j1,b,j2,j3⟩:=Z R;obtain⟨_,t,nn,k2,k3⟩:=p2 j1;rw[aV]at t;exact⟨(gT Q (aG Q st)).2::b,Qh,_,_,nn,_,rfl,NX.mono s _ _ _ _ t,k2.mono s,k3,j3⟩
  ·exact j (n+1) k r st l a
theorem aAS:sH (eL T):=fun _ h=>eU [1] h
theorem sU(a:eD T):bV T (eL T):=fun _ h=>aN a h Ob
theorem aOD(d:Tw T Q):∀ n k r st l,Rl r st->r.b < T.length->(r.a=0->T.length - r.b<=n/\T.length - r.b<=k)->
 Rl (aZ T (eL T) n r).1 (dJ Q k (dF Q st (sp 18)) l (if dF Q st (sp 18)=true then aG Q st else st)).1/\((aZ T (eL T) n r).1.a=0->r.a=0/\∃ b,(dJ Q k (dF Q st (sp 18)) l (if dF Q st (sp 18)=true then aG Q st else st)).2=l++b/\NP (aZ T (eL T) n r).2 b):=by
 intro n
 have j:∀ (n k:Nat) (r:Rd) (st:QS) (l:List aU),Rf r st->Rl (aZ T (eL T) n r).1 (dJ Q k (dF Q st (sp 18)) l (if dF Q st (sp 18)=true then aG Q st else st)).1/\((aZ T (eL T) n r).1.a=0->r.a=0/\∃ b,(dJ Q k (dF Q st (sp 18)) l (if dF Q st (sp 18)=true then aG Q st else st)).2=l++b/\NP (aZ T (eL T) n r).2 b):=by
  intro n k r st l a;have s:=xN (T:=T) (aAS (T:=T)) n r a.c
  have w:Gr st (if dF Q st (sp 18)=true then aG Q st else st) 0:=by
   grind[Gr.bz,Gr.refl]
  exact⟨.r (a.gr s (w.t (aCA _ _ _ _))),fun h=>absurd (Oa) a.c⟩
 induction n with
 |zero=>
  intro k r st l a f e;rcases a with a|a
  ·have:=e a.c;omega
  ·exact j 0 k r st l a
 |succ n ih=>
  intro k r st l a f e;rcases a with a|a
  ·obtain⟨hn,hk⟩:=e a.c;have u:=nQ d a f (k:=18) Oa Oa;unfold aZ;rw[u];cases hs:aF T r [((18:Nat):Int)]
   ·have h0:aF T r [18]=false:=hs;rw[if_neg (by simp[]),if_neg Od];have g:dJ Q k false l st=(st,l):=by cases k<;>simp[dJ]
    rw[g];exact⟨.l a,fun _=>⟨a.c,[],Od,rfl⟩⟩
   ·have h0:aF T r [18]=true:=hs;obtain⟨o,g2,g3,g4⟩:=jT d a f h0 Ob;have t:r.b0 T [18]=r.take T [18]:=by grind[Rd.b0,Rd.take]
    rw[if_pos rfl,if_pos rfl,t];obtain⟨k,rfl⟩:∃ m,k=m+1:=⟨k - 1,Oa⟩
    have g:dJ Q (k+1) true l (aG Q st)=dJ Q k (dF Q (cX Q 1 (aG Q st)) (sp 18)) (l++[dC Q 1 (aG Q st)]) (if dF Q (cX Q 1 (aG Q st)) (sp 18)=true then aG Q (cX Q 1 (aG Q st))else cX Q 1 (aG Q st)):=by
     rw[dJ,if_pos ⟨rfl,o.d⟩];rfl
    rw[g];have p:(r.take T [18]).b < T.length:=Oa
    obtain⟨p1,p2⟩:=uM d (.l o) p (k:=1) Oa;have q:=sU d.ends (r.take T [18]) p;have a2:(r.take T [18]).b<=((r.take T [18]).take T [1]).b:=q.ge;obtain⟨z,R⟩:=ih k _ _ (l++[dC Q 1 (aG Q st)]) p1 q.lt Oa;refine⟨z,fun v=>⟨a.c,?_⟩⟩;obtain⟨W,b,j2,Z⟩:=R v;obtain⟨m1,m2,m3,m4,m5⟩:=p2 W;have a3:=m3.h m4;refine⟨dC Q 1 (aG Q st)::b,Qg,_,_,rfl,⟨_,_,_,_,_,rfl,?_,?_⟩,Z⟩
    ·simp[*]
    simp[*]
  ·exact j (n+1) k r st l a
end
end Go.Proofs.YtikffmloeifkpaaGreatDoor
