/- Contracts. -/
import Derived.Test.YtikffmloeifkpaaGreatDoorR07
set_option maxHeartbeats 4000000
set_option maxRecDepth 100000
namespace Go.Proofs.YtikffmloeifkpaaGreatDoor
open Go.RowKit Go.Lib Go.Deep Tryz
theorem yD{T:List Tok}{r:Rd}{O:List Int}(h:(cN T r O).d≠0):aN T r O=true:=by
 cases hs:aN T r O
 ·unfold cN at h;rw[hs]at h;trivial
 ·rfl
theorem sR{T:List Tok}(b:cY T){r:Rd}(h:r.b < T.length){O:List Int}(a:aQ O 0=false)(c:aN T r O=true):r.b+1<=(r.B T O).b:=by
 have d:=qS c;have e:=(mD (aP b h a).lt (cN T r O).e).1;show _<=((r.take T O).M T.length (cN T r O).e).b;omega
theorem aBB{T:List Tok}(b:cY T){n q:Nat}{r:Rd}(h:r.b < T.length){O:List Int}(a:aQ O 0=false)(c:Dm T (n+1) q r)(d:aN T r O=true):Dm T n 2 (r.B T O):=by
 have i:=sR b h a d;obtain⟨j,k,l⟩:=dF b h a;obtain⟨e,f,g⟩:=c;exact⟨Oa,Oa,Oa⟩
theorem aGM(T:List Tok)(g J b n:Nat)(E F:Pr)(r:Rd)(w:World)(hE:dI T g J b 335 E (Dm T n 2))(y2:aZ T E)(y0:So 0 7 E)(hF:dI T g J b 362 F (Dm T n 0))(y1:aZ T F)(k9:So 0 7 F)(h:RdW T g J b r w)(D:Dm T (n+1) 0 r):
 Calls prog 362 #[Qd b] w (jL T g J b w (gM T E F n r) bCH):=by
 have V:Hid (dI T g J b 335 E (Dm T n 2)):=hE;have y4:Hid (aZ T E):=y2;have y3:Hid (So 0 7 E):=y0;have HF:Hid (dI T g J b 362 F (Dm T n 0)):=hF;have y8:Hid (aZ T F):=y1;have y7:Hid (So 0 7 F):=k9;clear hE y2 y0 hF y1 k9;have h1:=h.alloc (Qf #[Qc 2,Qc 1,Qc 12,Qc 28] 141);have Z:=(Ex.refl b w).alloc (Qf #[Qc 2,Qc 1,Qc 12,Qc 28] 141);have k1:=bM w cA #[Qc 2,Qc 1,Qc 12,Qc 28] rfl;go_enter func362,ntmps362
 go_wp2_with fail
 refine(fG T g J b r w.1.size 4 cA _ h1 k1 Ob Ob).mono ?_;rintro e i ⟨rfl,h2,e2⟩;have l:=aP h.ends h.lt (show aQ cA 0=false by decide);have W:Hid ((cN T r cA).d≠0->(r.take T cA).b=r.b+1):=fun hk=>qS (yD hk);generalize hq:cN T r cA=q at*;have H:Hid (cN T r cA=q):=hq;clear hq;rw[Tok.val_eq];have K:=h2.alloc (Qf #[Qc q.d,Qc q.e,.string q.f,Qc q.a] 143);have s:=(Z.t e2).alloc (Qf #[Qc q.d,Qc q.e,.string q.f,Qc q.a] 143);have S:(i.alloc (Qf #[Qc q.d,Qc q.e,.string q.f,Qc q.a] 143)).1[i.1.size]?=some (Qf #[Qc q.d,Qc q.e,.string q.f,Qc q.a] 143):=Qk i _;have a5:i.1.size≠b:=by have:=h2.size;omega
 have Q:0<=(r.take T cA).c/\(r.take T cA).c<=1000000:=by rw[l.c];exact D.c
 have a4:=h.lt;obtain⟨d1,Y,d3⟩:=mD l.lt q.e
 by_cases d:q.d=2
 ·have c:Hid (gM T E F n r=(r.take T cA,vY q.a)):=by unfold Hid gM;dsimp only;rw[H.o,if_pos d]
  have a2:(q.d==2)=true:=by simpa using d
  clear d;go_wp2;go_ret;refine⟨.node (i.1.size+1) 0 {a:=0,g:=q.a} .nil .nil,rfl,by rw[c.o];rfl,New.node (New.nil _ _) (New.nil _ _) (fun _=>by have:=(Z.t e2).size;omega) Od ?_,by rw[c.o];exact K.alloc _,s.alloc _⟩;exact⟨_,by have:=Qk (i.alloc (Qf #[Qc q.d,Qc q.e,.string q.f,Qc q.a] 143)) (Qf #[Qc q.a] 364);simpa using this,rfl⟩
 have a2:(q.d==2)=false:=by simpa using d
 by_cases o:q.d=12
 ·have c:Hid (gM T E F n r=((E ((r.take T cA).M T.length q.e)).1.H T 13,mk {a:=4} (E ((r.take T cA).M T.length q.e)).2 .nil)):=by
   unfold Hid gM;dsimp only;rw[H.o,if_neg d,if_pos o]
  have y6:=W.o Oa
  have k8:Dm T n 2 ((r.take T cA).M T.length q.e):=by
   obtain⟨x1,x2,x3⟩:=D;have:=l.c;exact⟨Oa,Oa,Oa⟩
  have a1:(q.d==12)=true:=by simpa using o
  clear d o;obtain⟨m0,m1,m2,m3,_⟩:=dG S;go_wp2_with fail
  generalize i.alloc (Qf #[Qc q.d,Qc q.e,.string q.f,Qc q.a] 143)=y at*;refine(tU T g J b _ q y K Q).mono ?_;rintro e L ⟨rfl,A,j⟩;go_wp2_with fail
  refine(V.o _ _ A k8).mono ?_;rintro e p ⟨f,rfl,m,G,k,v⟩;have u:Hid (er f=(E ((r.take T cA).M T.length q.e)).2):=m;obtain⟨ya,yx,yy,C,_,y5⟩:=y3.o ((r.take T cA).M T.length q.e);obtain⟨u5,U,t⟩:=aUJ (u.o.t C) Oa;have R:Hid (bCH f= .iface u5 (.pointer (some U))):=t;rw[t];clear t C m;have N:=y4.o _ Y;have P:0<=(E ((r.take T cA).M T.length q.e)).1.c/\(E ((r.take T cA).M T.length q.e)).1.c<=1000000:=by rw[N.c];exact k8.c
  go_wp2_with fail
  refine(nC T g J b _ 13 p k Ob P).mono ?_;rintro e M ⟨rfl,B,z⟩;go_wp2;go_ret;have I:=((s.t j).t v).t z;refine⟨.node M.1.size 0 {a:=4} f .nil,rfl,?_,New.node (((G.mono (s.t j).size).ex k z).ex B ((Ex.refl b M).alloc _)) (New.nil _ _) (fun _=>I.size) Od ?_,by rw[c.o];exact B.alloc _,I.alloc _⟩
  ·rw[c.o,<-u.o];rfl
  ·exact⟨_,Qk M _,by rw[R.o];rfl⟩
 have a1:(q.d==12)=false:=by simpa using o
 by_cases x:q.d=28
 ·have c:Hid (gM T E F n r=(⟨(F ((r.take T cA).M T.length q.e)).1.b,(F ((r.take T cA).M T.length q.e)).1.c - 1,(F ((r.take T cA).M T.length q.e)).1.a,(F ((r.take T cA).M T.length q.e)).1.e⟩,mk {a:=5} (F ((r.take T cA).M T.length q.e)).2 .nil)):=by
   unfold Hid gM;dsimp only;rw[H.o,if_neg d,if_neg o,if_pos x]
  have y6:=W.o Oa
  have k7:Dm T n 0 ((r.take T cA).M T.length q.e):=by
   obtain⟨x1,x2,x3⟩:=D;have:=l.c;exact⟨Oa,Oa,Oa⟩
  have a3:(q.d==28)=true:=by simpa using x
  clear d o x;obtain⟨m0,m1,m2,m3,_⟩:=dG S;go_wp2_with fail
  generalize i.alloc (Qf #[Qc q.d,Qc q.e,.string q.f,Qc q.a] 143)=y at*;refine(tU T g J b _ q y K Q).mono ?_;rintro e L ⟨rfl,A,j⟩;go_wp2_with fail
  refine(HF.o _ _ A k7).mono ?_;rintro e p ⟨f,rfl,m,G,k,v⟩;have u:Hid (er f=(F ((r.take T cA).M T.length q.e)).2):=m;obtain⟨ya,yx,yy,C,_,y5⟩:=y7.o ((r.take T cA).M T.length q.e);obtain⟨u5,U,t⟩:=aUJ (u.o.t C) Oa;have R:Hid (bCH f= .iface u5 (.pointer (some U))):=t;rw[t];clear t C m;have N:=y8.o _ Y;have P:0<=(F ((r.take T cA).M T.length q.e)).1.c/\(F ((r.take T cA).M T.length q.e)).1.c<=1000000:=by rw[N.c];exact k7.c
  obtain⟨n5,n6⟩:=P;have c2:=k.c2;have f2:=k.froz 2;have B:=k.setNest ((F ((r.take T cA).M T.length q.e)).1.c - 1);have z:=(Ex.refl b p).set 2 (Qc ((F ((r.take T cA).M T.length q.e)).1.c - 1));have s6:(p.setCell ⟨b,2,none⟩ (Qc ((F ((r.take T cA).M T.length q.e)).1.c - 1))).1.size=p.1.size:=by simp[World.setCell]
  go_wp2;go_ret;have I:=((s.t j).t v).t z;refine⟨.node p.1.size 0 {a:=5} f .nil,rfl,?_,New.node (((G.mono (s.t j).size).ex k z).ex B ((Ex.refl b _).alloc _)) (New.nil _ _) (fun _=>((s.t j).t v).size) Od ?_,by rw[c.o];exact B.alloc _,I.alloc _⟩
  ·rw[c.o,<-u.o];rfl
  ·exact⟨_,by rw[<-s6];exact Qk _ _,by rw[R.o];rfl⟩
 ·have c:Hid (gM T E F n r=bM2 T E n q (r.take T cA)):=by
   unfold Hid gM;dsimp only;rw[H.o,if_neg d,if_neg o,if_neg x]
  have a3:(q.d==28)=false:=by simpa using x
  have k6:aN T (r.take T cA) [16]=true->Dm T n 2 ((r.take T cA).B T [16]):=fun O=>aBB h.ends l.lt Ob (D.adv l) O;have k5:aN T (r.take T cA) [12]=true->Dm T n 2 ((r.take T cA).B T [12]):=fun O=>aBB h.ends l.lt Ob (D.adv l) O;have z0:Hid _:=k6;have y9:Hid _:=k5;clear d o x k6 k5;obtain⟨m0,m1,m2,m3,_⟩:=dG S;go_wp2_with fail
  generalize i.alloc (Qf #[Qc q.d,Qc q.e,.string q.f,Qc q.a] 143)=y at*;refine(bCR q y).mono ?_;rintro e L ⟨rfl,X⟩;have A:=K.below X;have j:=s.t (Ex.of_below (b:=b) X);go_wp2_with fail
  refine(aJP T g J b n E q _ L V.o y4.o y3.o A Q z0.o y9.o).mono ?_;rintro e p ⟨f,rfl,m,G,k,v⟩;have u:Hid (er f=(bM2 T E n q (r.take T cA)).2):=m;clear m;go_wp2;go_ret;exact⟨f,rfl,by rw[c.o];exact u.o,G.mono j.size,by rw[c.o];exact k,j.t v⟩
theorem aAE:∀ args a,(callFunc 362 args).run prog a= .ok (.enter 362 args) a:=by intro args a;go_simp
theorem aEN:∀ args a,(callFunc 353 args).run prog a= .ok (.enter 353 args) a:=by intro args a;go_simp
theorem aEP:∀ args a,(callFunc 334 args).run prog a= .ok (.enter 334 args) a:=by intro args a;go_simp
theorem aEQ:∀ args a,(callFunc 351 args).run prog a= .ok (.enter 351 args) a:=by intro args a;go_simp
theorem aER:∀ args a,(callFunc 245 args).run prog a= .ok (.enter 245 args) a:=by intro args a;go_simp
theorem zU:∀ args a,(callFunc 191 args).run prog a= .ok (.enter 191 args) a:=by intro args a;go_simp
theorem aEO:∀ args a,(callFunc 185 args).run prog a= .ok (.enter 185 args) a:=by intro args a;go_simp
theorem aAL{T:List Tok}{g J b:Nat}{r:Rd}{w:World}(h:RdW T g J b r w)(O:List Int):0<=(cN T r O).a/\(cN T r O).a<=999999999:=by
 unfold cN
 split
 ·have a:=lJ h.lt;exact h.vals _ Qg
 trivial
theorem aEK(t:Tok)(w:World):(Instr.field 143 (.agg #[Qc t.d,Qc t.e,.string t.f,Qc t.a]) 3).run prog w= .ok (Qc t.a) w:=by kernel_rfl
theorem jL.from{T:List Tok}{g J b:Nat}{w w1:World}{q:Rd × Tr}{c:Tr->Value}{e:Ending}{w':World}(h:jL T g J b w1 q c e w')(a:Ex b w w1):jL T g J b w q c e w':=by
 obtain⟨t,d,f,i,j,k⟩:=h;exact⟨t,d,f,i.mono a.size,j,a.t k⟩
theorem aLF(T:List Tok)(g J b n:Nat)(S:Pr)(r:Rd)(w:World)(f:dI T g J b 362 S (Dm T n 0))(c:aZ T S)(d:So 0 7 S)(h:RdW T g J b r w)(u:Dm T n 0 r):
 Calls prog 353 #[Qd b] w (jL T g J b w (lA T S [29,30,31] n r) bCH):=by
 have l:Hid (dI T g J b 362 S (Dm T n 0)):=f;have j:Hid (aZ T S):=c;have k:Hid (So 0 7 S):=d;clear f c d;have A:∀ (a:Fn) (first J:Array Value) (w:World),(Instr.makeFunc a first J).run prog w= .ok (.func a first J) w:=fun _ _ _ _=>rfl;have q:=h.alloc (Qf #[Qc 29,Qc 30,Qc 31] 141);have o:=(Ex.refl b w).alloc (Qf #[Qc 29,Qc 30,Qc 31] 141);have x:=bM w [29,30,31] #[Qc 29,Qc 30,Qc 31] rfl;have z:=h.size;go_enter func353,ntmps353
 go_wp2_with fail
 refine(aBF T g J b 362 n 0 w.1.size S [29,30,31] _ r _ aAE l.o j.o k.o q u x Oa Ob Ob).mono ?_;rintro e y ⟨t,rfl,i,v,s,p⟩;have m:Hid (er t=(lA T S [29,30,31] n r).2):=i;clear i;go_wp2;go_ret;exact jL.from ⟨t,rfl,m.o,v,s,p⟩ o
theorem aO4(T:List Tok)(g J b n:Nat)(S:Pr)(r:Rd)(w:World)(f:dI T g J b 353 S (Dm T n 1))(c:aZ T S)(d:So 0 7 S)(h:RdW T g J b r w)(u:Dm T n 1 r):
 Calls prog 335 #[Qd b] w (jL T g J b w (lA T S [27,28] n r) bCH):=by
 have l:Hid (dI T g J b 353 S (Dm T n 1)):=f;have j:Hid (aZ T S):=c;have k:Hid (So 0 7 S):=d;clear f c d;have A:∀ (a:Fn) (first J:Array Value) (w:World),(Instr.makeFunc a first J).run prog w= .ok (.func a first J) w:=fun _ _ _ _=>rfl;have q:=h.alloc (Qf #[Qc 27,Qc 28] 141);have o:=(Ex.refl b w).alloc (Qf #[Qc 27,Qc 28] 141);have x:=bM w [27,28] #[Qc 27,Qc 28] rfl;have z:=h.size;go_enter func335,ntmps335
 go_wp2_with fail
 refine(aBF T g J b 353 n 1 w.1.size S [27,28] _ r _ aEN l.o j.o k.o q u x Oa Ob Ob).mono ?_;rintro e y ⟨t,rfl,i,v,s,p⟩;have m:Hid (er t=(lA T S [27,28] n r).2):=i;clear i;go_wp2;go_ret;exact jL.from ⟨t,rfl,m.o,v,s,p⟩ o
theorem aOG(T:List Tok)(g J b n:Nat)(S:Pr)(r:Rd)(w:World)(f:dI T g J b 351 S (Dm T n 3))(c:aZ T S)(d:So 7 9 S)(h:RdW T g J b r w)(q:Dm T n 3 r):
 Calls prog 334 #[Qd b] w (jL T g J b w (kK T S 32 n r) bCH):=by
 have l:Hid (dI T g J b 351 S (Dm T n 3)):=f;have j:Hid (aZ T S):=c;have k:Hid (So 7 9 S):=d;clear f c d;have v:∀ (a:Fn) (first J:Array Value) (w:World),(Instr.makeFunc a first J).run prog w= .ok (.func a first J) w:=fun _ _ _ _=>rfl;go_enter func334,ntmps334
 go_wp2_with fail
 refine(aAZ T g J b 351 n 3 S 32 r _ aEQ l.o j.o k.o h q Ob).mono ?_;rintro e u ⟨t,rfl,i,s,p,o⟩;have m:Hid (er t=(kK T S 32 n r).2):=i;clear i;go_wp2;go_ret;exact⟨t,rfl,m.o,s,p,o⟩
theorem aOI(T:List Tok)(g J b n:Nat)(S:Pr)(r:Rd)(w:World)(f:dI T g J b 334 S (Dm T n 4))(c:aZ T S)(d:So 7 9 S)(h:RdW T g J b r w)(q:Dm T n 4 r):
 Calls prog 299 #[Qd b] w (jL T g J b w (kK T S 33 n r) bCH):=by
 have l:Hid (dI T g J b 334 S (Dm T n 4)):=f;have j:Hid (aZ T S):=c;have k:Hid (So 7 9 S):=d;clear f c d;have v:∀ (a:Fn) (first J:Array Value) (w:World),(Instr.makeFunc a first J).run prog w= .ok (.func a first J) w:=fun _ _ _ _=>rfl;go_enter func299,ntmps299
 go_wp2_with fail
 refine(aAZ T g J b 334 n 4 S 33 r _ aEP l.o j.o k.o h q Ob).mono ?_;rintro e u ⟨t,rfl,i,s,p,o⟩;have m:Hid (er t=(kK T S 33 n r).2):=i;clear i;go_wp2;go_ret;exact⟨t,rfl,m.o,s,p,o⟩
theorem aD2{t:Tr}{a:Nd}{x y:Tr}(h:er t=mk a x y)(c:a.a=7):∃ p,cB t= .pointer (some p)/\bCH t= .iface 253 (.pointer (some p)):=by
 obtain⟨b,o,l,r,rfl,_,_⟩:=oI h;exact⟨⟨b,0,none⟩,rfl,by show(if a.a=20 then _ else _)=_;rw[Oh,c];rfl⟩
theorem aOJ(T:List Tok)(g J b n:Nat)(S:Pr)(r:Rd)(w:World)(i:dI T g J b 335 S (Dm T n 2))(d:aZ T S)(f:So 0 7 S)(h:RdW T g J b r w)(v:Dm T n 2 r):
 Calls prog 351 #[Qd b] w (jL T g J b w (iJ T S r) bCH):=by
 have o:Hid (dI T g J b 335 S (Dm T n 2)):=i;have l:Hid (aZ T S):=d;have m:Hid (So 0 7 S):=f;clear i d f;have A:∀ (c:Fn) (first J:Array Value) (w:World),(Instr.makeFunc c first J).run prog w= .ok (.func c first J) w:=fun _ _ _ _=>rfl;go_enter func351,ntmps351
 go_wp2_with fail
 refine(sU T g J b 335 n 2 S r _ xG o.o l.o m.o h v).mono ?_;rintro e z ⟨t,rfl,a,x,u,s⟩;obtain⟨y,j,k⟩:=aD2 a rfl;have p:Hid (er t=(iJ T S r).2):=a;have q:Hid (bCH t= .iface 253 (.pointer (some y))):=k;rw[j];clear a j k;go_wp2;go_ret;exact⟨t,by rw[q.o];rfl,p.o,x,u,s⟩
theorem aHJ(T:List Tok)(g J b n:Nat)(r:Rd)(w:World)(f:dI T g J b 245 (lG T) (Dm T n 0))(h:RdW T g J b r w)(o:Dm T n 0 r):
 Calls prog 191 #[Qd b] w (jL T g J b w (uK T r) cB):=by
 have j:Hid (dI T g J b 245 (lG T) (Dm T n 0)):=f;clear f;have v:∀ (d:Fn) (first J:Array Value) (w:World),(Instr.makeFunc d first J).run prog w= .ok (.func d first J) w:=fun _ _ _ _=>rfl;go_enter func191,ntmps191
 go_wp2_with fail
 refine(sU T g J b 245 n 0 (lG T) r _ aER j.o (wH h.ends) aPX h o).mono ?_;rintro e u ⟨t,rfl,c,q,m,l⟩;obtain⟨s,a,p⟩:=aD2 c rfl;have k:Hid (er t=(iJ T (lG T) r).2):=c;have i:Hid (cB t= .pointer (some s)):=a;rw[a];clear c a p;go_wp2;go_ret;exact⟨t,by rw[i.o];rfl,k.o,q,m,l⟩
theorem aF6(T:List Tok)(g J b n:Nat):dI T g J b 245 (lG T) (Dm T n 0):=by
 intro r w h O;have E:=h.alloc (Qf #[Qc 28,Qc 2,Qc 1] 141);have v:=(Ex.refl b w).alloc (Qf #[Qc 28,Qc 2,Qc 1] 141);have H:=bM w [28,2,1] #[Qc 28,Qc 2,Qc 1] rfl;go_enter func245,ntmps245
 go_wp2_with fail
 refine(fG T g J b r w.1.size 3 [28,2,1] _ E H Ob Ob).mono ?_;rintro e c ⟨rfl,A,x⟩;generalize B:cN T r [28,2,1]=q at*;have k:Hid (cN T r [28,2,1]=q):=B;clear B;rw[Tok.val_eq];have m:=A.alloc (Qf #[Qc q.d,Qc q.e,.string q.f,Qc q.a] 143);have l:=(v.t x).alloc (Qf #[Qc q.d,Qc q.e,.string q.f,Qc q.a] 143);have L:(c.alloc (Qf #[Qc q.d,Qc q.e,.string q.f,Qc q.a] 143)).1[c.1.size]?=some (Qf #[Qc q.d,Qc q.e,.string q.f,Qc q.a] 143):=Qk c _;have M:(c.alloc (Qf #[Qc q.d,Qc q.e,.string q.f,Qc q.a] 143)).1.size=c.1.size+1:=Od
 obtain⟨Q,R,S,U,_⟩:=dG L
 by_cases f:q.d=28
 ·have K:(q.d==28)=true:=by simpa using f
  have C:=bM (c.alloc (Qf #[Qc q.d,Qc q.e,.string q.f,Qc q.a] 143)) [2] #[Qc 2] rfl;rw[M]at C;have o:=m.alloc (Qf #[Qc 2] 141);have j:=l.alloc (Qf #[Qc 2] 141);have d:Hid (lG T r=((r.take T [28,2,1]).take T [2],vY (-(cN T (r.take T [28,2,1]) [2]).a))):=by unfold Hid lG;dsimp only;rw[k.o,if_pos f]
  clear f;go_wp2_with fail
  refine(fG T g J b _ (c.1.size+1) 1 [2] _ o C Ob Ob).mono ?_;rintro e t ⟨rfl,F,y⟩;have G:=aAL A [2];generalize z:cN T (r.take T [28,2,1]) [2]=p at*;have N:Hid (cN T (r.take T [28,2,1]) [2]=p):=z;clear z;obtain⟨V,W⟩:=G;rw[Tok.val_eq];have P:=aEK p;go_wp2;go_ret;refine⟨.node t.1.size 0 {a:=0,g:=-p.a} .nil .nil,rfl,by rw[d.o];rfl,New.node (New.nil _ _) (New.nil _ _) (fun _=>(j.t y).size) Od ?_,by rw[d.o];exact F.alloc _,(j.t y).alloc _⟩;exact⟨_,Qk t _,rfl⟩
 have K:(q.d==28)=false:=by simpa using f
 by_cases i:q.d=2
 ·have I:(q.d==2)=true:=by simpa using i
  have d:Hid (lG T r=(r.take T [28,2,1],vY q.a)):=by unfold Hid lG;dsimp only;rw[k.o,if_neg f,if_pos i]
  clear i f;go_wp2;go_ret;refine⟨.node (c.1.size+1) 0 {a:=0,g:=q.a} .nil .nil,rfl,by rw[d.o];rfl,New.node (New.nil _ _) (New.nil _ _) (fun _=>by have:=(v.t x).size;omega) Od ?_,by rw[d.o];exact m.alloc _,l.alloc _⟩;exact⟨_,by have:=Qk (c.alloc (Qf #[Qc q.d,Qc q.e,.string q.f,Qc q.a] 143)) (Qf #[Qc q.a] 364);simpa using this,rfl⟩
 ·have I:(q.d==2)=false:=by simpa using i
  have d:Hid (lG T r=(r.take T [28,2,1],mO q)):=by unfold Hid lG;dsimp only;rw[k.o,if_neg f,if_neg i]
  clear i f;go_wp2_with fail
  generalize c.alloc (Qf #[Qc q.d,Qc q.e,.string q.f,Qc q.a] 143)=D at*;refine(bCR q D).mono ?_;rintro e s ⟨rfl,u⟩;have o:=m.below u;have j:=l.t (Ex.of_below (b:=b) u);unfold fV;go_wp2;go_ret;refine⟨.node s.1.size 0 {a:=1,h:=q.f,b:=q.e} .nil .nil,rfl,by rw[d.o];rfl,New.node (New.nil _ _) (New.nil _ _) (fun _=>j.size) Od ?_,by rw[d.o];exact o.alloc _,j.alloc _⟩;exact⟨_,Qk s _,rfl,rfl,rfl⟩
theorem aHG(T:List Tok)(g J b n:Nat)(E:Pr)(O:Tok)(q:Bool)(r:Rd)(w:World)(B:dI T g J b 335 E (Dm T n 2))(C:So 0 7 E)(h:RdW T g J b r w)(L:Dm T n 2 (r.take T [20])):
 Calls prog 297 #[Qd b,fV O.f O.e,.bool q] w (jL T g J b w (sQ T E O q r) cB):=by
 have F:Hid (dI T g J b 335 E (Dm T n 2)):=B;have G:Hid (So 0 7 E):=C;clear B C;unfold fV;have hsz:(w.alloc (Qf #[.string O.f,Qc O.e,Qc 0] 100)).1.size=w.1.size+1:=Od
 have v:=(h.alloc (Qf #[.string O.f,Qc O.e,Qc 0] 100)).alloc (Qf #[Qc 20] 141);have s:=((Ex.refl b w).alloc (Qf #[.string O.f,Qc O.e,Qc 0] 100)).alloc (Qf #[Qc 20] 141);have j:=bM (w.alloc (Qf #[.string O.f,Qc O.e,Qc 0] 100)) [20] #[Qc 20] rfl;rw[hsz]at j
 have k:((w.alloc (Qf #[.string O.f,Qc O.e,Qc 0] 100)).alloc (Qf #[Qc 20] 141)).1[w.1.size]?=some (Qf #[.string O.f,Qc O.e,Qc 0] 100):=
  (On (by rw[hsz];omega)).t (Qk w _)
 have y:w.1.size≠b:=by have:=h.size;omega
 go_enter func297,ntmps297
 go_wp2_with fail
 refine(fG T g J b r (w.1.size+1) 1 [20] _ v j Ob Ob).mono ?_;rintro e H ⟨rfl,I,t⟩;have l:=(t.block w.1.size (Oo k) y).t k;have f:=s.t t;clear v s j k hsz;obtain⟨N,S,U⟩:=dO l;have R:H.drew.cell? ⟨w.1.size,0,none⟩=some (.string O.f):=N;have D:Hid (sQ T E O q r=((fM T E (r.take T [20])).1,mk {a:=9,h:=O.f,b:=O.e,flag:=q} (fM T E (r.take T [20])).2 .nil)):=rfl;go_wp2_with fail
 go_region_held3 (fun p=>p.cell? ⟨w.1.size,0,none⟩=some (.string O.f)/\p.cell? ⟨w.1.size,1,none⟩=some (Qc O.e)/\p.cell? ⟨w.1.size,2,none⟩=some (Qc 0))
  (first
    |(refine⟨?_,?_,?_⟩<;>assumption)
    |go_keep)
  ((refine eC rfl 300 #[Qd b] _ (by go_simp) (bCZ T g J b n E _ _ F.o I.drew L) ?_;rintro e c ⟨o,rfl,x,M,A,d⟩;refine⟨_,rfl,?_⟩;have z:Hid (er o=(fM T E (r.take T [20])).2):=x;clear x;have m:=(d.block w.1.size (Oo l) y).t l;have V:=(dO m).1;have W:=(dO m).2.1;have X:=(dO m).2.2;obtain⟨Y,Z,yy,u,_,Q⟩:=G.o (r.take T [20]);obtain⟨u7,P,i⟩:=aUJ (z.o.t u) Oa;have K:Hid (bCH o= .iface u7 (.pointer (some P))):=i;rw[i];clear i u))
 go_wp2;go_ret;refine⟨.node c.1.size 0 {a:=9,h:=O.f,b:=O.e,flag:=q} o .nil,rfl,?_,New.node ((M.mono f.size).ex A ((Ex.refl b c).alloc _)) (New.nil _ _) (fun _=>(f.drew.t d).size) Od ?_,by rw[D.o];exact A.alloc _,(f.drew.t d).alloc _⟩
 ·rw[D.o,<-z.o];rfl
 ·exact⟨_,Qk c _,⟨rfl,rfl,rfl⟩,by rw[K.o];rfl,rfl⟩
theorem aIU(T:List Tok)(g J b n:Nat)(E:Pr)(O:Tok)(r:Rd)(w:World)(N:dI T g J b 335 E (Dm T n 2))(P:aZ T E)(Q:So 0 7 E)(h:RdW T g J b r w)(hn:0<=r.c/\r.c<=1000000)(hd:Dm T n 2 (r.B T [16]))(k5:Dm T n 2 ((gR T E r).1.take T [20])):
 Calls prog 301 #[Qd b,fV O.f O.e] w (jL T g J b w (lK T E O r) cB):=by
 have F:Hid (dI T g J b 335 E (Dm T n 2)):=N;have Z:Hid (aZ T E):=P;have i:Hid (So 0 7 E):=Q;clear N Q P;unfold fV;have I:=(h.alloc (Qf #[.string O.f,Qc O.e,Qc 0] 100));have j:=((Ex.refl b w).alloc (Qf #[.string O.f,Qc O.e,Qc 0] 100));have v:(w.alloc (Qf #[.string O.f,Qc O.e,Qc 0] 100)).1[w.1.size]?=some (Qf #[.string O.f,Qc O.e,Qc 0] 100):=Qk w _;have t:w.1.size≠b:=by have:=h.size;omega
 go_enter func301,ntmps301
 go_wp2_with fail
 refine(aB2 T g J b n E r _ F.o Z.o i.o I hn hd).mono ?_;rintro e c ⟨B,rfl,V,S,K,H⟩;have X:Hid (er B=(gR T E r).2):=V;obtain⟨xa,xx,xy,M,_,a4⟩:=i.o (r.B T [16]);obtain⟨u3,p3,p⟩:=aUJ (X.o.t M) Oa;have k7:Hid (bCH B= .iface u3 (.pointer (some p3))):=p;rw[p];clear p M V;have x:=(H.block w.1.size (Oo v) t).t v;have q:=K.alloc (Qf #[Qc 20] 141);have k:=(Ex.refl b c).alloc (Qf #[Qc 20] 141);have Y:=bM c [20] #[Qc 20] rfl;have y:(c.alloc (Qf #[Qc 20] 141)).1[w.1.size]?=_:=(On (Oo x)).t x;go_wp2_with fail
 refine(fG T g J b _ c.1.size 1 [20] _ q Y Ob Ob).mono ?_;rintro e G ⟨rfl,s,l⟩;have z:=(l.block w.1.size (Oo y) t).t y;have a1:=((S.mono j.size).ex K k).ex q l;have m:=((j.t H).t k).t l;obtain⟨m0,m1,m2⟩:=dO z;have a6:G.drew.cell? ⟨w.1.size,0,none⟩=some (.string O.f):=m0;have R:Hid (lK T E O r=((fM T E ((gR T E r).1.take T [20])).1,mk {a:=10,h:=O.f,b:=O.e} (gR T E r).2 (fM T E ((gR T E r).1.take T [20])).2)):=rfl;clear I j v x y q k Y S;go_wp2_with fail
 go_region_held3 (fun D=>D.cell? ⟨w.1.size,0,none⟩=some (.string O.f)/\D.cell? ⟨w.1.size,1,none⟩=some (Qc O.e)/\D.cell? ⟨w.1.size,2,none⟩=some (Qc 0))
  (first
    |(refine⟨?_,?_,?_⟩<;>assumption)
    |go_keep)
  ((refine eC rfl 300 #[Qd b] _ (by go_simp) (bCZ T g J b n E _ _ F.o s.drew k5) ?_;rintro e d ⟨C,rfl,U,a2,u,f⟩;refine⟨_,rfl,?_⟩;have W:Hid (er C=(fM T E ((gR T E r).1.take T [20])).2):=U;clear U;have A:=(f.block w.1.size (Oo z) t).t z;have p0:=(dO A).1;have p1:=(dO A).2.1;have p2:=(dO A).2.2;obtain⟨ya,yx,yy,L,_,a5⟩:=i.o ((gR T E r).1.take T [20]);obtain⟨u7,p7,o⟩:=aUJ (W.o.t L) Oa;have k6:Hid (bCH C= .iface u7 (.pointer (some p7))):=o;rw[o];clear o L))
 go_wp2;go_ret;have a3:=(a1.ex s (Ex.refl b G).drew).ex s.drew f;refine⟨.node d.1.size 0 {a:=10,h:=O.f,b:=O.e} B C,rfl,?_,New.node (a3.ex u ((Ex.refl b d).alloc _)) ((a2.mono m.size).ex u ((Ex.refl b d).alloc _)) (fun _=>(m.drew.t f).size) Od ?_,by rw[R.o];exact u.alloc _,(m.drew.t f).alloc _⟩
 ·rw[R.o,<-W.o,<-X.o];rfl
 ·exact⟨_,Qk d _,⟨rfl,rfl,rfl⟩,by rw[k7.o];rfl,by rw[k6.o];rfl,rfl⟩
theorem RdW.J{T:List Tok}{g J b:Nat}{r:Rd}{w:World}(h:RdW T g J b r w){k:Nat}{c:Array Value}{t:TypeId}(a:w.1[k]?=some (.cells c t (0,0)))(f:t≠145)(i:t≠143)(o:Nat)(v:Value):
 RdW T g J b r (w.setCell ⟨k,o,none⟩ v):=by
 refine h.setOther ?_ ?_ o v
 ·intro e;rw[e,h.blk]at a
  grind
 ·obtain⟨d,j,_⟩:=h.row
  grind
theorem New.set{H k:Nat}{w:World}{t:Tr}(h:New H w t)(a:dV k t)(o:Nat)(v:Value):New H (w.setCell ⟨k,o,none⟩ v) t:=h.but (by grind[Below.heap_setCell]) a
theorem aSV(T:List Tok)(g J b n:Nat)(C B:Pr)(r:Rd)(w:World)(X:dI T g J b 299 C (Dm T n 5))(y6:aZ T C)(k6:So 7 9 C)(W:dI T g J b 192 B (Dm T n 6))(y7:aZ T B)(k7:SoL B)(h:RdW T g J b r w)(L:Dm T n 6 r):
 Calls prog 298 #[Qd b] w (jL T g J b w (ifP T C B r) cB):=by
 have HC:Hid (dI T g J b 299 C (Dm T n 5)):=X;have y9:Hid (So 7 9 C):=k6;have R:Hid (dI T g J b 192 B (Dm T n 6)):=W;have y1:Hid (SoL B):=k7;have y:=y6 r h.lt;have U:=y7 _ y.lt;have y5:Dm T n 5 r:=by obtain⟨b4,a9,b1⟩:=L;exact⟨Oa,a9,b1⟩
 have y4:Dm T n 6 (C r).1:=L.adv y;have a3:=dU h.ends U.lt (show aQ [8] 0=false by decide);have y3:Dm T n 6 ((B (C r).1).1.C T [8]):=L.adv ((y.t U).t a3);clear X k6 W k7;go_enter func298,ntmps298
 go_wp2_with fail
 refine(HC.o r w h y5).mono ?_;rintro e W1 ⟨v,rfl,k4,a7,V,m⟩;have I:Hid (er v=(C r).2):=k4;obtain⟨xa,xx,xy,k0,_,b2⟩:=y9.o r;obtain⟨u1,f,G⟩:=aUJ (I.o.t k0) Oa;have k9:Hid (bCH v= .iface u1 (.pointer (some f))):=G;rw[G];clear G k0 k4;go_wp2_with fail
 refine(R.o _ W1 V y4).mono ?_;rintro e c ⟨l,rfl,k2,a2,q,z⟩;have H:Hid (er l=(B (C r).1).2):=k2;obtain⟨ao,d,cq,F⟩:=iZ (t:=l) (by rw[H.o];exact y1.o _);have k8:Hid (bCH l= .slice ao d cq):=F;rw[F];clear F k2;have a1:=a7.ex V z;have Q:(c.alloc (Qf #[.iface u1 (.pointer (some f)),.slice ao d cq,.slice none 0 0] 337)).1.size=c.1.size+1:=Od
 have s:=(q.alloc (Qf #[.iface u1 (.pointer (some f)),.slice ao d cq,.slice none 0 0] 337)).alloc (Qf #[Qc 8] 141);have A:=((Ex.refl b c).alloc (Qf #[.iface u1 (.pointer (some f)),.slice ao d cq,.slice none 0 0] 337)).alloc (Qf #[Qc 8] 141);have M:=bM (c.alloc (Qf #[.iface u1 (.pointer (some f)),.slice ao d cq,.slice none 0 0] 337)) [8] #[Qc 8] rfl;rw[Q]at M
 have N:((c.alloc (Qf #[.iface u1 (.pointer (some f)),.slice ao d cq,.slice none 0 0] 337)).alloc (Qf #[Qc 8] 141)).1[c.1.size]?=some (Qf #[.iface u1 (.pointer (some f)),.slice ao d cq,.slice none 0 0] 337):=
  (On (by rw[Q];omega)).t (Qk c _)
 have k5:c.1.size≠b:=by have:=q.size;omega
 have o1:=a1.o (k:=c.1.size) Ol;have o2:=a2.o (k:=c.1.size) Ol;go_wp2_with fail
 refine(lL T g J b _ (c.1.size+1) 1 [8] _ s M Ob Ob).mono ?_;rintro e S ⟨rfl,i,o⟩;have u:=(o.block c.1.size (Oo N) k5).t N;have Y:=(a1.ex q A).ex s o;have Z:=(a2.ex q A).ex s o;have D:=((m.t z).t A).t o;have K:w.1.size<=c.1.size:=(m.t z).size;clear M Q s N;cases hs:aN T (B (C r).1).1 [8]
 ·have y2:(B (C r).1).1.C T [8]=(B (C r).1).1:=by unfold Rd.C;rw[hs];rfl
  rw[y2]at i;have j:Hid (ifP T C B r=((B (C r).1).1,mk {a:=11} (C r).2 (mk {a:=18} (B (C r).1).2 .nil))):=by unfold Hid ifP;dsimp only;rw[hs];rfl
  go_wp2;go_ret;refine⟨.node c.1.size 0 {a:=11} v (.node 0 0 {a:=18} l .nil),rfl,?_,New.node Y (New.node (Z.mono m.size) (New.nil _ _) (fun P=>absurd rfl P.2.1) Od trivial) (fun _=>K) Od ?_,by rw[j.o];exact i,D⟩
  ·rw[j.o,<-I.o,<-H.o];rfl
  ·exact⟨_,u,by rw[k9.o];rfl,_,_,_,_,_,rfl,by rw[k8.o];rfl,rfl⟩
 ·have j:Hid (ifP T C B r=((B ((B (C r).1).1.C T [8])).1,mk {a:=11} (C r).2 (mk {a:=18} (B (C r).1).2 (B ((B (C r).1).1.C T [8])).2))):=by unfold Hid ifP;dsimp only;rw[hs];rfl
  go_wp2_with fail
  refine(R.o _ S i y3).mono ?_;rintro e W5 ⟨x,rfl,k1,a4,h5,p⟩;have y0:Hid (er x=(B ((B (C r).1).1.C T [8])).2):=k1;obtain⟨a5,a8,a6,E⟩:=iZ (t:=x) (by rw[y0.o];exact y1.o _);have y8:Hid (bCH x= .slice a5 a8 a6):=E;rw[E];clear E k1;have O:=(p.block c.1.size (Oo u) k5).t u;obtain⟨m0,m1,m2,mf⟩:=bCM O;have b3:=mf 2;have l4:c.1.size < S.1.size:=(Oo u);have o5:=a4.fresh.notIn l4;go_wp2;go_ret;refine⟨.node c.1.size 0 {a:=11} v (.node 0 0 {a:=18} l x),rfl,?_,New.node ((Y.ex i p).set o1 _ _) (New.node (((Z.ex i p).mono m.size).set o2 _ _) ((a4.mono D.size).set o5 _ _) (fun P=>absurd rfl P.2.1) Od trivial) (fun _=>K) Od ?_,by rw[j.o];exact h5.J O Ob Ob _ _,(D.t p).J K _ _⟩
  ·rw[j.o,<-I.o,<-H.o,<-y0.o];rfl
  ·exact⟨_,aM _ O,by rw[k9.o];rfl,_,_,_,_,_,rfl,by rw[k8.o];rfl,by rw[y8.o];rfl⟩
theorem infoS:(prog.info? 250).map (fun i=>(i.zero,i.size,i.bytes))=some (some .nilIface,1,16):=by kernel_rfl
theorem aTO{t:Tr}{a:Nd}{x y:Tr}(h:er t=mk a x y)(c:9<=a.a)(d:a.a < 15):cP t=[bCH t]/\bL (cons t .nil)=250/\∃ b o a l q,t= .node b o a l q/\(a.a=19↔1=3):=by
 obtain⟨b,o,l,r,rfl,_,_⟩:=oI h;refine⟨?_,?_,b,o,a,l,r,rfl,Oa⟩
 ·show(if a.a=19 then[Value.string a.h,Qc a.b,Qc a.c]else if a.a=7 then[cB (.node b o a l r)]else[bCH (.node b o a l r)])=_
  grind
 ·show(if a.a=19 then _ else if a.a=7 then _ else if a.a < 7 then _ else if a.a < 15 then _ else _)=_
  grind
theorem aJH{T:List Tok}{r:Rd}{O:List Int}:aN T r O=true\/(r.B T O).b=T.length - 1:=by
 cases hs:aN T r O
 ·right;show((r.take T O).M T.length (cN T r O).e).b=_
  grind[Rd.take,Rd.M,lP]
 simp
theorem eQ{w:World}{a n c:Nat}{e:TypeId}{v:Value}{d:List Value}(h:w.ownsRow a e c v n d):∃ ao b,v= .slice ao n b/\(n=0\/∃ g,ao=some ⟨g,0,none⟩):=by
 rcases h.2 with⟨rfl,rfl⟩|⟨g,J,f,rfl,_⟩
 ·simp
 simp
def aGZ(T:List Tok)(n:Nat)(S:Pr):Prop:=∀ r,Dm T n 7 r->r.b+1 < T.length->r.b+1<=(S r).1.b
theorem aKV(T:List Tok)(g J b n:Nat)(S:Pr)(r:Rd)(w:World)(hS:dI T g J b 246 S (Dm T n 7))(hG:aZ T S)(hO:So 9 15 S)(hA:aGZ T n S)(h:RdW T g J b r w)(Q:Dm T (n+1) 6 r):
 Calls prog 192 #[Qd b] w (jL T g J b w (qI T S n r) bCH):=by
 have HS:Hid (dI T g J b 246 S (Dm T n 7)):=hS;have HG:Hid (aZ T S):=hG;have HO:Hid (So 9 15 S):=hO;have HA:Hid (aGZ T n S):=hA;clear hS hG hO hA;obtain⟨i0,j9,j5,j4,j3⟩:=info_parts infoS;have h1:=h.alloc (Qf #[Qc 14] 141);have f:=(Ex.refl b w).alloc (Qf #[Qc 14] 141);have k1:=bM w [14] #[Qc 14] rfl;obtain⟨o1,o2,o3⟩:=dF h.ends h.lt (show aQ [14] 0=false by decide);have d6:=h.few;have k3:=h.ends;have z3:=h.lt
 have z8:∀ U:Rd,(r.B T [14]).b<=U.b->U.c=(r.B T [14]).c->U.b < T.length->aN T U [15,0]=false->Dm T n 7 U/\U.b+1 < T.length:=by
  intro U z9 h8 hl y9
  have v:U.b≠T.length - 1:=by
   intro e;unfold aN dD at y9;rw[e,k3]at y9;exact absurd y9 Ob
  rcases aJH (T:=T) (r:=r) (O:=[14])with hs|hs
  ·have h2:=sR k3 z3 (show aQ [14] 0=false by decide) hs;obtain⟨c5,c6,c7⟩:=Q;exact⟨⟨Oa,Oa,Oa⟩,Oa⟩
  ·omega
 have g1:Hid _:=z8;clear z8;go_enter func192,ntmps192
 go_wp2_with fail
 refine(uL T g J b r w.1.size 1 [14] _ h1 k1 Ob Ob Q.c).mono ?_;rintro e W2 ⟨rfl,h2,F⟩;have c8:=f.t F;go_wp2_with fail
 go_loopg [3] n (fun m a7 wr=>∃ (U:Rd) (c:Tr),wr.ownsRow w.1.size 250 1 a7 (aO c) (bLF c)/\(c= .nil->a7= .slice none 0 0)/\(c≠ .nil->bL c=250)/\jZ 1 c/\New w.1.size wr c/\(∀ k,a7.ownBlock=some k->dV k c)/\RdW T g J b U wr/\Ex b w wr/\
  (r.B T [14]).b<=U.b/\U.c=(r.B T [14]).c/\T.length - U.b<=m+1/\aO c<=U.b/\
  app (er c) (cL T S m U).2=(cL T S n (r.B T [14])).2/\(cL T S m U).1=(cL T S n (r.B T [14])).1)
 case atStart=>
  refine⟨_,.nil,World.ownsRow_nil _ _ _ _,fun _=>rfl,fun h=>absurd rfl h,trivial,New.nil _ _,fun k d=>by simp[Value.ownBlock]at d,h2,c8,Ql _,rfl,?_,Qn _,rfl,rfl⟩;obtain⟨c5,c6,c7⟩:=Q;omega
 case round=>
  obtain⟨U,c,own,k9,z6,hsz,b4,z0,G,ec,z9,h8,hm,d8,k7,k0⟩:=hrel;have L:Hid (app (er c) (cL T S gk U).2=(cL T S n (r.B T [14])).2):=k7;have X:Hid ((cL T S gk U).1=(cL T S n (r.B T [14])).1):=k0;have P:Hid (c≠ .nil->bL c=250):=z6;obtain⟨ao,o,rfl,j1⟩:=eQ own;have k5:Hid (c= .nil->(Value.slice ao (aO c) o)= .slice none 0 0):=k9;clear k7 k0 z6 k9;have K:=G.alloc (Qf #[Qc 15,Qc 0] 141);have F:=(Ex.refl b wr).alloc (Qf #[Qc 15,Qc 0] 141);have a9:=b4.ex G F;have b8:=own.alloc (Qf #[Qc 15,Qc 0] 141);have z7:=bM wr [15,0] #[Qc 15,Qc 0] rfl;go_wp2_with fail
  refine(bMD T g J b U wr.1.size 2 [15,0] _ K z7 Ob).mono ?_;rintro e Z ⟨rfl,I,rfl⟩;have D:=K.drewN I;have a3:=a9.ex K ((Ex.refl b _).drewN I);have V:=bME b8 K.blk Ob ((Ex.refl b _).drewN I);have N:=(ec.t F).drewN I;clear b8 a9 z7 K F;generalize ((wr.alloc (Qf #[Qc 15,Qc 0] 141)).drewN I)=Z at*;cases hs:aN T U [15,0]
  ·obtain⟨j0,z2⟩:=g1.o U z9 h8 G.lt hs;go_wp2_with fail
   refine(HS.o _ _ D j0).mono ?_;rintro e j ⟨q,rfl,z5,b6,B,e5⟩;have W:Hid (er q=(S U).2):=z5;obtain⟨ya,yx,yy,y7,j7,j6⟩:=HO.o U;obtain⟨y1,k8,z1⟩:=aTO (W.o.t y7) j7 j6;obtain⟨u5,p,y8⟩:=aUJ (W.o.t y7) Oa;have j2:Hid (bCH q= .iface u5 (.pointer (some p))):=y8;have z4:Hid (cP q=[bCH q]):=y1;have y4:Hid (bL (cons q .nil)=250):=k8;rw[y8];clear y8 y7 z5 y1 k8;obtain⟨m,rfl⟩:=Oj gk;have a5:=HG.o U G.lt;have d5:=HA.o U j0 z2;have a4:=bME V D.blk Ob e5;have b2:=a3.ex D e5;have a8:=N.t e5;have e3:=a8.size;have e1:=a5.lt;have d7:aO c<=5000:=Oa
   go_wp2_with (at_builtin;refine wpList_append_lies _ rfl _ _ 103 rfl w.1.size 250 i0 _ 1 16 underlying103 j9 j5 j4 j3 rfl Oa (.slice ao (aO c) o) (aO c) (bLF c) rfl (a4.alloc _) ⟨j.1.size,0,none⟩ 1 1 [.iface u5 (.pointer (some p))] rfl rfl (World.news_of_block (cs:=#[.iface u5 (.pointer (some p))]) (t:=250) (fr:=(0,0)) (Qk j _)) (by simp[Value.oneCell']) Oa (by unfold maxLen;omega) Oa (by simp;omega) (j.1.size+1) Od ?_;intro A a2 s b9 i y3 d9)
   have e6:Ex b j (j.alloc (Qf #[.iface u5 (.pointer (some p))] 250)):=(Ex.refl b j).alloc _;have C:=B.alloc (Qf #[.iface u5 (.pointer (some p))] 250);have H:=b2.ex B e6;have y:=b6.ex B e6
   have a6:∀ k,Value.ownBlock (.slice ao (aO c) o)=some k->k≠b/\k≠g:=by
    intro k d;rcases(a4.alloc (Qf #[.iface u5 (.pointer (some p))] 250)).2 with⟨u,_⟩|⟨g',d2,d3,hv,_,R,_⟩
    ·rw[u]at d;simp[Value.ownBlock]at d
    ·rw[hv]at d;simp only[Value.ownBlock,Option.some.injEq]at d;subst d;refine⟨fun f=>?_,fun f=>?_⟩
     ·rw[f,C.blk]at R;simp at R
     ·obtain⟨d4,g0,_⟩:=C.row;rw[f,g0]at R;simp at R
   have h7:RdW T g J b (S U).1 s:=C.move (i.block b C.size (fun f=>(a6 b f.symm).1 rfl)) (i.block g C.gsize (fun f=>(a6 g f.symm).2 rfl));have e7:Ex b w s:=Ex.grown (a8.alloc _) i (fun k d=>(own.lt k d).1);have k4:∀ k,(Value.slice ao (aO c) o).ownBlock=some k->k < Z.1.size:=fun k d=>(V.lt k d).2
   have b3:New w.1.size s c:=by
    cases hob:(Value.slice ao (aO c) o).ownBlock with
    |none=>rw[hob]at i;exact H.but (k:=(j.alloc (Qf #[.iface u5 (.pointer (some p))] 250)).1.size) (fun x hi _=>i.block x hi Od) (H.o Ol)
    |some k=>rw[hob]at i;exact H.but (k:=k) (fun x hi v=>i.block x hi (fun f=>v (Oq f))) (z0 k hob)
   have b5:New w.1.size s q:=by
    refine New.mono ?_ N.size;cases hob:(Value.slice ao (aO c) o).ownBlock with
    |none=>rw[hob]at i;exact y.but (k:=(j.alloc (Qf #[.iface u5 (.pointer (some p))] 250)).1.size) (fun x hi _=>i.block x hi Od) (y.o Ol)
    |some k=>rw[hob]at i;exact y.but (k:=k) (fun x hi v=>i.block x hi (fun f=>v (Oq f))) (y.fresh.notIn (k4 k hob))
   have b7:dV A (lD c q):=by
    rcases y3 with u|u
    ·exact fH (z0 A u) (y.fresh.notIn (k4 A u))
    ·subst u;have e2:(j.alloc (Qf #[.iface u5 (.pointer (some p))] 250)).1.size=j.1.size+1:=Od
     exact fH (H.o Oa) (y.o Oa)
   have fin:∃ (U:Rd) (l:Tr),s.ownsRow w.1.size 250 1 (Qe A (aO c+1) a2) (aO l) (bLF l)/\(l= .nil->Qe A (aO c+1) a2= .slice none 0 0)/\(l≠ .nil->bL l=250)/\jZ 1 l/\New w.1.size s l/\
    (∀ k,(Qe A (aO c+1) a2).ownBlock=some k->dV k l)/\RdW T g J b U s/\Ex b w s/\(r.B T [14]).b<=U.b/\U.c=(r.B T [14]).c/\T.length - U.b<=m+1/\aO l<=U.b/\
    app (er l) (cL T S m U).2=(cL T S n (r.B T [14])).2/\(cL T S m U).1=(cL T S n (r.B T [14])).1:=by
    have h3:cL T S (m+1) U=((cL T S m (S U).1).1,cons (S U).2 (cL T S m (S U).1).2):=by
     show(if _ then _ else _)=_;rw[if_neg (by rw[hs];decide)]
    have z:=L.o;have E:=X.o;rw[h3]at z E;refine⟨(S U).1,lD c q,?_,fun u=>absurd u (uG _ _),fun _=>?_,?_,New.snoc hsz b3 b5,?_,h7,e7,Oa,by rw[a5.c];exact h8,Oa,?_,?_,E⟩
    ·rw[iN,jT,z4.o,j2.o];exact b9
    ·cases hac:c with
     |nil=>show bL (cons q .nil)=_;exact y4.o
     |node b1 o1 a1 x1 q1=>rw[<-hac,lZ (by rw[hac];intro h;cases h)];exact P.o (by rw[hac];intro h;cases h)
    ·exact mY hsz z1 (by rw[z4.o];rfl)
    ·intro k d;simp only[Value.ownBlock,Option.some.injEq]at d;subst d;exact b7
    ·rw[iN];omega
    ·rw[sE,pN,W.o];exact z
   clear L X HS HG HO HA j2 z4 P y4 k5 W y3 b3 b5 b7 H y b2 a3 b6 b9 a4 V own h7 e7 C e6 hsz b4 z0 G ec a6 i k4 j1;go_wp2;go_roundg m
   case rel=>exact fin
   case measure=>omega
  ·have y0:cL T S gk U=(U,.nil):=by
    cases gk with
    |zero=>rfl
    |succ gk=>show(if _ then _ else _)=_;rw[if_pos hs]
   have z:=L.o;have E:=X.o;rw[y0]at z E;rw[vJ]at z;have j8:0<=U.c/\U.c<=1000000:=by obtain⟨c5,c6,c7⟩:=Q;omega
   have Y:Hid (er c=(cL T S n (r.B T [14])).2):=z;have R2:Hid (U=(cL T S n (r.B T [14])).1):=E;clear z E y0 L X;go_wp2_with fail
   refine(nC T g J b U 15 Z D Ob j8).mono ?_;rintro e W4 ⟨rfl,h4,M⟩;have d1:=bME V D.blk Ob M;have c9:=a3.ex D M
   have fin:jL T g J b w (qI T S n r) bCH (.returned (.slice ao (aO c) o)) W4:=by
    have B:RdW T g J b (qI T S n r).1 W4:=by
     show RdW T g J b ((cL T S n (r.B T [14])).1.H T 15) W4;rw[<-R2.o];exact h4
    cases hac:c with
    |nil=>
     refine⟨.nil,?_,?_,New.nil _ _,B,N.t M⟩
     ·have:=k5.o hac;rw[hac]at this;rw[this];rfl
     ·show er .nil=bM3 (cL T S n (r.B T [14])).2;rw[<-Y.o,hac];rfl
    |node b1 o1 a1 x1 q1=>
     have v:c≠ .nil:=by rw[hac];intro h;cases h
     rw[<-hac];rcases j1 with h0|⟨gg,rfl⟩
     ·have:=uO v;omega
     refine⟨.node gg o {a:=20} c .nil,rfl,?_,New.listed v hsz c9 (by rw[P.o v];exact d1),B,N.t M⟩;show er (.node gg o {a:=20} c .nil)=bM3 (cL T S n (r.B T [14])).2;rw[<-Y.o,hac];rfl
   clear Y R2 P k5;go_wp2;go_ret;exact fin
theorem rO{t:Tr}{a:Nd}{x y:Tr}(h:er t=mk a x y)(c:a.a≠20):∃ p,cB t= .pointer (some p)/\bCH t= .iface (bZ a.a) (.pointer (some p)):=by
 obtain⟨b,o,l,r,rfl,_,_⟩:=oI h;exact⟨⟨b,0,none⟩,rfl,if_neg c⟩
theorem oQ{T:List Tok}{n:Nat}{r b:Rd}(h:Dm T (n+1) 7 r)(a:Adv T r b)(q:Nat)(f:q<=6):Dm T n q b:=by
 obtain⟨c,d,e⟩:=h;have:=a.ge;have:=a.c;exact⟨Oa,Oa,Oa⟩
theorem aCH{T:List Tok}(d:cY T){n:Nat}{r b:Rd}(h:Dm T (n+1) 7 r)(a:Adv T r b){O:List Int}(c:aQ O 0=false)(q:Nat)(i:q<=6):Dm T n q (b.B T O):=by
 obtain⟨e,f,g⟩:=h;have:=a.ge;have:=a.c;obtain⟨j,k,l⟩:=dF d a.lt c;exact⟨Oa,Oa,Oa⟩
theorem aLT(T:List Tok)(g J b n:Nat)(E C B:Pr)(r:Rd)(w:World)(hE:dI T g J b 335 E (Dm T n 2))(z1:aZ T E)(y8:So 0 7 E)(hC:dI T g J b 299 C (Dm T n 5))(z2:aZ T C)(y9:So 7 9 C)(hB:dI T g J b 192 B (Dm T n 6))(z3:aZ T B)(z0:SoL B)(h:RdW T g J b r w)(z:Dm T (n+1) 7 r):
 Calls prog 246 #[Qd b] w (jL T g J b w (eL T E C B r) bCH):=by
 have Z:Hid (dI T g J b 335 E (Dm T n 2)):=hE;have z7:Hid (aZ T E):=z1;have y3:Hid (So 0 7 E):=y8;have HC:Hid (dI T g J b 299 C (Dm T n 5)):=hC;have z8:Hid (aZ T C):=z2;have z5:Hid (So 7 9 C):=y9;have HB:Hid (dI T g J b 192 B (Dm T n 6)):=hB;have j2:Hid (aZ T B):=z3;have z6:Hid (SoL B):=z0;clear hE z1 y8 hC z2 y9 hB z3 z0;have h1:=h.alloc (Qf #[Qc 6,Qc 1,Qc 7,Qc 9,Qc 10,Qc 11] 141);have e1:=(Ex.refl b w).alloc (Qf #[Qc 6,Qc 1,Qc 7,Qc 9,Qc 10,Qc 11] 141);have k1:=bM w aR #[Qc 6,Qc 1,Qc 7,Qc 9,Qc 10,Qc 11] rfl;go_enter func246,ntmps246
 go_wp2_with fail
 refine(fG T g J b r w.1.size 6 aR _ h1 k1 Ob Ob).mono ?_;rintro e d ⟨rfl,h2,e2⟩;have X:=h.ends;have j:=aP h.ends h.lt (show aQ aR 0=false by decide);generalize hq:cN T r aR=q at*;have V:Hid (cN T r aR=q):=hq;clear hq;rw[Tok.val_eq];have P:=h2.alloc (Qf #[Qc q.d,Qc q.e,.string q.f,Qc q.a] 143);have l:=(e1.t e2).alloc (Qf #[Qc q.d,Qc q.e,.string q.f,Qc q.a] 143);have n3:(d.alloc (Qf #[Qc q.d,Qc q.e,.string q.f,Qc q.a] 143)).1[d.1.size]?=some (Qf #[Qc q.d,Qc q.e,.string q.f,Qc q.a] 143):=Qk d _;obtain⟨m0,m1,m2,m3,_⟩:=dG n3;have j0:0<=(r.take T aR).c/\(r.take T aR).c<=1000000:=by rw[j.c];exact z.c
 clear h1 e1 k1 h2 e2
 by_cases k:q.d=6
 ·have a7:(q.d==6)=true:=by simpa using k
  have c:Hid (eL T E C B r=sQ T E (cN T (r.take T aR) [1]) true ((r.take T aR).take T [1])):=by unfold Hid eL;dsimp only;rw[V.o,if_pos k]
  clear k;go_wp2_with fail
  generalize d.alloc (Qf #[Qc q.d,Qc q.e,.string q.f,Qc q.a] 143)=D at*;refine(uM T g J b _ D P).mono ?_;rintro e W4 ⟨rfl,I,G⟩;have a4:=j.t (aP X j.lt (show aQ [1] 0=false by decide));have W:=a4.t (aP X a4.lt (show aQ [20] 0=false by decide));go_wp2_with fail
  refine(aHG T g J b n E (cN T (r.take T aR) [1]) true _ W4 Z.o y3.o I (oQ z W 2 Oa)).mono ?_;rintro e W7 ⟨i,rfl,v,R,Q,O⟩;have y:Hid (er i=(sQ T E (cN T (r.take T aR) [1]) true ((r.take T aR).take T [1])).2):=v;clear v;obtain⟨S,x,o⟩:=rO y.o Od;have U:Hid (bCH i= .iface 326 (.pointer (some S))):=o;rw[x];clear x o;go_wp2;go_ret;exact⟨i,by rw[U.o];rfl,by rw[c.o];exact y.o,R.mono (l.t G).size,by rw[c.o];exact Q,(l.t G).t O⟩
 have a7:(q.d==6)=false:=by simpa using k
 by_cases p:q.d=7
 ·have a8:(q.d==7)=true:=by simpa using p
  have c:Hid (eL T E C B r=ifP T C B (r.take T aR)):=by unfold Hid eL;dsimp only;rw[V.o,if_neg k,if_pos p]
  clear k p;go_wp2_with fail
  generalize d.alloc (Qf #[Qc q.d,Qc q.e,.string q.f,Qc q.a] 143)=D at*;refine(aSV T g J b n C B _ D HC.o z8.o z5.o HB.o j2.o z6.o P (oQ z j 6 Oa)).mono ?_;rintro e W7 ⟨i,rfl,v,R,Q,O⟩;have y:Hid (er i=(ifP T C B (r.take T aR)).2):=v;clear v;obtain⟨zp,zx,zy,hz,z9⟩:∃ zp zx zy,(ifP T C B (r.take T aR)).2=mk zp zx zy/\zp.a=11:=by unfold ifP;dsimp only;split<;>exact⟨_,_,_,rfl,rfl⟩
  obtain⟨S,x,o⟩:=rO (y.o.t hz) Oa;rw[z9]at o;have U:Hid (bCH i= .iface 332 (.pointer (some S))):=o;rw[x];clear x o hz;go_wp2;go_ret;exact⟨i,by rw[U.o];rfl,by rw[c.o];exact y.o,R.mono l.size,by rw[c.o];exact Q,l.t O⟩
 have a8:(q.d==7)=false:=by simpa using p
 by_cases A:q.d=9
 ·have a9:(q.d==9)=true:=by simpa using A
  have c:Hid (eL T E C B r=((B (C (r.take T aR)).1).1,mk {a:=12} (C (r.take T aR)).2 (B (C (r.take T aR)).1).2)):=by unfold Hid eL;dsimp only;rw[V.o,if_neg k,if_neg p,if_pos A]
  clear k p A;go_wp2_with fail
  generalize d.alloc (Qf #[Qc q.d,Qc q.e,.string q.f,Qc q.a] 143)=D at*;refine(HC.o _ D P (oQ z j 5 Oa)).mono ?_;rintro e W4 ⟨t4,rfl,y6,a2,I,G⟩;have z4:Hid (er t4=(C (r.take T aR)).2):=y6;obtain⟨xa,xx,xy,L,_,y5⟩:=z5.o (r.take T aR);obtain⟨u4,p4,y4⟩:=aUJ (z4.o.t L) Oa;have j1:Hid (bCH t4= .iface u4 (.pointer (some p4))):=y4;rw[y4];clear y4 L y6;have a4:=j.t (z8.o _ j.lt);go_wp2_with fail
  refine(HB.o _ W4 I (oQ z a4 6 Oa)).mono ?_;rintro e f ⟨s,rfl,M,a1,m,F⟩;have N:Hid (er s=(B (C (r.take T aR)).1).2):=M;obtain⟨ao,ln,cq,u⟩:=iZ (t:=s) (by rw[N.o];exact z6.o _);have y2:Hid (bCH s= .slice ao ln cq):=u;rw[u];clear u M;go_wp2;go_ret;have H:=(l.t G).t F;refine⟨.node f.1.size 0 {a:=12} t4 s,rfl,?_,New.node (((a2.mono l.size).ex I F).ex m ((Ex.refl b f).alloc _)) ((a1.mono (l.t G).size).ex m ((Ex.refl b f).alloc _)) (fun _=>H.size) Od ?_,by rw[c.o];exact m.alloc _,H.alloc _⟩
  ·rw[c.o,<-z4.o,<-N.o];rfl
  ·exact⟨_,Qk f _,by rw[j1.o];rfl,by rw[y2.o];rfl⟩
 have a9:(q.d==9)=false:=by simpa using A
 by_cases K:q.d=10
 ·have a3:(q.d==10)=true:=by simpa using K
  have c:Hid (eL T E C B r=((fM T E (r.take T aR)).1,mk {a:=13} (fM T E (r.take T aR)).2 .nil)):=by unfold Hid eL;dsimp only;rw[V.o,if_neg k,if_neg p,if_neg A,if_pos K]
  clear k p A K;go_wp2_with fail
  generalize d.alloc (Qf #[Qc q.d,Qc q.e,.string q.f,Qc q.a] 143)=D at*;refine(bCZ T g J b n E _ D Z.o P (oQ z j 2 Oa)).mono ?_;rintro e f ⟨s,rfl,M,a1,m,F⟩;have N:Hid (er s=(fM T E (r.take T aR)).2):=M;obtain⟨xa,xx,xy,L,_,y5⟩:=y3.o (r.take T aR);obtain⟨u5,p5,u⟩:=aUJ (N.o.t L) Oa;have y2:Hid (bCH s= .iface u5 (.pointer (some p5))):=u;rw[u];clear u L M;go_wp2;go_ret;have H:=l.t F;refine⟨.node f.1.size 0 {a:=13} s .nil,rfl,?_,New.node ((a1.mono l.size).ex m ((Ex.refl b f).alloc _)) (New.nil _ _) (fun _=>H.size) Od ?_,by rw[c.o];exact m.alloc _,H.alloc _⟩
  ·rw[c.o,<-N.o];rfl
  ·exact⟨_,Qk f _,by rw[y2.o];rfl⟩
 have a3:(q.d==10)=false:=by simpa using K
 by_cases Y:q.d=11
 ·have a5:(q.d==11)=true:=by simpa using Y
  have c:Hid (eL T E C B r=((fM T E (r.take T aR)).1,mk {a:=14} (fM T E (r.take T aR)).2 .nil)):=by unfold Hid eL;dsimp only;rw[V.o,if_neg k,if_neg p,if_neg A,if_neg K,if_pos Y]
  clear k p A K Y;go_wp2_with fail
  generalize d.alloc (Qf #[Qc q.d,Qc q.e,.string q.f,Qc q.a] 143)=D at*;refine(bCZ T g J b n E _ D Z.o P (oQ z j 2 Oa)).mono ?_;rintro e f ⟨s,rfl,M,a1,m,F⟩;have N:Hid (er s=(fM T E (r.take T aR)).2):=M;obtain⟨xa,xx,xy,L,_,y5⟩:=y3.o (r.take T aR);obtain⟨u5,p5,u⟩:=aUJ (N.o.t L) Oa;have y2:Hid (bCH s= .iface u5 (.pointer (some p5))):=u;rw[u];clear u L M;go_wp2;go_ret;have H:=l.t F;refine⟨.node f.1.size 0 {a:=14} s .nil,rfl,?_,New.node ((a1.mono l.size).ex m ((Ex.refl b f).alloc _)) (New.nil _ _) (fun _=>H.size) Od ?_,by rw[c.o];exact m.alloc _,H.alloc _⟩
  ·rw[c.o,<-N.o];rfl
  ·exact⟨_,Qk f _,by rw[y2.o];rfl⟩
 have a5:(q.d==11)=false:=by simpa using Y
 have y7:Hid (eL T E C B r=if aN T (r.take T aR) [16]then lK T E q (r.take T aR)else sQ T E q false (r.take T aR)):=by unfold Hid eL;dsimp only;rw[V.o,if_neg k,if_neg p,if_neg A,if_neg K,if_neg Y]
 clear k p A K Y;have s3:(d.alloc (Qf #[Qc q.d,Qc q.e,.string q.f,Qc q.a] 143)).1.size=d.1.size+1:=Od
 have k4:=bM (d.alloc (Qf #[Qc q.d,Qc q.e,.string q.f,Qc q.a] 143)) [16] #[Qc 16] rfl;rw[s3]at k4;have I:=P.alloc (Qf #[Qc 16] 141);have G:=l.alloc (Qf #[Qc 16] 141);have n4:((d.alloc (Qf #[Qc q.d,Qc q.e,.string q.f,Qc q.a] 143)).alloc (Qf #[Qc 16] 141)).1[d.1.size]?=_:=(On (by rw[s3];omega)).t n3;go_wp2_with fail
 refine(bMD T g J b _ (d.1.size+1) 1 [16] _ I k4 Ob).mono ?_;rintro e w' ⟨rfl,nn,rfl⟩;have m:=I.drewN nn;have F:=G.drewN nn;have n5:(((d.alloc (Qf #[Qc q.d,Qc q.e,.string q.f,Qc q.a] 143)).alloc (Qf #[Qc 16] 141)).drewN nn).1[d.1.size]?=_:=n4;clear m0 m1 m2 m3 P l n3 k4 I G n4 s3;generalize (((d.alloc (Qf #[Qc q.d,Qc q.e,.string q.f,Qc q.a] 143)).alloc (Qf #[Qc 16] 141)).drewN nn)=f at*;obtain⟨m0,m1,m2,m3,_⟩:=dG n5;cases hs:aN T (r.take T aR) [16]
 ·have c:Hid (eL T E C B r=sQ T E q false (r.take T aR)):=by unfold Hid;rw[y7.o,hs];rfl
  go_wp2_with fail
  refine(bCR q f).mono ?_;rintro e W6 ⟨rfl,b6⟩;have h6:=m.below b6;have e6:=F.t (Ex.of_below (b:=b) b6);have W:=j.t (aP X j.lt (show aQ [20] 0=false by decide));go_wp2_with fail
  refine(aHG T g J b n E q false _ W6 Z.o y3.o h6 (oQ z W 2 Oa)).mono ?_;rintro e W7 ⟨i,rfl,v,R,Q,O⟩;have y:Hid (er i=(sQ T E q false (r.take T aR)).2):=v;clear v;obtain⟨S,x,o⟩:=rO y.o Od;have U:Hid (bCH i= .iface 326 (.pointer (some S))):=o;rw[x];clear x o;go_wp2;go_ret;exact⟨i,by rw[U.o];rfl,by rw[c.o];exact y.o,R.mono (e6).size,by rw[c.o];exact Q,(e6).t O⟩
 ·have c:Hid (eL T E C B r=lK T E q (r.take T aR)):=by unfold Hid;rw[y7.o,hs];rfl
  go_wp2_with fail
  refine(bCR q f).mono ?_;rintro e W6 ⟨rfl,b6⟩;have h6:=m.below b6;have e6:=F.t (Ex.of_below (b:=b) b6);have W:=j.t (lN X z7.o _ j.lt);have a6:=W.t (aP X W.lt (show aQ [20] 0=false by decide));go_wp2_with fail
  refine(aIU T g J b n E q _ W6 Z.o z7.o y3.o h6 j0 (aCH X z j Ob 2 Oa) (oQ z a6 2 Oa)).mono ?_;rintro e W7 ⟨i,rfl,v,R,Q,O⟩;have y:Hid (er i=(lK T E q (r.take T aR)).2):=v;clear v;obtain⟨S,x,o⟩:=rO y.o Od;have U:Hid (bCH i= .iface 329 (.pointer (some S))):=o;rw[x];clear x o;go_wp2;go_ret;exact⟨i,by rw[U.o];rfl,by rw[c.o];exact y.o,R.mono (e6).size,by rw[c.o];exact Q,(e6).t O⟩
theorem aHA{T:List Tok}{r:Rd}(h:r.b+1 < T.length)(O:List Int):r.b+1<=(r.take T O).b:=by
 unfold Rd.take
 split
 ·exact Ql _
 grind[dD,lP]
theorem aDC{T:List Tok}(b:cY T){S C B:Pr}(c:aZ T S)(d:aZ T C)(f:aZ T B)(n:Nat):aGZ T n (eL T S C B):=fun r g h=>by
 have a:=aP b (show r.b < T.length by omega) (show aQ aR 0=false by decide);refine Qm (aHA h aR) (Adv.ge (T:=T) ?_);unfold eL;dsimp only
 split
 ·have e:=aP b a.lt (show aQ [1] 0=false by decide);exact e.t (pL b c _ _ _ e.lt)
 ·split
  ·exact aC9 b d f _ a.lt
  ·split
   ·exact(d _ a.lt).t (f _ (d _ a.lt).lt)
   ·split
    ·exact jH b c _ a.lt
    ·split
     ·exact jH b c _ a.lt
     ·split
      ·exact tN b c _ _ a.lt
      ·exact pL b c _ _ _ a.lt
def aUF(s:Nat):Nat:=match s with
 |0=>362
 |1=>353
 |2=>335
 |3=>351
 |4=>334
 |5=>299
 |6=>192
 |_=>246
theorem vC{T:List Tok}{n q p:Nat}{r:Rd}(h:Dm T (n+1) q r)(d:p < q):Dm T n p r:=by
 obtain⟨b,a,c⟩:=h;exact⟨Oa,a,Oa⟩
theorem aJD(T:List Tok)(c:cY T)(g J b:Nat):∀ n s,s<=7->dI T g J b (aUF s) (iH T n s) (Dm T n s):=by
 intro n
 induction n with
 |zero=>exact fun s _ r w _ a=>absurd a.1 Oa
 |succ n ih=>
  have G:=fun s=>bM1 c n s;have O:=fun s=>aDI (T:=T) n s;have d:=(O 2).1 Ob;have e:=(O 5).2.1 Ob Ob;intro s f r w h a
  match s,f with
  |0,_=>exact aGM T g J b n _ _ r w (ih 2 Ob) (G 2) d (ih 0 Ob) (G 0) Qh h a
  |1,_=>exact aLF T g J b n _ r w (ih 0 Ob) (G 0) Qh h (vC a Ob)
  |2,_=>exact aO4 T g J b n _ r w (ih 1 Ob) (G 1) Qh h (vC a Ob)
  |3,_=>exact aOJ T g J b n _ r w (ih 2 Ob) (G 2) d h (vC a Ob)
  |4,_=>exact aOG T g J b n _ r w (ih 3 Ob) (G 3) Qh h (vC a Ob)
  |5,_=>exact aOI T g J b n _ r w (ih 4 Ob) (G 4) Qh h (vC a Ob)
  |6,_=>
   refine aKV T g J b n _ r w (ih 7 Ob) (G 7) Qh ?_ h a;cases n with
   |zero=>exact fun r a=>absurd a.1 Oa
   |succ n=>exact aDC c (bM1 c n 2) (bM1 c n 5) (bM1 c n 6) _
  |7,_=>exact aLT T g J b n _ _ _ r w (ih 2 Ob) (G 2) d (ih 5 Ob) (G 5) e (ih 6 Ob) (G 6) Qh h a
end Go.Proofs.YtikffmloeifkpaaGreatDoor
