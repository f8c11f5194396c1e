/- Contracts. -/
import Derived.Test.YtikffmloeifkpaaGreatDoorR24
set_option maxHeartbeats 4000000
set_option maxRecDepth 100000
namespace Go.Proofs.YtikffmloeifkpaaGreatDoor
open Go.RowKit Go.Lib Go.Deep Go.ChangeMaps Go.MapKept Tryz
section
variable {H O U gw cw:Nat} {T:List Tok} {st:QS} {Y B vI:Value} {V C:List V3} {w w':World}
def bKZ(T:List Tok)(st:QS):Nat:=if st.a=0 then T.length - st.i else 0
def bLZ(T:List Tok)(st:QS)(n:Nat):Prop:=st.L.length+8*(T.length - st.i)<=100000+n
theorem Gr.need{a b:QS}{n:Nat}(h:Gr a b n):bKZ T b<=bKZ T a:=by
 unfold bKZ
 by_cases d:b.a=0
 ·have c:a.a=0:=by
   by_cases c:a.a=0
   ·exact c
   ·exact absurd ((h.stick c).1 ▸ d) c
  rw[if_pos c,if_pos d];have:=h.i;omega
 simp[*]
theorem bLZ.gr{a b:QS}{m n:Nat}(d:bLZ T a m)(h:Gr a b n)(c:b.i<=T.length):bLZ T b (m+n):=by
 unfold bLZ at*;have:=h.room;omega
def bN1(H O U gw cw:Nat)(T:List Tok)(vI:Value)(f:Nat)(args:Array Value)(P:QS->QS × Int)(N:Nat):Prop:=
 ∀ (st:QS) (Y:Value) (V:List V3) (w:World) (c:Nat),c<=50000->PW H O U gw cw T st Y vI V w->bKZ T st<=N->bLZ T st c->Calls prog f args w fun e w'=>e= .returned (Qc (P st).2)/\Aft H O U gw cw T vI Y V w (P st).1 w'
theorem bP6(w:World)(a:H<=w.1.size)(x y:Int):(w.alloc (Qf #[Qc x,Qc y] 3)).ownsRow H 3 1 (Qe w.1.size 2 2) 2 (bLU [x,y]):=
 ⟨rfl,.r ⟨w.1.size,2,#[Qc x,Qc y],rfl,a,Qk w _,Oa,Ob,rfl,rfl⟩⟩
theorem bVX(P:QS->QS × Int)(D:Grs P)(G:ByteArray)(h8:G.size<=1000)(M:Bool)(N:Nat)(hP:bN1 H O U gw cw T vI 349 #[Qd O,.bool M] P N):
 bN1 H O U gw cw T vI 330 #[Qd O,.string G,.bool M] (bN4 T P G) N:=by
 intro st Y V Q c k9 h F I;have HP:Hid (bN1 H O U gw cw T vI 349 #[Qd O,.bool M] P N):=hP;clear hP;go_enter func330,ntmps330
 go_wp2_with fail
 refine(HP.o st Y V Q c k9 h F I).mono ?_;rintro e w1 ⟨rfl,a1,V1,p,x1⟩;have y3:bKZ T (P st).1<=N:=Qm (D st).need F;have k7:bLZ T (P st).1 (c+1):=I.gr (D st) (Nat.le_of_lt p.lt);have y6:Hid (bN4 T P G st=bN5 T P G T.length (P st).2 (P st).1):=rfl;clear h F I;generalize (P st).1=r at*;generalize (P st).2=w at*;go_wp2_with fail
 refine(bU4 G h8 p).mono ?_;rintro e w2 ⟨rfl,L,rfl⟩;have h2:=p.drewN L;have x2:=x1.drewN L;generalize w1.drewN L=W2 at*;clear p x1;go_wp2_with fail
 go_loopg [7,8] T.length (fun m v7 v8 wr=>∃ (R:QS) (x:Int) (u:Value) (o:List V3),v7= Qc x/\v8= .bool (bNR T R G)/\PW H O U gw cw T R u vI o wr/\Px O U Y u V o Q wr/\bKZ T R<=m/\bKZ T R<=N/\bLZ T R (c+1)/\bN5 T P G m x R=bN5 T P G T.length w r)
 case atStart=>
  refine⟨r,w,a1,V1,rfl,rfl,h2,x2,?_,y3,k7,rfl⟩;unfold bKZ
  split
  ·omega
  ·exact Qn _
 case round=>
  obtain⟨R,x,u,o,rfl,rfl,i,X,n,y0,k5,h0⟩:=hrel;have A:Hid (bN5 T P G gk x R=bN5 T P G T.length w r):=h0;obtain⟨_,_,_,p3,_,_,_⟩:=i.cells;clear h0 h2 x2 y3 k7
  by_cases a:bNR T R G=true/\R.a=0
  ·obtain⟨m,rfl⟩:∃ m,gk=m+1:=⟨gk - 1,by
    unfold bKZ at n;rw[if_pos a.2]at n;have:=i.lt;omega⟩
   have g:=a.1;have t0:(R.a==0)=true:=by simp[a.2]
   have J:=bMK T R (bQ6 a.1);have Z:Hid (bNR T R G=true/\R.a=0):=a;have K:bKZ T (bKV T R)<=N:=Qm (Gr.b T R).need y0
   have k1:(bKV T R).L.length+8*(T.length - (bKV T R).i)+3<=100000+c:=by
    unfold bLZ at k5;rw[J,bKY];have:=i.lt;omega
   have k6:bLZ T (bKV T R) c:=by unfold bLZ;omega
   have k8:bKZ T (bKV T R)<=m:=by
    unfold bKZ at n ⊢;rw[if_pos a.2]at n
    split
    ·rw[J];omega
    ·exact Qn _
   clear a;rw[g];go_wp2_with fail
   refine(bMS i).mono ?_;rintro e w3 ⟨rfl,E,e3⟩;unfold Tok.g;have q:=E.fresh Ol;have l:=D (bKV T R);have h4:=E.alloc (Qf #[Qc (dD T R.i).d,Qc (dD T R.i).e,.string (dD T R.i).f,Qc (dD T R.i).a] 220);have S:=(X.t (Px.I e3)).alloc (Qf #[Qc (dD T R.i).d,Qc (dD T R.i).e,.string (dD T R.i).f,Qc (dD T R.i).a] 220);clear X e3 p3 E i;go_wp2_with fail
   refine(HP.o _ _ _ _ c k9 h4 K k6).mono ?_;rintro e f ⟨rfl,a3,V5,j,z⟩;have hz:f.1[w3.1.size]?=some (Qf #[Qc (dD T R.i).d,Qc (dD T R.i).e,.string (dD T R.i).f,Qc (dD T R.i).a] 220):=(z.keep _ Od q.p q.g q.l).t (Qk w3 _);obtain⟨_,y1,y2,_,_⟩:=dG hz;have z0:=Qm l.need K;have y8:=Qm l.need k8
   have a2:(P (bKV T R)).1.L.length+8*(T.length - (P (bKV T R)).1.i)+2<=100000+c:=by
    have:=l.room;have:=l.i;have:=j.lt;omega
   have HS:Hid (bN5 T P G m (P (bKV T R)).1.L.length (bL2 {d:=8,at_:=(dD T R.i).e,s:=(dD T R.i).f,c:=[x,(P (bKV T R)).2]} (P (bKV T R)).1)=bN5 T P G T.length w r):=by
    rw[Hid,<-A.o];exact(if_pos Z.o).symm
   clear hz h4 l J K k8 k6 k1 A Z q;generalize (P (bKV T R)).2=y at*;generalize (P (bKV T R)).1=s5 at*;generalize dD T R.i=t at*;have h6:=j.alloc (Qf #[Qc x,Qc y] 3);have hv:NdW H (f.alloc (Qf #[Qc x,Qc y] 3)) {d:=8,at_:=t.e,s:=t.f,c:=[x,y]} (Qe f.1.size 2 2,.slice none 0 0,.slice none 0 0):=⟨bP6 _ j.T _ _,⟨rfl,.l ⟨rfl,rfl⟩⟩,⟨rfl,.l ⟨rfl,rfl⟩⟩⟩
   have k4:∀ k,bM7 (Qe f.1.size 2 2,.slice none 0 0,.slice none 0 0) k->k=f.1.size:=by
    rintro k (b|b|b)<;>simp[Value.ownBlock]at b;exact b.symm
   have y5:∀ k,vI.ownBlock=some k->¬bM7 (Qe f.1.size 2 2,.slice none 0 0,.slice none 0 0) k:=fun k b hu=>absurd (bLP j.its b) (by rw[k4 k hu];omega);have y7:s5.L.length<=200000:=Oa
   have W:=(S.t z).alloc (Qf #[Qc x,Qc y] 3);have y4:=W.size;have k0:Q.1.size<=f.1.size:=(S.t z).size;clear y4 j S z;go_wp2_with fail
   refine(bOI {d:=8,at_:=t.e,s:=t.f,c:=[x,y]} _ h6 hv y5 y7).mono ?_;rintro e w7 ⟨rfl,a4,h7,x7⟩;have x8:=(W.t x7).more (v:=(Qe f.1.size 2 2,.slice none 0 0,.slice none 0 0)) (fun k b=>by rw[k4 k b];exact k0);clear h6 hv W x7 y1 y2;go_wp2_with fail
   refine(bU4 G h8 h7).mono ?_;rintro e w8 ⟨rfl,n8,rfl⟩;go_wp2;go_roundg m
   case rel=>exact⟨_,_,_,_,rfl,rfl,h7.drewN _,x8.drewN _,y8,z0,by unfold bLZ;simp only[bL2,List.length_append,List.length_cons,List.length_nil];omega,HS.o⟩
   case measure=>omega
  ·have HF:Hid (bN5 T P G gk x R=(R,x)):=by
    cases gk
    ·rfl
    ·exact if_neg a
   have y9:bNR T R G=false\/(bNR T R G=true/\(R.a==0)=false):=by
    cases g:bNR T R G
    ·exact .l rfl
    ·exact .r ⟨rfl,by simpa using fun e=>a ⟨g,e⟩⟩
   clear a n y0 k5;rcases y9 with g|⟨g,t0⟩
   all_goals
    rw[g];go_wp2;go_ret;rw[y6.o,<-A.o,HF.o];exact⟨rfl,u,o,i,X⟩
end
section
variable {H O U gw cw:Nat} {T:List Tok} {vI:Value}
theorem bN1.le{f:Nat}{args:Array Value}{P:QS->QS × Int}{N M:Nat}(h:bN1 H O U gw cw T vI f args P N)(e:M<=N):bN1 H O U gw cw T vI f args P M:=fun st Y V w c a d g b=>h st Y V w c a d Oa b
theorem bXU(F:QS->QS × Int)(N:Nat)(b:bN1 H O U gw cw T vI 360 #[Qd O] F N):bN1 H O U gw cw T vI 349 #[Qd O,.bool true] F N:=by
 intro st Y V w c g h i j;have f:Hid (bN1 H O U gw cw T vI 360 #[Qd O] F N):=b;clear b;go_enter func349,ntmps349
 go_wp2_with fail
 refine(f.o st Y V w c g h i j).mono ?_;rintro e k ⟨rfl,a⟩;have d:Hid _:=a;clear a;go_wp2;go_ret;exact⟨rfl,d.o⟩
theorem bUQ(F:QS->QS × Int)(N:Nat)(b:bN1 H O U gw cw T vI 330 #[Qd O,.string bQN,.bool true] F N):bN1 H O U gw cw T vI 349 #[Qd O,.bool false] F N:=by
 intro st Y V w c g h i j;have f:Hid (bN1 H O U gw cw T vI 330 #[Qd O,.string bQN,.bool true] F N):=b;clear b;go_enter func349,ntmps349
 go_wp2_with fail
 refine(f.o st Y V w c g h i j).mono ?_;rintro e k ⟨rfl,a⟩;have d:Hid _:=a;clear a;go_wp2;go_ret;exact⟨rfl,d.o⟩
theorem bUZ(F:QS->QS × Int)(N:Nat)(b:bN1 H O U gw cw T vI 330 #[Qd O,.string bRX,.bool false] (bN4 T (bN4 T F bQN) bRX) N):bN1 H O U gw cw T vI 290 #[Qd O] (qex T F) N:=by
 intro st Y V w c j h k l;have i:Hid (bN1 H O U gw cw T vI 330 #[Qd O,.string bRX,.bool false] (bN4 T (bN4 T F bQN) bRX) N):=b;obtain⟨_,_,_,n,_,_,_⟩:=h.cells
 by_cases a:st.a=0
 ·have d:Hid (qex T F st=bN4 T (bN4 T F bQN) bRX st):=if_neg (by simp[a]);have m:(st.a !=0)=false:=by simp[a]
  clear b a;go_enter func290,ntmps290
  go_wp2_with fail
  refine(i.o st Y V w c j h k l).mono ?_;rintro e o ⟨rfl,f⟩;have g:Hid _:=f;clear f;go_wp2;go_ret;rw[d.o];exact⟨rfl,g.o⟩
 ·have d:Hid (qex T F st=(st,0)):=if_pos a;have m:(st.a !=0)=true:=by simp[a]
  clear b a;go_enter func290,ntmps290
  go_wp2;go_ret;rw[d.o];exact⟨rfl,Y,V,h,Px.refl O U Y V w⟩
theorem bYA(F:QS->QS × Int)(a:Grs F)(N:Nat)(b:bN1 H O U gw cw T vI 360 #[Qd O] F N):bN1 H O U gw cw T vI 290 #[Qd O] (qex T F) N:=
 bUZ F N (bVX _ (a.chain bQN) bRX Ob false N (bUQ _ N (bVX F a bQN Ob true N (bXU F N b))))
end
section
variable {H O U gw cw:Nat} {T:List Tok} {vI:Value}
def bUO(T:List Tok)(E:QS->QS × Int)(st:QS):QS × Int:=
 (bL2 {d:=9,s:=bNU T (E st).1,c:=[(E st).2,(E (bMN T (E st).1)).2]} (E (bMN T (E st).1)).1,(E (bMN T (E st).1)).1.L.length)
theorem cAT(E:QS->QS × Int)(j:Grs E)(N:Nat)(I:bN1 H O U gw cw T vI 290 #[Qd O] E N)(st:QS)(Y:Value)(V:List V3)(w:World)(c:Nat)(a3:c<=40000)(h:PW H O U gw cw T st Y vI V w)(p:bKZ T st<=N)(q:bLZ T st c):
 Calls prog 361 #[Qd O] w fun e w'=>e= .returned (Qc (bUO T E st).2)/\Aft H O U gw cw T vI Y V w (bUO T E st).1 w':=by
 have u:Hid (bN1 H O U gw cw T vI 290 #[Qd O] E N):=I;have R:Hid (bUO T E st=(bL2 {d:=9,s:=bNU T (E st).1,c:=[(E st).2,(E (bMN T (E st).1)).2]} (E (bMN T (E st).1)).1,((E (bMN T (E st).1)).1.L.length:Int))):=rfl;clear I;go_enter func361,ntmps361
 go_wp2_with fail
 refine(u.o st Y V w c Oa h p q).mono ?_;rintro e w1 ⟨rfl,a1,S,l,M⟩;have L:=Qm (j st).need p;have G:bLZ T (E st).1 (c+1):=q.gr (j st) (Nat.le_of_lt l.lt);clear h p q;generalize (E st).2=x at*;generalize (E st).1=g at*;go_wp2_with fail
 refine(bQ4 l).mono ?_;rintro e w2 ⟨rfl,m,z⟩;have K:=Qm (Gr.comp T g).need L;have n:bLZ T (bMN T g) (c+1):=G.gr (Gr.comp T g) (Nat.le_of_lt m.lt);have r:=M.t (Px.I z);generalize bNU T g=o at*;generalize bMN T g=i at*;clear l M z L G;go_wp2_with fail
 refine(u.o i a1 S w2 (c+1) Oa m K n).mono ?_;rintro e b ⟨rfl,a4,V5,f,t⟩;have F:bLZ T (E i).1 (c+1+1):=n.gr (j i) (Nat.le_of_lt f.lt);generalize (E i).2=y at*;generalize (E i).1=s5 at*;have D:=f.alloc (Qf #[Qc x,Qc y] 3);have J:NdW H (b.alloc (Qf #[Qc x,Qc y] 3)) {d:=9,s:=o,c:=[x,y]} (Qe b.1.size 2 2,.slice none 0 0,.slice none 0 0):=⟨bP6 _ f.T _ _,⟨rfl,.l ⟨rfl,rfl⟩⟩,⟨rfl,.l ⟨rfl,rfl⟩⟩⟩
 have A:∀ k,bM7 (Qe b.1.size 2 2,.slice none 0 0,.slice none 0 0) k->k=b.1.size:=by
  rintro k (a|a|a)<;>simp[Value.ownBlock]at a;exact a.symm
 have k2:∀ k,vI.ownBlock=some k->¬bM7 (Qe b.1.size 2 2,.slice none 0 0,.slice none 0 0) k:=fun k a Z=>absurd (bLP f.its a) (by rw[A k Z];omega);have k3:s5.L.length<=200000:=by unfold bLZ at F;omega
 have P:=(r.t t).alloc (Qf #[Qc x,Qc y] 3);have W:w.1.size<=b.1.size:=(r.t t).size;clear f r t F n K m;go_wp2_with fail
 refine(bOI {d:=9,s:=o,c:=[x,y]} _ D J k2 k3).mono ?_;rintro e w7 ⟨rfl,a2,X,Q⟩;have x8:=(P.t Q).more (v:=(Qe b.1.size 2 2,.slice none 0 0,.slice none 0 0)) (fun k a=>by rw[A k a];exact W);clear D J P Q;go_wp2;go_ret;rw[R.o];exact⟨rfl,a2,_,X,x8⟩
end
section
variable {H O U gw cw B X:Nat} {T:List Tok} {st:QS} {Y C vI:Value} {V D:List V3} {w w':World} {a:NQ} {v:V3}
theorem NdW.use_lt(h:NdW H w a v){k:Nat}(b:bM7 v k):k < w.1.size:=by
 obtain⟨⟨c,d⟩,_⟩:=h.typ b
 grind
structure Bx(H O U gw:Nat)(Y vI:Value)(V:List V3)(B X:Nat)(a:NQ)(v:V3)(w:World):Prop where
 c:w.1[X]?=some (.cells (ndC a v) 73 (0,0))
 o:Off O U gw Y vI V X
 m:B<=X
 n:NdW H w a v
 u:∀ k,bM7 v k->Off O U gw Y vI V k/\B<=k
theorem Bx.lt(h:Bx H O U gw Y vI V B X a v w):X < w.1.size:=(Oo h.c)
theorem Bx.ne(h:Bx H O U gw Y vI V B X a v w){k:Nat}(d:bM7 v k):k≠X:=by
 rintro rfl;obtain⟨⟨c,b⟩,_⟩:=h.n.typ d;rw[h.c]at b
 grind
theorem Bx.px(h:Bx H O U gw Y vI V B X a v w)(c:Px O U Y C V D w w'):Bx H O U gw C vI D B X a v w':=
 ⟨(c.keep X h.lt h.o.p h.o.g h.o.l).t h.c,h.o.px c h.lt,h.m,h.n.move (fun k b=>c.keep k (h.n.use_lt b) (h.u k b).1.p (h.u k b).1.g (h.u k b).1.l),fun k b=>⟨(h.u k b).1.px c (h.n.use_lt b),(h.u k b).2⟩⟩
theorem Bx.old(h:Bx H O U gw Y vI V B X a v w)(b:∀ k,k < w.1.size->w'.1[k]?=w.1[k]?):Bx H O U gw Y vI V B X a v w':=
 ⟨(b X h.lt).t h.c,h.o,h.m,h.n.move (fun k c=>b k (h.n.use_lt c)),h.u⟩
theorem Bx.d(h:Bx H O U gw Y vI V B X a v w)(b:Int):Bx H O U gw Y vI V B X {a with d:=b} v (w.setCell ⟨X,0,none⟩ (Qc b)):=
 have m:NdW H (w.setCell ⟨X,0,none⟩ (Qc b)) a v:=h.n.move (fun _ c=>Om (h.ne c))
 ⟨aM _ h.c,h.o,h.m,⟨m.k,m.p,m.h⟩,h.u⟩
theorem Bx.cells(h:Bx H O U gw Y vI V B X a v w):(w.cell? ⟨X,0,none⟩=some (Qc a.d)/\w.cell? ⟨X,1,none⟩=some (Qc a.at_)/\w.cell? ⟨X,2,none⟩=some (.string a.s)/\w.cell? ⟨X,3,none⟩=some (Qc a.n)/\w.cell? ⟨X,4,none⟩=some (Qc a.mid)/\w.cell? ⟨X,5,none⟩=some v.1)/\(w.cell? ⟨X,6,none⟩=some v.2.1/\w.cell? ⟨X,7,none⟩=some v.2.2/\w.cell? ⟨X,8,none⟩=some (Qc a.b)/\w.cell? ⟨X,9,none⟩=some (Qc a.ref)/\w.cell? ⟨X,10,none⟩=some (Qc a.f))/\∀ o,w.frozen? ⟨X,o,none⟩=false:=
 ⟨⟨cell_of_row _ _ _ _ _ _ h.c,cell_of_row _ _ _ _ _ _ h.c,cell_of_row _ _ _ _ _ _ h.c,cell_of_row _ _ _ _ _ _ h.c,cell_of_row _ _ _ _ _ _ h.c,cell_of_row _ _ _ _ _ _ h.c⟩,⟨cell_of_row _ _ _ _ _ _ h.c,cell_of_row _ _ _ _ _ _ h.c,cell_of_row _ _ _ _ _ _ h.c,cell_of_row _ _ _ _ _ _ h.c,cell_of_row _ _ _ _ _ _ h.c⟩,fun o=>by simp[World.frozen?,h.c]⟩
theorem PW.offs(h:PW H O U gw cw T st Y vI V w){P:Nat->Prop}(c:∀ k,P k->Off O U gw Y vI V k)(d:∀ j,j < w.1.size->¬P j->w'.1[j]?=w.1[j]?):PW H O U gw cw T st Y vI V w':=by
 have f:∀ {n i:Nat} {e:TypeId} {x:Value} {l:List Value},w.ownsRow H e i x n l->(∀ k,x.ownBlock=some k->¬P k)->w'.ownsRow H e i x n l:=(by grind[cD,bLP]);exact⟨f h.words (fun k e b=>(c k b).t (by grind[Value.ownBlock])),(d O h.lt_pb (fun b=>(c _ b).p rfl)).t h.par,(d U (Oo h.prog) (fun b=>(c _ b).g rfl)).t h.prog,f h.nodes (fun k e b=>(c k b).l e),f h.its (fun k e b=>(c k b).i e),h.c.move (fun j g=>d j (h.used_lt g) (fun b=>(c j b).u g)),h.lt,h.few,h.ends,h.off⟩
theorem Px.news(h:Px O U Y C V D w w'){w2:World}(b:w2.os=w'.os/\w2.tape=w'.tape/\w2.output=w'.output/\w'.1.size<=w2.1.size)(g:∀ k,k < w.1.size->w2.1[k]?=w'.1[k]?):Px O U Y C V D w w2:=
 ⟨b.1.t h.os,b.2.1.t h.tape,b.2.2.1.t h.output,Qm h.size Oa,fun k c d e f=>(g k c).t (h.keep k c d e f),h.row,h.used⟩
theorem Bx.grow{c:World}(h:Bx H O U gw Y vI V c.1.size X a v w)(m:PW H O U gw cw T st Y vI V w){p:Value}{f:List V3}(n:Px O U p Y f V c w){w1 w2:World}{g o:Nat}{a':NQ}{v':V3}{r Z:Value}(I:∀ k,r.ownBlock=some k->bM7 v k)(t:(ndC a v).setIfInBounds o Z=ndC a' v')(i:∀ k,bM7 v' k->bM7 v k\/k=g)(l:w1.os=w.os/\w1.tape=w.tape/\w1.output=w.output/\w.1.size<=w1.1.size)(x:∀ k,k < w.1.size->w1.1[k]?=w.1[k]?)(d:w1.grownBy w2 r.ownBlock)(j:r.ownBlock=some g\/g=w1.1.size)(u:NdW H w2 a' v'):
 Bx H O U gw Y vI V c.1.size X a' v' (w2.setCell ⟨X,o,none⟩ Z)/\PW H O U gw cw T st Y vI V (w2.setCell ⟨X,o,none⟩ Z)/\Px O U p Y f V c (w2.setCell ⟨X,o,none⟩ Z):=by
 have hsz:=n.size;have s:=h.lt;have old:∀ k,k < w.1.size->r.ownBlock≠some k->w2.1[k]?=w.1[k]?:=fun k b F=>(d.block k Oa Qg).t Qh
 have y:g≠X:=by
  rcases j with e|e
  ·exact h.ne Qh
  ·omega
 have z:Off O U gw Y vI V g/\c.1.size<=g:=by
  rcases j with e|e
  ·exact h.u g Qh
  ·exact⟨m.fresh Oa,Oa⟩
 have q:∀ k,bM7 v' k->Off O U gw Y vI V k/\c.1.size<=k:=fun k b=>by
  rcases i k b with e|e
  ·exact h.u k e
  simp[*]
 have G:∀ k,bM7 v' k->k≠X:=fun k b=>by
  rcases i k b with e|e
  ·exact h.ne e
  omega
 refine⟨⟨?_,h.o,h.m,u.move (by grind[Below.heap_setCell]),q⟩,?_,?_⟩
 ·rw[<-t];exact aM _ ((old X s (fun e=>h.ne Qh rfl)).t h.c)
 ·refine m.offs (P:=fun k=>bM7 v k\/k=X) (fun k b=>b.elim (fun e=>(h.u k e).1) (fun e=>e ▸ h.o)) (fun J A E=>?_)
  grind[Below.heap_setCell]
 ·refine n.news ⟨d.os.t l.1,d.tape.t l.2.1,d.output.t Qh,?_⟩ (fun k b=>?_)
  ·have:=d.size
   grind[World.setCell]
  ·have:=h.m;exact(Om (by show k≠X;omega)).t (old k Oa (fun e=>by have:=(h.u k Qh).2;omega))
theorem Bx.kid{d:World}(h:Bx H O U gw Y vI V d.1.size X a v w)(p:PW H O U gw cw T st Y vI V w){i:Value}{e:List V3}(q:Px O U i Y e V d w)(l:v.2=(.slice none 0 0,.slice none 0 0))(f:a.g=[]/\a.e=[]){x:Int}{w1 w2:World}{g J:Nat}(n:w1.os=w.os/\w1.tape=w.tape/\w1.output=w.output/\w.1.size<=w1.1.size)(m:∀ k,k < w.1.size->w1.1[k]?=w.1[k]?)(r:w2.ownsRow H 3 1 (Qe g (a.c.length+1) J) (a.c.length+1) (bLU a.c++[Qc x]))(o:w1.grownBy w2 v.1.ownBlock)(j:v.1.ownBlock=some g\/g=w1.1.size):
 Bx H O U gw Y vI V d.1.size X {a with c:=a.c++[x]} (Qe g (a.c.length+1) J,.slice none 0 0,.slice none 0 0) (w2.setCell ⟨X,5,none⟩ (Qe g (a.c.length+1) J))/\PW H O U gw cw T st Y vI V (w2.setCell ⟨X,5,none⟩ (Qe g (a.c.length+1) J))/\Px O U i Y e V d (w2.setCell ⟨X,5,none⟩ (Qe g (a.c.length+1) J)):=by
 obtain⟨s,t,u⟩:=v;cases l;refine h.grow p q (fun k b=> .l b) rfl (fun k b=>?_) n m o j ⟨?_,?_,?_⟩
 ·rcases b with b|b|b
  ·grind[Value.ownBlock]
  ·cases b
  trivial
 ·grind[bLU]
 ·rw[f.1];exact⟨rfl,Od⟩
 ·rw[f.2];exact⟨rfl,Od⟩
theorem Bx.use(h:Bx H O U gw Y vI V B X a v w):NdA a v= .agg (ndC a v)/\(∀ k,vI.ownBlock=some k->¬bM7 v k)/\∀ k,bM7 v k->B<=k:=
 ⟨rfl,fun k b c=>(h.u k c).1.i b,fun k b=>(h.u k b).2⟩
end
section
variable {H O U gw cw:Nat} {T:List Tok} {vI:Value}
abbrev bLM(t:Tok):Obj:= Qf #[Qc t.d,Qc t.e,.string t.f,Qc t.a] 220
abbrev bOG(a:NQ):Obj:= Qf #[Qc a.d,Qc a.at_,.string a.s,Qc 0,Qc 0,.slice none 0 0,.slice none 0 0,.slice none 0 0,Qc 0,Qc 0,Qc 0] 73
theorem PW.boxed{st:QS}{Y f:Value}{V c:List V3}{b w:World}(h:PW H O U gw cw T st Y vI V w)(e:Px O U f Y c V b w)(a:NQ)(d:a.c=[]/\a.g=[]/\a.e=[]/\a.n=0/\a.mid=0/\a.b=0/\a.ref=0/\a.f=0):
 Bx H O U gw Y vI V b.1.size w.1.size a v0 (w.alloc (bOG a)):=by
 obtain⟨k,at_,s,n,i,g,j,p,o,l,m⟩:=a;obtain⟨rfl,rfl,rfl,rfl,rfl,rfl,rfl,rfl⟩:=d;exact⟨Qk w _,h.fresh Oa,e.size,NdW.none rfl rfl rfl,(by grind[bP7])⟩
theorem bLX{st:QS}(s:ByteArray):(bL1 T s st).L=st.L:=by
 grind[bL1,bKY,bOF]
theorem bNH{st:QS}(s:ByteArray):(bKW T s st).L=st.L:=by
 grind[bKW,bLX]
theorem bLR{st:QS}(s:ByteArray):(bL0 T s st).L=st.L:=by unfold bL0;rw[bLX]
theorem info3:(prog.info? 3).map (fun i=>(i.zero,i.size,i.bytes))=some (some (Qc 0),1,8):=by kernel_rfl
theorem bO2{X:Nat}{a:NQ}{v:V3}{st:QS}{Y f:Value}{V d:List V3}{c w:World}(b:Bx H O U gw Y vI V c.1.size X a v w)(h:PW H O U gw cw T st Y vI V w)(m:Px O U f Y d V c w)(l:st.L.length<=200000):
 Calls prog 106 #[Qd O,NdA a v] w fun e g=>e= .returned (Qc st.L.length)/\Aft H O U gw cw T vI f d c (bL2 a st) g:=by
 refine(bOI a v h b.n b.use.2.1 l).mono ?_;rintro e g ⟨i,n,j,k⟩;exact⟨i,n,_,j,(m.t k).more b.use.2.2⟩
theorem bYI(E:QS->QS × Int)(gE:Grs E)(N:Nat)(hE:bN1 H O U gw cw T vI 290 #[Qd O] E N)(t:Tok)(st:QS)(Y:Value)(V:List V3)(w:World)(c:Nat)(b3:c<=50000)(h:PW H O U gw cw T st Y vI V w)(hN:bKZ T st<=N)(hr:bLZ T st c):
 Calls prog 363 #[Qd O,t.g] w fun e w'=>e= .returned (Qc (bP5 T E t st).2)/\Aft H O U gw cw T vI Y V w (bP5 T E t st).1 w':=by
 have HE:Hid (bN1 H O U gw cw T vI 290 #[Qd O] E N):=hE;have hn:st.L.length<=200000:=by unfold bLZ at hr;omega
 have h1:=h.alloc (bLM t);have x1:=(Px.refl O U Y V w).alloc (bLM t);have b2:=h1.boxed x1 {d:=4,at_:=t.e,s:=t.f} ⟨rfl,rfl,rfl,rfl,rfl,rfl,rfl,rfl⟩;have h2:=h1.alloc (bOG {d:=4,at_:=t.e,s:=t.f});have x2:=x1.alloc (bOG {d:=4,at_:=t.e,s:=t.f});have e1:(w.alloc (bLM t)).1.size=w.1.size+1:=Od
 rw[e1]at b2
 have hq:Hid (bP5 T E t st=(if qat T st brT=true then
  (bL2 {d:=5,at_:=t.e,s:=t.f,c:=[(E (bKW T brT st)).2]} (bL0 T bOB (E (bKW T brT st)).1),((E (bKW T brT st)).1.L.length:Int))
 else if qat T st bL3=true then
  (bL2 {d:=6,at_:=t.e,s:=t.f,c:=(bLK T E T.length (!qat T (bKW T bL3 st) bLV) [] (bKW T bL3 st)).2} (bL0 T bLV (bLK T E T.length (!qat T (bKW T bL3 st) bLV) [] (bKW T bL3 st)).1),((bLK T E T.length (!qat T (bKW T bL3 st) bLV) [] (bKW T bL3 st)).1.L.length:Int))
 else(bL2 {d:=4,at_:=t.e,s:=t.f} st,(st.L.length:Int)))):=rfl
 clear hE h h1 x1 e1;unfold Tok.g;go_enter func363,ntmps363
 go_wp2_with fail
 refine(bNE brT h2).mono ?_;rintro e w3 ⟨rfl,n3,rfl⟩;go_wp2_with fail
 refine(bNE bL3 (h2.drewN n3)).mono ?_;rintro e w4 ⟨rfl,n4,rfl⟩;have Z:=(h2.drewN n3).drewN n4;have x4:=(x2.drewN n3).drewN n4;have b:Bx H O U gw Y vI V w.1.size (w.1.size+1) {d:=4,at_:=t.e,s:=t.f} v0 (((((w.alloc (bLM t)).alloc (bOG {d:=4,at_:=t.e,s:=t.f})).drewN n3)).drewN n4):=b2.old (fun _ _=>rfl);clear h2 x2 b2;generalize (((((w.alloc (bLM t)).alloc (bOG {d:=4,at_:=t.e,s:=t.f})).drewN n3)).drewN n4)=W at*;cases hbr:qat T st brT
 ·cases hro:qat T st bL3
  ·
    obtain⟨⟨y0,y1,y2,y3,y4,y5⟩,⟨y6,Q,S,y9,o⟩,g⟩:=b.cells
    have hz:Hid (bP5 T E t st=(bL2 {d:=4,at_:=t.e,s:=t.f} st,(st.L.length:Int))):=by
     rw[Hid,hq.o,hbr,hro];rfl
    clear hq hr hN;go_wp2_with fail
    refine(bO2 b Z x4 hn).mono ?_;rintro e w5 ⟨rfl,A⟩;have HA:Hid _:=A;clear A b Z x4 y0 y1 y2 y3 y4 y5 y6 Q S y9 o g;go_wp2;go_ret;rw[hz.o];exact⟨rfl,HA.o⟩
  ·
    obtain⟨_,_,g⟩:=b.cells;have f0:=g 0
    have hz:Hid (bP5 T E t st=(bL2 {d:=6,at_:=t.e,s:=t.f,c:=(bLK T E T.length (!qat T (bKW T bL3 st) bLV) [] (bKW T bL3 st)).2} (bL0 T bLV (bLK T E T.length (!qat T (bKW T bL3 st) bLV) [] (bKW T bL3 st)).1),((bLK T E T.length (!qat T (bKW T bL3 st) bLV) [] (bKW T bL3 st)).1.L.length:Int))):=by
     rw[Hid,hq.o,hbr,hro];rfl
    have b5:=b.d 6;have h5:=Z.U b.o 0 (Qc 6);have x5:=x4.J b.m 0 (Qc 6);clear g b Z x4 hq;go_wp2_with fail
    refine(bPQ bL3 h5).mono ?_;rintro e w6 ⟨rfl,u,K⟩;have b6:=b5.px (Px.I K (Y:=Y) (V:=V));have x6:=x5.t (Px.I K);have j4:=Qm (Gr.opn T bL3 st).need hN;have j1:bLZ T (bKW T bL3 st) (c+0):=hr.gr (Gr.opn T bL3 st) (Nat.le_of_lt u.lt);clear f0 b5 h5 x5 K;generalize bKW T bL3 st=P at*;go_wp2_with fail
    refine(bNE bLV u).mono ?_;rintro e k ⟨rfl,n7,rfl⟩;have j:=u.drewN n7;have x7:=x6.drewN n7;have i:Bx H O U gw Y vI V w.1.size (w.1.size+1) {d:=6,at_:=t.e,s:=t.f} v0 (w6.drewN n7):=b6.old (fun _ _=>rfl);generalize w6.drewN n7=W7 at*;clear b6 u x6;obtain⟨i0,j9,j6,j5,k9⟩:=info_parts info3;go_wp2_with fail
    go_loopg [10] T.length (fun m a9 wr=>∃ (R:QS) (more:Bool) (l:List Int) (a2 v1:Value) (Vr:List V3),a9= .bool more/\PW H O U gw cw T R a2 vI Vr wr/\Px O U Y a2 V Vr w wr/\Bx H O U gw a2 vI Vr w.1.size (w.1.size+1) {d:=6,at_:=t.e,s:=t.f,c:=l} (v1,.slice none 0 0,.slice none 0 0) wr/\l.length+m<=T.length/\(more=true->bKZ T R<=m)/\bKZ T R<=N/\(bLZ T R c\/(more=false/\bLZ T R (c+1)))/\bLK T E m more l R=bLK T E T.length (!qat T P bLV) [] P)
    case atStart=>
     refine⟨P,_,[],Y,_,V,rfl,j,x7,i,Od,fun _=>?_,j4,.l j1,rfl⟩;unfold bKZ
     split
     ·omega
     ·exact Qn _
    case round=>
     obtain⟨R,more,l,a2,v1,Vr,rfl,hc,xc,bc,b7,M,g1,k7,j0⟩:=hrel;have HR:Hid (bLK T E gk more l R=bLK T E T.length (!qat T P bLV) [] P):=j0;obtain⟨_,_,_,p3,_,_,_⟩:=hc.cells;clear j0 j x7 i j4 j1
     by_cases hd:more=true/\R.a=0
     ·obtain⟨rfl,k0⟩:=hd
      obtain⟨m,rfl⟩:∃ m,gk=m+1:=⟨gk - 1,by
       have M:=M rfl;unfold bKZ at M;rw[if_pos k0]at M;have:=hc.lt;omega⟩
      have t0:(R.a==0)=true:=by simp[k0]
      have k7:bLZ T R c:=k7.resolve_right (fun h=>by cases h.1);have g0:=gE R
      have HS:Hid (bLK T E m (qat T (E R).1 bPJ) (l++[(E R).2]) (if qat T (E R).1 bPJ=true then bKV T (E R).1 else(E R).1)=bLK T E T.length (!qat T P bLV) [] P):=by
       rw[Hid,<-HR.o,bLK,if_pos (c:=true=true/\R.a=0) ⟨rfl,k0⟩]
      have HM:Hid (bKZ T R<=m+1/\R.a=0):=⟨M rfl,k0⟩;clear HR M;go_wp2_with fail
      refine(HE.o _ _ _ _ c Oa hc g1 k7).mono ?_;rintro e n ⟨rfl,a1,V8,z,x8⟩;have f:=bc.px x8;have S:=xc.t x8;have g4:=k7.gr g0 (Nat.le_of_lt z.lt);have g7:=Qm g0.need g1;have g5:bKZ T (E R).1<=m+1:=Qm g0.need HM.o.1;clear bc xc x8 hc p3 t0 k0;have b9:=f.old (w':=n.alloc (Qf #[Qc (E R).2] 3)) (fun _ L=>On L);obtain⟨⟨_,_,_,_,_,F⟩,_,_⟩:=f.cells;have F:n.cell? ⟨w.1.size+1,5,none⟩=some v1:=F;obtain⟨⟨_,_,_,_,_,d5⟩,_,g⟩:=b9.cells;have f5:=g 5;have c5:=z.T;have j7:=f.lt;have b4:=z.few;have k1:=f.n.k;obtain⟨ao,cp,rfl,_⟩:=eQ k1;have k8:some (w.1.size+1)≠(Value.slice ao l.length cp).ownBlock:=fun e=>f.ne (.l e.symm) rfl;generalize hy:(E R).2=y at*;generalize g8:(E R).1=r at*;have hB:Hid (Bx H O U gw a1 vI V8 w.1.size (w.1.size+1) {d:=6,at_:=t.e,s:=t.f,c:=l} (.slice ao l.length cp,.slice none 0 0,.slice none 0 0) n/\PW H O U gw cw T r a1 vI V8 n/\Px O U Y a1 V V8 w n):=⟨f,z,S⟩;clear g f b9 z S hy g8;go_upto_region 18 with(at_builtin;refine wpList_append_lies _ rfl _ _ 70 rfl H 3 i0 _ 1 8 underlying70 j9 j6 j5 k9 rfl Oa (.slice ao l.length cp) l.length (bLU l) rfl (k1.alloc _) ⟨n.1.size,0,none⟩ 1 1 [Qc y] rfl rfl (World.news_of_block (cs:=#[Qc y]) (t:=3) (fr:=(0,0)) (Qk n _)) (by simp[Value.oneCell']) Oa (by unfold maxLen;omega) Oa (by simp;omega) (n.1.size+1) Od ?_;intro gg J w9 k3 p j2 k6;have q5:=(p.frozen_far ⟨w.1.size+1,5,none⟩ (by simp;omega) k8).t f5;have q6:=(p.cell_far ⟨w.1.size+1,5,none⟩ (by simp;omega) k8).t d5)
      obtain⟨f,z,S⟩:=hB.o;obtain⟨I,q,o⟩:=f.kid z S rfl ⟨rfl,rfl⟩ (x:=y) (w1:=n.alloc (Qf #[Qc y] 3)) ⟨rfl,rfl,rfl,Od⟩ (fun _ L=>On L) k3 p (j2.imp id (fun e=>by simpa using e));clear f z S hB k1 k3 p j2 k6 q5 q6 F d5 f5 j7 k8;go_wp2_with fail
      refine(bNE bPJ q).mono ?_;rintro e a7 ⟨rfl,a6,rfl⟩;cases hcm:qat T r bPJ
      ·go_wp2;go_roundg m
       case rel=>
        refine⟨r,false,l++[y],_,_,_,rfl,q.drewN _,o.drewN _,I.old (fun _ _=>rfl),by simp;omega,(fun h=>by cases h),g7,.r ⟨rfl,g4⟩,?_⟩;have:=HS.o;rw[hcm]at this;exact this
       case measure=>omega
      ·go_wp2_with fail
       refine(bMS (q.drewN a6)).mono ?_;rintro e c6 ⟨rfl,g3,a5⟩;unfold Tok.g;go_wp2;go_roundg m
       case rel=>
        have j3:=bMK T r (bNF hcm);have a8:Bx H O U gw a1 vI V8 w.1.size (w.1.size+1) {d:=6,at_:=t.e,s:=t.f,c:=l++[y]} (Qe gg (l.length+1) J,.slice none 0 0,.slice none 0 0) ((w9.setCell ⟨w.1.size+1,5,none⟩ (Qe gg (l.length+1) J)).drewN a6):=I.old (fun _ _=>rfl);refine⟨bKV T r,true,l++[y],_,_,_,rfl,g3,(o.drewN _).t (Px.I a5),a8.px (Px.I a5 (Y:=a1) (V:=V8)),by simp;omega,fun _=>?_,Qm (Gr.b T r).need g7,.l ?_,?_⟩
        ·unfold bKZ at g5 ⊢;rw[j3];have:=g3.lt;rw[j3]at this
         split
         ·rename_i h0
          have:r.a=0:=by
           by_cases h:r.a=0
           ·exact h
           ·exact absurd (((Gr.b T r).stick h).1 ▸ h0) h
          rw[if_pos this]at g5;omega
         ·exact Qn _
        ·have g2:=g3.lt;unfold bLZ at g4 ⊢;rw[bKY,j3];rw[j3]at g2;omega
        ·have:=HS.o;rw[hcm]at this;exact this
       case measure=>omega
     ·have HF:Hid (bLK T E gk more l R=(R,l)):=by
       cases gk
       ·rfl
       ·exact if_neg hd
      have d0:R.L.length<=200000:=by
       rcases k7 with h|⟨_,h⟩<;>(unfold bLZ at h;omega)
      have k9:Hid (bP5 T E t st=(bL2 {d:=6,at_:=t.e,s:=t.f,c:=l} (bL0 T bLV R),(R.L.length:Int))):=by
       rw[Hid,hz.o,<-HR.o,HF.o]
      have d1:more=false\/(more=true/\(R.a==0)=false):=by
       cases more
       ·exact .l rfl
       ·exact .r ⟨rfl,by simpa using fun e=>hd ⟨rfl,e⟩⟩
      clear hd M g1 k7 hz HR HF;rcases d1 with rfl|⟨rfl,t0⟩
      all_goals
       go_wp2_with fail
       refine(bPP bLV hc).mono ?_;rintro e b1 ⟨rfl,q,G⟩;have I:=bc.px (Px.I G (Y:=a2) (V:=Vr));have o:=xc.t (Px.I G);obtain⟨⟨z0,z1,z2,z3,z4,z5⟩,⟨z6,z7,z8,z9,a4⟩,zf⟩:=I.cells;have k5:(bL0 T bLV R).L.length<=200000:=by rw[bLR];exact d0
       clear bc xc G;go_wp2_with fail
       refine(bO2 I q o k5).mono ?_;rintro e a7 ⟨rfl,A⟩;have HA:Hid _:=A;clear A I q o z0 z1 z2 z3 z4 z5 z6 z7 z8 z9 a4 zf;go_wp2;go_ret;rw[k9.o,bLR];exact⟨rfl,HA.o⟩
 ·
   obtain⟨_,_,g⟩:=b.cells;have f0:=g 0
   have hz:Hid (bP5 T E t st=(bL2 {d:=5,at_:=t.e,s:=t.f,c:=[(E (bKW T brT st)).2]} (bL0 T bOB (E (bKW T brT st)).1),((E (bKW T brT st)).1.L.length:Int))):=by
    rw[Hid,hq.o,hbr];rfl
   have b5:=b.d 5;have h5:=Z.U b.o 0 (Qc 5);have x5:=x4.J b.m 0 (Qc 5);clear g b Z x4 hq;go_wp2_with fail
   refine(bPQ brT h5).mono ?_;rintro e w6 ⟨rfl,u,K⟩;have b6:=b5.px (Px.I K (Y:=Y) (V:=V));have x6:=x5.t (Px.I K);have j4:=Qm (Gr.opn T brT st).need hN;have j1:bLZ T (bKW T brT st) (c+0):=hr.gr (Gr.opn T brT st) (Nat.le_of_lt u.lt);have g6:=gE (bKW T brT st);clear f0 b5 h5 x5 K;go_wp2_with fail
   refine(HE.o _ _ _ _ c Oa u j4 j1).mono ?_;rintro e k ⟨rfl,a3,V7,j,x7⟩;have i:=b6.px x7;have Q:=x6.t x7;have g9:=j1.gr g6 (Nat.le_of_lt j.lt);clear b6 x6 x7 g6;obtain⟨i0,j9,j6,j5,k9⟩:=info_parts info3;have f:=i.old (w':=k.alloc (Qf #[Qc (E (bKW T brT st)).2] 3)) (fun _ L=>On L);obtain⟨⟨_,_,_,_,_,F⟩,_,_⟩:=i.cells;have F:k.cell? ⟨w.1.size+1,5,none⟩=some (.slice none 0 0):=F;obtain⟨⟨_,_,_,_,_,d5⟩,_,g⟩:=f.cells;have f5:=g 5;have b8:=j.T;have j8:=i.lt;generalize (E (bKW T brT st)).2=y at*;generalize (E (bKW T brT st)).1=s7 at*;have k1:=i.n.k;have k8:some (w.1.size+1)≠v0.1.ownBlock:=by simp[v0,Value.ownBlock]
   have hB:Hid (Bx H O U gw a3 vI V7 w.1.size (w.1.size+1) {d:=5,at_:=t.e,s:=t.f} v0 k/\PW H O U gw cw T s7 a3 vI V7 k/\Px O U Y a3 V V7 w k):=⟨i,j,Q⟩;clear g i j Q u f;go_upto_region 9 with(at_builtin;refine wpList_append_lies _ rfl _ _ 70 rfl H 3 i0 _ 1 8 underlying70 j9 j6 j5 k9 rfl Oa (.slice none 0 0) 0 [] rfl (k1.alloc _) ⟨k.1.size,0,none⟩ 1 1 [Qc y] rfl rfl (World.news_of_block (cs:=#[Qc y]) (t:=3) (fr:=(0,0)) (Qk k _)) (by simp[Value.oneCell']) Oa (by unfold maxLen;omega) Oa (by simp;omega) (k.1.size+1) Od ?_;intro gg J n k4 p j2 k6;have q5:=(p.frozen_far ⟨w.1.size+1,5,none⟩ (by simp;omega) k8).t f5;have q6:=(p.cell_far ⟨w.1.size+1,5,none⟩ (by simp;omega) k8).t d5)
   obtain⟨i,j,Q⟩:=hB.o;obtain⟨b9,h9,y9⟩:=i.kid j Q rfl ⟨rfl,rfl⟩ (x:=y) (w1:=k.alloc (Qf #[Qc y] 3)) ⟨rfl,rfl,rfl,Od⟩ (fun _ L=>On L) k4 p (j2.imp id (fun e=>by simpa using e));clear i j Q hB k1 k4 p j2 k6 q5 q6 F d5 f5 j8;go_wp2_with fail
   refine(bPP bOB h9).mono ?_;rintro e b1 ⟨rfl,q,G⟩;have I:=b9.px (Px.I G (Y:=a3) (V:=V7));have o:=y9.t (Px.I G);obtain⟨⟨z0,z1,z2,z3,z4,z5⟩,⟨z6,z7,z8,z9,a4⟩,zf⟩:=I.cells;have k5:(bL0 T bOB s7).L.length<=200000:=by rw[bLR];unfold bLZ at g9;omega
   clear b9 h9 y9 G;go_wp2_with fail
   refine(bO2 I q o k5).mono ?_;rintro e a7 ⟨rfl,A⟩;have HA:Hid _:=A;clear A I q o z0 z1 z2 z3 z4 z5 z6 z7 z8 z9 a4 zf;go_wp2;go_ret;rw[hz.o,bLR];exact⟨rfl,HA.o⟩
end
section
variable {H O U gw cw:Nat} {T:List Tok} {vI:Value}
theorem PW.drew{st:QS}{Y:Value}{V:List V3}{w:World}(h:PW H O U gw cw T st Y vI V w):PW H O U gw cw T st Y vI V w.drew:=h.same fun _ _=>rfl
theorem Px.drew{Y c:Value}{V b:List V3}{w w':World}(h:Px O U Y c V b w w'):Px O U Y c V b w w'.drew:=⟨h.os,h.tape,h.output,h.size,h.keep,h.row,h.used⟩
theorem bY9(E F:QS->QS × Int)(gE:Grs E)(gF:Grs F)(N:Nat)(hE:bN1 H O U gw cw T vI 290 #[Qd O] E N)(hF:bN1 H O U gw cw T vI 360 #[Qd O] F N)(st:QS)(Y:Value)(V:List V3)(w:World)(c:Nat)(z0:c<=50000)(h:PW H O U gw cw T st Y vI V w)(G:bKZ T st<=N+1)(Q:bLZ T st c):
 Calls prog 360 #[Qd O] w fun e w'=>e= .returned (Qc (bOX T E F st).2)/\Aft H O U gw cw T vI Y V w (bOX T E F st).1 w':=by
 have HE:Hid (bN1 H O U gw cw T vI 290 #[Qd O] E N):=hE;have HF:Hid (bN1 H O U gw cw T vI 360 #[Qd O] F N):=hF;obtain⟨p0,p1,_,p3,_,_,_⟩:=h.cells;obtain⟨x0,x1,x2,x3⟩:=h.w4;have a5:=h.lt;have a3:=h.few;have a6:=h.lt_pb;have a4:gw < w.1.size:=Qp w _ x0;have hi:0<=(st.i:Int)/\(st.i:Int) < (T.length:Int):=Oa
 have hn:st.L.length<=200000:=by unfold bLZ at Q;omega
 have M:=(h.alloc (bLM (dD T st.i))).drew;have xA:=((Px.refl O U Y V w).alloc (bLM (dD T st.i))).drew;have qA:(w.alloc (bLM (dD T st.i))).drew.1[w.1.size]?=some (Qf #[Qc (dD T st.i).d,Qc (dD T st.i).e,.string (dD T st.i).f,Qc (dD T st.i).a] 220):=Qk w _;have k4:=h.fresh Ol;clear hE hF h
 by_cases P:st.a=0
 ·have t0:(st.a !=0)=false:=by simp[P]
  have S:Hid (bOX T E F st=(if(dD T st.i).d=2 then(bL2 {d:=3,at_:=(dD T st.i).e,n:=(dD T st.i).a} (bKV T st),(st.L.length:Int))
   else if(dD T st.i).d=1 then bP5 T E (dD T st.i) (bKV T st)
   else if qat T st bL3=true then(bL0 T bLV (E (bKW T bL3 st)).1,(E (bKW T bL3 st)).2)
   else if qat T st bLT=true then(bL2 {d:=7,at_:=(dD T st.i).e,c:=[(F (bKW T bLT st)).2]} {(F (bKW T bLT st)).1 with op:=wrap64 ((F (bKW T bLT st)).1.op - 1)},((F (bKW T bLT st)).1.L.length:Int))
   else(bLH T st,0))):=by
   unfold Hid bOX;rw[if_neg (c:=st.a≠0) (by simp[P])]
  go_enter func360,ntmps360
  go_upto_region 1 with fail
  go_region
  clear p0 p1 p3 x0 x1 x2 x3;obtain⟨_,_,_,p3,_,_,_⟩:=M.cells;generalize (w.alloc (bLM (dD T st.i))).drew=W at*;go_wp2_with fail
  refine(bNE bL3 M).mono ?_;rintro e w2 ⟨rfl,n2,rfl⟩;go_wp2_with fail
  refine(bNE bLT (M.drewN n2)).mono ?_;rintro e w3 ⟨rfl,n3,rfl⟩;have r:=(M.drewN n2).drewN n3;have y:=(xA.drewN n2).drewN n3;have i:((W.drewN n2).drewN n3).1[w.1.size]?=some (Qf #[Qc (dD T st.i).d,Qc (dD T st.i).e,.string (dD T st.i).f,Qc (dD T st.i).a] 220):=qA;clear p3 M xA qA;generalize (W.drewN n2).drewN n3=W3 at*;obtain⟨l,m,o,p,q⟩:=dG i;have k5:(dD T st.i).d≠0->(bKV T st).i=st.i+1:=bMK T st
  by_cases I:(dD T st.i).d=2
  ·
    have u2:((dD T st.i).d==2)=true:=by simp[I]
    have j:Hid (bOX T E F st=(bL2 {d:=3,at_:=(dD T st.i).e,n:=(dD T st.i).a} (bKV T st),(st.L.length:Int))):=by rw[Hid,S.o,if_pos I]
    clear S k5 Q G I;go_wp2_with fail
    refine(bMS r).mono ?_;rintro e w4 ⟨rfl,s,b⟩;have z:=y.t (Px.I b);have A:=(b.block _ (Oo i) Oa).t i;have hL:(bKV T st).L=st.L:=bKY;clear l m o p q r y i b;obtain⟨l,m,o,p,q⟩:=dG A;generalize dD T st.i=t at*;unfold Tok.g;go_wp2_with fail
    refine(bOI {d:=3,at_:=t.e,n:=t.a} v0 s (NdW.none rfl rfl rfl) (fun k _=>bP7 k) (hL ▸ hn)).mono ?_;rintro e g ⟨rfl,a1,f,x⟩;clear l m o p q A;go_wp2;go_ret;rw[j.o,<-hL];exact⟨rfl,a1,_,f,(z.t x).more (fun k u=>absurd u (bP7 k))⟩
  have u2:((dD T st.i).d==2)=false:=by simp[I]
  by_cases Z:(dD T st.i).d=1
  ·
    have u1:((dD T st.i).d==1)=true:=by simp[Z]
    have j:Hid (bOX T E F st=bP5 T E (dD T st.i) (bKV T st)):=by rw[Hid,S.o,if_neg I,if_pos Z]
    have k6:=k5 Oa
    have z1:bKZ T (bKV T st)<=N:=by
     unfold bKZ at G ⊢;rw[if_pos P]at G
     split
     ·rw[k6];omega
     ·exact Qn _
    have y2:bLZ T (bKV T st) c:=by
     unfold bLZ at Q ⊢;rw[k6,bKY];omega
    clear S k5 Q G I Z k6;go_wp2_with fail
    refine(bMS r).mono ?_;rintro e w4 ⟨rfl,s,b⟩;have z:=y.t (Px.I b);have A:=(b.block _ (Oo i) Oa).t i;clear l m o p q r y i b;obtain⟨l,m,o,p,q⟩:=dG A;generalize dD T st.i=t at*;unfold Tok.g;go_wp2_with fail
    refine(bYI E gE N HE.o t _ _ _ _ c z0 s z1 y2).mono ?_;rintro e g ⟨rfl,a1,V5,f,x⟩;clear l m o p q A;go_wp2;go_ret;rw[j.o];exact⟨rfl,a1,V5,f,z.t x⟩
  have u1:((dD T st.i).d==1)=false:=by simp[Z]
  have R:Hid (bOX T E F st=(if qat T st bL3=true then(bL0 T bLV (E (bKW T bL3 st)).1,(E (bKW T bL3 st)).2)
   else if qat T st bLT=true then(bL2 {d:=7,at_:=(dD T st.i).e,c:=[(F (bKW T bLT st)).2]} {(F (bKW T bLT st)).1 with op:=wrap64 ((F (bKW T bLT st)).1.op - 1)},((F (bKW T bLT st)).1.L.length:Int))
   else(bLH T st,0))):=by rw[Hid,S.o,if_neg I,if_neg Z]
  have k0:∀ J,qat T st J=true->bKZ T (bKW T J st)<=N:=fun J hb=>by
   unfold bKZ at G ⊢;rw[if_pos P]at G;rcases bUS hb with h0|⟨h1,_⟩
   ·rw[if_neg h0];exact Qn _
   ·split
    ·rw[h1];omega
    ·exact Qn _
  have h9:∀ J,bLZ T (bKW T J st) (c+0):=fun J=>by
   have h1:=Gr.opn T J st;unfold bLZ at Q ⊢;have:=h1.room;have:=h1.i;have:(bKW T J st).L.length=st.L.length:=by rw[bNH]
   omega
  clear S k5 Q G I Z;cases hb1:qat T st bL3
  ·cases hb2:qat T st bLT
   ·
     have j:Hid (bOX T E F st=(bLH T st,0)):=by rw[Hid,R.o,hb1,hb2];rfl
     clear R k0 h9;go_wp2_with fail
     refine(bPA r).mono ?_;rintro e w4 ⟨rfl,s,b⟩;have z:=y.t (Px.I b);clear l m o p q r y i b;go_wp2;go_ret;rw[j.o];exact⟨rfl,Y,V,s,z⟩
   ·
     have j:Hid (bOX T E F st=(bL2 {d:=7,at_:=(dD T st.i).e,c:=[(F (bKW T bLT st)).2]} {(F (bKW T bLT st)).1 with op:=wrap64 ((F (bKW T bLT st)).1.op - 1)},((F (bKW T bLT st)).1.L.length:Int))):=by rw[Hid,R.o,hb1,hb2];rfl
     have k7:=k0 bLT hb2;have k3:=h9 bLT;clear R k0 h9;go_wp2_with fail
     refine(bPQ bLT r).mono ?_;rintro e w4 ⟨rfl,s,b⟩;have z:=y.t (Px.I b);have A:=(b.block _ (Oo i) Oa).t i;have hg:=gF (bKW T bLT st);clear l m o p q r y i b;generalize bKW T bLT st=s4 at*;go_wp2_with fail
     refine(HF.o _ _ _ _ c Oa s k7 k3).mono ?_;rintro e g ⟨rfl,a1,V5,f,x⟩;have y5:=z.t x;have q5:=(x.keep _ (Oo A) k4.p k4.g k4.l).t A;have k9:=k3.gr hg (Nat.le_of_lt f.lt);obtain⟨_,_,p2,_,_,_,pf⟩:=f.cells;have f2:=pf 2;obtain⟨l,m,o,p,q⟩:=dG q5;generalize (F s4).2=L at*;generalize (F s4).1=K at*;have h6:=f.put (st':={K with op:=wrap64 (K.op - 1)}) ((Ex.refl O g).set 2 (Qc (wrap64 (K.op - 1)))) rfl rfl f.lt (aM _ f.par);have y6:=y5.t (Px.I h6.2);have m1:(g.setCell ⟨O,2,none⟩ (Qc (wrap64 (K.op - 1)))).cell? ⟨w.1.size,1,none⟩=some (Qc (dD T st.i).e):=(dG ((Om k4.p).t q5)).2.1;have h7:=h6.1.alloc (Qf #[Qc L] 3);have y7:=y6.alloc (Qf #[Qc L] 3);have y0:w.1.size<=g.1.size:=y5.size
     have k8:∀ k,bM7 (Qe g.1.size 1 1,.slice none 0 0,.slice none 0 0) k->k=g.1.size:=by
      rintro k (u|u|u)<;>simp[Value.ownBlock]at u;exact u.symm
     have hv:NdW H ((g.setCell ⟨O,2,none⟩ (Qc (wrap64 (K.op - 1)))).alloc (Qf #[Qc L] 3)) {d:=7,at_:=(dD T st.i).e,c:=[L]} (Qe g.1.size 1 1,.slice none 0 0,.slice none 0 0):=
      ⟨⟨rfl,.r ⟨g.1.size,1,#[Qc L],rfl,f.T,by have:=Qk (g.setCell ⟨O,2,none⟩ (Qc (wrap64 (K.op - 1)))) (Qf #[Qc L] 3);simpa[World.setCell]using this,Ql _,Ob,rfl,rfl⟩⟩,⟨rfl,.l ⟨rfl,rfl⟩⟩,⟨rfl,.l ⟨rfl,rfl⟩⟩⟩
     have y1:∀ k,vI.ownBlock=some k->¬bM7 (Qe g.1.size 1 1,.slice none 0 0,.slice none 0 0) k:=fun k u hu=>absurd (bLP f.its u) (by rw[k8 k hu];omega);have y9:K.L.length<=200000:=by unfold bLZ at k9;omega
     clear l m o p q pf f h6 x y5 y6 q5 A k9;go_wp2_with fail
     refine(bOI {d:=7,at_:=(dD T st.i).e,c:=[L]} _ h7 hv y1 y9).mono ?_;rintro e w8 ⟨rfl,a2,h8,x8⟩;have y8:=(y7.t x8).more (v:=(Qe g.1.size 1 1,.slice none 0 0,.slice none 0 0)) (fun k u=>by rw[k8 k u];exact y0);clear p2 f2 m1 h7 hv x8 y7;go_wp2;go_ret;rw[j.o];exact⟨rfl,a2,_,h8,y8⟩
  ·
    have j:Hid (bOX T E F st=(bL0 T bLV (E (bKW T bL3 st)).1,(E (bKW T bL3 st)).2)):=by rw[Hid,R.o,hb1];rfl
    have k7:=k0 bL3 hb1;have k3:=h9 bL3;clear R k0 h9;go_wp2_with fail
    refine(bPQ bL3 r).mono ?_;rintro e w4 ⟨rfl,s,b⟩;have z:=y.t (Px.I b);clear l m o p q r y i b;generalize bKW T bL3 st=s4 at*;go_wp2_with fail
    refine(HE.o _ _ _ _ c Oa s k7 k3).mono ?_;rintro e g ⟨rfl,a1,V5,f,x⟩;have y5:=z.t x;clear s z x;generalize (E s4).2=L at*;generalize (E s4).1=K at*;go_wp2_with fail
    refine(bPP bLV f).mono ?_;rintro e w6 ⟨rfl,h6,e6⟩;have y6:=y5.t (Px.I e6);clear f y5 e6;go_wp2;go_ret;rw[j.o];exact⟨rfl,a1,V5,h6,y6⟩
 ·have t0:(st.a !=0)=true:=by simp[P]
  have j:Hid (bOX T E F st=(st,0)):=if_pos P;clear P Q G;go_enter func360,ntmps360
  go_upto_region 1 with fail
  go_region
  clear p0 p1 p3 x0 x1 x2 x3 qA;obtain⟨_,_,_,p3,_,_,_⟩:=M.cells;generalize (w.alloc (bLM (dD T st.i))).drew=W at*;go_wp2;go_ret;rw[j.o];exact⟨rfl,Y,V,M,xA⟩
end
section
variable {T:List Tok} {st a b c:QS} {m n:Nat}
def bO3:ByteArray:=⟨#[38,38]⟩
def orT:ByteArray:=⟨#[124,124]⟩
def lbT:ByteArray:=⟨#[123]⟩
def rbT:ByteArray:=⟨#[125]⟩
def bMX:ByteArray:=⟨#[61]⟩
def bOA:ByteArray:=⟨#[59]⟩
def bQM:ByteArray:=⟨#[101,108,115,101]⟩
def bN3:ByteArray:=⟨#[119,104,101,114,101]⟩
def bRG:ByteArray:=⟨#[108,101,116]⟩
def ifT:ByteArray:=⟨#[105,102]⟩
def bO9:ByteArray:=⟨#[119,104,105,108,101]⟩
def bNQ:ByteArray:=⟨#[114,101,116,117,114,110]⟩
def stT:ByteArray:=⟨#[108,101,116,32,105,102,32,119,104,105,108,101,32,114,101,116,117,114,110,32,111,117,116]⟩
def bYL:ByteArray:=⟨#[97,114,114]⟩
def bY7:ByteArray:=⟨#[102,110]⟩
def bMG(T:List Tok)(P:QS->QS × Int)(s:ByteArray)(kd:Int):Nat->Int->QS->QS × Int
 |0,x,st=>(st,x)
 |k+1,x,st=>if qat T st s=true/\st.a=0 then
   bMG T P s kd k (P (bKV T st)).1.L.length (bL2 {d:=kd,c:=[x,(P (bKV T st)).2]} (P (bKV T st)).1)
  else(st,x)
def bSX(T:List Tok)(P:QS->QS × Int)(s:ByteArray)(kd:Int)(st:QS):QS × Int:=bMG T P s kd T.length (P st).2 (P st).1
def cB0(T:List Tok)(E:QS->QS × Int):QS->QS × Int:=bSX T (bUO T E) bO3 10
def bQK(T:List Tok)(E:QS->QS × Int):QS->QS × Int:=bSX T (cB0 T E) orT 11
def bLW(T:List Tok)(S:QS->QS × Int):Nat->List Int->QS->QS × List Int
 |0,l,st=>(st,l)
 |k+1,l,st=>if st.a=0/\qat T st rbT=false then bLW T S k (l++[(S st).2]) (S st).1 else(st,l)
def bP4(T:List Tok)(S:QS->QS × Int)(st:QS):QS × Int:=
 let r:=bLW T S T.length [] (bKW T lbT st)
 (bL2 {d:=19,c:=r.2} (bL0 T rbT r.1),r.1.L.length)
def bMT(T:List Tok)(E:QS->QS × Int)(x:NQ)(st:QS):QS × Int:=
 (bL2 {x with c:=x.c++[(E st).2]} (bL1 T bOA (E st).1),(E st).1.L.length)
def bLO(T:List Tok)(C B:QS->QS × Int)(x:NQ)(isIf:Bool)(st:QS):QS × Int:=
 if isIf=true/\qat T (B (C st).1).1 bQM=true/\(B (C st).1).1.a=0 then
  (bL2 {x with d:=15,c:=[(C st).2,(B (C st).1).2,(B (bKV T (B (C st).1).1)).2]} (B (bKV T (B (C st).1).1)).1,(B (bKV T (B (C st).1).1)).1.L.length)
 else(bL2 {x with d:=if isIf=true then 15 else 16,c:=[(C st).2,(B (C st).1).2]} (B (C st).1).1,(B (C st).1).1.L.length)
def bMF(T:List Tok)(E C B:QS->QS × Int)(st:QS):QS × Int:=
 let t:=dD T st.i
 let s1:=bKV T st
 if t.d=1 then
  if qat T s1 brT=true then
   let e:=E (bKW T brT s1)
   bMT T E {d:=14,at_:=t.e,s:=t.f,c:=[e.2]} (bL1 T bMX (bL0 T bOB e.1))
  else bMT T E {d:=13,at_:=t.e,s:=t.f} (bL1 T bMX s1)
 else if bNR T st stT=true then
  if t.f=bRG then bMT T E {d:=12,at_:=(bL9 T 1 s1).e,s:=(bL9 T 1 s1).f} (bL1 T bMX (bL6 T 1 s1))
  else if t.f=ifT then bLO T C B {d:=0,at_:=t.e} true s1
  else if t.f=bO9 then bLO T C B {d:=0,at_:=t.e} false s1
  else if t.f=bNQ then bMT T E {d:=17,at_:=t.e} s1
  else bMT T E {d:=18,at_:=t.e} s1
 else(bLH T st,0)
def qBl(T:List Tok)(E C:QS->QS × Int):Nat->QS->QS × Int
 |0=>fun st=>(st,0)
 |n+1=>bP4 T (bMF T E C (qBl T E C n))
def bLC(T:List Tok):Nat->Bool->List Tok->QS->QS × List Tok
 |0,_,l,st=>(st,l)
 |k+1,more,l,st=>if more=true/\st.a=0 then
   bLC T k (qat T (bL6 T 1 st) bPJ) (l++[bL9 T 1 st]) (if qat T (bL6 T 1 st) bPJ=true then bKV T (bL6 T 1 st)else bL6 T 1 st)
  else(st,l)
def bM0(T:List Tok)(st:QS):QS × Int:=
 (bL2 {d:=9,at_:=(dD T st.i).e,s:=bNU T (bMA T st),c:=[st.L.length,(bMN T (bMA T st)).L.length]} (bMA T (bMN T (bMA T st))),(bMA T (bMN T (bMA T st))).L.length)
def bLJ(T:List Tok):Nat->Bool->List Int->QS->QS × List Int
 |0,_,l,st=>(st,l)
 |k+1,more,l,st=>if more=true/\st.a=0 then
   bLJ T k (qat T (bM0 T (bKV T st)).1 bPJ) (l++[(bM0 T (bKV T st)).2]) (bM0 T (bKV T st)).1
  else(st,l)
def bNG(T:List Tok)(B:QS->QS × Int)(st:QS):QS × Int:=
 let s1:=bKW T bL3 (bL6 T 1 st)
 let p:=bLC T T.length (!qat T s1 bLV) [] s1
 let s2:=bL0 T bLV p.1
 let h:=bLJ T T.length (qat T s2 bN3) [] s2
 let b:=B h.1
 (bL2 {d:=2,at_:=(bL9 T 1 st).e,s:=(bL9 T 1 st).f,g:=p.2,e:=h.2,c:=[b.2]} b.1,b.1.L.length)
def bMM(x:Int)(st:QS):QS:={st with c:=st.c++[x]}
def bOE(T:List Tok)(st:QS):QS × Int:=
 let s2:=bL6 T 1 st
 let s3:=bL1 T bOA (bL6 T 2 s2)
 (bL2 {d:=1,at_:=(bL9 T 1 st).e,s:=(bL9 T 1 st).f,n:=(bL9 T 2 s2).a,mid:=(bL9 T 2 s2).e} s3,s3.L.length)
def bLD(T:List Tok)(B:QS->QS × Int):Nat->QS->QS
 |0,st=>st
 |k+1,st=>if st.a=0/\(dD T st.i).d≠0 then
   if qat T st bYL=true then bLD T B k (bMM (bOE T (bKV T st)).2 (bOE T (bKV T st)).1)
   else if qat T st bY7=true then bLD T B k (bMM (bNG T B (bKV T st)).2 (bNG T B (bKV T st)).1)
   else bLD T B k (bLH T st)
  else st
def qE(T:List Tok):QS->QS × Int:=(qEF T (T.length+1)).1
def qC(T:List Tok):QS->QS × Int:=bQK T (qE T)
def qB(T:List Tok):QS->QS × Int:=qBl T (qE T) (qC T) (T.length+1)
def bLI(T:List Tok):QS:=bLD T (qB T) T.length ⟨0,0,0,0,[],[]⟩
def Grn(n:Nat)(P:QS->QS × Int):Prop:=∀ st,Gr st (P st).1 n
theorem Grn.loop{P:QS->QS × Int}{n:Nat}(h:Grn n P)(i:n<=7)(s:ByteArray)(e:Int):∀ (k:Nat) (x:Int) (st:QS),Gr st (bMG T P s e k x st).1 0:=by
 intro k
 induction k with
 |zero=>exact fun _ st=>Gr.refl st
 |succ k ih=>
  intro x st;unfold bMG
  split
  ·rename_i hy;have f:=Gr.b T st;have g:=(h (bKV T st)).t (Gr.add {d:=e,c:=[x,(P (bKV T st)).2]} _);exact((f.paid (by grind[Nat.le_of_eq,bMK,bNF]) g Oa bKY).t (ih _ _)).le Oa
  ·exact Gr.refl st
theorem Grn.log{P:QS->QS × Int}{n:Nat}(d:Grn n P)(f:n<=7)(s:ByteArray)(e:Int):Grn n (bSX T P s e):=fun st=>((d st).t (d.loop f s e _ _ _)).le Oa
theorem Grs.cmp{E:QS->QS × Int}(d:Grs E):Grn 3 (bUO T E):=fun st=>(((d st).t (Gr.comp T _)).t ((d _).t (Gr.add _ _))).le Oa
theorem Grs.cond{E:QS->QS × Int}(d:Grs E):Grn 3 (bQK T E):=(d.cmp.log Oa bO3 10).log Oa orT 11
theorem Grs.fin{E:QS->QS × Int}(d:Grs E)(x:NQ)(st:QS):Gr st (bMT T E x st).1 2:=((d st).t ((Gr.must T bOA _).t (Gr.add _ _))).le Oa
theorem Grn.branch{C B:QS->QS × Int}(e:Grn 3 C)(d:Grs B)(x:NQ)(q:Bool)(st:QS):Gr st (bLO T C B x q st).1 6:=by
 unfold bLO
 split
 ·exact(((e st).t (d _)).t (((Gr.b T _).t (d _)).t (Gr.add _ _))).le Oa
 ·exact(((e st).t (d _)).t (Gr.add _ _)).le Oa
theorem bOL{E C B:QS->QS × Int}(f:Grs E)(h:Grn 3 C)(g:Grs B)(st:QS):Gr st (bMF T E C B st).1 0/\((bMF T E C B st).1.a≠0\/st.i+1<=(bMF T E C B st).1.i):=by
 have e:∀ x:QS,(dD T st.i).d≠0->Gr (bKV T st) x 8->Gr st x 0/\(x.a≠0\/st.i+1<=x.i):=fun x d i=>
  ⟨(Gr.b T st).paid (by grind[Nat.le_of_eq,bMK]) i Oa bKY,.r (by have:=i.i;grind[bMK])⟩
 unfold bMF;dsimp only
 split
 ·rename_i d
  split
  ·exact e _ Oa (((((Gr.opn T brT _).t (f _)).t (Gr.H T bOB _)).t ((Gr.must T bMX _).t (f.fin _ _))).le Oa)
  ·exact e _ Oa (((Gr.must T bMX _).t (f.fin _ _)).le Oa)
 ·split
  ·rename_i ha;have d:=bQ6 ha
   split
   ·exact e _ d ((((Gr.knd T 1 _).t (Gr.must T bMX _)).t (f.fin _ _)).le Oa)
   split
   ·exact e _ d ((h.branch g _ _ _).le Oa)
   split
   ·exact e _ d ((h.branch g _ _ _).le Oa)
   split
   ·exact e _ d ((f.fin _ _).le Oa)
   ·exact e _ d ((f.fin _ _).le Oa)
  grind[bLH,Gr.E]
theorem Grn.body{S:QS->QS × Int}(d:Grn 0 S):∀ (k:Nat) (l:List Int) (st:QS),Gr st (bLW T S k l st).1 0:=by
 intro k
 induction k with
 |zero=>exact fun _ st=>Gr.refl st
 |succ k ih=>
  intro l st;unfold bLW
  split
  ·exact((d st).t (ih _ _)).le Oa
  ·exact Gr.refl st
theorem Grn.block{S:QS->QS × Int}(d:Grn 0 S):Grs (bP4 T S):=fun st=>(((Gr.opn T lbT st).t (d.body _ _ _)).t ((Gr.H T rbT _).t (Gr.add _ _))).le Oa
theorem bPV{E C:QS->QS × Int}(e:Grs E)(d:Grn 3 C)(n:Nat):Grs (qBl T E C n):=by
 induction n with
 |zero=>exact fun st=>(Gr.refl st).le Oa
 |succ n ih=>exact Grn.block (fun st=>(bOL e d ih st).1)
theorem bRJ(T:List Tok):Grs (qE T):=(bM6 T _).1.1
theorem bUW(T:List Tok):Grn 3 (qC T):=(bRJ T).cond
theorem bY6(T:List Tok):Grs (qB T):=bPV (bRJ T) (bUW T) _
theorem Gr.atom(T:List Tok)(st:QS):Gr st (bMA T st) 1:=by
 unfold bMA
 split
 ·exact(((Gr.b T st).t (Gr.knd T 2 _)).t (Gr.add _ _)).le Oa
 split
 ·exact((Gr.b T st).t (Gr.add _ _)).le Oa
 ·exact((Gr.knd T 1 st).t (Gr.add _ _)).le Oa
theorem Gr.where_(T:List Tok)(st:QS):Gr st (bM0 T st).1 3:=(((Gr.atom T st).t (Gr.comp T _)).t ((Gr.atom T _).t (Gr.add _ _))).le Oa
theorem bQY:∀ (k:Nat) (more:Bool) (l:List Tok) (st:QS),Gr st (bLC T k more l st).1 0:=by
 intro k
 induction k with
 |zero=>exact fun _ _ st=>Gr.refl st
 |succ k ih=>
  intro more l st;unfold bLC
  split
  ·refine(((Gr.knd T 1 st).t (n:=0) ?_).t (ih _ _ _)).le Oa
   grind[Gr.b,Gr.refl]
  ·exact Gr.refl st
theorem cAN:∀ (k:Nat) (more:Bool) (l:List Int) (st:QS),(more=true->st.a=0->(dD T st.i).d≠0)->Gr st (bLJ T k more l st).1 0:=by
 intro k
 induction k with
 |zero=>exact fun _ _ st _=>Gr.refl st
 |succ k ih=>
  intro more l st e;unfold bLJ
  split
  ·rename_i hy;exact(((Gr.b T st).paid (by grind[Nat.le_of_eq,bMK]) (Gr.where_ T _) Oa bKY).t (ih _ _ _ (fun d _=>bNF d))).le Oa
  ·exact Gr.refl st
theorem bRH{B:QS->QS × Int}(d:Grs B):Grn 2 (bNG T B):=fun st=>
 ((((Gr.knd T 1 st).t (Gr.opn T bL3 _)).t ((bQY _ _ _ _).t (Gr.H T bLV _))).t (((cAN _ _ _ _ (fun e _=>bNF e)).t (d _)).t (Gr.add _ _))).le Oa
theorem bRI:Grn 1 (bOE T):=fun st=>(((Gr.knd T 1 st).t (Gr.knd T 2 _)).t ((Gr.must T bOA _).t (Gr.add _ _))).le Oa
end
end Go.Proofs.YtikffmloeifkpaaGreatDoor
