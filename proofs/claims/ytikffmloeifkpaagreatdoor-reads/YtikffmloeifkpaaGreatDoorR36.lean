/- Contracts. -/
import Derived.Test.YtikffmloeifkpaaGreatDoorR31
namespace Go.Proofs.YtikffmloeifkpaaGreatDoor
open Go.RowKit Go.Lib Go.Deep Go.ChangeMaps Go.MapKept Tryz
section
variable {T Q:List Tok} {r:Rd} {st:QS} {N n:Nat} {S C B:Pr} {E P D:QS->QS × Int}
theorem bR6{j k:Int}(h:(dD T r.b).d=j)(a:j≠k):aN T r [k]=false:=by grind[bLY]
theorem bXV:∀ (k:Nat) (b:Bool) (l:List Tok) (st:QS),(bLC T k b l st).1.L=st.L:=by
 intro k
 induction k with
 |zero=>exact fun _ _ _=>rfl
 |succ k ih=>
  grind[bLC,bKY,bMO]
theorem bX8(b:Tw T Q)(a:Rl r st)(c:r.b < T.length)(U:T.length<=n)(l:r.a=0->1<=r.c):
 Rl ((if aN T r [1]=true then fX T (nK T) n r else(r,.nil)).1.H T 13) (bL0 Q (sp 13) (bLC Q Q.length (!qat Q st (sp 13)) [] st).1)/\
 (((if aN T r [1]=true then fX T (nK T) n r else(r,.nil)).1.H T 13).a=0->r.a=0/\NP (unl (if aN T r [1]=true then fX T (nK T) n r else(r,.nil)).2) (bLC Q Q.length (!qat Q st (sp 13)) [] st).2):=by
 have R:=b.len;rcases a with a|a
 ·have v:=bN6 b a c (k:=13) Oa Oa;rw[v];cases h1:aN T r [1]
  ·rw[if_neg Od];cases g:aN T r [((13:Nat):Int)]
   ·obtain⟨k,i⟩:∃ m,Q.length=m+1:=⟨Q.length - 1,Oa⟩;have s:(dD T r.b).d≠1:=by grind[bLY]
    have W:(dD Q st.i).d≠1:=by rw[<-a.i];exact fun e=>s ((b.tok r.b c).Y.1.1 e)
    have t:bL6 Q 1 st=bLH Q st:=by grind[bL6]
    have o:=bN7 b a c g
    have d:Gr (bLH Q st) (bLC Q Q.length (!false) [] st).1 0:=by
     rw[i,bLC,if_pos ⟨rfl,a.d⟩,t];refine(Gr.t (n:=0) (m:=0) ?_ (bQY _ _ _ _)).le Oa
     grind[Gr.b,Gr.refl]
    exact⟨.r (Rf.gr (r:=r.take T [13]) o Qj (d.t (Gr.H Q _ _))),fun h=>absurd h o.c⟩
   ·have d:bLC Q Q.length (!true) [] st=(st,[]):=by cases Q.length<;>simp[bLC]
    rw[d];exact⟨bPG b (.l a) c l (k:=13) Oa Oa,fun _=>⟨a.c,rfl⟩⟩
  ·have u:(dD T r.b).d=1:=by grind[bLY]
   have g:aN T r [((13:Nat):Int)]=false:=bR6 u Ob;obtain⟨k,i⟩:∃ m,Q.length=m+1:=⟨Q.length - 1,Oa⟩;rw[if_pos rfl,g]
   have d:bLC Q Q.length (!false) [] st=bLC Q k (qat Q (bL6 Q 1 st) (sp 18)) ([]++[bL9 Q 1 st]) (if qat Q (bL6 Q 1 st) (sp 18)=true then bKV Q (bL6 Q 1 st)else bL6 Q 1 st):=by
    rw[i,bLC,if_pos ⟨rfl,a.d⟩];rfl
   rw[d];obtain⟨I,J⟩:=bOP b (.l a) c (k:=1) Oa;have f:=bO6 b.ends r c;have O:=f.ge;obtain⟨x,y⟩:=bWE b n k _ _ ([]++[bL9 Q 1 st]) I f.lt Oa;have j:=zK b.ends (bO6 b.ends) n _ f.lt;have p:(fX T (nK T) n r).1.c=r.c:=j.c.t f.c;refine⟨bPG b x j.lt (fun _=>by show 1<=(fX T (nK T) n r).1.c;rw[p];exact l a.c) (k:=13) Oa Oa,fun w=>⟨a.c,?_⟩⟩;obtain⟨c1,_⟩:=pV w;obtain⟨z,K,A,F⟩:=y c1;obtain⟨X,Y,G,H,Z⟩:=J z;have V:=G.h H;rw[A];show NP (unl (bM3 (cons (nK T r).2 (bEG T (nK T) n (nK T r).1).2))) _;rw[bPM];refine⟨bL9 Q 1 st,K,rfl,⟨_,_,_,_,_,rfl,?_,?_⟩,F⟩
   ·simp[*]
   simp[*]
 ·have q:(if aN T r [1]=true then fX T (nK T) n r else(r,.nil)).1.a=r.a/\(if aN T r [1]=true then fX T (nK T) n r else(r,.nil)).1.e=r.e:=by
   split
   ·exact bOD (T:=T) (bQB (T:=T)) n r a.c
   trivial
  obtain⟨L,M⟩:=bMU (T:=T) (r:=(if aN T r [1]=true then fX T (nK T) n r else(r,.nil)).1) 13 (by rw[q.1];exact a.c);exact⟨.r (a.gr Oa ((bQY _ _ _ _).t (Gr.H Q _ _))),fun h=>absurd (Oa) a.c⟩
theorem bX6(b:Tw T Q)(a:Rl r st)(i:r.b < T.length)(R:T.length<=n):
 Rl (if aN T r [5]=true then fX T (uK T) n (r.C T [5])else(r,.nil)).1 (bLJ Q Q.length (qat Q st (sp 5)) [] st).1/\
 ((if aN T r [5]=true then fX T (uK T) n (r.C T [5])else(r,.nil)).1.a=0->r.a=0/\NW (bLJ Q Q.length (qat Q st (sp 5)) [] st).1.L (unl (if aN T r [5]=true then fX T (uK T) n (r.C T [5])else(r,.nil)).2) (bLJ Q Q.length (qat Q st (sp 5)) [] st).2 st.L.length (bLJ Q Q.length (qat Q st (sp 5)) [] st).1.L.length):=by
 have O:=b.len;rcases a with a|a
 ·have t:=bN6 b a i (k:=5) Oa Oa;rw[t];cases hs:aN T r [((5:Nat):Int)]
  ·have e:aN T r [5]=false:=hs;have c:bLJ Q Q.length false [] st=(st,[]):=by cases Q.length<;>simp[bLJ]
   rw[if_neg (by simp[]),c];exact⟨.l a,fun _=>⟨a.c,rfl,Int.le_refl _⟩⟩
  ·have e:aN T r [5]=true:=hs;obtain⟨d,m,o,p⟩:=bMH b a i e Ob;have s:r.C T [5]=r.take T [5]:=by grind[Rd.C,Rd.take]
   obtain⟨k,v⟩:∃ H,Q.length=H+1:=⟨Q.length - 1,Oa⟩
   have c:bLJ Q Q.length true [] st=bLJ Q k (qat Q (bM0 Q (bKV Q st)).1 (sp 18)) ([]++[(bM0 Q (bKV Q st)).2]) (bM0 Q (bKV Q st)).1:=by
    rw[v,bLJ,if_pos ⟨rfl,a.d⟩];rfl
   rw[if_pos rfl,s,c];have f:(r.take T [5]).b < T.length:=Oa
   obtain⟨J,K⟩:=bVI b (.l d) f;have g:=uV b.ends (r.take T [5]) f;have M:=g.ge;obtain⟨w,j,x⟩:=bWC b n k _ _ ([]++[(bM0 Q (bKV Q st)).2]) J g.lt Oa;refine⟨w,fun u=>⟨a.c,?_⟩⟩;obtain⟨y,L,z,A⟩:=x u;obtain⟨_,l,I,F,G⟩:=K y;rw[z];show NW _ (unl (bM3 (cons (uK T (r.take T [5])).2 (bEG T (uK T) n (uK T (r.take T [5])).1).2))) _ _ _;rw[bPM];rw[bKY]at l;exact⟨_,L,I,_,rfl,NX.mono j _ _ _ _ l,F.mono j,G,A⟩
 ·have q:(if aN T r [5]=true then fX T (uK T) n (r.C T [5])else(r,.nil)).1.a=r.a/\(if aN T r [5]=true then fX T (uK T) n (r.C T [5])else(r,.nil)).1.e=r.e:=by
   split
   ·obtain⟨d,m⟩:=bNS (T:=T) [5] a.c;obtain⟨o,p⟩:=bOD (T:=T) (bSS (T:=T)) n (r.C T [5]) (by rw[d];exact a.c);omega
   trivial
  have c:(bLJ Q Q.length (qat Q st (sp 5)) [] st).1=st:=by
   cases Q.length with
   |zero=>rfl
   |succ k=>unfold bLJ;rw[if_neg (fun h=>a.c (a.d.symm.t h.2))]
  rw[c];exact⟨.r (a.to q Oa),fun h=>absurd (Oa) a.c⟩
theorem bSV(a:Tw T Q){m:Nat}(J:Sb T Q N B P)(z:Grs P)(s:T.length<=m)(K:Rl r st)(q:r.b < T.length)(hN:r.a=0->T.length - r.b<=N):
 Rl (cZ T B m r).1 (bNG Q P st).1/\((cZ T B m r).1.a=0->r.a=0/\NI st.L.length (bNG Q P st).1.L (cZ T B m r).2 (bNG Q P st).2/\(bNG Q P st).2+1=(bNG Q P st).1.L.length):=by
 obtain⟨t,R⟩:=bOP a K q (k:=1) Oy;have f:=aP a.ends q (show aQ [1] 0=false by decide);obtain⟨U,o2⟩:=bPW a t f.lt (k:=12) Oa Oa;obtain⟨b1,g,b3⟩:=dF a.ends f.lt (show aQ [((12:Nat):Int)] 0=false by decide)
 have I:((r.take T [1]).B T [((12:Nat):Int)]).a=0->1<=((r.take T [1]).B T [((12:Nat):Int)]).c:=fun c=>by
  have L:=(mR c).1;have:=(t.ok L).lo;omega
 have w:bL3=sp 12:=rfl;have x:bLV=sp 13:=rfl;have y:bN3=sp 5:=rfl;unfold cZ bNG;dsimp only;rw[w,x,y];obtain⟨V,W⟩:=bX8 (n:=m) a U g s I
 have j:Adv T ((r.take T [1]).B T [((12:Nat):Int)]) (if aN T ((r.take T [1]).B T [((12:Nat):Int)]) [1]=true then fX T (nK T) m ((r.take T [1]).B T [((12:Nat):Int)])else((r.take T [1]).B T [((12:Nat):Int)],.nil)).1:=by
  split
  ·exact rY a.ends (bO6 a.ends) m _ g
  ·exact Adv.refl g
 have l:=aP a.ends j.lt (show aQ [13] 0=false by decide);have i:((if aN T ((r.take T [1]).B T [((12:Nat):Int)]) [1]=true then fX T (nK T) m ((r.take T [1]).B T [((12:Nat):Int)])else((r.take T [1]).B T [((12:Nat):Int)],.nil)).1.H T 13).b < T.length:=l.lt;have g1:=f.ge;have g2:=j.ge;have g3:_<=((if aN T ((r.take T [1]).B T [((12:Nat):Int)]) [1]=true then fX T (nK T) m ((r.take T [1]).B T [((12:Nat):Int)])else((r.take T [1]).B T [((12:Nat):Int)],.nil)).1.H T 13).b:=l.ge;generalize a2:(if aN T ((r.take T [1]).B T [((12:Nat):Int)]) [1]=true then fX T (nK T) m ((r.take T [1]).B T [((12:Nat):Int)])else((r.take T [1]).B T [((12:Nat):Int)],.nil))=ps at*
 have H:(bLC Q Q.length (!qat Q (bKW Q (sp 12) (bL6 Q 1 st)) (sp 13)) [] (bKW Q (sp 12) (bL6 Q 1 st))).1.L=st.L:=by
  rw[bXV,bNH,bMO]
 generalize bLC Q Q.length (!qat Q (bKW Q (sp 12) (bL6 Q 1 st)) (sp 13)) [] (bKW Q (sp 12) (bL6 Q 1 st))=e at*;obtain⟨Z,u⟩:=bX6 (n:=m) a V i s
 have o:Adv T (ps.1.H T 13) (if aN T (ps.1.H T 13) [5]=true then fX T (uK T) m ((ps.1.H T 13).C T [5])else(ps.1.H T 13,.nil)).1:=by
  split
  ·have b:=dU a.ends i (show aQ [5] 0=false by decide);exact b.t (rY a.ends (uV a.ends) m _ b.lt)
  ·exact Adv.refl i
 have g4:=o.ge;generalize (if aN T (ps.1.H T 13) [5]=true then fX T (uK T) m ((ps.1.H T 13).C T [5])else(ps.1.H T 13,.nil))=ws at*;have A:=(z (bLJ Q Q.length (qat Q (bL0 Q (sp 13) e.1) (sp 5)) [] (bL0 Q (sp 13) e.1)).1).pre;generalize bLJ Q Q.length (qat Q (bL0 Q (sp 13) e.1) (sp 5)) [] (bL0 Q (sp 13) e.1)=qw at*
 have v:ws.1.a=0->(r.take T [1]).a=0/\r.a=0:=fun c=>by
  have b:=(mR (W (u c).1).1).1;exact⟨b,(bR b).1⟩
 obtain⟨X,Y⟩:=J.all Z o.lt Oa;refine⟨X.add _,fun c=>?_⟩;obtain⟨b,p,h8⟩:=Y c;obtain⟨h3,h⟩:=u b;rw[bLR,H]at h;have l4:=h.le;have d:=p;obtain⟨_,_,_,d⟩:=d;have d:=d.le;obtain⟨F,G⟩:=v b;obtain⟨m1,m2,M,O,m5⟩:=R F;have a1:=M.h O;refine⟨G,⟨_,_,_,_,_,_,rfl,Ndq.last _ _,?_,?_,Oa,.r ⟨rfl,rfl,Qh,_,_,_,_,_,rfl,_,NW.mono (A.t (List.prefix_append _ _)) _ _ _ _ h,_,rfl,p.mono (List.prefix_append _ _),Oa⟩⟩,by grind[bL2]⟩
 ·simp[*]
 simp[*]
theorem bWI(a:Tw T Q)(l:Rl r st)(e:r.b < T.length):Rl (fQ T r).1 (bOE Q st).1/\((fQ T r).1.a=0->r.a=0/\NI st.L.length (bOE Q st).1.L (fQ T r).2 (bOE Q st).2/\(bOE Q st).2+1=(bOE Q st).1.L.length):=by
 obtain⟨t,u⟩:=bOP a l e (k:=1) Oy;have b:=aP a.ends e (show aQ [1] 0=false by decide);obtain⟨m,o⟩:=bOP a t b.lt (k:=2) Oa;have i:=aP a.ends b.lt (show aQ [2] 0=false by decide);have v:=bQT a m i.lt (k:=19) Oa Oa;unfold fQ bOE;dsimp only;refine⟨v.add _,fun j=>?_⟩;have c:=(bR j).1;have d:=(bR c).1;obtain⟨y,z,q,s,A⟩:=u d;obtain⟨f,g,h,p,x⟩:=o c;have w:=q.h s;refine⟨(bR d).1,⟨_,_,_,_,_,_,rfl,Ndq.last _ _,?_,?_,by rw[bLX,bMO,bMO];omega,.l ⟨rfl,rfl,?_,?_,rfl⟩⟩,by grind[bL2]⟩
 ·simp[*]
 ·simp[*]
 ·show(bL9 Q 2 (bL6 Q 1 st)).a=(cN T (r.take T [1]) [2]).a;rw[f,g];exact h.num p
 ·show(bL9 Q 2 (bL6 Q 1 st)).e=(cN T (r.take T [1]) [2]).e;rw[f,g];exact h.1
theorem bYS:Stk (fQ T):=fun r h=>by
 obtain⟨a,c⟩:=bLN (T:=T) [1] h;obtain⟨b,d⟩:=bLN (T:=T) (r:=r.take T [1]) [2] (by rw[a];exact h);obtain⟨e,f⟩:=bLN (T:=T) (r:=(r.take T [1]).take T [2]) [19] (by rw[b,a];exact h);exact⟨e.t (b.t a),f.t (d.t c)⟩
theorem bST(i:Stk B)(m:Nat):Stk (cZ T B m):=fun r h=>by
 obtain⟨c,p⟩:=bLN (T:=T) [1] h;obtain⟨q,s⟩:=bND (T:=T) (r:=r.take T [1]) [12] (by rw[c];exact h);have b:∀ {x y:Rd},y.a=r.a/\y.e=r.e->(y.a≠0->x.a=y.a/\x.e=y.e)->x.a=r.a/\x.e=r.e:=Oa;have d:((r.take T [1]).B T [12]).a=r.a/\((r.take T [1]).B T [12]).e=r.e:=Oa
 have e:=b (x:=(if aN T ((r.take T [1]).B T [12]) [1]=true then fX T (nK T) m ((r.take T [1]).B T [12])else((r.take T [1]).B T [12],.nil)).1) d (fun a=>by
  split
  ·exact bOD (T:=T) (bQB (T:=T)) m _ a
  trivial)
 unfold cZ;dsimp only;generalize (if aN T ((r.take T [1]).B T [12]) [1]=true then fX T (nK T) m ((r.take T [1]).B T [12])else((r.take T [1]).B T [12],.nil))=ps at*;have f:=b (x:=ps.1.H T 13) e (fun a=>bMU 13 a)
 have g:=b (x:=(if aN T (ps.1.H T 13) [5]=true then fX T (uK T) m ((ps.1.H T 13).C T [5])else(ps.1.H T 13,.nil)).1) f (fun a=>by
  split
  ·obtain⟨j,k⟩:=bNS (T:=T) (r:=ps.1.H T 13) [5] a;obtain⟨l,o⟩:=bOD (T:=T) (bSS (T:=T)) m ((ps.1.H T 13).C T [5]) Oa;omega
  trivial)
 exact b g (fun a=>i _ a)
theorem bNO(b:Stk B)(m:Nat):∀ n r,r.a≠0->(aJ T B m n r).1.a=r.a/\(aJ T B m n r).1.e=r.e:=by
 intro n
 induction n with
 |zero=>exact fun _ _=>Qj
 |succ n ih=>
  intro r h;obtain⟨e,f⟩:=bLN (T:=T) [3,4] h;have a:(r.take T [3,4]).a≠0:=Oa
  unfold aJ;dsimp only
  split
  ·trivial
  split
  ·obtain⟨c,d⟩:=bYS (T:=T) _ a;simp[*]
  split
  ·obtain⟨c,d⟩:=bST (T:=T) b m _ a;simp[*]
  simp[*]
theorem bSG(a:Grs P):∀ (k:Nat) (st:QS),st.L <+:(bLD Q P k st).L:=by
 intro k
 induction k with
 |zero=>exact fun st=>List.prefix_refl _
 |succ k ih=>
  intro st;unfold bLD
  split
  ·split
   ·refine List.IsPrefix.t ?_ (ih _);have:=(bRI (T:=Q) (bKV Q st)).pre;rw[bKY]at this;exact this
   split
   ·refine List.IsPrefix.t ?_ (ih _);have:=(bRH a (T:=Q) (bKV Q st)).pre;rw[bKY]at this;exact this
   ·exact(Gr.E Q st).pre.t (ih _)
  simp
theorem Ro.item(h:Ro r st)(x:Int):Ro r (bMM x st):=⟨h.c,h.d,h.i,h.o,h.lo,h.hi⟩
theorem Rl.item(h:Rl r st)(x:Int):Rl r (bMM x st):=h.elim (fun h=> .l (h.item x)) (fun h=> .r ⟨h.c,h.d,h.p⟩)
theorem bSU(d:Tw T Q){m:Nat}(g:Sb T Q N B P)(q:Grs P)(Z:T.length<=m):∀ n k r st,Rl r st->r.b < T.length->(r.a=0->T.length - r.b<=N+1/\T.length - r.b<=n/\T.length - r.b<=k)->
 Rl (aJ T B m n r).1 (bLD Q P k st)/\((aJ T B m n r).1.a=0->∃ b,(bLD Q P k st).c=st.c++b/\NIs (bLD Q P k st).L (aJ T B m n r).2 b st.L.length (bLD Q P k st).L.length):=by
 intro n
 have w:∀ n k r st,Rf r st->Rl (aJ T B m n r).1 (bLD Q P k st)/\((aJ T B m n r).1.a=0->∃ b,(bLD Q P k st).c=st.c++b/\NIs (bLD Q P k st).L (aJ T B m n r).2 b st.L.length (bLD Q P k st).L.length):=by
  intro n k r st a;have k1:=bNO (T:=T) g.stk m n r a.c
  have hq:bLD Q P k st=st:=by
   cases k with
   |zero=>rfl
   |succ k=>unfold bLD;rw[if_neg (fun h=>a.c (a.d.symm.t h.1))]
  rw[hq];exact⟨.r (a.to k1 Oa),fun h=>absurd (Oa) a.c⟩
 induction n with
 |zero=>
  intro k r st a i A;rcases a with a|a
  ·have:=A a.c;omega
  ·exact w 0 k r st a
 |succ n ih=>
  intro k r st a i A;rcases a with a|a
  ·obtain⟨a2,hn,hk⟩:=A a.c;obtain⟨k,rfl⟩:∃ a1,k=a1+1:=⟨k - 1,Oa⟩;have O:=d.tok r.b i;have W:dD Q st.i=dD Q r.b:=by rw[a.i]
   have R:bYL=sp 3:=rfl;have U:bY7=sp 4:=rfl;have X:=bN6 d a i (k:=3) Oa Oa;have Y:=bN6 d a i (k:=4) Oa Oa;unfold aJ bLD;dsimp only;rw[W,R,U,X,Y]
   by_cases L:(dD T r.b).d=0
   ·have F:aN T r [0]=true:=by grind[bLY]
    rw[if_pos F,if_neg (fun h=>h.2 (O.Y.2.2.2 L))];exact⟨.l a,fun _=>⟨[],Od,rfl,Oa⟩⟩
   have k2:aN T r [0]=false:=by grind[bLY]
   have k4:(dD Q r.b).d≠0:=fun e=>L (O.Y.2.2.1 e);rw[if_neg (c:=aN T r [0]=true) (by rw[k2];exact Bool.false_ne_true),if_pos (c:=st.a=0/\(dD Q r.b).d≠0) ⟨a.d,k4⟩]
   by_cases F:aN T r [3,4]=true
   ·obtain⟨K,g2,V,g4⟩:=bMH d a i F Ob;have s:(r.take T [3,4]).b < T.length:=Oa
    have k5:(dD T r.b).d=3\/(dD T r.b).d=4:=by
     grind[aH6]
    rw[V];rcases k5 with t|t
    ·have o:aN T r [((3:Nat):Int)]=true:=by grind[bLY]
     rw[if_pos t,if_pos o];obtain⟨I,J⟩:=bWI d (.l K) s;have l:=nS d.ends _ s;have k6:=l.ge;obtain⟨p,u⟩:=ih k _ _ (I.item (bOE Q (bKV Q st)).2) l.lt Oa;refine⟨p,fun f=>?_⟩;obtain⟨b,G,H⟩:=u f
     have z:(fQ T (r.take T [3,4])).1.a=0:=by
      by_cases h:(fQ T (r.take T [3,4])).1.a=0
      ·exact h
      ·exact absurd ((bNO (T:=T) g.stk m n _ h).1 ▸ f) h
     refine⟨(bOE Q (bKV Q st)).2::b,?_,?_⟩
     ·rw[G];show((bOE Q (bKV Q st)).1.c++[_])++b=_;rw[(bRI (T:=Q) (bKV Q st)).c,(Gr.b Q st).c];simp
     ·obtain⟨_,j,v⟩:=J z;rw[bKY]at j;exact⟨_,b,rfl,NI.mono (bSG q k _) j,by rw[v];exact H⟩
    ·have o:aN T r [((3:Nat):Int)]=false:=bR6 t Ob;have x:aN T r [((4:Nat):Int)]=true:=by grind[bLY]
     rw[Oh,if_pos t,if_neg (by rw[o];exact Bool.false_ne_true),if_pos x];obtain⟨I,J⟩:=bSV d g q Z (.l K) s Oa;have l:=jX d.ends g.go m _ s;have k6:=l.ge;obtain⟨p,u⟩:=ih k _ _ (I.item (bNG Q P (bKV Q st)).2) l.lt Oa;refine⟨p,fun f=>?_⟩;obtain⟨b,G,H⟩:=u f
     have z:(cZ T B m (r.take T [3,4])).1.a=0:=by
      by_cases h:(cZ T B m (r.take T [3,4])).1.a=0
      ·exact h
      ·exact absurd ((bNO (T:=T) g.stk m n _ h).1 ▸ f) h
     refine⟨(bNG Q P (bKV Q st)).2::b,?_,?_⟩
     ·rw[G];show((bNG Q P (bKV Q st)).1.c++[_])++b=_;rw[(bRH q (T:=Q) (bKV Q st)).c,(Gr.b Q st).c];simp
     ·obtain⟨_,j,v⟩:=J z;rw[bKY]at j;exact⟨_,b,rfl,NI.mono (bSG q k _) j,by rw[v];exact H⟩
   ·have k3:aN T r [3,4]=false:=Qh
    have y:=bN7 d a i k3;have M:∀ k:Int,aQ [3,4] k=true->(dD T r.b).d≠k:=(by grind[aN]);have o:aN T r [((3:Nat):Int)]=false:=by rw[bLY];exact decide_eq_false (M 3 Ob)
    have x:aN T r [((4:Nat):Int)]=false:=by rw[bLY];exact decide_eq_false (M 4 Ob)
    have k0:cN T r [3,4]=aD6:=by grind[cN]
    rw[k0,if_neg Ob,if_neg Ob,if_neg (by rw[o];exact Bool.false_ne_true),if_neg (by rw[x];exact Bool.false_ne_true)];obtain⟨p,u⟩:=w n k _ _ y;exact⟨p,fun f=>absurd ((bNO (T:=T) g.stk m n _ y.c).1 ▸ f) y.c⟩
  ·exact w (n+1) k r st a
theorem bQJ(b:Tw T Q):(bLI Q).a=(bP T).1.a/\((bP T).1.a≠0->(bLI Q).e=(bP T).1.e)/\((bP T).1.a=0->NIs (bLI Q).L (unl (bP T).2) (bLI Q).c 0 (bLI Q).L.length):=by
 have g:=b.len;have d:=b.some;have e:Sb T Q T.length (iH T (bY T) 6) (qB Q):=bUJ b (m:=Q.length+1) Oa T.length (bY T) (Q.length+1) Oa Oa (by unfold bY;omega);obtain⟨a,f⟩:=bSU b e (bY6 Q) (m:=bY T) (by unfold bY;omega) (bY T) Q.length rd0 ⟨0,0,0,0,[],[]⟩ (.l ⟨rfl,rfl,rfl,rfl,Ob,Ob⟩) d (by grind[rd0,bY]);unfold bP bLI;refine⟨a.a,fun c=>?_,fun c=>?_⟩
 ·rcases a with a|a
  ·exact absurd a.c c
  ·exact a.p
 grind[bPM]
end
section
variable {H X U:Nat} {L G:List NQ} {I A F:List Int} {m:Int} {s:Ns} {Y vI D M B E:Value} {V:List V3} {w:World}
theorem bRA{v:Value}{l:List Tok}(h:w.ownsRow H 220 4 v l.length (fJ l)){i:Nat}{t:Tok}(hi:l[i]?=some t):∃ g J,v= Qe g l.length J/\w.cell? ⟨g,i*4+1,none⟩=some (Qc t.e)/\w.cell? ⟨g,i*4+2,none⟩=some (.string t.f):=by
 have j:=(List.getElem?_eq_some_iff.1 hi).1;obtain⟨_,e⟩:=h;rcases e with⟨_,k⟩|⟨g,J,f,d,_,c,_,_,_,b⟩
 ·omega
 ·refine⟨g,J,d,?_,?_⟩
  ·have a:_=some (Qc t.e):=aF0 l i t hi 1 Oa;rw[<-b,List.getElem?_take,if_pos Oa]at a;rw[cell_of_row _ _ _ _ _ _ c];simpa using a
  ·have a:_=some (Value.string t.f):=aF0 l i t hi 2 Oa;rw[<-b,List.getElem?_take,if_pos Oa]at a;rw[cell_of_row _ _ _ _ _ _ c];simpa using a
theorem NmW.par(h:NmW H X U L I A F m s Y vI D M B E V w){k:Nat}{b:NQ}(o:L[k]?=some b){t u:Value}{a f:Nat}(l:V[k]?=some (t,Qe a b.g.length f,u)){i:Nat}{p:Tok}(q:b.g[i]?=some p):w.cell? ⟨a,i*4+1,none⟩=some (Qc p.e)/\w.cell? ⟨a,i*4+2,none⟩=some (.string p.f)/\a < w.1.size:=by
 obtain⟨_,_,y,-,c,j,-,-⟩:=h.node o;rw[l]at c;cases c;obtain⟨x,v,e,g,d⟩:=bRA j.p q;simp only[Value.slice.injEq,Option.some.injEq,Addr.mk.injEq]at e;obtain⟨⟨rfl,_⟩,_⟩:=e;exact⟨g,d,Qp w _ d⟩
section
variable (H X U:Nat) (I A F:List Int) (m:Int) (Y vI D M:Value) (V:List V3) (G:List NQ)
def bP9:List Int->List (Int × (Ns->Ns))->Int->Int->(Int->Prop)->Prop
 |[],cs,lo,hi,K=>cs=[]/\lo<=hi/\∀ j,¬K j
 |y::ys,cs,lo,hi,K=>∃ n g r k K1 K2,cs=(n.at_,g)::r/\Ndq G y n/\bMP H X U I A F m Y vI D M V G y g lo k K1/\bP9 ys r k hi K2/\lo<=k/\(∀ s,(g s).b=s.b)/\∀ j,K j->K1 j\/K2 j
end
theorem bP9.le:∀ {b:List Int} {a:List (Int × (Ns->Ns))} {lo hi:Int} {K:Int->Prop},bP9 H X U I A F m Y vI D M V G b a lo hi K->lo<=hi
 |[],_,_,_,_,h=>h.2.1
 |_::_,_,_,_,_,⟨_,_,_,_,_,_,_,_,_,h2,h4,_⟩=>by have:=bP9.le h2;omega
def Gn(G:List NQ)(A F:List Int)(K:Int->Prop)(c:Int)(Z:Nat)(L:List NQ):Prop:=c=0->∀ i,K i->∃ b,Ndq L i b/\OkR G A F Z b
theorem Gn.keep{K:Int->Prop}{c c' lo hi:Int}{Z:Nat}{L a:List NQ}(h:Gn G A F K c Z L)(u:Upd lo hi L a)(k:∀ j,K j->j < lo\/hi<=j)(g:c'=0->c=0):Gn G A F K c' Z a:=fun e j i=>by
 obtain⟨b,d,f⟩:=h (g e) j i;exact⟨b,u.off d Qh,f⟩
theorem NmW.whc(h:NmW H X U L I A F m s Y vI D M B E V w){k:Nat}{b:NQ}{a:List Int}(j:L[k]?=some b)(p:b.e=a){l o:Value}{c e:Nat}(g:V[k]?=some (l,o,Qe c a.length e)){i:Nat}{x:Int}(t:a[i]?=some x):w.cell? ⟨c,i,none⟩=some (Qc x):=by
 obtain⟨_,_,u,-,d,f,-,-⟩:=h.node j;rw[g]at d;cases d;have q:=f.h
 grind[bLE,Value.slice.injEq,Option.some.injEq,Addr.mk.injEq]
def fnQ(ps:List Tok)(ws:List (Int × (Ns->Ns)))(g:Ns->Ns)(s:Ns):Ns:=g (whQ ws 0 (bRU ps 0 {s with b:=[]}))
def bPI(p:Tok)(i:Nat)(s:Ns):Ns:=if 4<=i then(if 0<=s.var p.f then s.E 4 p.e else s).E 5 p.e else if 0<=s.var p.f then s.E 4 p.e else s
theorem bPH(p:Tok)(r:List Tok)(i:Nat)(s:Ns):bRU (p::r) i s=bRU r (i+1) {bPI p i s with b:=(bPI p i s).b++[p.f]}:=rfl
theorem bOR(p:Tok)(i:Nat)(s:Ns):(bPI p i s).d=s.d/\(bPI p i s).b=s.b:=by
 grind[bPI,bL7]
theorem bTR:∀ (ps:List Tok) (i:Nat) (s:Ns),(bRU ps i s).b.length=s.b.length+ps.length
 |[],_,_=>rfl
 |p::r,i,s=>by
  rw[bPH,bTR r]
  grind[bOR]
set_option maxRecDepth 100000 in
set_option maxHeartbeats 16000000 in
theorem cB3(hZ:G.length<=100000){k:Nat}{C:NQ}(l8:G[k]?=some C){cs:List (Int × (Ns->Ns))}{g:Ns->Ns}{lo mid:Int}{y:Int}{Kw Kb:Int->Prop}(l9:C.g.length<=90000)(n4:C.e.length<=100000)(l6:C.c=[y])(p6:mid<=k)(c9:bP9 H X U I A F m Y vI D M V G C.e cs lo mid Kw)(hy:bMP H X U I A F m Y vI D M V G y g mid k Kb)(hL:bOY G L)(hs:(s.d.length:Int)+(k - lo)<=1000000)(h:NmW H X U L I A F m s Y vI D M B E V w):
 Calls prog 63 #[Qd X,Qc k] w fun e w'=>e= .returned (.tuple #[])/\(fnQ C.g cs g s).b.length<=100000/\((fnQ C.g cs g s).d.length:Int)<=s.d.length+(k - lo)/\∃ L' g6 i1,NmW H X U L' I A F m (fnQ C.g cs g s) Y vI D M g6 i1 V w'/\Nx X U Y B E g6 i1 w w'/\Upd lo (k+1) L L'/\(∃ b,L'[k]?=some b/\b.b=(fnQ C.g cs g s).b.length)/\C.g.length<=(fnQ C.g cs g s).b.length/\Gn G A F Kw (fnQ C.g cs g s).a C.g.length L'/\Gd G A F Kb (fnQ C.g cs g s) L':=by
 obtain⟨b,hb,k0⟩:=hL.same k C l8;have HP:Hid (b.g=C.g/\b.e=C.e/\b.c=C.c):=⟨k0.g,k0.e,k0.c⟩;have p7:b.g.length<=90000:=by rw[HP.o.1];exact l9
 have l5:k < L.length:=(List.getElem?_eq_some_iff.1 hb).1;have o3:L.length<=100000:=by rw[hL.len];exact hZ
 have o1:=h.fresh Ol;obtain⟨⟨p0,p1,_,_,pf⟩,g0,_⟩:=h.cells;have b1:=pf 1;obtain⟨gr,d,z,O,a2,k2,K,W,g7,b8,_,⟨e0,e1,e2,e3,e4,e5,e6,e7,e8,e9,i7⟩,_,o9⟩:=h.Q hb;subst g7;have o7:0<=(k:Int)/\(k:Int) < (L.length:Int):=Oa
 have h1:=h.alloc (ndO b z O a2 k2 K W);have y1:=(Nx.refl X U (Qe gr L.length d) B E w).alloc (ndO b z O a2 k2 K W);have q1:(w.alloc (ndO b z O a2 k2 K W)).1[w.1.size]?=some (Qf #[Qc b.d,Qc b.at_,.string b.s,Qc b.n,Qc b.mid,.slice z b.c.length O,.slice a2 b.g.length k2,.slice K b.e.length W,Qc b.b,Qc b.ref,Qc b.f] 73):=Qk w _;have HV:Hid (V[k]?=some (.slice z b.c.length O,.slice a2 b.g.length k2,.slice K b.e.length W)):=b8;clear h k0 b8 pf;go_enter func63,ntmps63
 go_upto_region 1 with fail
 clear p0 p1 b1 g0 e0 e1 e2 e3 e4 e5 e6 e7 e8 e9 i7;generalize (w.alloc (ndO b z O a2 k2 K W))=W1 at*;obtain⟨⟨p0,p1,_,_,pf⟩,g0,_⟩:=h1.cells;have b1:=pf 1;obtain⟨h2,y2⟩:=h1.g0;have f6:w.1.size≠X:=o1.n;have q2:=(Below.heap_setCell W1 ⟨X,1,none⟩ (.slice none 0 0) w.1.size f6).t q1;have o2:bPK X U (Qe gr L.length d) B (.slice none 0 0) w.1.size:=⟨o1.n,o1.g,o1.l,o1.s,by simp[Value.ownBlock]⟩;have H2:Hid (NmW H X U L I A F m {s with b:=[]} (Qe gr L.length d) vI D M B (.slice none 0 0) V (W1.setCell ⟨X,1,none⟩ (.slice none 0 0))/\Nx X U (Qe gr L.length d) B E B (.slice none 0 0) w (W1.setCell ⟨X,1,none⟩ (.slice none 0 0))):=⟨h2,y1.t y2⟩;clear h1 h2 y1 y2 q1 o1 pf f6;go_wp2_with fail
 clear p0 p1 b1 g0;go_loopg [5] (b.g.length+1) (fun a1 v5 wr=>∃ (i:Nat) (R:Ns) (a9:Value),v5= Qc i/\i+a1=b.g.length+1/\NmW H X U L I A F m R (Qe gr L.length d) vI D M B a9 V wr/\Nx X U (Qe gr L.length d) B E B a9 w wr/\wr.1[w.1.size]?=some (Qf #[Qc b.d,Qc b.at_,.string b.s,Qc b.n,Qc b.mid,.slice z b.c.length O,.slice a2 b.g.length k2,.slice K b.e.length W,Qc b.b,Qc b.ref,Qc b.f] 73)/\bPK X U (Qe gr L.length d) B a9 w.1.size/\R.d=s.d/\R.b.length=i/\bRU (b.g.drop i) i R=bRU b.g 0 {s with b:=[]})
 case atStart=>exact⟨0,{s with b:=[]},_,rfl,Oa,H2.o.1,H2.o.2,q2,o2,rfl,rfl,by rw[List.drop_zero]⟩
 case round=>
  clear q2 o2 H2;obtain⟨i,R,a9,rfl,l0,hr,yr,qr,a7,j3,z9,j4⟩:=hrel;have c6:wr.cell? ⟨w.1.size,6,none⟩=some (.slice a2 b.g.length k2):=cell_of_row _ _ _ _ _ _ qr
  by_cases hi:i < b.g.length
  ·obtain⟨p,hp⟩:∃ p,b.g[i]?=some p:=⟨b.g[i],by simp[hi]⟩;rw[bNL hp,bPH]at j4;obtain⟨_,_,vk,-,k8,y0,-,-⟩:=hr.node hb;have k7:=HV.o;rw[k7]at k8;cases k8;obtain⟨q,o,k9,-,-⟩:=bRA y0.p hp;have h9:Value.slice a2 b.g.length k2= Qe q b.g.length o:=k9;have g3:Hid (V[k]?=some (.slice z b.c.length O,Qe q b.g.length o,.slice K b.e.length W)):=by rw[Hid,k7,h9]
   have qr:=qr.t (by rw[h9]);have i4:Hid (Value.slice a2 b.g.length k2= Qe q b.g.length o):=h9;obtain⟨l1,l2,-⟩:=hr.par hb g3.o hp;have i9:0<=(i:Int)/\(i:Int) < (b.g.length:Int):=Oa
   have tl:decide ((i:Int) < (b.g.length:Int))=true:=by simp;omega
   have n3:IntKind.i64.wrap ((i:Int)+1)=(i:Int)+1:=IntWalk.i64_in _ Oa;obtain⟨n2,rfl⟩:=Oj gk;have b6:wr.cell? ⟨w.1.size,6,none⟩=some (Qe q b.g.length o):=c6.t (by rw[h9]);have qR:wr.1[w.1.size]?=some (Qf #[Qc b.d,Qc b.at_,.string b.s,Qc b.n,Qc b.mid,.slice z b.c.length O,Qe q b.g.length o,.slice K b.e.length W,Qc b.b,Qc b.ref,Qc b.f] 73):=qr;clear c6 k9 h9 k7 y0 qr;go_wp2_with fail
   refine(bPL p.f Oa hr).mono ?_;rintro e W3 ⟨rfl,rfl⟩;obtain⟨a8,hv⟩:∃ a8,a8=R.var p.f:=⟨_,rfl⟩;rw[<-hv];rcases(by omega:0<=a8\/a8 < 0)with h0|h0
   case' inl=>
    have t8:decide (a8≥0)=true:=by simp;omega
    obtain⟨s1,y9⟩:∃ x,Hid (x=R.E 4 p.e):=⟨_,rfl⟩;have HS:Hid (s1=if 0<=R.var p.f then R.E 4 p.e else R):=by rw[Hid,<-hv,if_pos h0,y9.o]
    clear h0 hv;go_wp2_with fail
    refine(bMJ 4 p.e hr).mono ?_;rintro e W4 ⟨rfl,n,z4⟩;rw[<-y9.o]at n;obtain⟨o4,u⟩:=a7.nx z4 (Oo qR);have u:=u.t qR;have y4:=yr.t z4;clear hr qR yr a7 z4 y9 l1 l2 b6
   case' inr=>
    have t8:decide (a8≥0)=false:=by simp;omega
    obtain⟨s1,y9⟩:∃ x,x=R:=⟨_,rfl⟩;have HS:Hid (s1=if 0<=R.var p.f then R.E 4 p.e else R):=by rw[Hid,<-hv,Oh,y9]
    obtain⟨W4,g1⟩:∃ x,x=wr:=⟨_,rfl⟩;have n:=hr;rw[<-y9]at n;have o4:=a7;have u:=qR;have y4:=yr;rw[<-g1]at n u y4;clear h0 hv hr qR yr a7 l1 l2 b6 y9;subst g1
   all_goals
    have c6:W4.cell? ⟨w.1.size,6,none⟩=some (Qe q b.g.length o):=cell_of_row _ _ _ _ _ _ u;obtain⟨l1,l2,-⟩:=n.par hb g3.o hp;rcases(by omega:4<=i\/i < 4)with h0|h0
   case' inl.l|inr.l=>
    have t9:decide ((i:Int)≥4)=true:=by simp;omega
    obtain⟨a,y8⟩:∃ x,Hid (x=s1.E 5 p.e):=⟨_,rfl⟩;have m5:Hid (a=bPI p i R):=by rw[Hid,bPI,if_pos h0,y8.o,HS.o]
    clear h0;go_wp2_with fail
    refine(bMJ 5 p.e n).mono ?_;rintro e W5 ⟨rfl,h5,z5⟩;rw[<-y8.o]at h5;obtain⟨o5,q5⟩:=o4.nx z5 (Oo u);have q5:=q5.t u;have y5:=y4.t z5;clear n u y4 o4 z5 y8 HS l1 l2 c6
   case' inl.r|inr.r=>
    have t9:decide ((i:Int)≥4)=false:=by simp;omega
    obtain⟨a,y8⟩:∃ x,x=s1:=⟨_,rfl⟩;have m5:Hid (a=bPI p i R):=by rw[Hid,bPI,Oh,y8,HS.o]
    obtain⟨W5,b9⟩:∃ x,x=W4:=⟨_,rfl⟩;have h5:=n;rw[<-y8]at h5;have o5:=o4;have q5:=u;have y5:=y4;rw[<-b9]at h5 q5 y5;clear h0 n u y4 o4 HS y8 l1 l2 c6;subst b9
   all_goals
    have m0:Hid (a.b.length=i/\a.d=s.d):=by rw[Hid,m5.o,(bOR p i R).1,(bOR p i R).2];exact⟨z9,j3⟩
    have q0:a.b.length<=100000:=by rw[m0.o.1];omega
    obtain⟨av,cv,rfl,_⟩:=eQ h5.b;have c6:W5.cell? ⟨w.1.size,6,none⟩=some (Qe q b.g.length o):=cell_of_row _ _ _ _ _ _ q5;obtain⟨l1,l2,j6⟩:=h5.par hb g3.o hp;obtain⟨⟨p0,c1,_,_,cf⟩,_⟩:=h5.cells;have f1:=cf 1;obtain⟨i0,k1,n6,n7,n8⟩:=info_parts infoStr;have g8:X < W5.1.size:=Qp _ _ p0;have n0:w.1.size < W5.1.size:=(Oo q5);have hH:=h5.size;have ho:=h5.b;have ag:some X≠(Value.slice av a.b.length cv).ownBlock:=fun e=>bL5 h5.b h5.nm Ob e.symm;have aq:some w.1.size≠(Value.slice av a.b.length cv).ownBlock:=fun e=>o5.v e.symm;have HH:Hid (NmW H X U L I A F m a (Qe gr L.length d) vI D M B (.slice av a.b.length cv) V W5):=h5;have HQ:Hid (W5.1[w.1.size]?=some (Qf #[Qc b.d,Qc b.at_,.string b.s,Qc b.n,Qc b.mid,.slice z b.c.length O,Qe q b.g.length o,.slice K b.e.length W,Qc b.b,Qc b.ref,Qc b.f] 73)):=q5;clear h5 cf q5 z9 j3;go_upto_region 10 with fail
   all_goals
    go_region_law
     ((refine step_append_lies _ (by rfl) _ _ _ (by rfl) H 9 i0 _ 1 16 underlying58 k1 n6 n7 n8 rfl Oa (.slice av a.b.length cv) a.b.length (bQI a.b) (by rfl) ((ho.alloc _).drew)
        ⟨W5.1.size,0,none⟩ 1 1 [.string p.f] (by rfl) (by rfl) (World.news_of_block (cs:=#[.string p.f]) (t:=9) (fr:=(0,0)) (Qk W5 _)) (by simp[Value.oneCell'])
        Oa (by unfold maxLen;omega) Oa (by simp;omega) (W5.1.size+1) Od ?_;intro gg J w1 j5 k4 i8 p5;have q1:=(k4.cell_far ⟨X,1,none⟩ (kO g8) ag).t (sS g8 c1);have q2:=(k4.frozen_far ⟨X,1,none⟩ (kO g8) ag).t (xB g8 f1)))
   all_goals obtain⟨h6,z6⟩:=HH.o.b0 (x:=p.f) (w1:=(W5.alloc (Qf #[.string p.f] 9)).drew) ⟨rfl,rfl,rfl,by simp[World.drew]⟩ (fun _ hk=>On hk) j5 k4 (i8.imp id (fun e=>e.t (by simp[World.drew])))
   all_goals obtain⟨o6,q6⟩:=o5.nx z6 n0
   all_goals go_wp2
   all_goals
    (go_roundg n2
     case rel=>exact⟨i+1,{a with b:=a.b++[p.f]},_,Od,Oa,h6,y5.t z6,(q6.t HQ.o).t (by rw[i4.o]),o6,m0.o.2,by simp[m0.o.1],by rw[m5.o];exact j4⟩
     case measure=>omega)
  ·have tl:decide ((i:Int) < (b.g.length:Int))=false:=by simp;omega
   rw[List.drop_eq_nil_of_le Oa]at j4;have b4:Hid (R=bRU b.g 0 {s with b:=[]}):=j4;have m7:R.b.length<=100000:=Oa
   have m9:R.b.length=b.g.length:=by rw[b4.o,bTR];simp
   clear j4 l0;go_wp2_with fail
   have q3:b.e.length<=100000:=by rw[HP.o.2.1];exact n4
   have b5:Hid (bP9 H X U I A F m (Qe gr L.length d) vI D M V G (b.e.drop 0) cs lo mid Kw):=by rw[Hid,List.drop_zero,HP.o.2.1];exact c9
   have m8:(R.d.length:Int)<=s.d.length+(lo - lo):=by rw[j3];omega
   have HH:Hid (NmW H X U L I A F m R (Qe gr L.length d) vI D M B a9 V wr/\Nx X U (Qe gr L.length d) B E B a9 w wr):=⟨hr,yr⟩;clear hr yr z9 j3 c6 c9;go_loopg [7] (b.e.length+1) (fun a1 v7 w2=>∃ (j:Nat) (a:Ns) (L2:List NQ) (a5 a6:Value) (a4:Int) (cr:List (Int × (Ns->Ns))) (Kd Kr:Int->Prop),v7= Qc j/\j+a1=b.e.length+1/\NmW H X U L2 I A F m a (Qe gr L.length d) vI D M a5 a6 V w2/\Nx X U (Qe gr L.length d) B E a5 a6 w w2/\Upd lo (k+1) L L2/\bOY G L2/\w2.1[w.1.size]?=some (Qf #[Qc b.d,Qc b.at_,.string b.s,Qc b.n,Qc b.mid,.slice z b.c.length O,.slice a2 b.g.length k2,.slice K b.e.length W,Qc b.b,Qc b.ref,Qc b.f] 73)/\bPK X U (Qe gr L.length d) a5 a6 w.1.size/\bP9 H X U I A F m (Qe gr L.length d) vI D M V G (b.e.drop j) cr a4 mid Kr/\lo<=a4/\whQ cr j a=whQ cs 0 R/\(a.d.length:Int)<=s.d.length+(a4 - lo)/\a.b.length<=100000/\Hid (a.b.length=b.g.length/\Gn G A F Kd a.a b.g.length L2/\(∀ j,Kw j->Kd j\/Kr j)/\∀ j,Kd j->j < a4))
   case atStart=>exact⟨0,R,L,_,_,lo,cs,fun _=>False,Kw,rfl,Oa,HH.o.1,HH.o.2,Upd.refl _ _ _,hL,qr,a7,b5,Int.le_refl _,rfl,m8,m7,m9,fun _ _ e=>e.elim,fun _ e=> .r e,fun _ e=>e.elim⟩
   case round=>
    clear qr a7 b5 HH m8 m7 m9;obtain⟨j,a,L2,a5,a6,a4,cr,Kd,Kr,rfl,l3,h2,y2,u2,g2,q2,o2,d6,p4,g5,j3,z9,y7⟩:=hrel;have c7:wr.cell? ⟨w.1.size,7,none⟩=some (.slice K b.e.length W):=cell_of_row _ _ _ _ _ _ q2
    by_cases k3:j < b.e.length
    ·obtain⟨x,hx⟩:∃ x,b.e[j]?=some x:=⟨b.e[j],by simp[k3]⟩;rw[bNL hx]at d6;obtain⟨a1,f,r,kk,K1,K2,rfl,hn,z0,z1,p3,f2,j8⟩:=d6;obtain⟨bk,k6,a3,_⟩:=u2.same k b hb;obtain⟨bn,m3,f8⟩:=g2.ndq hn;obtain⟨_,_,vk,-,k8,y0,-,-⟩:=h2.node k6;have k7:=HV.o;rw[k7]at k8;cases k8;have h8:=y0.h;rw[a3.e]at h8;obtain⟨q,o,k9,h7⟩:=bLE h8 hx;have h9:Value.slice K b.e.length W= Qe q b.e.length o:=k9;have i9:0<=(j:Int)/\(j:Int) < (b.e.length:Int):=Oa
     have tl:decide ((j:Int) < (b.e.length:Int))=true:=by simp;omega
     have n3:IntKind.i64.wrap ((j:Int)+1)=(j:Int)+1:=IntWalk.i64_in _ Oa;obtain⟨n2,rfl⟩:=Oj gk;have b7:wr.cell? ⟨w.1.size,7,none⟩=some (Qe q b.e.length o):=c7.t (by rw[h9]);have m4:L2.length=L.length:=u2.len;obtain⟨x',n5⟩:∃ x':Nat,x=(x':Int):=⟨x.toNat,Oi m3.1⟩;subst n5;have j9:L2[x']?=some bn:=m3.2;obtain⟨g9,i6,v9,j1,-,-,c8,-⟩:=h2.node j9;simp only[Value.slice.injEq,Option.some.injEq,Addr.mk.injEq]at j1;obtain⟨⟨rfl,-⟩,-,rfl⟩:=j1;have d1:wr.cell? ⟨gr,x'*11+1,none⟩=some (Qc a1.at_):=(c8 1 Oa).t (by rw[<-f8.at_];rfl);have o8:0<=(x':Int)/\(x':Int) < (L.length:Int):=by have:=(List.getElem?_eq_some_iff.1 j9).1;omega
     obtain⟨⟨p0,_⟩,g0,_⟩:=h2.cells;have i5:Hid (Value.slice K b.e.length W= Qe q b.e.length o):=h9;have g3:Hid (V[k]?=some (.slice z b.c.length O,.slice a2 b.g.length k2,Qe q b.e.length o)):=by rw[Hid,k7,h9]
     have HB:Hid (L2[k]?=some bk/\bk.e=b.e):=⟨k6,a3.e⟩;have p2:=bP9.le z1;have qR:wr.1[w.1.size]?=some (Qf #[Qc b.d,Qc b.at_,.string b.s,Qc b.n,Qc b.mid,.slice z b.c.length O,.slice a2 b.g.length k2,Qe q b.e.length o,Qc b.b,Qc b.ref,Qc b.f] 73):=q2.t (by rw[h9]);have f7:w.1.size < wr.1.size:=(Oo qR);have HW:Hid (whQ ((a1.at_,f)::r) j a=whQ cs 0 R):=g5;have HN:Hid (bOY G L2/\Upd lo (k+1) L L2/\bP9 H X U I A F m (Qe gr L.length d) vI D M V G (b.e.drop (j+1)) r kk mid K2):=⟨g2,u2,z1⟩;have HC:Hid ((∀ s,(f s).b=s.b)/\∀ j,Kr j->K1 j\/K2 j):=⟨f2,j8⟩;clear h8 y0 k6 a3 k7 c7 k9 h9 c8 g2 u2 z1 m3 hn f8 m4 g5 q2 f2 j8;rcases(by omega:4<=j\/j < 4)with h0|h0
     case' inl=>
      have t9:decide ((j:Int)≥4)=true:=by simp;omega
      go_upto_region 15 with fail
      obtain⟨Z,z8⟩:∃ x,Hid (x=a.E 5 a1.at_):=⟨_,rfl⟩;have HS:Hid (Z=if 4<=j then a.E 5 a1.at_ else a):=by rw[Hid,if_pos h0,z8.o]
      go_region_with (go_at_call 65;refine(bMJ 5 a1.at_ (by first|exact h2.drewN 1|exact h2)).mono ?_;rintro e W4 ⟨rfl,n,z4⟩;rw[<-z8.o]at n;obtain⟨o4,u⟩:=o2.nx z4 f7;have u:=u.t qR;have y4:Nx X U (Qe gr L.length d) B E a5 a6 w W4:=(by first|exact y2.t z4|exact(y2.drewN 1).t z4);clear h2 z4 o2 qR y2 b7 d1 p0 g0 h7)
     case' inr=>
      have t9:decide ((j:Int)≥4)=false:=by simp;omega
      obtain⟨Z,z8⟩:∃ x,x=a:=⟨_,rfl⟩;have HS:Hid (Z=if 4<=j then a.E 5 a1.at_ else a):=by rw[Hid,Oh,z8]
      obtain⟨W4,g1⟩:∃ x,x=wr:=⟨_,rfl⟩;have n:=h2;rw[<-z8]at n;have o4:=o2;have u:=qR;have y4:=y2;rw[<-g1]at n u y4;clear h2 o2 qR y2 b7 d1 p0 g0 h7 z8 f7;subst g1
     all_goals
      have l4:Z.d.length=a.d.length/\Z.b.length=a.b.length:=by rw[HS.o];split<;>simp[bL7]
      have d8:Z.b.length<=100000:=Oa
      have j2:(Z.d.length:Int)<=s.d.length+(a4 - lo):=Oa
      clear l4;have c7:W4.cell? ⟨w.1.size,7,none⟩=some (Qe q b.e.length o):=cell_of_row _ _ _ _ _ _ u;have z2:=n.whc HB.o.1 HB.o.2 g3.o hx;go_wp2_with fail
      refine(z0.2 Z L2 a5 a6 W4 HN.o.1 d8 Oa n).mono ?_;rintro e w6 ⟨rfl,d7,p9,L6,n9,o0,h6,y6,u6,j6⟩
      have i3:Hid ((f Z).b.length=b.g.length/\Gn G A F (fun j=>Kd j\/K1 j) (f Z).a b.g.length L6/\(∀ j,Kw j->(Kd j\/K1 j)\/K2 j)/\∀ j,(Kd j\/K1 j)->j < kk):=by
       obtain⟨d0,d1,d2,d3⟩:=y7.o
       have e0:(f Z).b.length=b.g.length:=by
        rw[HC.o.1,HS.o,<-d0]
        split<;>simp[bL7]
       have e1:Z.a=0->a.a=0:=fun e=>by
        rw[HS.o]at e
        by_cases c:4<=j
        ·rw[if_pos c]at e;exact absurd e (bN2 Ob)
        ·rw[if_neg c]at e;exact e
       have j6:Gn G A F K1 (f Z).a b.g.length L6:=by rw[<-e0];exact j6
       have d1:Gn G A F Kd (f Z).a b.g.length L6:=d1.keep u6 (fun j l=> .l (d3 j l)) (fun e=>e1 (z0.1.1.a _ e));refine⟨e0,fun e j l=>l.elim (d1 e j) (j6 e j),fun j l=>?_,fun j l=>?_⟩
       ·rcases d2 j l with e|e
        ·exact .l (.l e)
        ·exact(HC.o.2 j e).elim (fun e=> .l (.r e)) .r
       ·rcases l with e|e
        ·have:=d3 j e;omega
        ·have:=z0.1.2 j e;omega
      obtain⟨o6,q6⟩:=o4.nx y6 (Oo u);have q6:=(q6.t u).t (show _=some (Qf #[Qc b.d,Qc b.at_,.string b.s,Qc b.n,Qc b.mid,.slice z b.c.length O,.slice a2 b.g.length k2,.slice K b.e.length W,Qc b.b,Qc b.ref,Qc b.f] 73)by rw[i5.o]);clear c7 z2 tl j6 y7 HC;go_wp2
     all_goals
      (go_roundg n2
       case rel=>exact⟨j+1,f Z,L6,n9,o0,kk,r,_,K2,Od,Oa,h6,y4.t y6,HN.o.2.1.t (u6.wide Oa Oa),HN.o.1.upd u6,q6,o6,HN.o.2.2,Oa,by rw[HS.o];exact HW.o,Oa,d7,i3⟩
       case measure=>omega)
    ·have tl:decide ((j:Int) < (b.e.length:Int))=false:=by simp;omega
     rw[List.drop_eq_nil_of_le Oa]at d6;obtain⟨rfl,l7,m2⟩:=d6;have g4:Hid (a.b.length=b.g.length/\Gn G A F Kw a.a b.g.length L2/\∀ j,Kw j->j < a4):=⟨y7.o.1,fun e j l=>y7.o.2.1 e j ((y7.o.2.2.1 j l).resolve_right (m2 j)),fun j l=>y7.o.2.2.2 j ((y7.o.2.2.1 j l).resolve_right (m2 j))⟩;clear m2 y7
     have b2:Hid (g a=fnQ C.g cs g s):=by
      have e:a=whQ cs 0 R:=g5;rw[Hid,fnQ,e,b4.o,HP.o.1]
     clear g5 l3;obtain⟨bk,k6,a3,_⟩:=u2.same k b hb;obtain⟨_,_,vk,-,k8,y0,-,-⟩:=h2.node k6;have k7:=HV.o;rw[k7]at k8;cases k8;have h8:=y0.k;have z7:b.c=[y]:=HP.o.2.2.t l6;have m6:bk.c[0]?=some y:=by rw[a3.c,z7];rfl
     rw[<-a3.c]at h8;obtain⟨q,o,k9,h7⟩:=bLE h8 m6;have m1:b.c.length=1:=by rw[z7];rfl
     have h9:Value.slice z b.c.length O= Qe q 1 o:=by
      have:=k9;rw[a3.c,m1]at this;rw[m1];exact this
     have c5:wr.cell? ⟨w.1.size,5,none⟩=some (Qe q 1 o):=by rw[<-h9];exact cell_of_row _ _ _ _ _ _ q2
     have HM:Hid (k < L.length/\a4<=mid):=⟨l5,l7⟩;clear k6 a3 k7 h8 y0 m6 k9 m1 h9 z7 q2 o2;go_wp2_with fail
     refine(hy.2 a L2 a5 a6 wr g2 z9 Oa h2).mono ?_;rintro e W3 ⟨rfl,d9,p8,L3,h4,q4,h3,z3,u3,f4⟩;have b3:Hid (b.g.length<=(g a).b.length/\Gn G A F Kw (g a).a b.g.length L3/\Gd G A F Kb (g a) L3/\(∀ j,Kw j->j < k)/\∀ j,Kb j->j < k):=⟨by rw[<-g4.o.1];exact hy.1.1.b a,g4.o.2.1.keep u3 (fun j l=>by have:=g4.o.2.2 j l;omega) (hy.1.1.a a),f4,fun j l=>Oi (g4.o.2.2 j l),fun j l=>(hy.1.2 j l).2⟩;clear c5 c7 h7 tl;have y3:=y2.t z3;have u23:=u2.t (u3.wide (lo':=lo) (hi':=(k:Int)+1) Oa Oa);obtain⟨bk,k6,a3,_⟩:=u23.same k b hb;generalize n1:g a=v at*;have HG:Hid (v=fnQ C.g cs g s):=b2.o;have j2:(v.d.length:Int)<=s.d.length+(k - lo):=Oa
     clear n1 b2 h2 y2 u2 z3 u3 g2 f4 g4;have j0:Qe gr L.length d=Qe gr L3.length d:=by rw[u23.len]
     obtain⟨av,cv,rfl,_⟩:=eQ h3.b;obtain⟨⟨p0,c1,_⟩,g0,_⟩:=h3.cells;obtain⟨g9,i6,v9,g7,-,-,k5,j7⟩:=h3.node k6;simp only[Value.slice.injEq,Option.some.injEq,Addr.mk.injEq]at g7;obtain⟨⟨rfl,-⟩,-,rfl⟩:=g7;have e9:W3.cell? ⟨gr,k*11+8,none⟩=some (Qc bk.b):=k5 8 Oa;have f9:=j7 (k*11+8);obtain⟨n,z4,u4⟩:=h3.e0 k6 (v.b.length:Int) j0;have f5:k < L3.length:=(List.getElem?_eq_some_iff.1 k6).1;have H4:Hid (NmW H X U (L3.set k {bk with b:=(v.b.length:Int)}) I A F m v (Qe gr L.length d) vI D M h4 (.slice av v.b.length cv) V (W3.setCell ⟨gr,k*11+8,none⟩ (Qc v.b.length)).drew/\Nx X U (Qe gr L.length d) B E h4 (.slice av v.b.length cv) w (W3.setCell ⟨gr,k*11+8,none⟩ (Qc v.b.length)).drew/\Upd lo (k+1) L (L3.set k {bk with b:=(v.b.length:Int)})/\∃ b,(L3.set k {bk with b:=(v.b.length:Int)})[k]?=some b/\b.b=v.b.length):=⟨n.drewN 1,(y3.t z4).drewN 1,u23.t (u4.wide Oa Oa),{bk with b:=(v.b.length:Int)},by simp[f5],rfl⟩
     have i2:Hid (C.g.length<=v.b.length/\Gn G A F Kw v.a C.g.length (L3.set k {bk with b:=(v.b.length:Int)})/\Gd G A F Kb v (L3.set k {bk with b:=(v.b.length:Int)})):=by
      rw[Hid,<-HP.o.1];obtain⟨d1,d2,d3,d4,d5⟩:=b3.o;exact⟨d1,d2.keep u4 (fun j l=> .l (d4 j l)) id,Gn.keep d3 u4 (fun j l=> .l (d5 j l)) id⟩
     clear k5 j7 h3 y3 u23 n z4 u4 a3 k6 j0 f5 b3;go_upto_region 18 with fail
     go_region
     go_wp2;go_end0
     rw[<-HG.o];exact⟨rfl,d9,j2,_,_,_,H4.o.1,H4.o.2.1,H4.o.2.2.1,H4.o.2.2.2,i2.o⟩
end
section
variable {H X U:Nat} {I A F:List Int} {m:Int} {Y vI D M:Value} {V:List V3} {B:List NQ} {S:List (ByteArray × Int)} {FQ:List (Nat × Nat)}
def bQP(S:List (ByteArray × Int))(FQ:List (Nat × Nat)):Tr->List (Int × (Ns->Ns))
 | .nil=>[]
 | .node _ _ _ l r=>(bXT l,nmT S FQ l)::bQP S FQ r
theorem cA3(t:Tr)(s:Ns)(h:Ws 21 t):(nmT S FQ t s).b=s.b:=by
 cases t with
 |nil=>rfl
 |node b o a l r=>
  grind[Ws,sig,nmT,nm1,bU7,bNI,bL7]
theorem bWT{l:Tr}(h:Ws 20 l){x lo m:Int}(c:NX B l [x] lo m):(∃ n,Ndq B x n/\n.d=9)/\∀ s,(nmT S FQ l s).b=s.b:=by
 cases l with
 |nil=>simp[NX]at c
 |node b o a l r=>
  unfold Ws at h;obtain⟨_,_,h⟩:=h
  by_cases d:a.a=7
  ·have e:sig 20 a.a=some (21,21):=by simp[sig,d]
   rw[e]at h;refine⟨?_,fun s=>?_⟩
   ·unfold NX at c;rw[Oh,Oh,Oh,Oh]at c
    grind
   grind[bPS,cA3]
  grind[sig]
section
variable (J:bQQ B I S) (hF:bQ8 B F FQ) (E:∀ x,bL8 x 1 S 0 < A.length) (C:∀ x,bL8 x 2 S 0 < F.length) (G:I.length<=100000) (N:F.length<=100000) (O:B.length<=100000)
include J hF E C G N O
theorem bWX:∀ (t:Tr) (d:List Int) (lo hi:Int),Ws 15 t->0<=lo->NW B t d lo hi->∃ K,bP9 H X U I A F m Y vI D M V B d (bQP S FQ t) lo hi K/\Cl B K/\∀ y∈d,K y/\∃ n,Ndq B y n/\n.d=9:=by
 intro t
 induction t with
 |nil=>
  rintro d lo hi _ _ ⟨rfl,h⟩;exact⟨fun _=>False,⟨rfl,h,fun _ e=>e⟩,fun _ e=>e.elim,fun _ e=>by cases e⟩
 |node b o a l r _ ihr=>
  rintro d lo hi c z ⟨a2,ys,n,a1,rfl,g,u,v,x⟩;unfold Ws at c;obtain⟨_,_,c⟩:=c
  by_cases k:a.a=15
  ·rw[k]at c;have R:=g.le;obtain⟨i,k1,k2,k3⟩:=bSJ (X:=X) (U:=U) (m:=m) (Y:=Y) (vI:=vI) (D:=D) (M:=M) (V:=V) (H:=H) J hF E C G N O l 20 _ _ _ rfl c.1 z g;obtain⟨j,j1,j2,q⟩:=ihr _ _ _ c.2 Oa x;obtain⟨W,Z⟩:=bWT (S:=S) (FQ:=FQ) c.1 g;refine⟨fun p=>i p\/j p,⟨n,_,_,a1,i,j,by rw[v];rfl,u,k1.o,j1,R,Z,fun _ h=>h⟩,k2.or j2,fun y f=>?_⟩;rcases List.mem_cons.1 f with rfl|f
   ·exact⟨.l (k3 _ Od).1,W⟩
   ·exact⟨.r (q y f).1,(q y f).2⟩
  ·exfalso;simp[sig,k]at c
theorem bYH{t:Tr}{y lo hi:Int}(f:Ws 4 t)(a:0<=lo)(h:NBx lo B t y)(e:y < hi):∃ K,bMP H X U I A F m Y vI D M V B y (nmT S FQ t) lo hi K/\Cl B K/\K y/\∃ n,Ndq B y n/\n.d=19:=by
 obtain⟨n,b,c,d⟩:=h;obtain⟨K,g,i,j⟩:=bR1 (X:=X) (U:=U) (m:=m) (Y:=Y) (vI:=vI) (D:=D) (M:=M) (V:=V) (H:=H) J hF E C G N O b a e c d.len (bSJ J hF E C G N O t 4 _ _ _ rfl f a d);exact⟨K,g.o,i,(j y Od).1,n,b,c⟩
end
end
section
structure Is where
 A:List Int
 F:List Int
 s:Ns
def bP8(x:NQ):List NQ->Ns->Ns
 |[],s=>s
 |d::r,s=>bP8 x r (if d.s=x.s then s.E 4 x.at_ else s)
def bNZ(k:Int)(x:NQ)(s1:Ns)(t:Is):Is:=
 if x.d=1 then {t with A:=t.A++[k],s:=if x.n < 1\/64 < x.n then(if 6<=t.A.length then s1.E 5 x.at_ else s1).E 5 x.mid else if 6<=t.A.length then s1.E 5 x.at_ else s1}
 else {t with F:=t.F++[k],s:=if 8<=t.F.length then s1.E 5 x.at_ else s1}
def bNJ:List Int->List NQ->List NQ->Is->Is
 |k::I,x::N,D,t=>bNJ I N (D++[x]) (bNZ k x (bP8 x D t.s) t)
 |_,_,_,t=>t
structure bZM(L:List NQ)(I:List Int)(N:List NQ):Prop where
 len:N.length=I.length
 at_:∀ (i:Nat) (x:Int),I[i]?=some x->∃ n,Ndq L x n/\N[i]?=some n
end
end Go.Proofs.YtikffmloeifkpaaGreatDoor
