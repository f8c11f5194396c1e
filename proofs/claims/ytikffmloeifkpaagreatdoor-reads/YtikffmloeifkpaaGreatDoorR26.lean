/- Contracts. -/
import Derived.Test.YtikffmloeifkpaaGreatDoorR23
import Derived.Test.YtikffmloeifkpaaGreatDoorR22
import Derived.Test.YtikffmloeifkpaaGreatDoorR15
namespace Go.Proofs.YtikffmloeifkpaaGreatDoor
open Go.RowKit Go.Lib Go.Deep Go.ChangeMaps Go.MapKept Tryz
section
variable {T Q:List aU} {r:Rd} {st:QS} {N n:Nat} {S C B:Pr} {E P D:QS->QS × Int}
theorem aCS{j k:Int}(h:(aE T r.b).d=j)(a:j≠k):aF T r [k]=false:=by grind[fY]
theorem aRC(b:Tw T Q)(a:Rl r st)(c:r.b < T.length)(R:T.length<=n)(l:r.a=0->1<=r.c):
 Rl ((if aF T r [1]=true then dV T (eL T) n r else(r,.nil)).1.h0 T 13) (cN Q (sp 13) (dJ Q Q.length (!dF Q st (sp 13)) [] st).1)/\
 (((if aF T r [1]=true then dV T (eL T) n r else(r,.nil)).1.h0 T 13).a=0->r.a=0/\NP (unl (if aF T r [1]=true then dV T (eL T) n r else(r,.nil)).2) (dJ Q Q.length (!dF Q st (sp 13)) [] st).2):=by
 have O:=b.len;rcases a with a|a
 ·have u:=nQ b a c (k:=13) Oa Oa;rw[u];cases h1:aF T r [1]
  ·rw[if_neg Od];cases g:aF T r [((13:Nat):Int)]
   ·obtain⟨k,i⟩:∃ m,Q.length=m+1:=⟨Q.length - 1,Oa⟩;have q:(aE T r.b).d≠1:=by grind[fY]
    have V:(aE Q st.i).d≠1:=by rw[<-a.i];exact fun e=>q ((b.tok r.b c).y0.1.1 e)
    have s:cX Q 1 st=dW Q st:=by grind[cX]
    have o:=nU b a c g
    have d:Gr (dW Q st) (dJ Q Q.length (!false) [] st).1 0:=by
     rw[i,dJ,if_pos ⟨rfl,a.d⟩,s];refine(Gr.t (n:=0) (m:=0) ?_ (aCA _ _ _ _)).le Oa
     grind[Gr.bz,Gr.refl]
    exact⟨.r (Rf.gr (r:=r.take T [13]) o Qj (d.t (Gr.h0 Q _ _))),fun h=>absurd h o.c⟩
   ·have d:dJ Q Q.length (!true) [] st=(st,[]):=by cases Q.length<;>simp[dJ]
    rw[d];exact⟨xQ b (.l a) c l (k:=13) Oa Oa,fun _=>⟨a.c,rfl⟩⟩
  ·have t:(aE T r.b).d=1:=by grind[fY]
   have g:aF T r [((13:Nat):Int)]=false:=aCS t Ob;obtain⟨k,i⟩:∃ m,Q.length=m+1:=⟨Q.length - 1,Oa⟩;rw[if_pos rfl,g]
   have d:dJ Q Q.length (!false) [] st=dJ Q k (dF Q (cX Q 1 st) (sp 18)) ([]++[dC Q 1 st]) (if dF Q (cX Q 1 st) (sp 18)=true then aG Q (cX Q 1 st)else cX Q 1 st):=by
    rw[i,dJ,if_pos ⟨rfl,a.d⟩];rfl
   rw[d];obtain⟨H,I⟩:=uM b (.l a) c (k:=1) Oa;have f:=sU b.ends r c;have M:=f.ge;obtain⟨w,x⟩:=aOD b n k _ _ ([]++[dC Q 1 st]) H f.lt Oa;have j:=uU b.ends (sU b.ends) n _ f.lt;have h0:(dV T (eL T) n r).1.c=r.c:=j.c.t f.c;refine⟨xQ b w j.lt (fun _=>by show 1<=(dV T (eL T) n r).1.c;rw[h0];exact l a.c) (k:=13) Oa Oa,fun v=>⟨a.c,?_⟩⟩;obtain⟨c1,_⟩:=pH v;obtain⟨y,J,z,A⟩:=x c1;obtain⟨W,X,F,G,Y⟩:=I y;have U:=F.h G;rw[z];show NP (unl (gW (cons (eL T r).2 (aZ T (eL T) n (eL T r).1).2))) _;rw[yJ];refine⟨dC Q 1 st,J,rfl,⟨_,_,_,_,_,rfl,?_,?_⟩,A⟩
   ·simp[*]
   simp[*]
 ·have p:(if aF T r [1]=true then dV T (eL T) n r else(r,.nil)).1.a=r.a/\(if aF T r [1]=true then dV T (eL T) n r else(r,.nil)).1.e=r.e:=by
   split
   ·exact tM (T:=T) (aAS (T:=T)) n r a.c
   trivial
  obtain⟨K,L⟩:=lO (T:=T) (r:=(if aF T r [1]=true then dV T (eL T) n r else(r,.nil)).1) 13 (by rw[p.1];exact a.c);exact⟨.r (a.gr Oa ((aCA _ _ _ _).t (Gr.h0 Q _ _))),fun h=>absurd (Oa) a.c⟩
theorem aRA(b:Tw T Q)(a:Rl r st)(g:r.b < T.length)(O:T.length<=n):
 Rl (if aF T r [5]=true then dV T (iS T) n (r.b0 T [5])else(r,.nil)).1 (eF Q Q.length (dF Q st (sp 5)) [] st).1/\
 ((if aF T r [5]=true then dV T (iS T) n (r.b0 T [5])else(r,.nil)).1.a=0->r.a=0/\NW (eF Q Q.length (dF Q st (sp 5)) [] st).1.L (unl (if aF T r [5]=true then dV T (iS T) n (r.b0 T [5])else(r,.nil)).2) (eF Q Q.length (dF Q st (sp 5)) [] st).2 st.L.length (eF Q Q.length (dF Q st (sp 5)) [] st).1.L.length):=by
 have M:=b.len;rcases a with a|a
 ·have s:=nQ b a g (k:=5) Oa Oa;rw[s];cases hs:aF T r [((5:Nat):Int)]
  ·have h0:aF T r [5]=false:=hs;have c:eF Q Q.length false [] st=(st,[]):=by cases Q.length<;>simp[eF]
   rw[if_neg (by simp[]),c];exact⟨.l a,fun _=>⟨a.c,rfl,Int.le_refl _⟩⟩
  ·have h0:aF T r [5]=true:=hs;obtain⟨d,l,m,o⟩:=jT b a g h0 Ob;have q:r.b0 T [5]=r.take T [5]:=by grind[Rd.b0,Rd.take]
   obtain⟨k,u⟩:∃ G,Q.length=G+1:=⟨Q.length - 1,Oa⟩
   have c:eF Q Q.length true [] st=eF Q k (dF Q (gT Q (aG Q st)).1 (sp 18)) ([]++[(gT Q (aG Q st)).2]) (gT Q (aG Q st)).1:=by
    rw[u,eF,if_pos ⟨rfl,a.d⟩];rfl
   rw[if_pos rfl,q,c];have e:(r.take T [5]).b < T.length:=Oa
   obtain⟨I,J⟩:=aMO b (.l d) e;have f:=oC b.ends (r.take T [5]) e;have L:=f.ge;obtain⟨v,i,w⟩:=aOB b n k _ _ ([]++[(gT Q (aG Q st)).2]) I f.lt Oa;refine⟨v,fun t=>⟨a.c,?_⟩⟩;obtain⟨x,K,y,z⟩:=w t;obtain⟨_,j,H,A,F⟩:=J x;rw[y];show NW _ (unl (gW (cons (iS T (r.take T [5])).2 (aZ T (iS T) n (iS T (r.take T [5])).1).2))) _ _ _;rw[yJ];rw[aV]at j;exact⟨_,K,H,_,rfl,NX.mono i _ _ _ _ j,A.mono i,F,z⟩
 ·have p:(if aF T r [5]=true then dV T (iS T) n (r.b0 T [5])else(r,.nil)).1.a=r.a/\(if aF T r [5]=true then dV T (iS T) n (r.b0 T [5])else(r,.nil)).1.e=r.e:=by
   split
   ·obtain⟨d,l⟩:=qT (T:=T) [5] a.c;obtain⟨m,o⟩:=tM (T:=T) (aGB (T:=T)) n (r.b0 T [5]) (by rw[d];exact a.c);omega
   trivial
  have c:(eF Q Q.length (dF Q st (sp 5)) [] st).1=st:=by
   cases Q.length with
   |zero=>rfl
   |succ k=>unfold eF;rw[if_neg (fun h=>a.c (a.d.symm.t h.2))]
  rw[c];exact⟨.r (a.to p Oa),fun h=>absurd (Oa) a.c⟩
theorem aGF(a:Tw T Q){m:Nat}(H:Sb T Q N B P)(y:oG P)(q:T.length<=m)(I:Rl r st)(p:r.b < T.length)(hN:r.a=0->T.length - r.b<=N):
 Rl (cH T B m r).1 (pN Q P st).1/\((cH T B m r).1.a=0->r.a=0/\NI st.L.length (pN Q P st).1.L (cH T B m r).2 (pN Q P st).2/\(pN Q P st).2+1=(pN Q P st).1.L.length):=by
 obtain⟨s,L⟩:=uM a I p (k:=1) Oy;have a1:=aN a.ends p (show aM [1] 0=false by decide);obtain⟨M,o2⟩:=aA0 a s a1.lt (k:=12) Oa Oa;obtain⟨b1,f,X⟩:=cZ a.ends a1.lt (show aM [((12:Nat):Int)] 0=false by decide)
 have G:((r.take T [1]).a0 T [((12:Nat):Int)]).a=0->1<=((r.take T [1]).a0 T [((12:Nat):Int)]).c:=fun c=>by
  have k0:=(iG c).1;have:=(s.ok k0).lo;omega
 have v:cR=sp 12:=rfl;have w:fR=sp 13:=rfl;have x:mY=sp 5:=rfl;unfold cH pN;dsimp only;rw[v,w,x];obtain⟨O,R⟩:=aRC (n:=m) a M f q G
 have i:sJ T ((r.take T [1]).a0 T [((12:Nat):Int)]) (if aF T ((r.take T [1]).a0 T [((12:Nat):Int)]) [1]=true then dV T (eL T) m ((r.take T [1]).a0 T [((12:Nat):Int)])else((r.take T [1]).a0 T [((12:Nat):Int)],.nil)).1:=by
  split
  ·exact qU a.ends (sU a.ends) m _ f
  ·exact sJ.refl f
 have j:=aN a.ends i.lt (show aM [13] 0=false by decide);have h:((if aF T ((r.take T [1]).a0 T [((12:Nat):Int)]) [1]=true then dV T (eL T) m ((r.take T [1]).a0 T [((12:Nat):Int)])else((r.take T [1]).a0 T [((12:Nat):Int)],.nil)).1.h0 T 13).b < T.length:=j.lt;have Y:=a1.ge;have Z:=i.ge;have g3:_<=((if aF T ((r.take T [1]).a0 T [((12:Nat):Int)]) [1]=true then dV T (eL T) m ((r.take T [1]).a0 T [((12:Nat):Int)])else((r.take T [1]).a0 T [((12:Nat):Int)],.nil)).1.h0 T 13).b:=j.ge;generalize a3:(if aF T ((r.take T [1]).a0 T [((12:Nat):Int)]) [1]=true then dV T (eL T) m ((r.take T [1]).a0 T [((12:Nat):Int)])else((r.take T [1]).a0 T [((12:Nat):Int)],.nil))=ps at*
 have F:(dJ Q Q.length (!dF Q (aO Q (sp 12) (cX Q 1 st)) (sp 13)) [] (aO Q (sp 12) (cX Q 1 st))).1.L=st.L:=by
  rw[aS6,pO,kP]
 generalize dJ Q Q.length (!dF Q (aO Q (sp 12) (cX Q 1 st)) (sp 13)) [] (aO Q (sp 12) (cX Q 1 st))=e at*;obtain⟨W,t⟩:=aRA (n:=m) a O h q
 have l:sJ T (ps.1.h0 T 13) (if aF T (ps.1.h0 T 13) [5]=true then dV T (iS T) m ((ps.1.h0 T 13).b0 T [5])else(ps.1.h0 T 13,.nil)).1:=by
  split
  ·have b:=fF a.ends h (show aM [5] 0=false by decide);exact b.t (qU a.ends (oC a.ends) m _ b.lt)
  ·exact sJ.refl h
 have g4:=l.ge;generalize (if aF T (ps.1.h0 T 13) [5]=true then dV T (iS T) m ((ps.1.h0 T 13).b0 T [5])else(ps.1.h0 T 13,.nil))=ws at*;have h0:=(y (eF Q Q.length (dF Q (cN Q (sp 13) e.1) (sp 5)) [] (cN Q (sp 13) e.1)).1).pre;generalize eF Q Q.length (dF Q (cN Q (sp 13) e.1) (sp 5)) [] (cN Q (sp 13) e.1)=qw at*
 have u:ws.1.a=0->(r.take T [1]).a=0/\r.a=0:=fun c=>by
  have b:=(iG (R (t c).1).1).1;exact⟨b,(bO b).1⟩
 obtain⟨U,V⟩:=H.all W l.lt Oa;refine⟨U.add _,fun c=>?_⟩;obtain⟨b,o,h8⟩:=V c;obtain⟨h3,g⟩:=t b;rw[fI,F]at g;have l4:=g.le;have d:=o;obtain⟨_,_,_,d⟩:=d;have d:=d.le;obtain⟨z,A⟩:=u b;obtain⟨m1,m2,J,K,m5⟩:=L z;have a2:=J.h K;refine⟨A,⟨_,_,_,_,_,_,rfl,jM.last _ _,?_,?_,Oa,.r ⟨rfl,rfl,Qh,_,_,_,_,_,rfl,_,NW.mono (h0.t (List.prefix_append _ _)) _ _ _ _ g,_,rfl,o.mono (List.prefix_append _ _),Oa⟩⟩,by grind[cQ]⟩
 ·simp[*]
 simp[*]
theorem aOH(a:Tw T Q)(j:Rl r st)(d:r.b < T.length):Rl (fM T r).1 (tQ Q st).1/\((fM T r).1.a=0->r.a=0/\NI st.L.length (tQ Q st).1.L (fM T r).2 (tQ Q st).2/\(tQ Q st).2+1=(tQ Q st).1.L.length):=by
 obtain⟨s,t⟩:=uM a j d (k:=1) Oy;have a1:=aN a.ends d (show aM [1] 0=false by decide);obtain⟨l,m⟩:=uM a s a1.lt (k:=2) Oa;have h:=aN a.ends a1.lt (show aM [2] 0=false by decide);have u:=aC3 a l h.lt (k:=19) Oa Oa;unfold fM tQ;dsimp only;refine⟨u.add _,fun i=>?_⟩;have b:=(bO i).1;have c:=(bO b).1;obtain⟨x,y,p,q,z⟩:=t c;obtain⟨e,f,g,o,w⟩:=m b;have v:=p.h q;refine⟨(bO c).1,⟨_,_,_,_,_,_,rfl,jM.last _ _,?_,?_,by rw[fV,kP,kP];omega,.l ⟨rfl,rfl,?_,?_,rfl⟩⟩,by grind[cQ]⟩
 ·simp[*]
 ·simp[*]
 ·show(dC Q 2 (cX Q 1 st)).a=(bX T (r.take T [1]) [2]).a;rw[e,f];exact g.num o
 ·show(dC Q 2 (cX Q 1 st)).e=(bX T (r.take T [1]) [2]).e;rw[e,f];exact g.1
theorem aUR:sH (fM T):=fun r h=>by
 obtain⟨a,c⟩:=eU (T:=T) [1] h;obtain⟨b,d⟩:=eU (T:=T) (r:=r.take T [1]) [2] (by rw[a];exact h);obtain⟨e,f⟩:=eU (T:=T) (r:=(r.take T [1]).take T [2]) [19] (by rw[b,a];exact h);exact⟨e.t (b.t a),f.t (d.t c)⟩
theorem aGC(i:sH B)(m:Nat):sH (cH T B m):=fun r h=>by
 obtain⟨c,o⟩:=eU (T:=T) [1] h;obtain⟨p,q⟩:=oQ (T:=T) (r:=r.take T [1]) [12] (by rw[c];exact h);have b:∀ {x y:Rd},y.a=r.a/\y.e=r.e->(y.a≠0->x.a=y.a/\x.e=y.e)->x.a=r.a/\x.e=r.e:=Oa;have d:((r.take T [1]).a0 T [12]).a=r.a/\((r.take T [1]).a0 T [12]).e=r.e:=Oa
 have e:=b (x:=(if aF T ((r.take T [1]).a0 T [12]) [1]=true then dV T (eL T) m ((r.take T [1]).a0 T [12])else((r.take T [1]).a0 T [12],.nil)).1) d (fun a=>by
  split
  ·exact tM (T:=T) (aAS (T:=T)) m _ a
  trivial)
 unfold cH;dsimp only;generalize (if aF T ((r.take T [1]).a0 T [12]) [1]=true then dV T (eL T) m ((r.take T [1]).a0 T [12])else((r.take T [1]).a0 T [12],.nil))=ps at*;have f:=b (x:=ps.1.h0 T 13) e (fun a=>lO 13 a)
 have g:=b (x:=(if aF T (ps.1.h0 T 13) [5]=true then dV T (iS T) m ((ps.1.h0 T 13).b0 T [5])else(ps.1.h0 T 13,.nil)).1) f (fun a=>by
  split
  ·obtain⟨e1,j⟩:=qT (T:=T) (r:=ps.1.h0 T 13) [5] a;obtain⟨k,l⟩:=tM (T:=T) (aGB (T:=T)) m ((ps.1.h0 T 13).b0 T [5]) Oa;omega
  trivial)
 exact b g (fun a=>i _ a)
theorem qG(b:sH B)(m:Nat):∀ n r,r.a≠0->(aL T B m n r).1.a=r.a/\(aL T B m n r).1.e=r.e:=by
 intro n
 induction n with
 |zero=>exact fun _ _=>Qj
 |succ n ih=>
  intro r h;obtain⟨e,f⟩:=eU (T:=T) [3,4] h;have a:(r.take T [3,4]).a≠0:=Oa
  unfold aL;dsimp only
  split
  ·trivial
  split
  ·obtain⟨c,d⟩:=aUR (T:=T) _ a;simp[*]
  split
  ·obtain⟨c,d⟩:=aGC (T:=T) b m _ a;simp[*]
  simp[*]
theorem aFC(a:oG P):∀ (k:Nat) (st:QS),st.L <+:(dO Q P k st).L:=by
 intro k
 induction k with
 |zero=>exact fun st=>List.prefix_refl _
 |succ k ih=>
  intro st;unfold dO
  split
  ·split
   ·refine List.IsPrefix.t ?_ (ih _);have:=(aDI (T:=Q) (aG Q st)).pre;rw[aV]at this;exact this
   split
   ·refine List.IsPrefix.t ?_ (ih _);have:=(aDH a (T:=Q) (aG Q st)).pre;rw[aV]at this;exact this
   ·exact(Gr.e0 Q st).pre.trans (ih _)
  simp
theorem Ro.item(h:Ro r st)(x:Int):Ro r (kM x st):=⟨h.c,h.d,h.i,h.o,h.lo,h.hi⟩
theorem Rl.item(h:Rl r st)(x:Int):Rl r (kM x st):=h.elim (fun h=> .l (h.item x)) (fun h=> .r ⟨h.c,h.d,h.p⟩)
theorem aGE(d:Tw T Q){m:Nat}(g:Sb T Q N B P)(p:oG P)(X:T.length<=m):∀ n k r st,Rl r st->r.b < T.length->(r.a=0->T.length - r.b<=N+1/\T.length - r.b<=n/\T.length - r.b<=k)->
 Rl (aL T B m n r).1 (dO Q P k st)/\((aL T B m n r).1.a=0->∃ b,(dO Q P k st).c=st.c++b/\NIs (dO Q P k st).L (aL T B m n r).2 b st.L.length (dO Q P k st).L.length):=by
 intro n
 have v:∀ n k r st,Rf r st->Rl (aL T B m n r).1 (dO Q P k st)/\((aL T B m n r).1.a=0->∃ b,(dO Q P k st).c=st.c++b/\NIs (dO Q P k st).L (aL T B m n r).2 b st.L.length (dO Q P k st).L.length):=by
  intro n k r st a;have k1:=qG (T:=T) g.stk m n r a.c
  have Y:dO Q P k st=st:=by
   cases k with
   |zero=>rfl
   |succ k=>unfold dO;rw[if_neg (fun h=>a.c (a.d.symm.t h.1))]
  rw[Y];exact⟨.r (a.to k1 Oa),fun h=>absurd (Oa) a.c⟩
 induction n with
 |zero=>
  intro k r st a i z;rcases a with a|a
  ·have:=z a.c;omega
  ·exact v 0 k r st a
 |succ n ih=>
  intro k r st a i z;rcases a with a|a
  ·obtain⟨a2,hn,hk⟩:=z a.c;obtain⟨k,rfl⟩:∃ Z,k=Z+1:=⟨k - 1,Oa⟩;have L:=d.tok r.b i;have U:aE Q st.i=aE Q r.b:=by rw[a.i]
   have M:aU4=sp 3:=rfl;have O:aT8=sp 4:=rfl;have V:=nQ d a i (k:=3) Oa Oa;have W:=nQ d a i (k:=4) Oa Oa;unfold aL dO;dsimp only;rw[U,M,O,V,W]
   by_cases h0:(aE T r.b).d=0
   ·have A:aF T r [0]=true:=by grind[fY]
    rw[if_pos A,if_neg (fun h=>h.2 (L.y0.2.2.2 h0))];exact⟨.l a,fun _=>⟨[],Od,rfl,Oa⟩⟩
   have k2:aF T r [0]=false:=by grind[fY]
   have k4:(aE Q r.b).d≠0:=fun e=>h0 (L.y0.2.2.1 e);rw[if_neg (c:=aF T r [0]=true) (by rw[k2];exact Bool.false_ne_true),if_pos (c:=st.a=0/\(aE Q r.b).d≠0) ⟨a.d,k4⟩]
   by_cases A:aF T r [3,4]=true
   ·obtain⟨J,g2,R,g4⟩:=jT d a i A Ob;have q:(r.take T [3,4]).b < T.length:=Oa
    have k5:(aE T r.b).d=3\/(aE T r.b).d=4:=by
     grind[xK]
    rw[R];rcases k5 with s|s
    ·have l:aF T r [((3:Nat):Int)]=true:=by grind[fY]
     rw[if_pos s,if_pos l];obtain⟨H,I⟩:=aOH d (.l J) q;have j:=pA d.ends _ q;have k6:=j.ge;obtain⟨o,t⟩:=ih k _ _ (H.item (tQ Q (aG Q st)).2) j.lt Oa;refine⟨o,fun f=>?_⟩;obtain⟨b,F,G⟩:=t f
     have y:(fM T (r.take T [3,4])).1.a=0:=by
      by_cases h:(fM T (r.take T [3,4])).1.a=0
      ·exact h
      ·exact absurd ((qG (T:=T) g.stk m n _ h).1 ▸ f) h
     refine⟨(tQ Q (aG Q st)).2::b,?_,?_⟩
     ·rw[F];show((tQ Q (aG Q st)).1.c++[_])++b=_;rw[(aDI (T:=Q) (aG Q st)).c,(Gr.bz Q st).c];simp
     ·obtain⟨_,e1,u⟩:=I y;rw[aV]at e1;exact⟨_,b,rfl,NI.mono (aFC p k _) e1,by rw[u];exact G⟩
    ·have l:aF T r [((3:Nat):Int)]=false:=aCS s Ob;have w:aF T r [((4:Nat):Int)]=true:=by grind[fY]
     rw[Oh,if_pos s,if_neg (by rw[l];exact Bool.false_ne_true),if_pos w];obtain⟨H,I⟩:=aGF d g p X (.l J) q Oa;have j:=lE d.ends g.go m _ q;have k6:=j.ge;obtain⟨o,t⟩:=ih k _ _ (H.item (pN Q P (aG Q st)).2) j.lt Oa;refine⟨o,fun f=>?_⟩;obtain⟨b,F,G⟩:=t f
     have y:(cH T B m (r.take T [3,4])).1.a=0:=by
      by_cases h:(cH T B m (r.take T [3,4])).1.a=0
      ·exact h
      ·exact absurd ((qG (T:=T) g.stk m n _ h).1 ▸ f) h
     refine⟨(pN Q P (aG Q st)).2::b,?_,?_⟩
     ·rw[F];show((pN Q P (aG Q st)).1.c++[_])++b=_;rw[(aDH p (T:=Q) (aG Q st)).c,(Gr.bz Q st).c];simp
     ·obtain⟨_,e1,u⟩:=I y;rw[aV]at e1;exact⟨_,b,rfl,NI.mono (aFC p k _) e1,by rw[u];exact G⟩
   ·have k3:aF T r [3,4]=false:=Qh
    have x:=nU d a i k3;have K:∀ k:Int,aM [3,4] k=true->(aE T r.b).d≠k:=(by grind[aF]);have l:aF T r [((3:Nat):Int)]=false:=by rw[fY];exact decide_eq_false (K 3 Ob)
    have w:aF T r [((4:Nat):Int)]=false:=by rw[fY];exact decide_eq_false (K 4 Ob)
    have k0:bX T r [3,4]=uE:=by grind[bX]
    rw[k0,if_neg Ob,if_neg Ob,if_neg (by rw[l];exact Bool.false_ne_true),if_neg (by rw[w];exact Bool.false_ne_true)];obtain⟨o,t⟩:=v n k _ _ x;exact⟨o,fun f=>absurd ((qG (T:=T) g.stk m n _ x.c).1 ▸ f) x.c⟩
  ·exact v (n+1) k r st a
theorem aBB(b:Tw T Q):(dY Q).a=(aK T).1.a/\((aK T).1.a≠0->(dY Q).e=(aK T).1.e)/\((aK T).1.a=0->NIs (dY Q).L (unl (aK T).2) (dY Q).c 0 (dY Q).L.length):=by
 have f:=b.len;have h0:=b.some;have d:Sb T Q T.length (kQ T (eC T) 6) (qB Q):=aKI b (m:=Q.length+1) Oa T.length (eC T) (Q.length+1) Oa Oa (by unfold eC;omega);obtain⟨a,e⟩:=aGE b d (aT4 Q) (m:=eC T) (by unfold eC;omega) (eC T) Q.length rd0 ⟨0,0,0,0,[],[]⟩ (.l ⟨rfl,rfl,rfl,rfl,Ob,Ob⟩) h0 (by grind[rd0,eC]);unfold aK dY;refine⟨a.a,fun c=>?_,fun c=>?_⟩
 ·rcases a with a|a
  ·exact absurd a.c c
  ·exact a.p
 grind[yJ]
end
section
variable {H X U:Nat} {L:List NQ} {I A F:List Int} {m:Int} {s:Ns} {Y vI D M B R:Value} {V:List V3} {w:World}
theorem aG5:∀ (L:List NQ) (V:List V3) (i:Nat) (a:NQ) (r:Int),L[i]?=some a->L.length=V.length->mM (L.set i {a with b:=r}) V=(mM L V).set (i*11+8) (Qc r)
 |b::L,u::V,0,a,r,h1,_=>by
  simp only[List.getElem?_cons_zero,Option.some.injEq]at h1;subst h1;rfl
 |b::L,u::V,i+1,a,r,h1,h2=>by
  show NdV b u++mM (L.set i {a with b:=r}) V=(NdV b u++mM L V).set _ _;rw[aG5 L V i a r Qi Qg];have e:(NdV b u).length=11:=rfl
  grind
 |[],_,_,_,_,h1,_=>by rfl
 |b::L,[],_,_,_,_,h2=>by simp at h2
theorem gZ.e1(h:gZ H X U L I A F m s Y vI D M B R V w){i:Nat}{a:NQ}(hi:L[i]?=some a)(r:Int){g J:Nat}(hv:Y= Qe g L.length J):
 gZ H X U (L.set i {a with b:=r}) I A F m s Y vI D M B R V (w.setCell ⟨g,i*11+8,none⟩ (Qc r))/\Nx X U Y B R B R w (w.setCell ⟨g,i*11+8,none⟩ (Qc r))/\xZ i (i+1) L (L.set i {a with b:=r}):=by
 have a4:=(List.getElem?_eq_some_iff.1 hi).1;have l:pW a {a with b:=r}:=⟨rfl,rfl,rfl,rfl,rfl,rfl,rfl,rfl,rfl⟩;subst hv;have f:=h.nodes;obtain⟨y,hr⟩:=f;rcases hr with⟨_,f⟩|⟨g2,a2,u,h0,W,hc,z,K,cP,x⟩
 ·omega
 simp only[Value.slice.injEq,Option.some.injEq,Addr.mk.injEq]at h0;obtain⟨⟨rfl,_⟩,_,rfl⟩:=h0;have off:∀ {k:Nat} {q:Array Value} {t:TypeId},w.1[k]?=some (.cells q t (0,0))->t≠73->(w.setCell ⟨g,i*11+8,none⟩ (Qc r)).1[k]?=w.1[k]?:=(by grind[Below.heap_setCell,bR])
 have d:∀ {n o:Nat} {e:TypeId} {v:Value} {p:List Value},w.ownsRow H e o v n p->e≠73->(w.setCell ⟨g,i*11+8,none⟩ (Qc r)).ownsRow H e o v n p:=fun j a5=>aR j (fun k Z=>by
  obtain⟨⟨c,O⟩,_⟩:=aW j Z
  grind)
 have G:kZ H (w.setCell ⟨g,i*11+8,none⟩ (Qc r)) L V:=h.c.move (fun k hu=>by
  obtain⟨⟨c,O⟩,_⟩:=h.c.typ hu
  grind)
 have a3:(mM L V).length=L.length*11:=y;refine⟨⟨(off h.nm Ob).t h.nm,(off h.prog Ob).t h.prog,?_,d h.its Ob,d h.arrs Ob,d h.fns Ob,d h.d Ob,d h.b Ob,kZ.set l G hi,by grind[World.setCell]⟩,⟨rfl,rfl,rfl,Od,(by grind[Value.ownBlock,Below.heap_setCell]),Qg,Qg⟩,xZ.set hi l⟩;rw[aG5 L V i a r hi h.c.len,List.length_set];refine⟨Qh,.r ⟨g,J,u.setIfInBounds (i*11+8) (Qc r),rfl,W,aI _ hc,z,K,Qh,?_⟩⟩;rw[Array.toList_setIfInBounds,List.take_set,x]
theorem gZ.f1(h:gZ H X U L I A F m s Y vI D M B R V w):
 gZ H X U L I A F m {s with b:=[]} Y vI D M B (.slice none 0 0) V (w.setCell ⟨X,1,none⟩ (.slice none 0 0))/\Nx X U Y B R B (.slice none 0 0) w (w.setCell ⟨X,1,none⟩ (.slice none 0 0)):=by
 have off:∀ {k:Nat} {c:Array Value} {t:TypeId},w.1[k]?=some (.cells c t (0,0))->t≠129->(w.setCell ⟨X,1,none⟩ (.slice none 0 0)).1[k]?=w.1[k]?:=fun d h0=>Om (bR d h.nm h0)
 have a:∀ {n g:Nat} {e:TypeId} {v:Value} {i:List Value},w.ownsRow H e g v n i->e≠129->(w.setCell ⟨X,1,none⟩ (.slice none 0 0)).ownsRow H e g v n i:=fun f h0=>aR f (fun k l=>by
  obtain⟨⟨c,j⟩,_⟩:=aW f l
  grind)
 refine⟨⟨aI _ h.nm,(off h.prog Ob).t h.prog,a h.nodes Ob,a h.its Ob,a h.arrs Ob,a h.fns Ob,a h.d Ob,⟨rfl,Od⟩,h.c.move (fun k o=>?_),by simp[World.setCell];exact h.size⟩,⟨rfl,rfl,rfl,Od,(by grind[Below.heap_setCell]),Qg,fun k d=>by cases d⟩⟩;obtain⟨⟨c,j⟩,_⟩:=h.c.typ o
 grind
def aEE:List aU->Nat->Ns->Ns
 |[],_,s=>s
 |p::r,i,s=>
  let s1:=if 0<=s.var p.f then s.e0 4 p.e else s
  let s2:=if 4<=i then s1.e0 5 p.e else s1
  aEE r (i+1) {s2 with b:=s2.b++[p.f]}
def whQ:List (Int × (Ns->Ns))->Nat->Ns->Ns
 |[],_,s=>s
 |c::r,i,s=>whQ r (i+1) (c.2 (if 4<=i then s.e0 5 c.1 else s))
end
section
variable {H X U:Nat} {L E:List NQ} {I A F:List Int} {m:Int} {s:Ns} {Y vI D M B R:Value} {V:List V3} {w:World}
theorem aD1{v:Value}{l:List aU}(h:w.ownsRow H 220 4 v l.length (dD l)){i:Nat}{t:aU}(hi:l[i]?=some t):∃ g J,v= Qe g l.length J/\w.cell? ⟨g,i*4+1,none⟩=some (Qc t.e)/\w.cell? ⟨g,i*4+2,none⟩=some (.string t.f):=by
 have f:=(List.getElem?_eq_some_iff.1 hi).1;obtain⟨_,d⟩:=h;rcases d with⟨_,j⟩|⟨g,J,e,c,_,b,_,_,_,h0⟩
 ·omega
 ·refine⟨g,J,c,?_,?_⟩
  ·have a:_=some (Qc t.e):=sY l i t hi 1 Oa;rw[<-h0,List.getElem?_take,if_pos Oa]at a;rw[cell_of_row _ _ _ _ _ _ b];simpa using a
  ·have a:_=some (Value.string t.f):=sY l i t hi 2 Oa;rw[<-h0,List.getElem?_take,if_pos Oa]at a;rw[cell_of_row _ _ _ _ _ _ b];simpa using a
theorem gZ.par(h:gZ H X U L I A F m s Y vI D M B R V w){k:Nat}{b:NQ}(l:L[k]?=some b){q t:Value}{a e:Nat}(j:V[k]?=some (q,Qe a b.g.length e,t)){i:Nat}{p:aU}(o:b.g[i]?=some p):w.cell? ⟨a,i*4+1,none⟩=some (Qc p.e)/\w.cell? ⟨a,i*4+2,none⟩=some (.string p.f)/\a < w.1.size:=by
 obtain⟨_,_,x,-,h0,g,-,-⟩:=h.node l;rw[j]at h0;cases h0;obtain⟨v,u,d,f,c⟩:=aD1 g.p o;simp only[Value.slice.injEq,Option.some.injEq,Addr.mk.injEq]at d;obtain⟨⟨rfl,_⟩,_⟩:=d;exact⟨f,c,Qp w _ c⟩
section
variable (H X U:Nat) (I A F:List Int) (m:Int) (Y vI D M:Value) (V:List V3) (E:List NQ)
def xC:List Int->List (Int × (Ns->Ns))->Int->Int->(Int->Prop)->Prop
 |[],cs,lo,hi,K=>cs=[]/\lo<=hi/\∀ j,¬K j
 |y::ys,cs,lo,hi,K=>∃ n g r k K1 K2,cs=(n.at_,g)::r/\jM E y n/\kY H X U I A F m Y vI D M V E y g lo k K1/\xC ys r k hi K2/\lo<=k/\(∀ s,(g s).b=s.b)/\∀ j,K j->K1 j\/K2 j
end
theorem xC.le:∀ {b:List Int} {a:List (Int × (Ns->Ns))} {lo hi:Int} {K:Int->Prop},xC H X U I A F m Y vI D M V E b a lo hi K->lo<=hi
 |[],_,_,_,_,h=>h.2.1
 |_::_,_,_,_,_,⟨_,_,_,_,_,_,_,_,_,h2,h4,_⟩=>by have:=xC.le h2;omega
def Gn(E:List NQ)(A F:List Int)(K:Int->Prop)(c:Int)(Z:Nat)(L:List NQ):Prop:=c=0->∀ i,K i->∃ b,jM L i b/\OkR E A F Z b
theorem Gn.keep{K:Int->Prop}{c c' lo hi:Int}{Z:Nat}{L a:List NQ}(h:Gn E A F K c Z L)(u:xZ lo hi L a)(k:∀ j,K j->j < lo\/hi<=j)(g:c'=0->c=0):Gn E A F K c' Z a:=fun e j i=>by
 obtain⟨b,d,f⟩:=h (g e) j i;exact⟨b,u.off d Qh,f⟩
theorem gZ.whc(h:gZ H X U L I A F m s Y vI D M B R V w){k:Nat}{b:NQ}{a:List Int}(g:L[k]?=some b)(o:b.e=a){j l:Value}{c d:Nat}(f:V[k]?=some (j,l,Qe c a.length d)){i:Nat}{x:Int}(q:a[i]?=some x):w.cell? ⟨c,i,none⟩=some (Qc x):=by
 obtain⟨_,_,t,-,h0,e,-,-⟩:=h.node g;rw[f]at h0;cases h0;have p:=e.h
 grind[dQ,Value.slice.injEq,Option.some.injEq,Addr.mk.injEq]
def fnQ(ps:List aU)(ws:List (Int × (Ns->Ns)))(g:Ns->Ns)(s:Ns):Ns:=g (whQ ws 0 (aEE ps 0 {s with b:=[]}))
def xX(p:aU)(i:Nat)(s:Ns):Ns:=if 4<=i then(if 0<=s.var p.f then s.e0 4 p.e else s).e0 5 p.e else if 0<=s.var p.f then s.e0 4 p.e else s
theorem xS(p:aU)(r:List aU)(i:Nat)(s:Ns):aEE (p::r) i s=aEE r (i+1) {xX p i s with b:=(xX p i s).b++[p.f]}:=rfl
theorem uO(p:aU)(i:Nat)(s:Ns):(xX p i s).d=s.d/\(xX p i s).b=s.b:=by
 grind[xX,cY]
theorem aIJ:∀ (ps:List aU) (i:Nat) (s:Ns),(aEE ps i s).b.length=s.b.length+ps.length
 |[],_,_=>rfl
 |p::r,i,s=>by
  rw[xS,aIJ r]
  grind[uO]
set_option maxRecDepth 100000 in
set_option maxHeartbeats 16000000 in
theorem bA0(hZ:E.length<=100000){k:Nat}{P:NQ}(l8:E[k]?=some P){cs:List (Int × (Ns->Ns))}{g:Ns->Ns}{lo mid:Int}{y:Int}{Kw Kb:Int->Prop}(l9:P.g.length<=90000)(n5:P.e.length<=100000)(l6:P.c=[y])(p9:mid<=k)(c9:xC H X U I A F m Y vI D M V E P.e cs lo mid Kw)(hy:kY H X U I A F m Y vI D M V E y g mid k Kb)(hL:vW E L)(hs:(s.d.length:Int)+(k - lo)<=1000000)(h:gZ H X U L I A F m s Y vI D M B R V w):
 Calls prog 63 #[Qd X,Qc k] w fun e w'=>e= .returned (.tuple #[])/\(fnQ P.g cs g s).b.length<=100000/\((fnQ P.g cs g s).d.length:Int)<=s.d.length+(k - lo)/\∃ L' g6 h4,gZ H X U L' I A F m (fnQ P.g cs g s) Y vI D M g6 h4 V w'/\Nx X U Y B R g6 h4 w w'/\xZ lo (k+1) L L'/\(∃ b,L'[k]?=some b/\b.b=(fnQ P.g cs g s).b.length)/\P.g.length<=(fnQ P.g cs g s).b.length/\Gn E A F Kw (fnQ P.g cs g s).a P.g.length L'/\Gd E A F Kb (fnQ P.g cs g s) L':=by
 obtain⟨b,hb,k0⟩:=hL.same k P l8;have HP:Hid (b.g=P.g/\b.e=P.e/\b.c=P.c):=⟨k0.g,k0.e,k0.c⟩;have q0:b.g.length<=90000:=by rw[HP.o.1];exact l9
 have l5:k < L.length:=(List.getElem?_eq_some_iff.1 hb).1;have o9:L.length<=100000:=by rw[hL.len];exact hZ
 have o1:=h.fresh Ol;obtain⟨⟨p0,p1,_,_,pf⟩,g0,_⟩:=h.cells;have a9:=pf 1;obtain⟨gr,d,a1,J,W,k2,G,K,g7,b8,_,⟨e0,e1,e2,e3,e4,e5,e6,e7,e8,e9,i6⟩,_,p4⟩:=h.p0 hb;subst g7;have p2:0<=(k:Int)/\(k:Int) < (L.length:Int):=Oa
 have h1:=h.alloc (rJ b a1 J W k2 G K);have y1:=(Nx.refl X U (Qe gr L.length d) B R w).alloc (rJ b a1 J W k2 G K);have q1:(w.alloc (rJ b a1 J W k2 G K)).1[w.1.size]?=some (Qf #[Qc b.d,Qc b.at_,.string b.s,Qc b.n,Qc b.mid,.slice a1 b.c.length J,.slice W b.g.length k2,.slice G b.e.length K,Qc b.b,Qc b.ref,Qc b.f] 73):=Qk w _;have HV:Hid (V[k]?=some (.slice a1 b.c.length J,.slice W b.g.length k2,.slice G b.e.length K)):=b8;clear h k0 b8 pf;go_enter func63,ntmps63
 go_upto_region 1 with fail
 clear p0 p1 a9 g0 e0 e1 e2 e3 e4 e5 e6 e7 e8 e9 i6;generalize (w.alloc (rJ b a1 J W k2 G K))=W1 at*;obtain⟨⟨p0,p1,_,_,pf⟩,g0,_⟩:=h1.cells;have a9:=pf 1;obtain⟨Z,y2⟩:=h1.f1;have f6:w.1.size≠X:=o1.n;have q2:=(Below.heap_setCell W1 ⟨X,1,none⟩ (.slice none 0 0) w.1.size f6).t q1;have o2:yA X U (Qe gr L.length d) B (.slice none 0 0) w.1.size:=⟨o1.n,o1.g,o1.l,o1.s,by simp[Value.ownBlock]⟩;have H2:Hid (gZ H X U L I A F m {s with b:=[]} (Qe gr L.length d) vI D M B (.slice none 0 0) V (W1.setCell ⟨X,1,none⟩ (.slice none 0 0))/\Nx X U (Qe gr L.length d) B R B (.slice none 0 0) w (W1.setCell ⟨X,1,none⟩ (.slice none 0 0))):=⟨Z,y1.t y2⟩;clear h1 Z y1 y2 q1 o1 pf f6;go_wp2_with fail
 clear p0 p1 a9 g0;go_loopg [5] (b.g.length+1) (fun n v5 wr=>∃ (i:Nat) (C:Ns) (a8:Value),v5= Qc i/\i+n=b.g.length+1/\gZ H X U L I A F m C (Qe gr L.length d) vI D M B a8 V wr/\Nx X U (Qe gr L.length d) B R B a8 w wr/\wr.1[w.1.size]?=some (Qf #[Qc b.d,Qc b.at_,.string b.s,Qc b.n,Qc b.mid,.slice a1 b.c.length J,.slice W b.g.length k2,.slice G b.e.length K,Qc b.b,Qc b.ref,Qc b.f] 73)/\yA X U (Qe gr L.length d) B a8 w.1.size/\C.d=s.d/\C.b.length=i/\aEE (b.g.drop i) i C=aEE b.g 0 {s with b:=[]})
 case atStart=>exact⟨0,{s with b:=[]},_,rfl,Oa,H2.o.1,H2.o.2,q2,o2,rfl,rfl,by rw[List.drop_zero]⟩
 case round=>
  clear q2 o2 H2;obtain⟨i,C,a8,rfl,k3,hr,yr,qr,a6,j3,z9,j4⟩:=hrel;have c6:wr.cell? ⟨w.1.size,6,none⟩=some (.slice W b.g.length k2):=cell_of_row _ _ _ _ _ _ qr
  by_cases hi:i < b.g.length
  ·obtain⟨p,hp⟩:∃ p,b.g[i]?=some p:=⟨b.g[i],by simp[hi]⟩;rw[pU hp,xS]at j4;obtain⟨_,_,vk,-,k8,y0,-,-⟩:=hr.node hb;have k7:=HV.o;rw[k7]at k8;cases k8;obtain⟨u,q,k9,-,-⟩:=aD1 y0.p hp;have h9:Value.slice W b.g.length k2= Qe u b.g.length q:=k9;have g3:Hid (V[k]?=some (.slice a1 b.c.length J,Qe u b.g.length q,.slice G b.e.length K)):=by rw[Hid,k7,h9]
   have qr:=qr.t (by rw[h9]);have i3:Hid (Value.slice W b.g.length k2= Qe u b.g.length q):=h9;obtain⟨l1,l2,-⟩:=hr.par hb g3.o hp;have i8:0<=(i:Int)/\(i:Int) < (b.g.length:Int):=Oa
   have tl:decide ((i:Int) < (b.g.length:Int))=true:=by simp;omega
   have n4:IntKind.i64.wrap ((i:Int)+1)=(i:Int)+1:=IntWalk.i64_in _ Oa;obtain⟨n2,rfl⟩:=Oj gk;have b6:wr.cell? ⟨w.1.size,6,none⟩=some (Qe u b.g.length q):=c6.t (by rw[h9]);have qR:wr.1[w.1.size]?=some (Qf #[Qc b.d,Qc b.at_,.string b.s,Qc b.n,Qc b.mid,.slice a1 b.c.length J,Qe u b.g.length q,.slice G b.e.length K,Qc b.b,Qc b.ref,Qc b.f] 73):=qr;clear c6 k9 h9 k7 y0 qr;go_wp2_with fail
   refine(yI p.f Oa hr).mono ?_;rintro e W3 ⟨rfl,rfl⟩;obtain⟨a7,hv⟩:∃ a7,a7=C.var p.f:=⟨_,rfl⟩;rw[<-hv];rcases(by omega:0<=a7\/a7 < 0)with h0|h0
   case' inl=>
    have t8:decide (a7≥0)=true:=by simp;omega
    obtain⟨s1,y9⟩:∃ x,Hid (x=C.e0 4 p.e):=⟨_,rfl⟩;have HS:Hid (s1=if 0<=C.var p.f then C.e0 4 p.e else C):=by rw[Hid,<-hv,if_pos h0,y9.o]
    clear h0 hv;go_wp2_with fail
    refine(jW 4 p.e hr).mono ?_;rintro e W4 ⟨rfl,o,z4⟩;rw[<-y9.o]at o;obtain⟨o4,v⟩:=a6.nx z4 (Oo qR);have v:=v.t qR;have y4:=yr.t z4;clear hr qR yr a6 z4 y9 l1 l2 b6
   case' inr=>
    have t8:decide (a7≥0)=false:=by simp;omega
    obtain⟨s1,y9⟩:∃ x,x=C:=⟨_,rfl⟩;have HS:Hid (s1=if 0<=C.var p.f then C.e0 4 p.e else C):=by rw[Hid,<-hv,Oh,y9]
    obtain⟨W4,g1⟩:∃ x,x=wr:=⟨_,rfl⟩;have o:=hr;rw[<-y9]at o;have o4:=a6;have v:=qR;have y4:=yr;rw[<-g1]at o v y4;clear h0 hv hr qR yr a6 l1 l2 b6 y9;subst g1
   all_goals
    have c6:W4.cell? ⟨w.1.size,6,none⟩=some (Qe u b.g.length q):=cell_of_row _ _ _ _ _ _ v;obtain⟨l1,l2,-⟩:=o.par hb g3.o hp;rcases(by omega:4<=i\/i < 4)with h0|h0
   case' inl.inl|inr.inl=>
    have t9:decide ((i:Int)≥4)=true:=by simp;omega
    obtain⟨a,y8⟩:∃ x,Hid (x=s1.e0 5 p.e):=⟨_,rfl⟩;have m5:Hid (a=xX p i C):=by rw[Hid,xX,if_pos h0,y8.o,HS.o]
    clear h0;go_wp2_with fail
    refine(jW 5 p.e o).mono ?_;rintro e W5 ⟨rfl,h5,z5⟩;rw[<-y8.o]at h5;obtain⟨o5,q5⟩:=o4.nx z5 (Oo v);have q5:=q5.t v;have y5:=y4.t z5;clear o v y4 o4 z5 y8 HS l1 l2 c6
   case' inl.inr|inr.inr=>
    have t9:decide ((i:Int)≥4)=false:=by simp;omega
    obtain⟨a,y8⟩:∃ x,x=s1:=⟨_,rfl⟩;have m5:Hid (a=xX p i C):=by rw[Hid,xX,Oh,y8,HS.o]
    obtain⟨W5,b9⟩:∃ x,x=W4:=⟨_,rfl⟩;have h5:=o;rw[<-y8]at h5;have o5:=o4;have q5:=v;have y5:=y4;rw[<-b9]at h5 q5 y5;clear h0 o v y4 o4 HS y8 l1 l2 c6;subst b9
   all_goals
    have m0:Hid (a.b.length=i/\a.d=s.d):=by rw[Hid,m5.o,(uO p i C).1,(uO p i C).2];exact⟨z9,j3⟩
    have q7:a.b.length<=100000:=by rw[m0.o.1];omega
    obtain⟨av,cv,rfl,_⟩:=bP h5.b;have c6:W5.cell? ⟨w.1.size,6,none⟩=some (Qe u b.g.length q):=cell_of_row _ _ _ _ _ _ q5;obtain⟨l1,l2,j6⟩:=h5.par hb g3.o hp;obtain⟨⟨p0,c1,_,_,cf⟩,_⟩:=h5.cells;have f1:=cf 1;obtain⟨i0,i9,n7,n8,n9⟩:=info_parts infoStr;have g8:X < W5.1.size:=Qp _ _ p0;have n1:w.1.size < W5.1.size:=(Oo q5);have hH:=h5.size;have ho:=h5.b;have ag:some X≠(Value.slice av a.b.length cv).ownBlock:=fun e=>cV h5.b h5.nm Ob e.symm;have aq:some w.1.size≠(Value.slice av a.b.length cv).ownBlock:=fun e=>o5.v e.symm;have HH:Hid (gZ H X U L I A F m a (Qe gr L.length d) vI D M B (.slice av a.b.length cv) V W5):=h5;have HQ:Hid (W5.1[w.1.size]?=some (Qf #[Qc b.d,Qc b.at_,.string b.s,Qc b.n,Qc b.mid,.slice a1 b.c.length J,Qe u b.g.length q,.slice G b.e.length K,Qc b.b,Qc b.ref,Qc b.f] 73)):=q5;clear h5 cf q5 z9 j3;go_upto_region 10 with fail
   all_goals
    go_region_law
     ((refine step_append_lies _ (by rfl) _ _ _ (by rfl) H 9 i0 _ 1 16 underlying58 i9 n7 n8 n9 rfl Oa (.slice av a.b.length cv) a.b.length (aB9 a.b) (by rfl) ((ho.alloc _).drew)
        ⟨W5.1.size,0,none⟩ 1 1 [.string p.f] (by rfl) (by rfl) (World.news_of_block (cs:=#[.string p.f]) (t:=9) (fr:=(0,0)) (Qk W5 _)) (by simp[Value.oneCell'])
        Oa (by unfold maxLen;omega) Oa (by simp;omega) (W5.1.size+1) Od ?_;intro gg o8 w1 j5 k4 i7 p8;have q1:=(k4.cell_far ⟨X,1,none⟩ (gK g8) ag).t (lT g8 c1);have q2:=(k4.frozen_far ⟨X,1,none⟩ (gK g8) ag).t (rO g8 f1)))
   all_goals obtain⟨h6,z6⟩:=HH.o.b1 (x:=p.f) (w1:=(W5.alloc (Qf #[.string p.f] 9)).drew) ⟨rfl,rfl,rfl,by simp[World.drew]⟩ (fun _ hk=>On hk) j5 k4 (i7.imp id (fun e=>e.t (by simp[World.drew])))
   all_goals obtain⟨o6,q6⟩:=o5.nx z6 n1
   all_goals go_wp2
   all_goals
    (go_roundg n2
     case rel=>exact⟨i+1,{a with b:=a.b++[p.f]},_,Od,Oa,h6,y5.t z6,(q6.t HQ.o).t (by rw[i3.o]),o6,m0.o.2,by simp[m0.o.1],by rw[m5.o];exact j4⟩
     case measure=>omega)
  ·have tl:decide ((i:Int) < (b.g.length:Int))=false:=by simp;omega
   rw[List.drop_eq_nil_of_le Oa]at j4;have b4:Hid (C=aEE b.g 0 {s with b:=[]}):=j4;have m7:C.b.length<=100000:=Oa
   have m9:C.b.length=b.g.length:=by rw[b4.o,aIJ];simp
   clear j4 k3;go_wp2_with fail
   have q8:b.e.length<=100000:=by rw[HP.o.2.1];exact n5
   have b5:Hid (xC H X U I A F m (Qe gr L.length d) vI D M V E (b.e.drop 0) cs lo mid Kw):=by rw[Hid,List.drop_zero,HP.o.2.1];exact c9
   have m8:(C.d.length:Int)<=s.d.length+(lo - lo):=by rw[j3];omega
   have HH:Hid (gZ H X U L I A F m C (Qe gr L.length d) vI D M B a8 V wr/\Nx X U (Qe gr L.length d) B R B a8 w wr):=⟨hr,yr⟩;clear hr yr z9 j3 c6 c9;go_loopg [7] (b.e.length+1) (fun n v7 w2=>∃ (j:Nat) (a:Ns) (L2:List NQ) (a4 a5:Value) (a3:Int) (cr:List (Int × (Ns->Ns))) (Kd Kr:Int->Prop),v7= Qc j/\j+n=b.e.length+1/\gZ H X U L2 I A F m a (Qe gr L.length d) vI D M a4 a5 V w2/\Nx X U (Qe gr L.length d) B R a4 a5 w w2/\xZ lo (k+1) L L2/\vW E L2/\w2.1[w.1.size]?=some (Qf #[Qc b.d,Qc b.at_,.string b.s,Qc b.n,Qc b.mid,.slice a1 b.c.length J,.slice W b.g.length k2,.slice G b.e.length K,Qc b.b,Qc b.ref,Qc b.f] 73)/\yA X U (Qe gr L.length d) a4 a5 w.1.size/\xC H X U I A F m (Qe gr L.length d) vI D M V E (b.e.drop j) cr a3 mid Kr/\lo<=a3/\whQ cr j a=whQ cs 0 C/\(a.d.length:Int)<=s.d.length+(a3 - lo)/\a.b.length<=100000/\Hid (a.b.length=b.g.length/\Gn E A F Kd a.a b.g.length L2/\(∀ j,Kw j->Kd j\/Kr j)/\∀ j,Kd j->j < a3))
   case atStart=>exact⟨0,C,L,_,_,lo,cs,fun _=>False,Kw,rfl,Oa,HH.o.1,HH.o.2,xZ.refl _ _ _,hL,qr,a6,b5,Int.le_refl _,rfl,m8,m7,m9,fun _ _ e=>e.elim,fun _ e=> .r e,fun _ e=>e.elim⟩
   case round=>
    clear qr a6 b5 HH m8 m7 m9;obtain⟨j,a,L2,a4,a5,a3,cr,Kd,Kr,rfl,l3,Z,y2,u2,g2,q2,o2,d6,p7,g5,j3,z9,y7⟩:=hrel;have c7:wr.cell? ⟨w.1.size,7,none⟩=some (.slice G b.e.length K):=cell_of_row _ _ _ _ _ _ q2
    by_cases k1:j < b.e.length
    ·obtain⟨x,hx⟩:∃ x,b.e[j]?=some x:=⟨b.e[j],by simp[k1]⟩;rw[pU hx]at d6;obtain⟨n,f,r,kk,K1,K2,rfl,hn,z0,z1,p6,f2,j8⟩:=d6;obtain⟨bk,k6,a2,_⟩:=u2.same k b hb;obtain⟨bn,m3,f8⟩:=g2.ndq hn;obtain⟨_,_,vk,-,k8,y0,-,-⟩:=Z.node k6;have k7:=HV.o;rw[k7]at k8;cases k8;have h8:=y0.h;rw[a2.e]at h8;obtain⟨u,q,k9,h7⟩:=dQ h8 hx;have h9:Value.slice G b.e.length K= Qe u b.e.length q:=k9;have i8:0<=(j:Int)/\(j:Int) < (b.e.length:Int):=Oa
     have tl:decide ((j:Int) < (b.e.length:Int))=true:=by simp;omega
     have n4:IntKind.i64.wrap ((j:Int)+1)=(j:Int)+1:=IntWalk.i64_in _ Oa;obtain⟨n2,rfl⟩:=Oj gk;have b7:wr.cell? ⟨w.1.size,7,none⟩=some (Qe u b.e.length q):=c7.t (by rw[h9]);have m4:L2.length=L.length:=u2.len;obtain⟨x',n6⟩:∃ x':Nat,x=(x':Int):=⟨x.toNat,Oi m3.1⟩;subst n6;have j9:L2[x']?=some bn:=m3.2;obtain⟨g9,i5,v9,j1,-,-,c8,-⟩:=Z.node j9;simp only[Value.slice.injEq,Option.some.injEq,Addr.mk.injEq]at j1;obtain⟨⟨rfl,-⟩,-,rfl⟩:=j1;have d1:wr.cell? ⟨gr,x'*11+1,none⟩=some (Qc n.at_):=(c8 1 Oa).t (by rw[<-f8.at_];rfl);have p3:0<=(x':Int)/\(x':Int) < (L.length:Int):=by have:=(List.getElem?_eq_some_iff.1 j9).1;omega
     obtain⟨⟨p0,_⟩,g0,_⟩:=Z.cells;have i4:Hid (Value.slice G b.e.length K= Qe u b.e.length q):=h9;have g3:Hid (V[k]?=some (.slice a1 b.c.length J,.slice W b.g.length k2,Qe u b.e.length q)):=by rw[Hid,k7,h9]
     have HB:Hid (L2[k]?=some bk/\bk.e=b.e):=⟨k6,a2.e⟩;have p5:=xC.le z1;have qR:wr.1[w.1.size]?=some (Qf #[Qc b.d,Qc b.at_,.string b.s,Qc b.n,Qc b.mid,.slice a1 b.c.length J,.slice W b.g.length k2,Qe u b.e.length q,Qc b.b,Qc b.ref,Qc b.f] 73):=q2.t (by rw[h9]);have f7:w.1.size < wr.1.size:=(Oo qR);have HW:Hid (whQ ((n.at_,f)::r) j a=whQ cs 0 C):=g5;have HN:Hid (vW E L2/\xZ lo (k+1) L L2/\xC H X U I A F m (Qe gr L.length d) vI D M V E (b.e.drop (j+1)) r kk mid K2):=⟨g2,u2,z1⟩;have HC:Hid ((∀ s,(f s).b=s.b)/\∀ j,Kr j->K1 j\/K2 j):=⟨f2,j8⟩;clear h8 y0 k6 a2 k7 c7 k9 h9 c8 g2 u2 z1 m3 hn f8 m4 g5 q2 f2 j8;rcases(by omega:4<=j\/j < 4)with h0|h0
     case' inl=>
      have t9:decide ((j:Int)≥4)=true:=by simp;omega
      go_upto_region 15 with fail
      obtain⟨O,z8⟩:∃ x,Hid (x=a.e0 5 n.at_):=⟨_,rfl⟩;have HS:Hid (O=if 4<=j then a.e0 5 n.at_ else a):=by rw[Hid,if_pos h0,z8.o]
      go_region_with (go_at_call 65;refine(jW 5 n.at_ (by first|exact Z.drewN 1|exact Z)).mono ?_;rintro e W4 ⟨rfl,o,z4⟩;rw[<-z8.o]at o;obtain⟨o4,v⟩:=o2.nx z4 f7;have v:=v.t qR;have y4:Nx X U (Qe gr L.length d) B R a4 a5 w W4:=(by first|exact y2.t z4|exact(y2.drewN 1).t z4);clear Z z4 o2 qR y2 b7 d1 p0 g0 h7)
     case' inr=>
      have t9:decide ((j:Int)≥4)=false:=by simp;omega
      obtain⟨O,z8⟩:∃ x,x=a:=⟨_,rfl⟩;have HS:Hid (O=if 4<=j then a.e0 5 n.at_ else a):=by rw[Hid,Oh,z8]
      obtain⟨W4,g1⟩:∃ x,x=wr:=⟨_,rfl⟩;have o:=Z;rw[<-z8]at o;have o4:=o2;have v:=qR;have y4:=y2;rw[<-g1]at o v y4;clear Z o2 qR y2 b7 d1 p0 g0 h7 z8 f7;subst g1
     all_goals
      have l4:O.d.length=a.d.length/\O.b.length=a.b.length:=by rw[HS.o];split<;>simp[cY]
      have d8:O.b.length<=100000:=Oa
      have j2:(O.d.length:Int)<=s.d.length+(a3 - lo):=Oa
      clear l4;have c7:W4.cell? ⟨w.1.size,7,none⟩=some (Qe u b.e.length q):=cell_of_row _ _ _ _ _ _ v;have z2:=o.whc HB.o.1 HB.o.2 g3.o hx;go_wp2_with fail
      refine(z0.2 O L2 a4 a5 W4 HN.o.1 d8 Oa o).mono ?_;rintro e w6 ⟨rfl,d7,q4,L6,o3,o7,h6,y6,u6,j6⟩
      have i2:Hid ((f O).b.length=b.g.length/\Gn E A F (fun j=>Kd j\/K1 j) (f O).a b.g.length L6/\(∀ j,Kw j->(Kd j\/K1 j)\/K2 j)/\∀ j,(Kd j\/K1 j)->j < kk):=by
       obtain⟨d0,d1,d2,d3⟩:=y7.o
       have e0:(f O).b.length=b.g.length:=by
        rw[HC.o.1,HS.o,<-d0]
        split<;>simp[cY]
       have e1:O.a=0->a.a=0:=fun e=>by
        rw[HS.o]at e
        by_cases c:4<=j
        ·rw[if_pos c]at e;exact absurd e (mX Ob)
        ·rw[if_neg c]at e;exact e
       have j6:Gn E A F K1 (f O).a b.g.length L6:=by rw[<-e0];exact j6
       have d1:Gn E A F Kd (f O).a b.g.length L6:=d1.keep u6 (fun j l=> .l (d3 j l)) (fun e=>e1 (z0.1.1.a _ e));refine⟨e0,fun e j l=>l.elim (d1 e j) (j6 e j),fun j l=>?_,fun j l=>?_⟩
       ·rcases d2 j l with e|e
        ·exact .l (.l e)
        ·exact(HC.o.2 j e).elim (fun e=> .l (.r e)) .r
       ·rcases l with e|e
        ·have:=d3 j e;omega
        ·have:=z0.1.2 j e;omega
      obtain⟨o6,q6⟩:=o4.nx y6 (Oo v);have q6:=(q6.t v).t (show _=some (Qf #[Qc b.d,Qc b.at_,.string b.s,Qc b.n,Qc b.mid,.slice a1 b.c.length J,.slice W b.g.length k2,.slice G b.e.length K,Qc b.b,Qc b.ref,Qc b.f] 73)by rw[i4.o]);clear c7 z2 tl j6 y7 HC;go_wp2
     all_goals
      (go_roundg n2
       case rel=>exact⟨j+1,f O,L6,o3,o7,kk,r,_,K2,Od,Oa,h6,y4.t y6,HN.o.2.1.t (u6.wide Oa Oa),HN.o.1.upd u6,q6,o6,HN.o.2.2,Oa,by rw[HS.o];exact HW.o,Oa,d7,i2⟩
       case measure=>omega)
    ·have tl:decide ((j:Int) < (b.e.length:Int))=false:=by simp;omega
     rw[List.drop_eq_nil_of_le Oa]at d6;obtain⟨rfl,l7,m2⟩:=d6;have g4:Hid (a.b.length=b.g.length/\Gn E A F Kw a.a b.g.length L2/\∀ j,Kw j->j < a3):=⟨y7.o.1,fun e j l=>y7.o.2.1 e j ((y7.o.2.2.1 j l).resolve_right (m2 j)),fun j l=>y7.o.2.2.2 j ((y7.o.2.2.1 j l).resolve_right (m2 j))⟩;clear m2 y7
     have b2:Hid (g a=fnQ P.g cs g s):=by
      have e:a=whQ cs 0 C:=g5;rw[Hid,fnQ,e,b4.o,HP.o.1]
     clear g5 l3;obtain⟨bk,k6,a2,_⟩:=u2.same k b hb;obtain⟨_,_,vk,-,k8,y0,-,-⟩:=Z.node k6;have k7:=HV.o;rw[k7]at k8;cases k8;have h8:=y0.k;have z7:b.c=[y]:=HP.o.2.2.t l6;have m6:bk.c[0]?=some y:=by rw[a2.c,z7];rfl
     rw[<-a2.c]at h8;obtain⟨u,q,k9,h7⟩:=dQ h8 m6;have m1:b.c.length=1:=by rw[z7];rfl
     have h9:Value.slice a1 b.c.length J= Qe u 1 q:=by
      have:=k9;rw[a2.c,m1]at this;rw[m1];exact this
     have c5:wr.cell? ⟨w.1.size,5,none⟩=some (Qe u 1 q):=by rw[<-h9];exact cell_of_row _ _ _ _ _ _ q2
     have HM:Hid (k < L.length/\a3<=mid):=⟨l5,l7⟩;clear k6 a2 k7 h8 y0 m6 k9 m1 h9 z7 q2 o2;go_wp2_with fail
     refine(hy.2 a L2 a4 a5 wr g2 z9 Oa Z).mono ?_;rintro e W3 ⟨rfl,d9,q3,L3,h2,q9,h3,z3,u3,f4⟩;have b3:Hid (b.g.length<=(g a).b.length/\Gn E A F Kw (g a).a b.g.length L3/\Gd E A F Kb (g a) L3/\(∀ j,Kw j->j < k)/\∀ j,Kb j->j < k):=⟨by rw[<-g4.o.1];exact hy.1.1.b a,g4.o.2.1.keep u3 (fun j l=>by have:=g4.o.2.2 j l;omega) (hy.1.1.a a),f4,fun j l=>Oi (g4.o.2.2 j l),fun j l=>(hy.1.2 j l).2⟩;clear c5 c7 h7 tl;have y3:=y2.t z3;have u23:=u2.t (u3.wide (lo':=lo) (hi':=(k:Int)+1) Oa Oa);obtain⟨bk,k6,a2,_⟩:=u23.same k b hb;generalize n3:g a=z at*;have HG:Hid (z=fnQ P.g cs g s):=b2.o;have j2:(z.d.length:Int)<=s.d.length+(k - lo):=Oa
     clear n3 b2 Z y2 u2 z3 u3 g2 f4 g4;have j0:Qe gr L.length d=Qe gr L3.length d:=by rw[u23.len]
     obtain⟨av,cv,rfl,_⟩:=bP h3.b;obtain⟨⟨p0,c1,_⟩,g0,_⟩:=h3.cells;obtain⟨g9,i5,v9,g7,-,-,k5,j7⟩:=h3.node k6;simp only[Value.slice.injEq,Option.some.injEq,Addr.mk.injEq]at g7;obtain⟨⟨rfl,-⟩,-,rfl⟩:=g7;have e9:W3.cell? ⟨gr,k*11+8,none⟩=some (Qc bk.b):=k5 8 Oa;have f9:=j7 (k*11+8);obtain⟨o,z4,u4⟩:=h3.e1 k6 (z.b.length:Int) j0;have f5:k < L3.length:=(List.getElem?_eq_some_iff.1 k6).1;have H4:Hid (gZ H X U (L3.set k {bk with b:=(z.b.length:Int)}) I A F m z (Qe gr L.length d) vI D M h2 (.slice av z.b.length cv) V (W3.setCell ⟨gr,k*11+8,none⟩ (Qc z.b.length)).drew/\Nx X U (Qe gr L.length d) B R h2 (.slice av z.b.length cv) w (W3.setCell ⟨gr,k*11+8,none⟩ (Qc z.b.length)).drew/\xZ lo (k+1) L (L3.set k {bk with b:=(z.b.length:Int)})/\∃ b,(L3.set k {bk with b:=(z.b.length:Int)})[k]?=some b/\b.b=z.b.length):=⟨o.drewN 1,(y3.t z4).drewN 1,u23.t (u4.wide Oa Oa),{bk with b:=(z.b.length:Int)},by simp[f5],rfl⟩
     have i1:Hid (P.g.length<=z.b.length/\Gn E A F Kw z.a P.g.length (L3.set k {bk with b:=(z.b.length:Int)})/\Gd E A F Kb z (L3.set k {bk with b:=(z.b.length:Int)})):=by
      rw[Hid,<-HP.o.1];obtain⟨d1,d2,d3,d4,d5⟩:=b3.o;exact⟨d1,d2.keep u4 (fun j l=> .l (d4 j l)) id,Gn.keep d3 u4 (fun j l=> .l (d5 j l)) id⟩
     clear k5 j7 h3 y3 u23 o z4 u4 a2 k6 j0 f5 b3;go_upto_region 18 with fail
     go_region
     go_wp2;go_end0
     rw[<-HG.o];exact⟨rfl,d9,j2,_,_,_,H4.o.1,H4.o.2.1,H4.o.2.2.1,H4.o.2.2.2,i1.o⟩
end
section
variable {H X U:Nat} {I A F:List Int} {m:Int} {Y vI D M:Value} {V:List V3} {B:List NQ} {S:List (ByteArray × Int)} {FQ:List (Nat × Nat)}
def aBU(S:List (ByteArray × Int))(FQ:List (Nat × Nat)):Tr->List (Int × (Ns->Ns))
 | .nil=>[]
 | .node _ _ _ l r=>(aS3 l,mQ S FQ l)::aBU S FQ r
theorem aXJ(t:Tr)(s:Ns)(h:Ws 21 t):(mQ S FQ t s).b=s.b:=by
 cases t with
 |nil=>rfl
 |node b o a l r=>
  grind[Ws,mD,mQ,nm1,aJZ,pP,cY]
theorem aPQ{l:Tr}(h:Ws 20 l){x lo m:Int}(c:NX B l [x] lo m):(∃ n,jM B x n/\n.d=9)/\∀ s,(mQ S FQ l s).b=s.b:=by
 cases l with
 |nil=>simp[NX]at c
 |node b o a l r=>
  unfold Ws at h;obtain⟨_,_,h⟩:=h
  by_cases d:a.a=7
  ·have e:mD 20 a.a=some (21,21):=by simp[mD,d]
   rw[e]at h;refine⟨?_,fun s=>?_⟩
   ·unfold NX at c;rw[Oh,Oh,Oh,Oh]at c
    grind
   grind[yX,aXJ]
  grind[mD]
section
variable (N:aBX B I S) (hF:aAN B F FQ) (E:∀ x,dA x 1 S 0 < A.length) (C:∀ x,dA x 2 S 0 < F.length) (G:I.length<=100000) (O:F.length<=100000) (J:B.length<=100000)
include N hF E C G O J
theorem aQK:∀ (t:Tr) (d:List Int) (lo hi:Int),Ws 15 t->0<=lo->NW B t d lo hi->∃ K,xC H X U I A F m Y vI D M V B d (aBU S FQ t) lo hi K/\Cl B K/\∀ y∈d,K y/\∃ n,jM B y n/\n.d=9:=by
 intro t
 induction t with
 |nil=>
  rintro d lo hi _ _ ⟨rfl,h⟩;exact⟨fun _=>False,⟨rfl,h,fun _ e=>e⟩,fun _ e=>e.elim,fun _ e=>by cases e⟩
 |node b o a l r _ ihr=>
  rintro d lo hi c x ⟨a3,ys,n,a2,rfl,g,q,u,v⟩;unfold Ws at c;obtain⟨_,_,c⟩:=c
  by_cases h0:a.a=15
  ·rw[h0]at c;have z:=g.le;obtain⟨i,k1,k2,k3⟩:=aFP (X:=X) (U:=U) (m:=m) (Y:=Y) (vI:=vI) (D:=D) (M:=M) (V:=V) (H:=H) N hF E C G O J l 20 _ _ _ rfl c.1 x g;obtain⟨j,j1,j2,p⟩:=ihr _ _ _ c.2 Oa v;obtain⟨W,Z⟩:=aPQ (S:=S) (FQ:=FQ) c.1 g;refine⟨fun k=>i k\/j k,⟨n,_,_,a2,i,j,by rw[u];rfl,q,k1.o,j1,z,Z,fun _ h=>h⟩,k2.or j2,fun y f=>?_⟩;rcases List.mem_cons.1 f with rfl|f
   ·exact⟨.l (k3 _ Od).1,W⟩
   ·exact⟨.r (p y f).1,(p y f).2⟩
  ·exfalso;simp[mD,h0]at c
theorem aTZ{t:Tr}{y lo hi:Int}(e:Ws 4 t)(h0:0<=lo)(h:NBx lo B t y)(d:y < hi):∃ K,kY H X U I A F m Y vI D M V B y (mQ S FQ t) lo hi K/\Cl B K/\K y/\∃ n,jM B y n/\n.d=19:=by
 obtain⟨n,a,b,c⟩:=h;obtain⟨K,f,g,i⟩:=aCD (X:=X) (U:=U) (m:=m) (Y:=Y) (vI:=vI) (D:=D) (M:=M) (V:=V) (H:=H) N hF E C G O J a h0 d b c.len (aFP N hF E C G O J t 4 _ _ _ rfl e h0 c);exact⟨K,f.o,g,(i y Od).1,n,a,b⟩
end
end
section
def kyF(c p:Int):Int:=if c=0 then 1000000 else p*8+c
def Ns.key(s:Ns):Int:=kyF s.a s.e
def okF(c p:Int):Prop:=c=0\/(0 < c/\c < 8/\0<=p/\p<=5000)
def Ns.g0(s:Ns):Ns:=⟨s.b,0,0,[]⟩
theorem aC8{c p c' p':Int}(h:okF c p)(a:okF c' p')(e:kyF c p=kyF c' p'):(c=0/\c'=0)\/(c≠0/\c=c'/\p=p'):=by
 grind[kyF,okF]
theorem uQ{c p:Int}(h:okF c p):kyF c p<=1000000:=by
 grind[kyF,okF]
theorem lA{s:Ns}{e p:Int}(h:okF s.a s.e)(a:0 < e/\e < 8)(b:0<=p/\p<=5000):okF (s.e0 e p).a (s.e0 e p).e/\(s.e0 e p).key=min s.key (p*8+e)/\(s.e0 e p).g0=s.g0:=by
 unfold Ns.e0 Ns.key kyF;unfold okF at h
 by_cases c:s.a=0\/p < s.e\/(p=s.e/\e < s.a)
 ·rw[if_pos c];refine⟨.r ⟨a.1,a.2,b.1,b.2⟩,?_,rfl⟩
  grind
 ·rw[if_neg c];refine⟨h,?_,rfl⟩;omega
structure sZ(g:Ns->Ns)(P:List Int):Prop where
 ok:∀ s:Ns,okF s.a s.e->okF (g s).a (g s).e
 cl:∀ s:Ns,okF s.a s.e->(g s).g0=(g s.g0).g0
 key:∀ s:Ns,okF s.a s.e->(g s).key=min s.key (g s.g0).key
 bd:∀ s:Ns,(g s.g0).key=1000000\/∃ p∈P,p*8 < (g s.g0).key/\(g s.g0).key < p*8+8
section
variable {f g:Ns->Ns} {P Q:List Int}
theorem mP(s:Ns):okF s.g0.a s.g0.e:= .l rfl
theorem sZ.sub(h:sZ g P)(c:∀ p∈P,p∈Q):sZ g Q:=⟨h.ok,h.cl,h.key,fun s=>(h.bd s).imp id (fun⟨p,a,b⟩=>⟨p,c p a,b⟩)⟩
theorem sZ.id:sZ (fun s=>s) P:=⟨Od,fun _ _=>rfl,fun s h=>by
 have:s.g0.key=1000000:=rfl;have a:s.key<=1000000:=uQ h;omega,fun _=> .l rfl⟩
theorem sZ.comp(h:sZ f P)(k:sZ g Q):sZ (fun s=>g (f s)) (P++Q):=by
 have i:∀ s,okF s.a s.e->(g (f s)).g0=(g (f s.g0)).g0:=fun s a=>by
  rw[k.cl _ (h.ok s a),h.cl s a,<-k.cl _ (h.ok _ (mP s))]
 have j:∀ s,okF s.a s.e->(g (f s)).key=min s.key (g (f s.g0)).key:=fun s a=>by
  rw[k.key _ (h.ok s a),k.key _ (h.ok _ (mP s)),h.cl s a,h.key s a];omega
 refine⟨fun s a=>k.ok _ (h.ok s a),i,j,fun s=>?_⟩;have d:=k.key _ (h.ok _ (mP s));have c:=h.bd s;have b:=k.bd (f s.g0);have t:(f s.g0).key<=1000000:=uQ (h.ok _ (mP s));have u:(g (f s.g0).g0).key<=1000000:=uQ (k.ok _ (mP _));rw[d];rcases c with c|⟨p,v,x⟩
 ·rcases b with b|⟨q,l,o⟩
  ·omega
  ·exact .r ⟨q,Qh,Oa⟩
 ·rcases b with b|⟨q,l,o⟩
  ·exact .r ⟨p,Qh,Oa⟩
  ·rcases(by omega:(f s.g0).key<=(g (f s.g0).g0).key\/(g (f s.g0).g0).key<=(f s.g0).key)with e|e
   ·exact .r ⟨p,Qh,Oa⟩
   ·exact .r ⟨q,Qh,Oa⟩
theorem sZ.ite{C:Ns->Prop}[DecidablePred C](b:∀ s,C s↔C s.g0)(h:sZ f P)(k:sZ g P):sZ (fun s=>if C s then f s else g s) P:=by
 refine⟨fun s a=>?_,fun s a=>?_,fun s a=>?_,fun s=>?_⟩
 ·split
  ·exact h.ok s a
  ·exact k.ok s a
 ·by_cases c:C s
  ·rw[if_pos c,if_pos ((b s).1 c)];exact h.cl s a
  ·rw[if_neg c,if_neg (fun e=>c ((b s).2 e))];exact k.cl s a
 ·by_cases c:C s
  ·rw[if_pos c,if_pos ((b s).1 c)];exact h.key s a
  ·rw[if_neg c,if_neg (fun e=>c ((b s).2 e))];exact k.key s a
 ·split
  ·exact h.bd s
  ·exact k.bd s
theorem sZ.e0{e p:Int}(a:0 < e/\e < 8)(b:0<=p/\p<=5000):sZ (fun s=>s.e0 e p) [p]:=by
 refine⟨(by grind[lA]),fun s c=>?_,fun s c=>?_,fun s=> .r ⟨p,Od,?_⟩⟩
 ·exact(lA c a b).2.2.t rfl
 ·have i:=(lA c a b).2.1;have d:=(lA (mP s) a b).2.1;have h:s.g0.key=1000000:=rfl;omega
 ·have d:=(lA (mP s) a b).2.1;have h:s.g0.key=1000000:=rfl;omega
theorem sZ.fz(k p:Int):sZ (fun s=>s.f k p) P:=⟨fun _ h=>h,fun _ _=>rfl,fun s h=>by
 have a:(s.g0.f k p).key=1000000:=rfl;have b:(s.f k p).key=s.key:=rfl;have c:s.key<=1000000:=uQ h;omega,fun _=> .l rfl⟩
theorem sZ.add(x:ByteArray):sZ (fun s=>{s with b:=s.b++[x]}) P:=⟨Od,fun _ _=>rfl,fun s h=>by
 show s.key=min s.key (1000000:Int);have a:s.key<=1000000:=uQ h;omega,fun _=> .l rfl⟩
end
theorem aHM(x:ByteArray):∀ (l:List ByteArray) (k:Int),0<=k->(0<=aAR x l k↔x∈l)
 |[],k,h=>by simp[aAR]
 |y::r,k,h=>by
  have:=aHM x r (k+1) Oa
  grind[aAR]
theorem Ns.var_mem(s:Ns)(x:ByteArray):0<=s.var x↔x∈s.b:=aHM x s.b 0 Oa
def aE1(s:Rs)(n:Ns):Prop:=(∀ x,(dP x s.b).isSome=true↔x∈n.b)/\s.b.length=n.b.length
structure Sq(f:Rs->Rs)(g:Ns->Ns)(P:List Int):Prop where
 lin:sZ g P
 st:∀ s:Rs,s.a≠0->(f s).a=s.a/\(f s).e=s.e
 run:∀ (s:Rs) (n:Ns),s.a=0->aE1 s n->((f s).a=0/\(g n.g0).a=0/\aE1 (f s) (g n.g0))\/((f s).a≠0/\(f s).a=(g n.g0).a/\(f s).e=(g n.g0).e)
section
variable {f E:Rs->Rs} {g B:Ns->Ns} {P Q:List Int}
theorem Sq.sub(h:Sq f g P)(a:∀ p∈P,p∈Q):Sq f g Q:=⟨h.lin.sub a,h.st,h.run⟩
theorem Sq.id:Sq (fun s=>s) (fun s=>s) P:=⟨sZ.id,Oa,fun _ _ h k=> .l Qj⟩
theorem Sq.comp(h:Sq f g P)(k:Sq E B Q)(W:∀ u∈P,∀ v∈Q,u < v):Sq (fun s=>E (f s)) (fun s=>B (g s)) (P++Q):=by
 refine⟨h.lin.comp k.lin,fun s c=>?_,fun s n c p=>?_⟩
 ·obtain⟨a,i⟩:=h.st s c;obtain⟨b,d⟩:=k.st (f s) Oa;omega
 ·have e:=h.lin.ok _ (mP n);have t:=k.lin.ok _ e;have l:=k.lin.ok _ (mP (g n.g0));have z:=k.lin.key _ e;have x:=k.lin.bd (g n.g0);rcases h.run s n c p with⟨a,i,j⟩|⟨a,i,j⟩
  ·have hz:(g n.g0).key=1000000:=by grind[Ns.key,kyF]
   have K:(B (g n.g0).g0).key<=1000000:=uQ l;have o:(B (g n.g0)).key=(B (g n.g0).g0).key:=Qg
   have Z:(B (g n.g0)).b=(B (g n.g0).g0).b:=show(B (g n.g0)).g0.b=(B (g n.g0).g0).g0.b by rw[k.lin.cl _ e]
   have hi:=aC8 t l o;rcases k.run (f s) (g n.g0) a j with⟨b,d,q,k4⟩|⟨b,d,q⟩
   ·refine .l ⟨b,Oa,?_,?_⟩
    ·simp[*]
    simp[*]
   omega
  ·obtain⟨b,d⟩:=k.st (f s) a;have y:=h.lin.bd n
   grind[Ns.key,kyF,okF]
end
theorem Rs.fail_st(s:Rs)(c p:Int)(h:s.a≠0):(s.fail c p).a=s.a/\(s.fail c p).e=s.e:=by grind[Rs.fail]
theorem Rs.fail_new(s:Rs)(c p:Int)(h:s.a=0):s.fail c p=⟨s.b,c,p⟩:=if_pos h
theorem Sq.one{e p:Int}(b:0 < e/\e < 8)(c:0<=p/\p<=5000):Sq (fun s=>s.fail e p) (fun s=>s.e0 e p) [p]:=by
 refine⟨sZ.e0 b c,fun s a=>s.fail_st e p a,fun s n a d=> .r ?_⟩;rw[Rs.fail_new s e p a];unfold Ns.e0;rw[if_pos (.inl rfl)]
 grind
theorem Sq.f(k p:Int){P:List Int}:Sq (fun s=>s) (fun s=>s.f k p) P:=⟨sZ.fz k p,Oa,fun _ _ h k=> .l Qj⟩
theorem Sq.ite{f E:Rs->Rs}{g B:Ns->Ns}{P:List Int}{C:Rs->Prop}{D:Ns->Prop}[DecidablePred C][DecidablePred D](d:∀ s,D s↔D s.g0)(h0:∀ s n,aE1 s n->(C s↔D n))(h:Sq f g P)(k:Sq E B P):Sq (fun s=>if C s then f s else E s) (fun s=>if D s then g s else B s) P:=by
 refine⟨sZ.ite d h.lin k.lin,fun s a=>?_,fun s n a b=>?_⟩
 ·split
  ·exact h.st s a
  ·exact k.st s a
 ·have i:=(h0 s n b).t (d n)
  by_cases c:C s
  ·rw[if_pos c,if_pos (i.1 c)];exact h.run s n a b
  ·rw[if_neg c,if_neg (fun e=>c (i.2 e))];exact k.run s n a b
structure aM7(F:dB)(its:List Tr)(S:List (ByteArray × Int))(FQ:List (Nat × Nat)):Prop where
 arr:∀ x,(iK F its x).isSome=true↔0<=dA x 1 S 0
 fn:∀ x,(eG F its x=none/\dA x 2 S 0 < 0)\/∃ b o a l r,eG F its x=some (.node b o a l r)/\0<=dA x 2 S 0/\(FQ.getD (dA x 2 S 0).toNat (0,0)).1=aJ l
variable {F:dB} {its:List Tr} {S:List (ByteArray × Int)} {FQ:List (Nat × Nat)}
theorem aXO(x:ByteArray){p:Int}(a:0<=p/\p<=5000):Sq (fun s=>s.oldVar x p) (fun s=>if s.var x < 0 then s.e0 4 p else s) [p]:=by
 have h:=Sq.ite (C:=fun s:Rs=>¬(dP x s.b).isSome=true) (D:=fun n:Ns=>n.var x < 0) (fun _=>Iff.rfl) (fun s n b=>by
  have:=n.var_mem x;have:=b.1 x
  grind) (Sq.one (e:=4) (p:=p) Oa a) Sq.id
 grind[dP,Rs.oldVar]
theorem aKC(p:aM7 F its S FQ){a:Nd}(n:Nat)(i:eV a.a=true->0<=a.b/\a.b<=5000)(x: ¬(a.a=9/\a.flag=true)):Sq (mH F its a n) (nm1 S FQ a n) (if eV a.a then[a.b]else[]):=by
 by_cases t:a.a=1\/(a.a=9/\a.flag=false)
 ·have e1:mH F its a n=fun s=>s.oldVar a.h a.b:=(by grind[mH]);have d:nm1 S FQ a n=fun s=>if s.var a.h < 0 then s.e0 4 a.b else s:=funext fun s=>if_pos t
  have h:eV a.a=true:=by grind[eV]
  rw[e1,d,if_pos h];exact aXO _ (i h)
 have z:a.a≠1/\a.a≠9:=Qg
 by_cases K:a.a=2\/a.a=10
 ·have h:eV a.a=true:=by grind[eV]
  have e1:mH F its a n=fun s=>if(iK F its a.h).isSome=true then s else s.fail 4 a.b:=(by grind[mH,Rs.o0])
  have d:nm1 S FQ a n=fun s=>if dA a.h 1 S 0 < 0 then(s.f (if a.a=10 then 2 else 1) a.b).e0 4 a.b else s.f (if a.a=10 then 2 else 1) a.b:=(by grind[nm1])
  rw[e1,d,if_pos h];have y:=p.arr a.h
  by_cases c:(iK F its a.h).isSome=true
  ·have c2: ¬dA a.h 1 S 0 < 0:=Qg;simp only[if_pos c,if_neg c2];exact Sq.f _ _
  ·have c2:dA a.h 1 S 0 < 0:=Qg;simp only[if_neg c,if_pos c2];exact((Sq.f (P:=[]) _ _).comp (Sq.one (e:=4) Oa (i h)) Od).sub Od
 by_cases u:a.a=3
 ·have h:eV a.a=true:=by simp[eV,u]
  have e1:mH F its a n=fun s=>s.n0 F its a.h a.b n:=(by grind[mH]);have d:nm1 S FQ a n=fun s=>if dA a.h 2 S 0 < 0 then(s.call FQ (dA a.h 2 S 0) n a.b).e0 4 a.b else s.call FQ (dA a.h 2 S 0) n a.b:=(by grind[nm1])
  rw[e1,d,if_pos h];rcases p.fn a.h with⟨j,k⟩|⟨b,o,v,l,r,j,k,q⟩
  ·simp only[if_pos k,Rs.n0,j,Ns.call];exact Sq.one Oa (i h)
  ·have h0: ¬dA a.h 2 S 0 < 0:=Oa;simp only[if_neg h0,Rs.n0,j,Ns.call,q]
   by_cases c:n=aJ l
   ·have c2: ¬aJ l≠n:=Oa;simp only[if_pos c,if_neg c2]
    by_cases c3:0 < (FQ.getD (dA a.h 2 S 0).toNat (0,0)).2
    ·simp only[if_pos c3];exact Sq.f _ _
    ·simp only[if_neg c3];exact Sq.id
   ·have c2:aJ l≠n:=Oa;simp only[if_neg c,if_pos c2]
    by_cases c3:0 < (FQ.getD (dA a.h 2 S 0).toNat (0,0)).2
    ·simp only[if_pos c3];exact((Sq.one (e:=5) Oa (i h)).comp (Sq.f (P:=[]) _ _) Od).sub Od
    ·simp only[if_neg c3];exact Sq.one Oa (i h)
 have e1:mH F its a n=fun s=>s:=(by grind[mH]);rw[e1]
 by_cases W:a.a=6
 ·by_cases c:a.op=30\/a.op=31
  ·have d:nm1 S FQ a n=fun s=>s.f 3 a.e:=(by grind[nm1]);rw[d];exact Sq.f _ _
  ·have d:nm1 S FQ a n=fun s=>s:=(by grind[nm1])
   grind[Sq.id]
 ·have d:nm1 S FQ a n=fun s=>s:=(by grind[nm1]);rw[d];exact Sq.id
end
section
variable {F:dB} {its:List Tr} {S:List (ByteArray × Int)} {FQ:List (Nat × Nat)}
theorem aHN{s:Rs}{n:Ns}{x:ByteArray}(h:aE1 s n)(a:x ∉ n.b):aE1 (s.v0 x) {n with b:=n.b++[x]}:=by
 have h0:dP x s.b=none:=by
  cases e:dP x s.b with
  |none=>rfl
  |some v=>exact absurd ((h.1 x).1 Qh) a
 refine⟨fun y=>?_,?_⟩
 ·show(dP y (put x s.b.length s.b)).isSome=true↔y∈n.b++[x]
  by_cases e:y=x
  ·grind[lC]
  ·rw[jY e,h.1 y];simp[e]
 ·show(put x s.b.length s.b).length=(n.b++[x]).length;rw[oV,h0];simp[h.2]
theorem aSP(a:Nd)(c:Nat)(s:Ns):(nm1 S FQ a c s).b=s.b:=by
 unfold nm1
 split
 ·grind[cY]
 split
 ·dsimp only
  split
  ·exact(cY _ _ _).2
  ·rfl
 split
 ·grind[cY,aDY]
 split
 ·split<;>rfl
 ·rfl
theorem aSO:∀ (t:Tr) (s:Ns),fT t=0->(mQ S FQ t s).b=s.b:=by
 intro t
 induction t with
 |nil=>intro s _;rfl
 |node b o a l r ihl ihr=>
  intro s h;rw[iH]at h
  grind[pP,aSP]
theorem aVP{x:ByteArray}{p:Int}(a:0<=p/\p<=5000):sZ (fun s=>s.letQ x p) [p]:=
 sZ.ite (C:=fun s=>0<=s.var x) (fun _=>Iff.rfl) (sZ.e0 Oa a) (sZ.ite (C:=fun s=>12<=s.b.length) (fun _=>Iff.rfl) (sZ.e0 Oa a) (sZ.add x))
theorem aXP{l:Tr}{x:ByteArray}{p:Int}(hl:fT l=0)(W:0<=p/\p<=5000)(a4:∀ a2∈ps l,p < a2)(h:Sq (eE F its l) (mQ S FQ l) (ps l)):Sq (fun s=>(eE F its l (s.k0 x p 12)).v0 x) (fun s=>(mQ S FQ l s).letQ x p) (ps l++[p]):=by
 refine⟨h.lin.comp (aVP W),fun s a=>?_,fun s n a k=>?_⟩
 ·have i:(s.k0 x p 12).a=s.a/\(s.k0 x p 12).e=s.e:=by
   unfold Rs.k0;have u:=s.fail_st 4 p a;have v:=s.fail_st 5 p a;have k3:=(s.fail 4 p).fail_st 5 p Oa
   grind
  obtain⟨q,j⟩:=h.st (s.k0 x p 12) Oa;exact⟨q.t i.1,j.t i.2⟩
 ·have t:=aSO (S:=S) (FQ:=FQ) l n.g0 hl;have Z:=k.1 x;have h0:=(mQ S FQ l n.g0).var_mem x;rw[t]at h0;have h6:=h.lin.ok _ (mP n);have a3:=h.lin.bd n
  have y:∀ e,(e=4\/e=5)->s.k0 x p 12=⟨s.b,e,p⟩->(mQ S FQ l n.g0).letQ x p=(mQ S FQ l n.g0).e0 e p->((eE F its l (s.k0 x p 12)).v0 x).a≠0/\((eE F its l (s.k0 x p 12)).v0 x).a=((mQ S FQ l n.g0).letQ x p).a/\((eE F its l (s.k0 x p 12)).v0 x).e=((mQ S FQ l n.g0).letQ x p).e:=fun e K i q=>by
   have h8:(s.k0 x p 12).a≠0:=Qg
   obtain⟨j,z⟩:=h.st _ h8;rw[i]at j z;have hw:=lA (e:=e) (p:=p) h6 (by rcases K with rfl|rfl<;>decide) W
   have hk:((mQ S FQ l n.g0).e0 e p).key=p*8+e:=by
    grind
   have h7:=aC8 hw.1 (c':=e) (p':=p) (.r (by rcases K with rfl|rfl<;>omega)) (by
    show((mQ S FQ l n.g0).e0 e p).key=_
    grind[kyF])
   rcases h7 with⟨_,e0⟩|⟨_,e1,o⟩
   ·omega
   ·rw[q,i];exact⟨by show(eE F its l _).a≠0;grind,j.t e1.symm,z.t o.symm⟩
  by_cases c:(dP x s.b).isSome=true
  ·refine .r (y 4 Oa ?_ ?_)
   ·unfold Rs.k0;rw[if_pos c,s.fail_new 4 p a]
    split
    ·rfl
    ·rfl
   ·unfold Ns.letQ;rw[if_pos (h0.2 (Z.1 c))]
  have c2: ¬0<=(mQ S FQ l n.g0).var x:=fun e=>c (Z.2 (h0.1 e))
  by_cases d:(12:Int)<=s.b.length
  ·refine .r (y 5 Oa ?_ ?_)
   ·unfold Rs.k0;rw[if_pos d,if_neg c,s.fail_new 5 p a]
   ·unfold Ns.letQ;rw[if_neg c2,if_pos (by rw[t];show 12<=n.b.length;rw[<-k.2];omega)]
  have e1:s.k0 x p 12=s:=by
   grind[Rs.k0]
  have o:(mQ S FQ l n.g0).letQ x p={mQ S FQ l n.g0 with b:=(mQ S FQ l n.g0).b++[x]}:=by
   unfold Ns.letQ;rw[if_neg c2,if_neg (by rw[t];show ¬12<=n.b.length;rw[<-k.2];omega)]
  rw[e1,o];rcases h.run s n a k with⟨u,v,k3⟩|⟨u,v,k3⟩
  ·exact .l ⟨u,v,(by grind[aHN])⟩
  ·exact .r Qj
theorem aML(W:aM7 F its S FQ):∀ (t:Tr) (Z:Nat),Ws Z t->(∀ x∈ps t,0<=x/\x<=5000)->(ps t).Pairwise (·< ·)->Sq (eE F its t) (mQ S FQ t) (ps t):=by
 intro t
 induction t with
 |nil=>intro Z _ _ _;exact Sq.id
 |node b o a l r ihl ihr=>
  intro Z hw h p;obtain⟨_,x,a2,h0,K,z⟩:=hw.parts
  by_cases t6:a.a=6
  ·have e:ps (.node b o a l r)=ps l++a.e::ps r:=if_pos t6;rw[e]at h p ⊢;obtain⟨j,y,p3⟩:=List.pairwise_append.1 p;have d: ¬(a.a=9/\a.flag=true):=Oa;have k:=ihl x K (fun q c=>h q (List.mem_append_left _ c)) j;have v:=ihr a2 z (fun q c=>h q (List.mem_append_right _ (Qu _ c))) (List.pairwise_cons.1 y).2;have i:=aKC W (a:=a) (aJ l) (fun e=>by simp[eV,t6]at e) d;have u:eV a.a=false:=by simp[eV,t6]
   rw[if_neg (by simp[u])]at i;rw[pP d,show eE F its (.node b o a l r)=fun s=>eE F its r (eE F its l (mH F its a (aJ l) s))from funext fun s=>jB d];exact((i.comp k Od).comp v Qg).sub Qg
  ·by_cases u:eV a.a=true
   ·have e:ps (.node b o a l r)=a.b::(ps l++ps r):=by
     show(if a.a=6 then _ else _)=_;simp[*]
    rw[e]at h p ⊢;obtain⟨p0,j⟩:=List.pairwise_cons.1 p;obtain⟨j,y,p3⟩:=List.pairwise_append.1 j;have h4:=h a.b Qs;have k:=ihl x K (fun q c=>h q (Qu _ (List.mem_append_left _ c))) j
    by_cases d:a.a=9/\a.flag=true
    ·have e1:eE F its (.node b o a l r)=fun s=>(eE F its l (s.k0 a.h a.b 12)).v0 a.h:=(by grind[eE,mH]);have e2:mQ S FQ (.node b o a l r)=fun s=>(mQ S FQ l s).letQ a.h a.b:=(by grind[mQ]);rw[e1,e2];rw[d.1]at h0;have a4:=(aWT h0).1;exact(aXP (by grind[aFN]) h4 (fun q c=>Qh) k).sub Qg
    ·have v:=ihr a2 z (fun q c=>h q (Qu _ (List.mem_append_right _ c))) y;have i:=aKC W (a:=a) (aJ l) (fun _=>h4) d;rw[if_pos u]at i;rw[pP d,show eE F its (.node b o a l r)=fun s=>eE F its r (eE F its l (mH F its a (aJ l) s))from funext fun s=>jB d]
     exact((i.comp k (fun q c q' a3=>by
      rw[List.mem_singleton.1 c];simp[*])).comp v Qg).sub Od
   ·have e:ps (.node b o a l r)=ps l++ps r:=by
     show(if a.a=6 then _ else _)=_;simp[*]
    rw[e]at h p ⊢;obtain⟨j,y,p3⟩:=List.pairwise_append.1 p;have d: ¬(a.a=9/\a.flag=true):=(by grind[eV]);have k:=ihl x K (fun q c=>h q (List.mem_append_left _ c)) j;have v:=ihr a2 z (fun q c=>h q (List.mem_append_right _ c)) y;have i:=aKC W (a:=a) (aJ l) (fun e=>absurd e u) d;rw[if_neg u]at i;rw[pP d,show eE F its (.node b o a l r)=fun s=>eE F its r (eE F its l (mH F its a (aJ l) s))from funext fun s=>jB d];exact((i.comp k Od).comp v Qi).sub Od
end
section
variable {F:dB} {its:List Tr} {S:List (ByteArray × Int)} {FQ:List (Nat × Nat)} {T:List aU}
structure Ups(T:List aU):Prop where
 up:∀ i j,i < j->j < T.length->(aE T i).e < (aE T j).e
 lo:∀ i,i < T.length->0<=(aE T i).e/\(aE T i).e<=5000
def Bt(T:List aU)(i j:Nat)(p:Int):Prop:=∃ k,i<=k/\k < j/\p=(aE T k).e
theorem Bt.lt(a:Ups T){i j V j':Nat}{p q:Int}(h:Bt T i j p)(k:Bt T V j' q)(e:j<=V)(d:j'<=T.length):p < q:=by
 obtain⟨x,b,c,rfl⟩:=h;obtain⟨y,l,o,rfl⟩:=k;exact a.up x y Oa Oa
theorem Bt.mono{i j V j':Nat}{p:Int}(h:Bt T i j p)(b:V<=i)(c:j<=j'):Bt T V j' p:=by
 obtain⟨x,d,e,a⟩:=h;exact⟨x,Oa,Oa,a⟩
theorem Bt.bd(a:Ups T){i j:Nat}{p:Int}(h:Bt T i j p)(b:j<=T.length):0<=p/\p<=5000:=by
 obtain⟨x,c,d,rfl⟩:=h;exact a.lo x Oa
theorem Sg.bt{i j:Nat}{l:List Int}(h:Sg T i j l):∀ p∈l,Bt T i j p:=by
 obtain⟨_,d,rfl,_,a⟩:=h;intro p c;obtain⟨k,b,rfl⟩:=List.mem_map.1 c;exact⟨k,(a k b).1,(a k b).2,rfl⟩
theorem Sg.pw(c:Ups T){i j:Nat}{l:List Int}(h:Sg T i j l)(e:j<=T.length):l.Pairwise (·< ·):=by
 obtain⟨_,q,rfl,d,o⟩:=h;exact List.pairwise_map.2 (d.imp_of_mem (fun {a b} k p h0=>c.up a b h0 Qg))
theorem aWR(c:aM7 F its S FQ)(b:Ups T){t:Tr}{p i j:Nat}(d:Ws p t)(h:Sg T i j (ps t))(a:j<=T.length):Sq (eE F its t) (mQ S FQ t) (ps t):=
 aML c t p d (fun x e=>(h.bt x e).bd b a) (h.pw b a)
def aAY(x:ByteArray)(p:Int)(s:Ns):Ns:=(fun s:Ns=>{s with b:=s.b++[x]}) ((fun s:Ns=>if 4<=s.b.length then s.e0 5 p else s) ((fun s:Ns=>if 0<=s.var x then s.e0 4 p else s) s))
theorem aP4(s:Rs)(x:ByteArray)(p m:Int)(a:s.a≠0):(s.k0 x p m).a=s.a/\(s.k0 x p m).e=s.e:=by
 unfold Rs.k0;have b:=s.fail_st 4 p a;have c:=s.fail_st 5 p a;have d:=(s.fail 4 p).fail_st 5 p Oa
 grind
theorem sK(n:Ns)(e p:Int):n.g0.e0 e p={n.g0 with a:=e,e:=p}:=rfl
theorem aQZ(x:ByteArray){p:Int}(l:0<=p/\p<=5000):Sq (fun s=>s.param x p) (aAY x p) [p]:=by
 refine⟨(((sZ.ite (C:=fun s=>0<=s.var x) (fun _=>Iff.rfl) (sZ.e0 (e:=4) Oa l) sZ.id).comp (sZ.ite (C:=fun s=>4<=s.b.length) (fun _=>Iff.rfl) (sZ.e0 (e:=5) Oa l) sZ.id)).comp (sZ.add (P:=[]) x)).sub Od,fun s i=>aP4 s x p 4 i,fun s n i j=>?_⟩;have o:=j.1 x;have h0:=n.var_mem x
 by_cases c:(dP x s.b).isSome=true
 ·have c2:0<=n.g0.var x:=h0.2 (o.1 c);refine .r ?_
  have e1:s.param x p=(⟨s.b,4,p⟩:Rs).v0 x:=by
   unfold Rs.param Rs.k0;rw[if_pos c,s.fail_new 4 p i]
   split
   ·rfl
   ·rfl
  have a:(aAY x p n.g0).a=4/\(aAY x p n.g0).e=p:=by
   grind[aAY,Ns.e0,sK]
  rw[e1,a.1,a.2];exact⟨fun h=>by have h:(4:Int)=0:=h;omega,rfl,rfl⟩
 have k:x ∉ n.b:=Qg;have c2: ¬0<=n.g0.var x:=fun e=>k (h0.1 e)
 by_cases d:(4:Int)<=s.b.length
 ·refine .r ?_
  have e1:s.param x p=(⟨s.b,5,p⟩:Rs).v0 x:=by
   unfold Rs.param Rs.k0;rw[if_pos d,if_neg c,s.fail_new 5 p i]
  have a:(aAY x p n.g0).a=5/\(aAY x p n.g0).e=p:=by
   unfold aAY;dsimp only;rw[if_neg c2,if_pos (show 4<=n.g0.b.length by show 4<=n.b.length;rw[<-j.2];omega),sK];trivial
  rw[e1,a.1,a.2];exact⟨fun h=>by have h:(5:Int)=0:=h;omega,rfl,rfl⟩
 ·refine .l ?_
  have e1:s.param x p=s.v0 x:=by
   grind[Rs.param,Rs.k0]
  have a:aAY x p n.g0={n.g0 with b:=n.g0.b++[x]}:=by
   unfold aAY;dsimp only;rw[if_neg c2,if_neg (show ¬4<=n.g0.b.length by show ¬4<=n.b.length;rw[<-j.2];omega)]
  rw[e1,a];exact⟨i,rfl,aHN (n:=n.g0) j k⟩
def aSA:List aU->Ns->Ns
 |[],s=>s
 |p::r,s=>aSA r (aAY p.f p.e s)
theorem aIK(p:aU){i:Nat}{s:Ns}(h:s.b.length=i):aAY p.f p.e s={xX p i s with b:=(xX p i s).b++[p.f]}:=by
 grind[aAY,xX,cY]
theorem aN2:∀ (l:List aU) (i:Nat) (s:Ns),s.b.length=i->aEE l i s=aSA l s
 |[],_,_,_=>rfl
 |p::r,i,s,h=>by
  rw[xS,<-aIK p h];exact aN2 r (i+1) _ (by rw[aIK p h];grind[uO])
theorem aO4(y:Ups T):∀ (L:Tr) (l:List aU) (i j:Nat),Ws 16 L->NP L l->Sg T i j (ps L)->j<=T.length->Sq (kU L) (aSA l) (ps L):=by
 intro L
 induction L with
 |nil=>
  intro l i j _ d _ _;have d:l=[]:=d;subst d;exact Sq.id
 |node b o a e r _ ih=>
  intro l i j hw d h v;obtain⟨W,ys,rfl,⟨u,K,c,x,Z,rfl,h1,h2⟩,h3⟩:=d;obtain⟨h5,h0,a4⟩:=bY Ou hw;have h0:Ws 22 (.node u K c x Z):=h0
  have q:c.a=19/\x= .nil/\Z= .nil:=by
   obtain⟨_,a5,a6,a3,z,hy⟩:=h0.parts
   grind[mD,aJZ]
  obtain⟨q,rfl,rfl⟩:=q
  have e:ps (.node b o a (.node u K c .nil .nil) r)=c.b::ps r:=by
   show(if a.a=6 then _ else _)=_;rw[Oh,if_neg (by simp[eV,h5])];show(if c.a=6 then _ else _)++_=_;rw[Oh,if_pos (by simp[eV,q])];rfl
  rw[e]at h ⊢;have a2:=List.pairwise_cons.1 (h.pw y v)
  have hr:Sg T i j (ps r):=by
   obtain⟨g1,t,p,g3,g4⟩:=h;cases t with
   |nil=>cases p
   |cons k t=>
    rw[List.map_cons,List.cons.injEq]at p;exact⟨g1,t,p.2,(List.pairwise_cons.1 g3).2,fun x z=>g4 x (Qu _ z)⟩
  have hb:=(h.bt c.b Od).bd y v
  have hp:Sq (fun s=>s.param c.h c.b) (aAY W.f W.e) [c.b]:=by
   grind[aQZ]
  exact(hp.comp Qg Qg)
theorem Sq.two{p:Int}(b:0<=p/\p<=5000):Sq (fun s=>(s.fail 4 p).fail 5 p) (fun s=>(s.e0 5 p).e0 4 p) [p]:=by
 refine⟨((sZ.e0 (e:=5) Oa b).comp (sZ.e0 (e:=4) Oa b)).sub Od,fun s a=>?_,fun s n a _=> .r ?_⟩
 ·have c:=s.fail_st 4 p a;have d:=(s.fail 4 p).fail_st 5 p Oa;omega
 ·rw[s.fail_new 4 p a,sK,show(⟨s.b,4,p⟩:Rs).fail 5 p=⟨s.b,4,p⟩from if_neg (show ¬(4:Int)=0 by decide)]
  grind[Ns.e0]
theorem aR1{l:Tr}{p:Int}(t:Ws 21 l)(c:0<=p/\p<=5000)(u:∀ z∈ps l,z=p):Sq (fun s=>(eE F its l s).fail 5 p) (fun s=>mQ S FQ l (Ns.e0 s 5 p)) [p]:=by
 cases l with
 |nil=>exact Sq.one Oa c
 |node b o a l r=>
  obtain⟨_,W,Z,h,x,y⟩:=t.parts
  by_cases i:a.a<=1
  ·have e:mD 21 a.a=some (99,99):=by simp[mD,i]
   rw[e]at h;cases h;have q:=aJZ x;have j:=aJZ y;subst q j
   by_cases h0:a.a=1
   ·have k:ps (.node b o a .nil .nil:Tr)=[a.b]:=by
     show(if a.a=6 then _ else _)=_;rw[Oh,if_pos (by simp[eV,h0])];rfl
    have K:=u a.b (by rw[k];exact Qs)
    have e1:(fun s=>(eE F its (.node b o a .nil .nil) s).fail 5 p)=fun s=>if ¬(dP a.h s.b).isSome=true then(s.fail 4 p).fail 5 p else s.fail 5 p:=funext fun s=>by
     rw[jB Oa];show(mH F its a (aJ .nil) s).fail 5 p=_
     grind[mH,Rs.oldVar,dP]
    have d:(fun s:Ns=>mQ S FQ (.node b o a .nil .nil) (s.e0 5 p))=fun s=>if s.var a.h < 0 then(s.e0 5 p).e0 4 p else s.e0 5 p:=funext fun s=>by
     rw[pP Oa];show nm1 S FQ a (aJ .nil) (s.e0 5 p)=_
     grind[nm1,Ns.var,cY]
    rw[e1,d]
    exact Sq.ite (C:=fun s:Rs=>¬(dP a.h s.b).isSome=true) (D:=fun n:Ns=>n.var a.h < 0) (fun _=>Iff.rfl) (fun s n v=>by
     have:=n.var_mem a.h;have:=v.1 a.h
     grind) (Sq.two c) (Sq.one Oa c)
   ·have e1:(fun s=>(eE F its (.node b o a .nil .nil) s).fail 5 p)=fun s=>s.fail 5 p:=funext fun s=>by
     rw[jB Oa];show(mH F its a (aJ .nil) s).fail 5 p=_
     grind[mH]
    have d:(fun s:Ns=>mQ S FQ (.node b o a .nil .nil) (s.e0 5 p))=fun s=>s.e0 5 p:=funext fun s=>by
     rw[yX Oa];rfl
    rw[e1,d];exact Sq.one Oa c
  grind[mD]
def wps:Tr->List Int
 | .nil=>[]
 | .node _ _ _ e r=>(oU e::(ps (oK e)++ps (tP e)))++wps r
theorem aG8:∀ (L:Tr) (i j:Nat),WSg T L i j->∀ p∈wps L,Bt T i j p:=by
 intro L
 induction L with
 |nil=>intro i j _ p c;cases c
 |node b o a e r _ ih=>
  rintro i j ⟨l,m,d,q,t,h,k⟩ p c;have u:=k.le;have v:=h.1;rcases List.mem_append.1 c with c|c
  ·rcases List.mem_cons.1 c with rfl|c
   ·exact⟨l,d,Oa,q⟩
   rcases List.mem_append.1 c with c|c
   ·exact⟨l,d,Oa,t p c⟩
   ·exact(h.bt p c).mono Oa u
  ·exact(ih m j k p c).mono Oa Oa
theorem aO3(W:aM7 F its S FQ)(t:Ups T):∀ (L:Tr) (i0 x:Nat),Ws 15 L->WSg T L i0 x->x<=T.length->∀ i,Sq (vD F its L i) (whQ (aBU S FQ L) i) (wps L):=by
 intro L
 induction L with
 |nil=>intro _ _ _ _ _ _;exact Sq.id
 |node b o a e r _ ih=>
  intro i0 x hw hs hT i;obtain⟨k,m,z,d,j,h,K⟩:=hs;obtain⟨a4,p,a8⟩:=bY Ov hw;have p:Ws 20 e:=p;have hm:m<=T.length:=Qm K.le hT;cases e with
  |nil=>simp[Ws,eX]at p
  |node be oe ae l rr=>
   obtain⟨_,b4,b5,h0,v,hy⟩:=p.parts
   by_cases h7:ae.a=7
   ·rw[h7]at h0;cases h0;have hk:k < T.length:=by have:=h.1;omega
    have hp:=t.lo k hk
    have k0:0<=ae.e/\ae.e<=5000:=by
     have d:ae.e=(aE T k).e:=d;omega
    have Z:=aWR W t hy h hm
    have h9:Sq (fun s=>eE F its rr ((eE F its l s).s0 i ae.e)) (fun s=>mQ S FQ (.node be oe ae l rr) (if 4<=i then s.e0 5 ae.e else s)) (ae.e::(ps l++ps rr)):=by
     have e0:(fun s=>mQ S FQ (.node be oe ae l rr) (if 4<=i then s.e0 5 ae.e else s))=fun s=>mQ S FQ rr (mQ S FQ l (if 4<=i then s.e0 5 ae.e else s)):=(by grind[yX]);rw[e0]
     have k2:∀ q∈ps rr,ae.e < q:=fun q c=>by
      obtain⟨a2,z1,z2,rfl⟩:=h.bt q c;rw[show ae.e=(aE T k).e from d];exact t.up k a2 Oa Oa
     by_cases hi:4<=i
     ·simp only[Rs.s0,if_pos hi];exact((aR1 v k0 (fun q c=>(j q c).t d.symm)).comp Z Qg).sub Qg
     ·simp only[Rs.s0,if_neg hi]
      have hL:Sq (eE F its l) (mQ S FQ l) (ps l):=aML W l 21 v (fun q c=>by rw[(j q c).t d.symm];exact k0) (by
       have:(ps l).length<=1:=by
        cases l with
        |nil=>trivial
        |node b3 o3 a3 l3 r3=>
         obtain⟨_,a9,b2,a7,a5,a6⟩:=v.parts
         grind[mD,ps,aJZ]
       rcases hps:ps l with _|⟨a2,_|⟨z2,zs⟩⟩
       ·exact .nil
       ·simp
       grind)
      exact(hL.comp Z (fun q c y u=>by
       rw[(j q c).t d.symm];exact k2 y u)).sub Qg
    exact h9.comp Qg (fun q c y u=>by
     have k1:Bt T i0 m q:=by
      rcases List.mem_cons.1 c with rfl|c
      ·exact⟨k,z,Oi h.1,d⟩
      rcases List.mem_append.1 c with c|c
      ·exact⟨k,z,Oi h.1,j q c⟩
      ·exact(h.bt q c).mono Oa Oa
     exact k1.lt t (aG8 _ _ _ K y u) Oa hT)
   grind[mD]
def fnB(F:dB)(its:List Tr)(l p q:Tr)(s:Rs):Rs:=eE F its q (vD F its (aD p) 0 (kU (aD l) s.clear))
theorem aER(t:Tr):unl t=aD t:=by rfl
theorem sZ.clr{P:List Int}:sZ (fun s=>{s with b:=[]}) P:=⟨Od,fun _ _=>rfl,fun s h=>by
 show s.key=min s.key (1000000:Int);have a:s.key<=1000000:=uQ h;omega,fun _=> .l rfl⟩
theorem aTG{s:Nat}(c:s=3\/s=4\/s=5\/s=6\/s=8){t:Tr}(h:Ws s t):ps (aD t)=ps t:=by
 rcases h.lst c with rfl|⟨b,o,a,l,rfl,d,_⟩
 ·rfl
 ·show ps l=if a.a=6 then _ else _
  grind[eV,ps]
theorem aZL(W:aM7 F its S FQ)(c:Ups T){l p q:Tr}{d:List aU}{k1 i u j:Nat}(Z:Ws 6 l)(hp:Ws 5 p)(hq:Ws 4 q)(hn:NP (unl l) d)(K:Sg T k1 i (ps l))(h:WSg T (aD p) i u)(k:Sg T u j (ps q))(o:j<=T.length):
 Sq (fnB F its l p q) (fnQ d (aBU S FQ (unl p)) (mQ S FQ q)) (ps l++wps (aD p)++ps q):=by
 have v:u<=T.length:=Qm k.1 o;have h5:i<=T.length:=Qm h.le v;have e6:=aTG Ou Z
 have hP:Sq (kU (aD l)) (aSA d) (ps l):=by
  rw[<-e6];exact aO4 c (aD l) d k1 i (Z.elems Oa) Qi Qh h5
 have hW:=aO3 (F:=F) (its:=its) (S:=S) (FQ:=FQ) W c (aD p) i u (hp.elems Oa) h v 0;have hB:=aWR W c hq k o
 have h0:=(hP.comp hW (fun x a y t=>(K.bt x a).lt c (aG8 _ _ _ h y t) Oa v)).comp hB (fun x a y t=>by
  rcases List.mem_append.1 a with a|a
  ·exact((K.bt x a).mono Ol h.le).lt c (k.bt y t) Oa o
  ·exact(aG8 _ _ _ h x a).lt c (k.bt y t) Oa o)
 have e:fnQ d (aBU S FQ (unl p)) (mQ S FQ q)=fun s=>(fun s=>mQ S FQ q (whQ (aBU S FQ (aD p)) 0 (aSA d s))) ((fun s:Ns=>{s with b:=[]}) s):=(by grind[fnQ,aN2,aER]);refine⟨?_,fun s z=>h0.st s.clear z,fun s n z _=>?_⟩
 ·rw[e];exact(sZ.clr.comp (P:=[]) h0.lin).sub Od
 ·have hr:=h0.run s.clear {n with b:=[]} z ⟨fun x=>by simp[Rs.clear,dP],rfl⟩;rw[e];exact hr
end
section
def pT(x:ByteArray):List Tr->Int->Option Int
 |[],_=>none
 |e::r,i=>if cC e=x then some i else pT x r (i+1)
theorem aIV(x:ByteArray):∀ (L:Tr) (i:Nat) (F0:dB),dP x (gaF L i F0)=(dP x F0).or (pT x (oJ L) i):=by
 intro L
 induction L with
 |nil=>grind[F0,gaF,oJ,pT]
 |node b o a e r _ ih=>
  intro i F0;have e1:((i+1:Nat):Int)=(i:Int)+1:=Oa
  show dP x (gaF r (i+1) (if(dP (cC e) F0).isSome=true then F0 else put (cC e) i F0))=(dP x F0).or (if cC e=x then some (i:Int)else pT x (oJ r) ((i:Int)+1));rw[ih,e1]
  by_cases c:(dP (cC e) F0).isSome=true
  ·grind[cC,Option.isSome_iff_exists]
  ·rw[if_neg c]
   by_cases d:cC e=x
   ·rw[if_pos d,d,lC];rw[d]at c;cases h:dP x F0 with
    |none=>rfl
    |some v=>grind
   grind[jY]
def qO:Tr->List (ByteArray × Int)
 | .nil=>[]
 | .node _ _ _ e r=>(cC e,if cB e=16 then 1 else 2)::qO r
theorem aX2(x:ByteArray):∀ (L:Tr) (Y R i:Nat),Ws 18 L->
 (pT x (oJ L) i=none/\dA x 1 (qO L) Y= -1/\dA x 2 (qO L) R= -1)\/
 ∃ (j:Nat) (e:Tr),pT x (oJ L) i=some ((i+j:Nat):Int)/\(oJ (hY L Y R))[j]?=some e/\0<=mJ e/\((cB e=16/\dA x 1 (qO L) Y=mJ e/\dA x 2 (qO L) R= -1)\/(cB e=17/\dA x 2 (qO L) R=mJ e/\dA x 1 (qO L) Y= -1)):=by
 intro L
 induction L with
 |nil=>intro Y R i _;exact .l Qj
 |node b o a e r _ ih=>
  intro Y R i Z;obtain⟨_,W,v⟩:=bY Ot Z;obtain⟨a2,y⟩:=wV W;have e1:((i:Nat):Int)+1=((i+1:Nat):Int):=Oa
  have e2:((Y:Nat):Int)+1=((Y+1:Nat):Int):=Oa
  have e3:((R:Nat):Int)+1=((R+1:Nat):Int):=Oa
  by_cases d:cC e=x
  ·refine .r ⟨0,if cB e=16 then jC e Y else jC e R,by simp[oJ,pT,d],?_,?_,?_⟩
   ·unfold hY
    split<;>rfl
   ·split
    ·grind[lL]
    grind[lL]
   ·by_cases c:cB e=16
    ·rw[if_pos c,iN,lL y];exact .l ⟨c,by simp[qO,dA,d,c],by simp[qO,dA,d,c]⟩
    ·rw[if_neg c,iN,lL y];exact .r ⟨Oa,by simp[qO,dA,d,c],by simp[qO,dA,d,c]⟩
  ·have z:pT x (oJ (.node b o a e r)) i=pT x (oJ r) ((i+1:Nat):Int):=by rw[<-e1];exact if_neg d
   by_cases c:cB e=16
   ·have q:dA x 1 (qO (.node b o a e r)) Y=dA x 1 (qO r) ((Y+1:Nat):Int):=by simp[qO,dA,d,c]
    have t:dA x 2 (qO (.node b o a e r)) R=dA x 2 (qO r) (R:Int):=by simp[qO,dA,d,c]
    have u:oJ (hY (.node b o a e r) Y R)=jC e Y::oJ (hY r (Y+1) R):=by
     have h0:hY (.node b o a e r) Y R= .node b o a (jC e Y) (hY r (Y+1) R):=if_pos c;rw[h0];rfl
    rw[z,q,t,u];rcases ih (Y+1) R (i+1) v with h|⟨j,k,K,l,p⟩
    ·grind
    ·exact .r ⟨j+1,k,Qg,l,p⟩
   ·have q:dA x 1 (qO (.node b o a e r)) Y=dA x 1 (qO r) (Y:Int):=by simp[qO,dA,d,c]
    have t:dA x 2 (qO (.node b o a e r)) R=dA x 2 (qO r) ((R+1:Nat):Int):=by simp[qO,dA,d,c]
    have u:oJ (hY (.node b o a e r) Y R)=jC e R::oJ (hY r Y (R+1)):=by
     have h0:hY (.node b o a e r) Y R= .node b o a (jC e R) (hY r Y (R+1)):=if_neg c;rw[h0];rfl
    rw[z,q,t,u];rcases ih Y (R+1) (i+1) v with h|⟨j,k,K,l,p⟩
    ·grind
    ·exact .r ⟨j+1,k,Qg,l,p⟩
def fq:Tr->Nat × Nat
 | .nil=>(0,0)
 | .node _ _ _ l r=>(aJ l,aJ (oK r))
def fqL(t:Tr):List (Nat × Nat):=(aT7 (eH t)).map fq
theorem aWY{t:Tr}(q:Ws 8 t):aM7 (cL t) (eH t) (qO (aD t)) (fqL t):=by
 have k:=q.elems Oa
 have key:∀ x,iU (cL t) (eH t) x=(pT x (oJ (aD t)) 0).bind fun u=>(eH t)[u.toNat]?:=fun x=>by
  unfold iU cL;rw[aIV];rfl
 refine⟨fun x=>?_,fun x=>?_⟩
 ·unfold iK;rw[key];rcases aX2 x (aD t) 0 0 0 k with⟨d,h,_⟩|⟨j,e,d,h,p,c⟩
  ·grind
  ·have d:pT x (oJ (aD t)) 0=some ((0+j:Nat):Int):=d;have h:(eH t)[j]?=some e:=h;rw[d];simp only[Option.bind_some,Nat.zero_add,Int.toNat_natCast,h];cases e with
   |nil=>rcases c with⟨c,_⟩|⟨c,_⟩<;>cases c
   |node b o a l r=>
    rcases c with⟨c,i,_⟩|⟨c,_,i⟩
    ·have c:a.a=16:=c
     grind
    ·have c:a.a=17:=c
     grind
 ·unfold eG;rw[key];rcases aX2 x (aD t) 0 0 0 k with⟨d,_,h⟩|⟨j,e,d,h,p,c⟩
  ·grind
  ·have d:pT x (oJ (aD t)) 0=some ((0+j:Nat):Int):=d;have h:(eH t)[j]?=some e:=h;rw[d];simp only[Option.bind_some,Nat.zero_add,Int.toNat_natCast,h];cases e with
   |nil=>rcases c with⟨c,_⟩|⟨c,_⟩<;>cases c
   |node b o a l r=>
    rcases c with⟨c,_,i⟩|⟨c,i,_⟩
    ·have c:a.a=16:=c
     grind
    ·have v:dA x 2 (qO (aD t)) 0=a.c:=i;obtain⟨y,z,K⟩:=aHK (aD t) 0 0 _ k Qg c;have c:a.a=17:=c
     grind[aT7,eH,fqL,fq]
end
end Go.Proofs.YtikffmloeifkpaaGreatDoor
