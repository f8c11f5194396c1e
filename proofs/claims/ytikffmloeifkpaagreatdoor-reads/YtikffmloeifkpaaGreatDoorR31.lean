/- Contracts. -/
import Derived.Test.YtikffmloeifkpaaGreatDoorR30
import Derived.Test.YtikffmloeifkpaaGreatDoorR29
namespace Go.Proofs.YtikffmloeifkpaaGreatDoor
open Go.RowKit Go.Lib Go.Deep Go.ChangeMaps Go.MapKept
section
variable {H X U:Nat} {I A F:List Int} {m:Int} {Y vI D M:Value} {V:List V3} {B:List NQ} {S:List (ByteArray × Int)} {FQ:List (Nat × Nat)}
theorem bU9{c:Nat}(h:cS c=3){r:Tr}(i:Ws c r){L:List NQ}{f:List Int}{lo hi:Int}(j:NX L r f lo hi):∃ b d,f=b::d/\(d=[]\/∃ e,d=[e]):=by
 have g:c=9:=by
  grind[cS]
 subst g;cases r with
 |nil=>simp[Ws,bK]at i
 |node b o a l r=>
  grind[Ws,NX,sig]
section
variable (J:bQQ B I S) (hF:bQ8 B F FQ) (E:∀ x,bL8 x 1 S 0 < A.length) (C:∀ x,bL8 x 2 S 0 < F.length) (G:I.length<=100000) (N:F.length<=100000) (O:B.length<=100000)
include J hF E C G N O
theorem bVQ{x lo hi:Int}{n:NQ}{K:Int->Prop}{f:Ns->Ns}(a:Ndq B x n)(b:0<=lo)(i:x < hi)(c:n.d≠12)(g:(n.c.length:Int)<=x - lo)(e:bLQ H X U I A F m Y vI D M V B n.c f lo x K)(d:Cl B K)(h:WfK B K x n):KD H X U I A F m Y vI D M V B [x] (fun s=>f (bN9 S FQ n s)) lo hi (cK n.d):=
 ⟨_,bZH J hF E C G N O a b i c g e,d.node a h,fun y j=>by
   rw[List.mem_singleton.1 j];exact⟨.l rfl,n,a,rfl⟩⟩
theorem bR1{x lo hi:Int}{n:NQ}{f:Ns->Ns}(j:Ndq B x n)(b:0<=lo)(k:x < hi)(a:n.d=19)(i:(n.c.length:Int)<=x - lo)(h:KD H X U I A F m Y vI D M V B n.c f lo x 2):KD H X U I A F m Y vI D M V B [x] f lo hi 3:=by
 obtain⟨K,c,d,g⟩:=h.ins (Int.le_refl x);have:=bVQ J hF E C G N O j b k Oa i c d (.r (.r (.l ⟨a,g⟩)));have e:(fun s=>f (bN9 S FQ n s))=f:=funext fun s=>by rw[bZ0 _ Oa]
 rw[e,a]at this;exact this
set_option maxHeartbeats 2000000 in
theorem bSJ:
 ∀ (t:Tr) (s:Nat) (xs:List Int) (lo hi:Int),okB s=true->Ws s t->0<=lo->NX B t xs lo hi->KD H X U I A F m Y vI D M V B xs (nmT S FQ t) lo hi (cS s):=by
 intro t
 induction t with
 |nil=>
  intro s xs lo hi _ _ _ h;obtain⟨rfl,h⟩:=h;exact⟨fun _=>False,⟨fun _=>rfl,h,fun _ e=>e⟩,fun _ e=>e.elim,fun _ e=>by cases e⟩
 |node b o a l r ihl ihr=>
  intro s xs lo hi hp hw P h;unfold Ws at hw;obtain⟨L,_,hw⟩:=hw;cases hs:sig s a.a with
  |none=>rw[hs]at hw;exact hw.elim
  |some p=>
  obtain⟨x',y'⟩:=p;rw[hs]at hw;obtain⟨hl,hr⟩:=hw;obtain⟨px,py,b6,b4,b3,x3⟩:=cAC hs hp;have f:=cAD hs hp;have W:(a.a<=5\/a.a=9\/a.a=13\/a.a=14\/a.a=20)->r= .nil:=fun e=>bU7 (b4 e ▸ hr);have T:=fun xs lo hi=>ihl x' xs lo hi px hl;have R:=fun xs lo hi=>ihr y' xs lo hi py hr;unfold NX at h
  by_cases k7:a.a=15
  ·rw[if_pos k7]at h;obtain⟨x,ys,m,rfl,h1,h2⟩:=h;rw[bPS Oa];have:=h1.le;rw[k7]at f;simp[bOO]at f;have k:=T _ _ _ P h1;have w:=R _ _ _ Oa h2;rw[f.1]at k;rw[f.2]at w;exact k.app w
  rw[if_neg k7]at h
  by_cases k9:a.a=20
  ·rw[if_pos k9]at h;rw[bPS Oa,W Oa];rw[k9]at f;simp[bOO]at f;rw[<-f];exact T _ _ _ P h
  rw[if_neg k9]at h
  by_cases h4:a.a=4
  ·rw[if_pos h4]at h;rw[bPS Oa,W Oa];rw[h4]at f;simp[bOO]at f;rw[<-f];exact T _ _ _ P h
  rw[if_neg h4]at h
  by_cases k6:a.a=18
  ·rw[if_pos k6]at h;rw[bPS Oa];rw[k6]at f;simp[bOO]at f;obtain⟨⟨q1,q2⟩,q3⟩:=f;rw[q1];obtain⟨x,n,hn,hk,d,h5⟩:=h;have e3:=d.le;have k:=T _ _ _ P d;rw[q2]at k;have hb:∀ hi,x < hi->KD H X U I A F m Y vI D M V B [x] (nmT S FQ l) lo hi 3:=fun hi hh=>bR1 J hF E C G N O hn P hh hk d.len k;rcases h5 with⟨rfl,rfl,h5⟩|⟨e,m2,rfl,h6,h7,h8,h9⟩
   ·exact hb _ h5
   ·have e8:=h8.le;have w:=R _ _ _ Oa h8;rw[q3]at w;exact(hb (x+1) Oa).app (bR1 J hF E C G N O h6 Oa h9 h7 h8.len w)
  rw[if_neg k6]at h;obtain⟨x,n,rfl,hn,h0,h1,d⟩:=h
  have cs:cT a.a=cS s:=by
   unfold bOO at f;rw[if_neg k7,Oh,if_neg k6]at f;simp only[Bool.and_eq_true,beq_iff_eq]at f;exact f.1
  have one:(∃ y,n.c=[y]/\NX B l [y] lo x)->r= .nil->cS x'=0->∃ K,bLQ H X U I A F m Y vI D M V B n.c (fun s=>nmT S FQ r (nmT S FQ l s)) lo x K/\(n.c.length:Int)<=x - lo/\Cl B K/\∃ y,n.c=[y]/\InK B K x 0 y:=fun⟨y,u,q⟩ z g4=>by
   subst z;rw[u];have k:=T _ _ _ P q;rw[g4]at k;obtain⟨K,i,j,g⟩:=k.ins (Int.le_refl x);exact⟨K,i,q.len,j,y,rfl,g y Od⟩
  have two:∀ c,(∃ y Z m,n.c=[y,Z]/\NX B l [y] lo m/\NX B r [Z] m x)->cS x'=c->cS y'=c->∃ K,bLQ H X U I A F m Y vI D M V B n.c (fun s=>nmT S FQ r (nmT S FQ l s)) lo x K/\(n.c.length:Int)<=x - lo/\Cl B K/\∃ y Z,n.c=[y,Z]/\InK B K x c y/\InK B K x c Z:=fun c ⟨y,Z,a9,u,q,z⟩ g4 g5=>by
   rw[u];have:=q.le;have e2:=q.len;have e3:=z.len;have k:=T _ _ _ P q;have w:=R _ _ _ Oa z;rw[g4]at k;rw[g5]at w;obtain⟨K,i,j,g⟩:=(k.app w).ins (Int.le_refl x);exact⟨K,i,by simp only[List.length_cons,List.length_nil]at*;omega,j,y,Z,rfl,g y Od,g Z Od⟩
  have b1:n.c=[]->a.a<=1->bLQ H X U I A F m Y vI D M V B n.c (fun s=>nmT S FQ r (nmT S FQ l s)) lo x (fun _=>False)/\(n.c.length:Int)<=x - lo:=fun u q=>by
   have y4:l= .nil:=bU7 (by rw[<-b3 q];exact hl);rw[u,W Oa,y4];exact⟨⟨fun _=>rfl,h0,fun _ e=>e⟩,by simp;omega⟩
  have fin:∀ {K:Int->Prop},¬(a.a=9/\a.flag=true)->n.d≠12->cK n.d=cT a.a->(∀ s,bN9 S FQ n s=nm1 S FQ a (YtikffmloeifkpaaGreatDoor.aD l) s)->bLQ H X U I A F m Y vI D M V B n.c (fun s=>nmT S FQ r (nmT S FQ l s)) lo x K->(n.c.length:Int)<=x - lo->Cl B K->WfK B K x n->KD H X U I A F m Y vI D M V B [x] (nmT S FQ (.node b o a l r)) lo hi (cS s):=fun u q gc z g4 g5 g6 g7=>by
   have:=bVQ J hF E C G N O hn P h1 q g5 g4 g6 g7;rw[bNI u,<-cs,<-gc];simp only[z]at this;exact this
  by_cases t0:a.a=0
  ·rw[if_pos t0]at d;obtain⟨n1,n2⟩:=b1 d.2.2 Oa;exact fin Oa Oa (by rw[d.1,t0];rfl) (fun s=>bNV s L (.l ⟨t0,d.1⟩)) n1 n2 (fun _ e=>e.elim) (.l ⟨.l ⟨d.1,by rw[d.2.1];exact(L.g (.l t0)).1,by rw[d.2.1];exact(L.g (.l t0)).2⟩,d.2.2⟩)
  rw[if_neg t0]at d
  by_cases t1:a.a=1
  ·rw[if_pos t1]at d;obtain⟨n1,n2⟩:=b1 d.2.2.2 Oa;exact fin Oa Oa (by rw[d.1,t1];rfl) (fun s=>bNV s L (.r (.l ⟨t1,d.1,d.2.1,d.2.2.1⟩))) n1 n2 (fun _ e=>e.elim) (.l ⟨.r d.1,d.2.2.2⟩)
  rw[if_neg t1]at d
  by_cases t2:a.a=2
  ·rw[if_pos t2]at d;rw[t2]at f;simp[bOO]at f;obtain⟨K,i,j,g,v⟩:=one d.2.2.2 (W Oa) f.2;exact fin Oa Oa (by rw[d.1,t2];rfl) (fun s=>bNV s L (.r (.r (.l ⟨t2,d.1,d.2.1,d.2.2.1⟩)))) i j g (.r (.r (.r (.l ⟨Oa,v⟩))))
  rw[if_neg t2]at d
  by_cases t3:a.a=3
  ·rw[if_pos t3]at d;have y3:=x3 t3 ▸ hl;rw[t3]at f;simp[bOO]at f;have k:=T _ _ _ P d.2.2.2;rw[f.2]at k;obtain⟨K,i,j,g⟩:=k.ins (Int.le_refl x);have y2:=W Oa;refine fin (K:=K) Oa Oa (by rw[d.1,t3];rfl) (fun s=>bNV s L (.r (.r (.r (.l ⟨t3,d.1,d.2.1,d.2.2.1,d.2.2.2.lenV y3⟩))))) ?_ d.2.2.2.len j (.r (.l ⟨d.1,g⟩));rw[y2];exact i
  rw[if_neg t3]at d
  by_cases t5:a.a=5
  ·rw[if_pos t5]at d;rw[t5]at f;simp[bOO]at f;obtain⟨K,i,j,g,v⟩:=one d.2 (W Oa) f.2;exact fin Oa Oa (by rw[d.1,t5];rfl) (fun s=>bNV s L (.r (.r (.r (.r (.l ⟨t5,d.1⟩)))))) i j g (.r (.r (.r (.l ⟨Oa,v⟩))))
  rw[if_neg t5]at d
  by_cases t6:a.a=6
  ·rw[if_pos t6]at d;rw[t6]at f;simp[bOO]at f;obtain⟨K,i,j,g,v⟩:=two 0 d.2.2.2 f.2.1 f.2.2;exact fin Oa Oa (by rw[d.1,t6];rfl) (fun s=>bNV s L (.r (.r (.r (.r (.r (.l ⟨t6,d.1,d.2.1,d.2.2.1⟩))))))) i j g (.r (.r (.r (.r (.l ⟨Oa,v⟩)))))
  rw[if_neg t6]at d
  by_cases t7:a.a=7
  ·rw[if_pos t7]at d;rw[t7]at f;simp[bOO]at f;obtain⟨K,i,j,g,v⟩:=two 0 d.2.2 f.2.1 f.2.2;exact fin Oa Oa (by rw[d.1,t7];rfl) (fun s=>bNV s L (.r (.r (.r (.r (.r (.r (.l ⟨t7,d.1⟩)))))))) i j g (.r (.r (.r (.r (.l ⟨Oa,v⟩)))))
  rw[if_neg t7]at d
  by_cases t8:a.a=8
  ·rw[if_pos t8]at d
   have hk:n.d=10\/n.d=11:=by
    rw[d.1];split<;>simp
   rw[t8]at f;simp[bOO]at f;obtain⟨K,i,j,g,v⟩:=two 1 d.2 f.2.1 f.2.2;exact fin Oa Oa (by rw[t8];rcases hk with e|e<;>rw[e]<;>rfl) (fun s=>bNV s L (.r (.r (.r (.r (.r (.r (.r (.l ⟨t8,hk⟩))))))))) i j g (.r (.r (.r (.r (.r (.l ⟨hk,v⟩))))))
  rw[if_neg t8]at d
  by_cases t9:a.a=9
  ·rw[if_pos t9]at d;rw[t9]at f;simp[bOO]at f;cases hfl:a.flag with
   |false=>
    rw[hfl]at d;have Q:n.d=13:=by simpa using d.1
    obtain⟨K,i,j,g,v⟩:=one d.2.2.2 (W Oa) f.2;exact fin (by simp[hfl]) Oa (by rw[Q,t9];rfl) (fun s=>bNV s L (.r (.r (.r (.r (.r (.r (.r (.r (.l ⟨t9,hfl,Q,d.2.1,d.2.2.1⟩)))))))))) i j g (.r (.r (.r (.l ⟨Oa,v⟩))))
   |true=>
    rw[hfl]at d;have Q:n.d=12:=by simpa using d.1
    obtain⟨y,u,q⟩:=d.2.2.2;have y1:=hn.1;have b5:=hn.lt;have e:((x.toNat:Nat):Int)=x:=Int.toNat_of_nonneg y1;have k:=T _ _ _ P q;rw[f.2]at k;obtain⟨K,i,j,g⟩:=k.ins (Int.le_refl x);have:=cB2 (X:=X) (U:=U) (m:=m) (Y:=Y) (vI:=vI) (D:=D) (M:=M) (V:=V) (A:=A) (H:=H) (I:=I) (F:=F) (K:=K) Oa hn.2 Q u (by rw[e];exact h0) (by rw[e];exact i.o);rw[e]at this;have e2:nmT S FQ (.node b o a l r)=fun s=>(nmT S FQ l s).letQ n.s n.at_:=funext fun s=>by rw[nmT,if_pos ⟨t9,hfl⟩,d.2.1,d.2.2.1]
    rw[e2];refine⟨_,bLQ.one (this.wide (Int.le_refl _) Oa (fun _ h=>h)) Oa,j.node hn (.r (.r (.r (.l ⟨Oa,y,u,g y Od⟩)))),fun Z G=>?_⟩;rw[List.mem_singleton.1 G];exact⟨.l rfl,n,hn,by rw[<-cs,t9,Q];rfl⟩
  rw[if_neg t9]at d
  by_cases a2:a.a=10
  ·rw[if_pos a2]at d;rw[a2]at f;simp[bOO]at f;obtain⟨K,i,j,g,v⟩:=two 0 d.2.2.2 f.2.1 f.2.2;exact fin Oa Oa (by rw[d.1,a2];rfl) (fun s=>bNV s L (.r (.r (.r (.r (.r (.r (.r (.r (.r (.l ⟨a2,d.1,d.2.1,d.2.2.1⟩))))))))))) i j g (.r (.r (.r (.r (.l ⟨Oa,v⟩)))))
  rw[if_neg a2]at d;have own:11<=a.a->15<=n.d->∀ s,bN9 S FQ n s=nm1 S FQ a (YtikffmloeifkpaaGreatDoor.aD l) s:=fun u q s=>bNV s L (.r (.r (.r (.r (.r (.r (.r (.r (.r (.r ⟨u,q⟩))))))))))
  by_cases a4:a.a=11
  ·rw[if_pos a4]at d;rw[a4]at f;simp[bOO]at f;obtain⟨Q,y,ys,a9,u,q,z⟩:=d;have e1:=q.le;have e2:=q.len;have e3:=z.len;have e4:=z.le;have k:=T _ _ _ P q;have w:=R _ _ _ Oa z;rw[f.2.1]at k;rw[f.2.2]at w;obtain⟨K,i,j,g⟩:=k.ins (x:=x) Oa;obtain⟨K',a7,a8,a3⟩:=w.ins (Int.le_refl x);obtain⟨bb,yr,k8,y0⟩:=bU9 f.2.2 hr z;refine fin (K:=fun a1=>K a1\/K' a1) Oa Oa (by rw[Q,a4];rfl) (own Oa Oa) ?_ ?_ (j.or a8) (.r (.r (.r (.r (.r (.r ⟨.l Q,y,bb,yr,by rw[u,k8],(g y Od).mono (fun _=> .l),(a3 bb (by simp[k8])).mono (fun _=> .r),y0.imp id (fun⟨e,he⟩=>⟨Q,e,he,(a3 e (by simp[k8,he])).mono (fun _=> .r)⟩)⟩))))))
   ·rw[u];exact i.app a7
   ·rw[u];simp only[List.length_cons,List.length_nil]at*;omega
  rw[if_neg a4]at d
  by_cases a5:a.a=12
  ·rw[if_pos a5]at d;rw[a5]at f;simp[bOO]at f;obtain⟨Q,y,c,m2,a9,u,q,z,g4,g5,g6⟩:=d;have e1:=q.le;have e2:=q.len;have e5:=g5.le;have k:=T _ _ _ P q;have w:=R _ _ _ Oa g5;rw[f.2.1]at k;rw[f.2.2]at w;obtain⟨K,i,j,g⟩:=k.ins (x:=x) Oa;obtain⟨K',a7,a8,a3⟩:=(bR1 J hF E C G N O z Oa g6 g4 g5.len w).ins (Int.le_refl x);refine fin (K:=fun a1=>K a1\/K' a1) Oa Oa (by rw[Q,a5];rfl) (own Oa Oa) ?_ ?_ (j.or a8) (.r (.r (.r (.r (.r (.r ⟨.r Q,y,c,[],u,(g y Od).mono (fun _=> .l),(a3 c Od).mono (fun _=> .r),.l rfl⟩))))))
   ·rw[u];exact i.app a7
   ·rw[u];simp only[List.length_cons,List.length_nil]at*;omega
  rw[if_neg a5]at d
  by_cases a6:a.a=13
  ·rw[if_pos a6]at d;rw[a6]at f;simp[bOO]at f;obtain⟨K,i,j,g,v⟩:=one d.2 (W Oa) f.2;exact fin Oa Oa (by rw[d.1,a6];rfl) (own Oa Oa) i j g (.r (.r (.r (.l ⟨Oa,v⟩))))
  rw[if_neg a6]at d;have b2:a.a=14:=Oa
  rw[b2]at f;simp[bOO]at f;obtain⟨K,i,j,g,v⟩:=one d.2 (W Oa) f.2;exact fin Oa Oa (by rw[d.1,b2];rfl) (own Oa Oa) i j g (.r (.r (.r (.l ⟨Oa,v⟩))))
end
end
section
variable {T Q:List Tok} {r:Rd} {st:QS} {N n:Nat} {S C B:Pr} {E P D:QS->QS × Int}
theorem bR9:(bMN T st).L=st.L:=by
 grind[bMN,bKY,bOF]
theorem bVL(e:Tw T Q)(a:Rl r st)(d:r.b < T.length):Rl (r.take T iR) (bMN Q st)/\((r.take T iR).a=0->r.a=0/\bNU Q st=sp (cN T r iR).d.toNat/\(r.take T iR).b=r.b+1):=by
 rcases a with a|a
 ·have k:=bV6 e a d (all:=bRN) (O:=iR) (by rfl) Ob Ob Ob;unfold bMN bNU;rw[k];cases hs:aN T r iR
  ·have f:=bN7 e a d hs;rw[if_neg Od];exact⟨.r f,fun h=>absurd h f.c⟩
  ·obtain⟨g,i,j,l⟩:=bMH e a d hs Ob;rw[if_pos ⟨rfl,a.d⟩,if_pos ⟨rfl,a.d⟩];refine⟨.l g,fun _=>⟨a.c,?_,i⟩⟩;rw[j,<-a.i];have c:aQ iR (dD T r.b).d=true:=hs;rcases(e.tok r.b d).2 with⟨b,_⟩|⟨b,_⟩|⟨b,_⟩|⟨_,_,_,b⟩
   ·rw[b]at c;cases c
   ·rw[b]at c;cases c
   ·rw[b]at c;cases c
   ·exact b
 ·exact⟨.r (a.gr (bLN _ a.c) (Gr.comp Q st)),fun h=>absurd ((by grind[iR,bLN])) a.c⟩
theorem bTK(d:Tw T Q)(a:Sm T Q N S E)(f:Grs E):Sm T Q N (iJ T S) (bUO Q E):=by
 refine⟨bP1 a.stk,uW d.ends a.go,⟨3,f.cmp⟩,fun r st p h l=>?_⟩;obtain⟨q,s⟩:=a.run r st p h l;have b:=a.go r h;obtain⟨c1,c2⟩:=bVL d q b.lt;have e:=aP d.ends b.lt (show aQ iR 0=false by decide);have v:=b.ge;have w:=e.ge;obtain⟨t,u⟩:=a.all c1 e.lt Oa;unfold iJ bUO;refine⟨t.add _,fun o=>?_⟩;obtain⟨i,c⟩:=u o;obtain⟨j,k,_⟩:=c2 i;have g:=s j;rw[bR9]at c;have y:=g.le;have x:=c.le;unfold mk NX;rw[if_neg Od,if_neg Od,if_neg Od,if_neg Od];refine⟨_,_,rfl,Ndq.last _ _,Oa,by grind[bL2],?_⟩;rw[if_neg Od,if_neg Od,if_neg Od,if_neg Od,if_neg Od,if_neg Od,if_pos rfl];refine⟨rfl,k,_,_,_,rfl,NX.mono ?_ _ _ _ _ g,NX.mono (List.prefix_append _ _) _ _ _ _ c⟩;exact((Gr.comp Q _).pre.t (f _).pre).t (List.prefix_append _ _)
theorem bUF(q:Tw T Q)(g:Sm T Q N S E){b:Nat}{f:Int}(u:b=32/\f=10\/b=33/\f=11):
 ∀ n k r st x v (lo:Int),Ro r st->r.b < T.length->T.length - r.b<=N->T.length - r.b<=n->T.length - r.b<=k->NX st.L v [x] lo st.L.length->
  Rl (bM8 T S (b:Int) n r v).1 (bMG Q E (sp b) f k x st).1/\((bM8 T S (b:Int) n r v).1.a=0->NX (bMG Q E (sp b) f k x st).1.L (bM8 T S (b:Int) n r v).2 [(bMG Q E (sp b) f k x st).2] lo (bMG Q E (sp b) f k x st).1.L.length):=by
 intro n
 induction n with
 |zero=>omega
 |succ n ih=>
  intro k r st x v lo i o hN hn hk p;obtain⟨k,rfl⟩:∃ Z,k=Z+1:=⟨k - 1,Oa⟩;have W:=bN6 q i o (k:=b) Oa Oa;unfold bM8 bMG;rw[W];cases hs:aN T r [(b:Int)]
  ·rw[if_neg Od,if_neg Od];exact⟨.l i,Qh⟩
  ·have t:aQ [(b:Int)] 0=false:=by rcases u with⟨rfl,_⟩|⟨rfl,_⟩<;>decide
   obtain⟨s,g2,g3,g4⟩:=bMH q i o hs t;have z:r.C T [(b:Int)]=r.take T [(b:Int)]:=by grind[Rd.C,Rd.take]
   rw[if_pos rfl,if_pos ⟨rfl,i.d⟩,z];obtain⟨e,p2⟩:=g.run _ _ s Oa Oa;have l:=g.go (r.take T [(b:Int)]) Oa;have a1:=l.ge;obtain⟨gn,L⟩:=g.gr;have j:=L (bKV Q st);generalize R:({d:=f,c:=[x,(E (bKV Q st)).2]}:NQ)=X;rcases e with e|e
   ·refine ih k _ _ _ _ lo ⟨e.c,e.d,e.i,e.o,e.lo,e.hi⟩ l.lt Oa Oa Oa ?_;unfold mk NX;rw[if_neg Od,if_neg Od,if_neg Od,if_neg Od];have K:=j.pre.length_le;rw[bKY]at K;have a2:=p.le;refine⟨_,_,rfl,Ndq.last _ X,Oa,by grind[bL2],?_⟩;rw[if_neg Od,if_neg Od,if_neg Od,if_neg Od,if_neg Od,if_neg Od,if_neg Od,if_pos rfl,<-R];refine⟨?_,x,_,st.L.length,rfl,?_,?_⟩
    ·grind
    ·refine NX.mono ?_ _ _ _ _ p;have:=j.pre;rw[bKY]at this;exact this.t (List.prefix_append _ _)
    ·have m:=p2 e.c;rw[bKY]at m;exact NX.mono (List.prefix_append _ _) _ _ _ _ m
   ·have w:=bPN (T:=T) g.stk (b:Int) n _ (mk {a:=8,op:=(b:Int)} v (S (r.take T [(b:Int)])).2) e.c
    have hq:∀ k y,(bMG Q E (sp b) f k y (bL2 X (E (bKV Q st)).1)).1.a=(E (bKV Q st)).1.a/\(bMG Q E (sp b) f k y (bL2 X (E (bKV Q st)).1)).1.e=(E (bKV Q st)).1.e:=by
     intro k y;cases k with
     |zero=>trivial
     |succ k=>
      unfold bMG;rw[if_neg (fun h=>e.c (e.d.symm.t h.2))];trivial
    exact⟨.r (e.to w Qh),fun hc=>absurd (Oa) e.c⟩
theorem bSC(d:Tw T Q)(b:Sm T Q N S E)(f:Grn 3 E){c:Nat}{e:Int}(h:c=32/\e=10\/c=33/\e=11){n:Nat}(s:N<=n):Sm T Q N (kK T S (c:Int) n) (bSX Q E (sp c) e):=by
 refine⟨bQC b.stk _ n,zJ d.ends b.go (by rcases h with⟨rfl,_⟩|⟨rfl,_⟩<;>decide) n,⟨3,f.log Oa _ _⟩,fun r st l i k=>?_⟩;obtain⟨a,o⟩:=b.run r st l i k;have g:=b.go r i;have:=g.ge;have q:=d.len;unfold kK bSX;rcases a with a|a
 ·exact bUF d b h n Q.length _ _ _ _ _ a g.lt Oa Oa Oa (o a.c)
 ·have j:=bPN (T:=T) b.stk (c:Int) n (S r).1 (S r).2 a.c;exact⟨.r (a.gr j (f.loop Oa _ _ _ _ _)),fun p=>absurd (Oa) a.c⟩
theorem bX9(a:Tw T Q){m:Nat}(d:N+1<=m)(e:16*N+6<=n):Sm T Q N (iH T n 5) (bQK Q (qEF Q m).1):=by
 obtain⟨n,rfl⟩:∃ k,n=k+3:=⟨n - 3,Oa⟩;have b:=bTK a ((bXB a N n m d).2 Oa) (bM6 Q m).1.1;have c:=bSC a b (bM6 Q m).1.1.cmp (.l ⟨rfl,rfl⟩) (n:=n+1) Oa;exact bSC a c ((bM6 Q m).1.1.cmp.log Oa bO3 10) (.r ⟨rfl,rfl⟩) (n:=n+2) Oa
def NBx(lo:Int)(L:List NQ)(t:Tr)(x:Int):Prop:=∃ m,Ndq L x m/\m.d=19/\NX L t m.c lo x
theorem NBx.mono{L a:List NQ}{t:Tr}{lo x:Int}(h:NBx lo L t x)(b:L <+:a):NBx lo a t x:=by
 obtain⟨m,c,d,e⟩:=h;exact⟨m,c.mono b,d,NX.mono b _ _ _ _ e⟩
def NB(lo:Int)(L:List NQ)(t:Tr)(x:Int):Prop:=NBx lo L t x/\x+1=L.length
abbrev Sb:=Smx NB
theorem bWH(g:Tw T Q)(j:Sm T Q N S P)(L:∀ st,Gr st (P st).1 0/\((P st).1.a≠0\/st.i+1<=(P st).1.i))(K:∀ st,st.a=0->(dD Q st.i).d=0->(P st).1=bLH Q st):
 ∀ n k r st l,Rl r st->r.b < T.length->(r.a=0->T.length - r.b<=N/\T.length - r.b<=n/\T.length - r.b<=k/\1<=r.c)->
 Rl ((cL T S n r).1.H T 15) (bL0 Q (sp 15) (bLW Q P k l st).1)/\st.L <+:(bLW Q P k l st).1.L/\(((cL T S n r).1.H T 15).a=0->r.a=0/\∃ f,(bLW Q P k l st).2=l++f/\NX (bLW Q P k l st).1.L (cL T S n r).2 f st.L.length (bLW Q P k l st).1.L.length):=by
 have t:∀ (k:Nat) (l:List Int) (st:QS),st.a≠0->(bLW Q P k l st).1=st:=fun k l st h=>by
  cases k with
  |zero=>rfl
  |succ k=>grind[bLW]
 have m:∀ (n k:Nat) (r:Rd) (st:QS) (l:List Int),Rf r st->Rl ((cL T S n r).1.H T 15) (bL0 Q (sp 15) (bLW Q P k l st).1)/\st.L <+:(bLW Q P k l st).1.L/\(((cL T S n r).1.H T 15).a=0->r.a=0/\∃ f,(bLW Q P k l st).2=l++f/\NX (bLW Q P k l st).1.L (cL T S n r).2 f st.L.length (bLW Q P k l st).1.L.length):=by
  intro n k r st l a;obtain⟨w,h2⟩:=bR5 (T:=T) j.stk n r a.c;obtain⟨h3,h4⟩:=bMU (T:=T) (r:=(cL T S n r).1) 15 (by rw[w];exact a.c);rw[t k l st (by rw[a.d];exact a.c)];exact⟨.r (a.gr Oa (Gr.H Q _ st)),Od,fun h=>absurd (Oa) a.c⟩
 intro n
 induction n with
 |zero=>
  intro k r st l a b i;rcases a with a|a
  ·have:=i a.c;omega
  ·exact m 0 k r st l a
 |succ n ih=>
  intro k r st l a b i;rcases a with a|a
  ·obtain⟨y,d,hk,a2⟩:=i a.c;obtain⟨k,rfl⟩:∃ a1,k=a1+1:=⟨k - 1,Oa⟩;have R:=bN6 g a b (k:=15) Oa Oa;have v:rbT=sp 15:=rfl;unfold cL bLW;rw[v,R]
   by_cases z:(dD T r.b).d=15
   ·have e:aN T r [15,0]=true:=by unfold aN;rw[z];rfl
    have c:aN T r [((15:Nat):Int)]=true:=by grind[bLY]
    rw[if_pos e,if_neg (fun h=>by rw[c]at h;cases h.2)];exact⟨bPG g (.l a) b Oa (k:=15) Oa Oa,Od,fun _=>⟨a.c,[],Od,rfl,Int.le_refl _⟩⟩
   have c:aN T r [((15:Nat):Int)]=false:=by grind[bLY]
   by_cases o:(dD T r.b).d=0
   ·have e:aN T r [15,0]=true:=by unfold aN;rw[o];rfl
    have x:(dD Q st.i).d=0:=by rw[<-a.i];exact(g.tok r.b b).Y.2.2.2 o
    have d:=bN7 g a b c;rw[if_pos e,if_pos ⟨a.d,c⟩,K st a.d x,t _ _ _ (by rw[d.d];exact d.c)];refine⟨.r (Rf.gr (r:=r.take T [15]) d Qj (Gr.H Q _ _)),(Gr.E Q st).pre,fun h=>absurd h d.c⟩
   ·have e:aN T r [15,0]=false:=(by grind[bS7]);rw[if_neg (by simp[e]),if_pos ⟨a.d,c⟩];obtain⟨u,p2⟩:=j.run r st a b y;have p:=j.go r b;obtain⟨q1,q2⟩:=L st
    obtain⟨W,Z,i3⟩:=ih k (S r).1 (P st).1 (l++[(P st).2]) u p.lt (fun q=>by
     have s:=u.ok q;have e1:=s.i;have e2:=a.i;have e3:=q2.resolve_left (fun h=>h s.d);have e4:=p.c;omega)
    refine⟨W,q1.pre.t Z,fun q=>⟨a.c,?_⟩⟩
    grind[cons,mk,NX,NX.mono]
  ·exact m (n+1) k r st l a
theorem bSE(a:Tw T Q)(b:Sm T Q N S P)(d:∀ st,Gr st (P st).1 0/\((P st).1.a≠0\/st.i+1<=(P st).1.i))(o:∀ st,st.a=0->(dD Q st.i).d=0->(P st).1=bLH Q st)(z:N<=n):
 Sb T Q (N+1) (qI T S n) (bP4 Q P):=by
 refine⟨bS6 b.stk n,aGA a.ends b.go n,⟨1,Grn.block (fun st=>(d st).1)⟩,fun r st f e x=>?_⟩;obtain⟨p,K⟩:=bPW a (.l f) e (k:=14) Oa Oa;obtain⟨t,g,u⟩:=dF a.ends e (show aQ [((14:Nat):Int)] 0=false by decide);have y:=a.len
 obtain⟨q,L,s⟩:=bWH a b d o n Q.length _ _ [] p g (fun c=>by
  have:=(mR c).2;have:=f.lo;omega)
 have h:lbT=sp 14:=rfl;have i:rbT=sp 15:=rfl;unfold qI bP4;rw[h,i];refine⟨q.add _,fun c=>?_⟩;obtain⟨v,R,j,l⟩:=s c;refine⟨⟨_,Ndq.at (by rw[bLR]),rfl,?_⟩,by grind[bL2,bLR,List.length_append,List.length_cons,List.length_nil]⟩;show NX ((bL0 Q _ _).L++_) (bM3 (cL T S n (r.B T [14])).2) (bLW Q P Q.length [] (bKW Q (sp 14) st)).2 _ _;rw[bLR,j];have w:=l.listed
 grind[bNH,NX.mono,List.prefix_append]
end
section
variable {T Q:List Tok} {r:Rd} {st:QS} {N n:Nat} {S C B:Pr} {E P D:QS->QS × Int}
theorem QT.h{t q:Tok}(h:QT t q)(b:t.d=1):q.e=t.e/\q.f=t.f:=by
 refine⟨h.1,?_⟩;rcases h.2 with⟨a,_⟩|⟨_,_,a⟩|⟨a,_⟩|⟨a,_⟩
 ·omega
 ·exact a
 ·omega
 ·omega
theorem bPF(o:Tw T Q)(b:Sm T Q N S E)(_:Grs E)(l:Rl r st)(d:r.b < T.length)(i:r.a=0->T.length - r.b<=N)(x:NQ):
 Rl (fM T S r).1 (bMT Q E x st).1/\((fM T S r).1.a=0->r.a=0/\∃ y,Ndq (bMT Q E x st).1.L (bMT Q E x st).2 {x with c:=x.c++[y],f:=-1}/\NX (bMT Q E x st).1.L (fM T S r).2 [y] st.L.length (bMT Q E x st).2/\(bMT Q E x st).2+1=(bMT Q E x st).1.L.length):=by
 obtain⟨p,q⟩:=b.all l d i;have e:=b.go r d;have s:=bQT o p e.lt (k:=19) Oa Oa;unfold fM bMT;refine⟨s.add _,fun j=>?_⟩;obtain⟨g,h⟩:=q (bR j).1;refine⟨g,(E st).2,?_,?_,by grind[bL2,bLX,List.length_append,List.length_cons,List.length_nil]⟩
 ·exact Ndq.at (a:={x with c:=x.c++[(E st).2]}) (by rw[bLX])
 ·refine NX.mono ?_ _ _ _ _ h;show _ <+:(bL1 Q _ _).L++_
  grind[bLX,List.prefix_append]
theorem bVH(c:Tw T Q)(j:Sm T Q N S E)(h:Grs E){t q:Tok}(x:q.e=t.e/\q.f=t.f)(a:Bool)(l:Ro r st)(f:r.b < T.length)(w:T.length - r.b<=N+1):
 Rl (sQ T S t a r).1 (bMT Q E {d:=if a then 12 else 13,at_:=q.e,s:=q.f} (bL1 Q bMX st)).1/\((sQ T S t a r).1.a=0->NX (bMT Q E {d:=if a then 12 else 13,at_:=q.e,s:=q.f} (bL1 Q bMX st)).1.L (sQ T S t a r).2 [(bMT Q E {d:=if a then 12 else 13,at_:=q.e,s:=q.f} (bL1 Q bMX st)).2] st.L.length (bMT Q E {d:=if a then 12 else 13,at_:=q.e,s:=q.f} (bL1 Q bMX st)).1.L.length):=by
 have g:=aP c.ends f (show aQ [20] 0=false by decide);have o:Rl (r.take T [20]) (bL1 Q bMX st):=bQT c (.l l) f (k:=20) Oa Oa;obtain⟨p,u⟩:=bPF c j h o g.lt (fun b=>by have:=(bR b).2.2.1;omega) {d:=if a then 12 else 13,at_:=q.e,s:=q.f};refine⟨p,fun b=>?_⟩;obtain⟨_,y,i,e,v⟩:=u b;rw[bLX]at e;unfold sQ mk NX;rw[if_neg Od,if_neg Od,if_neg Od,if_neg Od];refine⟨_,_,rfl,i,e.le,Oa,?_⟩
 grind
theorem bWD(a:Tw T Q)(f:Sm T Q N S E)(p:Grs E){t q:Tok}(u:q.e=t.e/\q.f=t.f)(x:Ro r st)(h:r.b < T.length)(hN:T.length - r.b<=N+1):
 Rl (lK T S t r).1 (bMT Q E {d:=14,at_:=q.e,s:=q.f,c:=[(E (bKW Q brT st)).2]} (bL1 Q bMX (bL0 Q bOB (E (bKW Q brT st)).1))).1/\((lK T S t r).1.a=0->NX (bMT Q E {d:=14,at_:=q.e,s:=q.f,c:=[(E (bKW Q brT st)).2]} (bL1 Q bMX (bL0 Q bOB (E (bKW Q brT st)).1))).1.L (lK T S t r).2 [(bMT Q E {d:=14,at_:=q.e,s:=q.f,c:=[(E (bKW Q brT st)).2]} (bL1 Q bMX (bL0 Q bOB (E (bKW Q brT st)).1))).2] st.L.length (bMT Q E {d:=14,at_:=q.e,s:=q.f,c:=[(E (bKW Q brT st)).2]} (bL1 Q bMX (bL0 Q bOB (E (bKW Q brT st)).1))).1.L.length):=by
 obtain⟨i,l⟩:=bUG a f (.l x) h Oa (j:=16) (k:=17) Oa Oa Oa Oa;have i:Rl (gR T S r).1 (bL0 Q bOB (E (bKW Q brT st)).1):=i;have l:(gR T S r).1.a=0->r.a=0/\NX (E (bKW Q brT st)).1.L (gR T S r).2 [(E (bKW Q brT st)).2] st.L.length (E (bKW Q brT st)).1.L.length:=l;have b:=lN a.ends f.go r h;have o:=aP a.ends b.lt (show aQ [20] 0=false by decide);have y:Rl ((gR T S r).1.take T [20]) (bL1 Q bMX (bL0 Q bOB (E (bKW Q brT st)).1)):=bQT a i b.lt (k:=20) Oa Oa;have R:=b.ge;have W:=o.ge;have a1:=(dF a.ends h (show aQ [((16:Nat):Int)] 0=false by decide)).2.1;obtain⟨z,K⟩:=bPF a f p y o.lt (fun g=>by have:=(bR g).2.2.1;omega) {d:=14,at_:=q.e,s:=q.f,c:=[(E (bKW Q brT st)).2]};refine⟨z,fun g=>?_⟩;obtain⟨v,L,w,e,Z⟩:=K g;rw[bLX,bLR]at e;have hi:=(l (bR v).1).2;have l1:=e.le;have l2:=hi.le;unfold lK mk NX;dsimp only;rw[if_neg Od,if_neg Od,if_neg Od,if_neg Od];refine⟨_,_,rfl,w,Oa,Oa,?_⟩;rw[if_neg Od,if_neg Od,if_neg Od,if_neg Od,if_neg Od,if_neg Od,if_neg Od,if_neg Od,if_neg Od,if_pos rfl];refine⟨rfl,u.1,u.2,_,L,_,rfl,NX.mono ?_ _ _ _ _ hi,e⟩;have:=(p.fin (T:=Q) {d:=14,at_:=q.e,s:=q.f,c:=[(E (bKW Q brT st)).2]} (bL1 Q bMX (bL0 Q bOB (E (bKW Q brT st)).1))).pre
 grind[bLX,bLR]
theorem cAA(R:Tw T Q)(K:Sm T Q N C D)(f:Sb T Q N B P)(j:Grs P)(x:NQ)(hr:Ro r st)(L:r.b < T.length)(hN:T.length - r.b<=N):
 Rl (ifP T C B r).1 (bLO Q D P x true st).1/\((ifP T C B r).1.a=0->NX (bLO Q D P x true st).1.L (ifP T C B r).2 [(bLO Q D P x true st).2] st.L.length (bLO Q D P x true st).1.L.length):=by
 obtain⟨c1,c2⟩:=K.run r st hr L hN;have g:=K.go r L;have g1:=g.ge;obtain⟨b,v⟩:=f.all c1 g.lt Oa;have i:=f.go _ g.lt;have g2:=i.ge;have e8:bQM=sp 8:=rfl;unfold ifP bLO;dsimp only;rw[e8]
 by_cases a:(B (C r).1).1.a=0
 ·have l:=b.ok a;have ha:=bN6 R l i.lt (k:=8) Oa Oa;rw[ha];obtain⟨f1,d,f3⟩:=v a;have m:=c2 f1;have a1:=m.le;obtain⟨_,_,_,Z⟩:=d;have Z:=Z.le;have d:=(v a).2.1;cases hs:aN T (B (C r).1).1 [((8:Nat):Int)]
  ·have w:aN T (B (C r).1).1 [8]=false:=hs;rw[if_neg (by simp[]),if_neg Od];refine⟨b.add _,fun _=>?_⟩;unfold mk NX;rw[if_neg Od,if_neg Od,if_neg Od,if_neg Od];refine⟨_,_,rfl,Ndq.last _ _,Oa,by grind[bL2],?_⟩;rw[if_neg Od,if_neg Od,if_neg Od,if_neg Od,if_neg Od,if_neg Od,if_neg Od,if_neg Od,if_neg Od,if_neg Od,if_pos rfl];refine⟨rfl,_,_,_,rfl,NX.mono ((j _).pre.t (List.prefix_append _ _)) _ _ _ _ m,?_⟩;unfold NX;rw[if_neg Od,if_neg Od,if_neg Od,if_pos rfl];obtain⟨p,q,s,t⟩:=d.mono (List.prefix_append _ _);exact⟨_,p,q,s,t,Qg⟩
  ·have w:aN T (B (C r).1).1 [8]=true:=hs;obtain⟨t1,t2,t3,t4⟩:=bMH R l i.lt w Ob;have h6:(B (C r).1).1.C T [8]=(B (C r).1).1.take T [8]:=by grind[Rd.C,Rd.take]
   rw[if_pos rfl,if_pos ⟨rfl,rfl,l.d⟩,h6];obtain⟨k1,k2⟩:=f.run _ _ t1 Oa Oa;refine⟨k1.add _,fun hc=>?_⟩;have e:=(j (bKV Q (P (D st).1).1)).pre;rw[bKY]at e;unfold mk NX;rw[if_neg Od,if_neg Od,if_neg Od,if_neg Od];have a2:=e.length_le;obtain⟨W,k4⟩:=k2 hc;rw[bKY]at W;refine⟨_,_,rfl,Ndq.last _ _,Oa,by grind[bL2],?_⟩;rw[if_neg Od,if_neg Od,if_neg Od,if_neg Od,if_neg Od,if_neg Od,if_neg Od,if_neg Od,if_neg Od,if_neg Od,if_pos rfl];refine⟨rfl,_,_,_,rfl,NX.mono (((j _).pre.t e).t (List.prefix_append _ _)) _ _ _ _ m,?_⟩;unfold NX;rw[if_neg Od,if_neg Od,if_neg Od,if_pos rfl];obtain⟨p,q,s,t⟩:=d.mono (e.t (List.prefix_append _ _));obtain⟨o,o1,o2,o3⟩:=W.mono (List.prefix_append _ _);exact⟨_,p,q,s,t,.r ⟨_,o,rfl,o1,o2,by rw[f3];exact o3,Oa⟩⟩
 ·have z:Rf (B (C r).1).1 (P (D st).1).1:=b.resolve_left (fun h=>a h.c);rw[if_neg (c:=true=true/\qat Q (P (D st).1).1 (sp 8)=true/\(P (D st).1).1.a=0) (fun h=>a (by rw[<-b.a];omega))]
  have h5:∀ y:Rd × Tr,y.1=(B (C r).1).1\/(∃ u,y.1=(B u).1/\u=(B (C r).1).1.C T [8])->y.1.a=(B (C r).1).1.a/\y.1.e=(B (C r).1).1.e:=by
   rintro y (h|⟨u,h,rfl⟩)
   ·simp[*]
   ·obtain⟨s1,s2⟩:=bNS (T:=T) (r:=(B (C r).1).1) [8] a;obtain⟨s3,s4⟩:=f.stk ((B (C r).1).1.C T [8]) Oa;simp[*]
  split
  ·have:=h5 ((B ((B (C r).1).1.C T [8])).1,.nil) (.r ⟨_,rfl,rfl⟩);exact⟨.r (z.to this Qj),Qh⟩
  ·exact⟨.r (z.to Qj Qj),Qh⟩
theorem bWB(_:Tw T Q)(d:Sm T Q N C D)(l:Sb T Q N B P)(k:Grs P)(x:NQ)(p:Ro r st)(e:r.b < T.length)(m:T.length - r.b<=N):
 Rl (B (C r).1).1 (bLO Q D P x false st).1/\((B (C r).1).1.a=0->NX (bLO Q D P x false st).1.L (mk {a:=12} (C r).2 (B (C r).1).2) [(bLO Q D P x false st).2] st.L.length (bLO Q D P x false st).1.L.length):=by
 obtain⟨c1,c2⟩:=d.run r st p e m;have b:=d.go r e;have u:=b.ge;obtain⟨g,h⟩:=l.all c1 b.lt Oa;unfold bLO;rw[if_neg Od];refine⟨g.add _,fun o=>?_⟩;obtain⟨i,j,f3⟩:=h o;have c:=c2 i;have w:=c.le;obtain⟨q,s,t,f⟩:=j.mono (List.prefix_append _ _);have v:=f.le;unfold mk NX;rw[if_neg Od,if_neg Od,if_neg Od,if_neg Od];refine⟨_,_,rfl,Ndq.last _ _,Oa,by grind[bL2],?_⟩;rw[if_neg Od,if_neg Od,if_neg Od,if_neg Od,if_neg Od,if_neg Od,if_neg Od,if_neg Od,if_neg Od,if_neg Od,if_neg Od,if_pos rfl];exact⟨rfl,_,_,q,_,rfl,NX.mono ((k _).pre.t (List.prefix_append _ _)) _ _ _ _ c,s,t,f,Oa⟩
theorem bX7(b:Tw T Q)(f:Sm T Q N S E)(u:Grs E)(hC:Sm T Q N C D)(gD:Grn 3 D)(hB:Sb T Q N B P)(gP:Grs P):Sm T Q (N+1) (eL T S C B) (bMF Q E D P):=by
 refine⟨bTG f.stk hC.stk hB.stk,aB3 b.ends f.go hC.go hB.go,⟨0,(by grind[bOL])⟩,fun r st x w hN=>?_⟩;have s:=b.tok r.b w;have k4:dD Q st.i=dD Q r.b:=by rw[x.i]
 have k2:=bV6 b x w (all:=stT) (O:=[6,7,9,10,11]) (by rfl) Ob Ob Ob;unfold eL bMF;dsimp only;rw[k4,k2]
 by_cases hs:aN T r aR=true
 ·obtain⟨t,g2,g3,g4⟩:=bMH b x w hs Ob;have q:(r.take T aR).b < T.length:=Oa
  have a3:T.length - (r.take T aR).b<=N:=Oa
  have a4:(cN T r aR).d=(dD T r.b).d:=by rw[g3]
  have k7:(dD T r.b).d=6\/(dD T r.b).d=1\/(dD T r.b).d=7\/(dD T r.b).d=9\/(dD T r.b).d=10\/(dD T r.b).d=11:=by
   have:=aH6 hs;rw[g3]at this;simpa[aR]using this
  by_cases L:(dD T r.b).d=1
  ·have v:=s.Y.1.2 L;have k3:=s.h L;have ha:=bN6 b t q (k:=16) Oa Oa;have a2:brT=sp 16:=rfl
   grind[aN,aR,bVH,bKY,bWD]
  ·have v: ¬(dD Q r.b).d=1:=fun e=>L (s.Y.1.1 e);have K:aN T r [6,7,9,10,11]=true:=bUD Qg
   have o:∀ k:Nat,(dD T r.b).d=(k:Int)->3<=k->(dD Q r.b).f=sp k:=by
    intro k a j;rcases s.2 with⟨y,_⟩|⟨y,_⟩|⟨y,_⟩|⟨_,_,_,y⟩
    ·omega
    ·omega
    ·omega
    simp[*]
   rw[if_neg v,if_pos K];rcases k7 with a|a|a|a|a|a
   ·rw[if_pos Oa,o 6 a Oa,if_pos (c:=sp 6=bRG) rfl];obtain⟨g,n2⟩:=bOP b (.l t) q (k:=1) Oa;have Z:=aP b.ends q (show aQ [1] 0=false by decide);have g5:=Z.ge;rcases g with g|g
    ·obtain⟨m1,m2,m3,m4,m5⟩:=n2 g.c;have k3:=m3.h m4;rw[m1,m2];have h9:=bVH b f u k3 true g Z.lt Oa
     grind[bMO,bKY]
    ·have p:=bQS (T:=T) f.stk (cN T (r.take T aR) [1]) true _ g.c;exact⟨.r (g.gr p (((Gr.must Q bMX _).t (u.fin _ _)))),fun l=>absurd (Oa) g.c⟩
   ·omega
   ·rw[Oh,if_pos Oa,o 7 a Oa,if_neg (c:=sp 7=bRG) Ob,if_pos (c:=sp 7=ifT) rfl]
    grind[dD,cAA,bKY]
   ·rw[Oh,Oh,if_pos Oa,o 9 a Oa,if_neg (c:=sp 9=bRG) Ob,if_neg (c:=sp 9=ifT) Ob,if_pos (c:=sp 9=bO9) rfl]
    grind[dD,bWB,bKY]
   ·rw[Oh,Oh,Oh,if_pos Oa,o 10 a Oa,if_neg (c:=sp 10=bRG) Ob,if_neg (c:=sp 10=ifT) Ob,if_neg (c:=sp 10=bO9) Ob,if_pos (c:=sp 10=bNQ) rfl];obtain⟨R,W⟩:=bPF b f u (.l t) q Oa {d:=17,at_:=(dD Q r.b).e};refine⟨R,fun l=>?_⟩;obtain⟨_,a1,z,j,h4⟩:=W l;rw[bKY]at j;unfold mk NX;rw[if_neg Od,if_neg Od,if_neg Od,if_neg Od];refine⟨_,_,rfl,z,j.le,Oa,?_⟩;simp[*]
   ·rw[Oh,Oh,Oh,Oh,if_pos Oa,o 11 a Oa,if_neg (c:=sp 11=bRG) Ob,if_neg (c:=sp 11=ifT) Ob,if_neg (c:=sp 11=bO9) Ob,if_neg (c:=sp 11=bNQ) Ob];obtain⟨R,W⟩:=bPF b f u (.l t) q Oa {d:=18,at_:=(dD Q r.b).e};refine⟨R,fun l=>?_⟩;obtain⟨_,a1,z,j,h4⟩:=W l;rw[bKY]at j;unfold mk NX;rw[if_neg Od,if_neg Od,if_neg Od,if_neg Od];refine⟨_,_,rfl,z,j.le,Oa,?_⟩;simp[*]
 ·have k6:aN T r aR=false:=Qh
  have i:=bN7 b x w k6;have h:∀ k:Int,aQ aR k=true->(dD T r.b).d≠k:=(by grind[aN]);have v: ¬(dD Q r.b).d=1:=fun e=>h 1 Ob (s.Y.1.1 e)
  have K:aN T r [6,7,9,10,11]=false:=bS7 (by
   simp only[List.mem_cons,List.not_mem_nil,or_false,not_or];exact⟨h 6 Ob,h 7 Ob,h 9 Ob,h 10 Ob,h 11 Ob⟩)
  have k5:cN T r aR=aD6:=by grind[cN]
  rw[k5,if_neg Ob,if_neg Ob,if_neg Ob,if_neg Ob,if_neg Ob,if_neg v,if_neg (c:=aN T r [6,7,9,10,11]=true) (by rw[K];exact Bool.false_ne_true)]
  split
  ·have p:=bS3 (T:=T) f.stk aD6 _ i.c;exact⟨.r (i.to p Qj),fun l=>absurd (Oa) i.c⟩
  ·have p:=bQS (T:=T) f.stk aD6 false _ i.c;exact⟨.r (i.to p Qj),fun l=>absurd (Oa) i.c⟩
theorem bTF{E C B:QS->QS × Int}(st:QS)(_:st.a=0)(a:(dD Q st.i).d=0):(bMF Q E C B st).1=bLH Q st:=by
 grind[bMF,bNR,stT]
theorem bUJ(b:Tw T Q){m:Nat}(g:T.length+1<=m):∀ N n k,N<=T.length->N+1<=k->16*N+1<=n->Sb T Q N (iH T n 6) (qBl Q (qEF Q m).1 (bQK Q (qEF Q m).1) k):=by
 intro N
 induction N using Nat.strongRecOn with
 |ind N ih=>
  intro n k e f h
  match N with
  |0=>exact⟨bPD n 6,bM1 b.ends n 6,⟨1,bPV (bM6 Q m).1.1 (bM6 Q m).1.1.cond k⟩,Oa⟩
  |1=>
   obtain⟨k,rfl⟩:∃ j,k=j+1:=⟨k - 1,Oa⟩;obtain⟨n,rfl⟩:∃ j,n=j+1:=⟨n - 1,Oa⟩;have a:=(bM6 Q m).1.1;have c:=bPV a (a.cond (T:=Q)) (T:=Q) k;have d:Sm T Q 0 (iH T n 7) (bMF Q (qEF Q m).1 (bQK Q (qEF Q m).1) (qBl Q (qEF Q m).1 (bQK Q (qEF Q m).1) k)):=⟨bPD n 7,bM1 b.ends n 7,⟨0,fun st=>(bOL a (a.cond (T:=Q)) c st).1⟩,Oa⟩;exact bSE b d (bOL a (a.cond (T:=Q)) c) (fun st=>bTF st) Oa
  |N+2=>
   obtain⟨k,rfl⟩:∃ j,k=j+1:=⟨k - 1,Oa⟩;obtain⟨n,rfl⟩:∃ j,n=j+2:=⟨n - 2,Oa⟩;have a:=(bM6 Q m).1.1;have c:=bPV a (a.cond (T:=Q)) (T:=Q) k
   have d:Sm T Q (N+1) (iH T (n+1) 7) (bMF Q (qEF Q m).1 (bQK Q (qEF Q m).1) (qBl Q (qEF Q m).1 (bQK Q (qEF Q m).1) k)):=
    bX7 b ((bXB b N n m Oa).2 Oa) a (by grind[bX9]) a.cond Qg c
   exact bSE b d (bOL a (a.cond (T:=Q)) c) (fun st=>bTF st) Oa
end
section
variable {T Q:List Tok} {r:Rd} {st:QS} {N n:Nat} {S C B:Pr} {E P D:QS->QS × Int}
def bXT:Tr->Int
 | .nil=>0
 | .node _ _ a _ _=>a.e
def unl:Tr->Tr
 | .nil=> .nil
 | .node _ _ _ l _=>l
theorem bPM(t:Tr):unl (bM3 t)=t:=by cases t<;>rfl
def NW(L:List NQ):Tr->List Int->Int->Int->Prop
 | .nil,xs,lo,hi=>xs=[]/\lo<=hi
 | .node _ _ _ l r,xs,lo,hi=>∃ x ys n m,xs=x::ys/\NX L l [x] lo m/\Ndq L x n/\n.at_=bXT l/\NW L r ys m hi
def NP:Tr->List Tok->Prop
 | .nil,xs=>xs=[]
 | .node _ _ _ l r,xs=>∃ p ys,xs=p::ys/\(∃ b o a x y,l= .node b o a x y/\p.f=a.h/\p.e=a.b)/\NP r ys
def NI(lo:Int)(L:List NQ)(t:Tr)(x:Int):Prop:=∃ n b o a l r,t= .node b o a l r/\Ndq L x n/\n.at_=a.b/\n.s=a.h/\lo<=x/\
 ((a.a=16/\n.d=1/\n.n=a.g/\n.mid=a.e/\n.c=[])\/(a.a=17/\n.d=2/\NP (unl l) n.g/\∃ b2 o2 a2 ws bd,r= .node b2 o2 a2 ws bd/\∃ m,NW L (unl ws) n.e lo m/\∃ y,n.c=[y]/\NBx m L bd y/\y < x))
def NIs(L:List NQ):Tr->List Int->Int->Int->Prop
 | .nil,xs,lo,hi=>xs=[]/\lo<=hi
 | .node _ _ _ l r,xs,lo,hi=>∃ x ys,xs=x::ys/\NI lo L l x/\NIs L r ys (x+1) hi
theorem NW.mono{L d:List NQ}(e:L <+:d):∀ (t:Tr) (c:List Int) (lo hi:Int),NW L t c lo hi->NW d t c lo hi:=by
 intro t
 induction t with
 |nil=>exact fun _ _ _ h=>h
 |node b o a l r _ ihr=>
  rintro c lo hi ⟨x,k,n,m,f,g,i,j,p⟩;exact⟨x,k,n,m,f,NX.mono e _ _ _ _ g,i.mono e,j,Qh⟩
theorem NW.le{L:List NQ}:∀ {t:Tr} {c:List Int} {lo hi:Int},NW L t c lo hi->lo<=hi:=by
 intro t
 induction t with
 |nil=>exact fun h=>h.2
 |node b o a l r _ ihr=>
  rintro c lo hi ⟨x,j,n,m,e,d,f,g,i⟩;have:=d.le
  grind
theorem NI.mono{L d:List NQ}(c:L <+:d){t:Tr}{lo x:Int}(h:NI lo L t x):NI lo d t x:=by
 obtain⟨R,b,o,a,l,r,v,w,y,z,u,e⟩:=h;refine⟨R,b,o,a,l,r,v,w.mono c,y,z,u,?_⟩;rcases e with e|⟨i,j,k,g,W,f,ws,bd,m,K,n,Z,p,q,s⟩
 ·simp[*]
 ·exact .r ⟨i,j,k,g,W,f,ws,bd,m,K,NW.mono c _ _ _ _ n,Z,p,q.mono c,s⟩
theorem QT.num{t q:Tok}(h:QT t q)(b:t.d=2):q.a=t.a:=by
 rcases h.2 with⟨a,_⟩|⟨a,_⟩|⟨_,_,a⟩|⟨a,_⟩
 ·omega
 ·omega
 ·exact a
 ·omega
theorem bTH:Stk (lG T):=fun r h=>by
 obtain⟨a,b⟩:=bLN (T:=T) [28,2,1] h;unfold lG;dsimp only
 split
 ·obtain⟨c,d⟩:=bLN (T:=T) (r:=r.take T [28,2,1]) [2] (by rw[a];exact h);exact⟨c.t a,d.t b⟩
 split<;>exact⟨a,b⟩
theorem bTL(f:Tw T Q)(a:Rl r st)(h:r.b < T.length):Rl (lG T r).1 (bMA Q st)/\((lG T r).1.a=0->r.a=0/\NX (bMA Q st).L (lG T r).2 [(st.L.length:Int)] st.L.length (bMA Q st).L.length):=by
 rcases a with a|a
 ·have b:=f.tok r.b h;have u:dD Q st.i=dD Q r.b:=by rw[a.i]
  have s:bLT=sp 28:=rfl;have z:=bN6 f a h (k:=28) Oa Oa;unfold lG bMA;dsimp only;rw[u,s,z]
  by_cases K:aN T r [28,2,1]=true
  ·obtain⟨j,g2,l,g4⟩:=bMH f a h K Ob
   have R:(dD T r.b).d=28\/(dD T r.b).d=2\/(dD T r.b).d=1:=by
    grind[aH6]
   have a1:(cN T r [28,2,1]).d=(dD T r.b).d:=by rw[l]
   rcases R with d|d|d
   ·have c:aN T r [((28:Nat):Int)]=true:=by grind[bLY]
    have L:(r.take T [28,2,1]).b < T.length:=Oa
    rw[if_pos Oa,if_pos c];obtain⟨n1,n2⟩:=bOP f (.l j) L (k:=2) Oa;refine⟨n1.add _,fun g=>⟨a.c,?_⟩⟩;obtain⟨W,Z,m3,m4,m5⟩:=n2 g;have a2:=f.small.at (r.take T [28,2,1]).b;unfold vY mk NX;rw[if_neg Od,if_neg Od,if_neg Od,if_neg Od];refine⟨_,_,rfl,Ndq.at (by rw[bMO,bKY]),Oa,by grind[bL2,bKY,bMO,List.length_append,List.length_cons,List.length_nil],?_⟩;rw[if_pos rfl];refine⟨rfl,?_,rfl⟩;show wrap64 (-(bL9 Q 2 (bKV Q st)).a)= -(cN T (r.take T [28,2,1]) [2]).a;rw[W,Z,m3.num m4]
    grind[wrap64]
   ·have c:aN T r [((28:Nat):Int)]=false:=by grind[bLY]
    rw[Oh,if_pos Oa,if_neg (by rw[c];exact Bool.false_ne_true),if_pos (b.Y.2.1.2 d)];refine⟨.l (j.add _),fun _=>⟨a.c,?_⟩⟩;unfold vY mk NX;rw[if_neg Od,if_neg Od,if_neg Od,if_neg Od];refine⟨_,_,rfl,Ndq.at (by rw[bKY]),Oa,by grind[bL2,bKY,List.length_append,List.length_cons,List.length_nil],?_⟩;rw[if_pos rfl,l];exact⟨rfl,b.num d,rfl⟩
   ·have c:aN T r [((28:Nat):Int)]=false:=by grind[bLY]
    have p: ¬(dD Q r.b).d=2:=fun e=>by have:=b.Y.2.1.1 e;omega
    have y:=b.Y.1.2 d;have q:bL6 Q 1 st=bKV Q st:=by grind[bL6]
    have t:bL9 Q 1 st=dD Q r.b:=by grind[bL9]
    rw[Oh,Oh,if_neg (by rw[c];exact Bool.false_ne_true),if_neg p,q,t,l];refine⟨.l (j.add _),fun _=>⟨a.c,?_⟩⟩;unfold mO mk NX;rw[if_neg Od,if_neg Od,if_neg Od,if_neg Od];refine⟨_,_,rfl,Ndq.at (by rw[bKY]),Oa,by grind[bL2,bKY,List.length_append,List.length_cons,List.length_nil],?_⟩;rw[if_neg Od,if_pos rfl];exact⟨rfl,b.1,(b.h d).2,rfl⟩
  ·have x:aN T r [28,2,1]=false:=Qh
   have i:=bN7 f a h x;have o:∀ k:Int,aQ [28,2,1] k=true->(dD T r.b).d≠k:=(by grind[aN]);have y:(dD Q r.b).d≠1:=fun e=>o 1 Ob (b.Y.1.1 e);have p: ¬(dD Q r.b).d=2:=fun e=>o 2 Ob (b.Y.2.1.1 e);have c:aN T r [((28:Nat):Int)]=false:=by rw[bLY];exact decide_eq_false (o 28 Ob)
   have v:cN T r [28,2,1]=aD6:=by grind[cN]
   have q:bL6 Q 1 st=bLH Q st:=by grind[bL6]
   rw[v,if_neg Ob,if_neg Ob,if_neg (by rw[c];exact Bool.false_ne_true),if_neg p,q];exact⟨.r ⟨i.c,i.d,i.p⟩,fun g=>absurd g i.c⟩
 ·have w:=bTH (T:=T) r a.c;exact⟨.r (a.gr w (Gr.atom Q st)),fun g=>absurd (Oa) a.c⟩
theorem bSS:Stk (uK T):=bP1 bTH
theorem bVI(a:Tw T Q)(g:Rl r st)(c:r.b < T.length):Rl (uK T r).1 (bM0 Q st).1/\((uK T r).1.a=0->r.a=0/\NX (bM0 Q st).1.L (uK T r).2 [(bM0 Q st).2] st.L.length (bM0 Q st).1.L.length/\∃ n,Ndq (bM0 Q st).1.L (bM0 Q st).2 n/\n.at_=bXT (uK T r).2):=by
 obtain⟨p,q⟩:=bTL a g c;have d:=wH a.ends r c;obtain⟨c1,c2⟩:=bVL a p d.lt;have h:=aP a.ends d.lt (show aQ iR 0=false by decide);obtain⟨s,t⟩:=bTL a c1 h.lt;unfold uK iJ bM0;refine⟨s.add _,fun o=>?_⟩;obtain⟨j,b⟩:=t o;obtain⟨k,l,_⟩:=c2 j;obtain⟨e,f⟩:=q k;have v:=f.le;rw[bR9]at b;have u:=b.le;refine⟨e,?_,_,Ndq.last _ _,?_⟩
 ·unfold mk NX;rw[if_neg Od,if_neg Od,if_neg Od,if_neg Od];refine⟨_,_,rfl,Ndq.last _ _,Oa,by grind[bL2],?_⟩;rw[if_neg Od,if_neg Od,if_neg Od,if_neg Od,if_neg Od,if_neg Od,if_pos rfl];refine⟨rfl,l,_,_,_,rfl,NX.mono ?_ _ _ _ _ f,by rw[bR9];exact NX.mono (List.prefix_append _ _) _ _ _ _ b⟩;exact((Gr.comp Q _).pre.t (Gr.atom Q _).pre).t (List.prefix_append _ _)
 ·show(dD Q st.i).e=(dD T r.b).e;have i:=g.ok e;rw[<-i.i];exact(a.tok r.b c).1
theorem bWC(d:Tw T Q):∀ n k r st l,Rl r st->r.b < T.length->(r.a=0->T.length - r.b<=n/\T.length - r.b<=k)->
 Rl (bEG T (uK T) n r).1 (bLJ Q k (qat Q st (sp 18)) l st).1/\st.L <+:(bLJ Q k (qat Q st (sp 18)) l st).1.L/\((bEG T (uK T) n r).1.a=0->r.a=0/\∃ b,(bLJ Q k (qat Q st (sp 18)) l st).2=l++b/\NW (bLJ Q k (qat Q st (sp 18)) l st).1.L (bEG T (uK T) n r).2 b st.L.length (bLJ Q k (qat Q st (sp 18)) l st).1.L.length):=by
 intro n
 have g:∀ (n k:Nat) (r:Rd) (st:QS) (l:List Int),Rf r st->Rl (bEG T (uK T) n r).1 (bLJ Q k (qat Q st (sp 18)) l st).1/\st.L <+:(bLJ Q k (qat Q st (sp 18)) l st).1.L/\((bEG T (uK T) n r).1.a=0->r.a=0/\∃ b,(bLJ Q k (qat Q st (sp 18)) l st).2=l++b/\NW (bLJ Q k (qat Q st (sp 18)) l st).1.L (bEG T (uK T) n r).2 b st.L.length (bLJ Q k (qat Q st (sp 18)) l st).1.L.length):=by
  intro n k r st l a;have t:=bPE (T:=T) (bSS (T:=T)) n r a.c
  have c:(bLJ Q k (qat Q st (sp 18)) l st).1=st:=by
   cases k with
   |zero=>rfl
   |succ k=>unfold bLJ;rw[if_neg (fun h=>a.c (a.d.symm.t h.2))]
  rw[c];exact⟨.r (a.to t Oa),Od,fun h=>absurd (Oa) a.c⟩
 induction n with
 |zero=>
  intro k r st l a f e;rcases a with a|a
  ·have:=e a.c;omega
  ·exact g 0 k r st l a
 |succ n ih=>
  intro k r st l a f e;rcases a with a|a
  ·obtain⟨hn,hk⟩:=e a.c;have v:=bN6 d a f (k:=18) Oa Oa;unfold bEG;rw[v];cases hs:aN T r [((18:Nat):Int)]
   ·have i:aN T r [18]=false:=hs;rw[if_neg (by simp[])];have c:bLJ Q k false l st=(st,l):=by cases k<;>simp[bLJ]
    rw[c];exact⟨.l a,Od,fun _=>⟨a.c,[],Od,rfl,Int.le_refl _⟩⟩
   ·have i:aN T r [18]=true:=hs;obtain⟨q,g2,g3,g4⟩:=bMH d a f i Ob;have u:r.C T [18]=r.take T [18]:=by grind[Rd.C,Rd.take]
    rw[if_pos rfl,u];obtain⟨k,rfl⟩:∃ W,k=W+1:=⟨k - 1,Oa⟩
    have c:bLJ Q (k+1) true l st=bLJ Q k (qat Q (bM0 Q (bKV Q st)).1 (sp 18)) (l++[(bM0 Q (bKV Q st)).2]) (bM0 Q (bKV Q st)).1:=by
     rw[bLJ,if_pos ⟨rfl,a.d⟩];rfl
    rw[c];have j:(r.take T [18]).b < T.length:=Oa
    obtain⟨p1,p2⟩:=bVI d (.l q) j;have m:=uV d.ends (r.take T [18]) j;have a1:=m.ge;have s:=(Gr.where_ Q (bKV Q st)).pre;rw[bKY]at s;obtain⟨x,o,y⟩:=ih k _ _ (l++[(bM0 Q (bKV Q st)).2]) p1 m.lt Qg;refine⟨x,Qg,fun w=>⟨a.c,?_⟩⟩;obtain⟨z,b,j2,K⟩:=y w;obtain⟨_,p,Z,L,R⟩:=p2 z;rw[bKY]at p;exact⟨(bM0 Q (bKV Q st)).2::b,Qh,_,_,Z,_,rfl,NX.mono o _ _ _ _ p,L.mono o,R,K⟩
  ·exact g (n+1) k r st l a
theorem bQB:Stk (nK T):=fun _ h=>bLN [1] h
theorem bO6(a:cY T):aZ T (nK T):=fun _ h=>aP a h Ob
theorem bWE(c:Tw T Q):∀ n k r st l,Rl r st->r.b < T.length->(r.a=0->T.length - r.b<=n/\T.length - r.b<=k)->
 Rl (bEG T (nK T) n r).1 (bLC Q k (qat Q st (sp 18)) l (if qat Q st (sp 18)=true then bKV Q st else st)).1/\((bEG T (nK T) n r).1.a=0->r.a=0/\∃ b,(bLC Q k (qat Q st (sp 18)) l (if qat Q st (sp 18)=true then bKV Q st else st)).2=l++b/\NP (bEG T (nK T) n r).2 b):=by
 intro n
 have g:∀ (n k:Nat) (r:Rd) (st:QS) (l:List Tok),Rf r st->Rl (bEG T (nK T) n r).1 (bLC Q k (qat Q st (sp 18)) l (if qat Q st (sp 18)=true then bKV Q st else st)).1/\((bEG T (nK T) n r).1.a=0->r.a=0/\∃ b,(bLC Q k (qat Q st (sp 18)) l (if qat Q st (sp 18)=true then bKV Q st else st)).2=l++b/\NP (bEG T (nK T) n r).2 b):=by
  intro n k r st l a;have p:=bPE (T:=T) (bQB (T:=T)) n r a.c
  have u:Gr st (if qat Q st (sp 18)=true then bKV Q st else st) 0:=by
   grind[Gr.b,Gr.refl]
  exact⟨.r (a.gr p (u.t (bQY _ _ _ _))),fun h=>absurd (Oa) a.c⟩
 induction n with
 |zero=>
  intro k r st l a e d;rcases a with a|a
  ·have:=d a.c;omega
  ·exact g 0 k r st l a
 |succ n ih=>
  intro k r st l a e d;rcases a with a|a
  ·obtain⟨hn,hk⟩:=d a.c;have s:=bN6 c a e (k:=18) Oa Oa;unfold bEG;rw[s];cases hs:aN T r [((18:Nat):Int)]
   ·have j:aN T r [18]=false:=hs;rw[if_neg (by simp[]),if_neg Od];have f:bLC Q k false l st=(st,l):=by cases k<;>simp[bLC]
    rw[f];exact⟨.l a,fun _=>⟨a.c,[],Od,rfl⟩⟩
   ·have j:aN T r [18]=true:=hs;obtain⟨i,Z,g3,g4⟩:=bMH c a e j Ob;have q:r.C T [18]=r.take T [18]:=by grind[Rd.C,Rd.take]
    rw[if_pos rfl,if_pos rfl,q];obtain⟨k,rfl⟩:∃ z,k=z+1:=⟨k - 1,Oa⟩
    have f:bLC Q (k+1) true l (bKV Q st)=bLC Q k (qat Q (bL6 Q 1 (bKV Q st)) (sp 18)) (l++[bL9 Q 1 (bKV Q st)]) (if qat Q (bL6 Q 1 (bKV Q st)) (sp 18)=true then bKV Q (bL6 Q 1 (bKV Q st))else bL6 Q 1 (bKV Q st)):=by
     rw[bLC,if_pos ⟨rfl,i.d⟩];rfl
    rw[f];have m:(r.take T [18]).b < T.length:=Oa
    obtain⟨R,W⟩:=bOP c (.l i) m (k:=1) Oa;have o:=bO6 c.ends (r.take T [18]) m;have a1:(r.take T [18]).b<=((r.take T [18]).take T [1]).b:=o.ge;obtain⟨v,w⟩:=ih k _ _ (l++[bL9 Q 1 (bKV Q st)]) R o.lt Oa;refine⟨v,fun t=>⟨a.c,?_⟩⟩;obtain⟨x,b,j2,y⟩:=w t;obtain⟨m1,m2,K,L,m5⟩:=W x;have a2:=K.h L;refine⟨bL9 Q 1 (bKV Q st)::b,Qg,_,_,rfl,⟨_,_,_,_,_,rfl,?_,?_⟩,y⟩
    ·simp[*]
    simp[*]
  ·exact g (n+1) k r st l a
end
section
variable {H X U:Nat} {L:List NQ} {I A F:List Int} {m:Int} {s:Ns} {Y vI D M B E:Value} {V:List V3} {w:World}
theorem bSO:∀ (L:List NQ) (V:List V3) (i:Nat) (a:NQ) (r:Int),L[i]?=some a->L.length=V.length->bMY (L.set i {a with b:=r}) V=(bMY L V).set (i*11+8) (Qc r)
 |b::L,u::V,0,a,r,h1,_=>by
  simp only[List.getElem?_cons_zero,Option.some.injEq]at h1;subst h1;rfl
 |b::L,u::V,i+1,a,r,h1,h2=>by
  show NdV b u++bMY (L.set i {a with b:=r}) V=(NdV b u++bMY L V).set _ _;rw[bSO L V i a r Qi Qg];have e:(NdV b u).length=11:=rfl
  grind
 |[],_,_,_,_,h1,_=>by rfl
 |b::L,[],_,_,_,_,h2=>by simp at h2
theorem NmW.e0(h:NmW H X U L I A F m s Y vI D M B E V w){i:Nat}{a:NQ}(hi:L[i]?=some a)(r:Int){g J:Nat}(hv:Y= Qe g L.length J):
 NmW H X U (L.set i {a with b:=r}) I A F m s Y vI D M B E V (w.setCell ⟨g,i*11+8,none⟩ (Qc r))/\Nx X U Y B E B E w (w.setCell ⟨g,i*11+8,none⟩ (Qc r))/\Upd i (i+1) L (L.set i {a with b:=r}):=by
 have a3:=(List.getElem?_eq_some_iff.1 hi).1;have n:bNM a {a with b:=r}:=⟨rfl,rfl,rfl,rfl,rfl,rfl,rfl,rfl,rfl⟩;subst hv;have j:=h.nodes;obtain⟨z,hr⟩:=j;rcases hr with⟨_,j⟩|⟨g2,a1,x,f,hH,hc,K,W,hsz,y⟩
 ·omega
 simp only[Value.slice.injEq,Option.some.injEq,Addr.mk.injEq]at f;obtain⟨⟨rfl,_⟩,_,rfl⟩:=f;have off:∀ {k:Nat} {u:Array Value} {t:TypeId},w.1[k]?=some (.cells u t (0,0))->t≠73->(w.setCell ⟨g,i*11+8,none⟩ (Qc r)).1[k]?=w.1[k]?:=(by grind[Below.heap_setCell,bEF])
 have d:∀ {o p:Nat} {e:TypeId} {v:Value} {q:List Value},w.ownsRow H e p v o q->e≠73->(w.setCell ⟨g,i*11+8,none⟩ (Qc r)).ownsRow H e p v o q:=fun l a4=>cD l (fun k hb=>by
  obtain⟨⟨c,Z⟩,_⟩:=bEH l hb
  grind)
 have R:bMQ H (w.setCell ⟨g,i*11+8,none⟩ (Qc r)) L V:=h.c.move (fun k hu=>by
  obtain⟨⟨c,Z⟩,_⟩:=h.c.typ hu
  grind)
 have a2:(bMY L V).length=L.length*11:=z;refine⟨⟨(off h.nm Ob).t h.nm,(off h.prog Ob).t h.prog,?_,d h.its Ob,d h.arrs Ob,d h.fns Ob,d h.d Ob,d h.b Ob,bMQ.set n R hi,by grind[World.setCell]⟩,⟨rfl,rfl,rfl,Od,(by grind[Value.ownBlock,Below.heap_setCell]),Qg,Qg⟩,Upd.set hi n⟩;rw[bSO L V i a r hi h.c.len,List.length_set];refine⟨Qh,.r ⟨g,J,x.setIfInBounds (i*11+8) (Qc r),rfl,hH,aM _ hc,K,W,Qh,?_⟩⟩;rw[Array.toList_setIfInBounds,List.take_set,y]
theorem NmW.g0(h:NmW H X U L I A F m s Y vI D M B E V w):
 NmW H X U L I A F m {s with b:=[]} Y vI D M B (.slice none 0 0) V (w.setCell ⟨X,1,none⟩ (.slice none 0 0))/\Nx X U Y B E B (.slice none 0 0) w (w.setCell ⟨X,1,none⟩ (.slice none 0 0)):=by
 have off:∀ {k:Nat} {c:Array Value} {t:TypeId},w.1[k]?=some (.cells c t (0,0))->t≠129->(w.setCell ⟨X,1,none⟩ (.slice none 0 0)).1[k]?=w.1[k]?:=fun d f=>Om (bEF d h.nm f)
 have a:∀ {n i:Nat} {e:TypeId} {v:Value} {j:List Value},w.ownsRow H e i v n j->e≠129->(w.setCell ⟨X,1,none⟩ (.slice none 0 0)).ownsRow H e i v n j:=fun g f=>cD g (fun k o=>by
  obtain⟨⟨c,l⟩,_⟩:=bEH g o
  grind)
 refine⟨⟨aM _ h.nm,(off h.prog Ob).t h.prog,a h.nodes Ob,a h.its Ob,a h.arrs Ob,a h.fns Ob,a h.d Ob,⟨rfl,Od⟩,h.c.move (fun k p=>?_),by simp[World.setCell];exact h.size⟩,⟨rfl,rfl,rfl,Od,(by grind[Below.heap_setCell]),Qg,fun k d=>by cases d⟩⟩;obtain⟨⟨c,l⟩,_⟩:=h.c.typ p
 grind
def bRU:List Tok->Nat->Ns->Ns
 |[],_,s=>s
 |p::r,i,s=>
  let s1:=if 0<=s.var p.f then s.E 4 p.e else s
  let s2:=if 4<=i then s1.E 5 p.e else s1
  bRU r (i+1) {s2 with b:=s2.b++[p.f]}
def whQ:List (Int × (Ns->Ns))->Nat->Ns->Ns
 |[],_,s=>s
 |c::r,i,s=>whQ r (i+1) (c.2 (if 4<=i then s.E 5 c.1 else s))
end
end Go.Proofs.YtikffmloeifkpaaGreatDoor
