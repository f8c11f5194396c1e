/- Contracts. -/
import Derived.Test.YtikffmloeifkpaaGreatDoorR25
import Derived.Test.YtikffmloeifkpaaGreatDoorR22
set_option maxHeartbeats 8000000
set_option maxRecDepth 100000
namespace Go.Proofs.YtikffmloeifkpaaGreatDoor
open Go.RowKit Go.Lib Go.Deep Go.ChangeMaps Go.MapKept Tryz
section
variable {H O U gw cw:Nat} {T:List Tok} {vI:Value}
theorem bTZ(F:QS->QS × Int)(k:∀ st:QS,st.a≠0->F st=(st,0)):bN1 H O U gw cw T vI 360 #[Qd O] F 0:=by
 intro st Y V w c r h a j
 have b:st.a≠0:=fun e=>by
  unfold bKZ at a;rw[if_pos e]at a;have:=h.lt;omega
 obtain⟨l,m,_,f,_,_,_⟩:=h.cells;obtain⟨g,n,o,p⟩:=h.w4;have u:=h.lt;have s:=h.few;have v:=h.lt_pb;have t:gw < w.1.size:=Qp w _ g;have hi:0<=(st.i:Int)/\(st.i:Int) < (T.length:Int):=Oa
 have d:=(h.alloc (bLM (dD T st.i))).drew;have q:=((Px.refl O U Y V w).alloc (bLM (dD T st.i))).drew;have x:(st.a !=0)=true:=by simp[b]
 have i:Hid (F st=(st,0)):=k st b;clear b j a h;go_enter func360,ntmps360
 go_upto_region 1 with fail
 go_region
 clear l m f g n o p;obtain⟨_,_,_,f,_,_,_⟩:=d.cells;generalize (w.alloc (bLM (dD T st.i))).drew=W at*;go_wp2;go_ret;rw[i.o];exact⟨rfl,Y,V,d,q⟩
theorem bZN:∀ N,bN1 H O U gw cw T vI 290 #[Qd O] (qEF T (N+1)).1 N/\bN1 H O U gw cw T vI 360 #[Qd O] (qEF T (N+1)).2 N:=by
 intro N
 induction N with
 |zero=>
  have a:=bTZ (H:=H) (O:=O) (U:=U) (gw:=gw) (cw:=cw) (T:=T) (vI:=vI) (qEF T 1).2 (bM6 T 1).2.2;exact⟨bYA _ (bM6 T 1).1.2 0 a,a⟩
 |succ N ih=>
  have a:bN1 H O U gw cw T vI 360 #[Qd O] (qEF T (N+2)).2 (N+1):=fun st Y V w c d h b e=>bY9 _ _ (bM6 T (N+1)).1.1 (bM6 T (N+1)).1.2 N ih.1 ih.2 st Y V w c d h b e;exact⟨bYA _ (bM6 T (N+2)).1.2 (N+1) a,a⟩
theorem bSL:bN1 H O U gw cw T vI 290 #[Qd O] (qE T) T.length:=(bZN T.length).1
def bMW(K H O U gw cw:Nat)(T:List Tok)(vI:Value)(f:Nat)(args:Array Value)(P:QS->QS × Int)(N:Nat):Prop:=
 ∀ (st:QS) (Y:Value) (V:List V3) (w:World) (c:Nat),c<=K->PW H O U gw cw T st Y vI V w->bKZ T st<=N->bLZ T st c->Calls prog f args w fun e w'=>e= .returned (Qc (P st).2)/\Aft H O U gw cw T vI Y V w (P st).1 w'
theorem cAR(P:QS->QS × Int)(u:Grn 3 P)(N:Nat)(X:bMW 40000 H O U gw cw T vI 361 #[Qd O] P N):
 bMW 40000 H O U gw cw T vI 350 #[Qd O] (bSX T P bO3 10) N:=by
 intro st Y V D c k7 h w z;have J:Hid (bMW 40000 H O U gw cw T vI 361 #[Qd O] P N):=X;clear X;go_enter func350,ntmps350
 go_wp2_with fail
 refine(J.o st Y V D c k7 h w z).mono ?_;rintro e w1 ⟨rfl,a1,V1,p,x1⟩;have k9:bKZ T (P st).1<=N:=Qm (u st).need w;have k5:bLZ T (P st).1 (c+3):=z.gr (u st) (Nat.le_of_lt p.lt);have y1:Hid (bSX T P bO3 10 st=bMG T P bO3 10 T.length (P st).2 (P st).1):=rfl;clear h w z;generalize (P st).1=q at*;generalize (P st).2=s at*;go_wp2_with fail
 refine(bNE bO3 p).mono ?_;rintro e w2 ⟨rfl,C,rfl⟩;have M:=p.drewN C;have x2:=x1.drewN C;generalize w1.drewN C=W2 at*;clear p x1;go_wp2_with fail
 go_loopg [3,4] T.length (fun m v3 v4 wr=>∃ (R:QS) (x:Int) (r:Value) (o:List V3),v3= Qc x/\v4= .bool (qat T R bO3)/\PW H O U gw cw T R r vI o wr/\Px O U Y r V o D wr/\bKZ T R<=m/\bKZ T R<=N/\bLZ T R (c+3)/\bMG T P bO3 10 m x R=bMG T P bO3 10 T.length s q)
 case atStart=>
  refine⟨q,s,a1,V1,rfl,rfl,M,x2,?_,k9,k5,rfl⟩;unfold bKZ
  split
  ·omega
  ·exact Qn _
 case round=>
  obtain⟨R,x,r,o,rfl,rfl,i,G,n,k8,k3,L⟩:=hrel;have t:Hid (bMG T P bO3 10 gk x R=bMG T P bO3 10 T.length s q):=L;obtain⟨_,_,_,p3,_,_,_⟩:=i.cells;clear L M x2 k9 k5
  by_cases a:qat T R bO3=true/\R.a=0
  ·obtain⟨m,rfl⟩:∃ m,gk=m+1:=⟨gk - 1,by
    unfold bKZ at n;rw[if_pos a.2]at n;have:=i.lt;omega⟩
   have g:=a.1;have t0:(R.a==0)=true:=by simp[a.2]
   have A:=bMK T R (bNF a.1);have I:Hid (qat T R bO3=true/\R.a=0):=a;have B:bKZ T (bKV T R)<=N:=Qm (Gr.b T R).need k8
   have h9:(bKV T R).L.length+8*(T.length - (bKV T R).i)+5<=100000+c:=by
    unfold bLZ at k3;rw[A,bKY];have:=i.lt;omega
   have k4:bLZ T (bKV T R) c:=by unfold bLZ;omega
   have k6:bKZ T (bKV T R)<=m:=by
    unfold bKZ at n ⊢;rw[if_pos a.2]at n
    split
    ·rw[A];omega
    ·exact Qn _
   clear a;rw[g];go_wp2_with fail
   refine(bMS i).mono ?_;rintro e w3 ⟨rfl,Q,K⟩;unfold Tok.g;have j:=u (bKV T R);have E:=G.t (Px.I K);clear G K p3 i;go_wp2_with fail
   refine(J.o _ _ _ _ c k7 Q B k4).mono ?_;rintro e f ⟨rfl,a3,V5,l,F⟩;have y5:=Qm j.need B;have y3:=Qm j.need k6
   have a2:(P (bKV T R)).1.L.length+8*(T.length - (P (bKV T R)).1.i)+2<=100000+c:=by
    have:=j.room;have:=j.i;have:=l.lt;omega
   have HS:Hid (bMG T P bO3 10 m (P (bKV T R)).1.L.length (bL2 {d:=10,c:=[x,(P (bKV T R)).2]} (P (bKV T R)).1)=bMG T P bO3 10 T.length s q):=by
    rw[Hid,<-t.o];exact(if_pos I.o).symm
   clear Q j A B k6 k4 h9 t I;generalize (P (bKV T R)).2=y at*;generalize (P (bKV T R)).1=s5 at*;have S:=l.alloc (Qf #[Qc x,Qc y] 3);have Z:NdW H (f.alloc (Qf #[Qc x,Qc y] 3)) {d:=10,c:=[x,y]} (Qe f.1.size 2 2,.slice none 0 0,.slice none 0 0):=⟨bP6 _ l.T _ _,⟨rfl,.l ⟨rfl,rfl⟩⟩,⟨rfl,.l ⟨rfl,rfl⟩⟩⟩
   have k2:∀ k,bM7 (Qe f.1.size 2 2,.slice none 0 0,.slice none 0 0) k->k=f.1.size:=by
    rintro k (b|b|b)<;>simp[Value.ownBlock]at b;exact b.symm
   have y0:∀ k,vI.ownBlock=some k->¬bM7 (Qe f.1.size 2 2,.slice none 0 0,.slice none 0 0) k:=fun k b hu=>absurd (bLP l.its b) (by rw[k2 k hu];omega);have y2:s5.L.length<=200000:=Oa
   have x6:=(E.t F).alloc (Qf #[Qc x,Qc y] 3);have h8:D.1.size<=f.1.size:=(E.t F).size;clear l E F;go_wp2_with fail
   refine(bOI {d:=10,c:=[x,y]} _ S Z y0 y2).mono ?_;rintro e w7 ⟨rfl,a4,W,x7⟩;have x8:=(x6.t x7).more (v:=(Qe f.1.size 2 2,.slice none 0 0,.slice none 0 0)) (fun k b=>by rw[k2 k b];exact h8);clear S Z x6 x7;go_wp2_with fail
   refine(bNE bO3 W).mono ?_;rintro e w8 ⟨rfl,n8,rfl⟩;go_wp2;go_roundg m
   case rel=>exact⟨_,_,_,_,rfl,rfl,W.drewN _,x8.drewN _,y3,y5,by unfold bLZ;simp only[bL2,List.length_append,List.length_cons,List.length_nil];omega,HS.o⟩
   case measure=>omega
  ·have HF:Hid (bMG T P bO3 10 gk x R=(R,x)):=by
    cases gk
    ·rfl
    ·exact if_neg a
   have y4:qat T R bO3=false\/(qat T R bO3=true/\(R.a==0)=false):=by
    cases g:qat T R bO3
    ·exact .l rfl
    ·exact .r ⟨rfl,by simpa using fun e=>a ⟨g,e⟩⟩
   clear a n k8 k3;rcases y4 with g|⟨g,t0⟩
   all_goals
    rw[g];go_wp2;go_ret;rw[y1.o,<-t.o,HF.o];exact⟨rfl,r,o,i,G⟩
theorem cAS(P:QS->QS × Int)(u:Grn 3 P)(N:Nat)(X:bMW 40000 H O U gw cw T vI 350 #[Qd O] P N):
 bMW 40000 H O U gw cw T vI 331 #[Qd O] (bSX T P orT 11) N:=by
 intro st Y V D c k7 h w z;have J:Hid (bMW 40000 H O U gw cw T vI 350 #[Qd O] P N):=X;clear X;go_enter func331,ntmps331
 go_wp2_with fail
 refine(J.o st Y V D c k7 h w z).mono ?_;rintro e w1 ⟨rfl,a1,V1,p,x1⟩;have k9:bKZ T (P st).1<=N:=Qm (u st).need w;have k5:bLZ T (P st).1 (c+3):=z.gr (u st) (Nat.le_of_lt p.lt);have y1:Hid (bSX T P orT 11 st=bMG T P orT 11 T.length (P st).2 (P st).1):=rfl;clear h w z;generalize (P st).1=q at*;generalize (P st).2=s at*;go_wp2_with fail
 refine(bNE orT p).mono ?_;rintro e w2 ⟨rfl,C,rfl⟩;have M:=p.drewN C;have x2:=x1.drewN C;generalize w1.drewN C=W2 at*;clear p x1;go_wp2_with fail
 go_loopg [3,4] T.length (fun m v3 v4 wr=>∃ (R:QS) (x:Int) (r:Value) (o:List V3),v3= Qc x/\v4= .bool (qat T R orT)/\PW H O U gw cw T R r vI o wr/\Px O U Y r V o D wr/\bKZ T R<=m/\bKZ T R<=N/\bLZ T R (c+3)/\bMG T P orT 11 m x R=bMG T P orT 11 T.length s q)
 case atStart=>
  refine⟨q,s,a1,V1,rfl,rfl,M,x2,?_,k9,k5,rfl⟩;unfold bKZ
  split
  ·omega
  ·exact Qn _
 case round=>
  obtain⟨R,x,r,o,rfl,rfl,i,G,n,k8,k3,L⟩:=hrel;have t:Hid (bMG T P orT 11 gk x R=bMG T P orT 11 T.length s q):=L;obtain⟨_,_,_,p3,_,_,_⟩:=i.cells;clear L M x2 k9 k5
  by_cases a:qat T R orT=true/\R.a=0
  ·obtain⟨m,rfl⟩:∃ m,gk=m+1:=⟨gk - 1,by
    unfold bKZ at n;rw[if_pos a.2]at n;have:=i.lt;omega⟩
   have g:=a.1;have t0:(R.a==0)=true:=by simp[a.2]
   have A:=bMK T R (bNF a.1);have I:Hid (qat T R orT=true/\R.a=0):=a;have B:bKZ T (bKV T R)<=N:=Qm (Gr.b T R).need k8
   have h9:(bKV T R).L.length+8*(T.length - (bKV T R).i)+5<=100000+c:=by
    unfold bLZ at k3;rw[A,bKY];have:=i.lt;omega
   have k4:bLZ T (bKV T R) c:=by unfold bLZ;omega
   have k6:bKZ T (bKV T R)<=m:=by
    unfold bKZ at n ⊢;rw[if_pos a.2]at n
    split
    ·rw[A];omega
    ·exact Qn _
   clear a;rw[g];go_wp2_with fail
   refine(bMS i).mono ?_;rintro e w3 ⟨rfl,Q,K⟩;unfold Tok.g;have j:=u (bKV T R);have E:=G.t (Px.I K);clear G K p3 i;go_wp2_with fail
   refine(J.o _ _ _ _ c k7 Q B k4).mono ?_;rintro e f ⟨rfl,a3,V5,l,F⟩;have y5:=Qm j.need B;have y3:=Qm j.need k6
   have a2:(P (bKV T R)).1.L.length+8*(T.length - (P (bKV T R)).1.i)+2<=100000+c:=by
    have:=j.room;have:=j.i;have:=l.lt;omega
   have HS:Hid (bMG T P orT 11 m (P (bKV T R)).1.L.length (bL2 {d:=11,c:=[x,(P (bKV T R)).2]} (P (bKV T R)).1)=bMG T P orT 11 T.length s q):=by
    rw[Hid,<-t.o];exact(if_pos I.o).symm
   clear Q j A B k6 k4 h9 t I;generalize (P (bKV T R)).2=y at*;generalize (P (bKV T R)).1=s5 at*;have S:=l.alloc (Qf #[Qc x,Qc y] 3);have Z:NdW H (f.alloc (Qf #[Qc x,Qc y] 3)) {d:=11,c:=[x,y]} (Qe f.1.size 2 2,.slice none 0 0,.slice none 0 0):=⟨bP6 _ l.T _ _,⟨rfl,.l ⟨rfl,rfl⟩⟩,⟨rfl,.l ⟨rfl,rfl⟩⟩⟩
   have k2:∀ k,bM7 (Qe f.1.size 2 2,.slice none 0 0,.slice none 0 0) k->k=f.1.size:=by
    rintro k (b|b|b)<;>simp[Value.ownBlock]at b;exact b.symm
   have y0:∀ k,vI.ownBlock=some k->¬bM7 (Qe f.1.size 2 2,.slice none 0 0,.slice none 0 0) k:=fun k b hu=>absurd (bLP l.its b) (by rw[k2 k hu];omega);have y2:s5.L.length<=200000:=Oa
   have x6:=(E.t F).alloc (Qf #[Qc x,Qc y] 3);have h8:D.1.size<=f.1.size:=(E.t F).size;clear l E F;go_wp2_with fail
   refine(bOI {d:=11,c:=[x,y]} _ S Z y0 y2).mono ?_;rintro e w7 ⟨rfl,a4,W,x7⟩;have x8:=(x6.t x7).more (v:=(Qe f.1.size 2 2,.slice none 0 0,.slice none 0 0)) (fun k b=>by rw[k2 k b];exact h8);clear S Z x6 x7;go_wp2_with fail
   refine(bNE orT W).mono ?_;rintro e w8 ⟨rfl,n8,rfl⟩;go_wp2;go_roundg m
   case rel=>exact⟨_,_,_,_,rfl,rfl,W.drewN _,x8.drewN _,y3,y5,by unfold bLZ;simp only[bL2,List.length_append,List.length_cons,List.length_nil];omega,HS.o⟩
   case measure=>omega
  ·have HF:Hid (bMG T P orT 11 gk x R=(R,x)):=by
    cases gk
    ·rfl
    ·exact if_neg a
   have y4:qat T R orT=false\/(qat T R orT=true/\(R.a==0)=false):=by
    cases g:qat T R orT
    ·exact .l rfl
    ·exact .r ⟨rfl,by simpa using fun e=>a ⟨g,e⟩⟩
   clear a n k8 k3;rcases y4 with g|⟨g,t0⟩
   all_goals
    rw[g];go_wp2;go_ret;rw[y1.o,<-t.o,HF.o];exact⟨rfl,r,o,i,G⟩
theorem bWS:bMW 40000 H O U gw cw T vI 331 #[Qd O] (qC T) T.length:=
 cAS _ ((bRJ T).cmp.log Oa bO3 10) _ (cAR _ (bRJ T).cmp _ (fun st Y V w c b h a d=>cAT (qE T) (bRJ T) T.length bSL st Y V w c b h a d))
end
section
variable {H O U gw cw B:Nat} {T:List Tok} {st:QS} {Y C vI v:Value} {V D:List V3} {w w':World} {l:List Int}
structure Lr(H O U gw:Nat)(Y vI:Value)(V:List V3)(B:Nat)(v:Value)(l:List Int)(w:World):Prop where
 o:w.ownsRow H 3 1 v l.length (bLU l)
 u:∀ k,v.ownBlock=some k->Off O U gw Y vI V k/\B<=k
theorem Lr.px(h:Lr H O U gw Y vI V B v l w)(b:Px O U Y C V D w w'):Lr H O U gw C vI D B v l w':=
 ⟨cD h.o (fun k a=>b.keep k (bLP h.o a) (h.u k a).1.p (h.u k a).1.g (h.u k a).1.l),fun k a=>⟨(h.u k a).1.px b (bLP h.o a),(h.u k a).2⟩⟩
theorem Lr.old(h:Lr H O U gw Y vI V B v l w)(b:∀ k,k < w.1.size->w'.1[k]?=w.1[k]?):Lr H O U gw Y vI V B v l w':=
 ⟨cD h.o (fun k a=>b k (bLP h.o a)),h.u⟩
theorem Lr.push{c:World}(h:Lr H O U gw Y vI V c.1.size v l w)(i:PW H O U gw cw T st Y vI V w){m:Value}{d:List V3}(j:Px O U m Y d V c w){x:Int}{w1 w2:World}{g J:Nat}(f:w1.os=w.os/\w1.tape=w.tape/\w1.output=w.output/\w.1.size<=w1.1.size)(p:∀ k,k < w.1.size->w1.1[k]?=w.1[k]?)(n:w2.ownsRow H 3 1 (Qe g (l.length+1) J) (l.length+1) (bLU l++[Qc x]))(a:w1.grownBy w2 v.ownBlock)(o:v.ownBlock=some g\/g=w1.1.size):
 Lr H O U gw Y vI V c.1.size (Qe g (l.length+1) J) (l++[x]) w2/\PW H O U gw cw T st Y vI V w2/\Px O U m Y d V c w2:=by
 have hsz:=j.size;have old:∀ k,k < w.1.size->v.ownBlock≠some k->w2.1[k]?=w.1[k]?:=fun k b q=>(a.block k Oa Qg).t Qh;refine⟨⟨?_,fun k b=>?_⟩,?_,?_⟩
 ·simpa[bLU]using n
 ·have e:g=k:=by grind[Value.ownBlock]
  subst e;rcases o with e|e
  ·exact h.u g e
  ·exact⟨i.fresh Oa,Oa⟩
 ·exact i.offs (P:=fun k=>v.ownBlock=some k) (fun k b=>(h.u k b).1) Qi
 ·refine j.news ⟨a.os.t f.1,a.tape.t f.2.1,a.output.t Qh,?_⟩ (fun k b=>old k Oa (fun e=>by have:=(h.u k e).2;omega));have:=a.size;omega
theorem bNA(T:List Tok)(st:QS):bKZ T st<=T.length:=by
 grind[bKZ]
theorem bWN(T:List Tok)(s:ByteArray)(st:QS):bKZ T (bKW T s st)<=bKZ T st - 1:=by
 grind[bKW,qat,bL1,wrap64,bLH,bKZ,Gr.opn,bUS]
def bLS(T:List Tok)(st:QS)(c s:Nat):Prop:=st.L.length+8*(T.length - st.i)+s<=100000+c
theorem bLS.gr{a b:QS}{c s n:Nat}(h:bLS T a c s)(d:Gr a b n)(e:b.i<=T.length)(f:n<=s):bLS T b c (s - n):=by
 unfold bLS at*;have:=d.room;omega
theorem bLS.room{c s:Nat}(h:bLS T st c s):bLZ T st c:=by grind[bLS,bLZ]
theorem bLZ.b{c:Nat}(h:bLZ T st c)(a:(dD T st.i).d≠0)(b:(bKV T st).i<=T.length):bLS T (bKV T st) c 8:=by
 grind[bLZ,bLS,bKY,bMK]
theorem bW2{g:World}(b:Lr H O U gw Y vI V g.1.size v l w)(h:PW H O U gw cw T st Y vI V w){j:Value}{i:List V3}(r:Px O U j Y i V g w)(q:st.L.length<=200000)(f:Int):
 Calls prog 106 #[Qd O,.agg #[Qc f,Qc 0,.string ⟨#[]⟩,Qc 0,Qc 0,v,.slice none 0 0,.slice none 0 0,Qc 0,Qc 0,Qc 0]] w fun e m=>e= .returned (Qc st.L.length)/\Aft H O U gw cw T vI j i g (bL2 {d:=f,c:=l} st) m:=by
 have t:∀ k,bM7 (v,.slice none 0 0,.slice none 0 0) k->v.ownBlock=some k:=by
  rintro k (a|a|a)
  ·exact a
  ·cases a
  trivial
 refine(bOI {d:=f,c:=l} (v,.slice none 0 0,.slice none 0 0) h ⟨b.o,⟨rfl,Od⟩,⟨rfl,Od⟩⟩ (fun k a s=>(b.u k Qg).1.i a) q).mono ?_;rintro e m ⟨n,C,o,p⟩;exact⟨n,C,_,o,(r.t p).more (fun k a=>(b.u k Qg).2)⟩
def bYN(K H O U gw cw:Nat)(T:List Tok)(vI:Value)(S:QS->QS × Int)(N:Nat):Prop:=
 ∀ (st:QS) (Y:Value) (V:List V3) (w:World) (c:Nat),c<=K->st.a=0->PW H O U gw cw T st Y vI V w->bKZ T st+1<=N->bLZ T st c->Calls prog 231 #[Qd O] w fun e w'=>e= .returned (Qc (S st).2)/\Aft H O U gw cw T vI Y V w (S st).1 w'
theorem bW0(K:Nat)(S:QS->QS × Int)(gS:∀ st,Gr st (S st).1 0/\((S st).1.a≠0\/st.i+1<=(S st).1.i))(N:Nat)(hS:bYN K H O U gw cw T vI S N)(hK:K<=40000):
 bMW K H O U gw cw T vI 171 #[Qd O] (bP4 T S) N:=by
 intro st Y V G c y3 h hN hr;have HS:Hid (bYN K H O U gw cw T vI S N):=hS;have M:Hid (bP4 T S st=(bL2 {d:=19,c:=(bLW T S T.length [] (bKW T lbT st)).2} (bL0 T rbT (bLW T S T.length [] (bKW T lbT st)).1),((bLW T S T.length [] (bKW T lbT st)).1.L.length:Int))):=rfl;have k6:=Qm (bWN T lbT st) (Nat.sub_le_sub_right hN 1);clear hS;go_enter func171,ntmps171
 go_wp2_with fail
 refine(bPQ lbT h).mono ?_;rintro e w6 ⟨rfl,h6,e6⟩;have x6:=Px.I e6 (Y:=Y) (V:=V) (U:=U);have l6:Lr H O U gw Y vI V G.1.size (.slice none 0 0) [] w6:=⟨⟨rfl,.l ⟨rfl,rfl⟩⟩,fun a8 hk=>by cases hk⟩;have k4:bLZ T (bKW T lbT st) (c+0):=hr.gr (Gr.opn T lbT st) (Nat.le_of_lt h6.lt);clear h hN hr e6;generalize bKW T lbT st=F at*;obtain⟨i0,y2,k9,k8,k7⟩:=info_parts info3;go_wp2_with fail
 go_loopg [3] T.length (fun m v3 wr=>∃ (R:QS) (l:List Int) (w:Value) (u:List V3),PW H O U gw cw T R w vI u wr/\Px O U Y w V u G wr/\Lr H O U gw w vI u G.1.size v3 l wr/\l.length+m<=T.length/\bKZ T R<=m/\bKZ T R<=N - 1/\bLZ T R c/\bLW T S m l R=bLW T S T.length [] F)
 case atStart=>
  exact⟨F,[],Y,V,h6,x6,l6,Od,bNA T F,k6,k4,rfl⟩
 case round=>
  obtain⟨R,l,w,u,b,y,o,a5,k,P,g,h5⟩:=hrel;have s:Hid (bLW T S gk l R=bLW T S T.length [] F):=h5;obtain⟨_,_,_,p3,_,_,_⟩:=b.cells;clear h5 h6 x6 l6 k6 k4;obtain⟨ao,cp,rfl,_⟩:=eQ o.o
  by_cases a:R.a=0
  ·have Q:(R.a==0)=true:=by simp[a]
   obtain⟨m,rfl⟩:∃ m,gk=m+1:=⟨gk - 1,by
    unfold bKZ at k;rw[if_pos a]at k;have:=b.lt;omega⟩
   go_wp2_with fail
   refine(bNE rbT b).mono ?_;rintro e w7 ⟨rfl,p,rfl⟩;cases hb:qat T R rbT
   ·have L:=gS R
    have y6:Hid (bLW T S m (l++[(S R).2]) (S R).1=bLW T S T.length [] F):=by
     rw[Hid,<-s.o,bLW,if_pos (c:=R.a=0/\qat T R rbT=false) ⟨a,hb⟩]
    have k5:bKZ T R+1<=N:=by
     have:1<=bKZ T R:=by
      unfold bKZ;rw[if_pos a];have:=b.lt;omega
     omega
    have y1:bKZ T (S R).1<=m:=by
     unfold bKZ at k ⊢;rw[if_pos a]at k
     split
     ·rename_i h0;have:=L.2.resolve_left (fun h=>h h0);omega
     ·exact Qn _
    go_wp2_with fail
    refine(HS.o _ _ _ _ c y3 a (b.drewN p) k5 g).mono ?_;rintro e q ⟨rfl,a1,Z,j,x8⟩;have W:=(y.drewN p).t x8;have E:=(Lr.old o (w':=wr.drewN p) (fun _ _=>rfl)).px x8;have y0:bLZ T (S R).1 c:=(g.gr L.1 (Nat.le_of_lt j.lt):bLZ T (S R).1 (c+0));have y5:=Qm (L.1.need (T:=T)) P;have a4:=j.few;have a7:=j.T;have k2:=E.o;have hB:Hid (Lr H O U gw a1 vI Z G.1.size (.slice ao l.length cp) l q/\PW H O U gw cw T (S R).1 a1 vI Z q/\Px O U Y a1 V Z G q):=⟨E,j,W⟩;clear x8 y b o g P k5 L s p3 Q a k hb;generalize (S R).2=I at*;generalize (S R).1=s8 at*;clear E j W;go_wp2_with (at_builtin;refine wpList_append_lies _ rfl _ _ 70 rfl H 3 i0 _ 1 8 underlying70 y2 k9 k8 k7 rfl Oa (.slice ao l.length cp) l.length (bLU l) rfl (k2.alloc _) ⟨q.1.size,0,none⟩ 1 1 [Qc I] rfl rfl (World.news_of_block (cs:=#[Qc I]) (t:=3) (fr:=(0,0)) (Qk q _)) (by simp[Value.oneCell']) Oa (by unfold maxLen;omega) Oa (by simp;omega) (q.1.size+1) Od ?_;intro gg J w9 h7 k0 y4 a6)
    go_roundg m
    case rel=>
     obtain⟨E,j,W⟩:=hB.o;obtain⟨n,i,r⟩:=E.push j W (x:=I) (w1:=q.alloc (Qf #[Qc I] 3)) ⟨rfl,rfl,rfl,Od⟩ (fun _ hk=>On hk) h7 k0 (y4.imp id (fun e=>by simpa using e));exact⟨s8,l++[I],_,_,i,r,n,by simp;omega,y1,y5,y0,y6.o⟩
    case measure=>omega
   ·have z:Hid (bLW T S (m+1) l R=(R,l)):=by
     rw[Hid,bLW,if_neg (c:=R.a=0/\qat T R rbT=false) (fun h=>by rw[hb]at h;cases h.2)]
    have hz:Hid (bP4 T S st=(bL2 {d:=19,c:=l} (bL0 T rbT R),(R.L.length:Int))):=by
     rw[Hid,M.o,<-s.o,z.o]
    have k3:R.L.length<=200000:=by unfold bLZ at g;omega
    have h9:=b.drewN p;have y9:=y.drewN p;have l9:=Lr.old o (w':=wr.drewN p) (fun _ _=>rfl);clear b y o k P g s z M p3 Q a hb;generalize wr.drewN p=W9 at*;go_wp2_with fail
    refine(bPP rbT h9).mono ?_;rintro e a2 ⟨rfl,i,f⟩;have r:=y9.t (Px.I f);have n:=l9.px (Px.I f (Y:=w) (V:=u));have h3:(bL0 T rbT R).L.length<=200000:=by rw[bLR];exact k3
    clear h9 y9 l9 f;go_wp2_with fail
    refine(bW2 n i r h3 19).mono ?_;rintro e a3 ⟨rfl,A⟩;have X:Hid _:=A;clear A n i r;go_wp2;go_ret;rw[hz.o,bLR];exact⟨rfl,X.o⟩
  ·have Q:(R.a==0)=false:=by simp[a]
   have z:Hid (bLW T S gk l R=(R,l)):=by
    cases gk
    ·rfl
    ·exact if_neg (fun h=>a h.1)
   have hz:Hid (bP4 T S st=(bL2 {d:=19,c:=l} (bL0 T rbT R),(R.L.length:Int))):=by
    rw[Hid,M.o,<-s.o,z.o]
   have k3:R.L.length<=200000:=by unfold bLZ at g;omega
   clear k P g s z M a;go_wp2_with fail
   refine(bPP rbT b).mono ?_;rintro e a2 ⟨rfl,i,f⟩;have r:=y.t (Px.I f);have n:=o.px (Px.I f (Y:=w) (V:=u));have h3:(bL0 T rbT R).L.length<=200000:=by rw[bLR];exact k3
   clear b y o f p3 Q;go_wp2_with fail
   refine(bW2 n i r h3 19).mono ?_;rintro e a3 ⟨rfl,A⟩;have X:Hid _:=A;clear A n i r;go_wp2;go_ret;rw[hz.o,bLR];exact⟨rfl,X.o⟩
end
section
variable {H O U gw cw X:Nat} {T:List Tok} {st:QS} {Y vI:Value} {V:List V3} {w:World} {a:NQ} {v:V3}
theorem Bx.kid2{d:World}(h:Bx H O U gw Y vI V d.1.size X a v w)(q:PW H O U gw cw T st Y vI V w){i:Value}{e:List V3}(r:Px O U i Y e V d w)(m:v.2=(.slice none 0 0,.slice none 0 0))(f:a.g=[]/\a.e=[]){x y:Int}{w1 w2:World}{g J:Nat}(o:w1.os=w.os/\w1.tape=w.tape/\w1.output=w.output/\w.1.size<=w1.1.size)(n:∀ k,k < w.1.size->w1.1[k]?=w.1[k]?)(s:w2.ownsRow H 3 1 (Qe g (a.c.length+2) J) (a.c.length+2) (bLU a.c++[Qc x,Qc y]))(p:w1.grownBy w2 v.1.ownBlock)(j:v.1.ownBlock=some g\/g=w1.1.size):
 Bx H O U gw Y vI V d.1.size X {a with c:=a.c++[x,y]} (Qe g (a.c.length+2) J,.slice none 0 0,.slice none 0 0) (w2.setCell ⟨X,5,none⟩ (Qe g (a.c.length+2) J))/\PW H O U gw cw T st Y vI V (w2.setCell ⟨X,5,none⟩ (Qe g (a.c.length+2) J))/\Px O U i Y e V d (w2.setCell ⟨X,5,none⟩ (Qe g (a.c.length+2) J)):=by
 obtain⟨t,u,z⟩:=v;cases m;refine h.grow q r (fun k b=> .l b) rfl (fun k b=>?_) o n p j ⟨?_,?_,?_⟩
 ·rcases b with b|b|b
  ·grind[Value.ownBlock]
  ·cases b
  trivial
 ·grind[bLU]
 ·rw[f.1];exact⟨rfl,Od⟩
 ·rw[f.2];exact⟨rfl,Od⟩
theorem bMW.le{K f:Nat}{args:Array Value}{P:QS->QS × Int}{N M:Nat}(h:bMW K H O U gw cw T vI f args P N)(g:M<=N):bMW K H O U gw cw T vI f args P M:=fun st Y V w c b e i d=>h st Y V w c b e Oa d
theorem bYG(K:Nat)(hK:K<=40000)(C B:QS->QS × Int)(gC:Grn 3 C)(gB:Grs B)(N:Nat)(hC:bMW 40000 H O U gw cw T vI 331 #[Qd O] C T.length)(hB:bMW K H O U gw cw T vI 171 #[Qd O] B N)(p:Int)(s:ByteArray)(q:Bool)(hs:(s.toList==[105,102])=q)(c:Nat)(j8:c<=K)(h:PW H O U gw cw T st Y vI V w)(hN:bKZ T st<=N)(hr:bLS T st c 8):
 Calls prog 291 #[Qd O,NdA {d:=0,at_:=p} v0,.string s] w fun e w'=>e= .returned (Qc (bLO T C B {d:=0,at_:=p} q st).2)/\Aft H O U gw cw T vI Y V w (bLO T C B {d:=0,at_:=p} q st).1 w':=by
 have HB:Hid (bMW K H O U gw cw T vI 171 #[Qd O] B N):=hB;have HC:Hid (bMW 40000 H O U gw cw T vI 331 #[Qd O] C T.length):=hC
 have S:Hid (bLO T C B {d:=0,at_:=p} q st=(if q=true/\qat T (B (C st).1).1 bQM=true/\(B (C st).1).1.a=0 then
  (bL2 {d:=15,at_:=p,c:=[(C st).2,(B (C st).1).2,(B (bKV T (B (C st).1).1)).2]} (B (bKV T (B (C st).1).1)).1,((B (bKV T (B (C st).1).1)).1.L.length:Int))
 else(bL2 {d:=if q=true then 15 else 16,at_:=p,c:=[(C st).2,(B (C st).1).2]} (B (C st).1).1,((B (C st).1).1.L.length:Int)))):=rfl
 have b1:=h.boxed (Px.refl O U Y V w) {d:=0,at_:=p} ⟨rfl,rfl,rfl,rfl,rfl,rfl,rfl,rfl⟩;have h1:=h.alloc (bOG {d:=0,at_:=p});have x1:=(Px.refl O U Y V w).alloc (bOG {d:=0,at_:=p});have j2:bKZ T (C st).1<=N:=Qm (gC st).need hN;have b6:=gC st;clear hB hC h;unfold NdA v0;go_enter func291,ntmps291
 go_wp2_with fail
 refine(HC.o st Y V _ c Oa h1 (bNA T st) hr.room).mono ?_;rintro e w2 ⟨rfl,c8,V2,h2,x2⟩;have b2:=b1.px x2;have y2:=x1.t x2;have y1:=hr.gr b6 (Nat.le_of_lt h2.lt) Oa;clear b1 h1 x1 x2 b6 hN hr;generalize (C st).2=g at*;generalize (C st).1=s2 at*;have a8:=gB s2;go_wp2_with fail
 refine(HB.o s2 _ _ _ c j8 h2 j2 y1.room).mono ?_;rintro e r ⟨rfl,R,V3,F,x3⟩;have k:=b2.px x3;have y3:=y2.t x3;have k4:=y1.gr a8 (Nat.le_of_lt F.lt) Oa;have k8:=Qm (a8.need (T:=T)) j2;clear b2 h2 y2 x3 a8 j2 y1;generalize (B s2).2=f at*;generalize (B s2).1=b at*;obtain⟨i0,j7,j6,j5,j4⟩:=info_parts info3;have b8:=k.old (w':=r.alloc (Qf #[Qc g,Qc f] 3)) (fun _ L=>On L);obtain⟨⟨_,_,_,_,_,E⟩,_,_⟩:=k.cells;have E:r.cell? ⟨w.1.size,5,none⟩=some (.slice none 0 0):=E;obtain⟨⟨_,_,_,_,_,d5⟩,_,i⟩:=b8.cells;have f5:=i 5;have c7:=F.T;have j1:=k.lt;have h8:=k.n.k;have M:some w.1.size≠v0.1.ownBlock:=by simp[v0,Value.ownBlock]
 have k7:Hid (Bx H O U gw R vI V3 w.1.size w.1.size {d:=0,at_:=p} v0 r/\PW H O U gw cw T b R vI V3 r/\Px O U Y R V V3 w r):=⟨k,F,y3⟩;clear i k F y3 b8;go_upto_region 4 with(at_builtin;refine wpList_append_lies _ rfl _ _ 70 rfl H 3 i0 _ 1 8 underlying70 j7 j6 j5 j4 rfl Oa (.slice none 0 0) 0 [] rfl (h8.alloc _) ⟨r.1.size,0,none⟩ 2 2 [Qc g,Qc f] rfl rfl (World.news_of_block (cs:=#[Qc g,Qc f]) (t:=3) (fr:=(0,0)) (Qk r _)) (by simp[Value.oneCell']) Oa (by unfold maxLen;omega) Oa (by simp;omega) (r.1.size+1) Od ?_;intro m J w4 k0 n k6 k2;have q5:=(n.frozen_far ⟨w.1.size,5,none⟩ (by simp;omega) M).t f5;have q6:=(n.cell_far ⟨w.1.size,5,none⟩ (by simp;omega) M).t d5)
 obtain⟨k,F,y3⟩:=k7.o;obtain⟨A,h5,y5⟩:=k.kid2 F y3 rfl ⟨rfl,rfl⟩ (x:=g) (y:=f) (w1:=r.alloc (Qf #[Qc g,Qc f] 3)) ⟨rfl,rfl,rfl,Od⟩ (fun _ L=>On L) k0 n (k6.imp id (fun e=>by simpa using e));clear k F y3 k7 h8 k0 n k6 k2 q5 q6 E d5 f5 j1 M;have A:Bx H O U gw R vI V3 w.1.size w.1.size {d:=0,at_:=p,c:=[g,f]} (Qe m 2 J,.slice none 0 0,.slice none 0 0) (w4.setCell ⟨w.1.size,5,none⟩ (Qe m 2 J)):=A;have h5:PW H O U gw cw T b R vI V3 (w4.setCell ⟨w.1.size,5,none⟩ (Qe m 2 J)):=h5;have y5:Px O U Y R V V3 w (w4.setCell ⟨w.1.size,5,none⟩ (Qe m 2 J)):=y5;generalize w4.setCell ⟨w.1.size,5,none⟩ (Qe m 2 J)=W5 at*;have u:=A.d 16;have h6:=h5.U A.o 0 (Qc 16);have y6:=y5.J A.m 0 (Qc 16);obtain⟨⟨g0,_⟩,_,i⟩:=A.cells;have f0:=i 0;clear i A h5 y5;cases q
 ·
   have hz:Hid (bLO T C B {d:=0,at_:=p} false st=(bL2 {d:=16,at_:=p,c:=[g,f]} b,(b.L.length:Int))):=by
    rw[Hid,S.o,if_neg Od];rfl
   have y8:b.L.length<=200000:=by unfold bLS at k4;omega
   obtain⟨⟨z0,z1,z2,z3,z4,z5⟩,⟨z6,z7,z8,z9,a4⟩,zf⟩:=u.cells;clear S k4 k8;go_wp2_with fail
   refine(bO2 u h6 y6 y8).mono ?_;rintro e w7 ⟨rfl,z⟩;have HA:Hid _:=z;clear z u h6 y6 z0 z1 z2 z3 z4 z5 z6 z7 z8 z9 a4 zf;go_wp2;go_ret;rw[hz.o];exact⟨rfl,HA.o⟩
 ·
   have b7:=u.d 15;have h7:=h6.U u.o 0 (Qc 15);have y7:=y6.J u.m 0 (Qc 15);obtain⟨⟨g1,_⟩,_,i⟩:=u.cells;have f1:=i 0;clear i u h6 y6;go_wp2_with fail
   refine(bNE bQM h7).mono ?_;rintro e w8 ⟨rfl,n8,rfl⟩;have b9:=b7.old (w':=((W5.setCell ⟨w.1.size,0,none⟩ (Qc 16)).setCell ⟨w.1.size,0,none⟩ (Qc 15)).drewN n8) (fun _ _=>rfl);have h9:=h7.drewN n8;have y9:=y7.drewN n8;clear b7 h7 y7 f0 f1 g0 g1;generalize ((W5.setCell ⟨w.1.size,0,none⟩ (Qc 16)).setCell ⟨w.1.size,0,none⟩ (Qc 15)).drewN n8=W9 at*;obtain⟨_,_,_,p3,_,_,_⟩:=h9.cells
   by_cases G:qat T b bQM=true/\b.a=0
   ·have Z:=G.1;have t0:(b.a==0)=true:=by simp[G.2]
    have hz:Hid (bLO T C B {d:=0,at_:=p} true st=(bL2 {d:=15,at_:=p,c:=[g,f,(B (bKV T b)).2]} (B (bKV T b)).1,((B (bKV T b)).1.L.length:Int))):=by
     rw[Hid,S.o,if_pos ⟨Od,G⟩]
    have j9:=Qm ((Gr.b T b).need (T:=T)) k8;have b5:=gB (bKV T b);clear S k8 G;rw[Z];go_wp2_with fail
    refine(bMS h9).mono ?_;rintro e c9 ⟨rfl,j3,a7⟩;unfold Tok.g;have I:=b9.px (Px.I a7 (Y:=R) (V:=V3));have c5:=y9.t (Px.I a7);have y0:=k4.gr (Gr.b T b) (Nat.le_of_lt j3.lt) Oa;clear b9 h9 y9 a7 p3 t0 k4;generalize bKV T b=s9 at*;go_wp2_with fail
    refine(HB.o s9 _ _ _ c j8 j3 j9 y0.room).mono ?_;rintro e o ⟨rfl,a1,W,P,b4⟩;have j:=I.px b4;have a3:=c5.t b4;have y4:=y0.gr b5 (Nat.le_of_lt P.lt) Oa;clear I j3 c5 b4 b5 j9 y0;generalize (B s9).2=xe at*;generalize (B s9).1=a9 at*;have Q:=j.old (w':=o.alloc (Qf #[Qc xe] 3)) (fun _ L=>On L);obtain⟨⟨_,_,_,_,_,E⟩,_,_⟩:=j.cells;have E:o.cell? ⟨w.1.size,5,none⟩=some (Qe m 2 J):=E;obtain⟨⟨_,_,_,_,_,d5⟩,_,i⟩:=Q.cells;have f5:=i 5;have c6:=P.T;have k5:=j.lt;have h8:=j.n.k;have M:some w.1.size≠(Qe m 2 J).ownBlock:=fun e=>j.ne (.l e.symm) rfl;have k7:Hid (Bx H O U gw a1 vI W w.1.size w.1.size {d:=15,at_:=p,c:=[g,f]} (Qe m 2 J,.slice none 0 0,.slice none 0 0) o/\PW H O U gw cw T a9 a1 vI W o/\Px O U Y a1 V W w o):=⟨j,P,a3⟩;clear i j P a3 Q;go_upto_region 12 with(at_builtin;refine wpList_append_lies _ rfl _ _ 70 rfl H 3 i0 _ 1 8 underlying70 j7 j6 j5 j4 rfl Oa (Qe m 2 J) 2 (bLU [g,f]) rfl (h8.alloc _) ⟨o.1.size,0,none⟩ 1 1 [Qc xe] rfl rfl (World.news_of_block (cs:=#[Qc xe]) (t:=3) (fr:=(0,0)) (Qk o _)) (by simp[Value.oneCell']) Oa (by unfold maxLen;omega) Oa (by simp;omega) (o.1.size+1) Od ?_;intro gh a5 b3 h4 n k6 k2;have q5:=(n.frozen_far ⟨w.1.size,5,none⟩ (by simp;omega) M).t f5;have q6:=(n.cell_far ⟨w.1.size,5,none⟩ (by simp;omega) M).t d5)
    obtain⟨j,P,a3⟩:=k7.o;obtain⟨a2,k9,a6⟩:=j.kid P a3 rfl ⟨rfl,rfl⟩ (x:=xe) (w1:=o.alloc (Qf #[Qc xe] 3)) ⟨rfl,rfl,rfl,Od⟩ (fun _ L=>On L) h4 n (k6.imp id (fun e=>by simpa using e));have a2:Bx H O U gw a1 vI W w.1.size w.1.size {d:=15,at_:=p,c:=[g,f,xe]} (Qe gh 3 a5,.slice none 0 0,.slice none 0 0) (b3.setCell ⟨w.1.size,5,none⟩ (Qe gh 3 a5)):=a2;have k9:PW H O U gw cw T a9 a1 vI W (b3.setCell ⟨w.1.size,5,none⟩ (Qe gh 3 a5)):=k9;have a6:Px O U Y a1 V W w (b3.setCell ⟨w.1.size,5,none⟩ (Qe gh 3 a5)):=a6;have j0:a9.L.length<=200000:=by unfold bLS at y4;omega
    clear j P a3 k7 h8 h4 n k6 k2 q5 q6 E d5 f5 k5 M;obtain⟨⟨z0,z1,z2,z3,z4,z5⟩,⟨z6,z7,z8,z9,a4⟩,zf⟩:=a2.cells;go_wp2_with fail
    refine(bO2 a2 k9 a6 j0).mono ?_;rintro e d1 ⟨rfl,z⟩;have HA:Hid _:=z;clear z a2 k9 a6 z0 z1 z2 z3 z4 z5 z6 z7 z8 z9 a4 zf;go_wp2;go_ret;rw[hz.o];exact⟨rfl,HA.o⟩
   ·have hz:Hid (bLO T C B {d:=0,at_:=p} true st=(bL2 {d:=15,at_:=p,c:=[g,f]} b,(b.L.length:Int))):=by
     rw[Hid,S.o,if_neg (fun h=>G h.2)];rfl
    have y8:b.L.length<=200000:=by unfold bLS at k4;omega
    have g2:qat T b bQM=false\/(qat T b bQM=true/\(b.a==0)=false):=by
     cases Z:qat T b bQM
     ·exact .l rfl
     ·exact .r ⟨rfl,by simpa using fun e=>G ⟨Z,e⟩⟩
    obtain⟨⟨z0,z1,z2,z3,z4,z5⟩,⟨z6,z7,z8,z9,a4⟩,zf⟩:=b9.cells;clear S k4 k8 G;rcases g2 with Z|⟨Z,t0⟩
    all_goals
     rw[Z];go_wp2_with fail
     refine(bO2 b9 h9 y9 y8).mono ?_;rintro e w7 ⟨rfl,z⟩;have HA:Hid _:=z;clear z b9 h9 y9 z0 z1 z2 z3 z4 z5 z6 z7 z8 z9 a4 zf;go_wp2;go_ret;rw[hz.o];exact⟨rfl,HA.o⟩
end
section
theorem bO7(s:ByteArray)(p k:Nat):(s.extract p s.size).get! k=s.get! (p+k):=by
 have hsz:(s.extract p s.size).size=s.size - p:=Od
 by_cases h:p+k < s.size
 ·grind[bGP,ByteArray.getElem_extract]
 ·have b:∀ (t:ByteArray) (i:Nat),¬i < t.size->t.get! i=default:=fun t i hi=>by
   show t.data[i]! =_;simp[*]
  grind
theorem bVW(s:ByteArray)(p:Nat):Utf8.decode (s.extract p s.size) 0=Utf8.decode s p:=by
 have hsz:(s.extract p s.size).size=s.size - p:=Od
 have b:∀ k,decide (k < s.size - p)=decide (p+k < s.size):=Qg;unfold Utf8.decode;simp only[bO7,Oa,Oa,hsz,b]
theorem bU3{s:ByteArray}{p:Nat}(h:p < s.size):s.data.toList.drop p=s.get! p::s.data.toList.drop (p+1):=by
 rw[bGP h];exact List.drop_eq_getElem_cons (by exact h)
theorem cB1(s:ByteArray)(p:Nat):Lib.hasPrefix (s.data.toList.drop p) [239,191,189]=true↔(p+2 < s.size/\(s.get! p).toNat=239/\(s.get! (p+1)).toNat=191/\(s.get! (p+2)).toNat=189):=by
 have b:∀ (a:UInt8) (n:Nat) (c:n < 256),(UInt8.ofNat n==a)=true↔a.toNat=n:=fun a n c=>by
  rw[beq_iff_eq];constructor
  ·intro h;rw[<-h];simp[Nat.mod_eq_of_lt c]
  ·intro h;rw[<-h];simp
 have d:=b (s.get! p) 239 Ob;have e:=b (s.get! (p+1)) 191 Ob;have f:=b (s.get! (p+2)) 189 Ob;unfold Lib.hasPrefix;have g:∀ q,s.size<=q->s.data.toList.drop q=[]:=Od
 grind[bU3]
theorem bV3(s:ByteArray)(p:Nat):vH s p (Utf8.decode s p).1=true↔((Utf8.decode s p).2=1/\128<=(Utf8.decode s p).1):=by
 have b:=bQF (s.extract p s.size);rw[bVW]at b;simp only[bO7,Nat.add_zero]at b
 have e:∀ k,ctB (s.extract p s.size) k=(decide (p+k < s.size)&&decide (128<=(s.get! (p+k)).toNat)&&decide ((s.get! (p+k)).toNat<=191)):=fun k=>by
  unfold ctB;rw[bO7];have hsz:(s.extract p s.size).size=s.size - p:=by rw[ByteArray.size_extract];omega
  rw[hsz,show decide (k < s.size - p)=decide (p+k < s.size)by rw[decide_eq_decide];omega]
 unfold vH;simp only[Bool.and_eq_true,decide_eq_true_eq,Bool.not_eq_true'];rw[<-Bool.not_eq_true,cB1];have c:(s.get! (p+1)).toNat < 256:=(s.get! (p+1)).toNat_lt;have d:(s.get! (p+2)).toNat < 256:=(s.get! (p+2)).toNat_lt;generalize (s.get! p).toNat=a0 at*
 by_cases c0:a0 < 128
 ·grind
 rw[if_neg c0]at b
 by_cases c1:(a0 / 32==6&&ctB (s.extract p s.size) 1)=true
 ·grind
 rw[if_neg c1]at b
 by_cases c2:(a0 / 16==14&&ctB (s.extract p s.size) 1&&ctB (s.extract p s.size) 2)=true
 ·grind[bPB]
 grind
def Dn(s:ByteArray)(c:Cut)(p:Nat):Cut:=c.run (s.size+1 - p) p
theorem bXG{s:ByteArray}:∀ (n:Nat) (c:Cut) (p:Nat),c.f=s->s.size - p < n->∀ m,s.size - p < m->c.run n p=c.run m p:=by
 intro n
 induction n with
 |zero=>omega
 |succ n ih=>
  intro c p e d m b;obtain⟨m,rfl⟩:∃ k,m=k+1:=⟨m - 1,Oa⟩
  grind[Cut.run,Utf8.decode,Cut.step,Lib.decode_width_pos,Cut.begins_keeps,Cut.Z]
theorem bYC{s:ByteArray}{c:Cut}{p:Nat}(e:c.f=s)(d: ¬p < s.size)(b:p<=s.size):Dn s c p=c.D p:=by
 unfold Dn;rw[show s.size+1 - p=0+1 by omega]
 grind[Cut.run]
theorem bW8{s:ByteArray}{c:Cut}{p:Nat}{r:Int}(b:c.f=s):(c.step p r).f=s:=by
 grind[Cut.step,Cut.begins_keeps,Cut.Z]
theorem bVV{s:ByteArray}{c:Cut}{p:Nat}(d:c.f=s)(b:p < s.size):Dn s c p=if(c.step p (Utf8.decode s p).1).a≠0 then c.step p (Utf8.decode s p).1 else Dn s (c.step p (Utf8.decode s p).1) (p+(Utf8.decode s p).2):=by
 unfold Dn;rw[show s.size+1 - p=(s.size - p)+1 by omega];rw[Cut.run,d,if_pos b]
 split
 ·rfl
 ·have f:=Lib.decode_width_pos s p b;have e:=zW s p b;exact bXG _ _ _ (bW8 d) Oa _ Oa
theorem bU0{s:ByteArray}{c:Cut}{p:Nat}(g:c.f=s)(e:p < s.size)(d:c.a=0)(b:c.goes p (Utf8.decode s p).1=true):Dn s c p=Dn s c (p+(Utf8.decode s p).2):=by
 have f:c.step p (Utf8.decode s p).1=c:=if_pos b
 grind[bVV]
theorem bT3{s:ByteArray}{c:Cut}{p:Nat}(f:c.f=s)(d:p < s.size)(b:c.goes p (Utf8.decode s p).1=false):Dn s c p=if((c.D p).N p (Utf8.decode s p).1).a≠0 then(c.D p).N p (Utf8.decode s p).1 else Dn s ((c.D p).N p (Utf8.decode s p).1) (p+(Utf8.decode s p).2):=by
 have e:c.step p (Utf8.decode s p).1=(c.D p).N p (Utf8.decode s p).1:=if_neg (by rw[b];decide);rw[bVV f d,e]
theorem bV5{c:Cut}{p r:Int}(h:c.a≠0):(c.N p r).a=c.a/\(c.N p r).e=c.e:=by
 grind[Cut.N,Cut.fail]
theorem bV1{s:ByteArray}{c:Cut}{p:Nat}(f:c.f=s)(e:p<=s.size)(d:p < s.size->c.goes p (Utf8.decode s p).1=false)(b:(c.D p).a≠0):(Dn s c p).a=(c.D p).a/\(Dn s c p).e=(c.D p).e:=by
 grind[Utf8.decode,bT3,bV5,bYC]
theorem cAQ(s:ByteArray):dN s=Dn s ⟨s,[],0,0,0,0⟩ 0:=rfl
def cq(s:ByteArray)(q:Nat):Int × Int:=chQ (s.extract q s.size)
theorem bQ3(s:ByteArray)(q:Nat):(cq s q=(0,0)/\vH s q (Utf8.decode s q).1=true/\(Utf8.decode s q).1=65533)\/(cq s q=(((Utf8.decode s q).1:Int),((Utf8.decode s q).2:Int))/\vH s q (Utf8.decode s q).1=false):=by
 grind[cq,chQ,Utf8.decode,vH,bV3,bVW]
theorem bVJ(s:ByteArray)(p a:Nat):(s.extract p s.size).extract a (s.extract p s.size).size=s.extract (p+a) s.size:=by
 grind[ByteArray.size_extract,ByteArray.extract_extract]
theorem bTW{s:ByteArray}{p A k:Nat}(h:k < A)(b:p+A<=s.size):(s.extract p (p+A)).get! k=s.get! (p+k)/\(s.extract p (p+A)).size=A:=by
 grind[ByteArray.size_extract,bGP,ByteArray.getElem_extract]
theorem bU1{s:ByteArray}{p A a:Nat}(e:p+A<=s.size)(h:oK (Utf8.decode s (p+a)).1=true\/kZ (Utf8.decode s (p+a)).1=true)(c:a+(Utf8.decode s (p+a)).2<=A)(b:a < A):Utf8.decode (s.extract p (p+A)) a=Utf8.decode s (p+a):=by
 have d:(Utf8.decode s (p+a)).1<=591:=by
  grind[oK,kZ]
 grind[ByteArray.size_extract,ByteArray.getElem_extract,bFL,decode_ascii,bG4]
theorem bZS(u:ByteArray):∀ (f a k:Nat),a<=(nmL u f a k).1/\k<=(nmL u f a k).2:=by
 intro f
 induction f with
 |zero=>intro a k;exact⟨Ql _,Ql _⟩
 |succ f ih=>
  grind[nmL,chQ]
theorem bY3{s:ByteArray}{c:Cut}{p:Nat}(G:c.f=s)(F:c.mode=2)(z:c.a=0)(W:p<=s.size):∀ (f a k:Nat),0 < k->p+a<=s.size->s.size < p+a+f->
 Dn s c (p+a)=Dn s c (p+(nmL (s.extract p s.size) f a k).1)/\(p+(nmL (s.extract p s.size) f a k).1 < s.size->c.goes (p+(nmL (s.extract p s.size) f a k).1) (Utf8.decode s (p+(nmL (s.extract p s.size) f a k).1)).1=false)/\p+(nmL (s.extract p s.size) f a k).1<=s.size/\
 ∀ A,(nmL (s.extract p s.size) f a k).1<=A->p+A<=s.size->∀ b,A - a<=b->Lib.runeCountFrom (s.extract p (p+A)) b a=(nmL (s.extract p s.size) f a k).2 - k+Lib.runeCountFrom (s.extract p (p+A)) (b - ((nmL (s.extract p s.size) f a k).2 - k)) (nmL (s.extract p s.size) f a k).1:=by
 have hsz:(s.extract p s.size).size=s.size - p:=by rw[ByteArray.size_extract];omega
 have t:∀ q,c.goes q (Utf8.decode s q).1=(oK (Utf8.decode s q).1||kZ (Utf8.decode s q).1):=fun q=>by
  unfold Cut.goes;rw[Oh,if_pos F]
 intro f
 induction f with
 |zero=>intro a k _ d j;omega
 |succ f ih=>
  intro a k R u P;unfold nmL;rw[hsz]
  by_cases o:a < s.size - p
  ·rw[if_pos o]
   have N:chQ ((s.extract p s.size).extract a (s.size - p))=cq s (p+a):=by
    unfold cq;rw[<-bVJ,hsz]
   rw[N]
   by_cases i:(cq s (p+a)).2=0\/(oK (cq s (p+a)).1=false/\(kZ (cq s (p+a)).1=false\/k=0))
   ·rw[if_pos i];refine⟨rfl,fun _=>?_,u,fun A d j b m=>Od⟩;rw[t];rcases bQ3 s (p+a)with⟨d,j,m⟩|⟨d,j⟩
    ·rw[m];decide
    ·rw[d]at i;have I:=Lib.decode_width_pos s (p+a) Oa;rcases i with h|⟨g,n⟩
     ·exfalso;simp only at h;omega
     ·simp only at g n;rw[g,n.resolve_right Oa];rfl
   ·rw[if_neg i];rcases bQ3 s (p+a)with⟨d,j,m⟩|⟨d,j⟩
    ·exact absurd (.l (by rw[d])) i
    ·rw[d]at i ⊢;have I:=Lib.decode_width_pos s (p+a) Oa;have S:=zW s (p+a) Oa
     have r:oK (Utf8.decode s (p+a)).1=true\/kZ (Utf8.decode s (p+a)).1=true:=by
      by_cases g:oK (Utf8.decode s (p+a)).1=true
      ·exact .l g
      ·by_cases n:kZ (Utf8.decode s (p+a)).1=true
       ·exact .r n
       ·exact absurd (.r ⟨by simpa using g,.l (by simpa using n)⟩) i
     have E:c.goes (p+a) (Utf8.decode s (p+a)).1=true:=by
      rw[t];rcases r with h|h<;>rw[h]<;>simp
     rw[bU0 G Oa z E];simp only[Int.toNat_natCast];obtain⟨x,J,K,L⟩:=ih (a+(Utf8.decode s (p+a)).2) (k+1) Oa Oa Oa;rw[<-Nat.add_assoc]at x;have Q:=bZS (s.extract p s.size) f (a+(Utf8.decode s (p+a)).2) (k+1);refine⟨x,J,K,fun A m g b n=>?_⟩;obtain⟨b,rfl⟩:∃ M,b=M+1:=⟨b - 1,Oa⟩;have y:(s.extract p (p+A)).size=A:=by rw[ByteArray.size_extract];omega
     rw[Lib.runeCountFrom,y,if_pos Oa,bU1 g r Oa Oa];rw[L A m g b Oa];have e:b - ((nmL (s.extract p s.size) f (a+(Utf8.decode s (p+a)).2) (k+1)).2 - (k+1))=b+1 - ((nmL (s.extract p s.size) f (a+(Utf8.decode s (p+a)).2) (k+1)).2 - k):=Oa
     rw[e];omega
  ·rw[if_neg o];exact⟨rfl,fun h=>Oa,u,fun A d j b m=>Od⟩
theorem bR0{s:ByteArray}{q:Nat}(h:q < s.size)(b:48<=(s.get! q).toNat/\(s.get! q).toNat<=57):Utf8.decode s q=((s.get! q).toNat,1):=by
 grind[bGP,decode_ascii]
theorem bQ2{s:ByteArray}{q:Nat}(h:q < s.size):kZ (Utf8.decode s q).1=true↔(48<=(s.get! q).toNat/\(s.get! q).toNat<=57):=by
 grind[kZ,aEY,bGP,bR0]
def bMV(s:ByteArray)(a b:Nat):List UInt8:=(s.extract a b).data.toList
theorem bOU{s:ByteArray}{a b:Nat}(h:b < s.size)(c:a<=b):bMV s a (b+1)=bMV s a b++[s.get! b]:=by
 grind[bMV,vB,bGP]
theorem bRB{s:ByteArray}{a b:Nat}(h:b < s.size)(c:a<=b):bCW (bMV s a (b+1))=min (bCW (bMV s a b)*10+(((s.get! b).toNat:Int) - 48)) 1000000000:=by
 rw[bOU h c,aFZ]
theorem bRC{c:Cut}{p q:Nat}(d:c.mode=3)(b:c.start=p):c.D q=if 999999999 < bCW (bMV c.f p q)then c.fail 3 p else c.push 2 (bCW (bMV c.f p q)) (ByteArray.mk #[]):=by
 unfold Cut.D;rw[Oh,if_pos d];unfold Cut.number;rw[b,Int.toNat_natCast];rfl
theorem bPZ{c:Cut}{q:Nat}{r:Int}(b:c.mode=3):c.goes q r=kZ r:=by
 grind[Cut.goes]
theorem bQ0{c:Cut}{e p:Int}(b:c.a=0):(c.fail e p).a=e/\(c.fail e p).e=p:=by
 grind[Cut.fail]
theorem bZ3{s:ByteArray}{c:Cut}{p:Nat}(k:c.f=s)(f:c.mode=3)(d:c.a=0)(j:c.start=p):∀ (n q:Nat),s.size - q < n->p<=q->q<=s.size->999999999 < bCW (bMV s p q)->(Dn s c q).a=3/\(Dn s c q).e=p:=by
 intro n
 induction n with
 |zero=>omega
 |succ n ih=>
  intro q g h i b
  by_cases e:q < s.size/\kZ (Utf8.decode s q).1=true
  ·grind[bQ2,bU0,bPZ,bR0,bRB]
  grind[bRC,bQ0,bV1,bPZ]
theorem bZ2{s:ByteArray}{c:Cut}{p:Nat}(n:c.f=s)(i:c.mode=3)(m:c.a=0)(r:c.start=p):∀ (f k:Nat) (v:Int),p+k<=s.size->s.size < p+k+f->v=bCW (bMV s p (p+k))->0<=v->v<=999999999->
 ((dgL (s.extract p s.size) f k v).2.2=false->Dn s c (p+k)=Dn s c (p+(dgL (s.extract p s.size) f k v).1)/\(p+(dgL (s.extract p s.size) f k v).1 < s.size->c.goes (p+(dgL (s.extract p s.size) f k v).1) (Utf8.decode s (p+(dgL (s.extract p s.size) f k v).1)).1=false)/\p+(dgL (s.extract p s.size) f k v).1<=s.size/\(dgL (s.extract p s.size) f k v).2.1=bCW (bMV s p (p+(dgL (s.extract p s.size) f k v).1))/\(dgL (s.extract p s.size) f k v).2.1<=999999999/\k<=(dgL (s.extract p s.size) f k v).1)/\
 ((dgL (s.extract p s.size) f k v).2.2=true->(Dn s c (p+k)).a=3/\(Dn s c (p+k)).e=p):=by
 have hsz:(s.extract p s.size).size=s.size - p:=by rw[ByteArray.size_extract];omega
 intro f
 induction f with
 |zero=>intro k v J j;omega
 |succ f ih=>
  intro k v u K o v0 I;unfold dgL;rw[hsz,bO7]
  by_cases d:k < s.size - p/\48<=(s.get! (p+k)).toNat/\(s.get! (p+k)).toNat<=57
  ·rw[if_pos d];have e:p+k < s.size:=Oa
   have t:Dn s c (p+k)=Dn s c (p+(k+1)):=by
    rw[bU0 n e m (by rw[bPZ i];exact(bQ2 e).2 d.2),bR0 e d.2];rfl
   have g:=bRB (s:=s) (a:=p) (b:=p+k) e Oa;rw[<-o]at g;rw[t]
   by_cases q:999999999 < 10*v+(((s.get! (p+k)).toNat:Int) - 48)
   ·rw[if_pos q];refine⟨fun h=>by simp at h,fun _=>bZ3 n i m r _ _ (Nat.lt_succ_self _) Oa Oa ?_⟩;rw[<-Nat.add_assoc,g];omega
   ·rw[if_neg q];obtain⟨x,y⟩:=ih (k+1) (10*v+(((s.get! (p+k)).toNat:Int) - 48)) Oa Oa (by rw[<-Nat.add_assoc,g];omega) Oa Oa;refine⟨fun h=>?_,y⟩;obtain⟨z,A,E,F,G,L⟩:=x h;exact⟨z,A,E,F,G,Oa⟩
  ·rw[if_neg d];refine⟨fun _=>⟨rfl,fun h=>?_,u,o,I,Oa⟩,Od⟩;rw[bPZ i];have:=mt (bQ2 h).1 (fun j=>d ⟨Oa,j⟩);simp[*]
theorem bSA(l:List UInt8):∀ (n k:Nat),vT l k n≠0->spL (vT l k n)=l/\k<=vT l k n/\vT l k n < k+n
 |0,k,h=>Qj
 |n+1,k,h=>by
  unfold vT at h ⊢
  by_cases e:spL k=l
  ·simp[*]
  ·rw[if_neg e]at h ⊢;have:=bSA l n (k+1) h
   grind
theorem bON{l:List UInt8}(h:spB l=true):spL (spK l)=l/\3<=spK l/\spK l<=33:=by
 unfold spB at h;have:=bSA l 31 3 (of_decide_eq_true h);exact⟨this.1,this.2.1,by have:=Oa;show vT l 3 31<=33;omega⟩
theorem bS9(l:List UInt8):∀ (n k j:Nat),0 < k->k<=j->j < k+n->spL j=l->vT l k n≠0
 |0,k,j,_,h1,h2,_=>Oa
 |n+1,k,j,h0,h1,h2,h3=>by
  unfold vT
  by_cases e:spL k=l
  ·grind
  ·rw[if_neg e];exact bS9 l n (k+1) j Oa Qg Oa h3
theorem cA9{k:Nat}(h:3<=k/\k<=33):spB (spL k)=true:=decide_eq_true (bS9 _ 31 3 k Oa h.1 Oa rfl)
theorem bS8{k:Nat}{X:ByteArray}:sp k=X↔spL k=X.data.toList:=by
 constructor
 ·intro h;rw[<-h];rfl
 ·intro h;exact ByteArray.ext (Array.ext' h)
theorem bZ7(X:ByteArray):inQ X bQL=if sp 21=X then true else if sp 22=X then true else if sp 24=X then true else if sp 26=X then true else if sp 32=X then true else decide (sp 33=X):=by rfl
theorem bXY(X:ByteArray):inQ X bRV=if sp 3=X then true else if sp 4=X then true else if sp 5=X then true else if sp 6=X then true else if sp 7=X then true else if sp 8=X then true else if sp 9=X then true else if sp 10=X then true else decide (sp 11=X):=by rfl
theorem bTT(b:UInt8):(decide (b.toNat≠32)&&inQ ⟨#[b]⟩ bQD)=spB [b]/\(bsB [b]=true->b.toNat < 128)/\(spB [b]=true->bsB [b]=true):=by
 have h:(List.range 256).all (fun n=>((decide (n≠32)&&inQ ⟨#[UInt8.ofNat n]⟩ bQD)==spB [UInt8.ofNat n])&&(!bsB [UInt8.ofNat n]||decide (n < 128))&&(!spB [UInt8.ofNat n]||bsB [UInt8.ofNat n]))=true:=by decide+kernel
 have c:=List.all_eq_true.1 h b.toNat (List.mem_range.2 b.toNat_lt);rw[UInt8.ofNat_toNat]at c
 grind
theorem bVY{l:List UInt8}:∀ (n k:Nat),tV l k n=true->∃ j,k<=j/\j < k+n/\Lib.hasPrefix (spL j) l=true
 |0,_,h=>by cases h
 |n+1,k,h=>by
  unfold tV at h;rcases Bool.or_eq_true_iff.1 h with h|h
  ·grind
  ·obtain⟨j,b,c,d⟩:=bVY n (k+1) h
   grind
theorem bRQ{a b:UInt8}{l:List UInt8}(h:bsB (a::b::l)=true):l=[]/\(b.toNat=61\/b.toNat=38\/b.toNat=124):=by
 obtain⟨j,f,g,e⟩:=bVY 22 12 h;have d:(List.range 34).all (fun k=>decide (k < 12)||(match spL k with|_::x::r=>(decide (x.toNat=61)||decide (x.toNat=38)||decide (x.toNat=124))&&r.isEmpty|_=>true))=true:=by rfl
 have c:=List.all_eq_true.1 d j (List.mem_range.2 Oa);simp only[Bool.or_eq_true,decide_eq_true_eq]at c;replace c:=c.resolve_left Oa;unfold Lib.hasPrefix at e;cases hs:spL j with
 |nil=>grind
 |cons x r=>
  cases r with
  |nil=>grind
  |cons y r=>
   grind
theorem bS2(a b:UInt8):(decide (a.toNat≠32)&&inQ ⟨#[a,b]⟩ bQL)=bsB [a,b]/\(bsB [a,b]=true->spB [a,b]=true):=by
 by_cases i:b.toNat=61\/b.toNat=38\/b.toNat=124
 ·have h:(List.range 256).all (fun n=>[61,38,124].all fun m=>((decide (n≠32)&&inQ ⟨#[UInt8.ofNat n,UInt8.ofNat m]⟩ bQL)==bsB [UInt8.ofNat n,UInt8.ofNat m])&&(!bsB [UInt8.ofNat n,UInt8.ofNat m]||spB [UInt8.ofNat n,UInt8.ofNat m]))=true:=by decide+kernel
  have c:=List.all_eq_true.1 (List.all_eq_true.1 h a.toNat (List.mem_range.2 a.toNat_lt)) b.toNat Qh;rw[UInt8.ofNat_toNat,UInt8.ofNat_toNat]at c
  grind
 ·have f:bsB [a,b]=false:=by
   grind[bRQ]
  have g:inQ ⟨#[a,b]⟩ bQL=false:=by
   rw[Bool.eq_false_iff];intro h;rw[bZ7]at h
   have key:∀ (k:Nat) (x y:UInt8),spL k=[x,y]->(y.toNat=61\/y.toNat=38\/y.toNat=124)->¬sp k=⟨#[a,b]⟩:=fun k x y j o d=>by
    have e:=bS8.1 d
    grind
   rw[if_neg (key 21 61 61 rfl Ob),if_neg (key 22 33 61 rfl Ob),if_neg (key 24 60 61 rfl Ob),if_neg (key 26 62 61 rfl Ob),if_neg (key 32 38 38 rfl Ob)]at h;exact key 33 124 124 rfl Ob Qg
  simp[*]
theorem cAF{X:ByteArray}{b:UInt8}{l:List UInt8}(f:X.data.toList=b::l)(i:(97<=b.toNat/\b.toNat<=122)\/(65<=b.toNat/\b.toNat<=90)\/b.toNat=95\/128<=b.toNat):inQ X bRV=spB X.data.toList/\(spB X.data.toList=true->spK X.data.toList<=11):=by
 have g:(List.range 34).all (fun k=>decide (k < 12)||(match spL k with|x::_=>decide (x.toNat < 65)||decide (x.toNat=91)||decide (x.toNat=93)||decide (123<=x.toNat/\x.toNat<=125)|_=>true))=true:=by rfl
 have d:spB X.data.toList=true->spK X.data.toList<=11:=(by grind[spK,bON,List.all_eq_true]);refine⟨?_,d⟩;rw[Bool.eq_iff_iff];constructor
 ·intro h;rw[bXY]at h
  grind[sp,spB,bS8,cA9]
 ·intro h;have e:=d h;obtain⟨c,j,m⟩:=bON h;generalize spK X.data.toList=k at*;have c:=bS8.2 c;rw[bXY];rcases(show k=3\/k=4\/k=5\/k=6\/k=7\/k=8\/k=9\/k=10\/k=11 by omega)with rfl|rfl|rfl|rfl|rfl|rfl|rfl|rfl|rfl<;>simp[c]
variable {T:List Tok}
theorem bTV{B:QS->QS × Int}(d:Grs B):∀ (n:Nat) (st:QS),(bLD T B n st).L.length+8*st.i<=st.L.length+8*(bLD T B n st).i+2*n/\(bLD T B n st).c.length<=st.c.length+n/\((∀ a∈st.L,a.f < 0)->∀ a∈(bLD T B n st).L,a.f < 0)
 |0,st=>⟨by simp[bLD],by simp[bLD],fun h=>h⟩
 |n+1,st=>by
  have aIX:∀ b:QS,b.L.length+8*st.i<=st.L.length+8*b.i+2->b.c.length<=st.c.length+1->((∀ a∈st.L,a.f < 0)->∀ a∈b.L,a.f < 0)->(bLD T B n b).L.length+8*st.i<=st.L.length+8*(bLD T B n b).i+2*(n+1)/\(bLD T B n b).c.length<=st.c.length+(n+1)/\((∀ a∈st.L,a.f < 0)->∀ a∈(bLD T B n b).L,a.f < 0):=fun b j k f=>by
   obtain⟨p,q,i⟩:=bTV d n b;exact⟨Oa,Oa,fun h=>i (f h)⟩
  have e:∀ (c:QS) (x:Int) (m:Nat),m<=2->Gr st c m->(bLD T B n (bMM x c)).L.length+8*st.i<=st.L.length+8*(bLD T B n (bMM x c)).i+2*(n+1)/\(bLD T B n (bMM x c)).c.length<=st.c.length+(n+1)/\((∀ a∈st.L,a.f < 0)->∀ a∈(bLD T B n (bMM x c)).L,a.f < 0):=fun c x m o g=>
   aIX _ (by have:=g.room;show c.L.length+_<=_+8*c.i+_;omega) (by simp[bMM,g.c]) g.neg
  unfold bLD
  split
  ·split
   ·exact e _ _ 1 Oa (((Gr.b T st).t (bRI _)).le Oa)
   ·split
    ·exact e _ _ 2 Oa (((Gr.b T st).t (bRH d _)).le Oa)
    ·have g:=Gr.E T st;exact aIX _ (Oi g.room) (by rw[g.c];omega) g.neg
  ·exact⟨Oa,Oa,fun h=>h⟩
theorem bWL(e:T.length<=5000)(hi:(bLI T).i < T.length):(bLI T).L.length<=50000/\(bLI T).c.length<=5000/\∀ a∈(bLI T).L,a.f < 0:=by
 obtain⟨b,c,d⟩:=bTV (bY6 T) T.length ⟨0,0,0,0,[],[]⟩;refine⟨?_,?_,d (fun a h=>by cases h)⟩
 ·have b:(bLI T).L.length+8*0<=0+8*(bLI T).i+2*T.length:=b;omega
 ·have c:(bLI T).c.length<=0+T.length:=c;omega
end
end Go.Proofs.YtikffmloeifkpaaGreatDoor
