/- Contracts. -/
import Derived.Test.YtikffmloeifkpaaGreatDoorR10
import Derived.Deep.Cut
set_option maxHeartbeats 8000000
set_option maxRecDepth 100000
namespace Go.Proofs.YtikffmloeifkpaaGreatDoor
open Go.RowKit Go.Lib Go.Deep Go.ChangeMaps Go.MapKept Tryz
section
def bN:Nat->Tr->Tr
 |0,t=>t
 |_+1,.nil=> .nil
 |n+1,.node _ _ _ _ r=>bN n r
theorem uL{cs:Array Value}:∀ (i o:Nat) (l:Tr),mI cs o l->mI cs (o+i) (bN i l):=by
 intro i
 induction i with
 |zero=>intro o l h;exact h
 |succ n ih=>
  intro o l h;cases l with
  |nil=>trivial
  |node b q a e r=>rw[show o+(n+1)=o+1+n by omega];exact ih _ r h.2
theorem jA:∀ (i:Nat) (l:Tr),i < bG l->∃ b o a e r,bN i l= .node b o a e r/\bN (i+1) l=r:=by
 intro i
 induction i with
 |zero=>
  intro l h;cases l with
  |nil=>trivial
  |node b o a e r=>exact⟨b,o,a,e,r,rfl,rfl⟩
 |succ n ih=>
  intro l h;cases l with
  |nil=>trivial
  |node b o a e r=>exact ih r (by simp only[bG]at h;omega)
theorem nP:∀ (l:Tr),bN (bG l) l= .nil:=by
 intro l
 induction l with
 |nil=>rfl
 |node b o a e r _ ih=>exact ih
def sI(Q:Tr->Prop):Tr->Prop
 | .nil=>True
 | .node _ _ a e r=>a.a=15/\Q e/\sI Q r
theorem sI.drop{Q:Tr->Prop}:∀ (i:Nat) (l:Tr),sI Q l->sI Q (bN i l):=by
 intro i
 induction i with
 |zero=>intro l h;exact h
 |succ n ih=>
  intro l h;cases l with
  |nil=>trivial
  |node b o a e r=>exact ih r h.2.2
theorem aT3{w:World}:∀ (i:Nat) (l:Tr),bU w l->bU w (bN i l):=by
 intro i
 induction i with
 |zero=>intro l h;exact h
 |succ n ih=>
  intro l h;cases l with
  |nil=>trivial
  |node b o a e r=>exact ih r h.2.1
theorem bY{s b o:Nat}{a:Nd}{e r:Tr}(d:s=13\/s=14\/s=15\/s=16\/s=18)(h:Ws s (.node b o a e r)):a.a=15/\Ws (if s=13 then 0 else if s=14 then 2 else if s=15 then 20 else if s=16 then 22 else 7) e/\Ws s r:=by
 obtain⟨_,x,y,h0,f,g⟩:=h.parts
 by_cases c:a.a=15
 ·refine⟨c,?_⟩;rw[c]at h0;rcases d with rfl|rfl|rfl|rfl|rfl<;>cases h0<;>exact Qj
 ·exfalso;rcases d with rfl|rfl|rfl|rfl|rfl<;>simp[mD,c]at h0
theorem iB{s:Nat}(c:s=13\/s=14\/s=15\/s=16\/s=18):∀ (i:Nat) (l:Tr),Ws s l->Ws s (bN i l):=by
 intro i
 induction i with
 |zero=>intro l h;exact h
 |succ n ih=>
  intro l h;cases l with
  |nil=>exact h
  |node b o a e r=>exact ih r (bY c h).2.2
theorem pJ:∀ (i:Nat) (l:Tr),(ps l).Nodup->(ps (bN i l)).Nodup:=by
 intro i
 induction i with
 |zero=>intro l h;exact h
 |succ n ih=>
  intro l h;cases l with
  |nil=>exact h
  |node b o a e r=>exact ih r (fU h).right
theorem xR:∀ (i:Nat) (l:Tr) (p:Int),p∈ps (bN i l)->p∈ps l:=by
 intro i
 induction i with
 |zero=>intro l p h;exact h
 |succ n ih=>
  intro l p h;cases l with
  |nil=>exact h
  |node b o a e r=>exact lQ (ih r p h)
def aD:Tr->Tr
 | .nil=> .nil
 | .node _ _ _ l _=>l
variable {H O N I U:Nat} {E:Array Value} {F:dB} {its:List Tr}
theorem Ws.lst{s:Nat}{t:Tr}(f:s=3\/s=4\/s=5\/s=6\/s=8)(h:Ws s t):t= .nil\/∃ b o a l,t= .node b o a l .nil/\a.a=20/\Ws (10+s) l:=by
 cases t with
 |nil=>simp
 |node b o a l r=>
  right;obtain⟨_,x,y,h0,g,c⟩:=h.parts
  by_cases d:a.a=20
  ·rw[d]at h0;have e:x=10+s/\y=99:=by rcases f with rfl|rfl|rfl|rfl|rfl<;>cases h0<;>exact Oa
   obtain⟨rfl,rfl⟩:=e;obtain rfl:=c.nil_of
   grind
  grind[mD]
theorem Ws.elems{s:Nat}{t:Tr}(d:s=3\/s=4\/s=5\/s=6\/s=8)(h:Ws s t):Ws (10+s) (YtikffmloeifkpaaGreatDoor.aD t):=by
 rcases h.lst d with rfl|⟨b,o,a,l,rfl,_,c⟩
 ·unfold YtikffmloeifkpaaGreatDoor.aD Ws eX;omega
 ·exact c
theorem Ws.w0{s:Nat}{t:Tr}(d:s=3\/s=4\/s=5\/s=6\/s=8)(h:Ws s t):∃ ao c,aH t= .slice ao (aJ t) c:=by
 rcases h.lst d with rfl|⟨b,o,a,l,rfl,e,_⟩
 ·exact⟨none,0,rfl⟩
 ·exact⟨_,_,if_pos e⟩
theorem dG(t:Tr):aJ t=bG (aD t):=by cases t<;>rfl
theorem Ws.lstrs{s:Nat}{t:Tr}(c:s=3\/s=4\/s=5\/s=6\/s=8)(h:Ws s t)(S:Rs):eE F its t S=eE F its (YtikffmloeifkpaaGreatDoor.aD t) S:=by
 rcases h.lst c with rfl|⟨b,o,a,l,rfl,d,_⟩
 ·rfl
 ·rw[jB (fun h=>Oa)];have:mH F its a (aJ l) S=S:=by grind[mH]
  rw[this];rfl
theorem mO{s:Nat}{t:Tr}(c:s=3\/s=4\/s=5\/s=6\/s=8)(h:Ws s t):ps t=ps (aD t):=by
 rcases h.lst c with rfl|⟨b,o,a,l,rfl,d,_⟩
 ·rfl
 ·show(if a.a=6 then _ else if eV a.a then _ else _)=_;rw[d];show ps l++[]=ps l;simp
theorem aIT{s:Nat}{t:Tr}{P:TypeId->Int->Prop}{w w':World}{S:Rs}(m:s=3\/s=4\/s=5\/s=6\/s=8)(h:Ws s t)(hi:bU w t)(q:Fr H P w w')(i:∀ t p,P t p->cD t)(j:bU w' (pI F its (aD t) S)):bU w' (pI F its t S):=by
 rcases h.lst m with rfl|⟨b,o,a,l,rfl,d,u⟩
 ·trivial
 ·rw[qL (fun h=>Oa)];have f:mH F its a (aJ l) S=S:=by grind[mH]
  have g:wh1 F its a (aJ l) S=a.c:=by grind[wh1]
  rw[f,g];have c:=hi.2.2;have h0:=(bM c (n:=20) d).1;have v:po a=[]:=by unfold po;rw[d];rfl
  have r:=gM.fr q (fun t p k=>(i t p k).e) c Qh (fun e=>⟨h.list e h0,(by grind[cD])⟩);exact⟨j,trivial,kK r (eZ _ _ _ _) Qj⟩
theorem pQ{s:Nat}{w:World}{t:Tr}(J:s=3\/s=4\/s=5\/s=6\/s=8)(h:Ws s t){P:TypeId->Int->Prop}{w0:World}(hi:bU w0 t)(K:Fr H P w0 w)(C:∀ t p,P t p->cD t){ao:Option Addr}{n z i:Nat}(v:aH t= .slice ao n z){b o:Nat}{a:Nd}{e r:Tr}(d:bN i (aD t)= .node b o a e r)(B:∃ b o a l r,e= .node b o a l r/\a.a≠19/\a.a≠7):
 ∃ g,ao=some ⟨g,0,none⟩/\w.cell? ⟨g,i,none⟩=some (aH e):=by
 rcases h.lst J with rfl|⟨b0,o0,a0,l0,rfl,f,_⟩
 ·cases i<;>cases d
 ·have h0:aH (.node b0 o0 a0 l0 .nil)= Qe b0 (bG l0) o0:=if_pos f;rw[h0]at v;simp only[Value.slice.injEq]at v;refine⟨b0,Qh,?_⟩;have u:=hi.2.2;have A:=(bM u (n:=20) f).1;have S:po a0=[]:=by unfold po;rw[f];rfl
  have j:=gM.fr K (fun t p D=>(C t p D).e) u Qh (fun e=>⟨h.list e A,(by grind[cD])⟩);obtain⟨_,k,R,G⟩:=bM j (n:=20) f;have q:=uL i 0 l0 G;replace d:bN i l0= .node b o a e r:=d;rw[d,Nat.zero_add]at q;obtain⟨m,j,c,x,y,rfl,L,Q⟩:=B;have M:(if c.a=19 then uB k (i*3) c else if c.a=7 then k[i]?=some (fO (.node m j c x y))else k[i]?=some (aH (.node m j c x y))):=q.1
  grind[cell_of_row]
structure LpN(H O N I U:Nat)(E:Array Value)(F:dB)(its:List Tr)(L:Tr)(G:Rs)(B:World)(i:Nat)(J:Rs)(wr:World):Prop where
 rs:lZ H O N I U E F J wr
 fr:Fr H (Pt L) B wr
 rest:bU wr (bN i L)
 wand:∀ w2,Fr H (Pt (bN i L)) wr w2->bU w2 (pI F its (bN i L) J)->bU w2 (pI F its L G)
 run:eE F its (bN i L) J=eE F its L G
variable {L:Tr} {G J:Rs} {B wr w3:World} {i:Nat}
theorem LpN.start(h:lZ H O N I U E F G B)(hi:bU B L):LpN H O N I U E F its L G B 0 G B:=⟨h,Fr.refl _ _ _,hi,fun _ _ h=>h,rfl⟩
theorem LpN.step(h:LpN H O N I U E F its L G B i J wr){s:Nat}(l:s=13\/s=14\/s=15\/s=16\/s=18)(A:Ws s L)(x:(ps L).Nodup){b o:Nat}{a:Nd}{e r:Tr}(z:bN i L= .node b o a e r)(k:bN (i+1) L=r)(q:lZ H O N I U E F (eE F its e J) w3)(u:bU w3 (pI F its e J))(d:Fr H (Pt e) wr w3):LpN H O N I U E F its L G B (i+1) (eE F its e J) w3:=by
 have h0:=iB l i _ A;have K:=pJ i _ x;have j:=xR i L;obtain⟨_,y,rest,g,run⟩:=h;rw[z]at h0 K j rest g run;obtain⟨k0,w,v⟩:=bY l h0;have K:=fU K;have m: ¬(a.a=9/\a.flag=true):=Oa;have e1:∀ S,mH F its a (aJ e) S=S:=(by grind[mH]);have n:∀ S,wh1 F its a (aJ e) S=a.c:=(by grind[wh1]);rw[qL m,e1,n]at g;rw[jB m,e1]at run;refine⟨q,y.t (d.mono fun t p c=>⟨c.1,j p (jI c.2)⟩),?_,fun C f hi=>?_,?_⟩
 ·rw[k];exact bU.fr d (fun t p c=>(Pt.body t p c).e) v rest.2.1 (Pt.o K.apart)
 ·rw[k]at f hi;refine g C ((d.mono Pt.left).t (f.mono Pt.right)) ⟨?_,hi,?_⟩
  ·exact uR u f w (eZ _ _ _ _) K.apart_
  ·unfold iR;rw[k0];trivial
 simp[*]
theorem LpN.fin(h:LpN H O N I U E F its L G B (bG L) J wr):J=eE F its L G/\bU wr (pI F its L G):=by
 obtain⟨_,_,_,a,run⟩:=h;rw[nP]at a run;exact⟨run,a wr (Fr.refl _ _ _) trivial⟩
theorem aTT{b o:Nat}{a:Nd}{l r:Tr}(ht:a.a=3)(hw:Ws 0 (.node b o a l r))(hH:dE H (.node b o a l r))(j5:(ps (.node b o a l r)).Nodup)(d2:aJ l<=1000000)(z6:∀ b o a l r,(BT.node b o a l r)∈its->a.a=17->Ws 6 l/\aJ l<=1000000)(hA:sI (fun e=>Ws 0 e/\GN 195 H O N I U E F its aH e) (aD l)):GN 249 H O N I U E F its fO (.node b o a l r):=by
 obtain⟨z8,sx,sy,y6,k8,j7⟩:=hw.parts;rw[ht]at y6;cases y6;obtain rfl:=j7.nil_of;have hn:a.h.size<=maxLen:=by have:=z8.h;unfold maxLen;omega
 have a5:=fU j5;have j8:=hH.2.2 (by unfold kJ;omega);intro s w h hi;have hN:=xT hi.2.2 j8 (.r (.r (.l ht)));have n9: ¬(a.a=9/\a.flag=true):=fun h=>Oa
 have c5:∀ w',iR w' b a l .nil->w'.cell? ⟨b,3,none⟩=some (aH l):=by
  intro w' ho;obtain⟨cs,hc,_,y,_⟩:=bM ho (n:=3) ht;rw[cell_of_row _ _ _ _ _ _ hc];exact y
 have z4:mH F its a (aJ l) s=s.n0 F its a.h a.b (aJ l):=by simp[mH,ht]
 have j3:wh1 F its a (aJ l) s=nT F its a.h (aJ l) a.c:=by simp[wh1,ht]
 have n0:=hN.c0;have n1:=hN.c1;obtain⟨q2,n2⟩:∃ q,w.cell? ⟨b,2,none⟩=some (Qc q):=hN.c2;have f2:=hN.froz 2;obtain⟨ao,cp,k7⟩:=k8.w0 Oy;have mA:=c5 w hi.2.2;rw[k7]at mA;have y8:=mO Oy k8
 have b4:∀ (G:Rs) (g:Int->Int) (B wr:World),s.n0 F its a.h a.b (aJ l)=G->nT F its a.h (aJ l)=g->Fr H (Po a) w B->Wr b 2 g w B->bU B l->Fr H (Pt (aD l)) B wr->lZ H O N I U E F (eE F its (aD l) G) wr->bU wr (pI F its (aD l) G)->
  xD H O N I U E F (Pt (.node b o a l .nil)) (pI F its (.node b o a l .nil) s) (eE F its (.node b o a l .nil) s) w (.returned (.tuple #[])) wr:=by
  intro G g B wr e1 x d m k xr K ir;have a9:Fr H (Pt l) B wr:=xr.mono fun t a3 hp=>⟨hp.1,by rw[y8];exact hp.2⟩;have o1:=yS hi.2.2 (.r (.r (.l ht))) m;have o3:=dZ o1 a9 Pt.body (fun a3 hp c8 hq=>a5.own_l a3 hp hq.2) (by show a.a≠20;omega);refine⟨rfl,?_,?_,(d.mono Po.to).t (a9.mono Pt.left)⟩
  ·rw[jB n9,z4,e1];show lZ H O N I U E F (eE F its l G) wr;rw[k8.lstrs Oy];exact K
  ·rw[qL n9,z4,j3,e1,x];refine⟨aIT Oy k8 k a9 Pt.body ir,trivial,kK o3 (eZ _ _ _ _) (Sh.refl _)⟩
 have kG:∀ (g:Int->Int) (B:World),Wr b 2 g w B->B.cell? ⟨b,3,none⟩=some (aH l):=fun g B m=>by
  obtain⟨cs,hc,_,y,_⟩:=bM (yS hi.2.2 (.r (.r (.l ht))) m) (n:=3) ht;rw[cell_of_row _ _ _ _ _ _ hc];exact y
 have b7:∀ (B:World),Fr H (Po a) w B->bU B l:=fun B d=>bU.fr d (fun t a3 hp=>(Po.body t a3 hp).e) k8 hi.1 (Po.o a5.own_l);have j4:∀ a6 (B:World),lZ H O N I U E F a6 B->Fr H (Po a) w B->yB H O N I U E F its a6 B:=fun a6 B j d=>h.fr j d Po.body;have y7:(ps (aD l)).Nodup:=by rw[<-y8];exact a5.left
 have y5:=k8.elems Oy
 have b6:∀ B,bU B l->bU B (aD l):=fun B h=>by
  cases l with
  |nil=>trivial
  |node=>exact h.1
 have HF:Hid _:=b4;have HI:Hid _:=b7;have HW:Hid _:=kG;have k9:Hid _:=j4;have h7:Hid _:=b6;have z2:Hid _:=y7;have z1:Hid _:=y5;have z0:Hid (Ws 3 l):=k8;have c7:Hid _:=y8;have t1:=aCJ w;have t2:=fun q=>uF q w;have t3:=fun q=>aB8 q w;clear b4 b7 kG j4 b6 y7 y5 k8 y8 z4 j3 n9 a5 j5 hH hw;show Calls prog 249 #[Qd N,Qd b] w (xD H O N I U E F (Pt (.node b o a l .nil)) (pI F its (.node b o a l .nil) s) (eE F its (.node b o a l .nil) s) w);rcases zD h a.h with u|⟨b5,o5,M,l5,r5,u,D,y2⟩|⟨b5,o5,M,l5,r5,u,D,y2⟩
 ·obtain⟨G,k0⟩:∃ G,G=s.fail 4 a.b:=⟨_,rfl⟩;have k5:Hid (s.n0 F its a.h a.b (aJ l)=G):=by unfold Hid;rw[k0];unfold Rs.n0 eG;rw[u]
  have k6:Hid (nT F its a.h (aJ l)=fun q=>q):=by unfold Hid;funext q;unfold nT eG;rw[u]
  go_enter func249,ntmps249
  go_wp2_with fail
  refine(lB w h.rs h.it h.fo hn).mono ?_;rintro e W2 ⟨rfl,rfl⟩;rw[u];unfold zX;go_wp2_with fail
  refine(dR 4 a.b _ h.rs).mono ?_;rintro e B ⟨rfl,j,C⟩;rw[<-k0]at j;have m:Wr b 2 (fun q=>q) w B:=Wr.id (hN.keep0 C);have d:Fr H (Po a) w B:=C.mono F0.to;clear C k0;have m3:=HW.o _ _ m;rw[k7]at m3;have k:=HI.o _ d;have y3:Hid _:=k9.o _ _ j d;have y4:Hid _:=k;have Q:=LpN.start (its:=its) (L:=aD l) j (h7.o _ k);have P:Hid _:=fun wr=>HF.o _ _ B wr k5.o k6.o d m k;clear k j d m k5 k6 HF k9 h7 HI HW;go_wp2_with fail
  go_loopg [62] (aJ l) (fun v a4 wr=>∃ (i:Nat) (J:Rs),a4= Qc i/\i<=aJ l/\aJ l<=i+v/\LpN H O N I U E F its (aD l) G B i J wr)
  case atStart=>exact⟨0,G,rfl,Qn _,Oa,Q⟩
  case round=>
   clear Q;obtain⟨i,J,rfl,z9,u,c⟩:=hrel;have A:Hid _:=c
   by_cases y1:i < aJ l
   ·have h8:(i:Int) < (aJ l:Int):=Oa
    obtain⟨b2,o2,a2,x,r2,f,Y⟩:=jA i (aD l) (by rw[<-dG];exact y1);have Z:=sI.drop i _ hA;rw[f]at Z;obtain⟨j2,⟨p,T⟩,_⟩:=Z
    obtain⟨gg,rfl,h5⟩:=pQ Oy z0.o y4.o c.fr Pt.body k7 f (by
     cases x with
     |nil=>exact absurd p (by unfold Ws eX;omega)
     |node b o a l r=>
      obtain⟨_,a8,b3,e,_⟩:=p.parts;exact⟨b,o,a,l,r,rfl,fun h=>(by rw[h]at e;cases e),fun h=>(by rw[h]at e;cases e)⟩)
    obtain⟨a7,a3,y0⟩:=p.g Oy;have z:=c.rest;rw[f]at z;have h0:=T J wr (y3.o.fr c.rs c.fr Pt.body) z.1;rw[y0]at h5 h0;have S:Hid _:=fun w3=>A.o.step (w3:=w3) Oy z1.o z2.o f Y;clear T p f Y z c;go_wp2_with fail
    refine h0.mono ?_;rintro e R ⟨rfl,y,W,x3⟩;obtain⟨v,rfl⟩:=Oj gk
    have fin:∃ (V:Nat) (J:Rs),Qc ((i:Int)+1)= Qc V/\V<=aJ l/\aJ l<=V+v/\LpN H O N I U E F its (aD l) G B V J R:=
     ⟨i+1,_,Od,Oa,Oa,S.o R y W x3⟩
    clear S A y W x3;go_wp2;go_roundg v
    case rel=>exact fin
    case measure=>omega
   ·have h8: ¬(i:Int) < (aJ l:Int):=Oa
    have X:i=bG (aD l):=by rw[<-dG];omega
    have fin:xD H O N I U E F (Pt (.node b o a l .nil)) (pI F its (.node b o a l .nil) s) (eE F its (.node b o a l .nil) s) w (.returned (.tuple #[])) wr:=by
     subst X;obtain⟨e1,x⟩:=c.fin;have K:=c.rs;rw[e1]at K;exact P.o wr c.fr K x
    clear X c A P;go_wp2;go_end0
    exact fin
 ·obtain⟨G,k0⟩:∃ G,G=s.fail 4 a.b:=⟨_,rfl⟩;have k5:Hid (s.n0 F its a.h a.b (aJ l)=G):=by unfold Hid;rw[k0];unfold Rs.n0 eG;rw[u];simp[D]
  have k6:Hid (nT F its a.h (aJ l)=fun q=>q):=by unfold Hid;funext q;unfold nT eG;rw[u];simp[D]
  have hv:aH (.node b5 o5 M l5 r5)= .iface 192 (Qd b5):=by show(if M.a=20 then _ else _)=_;rw[Oh,D];rfl
  clear y2 D;go_enter func249,ntmps249
  go_wp2_with fail
  refine(lB w h.rs h.it h.fo hn).mono ?_;rintro e W2 ⟨rfl,rfl⟩;rw[u];unfold zX;dsimp only;rw[hv];go_wp2_with fail
  refine(dR 4 a.b _ h.rs).mono ?_;rintro e B ⟨rfl,j,C⟩;rw[<-k0]at j;have m:Wr b 2 (fun q=>q) w B:=Wr.id (hN.keep0 C);have d:Fr H (Po a) w B:=C.mono F0.to;clear C k0 hv;have m3:=HW.o _ _ m;rw[k7]at m3;have k:=HI.o _ d;have y3:Hid (yB H O N I U E F its G B):=k9.o _ _ j d;have y4:Hid (bU B l):=k;have Q:=LpN.start (its:=its) (L:=aD l) j (h7.o _ k);have P:Hid _:=fun wr=>HF.o _ _ B wr k5.o k6.o d m k;clear k j d m k5 k6 HF k9 h7 HI HW;go_wp2_with fail
  go_loopg [62] (aJ l) (fun v a4 wr=>∃ (i:Nat) (J:Rs),a4= Qc i/\i<=aJ l/\aJ l<=i+v/\LpN H O N I U E F its (aD l) G B i J wr)
  case atStart=>exact⟨0,G,rfl,Qn _,Oa,Q⟩
  case round=>
   clear Q;obtain⟨i,J,rfl,z9,u,c⟩:=hrel;have A:Hid _:=c
   by_cases y1:i < aJ l
   ·have h8:(i:Int) < (aJ l:Int):=Oa
    obtain⟨b2,o2,a2,x,r2,f,Y⟩:=jA i (aD l) (by rw[<-dG];exact y1);have Z:=sI.drop i _ hA;rw[f]at Z;obtain⟨j2,⟨p,T⟩,_⟩:=Z
    obtain⟨gg,rfl,h5⟩:=pQ Oy z0.o y4.o c.fr Pt.body k7 f (by
     cases x with
     |nil=>exact absurd p (by unfold Ws eX;omega)
     |node b o a l r=>
      obtain⟨_,a8,b3,e,_⟩:=p.parts;exact⟨b,o,a,l,r,rfl,fun h=>(by rw[h]at e;cases e),fun h=>(by rw[h]at e;cases e)⟩)
    obtain⟨a7,a3,y0⟩:=p.g Oy;have z:=c.rest;rw[f]at z;have h0:=T J wr (y3.o.fr c.rs c.fr Pt.body) z.1;rw[y0]at h5 h0;have S:Hid _:=fun w3=>A.o.step (w3:=w3) Oy z1.o z2.o f Y;clear T p f Y z c;go_wp2_with fail
    refine h0.mono ?_;rintro e R ⟨rfl,y,W,x3⟩;obtain⟨v,rfl⟩:=Oj gk
    have fin:∃ (V:Nat) (J:Rs),Qc ((i:Int)+1)= Qc V/\V<=aJ l/\aJ l<=V+v/\LpN H O N I U E F its (aD l) G B V J R:=
     ⟨i+1,_,Od,Oa,Oa,S.o R y W x3⟩
    clear S A y W x3;go_wp2;go_roundg v
    case rel=>exact fin
    case measure=>omega
   ·have h8: ¬(i:Int) < (aJ l:Int):=Oa
    have X:i=bG (aD l):=by rw[<-dG];omega
    have fin:xD H O N I U E F (Pt (.node b o a l .nil)) (pI F its (.node b o a l .nil) s) (eE F its (.node b o a l .nil) s) w (.returned (.tuple #[])) wr:=by
     subst X;obtain⟨e1,x⟩:=c.fin;have K:=c.rs;rw[e1]at K;exact P.o wr c.fr K x
    clear X c A P;go_wp2;go_end0
    exact fin
 ·have hv:aH (.node b5 o5 M l5 r5)= .iface 106 (Qd b5):=by show(if M.a=20 then _ else _)=_;rw[Oh,D];rfl
  obtain⟨j1,d3⟩:=z6 b5 o5 M l5 r5 (aFJ u) D;obtain⟨b8,b9,z3⟩:=j1.w0 Ou;obtain⟨c9,y9,⟨_,_,z5⟩,z7⟩:=y2;have m5:w.cell? ⟨b5,2,none⟩=some (Qc M.c):=Og y9 z5
  have m6:w.cell? ⟨b5,3,none⟩=some (.slice b8 (aJ l5) b9):=by rw[cell_of_row _ _ _ _ _ _ y9,z7,z3]
  by_cases h6:aJ l=aJ l5
  ·obtain⟨G,k0⟩:∃ G,G=s:=⟨_,rfl⟩;have k5:Hid (s.n0 F its a.h a.b (aJ l)=G):=by unfold Hid;rw[k0];unfold Rs.n0 eG;rw[u];simp[D,h6]
   have k6:Hid (nT F its a.h (aJ l)=fun _=>M.c):=by unfold Hid;funext q;unfold nT eG;rw[u];simp[D,h6]
   have hw:=fun n=>(hN.drewN n).write (h.rs.drewN n) M.c;have j6:Hid _:=hw;have j0:((aJ l:Int)!=(aJ l5:Int))=false:=by simp[h6]
   have c6:Hid (aJ l=aJ l5):=h6;clear D y9 z7 z5 z3 j1 hw h6;go_enter func249,ntmps249
   go_wp2_with fail
   refine(lB w h.rs h.it h.fo hn).mono ?_;rintro e W2 ⟨rfl,rfl⟩;rw[u];unfold zX;dsimp only;rw[hv];go_wp2_with fail
   go_quiet (fail)
   obtain⟨j,C,_,_⟩:=j6.o nq;rw[<-k0]at j;have d:=((Fr.refl H (Po a) w).drewN nq).t C;have m:Wr b 2 (fun _=>M.c) w ((w.drewN nq).setCell ⟨b,0+2,none⟩ (Qc M.c)):=Wr.after (w:=w.drewN nq) (fun _ _ h=>h) (Wr.of_set _);rw[Nat.zero_add]at j d m;clear j6 C j0 k0 hv;go_upto_region 6 with fail
   generalize (w.drewN nq).setCell ⟨b,2,none⟩ (Qc M.c)=B at*;have m3:=HW.o _ _ m;rw[k7]at m3;have k:=HI.o _ d;have y3:Hid (yB H O N I U E F its G B):=k9.o _ _ j d;have y4:Hid (bU B l):=k;have Q:=LpN.start (its:=its) (L:=aD l) j (h7.o _ k);have P:Hid _:=fun wr=>HF.o _ _ B wr k5.o k6.o d m k;clear k j d m k5 k6 HF k9 h7 HI HW;go_wp2_with fail
   go_loopg [62] (aJ l) (fun v a4 wr=>∃ (i:Nat) (J:Rs),a4= Qc i/\i<=aJ l/\aJ l<=i+v/\LpN H O N I U E F its (aD l) G B i J wr)
   case atStart=>exact⟨0,G,rfl,Qn _,Oa,Q⟩
   case round=>
    clear Q;obtain⟨i,J,rfl,z9,u,c⟩:=hrel;have A:Hid _:=c
    by_cases y1:i < aJ l
    ·have h8:(i:Int) < (aJ l:Int):=Oa
     obtain⟨b2,o2,a2,x,r2,f,Y⟩:=jA i (aD l) (by rw[<-dG];exact y1);have Z:=sI.drop i _ hA;rw[f]at Z;obtain⟨j2,⟨p,T⟩,_⟩:=Z
     obtain⟨gg,rfl,h5⟩:=pQ Oy z0.o y4.o c.fr Pt.body k7 f (by
      cases x with
      |nil=>exact absurd p (by unfold Ws eX;omega)
      |node b o a l r=>
       obtain⟨_,a8,b3,e,_⟩:=p.parts;exact⟨b,o,a,l,r,rfl,fun h=>(by rw[h]at e;cases e),fun h=>(by rw[h]at e;cases e)⟩)
     obtain⟨a7,a3,y0⟩:=p.g Oy;have z:=c.rest;rw[f]at z;have h0:=T J wr (y3.o.fr c.rs c.fr Pt.body) z.1;rw[y0]at h5 h0;have S:Hid _:=fun w3=>A.o.step (w3:=w3) Oy z1.o z2.o f Y;clear T p f Y z c;go_wp2_with fail
     refine h0.mono ?_;rintro e R ⟨rfl,y,W,x3⟩;obtain⟨v,rfl⟩:=Oj gk
     have fin:∃ (V:Nat) (J:Rs),Qc ((i:Int)+1)= Qc V/\V<=aJ l/\aJ l<=V+v/\LpN H O N I U E F its (aD l) G B V J R:=
      ⟨i+1,_,Od,Oa,Oa,S.o R y W x3⟩
     clear S A y W x3;go_wp2;go_roundg v
     case rel=>exact fin
     case measure=>omega
    ·have h8: ¬(i:Int) < (aJ l:Int):=Oa
     have X:i=bG (aD l):=by rw[<-dG];omega
     have fin:xD H O N I U E F (Pt (.node b o a l .nil)) (pI F its (.node b o a l .nil) s) (eE F its (.node b o a l .nil) s) w (.returned (.tuple #[])) wr:=by
      subst X;obtain⟨e1,x⟩:=c.fin;have K:=c.rs;rw[e1]at K;exact P.o wr c.fr K x
     clear X c A P;go_wp2;go_end0
     exact fin
  ·obtain⟨G,k0⟩:∃ G,G=s.fail 5 a.b:=⟨_,rfl⟩;have k5:Hid (s.n0 F its a.h a.b (aJ l)=G):=by unfold Hid;rw[k0];unfold Rs.n0 eG;rw[u];simp[D,h6]
   have k6:Hid (nT F its a.h (aJ l)=fun q=>q):=by unfold Hid;funext q;unfold nT eG;rw[u];simp[D,h6]
   have j0:((aJ l:Int)!=(aJ l5:Int))=true:=by simpa using fun h=>h6 Oa
   clear D y9 z7 z5 z3 j1 h6;go_enter func249,ntmps249
   go_wp2_with fail
   refine(lB w h.rs h.it h.fo hn).mono ?_;rintro e W2 ⟨rfl,rfl⟩;rw[u];unfold zX;dsimp only;rw[hv];go_wp2_with fail
   go_quiet (fail)
   go_wp2_with fail
   refine(dR 5 a.b _ (h.rs.drewN nq)).mono ?_;rintro e B ⟨rfl,j,C⟩;rw[<-k0]at j;have m:Wr b 2 (fun q=>q) w B:=Wr.id ((hN.drewN nq).keep0 C);have d:Fr H (Po a) w B:=((Fr.refl H (Po a) w).drewN nq).t (C.mono F0.to);clear j0 C k0 hv;have m3:=HW.o _ _ m;rw[k7]at m3;have k:=HI.o _ d;have y3:Hid (yB H O N I U E F its G B):=k9.o _ _ j d;have y4:Hid (bU B l):=k;have Q:=LpN.start (its:=its) (L:=aD l) j (h7.o _ k);have P:Hid _:=fun wr=>HF.o _ _ B wr k5.o k6.o d m k;clear k j d m k5 k6 HF k9 h7 HI HW;go_wp2_with fail
   go_loopg [62] (aJ l) (fun v a4 wr=>∃ (i:Nat) (J:Rs),a4= Qc i/\i<=aJ l/\aJ l<=i+v/\LpN H O N I U E F its (aD l) G B i J wr)
   case atStart=>exact⟨0,G,rfl,Qn _,Oa,Q⟩
   case round=>
    clear Q;obtain⟨i,J,rfl,z9,u,c⟩:=hrel;have A:Hid _:=c
    by_cases y1:i < aJ l
    ·have h8:(i:Int) < (aJ l:Int):=Oa
     obtain⟨b2,o2,a2,x,r2,f,Y⟩:=jA i (aD l) (by rw[<-dG];exact y1);have Z:=sI.drop i _ hA;rw[f]at Z;obtain⟨j2,⟨p,T⟩,_⟩:=Z
     obtain⟨gg,rfl,h5⟩:=pQ Oy z0.o y4.o c.fr Pt.body k7 f (by
      cases x with
      |nil=>exact absurd p (by unfold Ws eX;omega)
      |node b o a l r=>
       obtain⟨_,a8,b3,e,_⟩:=p.parts;exact⟨b,o,a,l,r,rfl,fun h=>(by rw[h]at e;cases e),fun h=>(by rw[h]at e;cases e)⟩)
     obtain⟨a7,a3,y0⟩:=p.g Oy;have z:=c.rest;rw[f]at z;have h0:=T J wr (y3.o.fr c.rs c.fr Pt.body) z.1;rw[y0]at h5 h0;have S:Hid _:=fun w3=>A.o.step (w3:=w3) Oy z1.o z2.o f Y;clear T p f Y z c;go_wp2_with fail
     refine h0.mono ?_;rintro e R ⟨rfl,y,W,x3⟩;obtain⟨v,rfl⟩:=Oj gk
     have fin:∃ (V:Nat) (J:Rs),Qc ((i:Int)+1)= Qc V/\V<=aJ l/\aJ l<=V+v/\LpN H O N I U E F its (aD l) G B V J R:=
      ⟨i+1,_,Od,Oa,Oa,S.o R y W x3⟩
     clear S A y W x3;go_wp2;go_roundg v
     case rel=>exact fin
     case measure=>omega
    ·have h8: ¬(i:Int) < (aJ l:Int):=Oa
     have X:i=bG (aD l):=by rw[<-dG];omega
     have fin:xD H O N I U E F (Pt (.node b o a l .nil)) (pI F its (.node b o a l .nil) s) (eE F its (.node b o a l .nil) s) w (.returned (.tuple #[])) wr:=by
      subst X;obtain⟨e1,x⟩:=c.fin;have K:=c.rs;rw[e1]at K;exact P.o wr c.fr K x
     clear X c A P;go_wp2;go_end0
     exact fin
end
section
variable {H O N I U:Nat} {E:Array Value} {F:dB} {its:List Tr}
theorem aCL(u:TypeId)(v:Value)(w:World):(Instr.typeAssert (.iface u v) 335 253 true).run prog w= .ok (.tuple #[if u=253 then v else .pointer none,.bool (decide (u=253))]) w:=iO _ u v w underlying253 Od
theorem aHW(u:TypeId)(v:Value)(w:World):(Instr.typeAssert (.iface u v) 335 407 true).run prog w= .ok (.tuple #[if u=407 then v else .pointer none,.bool (decide (u=407))]) w:=iO _ u v w underlying407 Od
theorem aCH{b o:Nat}{a:Nd}{l r:Tr}{w W2 W3:World}{s:Rs}{x C:Nat}(g:Ws x l)(_:Ws C r)(K:Uq a l r)(h0:a.a≠20)(k: ¬(a.a=9/\a.flag=true))(h:wh1 F its a (aJ l) s=a.c)(j:mH F its a (aJ l) s=s)(m:iR w b a l r)(f:Fr H (Pt l) w W2)(n:bU W2 (pI F its l s))(e:Fr H (Pt r) W2 W3)(q:bU W3 (pI F its r (eE F its l s))):
 bU W3 (pI F its (.node b o a l r) s)/\Fr H (Pt (.node b o a l r)) w W3:=by
 have u:=dZ m f Pt.body (fun p c Z d=>K.own_l p c d.2) h0;have v:=dZ u e Pt.body (fun p c Z d=>K.own_r p c d.2) h0;have t:=uR n e g (eZ _ _ _ _) K.apart_;rw[qL k,h,j];exact⟨⟨t,q,kK v (eZ _ _ _ _) (eZ _ _ _ _)⟩,(f.mono Pt.left).t (e.mono Pt.right)⟩
theorem kI{b o:Nat}{a:Nd}{l r:Tr}{w W2:World}{C:Nat}(h0:Ws C r)(K:Uq a l r)(hi:bU w (.node b o a l r))(d:Fr H (Pt l) w W2)(e:a.a≠20):bU W2 r/\iR W2 b a l r:=
 ⟨bU.fr d (fun t p c=>(Pt.body t p c).e) h0 hi.2.1 (Pt.o K.apart),dZ hi.2.2 d Pt.body (fun p c _ f=>K.own_l p c f.2) e⟩
theorem yR{a:Nd}{n:Nat}{s:Rs}(h:a.a≠1/\a.a≠2/\a.a≠3/\a.a≠9/\a.a≠10): ¬(a.a=9/\a.flag=true)/\wh1 F its a n s=a.c/\mH F its a n s=s:=by
 grind[wh1,mH]
theorem aTN{b o:Nat}{a:Nd}{l r:Tr}(Y:Ws 1 (.node b o a l r))(y4:(ps (.node b o a l r)).Nodup)(V:a.a=7->Ws 0 l/\Ws 0 r/\GN 195 H O N I U E F its aH l/\GN 195 H O N I U E F its aH r)(W:a.a=8->Ws 1 l/\Ws 1 r/\GN 303 H O N I U E F its aH l/\GN 303 H O N I U E F its aH r):GN 303 H O N I U E F its aH (.node b o a l r):=by
 intro s w h hi;obtain⟨y3,sx,sy,k1,k9,C⟩:=Y.parts
 have ht:a.a=7\/a.a=8:=by
  by_cases h1:a.a=7
  ·exact .l h1
  by_cases d:a.a=8
  ·exact .r d
  ·exfalso;simp[mD,h1,d]at k1
 have K:=fU y4;obtain⟨Q,y0,D⟩:=yR (F:=F) (its:=its) (a:=a) (n:=aJ l) (s:=s) Oa;have v:a.a≠20:=Oa
 have m:=hi.2.2;have hv:aH (.node b o a l r)= .iface (iV a.a) (Qd b):=if_neg v;rw[hv];clear hv k1 y3;have t1:=fun z a2=>aCL z a2 w;have t2:=fun z a2=>aHW z a2 w;have a3:Hid _:=fun W2 W3 c t A u=>aCH (H:=H) (o:=o) (W2:=W2) (W3:=W3) k9 C K v Q y0 D m c t A u;have RK:Hid _:=fun W2 c=>kI (H:=H) (W2:=W2) C K hi c v;have T:eE F its (.node b o a l r) s=eE F its r (eE F its l s):=by rw[jB Q,D]
 rw[T];have HN:Hid (yB H O N I U E F its s w):=h;rcases ht with M|P
 ·obtain⟨k0,p,y,x⟩:=V M;obtain⟨z,a4,y2⟩:=k0.g Oy;obtain⟨u2,p2,y1⟩:=p.g Oy;have R:Hid (GN 195 H O N I U E F its aH r):=x
  have j:∀ f,iR f b a l r->f.cell? ⟨b,2,none⟩=some (aH l)/\f.cell? ⟨b,3,none⟩=some (aH r):=by
   intro f X;obtain⟨cs,q,_,_,d,g⟩:=bM X (n:=7) M;exact⟨Og q d,Og q g⟩
  have m2:=(j w m).1;have y5:Hid _:=j;have k:=y s w h hi.1;rw[y2]at m2 k;rw[show iV a.a=253 by rw[M];rfl];clear V W y x m Q K y4 hi Y v y0 D T k9 C k0 p j M h;go_enter func303,ntmps303
  go_wp2_with fail
  refine k.mono ?_;rintro e W2 ⟨rfl,d,t,c⟩;obtain⟨Z,o2⟩:=RK.o W2 c;have m3:=(y5.o W2 o2).2;have h0:=R.o _ _ (HN.o.fr d c Pt.body) Z;rw[y1]at m3 h0;go_wp2_with fail
  refine h0.mono ?_;rintro e W3 ⟨rfl,g,u,A⟩;go_wp2;go_end0
  obtain⟨f1,S⟩:=a3.o W2 W3 c t A u;exact⟨rfl,g,f1,S⟩
 ·obtain⟨k0,p,y,x⟩:=W P;obtain⟨z,a4,y2⟩:=k0.g Ox;obtain⟨u2,p2,y1⟩:=p.g Ox;have R:Hid (GN 303 H O N I U E F its aH r):=x
  have j:∀ f,iR f b a l r->f.cell? ⟨b,1,none⟩=some (aH l)/\f.cell? ⟨b,2,none⟩=some (aH r):=by
   intro f X;obtain⟨cs,q,_,d,g⟩:=bM X (n:=8) P;exact⟨Og q d,Og q g⟩
  have m2:=(j w m).1;have y5:Hid _:=j;have k:=y s w h hi.1;rw[y2]at m2 k;rw[show iV a.a=407 by rw[P];rfl];clear V W y x m Q K y4 hi Y v y0 D T k9 C k0 p j P h;go_enter func303,ntmps303
  go_wp2_with fail
  refine k.mono ?_;rintro e W2 ⟨rfl,d,t,c⟩;obtain⟨Z,o2⟩:=RK.o W2 c;have m3:=(y5.o W2 o2).2;have h0:=R.o _ _ (HN.o.fr d c Pt.body) Z;rw[y1]at m3 h0;go_wp2_with fail
  refine h0.mono ?_;rintro e W3 ⟨rfl,g,u,A⟩;go_wp2;go_end0
  obtain⟨f1,S⟩:=a3.o W2 W3 c t A u;exact⟨rfl,g,f1,S⟩
def fT:Tr->Nat
 | .nil=>0
 | .node _ _ a l r=>(if a.a=9 then 1 else 0)+fT l+fT r
theorem lR(s:Rs)(x:ByteArray)(p m:Int):(s.k0 x p m).b=s.b:=by
 grind[Rs.k0,Rs.fail_vars]
theorem aIM(s:Rs)(x:ByteArray)(p:Int):(s.oldVar x p).b=s.b:=by
 grind[Rs.oldVar,Rs.fail_vars]
theorem aIA(a:Nd)(n:Nat)(s:Rs):(mH F its a n s).b=s.b:=by
 grind[mH,Rs.o0,Rs.n0,lR,aIM,Rs.fail_vars]
theorem aE0(s:Rs)(x:ByteArray):(s.v0 x).b.length<=s.b.length+1:=by
 grind[Rs.v0,oV]
theorem xG:∀ (t:Tr) (s:Rs),(eE F its t s).b.length<=s.b.length+fT t:=by
 intro t
 induction t with
 |nil=>intro s;exact Ql _
 |node b o a l r ihl ihr=>
  grind[mH,aJ,fT,eE,aIA,aE0]
end
section
variable {H O N I U:Nat} {E:Array Value} {F:dB} {its:List Tr}
def GS(f H O N I U:Nat)(E:Array Value)(F:dB)(its:List Tr)(val:Tr->Value)(t:Tr):Prop:=
 ∀ s w,yB H O N I U E F its s w->bU w t->s.b.length+fT t<=1000000->Calls prog f #[Qd N,val t] w (xD H O N I U E F (Pt t) (pI F its t s) (eE F its t s) w)
theorem aUZ{b o:Nat}{a:Nd}{l r:Tr}(d:a.a=9)(hw:Ws 2 (.node b o a l r))(W:dE H (.node b o a l r))(V:(ps (.node b o a l r)).Nodup)(Y:Ws 0 l/\GN 195 H O N I U E F its aH l):GS 302 H O N I U E F its fO (.node b o a l r):=by
 obtain⟨h8,sx,sy,h6,P,k6⟩:=hw.parts;rw[d]at h6;cases h6;obtain rfl:=k6.nil_of;have Z:a.h.size<=maxLen:=by have:=h8.h;unfold maxLen;omega
 have R:=fU V;have k5:H<=b:=W.2.2 (by unfold kJ;omega);intro s w h hi k4;have hN:=xT hi.2.2 k5 (.r (.r (.r (.l d))));obtain⟨a5,p,k3⟩:=P.g Oy;have HL:Hid (GN 195 H O N I U E F its aH l):=Y.2
 have Q:∀ u S,S.a=9->iR u b S l .nil->u.cell? ⟨b,3,none⟩=some (aH l):=by
  intro u S k7 ho;obtain⟨cs,X,_,m,_⟩:=bM ho (n:=9) k7;rw[cell_of_row _ _ _ _ _ _ X];exact m
 have mf:w.cell? ⟨b,4,none⟩=some (.bool a.flag):=by
  obtain⟨cs,X,_,_,m⟩:=bM hi.2.2 (n:=9) d;rw[cell_of_row _ _ _ _ _ _ X];exact m
 have D:Hid (yB H O N I U E F its s w):=h;have C:Hid (bU w (.node b o a l .nil)):=hi;have K:Hid (Uq a l .nil):=R;have k:Hid (a.a=9):=d;show Calls prog 302 #[Qd N,Qd b] w _;cases hfl:a.flag
 ·rw[hfl]at mf;have n9: ¬(a.a=9/\a.flag=true):=fun h=>by rw[hfl]at h;cases h.2
  have v:mH F its a (aJ l) s=s.oldVar a.h a.b:=by unfold mH;rw[if_pos d,hfl];rfl
  have k2:wh1 F its a (aJ l) s=(dP a.h s.b).getD 0:=by unfold wh1;rw[if_pos (.r d)]
  rw[qL n9,jB n9,v,k2];have k1:Hid _:=Q;clear Y hw W V R v k2 n9 Q k4 d hi hfl;go_enter func302,ntmps302
  go_wp2_with fail
  refine(aD2 w h.rs hN Z).mono ?_;rintro e g ⟨rfl,T,j,a3⟩;have q:iR g b {a with c:=(dP a.h s.b).getD 0} l .nil:=yS C.o.2.2 (.r (.r (.r (.l k.o)))) a3;have y:bU g l:=bU.fr j (fun t p f=>(Po.body t p f).e) P C.o.1 (Po.o K.o.own_l);have m3:=k1.o g {a with c:=(dP a.h s.b).getD 0} k.o q;have h0:=HL.o _ _ (D.o.fr T j Po.body) y;rw[k3]at m3 h0;have k0:Hid (iR g b {a with c:=(dP a.h s.b).getD 0} l .nil):=q;clear q a3 y D;go_wp2_with fail
  refine h0.mono ?_;rintro e M ⟨rfl,m,i3,A⟩;go_wp2;refine bodyPost_ret (results_none rfl _ _ _) rfl ?_;have z:=dZ k0.o A Pt.body (fun p f a2 x=>K.o.own_l p f x.2) (by have:=k.o;show a.a≠20;omega);exact⟨rfl,m,⟨i3,trivial,kK z (eZ _ _ _ _) (Sh.refl _)⟩,(j.mono Po.to).t (A.mono Pt.left)⟩
 ·rw[hfl]at mf;have v:mH F its a (aJ l) s=s.k0 a.h a.b 12:=by unfold mH;rw[if_pos d,hfl];rfl
  have e1:eE F its (.node b o a l .nil) s=(eE F its l (s.k0 a.h a.b 12)).v0 a.h:=by
   show(if _ then _ else _)=_;rw[if_pos ⟨d,hfl⟩,v]
  have e2:pI F its (.node b o a l .nil) s= .node b o {a with c:=(eE F its l (s.k0 a.h a.b 12)).b.length} (pI F its l (s.k0 a.h a.b 12)) .nil:=by
   show(if _ then _ else _)=_;rw[if_pos ⟨d,hfl⟩,v]
  rw[e1,e2];have h5:=xG (F:=F) (its:=its) l (s.k0 a.h a.b 12);rw[lR]at h5
  have k8:(eE F its l (s.k0 a.h a.b 12)).b.length<=1000000:=by
   have:fT (.node b o a l .nil)=1+fT l+0:=by show(if a.a=9 then 1 else 0)+_+_=_;rw[if_pos d];rfl
   omega
  have k1:Hid _:=Q;have y1:Hid (∀ u,iR u b a l .nil->pX H (Po a) u b 0 a.h a.b):=fun u ho=>xT ho k5 (.r (.r (.r (.l d))));clear Y hw W V R v Q k4 d hi hfl e1 e2 h5;go_enter func302,ntmps302
  go_wp2_with fail
  refine(yY w 12 h.rs hN Z).mono ?_;rintro e g ⟨rfl,T,j⟩;have q:=dZ C.o.2.2 j F0.body (fun p f a2 x=>x) (Oi k.o);have y:bU g l:=bU.fr j (fun t p f=>absurd f id) P C.o.1 (fun _ _ _ h=>h);have m3:=k1.o g a k.o q;have h0:=HL.o _ _ (D.o.fr T j F0.body) y;rw[k3]at m3 h0;have k0:Hid (iR g b a l .nil):=q;clear q y D;go_wp2_with fail
  refine h0.mono ?_;rintro e M ⟨rfl,m,i3,A⟩;have z:=dZ k0.o A Pt.body (fun p f a2 x=>K.o.own_l p f x.2) (Oi k.o);have k9:=y1.o M z;have y0:Hid (iR M b a l .nil):=z;clear z;go_wp2_with fail
  refine(zO M m k9 Z k8).mono ?_;rintro e W4 ⟨rfl,h4,x4,a4⟩;go_wp2;go_end0
  have o4:iR W4 b {a with c:=((eE F its l (s.k0 a.h a.b 12)).b.length:Int)} l .nil:=yS y0.o (.r (.r (.r (.l k.o)))) a4;have i4:bU W4 (pI F its l (s.k0 a.h a.b 12)):=bU.fr x4 (fun t p f=>(Po.body t p f).e) ((eZ F its l _).ws P) i3 (by rw[(eZ F its l (s.k0 a.h a.b 12)).ps];exact Po.o K.o.own_l);exact⟨rfl,h4,⟨i4,trivial,kK o4 (eZ _ _ _ _) (Sh.refl _)⟩,((j.mono F0.to).t (A.mono Pt.left)).t (x4.mono Po.to)⟩
end
section
variable {H O N I U:Nat} {E:Array Value} {F:dB} {its:List Tr}
theorem aQS(u:TypeId)(v:Value)(w:World):(Instr.typeAssert (.iface u v) 250 326 true).run prog w= .ok (.tuple #[if u=326 then v else .pointer none,.bool (decide (u=326))]) w:=iO _ u v w underlying326 Od
theorem aHV(u:TypeId)(v:Value)(w:World):(Instr.typeAssert (.iface u v) 250 329 true).run prog w= .ok (.tuple #[if u=329 then v else .pointer none,.bool (decide (u=329))]) w:=iO _ u v w underlying329 Od
theorem aWQ(u:TypeId)(v:Value)(w:World):(Instr.typeAssert (.iface u v) 250 332 true).run prog w= .ok (.tuple #[if u=332 then v else .pointer none,.bool (decide (u=332))]) w:=iO _ u v w underlying332 Od
theorem aHT(u:TypeId)(v:Value)(w:World):(Instr.typeAssert (.iface u v) 250 338 true).run prog w= .ok (.tuple #[if u=338 then v else .pointer none,.bool (decide (u=338))]) w:=iO _ u v w underlying338 Od
theorem aEU(u:TypeId)(v:Value)(w:World):(Instr.typeAssert (.iface u v) 250 341 true).run prog w= .ok (.tuple #[if u=341 then v else .pointer none,.bool (decide (u=341))]) w:=iO _ u v w underlying341 Od
theorem aQT(u:TypeId)(v:Value)(w:World):(Instr.typeAssert (.iface u v) 250 344 true).run prog w= .ok (.tuple #[if u=344 then v else .pointer none,.bool (decide (u=344))]) w:=iO _ u v w underlying344 Od
theorem zY{b o:Nat}{a:Nd}{l r:Tr}(c:Ws 2 (.node b o a l r)):9<=a.a/\a.a<=14:=by
 obtain⟨_,x,y,d,_⟩:=c.parts
 grind[mD]
theorem iH(b o:Nat)(a:Nd)(l r:Tr):fT (.node b o a l r)=(if a.a=9 then 1 else 0)+fT l+fT r:=rfl
theorem aQV{b o:Nat}{a:Nd}{l r:Tr}(hw:Ws 2 (.node b o a l r))(hH:dE H (.node b o a l r))(y5:(ps (.node b o a l r)).Nodup)(h9:a.a=9->GS 302 H O N I U E F its fO (.node b o a l r))(hE:a.a=10\/a.a=13\/a.a=14->Ws 0 l/\GN 195 H O N I U E F its aH l)(y7:a.a=10->Ws 0 r/\GN 195 H O N I U E F its aH r)(hC:a.a=11\/a.a=12->Ws 1 l/\GN 303 H O N I U E F its aH l)(hB:a.a=12->Ws 4 r/\GS 196 H O N I U E F its aH r)(hI:a.a=11->∃ X Y Q p x,r= .node X Y Q p x/\Q.a=18/\Ws 4 p/\Ws 4 x/\GS 196 H O N I U E F its aH p/\GS 196 H O N I U E F its aH x):
 GS 250 H O N I U E F its aH (.node b o a l r):=by
 obtain⟨z4,sx,sy,k1,y3,V⟩:=hw.parts;obtain⟨d2,d3⟩:=zY hw;have hn:a.h.size<=maxLen:=by have:=z4.h;unfold maxLen;omega
 have K:=fU y5;have j6:H<=b:=hH.2.2 (by unfold kJ;omega);intro s w h hi y0;have z5:a.a≠20:=Oa
 have y:=hi.2.2;have hv:aH (.node b o a l r)= .iface (iV a.a) (Qd b):=if_neg z5;rw[hv];have t1:=fun u D=>aQS u D w;have t2:=fun u D=>aHV u D w;have t3:=fun u D=>aWQ u D w;have t4:=fun u D=>aHT u D w;have t5:=fun u D=>aEU u D w;have t6:=fun u D=>aQT u D w;have HN:Hid (yB H O N I U E F its s w):=h;have HU:Hid (Uq a l r):=K;have HI:Hid (bU w (.node b o a l r)):=hi
 by_cases M:a.a=9
 ·have j:=h9 M s w h hi y0;have y6:Calls prog 302 #[Qd N,Qd b] w (xD H O N I U E F (Pt (.node b o a l r)) (pI F its (.node b o a l r) s) (eE F its (.node b o a l r) s) w):=j;rw[show iV a.a=326 by rw[M];rfl];clear h9 hE y7 hC hB hI j hw hH y5 K y hv k1 y3 V h hi y0 M;go_enter func250,ntmps250
  go_wp2_with fail
  refine y6.mono ?_;rintro e W2 ⟨rfl,f,g,d⟩;go_wp2;go_end0
  exact⟨rfl,f,g,d⟩
 have W: ¬(a.a=9/\a.flag=true):=fun h=>M h.1;have k0:fT (.node b o a l r)=fT l+fT r:=by rw[iH,if_neg M];omega
 rw[k0]at y0
 by_cases z:a.a=10
 ·have Z:mH F its a (aJ l) s=s.o0 F its a.h a.b:=by unfold mH;rw[Oh,Oh,if_pos (.r z)]
  have y2:wh1 F its a (aJ l) s=kH F its a.h a.c:=by unfold wh1;rw[Oh,if_pos (.r z)]
  rw[qL W,jB W,Z,y2];have hN:=xT y j6 (.r (.r (.r (.r z))));obtain⟨q,A⟩:=hE (.l z);obtain⟨k3,y9⟩:=y7 z;obtain⟨u,p,y4⟩:=q.g Oy;obtain⟨u2,p2,z1⟩:=k3.g Oy;have HL:Hid (GN 195 H O N I U E F its aH l):=A;have HR:Hid (GN 195 H O N I U E F its aH r):=y9;have HT:Hid (a.a=10):=z
  have P:∀ k a',a'.a=10->iR k b a' l r->k.cell? ⟨b,3,none⟩=some (aH l)/\k.cell? ⟨b,4,none⟩=some (aH r):=by
   intro k a' j4 ho;obtain⟨cs,v,_,R,h4,_⟩:=bM ho (n:=10) j4;exact⟨Og v R,Og v h4⟩
  have y8:Hid _:=P;rw[show iV a.a=329 by rw[z];rfl];clear h9 hE y7 hC hB hI hw hH y5 K y hv k1 y3 V hi y0 M z W k0 Z y2 P A y9;go_enter func250,ntmps250
  go_wp2_with fail
  refine(yH w h hN hn).mono ?_;rintro e W2 ⟨rfl,f,d,b5⟩;have g:bU W2 l:=bU.fr d (fun t p C=>(Po.body t p C).e) q HI.o.1 (Po.o HU.o.own_l);have j2:bU W2 r:=bU.fr d (fun t p C=>(Po.body t p C).e) k3 HI.o.2.1 (Po.o HU.o.own_r);have o2:iR W2 b {a with c:=kH F its a.h a.c} l r:=yS HI.o.2.2 (.r (.r (.r (.r HT.o)))) b5;have m3:=(y8.o W2 {a with c:=kH F its a.h a.c} HT.o o2).1;have k4:=HN.o.fr f d Po.body;have j:=HL.o _ _ k4 g;rw[y4]at m3 j;have j8:Hid (iR W2 b {a with c:=kH F its a.h a.c} l r):=o2;clear o2 b5 g;go_wp2_with fail
  refine j.mono ?_;rintro e W3 ⟨rfl,R,S,m⟩;have o3:iR W3 b {a with c:=kH F its a.h a.c} l r:=dZ j8.o m Pt.body (fun p C b2 hq=>HU.o.own_l p C hq.2) (by have:=HT.o;show a.a≠20;omega);have j3:bU W3 r:=bU.fr m (fun t p C=>(Pt.body t p C).e) k3 j2 (Pt.o HU.o.apart);have m4:=(y8.o W3 {a with c:=kH F its a.h a.c} HT.o o3).2;have h6:=HR.o _ _ (k4.fr R m Pt.body) j3;rw[z1]at m4 h6;have j7:Hid (iR W3 b {a with c:=kH F its a.h a.c} l r):=o3;clear o3 j3 j2 k4;go_wp2_with fail
  refine h6.mono ?_;rintro e W4 ⟨rfl,h4,i4,x4⟩;go_wp2;go_end0
  have o4:=dZ j7.o x4 Pt.body (fun p C b2 hq=>HU.o.own_r p C hq.2) (by have:=HT.o;show a.a≠20;omega);have l4:=uR S x4 q (eZ _ _ _ _) HU.o.apart_;exact⟨rfl,h4,⟨l4,i4,kK o4 (eZ _ _ _ _) (eZ _ _ _ _)⟩,((d.mono Po.to).t (m.mono Pt.left)).t (x4.mono Pt.right)⟩
 obtain⟨_,y2,Z⟩:=yR (F:=F) (its:=its) (a:=a) (n:=aJ l) (s:=s) Oa;have k2:eE F its (.node b o a l r) s=eE F its r (eE F its l s):=by rw[jB W,Z]
 have k8:=xG (F:=F) (its:=its) l s;have a3:Hid _:=fun W2 W3 d g m S=>aCH (H:=H) (o:=o) (W2:=W2) (W3:=W3) y3 V K z5 W y2 Z y d g m S;have RK:Hid _:=fun W2 d=>kI (H:=H) (W2:=W2) V K hi d z5
 by_cases T:a.a=11
 ·obtain⟨X,Y,Q,p,x,rfl,hz,z6,z0,z9,z8⟩:=hI T;obtain⟨q,A⟩:=hC (.l T);obtain⟨u,pp,y4⟩:=q.g Ox;obtain⟨ao,cp,j1⟩:=z6.w0 Ox;obtain⟨c8,c9,j0⟩:=z0.w0 Ox;have HP:Hid (GS 196 H O N I U E F its aH p):=z9;have HQ:Hid (GS 196 H O N I U E F its aH x):=z8
  have P:∀ k,iR k b a l (.node X Y Q p x)->k.cell? ⟨b,0,none⟩=some (aH l)/\k.cell? ⟨b,1,none⟩=some (aH p)/\k.cell? ⟨b,2,none⟩=some (aH x):=by
   intro k ho;obtain⟨cs,v,h0,x',y',z',p',q',e,h1,f⟩:=bM ho (n:=11) T;simp only[BT.node.injEq]at e;obtain⟨rfl,rfl,rfl,rfl,rfl⟩:=e;exact⟨Og v h0,Og v h1,Og v f⟩
  have a6:=fU (b:=X) (o:=Y) K.right;obtain⟨a8,b7,a9⟩:=yR (F:=F) (its:=its) (a:=Q) (n:=aJ p) (s:=eE F its l s) Oa;have b6:eE F its (.node X Y Q p x) (eE F its l s)=eE F its x (eE F its p (eE F its l s)):=by rw[jB a8,a9]
  have b8:Hid _:=fun(w1:World) ho W2 W3 d g m S=>aCH (H:=H) (b:=X) (o:=Y) (W2:=W2) (W3:=W3) (w:=w1) z6 z0 a6 (by omega:Q.a≠20) a8 b7 a9 ho d g m S;have b9:Hid _:=fun(w1:World) c5 W2 d=>kI (H:=H) (b:=X) (o:=Y) (W2:=W2) (w:=w1) z0 a6 c5 d (by omega:Q.a≠20);have z2:=xG (F:=F) (its:=its) p (eE F its l s);have z7:fT (.node X Y Q p x)=fT p+fT x:=by rw[iH,Oh];omega
  rw[z7]at y0;have a7:(eE F its l s).b.length+fT p<=1000000:=Oa
  have c6:(eE F its p (eE F its l s)).b.length+fT x<=1000000:=Oa
  have y8:Hid _:=P;have m2:=(P w y).1;have j:=A s w h hi.1;rw[y4]at m2 j;rw[k2,b6];have HT:Hid (a.a=11):=T;rw[show iV a.a=332 by rw[T];rfl];clear h9 hE y7 hC hB hI hw hH y5 K y hv k1 y3 V hi y0 M z T W k0 Z y2 P A z9 z8 a6 a8 b7 a9 b6 z2 z7 k2 k8 h q;go_enter func250,ntmps250
  go_wp2_with fail
  refine j.mono ?_;rintro e W2 ⟨rfl,f,g,d⟩;obtain⟨j2,o2⟩:=RK.o W2 d;have m3:=(y8.o W2 o2).2.1;have k4:=HN.o.fr f d Pt.body;have h6:=HP.o _ _ k4 j2.1 a7;rw[j1]at m3 h6;go_wp2_with fail
  refine h6.mono ?_;rintro e W3 ⟨rfl,R,S,m⟩;obtain⟨j3,z3⟩:=b9.o W2 j2 W3 m;have c7:Fr H (Pt (.node X Y Q p x)) W2 W3:=m.mono Pt.left;have o3:=dZ o2 c7 Pt.body (fun p C b2 hq=>HU.o.own_r p C hq.2) (Oi HT.o);have m4:=(y8.o W3 o3).2.2;have k6:=HQ.o _ _ (k4.fr R m Pt.body) j3 c6;rw[j0]at m4 k6;go_wp2_with fail
  refine k6.mono ?_;rintro e W4 ⟨rfl,h4,i4,x4⟩;go_wp2;go_end0
  obtain⟨g1,g2⟩:=b8.o W2 j2.2.2 W3 W4 m S x4 i4;obtain⟨f1,f2⟩:=a3.o W2 W4 d g g2 g1;exact⟨rfl,h4,f1,f2⟩
 by_cases a2:a.a=12
 ·obtain⟨q,A⟩:=hC (.r a2);obtain⟨k3,y9⟩:=hB a2;obtain⟨u,pp,y4⟩:=q.g Ox;obtain⟨ao,cp,z1⟩:=k3.w0 Ox;have HR:Hid (GS 196 H O N I U E F its aH r):=y9
  have P:∀ k,iR k b a l r->k.cell? ⟨b,0,none⟩=some (aH l)/\k.cell? ⟨b,1,none⟩=some (aH r):=by
   intro k ho;obtain⟨cs,v,f,R⟩:=bM ho (n:=12) a2;exact⟨Og v f,Og v R⟩
  have m2:=(P w y).1;have y8:Hid _:=P;have j:=A s w h hi.1;have a7:(eE F its l s).b.length+fT r<=1000000:=Oa
  rw[y4]at m2 j;rw[k2];rw[show iV a.a=338 by rw[a2];rfl];clear h9 hE y7 hC hB hI hw hH y5 K y hv k1 y3 V hi y0 M z T a2 W k0 Z y2 P A y9 k2 k8 h q k3;go_enter func250,ntmps250
  go_wp2_with fail
  refine j.mono ?_;rintro e W2 ⟨rfl,f,g,d⟩;obtain⟨j2,o2⟩:=RK.o W2 d;have m3:=(y8.o W2 o2).2;have h6:=HR.o _ _ (HN.o.fr f d Pt.body) j2 a7;rw[z1]at m3 h6;go_wp2_with fail
  refine h6.mono ?_;rintro e W3 ⟨rfl,R,S,m⟩;go_wp2;go_end0
  obtain⟨f1,f2⟩:=a3.o W2 W3 d g m S;exact⟨rfl,R,f1,f2⟩
 have a4:a.a=13\/a.a=14:=Oa
 have j5:r= .nil:=by
  have:sy=99:=by rcases a4 with h|h<;>rw[h]at k1<;>cases k1<;>rfl
  subst this;exact V.nil_of
 subst j5;obtain⟨q,A⟩:=hE (.r a4);obtain⟨u,pp,y4⟩:=q.g Oy
 have m2:w.cell? ⟨b,0,none⟩=some (aH l):=by
  rcases a4 with a5|a5
  ·obtain⟨cs,v,f⟩:=bM y (n:=13) a5;rw[cell_of_row _ _ _ _ _ _ v];exact f
  ·obtain⟨cs,v,f⟩:=bM y (n:=14) a5;rw[cell_of_row _ _ _ _ _ _ v];exact f
 have j:=A s w h hi.1;rw[y4]at m2 j;rw[k2];rcases a4 with b3|b4
 ·rw[show iV a.a=341 by rw[b3];rfl];clear h9 hE y7 hC hB hI hw hH y5 K y hv k1 y3 V hi y0 M z T a2 W k0 Z y2 A k2 k8 h q b3;go_enter func250,ntmps250
  go_wp2_with fail
  refine j.mono ?_;rintro e W2 ⟨rfl,f,g,d⟩;go_wp2;go_end0
  obtain⟨f1,f2⟩:=a3.o W2 W2 d g (Fr.refl _ _ _) trivial;exact⟨rfl,f,f1,f2⟩
 ·rw[show iV a.a=344 by rw[b4];rfl];clear h9 hE y7 hC hB hI hw hH y5 K y hv k1 y3 V hi y0 M z T a2 W k0 Z y2 A k2 k8 h q b4;go_enter func250,ntmps250
  go_wp2_with fail
  refine j.mono ?_;rintro e W2 ⟨rfl,f,g,d⟩;go_wp2;go_end0
  obtain⟨f1,f2⟩:=a3.o W2 W2 d g (Fr.refl _ _ _) trivial;exact⟨rfl,f,f1,f2⟩
end
section
variable {H O N I U:Nat} {E:Array Value} {F:dB} {its:List Tr}
theorem zF{s:Nat}{t:Tr}(c:s=3\/s=4\/s=5\/s=6\/s=8)(h:Ws s t):fT (aD t)=fT t:=by
 rcases h.lst c with rfl|⟨b,o,a,l,rfl,d,_⟩
 ·rfl
 ·rw[iH,Oh];show fT l=_;simp[fT]
theorem mW{s:Nat}{t:Tr}(c:s=3\/s=4\/s=5\/s=6\/s=8)(h:Ws s t):aJ t<=10000:=by
 rcases h.lst c with rfl|⟨b,o,a,l,rfl,d,_⟩
 ·trivial
 ·exact h.len d
theorem aG3{l:Tr}(h0:Ws 4 l)(W:(ps l).Nodup)(hA:sI (fun e=>Ws 2 e/\GS 250 H O N I U E F its aH e) (aD l)):GS 196 H O N I U E F its aH l:=by
 intro s w h hi T;obtain⟨ao,cp,S⟩:=h0.w0 Ox;have a7:=mW Ox h0;have n:=mO Ox h0;have D:(ps (aD l)).Nodup:=by rw[<-n];exact W
 have C:=h0.elems Ox
 have R:bU w (aD l):=by
  cases l with
  |nil=>trivial
  |node=>exact hi.1
 rw[<-zF Ox h0]at T;have y5:Hid ((ps (aD l)).Nodup):=D;have y4:Hid (Ws 14 (aD l)):=C;have y3:Hid (Ws 4 l):=h0;have y7:Hid (bU w l):=hi;have y6:Hid (yB H O N I U E F its s w):=h;have v:=LpN.start (its:=its) (L:=aD l) h.rs R
 have u:Hid (∀ wr,Fr H (Pt (aD l)) w wr->lZ H O N I U E F (eE F its (aD l) s) wr->bU wr (pI F its (aD l) s)->xD H O N I U E F (Pt l) (pI F its l s) (eE F its l s) w (.returned (.tuple #[])) wr):=by
  intro wr P j ir;refine⟨rfl,by rw[h0.lstrs Ox];exact j,aIT Ox h0 hi P Pt.body ir,P.mono fun t a3 M=>⟨M.1,by rw[n];exact M.2⟩⟩
 rw[S];clear n D C R h0 W hi h;go_enter func196,ntmps196
 go_wp2_with fail
 go_loopg [8] (aJ l) (fun m a4 wr=>∃ (i:Nat) (J:Rs),a4= Qc i/\i<=aJ l/\aJ l<=i+m/\J.b.length+fT (bN i (aD l))<=1000000/\LpN H O N I U E F its (aD l) s w i J wr)
 case atStart=>exact⟨0,s,rfl,Qn _,Oa,T,v⟩
 case round=>
  clear v;obtain⟨i,J,rfl,a6,hm,k,c⟩:=hrel;have q:Hid _:=c
  by_cases y2:i < aJ l
  ·have h9:(i:Int) < (aJ l:Int):=Oa
   obtain⟨b2,o2,a2,d,r2,f,p⟩:=jA i (aD l) (by rw[<-dG];exact y2);have Z:=sI.drop i _ hA;rw[f]at Z k;obtain⟨a5,⟨g,K⟩,_⟩:=Z
   obtain⟨gg,rfl,h6⟩:=pQ Ox y3.o y7.o c.fr Pt.body S f (by
    cases d with
    |nil=>exact absurd g (by unfold Ws eX;omega)
    |node b o a l r=>
     have:=zY g;exact⟨b,o,a,l,r,rfl,Oa,Oa⟩)
   obtain⟨a8,a3,y0⟩:=g.g Ov;have k0:=c.rest;rw[f]at k0;have X:fT (.node b2 o2 a2 d r2)=fT d+fT r2:=by rw[iH,Oh];omega
   rw[X]at k;have y:=K J wr (y6.o.fr c.rs c.fr Pt.body) k0.1 Oa;have y1:=xG (F:=F) (its:=its) d J;have k9:Hid ((eE F its d J).b.length+fT (bN (i+1) (aD l))<=1000000):=by rw[Hid,p];omega
   rw[y0]at h6 y;have z:Hid _:=fun w3=>q.o.step (w3:=w3) Ox y4.o y5.o f p;clear K g f p k0 c X y1 k;go_wp2_with fail
   refine y.mono ?_;rintro e x ⟨rfl,A,Q,x3⟩;obtain⟨m,rfl⟩:=Oj gk
   have fin:∃ (V:Nat) (J:Rs),Qc ((i:Int)+1)= Qc V/\V<=aJ l/\aJ l<=V+m/\J.b.length+fT (bN V (aD l))<=1000000/\LpN H O N I U E F its (aD l) s w V J x:=
    ⟨i+1,_,Od,Oa,Oa,k9.o,z.o x A Q x3⟩
   clear z q A Q x3 k9;go_wp2;go_roundg m
   case rel=>exact fin
   case measure=>omega
  ·have h9: ¬(i:Int) < (aJ l:Int):=Oa
   have Y:i=bG (aD l):=by rw[<-dG];omega
   have fin:xD H O N I U E F (Pt l) (pI F its l s) (eE F its l s) w (.returned (.tuple #[])) wr:=by
    subst Y;obtain⟨e1,d⟩:=c.fin;have j:=c.rs;rw[e1]at j;exact u.o wr c.fr j d
   clear Y c q u;go_wp2;go_end0
   exact fin
def szT:Tr->Nat
 | .nil=>1
 | .node _ _ _ l r=>szT l+szT r+1
def aNP(its:List Tr):Prop:=∀ b o a l r,(BT.node b o a l r)∈its->a.a=17->Ws 6 l/\aJ l<=1000000
theorem aBJ{b o:Nat}{a:Nd}{l r:Tr}(h:dE H (.node b o a l r)):dE H l/\dE H r:=⟨h.1,h.2.1⟩
theorem aFF(Z:aNP its):∀ (n:Nat) (t:Tr),szT t<=n->dE H t->(ps t).Nodup->
 (Ws 0 t->GN 195 H O N I U E F its aH t)/\(Ws 1 t->GN 303 H O N I U E F its aH t)/\(Ws 2 t->GS 250 H O N I U E F its aH t)/\(Ws 4 t->GS 196 H O N I U E F its aH t)/\
 (Ws 13 t->sI (fun e=>Ws 0 e/\GN 195 H O N I U E F its aH e) t)/\(Ws 14 t->sI (fun e=>Ws 2 e/\GS 250 H O N I U E F its aH e) t):=by
 intro n
 induction n with
 |zero=>intro t h;cases t<;>simp[szT]at h
 |succ n ih=>
  intro t cP s g;cases t with
  |nil=>
   refine⟨(by grind[Ws,eX]),(by grind[Ws,eX]),(by grind[Ws,eX]),fun h=>?_,fun _=>trivial,fun _=>trivial⟩;exact aG3 h g trivial
  |node b o a l r=>
   have P:szT l<=n/\szT r<=n:=by grind[szT]
   obtain⟨A,m⟩:=aBJ s;have K:=fU g;have u:=ih l P.1 A K.left;have C:=ih r P.2 m K.right
   have a2:∀ q,q=l\/q=r->Ws 3 q->sI (fun e=>Ws 0 e/\GN 195 H O N I U E F its aH e) (aD q):=by
    intro q Q d;rcases d.lst (by omega)with rfl|⟨X,o2,W,k,rfl,k5,v⟩
    ·trivial
    ·have Y:szT k<=n:=by
      grind[szT]
     have k4:dE H k:=by rcases Q with rfl|rfl;exact A.1;exact m.1
     have k3:(ps k).Nodup:=by rcases Q with rfl|rfl;exact(fU K.left).left;exact(fU K.right).left
     exact(ih k Y k4 k3).2.2.2.2.1 v
   refine⟨fun d=>?_,fun d=>?_,fun d=>?_,fun d=>?_,fun d=>?_,fun d=>?_⟩
   ·obtain⟨V,x,y,h0,k0,f⟩:=d.parts;refine aTE d s g (fun c=>?_) (fun c=>?_) (fun c=>?_)
    ·have:x=0:=by rcases c with h|h|h|h<;>rw[h]at h0<;>cases h0<;>rfl
     grind
    ·have:y=0:=by rw[c]at h0;cases h0;rfl
     grind
    ·have:x=3:=by rw[c]at h0;cases h0;rfl
     subst this;exact aTT c d s g (by grind[mW]) Z Qh
   ·obtain⟨V,x,y,h0,k0,f⟩:=d.parts;refine aTN d g (fun c=>?_) (fun c=>?_)
    ·rw[c]at h0;cases h0;simp[*]
    ·rw[c]at h0;cases h0;simp[*]
   ·obtain⟨V,x,y,h0,k0,f⟩:=d.parts;refine aQV d s g (fun c=>?_) (fun c=>?_) (fun c=>?_) (fun c=>?_) (fun c=>?_) (fun c=>?_)
    ·rw[c]at h0;cases h0
     grind[aUZ]
    ·have:x=0:=by rcases c with h|h|h<;>rw[h]at h0<;>cases h0<;>rfl
     grind
    ·rw[c]at h0;cases h0;simp[*]
    ·have:x=1:=by rcases c with h|h<;>rw[h]at h0<;>cases h0<;>rfl
     grind
    ·rw[c]at h0;cases h0;simp[*]
    ·rw[c]at h0;cases h0;cases r with
     |nil=>grind[Ws,eX]
     |node x y z p q=>
      obtain⟨_,sp,sq,T,M,D⟩:=f.parts
      have S:z.a=18:=by
       grind[mD]
      rw[S]at T;cases T;have R:szT p<=n/\szT q<=n:=by grind[szT]
      have u2:=fU K.right;exact⟨x,y,z,p,q,rfl,S,M,D,(ih p R.1 m.1 u2.left).2.2.2.1 M,(ih q R.2 m.2.1 u2.right).2.2.2.1 D⟩
   ·obtain⟨X,o2,W,k,e,k5,v⟩:=(d.lst Oa).resolve_left Od;simp only[BT.node.injEq]at e;obtain⟨rfl,rfl,rfl,rfl,rfl⟩:=e;exact aG3 d g (u.2.2.2.2.2 v)
   ·obtain⟨w,j,f⟩:=bY Oa d;exact⟨w,⟨j,u.1 j⟩,C.2.2.2.2.1 f⟩
   ·obtain⟨w,j,f⟩:=bY Ox d;exact⟨w,⟨j,u.2.2.1 j⟩,C.2.2.2.2.2 f⟩
end
section
def Rs.param(s:Rs)(x:ByteArray)(p:Int):Rs:=(s.k0 x p 4).v0 x
def cC:Tr->ByteArray
 | .nil=>ByteArray.mk #[]
 | .node _ _ a _ _=>a.h
def lI:Tr->Int
 | .nil=>0
 | .node _ _ a _ _=>a.b
def oU:Tr->Int
 | .nil=>0
 | .node _ _ a _ _=>a.e
def jC(t:Tr)(n:Int):Tr:=match t with
 | .nil=> .nil
 | .node b o a l r=> .node b o {a with c:=n} l r
def kU:Tr->Rs->Rs
 | .nil,s=>s
 | .node _ _ _ e r,s=>kU r (s.param (cC e) (lI e))
def qN:Tr->Rs->Tr
 | .nil,_=> .nil
 | .node b o a e r,s=> .node b o a (jC e s.b.length) (qN r (s.param (cC e) (lI e)))
def Rs.s0(s:Rs)(i:Nat)(p:Int):Rs:=if 4<=i then s.fail 5 p else s
def oK:Tr->Tr
 | .nil=> .nil
 | .node _ _ _ l _=>l
def tP:Tr->Tr
 | .nil=> .nil
 | .node _ _ _ _ r=>r
def vD(F:dB)(its:List Tr):Tr->Nat->Rs->Rs
 | .nil,_,s=>s
 | .node _ _ _ e r,i,s=>vD F its r (i+1) (eE F its (tP e) ((eE F its (oK e) s).s0 i (oU e)))
def aEO(t l r:Tr):Tr:=match t with
 | .nil=> .nil
 | .node b o a _ _=> .node b o a l r
def whT(F:dB)(its:List Tr):Tr->Nat->Rs->Tr
 | .nil,_,_=> .nil
 | .node b o a e r,i,s=> .node b o a (aEO e (pI F its (oK e) s) (pI F its (tP e) ((eE F its (oK e) s).s0 i (oU e)))) (whT F its r (i+1) (eE F its (tP e) ((eE F its (oK e) s).s0 i (oU e))))
def nI(t l:Tr):Tr:=match t with
 | .nil=> .nil
 | .node b o a _ r=> .node b o a l r
def Rs.few(s:Rs)(a:Nd):Rs:=if 8<=a.c then s.fail 5 a.b else s
def Rs.clear(s:Rs):Rs:=⟨[],s.a,s.e⟩
def fnS(F:dB)(its:List Tr)(a:Nd)(l p:Tr)(s:Rs):Rs × Rs:=(kU (aD l) (s.few a).clear,vD F its (aD p) 0 (kU (aD l) (s.few a).clear))
def fnR(F:dB)(its:List Tr):Tr->Rs->Rs
 | .node _ _ a l (.node _ _ _ p q),s=>eE F its q (fnS F its a l p s).2
 |_,s=>s
def fnT(F:dB)(its:List Tr):Tr->Rs->Tr
 | .node b o a l (.node x y z p q),s=>
  .node b o {a with g:=(eE F its q (fnS F its a l p s).2).b.length} (nI l (qN (aD l) (s.few a).clear)) (.node x y z (nI p (whT F its (aD p) 0 (fnS F its a l p s).1)) (pI F its q (fnS F its a l p s).2))
 |t,_=>t
theorem aOT(s:Rs)(x:ByteArray)(p:Int):(s.param x p).b.length<=s.b.length+1:=by
 have:=aE0 (s.k0 x p 4) x;rw[lR]at this;exact this
variable {H O N I U:Nat} {E:Array Value} {F:dB} {its:List Tr}
theorem aKN{cs d:Array Value}:∀ (l:Tr) (o:Nat),Ws 16 l->(∀ j,o*3<=j->d[j]?=cs[j]?)->mI cs o l->mI d o l:=by
 intro l
 induction l with
 |nil=>intro o _ _ _;trivial
 |node b q a e r _ ih=>
  intro o m f g;obtain⟨_,h,h0⟩:=bY Ou m;refine⟨?_,ih (o+1) h0 Qg g.2⟩;cases e with
  |nil=>grind[Ws,eX]
  |node b2 o2 a2 x y=>
   obtain⟨_,p,s,n,_⟩:=h.parts
   have k:a2.a=19:=by
    grind[mD]
   have c:(if a2.a=19 then uB cs (o*3) a2 else _):=g.1;show(if a2.a=19 then uB d (o*3) a2 else _);rw[if_pos k]at c ⊢;exact⟨(f _ Oa).t c.1,(f _ Oa).t c.2.1,(f _ Oa).t c.2.2⟩
theorem aVW(w:World):∀ (l:Tr) (s:Rs),Ws 16 l->bU w (qN l s):=by
 intro l
 induction l with
 |nil=>intro s _;trivial
 |node b o a e r _ ih=>
  intro s g;obtain⟨f,d,k⟩:=bY Ou g;refine⟨?_,Qh,by unfold iR;rw[f];trivial⟩;cases e with
  |nil=>trivial
  |node b2 o2 a2 x y=>
   obtain⟨_,m,n,h0,h,j⟩:=d.parts
   have c:a2.a=19:=by
    grind[mD]
   rw[c]at h0;cases h0;obtain rfl:=h.nil_of;obtain rfl:=j.nil_of;refine⟨trivial,trivial,?_⟩;unfold iR;dsimp only;rw[c];trivial
theorem rF:∀ (l:Tr) (s:Rs),bG (qN l s)=bG l/\cI (qN l s)=cI l/\(qN l s= .nil↔l= .nil)/\ps (qN l s)=ps l:=by
 intro l
 induction l with
 |nil=>intro s;trivial
 |node b o a e r _ ih=>
  intro s;obtain⟨c,_,_,d⟩:=ih (s.param (cC e) (lI e));refine⟨by grind[qN,bG],?_,by simp[qN],?_⟩
  ·cases e<;>rfl
  ·have f:ps (jC e s.b.length)=ps e:=by cases e<;>rfl
   grind[qN,ps]
def PN(L:Tr):TypeId->Int->Prop:=fun Z p=>Z=100/\p∈ps L
theorem PN.inT{L:Tr}(t:TypeId)(p:Int)(h:PN L t p):aIX t:=by rw[h.1];trivial
theorem PN.e{L:Tr}(t:TypeId)(p:Int)(h:PN L t p):dX t:=by rw[h.1];simp[dX]
structure LpP(H O N I U:Nat)(E:Array Value)(F:dB)(g:Nat)(L:Tr)(G:Rs)(B:World)(i:Nat)(J:Rs)(wr:World):Prop where
 rs:lZ H O N I U E F J wr
 fr:Fr H (PN L) B wr
 row:L≠ .nil->∃ cs,wr.1[g]?=some (.cells cs 100 (0,0))/\mI cs i (bN i L)/\(∃ p0:Int,cs[1]?=some (Qc p0)/\p0∈ps L)/\(∀ cs2:Array Value,(∀ j,j < i*3->cs2[j]?=cs[j]?)->mI cs2 i (qN (bN i L) J)->mI cs2 0 (qN L G))
 run:kU (bN i L) J=kU L G
 few:J.b.length<=i
variable {g:Nat} {L:Tr} {G J:Rs} {B wr w2 w3:World} {i:Nat}
theorem aP6{b o:Nat}{a:Nd}{e r:Tr}{cs:Array Value}(h:Ws 16 (.node b o a e r))(f:mI cs 0 (.node b o a e r)):∃ p0:Int,cs[1]?=some (Qc p0)/\p0∈ps (.node b o a e r):=by
 obtain⟨j,h0,l⟩:=bY Ou h;cases e with
 |nil=>grind[Ws,eX]
 |node b2 o2 a2 x y=>
  obtain⟨_,m,n,k,_⟩:=h0.parts
  have d:a2.a=19:=by
   grind[mD]
  have c:(if a2.a=19 then uB cs (0*3) a2 else _):=f.1;rw[if_pos d]at c;exact⟨a2.b,c.2.1,(by grind[po,eV,jI,aFE])⟩
theorem LpP.start(h:lZ H O N I U E F G B)(l:G.b=[])(k:Ws 16 L)(h0:L≠ .nil->∃ c,B.1[g]?=some (.cells c 100 (0,0))/\mI c 0 L):LpP H O N I U E F g L G B 0 G B:=by
 refine⟨h,Fr.refl _ _ _,fun j=>?_,rfl,Qh⟩;obtain⟨c,f,d⟩:=h0 j;cases L with
 |nil=>trivial
 |node b o a e r=>exact⟨c,f,d,aP6 k d,fun _ _ h=>h⟩
theorem LpP.h(h:LpP H O N I U E F g L G B i J wr)(q:H<=g)(s:Ws 16 L){b o:Nat}{a:Nd}{e r:Tr}(d:bN i L= .node b o a e r):pX H (PN L) wr g (i*3) (cC e) (lI e):=by
 have n:L≠ .nil:=by intro t;rw[t]at d;cases i<;>cases d
 obtain⟨f,k,j,⟨p0,l,v⟩,_⟩:=h.row n;have h0:=iB Ou i _ s;rw[d]at j h0;obtain⟨u,m,z⟩:=bY Ou h0;cases e with
 |nil=>grind[Ws,eX]
 |node b2 o2 a2 x y=>
  obtain⟨_,A,C,w,_⟩:=m.parts
  have p:a2.a=19:=by
   grind[mD]
  have c:(if a2.a=19 then uB f (i*3) a2 else _):=j.1;rw[if_pos p]at c;exact⟨⟨f,_,a2.c,p0,k,c.1,c.2.1,c.2.2,l,Qj,by simp[dH,aS]⟩,q⟩
theorem LpP.step(h:LpP H O N I U E F g L G B i J wr)(C:Ws 16 L){b o:Nat}{a:Nd}{e r:Tr}(f:bN i L= .node b o a e r)(j:bN (i+1) L=r)(u:Fr H F0 wr w2)(v:lZ H O N I U E F (J.param (cC e) (lI e)) w3)(Q:Fr H (PN L) w2 w3)(h0:Wr g (i*3+2) (fun _=>J.b.length) w2 w3):LpP H O N I U E F g L G B (i+1) (J.param (cC e) (lI e)) w3:=by
 have A:L≠ .nil:=by intro D;rw[D]at f;cases i<;>cases f
 refine⟨v,(h.fr.t (u.mono F0.to)).t Q,fun _=>?_,?_,?_⟩
 ·obtain⟨m,K,l,⟨p0,W,X⟩,t⟩:=h.row A;have p:=iB Ou i _ C;rw[f]at l p t;obtain⟨R,z,w⟩:=bY Ou p;cases e with
  |nil=>grind[Ws,eX]
  |node b2 o2 a2 x y=>
   obtain⟨_,Y,Z,T,_⟩:=z.parts
   have q:a2.a=19:=by
    grind[mD]
   have d:(if a2.a=19 then uB m (i*3) a2 else _):=l.1;rw[if_pos q]at d;have M:=u.keep0 (by simp[dH,aS]) K;have P:=h0 m _ _ M d.2.2;refine⟨_,P,?_,Qh,fun n k s=>?_⟩
   ·rw[j];exact aKN r (i+1) w Qg l.2
   ·rw[j]at s;refine t n (fun V S=>?_) ⟨?_,s⟩
    ·grind
    ·show(if a2.a=19 then uB n (i*3) {a2 with c:=(J.b.length:Int)}else _);rw[if_pos q];refine⟨?_,?_,?_⟩
     ·rw[k _ Oa,Qq Oa];exact d.1
     ·rw[k _ Oa,Qq Oa];exact d.2.1
     ·rw[k _ Oa,Array.getElem?_setIfInBounds_self_of_lt (Oo d.2.2)]
 ·rw[j,<-h.run,f];rfl
 ·have:=aOT J (cC e) (lI e);have:=h.few;omega
theorem LpP.fin(h:LpP H O N I U E F g L G B (bG L) J wr):J=kU L G/\(L≠ .nil->At wr g 100 fun a=>mI a 0 (qN L G)):=by
 obtain⟨_,_,b,run,_⟩:=h;rw[nP]at run b;refine⟨run,fun h0=>?_⟩;obtain⟨a,c,_,_,d⟩:=b h0;exact⟨a,c,d a Od trivial⟩
theorem pB:∀ (i:Nat) (l:Tr),dE H l->dE H (bN i l):=by
 intro i
 induction i with
 |zero=>intro l h;exact h
 |succ n ih=>
  intro l h;cases l with
  |nil=>trivial
  |node b o a e r=>exact ih r h.2.1
theorem lV{t:Tr}(h:dE H t):dE H (aD t):=by
 cases t with
 |nil=>trivial
 |node=>exact h.1
end
end Go.Proofs.YtikffmloeifkpaaGreatDoor
