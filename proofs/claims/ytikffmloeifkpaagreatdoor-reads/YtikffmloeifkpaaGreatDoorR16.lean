/- Contracts. -/
import Derived.Test.YtikffmloeifkpaaGreatDoorR15
set_option maxHeartbeats 16000000
set_option maxRecDepth 100000
namespace Go.Proofs.YtikffmloeifkpaaGreatDoor
open Go.RowKit Go.Lib Go.Deep Go.ChangeMaps Go.MapKept Tryz
section
variable {H O:Nat}
theorem aTY{N I U:Nat}{it:Value}{B wr:World}{t:Tr}{Y R:Nat}{D M:Value}{X Z:List Value}(l:Ws 8 t)(S:bCH t=it)(T:IsT B t)(h:GaW H O N I U it B (bCF t) (aO (bCF t)) Y R (dB t) D M X Z wr):
 NsW H O N I U (qM it D M 0 (.slice none 0 0)) (dB t) (fC t) rs0 wr/\IsT wr (gaT (bCF t) 0 0):=by
 have v:=l.elems Oa;obtain⟨w,_,_⟩:=h.fin;have K:=bCV (bCF t) 0 0 v;have s:(fC t).length=aO (bCF t):=by unfold fC;rw[aH8,K.lenL]
 refine⟨⟨⟨h.blk,h.prog,h.first,h.b,h.ge.1,h.ge.2.2.2,h.ne⟩,⟨fun hp=>?_,fun e p=>?_,?_⟩,?_⟩,w⟩
 ·rcases l.lst (by omega)with rfl|⟨b0,o0,a0,l0,rfl,ht,hl0⟩
  ·trivial
  ·have G:bCH (.node b0 o0 a0 l0 .nil)= Qe b0 (aO l0) o0:=if_pos ht;have z:=T.2.2;have Q:=(aI z (n:=20) ht).1;have a1:po a0=[]:=by unfold po;rw[ht];rfl
   have A:=dH.fw h.fr PA.e z Qh (fun e=>⟨l.list e Q,(by grind[PA.noName])⟩);obtain⟨_,c,d,L⟩:=aI A (n:=20) ht
   have J:bL l0=151:=by
    cases l0 with
    |nil=>trivial
    |node b2 A a2 e r=>
     obtain⟨_,f,_⟩:=aY Ot hl0;obtain⟨j,m,a,x,y,rfl,b⟩:=iB f;show(if a.a=19 then _ else if a.a=7 then _ else if a.a < 7 then _ else if a.a < 15 then _ else _)=_
     grind
   rw[J]at d;refine⟨b0,o0,c,?_,d,fun i e p=>?_⟩
   ·show some it=_;rw[<-S,G,s];rfl
   ·obtain⟨E,V,C,W,k⟩:=aBO (gaT l0 0 0) i e p;have u:=pZ i 0 _ ((bCV l0 0 0 hl0).rowOk L);rw[k,Nat.zero_add]at u;have g:=eX Ot i _ (kY hl0);rw[k]at g;obtain⟨_,f,_⟩:=aY Ot g;obtain⟨j,m,a,x,y,rfl,b⟩:=iB f;have h1:(if a.a=19 then Nam c (i*3) a else if a.a=7 then _ else c[i]?=some (bCH (.node j m a x y))):=u.1
    grind
 ·obtain⟨i,hi⟩:=aH7 _ _ p;obtain⟨E,V,C,W,k⟩:=aBO _ i e hi;have o:=nQ i _ w;have g:=eX Ot i _ (kY v);rw[k]at g o;obtain⟨_,f,_⟩:=aY Ot g;obtain⟨j,m,a,x,y,rfl,b⟩:=iB f;refine⟨j,m,a,x,y,rfl,?_⟩;rcases b with b|b
  ·obtain⟨c,d,q,_⟩:=aI o.1.2.2 (n:=16) b;exact .l ⟨b,c,d,q⟩
  ·obtain⟨c,d,q,F,_⟩:=aI o.1.2.2 (n:=17) b;exact .r ⟨b,c,d,q,F⟩
 ·rw[s];have:=fB Ot l
  grind[bLA]
 ·intro x i P;have:=aSW (bCF t) 0 [] (fun x a3 h=>by cases h) x i P;omega
def aIB(H O:Nat)(t:Tr)(n:Int)(w:World):Ending->World->Prop:=fun e w'=>e= .returned (.agg #[Qc (fO t n).a,Qc (fO t n).e])/\w.1.size<=w'.1.size/\w'.os=w.os/\w'.tape=w.tape/\w'.output=w.output/\(∀ k,k < H->w'.1[k]?=w.1[k]?)/\
 ((fO t n).a=0->∃ Y R D M,w'.1[O]?=some (.cells (qM (bCH t) D M (qV t) (.slice none 0 0)) 111 (0,0))/\w'.ownsRow H 192 1 D Y (nH 16 (bCF t))/\w'.ownsRow H 106 1 M R (nH 17 (bCF t))/\IsT w' (dY t))
theorem At.off{w w':World}{b k:Nat}{t d:TypeId}{Q:Array Value->Prop}{c:Array Value}(h:At w b t Q)(g:w.1[k]?=some (.cells c d (0,0)))(f:t≠d)(l:∀ i,i < w.1.size->i≠k->w'.1[i]?=w.1[i]?):At w' b t Q:=by
 obtain⟨e,a,j⟩:=h;exact⟨e,(l b (Oo a) (bEF a g f)).t a,j⟩
def aFY(ty:TypeId):Prop:=ty=37\/ty=111
theorem aFT(l:Tr){a:TypeId}(h:aFY a):bL l≠a:=by
 rcases h with rfl|rfl<;>(unfold bL;repeat' split)<;>decide
theorem dH.off{w w':World}{n b k:Nat}{a:Nd}{l r:Tr}{d:TypeId}{c:Array Value}(e:aFY d)(g:w.1[k]?=some (.cells c d (0,0)))(j:∀ i,i < w.1.size->i≠k->w'.1[i]?=w.1[i]?)(h:dH n w b a l r):dH n w' b a l r:=by
 have ne:∀ t:TypeId,(t≠37/\t≠111)->t≠d:=fun t f=>by rcases e with rfl|rfl;exact f.1;exact f.2
 match n,h with
 |0,h|1,h|2,h|3,h|4,h|5,h|6,h|7,h|8,h|9,h|10,h|11,h|12,h|13,h|14,h|16,h|17,h=>exact At.off h g Qh j
 |20,h=>exact⟨h.1,h.2.off g (aFT _ e) j⟩
 |15,_|18,_|19,_=>trivial
 |n+21,_=>trivial
theorem IsT.off{w w':World}{k:Nat}{d:TypeId}{c:Array Value}(e:aFY d)(f:w.1[k]?=some (.cells c d (0,0)))(g:∀ i,i < w.1.size->i≠k->w'.1[i]?=w.1[i]?):∀ {t:Tr},IsT w t->IsT w' t:=by
 intro t
 induction t with
 |nil=>intro _;trivial
 |node b o a l r ihl ihr=>intro h;exact⟨ihl h.1,ihr h.2.1,dH.off e f g h.2.2⟩
theorem kJ{P:TypeId->Int->Prop}{w w':World}{a n c:Nat}{e:TypeId}{v:Value}{d:List Value}(h:w.ownsRow a e c v n d)(g:Fr H P w w')(k:e=192\/e=106)(j:∀ t p,P t p->cU t):w'.ownsRow a e c v n d:=by
 refine cD h (fun l f=>?_);obtain⟨⟨i,b⟩,_⟩:=bEH h f;rw[b];exact g.same b (by grind[bLB]) (by grind[cU])
theorem dX{s:Rs}{c p:Int}(a:c≠0):(s.fail c p).a≠0:=by
 grind[Rs.fail]
theorem aSN{t:Tr}(a:Ws 8 t)(b:(ps t).Nodup):(ps (gaT (bCF t) 0 0)).Nodup:=by
 rw[(bCV _ 0 0 (a.elems Oa)).ps,<-jU Ot a];exact b
theorem aNJ:∀ (L:Tr) (Y R:Nat),eE (gaT L Y R)=eE L:=by
 intro L
 induction L with
 |nil=>intro _ _;rfl
 |node b o a e r _ ih=>
  intro Y R;have c:∀ n:Int,eE (iX e n)=eE e:=fun n=>by cases e<;>rfl
  grind[gaT,eD]
theorem aB5:∀ (L:Tr) (Y R:Nat),aUI H L->aUI H (gaT L Y R):=by
 intro L
 induction L with
 |nil=>intro _ _ _;trivial
 |node b o a e r _ ih=>
  intro Y R h
  have c:∀ n:Int,aUI H (iX e n):=fun n=>by
   cases e with
   |nil=>trivial
   |node b2 o2 a2 l2 r2=>exact h.1
  unfold gaT
  split
  ·exact⟨c _,ih _ _ h.2.1,h.2.2⟩
  ·exact⟨c _,ih _ _ h.2.1,h.2.2⟩
theorem aK3:∀ (i:Nat) (L:Tr),eE (aL i L)<=eE L:=by
 intro i
 induction i with
 |zero=>intro L;exact Ql _
 |succ n ih=>
  intro L;cases L with
  |nil=>exact Ql _
  |node b o a e r=>grind[eE,aL]
theorem aMR{F:cM}{its:List Tr}{w w':World}{t:Tr}{s:Rs}(i:Ws 8 t)(hi:IsT w t)(o:∀ (k:Nat) (cs:Array Value),w.1[k]?=some (.cells cs 151 (0,0))->w'.1[k]?=some (.cells cs 151 (0,0)))(g:IsT w' (hY F its (gaT (bCF t) 0 0) 0 s)):IsT w' (iS t (hY F its (gaT (bCF t) 0 0) 0 s)):=by
 rcases i.lst (by omega)with rfl|⟨b0,o0,a0,l0,rfl,ht,hl0⟩
 ·trivial
 ·obtain⟨f,cs,p,h⟩:=aI hi.2.2 (n:=20) ht
  have d:bL l0=151:=by
   cases l0 with
   |nil=>trivial
   |node b2 o2 a2 e r=>
    obtain⟨_,c,_⟩:=aY Ot hl0;obtain⟨m,u,a,x,y,rfl,q⟩:=iB c;show(if a.a=19 then _ else if a.a=7 then _ else if a.a < 7 then _ else if a.a < 15 then _ else _)=_
    grind
  have b:=bCV l0 0 0 hl0;obtain⟨_,_,_,j,l⟩:=qF (F:=F) (its:=its) (gaT l0 0 0) 0 s (kY hl0);refine⟨g,trivial,?_⟩;unfold Own;rw[ht];refine⟨fun e=>f (b.nil_iff.1 (l.1 e)),cs,?_,aNP _ _ _ _ (kY hl0) (b.rowOk h)⟩;show w'.1[b0]?=some (.cells cs (bL (hY F its (gaT l0 0 0) 0 s)) (0,0));rw[j,b.rowTyp,d];simp[*]
theorem aQ4{w W3:World}{t:Tr}{n c p:Int}{m:Int}{Y R:Nat}{D M:Value}(l:H<=w.1.size)(_:H<=O)(a:Fw H (fun h k=>cU h/\k∈ps t) w W3)(b:W3.1[w.1.size]?=some (Qf #[Qc 0,Qc 0] 37))(g:W3.1[O]?=some (.cells (qM (bCH t) D M m (.slice none 0 0)) 111 (0,0)))(o:c=(fO t n).a/\p=(fO t n).e)(i:W3.ownsRow H 192 1 D Y (nH 16 (bCF t)))(j:W3.ownsRow H 106 1 M R (nH 17 (bCF t)))(e:IsT W3 (dY t))(r:(fO t n).a=0->m=qV t):
 aIB H O t n w (.returned (.agg #[Qc c,Qc p])) ((W3.setCell ⟨w.1.size,0,none⟩ (Qc c)).setCell ⟨w.1.size,1,none⟩ (Qc p)):=by
 have s:=bEF g b Ob;have d:∀ k,k≠w.1.size->((W3.setCell ⟨w.1.size,0,none⟩ (Qc c)).setCell ⟨w.1.size,1,none⟩ (Qc p)).1[k]?=W3.1[k]?:=(by grind[Below.heap_setCell]);refine⟨Qh,?_,a.os,a.tape,a.output,fun k f=>(d k Oa).t (a.below k f),fun q=>⟨Y,R,D,M,?_,?_,?_,?_⟩⟩
 ·grind[World.setCell]
 ·grind
 ·grind[cD,bEH,bEF]
 ·grind[cD,bEH,bEF]
 ·exact IsT.off Oy b Qg e
theorem aFA{t:Tr}(s:Ws 8 t)(hF:aUI H t)(j3:(ps t).Nodup)(k5:eE t<=900000)(j2:H<=O)(n:Int)(w:World)(hH:H<=w.1.size)(hi:IsT w t)(l:w.1[O]?=some (.cells (qM (bCH t) (.slice none 0 0) (.slice none 0 0) 0 (.slice none 0 0)) 111 (0,0))):
 Calls prog 43 #[Qd O,Qc n] w (aIB H O t n w):=by
 have d4:=(Oo l);obtain⟨ao,cp,j1⟩:=s.W Ot;have j5:=fB Ot s;have hL:=s.elems Ot;have e4:∀ w:World,(Instr.makeMap 147 none).run prog w= .ok (.map (some w.1.size)) (w.alloc (.map #[] 0)):=fun w=>run_makeMap _ w;have z1:(w.alloc (Qf #[Qc 0,Qc 0] 37)).1.size=w.1.size+1:=Od
 have W:((w.alloc (Qf #[Qc 0,Qc 0] 37)).alloc (.map #[] 0)).1.size=w.1.size+1+1:=Od
 have Q:(((w.alloc (Qf #[Qc 0,Qc 0] 37)).alloc (.map #[] 0)).alloc (.map #[] 0)).1.size=w.1.size+1+1+1:=Od
 have fr0:Fr H F0 w (((((w.alloc (Qf #[Qc 0,Qc 0] 37)).alloc (.map #[] 0)).alloc (.map #[] 0))).alloc (Qf #[Qd O,.map (some (w.1.size+1)),.map (some (w.1.size+1+1)),Qc 0,Qc 0] 149)):=
  ((((Fr.refl H F0 w).alloc _ hH).alloc _ (by rw[z1];omega)).alloc _ (by rw[W];omega)).alloc _ (by rw[Q];omega)
 have k1:∀ u,u < w.1.size->((((w.alloc (Qf #[Qc 0,Qc 0] 37)).alloc (.map #[] 0)).alloc (.map #[] 0)).alloc (Qf #[Qd O,.map (some (w.1.size+1)),.map (some (w.1.size+1+1)),Qc 0,Qc 0] 149)).1[u]?=w.1[u]?:=fun u hk=>
  (On (by rw[Q];omega)).t ((On (by rw[W];omega)).t ((On (by rw[z1];omega)).t (On hk)))
 have o0:((((w.alloc (Qf #[Qc 0,Qc 0] 37)).alloc (.map #[] 0)).alloc (.map #[] 0)).alloc (Qf #[Qd O,.map (some (w.1.size+1)),.map (some (w.1.size+1+1)),Qc 0,Qc 0] 149)).1[w.1.size]?=some (Qf #[Qc 0,Qc 0] 37):=
  (On (by rw[Q];omega)).t ((On (by rw[W];omega)).t ((On (by rw[z1];omega)).t (Qk w _)))
 have m1:Mp ((((w.alloc (Qf #[Qc 0,Qc 0] 37)).alloc (.map #[] 0)).alloc (.map #[] 0)).alloc (Qf #[Qd O,.map (some (w.1.size+1)),.map (some (w.1.size+1+1)),Qc 0,Qc 0] 149)) (w.1.size+1) 0 []:=by
  have X:=Mp.made (w.alloc (Qf #[Qc 0,Qc 0] 37));rw[z1]at X;exact X.same ((On (by rw[Q];omega)).t (On (by rw[W];omega)))
 have m2:Mp ((((w.alloc (Qf #[Qc 0,Qc 0] 37)).alloc (.map #[] 0)).alloc (.map #[] 0)).alloc (Qf #[Qd O,.map (some (w.1.size+1)),.map (some (w.1.size+1+1)),Qc 0,Qc 0] 149)) (w.1.size+1+1) 0 []:=by
  have X:=Mp.made ((w.alloc (Qf #[Qc 0,Qc 0] 37)).alloc (.map #[] 0));rw[W]at X;exact X.same (On (by rw[Q];omega))
 have r0:((((w.alloc (Qf #[Qc 0,Qc 0] 37)).alloc (.map #[] 0)).alloc (.map #[] 0)).alloc (Qf #[Qd O,.map (some (w.1.size+1)),.map (some (w.1.size+1+1)),Qc 0,Qc 0] 149)).1[w.1.size+1+1+1]?=some (.cells (bD0 O (w.1.size+1) (w.1.size+1+1) ⟨[],0,0⟩) 149 (0,0)):=by
  rw[<-Q];exact Qk _ _
 go_enter func43,ntmps43
 go_wp2_with fail
 generalize ((((w.alloc (Qf #[Qc 0,Qc 0] 37)).alloc (.map #[] 0)).alloc (.map #[] 0)).alloc (Qf #[Qd O,.map (some (w.1.size+1)),.map (some (w.1.size+1+1)),Qc 0,Qc 0] 149))=W0 at*;have i0:=IsT.fr fr0 (fun t p l=>absurd l id) s hi (fun _ _ _ h=>h)
 have G0:GaW H O (w.1.size+1+1+1) (w.1.size+1) (w.1.size+1+1) (bCH t) W0 (bCF t) 0 0 0 [] (.slice none 0 0) (.slice none 0 0) [] [] W0:=
  ⟨r0,(k1 O d4).t l,m1,m2,Oa,⟨Oa,j2,Oa,Oa⟩,Fw.refl _ _ _,by cases t with
    |nil=>trivial
    |node=>exact i0.1,fun _ _ h=>h,World.ownsRow_nil _ _ _ _,World.ownsRow_nil _ _ _ _,rfl,rfl,rfl⟩
 refine(aGC s hF j3 W0 i0 G0).mono ?_;rintro e W1 ⟨rfl,Y,R,D,M,L⟩;obtain⟨N1,b7⟩:=aTY s rfl i0 L;have o1:=L.fr.same o0 (by simp[aK]) (fun p _ l=>absurd (PA.e _ _ l) (by unfold cU;decide));have b8:=L.ownA;have b9:=L.ownF;have m7:=bCV (bCF t) 0 0 hL;have d6:aD t=aO (gaT (bCF t) 0 0):=by rw[m7.lenL];exact bLA t
 have j0:=kY hL;have y5:=aSN s j3;have z4:Hid _:=j0;have y1:Hid _:=y5;have z5:Hid _:=aMY j0;have a6:Hid (aUI H (gaT (bCF t) 0 0)):=aB5 _ _ _ (jI hF);have a7:Hid (eE (gaT (bCF t) 0 0)<=900000):=by rw[Hid,aNJ,tM Ot s];exact k5
 have g2:Hid _:=d6;have y6:(fC t).length=aO (gaT (bCF t) 0 0):=aH8 _;have g6:Hid _:=y6;have L0:=LpI.start N1 b7;have G:W1.cell? ⟨O,0,none⟩=some (bCH t):=Og N1.rs.prog rfl
 have y2:=j1;rw[j1]at G;have c5:Fw H (fun U p=>cU U/\p∈ps (bCF t)) w W1:=(fr0.weak.mono fun _ _ h=>absurd h id).t (L.fr.mono fun t p h=>⟨PA.e t p h,h.2⟩);have y9:Hid _:=c5;have a8:Hid _:=o1;have a9:Hid _:=b8;have b3:Hid _:=b9;have b5:Hid _:=i0;have z7:Hid _:=L.fr;clear fr0 k1 o0 m1 m2 r0 G0 L N1 b7 j0 y5 d6 y6 c5 o1 b8 b9 i0 z1 W Q m7 hi l d4 hF j3 k5 e4;go_wp2_with fail
 go_loopg [20] (aD t) (fun m v wr=>∃ (i:Nat) (J:Rs),v= Qc i/\i<=aD t/\aD t<=i+m/\LpI H O (w.1.size+1+1+1) (w.1.size+1) (w.1.size+1+1) (qM (bCH t) D M 0 (.slice none 0 0)) (dB t) (fC t) (gaT (bCF t) 0 0) rs0 W1 i J wr)
 case atStart=>exact⟨0,rs0,rfl,Qn _,Oa,L0⟩
 case round=>
  clear L0 G;obtain⟨i,J,rfl,c9,hm,y⟩:=hrel;have g5:Hid _:=y
  by_cases e3:i < aD t
  ·have j4:(i:Int) < (aD t:Int):=Oa
   obtain⟨b2,o2,a2,e2,r2,hd,m0⟩:=dK i (gaT (bCF t) 0 0) (by rw[<-g2.o];exact e3);have z9:=eX Ot i _ z4.o;have k9:=lT i _ y1.o;have j6:=lO i _ a6.o;have d7:=aK3 i (gaT (bCF t) 0 0);rw[hd]at z9 k9 j6 d7;obtain⟨_,z8,_⟩:=aY Ot z9;obtain⟨P,d,N,x,V,rfl,z⟩:=iB z8;have h8:=y.rest;rw[hd]at h8;obtain⟨g,c7,e7,j8,m6,m4⟩:=y.ns.it.row (by rw[g6.o,<-g2.o];omega)
   have g0:bCH t= Qe g (fC t).length c7:=by
    have:(qM (bCH t) D M 0 (.slice none 0 0))[0]?=some (bCH t):=rfl;rw[this]at j8;exact Oq j8
   rw[y2]at g0;simp only[Value.slice.injEq]at g0;obtain⟨j9,-,-⟩:=g0;subst j9
   have y7:(fC t)[i]?=some (.node P d N x V):=by
    have:∀ (a3:Tr) (i:Nat) {b o:Nat} {a:Nd} {e r:Tr},aL i a3= .node b o a e r->(toL a3)[i]?=some e:=by
     intro a3
     induction a3 with
     |nil=>intro i b o a e r h;cases i<;>cases h
     |node b1 o1 a1 e1 r1 _ ih=>
      intro i b o a e r h;cases i with
      |zero=>cases h;rfl
      |succ i=>exact ih i h
    exact this _ _ hd
   have y8:wr.cell? ⟨g,i,none⟩=some (bCH (.node P d N x V)):=Og m6 (m4 i _ y7)
   have d8:20000+eE (.node P d N x V)<=1000000:=by
    have:=a7.o;have h0:eE (.node b2 o2 a2 (.node P d N x V) r2)=(if a2.a=9 then 1 else 0)+eE (.node P d N x V)+eE r2:=eD _ _ _ _ _;omega
   have k7:=aG5 z5.o z8 j6.1 (dZ k9).left d8 i Oa J wr y.ns h8.1;have g9:bCH (.node P d N x V)= .iface (bZ N.a) (Qd P):=Oh;rw[g9]at y8 k7;have k8:Hid _:=fun w3=>g5.o.step (w3:=w3) z4.o y1.o hd m0;clear y hd m0 z9 k9 j6 d7 z8 h8 j8 m6 m4 y7 d8 g9;go_wp2_with fail
   refine k7.mono ?_;rintro e W3 ⟨rfl,q,i3,k⟩;obtain⟨m,rfl⟩:=Oj gk
   have fin:∃ (K:Nat) (J:Rs),Qc ((i:Int)+1)= Qc K/\K<=aD t/\aD t<=K+m/\LpI H O (w.1.size+1+1+1) (w.1.size+1) (w.1.size+1+1) (qM (bCH t) D M 0 (.slice none 0 0)) (dB t) (fC t) (gaT (bCF t) 0 0) rs0 W1 K J W3:=
    ⟨i+1,_,Od,Oa,Oa,k8.o W3 q i3 k⟩
   clear k8 g5 q i3 k;go_wp2;go_roundg m
   case rel=>exact fin
   case measure=>omega
  ·have j4: ¬(i:Int) < (aD t:Int):=Oa
   have d9:i=aO (gaT (bCF t) 0 0):=by rw[<-g2.o];omega
   obtain⟨d1,iT⟩:J=aFV t/\IsT wr (hY (dB t) (fC t) (gaT (bCF t) 0 0) 0 rs0):=by
    have:=y;rw[d9]at this;exact this.fin
   have j:=y.ns;have T:=y.fr
   have g8:Fw H (fun U u=>cU U/\u∈ps t) w wr:=by
    have d3:=jU Ot s;refine(y9.o.mono fun U u h=>⟨h.1,by rw[d3];exact h.2⟩).t (T.weak.mono fun U u h=>⟨h.1,?_⟩);have h2:=h.2;rw[(bCV _ 0 0 hL).ps]at h2;rw[d3];exact h2
   have oR:=T.same a8.o (by simp[bLB,aK]) (fun p _ l=>absurd (PI.e _ _ l) (by unfold cU;decide));have hA:=kJ a9.o T Oy PI.e;have m8:=kJ b3.o T Oz PI.e
   have hT:=aMR s b5.o (fun u cs hc=>by
    have c1:=z7.o.same hc (by simp[aK]) (fun p _ l=>absurd (PA.e _ _ l) (by unfold cU;decide));exact T.same c1 (by simp[bLB,aK]) (fun p _ l=>absurd (PI.e _ _ l) (by unfold cU;decide))) iT
   have k4:=j.rs.prog;have k0:Hid _:=fun W3 c p m hx ho e5 hS hA hF hT hm=>aQ4 (H:=H) (O:=O) (w:=w) (W3:=W3) (t:=t) (n:=n) (c:=c) (p:=p) (m:=m) (Y:=Y) (R:=R) (D:=D) (M:=M) hH j2 hx ho e5 hS hA hF hT hm;have m9:Hid _:=g8;have z6:Hid _:=oR;have HA:Hid _:=hA;have g7:Hid _:=m8;have b6:Hid _:=hT;have C:Hid _:=k4;have t1:=yB wr;have t2:=fun a4=>pS a4 wr;have t3:=fun a4=>wU a4 wr;have g1:Hid (J=aFV t):=d1
   have k6:∀ W3 I,RsW H O (w.1.size+1+1+1) (w.1.size+1) (w.1.size+1+1) (qM (bCH t) D M 0 (.slice none 0 0)) (dB t) I W3->Fr H F0 wr W3->fO t n=I->I.a≠0->
    aIB H O t n w (.returned (.agg #[Qc I.a,Qc I.e])) ((W3.setCell ⟨w.1.size,0,none⟩ (Qc I.a)).setCell ⟨w.1.size,1,none⟩ (Qc I.e)):=by
    intro W3 I q k hs hc;refine k0.o W3 _ _ 0 (m9.o.t (k.weak.mono fun _ _ h=>absurd h id)) (k.same z6.o (by simp[bLB,aK]) (fun _ _ h=>h)) q.prog ⟨by rw[hs],by rw[hs]⟩ (kJ HA.o k Oy (fun _ _ h=>absurd h id)) (kJ g7.o k Oz (fun _ _ h=>absurd h id)) ?_ (fun h0=>absurd (by rw[hs]at h0;exact h0) hc);have c8:=uB Ot s (qF (F:=dB t) (its:=fC t) (gaT (bCF t) 0 0) 0 rs0 z4.o).1 ((qF _ _ _ z4.o).2.2.1.t (bCV _ 0 0 hL).lenL);exact IsT.fr k (fun _ _ h=>absurd h id) c8 b6.o (fun _ _ _ h=>h)
   have Z:Hid _:=k6;clear k6 g8 oR hA m8 hT k4 T d9 d1 iT y g5 z4 y1 z5 a6 a7 c9 hm j5 j1 y2 b5 z7 a9 b3 a8 y9;rcases tJ j rF with B|⟨S,o5,f,l5,r5,B,z,y0⟩|⟨S,o5,f,l5,r5,B,z,y0⟩
   ·have A:fO t n=J.fail 4 n:=by unfold fO eK;rw[B,g1.o];rfl
    have h9:Hid _:=A;go_wp2_with fail
    refine(iM (x:=rF) wr j.rs j.it j.fo (by unfold maxLen;decide)).mono ?_;rintro e W2 ⟨rfl,rfl⟩;rw[B];unfold uC;go_wp2_with fail
    refine(bCJ 4 n wr j.rs).mono ?_;rintro e W3 ⟨rfl,q,k⟩;have E:=Z.o W3 _ q k h9.o (dX Ob);have d:=k.same z6.o (by simp[bLB,aK]) (fun _ _ h=>h);have G:W3.cell? ⟨w.1.size,0,none⟩=some (Qc 0):=Og d rfl
    have q1:W3.cell? ⟨w.1.size,1,none⟩=some (Qc 0):=Og d rfl
    have z0:∀ o,W3.frozen? ⟨w.1.size,o,none⟩=false:=fun o=>by simp[World.frozen?,d]
    have g3:W3.cell? ⟨w.1.size+1+1+1,3,none⟩=some (Qc (J.fail 4 n).a):=q.cell 3;have g4:W3.cell? ⟨w.1.size+1+1+1,4,none⟩=some (Qc (J.fail 4 n).e):=q.cell 4;clear A h9 Z k0;go_wp2;obtain⟨x0,x1⟩:=dQ (w:=W3) (u0:= Qc (J.fail 4 n).a) (u1:= Qc (J.fail 4 n).e) G q1;exact bodyPost_ret (v:= .agg #[Qc (J.fail 4 n).a,Qc (J.fail 4 n).e]) (by simp[results,results43,go_sem,x0,x1]) rfl E
   ·have A:fO t n=J.fail 4 n:=by unfold fO eK;rw[B,g1.o];simp[z]
    have hv:bCH (.node S o5 f l5 r5)= .iface 192 (Qd S):=by show(if f.a=20 then _ else _)=_;rw[Oh,z];rfl
    have h9:Hid _:=A;clear y0 z;go_wp2_with fail
    refine(iM (x:=rF) wr j.rs j.it j.fo (by unfold maxLen;decide)).mono ?_;rintro e W2 ⟨rfl,rfl⟩;rw[B];unfold uC;dsimp only;rw[hv];go_wp2_with fail
    refine(bCJ 4 n wr j.rs).mono ?_;rintro e W3 ⟨rfl,q,k⟩;have E:=Z.o W3 _ q k h9.o (dX Ob);have d:=k.same z6.o (by simp[bLB,aK]) (fun _ _ h=>h);have G:W3.cell? ⟨w.1.size,0,none⟩=some (Qc 0):=Og d rfl
    have q1:W3.cell? ⟨w.1.size,1,none⟩=some (Qc 0):=Og d rfl
    have z0:∀ o,W3.frozen? ⟨w.1.size,o,none⟩=false:=fun o=>by simp[World.frozen?,d]
    have g3:W3.cell? ⟨w.1.size+1+1+1,3,none⟩=some (Qc (J.fail 4 n).a):=q.cell 3;have g4:W3.cell? ⟨w.1.size+1+1+1,4,none⟩=some (Qc (J.fail 4 n).e):=q.cell 4;clear A h9 Z k0;go_wp2;obtain⟨x0,x1⟩:=dQ (w:=W3) (u0:= Qc (J.fail 4 n).a) (u1:= Qc (J.fail 4 n).e) G q1;exact bodyPost_ret (v:= .agg #[Qc (J.fail 4 n).a,Qc (J.fail 4 n).e]) (by simp[results,results43,go_sem,x0,x1]) rfl E
   ·have A:fO t n=J:=by unfold fO eK;rw[B,g1.o];simp[z]
    have d5:qV t=f.c:=by unfold qV eK;rw[B];simp[z,lH]
    have hv:bCH (.node S o5 f l5 r5)= .iface 106 (Qd S):=by show(if f.a=20 then _ else _)=_;rw[Oh,z];rfl
    obtain⟨e6,m3,⟨_,_,d2⟩,_⟩:=y0;have m5:wr.cell? ⟨S,2,none⟩=some (Qc f.c):=Og m3 d2
    have p3:wr.cell? ⟨O,3,none⟩=some (Qc 0):=Og C.o rfl
    have pz:wr.frozen? ⟨O,3,none⟩=false:=by simp[World.frozen?,C.o]
    have y4:O≠w.1.size:=bEF C.o z6.o Ob;have y3:w.1.size+1+1+1≠O:=bEF j.rs.blk C.o Ob;have o4:(wr.setCell ⟨O,3,none⟩ (Qc f.c)).1[w.1.size]?=some (Qf #[Qc 0,Qc 0] 37):=(Om y4.symm).t z6.o;have b4:(wr.setCell ⟨O,3,none⟩ (Qc f.c)).1[w.1.size+1+1+1]?=_:=(Om y3).t j.rs.blk;have c4:(wr.setCell ⟨O,3,none⟩ (Qc f.c)).1[O]?=some (.cells (qM (bCH t) D M f.c (.slice none 0 0)) 111 (0,0)):=aM (o:=3) _ C.o
    have E:aIB H O t n w (.returned (.agg #[Qc J.a,Qc J.e])) (((wr.setCell ⟨O,3,none⟩ (Qc f.c)).setCell ⟨w.1.size,0,none⟩ (Qc J.a)).setCell ⟨w.1.size,1,none⟩ (Qc J.e)):=by
     refine k0.o (wr.setCell ⟨O,3,none⟩ (Qc f.c)) _ _ f.c ?_ o4 c4 ⟨by rw[A],by rw[A]⟩ ?_ ?_ ?_ (fun _=>d5.symm)
     ·exact m9.o.set j2 (fun cs U d0 e=>by
       rw[C.o]at e;simp only[Option.some.injEq,Obj.cells.injEq]at e;rw[<-e.2.1]at d0;exact absurd d0 (by unfold aK;decide)) _ _
     ·exact cD HA.o (fun u hk=>Om (by obtain⟨⟨cs,j7⟩,_⟩:=bEH HA.o hk;exact bEF j7 C.o Ob))
     ·exact cD g7.o (fun u hk=>Om (by obtain⟨⟨cs,j7⟩,_⟩:=bEH g7.o hk;exact bEF j7 C.o Ob))
     ·exact IsT.off Oz C.o (fun i _ hi=>Om hi) b6.o
    have HE:Hid _:=E;have c6:Hid _:=o4;have a5:Hid _:=b4;clear A d5 m3 d2 z E o4 b4 c4 Z k0 y4 y3;go_wp2_with fail
    refine(iM (x:=rF) wr j.rs j.it j.fo (by unfold maxLen;decide)).mono ?_;rintro e W2 ⟨rfl,rfl⟩;rw[B];unfold uC;dsimp only;rw[hv];go_upto_region 13 with fail
    generalize wr.setCell ⟨O,3,none⟩ (Qc f.c)=W3 at*;have d:=c6.o;have G:W3.cell? ⟨w.1.size,0,none⟩=some (Qc 0):=Og d rfl
    have q1:W3.cell? ⟨w.1.size,1,none⟩=some (Qc 0):=Og d rfl
    have z0:∀ o,W3.frozen? ⟨w.1.size,o,none⟩=false:=fun o=>by simp[World.frozen?,d]
    have g3:W3.cell? ⟨w.1.size+1+1+1,3,none⟩=some (Qc J.a):=Og a5.o rfl
    have g4:W3.cell? ⟨w.1.size+1+1+1,4,none⟩=some (Qc J.e):=Og a5.o rfl
    have E:=HE.o;clear HE;go_wp2;obtain⟨x0,x1⟩:=dQ (w:=W3) (u0:= Qc J.a) (u1:= Qc J.e) G q1;exact bodyPost_ret (v:= .agg #[Qc J.a,Qc J.e]) (by simp[results,results43,go_sem,x0,x1]) rfl E
end
section
variable {F:cM} {its:List Tr}
def aU2(l:List Tr):List Tr:=l.filter fun e=>bN e==17
def aI9(l:List Tr):List Tr:=l.filter fun e=>bN e==16
theorem jB(e:Tr)(n:Int):bN (iX e n)=bN e:=by cases e<;>rfl
theorem qP{e:Tr}(h:e≠ .nil)(n:Int):lH (iX e n)=n:=by
 cases e with
 |nil=>trivial
 |node=>rfl
theorem uR{e:Tr}(h:Ws 7 e):(bN e=16\/bN e=17)/\e≠ .nil:=by
 obtain⟨b,o,a,l,r,rfl,c⟩:=iB h;exact⟨c,Od⟩
theorem aLB:∀ (L:Tr) (Y R:Nat) (e:Tr),Ws 18 L->e∈toL (gaT L Y R)->bN e=17->∃ j:Nat,(aU2 (toL (gaT L Y R)))[j]?=some e/\lH e=((R+j:Nat):Int):=by
 intro L
 induction L with
 |nil=>intro Y R e _ h;cases h
 |node b o a e0 r _ ih=>
  intro Y R e m h i;obtain⟨_,k,d⟩:=aY Ot m;obtain⟨q,p⟩:=uR k;unfold gaT at h ⊢
  by_cases g:bN e0=16
  ·rw[if_pos g]at h ⊢;have l:bN (iX e0 Y)≠17:=by rw[jB];omega
   rcases List.mem_cons.1 h with rfl|h
   ·omega
   ·obtain⟨j,c,f⟩:=ih (Y+1) R e d h i;refine⟨j,?_,f⟩;show((iX e0 (Y:Int)::toL (gaT r (Y+1) R)).filter _)[j]?=_;rw[List.filter_cons_of_neg (by simpa using l)];exact c
  ·rw[if_neg g]at h ⊢;have n:bN (iX e0 R)=17:=by rw[jB];omega
   rcases List.mem_cons.1 h with rfl|h
   ·refine⟨0,?_,?_⟩
    ·show((iX e0 (R:Int)::toL (gaT r Y (R+1))).filter _)[0]?=_;simp[*]
    grind[qP]
   ·obtain⟨j,c,f⟩:=ih Y (R+1) e d h i;refine⟨j+1,?_,Oa⟩;show((iX e0 (R:Int)::toL (gaT r Y (R+1))).filter _)[j+1]?=_;rw[List.filter_cons_of_pos (by simpa using n)];exact c
theorem aII:∀ (L:Tr) (Y R:Nat) (e:Tr),Ws 18 L->e∈toL (gaT L Y R)->bN e=16->∃ j:Nat,(aI9 (toL (gaT L Y R)))[j]?=some e/\lH e=((Y+j:Nat):Int):=by
 intro L
 induction L with
 |nil=>intro Y R e _ h;cases h
 |node b o a e0 r _ ih=>
  intro Y R e m h i;obtain⟨_,k,g⟩:=aY Ot m;obtain⟨q,p⟩:=uR k;unfold gaT at h ⊢
  by_cases c:bN e0=16
  ·rw[if_pos c]at h ⊢;have n:bN (iX e0 Y)=16:=by rw[jB];omega
   rcases List.mem_cons.1 h with rfl|h
   ·refine⟨0,?_,?_⟩
    ·show((iX e0 (Y:Int)::toL (gaT r (Y+1) R)).filter _)[0]?=_;simp[*]
    grind[qP]
   ·obtain⟨j,d,f⟩:=ih (Y+1) R e g h i;refine⟨j+1,?_,Oa⟩;show((iX e0 (Y:Int)::toL (gaT r (Y+1) R)).filter _)[j+1]?=_;rw[List.filter_cons_of_pos (by simpa using n)];exact d
  ·rw[if_neg c]at h ⊢;have l:bN (iX e0 R)≠16:=by rw[jB];exact c
   rcases List.mem_cons.1 h with rfl|h
   ·omega
   ·obtain⟨j,d,f⟩:=ih Y (R+1) e g h i;refine⟨j,?_,f⟩;show((iX e0 (R:Int)::toL (gaT r Y (R+1))).filter _)[j]?=_;rw[List.filter_cons_of_neg (by simpa using l)];exact d
theorem oJ{s:Rs}{x:ByteArray}{p m:Int}(h:(s.K x p m).a=0):s.K x p m=s/\bCK x s.b=none/\s.b.length < m:=by
 unfold Rs.K at h ⊢
 by_cases b:m<=s.b.length
 ·grind[dX]
 ·rw[if_neg b]at h ⊢
  by_cases a:(bCK x s.b).isSome
  ·grind[dX]
  ·rw[if_neg a];exact⟨rfl,by simpa using a,Oa⟩
theorem oH{s:Rs}{x:ByteArray}{p:Int}(h:(s.oldVar x p).a=0):s.oldVar x p=s/\(bCK x s.b).isSome:=by
 grind[Rs.oldVar,bCK,dX]
theorem rI{s:Rs}{x:ByteArray}{p:Int}(h:(s.P F its x p).a=0):s.P F its x p=s/\∃ e,fY F its x=some e:=by
 grind[Rs.P,fY,dX]
theorem sV{s:Rs}{x:ByteArray}{p:Int}{n:Nat}(h:(s.O F its x p n).a=0):s.O F its x p n=s/\∃ b o a l r,eK F its x=some (.node b o a l r)/\n=aD l:=by
 grind[Rs.O,eK,aD,dX]
theorem yK{a:Nd}{n:Nat}{s:Rs}(h:(rs1 F its a n s).a=0):rs1 F its a n s=s:=by
 grind[rs1,oJ,oH,rI,sV]
theorem jS:∀ (t:Tr) (s:Rs),(rsT F its t s).a=0->s.a=0:=by
 intro t
 induction t with
 |nil=>intro s h;exact h
 |node b o a l r ihl ihr=>
  intro s h
  by_cases d:a.a=9/\a.flag=true
  ·have e:rsT F its (.node b o a l r) s=(rsT F its l (rs1 F its a (aD l) s)).V a.h:=if_pos d;rw[e]at h;have c:=ihl _ h
   rwa [yK c]at c
  grind[jM,yK]
structure nZ(s:Rs):Prop where
 lt:∀ x i,bCK x s.b=some i->0<=i/\i < s.b.length
 few:s.b.length<=12
theorem aE9{s:Rs}{x:ByteArray}(h:nZ s)(d:bCK x s.b=none)(e:s.b.length < 12):nZ (s.V x)/\(s.V x).b.length=s.b.length+1:=by
 have b:(s.V x).b.length=s.b.length+1:=by
  show(put x s.b.length s.b).length=_;rw[nO,d];rfl
 refine⟨⟨fun y i c=>?_,Oa⟩,b⟩;rw[b]
 by_cases a:y=x
 ·subst a;have:bCK y (put y s.b.length s.b)=some i:=c
  grind[lU,Option.some.injEq]
 ·have:bCK y (put x s.b.length s.b)=some i:=c;rw[kX a]at this;have:=h.lt y i this;omega
theorem aBT{p n:Nat}(h:24<=p):sig p n=none:=by
 unfold sig
 iterate 15 rw[Oh]
theorem aHE{p n:Nat}(h:21<=n):sig p n=none:=by
 have a: ¬n<=1:=Oa
 have b: ¬n<=5:=Oa
 have e:∀ k,k < 21->¬n=k:=fun k c=>Oa
 simp[sig,a,b,e 2 Oa,e 3 Oa,e 6 Oa,e 7 Oa,e 8 Oa,e 9 Oa,e 10 Oa,e 11 Oa,e 12 Oa,e 13 Oa,e 14 Oa,e 15 Oa,e 16 Oa,e 17 Oa,e 18 Oa,e 19 Oa,e 20 Oa]
theorem aFQ:∀ p < 24,sig p 9=none\/sig p 9=some (0,99):=Ob
theorem aTR{p x y:Nat}(h:sig p 9=some (x,y)):x=0/\y=99:=by
 grind[aFQ,aBT]
def aE0(s:Nat):Bool:=s==0||s==1||s==3||s==13||s==21||s==20||s==15||s==5||s==99
def aNO(o:Option (Nat × Nat)):Bool:=match o with
 |none=>true
 |some (x,y)=>aE0 x&&aE0 y
theorem aDZ:∀ s < 24,∀ n < 21,aE0 s=true->aNO (sig s n)=true/\(n=9->sig s n=none):=Ob
theorem vZ(s:Nat):aE0 s=true↔(s=0\/s=1\/s=3\/s=13\/s=21\/s=20\/s=15\/s=5\/s=99):=by simp[aE0,or_assoc]
theorem aG0{s n x y:Nat}(h:sig s n=some (x,y))(a:s=0\/s=1\/s=3\/s=13\/s=21\/s=20\/s=15\/s=5\/s=99):n≠9/\(x=0\/x=1\/x=3\/x=13\/x=21\/x=20\/x=15\/x=5\/x=99)/\(y=0\/y=1\/y=3\/y=13\/y=21\/y=20\/y=15\/y=5\/y=99):=by
 grind[aNO,vZ,aDZ,aHE,aBT]
theorem aK2:∀ (t:Tr) (s:Nat),Ws s t->s=0\/s=1\/s=3\/s=13\/s=21\/s=20\/s=15\/s=5\/s=99->eE t=0:=by
 intro t
 induction t with
 |nil=>intro s _ _;rfl
 |node b o a l r ihl ihr=>
  intro s c f;obtain⟨_,x,y,g,d,e⟩:=c.parts
  grind[aG0,eD]
theorem aMM:∀ (t:Tr) (s:Rs),eE t=0->(rsT F its t s).b=s.b:=by
 intro t
 induction t with
 |nil=>intro s _;rfl
 |node b o a l r ihl ihr=>
  grind[eD,jM,aDO]
def Vd(par:Nat->Option Nat)(na Z:Nat):Tr->Prop
 | .nil=>True
 | .node _ _ a l r=>Vd par na Z l/\Vd par na Z r/\(a.a=1\/a.a=9->0<=a.c/\a.c < Z)/\(a.a=2\/a.a=10->0<=a.c/\a.c < na)/\(a.a=3->0<=a.c/\par a.c.toNat=some (aD l))
theorem Vd.mono{par:Nat->Option Nat}{c Z d:Nat}(h:Z<=d):∀ {t:Tr},Vd par c Z t->Vd par c d t:=by
 intro t
 induction t with
 |nil=>intro _;trivial
 |node b o a l r ihl ihr=>intro⟨h1,h2,h3,h4⟩;exact⟨ihl h1,ihr h2,fun e=>Oi (h3 e),h4⟩
theorem Vd.er{par:Nat->Option Nat}{c Z:Nat}:∀ {t:Tr},Vd par c Z (YtikffmloeifkpaaGreatDoor.er t)↔Vd par c Z t:=by
 intro t
 induction t with
 |nil=>rfl
 |node b o a l r ihl ihr=>
  grind[Vd,YtikffmloeifkpaaGreatDoor.er,bQW]
structure aFB(F:cM)(its:List Tr)(par:Nat->Option Nat)(na:Nat):Prop where
 arr:∀ x e,fY F its x=some e->0<=lH e/\lH e < na
 fn:∀ x b o a l r,eK F its x=some (.node b o a l r)->0<=a.c/\par a.c.toNat=some (aD l)
theorem aFG{par:Nat->Option Nat}{D:Nat}(B:aFB F its par D):∀ (t:Tr) (u:Nat) (s:Rs),Ws u t->(rsT F its t s).a=0->nZ s->nZ (rsT F its t s)/\s.b.length<=(rsT F its t s).b.length/\Vd par D (rsT F its t s).b.length (reT F its t s):=by
 intro t
 induction t with
 |nil=>intro u s _ _ h;exact⟨h,Ql _,trivial⟩
 |node b o a l r ihl ihr=>
  intro u s P i q;obtain⟨_,G,I,a2,n,A⟩:=P.parts
  by_cases k:a.a=9/\a.flag=true
  ·have e:rsT F its (.node b o a l r) s=(rsT F its l (rs1 F its a (aD l) s)).V a.h:=if_pos k;have L:reT F its (.node b o a l r) s= .node b o {a with c:=(rsT F its l (rs1 F its a (aD l) s)).b.length} (reT F its l (rs1 F its a (aD l) s)) r:=if_pos k;rw[e]at i;rw[e,L];have g:(rsT F its l (rs1 F its a (aD l) s)).a=0:=i;have j:=jS _ _ g;have C:rs1 F its a (aD l) s=s.K a.h a.b 12:=by grind[rs1]
   obtain⟨S,T,n3⟩:=oJ (by rw[<-C];exact j);rw[C,S]at g ⊢;have Q:G=0/\I=99:=(by grind[aTR]);obtain⟨rfl,rfl⟩:=Q;obtain rfl:=A.nil_of;obtain⟨v,U,w⟩:=ihl 0 s n g q;have y:=aMM (F:=F) (its:=its) l s (aK2 l 0 n Od);have R:(rsT F its l s).b.length=s.b.length:=by rw[y]
   obtain⟨x,E⟩:=aE9 v (by rw[y];exact T) (by rw[R];omega);refine⟨x,Oa,w.mono Oa,trivial,fun _=>?_,Qh,Qh⟩
   grind
  ·rw[jM k]at i ⊢;rw[mL k];have g:=jS _ _ i;have j:=jS _ _ g;have N:=yK j;have f:=j;rw[N]at i g ⊢;obtain⟨v,U,w⟩:=ihl G s n g q;obtain⟨x,E,V⟩:=ihr I _ A i v;refine⟨x,Oa,w.mono E,V,fun d=>?_,fun d=>?_,fun d=>?_⟩
   ·dsimp only at d ⊢;have p:wh1 F its a (aD l) s=(bCK a.h s.b).getD 0:=by grind[wh1]
    have M:(bCK a.h s.b).isSome:=by
     unfold rs1 at f;rcases d with d|d
     ·grind[oH]
     grind[oH]
    obtain⟨a3,hi⟩:=Option.isSome_iff_exists.1 M;have:=q.lt _ _ hi
    grind
   ·dsimp only at d ⊢;have p:wh1 F its a (aD l) s=fL F its a.h a.c:=by grind[wh1]
    unfold rs1 at f;rw[Oh,Oh,if_pos d]at f;obtain⟨_,e,m⟩:=rI f;rw[p];unfold fL;rw[m];exact B.arr _ _ m
   ·dsimp only at d ⊢;have p:wh1 F its a (aD l) s=iY F its a.h (aD l) a.c:=by grind[wh1]
    unfold rs1 at f;rw[Oh,Oh,Oh,if_pos d]at f;obtain⟨_,X,o5,J,l5,r5,m,hn⟩:=sV f;have z:=B.fn _ _ _ _ _ _ m
    have Y:iY F its a.h (aD l) a.c=J.c:=by
     grind[iY]
    have Z:aD (reT F its l s)=aD l:=by
     have:=dJ F its l s;cases l with
     |nil=>rfl
     |node b1 o1 a1 l1 r1=>
      obtain⟨W,l',r',K,z,_⟩:=this.node rfl;rw[K];exact z.lenL
    grind
end
section
abbrev Sl:=List (Int × Int)
def dC:Sl->List Value
 |[]=>[]
 |(k,p)::r=> .int .i64 k:: .int .i64 p:: .bool false::dC r
theorem yI(l:Sl)(k p:Int):dC (l++[(k,p)])=dC l++[Qc k,Qc p,.bool false]:=by
 induction l with
 |nil=>rfl
 |cons x r ih=>grind[dC]
structure aAG(H:Nat)(M:Value)(U:List Tr)(w:World):Prop where
 row:w.ownsRow H 106 1 M U.length (U.map cB)
 own:∀ e∈U,∃ b o a l x y z p q,e= .node b o a l (.node x y z p q)/\FnW w b a l p q/\Ws 5 p/\Ws 4 q
theorem aAG.fr{H:Nat}{M:Value}{U:List Tr}{w w':World}{P:TypeId->Int->Prop}(h:aAG H M U w)(f:Fr H P w w')(d:∀ t p,P t p->bCI t):aAG H M U w':=
 ⟨kJ h.row f Qj (fun t p c=>(d t p c).e),fun e k=>by
   obtain⟨b,o,a,l,x,y,z,p,q,g,i,j⟩:=h.own e k;exact⟨b,o,a,l,x,y,z,p,q,g,i.fr f (fun t p c=>(d t p c).inT),j⟩⟩
structure SiW(H O X:Nat)(it D M:Value)(m:Int)(U:List Tr)(S:Sl)(w:World):Prop where
 blk:w.1[X]?=some (Qf #[Qd O] 156)
 prog:∃ B,w.1[O]?=some (.cells (qM it D M m B) 111 (0,0))/\w.ownsRow H 55 3 B S.length (dC S)
 fns:aAG H M U w
 ge:H<=X/\H<=O
variable {H O X:Nat} {it D M:Value} {m:Int} {U:List Tr} {S C:Sl} {w w':World} {P:TypeId->Int->Prop}
theorem aTZ(h:SiW H O X it D M m U S w):O≠X:=by
 obtain⟨B,a,_⟩:=h.prog;exact bEF a h.blk Ob
theorem SiW.drewN(h:SiW H O X it D M m U S w)(n:Nat):SiW H O X it D M m U S (w.drewN n):=⟨h.blk,h.prog,⟨h.fns.row,h.fns.own⟩,h.ge⟩
theorem SiW.set(h:SiW H O X it D M m U S w){k o:Nat}{cs:Array Value}{t:TypeId}(E:w.1[k]?=some (.cells cs t (0,0)))(I:bCI t)(v:Value):SiW H O X it D M m U S (w.setCell ⟨k,o,none⟩ v):=by
 have off:∀ {j:Nat} {c:Array Value} {g:TypeId},w.1[j]?=some (.cells c g (0,0))->¬bCI g->(w.setCell ⟨k,o,none⟩ v).1[j]?=some (.cells c g (0,0)):=(by grind[Below.heap_setCell,Option.some.injEq,Obj.cells.injEq]);obtain⟨B,G,i⟩:=h.prog;refine⟨off h.blk (by unfold bCI;decide),⟨B,(by grind[bCI]),cD i (fun j f=>?_)⟩,⟨cD h.fns.row (fun j f=>?_),fun e q=>?_⟩,h.ge⟩
 ·obtain⟨⟨c,d⟩,_⟩:=bEH i f
  grind[bCI]
 ·obtain⟨⟨c,d⟩,_⟩:=bEH h.fns.row f
  grind[bCI]
 ·obtain⟨b,s,a,l,y,z,A,u,x,n,⟨c,d,r⟩,p⟩:=h.fns.own e q;exact⟨b,s,a,l,y,z,A,u,x,n,⟨c,off d (by unfold bCI;decide),r⟩,p⟩
theorem infoSI:(prog.info? 55).map (fun i=>(i.zero,i.size,i.bytes))=some (some (.agg #[Qc 0,Qc 0,.bool false]),3,24):=by kernel_rfl
theorem vK(k p:Int)(w:World)(h:SiW H O X it D M m U S w)(hS:S.length<=1000000):
 Calls prog 198 #[Qd X,Qc k,Qc p] w fun e K=>e= .returned (Qc S.length)/\SiW H O X it D M m U (S++[(k,p)]) K/\Fr H F0 w K:=by
 obtain⟨i0,k4,k1,k0,h9⟩:=info_parts infoSI;obtain⟨B,i,f⟩:=h.prog;have s:=(Oo i);have I:=(Oo h.blk);obtain⟨a1,k7⟩:=h.ge;obtain⟨ao,l,rfl,a2⟩:=eQ f;have c0:w.cell? ⟨X,0,none⟩=some (Qd O):=Og h.blk rfl
 have c4:w.cell? ⟨O,4,none⟩=some (.slice ao S.length l):=Og i rfl
 have Y:w.frozen? ⟨O,4,none⟩=false:=by simp[World.frozen?,i]
 have A:some O≠(Value.slice ao S.length l).ownBlock:=fun e=>by
  obtain⟨⟨c2,a⟩,_⟩:=bEH f e.symm;exact bEF i a Ob rfl
 have Q:some X≠(Value.slice ao S.length l).ownBlock:=fun e=>by
  obtain⟨⟨c2,a⟩,_⟩:=bEH f e.symm;exact bEF h.blk a Ob rfl
 have k3:X≠O:=(aTZ h).symm
 have N:Hid (∀ (g J:Nat) (b:World),b.ownsRow H 55 3 (Qe g (S.length+1) J) (S.length+1) (dC S++[Qc k,Qc p,.bool false])->
  ((w.alloc (Qf #[Qc k,Qc p,.bool false] 55)).drew).grownBy b (Value.slice ao S.length l).ownBlock->((Value.slice ao S.length l).ownBlock=some g\/g=w.1.size+1)->
  SiW H O X it D M m U (S++[(k,p)]) (b.setCell ⟨O,4,none⟩ (Qe g (S.length+1) J))/\Fr H F0 w (b.setCell ⟨O,4,none⟩ (Qe g (S.length+1) J))):=by
  intro g J b r d z;have L:(w.alloc (Qf #[Qc k,Qc p,.bool false] 55)).drew.1.size=w.1.size+1:=by show(w.alloc _).1.size=_;simp
  have off:∀ {j:Nat} {c:Array Value} {u:TypeId},w.1[j]?=some (.cells c u (0,0))->u≠55->b.1[j]?=some (.cells c u (0,0)):=fun {j c u} n k2=>by
   have y:=(Oo n);refine(d.block j (by rw[L];omega) (fun e=>?_)).t ((On y).t n);obtain⟨⟨c2,a⟩,_⟩:=bEH f e.symm;exact bEF n a k2 rfl
  have G:=off i Ob
  have k5:g≠O:=by
   rcases z with e|e
   ·intro v;rw[v]at e;obtain⟨⟨c2,a⟩,_⟩:=bEH f e;exact bEF i a Ob rfl
   ·omega
  have Z:Fr H F0 w b:=by
   have f0:Fr H F0 w (w.alloc (Qf #[Qc k,Qc p,.bool false] 55)).drew:=((Fr.refl H F0 w).alloc _ Oa).drew;refine f0.grown d (by rw[L];omega) (fun j n=>?_);obtain⟨⟨c2,a⟩,hb⟩:=bEH f n;refine⟨hb,fun c t q e=>?_⟩;have y:=(Oo a);have v:(w.alloc (Qf #[Qc k,Qc p,.bool false] 55)).drew.1[j]?=w.1[j]?:=On y;rw[v,a]at e;simp only[Option.some.injEq,Obj.cells.injEq]at e;rw[<-e.2.1]at q;exact absurd q (by unfold bLB aK;decide)
  have E:Fr H F0 w (b.setCell ⟨O,4,none⟩ (Qe g (S.length+1) J)):=Z.set k7 (fun c t q e=>by
   rw[G]at e;simp only[Option.some.injEq,Obj.cells.injEq]at e;rw[<-e.2.1]at q;exact absurd q (by unfold bLB aK;decide)) _ _
  refine⟨⟨(Om k3).t (off h.blk Ob),⟨_,aM (o:=4) _ G,?_⟩,h.fns.fr E F0.body,h.ge⟩,E⟩;rw[yI,List.length_append];refine⟨r.1,?_⟩;rcases r.2 with⟨hx,_⟩|⟨g',R,T,x,k6,hh,r'⟩
  ·cases hx
  ·refine .r ⟨g',R,T,x,k6,?_,r'⟩;simp only[Value.slice.injEq,Option.some.injEq,Addr.mk.injEq]at x;obtain⟨⟨rfl,_,_⟩,_,_⟩:=x;exact(Om k5).t hh
 clear i h;go_enter func198,ntmps198
 go_wp2_with fail
 go_region_law
  ((refine step_append_lies _ (by rfl) _ _ _ (by rfl) H 55 i0 _ 3 24 underlying52 k4 k1 k0 h9 rfl Oa (.slice ao S.length l) S.length (dC S) (by rfl) ((f.alloc _).drew)
     ⟨w.1.size,0,none⟩ 1 1 [Qc k,Qc p,.bool false] (by rfl) (by rfl) (World.news_of_block (cs:=#[Qc k,Qc p,.bool false]) (t:=55) (fr:=(0,0)) (Qk w _)) (by simp[Value.oneCell'])
     Oa (by unfold maxLen;omega) Oa (by simp;omega) (w.1.size+1) Od ?_;intro g J b r d z a3;have q1:=(d.cell_far ⟨O,4,none⟩ (kO s) A).t (sS s c4);have q2:=(d.frozen_far ⟨O,4,none⟩ (kO s) A).t (xB s Y);have q3:=(d.cell_far ⟨X,0,none⟩ (kO I) Q).t (sS I c0)))
 all_goals obtain⟨V,W⟩:=N.o g J b r d z
 all_goals go_wp2
 all_goals go_ret
 all_goals exact⟨rfl,V,W⟩
end
section
def mG(U:List Tr)(k:Int):Nat:=match U[k.toNat]? with
 |some (.node _ _ _ _ (.node _ _ _ p _))=>aD p
 |_=>0
def vD(a:Nd):Bool:=decide (a.op=30)||decide (a.op=31)
def bO(U:List Tr)(a:Nd)(S:Sl):Sl:=if a.a=2 then S++[(1,a.b)]else if a.a=10 then S++[(2,a.b)]else if a.a=3 then(if 0 < mG U a.c then S++[(4,a.b)]else S)else S
def dE(a:Nd)(S:Sl):Sl:=if a.a=6 then(if vD a then S++[(3,a.e)]else S)else S
def bNP(U:List Tr)(a:Nd)(S G:Sl):Int:=
 if a.a=2\/a.a=10 then S.length else if a.a=3 then(if 0 < mG U a.c then(S.length:Int)else -1)else if a.a=6 then(if vD a then(G.length:Int)else -1)else a.f
def siR(U:List Tr):Tr->Sl->Sl
 | .nil,S=>S
 | .node _ _ a l r,S=>siR U r (dE a (siR U l (bO U a S)))
def siT(U:List Tr):Tr->Sl->Tr
 | .nil,_=> .nil
 | .node b o a l r,S=> .node b o {a with f:=bNP U a S (siR U l (bO U a S))} (siT U l (bO U a S)) (siT U r (dE a (siR U l (bO U a S))))
theorem gO(U:List Tr):∀ (t:Tr) (S:Sl),Sh t (siT U t S):=by
 intro t
 induction t with
 |nil=>intro S;trivial
 |node b o a l r ihl ihr=>intro S;exact⟨rfl,rfl,rfl,rfl,rfl,rfl,rfl,rfl,fun _=>rfl,fun _=>rfl,ihl _,ihr _⟩
theorem aJ4(U:List Tr)(a:Nd)(S:Sl):(bO U a S).length<=S.length+(if eO a.a then 1 else 0):=by
 unfold bO
 grind[eO]
theorem aJ6(a:Nd)(S:Sl):(dE a S).length<=S.length+(if a.a=6 then 1 else 0):=by
 grind[dE]
theorem kI(b o:Nat)(a:Nd)(l r:Tr):(ps (.node b o a l r)).length=(if a.a=6 then 1 else 0)+(if a.a≠6/\eO a.a then 1 else 0)+(ps l).length+(ps r).length:=by
 grind[ps,eO]
theorem lS(U:List Tr):∀ (t:Tr) (S:Sl),(siR U t S).length<=S.length+(ps t).length:=by
 intro t
 induction t with
 |nil=>intro S;exact Ql _
 |node b o a l r ihl ihr=>
  grind[bO,siR,dE,eO,aJ4,aJ6,kI]
def Cv(n:Nat):Tr->Prop
 | .nil=>True
 | .node _ _ a l r=>Cv n l/\Cv n r/\(a.a=3->0<=a.c/\a.c < n)
variable {H O X:Nat} {it D M:Value} {m:Int} {U:List Tr}
theorem aN1{k o:Nat}{w w':World}{a:Nd}{l r:Tr}{i:Int}(h:Own w k a l r)(c:(a.a=2\/a.a=3\/a.a=6)/\o=4\/a.a=10/\o=5)(n:∀ (cs:Array Value) (t:TypeId),w.1[k]?=some (.cells cs t (0,0))->w'.1[k]?=some (.cells (cs.setIfInBounds o (Qc i)) t (0,0))):Own w' k {a with f:=i} l r:=by
 unfold Own at h ⊢;dsimp only;have ne:∀ {cs:Array Value} {p:Nat} {v:Value} {x:Value},o≠p->cs[p]?=some v->(cs.setIfInBounds o x)[p]?=some v:=Qg;have j:∀ {cs:Array Value} {v x:Value},cs[o]?=some v->(cs.setIfInBounds o x)[o]?=some x:=Qg;have nm:∀ {cs:Array Value} {x:Value},3<=o->Nam cs 0 a->Nam (cs.setIfInBounds o x) 0 {a with f:=i}:=fun z b=>⟨ne Oa b.1,ne Oa b.2.1,ne Oa b.2.2⟩;rcases c with⟨c,rfl⟩|⟨c,rfl⟩
 ·rcases c with c|c|c<;>rw[c]at h ⊢
  ·obtain⟨cs,g,b,d,e⟩:=h;exact⟨_,n _ _ g,nm Oa b,ne Ob d,j e⟩
  ·obtain⟨cs,g,b,d,e⟩:=h;exact⟨_,n _ _ g,nm Oa b,ne Ob d,j e⟩
  ·obtain⟨cs,g,q,s,u,d,e⟩:=h;exact⟨_,n _ _ g,ne Ob q,ne Ob s,ne Ob u,ne Ob d,j e⟩
 ·rw[c]at h ⊢;obtain⟨cs,g,b,d,e,y⟩:=h;exact⟨_,n _ _ g,nm Oa b,ne Ob d,ne Ob e,j y⟩
theorem mZ{S:Sl}{k o:Nat}{w:World}{a:Nd}{l r:Tr}{i:Int}(v:SiW H O X it D M m U S w)(h:Own w k a l r)(y:H<=k)(b:(a.a=2\/a.a=3\/a.a=6)/\o=4\/a.a=10/\o=5):
 SiW H O X it D M m U S (w.setCell ⟨k,o,none⟩ (Qc i))/\Fr H (Po a) w (w.setCell ⟨k,o,none⟩ (Qc i))/\Own (w.setCell ⟨k,o,none⟩ (Qc i)) k {a with f:=i} l r/\(∃ q,w.cell? ⟨k,o,none⟩=some (Qc q))/\w.frozen? ⟨k,o,none⟩=false:=by
 have key:∀ (t:TypeId) (c:Array Value) (u:Int),w.1[k]?=some (.cells c t (0,0))->bCI t->c[1]?=some (Qc u)->u∈po a->(∃ q,c[o]?=some (Qc q))->o≠1->
  SiW H O X it D M m U S (w.setCell ⟨k,o,none⟩ (Qc i))/\Fr H (Po a) w (w.setCell ⟨k,o,none⟩ (Qc i))/\Own (w.setCell ⟨k,o,none⟩ (Qc i)) k {a with f:=i} l r/\(∃ q,w.cell? ⟨k,o,none⟩=some (Qc q))/\w.frozen? ⟨k,o,none⟩=false:=by
  intro t c u d x g G I z;refine⟨v.set d x _,(Fr.refl _ _ _).write d y z g Qj _,aN1 h b (by grind[aM]),?_,by simp[World.frozen?,d]⟩
  grind[cell_of_row]
 have s:a.a≠6->eO a.a=true->a.b∈po a:=(by grind[po]);rcases b with⟨b,rfl⟩|⟨b,rfl⟩
 ·rcases b with b|b|b
  ·obtain⟨c,d,e,j,p⟩:=aI h (n:=2) b;exact key _ c _ d (by simp[bCI]) e.2.1 (s Oa (by rw[b];rfl)) Qh Oa
  ·obtain⟨c,d,e,j,p⟩:=aI h (n:=3) b;exact key _ c _ d (by simp[bCI]) e.2.1 (s Oa (by rw[b];rfl)) Qh Oa
  ·obtain⟨c,d,A,g,B,j,p⟩:=aI h (n:=6) b;exact key _ c _ d (by simp[bCI]) g (by grind[po]) Qh Oa
 ·obtain⟨c,d,e,j,p,E⟩:=aI h (n:=10) b;exact key _ c _ d (by simp[bCI]) e.2.1 (s Oa (by rw[b];rfl)) Qh Oa
def aA7(H O X:Nat)(it D M:Value)(m:Int)(U:List Tr)(P:TypeId->Int->Prop)(t:Tr)(S:Sl)(w:World):Ending->World->Prop:=fun e w'=>e= .returned (.tuple #[])/\SiW H O X it D M m U S w'/\IsT w' t/\Fr H P w w'
def GSi(f H O X:Nat)(it D M:Value)(m:Int)(U:List Tr)(val:Tr->Value)(t:Tr):Prop:=
 ∀ S w,SiW H O X it D M m U S w->IsT w t->S.length+(ps t).length<=1000000->Calls prog f #[Qd X,val t] w (aA7 H O X it D M m U (Pt t) (siT U t S) (siR U t S) w)
theorem xR{H s:Nat}{w w':World}{t C r:Tr}(h:IsT w C)(d:Fr H (Pt r) w w')(c:Ws s t)(b:Sh t C)(a:∀ p∈ps r,p ∉ ps t):IsT w' C:=bOT h d c b a
theorem Cv.mk{n:Nat}{b o:Nat}{a:Nd}{l r:Tr}(h:Cv n (.node b o a l r)):Cv n l/\Cv n r/\(a.a=3->0<=a.c/\a.c < n):=h
theorem kV{a:Nd}{S G:Sl}(h:a.a≠2/\a.a≠3/\a.a≠6/\a.a≠10):bO U a S=S/\dE a G=G/\bNP U a S G=a.f:=by
 grind[bO,dE,bNP]
end
end Go.Proofs.YtikffmloeifkpaaGreatDoor
