/- Contracts. -/
import Derived.Test.YtikffmloeifkpaaGreatDoorR11
set_option maxHeartbeats 16000000
set_option maxRecDepth 100000
namespace Go.Proofs.YtikffmloeifkpaaGreatDoor
open Go.RowKit Go.Lib Go.Deep Go.ChangeMaps Go.MapKept Tryz
section
variable {H O N I U:Nat} {E:Array Value} {F:dB} {its:List Tr}
theorem aEB{t:Tr}(h:Ws 21 t):Ws 0 t:=by
 cases t with
 |nil=>grind[Ws,eX]
 |node b o a l r=>
  obtain⟨d,x,y,f,c,e⟩:=h.parts
  grind[mD,Ws.of]
theorem aXE{t:Tr}(h:Ws 20 t):∃ b o a l r,t= .node b o a l r/\a.a=7/\Ws 21 l/\Ws 21 r:=by
 cases t with
 |nil=>grind[Ws,eX]
 |node b o a l r=>
  obtain⟨d,x,y,f,c,e⟩:=h.parts
  grind[mD]
theorem tF:∀ (t:Tr) (i:Nat) (s:Rs),Sh t (whT F its t i s):=by
 intro t
 induction t with
 |nil=>intro i s;trivial
 |node b o a e r _ ih=>
  intro i s;refine⟨rfl,rfl,rfl,rfl,rfl,rfl,rfl,rfl,Oa,Oa,?_,ih _ _⟩;cases e with
  |nil=>trivial
  |node b2 o2 a2 x y=>exact⟨rfl,rfl,rfl,rfl,rfl,rfl,rfl,rfl,Oa,Oa,eZ _ _ _ _,eZ _ _ _ _⟩
theorem aQM:∀ (t:Tr) (i:Nat) (s:Rs),(vD F its t i s).b.length<=s.b.length+fT t:=by
 intro t
 induction t with
 |nil=>intro i s;exact Ql _
 |node b o a e r _ ih=>
  intro i s;have f:=ih (i+1) (eE F its (tP e) ((eE F its (oK e) s).s0 i (oU e)));have c:=xG (F:=F) (its:=its) (tP e) ((eE F its (oK e) s).s0 i (oU e));have g:=xG (F:=F) (its:=its) (oK e) s
  have d:((eE F its (oK e) s).s0 i (oU e)).b=(eE F its (oK e) s).b:=by
   grind[Rs.s0,Rs.fail_vars]
  rw[d]at c
  have h:fT (oK e)+fT (tP e)<=fT e:=by
   cases e with
   |nil=>trivial
   |node b2 o2 a2 x y=>rw[iH];show fT x+fT y<=_;omega
  grind[vD,iH]
theorem aFK{w:World}{t:Tr}(h:Ws 5 t){P:TypeId->Int->Prop}{w0:World}(hi:bU w0 t)(D:Fr H P w0 w)(A:∀ t p,P t p->cD t){ao:Option Addr}{n x i:Nat}(s:aH t= .slice ao n x){b o:Nat}{a:Nd}{e r:Tr}(d:bN i (aD t)= .node b o a e r)(z:∃ b o a l r,e= .node b o a l r/\a.a=7):
 ∃ g,ao=some ⟨g,0,none⟩/\w.cell? ⟨g,i,none⟩=some (fO e):=by
 rcases h.lst (by omega)with rfl|⟨b0,o0,a0,l0,rfl,ht,_⟩
 ·cases i<;>cases d
 ·have h0:aH (.node b0 o0 a0 l0 .nil)= Qe b0 (bG l0) o0:=if_pos ht;rw[h0]at s;simp only[Value.slice.injEq]at s;refine⟨b0,Qh,?_⟩;have q:=hi.2.2;have y:=(bM q (n:=20) ht).1;have L:po a0=[]:=by unfold po;rw[ht];rfl
  have f:=gM.fr D (fun t p B=>(A t p B).e) q Qh (fun e=>⟨h.list e y,(by grind[cD])⟩);obtain⟨_,j,K,C⟩:=bM f (n:=20) ht;have m:=uL i 0 l0 C;replace d:bN i l0= .node b o a e r:=d;rw[d,Nat.zero_add]at m;obtain⟨k,f,c,u,v,rfl,J⟩:=z;have G:(if c.a=19 then uB j (i*3) c else if c.a=7 then j[i]?=some (fO (.node k f c u v))else j[i]?=some (aH (.node k f c u v))):=m.1
  grind[cell_of_row]
structure LpW(H O N I U:Nat)(E:Array Value)(F:dB)(its:List Tr)(L:Tr)(G:Rs)(B:World)(i:Nat)(J:Rs)(wr:World):Prop where
 rs:lZ H O N I U E F J wr
 fr:Fr H (Pt L) B wr
 rest:bU wr (bN i L)
 wand:∀ w2,Fr H (Pt (bN i L)) wr w2->bU w2 (whT F its (bN i L) i J)->bU w2 (whT F its L 0 G)
 run:vD F its (bN i L) i J=vD F its L 0 G
variable {L:Tr} {G J:Rs} {B wr w2 w3 w4:World} {i:Nat}
theorem LpW.start(h:lZ H O N I U E F G B)(hi:bU B L):LpW H O N I U E F its L G B 0 G B:=⟨h,Fr.refl _ _ _,hi,fun _ _ h=>h,rfl⟩
theorem LpW.step(h:LpW H O N I U E F its L G B i J wr)(S:Ws 15 L)(P:(ps L).Nodup){b o e f:Nat}{a c:Nd}{x y r:Tr}(R:bN i L= .node b o a (.node e f c x y) r)(j:bN (i+1) L=r)(T:bU w2 (pI F its x J))(z:Fr H (Pt x) wr w2)(n:Fr H F0 w2 w3)(C:lZ H O N I U E F (eE F its y ((eE F its x J).s0 i c.e)) w4)(V:bU w4 (pI F its y ((eE F its x J).s0 i c.e)))(q:Fr H (Pt y) w3 w4):
 LpW H O N I U E F its L G B (i+1) (eE F its y ((eE F its x J).s0 i c.e)) w4:=by
 have u:=iB Ov i _ S;have K:=pJ i _ P;have v:=xR i L;obtain⟨_,k0,rest,w,run⟩:=h;rw[R]at u K v rest w run;obtain⟨W,s,D⟩:=bY Ov u;have K:=fU K;have l:=fU (b:=e) (o:=f) K.left;obtain⟨_,_,_,_,_,A,h7,h0,a3⟩:=aXE s;obtain⟨rfl,rfl,rfl,rfl,rfl⟩:=A;have m:Fr H (Pt (.node e f c x y)) wr w4:=((z.mono Pt.left).t (n.mono F0.to)).t (q.mono Pt.right);refine⟨C,k0.t (m.mono fun t p d=>⟨d.1,v p (jI d.2)⟩),?_,fun wf k hi=>?_,?_⟩
 ·rw[j];exact bU.fr m (fun t p d=>(Pt.body t p d).e) D rest.2.1 (Pt.o K.apart)
 ·rw[j]at k hi;refine w wf ((m.mono Pt.left).t (k.mono Pt.right)) ⟨?_,hi,by unfold iR;rw[W];trivial⟩;have a2:=dZ rest.1.2.2 z Pt.body (fun p d Z g=>l.own_l p d g.2) Oa;have o3:=dZ a2 n F0.body (fun p d Z g=>g) Oa;have o4:=dZ o3 q Pt.body (fun p d Z g=>l.own_r p d g.2) Oa;have X:=bU.fr n (fun t p d=>Qj) ((eZ F its x J).ws (aEB h0)) T (fun _ _ _ h=>h);have Y:=uR X q (aEB h0) (eZ _ _ _ _) l.apart_;have Q:bU w4 (BT.node e f c (pI F its x J) (pI F its y ((eE F its x J).s0 i c.e))):=⟨Y,V,kK o4 (eZ _ _ _ _) (eZ _ _ _ _)⟩;have M:Sh (BT.node e f c x y) (BT.node e f c (pI F its x J) (pI F its y ((eE F its x J).s0 i c.e))):=⟨rfl,rfl,rfl,rfl,rfl,rfl,rfl,rfl,fun _=>rfl,fun _=>rfl,eZ _ _ _ _,eZ _ _ _ _⟩;exact uR Q k s M K.apart_
 ·rw[j];exact run
theorem LpW.fin(h:LpW H O N I U E F its L G B (bG L) J wr):J=vD F its L 0 G/\bU wr (whT F its L 0 G):=by
 obtain⟨_,_,_,a,run⟩:=h;rw[nP]at a run;exact⟨run,a wr (Fr.refl _ _ _) trivial⟩
def FnW(w:World)(b:Nat)(a:Nd)(l p q:Tr):Prop:=At w b 105 fun cs=>uB cs 0 a/\cs[3]?=some (aH l)/\cs[4]?=some (aH p)/\cs[5]?=some (aH q)/\cs[6]?=some (Qc a.g)
theorem FnW.fr{P:TypeId->Int->Prop}{b:Nat}{a:Nd}{l p q:Tr}{w w':World}(h:FnW w b a l p q)(e:Fr H P w w')(c:∀ t p,P t p->aIX t):FnW w' b a l p q:=e.at h (by simp[dH,aS]) (fun _ _ p _ d=>(c _ _ d).2.1 rfl)
theorem FnW.cells{b:Nat}{a:Nd}{l p q:Tr}{w:World}(h:FnW w b a l p q):w.cell? ⟨b,2,none⟩=some (Qc a.c)/\w.cell? ⟨b,1,none⟩=some (Qc a.b)/\w.cell? ⟨b,3,none⟩=some (aH l)/\w.cell? ⟨b,4,none⟩=some (aH p)/\w.cell? ⟨b,5,none⟩=some (aH q)/\w.cell? ⟨b,6,none⟩=some (Qc a.g)/\w.frozen? ⟨b,6,none⟩=false:=by
 obtain⟨e,c,d,f,g,j,k⟩:=h;exact⟨Og c d.2.2,Og c d.2.1,by grind[cell_of_row],by grind[cell_of_row],by grind[cell_of_row],by grind[cell_of_row],by simp[World.frozen?,c]⟩
def PI(t:Tr):TypeId->Int->Prop:=fun Z p=>dX Z/\p∈ps t
def aG4(H O N I U:Nat)(E:Array Value)(F:dB)(its:List Tr)(t:Tr)(C:Tr)(s':Rs)(w:World):Ending->World->Prop:=fun e w'=>e= .returned (.tuple #[])/\yB H O N I U E F its s' w'/\bU w' C/\Fr H (PI t) w w'
theorem ItO.set6{b k:Nat}{a:Nd}{l:Tr}{w:World}{cs:Array Value}{t:TypeId}(h:ItO w b a l)(m:w.1[k]?=some (.cells cs t (0,0)))(v:Value):ItO (w.setCell ⟨k,6,none⟩ v) b a l:=by
 have key:∀ (Z:TypeId) (R:Array Value->Prop),(∀ c,R c->R (c.setIfInBounds 6 v))->At w b Z R->At (w.setCell ⟨k,6,none⟩ v) b Z R:=by
  intro Z R j ⟨c,hc,hr⟩
  by_cases e:b=k
  ·subst e;exact⟨_,aI v hc,j c hr⟩
  ·exact⟨c,(Om e).t hc,hr⟩
 have g:∀ c:Array Value,uB c 0 a->uB (c.setIfInBounds 6 v) 0 a:=fun c h=>⟨(Qq Oa).t h.1,(Qq Oa).t h.2.1,(Qq Oa).t h.2.2⟩;rcases h with⟨d,f⟩|⟨d,f⟩
 ·exact .l ⟨d,key _ _ (fun c h=>g c h) f⟩
 ·exact .r ⟨d,key _ _ (fun c h=>⟨g c h.1,(Qq Oa).t h.2⟩) f⟩
theorem aQJ{s:Nat}(d:s=3\/s=4\/s=5\/s=6\/s=8){t L:Tr}(h:Ws s t)(c:Sh (aD t) L):Sh t (nI t L):=by
 rcases h.lst d with rfl|⟨b,o,a,l,rfl,_,_⟩
 ·trivial
 ·exact⟨rfl,rfl,rfl,rfl,rfl,rfl,rfl,rfl,Oa,Oa,c,trivial⟩
theorem aNS{s:Nat}(e:s=3\/s=4\/s=5\/s=6\/s=8){t L:Tr}(h:Ws s t)(d:bG L=bG (aD t)):aH (nI t L)=aH t:=by
 rcases h.lst e with rfl|⟨b,o,a,l,rfl,c,_⟩
 ·rfl
 ·show(if a.a=20 then Qe b (bG L) o else _)=(if a.a=20 then Qe b (bG l) o else _);rw[if_pos c,if_pos c,d];rfl
theorem aS8{t:Tr}{w:World}{S:Rs}(h:Ws 6 t)(h0:aD t≠ .nil->∀ b o a l r,t= .node b o a l r->At w b 100 fun d=>mI d 0 (qN (aD t) S))(j:∀ b o a l r,t= .node b o a l r->l≠ .nil):bU w (nI t (qN (aD t) S)):=by
 rcases h.lst (by omega)with rfl|⟨b,o,a,l,rfl,ht,hl⟩
 ·trivial
 ·have c:=j _ _ _ _ _ rfl;obtain⟨p,f,g,_⟩:=rF l S;refine⟨aVW w l S hl,trivial,?_⟩;unfold iR;rw[ht];refine⟨fun e=>c (g.1 e),?_⟩
  have m:cI l=100:=by
   cases l with
   |nil=>trivial
   |node b2 o2 a2 e r=>
    obtain⟨_,k,_⟩:=bY Ou hl;cases e with
    |nil=>grind[Ws,eX]
    |node b3 o3 a3 x y=>
     obtain⟨_,s,u,q,_⟩:=k.parts
     have n:a3.a=19:=by
      grind[mD]
     exact if_pos n
  show At w b (cI (qN l S)) _;rw[f,m];exact h0 c _ _ _ _ _ rfl
theorem aDL{b o x y:Nat}{a W:Nd}{l p q:Tr}(g2:aNP its)(ht:a.a=17)(hz:W.a=18)(z8:Ws 6 l)(y2:Ws 5 p)(g0:Ws 4 q)(hF:dE H (.node b o a l (.node x y W p q)))(p6:(ps (.node b o a l (.node x y W p q))).Nodup)(j8:20000+fT p+fT q<=1000000)(s:Rs)(w:World)(h:yB H O N I U E F its s w)(hi:bU w (.node b o a l (.node x y W p q))):
 Calls prog 128 #[Qd N,Qd b] w (aG4 H O N I U E F its (.node b o a l (.node x y W p q)) (fnT F its (.node b o a l (.node x y W p q)) s) (fnR F its (.node b o a l (.node x y W p q)) s) w):=by
 have p3:=hF.2.2 (by unfold kJ;omega);have u1:=fU p6;have u2:=fU (b:=x) (o:=y) u1.right;have f6:po a=[a.b]:=by unfold po;rw[ht];rfl
 have l4:∀ k∈ps l,k ∉ ps p:=fun k h1 h2=>u1.apart k h1 (jI h2);have o8:∀ k∈ps l,k ∉ ps q:=fun k h1 h2=>u1.apart k h1 (lQ h2);have z3:=mO Ou z8;have y7:=mO Ov y2;have p7:=z8.elems Ou;have f9:=y2.elems Ov;have m7:(ps (aD p)).Nodup:=by rw[<-y7];exact u2.left
 have b9:FnW w b a l p q:=by
  obtain⟨cs,hc,hn,h3,x',y',z',p',q',e,h4,A,h6⟩:=bM hi.2.2 (n:=17) ht;simp only[BT.node.injEq]at e;obtain⟨rfl,rfl,rfl,rfl,rfl⟩:=e;exact⟨cs,hc,hn,h3,h4,A,h6⟩
 obtain⟨m2,m1,_,_,_,_,_⟩:=b9.cells;obtain⟨ao,cp,z9⟩:=z8.w0 Ou;obtain⟨t5,t7,f7⟩:=y2.w0 Ov;obtain⟨t6,t8,f8⟩:=g0.w0 Ox;have t9:=mW Ou z8;have u3:=mW Ov y2;have p1:GS 196 H O N I U E F its aH q:=(aFF g2 (szT q) q Ol hF.2.1.2.1 u2.right).2.2.2.1 g0;have n8:Hid _:=p1;have o9:∀ t,dE H t->(ps t).Nodup->Ws 0 t->GN 195 H O N I U E F its aH t:=fun t h1 h2 h3=>(aFF g2 (szT t) t Ol h1 h2).1 h3;have e6:Hid _:=o9
 have j7:aD l≠ .nil->∃ g,ao=some ⟨g,0,none⟩/\H<=g/\(∃ cs,w.1[g]?=some (.cells cs 100 (0,0))/\mI cs 0 (aD l))/\∀ b o a l' r,l= .node b o a l' r->b=g:=by
  intro S;rcases z8.lst (.r Ov)with rfl|⟨b0,o0,a0,l0,rfl,ht0,hl0⟩
  ·exact absurd rfl S
  ·have s4:aH (.node b0 o0 a0 l0 .nil)= Qe b0 (bG l0) o0:=if_pos ht0;rw[s4]at z9;simp only[Value.slice.injEq]at z9;obtain⟨s1,cs,hc,hr⟩:=bM hi.1.2.2 (n:=20) ht0
   have s3:cI l0=100:=by
    cases l0 with
    |nil=>exact absurd rfl s1
    |node b2 o2 a2 e r=>
     obtain⟨_,Z,_⟩:=bY Ou hl0;cases e with
     |nil=>exact absurd Z (by unfold Ws eX;simp)
     |node D o3 z x y=>
      obtain⟨_,sx,sy,s2,_⟩:=Z.parts
      have q0:z.a=19:=by
       by_cases h:z.a=19
       ·exact h
       ·exfalso;simp[mD,h]at s2
      exact if_pos q0
   rw[s3]at hc;refine⟨b0,z9.1.symm,hF.1.2.2 (by unfold kJ;omega),⟨cs,hc,hr⟩,fun _ _ _ _ _ e=>?_⟩;simp only[BT.node.injEq]at e;exact e.1.symm
 have m0:∀ b o a l' r,l= .node b o a l' r->l'≠ .nil:=by
  intro b0 o0 a0 l0 r0 e;rcases z8.lst (.r Ov)with h0|⟨b1,o1,a1,l1,e1,ht1,_⟩
  ·rw[h0]at e;cases e
  ·rw[e1]at e;simp only[BT.node.injEq]at e;obtain⟨rfl,rfl,rfl,rfl,rfl⟩:=e;have:=hi.1;rw[e1]at this;exact(bM this.2.2 (n:=20) ht1).1
 have o4:Hid _:=j7
 have e2:Hid (∀ (g:Nat) (f:Rs) (v X W4 c:World),s.few a=f->(aD l≠ .nil->∀ b o a l' r,l= .node b o a l' r->b=g)->
  Fr H F0 w v->Fr H (PN (aD l)) v X->(aD l≠ .nil->At X g 100 fun cs=>mI cs 0 (qN (aD l) f.clear))->Fr H (Pt (aD p)) X W4->bU W4 (whT F its (aD p) 0 (kU (aD l) f.clear))->Fr H (Pt q) W4 c->
  bU c (pI F its q (vD F its (aD p) 0 (kU (aD l) f.clear)))->lZ H O N I U E F (eE F its q (vD F its (aD p) 0 (kU (aD l) f.clear))) c->
  aG4 H O N I U E F its (.node b o a l (.node x y W p q)) (fnT F its (.node b o a l (.node x y W p q)) s) (fnR F its (.node b o a l (.node x y W p q)) s) w (.returned (.tuple #[])) (c.setCell ⟨b,6,none⟩ (Qc (eE F its q (vD F its (aD p) 0 (kU (aD l) f.clear))).b.length))):=by
  intro g f v X W4 c p2 hg x2 x3 d7 x4 i4 m i5 A;have hR:fnR F its (.node b o a l (.node x y W p q)) s=eE F its q (vD F its (aD p) 0 (kU (aD l) f.clear)):=by show eE F its q (vD F its (aD p) 0 (kU (aD l) (s.few a).clear))=_;rw[p2]
  have hT:fnT F its (.node b o a l (.node x y W p q)) s= .node b o {a with g:=(eE F its q (vD F its (aD p) 0 (kU (aD l) f.clear))).b.length} (nI l (qN (aD l) f.clear)) (.node x y W (nI p (whT F its (aD p) 0 (kU (aD l) f.clear))) (pI F its q (vD F its (aD p) 0 (kU (aD l) f.clear)))):=by
   show BT.node b o {a with g:=(eE F its q (vD F its (aD p) 0 (kU (aD l) (s.few a).clear))).b.length} (nI l (qN (aD l) (s.few a).clear)) (.node x y W (nI p (whT F its (aD p) 0 (kU (aD l) (s.few a).clear))) (pI F its q (vD F its (aD p) 0 (kU (aD l) (s.few a).clear))))=_;rw[p2]
  rw[hR,hT];have f3:=b9.fr (x2.mono (F0.to (P:=PN (aD l)))) PN.inT;have f3:=f3.fr x3 PN.inT;have f4:=f3.fr x4 (fun t p h=>(Pt.body t p h).inT);have f5:=f4.fr m (fun t p h=>(Pt.body t p h).inT);obtain⟨cs,hc,hn,c3,c4,c5,c6⟩:=f5
  have n5:yB H O N I U E F its (eE F its q (vD F its (aD p) 0 (kU (aD l) f.clear))) c:=by
   refine⟨A,?_,h.fo⟩;have t2:=h.it.fr x2 (fun _ _ h=>absurd h id);have t3:=t2.fr x3 PN.inT;have t4:=t3.fr x4 (fun t p h=>(Pt.body t p h).inT);exact t4.fr m (fun t p h=>(Pt.body t p h).inT)
  have r6:Fr H (PI (.node b o a l (.node x y W p q))) c (c.setCell ⟨b,6,none⟩ (Qc (eE F its q (vD F its (aD p) 0 (kU (aD l) f.clear))).b.length)):=
   (Fr.refl H _ c).write hc p3 Oa hn.2.1 ⟨by simp[dX],aFE (by rw[f6];simp)⟩ _
  have b8:Fr H (fun a3 k=>a3=105/\k=a.b) c (c.setCell ⟨b,6,none⟩ (Qc (eE F its q (vD F its (aD p) 0 (kU (aD l) f.clear))).b.length)):=
   (Fr.refl H _ c).write hc p3 Oa hn.2.1 ⟨rfl,rfl⟩ _
  have g8:∀ (a3:TypeId) (k:Int),(a3=105/\k=a.b)->dX a3:=fun a3 k h=>by rw[h.1];simp[dX]
  refine⟨rfl,⟨?_,⟨fun hp=>?_,fun t ht=>?_,n5.it.few⟩,n5.fo⟩,⟨?_,⟨?_,?_,?_⟩,?_⟩,?_⟩
  ·exact A.c hc (by simp[dH,aS]) _
  ·obtain⟨g',p9,s7,e1,R,e3⟩:=n5.it.row hp;exact⟨g',p9,s7,e1,b8.same R (by simp[dH,aS]) (fun k _ d=>absurd d.1 Ob),e3⟩
  ·obtain⟨b1,o1,a1,l1,r1,e1,R⟩:=n5.it.own t ht;exact⟨b1,o1,a1,l1,r1,e1,R.set6 hc _⟩
  ·refine aS8 z8 (fun S b0 o0 a0 l0 r0 e0=>?_) m0;rw[hg S _ _ _ _ _ e0];have r3:=d7 S;have r4:=x4.at r3 (by simp[dH,aS]) (fun _ _ k _ d=>absurd (Pt.body _ _ d) (by unfold cD;decide));have r5:=m.at r4 (by simp[dH,aS]) (fun _ _ k _ d=>absurd (Pt.body _ _ d) (by unfold cD;decide));exact b8.at r5 (by simp[dH,aS]) (fun _ _ k _ d=>absurd d.1 Ob)
  ·
    have iP:bU X p:=by
     have k2:=bU.fr x2 (fun t k d=>absurd d id) y2 hi.2.1.1 (fun _ _ _ h=>h);exact bU.fr x3 PN.e y2 k2 (fun k d a3 hq=>l4 k (by rw[z3];exact hq.2) d)
    have q6:=bU.fr m (fun t k d=>(Pt.body t k d).e) ((tF (aD p) 0 _).ws f9) i4 (fun k d=>by rw[(tF (F:=F) (its:=its) (aD p) 0 _).ps]at d;exact Pt.o u2.apart_ k (by rw[y7];exact d))
    have q7:=bU.fr b8 g8 ((tF (aD p) 0 _).ws f9) q6 (fun k d a3 hq=>by
     rw[(tF (F:=F) (its:=its) (aD p) 0 _).ps,<-y7]at d;rw[hq.2]at d;exact u1.own_r a.b (by rw[f6];simp) (jI d))
    have C:Fr H (fun a3 k=>cD a3/\(k∈ps p\/k∈ps q)) X c:=(x4.mono fun t k d=>⟨d.1,.l (by rw[y7];exact d.2)⟩).t (m.mono fun t k d=>⟨d.1,.r d.2⟩);rcases y2.lst (.r Ox)with rfl|⟨b0,o0,a0,l0,rfl,ht0,hl0⟩
    ·trivial
    ·have ho:=iP.2.2;have S:=(bM ho (n:=20) ht0).1;have d9:po a0=[]:=by unfold po;rw[ht0];rfl
     have o5:=gM.fr C (fun t k d=>d.1.e) ho (fun k d=>by rw[d9]at d;cases d) (fun e=>⟨y2.list e S,fun k _ d=>absurd d.1 (by unfold cD;decide)⟩);have o6:=gM.fr b8 g8 o5 (fun k d=>by rw[d9]at d;cases d) (fun e=>⟨y2.list e S,fun k _ d=>absurd d.1 Ob⟩);exact⟨q7,trivial,kK o6 (tF _ _ _) (Sh.refl _)⟩
  ·refine bU.fr b8 g8 ((eZ F its q _).ws g0) i5 (fun k d a3 hq=>?_);rw[(eZ F its q _).ps,hq.2]at d;exact u1.own_r a.b (by rw[f6];simp) (lQ d)
  ·unfold iR;rw[hz];trivial
  ·unfold iR;dsimp only;rw[ht];refine⟨_,aI (o:=6) _ hc,⟨(Qq Oa).t hn.1,(Qq Oa).t hn.2.1,(Qq Oa).t hn.2.2⟩,?_,x,y,W,_,_,rfl,?_,?_,?_⟩
   ·rw[aNS Ou z8 (rF _ _).1,Qq Oa];exact c3
   ·rw[(aQJ Ov y2 (tF _ _ _)).g,Qq Oa];exact c4
   ·rw[(eZ F its q _).g,Qq Oa];exact c5
   ·rw[Array.getElem?_setIfInBounds_self_of_lt (Oo c6)]
  ·have y3:Fr H (PI (.node b o a l (.node x y W p q))) w X:=(x2.mono F0.to).t (x3.mono fun t k d=>⟨PN.e _ _ d,jI (by rw[z3];exact d.2)⟩);have y5:=(y3.t (x4.mono fun t k d=>⟨(Pt.body _ _ d).e,lQ (jI (by rw[y7];exact d.2))⟩)).t (m.mono fun t k d=>⟨(Pt.body _ _ d).e,lQ (lQ d.2)⟩);exact y5.t r6
 have b5:Hid (∀ (a4:Rs) (v X:World),Fr H F0 w v->Fr H (PN (aD l)) v X->lZ H O N I U E F a4 X->yB H O N I U E F its a4 X/\FnW X b a l p q/\bU X p/\bU X q):=by
  intro a4 v X x2 x3 h3;refine⟨⟨h3,(h.it.fr x2 (fun _ _ h=>absurd h id)).fr x3 PN.inT,h.fo⟩,(b9.fr (x2.mono (F0.to (P:=PN (aD l)))) PN.inT).fr x3 PN.inT,?_,?_⟩
  ·have k2:=bU.fr x2 (fun t k d=>absurd d id) y2 hi.2.1.1 (fun _ _ _ h=>h);exact bU.fr x3 PN.e y2 k2 (fun k d a3 hq=>l4 k (by rw[z3];exact hq.2) d)
  ·have k2:=bU.fr x2 (fun t k d=>absurd d id) g0 hi.2.1.2.1 (fun _ _ _ h=>h);exact bU.fr x3 PN.e g0 k2 (fun k d a3 hq=>o8 k (by rw[z3];exact hq.2) d)
 have e9:Hid (∀ (a4:Rs) (X W4:World),yB H O N I U E F its a4 X->FnW X b a l p q->bU X q->∀ S',Fr H (Pt (aD p)) X W4->lZ H O N I U E F S' W4->yB H O N I U E F its S' W4/\FnW W4 b a l p q/\bU W4 q):=by
  intro a4 X W4 n3 f3 i3 S' x4 h4;refine⟨n3.fr h4 x4 Pt.body,f3.fr x4 (fun t p h=>(Pt.body t p h).inT),?_⟩;exact bU.fr x4 (fun t k d=>(Pt.body t k d).e) g0 i3 (fun k d a3 hq=>u2.apart k (by rw[y7];exact hq.2) d)
 have z7:Hid _:=p7;have e8:Hid _:=f9;have o7:Hid (Ws 5 p):=y2;have j0:Hid _:=m7;have n7:Hid _:=hF.2.1.1;have t1:Hid _:=u2.left;have j9:Hid (20000+fT p+fT q<=1000000):=j8
 have n9:Hid (∀ a4,(vD F its (aD p) 0 a4).b.length<=a4.b.length+fT p):=fun a4=>by
  have:=aQM (F:=F) (its:=its) (aD p) 0 a4
  rwa [zF Ov y2]at this
 have n6:Hid (FnW w b a l p q):=b9;have HN:Hid (yB H O N I U E F its s w):=h;have p4:aJ l=bG (aD l):=dG l;have p5:aJ p=bG (aD p):=dG p;have j3:Hid _:=p4;have j2:Hid _:=p5;have j4:=h.rs;clear g2 z8 y2 g0 hF p6 j8 hi u1 u2 f6 l4 o8 z3 y7 p7 f9 m7 b9 p1 o9 j7 m0 h p4 p5 ht hz
 by_cases d:8<=a.c
 ·have e7:Hid (s.few a=s.fail 5 a.b):=if_pos d;generalize hS:s.fail 5 a.b=f at e7;go_enter func128,ntmps128
  go_wp2_with fail
  refine(dR 5 a.b w j4).mono ?_;rintro e B ⟨rfl,h1,x1⟩;rw[hS]at h1;clear hS;obtain⟨v,d0,m9,g4⟩:=h1.b.clear;have h2:lZ H O N I U E F f.clear v:=h1.turned m9 g4;have x2:Fr H F0 w v:=x1.turned h1.vge g4;have c2:B.cell? ⟨N,2,none⟩=some (.map (some U)):=h1.cell 2;obtain⟨_,f2,_,_⟩:=b5.o f.clear v v x2 (Fr.refl _ _ _) h2;obtain⟨_,_,m3,_,_,_,_⟩:=f2.cells;rw[z9]at m3
  have L0:∃ g,(aD l≠ .nil->ao=some ⟨g,0,none⟩/\H<=g/\∀ b o a l' r,l= .node b o a l' r->b=g)/\LpP H O N I U E F g (aD l) f.clear v 0 f.clear v:=by
   by_cases S:aD l= .nil
   ·exact⟨0,fun h=>absurd S h,LpP.start h2 rfl z7.o (fun h=>absurd S h)⟩
   ·obtain⟨g,e1,R,⟨cs,e3,e4⟩,e5⟩:=o4.o S;exact⟨g,fun _=>⟨e1,R,e5⟩,LpP.start h2 rfl z7.o (fun _=>⟨cs,x2.keep0 (by simp[dH,aS]) e3,e4⟩)⟩
  obtain⟨g,hg,L0⟩:=L0;have HG:Hid _:=hg;have b7:Hid (Fr H F0 w v):=x2;clear hg h1 x1 m9 g4 f2 x2 n6;go_wp2_with fail
  go_loopg [29] (aJ l) (fun V b3 wr=>∃ (i:Nat) (J:Rs),b3= Qc i/\i<=aJ l/\aJ l<=i+V/\LpP H O N I U E F g (aD l) f.clear v i J wr)
  case atStart=>exact⟨0,f.clear,rfl,Qn _,Oa,L0⟩
  case round=>
   clear L0 d0 c2 h2 m1 m2 j4 m3;obtain⟨i,J,rfl,r7,hm,M⟩:=hrel;have d4:Hid _:=M;obtain⟨n3,f3,a6,a7⟩:=b5.o J v wr b7.o M.fr M.rs;obtain⟨_,_,m3,m4,m5,_,_⟩:=f3.cells;rw[z9]at m3
   by_cases l8:i < aJ l
   ·have g6:(i:Int) < (aJ l:Int):=Oa
    obtain⟨b2,o2,a2,R,r2,K,z2⟩:=jA i (aD l) (by rw[<-j3.o];exact l8);have S:aD l≠ .nil:=by intro hx;rw[hx]at K;cases i<;>cases K
    obtain⟨l6,l7,_⟩:=HG.o S;have g3:=M.h l7 z7.o K;have q8:=M.few
    have Z:(cC R).size<=maxLen:=by
     have y8:=iB Ou i _ z7.o;rw[K]at y8;obtain⟨_,Z,_⟩:=bY Ou y8;cases R with
     |nil=>exact absurd Z (by unfold Ws eX;simp)
     |node D o3 z x3 y3=>have:=Z.parts.1.h;show z.h.size<=maxLen;unfold maxLen;omega
    have j4:=M.rs;have z5:Hid (FnW wr b a l p q):=f3;have h9:Hid _:=fun w2 w3=>d4.o.step (w2:=w2) (w3:=w3) z7.o K z2;subst l6;clear M f3 n3 a6 a7 K z2 S m4 m5;go_wp2_with fail
    refine(yY wr 4 j4 g3 Z).mono ?_;rintro e c ⟨rfl,A,m⟩;have m8:=g3.fr0 m;have f5:=z5.o.fr (m.mono (F0.to (P:=F0))) (fun _ _ h=>absurd h id);obtain⟨_,_,n2,_,_,_,_⟩:=f5.cells;rw[z9]at n2;have l9:(J.k0 (cC R) (lI R) 4).b.length<=1000000:=by rw[lR];omega
    go_wp2_with fail
    refine(zO c A m8 Z l9).mono ?_;rintro e Q ⟨rfl,h6,Y,b4⟩;rw[lR]at b4;obtain⟨V,rfl⟩:=Oj gk
    have fin:∃ (a5:Nat) (J:Rs),Qc ((i:Int)+1)= Qc a5/\a5<=aJ l/\aJ l<=a5+V/\LpP H O N I U E F g (aD l) f.clear v a5 J Q:=
     ⟨i+1,_,Od,Oa,Oa,h9.o c Q m h6 Y b4⟩
    clear h9 d4 A m h6 Y b4 m8 f5 z5 g3;go_wp2;go_roundg V
    case rel=>exact fin
    case measure=>omega
   ·have g6: ¬(i:Int) < (aJ l:Int):=Oa
    have c7:i=bG (aD l):=by rw[<-j3.o];omega
    have q9:=M.few
    obtain⟨d6,z0⟩:J=kU (aD l) f.clear/\(aD l≠ .nil->At wr g 100 fun cs=>mI cs 0 (qN (aD l) f.clear)):=by
     have:=M;rw[c7]at this;exact this.fin
    have s5:J.b.length<=10000:=Oa
    rw[f7]at m4;have z4:Hid _:=z0;have l2:Hid (Fr H (PN (aD l)) v wr):=M.fr;have d8:=M.rs
    have c9:bU wr (aD p):=by
     cases p with
     |nil=>trivial
     |node=>exact a6.1
    have M0:LpW H O N I U E F its (aD p) J wr 0 J wr:=LpW.start d8 c9;have k6:Hid (J=kU (aD l) f.clear):=d6;have i6:Hid (yB H O N I U E F its J wr):=n3;have h5:Hid (FnW wr b a l p q):=f3;have i9:Hid (bU wr q):=a7;have i8:Hid (bU wr p):=a6;clear z0 d6 M d4 n3 f3 a7 a6 c9 d8 m3 m5 c7
    rename World=>WP
    go_wp2_with fail
    go_loopg [54] (aJ p) (fun V b3 wk=>∃ (j:Nat) (u:Rs),b3= Qc j/\j<=aJ p/\aJ p<=j+V/\LpW H O N I U E F its (aD p) J WP j u wk)
    case atStart=>exact⟨0,J,rfl,Qn _,Oa,M0⟩
    case round=>
     clear M0 m4;obtain⟨j,u,rfl,r8,r9,LW⟩:=hrel;have j1:Hid _:=LW;obtain⟨n4,f4,a8⟩:=e9.o J WP wr i6.o h5.o i9.o u LW.fr LW.rs;obtain⟨_,_,_,m4,m5,m6,z6⟩:=f4.cells;rw[f8]at m5
     by_cases g7:j < aJ p
     ·have g5:(j:Int) < (aJ p:Int):=Oa
      obtain⟨b2,o2,a2,R,r2,K,z2⟩:=jA j (aD p) (by rw[<-j2.o];exact g7);have y8:=iB Ov j _ e8.o;rw[K]at y8;obtain⟨l5,Z,_⟩:=bY Ov y8;obtain⟨D,o3,z,C,T,rfl,h7,y1,k7⟩:=aXE Z;obtain⟨gg,rfl,y0⟩:=aFK o7.o i8.o LW.fr Pt.body f7 K ⟨D,o3,z,C,T,rfl,h7⟩;replace y0:wr.cell? ⟨gg,j,none⟩=some (Qd D):=y0;have k0:=LW.rest;have y4:=pJ j _ j0.o;rw[K]at k0 y4;have ue:=fU (b:=D) (o:=o3) (fU y4).left
      have y6:dE H (BT.node D o3 z C T):=by
       have h0:=pB j (aD p) (lV n7.o);rw[K]at h0;exact h0.1
      obtain⟨s8,pp,n1⟩:=y1.g (.r (.r Oz));obtain⟨s9,s6,d5⟩:=k7.g (.r (.r Oz))
      have a9:∀ w',iR w' D z C T->w'.cell? ⟨D,2,none⟩=some (aH C)/\w'.cell? ⟨D,3,none⟩=some (aH T)/\w'.cell? ⟨D,1,none⟩=some (Qc z.e):=by
       intro w' ho;obtain⟨cs,hc,_,k1,k2,k3⟩:=bM ho (n:=7) h7;exact⟨Og hc k2,Og hc k3,Og hc k1⟩
      have q2:=(a9 wr k0.1.2.2).1;have k4:=e6.o C y6.1 ue.left (aEB y1) u wr n4 k0.1.1;have b6:Hid (GN 195 H O N I U E F its aH T):=e6.o T y6.2.1 ue.right (aEB k7);rw[n1]at q2 k4;have d2:Hid _:=a9;have h9:Hid _:=fun w2 w3 w4=>j1.o.step (w2:=w2) (w3:=w3) (w4:=w4) e8.o j0.o K z2
      have k8:Hid (∀ c,Fr H (Pt C) wr c->iR c D z C T/\bU c T):=fun c m=>by
       have:=kI (H:=H) (b:=D) (o:=o3) (aEB k7) ue k0.1 m Oa;exact⟨this.2,this.1⟩
      have k5:Hid (∀ c Q,Fr H F0 c Q->iR c D z C T->bU c T->iR Q D z C T/\bU Q T):=fun c Q Y k1 k2=>
       ⟨dZ k1 Y F0.body (fun p hp a3 hq=>hq) Oa,bU.fr Y (fun t p hp=>absurd hp id) (aEB k7) k2 (fun _ _ _ h=>h)⟩
      have d3:Hid (yB H O N I U E F its u wr):=n4;clear LW f4 n4 a8 K z2 y8 Z y1 k7 k0 y4 ue y6 a9 m4 m5 m6 z6 h7 l5;go_wp2_with fail
      refine k4.mono ?_;rintro e c ⟨rfl,A,i5,m⟩;obtain⟨o5,j5⟩:=k8.o c m;have q1:=(d2.o c o5).2.2;have q3:=(d2.o c o5).2.1;have n5:=d3.o.fr A m Pt.body;obtain⟨V,rfl⟩:=Oj gk
      by_cases q5:(4:Int)<=(j:Int)
      ·have z1:Hid ((eE F its C u).s0 j z.e=(eE F its C u).fail 5 z.e):=if_pos Oa;go_wp2_with fail
       refine(dR 5 z.e c A).mono ?_;rintro e Q ⟨rfl,h6,Y⟩;rw[<-z1.o]at h6;obtain⟨o6,j6⟩:=k5.o c Q Y o5 j5;have q4:=(d2.o Q o6).2.1;have h8:=b6.o _ Q (n5.fr h6 Y F0.body) j6;rw[d5]at q4 h8;clear q1 q3 o5 j5 o6 j6 n5;go_wp2_with fail
       refine h8.mono ?_;rintro e W7 ⟨rfl,h7,i7,x7⟩
       have fin:∃ (j':Nat) (u:Rs),Qc ((j:Int)+1)= Qc j'/\j'<=aJ p/\aJ p<=j'+V/\LpW H O N I U E F its (aD p) J WP j' u W7:=
        ⟨j+1,_,Od,Oa,Oa,h9.o c Q W7 i5 m Y h7 i7 x7⟩
       clear h9 j1 A m i5 h6 Y h7 i7 x7 k8 k5 d3;go_wp2;go_roundg V
       case rel=>exact fin
       case measure=>omega
      ·have z1:(eE F its C u).s0 j z.e=eE F its C u:=Oh;have d1:=A;rw[<-z1]at d1;have p8:Hid _:=z1;have h8:=b6.o _ c (n5.fr d1 (Fr.refl H F0 c) F0.body) j5;rw[d5]at q3 h8;clear o5 j5 n5 z1 q1;go_wp2_with fail
       refine h8.mono ?_;rintro e W7 ⟨rfl,h7,i7,x7⟩
       have fin:∃ (j':Nat) (u:Rs),Qc ((j:Int)+1)= Qc j'/\j'<=aJ p/\aJ p<=j'+V/\LpW H O N I U E F its (aD p) J WP j' u W7:=
        ⟨j+1,_,Od,Oa,Oa,h9.o c c W7 i5 m (Fr.refl H F0 c) h7 i7 x7⟩
       clear h9 j1 A m i5 h7 i7 x7 k8 k5 d3 d1;go_wp2;go_roundg V
       case rel=>exact fin
       case measure=>omega
     ·have g5: ¬(j:Int) < (aJ p:Int):=Oa
      have c8:j=bG (aD p):=by rw[<-j2.o];omega
      obtain⟨g1,iW⟩:u=vD F its (aD p) 0 J/\bU wr (whT F its (aD p) 0 J):=by
       have:=LW;rw[c8]at this;exact this.fin
      have y9:u.b.length+fT q<=1000000:=by
       have k1:=n9.o J;have k2:=j9.o;rw[g1];omega
      have k4:=n8.o u wr n4 a8 y9;rw[f8]at k4;have l3:Hid (Fr H (Pt (aD p)) WP wr):=LW.fr;have i1:Hid (FnW wr b a l p q):=f4;have i2:Hid (bU wr (whT F its (aD p) 0 J)):=iW;have k9:Hid (u=vD F its (aD p) 0 J):=g1;clear LW j1 n4 f4 a8 y9 c8 iW g1 m4 m6 z6;go_wp2_with fail
      refine k4.mono ?_;rintro e c ⟨rfl,A,i5,m⟩;have f5:=i1.o.fr m (fun t p h=>(Pt.body t p h).inT);obtain⟨_,_,_,_,_,m6,z6⟩:=f5.cells;have c5:c.cell? ⟨N,2,none⟩=some (.map (some U)):=A.cell 2
      have g9:aG4 H O N I U E F its (.node b o a l (.node x y W p q)) (fnT F its (.node b o a l (.node x y W p q)) s) (fnR F its (.node b o a l (.node x y W p q)) s) w (.returned (.tuple #[])) (c.setCell ⟨b,6,none⟩ (Qc (eE F its q u).b.length)):=by
       have e1:=k9.o;have R:=k6.o;rw[R]at e1;have i4:=i2.o;rw[R]at i4;subst e1;exact e2.o g f v WP wr c e7.o (fun S=>(HG.o S).2.2) b7.o l2.o z4.o l3.o i4 m i5 A
      clear f5 e2 b5 e9 i5 m;go_wp2_with (at_len;refine jN rfl _ rfl U _ _ rfl A.b ?_)
      go_end0
      exact g9
 ·obtain⟨f,hS⟩:∃ f,s.few a=f:=⟨_,rfl⟩;have e7:Hid (s.few a=f):=hS;have h1:lZ H O N I U E F f w:=by rw[<-hS,show s.few a=s from if_neg d];exact j4
  have x1:Fr H F0 w w:=Fr.refl _ _ _;clear hS;go_enter func128,ntmps128
  obtain⟨v,d0,m9,g4⟩:=h1.b.clear;have h2:lZ H O N I U E F f.clear v:=h1.turned m9 g4;have x2:Fr H F0 w v:=x1.turned h1.vge g4;have c2:w.cell? ⟨N,2,none⟩=some (.map (some U)):=h1.cell 2;obtain⟨_,f2,_,_⟩:=b5.o f.clear v v x2 (Fr.refl _ _ _) h2;obtain⟨_,_,m3,_,_,_,_⟩:=f2.cells;rw[z9]at m3
  have L0:∃ g,(aD l≠ .nil->ao=some ⟨g,0,none⟩/\H<=g/\∀ b o a l' r,l= .node b o a l' r->b=g)/\LpP H O N I U E F g (aD l) f.clear v 0 f.clear v:=by
   by_cases S:aD l= .nil
   ·exact⟨0,fun h=>absurd S h,LpP.start h2 rfl z7.o (fun h=>absurd S h)⟩
   ·obtain⟨g,e1,R,⟨cs,e3,e4⟩,e5⟩:=o4.o S;exact⟨g,fun _=>⟨e1,R,e5⟩,LpP.start h2 rfl z7.o (fun _=>⟨cs,x2.keep0 (by simp[dH,aS]) e3,e4⟩)⟩
  obtain⟨g,hg,L0⟩:=L0;have HG:Hid _:=hg;have b7:Hid (Fr H F0 w v):=x2;clear hg h1 x1 m9 g4 f2 x2 n6;go_wp2_with fail
  go_loopg [29] (aJ l) (fun V b3 wr=>∃ (i:Nat) (J:Rs),b3= Qc i/\i<=aJ l/\aJ l<=i+V/\LpP H O N I U E F g (aD l) f.clear v i J wr)
  case atStart=>exact⟨0,f.clear,rfl,Qn _,Oa,L0⟩
  case round=>
   clear L0 d0 c2 h2 m1 m2 j4 m3;obtain⟨i,J,rfl,r7,hm,M⟩:=hrel;have d4:Hid _:=M;obtain⟨n3,f3,a6,a7⟩:=b5.o J v wr b7.o M.fr M.rs;obtain⟨_,_,m3,m4,m5,_,_⟩:=f3.cells;rw[z9]at m3
   by_cases l8:i < aJ l
   ·have g6:(i:Int) < (aJ l:Int):=Oa
    obtain⟨b2,o2,a2,R,r2,K,z2⟩:=jA i (aD l) (by rw[<-j3.o];exact l8);have S:aD l≠ .nil:=by intro hx;rw[hx]at K;cases i<;>cases K
    obtain⟨l6,l7,_⟩:=HG.o S;have g3:=M.h l7 z7.o K;have q8:=M.few
    have Z:(cC R).size<=maxLen:=by
     have y8:=iB Ou i _ z7.o;rw[K]at y8;obtain⟨_,Z,_⟩:=bY Ou y8;cases R with
     |nil=>exact absurd Z (by unfold Ws eX;simp)
     |node D o3 z x3 y3=>have:=Z.parts.1.h;show z.h.size<=maxLen;unfold maxLen;omega
    have j4:=M.rs;have z5:Hid (FnW wr b a l p q):=f3;have h9:Hid _:=fun w2 w3=>d4.o.step (w2:=w2) (w3:=w3) z7.o K z2;subst l6;clear M f3 n3 a6 a7 K z2 S m4 m5;go_wp2_with fail
    refine(yY wr 4 j4 g3 Z).mono ?_;rintro e c ⟨rfl,A,m⟩;have m8:=g3.fr0 m;have f5:=z5.o.fr (m.mono (F0.to (P:=F0))) (fun _ _ h=>absurd h id);obtain⟨_,_,n2,_,_,_,_⟩:=f5.cells;rw[z9]at n2;have l9:(J.k0 (cC R) (lI R) 4).b.length<=1000000:=by rw[lR];omega
    go_wp2_with fail
    refine(zO c A m8 Z l9).mono ?_;rintro e Q ⟨rfl,h6,Y,b4⟩;rw[lR]at b4;obtain⟨V,rfl⟩:=Oj gk
    have fin:∃ (a5:Nat) (J:Rs),Qc ((i:Int)+1)= Qc a5/\a5<=aJ l/\aJ l<=a5+V/\LpP H O N I U E F g (aD l) f.clear v a5 J Q:=
     ⟨i+1,_,Od,Oa,Oa,h9.o c Q m h6 Y b4⟩
    clear h9 d4 A m h6 Y b4 m8 f5 z5 g3;go_wp2;go_roundg V
    case rel=>exact fin
    case measure=>omega
   ·have g6: ¬(i:Int) < (aJ l:Int):=Oa
    have c7:i=bG (aD l):=by rw[<-j3.o];omega
    have q9:=M.few
    obtain⟨d6,z0⟩:J=kU (aD l) f.clear/\(aD l≠ .nil->At wr g 100 fun cs=>mI cs 0 (qN (aD l) f.clear)):=by
     have:=M;rw[c7]at this;exact this.fin
    have s5:J.b.length<=10000:=Oa
    rw[f7]at m4;have z4:Hid _:=z0;have l2:Hid (Fr H (PN (aD l)) v wr):=M.fr;have d8:=M.rs
    have c9:bU wr (aD p):=by
     cases p with
     |nil=>trivial
     |node=>exact a6.1
    have M0:LpW H O N I U E F its (aD p) J wr 0 J wr:=LpW.start d8 c9;have k6:Hid (J=kU (aD l) f.clear):=d6;have i6:Hid (yB H O N I U E F its J wr):=n3;have h5:Hid (FnW wr b a l p q):=f3;have i9:Hid (bU wr q):=a7;have i8:Hid (bU wr p):=a6;clear z0 d6 M d4 n3 f3 a7 a6 c9 d8 m3 m5 c7
    rename World=>WP
    go_wp2_with fail
    go_loopg [54] (aJ p) (fun V b3 wk=>∃ (j:Nat) (u:Rs),b3= Qc j/\j<=aJ p/\aJ p<=j+V/\LpW H O N I U E F its (aD p) J WP j u wk)
    case atStart=>exact⟨0,J,rfl,Qn _,Oa,M0⟩
    case round=>
     clear M0 m4;obtain⟨j,u,rfl,r8,r9,LW⟩:=hrel;have j1:Hid _:=LW;obtain⟨n4,f4,a8⟩:=e9.o J WP wr i6.o h5.o i9.o u LW.fr LW.rs;obtain⟨_,_,_,m4,m5,m6,z6⟩:=f4.cells;rw[f8]at m5
     by_cases g7:j < aJ p
     ·have g5:(j:Int) < (aJ p:Int):=Oa
      obtain⟨b2,o2,a2,R,r2,K,z2⟩:=jA j (aD p) (by rw[<-j2.o];exact g7);have y8:=iB Ov j _ e8.o;rw[K]at y8;obtain⟨l5,Z,_⟩:=bY Ov y8;obtain⟨D,o3,z,C,T,rfl,h7,y1,k7⟩:=aXE Z;obtain⟨gg,rfl,y0⟩:=aFK o7.o i8.o LW.fr Pt.body f7 K ⟨D,o3,z,C,T,rfl,h7⟩;replace y0:wr.cell? ⟨gg,j,none⟩=some (Qd D):=y0;have k0:=LW.rest;have y4:=pJ j _ j0.o;rw[K]at k0 y4;have ue:=fU (b:=D) (o:=o3) (fU y4).left
      have y6:dE H (BT.node D o3 z C T):=by
       have h0:=pB j (aD p) (lV n7.o);rw[K]at h0;exact h0.1
      obtain⟨s8,pp,n1⟩:=y1.g (.r (.r Oz));obtain⟨s9,s6,d5⟩:=k7.g (.r (.r Oz))
      have a9:∀ w',iR w' D z C T->w'.cell? ⟨D,2,none⟩=some (aH C)/\w'.cell? ⟨D,3,none⟩=some (aH T)/\w'.cell? ⟨D,1,none⟩=some (Qc z.e):=by
       intro w' ho;obtain⟨cs,hc,_,k1,k2,k3⟩:=bM ho (n:=7) h7;exact⟨Og hc k2,Og hc k3,Og hc k1⟩
      have q2:=(a9 wr k0.1.2.2).1;have k4:=e6.o C y6.1 ue.left (aEB y1) u wr n4 k0.1.1;have b6:Hid (GN 195 H O N I U E F its aH T):=e6.o T y6.2.1 ue.right (aEB k7);rw[n1]at q2 k4;have d2:Hid _:=a9;have h9:Hid _:=fun w2 w3 w4=>j1.o.step (w2:=w2) (w3:=w3) (w4:=w4) e8.o j0.o K z2
      have k8:Hid (∀ c,Fr H (Pt C) wr c->iR c D z C T/\bU c T):=fun c m=>by
       have:=kI (H:=H) (b:=D) (o:=o3) (aEB k7) ue k0.1 m Oa;exact⟨this.2,this.1⟩
      have k5:Hid (∀ c Q,Fr H F0 c Q->iR c D z C T->bU c T->iR Q D z C T/\bU Q T):=fun c Q Y k1 k2=>
       ⟨dZ k1 Y F0.body (fun p hp a3 hq=>hq) Oa,bU.fr Y (fun t p hp=>absurd hp id) (aEB k7) k2 (fun _ _ _ h=>h)⟩
      have d3:Hid (yB H O N I U E F its u wr):=n4;clear LW f4 n4 a8 K z2 y8 Z y1 k7 k0 y4 ue y6 a9 m4 m5 m6 z6 h7 l5;go_wp2_with fail
      refine k4.mono ?_;rintro e c ⟨rfl,A,i5,m⟩;obtain⟨o5,j5⟩:=k8.o c m;have q1:=(d2.o c o5).2.2;have q3:=(d2.o c o5).2.1;have n5:=d3.o.fr A m Pt.body;obtain⟨V,rfl⟩:=Oj gk
      by_cases q5:(4:Int)<=(j:Int)
      ·have z1:Hid ((eE F its C u).s0 j z.e=(eE F its C u).fail 5 z.e):=if_pos Oa;go_wp2_with fail
       refine(dR 5 z.e c A).mono ?_;rintro e Q ⟨rfl,h6,Y⟩;rw[<-z1.o]at h6;obtain⟨o6,j6⟩:=k5.o c Q Y o5 j5;have q4:=(d2.o Q o6).2.1;have h8:=b6.o _ Q (n5.fr h6 Y F0.body) j6;rw[d5]at q4 h8;clear q1 q3 o5 j5 o6 j6 n5;go_wp2_with fail
       refine h8.mono ?_;rintro e W7 ⟨rfl,h7,i7,x7⟩
       have fin:∃ (j':Nat) (u:Rs),Qc ((j:Int)+1)= Qc j'/\j'<=aJ p/\aJ p<=j'+V/\LpW H O N I U E F its (aD p) J WP j' u W7:=
        ⟨j+1,_,Od,Oa,Oa,h9.o c Q W7 i5 m Y h7 i7 x7⟩
       clear h9 j1 A m i5 h6 Y h7 i7 x7 k8 k5 d3;go_wp2;go_roundg V
       case rel=>exact fin
       case measure=>omega
      ·have z1:(eE F its C u).s0 j z.e=eE F its C u:=Oh;have d1:=A;rw[<-z1]at d1;have p8:Hid _:=z1;have h8:=b6.o _ c (n5.fr d1 (Fr.refl H F0 c) F0.body) j5;rw[d5]at q3 h8;clear o5 j5 n5 z1 q1;go_wp2_with fail
       refine h8.mono ?_;rintro e W7 ⟨rfl,h7,i7,x7⟩
       have fin:∃ (j':Nat) (u:Rs),Qc ((j:Int)+1)= Qc j'/\j'<=aJ p/\aJ p<=j'+V/\LpW H O N I U E F its (aD p) J WP j' u W7:=
        ⟨j+1,_,Od,Oa,Oa,h9.o c c W7 i5 m (Fr.refl H F0 c) h7 i7 x7⟩
       clear h9 j1 A m i5 h7 i7 x7 k8 k5 d3 d1;go_wp2;go_roundg V
       case rel=>exact fin
       case measure=>omega
     ·have g5: ¬(j:Int) < (aJ p:Int):=Oa
      have c8:j=bG (aD p):=by rw[<-j2.o];omega
      obtain⟨g1,iW⟩:u=vD F its (aD p) 0 J/\bU wr (whT F its (aD p) 0 J):=by
       have:=LW;rw[c8]at this;exact this.fin
      have y9:u.b.length+fT q<=1000000:=by
       have k1:=n9.o J;have k2:=j9.o;rw[g1];omega
      have k4:=n8.o u wr n4 a8 y9;rw[f8]at k4;have l3:Hid (Fr H (Pt (aD p)) WP wr):=LW.fr;have i1:Hid (FnW wr b a l p q):=f4;have i2:Hid (bU wr (whT F its (aD p) 0 J)):=iW;have k9:Hid (u=vD F its (aD p) 0 J):=g1;clear LW j1 n4 f4 a8 y9 c8 iW g1 m4 m6 z6;go_wp2_with fail
      refine k4.mono ?_;rintro e c ⟨rfl,A,i5,m⟩;have f5:=i1.o.fr m (fun t p h=>(Pt.body t p h).inT);obtain⟨_,_,_,_,_,m6,z6⟩:=f5.cells;have c5:c.cell? ⟨N,2,none⟩=some (.map (some U)):=A.cell 2
      have g9:aG4 H O N I U E F its (.node b o a l (.node x y W p q)) (fnT F its (.node b o a l (.node x y W p q)) s) (fnR F its (.node b o a l (.node x y W p q)) s) w (.returned (.tuple #[])) (c.setCell ⟨b,6,none⟩ (Qc (eE F its q u).b.length)):=by
       have e1:=k9.o;have R:=k6.o;rw[R]at e1;have i4:=i2.o;rw[R]at i4;subst e1;exact e2.o g f v WP wr c e7.o (fun S=>(HG.o S).2.2) b7.o l2.o z4.o l3.o i4 m i5 A
      clear f5 e2 b5 e9 i5 m;go_wp2_with (at_len;refine jN rfl _ rfl U _ _ rfl A.b ?_)
      go_end0
      exact g9
end
section
def cB:Tr->Nat
 | .nil=>99
 | .node _ _ a _ _=>a.a
def hY:Tr->Nat->Nat->Tr
 | .nil,_,_=> .nil
 | .node b o a e r,Y,R=>if cB e=16 then .node b o a (jC e Y) (hY r (Y+1) R)else .node b o a (jC e R) (hY r Y (R+1))
def gaF:Tr->Nat->dB->dB
 | .nil,_,F=>F
 | .node _ _ _ e r,i,F=>gaF r (i+1) (if(dP (cC e) F).isSome then F else put (cC e) i F)
def sE(k:Nat):Tr->List Value
 | .nil=>[]
 | .node _ _ _ e r=>if cB e=k then fO e::sE k r else sE k r
def yQ(it D M:Value)(n:Int)(B:Value):Array Value:=#[it,D,M,Qc n,B]
def PA(L:Tr):TypeId->Int->Prop:=fun Z p=>(Z=196\/Z=105)/\p∈ps L
theorem PA.e{L:Tr}(t:TypeId)(p:Int)(h:PA L t p):dX t:=by rcases h.1 with h|h<;>rw[h]<;>simp[dX]
structure GaW(H O N I U:Nat)(it:Value)(w0:World)(L:Tr)(i Y R:Nat)(F:dB)(D M:Value)(E G:List Value)(wr:World):Prop where
 blk:wr.1[N]?=some (.cells (xP O I U ⟨[],0,0⟩) 149 (0,0))
 prog:wr.1[O]?=some (.cells (yQ it D M 0 (.slice none 0 0)) 111 (0,0))
 first:Mp wr I F.length F
 b:Mp wr U 0 []
 ne:I≠U
 ge:H<=N/\H<=O/\H<=I/\H<=U
 fr:Fw H (PA L) w0 wr
 rest:bU wr (bN i L)
 wand:∀ w2,Fw H (PA (bN i L)) wr w2->bU w2 (hY (bN i L) Y R)->bU w2 (hY L 0 0)
 ownA:wr.ownsRow H 192 1 D Y E
 ownF:wr.ownsRow H 106 1 M R G
 hA:E++sE 16 (bN i L)=sE 16 L
 hF:G++sE 17 (bN i L)=sE 17 L
 cnt:Y+R=i
theorem aW{w:World}{a n c k:Nat}{e:TypeId}{v:Value}{d:List Value}(h:w.ownsRow a e c v n d)(o:v.ownBlock=some k):(∃ b,w.1[k]?=some (.cells b e (0,0)))/\a<=k:=by
 rcases h.2 with⟨q,_⟩|⟨j,f,g,p,l,m,_⟩
 ·grind[Value.ownBlock]
 grind[Value.ownBlock]
theorem aR{w w':World}{a n c:Nat}{e:TypeId}{v:Value}{d:List Value}(h:w.ownsRow a e c v n d)(m:∀ k,v.ownBlock=some k->w'.1[k]?=w.1[k]?):w'.ownsRow a e c v n d:=by
 refine⟨h.1,?_⟩;rcases h.2 with o|⟨g,J,f,b,j,l,r⟩
 ·simp[*]
 ·exact .r ⟨g,J,f,b,j,(m g (by rw[b];rfl)).t l,r⟩
theorem tL.grown{X:TypeId->Prop}{H:Nat}{P:TypeId->Int->Prop}{u w w':World}{d:Option Nat}(h:tL X H P u w)(a:w.grownBy w' d)(f:H<=w.1.size)(g:∀ k,d=some k->H<=k/\∀ b t,X t->w.1[k]?≠some (.cells b t (0,0))):tL X H P u w':=by
 refine h.t ⟨a.os,a.tape,a.output,a.size,fun k c=>a.block k Oa (fun e=>?_),fun k b t j c=>⟨b,(a.block k Qg (fun e=>?_)).t c,Od⟩⟩
 ·grind
 grind
theorem jU{e:Tr}(h:Ws 7 e):∃ b o a l r,e= .node b o a l r/\(a.a=16\/a.a=17):=by
 cases e with
 |nil=>grind[Ws,eX]
 |node b o a l r=>
  obtain⟨_,x,y,c,_⟩:=h.parts
  grind[mD]
theorem Mp.ne_cells{w:World}{b n k:Nat}{l:dB}(h:Mp w b n l){cs:Array Value}{t:TypeId}(d:w.1[k]?=some (.cells cs t (0,0))):b≠k:=by
 obtain⟨c,a,e⟩:=h.ismap
 grind
theorem bR{w:World}{k j:Nat}{cs a:Array Value}{t C:TypeId}(c:w.1[k]?=some (.cells cs t (0,0)))(b:w.1[j]?=some (.cells a C (0,0)))(h:t≠C):k≠j:=by
 grind
theorem aN3{k:Nat}{w w':World}{a:Nd}{l r:Tr}{i:Int}(h:iR w k a l r)(b:a.a=16\/a.a=17)(s:∀ (cs:Array Value) (t:TypeId),w.1[k]?=some (.cells cs t (0,0))->w'.1[k]?=some (.cells (cs.setIfInBounds 2 (Qc i)) t (0,0))):iR w' k {a with c:=i} l r:=by
 unfold iR at h ⊢;dsimp only;have ne:∀ {cs:Array Value} {j:Nat} {v:Value} {x:Value},2≠j->cs[j]?=some v->(cs.setIfInBounds 2 x)[j]?=some v:=Qg;rcases b with b|b<;>rw[b]at h ⊢
 ·obtain⟨cs,m,d,f,g⟩:=h;exact⟨_,Qg,d.set _,Qh,Qh⟩
 ·obtain⟨cs,m,d,f,x,y,z,p,q,e,g,n,o⟩:=h;exact⟨_,Qg,d.set _,Qh,x,y,z,p,q,e,Qh,Qh,Qh⟩
theorem uW:∀ (t:Tr) (Y R:Nat),Ws 18 t->Sh t (hY t Y R):=by
 intro t
 induction t with
 |nil=>intro _ _ _;trivial
 |node b o a e r _ ih=>
  intro Y R c;obtain⟨_,d,f⟩:=bY Ot c
  grind[Sh,jC,hY,jU,Sh.refl]
variable {H O N I U:Nat} {it:Value} {w0 wr w' W3:World} {L:Tr} {i Y R:Nat} {F Q:dB} {D M:Value} {E G:List Value}
theorem GaW.put(h:GaW H O N I U it w0 L i Y R F D M E G wr)(r:Ws 18 L){n:Nat}(p:Mp w' I n Q)(c:wr.mapTurned w' I):GaW H O N I U it w0 L i Y R Q D M E G w':=by
 have d:∀ (k:Nat) (a:Array Value) (t:TypeId),wr.1[k]?=some (.cells a t (0,0))->w'.1[k]?=wr.1[k]?:=by
  intro k a t b;obtain⟨j,f,l,g,e,rfl⟩:=c
  grind[heap_setBlock_other]
 have q:w'.1[U]?=wr.1[U]?:=by
  obtain⟨j,f,l,g,e,rfl⟩:=c;exact heap_setBlock_other e _ h.ne.symm
 have s:Fw H (PA L) wr w':=(Fw.refl _ _ _).turned h.ge.2.2.1 c;have h0:Fw H F0 wr w':=(Fw.refl _ _ _).turned h.ge.2.2.1 c;refine⟨(d _ _ _ h.blk).t h.blk,(d _ _ _ h.prog).t h.prog,p.tight,h.b.same q,h.ne,h.ge,h.fr.t s,?_,fun w2 m hi=>h.wand w2 ((h0.mono F0.to).t m) hi,?_,?_,h.hA,h.hF,h.cnt⟩
 ·exact bU.fw h0 (fun t v u=>Qj) (iB Ot i _ r) h.rest (fun _ _ _ h=>h)
 ·exact aR h.ownA (fun k b=>by obtain⟨⟨a,o⟩,_⟩:=aW h.ownA b;grind)
 ·exact aR h.ownF (fun k b=>by obtain⟨⟨a,o⟩,_⟩:=aW h.ownF b;grind)
def aEL(k:Int):TypeId->Int->Prop:=fun Z p=>(Z=196\/Z=105)/\p=k
theorem aEL.e{k:Int}(t:TypeId)(p:Int)(h:aEL k t p):dX t:=by rcases h.1 with h|h<;>rw[h]<;>simp[dX]
theorem GaW.stepA(h:GaW H O N I U it w0 L i Y R F D M E G wr)(X:Ws 18 L)(y2:(ps L).Nodup)(hF:dE H L){b o d q g J:Nat}{a f:Nd}{x y r:Tr}(hd:bN i L= .node b o a (.node d q f x y) r)(C:bN (i+1) L=r)(W:f.a=16)(own:W3.ownsRow H 192 1 (Qe g (Y+1) J) (Y+1) (E++[Qd d]))(grow:((wr.setCell ⟨d,2,none⟩ (Qc Y)).alloc (Qf #[Qd d] 192)).grownBy W3 D.ownBlock)(y6:D.ownBlock=some g\/g=wr.1.size+1):
 GaW H O N I U it w0 L (i+1) (Y+1) R F (Qe g (Y+1) J) M (E++[Qd d]) G (W3.setCell ⟨O,1,none⟩ (Qe g (Y+1) J))/\(W3.setCell ⟨O,1,none⟩ (Qe g (Y+1) J)).cell? ⟨d,0,none⟩=some (.string f.h):=by
 have h9:=iB Ot i _ X;have K:=pJ i _ y2;have k1:=xR i L;have k3:=pB i L hF;have h0:=h.rest;have h1:=h.wand;have hA:=h.hA;have k4:=h.hF;rw[hd]at h9 K k1 k3 h0 h1 hA k4;obtain⟨y8,h8,k7⟩:=bY Ot h9;have K:=fU K;have y4:H<=d:=k3.1.2.2 (by unfold kJ;omega);have h4:=h0.1.2.2
 obtain⟨s,v,T⟩:∃ s,wr.1[d]?=some (.cells s 196 (0,0))/\uB s 0 f:=by
  obtain⟨s,v,T,_⟩:=bM h4 (n:=16) W;simp[*]
 have w:f.b∈ps (.node d q f x y):=(by grind[po,eV,aFE]);have hH:=Qm h.ge.1 (Nat.le_of_lt (Oo h.blk));have q1:∀ k,k≠d->(wr.setCell ⟨d,2,none⟩ (Qc Y)).1[k]?=wr.1[k]?:=(by grind[Below.heap_setCell]);have s1:(wr.setCell ⟨d,2,none⟩ (Qc (Y:Int))).1.size=wr.1.size:=Od
 have z1:(wr.setCell ⟨d,2,none⟩ (Qc (Y:Int))).1[d]?=some (.cells (s.setIfInBounds 2 (Qc Y)) 196 (0,0)):=aI _ v;have q2:∀ k,k < wr.1.size->((wr.setCell ⟨d,2,none⟩ (Qc Y)).alloc (Qf #[Qd d] 192)).1[k]?=(wr.setCell ⟨d,2,none⟩ (Qc Y)).1[k]?:=(by grind[Below.heap_alloc]);have s2:((wr.setCell ⟨d,2,none⟩ (Qc (Y:Int))).alloc (Qf #[Qd d] 192)).1.size=wr.1.size+1:=Od
 have q3:∀ k,k < wr.1.size->D.ownBlock≠some k->W3.1[k]?=((wr.setCell ⟨d,2,none⟩ (Qc Y)).alloc (Qf #[Qd d] 192)).1[k]?:=fun k m y1=>grow.block k Oa Qg
 have k9:∀ (k:Nat) (c:Array Value) (t:TypeId),wr.1[k]?=some (.cells c t (0,0))->t≠192->D.ownBlock≠some k:=by
  intro k c t m y1 e;obtain⟨⟨c2,u⟩,_⟩:=aW h.ownA e
  grind
 have k8:∀ k n l,Mp wr k n l->D.ownBlock≠some k:=by
  intro k n l m e;obtain⟨⟨c2,u⟩,_⟩:=aW h.ownA e;exact m.ne_cells u rfl
 have b6:g≠O:=by
  rcases y6 with e|e
  ·intro e2;rw[e2]at e;exact k9 O _ _ h.prog Ob e
  ·have:=(Oo h.prog);omega
 have a2:∀ (k:Nat) (c:Array Value) (t:TypeId),wr.1[k]?=some (.cells c t (0,0))->t≠192->k≠d->W3.1[k]?=some (.cells c t (0,0)):=by
  grind
 have a9:O≠d:=bR h.prog v Ob;have b2:N≠d:=bR h.blk v Ob;have b3:N≠O:=bR h.blk h.prog Ob;have a4:=a2 O _ _ h.prog Ob a9
 have a3:∀ k n l,Mp wr k n l->Mp (W3.setCell ⟨O,1,none⟩ (Qe g (Y+1) J)) k n l:=by
  intro k n l m;have A:=m.lt;refine m.same ((Om (m.ne_cells h.prog)).t ?_);rw[q3 k A (k8 k n l m),q2 k A,q1 k (m.ne_cells v)]
 have b4:W3.1[d]?=some (.cells (s.setIfInBounds 2 (Qc Y)) 196 (0,0)):=by
  grind
 have f1:Fw H (aEL f.b) wr (wr.setCell ⟨d,2,none⟩ (Qc Y)):=(Fw.refl _ _ _).write v y4 Oa T.2.1 Qj _;have f2:=f1.alloc (Qf #[Qd d] 192) Oa
 have f3:Fw H (aEL f.b) wr W3:=f2.grown grow Oa (fun k m=>by
  obtain⟨⟨c2,u⟩,hb⟩:=aW h.ownA m;refine⟨hb,fun c t S e=>?_⟩;have A:=(Oo u);rw[q2 k A,q1 k (bR u v Ob),u]at e;simp only[Option.some.injEq,Obj.cells.injEq]at e;rw[<-e.2.1]at S
  grind[aS])
 have P:Fw H (aEL f.b) wr (W3.setCell ⟨O,1,none⟩ (Qe g (Y+1) J)):=f3.set h.ge.2.1 (fun c t S e=>by
  rw[a4]at e;simp only[Option.some.injEq,Obj.cells.injEq]at e;rw[<-e.2.1]at S
  grind[aS]) _ _
 have y3:(W3.setCell ⟨O,1,none⟩ (Qe g (Y+1) J)).1[d]?=some (.cells (s.setIfInBounds 2 (Qc Y)) 196 (0,0)):=(by grind[Below.heap_setCell]);have Z:∀ t a5,Ws a5 t->bU wr t->(∀ p∈ps t,p≠f.b)->bU (W3.setCell ⟨O,1,none⟩ (Qe g (Y+1) J)) t:=fun t a5 X hi j=>bU.fw P aEL.e X hi (fun p w a6 V=>j p w V.2);have ue:=fU (b:=d) (o:=q) K.left;have k2:f.b∈po f:=by grind[po,eV]
 have y7:bU (W3.setCell ⟨O,1,none⟩ (Qe g (Y+1) J)) (.node d q {f with c:=(Y:Int)} x y):=by
  obtain⟨_,sx,sy,_,k6,k5⟩:=h8.parts;refine⟨Z x _ k6 h0.1.1 (fun p j e=>ue.own_l _ k2 Qg),Z y _ k5 h0.1.2.1 (fun p j e=>ue.own_r _ k2 Qg),aN3 h4 Oa (fun c t b5=>?_)⟩
  grind
 refine⟨⟨?_,?_,a3 _ _ _ h.first,a3 _ _ _ h.b,h.ne,h.ge,h.fr.t (P.mono fun t p j=>⟨j.1,k1 p (jI (by rw[j.2];exact w))⟩),?_,?_,?_,?_,?_,?_,?_⟩,?_⟩
 ·exact(Om b3).t (a2 N _ _ h.blk Ob b2)
 ·exact aI (o:=1) _ a4
 ·rw[C];exact Z r _ k7 h0.2.1 (fun p j e=>by subst e;exact K.apart _ w j)
 ·intro w2 z hi;rw[C]at z hi;refine h1 w2 ((P.mono fun t p j=>⟨j.1,jI (by rw[j.2];exact w)⟩).t (z.mono fun t p j=>⟨j.1,lQ j.2⟩)) ?_
  have e1:hY (.node b o a (.node d q f x y) r) Y R= .node b o a (.node d q {f with c:=(Y:Int)} x y) (hY r (Y+1) R):=by
   show(if f.a=16 then _ else _)=_;rw[if_pos W];rfl
  rw[e1];refine⟨?_,hi,by unfold iR;rw[y8];trivial⟩;have k0:Sh (.node d q f x y) (.node d q {f with c:=(Y:Int)} x y):=⟨rfl,rfl,rfl,rfl,rfl,rfl,rfl,rfl,fun e=>Oa,fun _=>rfl,Sh.refl _,Sh.refl _⟩;exact bU.fw z PA.e (k0.ws h8) y7 (fun p j a6 V=>by rw[k0.ps]at j;exact K.apart p j V.2)
 ·refine⟨own.1,?_⟩;rcases own.2 with⟨z,_⟩|⟨g',a7,a8,y0,y5,hh,r'⟩
  ·cases z
  ·refine .r ⟨g',a7,a8,y0,y5,?_,r'⟩
   grind[Value.slice.injEq,Option.some.injEq,Addr.mk.injEq,Below.heap_setCell]
 ·refine aR h.ownF (fun k m=>?_);obtain⟨⟨c2,u⟩,_⟩:=aW h.ownF m
  grind[Below.heap_setCell,bR]
 ·rw[C,List.append_assoc,<-hA];show _=E++(if f.a=16 then _ else _);rw[if_pos W];rfl
 ·rw[C,<-k4];show _=G++(if f.a=17 then _ else _);simp[*]
 ·have:=h.cnt;omega
 ·rw[cell_of_row _ _ _ _ _ _ y3,Qq Oa];exact T.1
theorem GaW.stepF(h:GaW H O N I U it w0 L i Y R F D M E G wr)(W:Ws 18 L)(y2:(ps L).Nodup)(hF:dE H L){b o d q g J:Nat}{a f:Nd}{x y r:Tr}(hd:bN i L= .node b o a (.node d q f x y) r)(C:bN (i+1) L=r)(ht:f.a=17)(own:W3.ownsRow H 106 1 (Qe g (R+1) J) (R+1) (G++[Qd d]))(grow:((wr.setCell ⟨d,2,none⟩ (Qc R)).alloc (Qf #[Qd d] 106)).grownBy W3 M.ownBlock)(y6:M.ownBlock=some g\/g=wr.1.size+1):
 GaW H O N I U it w0 L (i+1) Y (R+1) F D (Qe g (R+1) J) E (G++[Qd d]) (W3.setCell ⟨O,2,none⟩ (Qe g (R+1) J))/\(W3.setCell ⟨O,2,none⟩ (Qe g (R+1) J)).cell? ⟨d,0,none⟩=some (.string f.h):=by
 have h9:=iB Ot i _ W;have K:=pJ i _ y2;have k1:=xR i L;have k3:=pB i L hF;have h0:=h.rest;have h1:=h.wand;have hA:=h.hA;have k4:=h.hF;rw[hd]at h9 K k1 k3 h0 h1 hA k4;obtain⟨y8,h8,k7⟩:=bY Ot h9;have K:=fU K;have y4:H<=d:=k3.1.2.2 (by unfold kJ;omega);have h4:=h0.1.2.2
 obtain⟨s,v,T⟩:∃ s,wr.1[d]?=some (.cells s 105 (0,0))/\uB s 0 f:=by
  obtain⟨s,v,T,_⟩:=bM h4 (n:=17) ht;simp[*]
 have w:f.b∈ps (.node d q f x y):=(by grind[po,eV,aFE]);have hH:=Qm h.ge.1 (Nat.le_of_lt (Oo h.blk));have q1:∀ k,k≠d->(wr.setCell ⟨d,2,none⟩ (Qc R)).1[k]?=wr.1[k]?:=(by grind[Below.heap_setCell]);have s1:(wr.setCell ⟨d,2,none⟩ (Qc (R:Int))).1.size=wr.1.size:=Od
 have z1:(wr.setCell ⟨d,2,none⟩ (Qc (R:Int))).1[d]?=some (.cells (s.setIfInBounds 2 (Qc R)) 105 (0,0)):=aI _ v;have q2:∀ k,k < wr.1.size->((wr.setCell ⟨d,2,none⟩ (Qc R)).alloc (Qf #[Qd d] 106)).1[k]?=(wr.setCell ⟨d,2,none⟩ (Qc R)).1[k]?:=(by grind[Below.heap_alloc]);have s2:((wr.setCell ⟨d,2,none⟩ (Qc (R:Int))).alloc (Qf #[Qd d] 106)).1.size=wr.1.size+1:=Od
 have q3:∀ k,k < wr.1.size->M.ownBlock≠some k->W3.1[k]?=((wr.setCell ⟨d,2,none⟩ (Qc R)).alloc (Qf #[Qd d] 106)).1[k]?:=fun k m y1=>grow.block k Oa Qg
 have k9:∀ (k:Nat) (c:Array Value) (t:TypeId),wr.1[k]?=some (.cells c t (0,0))->t≠106->M.ownBlock≠some k:=by
  intro k c t m y1 e;obtain⟨⟨c2,u⟩,_⟩:=aW h.ownF e
  grind
 have k8:∀ k n l,Mp wr k n l->M.ownBlock≠some k:=by
  intro k n l m e;obtain⟨⟨c2,u⟩,_⟩:=aW h.ownF e;exact m.ne_cells u rfl
 have b5:g≠O:=by
  rcases y6 with e|e
  ·intro e2;rw[e2]at e;exact k9 O _ _ h.prog Ob e
  ·have:=(Oo h.prog);omega
 have Z:∀ (k:Nat) (c:Array Value) (t:TypeId),wr.1[k]?=some (.cells c t (0,0))->t≠106->k≠d->W3.1[k]?=some (.cells c t (0,0)):=by
  grind
 have a8:O≠d:=bR h.prog v Ob;have a9:N≠d:=bR h.blk v Ob;have b2:N≠O:=bR h.blk h.prog Ob;have a3:=Z O _ _ h.prog Ob a8
 have a2:∀ k n l,Mp wr k n l->Mp (W3.setCell ⟨O,2,none⟩ (Qe g (R+1) J)) k n l:=by
  intro k n l m;have A:=m.lt;refine m.same ((Om (m.ne_cells h.prog)).t ?_);rw[q3 k A (k8 k n l m),q2 k A,q1 k (m.ne_cells v)]
 have b3:W3.1[d]?=some (.cells (s.setIfInBounds 2 (Qc R)) 105 (0,0)):=by
  grind
 have f1:Fw H (aEL f.b) wr (wr.setCell ⟨d,2,none⟩ (Qc R)):=(Fw.refl _ _ _).write v y4 Oa T.2.1 Qj _;have f2:=f1.alloc (Qf #[Qd d] 106) Oa
 have f3:Fw H (aEL f.b) wr W3:=f2.grown grow Oa (fun k m=>by
  obtain⟨⟨c2,u⟩,hb⟩:=aW h.ownF m;refine⟨hb,fun c t S e=>?_⟩;have A:=(Oo u);rw[q2 k A,q1 k (bR u v Ob),u]at e;simp only[Option.some.injEq,Obj.cells.injEq]at e;rw[<-e.2.1]at S
  grind[aS])
 have P:Fw H (aEL f.b) wr (W3.setCell ⟨O,2,none⟩ (Qe g (R+1) J)):=f3.set h.ge.2.1 (fun c t S e=>by
  rw[a3]at e;simp only[Option.some.injEq,Obj.cells.injEq]at e;rw[<-e.2.1]at S
  grind[aS]) _ _
 have y3:(W3.setCell ⟨O,2,none⟩ (Qe g (R+1) J)).1[d]?=some (.cells (s.setIfInBounds 2 (Qc R)) 105 (0,0)):=(by grind[Below.heap_setCell]);have X:∀ t a4,Ws a4 t->bU wr t->(∀ p∈ps t,p≠f.b)->bU (W3.setCell ⟨O,2,none⟩ (Qe g (R+1) J)) t:=fun t a4 W hi j=>bU.fw P aEL.e W hi (fun p w a5 V=>j p w V.2);have ue:=fU (b:=d) (o:=q) K.left;have k2:f.b∈po f:=by grind[po,eV]
 have y7:bU (W3.setCell ⟨O,2,none⟩ (Qe g (R+1) J)) (.node d q {f with c:=(R:Int)} x y):=by
  obtain⟨_,sx,sy,_,k6,k5⟩:=h8.parts;refine⟨X x _ k6 h0.1.1 (fun p j e=>ue.own_l _ k2 Qg),X y _ k5 h0.1.2.1 (fun p j e=>ue.own_r _ k2 Qg),aN3 h4 Oa (fun c t b4=>?_)⟩
  grind
 refine⟨⟨?_,?_,a2 _ _ _ h.first,a2 _ _ _ h.b,h.ne,h.ge,h.fr.t (P.mono fun t p j=>⟨j.1,k1 p (jI (by rw[j.2];exact w))⟩),?_,?_,?_,?_,?_,?_,?_⟩,?_⟩
 ·exact(Om b2).t (Z N _ _ h.blk Ob a9)
 ·exact aI (o:=2) _ a3
 ·rw[C];exact X r _ k7 h0.2.1 (fun p j e=>by subst e;exact K.apart _ w j)
 ·intro w2 z hi;rw[C]at z hi;refine h1 w2 ((P.mono fun t p j=>⟨j.1,jI (by rw[j.2];exact w)⟩).t (z.mono fun t p j=>⟨j.1,lQ j.2⟩)) ?_
  have e1:hY (.node b o a (.node d q f x y) r) Y R= .node b o a (.node d q {f with c:=(R:Int)} x y) (hY r Y (R+1)):=by
   show(if f.a=16 then _ else _)=_;rw[Oh];rfl
  rw[e1];refine⟨?_,hi,by unfold iR;rw[y8];trivial⟩;have k0:Sh (.node d q f x y) (.node d q {f with c:=(R:Int)} x y):=⟨rfl,rfl,rfl,rfl,rfl,rfl,rfl,rfl,fun e=>Oa,fun _=>rfl,Sh.refl _,Sh.refl _⟩;exact bU.fw z PA.e (k0.ws h8) y7 (fun p j a5 V=>by rw[k0.ps]at j;exact K.apart p j V.2)
 ·refine aR h.ownA (fun k m=>?_);obtain⟨⟨c2,u⟩,_⟩:=aW h.ownA m
  grind[Below.heap_setCell,bR]
 ·refine⟨own.1,?_⟩;rcases own.2 with⟨z,_⟩|⟨g',a6,a7,y0,y5,hh,r'⟩
  ·cases z
  ·refine .r ⟨g',a6,a7,y0,y5,?_,r'⟩
   grind[Value.slice.injEq,Option.some.injEq,Addr.mk.injEq,Below.heap_setCell]
 ·rw[C,<-hA];show _=E++(if f.a=16 then _ else _);simp[*]
 ·rw[C,List.append_assoc,<-k4];show _=G++(if f.a=17 then _ else _);rw[if_pos ht];rfl
 ·have:=h.cnt;omega
 ·rw[cell_of_row _ _ _ _ _ _ y3,Qq Oa];exact T.1
theorem GaW.fin(h:GaW H O N I U it w0 L (bG L) Y R F D M E G wr):bU wr (hY L 0 0)/\E=sE 16 L/\G=sE 17 L:=by
 have a:=h.wand;have b:=h.hA;have c:=h.hF;rw[nP]at a b c;exact⟨a wr (Fw.refl _ _ _) trivial,by simpa[sE]using b,by simpa[sE]using c⟩
end
section
variable {H O N I U:Nat}
theorem infoPA:(prog.info? 192).map (fun i=>(i.zero,i.size,i.bytes))=some (some (.pointer none),1,8):=by kernel_rfl
theorem infoPF:(prog.info? 106).map (fun i=>(i.zero,i.size,i.bytes))=some (some (.pointer none),1,8):=by kernel_rfl
theorem aP9{w w0:World}{t:Tr}(h:Ws 8 t){P:TypeId->Int->Prop}(hi:bU w0 t)(K:Fw H P w0 w)(A:∀ t p,P t p->dX t)(W:∀ p,¬P 100 p){ao:Option Addr}{n x i:Nat}(s:aH t= .slice ao n x){b o:Nat}{a:Nd}{e r:Tr}(d:bN i (aD t)= .node b o a e r)(z:∃ b o a l r,e= .node b o a l r/\a.a≠19/\a.a≠7):
 ∃ g,ao=some ⟨g,0,none⟩/\w.cell? ⟨g,i,none⟩=some (aH e):=by
 rcases h.lst (by omega)with rfl|⟨b0,o0,a0,l0,rfl,ht,_⟩
 ·cases i<;>cases d
 ·have h0:aH (.node b0 o0 a0 l0 .nil)= Qe b0 (bG l0) o0:=if_pos ht;rw[h0]at s;simp only[Value.slice.injEq]at s;refine⟨b0,Qh,?_⟩;have q:=hi.2.2;have y:l0≠ .nil:=(bM q (n:=20) ht).1;have Z:po a0=[]:=by unfold po;rw[ht];rfl
  have f:iR w b0 a0 l0 .nil:=gM.fw K A q Qh (fun e=>⟨h.list e y,Qh⟩);obtain⟨_,j,X,C⟩:=bM f (n:=20) ht;have m:=uL i 0 l0 C;replace d:bN i l0= .node b o a e r:=d;rw[d,Nat.zero_add]at m;obtain⟨k,f,c,u,v,rfl,S,V⟩:=z;have T:(if c.a=19 then uB j (i*3) c else if c.a=7 then j[i]?=some (fO (.node k f c u v))else j[i]?=some (aH (.node k f c u v))):=m.1
  grind[cell_of_row]
theorem aDA(a:Addr)(w:World):(method 603 192 (.pointer (some a)) "Declared").run prog w= .ok (384,.pointer (some a)) w:=by kernel_rfl
theorem aD9(a:Addr)(w:World):(method 603 106 (.pointer (some a)) "Declared").run prog w= .ok (382,.pointer (some a)) w:=by kernel_rfl
theorem PA.noName{L:Tr}(p:Int): ¬PA L 100 p:=fun h=>by rcases h.1 with h|h<;>exact Qj
theorem aLC{t:Tr}(K:Ws 8 t)(hF:dE H t)(z5:(ps t).Nodup)(w:World)(hi:bU w t)(h:GaW H O N I U (aH t) w (aD t) 0 0 0 [] (.slice none 0 0) (.slice none 0 0) [] [] w):
 Calls prog 72 #[Qd N] w fun e w'=>e= .returned (.tuple #[])/\∃ Y R D M,GaW H O N I U (aH t) w (aD t) (bG (aD t)) Y R (gaF (aD t) 0 []) D M (sE 16 (aD t)) (sE 17 (aD t)) w':=by
 obtain⟨iA,j4,j9,j8,j7⟩:=info_parts infoPA;obtain⟨iF,j3,j6,j5,k9⟩:=info_parts infoPF;obtain⟨ao,A,z3⟩:=K.w0 Ot;have b7:=mW Ot K;have z6:=dG t;have j1:Hid _:=z6;have z4:=mO Ot K;have j0:Hid ((ps (aD t)).Nodup):=by rw[Hid,<-z4];exact z5
 have y4:Hid (Ws 18 (aD t)):=K.elems Ot;have HW:Hid (Ws 8 t):=K;have HF:Hid (dE H (aD t)):=lV hF;have HI:Hid (bU w t):=hi;have c0:w.cell? ⟨N,0,none⟩=some (Qd O):=Og h.blk rfl
 have p0:w.cell? ⟨O,0,none⟩=some (aH t):=Og h.prog rfl
 rw[z3]at p0 h;have G0:Hid _:=h;clear h K hF z5 hi z6 z4;go_enter func72,ntmps72
 go_wp2_with fail
 go_loopg [19] (aJ t) (fun m b2 wr=>∃ (i Y R:Nat) (F:dB) (D M:Value) (f j:List Value),b2= Qc i/\i<=aJ t/\aJ t<=i+m/\GaW H O N I U (.slice ao (aJ t) A) w (aD t) i Y R F D M f j wr/\gaF (bN i (aD t)) i F=gaF (aD t) 0 []/\F.length<=i)
 case atStart=>exact⟨0,0,0,[],_,_,[],[],rfl,Qn _,Oa,G0.o,rfl,Ql _⟩
 case round=>
  clear c0 p0;obtain⟨i,Y,R,F,D,M,f,j,rfl,b6,hm,G,k5,z8⟩:=hrel;have S:Hid _:=G;have C:Hid _:=k5;clear k5
  by_cases j2:i < aJ t
  ·have z0:(i:Int) < (aJ t:Int):=Oa
   obtain⟨b1,o1,a1,e1,r1,o,P⟩:=jA i (aD t) (by rw[<-j1.o];exact j2);have y6:=iB Ot i _ y4.o;rw[o]at y6;obtain⟨z9,y5,_⟩:=bY Ot y6;obtain⟨a,o2,c,a6,a7,rfl,y9⟩:=jU y5;obtain⟨gg,rfl,h3⟩:=aP9 HW.o HI.o G.fr PA.e PA.noName z3 o ⟨a,o2,c,a6,a7,rfl,Oa,Oa⟩;have b:aH (.node a o2 c a6 a7)= .iface (iV c.a) (Qd a):=Oh;rw[b]at h3;have h1:=G.rest;rw[o]at h1;have y7:c.h.size<=maxLen:=by have:=y5.parts.1.h;unfold maxLen;omega
   obtain⟨a2,a4,rfl,b3⟩:=bP G.ownA;obtain⟨a3,a5,rfl,b4⟩:=bP G.ownF;have b8:Y<=10000:=by have:=G.cnt;omega
   have b9:R<=10000:=by have:=G.cnt;omega
   have b5:=G.ge;have cP:=(Oo G.blk);have k6:=(Oo G.prog);rcases y9 with p|p
   ·have t1:=fun q=>yK q wr;have t2:=fun q=>wE q wr;have t3:=fun q=>uF q wr;obtain⟨cs,k,h6,_⟩:=bM h1.1.2.2 (n:=16) p;have m2:wr.cell? ⟨a,2,none⟩=some (Qc c.c):=Og k h6.2.2
    have z2:wr.frozen? ⟨a,2,none⟩=false:=by simp[World.frozen?,k]
    have p1:wr.cell? ⟨O,1,none⟩=some (.slice a2 Y a4):=Og G.prog rfl
    have pz:wr.frozen? ⟨O,1,none⟩=false:=by simp[World.frozen?,G.prog]
    have pne:O≠a:=bR G.prog k Ob
    have Z:some O≠(Value.slice a2 Y a4).ownBlock:=fun e=>by
     obtain⟨⟨c2,x⟩,_⟩:=aW G.ownA e.symm;exact bR G.prog x Ob rfl
    have kG:(wr.setCell ⟨a,2,none⟩ (Qc (Y:Int))).ownsRow H 192 1 (.slice a2 Y a4) Y f:=aR G.ownA (fun a8 hk=>by
     obtain⟨⟨c2,x⟩,_⟩:=aW G.ownA hk;exact Om (bR x k Ob))
    have z:(wr.setCell ⟨a,2,none⟩ (Qc (Y:Int))).1.size=wr.1.size:=by simp[World.setCell]
    have u:((wr.setCell ⟨a,2,none⟩ (Qc (Y:Int))).alloc (Qf #[Qd a] 192)).1[O]?=_:=(On (by rw[z];exact k6)).t ((Om pne).t G.prog);have T:O < ((wr.setCell ⟨a,2,none⟩ (Qc (Y:Int))).alloc (Qf #[Qd a] 192)).1.size:=by simp[World.setCell];omega
    have W:((wr.setCell ⟨a,2,none⟩ (Qc (Y:Int))).alloc (Qf #[Qd a] 192)).cell? ⟨O,1,none⟩=some (.slice a2 Y a4):=Og u rfl
    have X:((wr.setCell ⟨a,2,none⟩ (Qc (Y:Int))).alloc (Qf #[Qd a] 192)).frozen? ⟨O,1,none⟩=false:=by simp[World.frozen?,u]
    have y3:Hid _:=W;have y0:Hid _:=X;have k0:Hid _:=T;have y:Hid _:=Z;have h4:Hid _:=fun g J r=>S.o.stepA (g:=g) (J:=J) (W3:=r) y4.o j0.o HF.o o P p
    have l:Hid (∀ s:dB,s=(if(dP c.h F).isSome then F else put c.h i F)->gaF (bN (i+1) (aD t)) (i+1) s=gaF (aD t) 0 []):=by
     intro s k9;rw[<-C.o,o,P,k9];rfl
    rw[show iV c.a=192 by rw[p];rfl]at h3;clear h1 G y6 y5 b k h6 u T W X Z p z9 P o C S;go_upto_region 13 with(at_builtin;refine wpList_append_lies _ rfl _ _ 108 rfl H 192 iA _ 1 8 underlying108 j4 j9 j8 j7 rfl Oa (.slice a2 Y a4) Y f rfl (kG.alloc _) ⟨wr.1.size,0,none⟩ 1 1 [Qd a] rfl rfl (World.news_of_block (cs:=#[Qd a]) (t:=192) (fr:=(0,0)) (by rw[<-z];exact Qk _ _)) (by simp[Value.oneCell']) Oa (by unfold maxLen;omega) Oa (by simp[World.setCell];omega) (wr.1.size+1) (by simp[World.setCell]) ?_;intro g J r h2 h0 k8 z1;have y1:=(h0.cell_far ⟨O,1,none⟩ k0.o y.o).t y3.o;have y2:=(h0.frozen_far ⟨O,1,none⟩ k0.o y.o).t y0.o)
    obtain⟨d,a9⟩:=h4.o g J r h2 h0 k8;clear h4 h2 h0 k8 y1 y2 y3 y0 k0 y kG z m2 z2 p1 pz pne t1 t2 t3 h3;generalize r.setCell ⟨O,1,none⟩ (Qe g (Y+1) J)=v at*;have me:=aDA ⟨a,0,none⟩ v;have r1:v.cell? ⟨N,1,none⟩=some (.map (some I)):=Og d.blk rfl
    have k7:=d.first.look_ok c.h y7;obtain⟨m,rfl⟩:=Oj gk;cases b:(dP c.h F).isSome
    ·rw[b]at k7;have y8:(Lit.int .i64 (i:Int)).wf=true:=by simp[Lit.wf,IntKind.min,IntKind.max,IntKind.bits,IntKind.signed];omega
     obtain⟨W5,k4,h7,k3⟩:=d.first.put (by unfold maxLen;omega) c.h y7 i y8
     have fin:∃ (V Y R:Nat) (F:dB) (D M:Value) (f j:List Value),Qc ((i:Int)+1)= Qc V/\V<=aJ t/\aJ t<=V+m/\GaW H O N I U (Qe gg (aJ t) A) w (aD t) V Y R F D M f j W5/\gaF (bN V (aD t)) V F=gaF (aD t) 0 []/\F.length<=V:=
      ⟨i+1,_,_,_,_,_,_,_,Od,Oa,Oa,d.put y4.o h7 k3,l.o _ (by rw[b];rfl),by rw[oV,b];simpa using z8⟩
     clear h7 k3 l d b;go_wp2;go_roundg m
     case rel=>exact fin
     case measure=>omega
    ·rw[b]at k7
     have fin:∃ (V Y R:Nat) (F:dB) (D M:Value) (f j:List Value),Qc ((i:Int)+1)= Qc V/\V<=aJ t/\aJ t<=V+m/\GaW H O N I U (Qe gg (aJ t) A) w (aD t) V Y R F D M f j v/\gaF (bN V (aD t)) V F=gaF (aD t) 0 []/\F.length<=V:=
      ⟨i+1,_,_,_,_,_,_,_,Od,Oa,Oa,d,l.o _ (by rw[b];rfl),Oa⟩
     clear l d b;go_wp2;go_roundg m
     case rel=>exact fin
     case measure=>omega
   ·have t1:=fun q=>yK q wr;have t2:=fun q=>wE q wr;have t3:=fun q=>uF q wr;obtain⟨cs,k,h6,_⟩:=bM h1.1.2.2 (n:=17) p;have m2:wr.cell? ⟨a,2,none⟩=some (Qc c.c):=Og k h6.2.2
    have z2:wr.frozen? ⟨a,2,none⟩=false:=by simp[World.frozen?,k]
    have p1:wr.cell? ⟨O,2,none⟩=some (.slice a3 R a5):=Og G.prog rfl
    have pz:wr.frozen? ⟨O,2,none⟩=false:=by simp[World.frozen?,G.prog]
    have pne:O≠a:=bR G.prog k Ob
    have Z:some O≠(Value.slice a3 R a5).ownBlock:=fun e=>by
     obtain⟨⟨c2,x⟩,_⟩:=aW G.ownF e.symm;exact bR G.prog x Ob rfl
    have kG:(wr.setCell ⟨a,2,none⟩ (Qc (R:Int))).ownsRow H 106 1 (.slice a3 R a5) R j:=aR G.ownF (fun a8 hk=>by
     obtain⟨⟨c2,x⟩,_⟩:=aW G.ownF hk;exact Om (bR x k Ob))
    have z:(wr.setCell ⟨a,2,none⟩ (Qc (R:Int))).1.size=wr.1.size:=by simp[World.setCell]
    have u:((wr.setCell ⟨a,2,none⟩ (Qc (R:Int))).alloc (Qf #[Qd a] 106)).1[O]?=_:=(On (by rw[z];exact k6)).t ((Om pne).t G.prog);have T:O < ((wr.setCell ⟨a,2,none⟩ (Qc (R:Int))).alloc (Qf #[Qd a] 106)).1.size:=by simp[World.setCell];omega
    have W:((wr.setCell ⟨a,2,none⟩ (Qc (R:Int))).alloc (Qf #[Qd a] 106)).cell? ⟨O,2,none⟩=some (.slice a3 R a5):=Og u rfl
    have X:((wr.setCell ⟨a,2,none⟩ (Qc (R:Int))).alloc (Qf #[Qd a] 106)).frozen? ⟨O,2,none⟩=false:=by simp[World.frozen?,u]
    have y3:Hid _:=W;have y0:Hid _:=X;have k0:Hid _:=T;have y:Hid _:=Z;have h4:Hid _:=fun g J r=>S.o.stepF (g:=g) (J:=J) (W3:=r) y4.o j0.o HF.o o P p
    have l:Hid (∀ s:dB,s=(if(dP c.h F).isSome then F else put c.h i F)->gaF (bN (i+1) (aD t)) (i+1) s=gaF (aD t) 0 []):=by
     intro s k9;rw[<-C.o,o,P,k9];rfl
    rw[show iV c.a=106 by rw[p];rfl]at h3;clear h1 G y6 y5 b k h6 u T W X Z p z9 P o C S;go_upto_region 13 with(at_builtin;refine wpList_append_lies _ rfl _ _ 109 rfl H 106 iF _ 1 8 underlying109 j3 j6 j5 k9 rfl Oa (.slice a3 R a5) R j rfl (kG.alloc _) ⟨wr.1.size,0,none⟩ 1 1 [Qd a] rfl rfl (World.news_of_block (cs:=#[Qd a]) (t:=106) (fr:=(0,0)) (by rw[<-z];exact Qk _ _)) (by simp[Value.oneCell']) Oa (by unfold maxLen;omega) Oa (by simp[World.setCell];omega) (wr.1.size+1) (by simp[World.setCell]) ?_;intro g J r h2 h0 k8 z1;have y1:=(h0.cell_far ⟨O,2,none⟩ k0.o y.o).t y3.o;have y2:=(h0.frozen_far ⟨O,2,none⟩ k0.o y.o).t y0.o)
    obtain⟨d,a9⟩:=h4.o g J r h2 h0 k8;clear h4 h2 h0 k8 y1 y2 y3 y0 k0 y kG z m2 z2 p1 pz pne t1 t2 t3 h3;generalize r.setCell ⟨O,2,none⟩ (Qe g (R+1) J)=v at*;have me:=aD9 ⟨a,0,none⟩ v;have r1:v.cell? ⟨N,1,none⟩=some (.map (some I)):=Og d.blk rfl
    have k7:=d.first.look_ok c.h y7;obtain⟨m,rfl⟩:=Oj gk;cases b:(dP c.h F).isSome
    ·rw[b]at k7;have y8:(Lit.int .i64 (i:Int)).wf=true:=by simp[Lit.wf,IntKind.min,IntKind.max,IntKind.bits,IntKind.signed];omega
     obtain⟨W5,k4,h7,k3⟩:=d.first.put (by unfold maxLen;omega) c.h y7 i y8
     have fin:∃ (V Y R:Nat) (F:dB) (D M:Value) (f j:List Value),Qc ((i:Int)+1)= Qc V/\V<=aJ t/\aJ t<=V+m/\GaW H O N I U (Qe gg (aJ t) A) w (aD t) V Y R F D M f j W5/\gaF (bN V (aD t)) V F=gaF (aD t) 0 []/\F.length<=V:=
      ⟨i+1,_,_,_,_,_,_,_,Od,Oa,Oa,d.put y4.o h7 k3,l.o _ (by rw[b];rfl),by rw[oV,b];simpa using z8⟩
     clear h7 k3 l d b;go_wp2;go_roundg m
     case rel=>exact fin
     case measure=>omega
    ·rw[b]at k7
     have fin:∃ (V Y R:Nat) (F:dB) (D M:Value) (f j:List Value),Qc ((i:Int)+1)= Qc V/\V<=aJ t/\aJ t<=V+m/\GaW H O N I U (Qe gg (aJ t) A) w (aD t) V Y R F D M f j v/\gaF (bN V (aD t)) V F=gaF (aD t) 0 []/\F.length<=V:=
      ⟨i+1,_,_,_,_,_,_,_,Od,Oa,Oa,d,l.o _ (by rw[b];rfl),Oa⟩
     clear l d b;go_wp2;go_roundg m
     case rel=>exact fin
     case measure=>omega
  ·have z0: ¬(i:Int) < (aJ t:Int):=Oa
   have z7:i=bG (aD t):=by rw[<-j1.o];omega
   have fin:∃ Y R D M,GaW H O N I U (.slice ao (aJ t) A) w (aD t) (bG (aD t)) Y R (gaF (aD t) 0 []) D M (sE 16 (aD t)) (sE 17 (aD t)) wr:=by
    subst z7;obtain⟨_,e1,e2⟩:=G.fin;have e3:=C.o;rw[nP]at e3;have e4:F=gaF (aD t) 0 []:=e3;rw[e1,e2,e4]at G;exact⟨Y,R,D,M,G⟩
   clear z7 G S C;go_wp2;go_end0
   exact⟨rfl,fin⟩
end
section
variable {H O N I U:Nat} {E:Array Value} {F:dB} {its:List Tr}
def Rs.six(s:Rs)(a:Nd):Rs:=if 6<=a.c then s.fail 5 a.b else s
def qF(a:Nd):Bool:=decide (a.g < 1)||decide (64 < a.g)
def Rs.arr(s:Rs)(a:Nd):Rs:=if qF a then(s.six a).fail 5 a.e else s.six a
theorem aC1{k:Nat}{a:Nd}{l r:Tr}(w:World)(h:iR w k a l r)(d:a.a=16):w.cell? ⟨k,2,none⟩=some (Qc a.c)/\w.cell? ⟨k,1,none⟩=some (Qc a.b)/\w.cell? ⟨k,0,none⟩=some (.string a.h)/\w.cell? ⟨k,3,none⟩=some (Qc a.g)/\w.cell? ⟨k,4,none⟩=some (Qc a.e):=by
 obtain⟨e,b,c,f,g⟩:=bM h (n:=16) d;exact⟨Og b c.2.2,Og b c.2.1,Og b c.1,by grind[cell_of_row],by grind[cell_of_row]⟩
theorem aAH{b:Nat}{a:Nd}{l r:Tr}(q:a.a=16)(c:qF a=true\/qF a=false)(s:Rs)(w:World)(h:lZ H O N I U E F s w)(p:iR w b a l r):
 Calls prog 127 #[Qd N,Qd b] w fun e w'=>e= .returned (.tuple #[])/\lZ H O N I U E F (s.arr a) w'/\Fr H F0 w w':=by
 obtain⟨K,C,_,t,u⟩:=aC1 w p q
 by_cases y:6<=a.c
 ·have n:Hid (s.six a=s.fail 5 a.b):=if_pos y;have v:Hid (iR w b a l r):=p;clear p t u;rcases c with c|c
  ·have d:Hid (s.arr a=(s.fail 5 a.b).fail 5 a.e):=by unfold Hid Rs.arr;rw[c,n.o];rfl
   have h0:a.g < 1\/64 < a.g:=by simpa[qF]using c
   rcases h0 with h0|h0
   ·go_enter func127,ntmps127
    go_wp2_with fail
    refine(dR 5 a.b w h).mono ?_;rintro e g ⟨rfl,m,f⟩;obtain⟨_,_,_,t,u⟩:=aC1 g (dZ v.o f F0.body (fun A z Z o=>o) Oa) q;go_wp2_with fail
    refine(dR 5 a.e g m).mono ?_;rintro e W3 ⟨rfl,j,k⟩;go_wp2;go_end0
    exact⟨rfl,by rw[d.o];exact j,f.t k⟩
   ·have x: ¬a.g < 1:=Oa
    go_enter func127,ntmps127
    go_wp2_with fail
    refine(dR 5 a.b w h).mono ?_;rintro e g ⟨rfl,m,f⟩;obtain⟨_,_,_,t,u⟩:=aC1 g (dZ v.o f F0.body (fun A z Z o=>o) Oa) q;go_wp2_with fail
    refine(dR 5 a.e g m).mono ?_;rintro e W3 ⟨rfl,j,k⟩;go_wp2;go_end0
    exact⟨rfl,by rw[d.o];exact j,f.t k⟩
  ·have d:Hid (s.arr a=s.fail 5 a.b):=by unfold Hid Rs.arr;rw[c,n.o];rfl
   obtain⟨h0,x⟩: ¬a.g < 1/\¬64 < a.g:=by simp[qF]at c;omega
   go_enter func127,ntmps127
   go_wp2_with fail
   refine(dR 5 a.b w h).mono ?_;rintro e g ⟨rfl,m,f⟩;obtain⟨_,_,_,t,u⟩:=aC1 g (dZ v.o f F0.body (fun A z Z o=>o) Oa) q;go_wp2;go_end0
   exact⟨rfl,by rw[d.o];exact m,f⟩
 ·have n:Hid (s.six a=s):=if_neg y;clear p;rcases c with c|c
  ·have d:Hid (s.arr a=s.fail 5 a.e):=by unfold Hid Rs.arr;rw[c,n.o];rfl
   have h0:a.g < 1\/64 < a.g:=by simpa[qF]using c
   rcases h0 with h0|h0
   ·go_enter func127,ntmps127
    go_wp2_with fail
    refine(dR 5 a.e w h).mono ?_;rintro e W3 ⟨rfl,j,k⟩;go_wp2;go_end0
    exact⟨rfl,by rw[d.o];exact j,k⟩
   ·have x: ¬a.g < 1:=Oa
    go_enter func127,ntmps127
    go_wp2_with fail
    refine(dR 5 a.e w h).mono ?_;rintro e W3 ⟨rfl,j,k⟩;go_wp2;go_end0
    exact⟨rfl,by rw[d.o];exact j,k⟩
  ·have d:Hid (s.arr a=s):=by unfold Hid Rs.arr;rw[c,n.o];rfl
   obtain⟨h0,x⟩: ¬a.g < 1/\¬64 < a.g:=by simp[qF]at c;omega
   go_enter func127,ntmps127
   go_wp2;go_end0
   exact⟨rfl,by rw[d.o];exact h,Fr.refl _ _ _⟩
def Rs.r0(s:Rs)(F:dB)(a:Nd)(i:Nat):Rs:=if(dP a.h F).getD 0=(i:Int)then s else s.fail 4 a.b
def itR(F:dB)(its:List Tr)(t:Tr)(i:Nat)(s:Rs):Rs:=match t with
 | .nil=>s
 | .node b o a l r=>if a.a=16 then(s.r0 F a i).arr a else fnR F its (.node b o a l r) (s.r0 F a i)
def itT(F:dB)(its:List Tr)(t:Tr)(i:Nat)(s:Rs):Tr:=match t with
 | .nil=> .nil
 | .node b o a l r=>if a.a=16 then .node b o a l r else fnT F its (.node b o a l r) (s.r0 F a i)
theorem oD{b o:Nat}{a:Nd}{l r:Tr}(h:Ws 7 (.node b o a l r))(e:a.a=17):Ws 6 l/\∃ x y z p q,r= .node x y z p q/\z.a=18/\Ws 5 p/\Ws 4 q:=by
 obtain⟨_,m,n,h0,c,d⟩:=h.parts;rw[e]at h0;cases h0;refine⟨c,?_⟩;cases r with
 |nil=>grind[Ws,eX]
 |node x y z p q=>
  obtain⟨_,sp,k,j,f,g⟩:=d.parts
  grind[mD]
theorem aK9(u:TypeId)(v:Value)(w:World):(Instr.typeAssert (.iface u v) 151 192 true).run prog w= .ok (.tuple #[if u=192 then v else .pointer none,.bool (decide (u=192))]) w:=iO _ u v w underlying192 Od
theorem aK7(u:TypeId)(v:Value)(w:World):(Instr.typeAssert (.iface u v) 151 106 true).run prog w= .ok (.tuple #[if u=106 then v else .pointer none,.bool (decide (u=106))]) w:=iO _ u v w underlying106 Od
theorem aFZ(b:Nat)(w:World):Calls prog 384 #[Qd b] w fun e w'=>e= .returned (Qd b)/\w=w':=by
 go_enter func384,ntmps384
 go_wp2;go_ret;trivial
theorem aFY(b:Nat)(w:World):Calls prog 382 #[Qd b] w fun e w'=>e= .returned (Qd b)/\w=w':=by
 go_enter func382,ntmps382
 go_wp2;go_ret;trivial
theorem aL7{b o:Nat}{a:Nd}{l r:Tr}(h5:aNP its)(u:Ws 7 (.node b o a l r))(hF:dE H (.node b o a l r))(h8:(ps (.node b o a l r)).Nodup)(W:20000+fT (.node b o a l r)<=1000000)(i:Nat)(_:i<=100000)(s:Rs)(w:World)(h:yB H O N I U E F its s w)(hi:bU w (.node b o a l r)):
 Calls prog 73 #[Qd N,Qc i,aH (.node b o a l r)] w (aG4 H O N I U E F its (.node b o a l r) (itT F its (.node b o a l r) i s) (itR F its (.node b o a l r) i s) w):=by
 obtain⟨_,_,_,_,_,e7,h7⟩:=jU u;simp only[BT.node.injEq]at e7;obtain⟨rfl,rfl,rfl,rfl,rfl⟩:=e7;have q:a.h.size<=maxLen:=by have:=u.parts.1.h;unfold maxLen;omega
 have hv:aH (.node b o a l r)= .iface (iV a.a) (Qd b):=Oh;rw[hv];clear hv;have h0:=hi.2.2;have c1:w.cell? ⟨N,1,none⟩=some (.map (some I)):=h.rs.cell 1
 obtain⟨n0,n1⟩:w.cell? ⟨b,0,none⟩=some (.string a.h)/\w.cell? ⟨b,1,none⟩=some (Qc a.b):=by
  rcases h7 with c|c
  ·obtain⟨cs,P,q,_⟩:=bM h0 (n:=16) c;exact⟨Og P q.1,Og P q.2.1⟩
  ·obtain⟨cs,P,q,_⟩:=bM h0 (n:=17) c;exact⟨Og P q.1,Og P q.2.1⟩
 have a7:∀ n,(Instr.lookup 147 (.map (some I)) (.string a.h) false).run prog (w.drewN n)= .ok (Qc ((dP a.h F).getD 0)) (w.drewN n):=fun n=>(h.rs.drewN n).first.look a.h q;have t1:=fun a2 a3 w=>aK9 a2 a3 w;have t2:=fun a2 a3 w=>aK7 a2 a3 w;have m1:=fun w=>aDA ⟨b,0,none⟩ w;have m2:=fun w=>aD9 ⟨b,0,none⟩ w;rcases h7 with c|c
 ·have C:itR F its (.node b o a l r) i s=(s.r0 F a i).arr a:=if_pos c;have K:itT F its (.node b o a l r) i s= .node b o a l r:=if_pos c;rw[C,K,show iV a.a=192 by rw[c];rfl]
  have S:Hid (∀ f W3,Fr H F0 w f->Fr H F0 f W3->lZ H O N I U E F ((s.r0 F a i).arr a) W3->aG4 H O N I U E F its (.node b o a l r) (.node b o a l r) ((s.r0 F a i).arr a) w (.returned (.tuple #[])) W3):=by
   intro f W3 d m k;have x:=d.t m;exact⟨rfl,h.fr k x F0.body,bU.fr x (fun t p T=>absurd T id) u hi (fun _ _ _ h=>h),x.mono F0.to⟩
  have HO:Hid (iR w b a l r):=h0;have V:Hid (a.a=16):=c;have hb:qF a=true\/qF a=false:=by cases qF a<;>simp
  clear C K h0 hi u hF h8 W h5
  by_cases g:(dP a.h F).getD 0=(i:Int)
  ·have j:s.r0 F a i=s:=if_pos g;rw[j]at S ⊢;have h9:((dP a.h F).getD 0 !=(i:Int))=false:=by simpa using g
   have y:=h.rs;clear j g c h;go_enter func73,ntmps73
   go_wp2_with fail
   refine(aFZ b w).mono ?_;rintro e w' ⟨rfl,rfl⟩;go_wp2_with fail
   go_quiet (fail)
   go_wp2_with fail
   refine(aAH V.o hb s _ (y.drewN nq) HO.o).mono ?_;rintro e W3 ⟨rfl,k,m⟩;go_wp2;go_end0
   exact S.o _ W3 ((Fr.refl H F0 w).drewN nq) m k
  ·have j:s.r0 F a i=s.fail 4 a.b:=if_neg g;rw[j]at S ⊢;have h9:((dP a.h F).getD 0 !=(i:Int))=true:=by simpa using g
   have y:=h.rs;clear j g c h;go_enter func73,ntmps73
   go_wp2_with fail
   refine(aFZ b w).mono ?_;rintro e w' ⟨rfl,rfl⟩;go_wp2_with fail
   go_quiet (fail)
   go_wp2_with fail
   refine(dR 4 a.b _ (y.drewN nq)).mono ?_;rintro e f ⟨rfl,X,d⟩;have o2:iR f b a l r:=dZ (w:=w.drewN nq) HO.o d F0.body (fun p T a6 hq=>hq) (Oi V.o);go_wp2_with fail
   refine(aAH V.o hb (s.fail 4 a.b) f X o2).mono ?_;rintro e W3 ⟨rfl,k,m⟩;go_wp2;go_end0
   exact S.o f W3 (((Fr.refl H F0 w).drewN nq).t d) m k
 ·obtain⟨k2,x,z,A,p,v,rfl,hz,k1,k0⟩:=oD u c;have C:itR F its (.node b o a l (.node x z A p v)) i s=fnR F its (.node b o a l (.node x z A p v)) (s.r0 F a i):=Oh;have K:itT F its (.node b o a l (.node x z A p v)) i s=fnT F its (.node b o a l (.node x z A p v)) (s.r0 F a i):=Oh;rw[C,K,show iV a.a=106 by rw[c];rfl]
  have k3:20000+fT p+fT v<=1000000:=by
   rw[iH,iH]at W;omega
  have FN:Hid (∀ s w,yB H O N I U E F its s w->bU w (.node b o a l (.node x z A p v))->_):=aDL h5 c hz k2 k1 k0 hF h8 k3;have a4:Hid (∀ f,Fr H F0 w f->bU f (.node b o a l (.node x z A p v))):=fun f d=>bU.fr d (fun t p T=>absurd T id) u hi (fun _ _ _ h=>h);have HN:Hid (yB H O N I U E F its s w):=h;have y:=h.rs;clear C K h0 hi u hF h8 W h5 h k2 k1 k0 k3 c
  by_cases g:(dP a.h F).getD 0=(i:Int)
  ·have j:s.r0 F a i=s:=if_pos g;rw[j];have h9:((dP a.h F).getD 0 !=(i:Int))=false:=by simpa using g
   clear j g;go_enter func73,ntmps73
   go_wp2_with fail
   refine(aFY b w).mono ?_;rintro e w' ⟨rfl,rfl⟩;go_wp2_with fail
   go_quiet (fail)
   have d:=(Fr.refl H F0 w).drewN nq;have Z:=FN.o s (w.drewN nq) (HN.o.fr (y.drewN nq) d F0.body) (a4.o _ d);go_wp2_with fail
   refine Z.mono ?_;rintro e W3 ⟨rfl,k,i3,m⟩;go_wp2;go_end0
   exact⟨rfl,k,i3,(d.mono F0.to).t m⟩
  ·have j:s.r0 F a i=s.fail 4 a.b:=if_neg g;rw[j];have h9:((dP a.h F).getD 0 !=(i:Int))=true:=by simpa using g
   clear j g;go_enter func73,ntmps73
   go_wp2_with fail
   refine(aFY b w).mono ?_;rintro e w' ⟨rfl,rfl⟩;go_wp2_with fail
   go_quiet (fail)
   go_wp2_with fail
   refine(dR 4 a.b _ (y.drewN nq)).mono ?_;rintro e f ⟨rfl,X,a5⟩;have d:=((Fr.refl H F0 w).drewN nq).t a5;have Z:=FN.o (s.fail 4 a.b) f (HN.o.fr X d F0.body) (a4.o _ d);go_wp2_with fail
   refine Z.mono ?_;rintro e W3 ⟨rfl,k,i3,m⟩;go_wp2;go_end0
   exact⟨rfl,k,i3,(d.mono F0.to).t m⟩
end
end Go.Proofs.YtikffmloeifkpaaGreatDoor
