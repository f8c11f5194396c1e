/- Contracts. -/
import Derived.Test.YtikffmloeifkpaaGreatDoorQ12
import Derived.Deep.Cut
set_option maxHeartbeats 8000000
set_option maxRecDepth 100000
namespace Go.Proofs.YtikffmloeifkpaaGreatDoor
section
open Go.RowKit Go.Lib Go.Deep Go.ChangeMaps Go.MapKept
def aL:Nat->Tr->Tr
 |0,t=>t
 |_+1,.nil=> .nil
 |n+1,.node _ _ _ _ r=>aL n r
theorem pZ{cs:Array Value}:∀ (i o:Nat) (l:Tr),jO cs o l->jO cs (o+i) (aL i l):=by
 intro i
 induction i with
 |zero=>intro o l h;exact h
 |succ n ih=>
  intro o l h;cases l with
  |nil=>trivial
  |node b q a e r=>rw[show o+(n+1)=o+1+n by omega];exact ih _ r h.2
theorem dK:∀ (i:Nat) (l:Tr),i < aO l->∃ b o a e r,aL i l= .node b o a e r/\aL (i+1) l=r:=by
 intro i
 induction i with
 |zero=>
  intro l h;cases l with
  |nil=>exact absurd h (Nat.not_lt_zero _)
  |node b o a e r=>exact⟨b,o,a,e,r,rfl,rfl⟩
 |succ n ih=>
  intro l h;cases l with
  |nil=>exact absurd h (Nat.not_lt_zero _)
  |node b o a e r=>exact ih r (by simp only[aO]at h;omega)
theorem eS:∀ (l:Tr),aL (aO l) l= .nil:=by
 intro l
 induction l with
 |nil=>rfl
 |node b o a e r _ ih=>exact ih
def fE(Q:Tr->Prop):Tr->Prop
 | .nil=>True
 | .node _ _ a e r=>a.tag=15/\Q e/\fE Q r
theorem fE.drop{Q:Tr->Prop}:∀ (i:Nat) (l:Tr),fE Q l->fE Q (aL i l):=by
 intro i
 induction i with
 |zero=>intro l h;exact h
 |succ n ih=>
  intro l h;cases l with
  |nil=>trivial
  |node b o a e r=>exact ih r h.2.2
theorem nQ{w:World}:∀ (i:Nat) (l:Tr),IsT w l->IsT w (aL i l):=by
 intro i
 induction i with
 |zero=>intro l h;exact h
 |succ n ih=>
  intro l h;cases l with
  |nil=>trivial
  |node b o a e r=>exact ih r h.2.1
theorem aY{s b o:Nat}{a:Nd}{e r:Tr}(hs:s=13\/s=14\/s=15\/s=16\/s=18)(h:Ws s (.node b o a e r)):a.tag=15/\Ws (if s=13 then 0 else if s=14 then 2 else if s=15 then 20 else if s=16 then 22 else 7) e/\Ws s r:=by
 obtain⟨_,x,y,h0,h1,h2⟩:=h.parts
 by_cases h3:a.tag=15
 ·refine⟨h3,?_⟩;rw[h3]at h0;rcases hs with rfl|rfl|rfl|rfl|rfl<;>cases h0<;>exact⟨h1,h2⟩
 ·exfalso;rcases hs with rfl|rfl|rfl|rfl|rfl<;>simp[sig,h3]at h0
theorem eX{s:Nat}(hs:s=13\/s=14\/s=15\/s=16\/s=18):∀ (i:Nat) (l:Tr),Ws s l->Ws s (aL i l):=by
 intro i
 induction i with
 |zero=>intro l h;exact h
 |succ n ih=>
  intro l h;cases l with
  |nil=>exact h
  |node b o a e r=>exact ih r (aY hs h).2.2
theorem lT:∀ (i:Nat) (l:Tr),(ps l).Nodup->(ps (aL i l)).Nodup:=by
 intro i
 induction i with
 |zero=>intro l h;exact h
 |succ n ih=>
  intro l h;cases l with
  |nil=>exact h
  |node b o a e r=>exact ih r (dZ h).right
theorem rU:∀ (i:Nat) (l:Tr) (p:Int),p∈ps (aL i l)->p∈ps l:=by
 intro i
 induction i with
 |zero=>intro l p h;exact h
 |succ n ih=>
  intro l p h;cases l with
  |nil=>exact h
  |node b o a e r=>exact jE (ih r p h)
def bCF:Tr->Tr
 | .nil=> .nil
 | .node _ _ _ l _=>l
variable {H pb rb fb vb:Nat} {pc:Array Value} {F:cM} {its:List Tr}
theorem Ws.lst{s:Nat}{t:Tr}(hs:s=3\/s=4\/s=5\/s=6\/s=8)(h:Ws s t):t= .nil\/∃ b o a l,t= .node b o a l .nil/\a.tag=20/\Ws (10+s) l:=by
 cases t with
 |nil=>exact .inl rfl
 |node b o a l r=>
  right;obtain⟨_,x,y,h0,h1,h2⟩:=h.parts
  by_cases h3:a.tag=20
  ·rw[h3]at h0;have e:x=10+s/\y=99:=by rcases hs with rfl|rfl|rfl|rfl|rfl<;>cases h0<;>exact⟨rfl,rfl⟩
   obtain⟨rfl,rfl⟩:=e;obtain rfl:=h2.nil_of;exact⟨b,o,a,l,rfl,h3,h1⟩
  ·exfalso;rcases hs with rfl|rfl|rfl|rfl|rfl<;>simp[sig,h3]at h0
theorem Ws.elems{s:Nat}{t:Tr}(hs:s=3\/s=4\/s=5\/s=6\/s=8)(h:Ws s t):Ws (10+s) (YtikffmloeifkpaaGreatDoor.bCF t):=by
 rcases h.lst hs with rfl|⟨b,o,a,l,rfl,_,h1⟩
 ·unfold YtikffmloeifkpaaGreatDoor.bCF Ws bK;omega
 ·exact h1
theorem Ws.lstval{s:Nat}{t:Tr}(hs:s=3\/s=4\/s=5\/s=6\/s=8)(h:Ws s t):∃ ao cp,bCH t= .slice ao (aD t) cp:=by
 rcases h.lst hs with rfl|⟨b,o,a,l,rfl,ht,_⟩
 ·exact⟨none,0,rfl⟩
 ·exact⟨_,_,if_pos ht⟩
theorem aT(t:Tr):aD t=aO (bCF t):=by cases t<;>rfl
theorem Ws.lstrs{s:Nat}{t:Tr}(hs:s=3\/s=4\/s=5\/s=6\/s=8)(h:Ws s t)(S:Rs):rsT F its t S=rsT F its (YtikffmloeifkpaaGreatDoor.bCF t) S:=by
 rcases h.lst hs with rfl|⟨b,o,a,l,rfl,ht,_⟩
 ·rfl
 ·rw[jM (fun h=>Oa)];have:rs1 F its a (aD l) S=S:=by unfold rs1;rw[Oh,Oh,Oh,Oh]
  rw[this];rfl
theorem jU{s:Nat}{t:Tr}(hs:s=3\/s=4\/s=5\/s=6\/s=8)(h:Ws s t):ps t=ps (bCF t):=by
 rcases h.lst hs with rfl|⟨b,o,a,l,rfl,ht,_⟩
 ·rfl
 ·show(if a.tag=6 then _ else if eO a.tag then _ else _)=_;rw[ht];show ps l++[]=ps l;simp
theorem aE8{s:Nat}{t:Tr}{P:TypeId->Int->Prop}{w w':World}{S:Rs}(hs:s=3\/s=4\/s=5\/s=6\/s=8)(h:Ws s t)(hi:IsT w t)(hx:Fr H P w w')(hP:∀ t p,P t p->bCI t)(hd:IsT w' (reT F its (bCF t) S)):IsT w' (reT F its t S):=by
 rcases h.lst hs with rfl|⟨b,o,a,l,rfl,ht,hl⟩
 ·trivial
 ·rw[mL (fun h=>Oa)];have h1:rs1 F its a (aD l) S=S:=by unfold rs1;rw[Oh,Oh,Oh,Oh]
  have h2:wh1 F its a (aD l) S=a.which:=by unfold wh1;rw[Oh,Oh,Oh]
  rw[h1,h2];have ho:=hi.2.2;have h3:=(aI ho (n:=20) ht).1;have h0:po a=[]:=by unfold po;rw[ht];rfl
  have o2:=dH.fr hx (fun t p hp=>(hP t p hp).pos) ho (fun p hp=>by rw[h0]at hp;cases hp) (fun e=>⟨h.list e h3,fun p _ hq=>absurd (hP _ _ hq) (by unfold bCI;decide)⟩);exact⟨hd,trivial,gZ o2 (dJ _ _ _ _) (Sh.refl _)⟩
theorem gQ{s:Nat}{w:World}{t:Tr}(hs:s=3\/s=4\/s=5\/s=6\/s=8)(h:Ws s t){P:TypeId->Int->Prop}{w0:World}(hi:IsT w0 t)(hx:Fr H P w0 w)(hP:∀ t p,P t p->bCI t){ao:Option Addr}{n cp i:Nat}(hv:bCH t= .slice ao n cp){b o:Nat}{a:Nd}{e r:Tr}(hd:aL i (bCF t)= .node b o a e r)(hE:∃ b o a l r,e= .node b o a l r/\a.tag≠19/\a.tag≠7):
 ∃ g,ao=some ⟨g,0,none⟩/\w.cell? ⟨g,i,none⟩=some (bCH e):=by
 rcases h.lst hs with rfl|⟨b0,o0,a0,l0,rfl,ht,_⟩
 ·cases i<;>cases hd
 ·have h0:bCH (.node b0 o0 a0 l0 .nil)= .slice (some ⟨b0,0,none⟩) (aO l0) o0:=if_pos ht;rw[h0]at hv;simp only[Value.slice.injEq]at hv;refine⟨b0,hv.1.symm,?_⟩;have ho:=hi.2.2;have h4:=(aI ho (n:=20) ht).1;have h3:po a0=[]:=by unfold po;rw[ht];rfl
  have o2:=dH.fr hx (fun t p hp=>(hP t p hp).pos) ho (fun p hp=>by rw[h3]at hp;cases hp) (fun e=>⟨h.list e h4,fun p _ hq=>absurd (hP _ _ hq) (by unfold bCI;decide)⟩);obtain⟨_,cs,hc,hr⟩:=aI o2 (n:=20) ht;have h1:=pZ i 0 l0 hr;replace hd:aL i l0= .node b o a e r:=hd;rw[hd,Nat.zero_add]at h1;obtain⟨b2,o2,a2,l2,r2,rfl,h5,h7⟩:=hE;have h2:(if a2.tag=19 then Nam cs (i*3) a2 else if a2.tag=7 then cs[i]?=some (cB (.node b2 o2 a2 l2 r2))else cs[i]?=some (bCH (.node b2 o2 a2 l2 r2))):=h1.1;rw[if_neg h5,if_neg h7]at h2;rw[cell_of_row _ _ _ _ _ _ hc];exact h2
structure LpN(H pb rb fb vb:Nat)(pc:Array Value)(F:cM)(its:List Tr)(L:Tr)(S1:Rs)(W1:World)(i:Nat)(si:Rs)(wr:World):Prop where
 rs:RsW H pb rb fb vb pc F si wr
 fr:Fr H (Pt L) W1 wr
 rest:IsT wr (aL i L)
 wand:∀ w2,Fr H (Pt (aL i L)) wr w2->IsT w2 (reT F its (aL i L) si)->IsT w2 (reT F its L S1)
 run:rsT F its (aL i L) si=rsT F its L S1
variable {L:Tr} {S1 si:Rs} {W1 wr w3:World} {i:Nat}
theorem LpN.start(h:RsW H pb rb fb vb pc F S1 W1)(hi:IsT W1 L):LpN H pb rb fb vb pc F its L S1 W1 0 S1 W1:=⟨h,Fr.refl _ _ _,hi,fun _ _ h=>h,rfl⟩
theorem LpN.step(h:LpN H pb rb fb vb pc F its L S1 W1 i si wr){s:Nat}(hs:s=13\/s=14\/s=15\/s=16\/s=18)(hw:Ws s L)(h8:(ps L).Nodup){b o:Nat}{a:Nd}{e r:Tr}(hd:aL i L= .node b o a e r)(h0:aL (i+1) L=r)(h1:RsW H pb rb fb vb pc F (rsT F its e si) w3)(h2:IsT w3 (reT F its e si))(h3:Fr H (Pt e) wr w3):LpN H pb rb fb vb pc F its L S1 W1 (i+1) (rsT F its e si) w3:=by
 have h4:=eX hs i _ hw;have uq:=lT i _ h8;have h5:=rU i L;obtain⟨_,h9,rest,wand,run⟩:=h;rw[hd]at h4 uq h5 rest wand run;obtain⟨k0,h7,h6⟩:=aY hs h4;have uq:=dZ uq;have n9: ¬(a.tag=9/\a.flag=true):=fun h=>Oa
 have e1:∀ S,rs1 F its a (aD e) S=S:=fun S=>by unfold rs1;rw[Oh,Oh,Oh,Oh]
 have e2:∀ S,wh1 F its a (aD e) S=a.which:=fun S=>by unfold wh1;rw[Oh,Oh,Oh]
 rw[mL n9,e1,e2]at wand;rw[jM n9,e1]at run;refine⟨h1,h9.trans (h3.mono fun t p hp=>⟨hp.1,h5 p (fT hp.2)⟩),?_,fun w2 hx hi=>?_,?_⟩
 ·rw[h0];exact IsT.fr h3 (fun t p hp=>(Pt.body t p hp).pos) h6 rest.2.1 (Pt.out uq.apart)
 ·rw[h0]at hx hi;refine wand w2 ((h3.mono Pt.left).trans (hx.mono Pt.right)) ⟨?_,hi,?_⟩
  ·exact qE h2 hx h7 (dJ _ _ _ _) uq.apart_
  ·unfold Own;rw[k0];trivial
 ·rw[h0];exact run
theorem LpN.fin(h:LpN H pb rb fb vb pc F its L S1 W1 (aO L) si wr):si=rsT F its L S1/\IsT wr (reT F its L S1):=by
 obtain⟨_,_,_,wand,run⟩:=h;rw[eS]at wand run;exact⟨run,wand wr (Fr.refl _ _ _) trivial⟩
theorem aOO{b o:Nat}{a:Nd}{l r:Tr}(ht:a.tag=3)(hw:Ws 0 (.node b o a l r))(hH:aUI H (.node b o a l r))(j5:(ps (.node b o a l r)).Nodup)(hfew:aD l<=1000000)(z6:∀ b o a l r,(BT.node b o a l r)∈its->a.tag=17->Ws 6 l/\aD l<=1000000)(hA:fE (fun e=>Ws 0 e/\GN 195 H pb rb fb vb pc F its bCH e) (bCF l)):GN 249 H pb rb fb vb pc F its cB (.node b o a l r):=by
 obtain⟨z8,sx,sy,y6,k8,j7⟩:=hw.parts;rw[ht]at y6;cases y6;obtain rfl:=j7.nil_of;have hn:a.name.size<=maxLen:=by have:=z8.name;unfold maxLen;omega
 have uq:=dZ j5;have j8:=hH.2.2 (by unfold gY;omega);intro s w h hi;have hN:=rX hi.2.2 j8 (.inr (.inr (.inl ht)));have n9: ¬(a.tag=9/\a.flag=true):=fun h=>Oa
 have own2:∀ w',Own w' b a l .nil->w'.cell? ⟨b,3,none⟩=some (bCH l):=by
  intro w' ho;obtain⟨cs,hc,_,h3,_⟩:=aI ho (n:=3) ht;rw[cell_of_row _ _ _ _ _ _ hc];exact h3
 have z4:rs1 F its a (aD l) s=s.callName F its a.name a.npos (aD l):=by simp[rs1,ht]
 have j3:wh1 F its a (aD l) s=iY F its a.name (aD l) a.which:=by simp[wh1,ht]
 have n0:=hN.c0;have n1:=hN.c1;obtain⟨q2,n2⟩:∃ q,w.cell? ⟨b,2,none⟩=some (.int .i64 q):=hN.c2;have f2:=hN.froz 2;obtain⟨ao,cp,k7⟩:=k8.lstval Ox;have mA:=own2 w hi.2.2;rw[k7]at mA;have y8:=jU Ox k8
 have fin0:∀ (S1:Rs) (g:Int->Int) (W1 wr:World),s.callName F its a.name a.npos (aD l)=S1->iY F its a.name (aD l)=g->Fr H (Po a) w W1->Wr b 2 g w W1->IsT W1 l->Fr H (Pt (bCF l)) W1 wr->RsW H pb rb fb vb pc F (rsT F its (bCF l) S1) wr->IsT wr (reT F its (bCF l) S1)->
  bCY H pb rb fb vb pc F (Pt (.node b o a l .nil)) (reT F its (.node b o a l .nil) s) (rsT F its (.node b o a l .nil) s) w (.returned (.tuple #[])) wr:=by
  intro S1 g W1 wr e1 e2 x1 wr1 i1 xr hr ir;have xr':Fr H (Pt l) W1 wr:=xr.mono fun t p hp=>⟨hp.1,by rw[y8];exact hp.2⟩;have o1:=tH hi.2.2 (.inr (.inr (.inl ht))) wr1;have o3:=cX o1 xr' Pt.body (fun p hp ty hq=>uq.own_l p hp hq.2) (by show a.tag≠20;omega);refine⟨rfl,?_,?_,(x1.mono Po.to).trans (xr'.mono Pt.left)⟩
  ·rw[jM n9,z4,e1];show RsW H pb rb fb vb pc F (rsT F its l S1) wr;rw[k8.lstrs Ox];exact hr
  ·rw[mL n9,z4,j3,e1,e2];refine⟨aE8 Ox k8 i1 xr' Pt.body ir,trivial,gZ o3 (dJ _ _ _ _) (Sh.refl _)⟩
 have own1:∀ (g:Int->Int) (W1:World),Wr b 2 g w W1->W1.cell? ⟨b,3,none⟩=some (bCH l):=fun g W1 wr1=>by
  obtain⟨cs,hc,_,h3,_⟩:=aI (tH hi.2.2 (.inr (.inr (.inl ht))) wr1) (n:=3) ht;rw[cell_of_row _ _ _ _ _ _ hc];exact h3
 have isl:∀ (W1:World),Fr H (Po a) w W1->IsT W1 l:=fun W1 x1=>IsT.fr x1 (fun t p hp=>(Po.body t p hp).pos) k8 hi.1 (Po.out uq.own_l);have j4:∀ S (W1:World),RsW H pb rb fb vb pc F S W1->Fr H (Po a) w W1->NsW H pb rb fb vb pc F its S W1:=fun S W1 h1 x1=>h.fr h1 x1 Po.body;have y7:(ps (bCF l)).Nodup:=by rw[<-y8];exact uq.left
 have y5:=k8.elems Ox
 have isel:∀ W1,IsT W1 l->IsT W1 (bCF l):=fun W1 h=>by
  cases l with
  |nil=>trivial
  |node=>exact h.1
 have HF:Hid _:=fin0;have HI:Hid _:=isl;have HW:Hid _:=own1;have k9:Hid _:=j4;have h7:Hid _:=isel;have z2:Hid _:=y7;have z1:Hid _:=y5;have z0:Hid (Ws 3 l):=k8;have HPS:Hid _:=y8;have t1:=yB w;have t2:=fun q=>pS q w;have t3:=fun q=>wU q w;clear fin0 isl own1 j4 isel y7 y5 k8 y8 z4 j3 n9 uq j5 hH hw;show Calls Tryz.prog 249 #[.pointer (some ⟨rb,0,none⟩),.pointer (some ⟨b,0,none⟩)] w (bCY H pb rb fb vb pc F (Pt (.node b o a l .nil)) (reT F its (.node b o a l .nil) s) (rsT F its (.node b o a l .nil) s) w);rcases tJ h a.name with hm|⟨b5,o5,a5,l5,r5,hm,h4,y2⟩|⟨b5,o5,a5,l5,r5,hm,h4,y2⟩
 ·obtain⟨S1,k0⟩:∃ S1,S1=s.fail 4 a.npos:=⟨_,rfl⟩;have k5:Hid (s.callName F its a.name a.npos (aD l)=S1):=by unfold Hid;rw[k0];unfold Rs.callName eK;rw[hm]
  have k6:Hid (iY F its a.name (aD l)=fun q=>q):=by unfold Hid;funext q;unfold iY eK;rw[hm]
  go_enter Tryz.func249,Tryz.ntmps249
  go_wp2_with fail
  refine(iM w h.rs h.it h.fo hn).mono ?_;rintro e W2 ⟨rfl,rfl⟩;rw[hm];unfold uC;go_wp2_with fail
  refine(bCJ 4 a.npos _ h.rs).mono ?_;rintro e W1 ⟨rfl,h1,x1'⟩;rw[<-k0]at h1;have wr1:Wr b 2 (fun q=>q) w W1:=Wr.id (hN.keep0 x1');have x1:Fr H (Po a) w W1:=x1'.mono F0.to;clear x1' k0;have m3:=HW.out _ _ wr1;rw[k7]at m3;have i1:=HI.out _ x1;have y3:Hid _:=k9.out _ _ h1 x1;have y4:Hid _:=i1;have L0:=LpN.start (its:=its) (L:=bCF l) h1 (h7.out _ i1);have FIN:Hid _:=fun wr=>HF.out _ _ W1 wr k5.out k6.out x1 wr1 i1;clear i1 h1 x1 wr1 k5 k6 HF k9 h7 HI HW;go_wp2_with fail
  go_loopg [62] (aD l) (fun m v wr=>∃ (i:Nat) (si:Rs),v= .int .i64 i/\i<=aD l/\aD l<=i+m/\LpN H pb rb fb vb pc F its (bCF l) S1 W1 i si wr)
  case atStart=>exact⟨0,S1,rfl,Qe _,Oa,L0⟩
  case round=>
   clear L0;obtain⟨i,si,rfl,z9,hm,LP⟩:=hrel;have k1:Hid _:=LP
   by_cases y1:i < aD l
   ·have h8:(i:Int) < (aD l:Int):=Oa
    obtain⟨b2,o2,a2,e2,r2,hd,k3⟩:=dK i (bCF l) (by rw[<-aT];exact y1);have k4:=fE.drop i _ hA;rw[hd]at k4;obtain⟨j2,⟨hE,hG⟩,_⟩:=k4
    obtain⟨gg,rfl,h5⟩:=gQ Ox z0.out y4.out LP.fr Pt.body k7 hd (by
     cases e2 with
     |nil=>exact absurd hE (by unfold Ws bK;omega)
     |node b o a l r=>
      obtain⟨_,x,y,e,_⟩:=hE.parts;exact⟨b,o,a,l,r,rfl,fun h=>(by rw[h]at e;cases e),fun h=>(by rw[h]at e;cases e)⟩)
    obtain⟨u,p,y0⟩:=hE.val Ox;have h9:=LP.rest;rw[hd]at h9;have h0:=hG si wr (y3.out.fr LP.rs LP.fr Pt.body) h9.1;rw[y0]at h5 h0;have h2:Hid _:=fun w3=>k1.out.step (w3:=w3) Ox z1.out z2.out hd k3;clear hG hE hd k3 h9 LP;go_wp2_with fail
    refine h0.mono ?_;rintro e W3 ⟨rfl,h3,i3,x3⟩;obtain⟨m,rfl⟩:=Oj gk
    have fin:∃ (i':Nat) (si:Rs),Value.int .i64 ((i:Int)+1)= .int .i64 i'/\i'<=aD l/\aD l<=i'+m/\LpN H pb rb fb vb pc F its (bCF l) S1 W1 i' si W3:=
     ⟨i+1,_,Od,Oa,Oa,h2.out W3 h3 i3 x3⟩
    clear h2 k1 h3 i3 x3;go_wp2;go_roundg m
    case rel=>exact fin
    case measure=>omega
   ·have h8: ¬(i:Int) < (aD l:Int):=Oa
    have k2:i=aO (bCF l):=by rw[<-aT];omega
    have fin:bCY H pb rb fb vb pc F (Pt (.node b o a l .nil)) (reT F its (.node b o a l .nil) s) (rsT F its (.node b o a l .nil) s) w (.returned (.tuple #[])) wr:=by
     subst k2;obtain⟨e1,e2⟩:=LP.fin;have hr:=LP.rs;rw[e1]at hr;exact FIN.out wr LP.fr hr e2
    clear k2 LP k1 FIN;go_wp2;go_end0
    exact fin
 ·obtain⟨S1,k0⟩:∃ S1,S1=s.fail 4 a.npos:=⟨_,rfl⟩;have k5:Hid (s.callName F its a.name a.npos (aD l)=S1):=by unfold Hid;rw[k0];unfold Rs.callName eK;rw[hm];simp[h4]
  have k6:Hid (iY F its a.name (aD l)=fun q=>q):=by unfold Hid;funext q;unfold iY eK;rw[hm];simp[h4]
  have hv:bCH (.node b5 o5 a5 l5 r5)= .iface 192 (.pointer (some ⟨b5,0,none⟩)):=by show(if a5.tag=20 then _ else _)=_;rw[Oh,h4];rfl
  clear y2 h4;go_enter Tryz.func249,Tryz.ntmps249
  go_wp2_with fail
  refine(iM w h.rs h.it h.fo hn).mono ?_;rintro e W2 ⟨rfl,rfl⟩;rw[hm];unfold uC;dsimp only;rw[hv];go_wp2_with fail
  refine(bCJ 4 a.npos _ h.rs).mono ?_;rintro e W1 ⟨rfl,h1,x1'⟩;rw[<-k0]at h1;have wr1:Wr b 2 (fun q=>q) w W1:=Wr.id (hN.keep0 x1');have x1:Fr H (Po a) w W1:=x1'.mono F0.to;clear x1' k0 hv;have m3:=HW.out _ _ wr1;rw[k7]at m3;have i1:=HI.out _ x1;have y3:Hid (NsW H pb rb fb vb pc F its S1 W1):=k9.out _ _ h1 x1;have y4:Hid (IsT W1 l):=i1;have L0:=LpN.start (its:=its) (L:=bCF l) h1 (h7.out _ i1);have FIN:Hid _:=fun wr=>HF.out _ _ W1 wr k5.out k6.out x1 wr1 i1;clear i1 h1 x1 wr1 k5 k6 HF k9 h7 HI HW;go_wp2_with fail
  go_loopg [62] (aD l) (fun m v wr=>∃ (i:Nat) (si:Rs),v= .int .i64 i/\i<=aD l/\aD l<=i+m/\LpN H pb rb fb vb pc F its (bCF l) S1 W1 i si wr)
  case atStart=>exact⟨0,S1,rfl,Qe _,Oa,L0⟩
  case round=>
   clear L0;obtain⟨i,si,rfl,z9,hm,LP⟩:=hrel;have k1:Hid _:=LP
   by_cases y1:i < aD l
   ·have h8:(i:Int) < (aD l:Int):=Oa
    obtain⟨b2,o2,a2,e2,r2,hd,k3⟩:=dK i (bCF l) (by rw[<-aT];exact y1);have k4:=fE.drop i _ hA;rw[hd]at k4;obtain⟨j2,⟨hE,hG⟩,_⟩:=k4
    obtain⟨gg,rfl,h5⟩:=gQ Ox z0.out y4.out LP.fr Pt.body k7 hd (by
     cases e2 with
     |nil=>exact absurd hE (by unfold Ws bK;omega)
     |node b o a l r=>
      obtain⟨_,x,y,e,_⟩:=hE.parts;exact⟨b,o,a,l,r,rfl,fun h=>(by rw[h]at e;cases e),fun h=>(by rw[h]at e;cases e)⟩)
    obtain⟨u,p,y0⟩:=hE.val Ox;have h9:=LP.rest;rw[hd]at h9;have h0:=hG si wr (y3.out.fr LP.rs LP.fr Pt.body) h9.1;rw[y0]at h5 h0;have h2:Hid _:=fun w3=>k1.out.step (w3:=w3) Ox z1.out z2.out hd k3;clear hG hE hd k3 h9 LP;go_wp2_with fail
    refine h0.mono ?_;rintro e W3 ⟨rfl,h3,i3,x3⟩;obtain⟨m,rfl⟩:=Oj gk
    have fin:∃ (i':Nat) (si:Rs),Value.int .i64 ((i:Int)+1)= .int .i64 i'/\i'<=aD l/\aD l<=i'+m/\LpN H pb rb fb vb pc F its (bCF l) S1 W1 i' si W3:=
     ⟨i+1,_,Od,Oa,Oa,h2.out W3 h3 i3 x3⟩
    clear h2 k1 h3 i3 x3;go_wp2;go_roundg m
    case rel=>exact fin
    case measure=>omega
   ·have h8: ¬(i:Int) < (aD l:Int):=Oa
    have k2:i=aO (bCF l):=by rw[<-aT];omega
    have fin:bCY H pb rb fb vb pc F (Pt (.node b o a l .nil)) (reT F its (.node b o a l .nil) s) (rsT F its (.node b o a l .nil) s) w (.returned (.tuple #[])) wr:=by
     subst k2;obtain⟨e1,e2⟩:=LP.fin;have hr:=LP.rs;rw[e1]at hr;exact FIN.out wr LP.fr hr e2
    clear k2 LP k1 FIN;go_wp2;go_end0
    exact fin
 ·have hv:bCH (.node b5 o5 a5 l5 r5)= .iface 106 (.pointer (some ⟨b5,0,none⟩)):=by show(if a5.tag=20 then _ else _)=_;rw[Oh,h4];rfl
  obtain⟨j1,hfew5⟩:=z6 b5 o5 a5 l5 r5 (aAY hm) h4;obtain⟨ao5,cp5,z3⟩:=j1.lstval Ou;obtain⟨cs5,y9,⟨_,_,z5⟩,z7⟩:=y2;have m5:w.cell? ⟨b5,2,none⟩=some (.int .i64 a5.which):=Og y9 z5
  have m6:w.cell? ⟨b5,3,none⟩=some (.slice ao5 (aD l5) cp5):=by rw[cell_of_row _ _ _ _ _ _ y9,z7,z3]
  by_cases h6:aD l=aD l5
  ·obtain⟨S1,k0⟩:∃ S1,S1=s:=⟨_,rfl⟩;have k5:Hid (s.callName F its a.name a.npos (aD l)=S1):=by unfold Hid;rw[k0];unfold Rs.callName eK;rw[hm];simp[h4,h6]
   have k6:Hid (iY F its a.name (aD l)=fun _=>a5.which):=by unfold Hid;funext q;unfold iY eK;rw[hm];simp[h4,h6]
   have hw:=fun n=>(hN.drewN n).write (h.rs.drewN n) a5.which;have j6:Hid _:=hw;have j0:((aD l:Int)!=(aD l5:Int))=false:=by simp[h6]
   have HLn:Hid (aD l=aD l5):=h6;clear h4 y9 z7 z5 z3 j1 hw h6;go_enter Tryz.func249,Tryz.ntmps249
   go_wp2_with fail
   refine(iM w h.rs h.it h.fo hn).mono ?_;rintro e W2 ⟨rfl,rfl⟩;rw[hm];unfold uC;dsimp only;rw[hv];go_wp2_with fail
   go_quiet (fail)
   obtain⟨h1,x1',_,_⟩:=j6.out nq;rw[<-k0]at h1;have x1:=((Fr.refl H (Po a) w).drewN nq).trans x1';have wr1:Wr b 2 (fun _=>a5.which) w ((w.drewN nq).setCell ⟨b,0+2,none⟩ (.int .i64 a5.which)):=Wr.after (w:=w.drewN nq) (fun _ _ h=>h) (Wr.of_set _);rw[Nat.zero_add]at h1 x1 wr1;clear j6 x1' j0 k0 hv;go_upto_region 6 with fail
   generalize (w.drewN nq).setCell ⟨b,2,none⟩ (.int .i64 a5.which)=W1 at*;have m3:=HW.out _ _ wr1;rw[k7]at m3;have i1:=HI.out _ x1;have y3:Hid (NsW H pb rb fb vb pc F its S1 W1):=k9.out _ _ h1 x1;have y4:Hid (IsT W1 l):=i1;have L0:=LpN.start (its:=its) (L:=bCF l) h1 (h7.out _ i1);have FIN:Hid _:=fun wr=>HF.out _ _ W1 wr k5.out k6.out x1 wr1 i1;clear i1 h1 x1 wr1 k5 k6 HF k9 h7 HI HW;go_wp2_with fail
   go_loopg [62] (aD l) (fun m v wr=>∃ (i:Nat) (si:Rs),v= .int .i64 i/\i<=aD l/\aD l<=i+m/\LpN H pb rb fb vb pc F its (bCF l) S1 W1 i si wr)
   case atStart=>exact⟨0,S1,rfl,Qe _,Oa,L0⟩
   case round=>
    clear L0;obtain⟨i,si,rfl,z9,hm,LP⟩:=hrel;have k1:Hid _:=LP
    by_cases y1:i < aD l
    ·have h8:(i:Int) < (aD l:Int):=Oa
     obtain⟨b2,o2,a2,e2,r2,hd,k3⟩:=dK i (bCF l) (by rw[<-aT];exact y1);have k4:=fE.drop i _ hA;rw[hd]at k4;obtain⟨j2,⟨hE,hG⟩,_⟩:=k4
     obtain⟨gg,rfl,h5⟩:=gQ Ox z0.out y4.out LP.fr Pt.body k7 hd (by
      cases e2 with
      |nil=>exact absurd hE (by unfold Ws bK;omega)
      |node b o a l r=>
       obtain⟨_,x,y,e,_⟩:=hE.parts;exact⟨b,o,a,l,r,rfl,fun h=>(by rw[h]at e;cases e),fun h=>(by rw[h]at e;cases e)⟩)
     obtain⟨u,p,y0⟩:=hE.val Ox;have h9:=LP.rest;rw[hd]at h9;have h0:=hG si wr (y3.out.fr LP.rs LP.fr Pt.body) h9.1;rw[y0]at h5 h0;have h2:Hid _:=fun w3=>k1.out.step (w3:=w3) Ox z1.out z2.out hd k3;clear hG hE hd k3 h9 LP;go_wp2_with fail
     refine h0.mono ?_;rintro e W3 ⟨rfl,h3,i3,x3⟩;obtain⟨m,rfl⟩:=Oj gk
     have fin:∃ (i':Nat) (si:Rs),Value.int .i64 ((i:Int)+1)= .int .i64 i'/\i'<=aD l/\aD l<=i'+m/\LpN H pb rb fb vb pc F its (bCF l) S1 W1 i' si W3:=
      ⟨i+1,_,Od,Oa,Oa,h2.out W3 h3 i3 x3⟩
     clear h2 k1 h3 i3 x3;go_wp2;go_roundg m
     case rel=>exact fin
     case measure=>omega
    ·have h8: ¬(i:Int) < (aD l:Int):=Oa
     have k2:i=aO (bCF l):=by rw[<-aT];omega
     have fin:bCY H pb rb fb vb pc F (Pt (.node b o a l .nil)) (reT F its (.node b o a l .nil) s) (rsT F its (.node b o a l .nil) s) w (.returned (.tuple #[])) wr:=by
      subst k2;obtain⟨e1,e2⟩:=LP.fin;have hr:=LP.rs;rw[e1]at hr;exact FIN.out wr LP.fr hr e2
     clear k2 LP k1 FIN;go_wp2;go_end0
     exact fin
  ·obtain⟨S1,k0⟩:∃ S1,S1=s.fail 5 a.npos:=⟨_,rfl⟩;have k5:Hid (s.callName F its a.name a.npos (aD l)=S1):=by unfold Hid;rw[k0];unfold Rs.callName eK;rw[hm];simp[h4,h6]
   have k6:Hid (iY F its a.name (aD l)=fun q=>q):=by unfold Hid;funext q;unfold iY eK;rw[hm];simp[h4,h6]
   have j0:((aD l:Int)!=(aD l5:Int))=true:=by simpa using fun h=>h6 Oa
   clear h4 y9 z7 z5 z3 j1 h6;go_enter Tryz.func249,Tryz.ntmps249
   go_wp2_with fail
   refine(iM w h.rs h.it h.fo hn).mono ?_;rintro e W2 ⟨rfl,rfl⟩;rw[hm];unfold uC;dsimp only;rw[hv];go_wp2_with fail
   go_quiet (fail)
   go_wp2_with fail
   refine(bCJ 5 a.npos _ (h.rs.drewN nq)).mono ?_;rintro e W1 ⟨rfl,h1,x1'⟩;rw[<-k0]at h1;have wr1:Wr b 2 (fun q=>q) w W1:=Wr.id ((hN.drewN nq).keep0 x1');have x1:Fr H (Po a) w W1:=((Fr.refl H (Po a) w).drewN nq).trans (x1'.mono F0.to);clear j0 x1' k0 hv;have m3:=HW.out _ _ wr1;rw[k7]at m3;have i1:=HI.out _ x1;have y3:Hid (NsW H pb rb fb vb pc F its S1 W1):=k9.out _ _ h1 x1;have y4:Hid (IsT W1 l):=i1;have L0:=LpN.start (its:=its) (L:=bCF l) h1 (h7.out _ i1);have FIN:Hid _:=fun wr=>HF.out _ _ W1 wr k5.out k6.out x1 wr1 i1;clear i1 h1 x1 wr1 k5 k6 HF k9 h7 HI HW;go_wp2_with fail
   go_loopg [62] (aD l) (fun m v wr=>∃ (i:Nat) (si:Rs),v= .int .i64 i/\i<=aD l/\aD l<=i+m/\LpN H pb rb fb vb pc F its (bCF l) S1 W1 i si wr)
   case atStart=>exact⟨0,S1,rfl,Qe _,Oa,L0⟩
   case round=>
    clear L0;obtain⟨i,si,rfl,z9,hm,LP⟩:=hrel;have k1:Hid _:=LP
    by_cases y1:i < aD l
    ·have h8:(i:Int) < (aD l:Int):=Oa
     obtain⟨b2,o2,a2,e2,r2,hd,k3⟩:=dK i (bCF l) (by rw[<-aT];exact y1);have k4:=fE.drop i _ hA;rw[hd]at k4;obtain⟨j2,⟨hE,hG⟩,_⟩:=k4
     obtain⟨gg,rfl,h5⟩:=gQ Ox z0.out y4.out LP.fr Pt.body k7 hd (by
      cases e2 with
      |nil=>exact absurd hE (by unfold Ws bK;omega)
      |node b o a l r=>
       obtain⟨_,x,y,e,_⟩:=hE.parts;exact⟨b,o,a,l,r,rfl,fun h=>(by rw[h]at e;cases e),fun h=>(by rw[h]at e;cases e)⟩)
     obtain⟨u,p,y0⟩:=hE.val Ox;have h9:=LP.rest;rw[hd]at h9;have h0:=hG si wr (y3.out.fr LP.rs LP.fr Pt.body) h9.1;rw[y0]at h5 h0;have h2:Hid _:=fun w3=>k1.out.step (w3:=w3) Ox z1.out z2.out hd k3;clear hG hE hd k3 h9 LP;go_wp2_with fail
     refine h0.mono ?_;rintro e W3 ⟨rfl,h3,i3,x3⟩;obtain⟨m,rfl⟩:=Oj gk
     have fin:∃ (i':Nat) (si:Rs),Value.int .i64 ((i:Int)+1)= .int .i64 i'/\i'<=aD l/\aD l<=i'+m/\LpN H pb rb fb vb pc F its (bCF l) S1 W1 i' si W3:=
      ⟨i+1,_,Od,Oa,Oa,h2.out W3 h3 i3 x3⟩
     clear h2 k1 h3 i3 x3;go_wp2;go_roundg m
     case rel=>exact fin
     case measure=>omega
    ·have h8: ¬(i:Int) < (aD l:Int):=Oa
     have k2:i=aO (bCF l):=by rw[<-aT];omega
     have fin:bCY H pb rb fb vb pc F (Pt (.node b o a l .nil)) (reT F its (.node b o a l .nil) s) (rsT F its (.node b o a l .nil) s) w (.returned (.tuple #[])) wr:=by
      subst k2;obtain⟨e1,e2⟩:=LP.fin;have hr:=LP.rs;rw[e1]at hr;exact FIN.out wr LP.fr hr e2
     clear k2 LP k1 FIN;go_wp2;go_end0
     exact fin
end
section
open Go.RowKit Go.Lib Go.Deep Go.ChangeMaps Go.MapKept
variable {H pb rb fb vb:Nat} {pc:Array Value} {F:cM} {its:List Tr}
theorem pU(u:TypeId)(v:Value)(w:World):(Instr.typeAssert (.iface u v) 335 253 true).run Tryz.prog w= .ok (.tuple #[if u=253 then v else .pointer none,.bool (decide (u=253))]) w:=eY _ u v w Tryz.underlying253 (by kernel_rfl)
theorem uF(u:TypeId)(v:Value)(w:World):(Instr.typeAssert (.iface u v) 335 407 true).run Tryz.prog w= .ok (.tuple #[if u=407 then v else .pointer none,.bool (decide (u=407))]) w:=eY _ u v w Tryz.underlying407 (by kernel_rfl)
theorem xZ{b o:Nat}{a:Nd}{l r:Tr}{w W2 W3:World}{s:Rs}{sl sr:Nat}(h1:Ws sl l)(_hwr:Ws sr r)(uq:Uq a l r)(h0:a.tag≠20)(h9: ¬(a.tag=9/\a.flag=true))(h2:wh1 F its a (aD l) s=a.which)(h3:rs1 F its a (aD l) s=s)(ho:Own w b a l r)(x2:Fr H (Pt l) w W2)(i2:IsT W2 (reT F its l s))(x3:Fr H (Pt r) W2 W3)(i3:IsT W3 (reT F its r (rsT F its l s))):
 IsT W3 (reT F its (.node b o a l r) s)/\Fr H (Pt (.node b o a l r)) w W3:=by
 have o2:=cX ho x2 Pt.body (fun p hp ty hq=>uq.own_l p hp hq.2) h0;have o3:=cX o2 x3 Pt.body (fun p hp ty hq=>uq.own_r p hp hq.2) h0;have l3:=qE i2 x3 h1 (dJ _ _ _ _) uq.apart_;rw[mL h9,h2,h3];exact⟨⟨l3,i3,gZ o3 (dJ _ _ _ _) (dJ _ _ _ _)⟩,(x2.mono Pt.left).trans (x3.mono Pt.right)⟩
theorem gV{b o:Nat}{a:Nd}{l r:Tr}{w W2:World}{sr:Nat}(h0:Ws sr r)(uq:Uq a l r)(hi:IsT w (.node b o a l r))(x2:Fr H (Pt l) w W2)(h1:a.tag≠20):IsT W2 r/\Own W2 b a l r:=
 ⟨IsT.fr x2 (fun t p hp=>(Pt.body t p hp).pos) h0 hi.2.1 (Pt.out uq.apart),cX hi.2.2 x2 Pt.body (fun p hp _ty hq=>uq.own_l p hp hq.2) h1⟩
theorem tG{a:Nd}{n:Nat}{s:Rs}(h:a.tag≠1/\a.tag≠2/\a.tag≠3/\a.tag≠9/\a.tag≠10): ¬(a.tag=9/\a.flag=true)/\wh1 F its a n s=a.which/\rs1 F its a n s=s:=by
 refine⟨fun e=>h.2.2.2.1 e.1,?_,?_⟩
 ·unfold wh1;rw[Oh,Oh,Oh]
 ·unfold rs1;rw[Oh,Oh,Oh,Oh]
theorem aOH{b o:Nat}{a:Nd}{l r:Tr}(hw:Ws 1 (.node b o a l r))(y4:(ps (.node b o a l r)).Nodup)(h7:a.tag=7->Ws 0 l/\Ws 0 r/\GN 195 H pb rb fb vb pc F its bCH l/\GN 195 H pb rb fb vb pc F its bCH r)(h8:a.tag=8->Ws 1 l/\Ws 1 r/\GN 303 H pb rb fb vb pc F its bCH l/\GN 303 H pb rb fb vb pc F its bCH r):GN 303 H pb rb fb vb pc F its bCH (.node b o a l r):=by
 intro s w h hi;obtain⟨y3,sx,sy,k1,k9,k5⟩:=hw.parts
 have ht:a.tag=7\/a.tag=8:=by
  by_cases h1:a.tag=7
  ·exact .inl h1
  by_cases h2:a.tag=8
  ·exact .inr h2
  ·exfalso;simp[sig,h1,h2]at k1
 have uq:=dZ y4;obtain⟨n9,y0,k6⟩:=tG (F:=F) (its:=its) (a:=a) (n:=aD l) (s:=s) Oa;have k2:a.tag≠20:=Oa
 have h5:=hi.2.2;have hv:bCH (.node b o a l r)= .iface (bZ a.tag) (.pointer (some ⟨b,0,none⟩)):=if_neg k2;rw[hv];clear hv k1 y3;have t1:=fun u v=>pU u v w;have t2:=fun u v=>uF u v w;have FIN:Hid _:=fun W2 W3 x2 i2 x3 i3=>xZ (H:=H) (o:=o) (W2:=W2) (W3:=W3) k9 k5 uq k2 n9 y0 k6 h5 x2 i2 x3 i3;have RK:Hid _:=fun W2 x2=>gV (H:=H) (W2:=W2) k5 uq hi x2 k2;have h6:rsT F its (.node b o a l r) s=rsT F its r (rsT F its l s):=by rw[jM n9,k6]
 rw[h6];have HN:Hid (NsW H pb rb fb vb pc F its s w):=h;rcases ht with k7|k8
 ·obtain⟨k0,h9,k4,k3⟩:=h7 k7;obtain⟨u,p,y2⟩:=k0.val Ox;obtain⟨u2,p2,y1⟩:=h9.val Ox;have HR:Hid (GN 195 H pb rb fb vb pc F its bCH r):=k3
  have own2:∀ w',Own w' b a l r->w'.cell? ⟨b,2,none⟩=some (bCH l)/\w'.cell? ⟨b,3,none⟩=some (bCH r):=by
   intro w' ho;obtain⟨cs,hc,_,_,h2,h3⟩:=aI ho (n:=7) k7;exact⟨Og hc h2,Og hc h3⟩
  have m2:=(own2 w h5).1;have y5:Hid _:=own2;have h4:=k4 s w h hi.1;rw[y2]at m2 h4;rw[show bZ a.tag=253 by rw[k7];rfl];clear h7 h8 k4 k3 h5 n9 uq y4 hi hw k2 y0 k6 h6 k9 k5 k0 h9 own2 k7 h;go_enter Tryz.func303,Tryz.ntmps303
  go_wp2_with fail
  refine h4.mono ?_;rintro e W2 ⟨rfl,h2,i2,x2⟩;obtain⟨j2,o2⟩:=RK.out W2 x2;have m3:=(y5.out W2 o2).2;have h0:=HR.out _ _ (HN.out.fr h2 x2 Pt.body) j2;rw[y1]at m3 h0;go_wp2_with fail
  refine h0.mono ?_;rintro e W3 ⟨rfl,h3,i3,x3⟩;go_wp2;go_end0
  obtain⟨f1,f2⟩:=FIN.out W2 W3 x2 i2 x3 i3;exact⟨rfl,h3,f1,f2⟩
 ·obtain⟨k0,h9,k4,k3⟩:=h8 k8;obtain⟨u,p,y2⟩:=k0.val Ow;obtain⟨u2,p2,y1⟩:=h9.val Ow;have HR:Hid (GN 303 H pb rb fb vb pc F its bCH r):=k3
  have own2:∀ w',Own w' b a l r->w'.cell? ⟨b,1,none⟩=some (bCH l)/\w'.cell? ⟨b,2,none⟩=some (bCH r):=by
   intro w' ho;obtain⟨cs,hc,_,h2,h3⟩:=aI ho (n:=8) k8;exact⟨Og hc h2,Og hc h3⟩
  have m2:=(own2 w h5).1;have y5:Hid _:=own2;have h4:=k4 s w h hi.1;rw[y2]at m2 h4;rw[show bZ a.tag=407 by rw[k8];rfl];clear h7 h8 k4 k3 h5 n9 uq y4 hi hw k2 y0 k6 h6 k9 k5 k0 h9 own2 k8 h;go_enter Tryz.func303,Tryz.ntmps303
  go_wp2_with fail
  refine h4.mono ?_;rintro e W2 ⟨rfl,h2,i2,x2⟩;obtain⟨j2,o2⟩:=RK.out W2 x2;have m3:=(y5.out W2 o2).2;have h0:=HR.out _ _ (HN.out.fr h2 x2 Pt.body) j2;rw[y1]at m3 h0;go_wp2_with fail
  refine h0.mono ?_;rintro e W3 ⟨rfl,h3,i3,x3⟩;go_wp2;go_end0
  obtain⟨f1,f2⟩:=FIN.out W2 W3 x2 i2 x3 i3;exact⟨rfl,h3,f1,f2⟩
def eE:Tr->Nat
 | .nil=>0
 | .node _ _ a l r=>(if a.tag=9 then 1 else 0)+eE l+eE r
theorem jG(s:Rs)(x:ByteArray)(p m:Int):(s.newVar x p m).vars=s.vars:=by
 unfold Rs.newVar
 split<;>split<;>simp[Rs.fail_vars]
theorem wY(s:Rs)(x:ByteArray)(p:Int):(s.oldVar x p).vars=s.vars:=by
 unfold Rs.oldVar
 split
 ·rfl
 ·exact Rs.fail_vars _ _ _
theorem aDO(a:Nd)(n:Nat)(s:Rs):(rs1 F its a n s).vars=s.vars:=by
 unfold rs1
 split
 ·split
  ·exact jG _ _ _ _
  ·exact wY _ _ _
 split
 ·exact wY _ _ _
 split
 ·unfold Rs.arrayName;split
  ·rfl
  ·exact Rs.fail_vars _ _ _
 split
 ·unfold Rs.callName
  split
  ·split
   ·rfl
   ·exact Rs.fail_vars _ _ _
  ·exact Rs.fail_vars _ _ _
 ·rfl
theorem aA4(s:Rs)(x:ByteArray):(s.addVar x).vars.length<=s.vars.length+1:=by
 unfold Rs.addVar;dsimp only;rw[nO]
 split<;>omega
theorem rM:∀ (t:Tr) (s:Rs),(rsT F its t s).vars.length<=s.vars.length+eE t:=by
 intro t
 induction t with
 |nil=>intro s;exact Qc _
 |node b o a l r ihl ihr=>
  intro s;have h1:=ihl (rs1 F its a (aD l) s);rw[aDO]at h1;show(if _ then _ else _:Rs).vars.length<=s.vars.length+((if a.tag=9 then 1 else 0)+eE l+eE r)
  split
  ·rename_i h9;have:=aA4 (rsT F its l (rs1 F its a (aD l) s)) a.name;rw[if_pos h9.1];omega
  ·have h2:=ihr (rsT F its l (rs1 F its a (aD l) s));omega
end
section
open Go.RowKit Go.Lib Go.Deep Go.ChangeMaps Go.MapKept
variable {H pb rb fb vb:Nat} {pc:Array Value} {F:cM} {its:List Tr}
def GS(f H pb rb fb vb:Nat)(pc:Array Value)(F:cM)(its:List Tr)(val:Tr->Value)(t:Tr):Prop:=
 ∀ s w,NsW H pb rb fb vb pc F its s w->IsT w t->s.vars.length+eE t<=1000000->Calls Tryz.prog f #[.pointer (some ⟨rb,0,none⟩),val t] w (bCY H pb rb fb vb pc F (Pt t) (reT F its t s) (rsT F its t s) w)
theorem aQ1{b o:Nat}{a:Nd}{l r:Tr}(ht:a.tag=9)(hw:Ws 2 (.node b o a l r))(hH:aUI H (.node b o a l r))(h9:(ps (.node b o a l r)).Nodup)(hl:Ws 0 l/\GN 195 H pb rb fb vb pc F its bCH l):GS 302 H pb rb fb vb pc F its cB (.node b o a l r):=by
 obtain⟨h8,sx,sy,h6,h7,k6⟩:=hw.parts;rw[ht]at h6;cases h6;obtain rfl:=k6.nil_of;have hn:a.name.size<=maxLen:=by have:=h8.name;unfold maxLen;omega
 have uq:=dZ h9;have k5:H<=b:=hH.2.2 (by unfold gY;omega);intro s w h hi k4;have hN:=rX hi.2.2 k5 (.inr (.inr (.inr (.inl ht))));obtain⟨u,p,k3⟩:=h7.val Ox;have HL:Hid (GN 195 H pb rb fb vb pc F its bCH l):=hl.2
 have own2:∀ w' a',a'.tag=9->Own w' b a' l .nil->w'.cell? ⟨b,3,none⟩=some (bCH l):=by
  intro w' a' k7 ho;obtain⟨cs,hc,_,h3,_⟩:=aI ho (n:=9) k7;rw[cell_of_row _ _ _ _ _ _ hc];exact h3
 have mf:w.cell? ⟨b,4,none⟩=some (.bool a.flag):=by
  obtain⟨cs,hc,_,_,h3⟩:=aI hi.2.2 (n:=9) ht;rw[cell_of_row _ _ _ _ _ _ hc];exact h3
 have HN:Hid (NsW H pb rb fb vb pc F its s w):=h;have HI:Hid (IsT w (.node b o a l .nil)):=hi;have HU:Hid (Uq a l .nil):=uq;have HT:Hid (a.tag=9):=ht;show Calls Tryz.prog 302 #[.pointer (some ⟨rb,0,none⟩),.pointer (some ⟨b,0,none⟩)] w _;cases hfl:a.flag
 ·rw[hfl]at mf;have n9: ¬(a.tag=9/\a.flag=true):=fun h=>by rw[hfl]at h;cases h.2
  have h1:rs1 F its a (aD l) s=s.oldVar a.name a.npos:=by unfold rs1;rw[if_pos ht,hfl];rfl
  have k2:wh1 F its a (aD l) s=(look a.name s.vars).getD 0:=by unfold wh1;rw[if_pos (.inr ht)]
  rw[mL n9,jM n9,h1,k2];have k1:Hid _:=own2;clear hl hw hH h9 uq h1 k2 n9 own2 k4 ht hi hfl;go_enter Tryz.func302,Tryz.ntmps302
  go_wp2_with fail
  refine(yP w h.rs hN hn).mono ?_;rintro e W2 ⟨rfl,h2,x2,wr2⟩;have o2:Own W2 b {a with which:=(look a.name s.vars).getD 0} l .nil:=tH HI.out.2.2 (.inr (.inr (.inr (.inl HT.out)))) wr2;have i2:IsT W2 l:=IsT.fr x2 (fun t p hp=>(Po.body t p hp).pos) h7 HI.out.1 (Po.out HU.out.own_l);have m3:=k1.out W2 {a with which:=(look a.name s.vars).getD 0} HT.out o2;have h0:=HL.out _ _ (HN.out.fr h2 x2 Po.body) i2;rw[k3]at m3 h0;have k0:Hid (Own W2 b {a with which:=(look a.name s.vars).getD 0} l .nil):=o2;clear o2 wr2 i2 HN;go_wp2_with fail
  refine h0.mono ?_;rintro e W3 ⟨rfl,h3,i3,x3⟩;go_wp2;refine bodyPost_ret (results_none rfl _ _ _) rfl ?_;have o3:=cX k0.out x3 Pt.body (fun p hp ty hq=>HU.out.own_l p hp hq.2) (by have:=HT.out;show a.tag≠20;omega);exact⟨rfl,h3,⟨i3,trivial,gZ o3 (dJ _ _ _ _) (Sh.refl _)⟩,(x2.mono Po.to).trans (x3.mono Pt.left)⟩
 ·rw[hfl]at mf;have h1:rs1 F its a (aD l) s=s.newVar a.name a.npos 12:=by unfold rs1;rw[if_pos ht,hfl];rfl
  have e1:rsT F its (.node b o a l .nil) s=(rsT F its l (s.newVar a.name a.npos 12)).addVar a.name:=by
   show(if _ then _ else _)=_;rw[if_pos ⟨ht,hfl⟩,h1]
  have e2:reT F its (.node b o a l .nil) s= .node b o {a with which:=(rsT F its l (s.newVar a.name a.npos 12)).vars.length} (reT F its l (s.newVar a.name a.npos 12)) .nil:=by
   show(if _ then _ else _)=_;rw[if_pos ⟨ht,hfl⟩,h1]
  rw[e1,e2];have h5:=rM (F:=F) (its:=its) l (s.newVar a.name a.npos 12);rw[jG]at h5
  have k8:(rsT F its l (s.newVar a.name a.npos 12)).vars.length<=1000000:=by
   have:eE (.node b o a l .nil)=1+eE l+0:=by show(if a.tag=9 then 1 else 0)+_+_=_;rw[if_pos ht];rfl
   omega
  have k1:Hid _:=own2;have y1:Hid (∀ w',Own w' b a l .nil->mE H (Po a) w' b 0 a.name a.npos):=fun w' ho=>rX ho k5 (.inr (.inr (.inr (.inl ht))));clear hl hw hH h9 uq h1 own2 k4 ht hi hfl e1 e2 h5;go_enter Tryz.func302,Tryz.ntmps302
  go_wp2_with fail
  refine(tI w 12 h.rs hN hn).mono ?_;rintro e W2 ⟨rfl,h2,x2⟩;have o2:=cX HI.out.2.2 x2 F0.body (fun p hp ty hq=>hq) (Oi HT.out);have i2:IsT W2 l:=IsT.fr x2 (fun t p hp=>absurd hp id) h7 HI.out.1 (fun _ _ _ h=>h);have m3:=k1.out W2 a HT.out o2;have h0:=HL.out _ _ (HN.out.fr h2 x2 F0.body) i2;rw[k3]at m3 h0;have k0:Hid (Own W2 b a l .nil):=o2;clear o2 i2 HN;go_wp2_with fail
  refine h0.mono ?_;rintro e W3 ⟨rfl,h3,i3,x3⟩;have o3:=cX k0.out x3 Pt.body (fun p hp ty hq=>HU.out.own_l p hp hq.2) (Oi HT.out);have k9:=y1.out W3 o3;have y0:Hid (Own W3 b a l .nil):=o3;clear o3;go_wp2_with fail
  refine(tX W3 h3 k9 hn k8).mono ?_;rintro e W4 ⟨rfl,h4,x4,wr4⟩;go_wp2;go_end0
  have o4:Own W4 b {a with which:=((rsT F its l (s.newVar a.name a.npos 12)).vars.length:Int)} l .nil:=tH y0.out (.inr (.inr (.inr (.inl HT.out)))) wr4;have i4:IsT W4 (reT F its l (s.newVar a.name a.npos 12)):=IsT.fr x4 (fun t p hp=>(Po.body t p hp).pos) ((dJ F its l _).ws h7) i3 (by rw[(dJ F its l (s.newVar a.name a.npos 12)).ps];exact Po.out HU.out.own_l);exact⟨rfl,h4,⟨i4,trivial,gZ o4 (dJ _ _ _ _) (Sh.refl _)⟩,((x2.mono F0.to).trans (x3.mono Pt.left)).trans (x4.mono Po.to)⟩
end
section
open Go.RowKit Go.Lib Go.Deep Go.ChangeMaps Go.MapKept
variable {H pb rb fb vb:Nat} {pc:Array Value} {F:cM} {its:List Tr}
theorem kG(u:TypeId)(v:Value)(w:World):(Instr.typeAssert (.iface u v) 250 326 true).run Tryz.prog w= .ok (.tuple #[if u=326 then v else .pointer none,.bool (decide (u=326))]) w:=eY _ u v w Tryz.underlying326 (by kernel_rfl)
theorem gN(u:TypeId)(v:Value)(w:World):(Instr.typeAssert (.iface u v) 250 329 true).run Tryz.prog w= .ok (.tuple #[if u=329 then v else .pointer none,.bool (decide (u=329))]) w:=eY _ u v w Tryz.underlying329 (by kernel_rfl)
theorem pB(u:TypeId)(v:Value)(w:World):(Instr.typeAssert (.iface u v) 250 332 true).run Tryz.prog w= .ok (.tuple #[if u=332 then v else .pointer none,.bool (decide (u=332))]) w:=eY _ u v w Tryz.underlying332 (by kernel_rfl)
theorem iG(u:TypeId)(v:Value)(w:World):(Instr.typeAssert (.iface u v) 250 338 true).run Tryz.prog w= .ok (.tuple #[if u=338 then v else .pointer none,.bool (decide (u=338))]) w:=eY _ u v w Tryz.underlying338 (by kernel_rfl)
theorem iL(u:TypeId)(v:Value)(w:World):(Instr.typeAssert (.iface u v) 250 341 true).run Tryz.prog w= .ok (.tuple #[if u=341 then v else .pointer none,.bool (decide (u=341))]) w:=eY _ u v w Tryz.underlying341 (by kernel_rfl)
theorem pR(u:TypeId)(v:Value)(w:World):(Instr.typeAssert (.iface u v) 250 344 true).run Tryz.prog w= .ok (.tuple #[if u=344 then v else .pointer none,.bool (decide (u=344))]) w:=eY _ u v w Tryz.underlying344 (by kernel_rfl)
theorem jR{b o:Nat}{a:Nd}{l r:Tr}(hw:Ws 2 (.node b o a l r)):9<=a.tag/\a.tag<=14:=by
 obtain⟨_,x,y,h0,_⟩:=hw.parts
 by_cases h1:a.tag=9
 ·omega
 by_cases h2:a.tag=10
 ·omega
 by_cases h3:a.tag=11
 ·omega
 by_cases h4:a.tag=12
 ·omega
 by_cases h5:a.tag=13
 ·omega
 by_cases h6:a.tag=14
 ·omega
 exfalso;simp[sig,h1,h2,h3,h4,h5,h6]at h0
theorem eD(b o:Nat)(a:Nd)(l r:Tr):eE (.node b o a l r)=(if a.tag=9 then 1 else 0)+eE l+eE r:=rfl
theorem aLN{b o:Nat}{a:Nd}{l r:Tr}(hw:Ws 2 (.node b o a l r))(hH:aUI H (.node b o a l r))(y5:(ps (.node b o a l r)).Nodup)(h9:a.tag=9->GS 302 H pb rb fb vb pc F its cB (.node b o a l r))(hE:a.tag=10\/a.tag=13\/a.tag=14->Ws 0 l/\GN 195 H pb rb fb vb pc F its bCH l)(y7:a.tag=10->Ws 0 r/\GN 195 H pb rb fb vb pc F its bCH r)(hC:a.tag=11\/a.tag=12->Ws 1 l/\GN 303 H pb rb fb vb pc F its bCH l)(hB:a.tag=12->Ws 4 r/\GS 196 H pb rb fb vb pc F its bCH r)(hI:a.tag=11->∃ x y z p q,r= .node x y z p q/\z.tag=18/\Ws 4 p/\Ws 4 q/\GS 196 H pb rb fb vb pc F its bCH p/\GS 196 H pb rb fb vb pc F its bCH q):
 GS 250 H pb rb fb vb pc F its bCH (.node b o a l r):=by
 obtain⟨z4,sx,sy,k1,y3,k7⟩:=hw.parts;obtain⟨ht1,ht2⟩:=jR hw;have hn:a.name.size<=maxLen:=by have:=z4.name;unfold maxLen;omega
 have uq:=dZ y5;have j6:H<=b:=hH.2.2 (by unfold gY;omega);intro s w h hi y0;have z5:a.tag≠20:=Oa
 have h8:=hi.2.2;have hv:bCH (.node b o a l r)= .iface (bZ a.tag) (.pointer (some ⟨b,0,none⟩)):=if_neg z5;rw[hv];have t1:=fun u v=>kG u v w;have t2:=fun u v=>gN u v w;have t3:=fun u v=>pB u v w;have t4:=fun u v=>iG u v w;have t5:=fun u v=>iL u v w;have t6:=fun u v=>pR u v w;have HN:Hid (NsW H pb rb fb vb pc F its s w):=h;have HU:Hid (Uq a l r):=uq;have HI:Hid (IsT w (.node b o a l r)):=hi
 by_cases k9:a.tag=9
 ·have h5:=h9 k9 s w h hi y0;have y6:Calls Tryz.prog 302 #[.pointer (some ⟨rb,0,none⟩),.pointer (some ⟨b,0,none⟩)] w (bCY H pb rb fb vb pc F (Pt (.node b o a l r)) (reT F its (.node b o a l r) s) (rsT F its (.node b o a l r) s) w):=h5;rw[show bZ a.tag=326 by rw[k9];rfl];clear h9 hE y7 hC hB hI h5 hw hH y5 uq h8 hv k1 y3 k7 h hi y0 k9;go_enter Tryz.func250,Tryz.ntmps250
  go_wp2_with fail
  refine y6.mono ?_;rintro e W2 ⟨rfl,h2,i2,x2⟩;go_wp2;go_end0
  exact⟨rfl,h2,i2,x2⟩
 have n9: ¬(a.tag=9/\a.flag=true):=fun h=>k9 h.1;have k0:eE (.node b o a l r)=eE l+eE r:=by rw[eD,if_neg k9];omega
 rw[k0]at y0
 by_cases k10:a.tag=10
 ·have y1:rs1 F its a (aD l) s=s.arrayName F its a.name a.npos:=by unfold rs1;rw[Oh,Oh,if_pos (.inr k10)]
  have y2:wh1 F its a (aD l) s=fL F its a.name a.which:=by unfold wh1;rw[Oh,if_pos (.inr k10)]
  rw[mL n9,jM n9,y1,y2];have hN:=rX h8 j6 (.inr (.inr (.inr (.inr k10))));obtain⟨h7,k5⟩:=hE (.inl k10);obtain⟨k3,y9⟩:=y7 k10;obtain⟨u,p,y4⟩:=h7.val Ox;obtain⟨u2,p2,z1⟩:=k3.val Ox;have HL:Hid (GN 195 H pb rb fb vb pc F its bCH l):=k5;have HR:Hid (GN 195 H pb rb fb vb pc F its bCH r):=y9;have HT:Hid (a.tag=10):=k10
  have own2:∀ w' a',a'.tag=10->Own w' b a' l r->w'.cell? ⟨b,3,none⟩=some (bCH l)/\w'.cell? ⟨b,4,none⟩=some (bCH r):=by
   intro w' a' j4 ho;obtain⟨cs,hc,_,h3,h4,_⟩:=aI ho (n:=10) j4;exact⟨Og hc h3,Og hc h4⟩
  have y8:Hid _:=own2;rw[show bZ a.tag=329 by rw[k10];rfl];clear h9 hE y7 hC hB hI hw hH y5 uq h8 hv k1 y3 k7 hi y0 k9 k10 n9 k0 y1 y2 own2 k5 y9;go_enter Tryz.func250,Tryz.ntmps250
  go_wp2_with fail
  refine(sW w h hN hn).mono ?_;rintro e W2 ⟨rfl,h2,x2,wr2⟩;have i2:IsT W2 l:=IsT.fr x2 (fun t p hp=>(Po.body t p hp).pos) h7 HI.out.1 (Po.out HU.out.own_l);have j2:IsT W2 r:=IsT.fr x2 (fun t p hp=>(Po.body t p hp).pos) k3 HI.out.2.1 (Po.out HU.out.own_r);have o2:Own W2 b {a with which:=fL F its a.name a.which} l r:=tH HI.out.2.2 (.inr (.inr (.inr (.inr HT.out)))) wr2;have m3:=(y8.out W2 {a with which:=fL F its a.name a.which} HT.out o2).1;have k4:=HN.out.fr h2 x2 Po.body;have h5:=HL.out _ _ k4 i2;rw[y4]at m3 h5;have j8:Hid (Own W2 b {a with which:=fL F its a.name a.which} l r):=o2;clear o2 wr2 i2;go_wp2_with fail
  refine h5.mono ?_;rintro e W3 ⟨rfl,h3,i3,x3⟩;have o3:Own W3 b {a with which:=fL F its a.name a.which} l r:=cX j8.out x3 Pt.body (fun p hp ty hq=>HU.out.own_l p hp hq.2) (by have:=HT.out;show a.tag≠20;omega);have j3:IsT W3 r:=IsT.fr x3 (fun t p hp=>(Pt.body t p hp).pos) k3 j2 (Pt.out HU.out.apart);have m4:=(y8.out W3 {a with which:=fL F its a.name a.which} HT.out o3).2;have h6:=HR.out _ _ (k4.fr h3 x3 Pt.body) j3;rw[z1]at m4 h6;have j7:Hid (Own W3 b {a with which:=fL F its a.name a.which} l r):=o3;clear o3 j3 j2 k4;go_wp2_with fail
  refine h6.mono ?_;rintro e W4 ⟨rfl,h4,i4,x4⟩;go_wp2;go_end0
  have o4:=cX j7.out x4 Pt.body (fun p hp ty hq=>HU.out.own_r p hp hq.2) (by have:=HT.out;show a.tag≠20;omega);have l4:=qE i3 x4 h7 (dJ _ _ _ _) HU.out.apart_;exact⟨rfl,h4,⟨l4,i4,gZ o4 (dJ _ _ _ _) (dJ _ _ _ _)⟩,((x2.mono Po.to).trans (x3.mono Pt.left)).trans (x4.mono Pt.right)⟩
 obtain⟨_,y2,y1⟩:=tG (F:=F) (its:=its) (a:=a) (n:=aD l) (s:=s) Oa;have k2:rsT F its (.node b o a l r) s=rsT F its r (rsT F its l s):=by rw[jM n9,y1]
 have k8:=rM (F:=F) (its:=its) l s;have FIN:Hid _:=fun W2 W3 x2 i2 x3 i3=>xZ (H:=H) (o:=o) (W2:=W2) (W3:=W3) y3 k7 uq z5 n9 y2 y1 h8 x2 i2 x3 i3;have RK:Hid _:=fun W2 x2=>gV (H:=H) (W2:=W2) k7 uq hi x2 z5
 by_cases k11:a.tag=11
 ·obtain⟨x,y,z,p,q,rfl,hz,z6,z0,z9,z8⟩:=hI k11;obtain⟨h7,k5⟩:=hC (.inl k11);obtain⟨u,pp,y4⟩:=h7.val Ow;obtain⟨ao,cp,j1⟩:=z6.lstval Ow;obtain⟨ao2,cp2,j0⟩:=z0.lstval Ow;have HP:Hid (GS 196 H pb rb fb vb pc F its bCH p):=z9;have HQ:Hid (GS 196 H pb rb fb vb pc F its bCH q):=z8
  have own2:∀ w',Own w' b a l (.node x y z p q)->w'.cell? ⟨b,0,none⟩=some (bCH l)/\w'.cell? ⟨b,1,none⟩=some (bCH p)/\w'.cell? ⟨b,2,none⟩=some (bCH q):=by
   intro w' ho;obtain⟨cs,hc,h0,x',y',z',p',q',e,h1,h2⟩:=aI ho (n:=11) k11;simp only[BT.node.injEq]at e;obtain⟨rfl,rfl,rfl,rfl,rfl⟩:=e;exact⟨Og hc h0,Og hc h1,Og hc h2⟩
  have uq2:=dZ (b:=x) (o:=y) uq.right;obtain⟨zn9,zwh,zrs⟩:=tG (F:=F) (its:=its) (a:=z) (n:=aD p) (s:=rsT F its l s) Oa;have zrun:rsT F its (.node x y z p q) (rsT F its l s)=rsT F its q (rsT F its p (rsT F its l s)):=by rw[jM zn9,zrs]
  have FIN2:Hid _:=fun(w1:World) ho W2 W3 x2 i2 x3 i3=>xZ (H:=H) (b:=x) (o:=y) (W2:=W2) (W3:=W3) (w:=w1) z6 z0 uq2 (by omega:z.tag≠20) zn9 zwh zrs ho x2 i2 x3 i3;have RK2:Hid _:=fun(w1:World) hi2 W2 x2=>gV (H:=H) (b:=x) (o:=y) (W2:=W2) (w:=w1) z0 uq2 hi2 x2 (by omega:z.tag≠20);have z2:=rM (F:=F) (its:=its) p (rsT F its l s);have z7:eE (.node x y z p q)=eE p+eE q:=by rw[eD,Oh];omega
  rw[z7]at y0;have vb1:(rsT F its l s).vars.length+eE p<=1000000:=Oa
  have vb2:(rsT F its p (rsT F its l s)).vars.length+eE q<=1000000:=Oa
  have y8:Hid _:=own2;have m2:=(own2 w h8).1;have h5:=k5 s w h hi.1;rw[y4]at m2 h5;rw[k2,zrun];have HT:Hid (a.tag=11):=k11;rw[show bZ a.tag=332 by rw[k11];rfl];clear h9 hE y7 hC hB hI hw hH y5 uq h8 hv k1 y3 k7 hi y0 k9 k10 k11 n9 k0 y1 y2 own2 k5 z9 z8 uq2 zn9 zwh zrs zrun z2 z7 k2 k8 h h7;go_enter Tryz.func250,Tryz.ntmps250
  go_wp2_with fail
  refine h5.mono ?_;rintro e W2 ⟨rfl,h2,i2,x2⟩;obtain⟨j2,o2⟩:=RK.out W2 x2;have m3:=(y8.out W2 o2).2.1;have k4:=HN.out.fr h2 x2 Pt.body;have h6:=HP.out _ _ k4 j2.1 vb1;rw[j1]at m3 h6;go_wp2_with fail
  refine h6.mono ?_;rintro e W3 ⟨rfl,h3,i3,x3⟩;obtain⟨j3,z3⟩:=RK2.out W2 j2 W3 x3;have x3':Fr H (Pt (.node x y z p q)) W2 W3:=x3.mono Pt.left;have o3:=cX o2 x3' Pt.body (fun p hp ty hq=>HU.out.own_r p hp hq.2) (Oi HT.out);have m4:=(y8.out W3 o3).2.2;have k6:=HQ.out _ _ (k4.fr h3 x3 Pt.body) j3 vb2;rw[j0]at m4 k6;go_wp2_with fail
  refine k6.mono ?_;rintro e W4 ⟨rfl,h4,i4,x4⟩;go_wp2;go_end0
  obtain⟨g1,g2⟩:=FIN2.out W2 j2.2.2 W3 W4 x3 i3 x4 i4;obtain⟨f1,f2⟩:=FIN.out W2 W4 x2 i2 g2 g1;exact⟨rfl,h4,f1,f2⟩
 by_cases k12:a.tag=12
 ·obtain⟨h7,k5⟩:=hC (.inr k12);obtain⟨k3,y9⟩:=hB k12;obtain⟨u,pp,y4⟩:=h7.val Ow;obtain⟨ao,cp,z1⟩:=k3.lstval Ow;have HR:Hid (GS 196 H pb rb fb vb pc F its bCH r):=y9
  have own2:∀ w',Own w' b a l r->w'.cell? ⟨b,0,none⟩=some (bCH l)/\w'.cell? ⟨b,1,none⟩=some (bCH r):=by
   intro w' ho;obtain⟨cs,hc,h2,h3⟩:=aI ho (n:=12) k12;exact⟨Og hc h2,Og hc h3⟩
  have m2:=(own2 w h8).1;have y8:Hid _:=own2;have h5:=k5 s w h hi.1;have vb1:(rsT F its l s).vars.length+eE r<=1000000:=Oa
  rw[y4]at m2 h5;rw[k2];rw[show bZ a.tag=338 by rw[k12];rfl];clear h9 hE y7 hC hB hI hw hH y5 uq h8 hv k1 y3 k7 hi y0 k9 k10 k11 k12 n9 k0 y1 y2 own2 k5 y9 k2 k8 h h7 k3;go_enter Tryz.func250,Tryz.ntmps250
  go_wp2_with fail
  refine h5.mono ?_;rintro e W2 ⟨rfl,h2,i2,x2⟩;obtain⟨j2,o2⟩:=RK.out W2 x2;have m3:=(y8.out W2 o2).2;have h6:=HR.out _ _ (HN.out.fr h2 x2 Pt.body) j2 vb1;rw[z1]at m3 h6;go_wp2_with fail
  refine h6.mono ?_;rintro e W3 ⟨rfl,h3,i3,x3⟩;go_wp2;go_end0
  obtain⟨f1,f2⟩:=FIN.out W2 W3 x2 i2 x3 i3;exact⟨rfl,h3,f1,f2⟩
 have k1314:a.tag=13\/a.tag=14:=Oa
 have j5:r= .nil:=by
  have:sy=99:=by rcases k1314 with h|h<;>rw[h]at k1<;>cases k1<;>rfl
  subst this;exact k7.nil_of
 subst j5;obtain⟨h7,k5⟩:=hE (.inr k1314);obtain⟨u,pp,y4⟩:=h7.val Ox
 have m2:w.cell? ⟨b,0,none⟩=some (bCH l):=by
  rcases k1314 with k|k
  ·obtain⟨cs,hc,h2⟩:=aI h8 (n:=13) k;rw[cell_of_row _ _ _ _ _ _ hc];exact h2
  ·obtain⟨cs,hc,h2⟩:=aI h8 (n:=14) k;rw[cell_of_row _ _ _ _ _ _ hc];exact h2
 have h5:=k5 s w h hi.1;rw[y4]at m2 h5;rw[k2];rcases k1314 with k13|k14
 ·rw[show bZ a.tag=341 by rw[k13];rfl];clear h9 hE y7 hC hB hI hw hH y5 uq h8 hv k1 y3 k7 hi y0 k9 k10 k11 k12 n9 k0 y1 y2 k5 k2 k8 h h7 k13;go_enter Tryz.func250,Tryz.ntmps250
  go_wp2_with fail
  refine h5.mono ?_;rintro e W2 ⟨rfl,h2,i2,x2⟩;go_wp2;go_end0
  obtain⟨f1,f2⟩:=FIN.out W2 W2 x2 i2 (Fr.refl _ _ _) trivial;exact⟨rfl,h2,f1,f2⟩
 ·rw[show bZ a.tag=344 by rw[k14];rfl];clear h9 hE y7 hC hB hI hw hH y5 uq h8 hv k1 y3 k7 hi y0 k9 k10 k11 k12 n9 k0 y1 y2 k5 k2 k8 h h7 k14;go_enter Tryz.func250,Tryz.ntmps250
  go_wp2_with fail
  refine h5.mono ?_;rintro e W2 ⟨rfl,h2,i2,x2⟩;go_wp2;go_end0
  obtain⟨f1,f2⟩:=FIN.out W2 W2 x2 i2 (Fr.refl _ _ _) trivial;exact⟨rfl,h2,f1,f2⟩
end
end Go.Proofs.YtikffmloeifkpaaGreatDoor
