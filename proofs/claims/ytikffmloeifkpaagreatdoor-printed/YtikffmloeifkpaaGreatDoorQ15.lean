/- Contracts. -/
import Derived.Test.YtikffmloeifkpaaGreatDoorQ14
namespace Go.Proofs.YtikffmloeifkpaaGreatDoor
open Go.RowKit Go.Lib Go.Deep Go.ChangeMaps Go.MapKept
variable {H pb rb fb vb:Nat} {pc:Array Value} {F:cM} {its:List Tr}
theorem sP{t:Tr}(h:Ws 21 t):Ws 0 t:=by
 cases t with
 |nil=>exact absurd h (by unfold Ws bK;simp)
 |node b o a l r=>
  obtain⟨h2,x,y,h0,hl,hr⟩:=h.parts
  have ht:a.tag<=1:=by
   by_cases h1:a.tag<=1
   ·exact h1
   ·exfalso;simp[sig,h1]at h0
  have e:x=99/\y=99:=by simp[sig,ht]at h0;omega
  obtain⟨rfl,rfl⟩:=e;exact Ws.of (x:=99) (y:=99) (by simp[sig,ht]) h2 hl hr Oa
theorem aL9{t:Tr}(h:Ws 20 t):∃ b o a l r,t= .node b o a l r/\a.tag=7/\Ws 21 l/\Ws 21 r:=by
 cases t with
 |nil=>exact absurd h (by unfold Ws bK;simp)
 |node b o a l r=>
  obtain⟨hok,x,y,h0,hl,hr⟩:=h.parts
  have ht:a.tag=7:=by
   by_cases h1:a.tag=7
   ·exact h1
   ·exfalso;simp[sig,h1]at h0
  rw[ht]at h0;cases h0;exact⟨b,o,a,l,r,rfl,ht,hl,hr⟩
theorem bCS:∀ (t:Tr) (i:Nat) (s:Rs),Sh t (whT F its t i s):=by
 intro t
 induction t with
 |nil=>intro i s;trivial
 |node b o a e r _ ih=>
  intro i s;refine⟨rfl,rfl,rfl,rfl,rfl,rfl,rfl,rfl,fun _=>rfl,fun _=>rfl,?_,ih _ _⟩;cases e with
  |nil=>trivial
  |node b2 o2 a2 x y=>exact⟨rfl,rfl,rfl,rfl,rfl,rfl,rfl,rfl,fun _=>rfl,fun _=>rfl,dJ _ _ _ _,dJ _ _ _ _⟩
theorem aLC:∀ (t:Tr) (i:Nat) (s:Rs),(whR F its t i s).vars.length<=s.vars.length+eE t:=by
 intro t
 induction t with
 |nil=>intro i s;exact Qc _
 |node b o a e r _ ih=>
  intro i s;have h1:=ih (i+1) (rsT F its (qJ e) ((rsT F its (lX e) s).fifth i (mF e)));have h2:=rM (F:=F) (its:=its) (qJ e) ((rsT F its (lX e) s).fifth i (mF e));have h3:=rM (F:=F) (its:=its) (lX e) s
  have h4:((rsT F its (lX e) s).fifth i (mF e)).vars=(rsT F its (lX e) s).vars:=by
   unfold Rs.fifth;split
   ·exact Rs.fail_vars _ _ _
   ·rfl
  rw[h4]at h2
  have h5:eE (lX e)+eE (qJ e)<=eE e:=by
   cases e with
   |nil=>exact Qc _
   |node b2 o2 a2 x y=>rw[eD];show eE x+eE y<=_;omega
  rw[eD];show(whR F its r (i+1) _).vars.length<=_;omega
theorem pJ{w:World}{t:Tr}(h:Ws 5 t){P:TypeId->Int->Prop}{w0:World}(hi:IsT w0 t)(hx:Fr H P w0 w)(hP:∀ t p,P t p->bCI t){ao:Option Addr}{n cp i:Nat}(hv:bCH t= .slice ao n cp){b o:Nat}{a:Nd}{e r:Tr}(hd:aL i (bCF t)= .node b o a e r)(hE:∃ b o a l r,e= .node b o a l r/\a.tag=7):
 ∃ g,ao=some ⟨g,0,none⟩/\w.cell? ⟨g,i,none⟩=some (cB e):=by
 rcases h.lst (.inr Ow)with rfl|⟨b0,o0,a0,l0,rfl,ht,_⟩
 ·cases i<;>cases hd
 ·have h0:bCH (.node b0 o0 a0 l0 .nil)= .slice (some ⟨b0,0,none⟩) (aO l0) o0:=if_pos ht;rw[h0]at hv;simp only[Value.slice.injEq]at hv;refine⟨b0,hv.1.symm,?_⟩;have ho:=hi.2.2;have h4:=(aI ho (n:=20) ht).1;have h3:po a0=[]:=by unfold po;rw[ht];rfl
  have o2:=dH.fr hx (fun t p hp=>(hP t p hp).pos) ho (fun p hp=>by rw[h3]at hp;cases hp) (fun e=>⟨h.list e h4,fun p _ hq=>absurd (hP _ _ hq) (by unfold bCI;decide)⟩);obtain⟨_,cs,hc,hr⟩:=aI o2 (n:=20) ht;have h1:=pZ i 0 l0 hr;replace hd:aL i l0= .node b o a e r:=hd;rw[hd,Nat.zero_add]at h1;obtain⟨b2,o2,a2,l2,r2,rfl,h7⟩:=hE;have h2:(if a2.tag=19 then Nam cs (i*3) a2 else if a2.tag=7 then cs[i]?=some (cB (.node b2 o2 a2 l2 r2))else cs[i]?=some (bCH (.node b2 o2 a2 l2 r2))):=h1.1;rw[Oh,if_pos h7]at h2;rw[cell_of_row _ _ _ _ _ _ hc];exact h2
structure LpW(H pb rb fb vb:Nat)(pc:Array Value)(F:cM)(its:List Tr)(L:Tr)(S1:Rs)(W1:World)(i:Nat)(si:Rs)(wr:World):Prop where
 rs:RsW H pb rb fb vb pc F si wr
 fr:Fr H (Pt L) W1 wr
 rest:IsT wr (aL i L)
 wand:∀ w2,Fr H (Pt (aL i L)) wr w2->IsT w2 (whT F its (aL i L) i si)->IsT w2 (whT F its L 0 S1)
 run:whR F its (aL i L) i si=whR F its L 0 S1
variable {L:Tr} {S1 si:Rs} {W1 wr w2 w3 w4:World} {i:Nat}
theorem LpW.start(h:RsW H pb rb fb vb pc F S1 W1)(hi:IsT W1 L):LpW H pb rb fb vb pc F its L S1 W1 0 S1 W1:=⟨h,Fr.refl _ _ _,hi,fun _ _ h=>h,rfl⟩
theorem LpW.step(h:LpW H pb rb fb vb pc F its L S1 W1 i si wr)(hw:Ws 15 L)(h9:(ps L).Nodup){b o b2 o2:Nat}{a a2:Nd}{x y r:Tr}(hd:aL i L= .node b o a (.node b2 o2 a2 x y) r)(h1:aL (i+1) L=r)(i2:IsT w2 (reT F its x si))(x2:Fr H (Pt x) wr w2)(x3:Fr H F0 w2 w3)(h4:RsW H pb rb fb vb pc F (rsT F its y ((rsT F its x si).fifth i a2.pos)) w4)(i4:IsT w4 (reT F its y ((rsT F its x si).fifth i a2.pos)))(x4:Fr H (Pt y) w3 w4):
 LpW H pb rb fb vb pc F its L S1 W1 (i+1) (rsT F its y ((rsT F its x si).fifth i a2.pos)) w4:=by
 have h3:=eX Ov i _ hw;have uq:=lT i _ h9;have h5:=rU i L;obtain⟨_,k0,rest,wand,run⟩:=h;rw[hd]at h3 uq h5 rest wand run;obtain⟨k1,h2,h6⟩:=aY Ov h3;have uq:=dZ uq;have ue:=dZ (b:=b2) (o:=o2) uq.left;obtain⟨_,_,_,_,_,e7,h7,h0,hy21⟩:=aL9 h2;obtain⟨rfl,rfl,rfl,rfl,rfl⟩:=e7;have x24:Fr H (Pt (.node b2 o2 a2 x y)) wr w4:=((x2.mono Pt.left).trans (x3.mono F0.to)).trans (x4.mono Pt.right);refine⟨h4,k0.trans (x24.mono fun t p hp=>⟨hp.1,h5 p (fT hp.2)⟩),?_,fun wf hx hi=>?_,?_⟩
 ·rw[h1];exact IsT.fr x24 (fun t p hp=>(Pt.body t p hp).pos) h6 rest.2.1 (Pt.out uq.apart)
 ·rw[h1]at hx hi;refine wand wf ((x24.mono Pt.left).trans (hx.mono Pt.right)) ⟨?_,hi,by unfold Own;rw[k1];trivial⟩;have o2':=cX rest.1.2.2 x2 Pt.body (fun p hp ty hq=>ue.own_l p hp hq.2) Oa;have o3:=cX o2' x3 F0.body (fun p hp ty hq=>hq) Oa;have o4:=cX o3 x4 Pt.body (fun p hp ty hq=>ue.own_r p hp hq.2) Oa;have k3:=IsT.fr x3 (fun t p hp=>absurd hp id) ((dJ F its x si).ws (sP h0)) i2 (fun _ _ _ h=>h);have k4:=qE k3 x4 (sP h0) (dJ _ _ _ _) ue.apart_;have hT:IsT w4 (BT.node b2 o2 a2 (reT F its x si) (reT F its y ((rsT F its x si).fifth i a2.pos))):=⟨k4,i4,gZ o4 (dJ _ _ _ _) (dJ _ _ _ _)⟩;have h8:Sh (BT.node b2 o2 a2 x y) (BT.node b2 o2 a2 (reT F its x si) (reT F its y ((rsT F its x si).fifth i a2.pos))):=⟨rfl,rfl,rfl,rfl,rfl,rfl,rfl,rfl,fun _=>rfl,fun _=>rfl,dJ _ _ _ _,dJ _ _ _ _⟩;exact qE hT hx h2 h8 uq.apart_
 ·rw[h1];exact run
theorem LpW.fin(h:LpW H pb rb fb vb pc F its L S1 W1 (aO L) si wr):si=whR F its L 0 S1/\IsT wr (whT F its L 0 S1):=by
 obtain⟨_,_,_,wand,run⟩:=h;rw[eS]at wand run;exact⟨run,wand wr (Fr.refl _ _ _) trivial⟩
def FnW(w:World)(b:Nat)(a:Nd)(l p q:Tr):Prop:=At w b 105 fun cs=>Nam cs 0 a/\cs[3]?=some (bCH l)/\cs[4]?=some (bCH p)/\cs[5]?=some (bCH q)/\cs[6]?=some (.int .i64 a.val)
theorem FnW.fr{P:TypeId->Int->Prop}{b:Nat}{a:Nd}{l p q:Tr}{w w':World}(h:FnW w b a l p q)(hx:Fr H P w w')(hP:∀ t p,P t p->aED t):FnW w' b a l p q:=hx.at h (by simp[cK,aK]) (fun _ _ p _ hp=>(hP _ _ hp).2.1 rfl)
theorem FnW.cells{b:Nat}{a:Nd}{l p q:Tr}{w:World}(h:FnW w b a l p q):w.cell? ⟨b,2,none⟩=some (.int .i64 a.which)/\w.cell? ⟨b,1,none⟩=some (.int .i64 a.npos)/\w.cell? ⟨b,3,none⟩=some (bCH l)/\w.cell? ⟨b,4,none⟩=some (bCH p)/\w.cell? ⟨b,5,none⟩=some (bCH q)/\w.cell? ⟨b,6,none⟩=some (.int .i64 a.val)/\w.frozen? ⟨b,6,none⟩=false:=by
 obtain⟨cs,hc,hn,h3,h4,h5,h6⟩:=h;exact⟨Og hc hn.2.2,Og hc hn.2.1,Og hc h3,Og hc h4,Og hc h5,Og hc h6,by simp[World.frozen?,hc]⟩
def PI(t:Tr):TypeId->Int->Prop:=fun ty p=>cU ty/\p∈ps t
def aBL(H pb rb fb vb:Nat)(pc:Array Value)(F:cM)(its:List Tr)(t:Tr)(t':Tr)(s':Rs)(w:World):Ending->World->Prop:=fun e w'=>e= .returned (.tuple #[])/\NsW H pb rb fb vb pc F its s' w'/\IsT w' t'/\Fr H (PI t) w w'
theorem ItO.set6{b k:Nat}{a:Nd}{l:Tr}{w:World}{cs:Array Value}{t:TypeId}(h:ItO w b a l)(hk:w.heap[k]?=some (.cells cs t (0,0)))(v:Value):ItO (w.setCell ⟨k,6,none⟩ v) b a l:=by
 have key:∀ (ty:TypeId) (R:Array Value->Prop),(∀ c,R c->R (c.setIfInBounds 6 v))->At w b ty R->At (w.setCell ⟨k,6,none⟩ v) b ty R:=by
  intro ty R hR ⟨c,hc,hr⟩
  by_cases e:b=k
  ·subst e;exact⟨_,aM v hc,hR c hr⟩
  ·exact⟨c,(Om e).trans hc,hr⟩
 have hn:∀ c:Array Value,Nam c 0 a->Nam (c.setIfInBounds 6 v) 0 a:=fun c h=>⟨(Qh Oa).trans h.1,(Qh Oa).trans h.2.1,(Qh Oa).trans h.2.2⟩;rcases h with⟨h1,h2⟩|⟨h1,h2⟩
 ·exact .inl ⟨h1,key _ _ (fun c h=>hn c h) h2⟩
 ·exact .inr ⟨h1,key _ _ (fun c h=>⟨hn c h.1,(Qh Oa).trans h.2⟩) h2⟩
theorem aLA{s:Nat}(hs:s=3\/s=4\/s=5\/s=6\/s=8){t L:Tr}(h:Ws s t)(hl:Sh (bCF t) L):Sh t (iS t L):=by
 rcases h.lst hs with rfl|⟨b,o,a,l,rfl,_,_⟩
 ·trivial
 ·exact⟨rfl,rfl,rfl,rfl,rfl,rfl,rfl,rfl,fun _=>rfl,fun _=>rfl,hl,trivial⟩
theorem aIG{s:Nat}(hs:s=3\/s=4\/s=5\/s=6\/s=8){t L:Tr}(h:Ws s t)(hl:aO L=aO (bCF t)):bCH (iS t L)=bCH t:=by
 rcases h.lst hs with rfl|⟨b,o,a,l,rfl,ht,_⟩
 ·rfl
 ·show(if a.tag=20 then Value.slice (some ⟨b,0,none⟩) (aO L) o else _)=(if a.tag=20 then Value.slice (some ⟨b,0,none⟩) (aO l) o else _);rw[if_pos ht,if_pos ht,hl];rfl
theorem aMX{t:Tr}{w:World}{S:Rs}(h:Ws 6 t)(h4:bCF t≠ .nil->∀ b o a l r,t= .node b o a l r->At w b 100 fun cs=>jO cs 0 (lE (bCF t) S))(h5:∀ b o a l r,t= .node b o a l r->l≠ .nil):IsT w (iS t (lE (bCF t) S)):=by
 rcases h.lst (.inr Ov)with rfl|⟨b,o,a,l,rfl,ht,hl⟩
 ·trivial
 ·have h6:=h5 _ _ _ _ _ rfl;obtain⟨h1,h2,h3,_⟩:=bCQ l S;refine⟨aQS w l S hl,trivial,?_⟩;unfold Own;rw[ht];refine⟨fun e=>h6 (h3.1 e),?_⟩
  have h8:bL l=100:=by
   cases l with
   |nil=>exact absurd rfl h6
   |node b2 o2 a2 e r=>
    obtain⟨_,h7,_⟩:=aY Ou hl;cases e with
    |nil=>exact absurd h7 (by unfold Ws bK;simp)
    |node b3 o3 a3 x y=>
     obtain⟨_,sx,sy,h0,_⟩:=h7.parts
     have h9:a3.tag=19:=by
      by_cases h:a3.tag=19
      ·exact h
      ·exfalso;simp[sig,h]at h0
     exact if_pos h9
  show At w b (bL (lE l S)) _;rw[h2,h8];exact h4 h6 _ _ _ _ _ rfl
set_option maxRecDepth 100000 in
set_option maxHeartbeats 16000000 in
theorem zM{b o x y:Nat}{a z:Nd}{l p q:Tr}(g2:aID its)(ht:a.tag=17)(hz:z.tag=18)(z8:Ws 6 l)(y2:Ws 5 p)(g0:Ws 4 q)(hF:aUI H (.node b o a l (.node x y z p q)))(hnd:(ps (.node b o a l (.node x y z p q))).Nodup)(j8:20000+eE p+eE q<=1000000)(s:Rs)(w:World)(h:NsW H pb rb fb vb pc F its s w)(hi:IsT w (.node b o a l (.node x y z p q))):
 Calls Tryz.prog 128 #[.pointer (some ⟨rb,0,none⟩),.pointer (some ⟨b,0,none⟩)] w (aBL H pb rb fb vb pc F its (.node b o a l (.node x y z p q)) (fnT F its (.node b o a l (.node x y z p q)) s) (fnR F its (.node b o a l (.node x y z p q)) s) w):=by
 have hbH:=hF.2.2 (by unfold gY;omega);have u1:=dZ hnd;have u2:=dZ (b:=x) (o:=y) u1.right;have hpo:po a=[a.npos]:=by unfold po;rw[ht];rfl
 have alp:∀ k∈ps l,k ∉ ps p:=fun k h1 h2=>u1.apart k h1 (fT h2);have alq:∀ k∈ps l,k ∉ ps q:=fun k h1 h2=>u1.apart k h1 (jE h2);have z3:=jU Ou z8;have y7:=jU Ov y2;have hwL:=z8.elems Ou;have hwP:=y2.elems Ov;have m7:(ps (bCF p)).Nodup:=by rw[<-y7];exact u2.left
 have hfn:FnW w b a l p q:=by
  obtain⟨cs,hc,hn,h3,x',y',z',p',q',e,h4,h5,h6⟩:=aI hi.2.2 (n:=17) ht;simp only[BT.node.injEq]at e;obtain⟨rfl,rfl,rfl,rfl,rfl⟩:=e;exact⟨cs,hc,hn,h3,h4,h5,h6⟩
 obtain⟨m2,m1,_,_,_,_,_⟩:=hfn.cells;obtain⟨ao,cp,z9⟩:=z8.lstval Ou;obtain⟨ao2,cp2,hvp⟩:=y2.lstval Ov;obtain⟨ao3,cp3,hvq⟩:=g0.lstval Ow;have hlen1:=fB Ou z8;have hlen2:=fB Ov y2;have hGq:GS 196 H pb rb fb vb pc F its bCH q:=(aAW g2 (szT q) q Ol hF.2.1.2.1 u2.right).2.2.2.1 g0;have HGq:Hid _:=hGq;have hGe:∀ t,aUI H t->(ps t).Nodup->Ws 0 t->GN 195 H pb rb fb vb pc F its bCH t:=fun t h1 h2 h3=>(aAW g2 (szT t) t Ol h1 h2).1 h3;have HGe:Hid _:=hGe
 have j7:bCF l≠ .nil->∃ g,ao=some ⟨g,0,none⟩/\H<=g/\(∃ cs,w.heap[g]?=some (.cells cs 100 (0,0))/\jO cs 0 (bCF l))/\∀ b o a l' r,l= .node b o a l' r->b=g:=by
  intro k6;rcases z8.lst (.inr Ov)with rfl|⟨b0,o0,a0,l0,rfl,ht0,hl0⟩
  ·exact absurd rfl k6
  ·have hv2:bCH (.node b0 o0 a0 l0 .nil)= .slice (some ⟨b0,0,none⟩) (aO l0) o0:=if_pos ht0;rw[hv2]at z9;simp only[Value.slice.injEq]at z9;obtain⟨hne2,cs,hc,hr⟩:=aI hi.1.2.2 (n:=20) ht0
   have hty:bL l0=100:=by
    cases l0 with
    |nil=>exact absurd rfl hne2
    |node b2 o2 a2 e r=>
     obtain⟨_,k9,_⟩:=aY Ou hl0;cases e with
     |nil=>exact absurd k9 (by unfold Ws bK;simp)
     |node b3 o3 a3 x y=>
      obtain⟨_,sx,sy,hsig,_⟩:=k9.parts
      have h19:a3.tag=19:=by
       by_cases h:a3.tag=19
       ·exact h
       ·exfalso;simp[sig,h]at hsig
      exact if_pos h19
   rw[hty]at hc;refine⟨b0,z9.1.symm,hF.1.2.2 (by unfold gY;omega),⟨cs,hc,hr⟩,fun _ _ _ _ _ e=>?_⟩;simp only[BT.node.injEq]at e;exact e.1.symm
 have m0:∀ b o a l' r,l= .node b o a l' r->l'≠ .nil:=by
  intro b0 o0 a0 l0 r0 e;rcases z8.lst (.inr Ov)with h0|⟨b1,o1,a1,l1,e1,ht1,_⟩
  ·rw[h0]at e;cases e
  ·rw[e1]at e;simp only[BT.node.injEq]at e;obtain⟨rfl,rfl,rfl,rfl,rfl⟩:=e;have:=hi.1;rw[e1]at this;exact(aI this.2.2 (n:=20) ht1).1
 have HROW:Hid _:=j7
 have FIN:Hid (∀ (g:Nat) (S0:Rs) (W2 W3 W4 W5:World),s.few a=S0->(bCF l≠ .nil->∀ b o a l' r,l= .node b o a l' r->b=g)->
  Fr H F0 w W2->Fr H (PN (bCF l)) W2 W3->(bCF l≠ .nil->At W3 g 100 fun cs=>jO cs 0 (lE (bCF l) S0.clear))->Fr H (Pt (bCF p)) W3 W4->IsT W4 (whT F its (bCF p) 0 (jF (bCF l) S0.clear))->Fr H (Pt q) W4 W5->
  IsT W5 (reT F its q (whR F its (bCF p) 0 (jF (bCF l) S0.clear)))->RsW H pb rb fb vb pc F (rsT F its q (whR F its (bCF p) 0 (jF (bCF l) S0.clear))) W5->
  aBL H pb rb fb vb pc F its (.node b o a l (.node x y z p q)) (fnT F its (.node b o a l (.node x y z p q)) s) (fnR F its (.node b o a l (.node x y z p q)) s) w (.returned (.tuple #[])) (W5.setCell ⟨b,6,none⟩ (.int .i64 (rsT F its q (whR F its (bCF p) 0 (jF (bCF l) S0.clear))).vars.length))):=by
  intro g S0 W2 W3 W4 W5 hS0 hg x2 x3 d7 x4 i4 x5 i5 h5;have hR:fnR F its (.node b o a l (.node x y z p q)) s=rsT F its q (whR F its (bCF p) 0 (jF (bCF l) S0.clear)):=by show rsT F its q (whR F its (bCF p) 0 (jF (bCF l) (s.few a).clear))=_;rw[hS0]
  have hT:fnT F its (.node b o a l (.node x y z p q)) s= .node b o {a with val:=(rsT F its q (whR F its (bCF p) 0 (jF (bCF l) S0.clear))).vars.length} (iS l (lE (bCF l) S0.clear)) (.node x y z (iS p (whT F its (bCF p) 0 (jF (bCF l) S0.clear))) (reT F its q (whR F its (bCF p) 0 (jF (bCF l) S0.clear)))):=by
   show BT.node b o {a with val:=(rsT F its q (whR F its (bCF p) 0 (jF (bCF l) (s.few a).clear))).vars.length} (iS l (lE (bCF l) (s.few a).clear)) (.node x y z (iS p (whT F its (bCF p) 0 (jF (bCF l) (s.few a).clear))) (reT F its q (whR F its (bCF p) 0 (jF (bCF l) (s.few a).clear))))=_;rw[hS0]
  rw[hR,hT];have f3:=hfn.fr (x2.mono (F0.to (P:=PN (bCF l)))) PN.inT;have f3:=f3.fr x3 PN.inT;have f4:=f3.fr x4 (fun t p h=>(Pt.body t p h).inT);have f5:=f4.fr x5 (fun t p h=>(Pt.body t p h).inT);obtain⟨cs,hc,hn,c3,c4,c5,c6⟩:=f5
  have n5:NsW H pb rb fb vb pc F its (rsT F its q (whR F its (bCF p) 0 (jF (bCF l) S0.clear))) W5:=by
   refine⟨h5,?_,h.fo⟩;have t2:=h.it.fr x2 (fun _ _ h=>absurd h id);have t3:=t2.fr x3 PN.inT;have t4:=t3.fr x4 (fun t p h=>(Pt.body t p h).inT);exact t4.fr x5 (fun t p h=>(Pt.body t p h).inT)
  have hfw:Fr H (PI (.node b o a l (.node x y z p q))) W5 (W5.setCell ⟨b,6,none⟩ (.int .i64 (rsT F its q (whR F its (bCF p) 0 (jF (bCF l) S0.clear))).vars.length)):=
   (Fr.refl H _ W5).write hc hbH Oa hn.2.1 ⟨by simp[cU],aAU (by rw[hpo];simp)⟩ _
  have hff:Fr H (fun ty k=>ty=105/\k=a.npos) W5 (W5.setCell ⟨b,6,none⟩ (.int .i64 (rsT F its q (whR F its (bCF p) 0 (jF (bCF l) S0.clear))).vars.length)):=
   (Fr.refl H _ W5).write hc hbH Oa hn.2.1 ⟨rfl,rfl⟩ _
  have g8:∀ (ty:TypeId) (k:Int),(ty=105/\k=a.npos)->cU ty:=fun ty k h=>by rw[h.1];simp[cU]
  refine⟨rfl,⟨?_,⟨fun hp=>?_,fun t ht=>?_,n5.it.few⟩,n5.fo⟩,⟨?_,⟨?_,?_,?_⟩,?_⟩,?_⟩
  ·exact h5.which hc (by simp[cK,aK]) _
  ·obtain⟨g',cp',rw',e1,e2,e3⟩:=n5.it.row hp;exact⟨g',cp',rw',e1,hff.same e2 (by simp[cK,aK]) (fun k _ hk=>absurd hk.1 Ob),e3⟩
  ·obtain⟨b1,o1,a1,l1,r1,e1,e2⟩:=n5.it.own t ht;exact⟨b1,o1,a1,l1,r1,e1,e2.set6 hc _⟩
  ·refine aMX z8 (fun k6 b0 o0 a0 l0 r0 e0=>?_) m0;rw[hg k6 _ _ _ _ _ e0];have r3:=d7 k6;have r4:=x4.at r3 (by simp[cK,aK]) (fun _ _ k _ hk=>absurd (Pt.body _ _ hk) (by unfold bCI;decide));have r5:=x5.at r4 (by simp[cK,aK]) (fun _ _ k _ hk=>absurd (Pt.body _ _ hk) (by unfold bCI;decide));exact hff.at r5 (by simp[cK,aK]) (fun _ _ k _ hk=>absurd hk.1 Ob)
  ·
    have iP:IsT W3 p:=by
     have k2:=IsT.fr x2 (fun t k hk=>absurd hk id) y2 hi.2.1.1 (fun _ _ _ h=>h);exact IsT.fr x3 PN.pos y2 k2 (fun k hk ty hq=>alp k (by rw[z3];exact hq.2) hk)
    have hP5:=IsT.fr x5 (fun t k hk=>(Pt.body t k hk).pos) ((bCS (bCF p) 0 _).ws hwP) i4 (fun k hk=>by rw[(bCS (F:=F) (its:=its) (bCF p) 0 _).ps]at hk;exact Pt.out u2.apart_ k (by rw[y7];exact hk))
    have hP6:=IsT.fr hff g8 ((bCS (bCF p) 0 _).ws hwP) hP5 (fun k hk ty hq=>by
     rw[(bCS (F:=F) (its:=its) (bCF p) 0 _).ps,<-y7]at hk;rw[hq.2]at hk;exact u1.own_r a.npos (by rw[hpo];simp) (fT hk))
    have xx:Fr H (fun ty k=>bCI ty/\(k∈ps p\/k∈ps q)) W3 W5:=(x4.mono fun t k hk=>⟨hk.1,.inl (by rw[y7];exact hk.2)⟩).trans (x5.mono fun t k hk=>⟨hk.1,.inr hk.2⟩);rcases y2.lst (.inr Ow)with rfl|⟨b0,o0,a0,l0,rfl,ht0,hl0⟩
    ·trivial
    ·have ho:=iP.2.2;have k6:=(aI ho (n:=20) ht0).1;have d9:po a0=[]:=by unfold po;rw[ht0];rfl
     have o5:=dH.fr xx (fun t k hk=>hk.1.pos) ho (fun k hk=>by rw[d9]at hk;cases hk) (fun e=>⟨y2.list e k6,fun k _ hk=>absurd hk.1 (by unfold bCI;decide)⟩);have o6:=dH.fr hff g8 o5 (fun k hk=>by rw[d9]at hk;cases hk) (fun e=>⟨y2.list e k6,fun k _ hk=>absurd hk.1 Ob⟩);exact⟨hP6,trivial,gZ o6 (bCS _ _ _) (Sh.refl _)⟩
  ·refine IsT.fr hff g8 ((dJ F its q _).ws g0) i5 (fun k hk ty hq=>?_);rw[(dJ F its q _).ps,hq.2]at hk;exact u1.own_r a.npos (by rw[hpo];simp) (jE hk)
  ·unfold Own;rw[hz];trivial
  ·unfold Own;dsimp only;rw[ht];refine⟨_,aM (o:=6) _ hc,⟨(Qh Oa).trans hn.1,(Qh Oa).trans hn.2.1,(Qh Oa).trans hn.2.2⟩,?_,x,y,z,_,_,rfl,?_,?_,?_⟩
   ·rw[aIG Ou z8 (bCQ _ _).1,Qh Oa];exact c3
   ·rw[(aLA Ov y2 (bCS _ _ _)).val,Qh Oa];exact c4
   ·rw[(dJ F its q _).val,Qh Oa];exact c5
   ·rw[Array.getElem?_setIfInBounds_self_of_lt (Oo c6)]
  ·have y3:Fr H (PI (.node b o a l (.node x y z p q))) w W3:=(x2.mono F0.to).trans (x3.mono fun t k hk=>⟨PN.pos _ _ hk,fT (by rw[z3];exact hk.2)⟩);have y5:=(y3.trans (x4.mono fun t k hk=>⟨(Pt.body _ _ hk).pos,jE (fT (by rw[y7];exact hk.2))⟩)).trans (x5.mono fun t k hk=>⟨(Pt.body _ _ hk).pos,jE (jE hk.2)⟩);exact y5.trans hfw
 have STN:Hid (∀ (S:Rs) (W2 W3:World),Fr H F0 w W2->Fr H (PN (bCF l)) W2 W3->RsW H pb rb fb vb pc F S W3->NsW H pb rb fb vb pc F its S W3/\FnW W3 b a l p q/\IsT W3 p/\IsT W3 q):=by
  intro S W2 W3 x2 x3 h3;refine⟨⟨h3,(h.it.fr x2 (fun _ _ h=>absurd h id)).fr x3 PN.inT,h.fo⟩,(hfn.fr (x2.mono (F0.to (P:=PN (bCF l)))) PN.inT).fr x3 PN.inT,?_,?_⟩
  ·have k2:=IsT.fr x2 (fun t k hk=>absurd hk id) y2 hi.2.1.1 (fun _ _ _ h=>h);exact IsT.fr x3 PN.pos y2 k2 (fun k hk ty hq=>alp k (by rw[z3];exact hq.2) hk)
  ·have k2:=IsT.fr x2 (fun t k hk=>absurd hk id) g0 hi.2.1.2.1 (fun _ _ _ h=>h);exact IsT.fr x3 PN.pos g0 k2 (fun k hk ty hq=>alq k (by rw[z3];exact hq.2) hk)
 have STM:Hid (∀ (S:Rs) (W3 W4:World),NsW H pb rb fb vb pc F its S W3->FnW W3 b a l p q->IsT W3 q->∀ S',Fr H (Pt (bCF p)) W3 W4->RsW H pb rb fb vb pc F S' W4->NsW H pb rb fb vb pc F its S' W4/\FnW W4 b a l p q/\IsT W4 q):=by
  intro S W3 W4 n3 f3 i3 S' x4 h4;refine⟨n3.fr h4 x4 Pt.body,f3.fr x4 (fun t p h=>(Pt.body t p h).inT),?_⟩;exact IsT.fr x4 (fun t k hk=>(Pt.body t k hk).pos) g0 i3 (fun k hk ty hq=>u2.apart k (by rw[y7];exact hq.2) hk)
 have z7:Hid _:=hwL;have HWP:Hid _:=hwP;have HWp:Hid (Ws 5 p):=y2;have j0:Hid _:=m7;have HFR:Hid _:=hF.2.1.1;have HNDp:Hid _:=u2.left;have j9:Hid (20000+eE p+eE q<=1000000):=j8
 have HPN:Hid (∀ S,(whR F its (bCF p) 0 S).vars.length<=S.vars.length+eE p):=fun S=>by
  have:=aLC (F:=F) (its:=its) (bCF p) 0 S
  rwa [tM Ov y2]at this
 have HFN:Hid (FnW w b a l p q):=hfn;have HN:Hid (NsW H pb rb fb vb pc F its s w):=h;have hlv1:aD l=aO (bCF l):=aT l;have hlv2:aD p=aO (bCF p):=aT p;have j3:Hid _:=hlv1;have j2:Hid _:=hlv2;have j4:=h.rs;clear g2 z8 y2 g0 hF hnd j8 hi u1 u2 hpo alp alq z3 y7 hwL hwP m7 hfn hGq hGe j7 m0 h hlv1 hlv2 ht hz
 by_cases hk:8<=a.which
 ·have HS0:Hid (s.few a=s.fail 5 a.npos):=if_pos hk;generalize hS:s.fail 5 a.npos=S0 at HS0;go_enter Tryz.func128,Tryz.ntmps128
  go_wp2_with fail
  refine(bCJ 5 a.npos w j4).mono ?_;rintro e W1 ⟨rfl,h1,x1⟩;rw[hS]at h1;clear hS;obtain⟨W2,d0,m9,g4⟩:=h1.vars.clear;have h2:RsW H pb rb fb vb pc F S0.clear W2:=h1.turned m9 g4;have x2:Fr H F0 w W2:=x1.turned h1.vge g4;have c2:W1.cell? ⟨rb,2,none⟩=some (.map (some vb)):=h1.cell 2;obtain⟨_,f2,_,_⟩:=STN.out S0.clear W2 W2 x2 (Fr.refl _ _ _) h2;obtain⟨_,_,m3,_,_,_,_⟩:=f2.cells;rw[z9]at m3
  have L0:∃ g,(bCF l≠ .nil->ao=some ⟨g,0,none⟩/\H<=g/\∀ b o a l' r,l= .node b o a l' r->b=g)/\LpP H pb rb fb vb pc F g (bCF l) S0.clear W2 0 S0.clear W2:=by
   by_cases k6:bCF l= .nil
   ·exact⟨0,fun h=>absurd k6 h,LpP.start h2 rfl z7.out (fun h=>absurd k6 h)⟩
   ·obtain⟨g,e1,e2,⟨cs,e3,e4⟩,e5⟩:=HROW.out k6;exact⟨g,fun _=>⟨e1,e2,e5⟩,LpP.start h2 rfl z7.out (fun _=>⟨cs,x2.keep0 (by simp[cK,aK]) e3,e4⟩)⟩
  obtain⟨g,hg,L0⟩:=L0;have HG:Hid _:=hg;have HX2:Hid (Fr H F0 w W2):=x2;clear hg h1 x1 m9 g4 f2 x2 HFN;go_wp2_with fail
  go_loopg [29] (aD l) (fun m v wr=>∃ (i:Nat) (si:Rs),v= .int .i64 i/\i<=aD l/\aD l<=i+m/\LpP H pb rb fb vb pc F g (bCF l) S0.clear W2 i si wr)
  case atStart=>exact⟨0,S0.clear,rfl,Qe _,Oa,L0⟩
  case round=>
   clear L0 d0 c2 h2 m1 m2 j4 m3;obtain⟨i,si,rfl,hle,hm,LP⟩:=hrel;have d4:Hid _:=LP;obtain⟨n3,f3,iP3,iQ3⟩:=STN.out si W2 wr HX2.out LP.fr LP.rs;obtain⟨_,_,m3,m4,m5,_,_⟩:=f3.cells;rw[z9]at m3
   by_cases hlt:i < aD l
   ·have g6:(i:Int) < (aD l:Int):=Oa
    obtain⟨b2,o2,a2,e2,r2,hd,z2⟩:=dK i (bCF l) (by rw[<-j3.out];exact hlt);have k6:bCF l≠ .nil:=by intro hx;rw[hx]at hd;cases i<;>cases hd
    obtain⟨hao,hgH,_⟩:=HG.out k6;have g3:=LP.name hgH z7.out hd;have hfew:=LP.few
    have k9:(eI e2).size<=maxLen:=by
     have y8:=eX Ou i _ z7.out;rw[hd]at y8;obtain⟨_,k9,_⟩:=aY Ou y8;cases e2 with
     |nil=>exact absurd k9 (by unfold Ws bK;simp)
     |node b3 o3 a3 x3 y3=>have:=k9.parts.1.name;show a3.name.size<=maxLen;unfold maxLen;omega
    have j4:=LP.rs;have z5:Hid (FnW wr b a l p q):=f3;have h9:Hid _:=fun w2 w3=>d4.out.step (w2:=w2) (w3:=w3) z7.out hd z2;subst hao;clear LP f3 n3 iP3 iQ3 hd z2 k6 m4 m5;go_wp2_with fail
    refine(tI wr 4 j4 g3 k9).mono ?_;rintro e W5 ⟨rfl,h5,x5⟩;have m8:=g3.fr0 x5;have f5:=z5.out.fr (x5.mono (F0.to (P:=F0))) (fun _ _ h=>absurd h id);obtain⟨_,_,m3',_,_,_,_⟩:=f5.cells;rw[z9]at m3';have hv5:(si.newVar (eI e2) (bEN e2) 4).vars.length<=1000000:=by rw[jG];omega
    go_wp2_with fail
    refine(tX W5 h5 m8 k9 hv5).mono ?_;rintro e W6 ⟨rfl,h6,x6,wr6⟩;rw[jG]at wr6;obtain⟨m,rfl⟩:=Oj gk
    have fin:∃ (i':Nat) (si:Rs),Value.int .i64 ((i:Int)+1)= .int .i64 i'/\i'<=aD l/\aD l<=i'+m/\LpP H pb rb fb vb pc F g (bCF l) S0.clear W2 i' si W6:=
     ⟨i+1,_,Od,Oa,Oa,h9.out W5 W6 x5 h6 x6 wr6⟩
    clear h9 d4 h5 x5 h6 x6 wr6 m8 f5 z5 g3;go_wp2;go_roundg m
    case rel=>exact fin
    case measure=>omega
   ·have g6: ¬(i:Int) < (aD l:Int):=Oa
    have hi2:i=aO (bCF l):=by rw[<-j3.out];omega
    have hfew2:=LP.few
    obtain⟨d6,z0⟩:si=jF (bCF l) S0.clear/\(bCF l≠ .nil->At wr g 100 fun cs=>jO cs 0 (lE (bCF l) S0.clear)):=by
     have:=LP;rw[hi2]at this;exact this.fin
    have hvb:si.vars.length<=10000:=Oa
    rw[hvp]at m4;have z4:Hid _:=z0;have HX3:Hid (Fr H (PN (bCF l)) W2 wr):=LP.fr;have d8:=LP.rs
    have iPe:IsT wr (bCF p):=by
     cases p with
     |nil=>trivial
     |node=>exact iP3.1
    have M0:LpW H pb rb fb vb pc F its (bCF p) si wr 0 si wr:=LpW.start d8 iPe;have HSI:Hid (si=jF (bCF l) S0.clear):=d6;have HN3:Hid (NsW H pb rb fb vb pc F its si wr):=n3;have HF3:Hid (FnW wr b a l p q):=f3;have HQ3:Hid (IsT wr q):=iQ3;have HP3:Hid (IsT wr p):=iP3;clear z0 d6 LP d4 n3 f3 iQ3 iP3 iPe d8 m3 m5 hi2
    rename World=>WP
    go_wp2_with fail
    go_loopg [54] (aD p) (fun m v wk=>∃ (j:Nat) (sj:Rs),v= .int .i64 j/\j<=aD p/\aD p<=j+m/\LpW H pb rb fb vb pc F its (bCF p) si WP j sj wk)
    case atStart=>exact⟨0,si,rfl,Qe _,Oa,M0⟩
    case round=>
     clear M0 m4;obtain⟨j,sj,rfl,hle2,hm2,LW⟩:=hrel;have j1:Hid _:=LW;obtain⟨n4,f4,iQ4⟩:=STM.out si WP wr HN3.out HF3.out HQ3.out sj LW.fr LW.rs;obtain⟨_,_,_,m4,m5,m6,z6⟩:=f4.cells;rw[hvq]at m5
     by_cases g7:j < aD p
     ·have g5:(j:Int) < (aD p:Int):=Oa
      obtain⟨b2,o2,a2,e2,r2,hd,z2⟩:=dK j (bCF p) (by rw[<-j2.out];exact g7);have y8:=eX Ov j _ HWP.out;rw[hd]at y8;obtain⟨h15,k9,_⟩:=aY Ov y8;obtain⟨b3,o3,a3,xx,yy,rfl,h7,y1,k7⟩:=aL9 k9;obtain⟨gg,rfl,y0⟩:=pJ HWp.out HP3.out LW.fr Pt.body hvp hd ⟨b3,o3,a3,xx,yy,rfl,h7⟩;replace y0:wr.cell? ⟨gg,j,none⟩=some (.pointer (some ⟨b3,0,none⟩)):=y0;have k0:=LW.rest;have y4:=lT j _ j0.out;rw[hd]at k0 y4;have ue:=dZ (b:=b3) (o:=o3) (dZ y4).left
      have y6:aUI H (BT.node b3 o3 a3 xx yy):=by
       have h0:=lO j (bCF p) (jI HFR.out);rw[hd]at h0;exact h0.1
      obtain⟨u,pp,hvx⟩:=y1.val (.inr (.inr Oy));obtain⟨u2',pp2,d5⟩:=k7.val (.inr (.inr Oy))
      have own2:∀ w',Own w' b3 a3 xx yy->w'.cell? ⟨b3,2,none⟩=some (bCH xx)/\w'.cell? ⟨b3,3,none⟩=some (bCH yy)/\w'.cell? ⟨b3,1,none⟩=some (.int .i64 a3.pos):=by
       intro w' ho;obtain⟨cs,hc,_,k1,k2,k3⟩:=aI ho (n:=7) h7;exact⟨Og hc k2,Og hc k3,Og hc k1⟩
      have q2:=(own2 wr k0.1.2.2).1;have k4:=HGe.out xx y6.1 ue.left (sP y1) sj wr n4 k0.1.1;have HGY:Hid (GN 195 H pb rb fb vb pc F its bCH yy):=HGe.out yy y6.2.1 ue.right (sP k7);rw[hvx]at q2 k4;have d2:Hid _:=own2;have h9:Hid _:=fun w2 w3 w4=>j1.out.step (w2:=w2) (w3:=w3) (w4:=w4) HWP.out j0.out hd z2
      have k8:Hid (∀ W5,Fr H (Pt xx) wr W5->Own W5 b3 a3 xx yy/\IsT W5 yy):=fun W5 x5=>by
       have:=gV (H:=H) (b:=b3) (o:=o3) (sP k7) ue k0.1 x5 Oa;exact⟨this.2,this.1⟩
      have k5:Hid (∀ W5 W6,Fr H F0 W5 W6->Own W5 b3 a3 xx yy->IsT W5 yy->Own W6 b3 a3 xx yy/\IsT W6 yy):=fun W5 W6 x6 k1 k2=>
       ⟨cX k1 x6 F0.body (fun p hp ty hq=>hq) Oa,IsT.fr x6 (fun t p hp=>absurd hp id) (sP k7) k2 (fun _ _ _ h=>h)⟩
      have d3:Hid (NsW H pb rb fb vb pc F its sj wr):=n4;clear LW f4 n4 iQ4 hd z2 y8 k9 y1 k7 k0 y4 ue y6 own2 m4 m5 m6 z6 h7 h15;go_wp2_with fail
      refine k4.mono ?_;rintro e W5 ⟨rfl,h5,i5,x5⟩;obtain⟨o5,j5⟩:=k8.out W5 x5;have q1:=(d2.out W5 o5).2.2;have q3:=(d2.out W5 o5).2.1;have n5:=d3.out.fr h5 x5 Pt.body;obtain⟨m,rfl⟩:=Oj gk
      by_cases h4j:(4:Int)<=(j:Int)
      ·have z1:Hid ((rsT F its xx sj).fifth j a3.pos=(rsT F its xx sj).fail 5 a3.pos):=if_pos Oa;go_wp2_with fail
       refine(bCJ 5 a3.pos W5 h5).mono ?_;rintro e W6 ⟨rfl,h6,x6⟩;rw[<-z1.out]at h6;obtain⟨o6,j6⟩:=k5.out W5 W6 x6 o5 j5;have q4:=(d2.out W6 o6).2.1;have h8:=HGY.out _ W6 (n5.fr h6 x6 F0.body) j6;rw[d5]at q4 h8;clear q1 q3 o5 j5 o6 j6 n5;go_wp2_with fail
       refine h8.mono ?_;rintro e W7 ⟨rfl,h7,i7,x7⟩
       have fin:∃ (j':Nat) (sj:Rs),Value.int .i64 ((j:Int)+1)= .int .i64 j'/\j'<=aD p/\aD p<=j'+m/\LpW H pb rb fb vb pc F its (bCF p) si WP j' sj W7:=
        ⟨j+1,_,Od,Oa,Oa,h9.out W5 W6 W7 i5 x5 x6 h7 i7 x7⟩
       clear h9 j1 h5 x5 i5 h6 x6 h7 i7 x7 k8 k5 d3;go_wp2;go_roundg m
       case rel=>exact fin
       case measure=>omega
      ·have z1:(rsT F its xx sj).fifth j a3.pos=rsT F its xx sj:=Oh;have d1:=h5;rw[<-z1]at d1;have HFI:Hid _:=z1;have h8:=HGY.out _ W5 (n5.fr d1 (Fr.refl H F0 W5) F0.body) j5;rw[d5]at q3 h8;clear o5 j5 n5 z1 q1;go_wp2_with fail
       refine h8.mono ?_;rintro e W7 ⟨rfl,h7,i7,x7⟩
       have fin:∃ (j':Nat) (sj:Rs),Value.int .i64 ((j:Int)+1)= .int .i64 j'/\j'<=aD p/\aD p<=j'+m/\LpW H pb rb fb vb pc F its (bCF p) si WP j' sj W7:=
        ⟨j+1,_,Od,Oa,Oa,h9.out W5 W5 W7 i5 x5 (Fr.refl H F0 W5) h7 i7 x7⟩
       clear h9 j1 h5 x5 i5 h7 i7 x7 k8 k5 d3 d1;go_wp2;go_roundg m
       case rel=>exact fin
       case measure=>omega
     ·have g5: ¬(j:Int) < (aD p:Int):=Oa
      have hj2:j=aO (bCF p):=by rw[<-j2.out];omega
      obtain⟨g1,iW⟩:sj=whR F its (bCF p) 0 si/\IsT wr (whT F its (bCF p) 0 si):=by
       have:=LW;rw[hj2]at this;exact this.fin
      have y9:sj.vars.length+eE q<=1000000:=by
       have k1:=HPN.out si;have k2:=j9.out;rw[g1];omega
      have k4:=HGq.out sj wr n4 iQ4 y9;rw[hvq]at k4;have HXW:Hid (Fr H (Pt (bCF p)) WP wr):=LW.fr;have HF4:Hid (FnW wr b a l p q):=f4;have HIW:Hid (IsT wr (whT F its (bCF p) 0 si)):=iW;have HSJ:Hid (sj=whR F its (bCF p) 0 si):=g1;clear LW j1 n4 f4 iQ4 y9 hj2 iW g1 m4 m6 z6;go_wp2_with fail
      refine k4.mono ?_;rintro e W5 ⟨rfl,h5,i5,x5⟩;have f5:=HF4.out.fr x5 (fun t p h=>(Pt.body t p h).inT);obtain⟨_,_,_,_,_,m6,z6⟩:=f5.cells;have c5:W5.cell? ⟨rb,2,none⟩=some (.map (some vb)):=h5.cell 2
      have g9:aBL H pb rb fb vb pc F its (.node b o a l (.node x y z p q)) (fnT F its (.node b o a l (.node x y z p q)) s) (fnR F its (.node b o a l (.node x y z p q)) s) w (.returned (.tuple #[])) (W5.setCell ⟨b,6,none⟩ (.int .i64 (rsT F its q sj).vars.length)):=by
       have e1:=HSJ.out;have e2:=HSI.out;rw[e2]at e1;have i4:=HIW.out;rw[e2]at i4;subst e1;exact FIN.out g S0 W2 WP wr W5 HS0.out (fun k6=>(HG.out k6).2.2) HX2.out HX3.out z4.out HXW.out i4 x5 i5 h5
      clear f5 FIN STN STM i5 x5;go_wp2_with (at_len;refine gA rfl _ rfl vb _ _ rfl h5.vars ?_)
      go_end0
      exact g9
 ·obtain⟨S0,hS⟩:∃ S0,s.few a=S0:=⟨_,rfl⟩;have HS0:Hid (s.few a=S0):=hS;have h1:RsW H pb rb fb vb pc F S0 w:=by rw[<-hS,show s.few a=s from if_neg hk];exact j4
  have x1:Fr H F0 w w:=Fr.refl _ _ _;clear hS;go_enter Tryz.func128,Tryz.ntmps128
  obtain⟨W2,d0,m9,g4⟩:=h1.vars.clear;have h2:RsW H pb rb fb vb pc F S0.clear W2:=h1.turned m9 g4;have x2:Fr H F0 w W2:=x1.turned h1.vge g4;have c2:w.cell? ⟨rb,2,none⟩=some (.map (some vb)):=h1.cell 2;obtain⟨_,f2,_,_⟩:=STN.out S0.clear W2 W2 x2 (Fr.refl _ _ _) h2;obtain⟨_,_,m3,_,_,_,_⟩:=f2.cells;rw[z9]at m3
  have L0:∃ g,(bCF l≠ .nil->ao=some ⟨g,0,none⟩/\H<=g/\∀ b o a l' r,l= .node b o a l' r->b=g)/\LpP H pb rb fb vb pc F g (bCF l) S0.clear W2 0 S0.clear W2:=by
   by_cases k6:bCF l= .nil
   ·exact⟨0,fun h=>absurd k6 h,LpP.start h2 rfl z7.out (fun h=>absurd k6 h)⟩
   ·obtain⟨g,e1,e2,⟨cs,e3,e4⟩,e5⟩:=HROW.out k6;exact⟨g,fun _=>⟨e1,e2,e5⟩,LpP.start h2 rfl z7.out (fun _=>⟨cs,x2.keep0 (by simp[cK,aK]) e3,e4⟩)⟩
  obtain⟨g,hg,L0⟩:=L0;have HG:Hid _:=hg;have HX2:Hid (Fr H F0 w W2):=x2;clear hg h1 x1 m9 g4 f2 x2 HFN;go_wp2_with fail
  go_loopg [29] (aD l) (fun m v wr=>∃ (i:Nat) (si:Rs),v= .int .i64 i/\i<=aD l/\aD l<=i+m/\LpP H pb rb fb vb pc F g (bCF l) S0.clear W2 i si wr)
  case atStart=>exact⟨0,S0.clear,rfl,Qe _,Oa,L0⟩
  case round=>
   clear L0 d0 c2 h2 m1 m2 j4 m3;obtain⟨i,si,rfl,hle,hm,LP⟩:=hrel;have d4:Hid _:=LP;obtain⟨n3,f3,iP3,iQ3⟩:=STN.out si W2 wr HX2.out LP.fr LP.rs;obtain⟨_,_,m3,m4,m5,_,_⟩:=f3.cells;rw[z9]at m3
   by_cases hlt:i < aD l
   ·have g6:(i:Int) < (aD l:Int):=Oa
    obtain⟨b2,o2,a2,e2,r2,hd,z2⟩:=dK i (bCF l) (by rw[<-j3.out];exact hlt);have k6:bCF l≠ .nil:=by intro hx;rw[hx]at hd;cases i<;>cases hd
    obtain⟨hao,hgH,_⟩:=HG.out k6;have g3:=LP.name hgH z7.out hd;have hfew:=LP.few
    have k9:(eI e2).size<=maxLen:=by
     have y8:=eX Ou i _ z7.out;rw[hd]at y8;obtain⟨_,k9,_⟩:=aY Ou y8;cases e2 with
     |nil=>exact absurd k9 (by unfold Ws bK;simp)
     |node b3 o3 a3 x3 y3=>have:=k9.parts.1.name;show a3.name.size<=maxLen;unfold maxLen;omega
    have j4:=LP.rs;have z5:Hid (FnW wr b a l p q):=f3;have h9:Hid _:=fun w2 w3=>d4.out.step (w2:=w2) (w3:=w3) z7.out hd z2;subst hao;clear LP f3 n3 iP3 iQ3 hd z2 k6 m4 m5;go_wp2_with fail
    refine(tI wr 4 j4 g3 k9).mono ?_;rintro e W5 ⟨rfl,h5,x5⟩;have m8:=g3.fr0 x5;have f5:=z5.out.fr (x5.mono (F0.to (P:=F0))) (fun _ _ h=>absurd h id);obtain⟨_,_,m3',_,_,_,_⟩:=f5.cells;rw[z9]at m3';have hv5:(si.newVar (eI e2) (bEN e2) 4).vars.length<=1000000:=by rw[jG];omega
    go_wp2_with fail
    refine(tX W5 h5 m8 k9 hv5).mono ?_;rintro e W6 ⟨rfl,h6,x6,wr6⟩;rw[jG]at wr6;obtain⟨m,rfl⟩:=Oj gk
    have fin:∃ (i':Nat) (si:Rs),Value.int .i64 ((i:Int)+1)= .int .i64 i'/\i'<=aD l/\aD l<=i'+m/\LpP H pb rb fb vb pc F g (bCF l) S0.clear W2 i' si W6:=
     ⟨i+1,_,Od,Oa,Oa,h9.out W5 W6 x5 h6 x6 wr6⟩
    clear h9 d4 h5 x5 h6 x6 wr6 m8 f5 z5 g3;go_wp2;go_roundg m
    case rel=>exact fin
    case measure=>omega
   ·have g6: ¬(i:Int) < (aD l:Int):=Oa
    have hi2:i=aO (bCF l):=by rw[<-j3.out];omega
    have hfew2:=LP.few
    obtain⟨d6,z0⟩:si=jF (bCF l) S0.clear/\(bCF l≠ .nil->At wr g 100 fun cs=>jO cs 0 (lE (bCF l) S0.clear)):=by
     have:=LP;rw[hi2]at this;exact this.fin
    have hvb:si.vars.length<=10000:=Oa
    rw[hvp]at m4;have z4:Hid _:=z0;have HX3:Hid (Fr H (PN (bCF l)) W2 wr):=LP.fr;have d8:=LP.rs
    have iPe:IsT wr (bCF p):=by
     cases p with
     |nil=>trivial
     |node=>exact iP3.1
    have M0:LpW H pb rb fb vb pc F its (bCF p) si wr 0 si wr:=LpW.start d8 iPe;have HSI:Hid (si=jF (bCF l) S0.clear):=d6;have HN3:Hid (NsW H pb rb fb vb pc F its si wr):=n3;have HF3:Hid (FnW wr b a l p q):=f3;have HQ3:Hid (IsT wr q):=iQ3;have HP3:Hid (IsT wr p):=iP3;clear z0 d6 LP d4 n3 f3 iQ3 iP3 iPe d8 m3 m5 hi2
    rename World=>WP
    go_wp2_with fail
    go_loopg [54] (aD p) (fun m v wk=>∃ (j:Nat) (sj:Rs),v= .int .i64 j/\j<=aD p/\aD p<=j+m/\LpW H pb rb fb vb pc F its (bCF p) si WP j sj wk)
    case atStart=>exact⟨0,si,rfl,Qe _,Oa,M0⟩
    case round=>
     clear M0 m4;obtain⟨j,sj,rfl,hle2,hm2,LW⟩:=hrel;have j1:Hid _:=LW;obtain⟨n4,f4,iQ4⟩:=STM.out si WP wr HN3.out HF3.out HQ3.out sj LW.fr LW.rs;obtain⟨_,_,_,m4,m5,m6,z6⟩:=f4.cells;rw[hvq]at m5
     by_cases g7:j < aD p
     ·have g5:(j:Int) < (aD p:Int):=Oa
      obtain⟨b2,o2,a2,e2,r2,hd,z2⟩:=dK j (bCF p) (by rw[<-j2.out];exact g7);have y8:=eX Ov j _ HWP.out;rw[hd]at y8;obtain⟨h15,k9,_⟩:=aY Ov y8;obtain⟨b3,o3,a3,xx,yy,rfl,h7,y1,k7⟩:=aL9 k9;obtain⟨gg,rfl,y0⟩:=pJ HWp.out HP3.out LW.fr Pt.body hvp hd ⟨b3,o3,a3,xx,yy,rfl,h7⟩;replace y0:wr.cell? ⟨gg,j,none⟩=some (.pointer (some ⟨b3,0,none⟩)):=y0;have k0:=LW.rest;have y4:=lT j _ j0.out;rw[hd]at k0 y4;have ue:=dZ (b:=b3) (o:=o3) (dZ y4).left
      have y6:aUI H (BT.node b3 o3 a3 xx yy):=by
       have h0:=lO j (bCF p) (jI HFR.out);rw[hd]at h0;exact h0.1
      obtain⟨u,pp,hvx⟩:=y1.val (.inr (.inr Oy));obtain⟨u2',pp2,d5⟩:=k7.val (.inr (.inr Oy))
      have own2:∀ w',Own w' b3 a3 xx yy->w'.cell? ⟨b3,2,none⟩=some (bCH xx)/\w'.cell? ⟨b3,3,none⟩=some (bCH yy)/\w'.cell? ⟨b3,1,none⟩=some (.int .i64 a3.pos):=by
       intro w' ho;obtain⟨cs,hc,_,k1,k2,k3⟩:=aI ho (n:=7) h7;exact⟨Og hc k2,Og hc k3,Og hc k1⟩
      have q2:=(own2 wr k0.1.2.2).1;have k4:=HGe.out xx y6.1 ue.left (sP y1) sj wr n4 k0.1.1;have HGY:Hid (GN 195 H pb rb fb vb pc F its bCH yy):=HGe.out yy y6.2.1 ue.right (sP k7);rw[hvx]at q2 k4;have d2:Hid _:=own2;have h9:Hid _:=fun w2 w3 w4=>j1.out.step (w2:=w2) (w3:=w3) (w4:=w4) HWP.out j0.out hd z2
      have k8:Hid (∀ W5,Fr H (Pt xx) wr W5->Own W5 b3 a3 xx yy/\IsT W5 yy):=fun W5 x5=>by
       have:=gV (H:=H) (b:=b3) (o:=o3) (sP k7) ue k0.1 x5 Oa;exact⟨this.2,this.1⟩
      have k5:Hid (∀ W5 W6,Fr H F0 W5 W6->Own W5 b3 a3 xx yy->IsT W5 yy->Own W6 b3 a3 xx yy/\IsT W6 yy):=fun W5 W6 x6 k1 k2=>
       ⟨cX k1 x6 F0.body (fun p hp ty hq=>hq) Oa,IsT.fr x6 (fun t p hp=>absurd hp id) (sP k7) k2 (fun _ _ _ h=>h)⟩
      have d3:Hid (NsW H pb rb fb vb pc F its sj wr):=n4;clear LW f4 n4 iQ4 hd z2 y8 k9 y1 k7 k0 y4 ue y6 own2 m4 m5 m6 z6 h7 h15;go_wp2_with fail
      refine k4.mono ?_;rintro e W5 ⟨rfl,h5,i5,x5⟩;obtain⟨o5,j5⟩:=k8.out W5 x5;have q1:=(d2.out W5 o5).2.2;have q3:=(d2.out W5 o5).2.1;have n5:=d3.out.fr h5 x5 Pt.body;obtain⟨m,rfl⟩:=Oj gk
      by_cases h4j:(4:Int)<=(j:Int)
      ·have z1:Hid ((rsT F its xx sj).fifth j a3.pos=(rsT F its xx sj).fail 5 a3.pos):=if_pos Oa;go_wp2_with fail
       refine(bCJ 5 a3.pos W5 h5).mono ?_;rintro e W6 ⟨rfl,h6,x6⟩;rw[<-z1.out]at h6;obtain⟨o6,j6⟩:=k5.out W5 W6 x6 o5 j5;have q4:=(d2.out W6 o6).2.1;have h8:=HGY.out _ W6 (n5.fr h6 x6 F0.body) j6;rw[d5]at q4 h8;clear q1 q3 o5 j5 o6 j6 n5;go_wp2_with fail
       refine h8.mono ?_;rintro e W7 ⟨rfl,h7,i7,x7⟩
       have fin:∃ (j':Nat) (sj:Rs),Value.int .i64 ((j:Int)+1)= .int .i64 j'/\j'<=aD p/\aD p<=j'+m/\LpW H pb rb fb vb pc F its (bCF p) si WP j' sj W7:=
        ⟨j+1,_,Od,Oa,Oa,h9.out W5 W6 W7 i5 x5 x6 h7 i7 x7⟩
       clear h9 j1 h5 x5 i5 h6 x6 h7 i7 x7 k8 k5 d3;go_wp2;go_roundg m
       case rel=>exact fin
       case measure=>omega
      ·have z1:(rsT F its xx sj).fifth j a3.pos=rsT F its xx sj:=Oh;have d1:=h5;rw[<-z1]at d1;have HFI:Hid _:=z1;have h8:=HGY.out _ W5 (n5.fr d1 (Fr.refl H F0 W5) F0.body) j5;rw[d5]at q3 h8;clear o5 j5 n5 z1 q1;go_wp2_with fail
       refine h8.mono ?_;rintro e W7 ⟨rfl,h7,i7,x7⟩
       have fin:∃ (j':Nat) (sj:Rs),Value.int .i64 ((j:Int)+1)= .int .i64 j'/\j'<=aD p/\aD p<=j'+m/\LpW H pb rb fb vb pc F its (bCF p) si WP j' sj W7:=
        ⟨j+1,_,Od,Oa,Oa,h9.out W5 W5 W7 i5 x5 (Fr.refl H F0 W5) h7 i7 x7⟩
       clear h9 j1 h5 x5 i5 h7 i7 x7 k8 k5 d3 d1;go_wp2;go_roundg m
       case rel=>exact fin
       case measure=>omega
     ·have g5: ¬(j:Int) < (aD p:Int):=Oa
      have hj2:j=aO (bCF p):=by rw[<-j2.out];omega
      obtain⟨g1,iW⟩:sj=whR F its (bCF p) 0 si/\IsT wr (whT F its (bCF p) 0 si):=by
       have:=LW;rw[hj2]at this;exact this.fin
      have y9:sj.vars.length+eE q<=1000000:=by
       have k1:=HPN.out si;have k2:=j9.out;rw[g1];omega
      have k4:=HGq.out sj wr n4 iQ4 y9;rw[hvq]at k4;have HXW:Hid (Fr H (Pt (bCF p)) WP wr):=LW.fr;have HF4:Hid (FnW wr b a l p q):=f4;have HIW:Hid (IsT wr (whT F its (bCF p) 0 si)):=iW;have HSJ:Hid (sj=whR F its (bCF p) 0 si):=g1;clear LW j1 n4 f4 iQ4 y9 hj2 iW g1 m4 m6 z6;go_wp2_with fail
      refine k4.mono ?_;rintro e W5 ⟨rfl,h5,i5,x5⟩;have f5:=HF4.out.fr x5 (fun t p h=>(Pt.body t p h).inT);obtain⟨_,_,_,_,_,m6,z6⟩:=f5.cells;have c5:W5.cell? ⟨rb,2,none⟩=some (.map (some vb)):=h5.cell 2
      have g9:aBL H pb rb fb vb pc F its (.node b o a l (.node x y z p q)) (fnT F its (.node b o a l (.node x y z p q)) s) (fnR F its (.node b o a l (.node x y z p q)) s) w (.returned (.tuple #[])) (W5.setCell ⟨b,6,none⟩ (.int .i64 (rsT F its q sj).vars.length)):=by
       have e1:=HSJ.out;have e2:=HSI.out;rw[e2]at e1;have i4:=HIW.out;rw[e2]at i4;subst e1;exact FIN.out g S0 W2 WP wr W5 HS0.out (fun k6=>(HG.out k6).2.2) HX2.out HX3.out z4.out HXW.out i4 x5 i5 h5
      clear f5 FIN STN STM i5 x5;go_wp2_with (at_len;refine gA rfl _ rfl vb _ _ rfl h5.vars ?_)
      go_end0
      exact g9
end Go.Proofs.YtikffmloeifkpaaGreatDoor
