/- Contracts. -/
import Derived.Test.YtikffmloeifkpaaGreatDoorQ17
namespace Go.Proofs.YtikffmloeifkpaaGreatDoor
open Go.RowKit Go.Lib Go.Deep Go.ChangeMaps Go.MapKept
variable {T:List Tok}
def mu:Tr->Nat
 | .nil=>0
 | .node _ _ a l q=>if a.tag=12 then 4*(2+mu l+mu q)else(if a.tag=7\/a.tag=8\/a.tag=11 then 1 else 0)+mu l+mu q
theorem xQ:∀ (t:Tr) (s:Nat),s=0\/s=3\/s=13\/s=99->Ws s t->mu t=0:=by
 intro t
 induction t with
 |nil=>intro _ _ _;rfl
 |node b o a l q ihl ihq=>
  intro s hs hw;unfold Ws at hw;obtain⟨_,_,hw⟩:=hw;cases hsig:sig s a.tag with
  |none=>rw[hsig]at hw;exact hw.elim
  |some p=>
   obtain⟨x,y⟩:=p;rw[hsig]at hw
   have h0:(a.tag≠12/\a.tag≠7/\a.tag≠8/\a.tag≠11)/\(x=0\/x=3\/x=13\/x=99)/\(y=0\/y=3\/y=13\/y=99):=by
    unfold sig at hsig;rcases hs with rfl|rfl|rfl|rfl<;>simp at hsig
    ·repeat' split at hsig
     all_goals simp at hsig
     all_goals omega
    ·omega
    ·omega
   obtain⟨⟨h1,h2,h3,h4⟩,hx,hy⟩:=h0;unfold mu;rw[if_neg h1,Oh,ihl x hx hw.1,ihq y hy hw.2]
def Mu(T:List Tok)(k:Nat->Nat)(S:Pr):Prop:=∀ (r:Rd) (j:Nat),r.next < T.length->r.nest=(j:Int)->j<=10->(S r).1.code=0->∃ d,(S r).1.next=r.next+d/\mu (S r).2<=k j*d
theorem aG1(_hT:eF T)(he:cY T){S:Pr}(hG:aZ T S)(hS:Ok T 0 S):Mu T (fun _=>1) (iJ T S):=by
 intro r j hr _ _ hc;have a1:=hG r hr;have a2:=aP he a1.lt (show aQ iR 0=false by decide);obtain⟨h1,h2,h3⟩:=hS _ a2.lt hc;obtain⟨h5,h6,h7,h8⟩:=bR h1;obtain⟨k1,k2,k3⟩:=hS r hr h5;have a3:=hG _ a2.lt;have e1:=a1.ge;have e2:=a3.ge;refine⟨(iJ T S r).1.next - r.next,?_,?_⟩
 ·show(S ((S r).1.take T iR)).1.next=_+((S ((S r).1.take T iR)).1.next - _);omega
 ·show(if(7:Nat)=12 then _ else(if(7:Nat)=7\/_ then 1 else 0)+mu (S r).2+mu (S ((S r).1.take T iR)).2)<=1*((S ((S r).1.take T iR)).1.next - r.next);rw[if_neg Ob,if_pos Ox,xQ _ 0 Ox k2,xQ _ 0 Ox h2];omega
theorem aJT(hT:eF T)(he:cY T){S:Pr}(hG:aZ T S)(hS:Ok T 1 S)(hM:Mu T (fun _=>1) S){op:Int}(h5:op=32\/op=33)(h0:aQ [op] 0=false):∀ (n:Nat) (r:Rd) (v:Tr) (j:Nat),r.next < T.length->r.nest=(j:Int)->j<=10->(gD T S op n r v).1.code=0->
 ∃ d,(gD T S op n r v).1.next=r.next+d/\mu (gD T S op n r v).2<=mu v+d:=by
 intro n
 induction n with
 |zero=>intro r v j _ _ _ _;exact⟨0,rfl,Qc _⟩
 |succ n ih=>
  intro r v j hr hn hj hc;unfold gD at hc ⊢
  by_cases hs:aN T r [op]=true
  ·rw[if_pos hs]at hc ⊢;have a1:=dU he hr h0;have a2:=hG _ a1.lt;have h6:=(vX hT he hG hS h5 h0 n _ _ a2.lt hc).1;obtain⟨d1,h1,h2⟩:=ih _ _ j a2.lt (by rw[a2.nest,a1.nest];exact hn) hj hc;obtain⟨d2,h3,h4⟩:=hM _ j a1.lt (by rw[a1.nest];exact hn) hj h6;have hsk:(r.skips T [op]).next=r.next+1:=by unfold Rd.skips;rw[if_pos hs];rfl
   refine⟨1+d2+d1,Oa,?_⟩;have e:mu (mk {tag:=8,op:=op} v (S (r.skips T [op])).2)=1+mu v+mu (S (r.skips T [op])).2:=by simp[mk,mu]
   rw[e]at h2;have h4:mu (S (r.skips T [op])).2<=1*d2:=h4;rw[Nat.one_mul]at h4;omega
  ·rw[if_neg hs];exact⟨0,rfl,Qc _⟩
theorem aE3(hT:eF T)(he:cY T){S:Pr}(hG:aZ T S)(hS:Ok T 1 S)(hM:Mu T (fun _=>1) S){op:Int}(h5:op=32\/op=33)(h0:aQ [op] 0=false)(n:Nat):Mu T (fun _=>1) (kK T S op n):=by
 intro r j hr hn hj hc;have a1:=hG r hr;obtain⟨d1,h1,h2⟩:=aJT hT he hG hS hM h5 h0 n _ _ j a1.lt (by rw[a1.nest];exact hn) hj hc;have h6:=(vX hT he hG hS h5 h0 n _ _ a1.lt hc).1;obtain⟨d2,h3,h4⟩:=hM r j hr hn hj h6;refine⟨d2+d1,?_,?_⟩
 ·show(gD T S op n (S r).1 (S r).2).1.next=_;omega
 ·have h4:mu (S r).2<=1*d2:=h4;show mu (gD T S op n (S r).1 (S r).2).2<=1*(d2+d1);omega
theorem aJV{S:Pr}{k:Nat->Nat}(hG:aZ T S)(hS:Ok T 2 S)(hM:Mu T k S):∀ (n:Nat) (r:Rd) (j:Nat),r.next < T.length->r.nest=(j:Int)->j<=10->(cL T S n r).1.code=0->∃ d,(cL T S n r).1.next=r.next+d/\mu (cL T S n r).2<=k j*d:=by
 intro n
 induction n with
 |zero=>intro r j _ _ _ _;exact⟨0,rfl,Qe _⟩
 |succ n ih=>
  intro r j hr hn hj hc;unfold cL at hc ⊢
  by_cases hs:aN T r [15,0]=true
  ·rw[if_pos hs];exact⟨0,rfl,Qe _⟩
  ·rw[if_neg hs]at hc ⊢;have a2:=hG _ hr;obtain⟨d1,h1,h2⟩:=ih _ j a2.lt (by rw[a2.nest];exact hn) hj hc;obtain⟨d2,h3,h4⟩:=hM _ j hr hn hj (pI hG hS n _ a2.lt hc).1;refine⟨d2+d1,by dsimp only;omega,?_⟩;have e:mu (cons (S r).2 (cL T S n (S r).1).2)=0+mu (S r).2+mu (cL T S n (S r).1).2:=by simp[cons,mk,mu]
   show mu (cons (S r).2 (cL T S n (S r).1).2)<=_;rw[e,Nat.mul_add];omega
theorem aJU(l:Tr):mu (gE l)=mu l:=by
 cases l with
 |nil=>rfl
 |node b o a x y=>
  show 0+mu (.node b o a x y)+0=_;omega
theorem aDV{r:Rd}{ks:List Int}(h:(r.opened T ks).code=0):r.nest+1<=10:=by
 unfold Rd.opened Rd.deeper at h
 by_cases hd:10 < (r.take T ks).nest+1
 ·rw[if_pos hd]at h;exact absurd h (mS Ob)
 ·have e:(r.take T ks).nest=r.nest:=by
   unfold Rd.take
   split
   ·rfl
   ·exact(lP _ _ _ _).2
  omega
theorem aNG(_hT:eF T)(he:cY T){S:Pr}(hG:aZ T S)(hS:Ok T 2 S)(hM:Mu T (fun j=>8 ^ (11 - j)) S)(n:Nat):Mu T (fun j=>8 ^ (10 - j)) (qI T S n):=by
 intro r j hr hn hj hc;obtain⟨o1,o2,o3⟩:=dF he hr (show aQ [14] 0=false by decide);obtain⟨h1,h2⟩:=pV hc;obtain⟨k1,k2,k3⟩:=pI hG hS n _ o2 h1;obtain⟨m1,m2⟩:=mR k1;have hle:=aDV k1;obtain⟨d,h3,h4⟩:=aJV hG hS hM n _ (j+1) o2 Oa Oa h1;refine⟨1+d+1,?_,?_⟩
 ·show(Rd.shut T _ 15).next=_;rw[h2,h3,m2];omega
 ·show mu (gE _)<=_;rw[aJU];refine Qd h4 ?_;show 8 ^ (11 - (j+1))*d<=8 ^ (10 - j)*(1+d+1);rw[show 11 - (j+1)=10 - j by omega];exact Nat.mul_le_mul_left _ Oa
theorem aMS{j:Nat}(h:j<=10):8 ^ (11 - j)=8*8 ^ (10 - j)/\1<=8 ^ (10 - j):=by
 rw[show 11 - j=(10 - j)+1 by omega,Nat.pow_succ];exact⟨Nat.mul_comm _ _,Nat.one_le_pow _ _ Ob⟩
theorem aQE(hT:eF T)(he:cY T){S C B:Pr}(hG:aZ T S)(hS:Ok T 0 S)(h7:aZ T C)(hC:Ok T 1 C)(h8:Mu T (fun _=>1) C)(h9:aZ T B)(hB:Ok T 4 B)(h6:Mu T (fun j=>8 ^ (10 - j)) B):Mu T (fun j=>8 ^ (11 - j)) (eL T S C B):=by
 intro r j hr hn hj hc;have a1:=aP he hr (show aQ aR 0=false by decide);have hge:=(aB3 he hG h7 h9 r hr).ge;have hw:=(aHS hT he hG hS h7 hC h9 hB r hr hc).2.1;obtain⟨p1,p2⟩:=aMS hj
 have aHN:∀ (x:Tr),(eL T S C B r).2=x->(∃ b o a l q,x= .node b o a l q/\(a.tag=9\/a.tag=10\/a.tag=13\/a.tag=14))->∃ d,(eL T S C B r).1.next=r.next+d/\mu (eL T S C B r).2<=8 ^ (11 - j)*d:=by
  rintro x hx ⟨b,o,a,l,q,rfl,ht⟩;refine⟨(eL T S C B r).1.next - r.next,Oa,?_⟩;rw[hx]at hw ⊢
  obtain⟨_,x,y,h0,hl,hq⟩:_/\∃ x y,sig 2 a.tag=some (x,y)/\Ws x l/\Ws y q:=by
   unfold Ws at hw;obtain⟨w1,w2,w3⟩:=hw;cases h0:sig 2 a.tag with
   |none=>rw[h0]at w3;exact w3.elim
   |some p=>rw[h0]at w3;exact⟨w1,p.1,p.2,rfl,w3.1,w3.2⟩
  have k0:x=0/\(y=0\/y=99):=by
   rcases ht with h|h|h|h<;>rw[h]at h0<;>simp[sig]at h0<;>omega
  obtain⟨rfl,hy⟩:=k0;unfold mu;rw[Oh,Oh,xQ l 0 Ox hl,xQ q y Oa hq];exact Qe _
 by_cases k6:(cN T r aR).kind=6
 ·refine aHN (eL T S C B r).2 rfl ?_;unfold eL;dsimp only;rw[if_pos k6];exact⟨_,_,_,_,_,rfl,.inl rfl⟩
 by_cases k7:(cN T r aR).kind=7
 ·unfold eL at hc ⊢;dsimp only at hc ⊢;rw[if_neg k6,if_pos k7]at hc ⊢;have b1:=h7 _ a1.lt;have b2:=h9 _ b1.lt;have b3:=dU he b2.lt (show aQ [8] 0=false by decide);unfold ifP at hc ⊢;dsimp only at hc ⊢;generalize h5:r.take T aR=r1 at*;have h4:r1.nest=(j:Int):=by rw[a1.nest];exact hn
  by_cases hs:aN T (B (C r1).1).1 [8]=true
  ·rw[if_pos hs]at hc ⊢;obtain⟨h1,h2,h3⟩:=hB _ b3.lt hc;obtain⟨q1,q2,q3⟩:=hB _ b1.lt (pE h1);obtain⟨m1,m2,m3⟩:=hC _ a1.lt q1;have t1:=bR (r:=r) (by rw[h5];exact m1);rw[h5]at t1;obtain⟨d1,e1,f1⟩:=h8 _ j a1.lt h4 hj q1;obtain⟨d2,e2,f2⟩:=h6 _ j b1.lt (by rw[b1.nest];exact h4) hj (pE h1);obtain⟨d3,e3,f3⟩:=h6 _ j b3.lt (by rw[b3.nest,b2.nest,b1.nest];exact h4) hj hc;have hsk:((B (C r1).1).1.skips T [8]).next=(B (C r1).1).1.next+1:=by unfold Rd.skips;rw[if_pos hs];rfl
   refine⟨1+d1+d2+1+d3,by have:=t1.2.2.1;dsimp only;omega,?_⟩;have e:mu (mk {tag:=11} (C r1).2 (mk {tag:=18} (B (C r1).1).2 (B ((B (C r1).1).1.skips T [8])).2))=1+mu (C r1).2+(0+mu (B (C r1).1).2+mu (B ((B (C r1).1).1.skips T [8])).2):=rfl;dsimp only;rw[e,p1];dsimp only at f1 f2 f3;generalize 8 ^ (10 - j)=W at*;have g1:d1<=W*d1:=Nat.le_mul_of_pos_left _ p2
   have g2:8*W*(1+d1+d2+1+d3)=8*W+8*(W*d1)+8*(W*d2)+8*W+8*(W*d3):=by
    rw[Nat.mul_add,Nat.mul_add,Nat.mul_add,Nat.mul_add,Nat.mul_one,Nat.mul_assoc 8 W d1,Nat.mul_assoc 8 W d2,Nat.mul_assoc 8 W d3]
   rw[g2];generalize W*d1=x1 at*;generalize W*d2=x2 at*;generalize W*d3=x3 at*;omega
  ·rw[if_neg hs]at hc ⊢;obtain⟨q1,q2,q3⟩:=hB _ b1.lt hc;obtain⟨m1,m2,m3⟩:=hC _ a1.lt q1;have t1:=bR (r:=r) (by rw[h5];exact m1);rw[h5]at t1;obtain⟨d1,e1,f1⟩:=h8 _ j a1.lt h4 hj q1;obtain⟨d2,e2,f2⟩:=h6 _ j b1.lt (by rw[b1.nest];exact h4) hj hc;refine⟨1+d1+d2,by have:=t1.2.2.1;dsimp only;omega,?_⟩;have e:mu (mk {tag:=11} (C r1).2 (mk {tag:=18} (B (C r1).1).2 .nil))=1+mu (C r1).2+(0+mu (B (C r1).1).2+0):=rfl;dsimp only;rw[e,p1];dsimp only at f1 f2;generalize 8 ^ (10 - j)=W at*;have g1:d1<=W*d1:=Nat.le_mul_of_pos_left _ p2
   have g2:8*W*(1+d1+d2)=8*W+8*(W*d1)+8*(W*d2):=by
    rw[Nat.mul_add,Nat.mul_add,Nat.mul_one,Nat.mul_assoc 8 W d1,Nat.mul_assoc 8 W d2]
   rw[g2];generalize W*d1=x1 at*;generalize W*d2=x2 at*;omega
 by_cases k9:(cN T r aR).kind=9
 ·unfold eL at hc ⊢;dsimp only at hc ⊢;rw[if_neg k6,if_neg k7,if_pos k9]at hc ⊢;have b1:=h7 _ a1.lt;generalize h5:r.take T aR=r1 at*;have h4:r1.nest=(j:Int):=by rw[a1.nest];exact hn
  obtain⟨q1,q2,q3⟩:=hB _ b1.lt hc;obtain⟨m1,m2,m3⟩:=hC _ a1.lt q1;have t1:=bR (r:=r) (by rw[h5];exact m1);rw[h5]at t1;obtain⟨d1,e1,f1⟩:=h8 _ j a1.lt h4 hj q1;obtain⟨d2,e2,f2⟩:=h6 _ j b1.lt (by rw[b1.nest];exact h4) hj hc;refine⟨1+d1+d2,by have:=t1.2.2.1;dsimp only;omega,?_⟩;have e:mu (mk {tag:=12} (C r1).2 (B (C r1).1).2)=4*(2+mu (C r1).2+mu (B (C r1).1).2):=rfl;dsimp only;rw[e,p1];dsimp only at f1 f2;generalize 8 ^ (10 - j)=W at*;have g1:d1<=W*d1:=Nat.le_mul_of_pos_left _ p2
  have g2:8*W*(1+d1+d2)=8*W+8*(W*d1)+8*(W*d2):=by
   rw[Nat.mul_add,Nat.mul_add,Nat.mul_one,Nat.mul_assoc 8 W d1,Nat.mul_assoc 8 W d2]
  rw[g2];generalize W*d1=x1 at*;generalize W*d2=x2 at*;omega
 ·refine aHN (eL T S C B r).2 rfl ?_;unfold eL;dsimp only;rw[if_neg k6,if_neg k7,if_neg k9]
  split
  ·exact⟨_,_,_,_,_,rfl,.inr Ow⟩
  split
  ·exact⟨_,_,_,_,_,rfl,.inr (.inr Oy)⟩
  split
  ·exact⟨_,_,_,_,_,rfl,.inr Ox⟩
  ·exact⟨_,_,_,_,_,rfl,.inl rfl⟩
theorem aNF(hT:eF T)(he:cY T):∀ n,Mu T (fun _=>1) (iH T n 3)/\Mu T (fun _=>1) (iH T n 4)/\Mu T (fun _=>1) (iH T n 5)/\Mu T (fun j=>8 ^ (10 - j)) (iH T n 6)/\Mu T (fun j=>8 ^ (11 - j)) (iH T n 7):=by
 intro n
 induction n with
 |zero=>
  have no:∀ s k,Mu T k (iH T 0 s):=fun s k r j _ _ _ hc=>absurd hc (mS Ob);exact⟨no _ _,no _ _,no _ _,no _ _,no _ _⟩
 |succ n ih=>
  obtain⟨i3,i4,i5,i6,i7⟩:=ih;have hg:=gF he n;have ok:=pH hT he n;exact⟨aG1 hT he (hg 2) (ok 2),aE3 hT he (hg 3) (ok 3) i3 Ox Ob n,aE3 hT he (hg 4) (ok 4) i4 Oy Ob n,aNG hT he (hg 7) (ok 7) i7 n,aQE hT he (hg 2) (ok 2) (hg 5) (ok 5) i5 (hg 6) (ok 6) i6⟩
def MuB(e:Tr):Prop:=∀ b o a l x y z p q,e= .node b o a l (.node x y z p q)->mu q<=8 ^ 10*5000
theorem aE4(hT:eF T)(he:cY T){B:Pr}(h1:aZ T B)(_hB:Ok T 4 B)(h0:Mu T (fun j=>8 ^ (10 - j)) B)(n:Nat)(r:Rd)(hr:r.next < T.length)(hn:r.nest=0)(hc:(cZ T B n r).1.code=0):MuB (cZ T B n r).2:=by
 have a1:=aP he hr (show aQ [1] 0=false by decide);obtain⟨o1,o2,o3⟩:=dF he a1.lt (show aQ [12] 0=false by decide);rw[mN]at hc ⊢;dsimp only at hc ⊢;have p1:=bCX he n _ o2;have a2:=lC he o1 o3 p1 (show aQ [13] 0=false by decide);have w1:=oM he n _ a2.lt;have hlt:=(h1 _ w1.lt).lt;obtain⟨d,e1,e2⟩:=h0 _ 0 w1.lt (by rw[w1.nest,a2.nest,a1.nest,hn];rfl) Oa hc;intro b o a l x y z p q he;simp only[mk,BT.node.injEq]at he;obtain⟨_,_,_,_,_,_,_,_,rfl⟩:=he;refine Qd e2 (Nat.mul_le_mul_left _ ?_);have:=hT.few;omega
theorem aE2(hT:eF T)(he:cY T){B:Pr}(h1:aZ T B)(hB:Ok T 4 B)(h2:Mu T (fun j=>8 ^ (10 - j)) B)(m:Nat):∀ n r,r.next < T.length->r.nest=0->(aJ T B m n r).1.code=0->∀ e∈toL (aJ T B m n r).2,MuB e:=by
 intro n
 induction n with
 |zero=>intro r _ _ _ e he;cases he
 |succ n ih=>
  intro r hr hn hc;unfold aJ at hc ⊢;dsimp only at hc ⊢
  by_cases hs:aN T r [0]=true
  ·rw[if_pos hs];intro e he;cases he
  rw[if_neg hs]at hc ⊢;have a1:=aP he hr (show aQ [3,4] 0=false by decide)
  by_cases k3:(cN T r [3,4]).kind=3
  ·rw[if_pos k3]at hc ⊢;have a2:=nS he _ a1.lt;intro e h0;rcases List.mem_cons.1 (show e∈(fQ T (r.take T [3,4])).2::toL (aJ T B m n (fQ T (r.take T [3,4])).1).2 from h0)with rfl|h0
   ·intro b o a l x y z p q he;simp only[fQ,mk,BT.node.injEq]at he;exact absurd he.2.2.2.2 Od
   ·exact ih _ a2.lt (by rw[a2.nest,a1.nest,hn]) hc e h0
  rw[if_neg k3]at hc ⊢
  by_cases k4:(cN T r [3,4]).kind=4
  ·rw[if_pos k4]at hc ⊢;have a2:=jX he h1 m _ a1.lt;intro e h0;rcases List.mem_cons.1 (show e∈(cZ T B m (r.take T [3,4])).2::toL (aJ T B m n (cZ T B m (r.take T [3,4])).1).2 from h0)with rfl|h0
   ·exact aE4 hT he h1 hB h2 m _ a1.lt (by rw[a1.nest,hn]) (mB hT he h1 hB m n _ a2.lt hc).1
   ·exact ih _ a2.lt (by rw[a2.nest,a1.nest,hn]) hc e h0
  ·rw[if_neg k4]at hc ⊢;exact ih _ a1.lt (by rw[a1.nest,hn]) hc
end Go.Proofs.YtikffmloeifkpaaGreatDoor
