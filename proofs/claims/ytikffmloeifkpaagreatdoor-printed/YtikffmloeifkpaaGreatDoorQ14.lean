/- Contracts. -/
import Derived.Test.YtikffmloeifkpaaGreatDoorQ13
namespace Go.Proofs.YtikffmloeifkpaaGreatDoor
section
open Go.RowKit Go.Lib Go.Deep Go.ChangeMaps Go.MapKept
variable {H pb rb fb vb:Nat} {pc:Array Value} {F:cM} {its:List Tr}
theorem tM{s:Nat}{t:Tr}(hs:s=3\/s=4\/s=5\/s=6\/s=8)(h:Ws s t):eE (bCF t)=eE t:=by
 rcases h.lst hs with rfl|⟨b,o,a,l,rfl,ht,_⟩
 ·rfl
 ·rw[eD,Oh];show eE l=_;simp[eE]
theorem fB{s:Nat}{t:Tr}(hs:s=3\/s=4\/s=5\/s=6\/s=8)(h:Ws s t):aD t<=10000:=by
 rcases h.lst hs with rfl|⟨b,o,a,l,rfl,ht,_⟩
 ·show 0<=10000;omega
 ·exact h.len ht
set_option maxRecDepth 100000 in
set_option maxHeartbeats 8000000 in
theorem aBH{l:Tr}(h0:Ws 4 l)(k5:(ps l).Nodup)(hA:fE (fun e=>Ws 2 e/\GS 250 H pb rb fb vb pc F its bCH e) (bCF l)):GS 196 H pb rb fb vb pc F its bCH l:=by
 intro s w h hi k4;obtain⟨ao,cp,k3⟩:=h0.lstval Ow;have hlen:=fB Ow h0;have h8:=jU Ow h0;have h5:(ps (bCF l)).Nodup:=by rw[<-h8];exact k5
 have h4:=h0.elems Ow
 have iel:IsT w (bCF l):=by
  cases l with
  |nil=>trivial
  |node=>exact hi.1
 rw[<-tM Ow h0]at k4;have y5:Hid ((ps (bCF l)).Nodup):=h5;have y4:Hid (Ws 14 (bCF l)):=h4;have y3:Hid (Ws 4 l):=h0;have y7:Hid (IsT w l):=hi;have y6:Hid (NsW H pb rb fb vb pc F its s w):=h;have L0:=LpN.start (its:=its) (L:=bCF l) h.rs iel
 have FIN:Hid (∀ wr,Fr H (Pt (bCF l)) w wr->RsW H pb rb fb vb pc F (rsT F its (bCF l) s) wr->IsT wr (reT F its (bCF l) s)->bCY H pb rb fb vb pc F (Pt l) (reT F its l s) (rsT F its l s) w (.returned (.tuple #[])) wr):=by
  intro wr hx hr ir;refine⟨rfl,by rw[h0.lstrs Ow];exact hr,aE8 Ow h0 hi hx Pt.body ir,hx.mono fun t p hp=>⟨hp.1,by rw[h8];exact hp.2⟩⟩
 rw[k3];clear h8 h5 h4 iel h0 k5 hi h;go_enter Tryz.func196,Tryz.ntmps196
 go_wp2_with fail
 go_loopg [8] (aD l) (fun m v wr=>∃ (i:Nat) (si:Rs),v= .int .i64 i/\i<=aD l/\aD l<=i+m/\si.vars.length+eE (aL i (bCF l))<=1000000/\LpN H pb rb fb vb pc F its (bCF l) s w i si wr)
 case atStart=>exact⟨0,s,rfl,Qe _,Oa,k4,L0⟩
 case round=>
  clear L0;obtain⟨i,si,rfl,hle,hm,h7,LP⟩:=hrel;have k2:Hid _:=LP
  by_cases y2:i < aD l
  ·have h9:(i:Int) < (aD l:Int):=Oa
   obtain⟨b2,o2,a2,e2,r2,hd,k1⟩:=dK i (bCF l) (by rw[<-aT];exact y2);have k8:=fE.drop i _ hA;rw[hd]at k8 h7;obtain⟨h15,⟨hE,hG⟩,_⟩:=k8
   obtain⟨gg,rfl,h6⟩:=gQ Ow y3.out y7.out LP.fr Pt.body k3 hd (by
    cases e2 with
    |nil=>exact absurd hE (by unfold Ws bK;omega)
    |node b o a l r=>
     have:=jR hE;exact⟨b,o,a,l,r,rfl,Oa,Oa⟩)
   obtain⟨u,p,y0⟩:=hE.val Ov;have k0:=LP.rest;rw[hd]at k0;have k6:eE (.node b2 o2 a2 e2 r2)=eE e2+eE r2:=by rw[eD,Oh];omega
   rw[k6]at h7;have h1:=hG si wr (y6.out.fr LP.rs LP.fr Pt.body) k0.1 Oa;have y1:=rM (F:=F) (its:=its) e2 si;have k9:Hid ((rsT F its e2 si).vars.length+eE (aL (i+1) (bCF l))<=1000000):=by rw[Hid,k1];omega
   rw[y0]at h6 h1;have h2:Hid _:=fun w3=>k2.out.step (w3:=w3) Ow y4.out y5.out hd k1;clear hG hE hd k1 k0 LP k6 y1 h7;go_wp2_with fail
   refine h1.mono ?_;rintro e W3 ⟨rfl,h3,i3,x3⟩;obtain⟨m,rfl⟩:=Oj gk
   have fin:∃ (i':Nat) (si:Rs),Value.int .i64 ((i:Int)+1)= .int .i64 i'/\i'<=aD l/\aD l<=i'+m/\si.vars.length+eE (aL i' (bCF l))<=1000000/\LpN H pb rb fb vb pc F its (bCF l) s w i' si W3:=
    ⟨i+1,_,Od,Oa,Oa,k9.out,h2.out W3 h3 i3 x3⟩
   clear h2 k2 h3 i3 x3 k9;go_wp2;go_roundg m
   case rel=>exact fin
   case measure=>omega
  ·have h9: ¬(i:Int) < (aD l:Int):=Oa
   have k7:i=aO (bCF l):=by rw[<-aT];omega
   have fin:bCY H pb rb fb vb pc F (Pt l) (reT F its l s) (rsT F its l s) w (.returned (.tuple #[])) wr:=by
    subst k7;obtain⟨e1,e2⟩:=LP.fin;have hr:=LP.rs;rw[e1]at hr;exact FIN.out wr LP.fr hr e2
   clear k7 LP k2 FIN;go_wp2;go_end0
   exact fin
def szT:Tr->Nat
 | .nil=>1
 | .node _ _ _ l r=>szT l+szT r+1
def aID(its:List Tr):Prop:=∀ b o a l r,(BT.node b o a l r)∈its->a.tag=17->Ws 6 l/\aD l<=1000000
theorem xD{b o:Nat}{a:Nd}{l r:Tr}(h:aUI H (.node b o a l r)):aUI H l/\aUI H r:=⟨h.1,h.2.1⟩
theorem aAW(h8:aID its):∀ (n:Nat) (t:Tr),szT t<=n->aUI H t->(ps t).Nodup->
 (Ws 0 t->GN 195 H pb rb fb vb pc F its bCH t)/\(Ws 1 t->GN 303 H pb rb fb vb pc F its bCH t)/\(Ws 2 t->GS 250 H pb rb fb vb pc F its bCH t)/\(Ws 4 t->GS 196 H pb rb fb vb pc F its bCH t)/\
 (Ws 13 t->fE (fun e=>Ws 0 e/\GN 195 H pb rb fb vb pc F its bCH e) t)/\(Ws 14 t->fE (fun e=>Ws 2 e/\GS 250 H pb rb fb vb pc F its bCH e) t):=by
 intro n
 induction n with
 |zero=>intro t h;cases t<;>simp[szT]at h
 |succ n ih=>
  intro t k3 hF h3;cases t with
  |nil=>
   refine⟨fun h=>absurd h (by unfold Ws bK;omega),fun h=>absurd h (by unfold Ws bK;omega),fun h=>absurd h (by unfold Ws bK;omega),fun h=>?_,fun _=>trivial,fun _=>trivial⟩;exact aBH h h3 trivial
  |node b o a l r=>
   have hl:szT l<=n/\szT r<=n:=by simp only[szT]at k3;omega
   obtain⟨Fl,Fr_⟩:=xD hF;have uq:=dZ h3;have IL:=ih l hl.1 Fl uq.left;have IR:=ih r hl.2 Fr_ uq.right
   have elemsOf:∀ q,q=l\/q=r->Ws 3 q->fE (fun e=>Ws 0 e/\GN 195 H pb rb fb vb pc F its bCH e) (bCF q):=by
    intro q hq hw;rcases hw.lst (.inl rfl)with rfl|⟨b2,o2,a2,l2,rfl,k6,h5⟩
    ·trivial
    ·have h6:szT l2<=n:=by
      have:szT (BT.node b2 o2 a2 l2 .nil)<=n:=by rcases hq with rfl|rfl<;>omega
      simp only[szT]at this;omega
     have k5:aUI H l2:=by rcases hq with rfl|rfl;exact Fl.1;exact Fr_.1
     have k4:(ps l2).Nodup:=by rcases hq with rfl|rfl;exact(dZ uq.left).left;exact(dZ uq.right).left
     exact(ih l2 h6 k5 k4).2.2.2.2.1 h5
   refine⟨fun hw=>?_,fun hw=>?_,fun hw=>?_,fun hw=>?_,fun hw=>?_,fun hw=>?_⟩
   ·obtain⟨k2,x,y,h0,h2,h1⟩:=hw.parts;refine aO3 hw hF h3 (fun hk=>?_) (fun hk=>?_) (fun hk=>?_)
    ·have:x=0:=by rcases hk with h|h|h|h<;>rw[h]at h0<;>cases h0<;>rfl
     subst this;exact⟨h2,IL.1 h2⟩
    ·have:y=0:=by rw[hk]at h0;cases h0;rfl
     subst this;exact⟨h1,IR.1 h1⟩
    ·have:x=3:=by rw[hk]at h0;cases h0;rfl
     subst this;exact aOO hk hw hF h3 (Oi (fB Ox h2)) h8 (elemsOf l Ox h2)
   ·obtain⟨k2,x,y,h0,h2,h1⟩:=hw.parts;refine aOH hw h3 (fun hk=>?_) (fun hk=>?_)
    ·rw[hk]at h0;cases h0;exact⟨h2,h1,IL.1 h2,IR.1 h1⟩
    ·rw[hk]at h0;cases h0;exact⟨h2,h1,IL.2.1 h2,IR.2.1 h1⟩
   ·obtain⟨k2,x,y,h0,h2,h1⟩:=hw.parts;refine aLN hw hF h3 (fun hk=>?_) (fun hk=>?_) (fun hk=>?_) (fun hk=>?_) (fun hk=>?_) (fun hk=>?_)
    ·rw[hk]at h0;cases h0;exact aQ1 hk hw hF h3 ⟨h2,IL.1 h2⟩
    ·have:x=0:=by rcases hk with h|h|h<;>rw[h]at h0<;>cases h0<;>rfl
     subst this;exact⟨h2,IL.1 h2⟩
    ·rw[hk]at h0;cases h0;exact⟨h1,IR.1 h1⟩
    ·have:x=1:=by rcases hk with h|h<;>rw[h]at h0<;>cases h0<;>rfl
     subst this;exact⟨h2,IL.2.1 h2⟩
    ·rw[hk]at h0;cases h0;exact⟨h1,IR.2.2.2.1 h1⟩
    ·rw[hk]at h0;cases h0;cases r with
     |nil=>exact absurd h1 (by unfold Ws bK;omega)
     |node x y z p q=>
      obtain⟨_,sp,sq,h7,k1,k0⟩:=h1.parts
      have hz:z.tag=18:=by
       by_cases h:z.tag=18
       ·exact h
       ·exfalso;simp[sig,h]at h7
      rw[hz]at h7;cases h7;have hs:szT p<=n/\szT q<=n:=by have:=hl.2;simp only[szT]at this;omega
      have u2:=dZ uq.right;exact⟨x,y,z,p,q,rfl,hz,k1,k0,(ih p hs.1 Fr_.1 u2.left).2.2.2.1 k1,(ih q hs.2 Fr_.2.1 u2.right).2.2.2.1 k0⟩
   ·obtain⟨b2,o2,a2,l2,e,k6,h5⟩:=(hw.lst Ow).resolve_left (by intro h;cases h);simp only[BT.node.injEq]at e;obtain⟨rfl,rfl,rfl,rfl,rfl⟩:=e;exact aBH hw h3 (IL.2.2.2.2.2 h5)
   ·obtain⟨h9,h4,h1⟩:=aY Ox hw;exact⟨h9,⟨h4,IL.1 h4⟩,IR.2.2.2.2.1 h1⟩
   ·obtain⟨h9,h4,h1⟩:=aY Ow hw;exact⟨h9,⟨h4,IL.2.2.1 h4⟩,IR.2.2.2.2.2 h1⟩
end
section
open Go.RowKit Go.Lib Go.Deep Go.ChangeMaps Go.MapKept
def Rs.param(s:Rs)(x:ByteArray)(p:Int):Rs:=(s.newVar x p 4).addVar x
def eI:Tr->ByteArray
 | .nil=>ByteArray.mk #[]
 | .node _ _ a _ _=>a.name
def bEN:Tr->Int
 | .nil=>0
 | .node _ _ a _ _=>a.npos
def mF:Tr->Int
 | .nil=>0
 | .node _ _ a _ _=>a.pos
def iX(t:Tr)(n:Int):Tr:=match t with
 | .nil=> .nil
 | .node b o a l r=> .node b o {a with which:=n} l r
def jF:Tr->Rs->Rs
 | .nil,s=>s
 | .node _ _ _ e r,s=>jF r (s.param (eI e) (bEN e))
def lE:Tr->Rs->Tr
 | .nil,_=> .nil
 | .node b o a e r,s=> .node b o a (iX e s.vars.length) (lE r (s.param (eI e) (bEN e)))
def Rs.fifth(s:Rs)(i:Nat)(p:Int):Rs:=if 4<=i then s.fail 5 p else s
def lX:Tr->Tr
 | .nil=> .nil
 | .node _ _ _ l _=>l
def qJ:Tr->Tr
 | .nil=> .nil
 | .node _ _ _ _ r=>r
def whR(F:cM)(its:List Tr):Tr->Nat->Rs->Rs
 | .nil,_,s=>s
 | .node _ _ _ e r,i,s=>whR F its r (i+1) (rsT F its (qJ e) ((rsT F its (lX e) s).fifth i (mF e)))
def bCU(t l r:Tr):Tr:=match t with
 | .nil=> .nil
 | .node b o a _ _=> .node b o a l r
def whT(F:cM)(its:List Tr):Tr->Nat->Rs->Tr
 | .nil,_,_=> .nil
 | .node b o a e r,i,s=> .node b o a (bCU e (reT F its (lX e) s) (reT F its (qJ e) ((rsT F its (lX e) s).fifth i (mF e)))) (whT F its r (i+1) (rsT F its (qJ e) ((rsT F its (lX e) s).fifth i (mF e))))
def iS(t l:Tr):Tr:=match t with
 | .nil=> .nil
 | .node b o a _ r=> .node b o a l r
def Rs.few(s:Rs)(a:Nd):Rs:=if 8<=a.which then s.fail 5 a.npos else s
def Rs.clear(s:Rs):Rs:=⟨[],s.code,s.pos⟩
def fnS(F:cM)(its:List Tr)(a:Nd)(l p:Tr)(s:Rs):Rs × Rs:=(jF (bCF l) (s.few a).clear,whR F its (bCF p) 0 (jF (bCF l) (s.few a).clear))
def fnR(F:cM)(its:List Tr):Tr->Rs->Rs
 | .node _ _ a l (.node _ _ _ p q),s=>rsT F its q (fnS F its a l p s).2
 |_,s=>s
def fnT(F:cM)(its:List Tr):Tr->Rs->Tr
 | .node b o a l (.node x y z p q),s=>
  .node b o {a with val:=(rsT F its q (fnS F its a l p s).2).vars.length} (iS l (lE (bCF l) (s.few a).clear)) (.node x y z (iS p (whT F its (bCF p) 0 (fnS F its a l p s).1)) (reT F its q (fnS F its a l p s).2))
 |t,_=>t
theorem aJE(s:Rs)(x:ByteArray)(p:Int):(s.param x p).vars.length<=s.vars.length+1:=by
 have:=aA4 (s.newVar x p 4) x;rw[jG]at this;exact this
variable {H pb rb fb vb:Nat} {pc:Array Value} {F:cM} {its:List Tr}
theorem aFU{cs cs':Array Value}:∀ (l:Tr) (o:Nat),Ws 16 l->(∀ j,o*3<=j->cs'[j]?=cs[j]?)->jO cs o l->jO cs' o l:=by
 intro l
 induction l with
 |nil=>intro o _ _ _;trivial
 |node b q a e r _ ih=>
  intro o hw hj hr;obtain⟨_,h2,h3⟩:=aY Ou hw;refine⟨?_,ih (o+1) h3 (fun j hj2=>hj j Oa) hr.2⟩;cases e with
  |nil=>exact absurd h2 (by unfold Ws bK;simp)
  |node b2 o2 a2 x y=>
   obtain⟨_,sx,sy,h0,_⟩:=h2.parts
   have h4:a2.tag=19:=by
    by_cases h:a2.tag=19
    ·exact h
    ·exfalso;simp[sig,h]at h0
   have h1:(if a2.tag=19 then Nam cs (o*3) a2 else _):=hr.1;show(if a2.tag=19 then Nam cs' (o*3) a2 else _);rw[if_pos h4]at h1 ⊢;exact⟨(hj _ Oa).trans h1.1,(hj _ Oa).trans h1.2.1,(hj _ Oa).trans h1.2.2⟩
theorem aQS(w:World):∀ (l:Tr) (s:Rs),Ws 16 l->IsT w (lE l s):=by
 intro l
 induction l with
 |nil=>intro s _;trivial
 |node b o a e r _ ih=>
  intro s hw;obtain⟨h4,h3,h2⟩:=aY Ou hw;refine⟨?_,ih _ h2,by unfold Own;rw[h4];trivial⟩;cases e with
  |nil=>trivial
  |node b2 o2 a2 x y=>
   obtain⟨_,sx,sy,h0,hx,hy⟩:=h3.parts
   have h1:a2.tag=19:=by
    by_cases h:a2.tag=19
    ·exact h
    ·exfalso;simp[sig,h]at h0
   rw[h1]at h0;cases h0;obtain rfl:=hx.nil_of;obtain rfl:=hy.nil_of;refine⟨trivial,trivial,?_⟩;unfold Own;dsimp only;rw[h1];trivial
theorem bCQ:∀ (l:Tr) (s:Rs),aO (lE l s)=aO l/\bL (lE l s)=bL l/\(lE l s= .nil↔l= .nil)/\ps (lE l s)=ps l:=by
 intro l
 induction l with
 |nil=>intro s;exact⟨rfl,rfl,Iff.rfl,rfl⟩
 |node b o a e r _ ih=>
  intro s;obtain⟨h1,_,_,h4⟩:=ih (s.param (eI e) (bEN e));refine⟨by simp only[lE,aO,h1],?_,by simp[lE],?_⟩
  ·cases e<;>rfl
  ·have he:ps (iX e s.vars.length)=ps e:=by cases e<;>rfl
   simp only[lE,ps,h4,he]
def PN(L:Tr):TypeId->Int->Prop:=fun ty p=>ty=100/\p∈ps L
theorem PN.inT{L:Tr}(t:TypeId)(p:Int)(h:PN L t p):aED t:=by rw[h.1];exact⟨Ob,Ob,Ob⟩
theorem PN.pos{L:Tr}(t:TypeId)(p:Int)(h:PN L t p):cU t:=by rw[h.1];simp[cU]
structure LpP(H pb rb fb vb:Nat)(pc:Array Value)(F:cM)(g:Nat)(L:Tr)(S1:Rs)(W1:World)(i:Nat)(si:Rs)(wr:World):Prop where
 rs:RsW H pb rb fb vb pc F si wr
 fr:Fr H (PN L) W1 wr
 row:L≠ .nil->∃ cs,wr.heap[g]?=some (.cells cs 100 (0,0))/\jO cs i (aL i L)/\(∃ p0:Int,cs[1]?=some (.int .i64 p0)/\p0∈ps L)/\(∀ cs2:Array Value,(∀ j,j < i*3->cs2[j]?=cs[j]?)->jO cs2 i (lE (aL i L) si)->jO cs2 0 (lE L S1))
 run:jF (aL i L) si=jF L S1
 few:si.vars.length<=i
variable {g:Nat} {L:Tr} {S1 si:Rs} {W1 wr w2 w3:World} {i:Nat}
theorem aJQ{b o:Nat}{a:Nd}{e r:Tr}{cs:Array Value}(hw:Ws 16 (.node b o a e r))(hr:jO cs 0 (.node b o a e r)):∃ p0:Int,cs[1]?=some (.int .i64 p0)/\p0∈ps (.node b o a e r):=by
 obtain⟨h15,h2,hwr⟩:=aY Ou hw;cases e with
 |nil=>exact absurd h2 (by unfold Ws bK;simp)
 |node b2 o2 a2 x y=>
  obtain⟨_,sx,sy,h0,_⟩:=h2.parts
  have h3:a2.tag=19:=by
   by_cases h:a2.tag=19
   ·exact h
   ·exfalso;simp[sig,h]at h0
  have h1:(if a2.tag=19 then Nam cs (0*3) a2 else _):=hr.1;rw[if_pos h3]at h1;exact⟨a2.npos,h1.2.1,fT (aAU (by unfold po;rw[h3];simp[eO]))⟩
theorem LpP.start(h:RsW H pb rb fb vb pc F S1 W1)(hv:S1.vars=[])(hw:Ws 16 L)(h0:L≠ .nil->∃ cs,W1.heap[g]?=some (.cells cs 100 (0,0))/\jO cs 0 L):LpP H pb rb fb vb pc F g L S1 W1 0 S1 W1:=by
 refine⟨h,Fr.refl _ _ _,fun h3=>?_,rfl,by rw[hv];exact Qc _⟩;obtain⟨cs,h1,h2⟩:=h0 h3;cases L with
 |nil=>exact absurd rfl h3
 |node b o a e r=>exact⟨cs,h1,h2,aJQ hw h2,fun _ _ h=>h⟩
theorem LpP.name(h:LpP H pb rb fb vb pc F g L S1 W1 i si wr)(hg:H<=g)(hw:Ws 16 L){b o:Nat}{a:Nd}{e r:Tr}(hd:aL i L= .node b o a e r):mE H (PN L) wr g (i*3) (eI e) (bEN e):=by
 have h7:L≠ .nil:=by intro hx;rw[hx]at hd;cases i<;>cases hd
 obtain⟨cs,h1,h2,⟨p0,h3,h4⟩,_⟩:=h.row h7;have h6:=eX Ou i _ hw;rw[hd]at h2 h6;obtain⟨h15,h5,hwr⟩:=aY Ou h6;cases e with
 |nil=>exact absurd h5 (by unfold Ws bK;simp)
 |node b2 o2 a2 x y=>
  obtain⟨_,sx,sy,h0,_⟩:=h5.parts
  have h8:a2.tag=19:=by
   by_cases h:a2.tag=19
   ·exact h
   ·exfalso;simp[sig,h]at h0
  have hn:(if a2.tag=19 then Nam cs (i*3) a2 else _):=h2.1;rw[if_pos h8]at hn;exact⟨⟨cs,_,a2.which,p0,h1,hn.1,hn.2.1,hn.2.2,h3,⟨rfl,h4⟩,by simp[cK,aK]⟩,hg⟩
theorem LpP.step(h:LpP H pb rb fb vb pc F g L S1 W1 i si wr)(hw:Ws 16 L){b o:Nat}{a:Nd}{e r:Tr}(hd:aL i L= .node b o a e r)(h2:aL (i+1) L=r)(x2:Fr H F0 wr w2)(h3:RsW H pb rb fb vb pc F (si.param (eI e) (bEN e)) w3)(x3:Fr H (PN L) w2 w3)(h0:Wr g (i*3+2) (fun _=>si.vars.length) w2 w3):LpP H pb rb fb vb pc F g L S1 W1 (i+1) (si.param (eI e) (bEN e)) w3:=by
 have h8:L≠ .nil:=by intro hx;rw[hx]at hd;cases i<;>cases hd
 refine⟨h3,(h.fr.trans (x2.mono F0.to)).trans x3,fun _=>?_,?_,?_⟩
 ·obtain⟨cs,k1,k2,⟨p0,k3,k4⟩,k5⟩:=h.row h8;have h5:=eX Ou i _ hw;rw[hd]at k2 h5 k5;obtain⟨h15,h4,h7⟩:=aY Ou h5;cases e with
  |nil=>exact absurd h4 (by unfold Ws bK;simp)
  |node b2 o2 a2 x y=>
   obtain⟨_,sx,sy,h1,_⟩:=h4.parts
   have h6:a2.tag=19:=by
    by_cases h:a2.tag=19
    ·exact h
    ·exfalso;simp[sig,h]at h1
   have hn:(if a2.tag=19 then Nam cs (i*3) a2 else _):=k2.1;rw[if_pos h6]at hn;have q1:=x2.keep0 (by simp[cK,aK]) k1;have q2:=h0 cs _ _ q1 hn.2.2;refine⟨_,q2,?_,⟨p0,by rw[Qh Oa];exact k3,k4⟩,fun cs2 hj hr=>?_⟩
   ·rw[h2];exact aFU r (i+1) h7 (fun j hj=>Qh Oa) k2.2
   ·rw[h2]at hr;refine k5 cs2 (fun j hj2=>?_) ⟨?_,hr⟩
    ·rw[hj j Oa,Qh Oa]
    ·show(if a2.tag=19 then Nam cs2 (i*3) {a2 with which:=(si.vars.length:Int)}else _);rw[if_pos h6];refine⟨?_,?_,?_⟩
     ·rw[hj _ Oa,Qh Oa];exact hn.1
     ·rw[hj _ Oa,Qh Oa];exact hn.2.1
     ·rw[hj _ Oa,Array.getElem?_setIfInBounds_self_of_lt (Oo hn.2.2)]
 ·rw[h2,<-h.run,hd];rfl
 ·have:=aJE si (eI e) (bEN e);have:=h.few;omega
theorem LpP.fin(h:LpP H pb rb fb vb pc F g L S1 W1 (aO L) si wr):si=jF L S1/\(L≠ .nil->At wr g 100 fun cs=>jO cs 0 (lE L S1)):=by
 obtain⟨_,_,row,run,_⟩:=h;rw[eS]at run row;refine⟨run,fun h0=>?_⟩;obtain⟨cs,k1,_,_,k5⟩:=row h0;exact⟨cs,k1,k5 cs (fun _ _=>rfl) trivial⟩
theorem lO:∀ (i:Nat) (l:Tr),aUI H l->aUI H (aL i l):=by
 intro i
 induction i with
 |zero=>intro l h;exact h
 |succ n ih=>
  intro l h;cases l with
  |nil=>trivial
  |node b o a e r=>exact ih r h.2.1
theorem jI{t:Tr}(h:aUI H t):aUI H (bCF t):=by
 cases t with
 |nil=>trivial
 |node=>exact h.1
end
end Go.Proofs.YtikffmloeifkpaaGreatDoor
