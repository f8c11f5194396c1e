/- Contracts. -/
import Derived.Test.YtikffmloeifkpaaGreatDoorR13
namespace Go.Proofs.YtikffmloeifkpaaGreatDoor
open Go.RowKit Go.Lib Go.Deep Go.ChangeMaps Go.MapKept Tryz
section
def Rs.param(s:Rs)(x:ByteArray)(p:Int):Rs:=(s.K x p 4).V x
def eI:Tr->ByteArray
 | .nil=>ByteArray.mk #[]
 | .node _ _ a _ _=>a.h
def bEN:Tr->Int
 | .nil=>0
 | .node _ _ a _ _=>a.b
def mF:Tr->Int
 | .nil=>0
 | .node _ _ a _ _=>a.e
def iX(t:Tr)(n:Int):Tr:=match t with
 | .nil=> .nil
 | .node b o a l r=> .node b o {a with c:=n} l r
def jF:Tr->Rs->Rs
 | .nil,s=>s
 | .node _ _ _ e r,s=>jF r (s.param (eI e) (bEN e))
def lE:Tr->Rs->Tr
 | .nil,_=> .nil
 | .node b o a e r,s=> .node b o a (iX e s.b.length) (lE r (s.param (eI e) (bEN e)))
def Rs.S(s:Rs)(i:Nat)(p:Int):Rs:=if 4<=i then s.fail 5 p else s
def lX:Tr->Tr
 | .nil=> .nil
 | .node _ _ _ l _=>l
def qJ:Tr->Tr
 | .nil=> .nil
 | .node _ _ _ _ r=>r
def whR(F:cM)(its:List Tr):Tr->Nat->Rs->Rs
 | .nil,_,s=>s
 | .node _ _ _ e r,i,s=>whR F its r (i+1) (rsT F its (qJ e) ((rsT F its (lX e) s).S i (mF e)))
def bCU(t l r:Tr):Tr:=match t with
 | .nil=> .nil
 | .node b o a _ _=> .node b o a l r
def whT(F:cM)(its:List Tr):Tr->Nat->Rs->Tr
 | .nil,_,_=> .nil
 | .node b o a e r,i,s=> .node b o a (bCU e (reT F its (lX e) s) (reT F its (qJ e) ((rsT F its (lX e) s).S i (mF e)))) (whT F its r (i+1) (rsT F its (qJ e) ((rsT F its (lX e) s).S i (mF e))))
def iS(t l:Tr):Tr:=match t with
 | .nil=> .nil
 | .node b o a _ r=> .node b o a l r
def Rs.few(s:Rs)(a:Nd):Rs:=if 8<=a.c then s.fail 5 a.b else s
def Rs.clear(s:Rs):Rs:=⟨[],s.a,s.e⟩
def fnS(F:cM)(its:List Tr)(a:Nd)(l p:Tr)(s:Rs):Rs × Rs:=(jF (bCF l) (s.few a).clear,whR F its (bCF p) 0 (jF (bCF l) (s.few a).clear))
def fnR(F:cM)(its:List Tr):Tr->Rs->Rs
 | .node _ _ a l (.node _ _ _ p q),s=>rsT F its q (fnS F its a l p s).2
 |_,s=>s
def fnT(F:cM)(its:List Tr):Tr->Rs->Tr
 | .node b o a l (.node x y z p q),s=>
  .node b o {a with g:=(rsT F its q (fnS F its a l p s).2).b.length} (iS l (lE (bCF l) (s.few a).clear)) (.node x y z (iS p (whT F its (bCF p) 0 (fnS F its a l p s).1)) (reT F its q (fnS F its a l p s).2))
 |t,_=>t
theorem aJE(s:Rs)(x:ByteArray)(p:Int):(s.param x p).b.length<=s.b.length+1:=by
 have:=aA4 (s.K x p 4) x;rw[jG]at this;exact this
variable {H O N I U:Nat} {Z:Array Value} {F:cM} {its:List Tr}
theorem aFU{cs d:Array Value}:∀ (l:Tr) (o:Nat),Ws 16 l->(∀ j,o*3<=j->d[j]?=cs[j]?)->jO cs o l->jO d o l:=by
 intro l
 induction l with
 |nil=>intro o _ _ _;trivial
 |node b q a e r _ ih=>
  intro o m f g;obtain⟨_,i,h⟩:=aY Ou m;refine⟨?_,ih (o+1) h Qg g.2⟩;cases e with
  |nil=>grind[Ws,bK]
  |node b2 o2 a2 x y=>
   obtain⟨_,p,s,n,_⟩:=i.parts
   have k:a2.a=19:=by
    grind[sig]
   have c:(if a2.a=19 then Nam cs (o*3) a2 else _):=g.1;show(if a2.a=19 then Nam d (o*3) a2 else _);rw[if_pos k]at c ⊢;exact⟨(f _ Oa).t c.1,(f _ Oa).t c.2.1,(f _ Oa).t c.2.2⟩
theorem aQS(w:World):∀ (l:Tr) (s:Rs),Ws 16 l->IsT w (lE l s):=by
 intro l
 induction l with
 |nil=>intro s _;trivial
 |node b o a e r _ ih=>
  intro s h;obtain⟨g,f,k⟩:=aY Ou h;refine⟨?_,Qh,by unfold Own;rw[g];trivial⟩;cases e with
  |nil=>trivial
  |node b2 o2 a2 x y=>
   obtain⟨_,m,n,c,i,j⟩:=f.parts
   have d:a2.a=19:=by
    grind[sig]
   rw[d]at c;cases c;obtain rfl:=i.nil_of;obtain rfl:=j.nil_of;refine⟨trivial,trivial,?_⟩;unfold Own;dsimp only;rw[d];trivial
theorem bCQ:∀ (l:Tr) (s:Rs),aO (lE l s)=aO l/\bL (lE l s)=bL l/\(lE l s= .nil↔l= .nil)/\ps (lE l s)=ps l:=by
 intro l
 induction l with
 |nil=>intro s;trivial
 |node b o a e r _ ih=>
  intro s;obtain⟨c,_,_,d⟩:=ih (s.param (eI e) (bEN e));refine⟨by grind[lE,aO],?_,by simp[lE],?_⟩
  ·cases e<;>rfl
  ·have f:ps (iX e s.b.length)=ps e:=by cases e<;>rfl
   grind[lE,ps]
def PN(L:Tr):TypeId->Int->Prop:=fun ty p=>ty=100/\p∈ps L
theorem PN.inT{L:Tr}(t:TypeId)(p:Int)(h:PN L t p):aED t:=by rw[h.1];trivial
theorem PN.e{L:Tr}(t:TypeId)(p:Int)(h:PN L t p):cU t:=by rw[h.1];simp[cU]
structure LpP(H O N I U:Nat)(Z:Array Value)(F:cM)(g:Nat)(L:Tr)(G:Rs)(B:World)(i:Nat)(J:Rs)(wr:World):Prop where
 rs:RsW H O N I U Z F J wr
 fr:Fr H (PN L) B wr
 row:L≠ .nil->∃ cs,wr.1[g]?=some (.cells cs 100 (0,0))/\jO cs i (aL i L)/\(∃ p0:Int,cs[1]?=some (Qc p0)/\p0∈ps L)/\(∀ cs2:Array Value,(∀ j,j < i*3->cs2[j]?=cs[j]?)->jO cs2 i (lE (aL i L) J)->jO cs2 0 (lE L G))
 run:jF (aL i L) J=jF L G
 few:J.b.length<=i
variable {g:Nat} {L:Tr} {G J:Rs} {B wr w2 w3:World} {i:Nat}
theorem aJQ{b o:Nat}{a:Nd}{e r:Tr}{cs:Array Value}(k:Ws 16 (.node b o a e r))(j:jO cs 0 (.node b o a e r)):∃ d:Int,cs[1]?=some (Qc d)/\d∈ps (.node b o a e r):=by
 obtain⟨l,f,n⟩:=aY Ou k;cases e with
 |nil=>grind[Ws,bK]
 |node b2 o2 a2 x y=>
  obtain⟨_,p,q,m,_⟩:=f.parts
  have h:a2.a=19:=by
   grind[sig]
  have c:(if a2.a=19 then Nam cs (0*3) a2 else _):=j.1;rw[if_pos h]at c;exact⟨a2.b,c.2.1,(by grind[po,eO,fT,aAU])⟩
theorem LpP.start(h:RsW H O N I U Z F G B)(m:G.vars=[])(l:Ws 16 L)(f:L≠ .nil->∃ c,B.1[g]?=some (.cells c 100 (0,0))/\jO c 0 L):LpP H O N I U Z F g L G B 0 G B:=by
 refine⟨h,Fr.refl _ _ _,fun k=>?_,rfl,Qh⟩;obtain⟨c,j,d⟩:=f k;cases L with
 |nil=>trivial
 |node b o a e r=>exact⟨c,j,d,aJQ l d,fun _ _ h=>h⟩
theorem LpP.h(h:LpP H O N I U Z F g L G B i J wr)(s:H<=g)(t:Ws 16 L){b o:Nat}{a:Nd}{e r:Tr}(d:aL i L= .node b o a e r):mE H (PN L) wr g (i*3) (eI e) (bEN e):=by
 have p:L≠ .nil:=by intro u;rw[u]at d;cases i<;>cases d
 obtain⟨f,l,k,⟨v,m,z⟩,_⟩:=h.row p;have j:=eX Ou i _ t;rw[d]at k j;obtain⟨w,n,C⟩:=aY Ou j;cases e with
 |nil=>grind[Ws,bK]
 |node b2 o2 a2 x y=>
  obtain⟨_,D,E,A,_⟩:=n.parts
  have q:a2.a=19:=by
   grind[sig]
  have c:(if a2.a=19 then Nam f (i*3) a2 else _):=k.1;rw[if_pos q]at c;exact⟨⟨f,_,a2.c,v,l,c.1,c.2.1,c.2.2,m,Qj,by simp[bLB,aK]⟩,s⟩
theorem LpP.step(h:LpP H O N I U Z F g L G B i J wr)(D:Ws 16 L){b o:Nat}{a:Nd}{e r:Tr}(f:aL i L= .node b o a e r)(j:aL (i+1) L=r)(u:Fr H F0 wr w2)(w:RsW H O N I U Z F (J.param (eI e) (bEN e)) w3)(Q:Fr H (PN L) w2 w3)(v:Wr g (i*3+2) (fun _=>J.b.length) w2 w3):LpP H O N I U Z F g L G B (i+1) (J.param (eI e) (bEN e)) w3:=by
 have C:L≠ .nil:=by intro E;rw[E]at f;cases i<;>cases f
 refine⟨w,(h.fr.t (u.mono F0.to)).t Q,fun _=>?_,?_,?_⟩
 ·obtain⟨m,K,l,⟨Y,W,X⟩,t⟩:=h.row C;have p:=eX Ou i _ D;rw[f]at l p t;obtain⟨R,A,z⟩:=aY Ou p;cases e with
  |nil=>grind[Ws,bK]
  |node b2 o2 a2 x y=>
   obtain⟨_,sx,sy,T,_⟩:=A.parts
   have q:a2.a=19:=by
    grind[sig]
   have d:(if a2.a=19 then Nam m (i*3) a2 else _):=l.1;rw[if_pos q]at d;have M:=u.keep0 (by simp[bLB,aK]) K;have P:=v m _ _ M d.2.2;refine⟨_,P,?_,Qh,fun n k s=>?_⟩
   ·rw[j];exact aFU r (i+1) z Qg l.2
   ·rw[j]at s;refine t n (fun V S=>?_) ⟨?_,s⟩
    ·grind
    ·show(if a2.a=19 then Nam n (i*3) {a2 with c:=(J.b.length:Int)}else _);rw[if_pos q];refine⟨?_,?_,?_⟩
     ·rw[k _ Oa,Qq Oa];exact d.1
     ·rw[k _ Oa,Qq Oa];exact d.2.1
     ·rw[k _ Oa,Array.getElem?_setIfInBounds_self_of_lt (Oo d.2.2)]
 ·rw[j,<-h.run,f];rfl
 ·have:=aJE J (eI e) (bEN e);have:=h.few;omega
theorem LpP.fin(h:LpP H O N I U Z F g L G B (aO L) J wr):J=jF L G/\(L≠ .nil->At wr g 100 fun a=>jO a 0 (lE L G)):=by
 obtain⟨_,_,b,run,_⟩:=h;rw[eS]at run b;refine⟨run,fun c=>?_⟩;obtain⟨a,d,_,_,e⟩:=b c;exact⟨a,d,e a Od trivial⟩
theorem lO:∀ (i:Nat) (l:Tr),aUI H l->aUI H (aL i l):=by
 intro i
 induction i with
 |zero=>intro l h;exact h
 |succ n ih=>
  intro l h;cases l with
  |nil=>trivial
  |node b o a e r=>exact ih r h.2.1
theorem jI{t:Tr}(h:aUI H t):aUI H (bCF t):=by
 cases t with
 |nil=>trivial
 |node=>exact h.1
end
section
variable {H O N I U:Nat} {Z:Array Value} {F:cM} {its:List Tr}
theorem sP{t:Tr}(h:Ws 21 t):Ws 0 t:=by
 cases t with
 |nil=>grind[Ws,bK]
 |node b o a l r=>
  obtain⟨d,x,y,f,c,e⟩:=h.parts
  grind[sig,Ws.of]
theorem aL9{t:Tr}(h:Ws 20 t):∃ b o a l r,t= .node b o a l r/\a.a=7/\Ws 21 l/\Ws 21 r:=by
 cases t with
 |nil=>grind[Ws,bK]
 |node b o a l r=>
  obtain⟨d,x,y,f,c,e⟩:=h.parts
  grind[sig]
theorem bCS:∀ (t:Tr) (i:Nat) (s:Rs),Sh t (whT F its t i s):=by
 intro t
 induction t with
 |nil=>intro i s;trivial
 |node b o a e r _ ih=>
  intro i s;refine⟨rfl,rfl,rfl,rfl,rfl,rfl,rfl,rfl,Oa,Oa,?_,ih _ _⟩;cases e with
  |nil=>trivial
  |node b2 o2 a2 x y=>exact⟨rfl,rfl,rfl,rfl,rfl,rfl,rfl,rfl,Oa,Oa,dJ _ _ _ _,dJ _ _ _ _⟩
theorem aLC:∀ (t:Tr) (i:Nat) (s:Rs),(whR F its t i s).b.length<=s.b.length+eE t:=by
 intro t
 induction t with
 |nil=>intro i s;exact Ql _
 |node b o a e r _ ih=>
  intro i s;have f:=ih (i+1) (rsT F its (qJ e) ((rsT F its (lX e) s).S i (mF e)));have c:=rM (F:=F) (its:=its) (qJ e) ((rsT F its (lX e) s).S i (mF e));have h:=rM (F:=F) (its:=its) (lX e) s
  have d:((rsT F its (lX e) s).S i (mF e)).b=(rsT F its (lX e) s).b:=by
   grind[Rs.S,Rs.fail_vars]
  rw[d]at c
  have j:eE (lX e)+eE (qJ e)<=eE e:=by
   cases e with
   |nil=>trivial
   |node b2 o2 a2 x y=>rw[eD];show eE x+eE y<=_;omega
  grind[whR,eD]
theorem pJ{w:World}{t:Tr}(h:Ws 5 t){P:TypeId->Int->Prop}{x:World}(hi:IsT x t)(M:Fr H P x w)(D:∀ t p,P t p->bCI t){ao:Option Addr}{n y i:Nat}(s:bCH t= .slice ao n y){b o:Nat}{a:Nd}{e r:Tr}(d:aL i (bCF t)= .node b o a e r)(C:∃ b o a l r,e= .node b o a l r/\a.a=7):
 ∃ g,ao=some ⟨g,0,none⟩/\w.cell? ⟨g,i,none⟩=some (cB e):=by
 rcases h.lst (by omega)with rfl|⟨b0,o0,a0,l0,rfl,ht,_⟩
 ·cases i<;>cases d
 ·have z:bCH (.node b0 o0 a0 l0 .nil)= Qe b0 (aO l0) o0:=if_pos ht;rw[z]at s;simp only[Value.slice.injEq]at s;refine⟨b0,Qh,?_⟩;have q:=hi.2.2;have A:=(aI q (n:=20) ht).1;have T:po a0=[]:=by unfold po;rw[ht];rfl
  have f:=dH.fr M (fun t p E=>(D t p E).e) q Qh (fun e=>⟨h.list e A,(by grind[bCI])⟩);obtain⟨_,j,S,K⟩:=aI f (n:=20) ht;have m:=pZ i 0 l0 K;replace d:aL i l0= .node b o a e r:=d;rw[d,Nat.zero_add]at m;obtain⟨k,f,c,u,v,rfl,R⟩:=C;have Q:(if c.a=19 then Nam j (i*3) c else if c.a=7 then j[i]?=some (cB (.node k f c u v))else j[i]?=some (bCH (.node k f c u v))):=m.1
  grind[cell_of_row]
structure LpW(H O N I U:Nat)(Z:Array Value)(F:cM)(its:List Tr)(L:Tr)(G:Rs)(B:World)(i:Nat)(J:Rs)(wr:World):Prop where
 rs:RsW H O N I U Z F J wr
 fr:Fr H (Pt L) B wr
 rest:IsT wr (aL i L)
 wand:∀ w2,Fr H (Pt (aL i L)) wr w2->IsT w2 (whT F its (aL i L) i J)->IsT w2 (whT F its L 0 G)
 run:whR F its (aL i L) i J=whR F its L 0 G
variable {L:Tr} {G J:Rs} {B wr w2 w3 w4:World} {i:Nat}
theorem LpW.start(h:RsW H O N I U Z F G B)(hi:IsT B L):LpW H O N I U Z F its L G B 0 G B:=⟨h,Fr.refl _ _ _,hi,fun _ _ h=>h,rfl⟩
theorem LpW.step(h:LpW H O N I U Z F its L G B i J wr)(V:Ws 15 L)(R:(ps L).Nodup){b o e f:Nat}{a c:Nd}{x y r:Tr}(T:aL i L= .node b o a (.node e f c x y) r)(k:aL (i+1) L=r)(W:IsT w2 (reT F its x J))(D:Fr H (Pt x) wr w2)(q:Fr H F0 w2 w3)(M:RsW H O N I U Z F (rsT F its y ((rsT F its x J).S i c.e)) w4)(X:IsT w4 (reT F its y ((rsT F its x J).S i c.e)))(s:Fr H (Pt y) w3 w4):
 LpW H O N I U Z F its L G B (i+1) (rsT F its y ((rsT F its x J).S i c.e)) w4:=by
 have w:=eX Ov i _ V;have E:=lT i _ R;have z:=rU i L;obtain⟨_,Y,rest,C,run⟩:=h;rw[T]at w E z rest C run;obtain⟨k1,v,P⟩:=aY Ov w;have E:=dZ E;have m:=dZ (b:=e) (o:=f) E.left;obtain⟨_,_,_,_,_,K,h7,u,a2⟩:=aL9 v;obtain⟨rfl,rfl,rfl,rfl,rfl⟩:=K;have n:Fr H (Pt (.node e f c x y)) wr w4:=((D.mono Pt.left).t (q.mono F0.to)).t (s.mono Pt.right);refine⟨M,Y.t (n.mono fun t p d=>⟨d.1,z p (fT d.2)⟩),?_,fun wf l hi=>?_,?_⟩
 ·rw[k];exact IsT.fr n (fun t p d=>(Pt.body t p d).e) P rest.2.1 (Pt.o E.apart)
 ·rw[k]at l hi;refine C wf ((n.mono Pt.left).t (l.mono Pt.right)) ⟨?_,hi,by unfold Own;rw[k1];trivial⟩;have a1:=cX rest.1.2.2 D Pt.body (fun p d A j=>m.own_l p d j.2) Oa;have o3:=cX a1 q F0.body (fun p d A j=>j) Oa;have o4:=cX o3 s Pt.body (fun p d A j=>m.own_r p d j.2) Oa;have k3:=IsT.fr q (fun t p d=>Qj) ((dJ F its x J).ws (sP u)) W (fun _ _ _ h=>h);have k4:=bOT k3 s (sP u) (dJ _ _ _ _) m.apart_;have S:IsT w4 (BT.node e f c (reT F its x J) (reT F its y ((rsT F its x J).S i c.e))):=⟨k4,X,gZ o4 (dJ _ _ _ _) (dJ _ _ _ _)⟩;have Q:Sh (BT.node e f c x y) (BT.node e f c (reT F its x J) (reT F its y ((rsT F its x J).S i c.e))):=⟨rfl,rfl,rfl,rfl,rfl,rfl,rfl,rfl,fun _=>rfl,fun _=>rfl,dJ _ _ _ _,dJ _ _ _ _⟩;exact bOT S l v Q E.apart_
 ·rw[k];exact run
theorem LpW.fin(h:LpW H O N I U Z F its L G B (aO L) J wr):J=whR F its L 0 G/\IsT wr (whT F its L 0 G):=by
 obtain⟨_,_,_,a,run⟩:=h;rw[eS]at a run;exact⟨run,a wr (Fr.refl _ _ _) trivial⟩
def FnW(w:World)(b:Nat)(a:Nd)(l p q:Tr):Prop:=At w b 105 fun cs=>Nam cs 0 a/\cs[3]?=some (bCH l)/\cs[4]?=some (bCH p)/\cs[5]?=some (bCH q)/\cs[6]?=some (Qc a.g)
theorem FnW.fr{P:TypeId->Int->Prop}{b:Nat}{a:Nd}{l p q:Tr}{w w':World}(h:FnW w b a l p q)(e:Fr H P w w')(c:∀ t p,P t p->aED t):FnW w' b a l p q:=e.at h (by simp[bLB,aK]) (fun _ _ p _ d=>(c _ _ d).2.1 rfl)
theorem FnW.cells{b:Nat}{a:Nd}{l p q:Tr}{w:World}(h:FnW w b a l p q):w.cell? ⟨b,2,none⟩=some (Qc a.c)/\w.cell? ⟨b,1,none⟩=some (Qc a.b)/\w.cell? ⟨b,3,none⟩=some (bCH l)/\w.cell? ⟨b,4,none⟩=some (bCH p)/\w.cell? ⟨b,5,none⟩=some (bCH q)/\w.cell? ⟨b,6,none⟩=some (Qc a.g)/\w.frozen? ⟨b,6,none⟩=false:=by
 obtain⟨e,c,d,f,j,k,m⟩:=h;exact⟨Og c d.2.2,Og c d.2.1,by grind[cell_of_row],by grind[cell_of_row],by grind[cell_of_row],by grind[cell_of_row],by simp[World.frozen?,c]⟩
def PI(t:Tr):TypeId->Int->Prop:=fun ty p=>cU ty/\p∈ps t
def aBL(H O N I U:Nat)(Z:Array Value)(F:cM)(its:List Tr)(t:Tr)(C:Tr)(s':Rs)(w:World):Ending->World->Prop:=fun e w'=>e= .returned (.tuple #[])/\NsW H O N I U Z F its s' w'/\IsT w' C/\Fr H (PI t) w w'
theorem ItO.set6{b k:Nat}{a:Nd}{l:Tr}{w:World}{cs:Array Value}{t:TypeId}(h:ItO w b a l)(o:w.1[k]?=some (.cells cs t (0,0)))(v:Value):ItO (w.setCell ⟨k,6,none⟩ v) b a l:=by
 have key:∀ (j:TypeId) (R:Array Value->Prop),(∀ c,R c->R (c.setIfInBounds 6 v))->At w b j R->At (w.setCell ⟨k,6,none⟩ v) b j R:=by
  intro j R n ⟨c,hc,hr⟩
  by_cases e:b=k
  ·subst e;exact⟨_,aM v hc,n c hr⟩
  ·exact⟨c,(Om e).t hc,hr⟩
 have m:∀ c:Array Value,Nam c 0 a->Nam (c.setIfInBounds 6 v) 0 a:=fun c h=>⟨(Qq Oa).t h.1,(Qq Oa).t h.2.1,(Qq Oa).t h.2.2⟩;rcases h with⟨d,f⟩|⟨d,f⟩
 ·exact .l ⟨d,key _ _ (fun c h=>m c h) f⟩
 ·exact .r ⟨d,key _ _ (fun c h=>⟨m c h.1,(Qq Oa).t h.2⟩) f⟩
theorem aLA{s:Nat}(d:s=3\/s=4\/s=5\/s=6\/s=8){t L:Tr}(h:Ws s t)(c:Sh (bCF t) L):Sh t (iS t L):=by
 rcases h.lst d with rfl|⟨b,o,a,l,rfl,_,_⟩
 ·trivial
 ·exact⟨rfl,rfl,rfl,rfl,rfl,rfl,rfl,rfl,Oa,Oa,c,trivial⟩
theorem aIG{s:Nat}(e:s=3\/s=4\/s=5\/s=6\/s=8){t L:Tr}(h:Ws s t)(d:aO L=aO (bCF t)):bCH (iS t L)=bCH t:=by
 rcases h.lst e with rfl|⟨b,o,a,l,rfl,c,_⟩
 ·rfl
 ·show(if a.a=20 then Qe b (aO L) o else _)=(if a.a=20 then Qe b (aO l) o else _);rw[if_pos c,if_pos c,d];rfl
theorem aMX{t:Tr}{w:World}{S:Rs}(h:Ws 6 t)(f:bCF t≠ .nil->∀ b o a l r,t= .node b o a l r->At w b 100 fun d=>jO d 0 (lE (bCF t) S))(m:∀ b o a l r,t= .node b o a l r->l≠ .nil):IsT w (iS t (lE (bCF t) S)):=by
 rcases h.lst (by omega)with rfl|⟨b,o,a,l,rfl,ht,hl⟩
 ·trivial
 ·have c:=m _ _ _ _ _ rfl;obtain⟨s,j,k,_⟩:=bCQ l S;refine⟨aQS w l S hl,trivial,?_⟩;unfold Own;rw[ht];refine⟨fun e=>c (k.1 e),?_⟩
  have p:bL l=100:=by
   cases l with
   |nil=>trivial
   |node b2 o2 a2 e r=>
    obtain⟨_,n,_⟩:=aY Ou hl;cases e with
    |nil=>grind[Ws,bK]
    |node b3 o3 a3 x y=>
     obtain⟨_,v,z,u,_⟩:=n.parts
     have q:a3.a=19:=by
      grind[sig]
     exact if_pos q
  show At w b (bL (lE l S)) _;rw[j,p];exact f c _ _ _ _ _ rfl
set_option maxRecDepth 100000 in
set_option maxHeartbeats 16000000 in
theorem zM{b o x y:Nat}{a X:Nd}{l p q:Tr}(g2:aID its)(ht:a.a=17)(hz:X.a=18)(z8:Ws 6 l)(y2:Ws 5 p)(g0:Ws 4 q)(hF:aUI H (.node b o a l (.node x y X p q)))(p0:(ps (.node b o a l (.node x y X p q))).Nodup)(j8:20000+eE p+eE q<=1000000)(s:Rs)(w:World)(h:NsW H O N I U Z F its s w)(hi:IsT w (.node b o a l (.node x y X p q))):
 Calls prog 128 #[Qd N,Qd b] w (aBL H O N I U Z F its (.node b o a l (.node x y X p q)) (fnT F its (.node b o a l (.node x y X p q)) s) (fnR F its (.node b o a l (.node x y X p q)) s) w):=by
 have o7:=hF.2.2 (by unfold gY;omega);have u1:=dZ p0;have u2:=dZ (b:=x) (o:=y) u1.right;have e7:po a=[a.b]:=by unfold po;rw[ht];rfl
 have i9:∀ k∈ps l,k ∉ ps p:=fun k h1 h2=>u1.apart k h1 (fT h2);have n7:∀ k∈ps l,k ∉ ps q:=fun k h1 h2=>u1.apart k h1 (jE h2);have z3:=jU Ou z8;have y7:=jU Ov y2;have p1:=z8.elems Ou;have f1:=y2.elems Ov;have m7:(ps (bCF p)).Nodup:=by rw[<-y7];exact u2.left
 have b6:FnW w b a l p q:=by
  obtain⟨cs,hc,hn,h3,x',y',z',p',q',e,h4,z,h6⟩:=aI hi.2.2 (n:=17) ht;simp only[BT.node.injEq]at e;obtain⟨rfl,rfl,rfl,rfl,rfl⟩:=e;exact⟨cs,hc,hn,h3,h4,z,h6⟩
 obtain⟨m2,m1,_,_,_,_,_⟩:=b6.cells;obtain⟨ao,cp,z9⟩:=z8.W Ou;obtain⟨s4,s6,e8⟩:=y2.W Ov;obtain⟨s5,s7,e9⟩:=g0.W Ox;have s8:=fB Ou z8;have s9:=fB Ov y2;have n9:GS 196 H O N I U Z F its bCH q:=(aAW g2 (szT q) q Ol hF.2.1.2.1 u2.right).2.2.2.1 g0;have n0:Hid _:=n9;have n8:∀ t,aUI H t->(ps t).Nodup->Ws 0 t->GN 195 H O N I U Z F its bCH t:=fun t h1 h2 h3=>(aAW g2 (szT t) t Ol h1 h2).1 h3;have c8:Hid _:=n8
 have j7:bCF l≠ .nil->∃ g,ao=some ⟨g,0,none⟩/\H<=g/\(∃ cs,w.1[g]?=some (.cells cs 100 (0,0))/\jO cs 0 (bCF l))/\∀ b o a l' r,l= .node b o a l' r->b=g:=by
  intro T;rcases z8.lst (.r Ov)with rfl|⟨b0,o0,a0,l0,rfl,ht0,hl0⟩
  ·exact absurd rfl T
  ·have r7:bCH (.node b0 o0 a0 l0 .nil)= Qe b0 (aO l0) o0:=if_pos ht0;rw[r7]at z9;simp only[Value.slice.injEq]at z9;obtain⟨q8,cs,hc,hr⟩:=aI hi.1.2.2 (n:=20) ht0
   have r6:bL l0=100:=by
    cases l0 with
    |nil=>exact absurd rfl q8
    |node b2 o2 a2 e r=>
     obtain⟨_,k9,_⟩:=aY Ou hl0;cases e with
     |nil=>exact absurd k9 (by unfold Ws bK;simp)
     |node D o3 v x y=>
      obtain⟨_,sx,sy,q9,_⟩:=k9.parts
      have p4:v.a=19:=by
       by_cases h:v.a=19
       ·exact h
       ·exfalso;simp[sig,h]at q9
      exact if_pos p4
   rw[r6]at hc;refine⟨b0,z9.1.symm,hF.1.2.2 (by unfold gY;omega),⟨cs,hc,hr⟩,fun _ _ _ _ _ e=>?_⟩;simp only[BT.node.injEq]at e;exact e.1.symm
 have m0:∀ b o a l' r,l= .node b o a l' r->l'≠ .nil:=by
  intro b0 o0 a0 l0 r0 e;rcases z8.lst (.r Ov)with h0|⟨b1,o1,a1,l1,e1,ht1,_⟩
  ·rw[h0]at e;cases e
  ·rw[e1]at e;simp only[BT.node.injEq]at e;obtain⟨rfl,rfl,rfl,rfl,rfl⟩:=e;have:=hi.1;rw[e1]at this;exact(aI this.2.2 (n:=20) ht1).1
 have n2:Hid _:=j7
 have c7:Hid (∀ (g:Nat) (f:Rs) (u Y W4 c:World),s.few a=f->(bCF l≠ .nil->∀ b o a l' r,l= .node b o a l' r->b=g)->
  Fr H F0 w u->Fr H (PN (bCF l)) u Y->(bCF l≠ .nil->At Y g 100 fun cs=>jO cs 0 (lE (bCF l) f.clear))->Fr H (Pt (bCF p)) Y W4->IsT W4 (whT F its (bCF p) 0 (jF (bCF l) f.clear))->Fr H (Pt q) W4 c->
  IsT c (reT F its q (whR F its (bCF p) 0 (jF (bCF l) f.clear)))->RsW H O N I U Z F (rsT F its q (whR F its (bCF p) 0 (jF (bCF l) f.clear))) c->
  aBL H O N I U Z F its (.node b o a l (.node x y X p q)) (fnT F its (.node b o a l (.node x y X p q)) s) (fnR F its (.node b o a l (.node x y X p q)) s) w (.returned (.tuple #[])) (c.setCell ⟨b,6,none⟩ (Qc (rsT F its q (whR F its (bCF p) 0 (jF (bCF l) f.clear))).b.length))):=by
  intro g f u Y W4 c o4 hg x2 x3 d7 x4 i4 i i5 z;have hR:fnR F its (.node b o a l (.node x y X p q)) s=rsT F its q (whR F its (bCF p) 0 (jF (bCF l) f.clear)):=by show rsT F its q (whR F its (bCF p) 0 (jF (bCF l) (s.few a).clear))=_;rw[o4]
  have hT:fnT F its (.node b o a l (.node x y X p q)) s= .node b o {a with g:=(rsT F its q (whR F its (bCF p) 0 (jF (bCF l) f.clear))).b.length} (iS l (lE (bCF l) f.clear)) (.node x y X (iS p (whT F its (bCF p) 0 (jF (bCF l) f.clear))) (reT F its q (whR F its (bCF p) 0 (jF (bCF l) f.clear)))):=by
   show BT.node b o {a with g:=(rsT F its q (whR F its (bCF p) 0 (jF (bCF l) (s.few a).clear))).b.length} (iS l (lE (bCF l) (s.few a).clear)) (.node x y X (iS p (whT F its (bCF p) 0 (jF (bCF l) (s.few a).clear))) (reT F its q (whR F its (bCF p) 0 (jF (bCF l) (s.few a).clear))))=_;rw[o4]
  rw[hR,hT];have f3:=b6.fr (x2.mono (F0.to (P:=PN (bCF l)))) PN.inT;have f3:=f3.fr x3 PN.inT;have f4:=f3.fr x4 (fun t p h=>(Pt.body t p h).inT);have f5:=f4.fr i (fun t p h=>(Pt.body t p h).inT);obtain⟨cs,hc,hn,c3,c4,c5,c6⟩:=f5
  have n5:NsW H O N I U Z F its (rsT F its q (whR F its (bCF p) 0 (jF (bCF l) f.clear))) c:=by
   refine⟨z,?_,h.fo⟩;have t2:=h.it.fr x2 (fun _ _ h=>absurd h id);have t3:=t2.fr x3 PN.inT;have t4:=t3.fr x4 (fun t p h=>(Pt.body t p h).inT);exact t4.fr i (fun t p h=>(Pt.body t p h).inT)
  have q0:Fr H (PI (.node b o a l (.node x y X p q))) c (c.setCell ⟨b,6,none⟩ (Qc (rsT F its q (whR F its (bCF p) 0 (jF (bCF l) f.clear))).b.length)):=
   (Fr.refl H _ c).write hc o7 Oa hn.2.1 ⟨by simp[cU],aAU (by rw[e7];simp)⟩ _
  have b5:Fr H (fun ty k=>ty=105/\k=a.b) c (c.setCell ⟨b,6,none⟩ (Qc (rsT F its q (whR F its (bCF p) 0 (jF (bCF l) f.clear))).b.length)):=
   (Fr.refl H _ c).write hc o7 Oa hn.2.1 ⟨rfl,rfl⟩ _
  have g8:∀ (ty:TypeId) (k:Int),(ty=105/\k=a.b)->cU ty:=fun ty k h=>by rw[h.1];simp[cU]
  refine⟨rfl,⟨?_,⟨fun hp=>?_,fun t ht=>?_,n5.it.few⟩,n5.fo⟩,⟨?_,⟨?_,?_,?_⟩,?_⟩,?_⟩
  ·exact z.c hc (by simp[bLB,aK]) _
  ·obtain⟨g',p3,s0,e1,R,e3⟩:=n5.it.row hp;exact⟨g',p3,s0,e1,b5.same R (by simp[bLB,aK]) (fun k _ d=>absurd d.1 Ob),e3⟩
  ·obtain⟨b1,o1,a1,l1,r1,e1,R⟩:=n5.it.own t ht;exact⟨b1,o1,a1,l1,r1,e1,R.set6 hc _⟩
  ·refine aMX z8 (fun T b0 o0 a0 l0 r0 e0=>?_) m0;rw[hg T _ _ _ _ _ e0];have r3:=d7 T;have r4:=x4.at r3 (by simp[bLB,aK]) (fun _ _ k _ d=>absurd (Pt.body _ _ d) (by unfold bCI;decide));have r5:=i.at r4 (by simp[bLB,aK]) (fun _ _ k _ d=>absurd (Pt.body _ _ d) (by unfold bCI;decide));exact b5.at r5 (by simp[bLB,aK]) (fun _ _ k _ d=>absurd d.1 Ob)
  ·
    have iP:IsT Y p:=by
     have k2:=IsT.fr x2 (fun t k d=>absurd d id) y2 hi.2.1.1 (fun _ _ _ h=>h);exact IsT.fr x3 PN.e y2 k2 (fun k d ty hq=>i9 k (by rw[z3];exact hq.2) d)
    have p6:=IsT.fr i (fun t k d=>(Pt.body t k d).e) ((bCS (bCF p) 0 _).ws f1) i4 (fun k d=>by rw[(bCS (F:=F) (its:=its) (bCF p) 0 _).ps]at d;exact Pt.o u2.apart_ k (by rw[y7];exact d))
    have p7:=IsT.fr b5 g8 ((bCS (bCF p) 0 _).ws f1) p6 (fun k d ty hq=>by
     rw[(bCS (F:=F) (its:=its) (bCF p) 0 _).ps,<-y7]at d;rw[hq.2]at d;exact u1.own_r a.b (by rw[e7];simp) (fT d))
    have C:Fr H (fun ty k=>bCI ty/\(k∈ps p\/k∈ps q)) Y c:=(x4.mono fun t k d=>⟨d.1,.l (by rw[y7];exact d.2)⟩).t (i.mono fun t k d=>⟨d.1,.r d.2⟩);rcases y2.lst (.r Ox)with rfl|⟨b0,o0,a0,l0,rfl,ht0,hl0⟩
    ·trivial
    ·have ho:=iP.2.2;have T:=(aI ho (n:=20) ht0).1;have d9:po a0=[]:=by unfold po;rw[ht0];rfl
     have o5:=dH.fr C (fun t k d=>d.1.e) ho (fun k d=>by rw[d9]at d;cases d) (fun e=>⟨y2.list e T,fun k _ d=>absurd d.1 (by unfold bCI;decide)⟩);have o6:=dH.fr b5 g8 o5 (fun k d=>by rw[d9]at d;cases d) (fun e=>⟨y2.list e T,fun k _ d=>absurd d.1 Ob⟩);exact⟨p7,trivial,gZ o6 (bCS _ _ _) (Sh.refl _)⟩
  ·refine IsT.fr b5 g8 ((dJ F its q _).ws g0) i5 (fun k d ty hq=>?_);rw[(dJ F its q _).ps,hq.2]at d;exact u1.own_r a.b (by rw[e7];simp) (jE d)
  ·unfold Own;rw[hz];trivial
  ·unfold Own;dsimp only;rw[ht];refine⟨_,aM (o:=6) _ hc,⟨(Qq Oa).t hn.1,(Qq Oa).t hn.2.1,(Qq Oa).t hn.2.2⟩,?_,x,y,X,_,_,rfl,?_,?_,?_⟩
   ·rw[aIG Ou z8 (bCQ _ _).1,Qq Oa];exact c3
   ·rw[(aLA Ov y2 (bCS _ _ _)).g,Qq Oa];exact c4
   ·rw[(dJ F its q _).g,Qq Oa];exact c5
   ·rw[Array.getElem?_setIfInBounds_self_of_lt (Oo c6)]
  ·have y3:Fr H (PI (.node b o a l (.node x y X p q))) w Y:=(x2.mono F0.to).t (x3.mono fun t k d=>⟨PN.e _ _ d,fT (by rw[z3];exact d.2)⟩);have y5:=(y3.t (x4.mono fun t k d=>⟨(Pt.body _ _ d).e,jE (fT (by rw[y7];exact d.2))⟩)).t (i.mono fun t k d=>⟨(Pt.body _ _ d).e,jE (jE d.2)⟩);exact y5.t q0
 have a9:Hid (∀ (S:Rs) (u Y:World),Fr H F0 w u->Fr H (PN (bCF l)) u Y->RsW H O N I U Z F S Y->NsW H O N I U Z F its S Y/\FnW Y b a l p q/\IsT Y p/\IsT Y q):=by
  intro S u Y x2 x3 h3;refine⟨⟨h3,(h.it.fr x2 (fun _ _ h=>absurd h id)).fr x3 PN.inT,h.fo⟩,(b6.fr (x2.mono (F0.to (P:=PN (bCF l)))) PN.inT).fr x3 PN.inT,?_,?_⟩
  ·have k2:=IsT.fr x2 (fun t k d=>absurd d id) y2 hi.2.1.1 (fun _ _ _ h=>h);exact IsT.fr x3 PN.e y2 k2 (fun k d ty hq=>i9 k (by rw[z3];exact hq.2) d)
  ·have k2:=IsT.fr x2 (fun t k d=>absurd d id) g0 hi.2.1.2.1 (fun _ _ _ h=>h);exact IsT.fr x3 PN.e g0 k2 (fun k d ty hq=>n7 k (by rw[z3];exact hq.2) d)
 have e6:Hid (∀ (S:Rs) (Y W4:World),NsW H O N I U Z F its S Y->FnW Y b a l p q->IsT Y q->∀ S',Fr H (Pt (bCF p)) Y W4->RsW H O N I U Z F S' W4->NsW H O N I U Z F its S' W4/\FnW W4 b a l p q/\IsT W4 q):=by
  intro S Y W4 n3 f3 i3 S' x4 h4;refine⟨n3.fr h4 x4 Pt.body,f3.fr x4 (fun t p h=>(Pt.body t p h).inT),?_⟩;exact IsT.fr x4 (fun t k d=>(Pt.body t k d).e) g0 i3 (fun k d ty hq=>u2.apart k (by rw[y7];exact hq.2) d)
 have z7:Hid _:=p1;have e2:Hid _:=f1;have n6:Hid (Ws 5 p):=y2;have j0:Hid _:=m7;have l9:Hid _:=hF.2.1.1;have s3:Hid _:=u2.left;have j9:Hid (20000+eE p+eE q<=1000000):=j8
 have n1:Hid (∀ S,(whR F its (bCF p) 0 S).b.length<=S.b.length+eE p):=fun S=>by
  have:=aLC (F:=F) (its:=its) (bCF p) 0 S
  rwa [tM Ov y2]at this
 have l8:Hid (FnW w b a l p q):=b6;have HN:Hid (NsW H O N I U Z F its s w):=h;have o8:aD l=aO (bCF l):=bLA l;have o9:aD p=aO (bCF p):=bLA p;have j3:Hid _:=o8;have j2:Hid _:=o9;have j4:=h.rs;clear g2 z8 y2 g0 hF p0 j8 hi u1 u2 e7 i9 n7 z3 y7 p1 f1 m7 b6 n9 n8 j7 m0 h o8 o9 ht hz
 by_cases d:8<=a.c
 ·have c9:Hid (s.few a=s.fail 5 a.b):=if_pos d;generalize hS:s.fail 5 a.b=f at c9;go_enter func128,ntmps128
  go_wp2_with fail
  refine(bCJ 5 a.b w j4).mono ?_;rintro e B ⟨rfl,h1,x1⟩;rw[hS]at h1;clear hS;obtain⟨u,d0,m9,g4⟩:=h1.b.clear;have h2:RsW H O N I U Z F f.clear u:=h1.turned m9 g4;have x2:Fr H F0 w u:=x1.turned h1.vge g4;have c2:B.cell? ⟨N,2,none⟩=some (.map (some U)):=h1.cell 2;obtain⟨_,f2,_,_⟩:=a9.o f.clear u u x2 (Fr.refl _ _ _) h2;obtain⟨_,_,m3,_,_,_,_⟩:=f2.cells;rw[z9]at m3
  have L0:∃ g,(bCF l≠ .nil->ao=some ⟨g,0,none⟩/\H<=g/\∀ b o a l' r,l= .node b o a l' r->b=g)/\LpP H O N I U Z F g (bCF l) f.clear u 0 f.clear u:=by
   by_cases T:bCF l= .nil
   ·exact⟨0,fun h=>absurd T h,LpP.start h2 rfl z7.o (fun h=>absurd T h)⟩
   ·obtain⟨g,e1,R,⟨cs,e3,e4⟩,e5⟩:=n2.o T;exact⟨g,fun _=>⟨e1,R,e5⟩,LpP.start h2 rfl z7.o (fun _=>⟨cs,x2.keep0 (by simp[bLB,aK]) e3,e4⟩)⟩
  obtain⟨g,hg,L0⟩:=L0;have HG:Hid _:=hg;have b4:Hid (Fr H F0 w u):=x2;clear hg h1 x1 m9 g4 f2 x2 l8;go_wp2_with fail
  go_loopg [29] (aD l) (fun W a7 wr=>∃ (A:Nat) (J:Rs),a7= Qc A/\A<=aD l/\aD l<=A+W/\LpP H O N I U Z F g (bCF l) f.clear u A J wr)
  case atStart=>exact⟨0,f.clear,rfl,Qn _,Oa,L0⟩
  case round=>
   clear L0 d0 c2 h2 m1 m2 j4 m3;obtain⟨A,J,rfl,q5,hm,M⟩:=hrel;have d4:Hid _:=M;obtain⟨n3,f3,a3,a4⟩:=a9.o J u wr b4.o M.fr M.rs;obtain⟨_,_,m3,m4,m5,_,_⟩:=f3.cells;rw[z9]at m3
   by_cases l4:A < aD l
   ·have g6:(A:Int) < (aD l:Int):=Oa
    obtain⟨b2,o2,a2,R,r2,E,z2⟩:=dK A (bCF l) (by rw[<-j3.o];exact l4);have T:bCF l≠ .nil:=by intro hx;rw[hx]at E;cases A<;>cases E
    obtain⟨l2,l3,_⟩:=HG.o T;have g3:=M.name l3 z7.o E;have p8:=M.few
    have k9:(eI R).size<=maxLen:=by
     have y8:=eX Ou A _ z7.o;rw[E]at y8;obtain⟨_,k9,_⟩:=aY Ou y8;cases R with
     |nil=>exact absurd k9 (by unfold Ws bK;simp)
     |node D o3 v x3 y3=>have:=k9.parts.1.h;show v.h.size<=maxLen;unfold maxLen;omega
    have j4:=M.rs;have z5:Hid (FnW wr b a l p q):=f3;have h9:Hid _:=fun w2 w3=>d4.o.step (w2:=w2) (w3:=w3) z7.o E z2;subst l2;clear M f3 n3 a3 a4 E z2 T m4 m5;go_wp2_with fail
    refine(tI wr 4 j4 g3 k9).mono ?_;rintro e c ⟨rfl,z,i⟩;have m8:=g3.fr0 i;have f5:=z5.o.fr (i.mono (F0.to (P:=F0))) (fun _ _ h=>absurd h id);obtain⟨_,_,l7,_,_,_,_⟩:=f5.cells;rw[z9]at l7;have l5:(J.K (eI R) (bEN R) 4).b.length<=1000000:=by rw[jG];omega
    go_wp2_with fail
    refine(tX c z m8 k9 l5).mono ?_;rintro e Q ⟨rfl,h6,x6,a8⟩;rw[jG]at a8;obtain⟨W,rfl⟩:=Oj gk
    have fin:∃ (K:Nat) (J:Rs),Qc ((A:Int)+1)= Qc K/\K<=aD l/\aD l<=K+W/\LpP H O N I U Z F g (bCF l) f.clear u K J Q:=
     ⟨A+1,_,Od,Oa,Oa,h9.o c Q i h6 x6 a8⟩
    clear h9 d4 z i h6 x6 a8 m8 f5 z5 g3;go_wp2;go_roundg W
    case rel=>exact fin
    case measure=>omega
   ·have g6: ¬(A:Int) < (aD l:Int):=Oa
    have b7:A=aO (bCF l):=by rw[<-j3.o];omega
    have p9:=M.few
    obtain⟨d6,z0⟩:J=jF (bCF l) f.clear/\(bCF l≠ .nil->At wr g 100 fun cs=>jO cs 0 (lE (bCF l) f.clear)):=by
     have:=M;rw[b7]at this;exact this.fin
    have r8:J.b.length<=10000:=Oa
    rw[e8]at m4;have z4:Hid _:=z0;have i6:Hid (Fr H (PN (bCF l)) u wr):=M.fr;have d8:=M.rs
    have b9:IsT wr (bCF p):=by
     cases p with
     |nil=>trivial
     |node=>exact a3.1
    have M0:LpW H O N I U Z F its (bCF p) J wr 0 J wr:=LpW.start d8 b9;have i1:Hid (J=jF (bCF l) f.clear):=d6;have f9:Hid (NsW H O N I U Z F its J wr):=n3;have f6:Hid (FnW wr b a l p q):=f3;have i0:Hid (IsT wr q):=a4;have h5:Hid (IsT wr p):=a3;clear z0 d6 M d4 n3 f3 a4 a3 b9 d8 m3 m5 b7
    rename World=>WP
    go_wp2_with fail
    go_loopg [54] (aD p) (fun W a7 wk=>∃ (j:Nat) (m:Rs),a7= Qc j/\j<=aD p/\aD p<=j+W/\LpW H O N I U Z F its (bCF p) J WP j m wk)
    case atStart=>exact⟨0,J,rfl,Qn _,Oa,M0⟩
    case round=>
     clear M0 m4;obtain⟨j,m,rfl,q6,q7,LW⟩:=hrel;have j1:Hid _:=LW;obtain⟨n4,f4,a5⟩:=e6.o J WP wr f9.o f6.o i0.o m LW.fr LW.rs;obtain⟨_,_,_,m4,m5,m6,z6⟩:=f4.cells;rw[e9]at m5
     by_cases g7:j < aD p
     ·have g5:(j:Int) < (aD p:Int):=Oa
      obtain⟨b2,o2,a2,R,r2,E,z2⟩:=dK j (bCF p) (by rw[<-j2.o];exact g7);have y8:=eX Ov j _ e2.o;rw[E]at y8;obtain⟨k6,k9,_⟩:=aY Ov y8;obtain⟨D,o3,v,C,V,rfl,h7,y1,k7⟩:=aL9 k9;obtain⟨gg,rfl,y0⟩:=pJ n6.o h5.o LW.fr Pt.body e8 E ⟨D,o3,v,C,V,rfl,h7⟩;replace y0:wr.cell? ⟨gg,j,none⟩=some (Qd D):=y0;have k0:=LW.rest;have y4:=lT j _ j0.o;rw[E]at k0 y4;have ue:=dZ (b:=D) (o:=o3) (dZ y4).left
      have y6:aUI H (BT.node D o3 v C V):=by
       have h0:=lO j (bCF p) (jI l9.o);rw[E]at h0;exact h0.1
      obtain⟨s1,pp,l6⟩:=y1.g (.r (.r Oz));obtain⟨s2,r9,d5⟩:=k7.g (.r (.r Oz))
      have a6:∀ w',Own w' D v C V->w'.cell? ⟨D,2,none⟩=some (bCH C)/\w'.cell? ⟨D,3,none⟩=some (bCH V)/\w'.cell? ⟨D,1,none⟩=some (Qc v.e):=by
       intro w' ho;obtain⟨cs,hc,_,k1,k2,k3⟩:=aI ho (n:=7) h7;exact⟨Og hc k2,Og hc k3,Og hc k1⟩
      have q2:=(a6 wr k0.1.2.2).1;have k4:=c8.o C y6.1 ue.left (sP y1) m wr n4 k0.1.1;have b3:Hid (GN 195 H O N I U Z F its bCH V):=c8.o V y6.2.1 ue.right (sP k7);rw[l6]at q2 k4;have d2:Hid _:=a6;have h9:Hid _:=fun w2 w3 w4=>j1.o.step (w2:=w2) (w3:=w3) (w4:=w4) e2.o j0.o E z2
      have k8:Hid (∀ c,Fr H (Pt C) wr c->Own c D v C V/\IsT c V):=fun c i=>by
       have:=gV (H:=H) (b:=D) (o:=o3) (sP k7) ue k0.1 i Oa;exact⟨this.2,this.1⟩
      have k5:Hid (∀ c Q,Fr H F0 c Q->Own c D v C V->IsT c V->Own Q D v C V/\IsT Q V):=fun c Q x6 k1 k2=>
       ⟨cX k1 x6 F0.body (fun p hp ty hq=>hq) Oa,IsT.fr x6 (fun t p hp=>absurd hp id) (sP k7) k2 (fun _ _ _ h=>h)⟩
      have d3:Hid (NsW H O N I U Z F its m wr):=n4;clear LW f4 n4 a5 E z2 y8 k9 y1 k7 k0 y4 ue y6 a6 m4 m5 m6 z6 h7 k6;go_wp2_with fail
      refine k4.mono ?_;rintro e c ⟨rfl,z,i5,i⟩;obtain⟨o5,j5⟩:=k8.o c i;have q1:=(d2.o c o5).2.2;have q3:=(d2.o c o5).2.1;have n5:=d3.o.fr z i Pt.body;obtain⟨W,rfl⟩:=Oj gk
      by_cases p5:(4:Int)<=(j:Int)
      ·have z1:Hid ((rsT F its C m).S j v.e=(rsT F its C m).fail 5 v.e):=if_pos Oa;go_wp2_with fail
       refine(bCJ 5 v.e c z).mono ?_;rintro e Q ⟨rfl,h6,x6⟩;rw[<-z1.o]at h6;obtain⟨o6,j6⟩:=k5.o c Q x6 o5 j5;have q4:=(d2.o Q o6).2.1;have h8:=b3.o _ Q (n5.fr h6 x6 F0.body) j6;rw[d5]at q4 h8;clear q1 q3 o5 j5 o6 j6 n5;go_wp2_with fail
       refine h8.mono ?_;rintro e W7 ⟨rfl,h7,i7,x7⟩
       have fin:∃ (j':Nat) (m:Rs),Qc ((j:Int)+1)= Qc j'/\j'<=aD p/\aD p<=j'+W/\LpW H O N I U Z F its (bCF p) J WP j' m W7:=
        ⟨j+1,_,Od,Oa,Oa,h9.o c Q W7 i5 i x6 h7 i7 x7⟩
       clear h9 j1 z i i5 h6 x6 h7 i7 x7 k8 k5 d3;go_wp2;go_roundg W
       case rel=>exact fin
       case measure=>omega
      ·have z1:(rsT F its C m).S j v.e=rsT F its C m:=Oh;have d1:=z;rw[<-z1]at d1;have p2:Hid _:=z1;have h8:=b3.o _ c (n5.fr d1 (Fr.refl H F0 c) F0.body) j5;rw[d5]at q3 h8;clear o5 j5 n5 z1 q1;go_wp2_with fail
       refine h8.mono ?_;rintro e W7 ⟨rfl,h7,i7,x7⟩
       have fin:∃ (j':Nat) (m:Rs),Qc ((j:Int)+1)= Qc j'/\j'<=aD p/\aD p<=j'+W/\LpW H O N I U Z F its (bCF p) J WP j' m W7:=
        ⟨j+1,_,Od,Oa,Oa,h9.o c c W7 i5 i (Fr.refl H F0 c) h7 i7 x7⟩
       clear h9 j1 z i i5 h7 i7 x7 k8 k5 d3 d1;go_wp2;go_roundg W
       case rel=>exact fin
       case measure=>omega
     ·have g5: ¬(j:Int) < (aD p:Int):=Oa
      have b8:j=aO (bCF p):=by rw[<-j2.o];omega
      obtain⟨g1,iW⟩:m=whR F its (bCF p) 0 J/\IsT wr (whT F its (bCF p) 0 J):=by
       have:=LW;rw[b8]at this;exact this.fin
      have y9:m.b.length+eE q<=1000000:=by
       have k1:=n1.o J;have k2:=j9.o;rw[g1];omega
      have k4:=n0.o m wr n4 a5 y9;rw[e9]at k4;have i8:Hid (Fr H (Pt (bCF p)) WP wr):=LW.fr;have f7:Hid (FnW wr b a l p q):=f4;have f8:Hid (IsT wr (whT F its (bCF p) 0 J)):=iW;have i2:Hid (m=whR F its (bCF p) 0 J):=g1;clear LW j1 n4 f4 a5 y9 b8 iW g1 m4 m6 z6;go_wp2_with fail
      refine k4.mono ?_;rintro e c ⟨rfl,z,i5,i⟩;have f5:=f7.o.fr i (fun t p h=>(Pt.body t p h).inT);obtain⟨_,_,_,_,_,m6,z6⟩:=f5.cells;have c5:c.cell? ⟨N,2,none⟩=some (.map (some U)):=z.cell 2
      have g9:aBL H O N I U Z F its (.node b o a l (.node x y X p q)) (fnT F its (.node b o a l (.node x y X p q)) s) (fnR F its (.node b o a l (.node x y X p q)) s) w (.returned (.tuple #[])) (c.setCell ⟨b,6,none⟩ (Qc (rsT F its q m).b.length)):=by
       have e1:=i2.o;have R:=i1.o;rw[R]at e1;have i4:=f8.o;rw[R]at i4;subst e1;exact c7.o g f u WP wr c c9.o (fun T=>(HG.o T).2.2) b4.o i6.o z4.o i8.o i4 i i5 z
      clear f5 c7 a9 e6 i5 i;go_wp2_with (at_len;refine bMC rfl _ rfl U _ _ rfl z.b ?_)
      go_end0
      exact g9
 ·obtain⟨f,hS⟩:∃ f,s.few a=f:=⟨_,rfl⟩;have c9:Hid (s.few a=f):=hS;have h1:RsW H O N I U Z F f w:=by rw[<-hS,show s.few a=s from if_neg d];exact j4
  have x1:Fr H F0 w w:=Fr.refl _ _ _;clear hS;go_enter func128,ntmps128
  obtain⟨u,d0,m9,g4⟩:=h1.b.clear;have h2:RsW H O N I U Z F f.clear u:=h1.turned m9 g4;have x2:Fr H F0 w u:=x1.turned h1.vge g4;have c2:w.cell? ⟨N,2,none⟩=some (.map (some U)):=h1.cell 2;obtain⟨_,f2,_,_⟩:=a9.o f.clear u u x2 (Fr.refl _ _ _) h2;obtain⟨_,_,m3,_,_,_,_⟩:=f2.cells;rw[z9]at m3
  have L0:∃ g,(bCF l≠ .nil->ao=some ⟨g,0,none⟩/\H<=g/\∀ b o a l' r,l= .node b o a l' r->b=g)/\LpP H O N I U Z F g (bCF l) f.clear u 0 f.clear u:=by
   by_cases T:bCF l= .nil
   ·exact⟨0,fun h=>absurd T h,LpP.start h2 rfl z7.o (fun h=>absurd T h)⟩
   ·obtain⟨g,e1,R,⟨cs,e3,e4⟩,e5⟩:=n2.o T;exact⟨g,fun _=>⟨e1,R,e5⟩,LpP.start h2 rfl z7.o (fun _=>⟨cs,x2.keep0 (by simp[bLB,aK]) e3,e4⟩)⟩
  obtain⟨g,hg,L0⟩:=L0;have HG:Hid _:=hg;have b4:Hid (Fr H F0 w u):=x2;clear hg h1 x1 m9 g4 f2 x2 l8;go_wp2_with fail
  go_loopg [29] (aD l) (fun W a7 wr=>∃ (A:Nat) (J:Rs),a7= Qc A/\A<=aD l/\aD l<=A+W/\LpP H O N I U Z F g (bCF l) f.clear u A J wr)
  case atStart=>exact⟨0,f.clear,rfl,Qn _,Oa,L0⟩
  case round=>
   clear L0 d0 c2 h2 m1 m2 j4 m3;obtain⟨A,J,rfl,q5,hm,M⟩:=hrel;have d4:Hid _:=M;obtain⟨n3,f3,a3,a4⟩:=a9.o J u wr b4.o M.fr M.rs;obtain⟨_,_,m3,m4,m5,_,_⟩:=f3.cells;rw[z9]at m3
   by_cases l4:A < aD l
   ·have g6:(A:Int) < (aD l:Int):=Oa
    obtain⟨b2,o2,a2,R,r2,E,z2⟩:=dK A (bCF l) (by rw[<-j3.o];exact l4);have T:bCF l≠ .nil:=by intro hx;rw[hx]at E;cases A<;>cases E
    obtain⟨l2,l3,_⟩:=HG.o T;have g3:=M.name l3 z7.o E;have p8:=M.few
    have k9:(eI R).size<=maxLen:=by
     have y8:=eX Ou A _ z7.o;rw[E]at y8;obtain⟨_,k9,_⟩:=aY Ou y8;cases R with
     |nil=>exact absurd k9 (by unfold Ws bK;simp)
     |node D o3 v x3 y3=>have:=k9.parts.1.h;show v.h.size<=maxLen;unfold maxLen;omega
    have j4:=M.rs;have z5:Hid (FnW wr b a l p q):=f3;have h9:Hid _:=fun w2 w3=>d4.o.step (w2:=w2) (w3:=w3) z7.o E z2;subst l2;clear M f3 n3 a3 a4 E z2 T m4 m5;go_wp2_with fail
    refine(tI wr 4 j4 g3 k9).mono ?_;rintro e c ⟨rfl,z,i⟩;have m8:=g3.fr0 i;have f5:=z5.o.fr (i.mono (F0.to (P:=F0))) (fun _ _ h=>absurd h id);obtain⟨_,_,l7,_,_,_,_⟩:=f5.cells;rw[z9]at l7;have l5:(J.K (eI R) (bEN R) 4).b.length<=1000000:=by rw[jG];omega
    go_wp2_with fail
    refine(tX c z m8 k9 l5).mono ?_;rintro e Q ⟨rfl,h6,x6,a8⟩;rw[jG]at a8;obtain⟨W,rfl⟩:=Oj gk
    have fin:∃ (K:Nat) (J:Rs),Qc ((A:Int)+1)= Qc K/\K<=aD l/\aD l<=K+W/\LpP H O N I U Z F g (bCF l) f.clear u K J Q:=
     ⟨A+1,_,Od,Oa,Oa,h9.o c Q i h6 x6 a8⟩
    clear h9 d4 z i h6 x6 a8 m8 f5 z5 g3;go_wp2;go_roundg W
    case rel=>exact fin
    case measure=>omega
   ·have g6: ¬(A:Int) < (aD l:Int):=Oa
    have b7:A=aO (bCF l):=by rw[<-j3.o];omega
    have p9:=M.few
    obtain⟨d6,z0⟩:J=jF (bCF l) f.clear/\(bCF l≠ .nil->At wr g 100 fun cs=>jO cs 0 (lE (bCF l) f.clear)):=by
     have:=M;rw[b7]at this;exact this.fin
    have r8:J.b.length<=10000:=Oa
    rw[e8]at m4;have z4:Hid _:=z0;have i6:Hid (Fr H (PN (bCF l)) u wr):=M.fr;have d8:=M.rs
    have b9:IsT wr (bCF p):=by
     cases p with
     |nil=>trivial
     |node=>exact a3.1
    have M0:LpW H O N I U Z F its (bCF p) J wr 0 J wr:=LpW.start d8 b9;have i1:Hid (J=jF (bCF l) f.clear):=d6;have f9:Hid (NsW H O N I U Z F its J wr):=n3;have f6:Hid (FnW wr b a l p q):=f3;have i0:Hid (IsT wr q):=a4;have h5:Hid (IsT wr p):=a3;clear z0 d6 M d4 n3 f3 a4 a3 b9 d8 m3 m5 b7
    rename World=>WP
    go_wp2_with fail
    go_loopg [54] (aD p) (fun W a7 wk=>∃ (j:Nat) (m:Rs),a7= Qc j/\j<=aD p/\aD p<=j+W/\LpW H O N I U Z F its (bCF p) J WP j m wk)
    case atStart=>exact⟨0,J,rfl,Qn _,Oa,M0⟩
    case round=>
     clear M0 m4;obtain⟨j,m,rfl,q6,q7,LW⟩:=hrel;have j1:Hid _:=LW;obtain⟨n4,f4,a5⟩:=e6.o J WP wr f9.o f6.o i0.o m LW.fr LW.rs;obtain⟨_,_,_,m4,m5,m6,z6⟩:=f4.cells;rw[e9]at m5
     by_cases g7:j < aD p
     ·have g5:(j:Int) < (aD p:Int):=Oa
      obtain⟨b2,o2,a2,R,r2,E,z2⟩:=dK j (bCF p) (by rw[<-j2.o];exact g7);have y8:=eX Ov j _ e2.o;rw[E]at y8;obtain⟨k6,k9,_⟩:=aY Ov y8;obtain⟨D,o3,v,C,V,rfl,h7,y1,k7⟩:=aL9 k9;obtain⟨gg,rfl,y0⟩:=pJ n6.o h5.o LW.fr Pt.body e8 E ⟨D,o3,v,C,V,rfl,h7⟩;replace y0:wr.cell? ⟨gg,j,none⟩=some (Qd D):=y0;have k0:=LW.rest;have y4:=lT j _ j0.o;rw[E]at k0 y4;have ue:=dZ (b:=D) (o:=o3) (dZ y4).left
      have y6:aUI H (BT.node D o3 v C V):=by
       have h0:=lO j (bCF p) (jI l9.o);rw[E]at h0;exact h0.1
      obtain⟨s1,pp,l6⟩:=y1.g (.r (.r Oz));obtain⟨s2,r9,d5⟩:=k7.g (.r (.r Oz))
      have a6:∀ w',Own w' D v C V->w'.cell? ⟨D,2,none⟩=some (bCH C)/\w'.cell? ⟨D,3,none⟩=some (bCH V)/\w'.cell? ⟨D,1,none⟩=some (Qc v.e):=by
       intro w' ho;obtain⟨cs,hc,_,k1,k2,k3⟩:=aI ho (n:=7) h7;exact⟨Og hc k2,Og hc k3,Og hc k1⟩
      have q2:=(a6 wr k0.1.2.2).1;have k4:=c8.o C y6.1 ue.left (sP y1) m wr n4 k0.1.1;have b3:Hid (GN 195 H O N I U Z F its bCH V):=c8.o V y6.2.1 ue.right (sP k7);rw[l6]at q2 k4;have d2:Hid _:=a6;have h9:Hid _:=fun w2 w3 w4=>j1.o.step (w2:=w2) (w3:=w3) (w4:=w4) e2.o j0.o E z2
      have k8:Hid (∀ c,Fr H (Pt C) wr c->Own c D v C V/\IsT c V):=fun c i=>by
       have:=gV (H:=H) (b:=D) (o:=o3) (sP k7) ue k0.1 i Oa;exact⟨this.2,this.1⟩
      have k5:Hid (∀ c Q,Fr H F0 c Q->Own c D v C V->IsT c V->Own Q D v C V/\IsT Q V):=fun c Q x6 k1 k2=>
       ⟨cX k1 x6 F0.body (fun p hp ty hq=>hq) Oa,IsT.fr x6 (fun t p hp=>absurd hp id) (sP k7) k2 (fun _ _ _ h=>h)⟩
      have d3:Hid (NsW H O N I U Z F its m wr):=n4;clear LW f4 n4 a5 E z2 y8 k9 y1 k7 k0 y4 ue y6 a6 m4 m5 m6 z6 h7 k6;go_wp2_with fail
      refine k4.mono ?_;rintro e c ⟨rfl,z,i5,i⟩;obtain⟨o5,j5⟩:=k8.o c i;have q1:=(d2.o c o5).2.2;have q3:=(d2.o c o5).2.1;have n5:=d3.o.fr z i Pt.body;obtain⟨W,rfl⟩:=Oj gk
      by_cases p5:(4:Int)<=(j:Int)
      ·have z1:Hid ((rsT F its C m).S j v.e=(rsT F its C m).fail 5 v.e):=if_pos Oa;go_wp2_with fail
       refine(bCJ 5 v.e c z).mono ?_;rintro e Q ⟨rfl,h6,x6⟩;rw[<-z1.o]at h6;obtain⟨o6,j6⟩:=k5.o c Q x6 o5 j5;have q4:=(d2.o Q o6).2.1;have h8:=b3.o _ Q (n5.fr h6 x6 F0.body) j6;rw[d5]at q4 h8;clear q1 q3 o5 j5 o6 j6 n5;go_wp2_with fail
       refine h8.mono ?_;rintro e W7 ⟨rfl,h7,i7,x7⟩
       have fin:∃ (j':Nat) (m:Rs),Qc ((j:Int)+1)= Qc j'/\j'<=aD p/\aD p<=j'+W/\LpW H O N I U Z F its (bCF p) J WP j' m W7:=
        ⟨j+1,_,Od,Oa,Oa,h9.o c Q W7 i5 i x6 h7 i7 x7⟩
       clear h9 j1 z i i5 h6 x6 h7 i7 x7 k8 k5 d3;go_wp2;go_roundg W
       case rel=>exact fin
       case measure=>omega
      ·have z1:(rsT F its C m).S j v.e=rsT F its C m:=Oh;have d1:=z;rw[<-z1]at d1;have p2:Hid _:=z1;have h8:=b3.o _ c (n5.fr d1 (Fr.refl H F0 c) F0.body) j5;rw[d5]at q3 h8;clear o5 j5 n5 z1 q1;go_wp2_with fail
       refine h8.mono ?_;rintro e W7 ⟨rfl,h7,i7,x7⟩
       have fin:∃ (j':Nat) (m:Rs),Qc ((j:Int)+1)= Qc j'/\j'<=aD p/\aD p<=j'+W/\LpW H O N I U Z F its (bCF p) J WP j' m W7:=
        ⟨j+1,_,Od,Oa,Oa,h9.o c c W7 i5 i (Fr.refl H F0 c) h7 i7 x7⟩
       clear h9 j1 z i i5 h7 i7 x7 k8 k5 d3 d1;go_wp2;go_roundg W
       case rel=>exact fin
       case measure=>omega
     ·have g5: ¬(j:Int) < (aD p:Int):=Oa
      have b8:j=aO (bCF p):=by rw[<-j2.o];omega
      obtain⟨g1,iW⟩:m=whR F its (bCF p) 0 J/\IsT wr (whT F its (bCF p) 0 J):=by
       have:=LW;rw[b8]at this;exact this.fin
      have y9:m.b.length+eE q<=1000000:=by
       have k1:=n1.o J;have k2:=j9.o;rw[g1];omega
      have k4:=n0.o m wr n4 a5 y9;rw[e9]at k4;have i8:Hid (Fr H (Pt (bCF p)) WP wr):=LW.fr;have f7:Hid (FnW wr b a l p q):=f4;have f8:Hid (IsT wr (whT F its (bCF p) 0 J)):=iW;have i2:Hid (m=whR F its (bCF p) 0 J):=g1;clear LW j1 n4 f4 a5 y9 b8 iW g1 m4 m6 z6;go_wp2_with fail
      refine k4.mono ?_;rintro e c ⟨rfl,z,i5,i⟩;have f5:=f7.o.fr i (fun t p h=>(Pt.body t p h).inT);obtain⟨_,_,_,_,_,m6,z6⟩:=f5.cells;have c5:c.cell? ⟨N,2,none⟩=some (.map (some U)):=z.cell 2
      have g9:aBL H O N I U Z F its (.node b o a l (.node x y X p q)) (fnT F its (.node b o a l (.node x y X p q)) s) (fnR F its (.node b o a l (.node x y X p q)) s) w (.returned (.tuple #[])) (c.setCell ⟨b,6,none⟩ (Qc (rsT F its q m).b.length)):=by
       have e1:=i2.o;have R:=i1.o;rw[R]at e1;have i4:=f8.o;rw[R]at i4;subst e1;exact c7.o g f u WP wr c c9.o (fun T=>(HG.o T).2.2) b4.o i6.o z4.o i8.o i4 i i5 z
      clear f5 c7 a9 e6 i5 i;go_wp2_with (at_len;refine bMC rfl _ rfl U _ _ rfl z.b ?_)
      go_end0
      exact g9
end
end Go.Proofs.YtikffmloeifkpaaGreatDoor
