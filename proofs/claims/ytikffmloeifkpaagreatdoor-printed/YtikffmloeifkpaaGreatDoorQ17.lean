/- Contracts. -/
import Derived.Test.YtikffmloeifkpaaGreatDoorQ16
set_option maxHeartbeats 16000000
set_option maxRecDepth 100000
namespace Go.Proofs.YtikffmloeifkpaaGreatDoor
section
open Go.RowKit Go.Lib Go.Deep Go.ChangeMaps Go.MapKept
variable {H pb rb fb vb:Nat} {pc:Array Value} {F:cM} {its:List Tr}
def toL:Tr->List Tr
 | .nil=>[]
 | .node _ _ _ e r=>e::toL r
def aAC(F:cM)(its:List Tr):Tr->Nat->Rs->Rs
 | .nil,_,s=>s
 | .node _ _ _ e r,i,s=>aAC F its r (i+1) (itR F its e i s)
def hY(F:cM)(its:List Tr):Tr->Nat->Rs->Tr
 | .nil,_,_=> .nil
 | .node b o a e r,i,s=> .node b o a (itT F its e i s) (hY F its r (i+1) (itR F its e i s))
def rF:ByteArray:=ByteArray.mk #[109,97,105,110]
def rs0:Rs:=⟨[],0,0⟩
def fC(t:Tr):List Tr:=toL (gaT (bCF t) 0 0)
def dB(t:Tr):cM:=gaF (bCF t) 0 []
def aFV(t:Tr):Rs:=aAC (dB t) (fC t) (gaT (bCF t) 0 0) 0 rs0
def fO(t:Tr)(n:Int):Rs:=if(eK (dB t) (fC t) rF).isSome then aFV t else(aFV t).fail 4 n
def dY(t:Tr):Tr:=iS t (hY (dB t) (fC t) (gaT (bCF t) 0 0) 0 rs0)
def qV(t:Tr):Int:=lH ((eK (dB t) (fC t) rF).getD .nil)
theorem aH8(t:Tr):(toL t).length=aO t:=by
 induction t with
 |nil=>rfl
 |node b o a e r _ ih=>simp only[toL,aO,List.length_cons,ih]
theorem aBO:∀ (t:Tr) (i:Nat) (e:Tr),(toL t)[i]?=some e->∃ b o a r,aL i t= .node b o a e r:=by
 intro t
 induction t with
 |nil=>intro i e h;simp[toL]at h
 |node b o a e0 r _ ih=>
  intro i e h;cases i with
  |zero=>simp[toL]at h;subst h;exact⟨b,o,a,r,rfl⟩
  |succ i=>exact ih i e (by simpa[toL]using h)
theorem aH7:∀ (t e:Tr),e∈toL t->∃ i:Nat,(toL t)[i]?=some e:=fun t e h=>by
 obtain⟨i,hi,he⟩:=List.getElem_of_mem h;exact⟨i,by rw[List.getElem?_eq_getElem hi,he]⟩
theorem aP5{s:Nat}{e:Tr}(h:Ws s e)(n:Int):Ws s (iX e n):=by
 cases e with
 |nil=>exact h
 |node b o a l r=>
  obtain⟨h1,x,y,h0,hl,hr⟩:=h.parts;exact Ws.of20 (x:=x) (y:=y) h0 (h1.sh rfl rfl rfl (fun _=>rfl)) (fun e=>h.len e) hl hr
theorem aP6:∀ (l:Tr) (s:Rs),Ws 16 l->Ws 16 (lE l s):=by
 intro l
 induction l with
 |nil=>intro s h;exact h
 |node b o a e r _ ih=>
  intro s h;obtain⟨h2,_⟩:=h.parts;obtain⟨h3,h1,h0⟩:=aY Ou h;exact Ws.of20 (x:=22) (y:=16) (by rw[h3];rfl) h2 (fun e=>Oa) (aP5 h1 _) (ih _ h0)
theorem uB{s:Nat}(hs:s=3\/s=4\/s=5\/s=6\/s=8){t L:Tr}(h:Ws s t)(hl:Ws (10+s) L)(h0:aO L=aO (bCF t)):Ws s (iS t L):=by
 rcases h.lst hs with rfl|⟨b,o,a,l,rfl,ht,_⟩
 ·exact h
 ·obtain⟨h1,x,y,hsig,hx,hy⟩:=h.parts;refine Ws.of20 (x:=10+s) (y:=99) ?_ h1 (fun e=>?_) hl Ws.nil99
  ·rw[ht];rcases hs with rfl|rfl|rfl|rfl|rfl<;>rfl
  ·have:=h.len e;rw[h0];exact this
theorem yO{s:Nat}(hs:s=3\/s=4\/s=5\/s=6\/s=8){t L:Tr}(h:Ws s t)(hl:ps L=ps (bCF t)):ps (iS t L)=ps t:=by
 rcases h.lst hs with rfl|⟨b,o,a,l,rfl,ht,_⟩
 ·rfl
 ·have hx:ps L=ps l:=hl;show ps (.node b o a L .nil)=ps (.node b o a l .nil);simp only[ps,hx]
theorem uS{e:Tr}(i:Nat)(s:Rs)(h:Ws 7 e):Ws 7 (itT F its e i s)/\ps (itT F its e i s)=ps e/\bCH (itT F its e i s)=bCH e/\∃ b o a l r a' l' r',e= .node b o a l r/\itT F its e i s= .node b o a' l' r'/\a'.tag=a.tag/\(a.tag=16\/a.tag=17):=by
 obtain⟨b,o,a,l,r,rfl,ht⟩:=iB h;rcases ht with ht|ht
 ·have e1:itT F its (.node b o a l r) i s= .node b o a l r:=if_pos ht;rw[e1];exact⟨h,rfl,rfl,b,o,a,l,r,a,l,r,rfl,rfl,rfl,.inl ht⟩
 ·obtain⟨h1,x,y,z,p,q,rfl,hz,h0,h3⟩:=oO h ht;have e1:itT F its (.node b o a l (.node x y z p q)) i s=fnT F its (.node b o a l (.node x y z p q)) (s.twice F a i):=Oh;rw[e1];generalize s.twice F a i=s;have hL:=h1.elems Ou;have hP:=h0.elems Ov;obtain⟨h4,_⟩:=h.parts;obtain⟨_,_,_,_,_,hr⟩:=h.parts;obtain⟨h6,_,_,h5⟩:=bCQ (bCF l) (s.few a).clear;have w1:Ws 6 (iS l (lE (bCF l) (s.few a).clear)):=uB Ou h1 (aP6 _ _ hL) h6;have w2:Ws 5 (iS p (whT F its (bCF p) 0 (fnS F its a l p s).1)):=uB Ov h0 ((bCS _ _ _).ws hP) (bCS _ _ _).lenL;have w3:Ws 4 (reT F its q (fnS F its a l p s).2):=(dJ _ _ _ _).ws h3
  have h2:OkA z:=by
   have h7:=h;obtain⟨_,sx,sy,hsig,_,hr⟩:=h7.parts;exact hr.parts.1
  refine⟨?_,?_,?_,b,o,a,l,_,_,_,_,rfl,rfl,rfl,.inr ht⟩
  ·refine Ws.of (x:=6) (y:=23) (by show sig 7 a.tag=_;rw[ht];rfl) (h4.sh rfl rfl rfl (fun e=>absurd ht e)) w1 (Ws.of (x:=5) (y:=4) (by rw[hz];rfl) h2 w2 w3 Oa) (by show a.tag≠20;omega)
  ·show ps (.node b o {a with val:=_} (iS l _) (.node x y z (iS p _) (reT F its q _)))=_;simp only[ps,yO Ou h1 h5,yO Ov h0 (bCS _ _ _).ps,(dJ _ _ _ _).ps]
  ·show(if a.tag=20 then _ else _)=(if a.tag=20 then _ else _);rw[Oh,Oh]
theorem qF:∀ (L:Tr) (i:Nat) (s:Rs),Ws 18 L->Ws 18 (hY F its L i s)/\ps (hY F its L i s)=ps L/\aO (hY F its L i s)=aO L/\bL (hY F its L i s)=bL L/\(hY F its L i s= .nil↔L= .nil):=by
 intro L
 induction L with
 |nil=>intro i s h;exact⟨h,rfl,rfl,rfl,Iff.rfl⟩
 |node b o a e r _ ih=>
  intro i s h;obtain⟨h2,_⟩:=h.parts;obtain⟨h3,h1,h0⟩:=aY Ot h;obtain⟨k1,k2,k3,b2,o2,a2,l2,r2,a3,l3,r3,e1,e2,e3,e4⟩:=uS (F:=F) (its:=its) i s h1;obtain⟨j1,j2,j3,_,_⟩:=ih (i+1) (itR F its e i s) h0;refine⟨Ws.of20 (x:=7) (y:=18) (by rw[h3];rfl) h2 (fun e=>Oa) k1 j1,?_,?_,?_,by simp[hY]⟩
  ·simp only[hY,ps,k2,j2]
  ·simp only[hY,aO,j3]
  ·show bL (.node b o a (itT F its e i s) _)=bL (.node b o a e r);rw[e2,e1];unfold bL;dsimp only;rw[e3]
theorem aNP{cs:Array Value}:∀ (L:Tr) (o i:Nat) (s:Rs),Ws 18 L->jO cs o L->jO cs o (hY F its L i s):=by
 intro L
 induction L with
 |nil=>intro _ _ _ _ _;trivial
 |node b o0 a e r _ ih=>
  intro o i s h hr;obtain⟨h15,h2,h0⟩:=aY Ot h;obtain⟨k1,k2,k3,b2,o2,a2,l2,r2,a3,l3,r3,e1,e2,e3,e4⟩:=uS (F:=F) (its:=its) i s h2;refine⟨?_,ih (o+1) (i+1) _ h0 hr.2⟩;have h1:=hr.1;rw[e2]at k3 ⊢;rw[e1]at h1 k3;replace h1:(if a2.tag=19 then Nam cs (o*3) a2 else if a2.tag=7 then cs[o]?=some (cB (.node b2 o2 a2 l2 r2))else cs[o]?=some (bCH (.node b2 o2 a2 l2 r2))):=h1;show(if a3.tag=19 then Nam cs (o*3) a3 else if a3.tag=7 then cs[o]?=some (cB (.node b2 o2 a3 l3 r3))else cs[o]?=some (bCH (.node b2 o2 a3 l3 r3)));rw[Oh,Oh]at h1 ⊢;rw[k3];exact h1
structure LpI(H pb rb fb vb:Nat)(pc:Array Value)(F:cM)(its:List Tr)(L:Tr)(S1:Rs)(W1:World)(i:Nat)(si:Rs)(wr:World):Prop where
 ns:NsW H pb rb fb vb pc F its si wr
 fr:Fr H (PI L) W1 wr
 rest:IsT wr (aL i L)
 wand:∀ w2,Fr H (PI (aL i L)) wr w2->IsT w2 (hY F its (aL i L) i si)->IsT w2 (hY F its L 0 S1)
 run:aAC F its (aL i L) i si=aAC F its L 0 S1
variable {L:Tr} {S1 si:Rs} {W1 wr w3:World} {i:Nat}
theorem PI.pos{L:Tr}(t:TypeId)(p:Int)(h:PI L t p):cU t:=h.1
theorem LpI.start(h:NsW H pb rb fb vb pc F its S1 W1)(hi:IsT W1 L):LpI H pb rb fb vb pc F its L S1 W1 0 S1 W1:=⟨h,Fr.refl _ _ _,hi,fun _ _ h=>h,rfl⟩
theorem LpI.step(h:LpI H pb rb fb vb pc F its L S1 W1 i si wr)(hw:Ws 18 L)(h6:(ps L).Nodup){b o:Nat}{a:Nd}{e r:Tr}(hd:aL i L= .node b o a e r)(h0:aL (i+1) L=r)(h3:NsW H pb rb fb vb pc F its (itR F its e i si) w3)(i3:IsT w3 (itT F its e i si))(x3:Fr H (PI e) wr w3):LpI H pb rb fb vb pc F its L S1 W1 (i+1) (itR F its e i si) w3:=by
 have h1:=eX Ot i _ hw;have uq:=lT i _ h6;have h2:=rU i L;obtain⟨_,h7,rest,wand,run⟩:=h;rw[hd]at h1 uq h2 rest wand run;obtain⟨h8,h5,h4⟩:=aY Ot h1;have uq:=dZ uq;obtain⟨k1,k2,_,_⟩:=uS (F:=F) (its:=its) i si h5;refine⟨h3,h7.trans (x3.mono fun t p hp=>⟨hp.1,h2 p (fT hp.2)⟩),?_,fun w2 hx hi=>?_,?_⟩
 ·rw[h0];exact IsT.fr x3 PI.pos h4 rest.2.1 (fun p hp ty hq=>uq.apart p hq.2 hp)
 ·rw[h0]at hx hi;refine wand w2 ((x3.mono fun t p hp=>⟨hp.1,fT hp.2⟩).trans (hx.mono fun t p hp=>⟨hp.1,jE hp.2⟩)) ⟨?_,hi,by unfold Own;rw[h8];trivial⟩;exact IsT.fr hx PI.pos k1 i3 (fun p hp ty hq=>by rw[k2]at hp;exact uq.apart p hp hq.2)
 ·rw[h0];exact run
theorem LpI.fin(h:LpI H pb rb fb vb pc F its L S1 W1 (aO L) si wr):si=aAC F its L 0 S1/\IsT wr (hY F its L 0 S1):=by
 obtain⟨_,_,_,wand,run⟩:=h;rw[eS]at wand run;exact⟨run,wand wr (Fr.refl _ _ _) trivial⟩
theorem aSW:∀ (L:Tr) (i:Nat) (F:cM),(∀ x k,look x F=some k->0<=k/\k < (i:Int))->∀ x k,look x (gaF L i F)=some k->0<=k/\k < ((i+aO L:Nat):Int):=by
 intro L
 induction L with
 |nil=>intro i F h x k hk;have:=h x k hk;simp[aO];exact this
 |node b o a e r _ ih=>
  intro i F h x k hk;have h2:=ih (i+1) (if(look (eI e) F).isSome then F else put (eI e) i F) (fun x k hk=>?_) x k hk
  ·simp only[aO];omega
  ·split at hk
   ·have:=h x k hk;omega
   ·by_cases hx:x=eI e
    ·subst hx;rw[lU]at hk;simp only[Option.some.injEq]at hk;omega
    ·rw[kX hx]at hk;have:=h x k hk;omega
theorem kY{L:Tr}(h:Ws 18 L):Ws 18 (gaT L 0 0):=(bCV L 0 0 h).ws h
theorem aMY{t:Tr}(h:Ws 18 t):aID (toL t):=by
 intro b o a l r hm ht;obtain⟨i,hi⟩:=aH7 _ _ hm;obtain⟨b1,o1,a1,r1,hd⟩:=aBO t i _ hi;have h1:=eX Ot i _ h;rw[hd]at h1;obtain⟨_,h2,_⟩:=aY Ot h1;obtain⟨h0,_⟩:=oO h2 ht;exact⟨h0,Oi (fB Ou h0)⟩
end
section
open Go.RowKit Go.Lib Go.Deep Go.ChangeMaps Go.MapKept
variable {H pb:Nat}
theorem aTY{rb fb vb:Nat}{it:Value}{w0 wr:World}{t:Tr}{nA nF:Nat}{vA vF:Value}{xA xF:List Value}(hw:Ws 8 t)(k2:bCH t=it)(k3:IsT w0 t)(h:GaW H pb rb fb vb it w0 (bCF t) (aO (bCF t)) nA nF (dB t) vA vF xA xF wr):
 NsW H pb rb fb vb (qM it vA vF 0 (.slice none 0 0)) (dB t) (fC t) rs0 wr/\IsT wr (gaT (bCF t) 0 0):=by
 have hL:=hw.elems Ot;obtain⟨hT,_,_⟩:=h.fin;have k0:=bCV (bCF t) 0 0 hL;have h0:(fC t).length=aO (bCF t):=by unfold fC;rw[aH8,k0.lenL]
 refine⟨⟨⟨h.blk,h.prog,h.first,h.vars,h.ge.1,h.ge.2.2.2,h.ne⟩,⟨fun hp=>?_,fun e he=>?_,?_⟩,?_⟩,hT⟩
 ·rcases hw.lst (.inr (.inr (.inr Oy)))with rfl|⟨b0,o0,a0,l0,rfl,ht,hl0⟩
  ·rw[h0]at hp;exact absurd hp (Nat.lt_irrefl 0)
  ·have h8:bCH (.node b0 o0 a0 l0 .nil)= .slice (some ⟨b0,0,none⟩) (aO l0) o0:=if_pos ht;have ho:=k3.2.2;have h7:=(aI ho (n:=20) ht).1;have k1:po a0=[]:=by unfold po;rw[ht];rfl
   have o2:=dH.fw h.fr PA.pos ho (fun p hp=>by rw[k1]at hp;cases hp) (fun e=>⟨hw.list e h7,fun p _ hq=>absurd hq (PA.noName p)⟩);obtain⟨_,cs,hc,hr⟩:=aI o2 (n:=20) ht
   have h9:bL l0=151:=by
    cases l0 with
    |nil=>exact absurd rfl h7
    |node b2 o2 a2 e r=>
     obtain⟨_,h4,_⟩:=aY Ot hl0;obtain⟨b3,o3,a3,x,y,rfl,hk⟩:=iB h4;show(if a3.tag=19 then _ else if a3.tag=7 then _ else if a3.tag < 7 then _ else if a3.tag < 15 then _ else _)=_;rw[Oh,Oh,Oh,Oh]
   rw[h9]at hc;refine⟨b0,o0,cs,?_,hc,fun i e he=>?_⟩
   ·show some it=_;rw[<-k2,h8,h0];rfl
   ·obtain⟨b1,o1,a1,r1,hd⟩:=aBO (gaT l0 0 0) i e he;have h6:=pZ i 0 _ ((bCV l0 0 0 hl0).rowOk hr);rw[hd,Nat.zero_add]at h6;have h5:=eX Ot i _ (kY hl0);rw[hd]at h5;obtain⟨_,h4,_⟩:=aY Ot h5;obtain⟨b3,o3,a3,x,y,rfl,hk⟩:=iB h4;have h1:(if a3.tag=19 then Nam cs (i*3) a3 else if a3.tag=7 then _ else cs[i]?=some (bCH (.node b3 o3 a3 x y))):=h6.1;rw[Oh,Oh]at h1;exact h1
 ·obtain⟨i,hi⟩:=aH7 _ _ he;obtain⟨b1,o1,a1,r1,hd⟩:=aBO _ i e hi;have h2:=nQ i _ hT;have h5:=eX Ot i _ (kY hL);rw[hd]at h5 h2;obtain⟨_,h4,_⟩:=aY Ot h5;obtain⟨b3,o3,a3,x,y,rfl,hk⟩:=iB h4;refine⟨b3,o3,a3,x,y,rfl,?_⟩;rcases hk with hk|hk
  ·obtain⟨cs,hc,hn,_⟩:=aI h2.1.2.2 (n:=16) hk;exact .inl ⟨hk,cs,hc,hn⟩
  ·obtain⟨cs,hc,hn,h3,_⟩:=aI h2.1.2.2 (n:=17) hk;exact .inr ⟨hk,cs,hc,hn,h3⟩
 ·rw[h0];have:=fB Ot hw;rw[aT]at this;omega
 ·intro x i hx;have:=aSW (bCF t) 0 [] (fun x k h=>by cases h) x i hx;rw[h0];simpa using this
def aIB(H pb:Nat)(t:Tr)(n:Int)(w:World):Ending->World->Prop:=fun e w'=>e= .returned (.agg #[.int .i64 (fO t n).code,.int .i64 (fO t n).pos])/\w.heap.size<=w'.heap.size/\w'.os=w.os/\w'.tape=w.tape/\w'.output=w.output/\(∀ k,k < H->w'.heap[k]?=w.heap[k]?)/\
 ((fO t n).code=0->∃ nA nF vA vF,w'.heap[pb]?=some (.cells (qM (bCH t) vA vF (qV t) (.slice none 0 0)) 111 (0,0))/\w'.ownsRow H 192 1 vA nA (nH 16 (bCF t))/\w'.ownsRow H 106 1 vF nF (nH 17 (bCF t))/\IsT w' (dY t))
theorem At.off{w w':World}{b k:Nat}{t ty:TypeId}{Q:Array Value->Prop}{c:Array Value}(h:At w b t Q)(hk:w.heap[k]?=some (.cells c ty (0,0)))(h0:t≠ty)(hw:∀ i,i < w.heap.size->i≠k->w'.heap[i]?=w.heap[i]?):At w' b t Q:=by
 obtain⟨cs,hc,hq⟩:=h;exact⟨cs,(hw b (Oo hc) (bEF hc hk h0)).trans hc,hq⟩
def aFY(ty:TypeId):Prop:=ty=37\/ty=111
theorem aFT(l:Tr){ty:TypeId}(h:aFY ty):bL l≠ty:=by
 rcases h with rfl|rfl<;>(unfold bL;repeat' split)<;>decide
theorem dH.off{w w':World}{n b k:Nat}{a:Nd}{l r:Tr}{ty:TypeId}{c:Array Value}(h0:aFY ty)(hk:w.heap[k]?=some (.cells c ty (0,0)))(hw:∀ i,i < w.heap.size->i≠k->w'.heap[i]?=w.heap[i]?)(h:dH n w b a l r):dH n w' b a l r:=by
 have ne:∀ t:TypeId,(t≠37/\t≠111)->t≠ty:=fun t h2=>by rcases h0 with rfl|rfl;exact h2.1;exact h2.2
 match n,h with
 |0,h|1,h|2,h|3,h|4,h|5,h|6,h|7,h|8,h|9,h|10,h|11,h|12,h|13,h|14,h|16,h|17,h=>exact At.off h hk (ne _ Ob) hw
 |20,h=>exact⟨h.1,h.2.off hk (aFT _ h0) hw⟩
 |15,_|18,_|19,_=>trivial
 |n+21,_=>trivial
theorem IsT.off{w w':World}{k:Nat}{ty:TypeId}{c:Array Value}(h0:aFY ty)(hk:w.heap[k]?=some (.cells c ty (0,0)))(hw:∀ i,i < w.heap.size->i≠k->w'.heap[i]?=w.heap[i]?):∀ {t:Tr},IsT w t->IsT w' t:=by
 intro t
 induction t with
 |nil=>intro _;trivial
 |node b o a l r ihl ihr=>intro h;exact⟨ihl h.1,ihr h.2.1,dH.off h0 hk hw h.2.2⟩
theorem kJ{P:TypeId->Int->Prop}{w w':World}{base n sz:Nat}{e:TypeId}{v:Value}{xs:List Value}(h:w.ownsRow base e sz v n xs)(hx:Fr H P w w')(he:e=192\/e=106)(hP:∀ t p,P t p->cU t):w'.ownsRow base e sz v n xs:=by
 refine cD h (fun k hk=>?_);obtain⟨⟨cs,hc⟩,_⟩:=bEH h hk;rw[hc];exact hx.same hc (by rcases he with rfl|rfl<;>simp[cK]) (fun p _ hp=>absurd (hP _ _ hp) (by rcases he with rfl|rfl<;>(unfold cU;decide)))
theorem dX{s:Rs}{c p:Int}(hc:c≠0):(s.fail c p).code≠0:=by
 unfold Rs.fail
 by_cases h:s.code=0
 ·rw[if_pos h];exact hc
 ·rw[if_neg h];exact h
theorem aSN{t:Tr}(hw:Ws 8 t)(h0:(ps t).Nodup):(ps (gaT (bCF t) 0 0)).Nodup:=by
 rw[(bCV _ 0 0 (hw.elems Ot)).ps,<-jU Ot hw];exact h0
theorem aNJ:∀ (L:Tr) (nA nF:Nat),eE (gaT L nA nF)=eE L:=by
 intro L
 induction L with
 |nil=>intro _ _;rfl
 |node b o a e r _ ih=>
  intro nA nF;have he:∀ n:Int,eE (iX e n)=eE e:=fun n=>by cases e<;>rfl
  unfold gaT
  split
  ·rw[eD,eD,he,ih]
  ·rw[eD,eD,he,ih]
theorem aB5:∀ (L:Tr) (nA nF:Nat),aUI H L->aUI H (gaT L nA nF):=by
 intro L
 induction L with
 |nil=>intro _ _ _;trivial
 |node b o a e r _ ih=>
  intro nA nF h
  have he:∀ n:Int,aUI H (iX e n):=fun n=>by
   cases e with
   |nil=>trivial
   |node b2 o2 a2 l2 r2=>exact h.1
  unfold gaT
  split
  ·exact⟨he _,ih _ _ h.2.1,h.2.2⟩
  ·exact⟨he _,ih _ _ h.2.1,h.2.2⟩
theorem aK3:∀ (i:Nat) (L:Tr),eE (aL i L)<=eE L:=by
 intro i
 induction i with
 |zero=>intro L;exact Qc _
 |succ n ih=>
  intro L;cases L with
  |nil=>exact Qc _
  |node b o a e r=>have:=ih r;rw[eD];show eE (aL n r)<=_;omega
theorem aMR{F:cM}{its:List Tr}{w w':World}{t:Tr}{s:Rs}(hw:Ws 8 t)(hi:IsT w t)(hb:∀ (k:Nat) (cs:Array Value),w.heap[k]?=some (.cells cs 151 (0,0))->w'.heap[k]?=some (.cells cs 151 (0,0)))(hT:IsT w' (hY F its (gaT (bCF t) 0 0) 0 s)):IsT w' (iS t (hY F its (gaT (bCF t) 0 0) 0 s)):=by
 rcases hw.lst (.inr (.inr (.inr Oy)))with rfl|⟨b0,o0,a0,l0,rfl,ht,hl0⟩
 ·trivial
 ·obtain⟨h2,cs,hc,hr⟩:=aI hi.2.2 (n:=20) ht
  have h1:bL l0=151:=by
   cases l0 with
   |nil=>exact absurd rfl h2
   |node b2 o2 a2 e r=>
    obtain⟨_,h3,_⟩:=aY Ot hl0;obtain⟨b3,o3,a3,x,y,rfl,hk⟩:=iB h3;show(if a3.tag=19 then _ else if a3.tag=7 then _ else if a3.tag < 7 then _ else if a3.tag < 15 then _ else _)=_;rw[Oh,Oh,Oh,Oh]
  have h0:=bCV l0 0 0 hl0;obtain⟨_,_,_,j4,j5⟩:=qF (F:=F) (its:=its) (gaT l0 0 0) 0 s (kY hl0);refine⟨hT,trivial,?_⟩;unfold Own;rw[ht];refine⟨fun e=>h2 (h0.nil_iff.1 (j5.1 e)),cs,?_,aNP _ _ _ _ (kY hl0) (h0.rowOk hr)⟩;show w'.heap[b0]?=some (.cells cs (bL (hY F its (gaT l0 0 0) 0 s)) (0,0));rw[j4,h0.rowTyp,h1];rw[h1]at hc;exact hb _ _ hc
theorem aQ4{w W3:World}{t:Tr}{n c p:Int}{m:Int}{nA nF:Nat}{vA vF:Value}(hH:H<=w.heap.size)(_hpH:H<=pb)(hx:Fw H (fun ty k=>cU ty/\k∈ps t) w W3)(ho:W3.heap[w.heap.size]?=some (.cells #[.int .i64 0,.int .i64 0] 37 (0,0)))(hp:W3.heap[pb]?=some (.cells (qM (bCH t) vA vF m (.slice none 0 0)) 111 (0,0)))(hS:c=(fO t n).code/\p=(fO t n).pos)(hA:W3.ownsRow H 192 1 vA nA (nH 16 (bCF t)))(hF:W3.ownsRow H 106 1 vF nF (nH 17 (bCF t)))(hT:IsT W3 (dY t))(hm:(fO t n).code=0->m=qV t):
 aIB H pb t n w (.returned (.agg #[.int .i64 c,.int .i64 p])) ((W3.setCell ⟨w.heap.size,0,none⟩ (.int .i64 c)).setCell ⟨w.heap.size,1,none⟩ (.int .i64 p)):=by
 have h1:=bEF hp ho Ob;have e1:∀ k,k≠w.heap.size->((W3.setCell ⟨w.heap.size,0,none⟩ (.int .i64 c)).setCell ⟨w.heap.size,1,none⟩ (.int .i64 p)).heap[k]?=W3.heap[k]?:=fun k hk=>(Om hk).trans (Om hk);refine⟨by rw[hS.1,hS.2],?_,hx.os,hx.tape,hx.output,fun k hk=>(e1 k Oa).trans (hx.below k hk),fun hc=>⟨nA,nF,vA,vF,?_,?_,?_,?_⟩⟩
 ·have:=hx.size;simp[World.setCell];omega
 ·rw[e1 pb h1,hp,hm hc]
 ·exact cD hA (fun k hk=>e1 k (by obtain⟨⟨cs,h0⟩,_⟩:=bEH hA hk;exact bEF h0 ho Ob))
 ·exact cD hF (fun k hk=>e1 k (by obtain⟨⟨cs,h0⟩,_⟩:=bEH hF hk;exact bEF h0 ho Ob))
 ·exact IsT.off Ox ho (fun i _ hi=>e1 i hi) hT
theorem aFA{t:Tr}(hw:Ws 8 t)(hF:aUI H t)(j3:(ps t).Nodup)(k5:eE t<=900000)(j2:H<=pb)(n:Int)(w:World)(hH:H<=w.heap.size)(hi:IsT w t)(hp:w.heap[pb]?=some (.cells (qM (bCH t) (.slice none 0 0) (.slice none 0 0) 0 (.slice none 0 0)) 111 (0,0))):
 Calls Tryz.prog 43 #[.pointer (some ⟨pb,0,none⟩),.int .i64 n] w (aIB H pb t n w):=by
 have d4:=(Oo hp);obtain⟨ao,cp,j1⟩:=hw.lstval Ot;have j5:=fB Ot hw;have hL:=hw.elems Ot;have hmk:∀ w:World,(Instr.makeMap 147 none).run Tryz.prog w= .ok (.map (some w.heap.size)) (w.alloc (.map #[] 0)):=fun w=>run_makeMap _ w;have z1:(w.alloc (.cells #[.int .i64 0,.int .i64 0] 37)).heap.size=w.heap.size+1:=Od
 have z2:((w.alloc (.cells #[.int .i64 0,.int .i64 0] 37)).alloc (.map #[] 0)).heap.size=w.heap.size+1+1:=Od
 have z3:(((w.alloc (.cells #[.int .i64 0,.int .i64 0] 37)).alloc (.map #[] 0)).alloc (.map #[] 0)).heap.size=w.heap.size+1+1+1:=Od
 have fr0:Fr H F0 w (((((w.alloc (.cells #[.int .i64 0,.int .i64 0] 37)).alloc (.map #[] 0)).alloc (.map #[] 0))).alloc (.cells #[.pointer (some ⟨pb,0,none⟩),.map (some (w.heap.size+1)),.map (some (w.heap.size+1+1)),.int .i64 0,.int .i64 0] 149)):=
  ((((Fr.refl H F0 w).alloc _ hH).alloc _ (by rw[z1];omega)).alloc _ (by rw[z2];omega)).alloc _ (by rw[z3];omega)
 have k1:∀ k,k < w.heap.size->((((w.alloc (.cells #[.int .i64 0,.int .i64 0] 37)).alloc (.map #[] 0)).alloc (.map #[] 0)).alloc (.cells #[.pointer (some ⟨pb,0,none⟩),.map (some (w.heap.size+1)),.map (some (w.heap.size+1+1)),.int .i64 0,.int .i64 0] 149)).heap[k]?=w.heap[k]?:=fun k hk=>
  (On (by rw[z3];omega)).trans ((On (by rw[z2];omega)).trans ((On (by rw[z1];omega)).trans (On hk)))
 have o0:((((w.alloc (.cells #[.int .i64 0,.int .i64 0] 37)).alloc (.map #[] 0)).alloc (.map #[] 0)).alloc (.cells #[.pointer (some ⟨pb,0,none⟩),.map (some (w.heap.size+1)),.map (some (w.heap.size+1+1)),.int .i64 0,.int .i64 0] 149)).heap[w.heap.size]?=some (.cells #[.int .i64 0,.int .i64 0] 37 (0,0)):=
  (On (by rw[z3];omega)).trans ((On (by rw[z2];omega)).trans ((On (by rw[z1];omega)).trans (Qb w _)))
 have m1:Mp ((((w.alloc (.cells #[.int .i64 0,.int .i64 0] 37)).alloc (.map #[] 0)).alloc (.map #[] 0)).alloc (.cells #[.pointer (some ⟨pb,0,none⟩),.map (some (w.heap.size+1)),.map (some (w.heap.size+1+1)),.int .i64 0,.int .i64 0] 149)) (w.heap.size+1) 0 []:=by
  have h1:=Mp.made (w.alloc (.cells #[.int .i64 0,.int .i64 0] 37));rw[z1]at h1;exact h1.same ((On (by rw[z3];omega)).trans (On (by rw[z2];omega)))
 have m2:Mp ((((w.alloc (.cells #[.int .i64 0,.int .i64 0] 37)).alloc (.map #[] 0)).alloc (.map #[] 0)).alloc (.cells #[.pointer (some ⟨pb,0,none⟩),.map (some (w.heap.size+1)),.map (some (w.heap.size+1+1)),.int .i64 0,.int .i64 0] 149)) (w.heap.size+1+1) 0 []:=by
  have h1:=Mp.made ((w.alloc (.cells #[.int .i64 0,.int .i64 0] 37)).alloc (.map #[] 0));rw[z2]at h1;exact h1.same (On (by rw[z3];omega))
 have r0:((((w.alloc (.cells #[.int .i64 0,.int .i64 0] 37)).alloc (.map #[] 0)).alloc (.map #[] 0)).alloc (.cells #[.pointer (some ⟨pb,0,none⟩),.map (some (w.heap.size+1)),.map (some (w.heap.size+1+1)),.int .i64 0,.int .i64 0] 149)).heap[w.heap.size+1+1+1]?=some (.cells (bD0 pb (w.heap.size+1) (w.heap.size+1+1) ⟨[],0,0⟩) 149 (0,0)):=by
  rw[<-z3];exact Qb _ _
 go_enter Tryz.func43,Tryz.ntmps43
 go_wp2_with fail
 generalize ((((w.alloc (.cells #[.int .i64 0,.int .i64 0] 37)).alloc (.map #[] 0)).alloc (.map #[] 0)).alloc (.cells #[.pointer (some ⟨pb,0,none⟩),.map (some (w.heap.size+1)),.map (some (w.heap.size+1+1)),.int .i64 0,.int .i64 0] 149))=W0 at*;have i0:=IsT.fr fr0 (fun t p hp=>absurd hp id) hw hi (fun _ _ _ h=>h)
 have G0:GaW H pb (w.heap.size+1+1+1) (w.heap.size+1) (w.heap.size+1+1) (bCH t) W0 (bCF t) 0 0 0 [] (.slice none 0 0) (.slice none 0 0) [] [] W0:=
  ⟨r0,(k1 pb d4).trans hp,m1,m2,Oa,⟨Oa,j2,Oa,Oa⟩,Fw.refl _ _ _,by cases t with
    |nil=>trivial
    |node=>exact i0.1,fun _ _ h=>h,World.ownsRow_nil _ _ _ _,World.ownsRow_nil _ _ _ _,rfl,rfl,rfl⟩
 refine(aGC hw hF j3 W0 i0 G0).mono ?_;rintro e W1 ⟨rfl,nA,nF,vA,vF,G1⟩;obtain⟨N1,iT1⟩:=aTY hw rfl i0 G1;have o1:=G1.fr.same o0 (by simp[aK]) (fun p _ hp=>absurd (PA.pos _ _ hp) (by unfold cU;decide));have ownA:=G1.ownA;have ownF:=G1.ownF;have m7:=bCV (bCF t) 0 0 hL;have d6:aD t=aO (gaT (bCF t) 0 0):=by rw[m7.lenL];exact aT t
 have j0:=kY hL;have y5:=aSN hw j3;have z4:Hid _:=j0;have y1:Hid _:=y5;have z5:Hid _:=aMY j0;have HFR:Hid (aUI H (gaT (bCF t) 0 0)):=aB5 _ _ _ (jI hF);have HLE:Hid (eE (gaT (bCF t) 0 0)<=900000):=by rw[Hid,aNJ,tM Ot hw];exact k5
 have g2:Hid _:=d6;have y6:(fC t).length=aO (gaT (bCF t) 0 0):=aH8 _;have g6:Hid _:=y6;have L0:=LpI.start N1 iT1;have q0:W1.cell? ⟨pb,0,none⟩=some (bCH t):=Og N1.rs.prog rfl
 have y2:=j1;rw[j1]at q0;have x01:Fw H (fun ty p=>cU ty/\p∈ps (bCF t)) w W1:=(fr0.weak.mono fun _ _ h=>absurd h id).trans (G1.fr.mono fun t p h=>⟨PA.pos t p h,h.2⟩);have y9:Hid _:=x01;have HO1:Hid _:=o1;have HOA:Hid _:=ownA;have HOF:Hid _:=ownF;have HT0:Hid _:=i0;have z7:Hid _:=G1.fr;clear fr0 k1 o0 m1 m2 r0 G0 G1 N1 iT1 j0 y5 d6 y6 x01 o1 ownA ownF i0 z1 z2 z3 m7 hi hp d4 hF j3 k5 hmk;go_wp2_with fail
 go_loopg [20] (aD t) (fun m v wr=>∃ (i:Nat) (si:Rs),v= .int .i64 i/\i<=aD t/\aD t<=i+m/\LpI H pb (w.heap.size+1+1+1) (w.heap.size+1) (w.heap.size+1+1) (qM (bCH t) vA vF 0 (.slice none 0 0)) (dB t) (fC t) (gaT (bCF t) 0 0) rs0 W1 i si wr)
 case atStart=>exact⟨0,rs0,rfl,Qe _,Oa,L0⟩
 case round=>
  clear L0 q0;obtain⟨i,si,rfl,hle,hm,LP⟩:=hrel;have g5:Hid _:=LP
  by_cases hlt:i < aD t
  ·have j4:(i:Int) < (aD t:Int):=Oa
   obtain⟨b2,o2,a2,e2,r2,hd,m0⟩:=dK i (gaT (bCF t) 0 0) (by rw[<-g2.out];exact hlt);have z9:=eX Ot i _ z4.out;have k9:=lT i _ y1.out;have j6:=lO i _ HFR.out;have d7:=aK3 i (gaT (bCF t) 0 0);rw[hd]at z9 k9 j6 d7;obtain⟨_,z8,_⟩:=aY Ot z9;obtain⟨b3,o3,a3,x,y,rfl,h4⟩:=iB z8;have h8:=LP.rest;rw[hd]at h8;obtain⟨g,cp2,rw',j8,m6,m4⟩:=LP.ns.it.row (by rw[g6.out,<-g2.out];omega)
   have g0:bCH t= .slice (some ⟨g,0,none⟩) (fC t).length cp2:=by
    have:(qM (bCH t) vA vF 0 (.slice none 0 0))[0]?=some (bCH t):=rfl;rw[this]at j8;exact Oq j8
   rw[y2]at g0;simp only[Value.slice.injEq]at g0;obtain⟨j9,-,-⟩:=g0;subst j9
   have y7:(fC t)[i]?=some (.node b3 o3 a3 x y):=by
    have:∀ (L:Tr) (i:Nat) {b o:Nat} {a:Nd} {e r:Tr},aL i L= .node b o a e r->(toL L)[i]?=some e:=by
     intro L
     induction L with
     |nil=>intro i b o a e r h;cases i<;>cases h
     |node b1 o1 a1 e1 r1 _ ih=>
      intro i b o a e r h;cases i with
      |zero=>cases h;rfl
      |succ i=>exact ih i h
    exact this _ _ hd
   have y8:wr.cell? ⟨g,i,none⟩=some (bCH (.node b3 o3 a3 x y)):=Og m6 (m4 i _ y7)
   have d8:20000+eE (.node b3 o3 a3 x y)<=1000000:=by
    have:=HLE.out;have h0:eE (.node b2 o2 a2 (.node b3 o3 a3 x y) r2)=(if a2.tag=9 then 1 else 0)+eE (.node b3 o3 a3 x y)+eE r2:=eD _ _ _ _ _;omega
   have k7:=aG5 z5.out z8 j6.1 (dZ k9).left d8 i Oa si wr LP.ns h8.1;have g9:bCH (.node b3 o3 a3 x y)= .iface (bZ a3.tag) (.pointer (some ⟨b3,0,none⟩)):=Oh;rw[g9]at y8 k7;have k8:Hid _:=fun w3=>g5.out.step (w3:=w3) z4.out y1.out hd m0;clear LP hd m0 z9 k9 j6 d7 z8 h8 j8 m6 m4 y7 d8 g9;go_wp2_with fail
   refine k7.mono ?_;rintro e W3 ⟨rfl,h3,i3,x3⟩;obtain⟨m,rfl⟩:=Oj gk
   have fin:∃ (i':Nat) (si:Rs),Value.int .i64 ((i:Int)+1)= .int .i64 i'/\i'<=aD t/\aD t<=i'+m/\LpI H pb (w.heap.size+1+1+1) (w.heap.size+1) (w.heap.size+1+1) (qM (bCH t) vA vF 0 (.slice none 0 0)) (dB t) (fC t) (gaT (bCF t) 0 0) rs0 W1 i' si W3:=
    ⟨i+1,_,Od,Oa,Oa,k8.out W3 h3 i3 x3⟩
   clear k8 g5 h3 i3 x3;go_wp2;go_roundg m
   case rel=>exact fin
   case measure=>omega
  ·have j4: ¬(i:Int) < (aD t:Int):=Oa
   have d9:i=aO (gaT (bCF t) 0 0):=by rw[<-g2.out];omega
   obtain⟨d1,iT⟩:si=aFV t/\IsT wr (hY (dB t) (fC t) (gaT (bCF t) 0 0) 0 rs0):=by
    have:=LP;rw[d9]at this;exact this.fin
   have ns:=LP.ns;have frL:=LP.fr
   have g8:Fw H (fun ty k=>cU ty/\k∈ps t) w wr:=by
    have d3:=jU Ot hw;refine(y9.out.mono fun ty k h=>⟨h.1,by rw[d3];exact h.2⟩).trans (frL.weak.mono fun ty k h=>⟨h.1,?_⟩);have h2:=h.2;rw[(bCV _ 0 0 hL).ps]at h2;rw[d3];exact h2
   have oR:=frL.same HO1.out (by simp[cK,aK]) (fun p _ hp=>absurd (PI.pos _ _ hp) (by unfold cU;decide));have hA:=kJ HOA.out frL Ox PI.pos;have m8:=kJ HOF.out frL Oy PI.pos
   have hT:=aMR hw HT0.out (fun k cs hc=>by
    have c1:=z7.out.same hc (by simp[aK]) (fun p _ hp=>absurd (PA.pos _ _ hp) (by unfold cU;decide));exact frL.same c1 (by simp[cK,aK]) (fun p _ hp=>absurd (PI.pos _ _ hp) (by unfold cU;decide))) iT
   have k4:=ns.rs.prog;have k0:Hid _:=fun W3 c p m hx ho hp2 hS hA hF hT hm=>aQ4 (H:=H) (pb:=pb) (w:=w) (W3:=W3) (t:=t) (n:=n) (c:=c) (p:=p) (m:=m) (nA:=nA) (nF:=nF) (vA:=vA) (vF:=vF) hH j2 hx ho hp2 hS hA hF hT hm;have m9:Hid _:=g8;have z6:Hid _:=oR;have HA:Hid _:=hA;have g7:Hid _:=m8;have HTT:Hid _:=hT;have k3:Hid _:=k4;have t1:=yB wr;have t2:=fun q=>pS q wr;have t3:=fun q=>wU q wr;have g1:Hid (si=aFV t):=d1
   have k6:∀ W3 s3,RsW H pb (w.heap.size+1+1+1) (w.heap.size+1) (w.heap.size+1+1) (qM (bCH t) vA vF 0 (.slice none 0 0)) (dB t) s3 W3->Fr H F0 wr W3->fO t n=s3->s3.code≠0->
    aIB H pb t n w (.returned (.agg #[.int .i64 s3.code,.int .i64 s3.pos])) ((W3.setCell ⟨w.heap.size,0,none⟩ (.int .i64 s3.code)).setCell ⟨w.heap.size,1,none⟩ (.int .i64 s3.pos)):=by
    intro W3 s3 h3 x3 hs hc;refine k0.out W3 _ _ 0 (m9.out.trans (x3.weak.mono fun _ _ h=>absurd h id)) (x3.same z6.out (by simp[cK,aK]) (fun _ _ h=>h)) h3.prog ⟨by rw[hs],by rw[hs]⟩ (kJ HA.out x3 Ox (fun _ _ h=>absurd h id)) (kJ g7.out x3 Oy (fun _ _ h=>absurd h id)) ?_ (fun h0=>absurd (by rw[hs]at h0;exact h0) hc);have hL2:=uB Ot hw (qF (F:=dB t) (its:=fC t) (gaT (bCF t) 0 0) 0 rs0 z4.out).1 ((qF _ _ _ z4.out).2.2.1.trans (bCV _ 0 0 hL).lenL);exact IsT.fr x3 (fun _ _ h=>absurd h id) hL2 HTT.out (fun _ _ _ h=>h)
   have h7:Hid _:=k6;clear k6 g8 oR hA m8 hT k4 frL d9 d1 iT LP g5 z4 y1 z5 HFR HLE hle hm j5 j1 y2 HT0 z7 HOA HOF HO1 y9;rcases tJ ns rF with k2|⟨b5,o5,a5,l5,r5,k2,h4,y0⟩|⟨b5,o5,a5,l5,r5,k2,h4,y0⟩
   ·have h5:fO t n=si.fail 4 n:=by unfold fO eK;rw[k2,g1.out];rfl
    have h9:Hid _:=h5;go_wp2_with fail
    refine(iM (x:=rF) wr ns.rs ns.it ns.fo (by unfold maxLen;decide)).mono ?_;rintro e W2 ⟨rfl,rfl⟩;rw[k2];unfold uC;go_wp2_with fail
    refine(bCJ 4 n wr ns.rs).mono ?_;rintro e W3 ⟨rfl,h3,x3⟩;have h6:=h7.out W3 _ h3 x3 h9.out (dX Ob);have o3:=x3.same z6.out (by simp[cK,aK]) (fun _ _ h=>h);have q0:W3.cell? ⟨w.heap.size,0,none⟩=some (.int .i64 0):=Og o3 rfl
    have q1:W3.cell? ⟨w.heap.size,1,none⟩=some (.int .i64 0):=Og o3 rfl
    have z0:∀ o,W3.frozen? ⟨w.heap.size,o,none⟩=false:=fun o=>by simp[World.frozen?,o3]
    have g3:W3.cell? ⟨w.heap.size+1+1+1,3,none⟩=some (.int .i64 (si.fail 4 n).code):=h3.cell 3;have g4:W3.cell? ⟨w.heap.size+1+1+1,4,none⟩=some (.int .i64 (si.fail 4 n).pos):=h3.cell 4;clear h5 h9 h7 k0;go_wp2;obtain⟨x0,x1⟩:=dQ (w:=W3) (u0:= .int .i64 (si.fail 4 n).code) (u1:= .int .i64 (si.fail 4 n).pos) q0 q1;exact bodyPost_ret (v:= .agg #[.int .i64 (si.fail 4 n).code,.int .i64 (si.fail 4 n).pos]) (by simp[results,Tryz.results43,go_sem,x0,x1]) rfl h6
   ·have h5:fO t n=si.fail 4 n:=by unfold fO eK;rw[k2,g1.out];simp[h4]
    have hv:bCH (.node b5 o5 a5 l5 r5)= .iface 192 (.pointer (some ⟨b5,0,none⟩)):=by show(if a5.tag=20 then _ else _)=_;rw[Oh,h4];rfl
    have h9:Hid _:=h5;clear y0 h4;go_wp2_with fail
    refine(iM (x:=rF) wr ns.rs ns.it ns.fo (by unfold maxLen;decide)).mono ?_;rintro e W2 ⟨rfl,rfl⟩;rw[k2];unfold uC;dsimp only;rw[hv];go_wp2_with fail
    refine(bCJ 4 n wr ns.rs).mono ?_;rintro e W3 ⟨rfl,h3,x3⟩;have h6:=h7.out W3 _ h3 x3 h9.out (dX Ob);have o3:=x3.same z6.out (by simp[cK,aK]) (fun _ _ h=>h);have q0:W3.cell? ⟨w.heap.size,0,none⟩=some (.int .i64 0):=Og o3 rfl
    have q1:W3.cell? ⟨w.heap.size,1,none⟩=some (.int .i64 0):=Og o3 rfl
    have z0:∀ o,W3.frozen? ⟨w.heap.size,o,none⟩=false:=fun o=>by simp[World.frozen?,o3]
    have g3:W3.cell? ⟨w.heap.size+1+1+1,3,none⟩=some (.int .i64 (si.fail 4 n).code):=h3.cell 3;have g4:W3.cell? ⟨w.heap.size+1+1+1,4,none⟩=some (.int .i64 (si.fail 4 n).pos):=h3.cell 4;clear h5 h9 h7 k0;go_wp2;obtain⟨x0,x1⟩:=dQ (w:=W3) (u0:= .int .i64 (si.fail 4 n).code) (u1:= .int .i64 (si.fail 4 n).pos) q0 q1;exact bodyPost_ret (v:= .agg #[.int .i64 (si.fail 4 n).code,.int .i64 (si.fail 4 n).pos]) (by simp[results,Tryz.results43,go_sem,x0,x1]) rfl h6
   ·have h5:fO t n=si:=by unfold fO eK;rw[k2,g1.out];simp[h4]
    have d5:qV t=a5.which:=by unfold qV eK;rw[k2];simp[h4,lH]
    have hv:bCH (.node b5 o5 a5 l5 r5)= .iface 106 (.pointer (some ⟨b5,0,none⟩)):=by show(if a5.tag=20 then _ else _)=_;rw[Oh,h4];rfl
    obtain⟨cs5,m3,⟨_,_,d2⟩,_⟩:=y0;have m5:wr.cell? ⟨b5,2,none⟩=some (.int .i64 a5.which):=Og m3 d2
    have p3:wr.cell? ⟨pb,3,none⟩=some (.int .i64 0):=Og k3.out rfl
    have pz:wr.frozen? ⟨pb,3,none⟩=false:=by simp[World.frozen?,k3.out]
    have y4:pb≠w.heap.size:=bEF k3.out z6.out Ob;have y3:w.heap.size+1+1+1≠pb:=bEF ns.rs.blk k3.out Ob;have o4:(wr.setCell ⟨pb,3,none⟩ (.int .i64 a5.which)).heap[w.heap.size]?=some (.cells #[.int .i64 0,.int .i64 0] 37 (0,0)):=(Om y4.symm).trans z6.out;have b4:(wr.setCell ⟨pb,3,none⟩ (.int .i64 a5.which)).heap[w.heap.size+1+1+1]?=_:=(Om y3).trans ns.rs.blk;have c4:(wr.setCell ⟨pb,3,none⟩ (.int .i64 a5.which)).heap[pb]?=some (.cells (qM (bCH t) vA vF a5.which (.slice none 0 0)) 111 (0,0)):=aM (o:=3) _ k3.out
    have h6:aIB H pb t n w (.returned (.agg #[.int .i64 si.code,.int .i64 si.pos])) (((wr.setCell ⟨pb,3,none⟩ (.int .i64 a5.which)).setCell ⟨w.heap.size,0,none⟩ (.int .i64 si.code)).setCell ⟨w.heap.size,1,none⟩ (.int .i64 si.pos)):=by
     refine k0.out (wr.setCell ⟨pb,3,none⟩ (.int .i64 a5.which)) _ _ a5.which ?_ o4 c4 ⟨by rw[h5],by rw[h5]⟩ ?_ ?_ ?_ (fun _=>d5.symm)
     ·exact m9.out.set j2 (fun cs ty d0 e=>by
       rw[k3.out]at e;simp only[Option.some.injEq,Obj.cells.injEq]at e;rw[<-e.2.1]at d0;exact absurd d0 (by unfold aK;decide)) _ _
     ·exact cD HA.out (fun k hk=>Om (by obtain⟨⟨cs,j7⟩,_⟩:=bEH HA.out hk;exact bEF j7 k3.out Ob))
     ·exact cD g7.out (fun k hk=>Om (by obtain⟨⟨cs,j7⟩,_⟩:=bEH g7.out hk;exact bEF j7 k3.out Ob))
     ·exact IsT.off Oy k3.out (fun i _ hi=>Om hi) HTT.out
    have HE:Hid _:=h6;have HO4:Hid _:=o4;have HB4:Hid _:=b4;clear h5 d5 m3 d2 h4 h6 o4 b4 c4 h7 k0 y4 y3;go_wp2_with fail
    refine(iM (x:=rF) wr ns.rs ns.it ns.fo (by unfold maxLen;decide)).mono ?_;rintro e W2 ⟨rfl,rfl⟩;rw[k2];unfold uC;dsimp only;rw[hv];go_upto_region 13 with fail
    generalize wr.setCell ⟨pb,3,none⟩ (.int .i64 a5.which)=W3 at*;have o3:=HO4.out;have q0:W3.cell? ⟨w.heap.size,0,none⟩=some (.int .i64 0):=Og o3 rfl
    have q1:W3.cell? ⟨w.heap.size,1,none⟩=some (.int .i64 0):=Og o3 rfl
    have z0:∀ o,W3.frozen? ⟨w.heap.size,o,none⟩=false:=fun o=>by simp[World.frozen?,o3]
    have g3:W3.cell? ⟨w.heap.size+1+1+1,3,none⟩=some (.int .i64 si.code):=Og HB4.out rfl
    have g4:W3.cell? ⟨w.heap.size+1+1+1,4,none⟩=some (.int .i64 si.pos):=Og HB4.out rfl
    have h6:=HE.out;clear HE;go_wp2;obtain⟨x0,x1⟩:=dQ (w:=W3) (u0:= .int .i64 si.code) (u1:= .int .i64 si.pos) q0 q1;exact bodyPost_ret (v:= .agg #[.int .i64 si.code,.int .i64 si.pos]) (by simp[results,Tryz.results43,go_sem,x0,x1]) rfl h6
end
section
open Go.RowKit Go.Lib Go.Deep Go.ChangeMaps Go.MapKept
variable {F:cM} {its:List Tr}
def aU2(l:List Tr):List Tr:=l.filter fun e=>bN e==17
def aI9(l:List Tr):List Tr:=l.filter fun e=>bN e==16
theorem jB(e:Tr)(n:Int):bN (iX e n)=bN e:=by cases e<;>rfl
theorem qP{e:Tr}(h:e≠ .nil)(n:Int):lH (iX e n)=n:=by
 cases e with
 |nil=>exact absurd rfl h
 |node=>rfl
theorem uR{e:Tr}(h:Ws 7 e):(bN e=16\/bN e=17)/\e≠ .nil:=by
 obtain⟨b,o,a,l,r,rfl,ht⟩:=iB h;exact⟨ht,by intro h;cases h⟩
theorem aLB:∀ (L:Tr) (nA nF:Nat) (e:Tr),Ws 18 L->e∈toL (gaT L nA nF)->bN e=17->∃ j:Nat,(aU2 (toL (gaT L nA nF)))[j]?=some e/\lH e=((nF+j:Nat):Int):=by
 intro L
 induction L with
 |nil=>intro nA nF e _ h;cases h
 |node b o a e0 r _ ih=>
  intro nA nF e hw h ht;obtain⟨_,h6,h3⟩:=aY Ot hw;obtain⟨htag,h0⟩:=uR h6;unfold gaT at h ⊢
  by_cases h5:bN e0=16
  ·rw[if_pos h5]at h ⊢;have h4:bN (iX e0 nA)≠17:=by rw[jB];omega
   rcases List.mem_cons.1 h with rfl|h
   ·exact absurd ht h4
   ·obtain⟨j,h1,h2⟩:=ih (nA+1) nF e h3 h ht;refine⟨j,?_,h2⟩;show((iX e0 (nA:Int)::toL (gaT r (nA+1) nF)).filter _)[j]?=_;rw[List.filter_cons_of_neg (by simpa using h4)];exact h1
  ·rw[if_neg h5]at h ⊢;have hy:bN (iX e0 nF)=17:=by rw[jB];omega
   rcases List.mem_cons.1 h with rfl|h
   ·refine⟨0,?_,?_⟩
    ·show((iX e0 (nF:Int)::toL (gaT r nA (nF+1))).filter _)[0]?=_;rw[List.filter_cons_of_pos (by simpa using hy)];rfl
    ·rw[qP h0];simp
   ·obtain⟨j,h1,h2⟩:=ih nA (nF+1) e h3 h ht;refine⟨j+1,?_,by rw[h2];congr 1;omega⟩;show((iX e0 (nF:Int)::toL (gaT r nA (nF+1))).filter _)[j+1]?=_;rw[List.filter_cons_of_pos (by simpa using hy)];exact h1
theorem aII:∀ (L:Tr) (nA nF:Nat) (e:Tr),Ws 18 L->e∈toL (gaT L nA nF)->bN e=16->∃ j:Nat,(aI9 (toL (gaT L nA nF)))[j]?=some e/\lH e=((nA+j:Nat):Int):=by
 intro L
 induction L with
 |nil=>intro nA nF e _ h;cases h
 |node b o a e0 r _ ih=>
  intro nA nF e hw h ht;obtain⟨_,h6,h4⟩:=aY Ot hw;obtain⟨htag,h0⟩:=uR h6;unfold gaT at h ⊢
  by_cases h3:bN e0=16
  ·rw[if_pos h3]at h ⊢;have hy:bN (iX e0 nA)=16:=by rw[jB];omega
   rcases List.mem_cons.1 h with rfl|h
   ·refine⟨0,?_,?_⟩
    ·show((iX e0 (nA:Int)::toL (gaT r (nA+1) nF)).filter _)[0]?=_;rw[List.filter_cons_of_pos (by simpa using hy)];rfl
    ·rw[qP h0];simp
   ·obtain⟨j,h1,h2⟩:=ih (nA+1) nF e h4 h ht;refine⟨j+1,?_,by rw[h2];congr 1;omega⟩;show((iX e0 (nA:Int)::toL (gaT r (nA+1) nF)).filter _)[j+1]?=_;rw[List.filter_cons_of_pos (by simpa using hy)];exact h1
  ·rw[if_neg h3]at h ⊢;have h5:bN (iX e0 nF)≠16:=by rw[jB];exact h3
   rcases List.mem_cons.1 h with rfl|h
   ·exact absurd ht h5
   ·obtain⟨j,h1,h2⟩:=ih nA (nF+1) e h4 h ht;refine⟨j,?_,h2⟩;show((iX e0 (nF:Int)::toL (gaT r nA (nF+1))).filter _)[j]?=_;rw[List.filter_cons_of_neg (by simpa using h5)];exact h1
theorem oJ{s:Rs}{x:ByteArray}{p m:Int}(h:(s.newVar x p m).code=0):s.newVar x p m=s/\look x s.vars=none/\s.vars.length < m:=by
 unfold Rs.newVar at h ⊢
 by_cases hm:m<=s.vars.length
 ·rw[if_pos hm]at h;exact absurd h (dX Ob)
 ·rw[if_neg hm]at h ⊢
  by_cases hv:(look x s.vars).isSome
  ·rw[if_pos hv]at h;exact absurd h (dX Ob)
  ·rw[if_neg hv];exact⟨rfl,by simpa using hv,Oa⟩
theorem oH{s:Rs}{x:ByteArray}{p:Int}(h:(s.oldVar x p).code=0):s.oldVar x p=s/\(look x s.vars).isSome:=by
 unfold Rs.oldVar at h ⊢
 by_cases hv:(look x s.vars).isSome
 ·rw[if_pos hv];exact⟨rfl,hv⟩
 ·rw[if_neg hv]at h;exact absurd h (dX Ob)
theorem rI{s:Rs}{x:ByteArray}{p:Int}(h:(s.arrayName F its x p).code=0):s.arrayName F its x p=s/\∃ e,fY F its x=some e:=by
 unfold Rs.arrayName at h ⊢;cases hv:fY F its x with
 |none=>rw[hv]at h;exact absurd h (dX Ob)
 |some e=>exact⟨rfl,e,rfl⟩
theorem sV{s:Rs}{x:ByteArray}{p:Int}{n:Nat}(h:(s.callName F its x p n).code=0):s.callName F its x p n=s/\∃ b o a l r,eK F its x=some (.node b o a l r)/\n=aD l:=by
 unfold Rs.callName at h ⊢;cases hv:eK F its x with
 |none=>rw[hv]at h;exact absurd h (dX Ob)
 |some e=>
  rw[hv]at h;cases e with
  |nil=>exact absurd h (dX Ob)
  |node b o a l r=>
   dsimp only at h ⊢
   by_cases hn:n=aD l
   ·rw[if_pos hn];exact⟨rfl,b,o,a,l,r,rfl,hn⟩
   ·rw[if_neg hn]at h;exact absurd h (dX Ob)
theorem yK{a:Nd}{n:Nat}{s:Rs}(h:(rs1 F its a n s).code=0):rs1 F its a n s=s:=by
 unfold rs1 at h ⊢
 by_cases h9:a.tag=9
 ·rw[if_pos h9]at h ⊢
  by_cases hf:a.flag=true
  ·rw[if_pos hf]at h ⊢;exact(oJ h).1
  ·rw[if_neg hf]at h ⊢;exact(oH h).1
 rw[if_neg h9]at h ⊢
 by_cases h1:a.tag=1
 ·rw[if_pos h1]at h ⊢;exact(oH h).1
 rw[if_neg h1]at h ⊢
 by_cases h2:a.tag=2\/a.tag=10
 ·rw[if_pos h2]at h ⊢;exact(rI h).1
 rw[if_neg h2]at h ⊢
 by_cases h3:a.tag=3
 ·rw[if_pos h3]at h ⊢;exact(sV h).1
 rw[if_neg h3]
theorem jS:∀ (t:Tr) (s:Rs),(rsT F its t s).code=0->s.code=0:=by
 intro t
 induction t with
 |nil=>intro s h;exact h
 |node b o a l r ihl ihr=>
  intro s h
  by_cases h9:a.tag=9/\a.flag=true
  ·have e:rsT F its (.node b o a l r) s=(rsT F its l (rs1 F its a (aD l) s)).addVar a.name:=if_pos h9;rw[e]at h;have h1:=ihl _ h
   rwa [yK h1]at h1
  ·rw[jM h9]at h;have h1:=ihl _ (ihr _ h)
   rwa [yK h1]at h1
structure nZ(s:Rs):Prop where
 lt:∀ x i,look x s.vars=some i->0<=i/\i < s.vars.length
 few:s.vars.length<=12
theorem aE9{s:Rs}{x:ByteArray}(h:nZ s)(hx:look x s.vars=none)(h12:s.vars.length < 12):nZ (s.addVar x)/\(s.addVar x).vars.length=s.vars.length+1:=by
 have hl:(s.addVar x).vars.length=s.vars.length+1:=by
  show(put x s.vars.length s.vars).length=_;rw[nO,hx];rfl
 refine⟨⟨fun y i hy=>?_,Oa⟩,hl⟩;rw[hl]
 by_cases h0:y=x
 ·subst h0;have:look y (put y s.vars.length s.vars)=some i:=hy;rw[lU]at this;simp only[Option.some.injEq]at this;omega
 ·have:look y (put x s.vars.length s.vars)=some i:=hy;rw[kX h0]at this;have:=h.lt y i this;omega
theorem aBT{p n:Nat}(h:24<=p):sig p n=none:=by
 unfold sig
 iterate 15 rw[Oh]
theorem aHE{p n:Nat}(h:21<=n):sig p n=none:=by
 have h1: ¬n<=1:=Oa
 have h2: ¬n<=5:=Oa
 have e:∀ k,k < 21->¬n=k:=fun k hk=>Oa
 simp[sig,h1,h2,e 2 Oa,e 3 Oa,e 6 Oa,e 7 Oa,e 8 Oa,e 9 Oa,e 10 Oa,e 11 Oa,e 12 Oa,e 13 Oa,e 14 Oa,e 15 Oa,e 16 Oa,e 17 Oa,e 18 Oa,e 19 Oa,e 20 Oa]
theorem aFQ:∀ p < 24,sig p 9=none\/sig p 9=some (0,99):=Ob
theorem aTR{p x y:Nat}(h:sig p 9=some (x,y)):x=0/\y=99:=by
 by_cases hp:p < 24
 ·rcases aFQ p hp with e|e
  ·rw[e]at h;cases h
  ·rw[e]at h;cases h;exact⟨rfl,rfl⟩
 ·rw[aBT Oa]at h;cases h
def aE0(s:Nat):Bool:=s==0||s==1||s==3||s==13||s==21||s==20||s==15||s==5||s==99
def aNO(o:Option (Nat × Nat)):Bool:=match o with
 |none=>true
 |some (x,y)=>aE0 x&&aE0 y
theorem aDZ:∀ s < 24,∀ n < 21,aE0 s=true->aNO (sig s n)=true/\(n=9->sig s n=none):=Ob
theorem vZ(s:Nat):aE0 s=true↔(s=0\/s=1\/s=3\/s=13\/s=21\/s=20\/s=15\/s=5\/s=99):=by simp[aE0,or_assoc]
theorem aG0{s n x y:Nat}(h:sig s n=some (x,y))(hs:s=0\/s=1\/s=3\/s=13\/s=21\/s=20\/s=15\/s=5\/s=99):n≠9/\(x=0\/x=1\/x=3\/x=13\/x=21\/x=20\/x=15\/x=5\/x=99)/\(y=0\/y=1\/y=3\/y=13\/y=21\/y=20\/y=15\/y=5\/y=99):=by
 rw[<-vZ]at hs;rw[<-vZ x,<-vZ y]
 by_cases hp:s < 24
 ·by_cases hn:n < 21
  ·obtain⟨h1,h2⟩:=aDZ s hp n hn hs;rw[h]at h1 h2;refine⟨fun e=>(by cases h2 e),?_⟩;simpa[aNO]using h1
  ·rw[aHE Oa]at h;cases h
 ·rw[aBT Oa]at h;cases h
theorem aK2:∀ (t:Tr) (s:Nat),Ws s t->s=0\/s=1\/s=3\/s=13\/s=21\/s=20\/s=15\/s=5\/s=99->eE t=0:=by
 intro t
 induction t with
 |nil=>intro s _ _;rfl
 |node b o a l r ihl ihr=>
  intro s hw hs;obtain⟨_,x,y,h0,hl,hr⟩:=hw.parts;have key:=aG0 h0 hs;rw[eD,if_neg key.1,ihl x hl key.2.1,ihr y hr key.2.2]
theorem aMM:∀ (t:Tr) (s:Rs),eE t=0->(rsT F its t s).vars=s.vars:=by
 intro t
 induction t with
 |nil=>intro s _;rfl
 |node b o a l r ihl ihr=>
  intro s h;rw[eD]at h;have h9: ¬(a.tag=9/\a.flag=true):=fun e=>by rw[if_pos e.1]at h;omega
  rw[jM h9,ihr _ Oa,ihl _ Oa,aDO]
def Vd(par:Nat->Option Nat)(na nv:Nat):Tr->Prop
 | .nil=>True
 | .node _ _ a l r=>Vd par na nv l/\Vd par na nv r/\(a.tag=1\/a.tag=9->0<=a.which/\a.which < nv)/\(a.tag=2\/a.tag=10->0<=a.which/\a.which < na)/\(a.tag=3->0<=a.which/\par a.which.toNat=some (aD l))
theorem Vd.mono{par:Nat->Option Nat}{na nv nv':Nat}(h:nv<=nv'):∀ {t:Tr},Vd par na nv t->Vd par na nv' t:=by
 intro t
 induction t with
 |nil=>intro _;trivial
 |node b o a l r ihl ihr=>intro⟨h1,h2,h3,h4⟩;exact⟨ihl h1,ihr h2,fun e=>Oi (h3 e),h4⟩
theorem Vd.er{par:Nat->Option Nat}{na nv:Nat}:∀ {t:Tr},Vd par na nv (YtikffmloeifkpaaGreatDoor.er t)↔Vd par na nv t:=by
 intro t
 induction t with
 |nil=>exact Iff.rfl
 |node b o a l r ihl ihr=>
  show(Vd par na nv (YtikffmloeifkpaaGreatDoor.er l)/\Vd par na nv (YtikffmloeifkpaaGreatDoor.er r)/\_/\_/\_)↔_;rw[ihl,ihr,qC];exact Iff.rfl
structure aFB(F:cM)(its:List Tr)(par:Nat->Option Nat)(na:Nat):Prop where
 arr:∀ x e,fY F its x=some e->0<=lH e/\lH e < na
 fn:∀ x b o a l r,eK F its x=some (.node b o a l r)->0<=a.which/\par a.which.toNat=some (aD l)
theorem aFG{par:Nat->Option Nat}{na:Nat}(hI:aFB F its par na):∀ (t:Tr) (p:Nat) (s:Rs),Ws p t->(rsT F its t s).code=0->nZ s->nZ (rsT F its t s)/\s.vars.length<=(rsT F its t s).vars.length/\Vd par na (rsT F its t s).vars.length (reT F its t s):=by
 intro t
 induction t with
 |nil=>intro p s _ _ h;exact⟨h,Qc _,trivial⟩
 |node b o a l r ihl ihr=>
  intro p s hw hc hv;obtain⟨_,x,y,h8,h7,k1⟩:=hw.parts
  by_cases h9:a.tag=9/\a.flag=true
  ·have e:rsT F its (.node b o a l r) s=(rsT F its l (rs1 F its a (aD l) s)).addVar a.name:=if_pos h9;have e2:reT F its (.node b o a l r) s= .node b o {a with which:=(rsT F its l (rs1 F its a (aD l) s)).vars.length} (reT F its l (rs1 F its a (aD l) s)) r:=if_pos h9;rw[e]at hc;rw[e,e2];have h3:(rsT F its l (rs1 F its a (aD l) s)).code=0:=hc;have h6:=jS _ _ h3;have k2:rs1 F its a (aD l) s=s.newVar a.name a.npos 12:=by unfold rs1;rw[if_pos h9.1,if_pos h9.2]
   obtain⟨n1,n2,n3⟩:=oJ (by rw[<-k2];exact h6);rw[k2,n1]at h3 ⊢;have k3:x=0/\y=99:=aTR (by rw[<-h9.1];exact h8);obtain⟨rfl,rfl⟩:=k3;obtain rfl:=k1.nil_of;obtain⟨v1,v2,v3⟩:=ihl 0 s h7 h3 hv;have h2:=aMM (F:=F) (its:=its) l s (aK2 l 0 h7 Od);have k4:(rsT F its l s).vars.length=s.vars.length:=by rw[h2]
   obtain⟨w1,w2⟩:=aE9 v1 (by rw[h2];exact n2) (by rw[k4];omega);refine⟨w1,Oa,v3.mono Oa,trivial,fun _=>?_,fun e=>by have:=h9.1;dsimp only at e;omega,fun e=>by have:=h9.1;dsimp only at e;omega⟩;dsimp only;omega
  ·rw[jM h9]at hc ⊢;rw[mL h9];have h3:=jS _ _ hc;have h6:=jS _ _ h3;have hs:=yK h6;have h0:=h6;rw[hs]at hc h3 ⊢;obtain⟨v1,v2,v3⟩:=ihl x s h7 h3 hv;obtain⟨w1,w2,w3⟩:=ihr y _ k1 hc v1;refine⟨w1,Oa,v3.mono w2,w3,fun ht=>?_,fun ht=>?_,fun ht=>?_⟩
   ·dsimp only at ht ⊢;have h4:wh1 F its a (aD l) s=(look a.name s.vars).getD 0:=by unfold wh1;rw[if_pos ht]
    have h5:(look a.name s.vars).isSome:=by
     unfold rs1 at h0;rcases ht with ht|ht
     ·rw[Oh,if_pos ht]at h0;exact(oH h0).2
     ·have hf: ¬a.flag=true:=fun h=>h9 ⟨ht,h⟩;rw[if_pos ht,if_neg hf]at h0;exact(oH h0).2
    obtain⟨i,hi⟩:=Option.isSome_iff_exists.1 h5;have:=hv.lt _ _ hi;rw[h4,hi];show 0<=i/\i < _;omega
   ·dsimp only at ht ⊢;have h4:wh1 F its a (aD l) s=fL F its a.name a.which:=by unfold wh1;rw[Oh,if_pos ht]
    unfold rs1 at h0;rw[Oh,Oh,if_pos ht]at h0;obtain⟨_,e,he⟩:=rI h0;rw[h4];unfold fL;rw[he];exact hI.arr _ _ he
   ·dsimp only at ht ⊢;have h4:wh1 F its a (aD l) s=iY F its a.name (aD l) a.which:=by unfold wh1;rw[Oh,Oh,if_pos ht]
    unfold rs1 at h0;rw[Oh,Oh,Oh,if_pos ht]at h0;obtain⟨_,b5,o5,a5,l5,r5,he,hn⟩:=sV h0;have h1:=hI.fn _ _ _ _ _ _ he
    have e1:iY F its a.name (aD l) a.which=a5.which:=by
     unfold iY;rw[he];exact if_pos hn
    have k0:aD (reT F its l s)=aD l:=by
     have:=dJ F its l s;cases l with
     |nil=>rfl
     |node b1 o1 a1 l1 r1=>
      obtain⟨a',l',r',e',h1,_⟩:=this.node rfl;rw[e'];exact h1.lenL
    rw[h4,e1,k0,hn];exact h1
end
end Go.Proofs.YtikffmloeifkpaaGreatDoor
