/- Contracts. -/
import Derived.Test.YtikffmloeifkpaaGreatDoorR12
set_option maxHeartbeats 16000000
set_option maxRecDepth 100000
namespace Go.Proofs.YtikffmloeifkpaaGreatDoor
open Go.RowKit Go.Lib Go.Deep Go.ChangeMaps Go.MapKept Tryz
section
variable {H O N I U:Nat} {E:Array Value} {F:dB} {its:List Tr}
def oJ:Tr->List Tr
 | .nil=>[]
 | .node _ _ _ e r=>e::oJ r
def uT(F:dB)(its:List Tr):Tr->Nat->Rs->Rs
 | .nil,_,s=>s
 | .node _ _ _ e r,i,s=>uT F its r (i+1) (itR F its e i s)
def nG(F:dB)(its:List Tr):Tr->Nat->Rs->Tr
 | .nil,_,_=> .nil
 | .node b o a e r,i,s=> .node b o a (itT F its e i s) (nG F its r (i+1) (itR F its e i s))
def gJ:ByteArray:=ByteArray.mk #[109,97,105,110]
def rs0:Rs:=⟨[],0,0⟩
def eH(t:Tr):List Tr:=oJ (hY (aD t) 0 0)
def cL(t:Tr):dB:=gaF (aD t) 0 []
def aKP(t:Tr):Rs:=uT (cL t) (eH t) (hY (aD t) 0 0) 0 rs0
def fZ(t:Tr)(n:Int):Rs:=if(eG (cL t) (eH t) gJ).isSome then aKP t else(aKP t).fail 4 n
def aA1(t:Tr):Tr:=nI t (nG (cL t) (eH t) (hY (aD t) 0 0) 0 rs0)
def vQ(t:Tr):Int:=mJ ((eG (cL t) (eH t) gJ).getD .nil)
theorem aMG(t:Tr):(oJ t).length=bG t:=by
 induction t with
 |nil=>rfl
 |node b o a e r _ ih=>grind[oJ,bG]
theorem aGA:∀ (t:Tr) (i:Nat) (e:Tr),(oJ t)[i]?=some e->∃ b o a r,bN i t= .node b o a e r:=by
 intro t
 induction t with
 |nil=>grind[oJ]
 |node b o a e0 r _ ih=>
  intro i e h;cases i with
  |zero=>simp[oJ]at h;subst h;exact⟨b,o,a,r,rfl⟩
  |succ i=>exact ih i e (by simpa[oJ]using h)
theorem aMF:∀ (t e:Tr),e∈oJ t->∃ i:Nat,(oJ t)[i]?=some e:=fun t e h=>by
 obtain⟨i,hi,a⟩:=List.getElem_of_mem h;exact⟨i,Qh⟩
theorem aUL{s:Nat}{e:Tr}(h:Ws s e)(n:Int):Ws s (jC e n):=by
 cases e with
 |nil=>exact h
 |node b o a l r=>
  obtain⟨c,x,y,h0,d,f⟩:=h.parts;exact Ws.of20 (x:=x) (y:=y) h0 (c.sh rfl rfl rfl (fun _=>rfl)) (fun e=>h.len e) d f
theorem aUM:∀ (l:Tr) (s:Rs),Ws 16 l->Ws 16 (qN l s):=by
 intro l
 induction l with
 |nil=>intro s h;exact h
 |node b o a e r _ ih=>
  intro s h;obtain⟨c,_⟩:=h.parts;obtain⟨d,h0,f⟩:=bY Ou h;exact Ws.of20 (x:=22) (y:=16) (by rw[d];rfl) c Oa (aUL h0 _) Qh
theorem zW{s:Nat}(c:s=3\/s=4\/s=5\/s=6\/s=8){t L:Tr}(h:Ws s t)(f:Ws (10+s) L)(h0:bG L=bG (aD t)):Ws s (nI t L):=by
 rcases h.lst c with rfl|⟨b,o,a,l,rfl,g,_⟩
 ·exact h
 ·obtain⟨d,x,y,i,j,k⟩:=h.parts;refine Ws.of20 (x:=10+s) (y:=99) ?_ d (fun e=>?_) f Ws.x0
  ·rw[g];rcases c with rfl|rfl|rfl|rfl|rfl<;>rfl
  ·have:=h.len e;rw[h0];exact this
theorem aCZ{s:Nat}(d:s=3\/s=4\/s=5\/s=6\/s=8){t L:Tr}(h:Ws s t)(c:ps L=ps (aD t)):ps (nI t L)=ps t:=by
 rcases h.lst d with rfl|⟨b,o,a,l,rfl,f,_⟩
 ·rfl
 ·have e:ps L=ps l:=c;show ps (.node b o a L .nil)=ps (.node b o a l .nil);simp only[ps,e]
theorem aA8{e:Tr}(i:Nat)(s:Rs)(h:Ws 7 e):Ws 7 (itT F its e i s)/\ps (itT F its e i s)=ps e/\aH (itT F its e i s)=aH e/\∃ b o a l r d A B,e= .node b o a l r/\itT F its e i s= .node b o d A B/\d.a=a.a/\(a.a=16\/a.a=17):=by
 obtain⟨b,o,a,l,r,rfl,c⟩:=jU h;rcases c with c|c
 ·grind[itT]
 ·obtain⟨f,x,y,z,p,q,rfl,w,h0,m⟩:=oD h c;have e1:itT F its (.node b o a l (.node x y z p q)) i s=fnT F its (.node b o a l (.node x y z p q)) (s.r0 F a i):=Oh;rw[e1];generalize s.r0 F a i=s;have J:=f.elems Oa;have v:=h0.elems Oa;obtain⟨n,_⟩:=h.parts;obtain⟨_,_,_,_,_,j⟩:=h.parts;obtain⟨K,_,_,t⟩:=rF (aD l) (s.few a).clear;have C:Ws 6 (nI l (qN (aD l) (s.few a).clear)):=(by grind[zW,aUM]);have D:Ws 5 (nI p (whT F its (aD p) 0 (fnS F its a l p s).1)):=zW Oa h0 ((tF _ _ _).ws v) (tF _ _ _).lenL;have G:Ws 4 (pI F its q (fnS F its a l p s).2):=(eZ _ _ _ _).ws m
  have k:vJ z:=by
   have u:=h;obtain⟨_,M,P,L,_,j⟩:=u.parts;exact j.parts.1
  refine⟨?_,?_,?_,b,o,a,l,_,_,_,_,rfl,rfl,rfl,.r c⟩
  ·refine Ws.of (x:=6) (y:=23) (by grind[mD]) (n.sh rfl rfl rfl Oa) C (Ws.of (x:=5) (y:=4) (by rw[w];rfl) k D G Oa) Qh
  ·show ps (.node b o {a with g:=_} (nI l _) (.node x y z (nI p _) (pI F its q _)))=_;simp only[ps,aCZ Ou f t,aCZ Oa h0 (tF _ _ _).ps,(eZ _ _ _ _).ps]
  ·show(if a.a=20 then _ else _)=(if a.a=20 then _ else _);simp[*]
theorem uS:∀ (L:Tr) (i:Nat) (s:Rs),Ws 18 L->Ws 18 (nG F its L i s)/\ps (nG F its L i s)=ps L/\bG (nG F its L i s)=bG L/\cI (nG F its L i s)=cI L/\(nG F its L i s= .nil↔L= .nil):=by
 intro L
 induction L with
 |nil=>intro i s h;trivial
 |node b o a e r _ ih=>
  intro i s h;obtain⟨d,_⟩:=h.parts;obtain⟨f,c,h0⟩:=bY Ot h;obtain⟨j,v,w,m,B,k,z,C,l,A,D,e1,n,p,q⟩:=aA8 (F:=F) (its:=its) i s c;obtain⟨g,t,u,_,_⟩:=ih (i+1) (itR F its e i s) h0;refine⟨Ws.of20 (x:=7) (y:=18) (by rw[f];rfl) d Oa j g,?_,?_,?_,by simp[nG]⟩
  ·grind[nG,ps]
  ·grind[nG,bG]
  ·show cI (.node b o a (itT F its e i s) _)=cI (.node b o a e r)
   grind[cI]
theorem aT0{cs:Array Value}:∀ (L:Tr) (o i:Nat) (s:Rs),Ws 18 L->mI cs o L->mI cs o (nG F its L i s):=by
 intro L
 induction L with
 |nil=>intro _ _ _ _ _;trivial
 |node b o0 a e r _ ih=>
  intro o i s h k;obtain⟨x,u,h0⟩:=bY Ot h;obtain⟨y,z,l,f,g,c,m,p,d,n,q,e1,t,v,w⟩:=aA8 (F:=F) (its:=its) i s u;refine⟨?_,ih (o+1) (i+1) _ h0 k.2⟩;have j:=k.1;rw[t]at l ⊢;rw[e1]at j l;replace j:(if c.a=19 then uB cs (o*3) c else if c.a=7 then cs[o]?=some (fO (.node f g c m p))else cs[o]?=some (aH (.node f g c m p))):=j;show(if d.a=19 then uB cs (o*3) d else if d.a=7 then cs[o]?=some (fO (.node f g d n q))else cs[o]?=some (aH (.node f g d n q)))
  grind
structure LpI(H O N I U:Nat)(E:Array Value)(F:dB)(its:List Tr)(L:Tr)(G:Rs)(B:World)(i:Nat)(J:Rs)(wr:World):Prop where
 ns:yB H O N I U E F its J wr
 fr:Fr H (PI L) B wr
 rest:bU wr (bN i L)
 wand:∀ w2,Fr H (PI (bN i L)) wr w2->bU w2 (nG F its (bN i L) i J)->bU w2 (nG F its L 0 G)
 run:uT F its (bN i L) i J=uT F its L 0 G
variable {L:Tr} {G J:Rs} {B wr w3:World} {i:Nat}
theorem PI.e{L:Tr}(t:TypeId)(p:Int)(h:PI L t p):dX t:=h.1
theorem LpI.start(h:yB H O N I U E F its G B)(hi:bU B L):LpI H O N I U E F its L G B 0 G B:=⟨h,Fr.refl _ _ _,hi,fun _ _ h=>h,rfl⟩
theorem LpI.step(h:LpI H O N I U E F its L G B i J wr)(x:Ws 18 L)(s:(ps L).Nodup){b o:Nat}{a:Nd}{e r:Tr}(w:bN i L= .node b o a e r)(h0:bN (i+1) L=r)(m:yB H O N I U E F its (itR F its e i J) w3)(y:bU w3 (itT F its e i J))(g:Fr H (PI e) wr w3):LpI H O N I U E F its L G B (i+1) (itR F its e i J) w3:=by
 have j:=iB Ot i _ x;have K:=pJ i _ s;have k:=xR i L;obtain⟨_,u,rest,l,run⟩:=h;rw[w]at j K k rest l run;obtain⟨v,q,n⟩:=bY Ot j;have K:=fU K;obtain⟨z,A,_,_⟩:=aA8 (F:=F) (its:=its) i J q;refine⟨m,u.t (g.mono fun t p c=>⟨c.1,k p (jI c.2)⟩),?_,fun C f hi=>?_,?_⟩
 ·rw[h0];exact bU.fr g PI.e n rest.2.1 (fun p c Z d=>K.apart p d.2 c)
 ·rw[h0]at f hi;refine l C ((g.mono fun t p c=>⟨c.1,jI c.2⟩).t (f.mono fun t p c=>⟨c.1,lQ c.2⟩)) ⟨?_,hi,by unfold iR;rw[v];trivial⟩;exact bU.fr f PI.e z y (fun p c Z d=>by rw[A]at c;exact K.apart p c d.2)
 ·rw[h0];exact run
theorem LpI.fin(h:LpI H O N I U E F its L G B (bG L) J wr):J=uT F its L 0 G/\bU wr (nG F its L 0 G):=by
 obtain⟨_,_,_,a,run⟩:=h;rw[nP]at a run;exact⟨run,a wr (Fr.refl _ _ _) trivial⟩
theorem aYJ:∀ (L:Tr) (i:Nat) (F:dB),(∀ x k,dP x F=some k->0<=k/\k < (i:Int))->∀ x k,dP x (gaF L i F)=some k->0<=k/\k < ((i+bG L:Nat):Int):=by
 intro L
 induction L with
 |nil=>intro i F h x k c;have:=h x k c;assumption
 |node b o a e r _ ih=>
  intro i F h x k c;have d:=ih (i+1) (if(dP (cC e) F).isSome then F else put (cC e) i F) (fun x k c=>?_) x k c
  ·simp only[bG];omega
  grind[cC,lC,Option.some.injEq,jY]
theorem pS{L:Tr}(h:Ws 18 L):Ws 18 (hY L 0 0):=(uW L 0 0 h).ws h
theorem aS9{t:Tr}(h:Ws 18 t):aNP (oJ t):=by
 intro b o a l r d e;obtain⟨i,hi⟩:=aMF _ _ d;obtain⟨b1,g,a1,j,c⟩:=aGA t i _ hi;have h0:=iB Ot i _ h;rw[c]at h0;obtain⟨_,f,_⟩:=bY Ot h0
 grind[oD,mW]
end
section
variable {H O:Nat}
theorem aZV{N I U:Nat}{it:Value}{w0 wr:World}{t:Tr}{Y R:Nat}{D M:Value}{Z xF:List Value}(k:Ws 8 t)(T:aH t=it)(V:bU w0 t)(h:GaW H O N I U it w0 (aD t) (bG (aD t)) Y R (cL t) D M Z xF wr):
 yB H O N I U (yQ it D M 0 (.slice none 0 0)) (cL t) (eH t) rs0 wr/\bU wr (hY (aD t) 0 0):=by
 have u:=k.elems Oa;obtain⟨v,_,_⟩:=h.fin;have P:=uW (aD t) 0 0 u;have q:(eH t).length=bG (aD t):=by unfold eH;rw[aMG,P.lenL]
 refine⟨⟨⟨h.blk,h.prog,h.first,h.b,h.ge.1,h.ge.2.2.2,h.ne⟩,⟨fun hp=>?_,fun e o=>?_,?_⟩,?_⟩,v⟩
 ·rcases k.lst (by omega)with rfl|⟨b0,o0,a0,l0,rfl,ht,hl0⟩
  ·trivial
  ·have C:aH (.node b0 o0 a0 l0 .nil)= Qe b0 (bG l0) o0:=if_pos ht;have w:=V.2.2;have k0:=(bM w (n:=20) ht).1;have a3:po a0=[]:=by unfold po;rw[ht];rfl
   have z:=gM.fw h.fr PA.e w Qh (fun e=>⟨k.list e k0,(by grind[PA.noName])⟩);obtain⟨_,c,d,Q⟩:=bM z (n:=20) ht
   have K:cI l0=151:=by
    cases l0 with
    |nil=>trivial
    |node b2 z a2 e r=>
     obtain⟨_,h0,_⟩:=bY Ot hl0;obtain⟨g,l,a,x,y,rfl,b⟩:=jU h0;show(if a.a=19 then _ else if a.a=7 then _ else if a.a < 7 then _ else if a.a < 15 then _ else _)=_
     grind
   rw[K]at d;refine⟨b0,o0,c,?_,d,fun i e o=>?_⟩
   ·show some it=_;rw[<-T,C,q];rfl
   ·obtain⟨b1,W,a1,X,j⟩:=aGA (hY l0 0 0) i e o;have s:=uL i 0 _ ((uW l0 0 0 hl0).rowOk Q);rw[j,Nat.zero_add]at s;have f:=iB Ot i _ (pS hl0);rw[j]at f;obtain⟨_,h0,_⟩:=bY Ot f;obtain⟨g,l,a,x,y,rfl,b⟩:=jU h0;have h1:(if a.a=19 then uB c (i*3) a else if a.a=7 then _ else c[i]?=some (aH (.node g l a x y))):=s.1
    grind
 ·obtain⟨i,hi⟩:=aMF _ _ o;obtain⟨b1,W,a1,X,j⟩:=aGA _ i e hi;have m:=aT3 i _ v;have f:=iB Ot i _ (pS u);rw[j]at f m;obtain⟨_,h0,_⟩:=bY Ot f;obtain⟨g,l,a,x,y,rfl,b⟩:=jU h0;refine⟨g,l,a,x,y,rfl,?_⟩;rcases b with b|b
  ·obtain⟨c,d,p,_⟩:=bM m.1.2.2 (n:=16) b;exact .l ⟨b,c,d,p⟩
  ·obtain⟨c,d,p,A,_⟩:=bM m.1.2.2 (n:=17) b;exact .r ⟨b,c,d,p,A⟩
 ·rw[q];have:=mW Ot k
  grind[dG]
 ·intro x i S;have:=aYJ (aD t) 0 [] (fun x a4 h=>by cases h) x i S;omega
def aNO(H O:Nat)(t:Tr)(n:Int)(w:World):Ending->World->Prop:=fun e w'=>e= .returned (.agg #[Qc (fZ t n).a,Qc (fZ t n).e])/\w.1.size<=w'.1.size/\w'.os=w.os/\w'.tape=w.tape/\w'.output=w.output/\(∀ k,k < H->w'.1[k]?=w.1[k]?)/\
 ((fZ t n).a=0->∃ Y R D M,w'.1[O]?=some (.cells (yQ (aH t) D M (vQ t) (.slice none 0 0)) 111 (0,0))/\w'.ownsRow H 192 1 D Y (sE 16 (aD t))/\w'.ownsRow H 106 1 M R (sE 17 (aD t))/\bU w' (aA1 t))
theorem At.off{w w':World}{b k:Nat}{t Z:TypeId}{Q:Array Value->Prop}{c:Array Value}(h:At w b t Q)(e:w.1[k]?=some (.cells c Z (0,0)))(h0:t≠Z)(g:∀ i,i < w.1.size->i≠k->w'.1[i]?=w.1[i]?):At w' b t Q:=by
 obtain⟨d,a,f⟩:=h;exact⟨d,(g b (Oo a) (bR a e h0)).t a,f⟩
def aKY(Z:TypeId):Prop:=Z=37\/Z=111
theorem aKM(l:Tr){Z:TypeId}(h:aKY Z):cI l≠Z:=by
 rcases h with rfl|rfl<;>(unfold cI;repeat' split)<;>decide
theorem gM.off{w w':World}{n b k:Nat}{a:Nd}{l r:Tr}{Z:TypeId}{c:Array Value}(h0:aKY Z)(e:w.1[k]?=some (.cells c Z (0,0)))(f:∀ i,i < w.1.size->i≠k->w'.1[i]?=w.1[i]?)(h:gM n w b a l r):gM n w' b a l r:=by
 have ne:∀ t:TypeId,(t≠37/\t≠111)->t≠Z:=fun t d=>by rcases h0 with rfl|rfl;exact d.1;exact d.2
 match n,h with
 |0,h|1,h|2,h|3,h|4,h|5,h|6,h|7,h|8,h|9,h|10,h|11,h|12,h|13,h|14,h|16,h|17,h=>exact At.off h e Qh f
 |20,h=>exact⟨h.1,h.2.off e (aKM _ h0) f⟩
 |15,_|18,_|19,_=>trivial
 |n+21,_=>trivial
theorem bU.off{w w':World}{k:Nat}{Z:TypeId}{c:Array Value}(h0:aKY Z)(d:w.1[k]?=some (.cells c Z (0,0)))(e:∀ i,i < w.1.size->i≠k->w'.1[i]?=w.1[i]?):∀ {t:Tr},bU w t->bU w' t:=by
 intro t
 induction t with
 |nil=>intro _;trivial
 |node b o a l r ihl ihr=>intro h;exact⟨ihl h.1,ihr h.2.1,gM.off h0 d e h.2.2⟩
theorem nE{P:TypeId->Int->Prop}{w w':World}{a n c:Nat}{e:TypeId}{v:Value}{d:List Value}(h:w.ownsRow a e c v n d)(g:Fr H P w w')(l:e=192\/e=106)(k:∀ t p,P t p->dX t):w'.ownsRow a e c v n d:=by
 refine aR h (fun m f=>?_);obtain⟨⟨j,b⟩,_⟩:=aW h f;rw[b];exact g.same b (by grind[dH]) (by grind[dX])
theorem gR{s:Rs}{c p:Int}(a:c≠0):(s.fail c p).a≠0:=by
 grind[Rs.fail]
theorem aY9{t:Tr}(a:Ws 8 t)(h0:(ps t).Nodup):(ps (hY (aD t) 0 0)).Nodup:=by
 rw[(uW _ 0 0 (a.elems Oa)).ps,<-mO Ot a];exact h0
theorem aST:∀ (L:Tr) (Y R:Nat),fT (hY L Y R)=fT L:=by
 intro L
 induction L with
 |nil=>intro _ _;rfl
 |node b o a e r _ ih=>
  intro Y R;have c:∀ n:Int,fT (jC e n)=fT e:=fun n=>by cases e<;>rfl
  grind[hY,iH]
theorem aFU:∀ (L:Tr) (Y R:Nat),dE H L->dE H (hY L Y R):=by
 intro L
 induction L with
 |nil=>intro _ _ _;trivial
 |node b o a e r _ ih=>
  intro Y R h
  have c:∀ n:Int,dE H (jC e n):=fun n=>by
   cases e with
   |nil=>trivial
   |node b2 o2 a2 l2 r2=>exact h.1
  unfold hY
  split
  ·exact⟨c _,ih _ _ h.2.1,h.2.2⟩
  ·exact⟨c _,ih _ _ h.2.1,h.2.2⟩
theorem aPC:∀ (i:Nat) (L:Tr),fT (bN i L)<=fT L:=by
 intro i
 induction i with
 |zero=>intro L;exact Ql _
 |succ n ih=>
  intro L;cases L with
  |nil=>exact Ql _
  |node b o a e r=>grind[fT,bN]
theorem aRX{F:dB}{its:List Tr}{w w':World}{t:Tr}{s:Rs}(h:Ws 8 t)(hi:bU w t)(o:∀ (k:Nat) (cs:Array Value),w.1[k]?=some (.cells cs 151 (0,0))->w'.1[k]?=some (.cells cs 151 (0,0)))(f:bU w' (nG F its (hY (aD t) 0 0) 0 s)):bU w' (nI t (nG F its (hY (aD t) 0 0) 0 s)):=by
 rcases h.lst (by omega)with rfl|⟨b0,o0,a0,l0,rfl,ht,hl0⟩
 ·trivial
 ·obtain⟨d,cs,p,g⟩:=bM hi.2.2 (n:=20) ht
  have c:cI l0=151:=by
   cases l0 with
   |nil=>trivial
   |node b2 o2 a2 e r=>
    obtain⟨_,b,_⟩:=bY Ot hl0;obtain⟨m,u,a,x,y,rfl,q⟩:=jU b;show(if a.a=19 then _ else if a.a=7 then _ else if a.a < 7 then _ else if a.a < 15 then _ else _)=_
    grind
  have h0:=uW l0 0 0 hl0;obtain⟨_,_,_,j,l⟩:=uS (F:=F) (its:=its) (hY l0 0 0) 0 s (pS hl0);refine⟨f,trivial,?_⟩;unfold iR;rw[ht];refine⟨fun e=>d (h0.nil_iff.1 (l.1 e)),cs,?_,aT0 _ _ _ _ (pS hl0) (h0.rowOk g)⟩;show w'.1[b0]?=some (.cells cs (cI (nG F its (hY l0 0 0) 0 s)) (0,0));rw[j,h0.rowTyp,c];simp[*]
theorem aV3{w W3:World}{t:Tr}{n c p:Int}{m:Int}{Y R:Nat}{D M:Value}(j:H<=w.1.size)(_:H<=O)(a:Fw H (fun Z k=>dX Z/\k∈ps t) w W3)(b:W3.1[w.1.size]?=some (Qf #[Qc 0,Qc 0] 37))(f:W3.1[O]?=some (.cells (yQ (aH t) D M m (.slice none 0 0)) 111 (0,0)))(l:c=(fZ t n).a/\p=(fZ t n).e)(g:W3.ownsRow H 192 1 D Y (sE 16 (aD t)))(h:W3.ownsRow H 106 1 M R (sE 17 (aD t)))(d:bU W3 (aA1 t))(q:(fZ t n).a=0->m=vQ t):
 aNO H O t n w (.returned (.agg #[Qc c,Qc p])) ((W3.setCell ⟨w.1.size,0,none⟩ (Qc c)).setCell ⟨w.1.size,1,none⟩ (Qc p)):=by
 have r:=bR f b Ob;have e1:∀ k,k≠w.1.size->((W3.setCell ⟨w.1.size,0,none⟩ (Qc c)).setCell ⟨w.1.size,1,none⟩ (Qc p)).1[k]?=W3.1[k]?:=(by grind[Below.heap_setCell]);refine⟨Qh,?_,a.os,a.tape,a.output,fun k e=>(e1 k Oa).t (a.below k e),fun o=>⟨Y,R,D,M,?_,?_,?_,?_⟩⟩
 ·grind[World.setCell]
 ·grind
 ·grind[aR,aW,bR]
 ·grind[aR,aW,bR]
 ·exact bU.off Oy b Qg d
theorem aJO{t:Tr}(s:Ws 8 t)(hF:dE H t)(j3:(ps t).Nodup)(k5:fT t<=900000)(j2:H<=O)(n:Int)(w:World)(hH:H<=w.1.size)(hi:bU w t)(l:w.1[O]?=some (.cells (yQ (aH t) (.slice none 0 0) (.slice none 0 0) 0 (.slice none 0 0)) 111 (0,0))):
 Calls prog 43 #[Qd O,Qc n] w (aNO H O t n w):=by
 have d4:=(Oo l);obtain⟨ao,cp,j1⟩:=s.w0 Ot;have j5:=mW Ot s;have hL:=s.elems Ot;have e7:∀ w:World,(Instr.makeMap 147 none).run prog w= .ok (.map (some w.1.size)) (w.alloc (.map #[] 0)):=fun w=>run_makeMap _ w;have z1:(w.alloc (Qf #[Qc 0,Qc 0] 37)).1.size=w.1.size+1:=Od
 have z2:((w.alloc (Qf #[Qc 0,Qc 0] 37)).alloc (.map #[] 0)).1.size=w.1.size+1+1:=Od
 have X:(((w.alloc (Qf #[Qc 0,Qc 0] 37)).alloc (.map #[] 0)).alloc (.map #[] 0)).1.size=w.1.size+1+1+1:=Od
 have fr0:Fr H F0 w (((((w.alloc (Qf #[Qc 0,Qc 0] 37)).alloc (.map #[] 0)).alloc (.map #[] 0))).alloc (Qf #[Qd O,.map (some (w.1.size+1)),.map (some (w.1.size+1+1)),Qc 0,Qc 0] 149)):=
  ((((Fr.refl H F0 w).alloc _ hH).alloc _ (by rw[z1];omega)).alloc _ (by rw[z2];omega)).alloc _ (by rw[X];omega)
 have k1:∀ u,u < w.1.size->((((w.alloc (Qf #[Qc 0,Qc 0] 37)).alloc (.map #[] 0)).alloc (.map #[] 0)).alloc (Qf #[Qd O,.map (some (w.1.size+1)),.map (some (w.1.size+1+1)),Qc 0,Qc 0] 149)).1[u]?=w.1[u]?:=fun u hk=>
  (On (by rw[X];omega)).t ((On (by rw[z2];omega)).t ((On (by rw[z1];omega)).t (On hk)))
 have o0:((((w.alloc (Qf #[Qc 0,Qc 0] 37)).alloc (.map #[] 0)).alloc (.map #[] 0)).alloc (Qf #[Qd O,.map (some (w.1.size+1)),.map (some (w.1.size+1+1)),Qc 0,Qc 0] 149)).1[w.1.size]?=some (Qf #[Qc 0,Qc 0] 37):=
  (On (by rw[X];omega)).t ((On (by rw[z2];omega)).t ((On (by rw[z1];omega)).t (Qk w _)))
 have m1:Mp ((((w.alloc (Qf #[Qc 0,Qc 0] 37)).alloc (.map #[] 0)).alloc (.map #[] 0)).alloc (Qf #[Qd O,.map (some (w.1.size+1)),.map (some (w.1.size+1+1)),Qc 0,Qc 0] 149)) (w.1.size+1) 0 []:=by
  have h1:=Mp.made (w.alloc (Qf #[Qc 0,Qc 0] 37));rw[z1]at h1;exact h1.same ((On (by rw[X];omega)).t (On (by rw[z2];omega)))
 have m2:Mp ((((w.alloc (Qf #[Qc 0,Qc 0] 37)).alloc (.map #[] 0)).alloc (.map #[] 0)).alloc (Qf #[Qd O,.map (some (w.1.size+1)),.map (some (w.1.size+1+1)),Qc 0,Qc 0] 149)) (w.1.size+1+1) 0 []:=by
  have h1:=Mp.made ((w.alloc (Qf #[Qc 0,Qc 0] 37)).alloc (.map #[] 0));rw[z2]at h1;exact h1.same (On (by rw[X];omega))
 have r0:((((w.alloc (Qf #[Qc 0,Qc 0] 37)).alloc (.map #[] 0)).alloc (.map #[] 0)).alloc (Qf #[Qd O,.map (some (w.1.size+1)),.map (some (w.1.size+1+1)),Qc 0,Qc 0] 149)).1[w.1.size+1+1+1]?=some (.cells (xP O (w.1.size+1) (w.1.size+1+1) ⟨[],0,0⟩) 149 (0,0)):=by
  rw[<-X];exact Qk _ _
 go_enter func43,ntmps43
 go_wp2_with fail
 generalize ((((w.alloc (Qf #[Qc 0,Qc 0] 37)).alloc (.map #[] 0)).alloc (.map #[] 0)).alloc (Qf #[Qd O,.map (some (w.1.size+1)),.map (some (w.1.size+1+1)),Qc 0,Qc 0] 149))=W0 at*;have i0:=bU.fr fr0 (fun t p l=>absurd l id) s hi (fun _ _ _ h=>h)
 have G0:GaW H O (w.1.size+1+1+1) (w.1.size+1) (w.1.size+1+1) (aH t) W0 (aD t) 0 0 0 [] (.slice none 0 0) (.slice none 0 0) [] [] W0:=
  ⟨r0,(k1 O d4).t l,m1,m2,Oa,⟨Oa,j2,Oa,Oa⟩,Fw.refl _ _ _,by cases t with
    |nil=>trivial
    |node=>exact i0.1,fun _ _ h=>h,World.ownsRow_nil _ _ _ _,World.ownsRow_nil _ _ _ _,rfl,rfl,rfl⟩
 refine(aLC s hF j3 W0 i0 G0).mono ?_;rintro e W1 ⟨rfl,Y,R,D,M,T⟩;obtain⟨N1,c5⟩:=aZV s rfl i0 T;have o1:=T.fr.same o0 (by simp[aS]) (fun p _ l=>absurd (PA.e _ _ l) (by unfold dX;decide));have c6:=T.ownA;have c7:=T.ownF;have m7:=uW (aD t) 0 0 hL;have d6:aJ t=bG (hY (aD t) 0 0):=by rw[m7.lenL];exact dG t
 have j0:=pS hL;have y5:=aY9 s j3;have z4:Hid _:=j0;have y1:Hid _:=y5;have z5:Hid _:=aS9 j0;have a8:Hid (dE H (hY (aD t) 0 0)):=aFU _ _ _ (lV hF);have a9:Hid (fT (hY (aD t) 0 0)<=900000):=by rw[Hid,aST,zF Ot s];exact k5
 have g2:Hid _:=d6;have y6:(eH t).length=bG (hY (aD t) 0 0):=aMG _;have g6:Hid _:=y6;have L0:=LpI.start N1 c5;have Q:W1.cell? ⟨O,0,none⟩=some (aH t):=Og N1.rs.prog rfl
 have y2:=j1;rw[j1]at Q;have c8:Fw H (fun Z p=>dX Z/\p∈ps (aD t)) w W1:=(fr0.weak.mono fun _ _ h=>absurd h id).t (T.fr.mono fun t p h=>⟨PA.e t p h,h.2⟩);have y9:Hid _:=c8;have b3:Hid _:=o1;have b6:Hid _:=c6;have b7:Hid _:=c7;have b8:Hid _:=i0;have z7:Hid _:=T.fr;clear fr0 k1 o0 m1 m2 r0 G0 T N1 c5 j0 y5 d6 y6 c8 o1 c6 c7 i0 z1 z2 X m7 hi l d4 hF j3 k5 e7;go_wp2_with fail
 go_loopg [20] (aJ t) (fun m v wr=>∃ (i:Nat) (J:Rs),v= Qc i/\i<=aJ t/\aJ t<=i+m/\LpI H O (w.1.size+1+1+1) (w.1.size+1) (w.1.size+1+1) (yQ (aH t) D M 0 (.slice none 0 0)) (cL t) (eH t) (hY (aD t) 0 0) rs0 W1 i J wr)
 case atStart=>exact⟨0,rs0,rfl,Qn _,Oa,L0⟩
 case round=>
  clear L0 Q;obtain⟨i,J,rfl,e5,hm,y⟩:=hrel;have g5:Hid _:=y
  by_cases e6:i < aJ t
  ·have j4:(i:Int) < (aJ t:Int):=Oa
   obtain⟨b2,o2,a2,e2,r2,hd,m0⟩:=jA i (hY (aD t) 0 0) (by rw[<-g2.o];exact e6);have z9:=iB Ot i _ z4.o;have k9:=pJ i _ y1.o;have j6:=pB i _ a8.o;have d7:=aPC i (hY (aD t) 0 0);rw[hd]at z9 k9 j6 d7;obtain⟨_,z8,_⟩:=bY Ot z9;obtain⟨W,d,V,x,a4,rfl,z⟩:=jU z8;have h8:=y.rest;rw[hd]at h8;obtain⟨g,e3,f2,j8,m6,m4⟩:=y.ns.it.row (by rw[g6.o,<-g2.o];omega)
   have g0:aH t= Qe g (eH t).length e3:=by
    have:(yQ (aH t) D M 0 (.slice none 0 0))[0]?=some (aH t):=rfl;rw[this]at j8;exact Oq j8
   rw[y2]at g0;simp only[Value.slice.injEq]at g0;obtain⟨j9,-,-⟩:=g0;subst j9
   have y7:(eH t)[i]?=some (.node W d V x a4):=by
    have:∀ (L:Tr) (i:Nat) {b o:Nat} {a:Nd} {e r:Tr},bN i L= .node b o a e r->(oJ L)[i]?=some e:=by
     intro L
     induction L with
     |nil=>intro i b o a e r h;cases i<;>cases h
     |node b1 o1 a1 e1 r1 _ ih=>
      intro i b o a e r h;cases i with
      |zero=>cases h;rfl
      |succ i=>exact ih i h
    exact this _ _ hd
   have y8:wr.cell? ⟨g,i,none⟩=some (aH (.node W d V x a4)):=Og m6 (m4 i _ y7)
   have d8:20000+fT (.node W d V x a4)<=1000000:=by
    have:=a9.o;have h0:fT (.node b2 o2 a2 (.node W d V x a4) r2)=(if a2.a=9 then 1 else 0)+fT (.node W d V x a4)+fT r2:=iH _ _ _ _ _;omega
   have k7:=aL7 z5.o z8 j6.1 (fU k9).left d8 i Oa J wr y.ns h8.1;have g9:aH (.node W d V x a4)= .iface (iV V.a) (Qd W):=Oh;rw[g9]at y8 k7;have k8:Hid _:=fun w3=>g5.o.step (w3:=w3) z4.o y1.o hd m0;clear y hd m0 z9 k9 j6 d7 z8 h8 j8 m6 m4 y7 d8 g9;go_wp2_with fail
   refine k7.mono ?_;rintro e W3 ⟨rfl,q,i3,k⟩;obtain⟨m,rfl⟩:=Oj gk
   have fin:∃ (a5:Nat) (J:Rs),Qc ((i:Int)+1)= Qc a5/\a5<=aJ t/\aJ t<=a5+m/\LpI H O (w.1.size+1+1+1) (w.1.size+1) (w.1.size+1+1) (yQ (aH t) D M 0 (.slice none 0 0)) (cL t) (eH t) (hY (aD t) 0 0) rs0 W1 a5 J W3:=
    ⟨i+1,_,Od,Oa,Oa,k8.o W3 q i3 k⟩
   clear k8 g5 q i3 k;go_wp2;go_roundg m
   case rel=>exact fin
   case measure=>omega
  ·have j4: ¬(i:Int) < (aJ t:Int):=Oa
   have d9:i=bG (hY (aD t) 0 0):=by rw[<-g2.o];omega
   obtain⟨d1,iT⟩:J=aKP t/\bU wr (nG (cL t) (eH t) (hY (aD t) 0 0) 0 rs0):=by
    have:=y;rw[d9]at this;exact this.fin
   have j:=y.ns;have a3:=y.fr
   have g8:Fw H (fun Z u=>dX Z/\u∈ps t) w wr:=by
    have d3:=mO Ot s;refine(y9.o.mono fun Z u h=>⟨h.1,by rw[d3];exact h.2⟩).t (a3.weak.mono fun Z u h=>⟨h.1,?_⟩);have h2:=h.2;rw[(uW _ 0 0 hL).ps]at h2;rw[d3];exact h2
   have oR:=a3.same b3.o (by simp[dH,aS]) (fun p _ l=>absurd (PI.e _ _ l) (by unfold dX;decide));have hA:=nE b6.o a3 Oy PI.e;have m8:=nE b7.o a3 Oz PI.e
   have hT:=aRX s b8.o (fun u cs hc=>by
    have c1:=z7.o.same hc (by simp[aS]) (fun p _ l=>absurd (PA.e _ _ l) (by unfold dX;decide));exact a3.same c1 (by simp[dH,aS]) (fun p _ l=>absurd (PI.e _ _ l) (by unfold dX;decide))) iT
   have k4:=j.rs.prog;have k0:Hid _:=fun W3 c p m hx ho e8 hS hA hF hT hm=>aV3 (H:=H) (O:=O) (w:=w) (W3:=W3) (t:=t) (n:=n) (c:=c) (p:=p) (m:=m) (Y:=Y) (R:=R) (D:=D) (M:=M) hH j2 hx ho e8 hS hA hF hT hm;have m9:Hid _:=g8;have z6:Hid _:=oR;have HA:Hid _:=hA;have g7:Hid _:=m8;have b9:Hid _:=hT;have K:Hid _:=k4;have t1:=aCJ wr;have t2:=fun a6=>uF a6 wr;have t3:=fun a6=>aB8 a6 wr;have g1:Hid (J=aKP t):=d1
   have k6:∀ W3 S,lZ H O (w.1.size+1+1+1) (w.1.size+1) (w.1.size+1+1) (yQ (aH t) D M 0 (.slice none 0 0)) (cL t) S W3->Fr H F0 wr W3->fZ t n=S->S.a≠0->
    aNO H O t n w (.returned (.agg #[Qc S.a,Qc S.e])) ((W3.setCell ⟨w.1.size,0,none⟩ (Qc S.a)).setCell ⟨w.1.size,1,none⟩ (Qc S.e)):=by
    intro W3 S q k hs hc;refine k0.o W3 _ _ 0 (m9.o.t (k.weak.mono fun _ _ h=>absurd h id)) (k.same z6.o (by simp[dH,aS]) (fun _ _ h=>h)) q.prog ⟨by rw[hs],by rw[hs]⟩ (nE HA.o k Oy (fun _ _ h=>absurd h id)) (nE g7.o k Oz (fun _ _ h=>absurd h id)) ?_ (fun h0=>absurd (by rw[hs]at h0;exact h0) hc);have e4:=zW Ot s (uS (F:=cL t) (its:=eH t) (hY (aD t) 0 0) 0 rs0 z4.o).1 ((uS _ _ _ z4.o).2.2.1.t (uW _ 0 0 hL).lenL);exact bU.fr k (fun _ _ h=>absurd h id) e4 b9.o (fun _ _ _ h=>h)
   have h7:Hid _:=k6;clear k6 g8 oR hA m8 hT k4 a3 d9 d1 iT y g5 z4 y1 z5 a8 a9 e5 hm j5 j1 y2 b8 z7 b6 b7 b3 y9;rcases zD j gJ with C|⟨b5,o5,f,l5,r5,C,z,y0⟩|⟨b5,o5,f,l5,r5,C,z,y0⟩
   ·have A:fZ t n=J.fail 4 n:=by unfold fZ eG;rw[C,g1.o];rfl
    have h9:Hid _:=A;go_wp2_with fail
    refine(lB (x:=gJ) wr j.rs j.it j.fo (by unfold maxLen;decide)).mono ?_;rintro e W2 ⟨rfl,rfl⟩;rw[C];unfold zX;go_wp2_with fail
    refine(dR 4 n wr j.rs).mono ?_;rintro e W3 ⟨rfl,q,k⟩;have P:=h7.o W3 _ q k h9.o (gR Ob);have d:=k.same z6.o (by simp[dH,aS]) (fun _ _ h=>h);have Q:W3.cell? ⟨w.1.size,0,none⟩=some (Qc 0):=Og d rfl
    have q1:W3.cell? ⟨w.1.size,1,none⟩=some (Qc 0):=Og d rfl
    have z0:∀ o,W3.frozen? ⟨w.1.size,o,none⟩=false:=fun o=>by simp[World.frozen?,d]
    have g3:W3.cell? ⟨w.1.size+1+1+1,3,none⟩=some (Qc (J.fail 4 n).a):=q.cell 3;have g4:W3.cell? ⟨w.1.size+1+1+1,4,none⟩=some (Qc (J.fail 4 n).e):=q.cell 4;clear A h9 h7 k0;go_wp2;obtain⟨x0,x1⟩:=iC (w:=W3) (u0:= Qc (J.fail 4 n).a) (u1:= Qc (J.fail 4 n).e) Q q1;exact bodyPost_ret (v:= .agg #[Qc (J.fail 4 n).a,Qc (J.fail 4 n).e]) (by simp[results,results43,go_sem,x0,x1]) rfl P
   ·have A:fZ t n=J.fail 4 n:=by unfold fZ eG;rw[C,g1.o];simp[z]
    have hv:aH (.node b5 o5 f l5 r5)= .iface 192 (Qd b5):=by show(if f.a=20 then _ else _)=_;rw[Oh,z];rfl
    have h9:Hid _:=A;clear y0 z;go_wp2_with fail
    refine(lB (x:=gJ) wr j.rs j.it j.fo (by unfold maxLen;decide)).mono ?_;rintro e W2 ⟨rfl,rfl⟩;rw[C];unfold zX;dsimp only;rw[hv];go_wp2_with fail
    refine(dR 4 n wr j.rs).mono ?_;rintro e W3 ⟨rfl,q,k⟩;have P:=h7.o W3 _ q k h9.o (gR Ob);have d:=k.same z6.o (by simp[dH,aS]) (fun _ _ h=>h);have Q:W3.cell? ⟨w.1.size,0,none⟩=some (Qc 0):=Og d rfl
    have q1:W3.cell? ⟨w.1.size,1,none⟩=some (Qc 0):=Og d rfl
    have z0:∀ o,W3.frozen? ⟨w.1.size,o,none⟩=false:=fun o=>by simp[World.frozen?,d]
    have g3:W3.cell? ⟨w.1.size+1+1+1,3,none⟩=some (Qc (J.fail 4 n).a):=q.cell 3;have g4:W3.cell? ⟨w.1.size+1+1+1,4,none⟩=some (Qc (J.fail 4 n).e):=q.cell 4;clear A h9 h7 k0;go_wp2;obtain⟨x0,x1⟩:=iC (w:=W3) (u0:= Qc (J.fail 4 n).a) (u1:= Qc (J.fail 4 n).e) Q q1;exact bodyPost_ret (v:= .agg #[Qc (J.fail 4 n).a,Qc (J.fail 4 n).e]) (by simp[results,results43,go_sem,x0,x1]) rfl P
   ·have A:fZ t n=J:=by unfold fZ eG;rw[C,g1.o];simp[z]
    have d5:vQ t=f.c:=by unfold vQ eG;rw[C];simp[z,mJ]
    have hv:aH (.node b5 o5 f l5 r5)= .iface 106 (Qd b5):=by show(if f.a=20 then _ else _)=_;rw[Oh,z];rfl
    obtain⟨e9,m3,⟨_,_,d2⟩,_⟩:=y0;have m5:wr.cell? ⟨b5,2,none⟩=some (Qc f.c):=Og m3 d2
    have p3:wr.cell? ⟨O,3,none⟩=some (Qc 0):=Og K.o rfl
    have pz:wr.frozen? ⟨O,3,none⟩=false:=by simp[World.frozen?,K.o]
    have y4:O≠w.1.size:=bR K.o z6.o Ob;have y3:w.1.size+1+1+1≠O:=bR j.rs.blk K.o Ob;have o4:(wr.setCell ⟨O,3,none⟩ (Qc f.c)).1[w.1.size]?=some (Qf #[Qc 0,Qc 0] 37):=(Om y4.symm).t z6.o;have b4:(wr.setCell ⟨O,3,none⟩ (Qc f.c)).1[w.1.size+1+1+1]?=_:=(Om y3).t j.rs.blk;have c4:(wr.setCell ⟨O,3,none⟩ (Qc f.c)).1[O]?=some (.cells (yQ (aH t) D M f.c (.slice none 0 0)) 111 (0,0)):=aI (o:=3) _ K.o
    have P:aNO H O t n w (.returned (.agg #[Qc J.a,Qc J.e])) (((wr.setCell ⟨O,3,none⟩ (Qc f.c)).setCell ⟨w.1.size,0,none⟩ (Qc J.a)).setCell ⟨w.1.size,1,none⟩ (Qc J.e)):=by
     refine k0.o (wr.setCell ⟨O,3,none⟩ (Qc f.c)) _ _ f.c ?_ o4 c4 ⟨by rw[A],by rw[A]⟩ ?_ ?_ ?_ (fun _=>d5.symm)
     ·exact m9.o.set j2 (fun cs Z d0 e=>by
       rw[K.o]at e;simp only[Option.some.injEq,Obj.cells.injEq]at e;rw[<-e.2.1]at d0;exact absurd d0 (by unfold aS;decide)) _ _
     ·exact aR HA.o (fun u hk=>Om (by obtain⟨⟨cs,j7⟩,_⟩:=aW HA.o hk;exact bR j7 K.o Ob))
     ·exact aR g7.o (fun u hk=>Om (by obtain⟨⟨cs,j7⟩,_⟩:=aW g7.o hk;exact bR j7 K.o Ob))
     ·exact bU.off Oz K.o (fun i _ hi=>Om hi) b9.o
    have HE:Hid _:=P;have c9:Hid _:=o4;have a7:Hid _:=b4;clear A d5 m3 d2 z P o4 b4 c4 h7 k0 y4 y3;go_wp2_with fail
    refine(lB (x:=gJ) wr j.rs j.it j.fo (by unfold maxLen;decide)).mono ?_;rintro e W2 ⟨rfl,rfl⟩;rw[C];unfold zX;dsimp only;rw[hv];go_upto_region 13 with fail
    generalize wr.setCell ⟨O,3,none⟩ (Qc f.c)=W3 at*;have d:=c9.o;have Q:W3.cell? ⟨w.1.size,0,none⟩=some (Qc 0):=Og d rfl
    have q1:W3.cell? ⟨w.1.size,1,none⟩=some (Qc 0):=Og d rfl
    have z0:∀ o,W3.frozen? ⟨w.1.size,o,none⟩=false:=fun o=>by simp[World.frozen?,d]
    have g3:W3.cell? ⟨w.1.size+1+1+1,3,none⟩=some (Qc J.a):=Og a7.o rfl
    have g4:W3.cell? ⟨w.1.size+1+1+1,4,none⟩=some (Qc J.e):=Og a7.o rfl
    have P:=HE.o;clear HE;go_wp2;obtain⟨x0,x1⟩:=iC (w:=W3) (u0:= Qc J.a) (u1:= Qc J.e) Q q1;exact bodyPost_ret (v:= .agg #[Qc J.a,Qc J.e]) (by simp[results,results43,go_sem,x0,x1]) rfl P
end
section
variable {F:dB} {its:List Tr}
def aT7(l:List Tr):List Tr:=l.filter fun e=>cB e==17
def aX7(l:List Tr):List Tr:=l.filter fun e=>cB e==16
theorem iN(e:Tr)(n:Int):cB (jC e n)=cB e:=by cases e<;>rfl
theorem lL{e:Tr}(h:e≠ .nil)(n:Int):mJ (jC e n)=n:=by
 cases e with
 |nil=>trivial
 |node=>rfl
theorem wV{e:Tr}(h:Ws 7 e):(cB e=16\/cB e=17)/\e≠ .nil:=by
 obtain⟨b,o,a,l,r,rfl,c⟩:=jU h;exact⟨c,Od⟩
theorem aHK:∀ (L:Tr) (Y R:Nat) (e:Tr),Ws 18 L->e∈oJ (hY L Y R)->cB e=17->∃ j:Nat,(aT7 (oJ (hY L Y R)))[j]?=some e/\mJ e=((R+j:Nat):Int):=by
 intro L
 induction L with
 |nil=>intro Y R e _ h;cases h
 |node b o a e0 r _ ih=>
  intro Y R e m h g;obtain⟨_,k,h0⟩:=bY Ot m;obtain⟨q,p⟩:=wV k;unfold hY at h ⊢
  by_cases f:cB e0=16
  ·rw[if_pos f]at h ⊢;have l:cB (jC e0 Y)≠17:=by rw[iN];omega
   rcases List.mem_cons.1 h with rfl|h
   ·omega
   ·obtain⟨j,c,d⟩:=ih (Y+1) R e h0 h g;refine⟨j,?_,d⟩;show((jC e0 (Y:Int)::oJ (hY r (Y+1) R)).filter _)[j]?=_;rw[List.filter_cons_of_neg (by simpa using l)];exact c
  ·rw[if_neg f]at h ⊢;have n:cB (jC e0 R)=17:=by rw[iN];omega
   rcases List.mem_cons.1 h with rfl|h
   ·refine⟨0,?_,?_⟩
    ·show((jC e0 (R:Int)::oJ (hY r Y (R+1))).filter _)[0]?=_;simp[*]
    grind[lL]
   ·obtain⟨j,c,d⟩:=ih Y (R+1) e h0 h g;refine⟨j+1,?_,Oa⟩;show((jC e0 (R:Int)::oJ (hY r Y (R+1))).filter _)[j+1]?=_;rw[List.filter_cons_of_pos (by simpa using n)];exact c
theorem aNT:∀ (L:Tr) (Y R:Nat) (e:Tr),Ws 18 L->e∈oJ (hY L Y R)->cB e=16->∃ j:Nat,(aX7 (oJ (hY L Y R)))[j]?=some e/\mJ e=((Y+j:Nat):Int):=by
 intro L
 induction L with
 |nil=>intro Y R e _ h;cases h
 |node b o a e0 r _ ih=>
  intro Y R e m h g;obtain⟨_,k,f⟩:=bY Ot m;obtain⟨q,p⟩:=wV k;unfold hY at h ⊢
  by_cases h0:cB e0=16
  ·rw[if_pos h0]at h ⊢;have n:cB (jC e0 Y)=16:=by rw[iN];omega
   rcases List.mem_cons.1 h with rfl|h
   ·refine⟨0,?_,?_⟩
    ·show((jC e0 (Y:Int)::oJ (hY r (Y+1) R)).filter _)[0]?=_;simp[*]
    grind[lL]
   ·obtain⟨j,c,d⟩:=ih (Y+1) R e f h g;refine⟨j+1,?_,Oa⟩;show((jC e0 (Y:Int)::oJ (hY r (Y+1) R)).filter _)[j+1]?=_;rw[List.filter_cons_of_pos (by simpa using n)];exact c
  ·rw[if_neg h0]at h ⊢;have l:cB (jC e0 R)≠16:=by rw[iN];exact h0
   rcases List.mem_cons.1 h with rfl|h
   ·omega
   ·obtain⟨j,c,d⟩:=ih Y (R+1) e f h g;refine⟨j,?_,d⟩;show((jC e0 (R:Int)::oJ (hY r Y (R+1))).filter _)[j]?=_;rw[List.filter_cons_of_neg (by simpa using l)];exact c
theorem sQ{s:Rs}{x:ByteArray}{p m:Int}(h:(s.k0 x p m).a=0):s.k0 x p m=s/\dP x s.b=none/\s.b.length < m:=by
 unfold Rs.k0 at h ⊢
 by_cases b:m<=s.b.length
 ·grind[gR]
 ·rw[if_neg b]at h ⊢
  by_cases a:(dP x s.b).isSome
  ·grind[gR]
  ·rw[if_neg a];exact⟨rfl,by simpa using a,Oa⟩
theorem wQ{s:Rs}{x:ByteArray}{p:Int}(h:(s.oldVar x p).a=0):s.oldVar x p=s/\(dP x s.b).isSome:=by
 grind[Rs.oldVar,dP,gR]
theorem xB{s:Rs}{x:ByteArray}{p:Int}(h:(s.o0 F its x p).a=0):s.o0 F its x p=s/\∃ e,iK F its x=some e:=by
 grind[Rs.o0,iK,gR]
theorem yG{s:Rs}{x:ByteArray}{p:Int}{n:Nat}(h:(s.n0 F its x p n).a=0):s.n0 F its x p n=s/\∃ b o a l r,eG F its x=some (.node b o a l r)/\n=aJ l:=by
 grind[Rs.n0,eG,aJ,gR]
theorem aCV{a:Nd}{n:Nat}{s:Rs}(h:(mH F its a n s).a=0):mH F its a n s=s:=by
 grind[mH,sQ,wQ,xB,yG]
theorem nX:∀ (t:Tr) (s:Rs),(eE F its t s).a=0->s.a=0:=by
 intro t
 induction t with
 |nil=>intro s h;exact h
 |node b o a l r ihl ihr=>
  intro s h
  by_cases d:a.a=9/\a.flag=true
  ·have e:eE F its (.node b o a l r) s=(eE F its l (mH F its a (aJ l) s)).v0 a.h:=if_pos d;rw[e]at h;have c:=ihl _ h
   rwa [aCV c]at c
  grind[jB,aCV]
structure rY(s:Rs):Prop where
 lt:∀ x i,dP x s.b=some i->0<=i/\i < s.b.length
 few:s.b.length<=12
theorem aIU{s:Rs}{x:ByteArray}(h:rY s)(c:dP x s.b=none)(d:s.b.length < 12):rY (s.v0 x)/\(s.v0 x).b.length=s.b.length+1:=by
 have a:(s.v0 x).b.length=s.b.length+1:=by
  show(put x s.b.length s.b).length=_;rw[oV,c];rfl
 refine⟨⟨fun y i b=>?_,Oa⟩,a⟩;rw[a]
 by_cases h0:y=x
 ·subst h0;have:dP y (put y s.b.length s.b)=some i:=b
  grind[lC,Option.some.injEq]
 ·have:dP y (put x s.b.length s.b)=some i:=b;rw[jY h0]at this;have:=h.lt y i this;omega
theorem aGG{p n:Nat}(h:24<=p):mD p n=none:=by
 unfold mD
 iterate 15 rw[Oh]
theorem aMP{p n:Nat}(h:21<=n):mD p n=none:=by
 have a: ¬n<=1:=Oa
 have b: ¬n<=5:=Oa
 have e:∀ k,k < 21->¬n=k:=fun k c=>Oa
 simp[mD,a,b,e 2 Oa,e 3 Oa,e 6 Oa,e 7 Oa,e 8 Oa,e 9 Oa,e 10 Oa,e 11 Oa,e 12 Oa,e 13 Oa,e 14 Oa,e 15 Oa,e 16 Oa,e 17 Oa,e 18 Oa,e 19 Oa,e 20 Oa]
theorem aKJ:∀ p < 24,mD p 9=none\/mD p 9=some (0,99):=Ob
theorem aWT{p x y:Nat}(h:mD p 9=some (x,y)):x=0/\y=99:=by
 grind[aKJ,aGG]
def aIR(s:Nat):Bool:=s==0||s==1||s==3||s==13||s==21||s==20||s==15||s==5||s==99
def aSY(o:Option (Nat × Nat)):Bool:=match o with
 |none=>true
 |some (x,y)=>aIR x&&aIR y
theorem aIQ:∀ s < 24,∀ n < 21,aIR s=true->aSY (mD s n)=true/\(n=9->mD s n=none):=Ob
theorem aP3(s:Nat):aIR s=true↔(s=0\/s=1\/s=3\/s=13\/s=21\/s=20\/s=15\/s=5\/s=99):=by simp[aIR,or_assoc]
theorem aKZ{s n x y:Nat}(h:mD s n=some (x,y))(a:s=0\/s=1\/s=3\/s=13\/s=21\/s=20\/s=15\/s=5\/s=99):n≠9/\(x=0\/x=1\/x=3\/x=13\/x=21\/x=20\/x=15\/x=5\/x=99)/\(y=0\/y=1\/y=3\/y=13\/y=21\/y=20\/y=15\/y=5\/y=99):=by
 grind[aSY,aP3,aIQ,aMP,aGG]
theorem aFN:∀ (t:Tr) (s:Nat),Ws s t->s=0\/s=1\/s=3\/s=13\/s=21\/s=20\/s=15\/s=5\/s=99->fT t=0:=by
 intro t
 induction t with
 |nil=>intro s _ _;rfl
 |node b o a l r ihl ihr=>
  intro s c f;obtain⟨_,x,y,g,d,e⟩:=c.parts
  grind[aKZ,iH]
theorem aRR:∀ (t:Tr) (s:Rs),fT t=0->(eE F its t s).b=s.b:=by
 intro t
 induction t with
 |nil=>intro s _;rfl
 |node b o a l r ihl ihr=>
  grind[iH,jB,aIA]
def Vd(par:Nat->Option Nat)(na Z:Nat):Tr->Prop
 | .nil=>True
 | .node _ _ a l r=>Vd par na Z l/\Vd par na Z r/\(a.a=1\/a.a=9->0<=a.c/\a.c < Z)/\(a.a=2\/a.a=10->0<=a.c/\a.c < na)/\(a.a=3->0<=a.c/\par a.c.toNat=some (aJ l))
theorem Vd.mono{par:Nat->Option Nat}{c Z d:Nat}(h:Z<=d):∀ {t:Tr},Vd par c Z t->Vd par c d t:=by
 intro t
 induction t with
 |nil=>intro _;trivial
 |node b o a l r ihl ihr=>intro⟨h1,h2,h3,h4⟩;exact⟨ihl h1,ihr h2,fun e=>Oi (h3 e),h4⟩
theorem Vd.er{par:Nat->Option Nat}{c Z:Nat}:∀ {t:Tr},Vd par c Z (YtikffmloeifkpaaGreatDoor.er t)↔Vd par c Z t:=by
 intro t
 induction t with
 |nil=>rfl
 |node b o a l r ihl ihr=>
  grind[Vd,YtikffmloeifkpaaGreatDoor.er,aC7]
structure aJU(F:dB)(its:List Tr)(par:Nat->Option Nat)(na:Nat):Prop where
 arr:∀ x e,iK F its x=some e->0<=mJ e/\mJ e < na
 fn:∀ x b o a l r,eG F its x=some (.node b o a l r)->0<=a.c/\par a.c.toNat=some (aJ l)
theorem aK2{par:Nat->Option Nat}{D:Nat}(C:aJU F its par D):∀ (t:Tr) (v:Nat) (s:Rs),Ws v t->(eE F its t s).a=0->rY s->rY (eE F its t s)/\s.b.length<=(eE F its t s).b.length/\Vd par D (eE F its t s).b.length (pI F its t s):=by
 intro t
 induction t with
 |nil=>intro v s _ _ h;exact⟨h,Ql _,trivial⟩
 |node b o a l r ihl ihr=>
  intro v s W j u;obtain⟨_,M,P,a3,p,A⟩:=W.parts
  by_cases m:a.a=9/\a.flag=true
  ·have e:eE F its (.node b o a l r) s=(eE F its l (mH F its a (aJ l) s)).v0 a.h:=if_pos m;have S:pI F its (.node b o a l r) s= .node b o {a with c:=(eE F its l (mH F its a (aJ l) s)).b.length} (pI F its l (mH F its a (aJ l) s)) r:=if_pos m;rw[e]at j;rw[e,S];have g:(eE F its l (mH F its a (aJ l) s)).a=0:=j;have k:=nX _ _ g;have k0:mH F its a (aJ l) s=s.k0 a.h a.b 12:=by grind[mH]
   obtain⟨Z,n2,n3⟩:=sQ (by rw[<-k0];exact k);rw[k0,Z]at g ⊢;have X:M=0/\P=99:=(by grind[aWT]);obtain⟨rfl,rfl⟩:=X;obtain rfl:=A.nil_of;obtain⟨w,v2,x⟩:=ihl 0 s p g u;have h0:=aRR (F:=F) (its:=its) l s (aFN l 0 p Od);have Y:(eE F its l s).b.length=s.b.length:=by rw[h0]
   obtain⟨y,K⟩:=aIU w (by rw[h0];exact n2) (by rw[Y];omega);refine⟨y,Oa,x.mono Oa,trivial,fun _=>?_,Qh,Qh⟩
   grind
  ·rw[jB m]at j ⊢;rw[qL m];have g:=nX _ _ j;have k:=nX _ _ g;have V:=aCV k;have f:=k;rw[V]at j g ⊢;obtain⟨w,v2,x⟩:=ihl M s p g u;obtain⟨y,K,w3⟩:=ihr P _ A j w;refine⟨y,Oa,x.mono K,w3,fun d=>?_,fun d=>?_,fun d=>?_⟩
   ·dsimp only at d ⊢;have q:wh1 F its a (aJ l) s=(dP a.h s.b).getD 0:=by grind[wh1]
    have T:(dP a.h s.b).isSome:=by
     unfold mH at f;rcases d with d|d
     ·grind[wQ]
     grind[wQ]
    obtain⟨i,hi⟩:=Option.isSome_iff_exists.1 T;have:=u.lt _ _ hi
    grind
   ·dsimp only at d ⊢;have q:wh1 F its a (aJ l) s=kH F its a.h a.c:=by grind[wh1]
    unfold mH at f;rw[Oh,Oh,if_pos d]at f;obtain⟨_,e,n⟩:=xB f;rw[q];unfold kH;rw[n];exact C.arr _ _ n
   ·dsimp only at d ⊢;have q:wh1 F its a (aJ l) s=nT F its a.h (aJ l) a.c:=by grind[wh1]
    unfold mH at f;rw[Oh,Oh,Oh,if_pos d]at f;obtain⟨_,b5,o5,Q,l5,r5,n,hn⟩:=yG f;have z:=C.fn _ _ _ _ _ _ n
    have e1:nT F its a.h (aJ l) a.c=Q.c:=by
     grind[nT]
    have a2:aJ (pI F its l s)=aJ l:=by
     have:=eZ F its l s;cases l with
     |nil=>rfl
     |node b1 o1 a1 l1 r1=>
      obtain⟨a',l',r',R,z,_⟩:=this.node rfl;rw[R];exact z.lenL
    grind
end
section
abbrev Sl:=List (Int × Int)
def dK:Sl->List Value
 |[]=>[]
 |(k,p)::r=> .int .i64 k:: .int .i64 p:: .bool false::dK r
theorem wH(l:Sl)(k p:Int):dK (l++[(k,p)])=dK l++[Qc k,Qc p,.bool false]:=by
 induction l with
 |nil=>rfl
 |cons x r ih=>grind[dK]
structure aHE(H:Nat)(M:Value)(U:List Tr)(w:World):Prop where
 row:w.ownsRow H 106 1 M U.length (U.map fO)
 own:∀ e∈U,∃ b o a l x y z p q,e= .node b o a l (.node x y z p q)/\FnW w b a l p q/\Ws 5 p/\Ws 4 q
theorem aHE.fr{H:Nat}{M:Value}{U:List Tr}{w w':World}{P:TypeId->Int->Prop}(h:aHE H M U w)(f:Fr H P w w')(d:∀ t p,P t p->cD t):aHE H M U w':=
 ⟨nE h.row f Qj (fun t p c=>(d t p c).e),fun e k=>by
   obtain⟨b,o,a,l,x,y,z,p,q,e1,g,j⟩:=h.own e k;exact⟨b,o,a,l,x,y,z,p,q,e1,g.fr f (fun t p c=>(d t p c).inT),j⟩⟩
structure SiW(H O X:Nat)(it D M:Value)(m:Int)(U:List Tr)(S:Sl)(w:World):Prop where
 blk:w.1[X]?=some (Qf #[Qd O] 156)
 prog:∃ B,w.1[O]?=some (.cells (yQ it D M m B) 111 (0,0))/\w.ownsRow H 55 3 B S.length (dK S)
 fns:aHE H M U w
 ge:H<=X/\H<=O
variable {H O X:Nat} {it D M:Value} {m:Int} {U:List Tr} {S C:Sl} {w w':World} {P:TypeId->Int->Prop}
theorem aZW(h:SiW H O X it D M m U S w):O≠X:=by
 obtain⟨B,a,_⟩:=h.prog;exact bR a h.blk Ob
theorem SiW.drewN(h:SiW H O X it D M m U S w)(n:Nat):SiW H O X it D M m U S (w.drewN n):=⟨h.blk,h.prog,⟨h.fns.row,h.fns.own⟩,h.ge⟩
theorem SiW.set(h:SiW H O X it D M m U S w){k o:Nat}{cs:Array Value}{t:TypeId}(A:w.1[k]?=some (.cells cs t (0,0)))(Q:cD t)(v:Value):SiW H O X it D M m U S (w.setCell ⟨k,o,none⟩ v):=by
 have off:∀ {j:Nat} {c:Array Value} {Z:TypeId},w.1[j]?=some (.cells c Z (0,0))->¬cD Z->(w.setCell ⟨k,o,none⟩ v).1[j]?=some (.cells c Z (0,0)):=(by grind[Below.heap_setCell,Option.some.injEq,Obj.cells.injEq]);obtain⟨B,K,g⟩:=h.prog;refine⟨off h.blk (by unfold cD;decide),⟨B,(by grind[cD]),aR g (fun j f=>?_)⟩,⟨aR h.fns.row (fun j f=>?_),fun e p=>?_⟩,h.ge⟩
 ·obtain⟨⟨c,d⟩,_⟩:=aW g f
  grind[cD]
 ·obtain⟨⟨c,d⟩,_⟩:=aW h.fns.row f
  grind[cD]
 ·obtain⟨b,r,a,l,x,y,z,s,u,e1,⟨c,d,q⟩,n⟩:=h.fns.own e p;exact⟨b,r,a,l,x,y,z,s,u,e1,⟨c,off d (by unfold cD;decide),q⟩,n⟩
theorem infoSI:(prog.info? 55).map (fun i=>(i.zero,i.size,i.bytes))=some (some (.agg #[Qc 0,Qc 0,.bool false]),3,24):=by kernel_rfl
theorem aAK(k p:Int)(w:World)(h:SiW H O X it D M m U S w)(hS:S.length<=1000000):
 Calls prog 198 #[Qd X,Qc k,Qc p] w fun e w'=>e= .returned (Qc S.length)/\SiW H O X it D M m U (S++[(k,p)]) w'/\Fr H F0 w w':=by
 obtain⟨i0,k4,k1,k0,h9⟩:=info_parts infoSI;obtain⟨B,f,d⟩:=h.prog;have s:=(Oo f);have Q:=(Oo h.blk);obtain⟨a3,k7⟩:=h.ge;obtain⟨ao,l,rfl,a4⟩:=bP d;have c0:w.cell? ⟨X,0,none⟩=some (Qd O):=Og h.blk rfl
 have c4:w.cell? ⟨O,4,none⟩=some (.slice ao S.length l):=Og f rfl
 have f4:w.frozen? ⟨O,4,none⟩=false:=by simp[World.frozen?,f]
 have z:some O≠(Value.slice ao S.length l).ownBlock:=fun e=>by
  obtain⟨⟨c2,a⟩,_⟩:=aW d e.symm;exact bR f a Ob rfl
 have V:some X≠(Value.slice ao S.length l).ownBlock:=fun e=>by
  obtain⟨⟨c2,a⟩,_⟩:=aW d e.symm;exact bR h.blk a Ob rfl
 have k3:X≠O:=(aZW h).symm
 have T:Hid (∀ (g J:Nat) (b:World),b.ownsRow H 55 3 (Qe g (S.length+1) J) (S.length+1) (dK S++[Qc k,Qc p,.bool false])->
  ((w.alloc (Qf #[Qc k,Qc p,.bool false] 55)).drew).grownBy b (Value.slice ao S.length l).ownBlock->((Value.slice ao S.length l).ownBlock=some g\/g=w.1.size+1)->
  SiW H O X it D M m U (S++[(k,p)]) (b.setCell ⟨O,4,none⟩ (Qe g (S.length+1) J))/\Fr H F0 w (b.setCell ⟨O,4,none⟩ (Qe g (S.length+1) J))):=by
  intro g J b r h0 y;have R:(w.alloc (Qf #[Qc k,Qc p,.bool false] 55)).drew.1.size=w.1.size+1:=by show(w.alloc _).1.size=_;simp
  have off:∀ {j:Nat} {c:Array Value} {Z:TypeId},w.1[j]?=some (.cells c Z (0,0))->Z≠55->b.1[j]?=some (.cells c Z (0,0)):=fun {j c Z} n k2=>by
   have x:=(Oo n);refine(h0.block j (by rw[R];omega) (fun e=>?_)).t ((On x).t n);obtain⟨⟨c2,a⟩,_⟩:=aW d e.symm;exact bR n a k2 rfl
  have K:=off f Ob
  have k5:g≠O:=by
   rcases y with e|e
   ·intro u;rw[u]at e;obtain⟨⟨c2,a⟩,_⟩:=aW d e;exact bR f a Ob rfl
   ·omega
  have a2:Fr H F0 w b:=by
   have f0:Fr H F0 w (w.alloc (Qf #[Qc k,Qc p,.bool false] 55)).drew:=((Fr.refl H F0 w).alloc _ Oa).drew;refine f0.grown h0 (by rw[R];omega) (fun j n=>?_);obtain⟨⟨c2,a⟩,hb⟩:=aW d n;refine⟨hb,fun c t q e=>?_⟩;have x:=(Oo a);have u:(w.alloc (Qf #[Qc k,Qc p,.bool false] 55)).drew.1[j]?=w.1[j]?:=On x;rw[u,a]at e;simp only[Option.some.injEq,Obj.cells.injEq]at e;rw[<-e.2.1]at q;exact absurd q (by unfold dH aS;decide)
  have A:Fr H F0 w (b.setCell ⟨O,4,none⟩ (Qe g (S.length+1) J)):=a2.set k7 (fun c t q e=>by
   rw[K]at e;simp only[Option.some.injEq,Obj.cells.injEq]at e;rw[<-e.2.1]at q;exact absurd q (by unfold dH aS;decide)) _ _
  refine⟨⟨(Om k3).t (off h.blk Ob),⟨_,aI (o:=4) _ K,?_⟩,h.fns.fr A F0.body,h.ge⟩,A⟩;rw[wH,List.length_append];refine⟨r.1,?_⟩;rcases r.2 with⟨hx,_⟩|⟨g',W,Y,v,k6,hh,r'⟩
  ·cases hx
  ·refine .r ⟨g',W,Y,v,k6,?_,r'⟩;simp only[Value.slice.injEq,Option.some.injEq,Addr.mk.injEq]at v;obtain⟨⟨rfl,_,_⟩,_,_⟩:=v;exact(Om k5).t hh
 clear f h;go_enter func198,ntmps198
 go_wp2_with fail
 go_region_law
  ((refine step_append_lies _ (by rfl) _ _ _ (by rfl) H 55 i0 _ 3 24 underlying52 k4 k1 k0 h9 rfl Oa (.slice ao S.length l) S.length (dK S) (by rfl) ((d.alloc _).drew)
     ⟨w.1.size,0,none⟩ 1 1 [Qc k,Qc p,.bool false] (by rfl) (by rfl) (World.news_of_block (cs:=#[Qc k,Qc p,.bool false]) (t:=55) (fr:=(0,0)) (Qk w _)) (by simp[Value.oneCell'])
     Oa (by unfold maxLen;omega) Oa (by simp;omega) (w.1.size+1) Od ?_;intro g J b r h0 y a5;have q1:=(h0.cell_far ⟨O,4,none⟩ (gK s) z).t (lT s c4);have q2:=(h0.frozen_far ⟨O,4,none⟩ (gK s) z).t (rO s f4);have q3:=(h0.cell_far ⟨X,0,none⟩ (gK Q) V).t (lT Q c0)))
 all_goals obtain⟨f1,f2⟩:=T.o g J b r h0 y
 all_goals go_wp2
 all_goals go_ret
 all_goals exact⟨rfl,f1,f2⟩
end
section
def yV(U:List Tr)(k:Int):Nat:=match U[k.toNat]? with
 |some (.node _ _ _ _ (.node _ _ _ p _))=>aJ p
 |_=>0
def aEJ(a:Nd):Bool:=decide (a.op=30)||decide (a.op=31)
def gO(U:List Tr)(a:Nd)(S:Sl):Sl:=if a.a=2 then S++[(1,a.b)]else if a.a=10 then S++[(2,a.b)]else if a.a=3 then(if 0 < yV U a.c then S++[(4,a.b)]else S)else S
def lH(a:Nd)(S:Sl):Sl:=if a.a=6 then(if aEJ a then S++[(3,a.e)]else S)else S
def qJ(U:List Tr)(a:Nd)(S G:Sl):Int:=
 if a.a=2\/a.a=10 then S.length else if a.a=3 then(if 0 < yV U a.c then(S.length:Int)else -1)else if a.a=6 then(if aEJ a then(G.length:Int)else -1)else a.f
def iD(U:List Tr):Tr->Sl->Sl
 | .nil,S=>S
 | .node _ _ a l r,S=>iD U r (lH a (iD U l (gO U a S)))
def mU(U:List Tr):Tr->Sl->Tr
 | .nil,_=> .nil
 | .node b o a l r,S=> .node b o {a with f:=qJ U a S (iD U l (gO U a S))} (mU U l (gO U a S)) (mU U r (lH a (iD U l (gO U a S))))
theorem mK(U:List Tr):∀ (t:Tr) (S:Sl),Sh t (mU U t S):=by
 intro t
 induction t with
 |nil=>intro S;trivial
 |node b o a l r ihl ihr=>intro S;exact⟨rfl,rfl,rfl,rfl,rfl,rfl,rfl,rfl,fun _=>rfl,fun _=>rfl,ihl _,ihr _⟩
theorem aOI(U:List Tr)(a:Nd)(S:Sl):(gO U a S).length<=S.length+(if eV a.a then 1 else 0):=by
 unfold gO
 grind[eV]
theorem aOJ(a:Nd)(S:Sl):(lH a S).length<=S.length+(if a.a=6 then 1 else 0):=by
 grind[lH]
theorem nC(b o:Nat)(a:Nd)(l r:Tr):(ps (.node b o a l r)).length=(if a.a=6 then 1 else 0)+(if a.a≠6/\eV a.a then 1 else 0)+(ps l).length+(ps r).length:=by
 grind[ps,eV]
theorem qH(U:List Tr):∀ (t:Tr) (S:Sl),(iD U t S).length<=S.length+(ps t).length:=by
 intro t
 induction t with
 |nil=>intro S;exact Ql _
 |node b o a l r ihl ihr=>
  grind[gO,iD,lH,eV,aOI,aOJ,nC]
def Cv(n:Nat):Tr->Prop
 | .nil=>True
 | .node _ _ a l r=>Cv n l/\Cv n r/\(a.a=3->0<=a.c/\a.c < n)
variable {H O X:Nat} {it D M:Value} {m:Int} {U:List Tr}
theorem aSC{k o:Nat}{w w':World}{a:Nd}{l r:Tr}{i:Int}(h:iR w k a l r)(c:(a.a=2\/a.a=3\/a.a=6)/\o=4\/a.a=10/\o=5)(n:∀ (cs:Array Value) (t:TypeId),w.1[k]?=some (.cells cs t (0,0))->w'.1[k]?=some (.cells (cs.setIfInBounds o (Qc i)) t (0,0))):iR w' k {a with f:=i} l r:=by
 unfold iR at h ⊢;dsimp only;have ne:∀ {cs:Array Value} {p:Nat} {v:Value} {x:Value},o≠p->cs[p]?=some v->(cs.setIfInBounds o x)[p]?=some v:=Qg;have j:∀ {cs:Array Value} {v x:Value},cs[o]?=some v->(cs.setIfInBounds o x)[o]?=some x:=Qg;have nm:∀ {cs:Array Value} {x:Value},3<=o->uB cs 0 a->uB (cs.setIfInBounds o x) 0 {a with f:=i}:=fun y b=>⟨ne Oa b.1,ne Oa b.2.1,ne Oa b.2.2⟩;rcases c with⟨c,rfl⟩|⟨c,rfl⟩
 ·rcases c with c|c|c<;>rw[c]at h ⊢
  ·obtain⟨cs,g,b,d,e⟩:=h;exact⟨_,n _ _ g,nm Oa b,ne Ob d,j e⟩
  ·obtain⟨cs,g,b,d,e⟩:=h;exact⟨_,n _ _ g,nm Oa b,ne Ob d,j e⟩
  ·obtain⟨cs,g,h0,q,s,d,e⟩:=h;exact⟨_,n _ _ g,ne Ob h0,ne Ob q,ne Ob s,ne Ob d,j e⟩
 ·rw[c]at h ⊢;obtain⟨cs,g,b,d,e,u⟩:=h;exact⟨_,n _ _ g,nm Oa b,ne Ob d,ne Ob e,j u⟩
theorem qX{S:Sl}{k o:Nat}{w:World}{a:Nd}{l r:Tr}{i:Int}(v:SiW H O X it D M m U S w)(h:iR w k a l r)(y:H<=k)(b:(a.a=2\/a.a=3\/a.a=6)/\o=4\/a.a=10/\o=5):
 SiW H O X it D M m U S (w.setCell ⟨k,o,none⟩ (Qc i))/\Fr H (Po a) w (w.setCell ⟨k,o,none⟩ (Qc i))/\iR (w.setCell ⟨k,o,none⟩ (Qc i)) k {a with f:=i} l r/\(∃ q,w.cell? ⟨k,o,none⟩=some (Qc q))/\w.frozen? ⟨k,o,none⟩=false:=by
 have key:∀ (t:TypeId) (c:Array Value) (u:Int),w.1[k]?=some (.cells c t (0,0))->cD t->c[1]?=some (Qc u)->u∈po a->(∃ q,c[o]?=some (Qc q))->o≠1->
  SiW H O X it D M m U S (w.setCell ⟨k,o,none⟩ (Qc i))/\Fr H (Po a) w (w.setCell ⟨k,o,none⟩ (Qc i))/\iR (w.setCell ⟨k,o,none⟩ (Qc i)) k {a with f:=i} l r/\(∃ q,w.cell? ⟨k,o,none⟩=some (Qc q))/\w.frozen? ⟨k,o,none⟩=false:=by
  intro t c u d x g Q R z;refine⟨v.set d x _,(Fr.refl _ _ _).write d y z g Qj _,aSC h b (by grind[aI]),?_,by simp[World.frozen?,d]⟩
  grind[cell_of_row]
 have s:a.a≠6->eV a.a=true->a.b∈po a:=(by grind[po]);rcases b with⟨b,rfl⟩|⟨b,rfl⟩
 ·rcases b with b|b|b
  ·obtain⟨c,d,e,j,p⟩:=bM h (n:=2) b;exact key _ c _ d (by simp[cD]) e.2.1 (s Oa (by rw[b];rfl)) Qh Oa
  ·obtain⟨c,d,e,j,p⟩:=bM h (n:=3) b;exact key _ c _ d (by simp[cD]) e.2.1 (s Oa (by rw[b];rfl)) Qh Oa
  ·obtain⟨c,d,h0,g,A,j,p⟩:=bM h (n:=6) b;exact key _ c _ d (by simp[cD]) g (by grind[po]) Qh Oa
 ·obtain⟨c,d,e,j,p,K⟩:=bM h (n:=10) b;exact key _ c _ d (by simp[cD]) e.2.1 (s Oa (by rw[b];rfl)) Qh Oa
def aE3(H O X:Nat)(it D M:Value)(m:Int)(U:List Tr)(P:TypeId->Int->Prop)(t:Tr)(S:Sl)(w:World):Ending->World->Prop:=fun e w'=>e= .returned (.tuple #[])/\SiW H O X it D M m U S w'/\bU w' t/\Fr H P w w'
def vX(f H O X:Nat)(it D M:Value)(m:Int)(U:List Tr)(val:Tr->Value)(t:Tr):Prop:=
 ∀ S w,SiW H O X it D M m U S w->bU w t->S.length+(ps t).length<=1000000->Calls prog f #[Qd X,val t] w (aE3 H O X it D M m U (Pt t) (mU U t S) (iD U t S) w)
theorem aC9{H s:Nat}{w w':World}{t C r:Tr}(h:bU w C)(d:Fr H (Pt r) w w')(c:Ws s t)(b:Sh t C)(a:∀ p∈ps r,p ∉ ps t):bU w' C:=uR h d c b a
theorem Cv.mk{n:Nat}{b o:Nat}{a:Nd}{l r:Tr}(h:Cv n (.node b o a l r)):Cv n l/\Cv n r/\(a.a=3->0<=a.c/\a.c < n):=h
theorem qI{a:Nd}{S G:Sl}(h:a.a≠2/\a.a≠3/\a.a≠6/\a.a≠10):gO U a S=S/\lH a G=G/\qJ U a S G=a.f:=by
 grind[gO,lH,qJ]
end
section
variable {H O X:Nat} {it D M:Value} {m:Int} {U:List Tr}
theorem aC0{b:Nat}{w:World}{a:Nd}{l r:Tr}(c:iR w b a l r)(h:a.a=6):w.cell? ⟨b,0,none⟩=some (Qc a.op)/\w.cell? ⟨b,1,none⟩=some (Qc a.e)/\w.cell? ⟨b,2,none⟩=some (aH l)/\w.cell? ⟨b,3,none⟩=some (aH r):=by
 obtain⟨d,j,h0,e,f,g,_⟩:=bM c (n:=6) h
 grind[cell_of_row]
theorem aPO(a:Nd):(aEJ a=true/\(a.op==30)=true)\/(aEJ a=true/\(a.op==30)=false/\(a.op==31)=true)\/(aEJ a=false/\(a.op==30)=false/\(a.op==31)=false):=by
 grind[aEJ]
theorem aPY{b o:Nat}{a:Nd}{l r:Tr}(k:a.a=6)(hH:dE H (.node b o a l r))(y5:(ps (.node b o a l r)).Nodup)(hl:Ws 0 l/\vX 197 H O X it D M m U aH l)(hr:Ws 0 r/\vX 197 H O X it D M m U aH r):vX 252 H O X it D M m U fO (.node b o a l r):=by
 intro S w h hi hS;have K:=fU y5;have y8:H<=b:=hH.2.2 (by unfold kJ;omega);obtain⟨y1,y7⟩:=hl;obtain⟨y0,y6⟩:=hr;obtain⟨a5,q,z0⟩:=y1.g Oy;obtain⟨u2,p2,y2⟩:=y0.g Oy;have k5:=nC b o a l r;rw[if_pos k,if_neg (fun h=>h.1 k)]at k5;have z2:=qH U l S;have k0:gO U a S=S:=by unfold gO;rw[Oh,Oh,Oh]
 have z1:po a=[a.e]:=by unfold po;rw[if_pos k]
 have h8:=y7 S w h hi.1 Oa;obtain⟨_,_,m2,_⟩:=aC0 hi.2.2 k;rw[z0]at m2 h8;have HR:Hid (vX 197 H O X it D M m U aH r):=y6;have RK:Hid _:=fun W2 x2=>kI (H:=H) (W2:=W2) y0 K hi x2 (by omega:a.a≠20)
 have R:Hid (∀ (i:Int) (S2:Sl) (W2 d:World),Fr H (Po a) W2 d->bU W2 (mU U l S)->bU W2 r->bU d (mU U l S)/\bU d r):=fun i S2 W2 d a4 k1 k2=>
  ⟨bU.fr a4 (fun t q u=>(Po.body t q u).e) ((mK U l S).ws y1) k1 (by rw[(mK U l S).ps];exact Po.o K.own_l),bU.fr a4 (fun t q u=>(Po.body t q u).e) y0 k2 (Po.o K.own_r)⟩
 have a2:Hid (∀ (G:Sl) (i:Int) (d c:World),lH a (iD U l S)=G->qJ U a S (iD U l S)=i->iR d b {a with f:=i} l r->bU d (mU U l S)->Fr H (Pt (.node b o a l r)) w d->SiW H O X it D M m U (iD U r G) c->bU c (mU U r G)->Fr H (Pt r) d c->
  aE3 H O X it D M m U (Pt (.node b o a l r)) (mU U (.node b o a l r) S) (iD U (.node b o a l r) S) w (.returned (.tuple #[])) c):=by
  intro G i d c e1 e2 o3 v x3 s n j;have x:=dZ o3 j Pt.body (fun q u a3 Y=>K.own_r q u Y.2) (by show a.a≠20;omega);have l4:=aC9 v j y1 (mK _ _ _) K.apart_;have eR:iD U (.node b o a l r) S=iD U r G:=by show iD U r (lH a (iD U l (gO U a S)))=_;rw[k0,e1]
  have eT:mU U (.node b o a l r) S= .node b o {a with f:=i} (mU U l S) (mU U r G):=by
   show BT.node b o {a with f:=qJ U a S (iD U l (gO U a S))} (mU U l (gO U a S)) (mU U r (lH a (iD U l (gO U a S))))=_;rw[k0,e1,e2]
  rw[eR,eT];exact⟨rfl,s,⟨l4,n,kK x (mK _ _ _) (mK _ _ _)⟩,x3.t (j.mono Pt.right)⟩
 have p:Hid (a.a=6):=k;have HB:Hid (H<=b):=y8;show Calls prog 252 #[Qd X,Qd b] w _;have h1:aEJ a=true->lH a (iD U l S)=iD U l S++[(3,a.e)]:=fun g=>by unfold lH;rw[if_pos k,if_pos g]
 have k3:aEJ a=true->qJ U a S (iD U l S)=((iD U l S).length:Int):=fun g=>by unfold qJ;rw[Oh,Oh,if_pos k,if_pos g]
 have h7:aEJ a=false->lH a (iD U l S)=iD U l S:=fun g=>by unfold lH;rw[if_pos k,if_neg (by rw[g];decide)]
 have k4:aEJ a=false->qJ U a S (iD U l S)= -1:=fun g=>by unfold qJ;rw[Oh,Oh,if_pos k,if_neg (by rw[g];decide)]
 have y9:(iD U l S).length+1+(ps r).length<=1000000:=Oa
 have h9:Hid _:=h1;have k7:Hid _:=k3;have k8:Hid _:=h7;have y4:Hid _:=k4;have k9:Hid ((iD U l S).length+1+(ps r).length<=1000000):=y9;clear y7 y6 y1 y0 hi hS K y5 hH k5 z2 k0 z1 h1 h7 k3 k4 y9 y8 h;rcases aPO a with⟨g,d1⟩|⟨g,d1,d2⟩|⟨g,d1,d2⟩
 all_goals
  go_enter func252,ntmps252
  go_wp2_with fail
  refine h8.mono ?_;rintro e W2 ⟨rfl,h2,i2,x2⟩;obtain⟨j2,o2⟩:=RK.o W2 x2;obtain⟨A,x3,o3,⟨q3,c3⟩,z3⟩:=qX (o:=4) (i:=-1) h2 o2 HB.o (.l ⟨.r (.r p.o),rfl⟩);obtain⟨v,Q⟩:=R.o (-1) S W2 _ x3 i2 j2;obtain⟨n0,n1,_,n3⟩:=aC0 o3 p.o;have n0:(W2.setCell ⟨b,4,none⟩ (Qc (-1))).cell? ⟨b,0,none⟩=some (Qc a.op):=n0;have n1:(W2.setCell ⟨b,4,none⟩ (Qc (-1))).cell? ⟨b,1,none⟩=some (Qc a.e):=n1;have V:Hid (Fr H (Pt (.node b o a l r)) w (W2.setCell ⟨b,4,none⟩ (Qc (-1)))):=(x2.mono Pt.left).t (x3.mono Po.to);have k6:Hid (iR (W2.setCell ⟨b,4,none⟩ (Qc (-1))) b {a with f:=(-1:Int)} l r):=o3;clear o3 x3 x2 o2 h2 i2 j2;go_upto_region 2 with fail
  generalize W2.setCell ⟨b,4,none⟩ (Qc (-1))=d at*
 ·go_wp2_with fail
  refine(aAK 3 a.e d A (Oi k9.o)).mono ?_;rintro e c ⟨rfl,s,j⟩;have x:iR c b {a with f:=(-1:Int)} l r:=dZ k6.o j F0.body (fun q u a3 Y=>Y) (by have:=p.o;show a.a≠20;omega);have n:bU c (mU U l S)/\bU c r:=R.o 0 S d c (j.mono F0.to) v Q;obtain⟨h5,z,y,⟨q5,c5⟩,z5⟩:=qX (o:=4) (i:=((iD U l S).length:Int)) s x HB.o (.l ⟨.r (.r p.o),rfl⟩);obtain⟨i5,j5⟩:=R.o 0 S c _ z n.1 n.2;obtain⟨_,_,_,n5⟩:=aC0 y p.o;have X5:Hid (Fr H (Pt (.node b o a l r)) w (c.setCell ⟨b,4,none⟩ (Qc ((iD U l S).length:Int)))):=(V.o.t (j.mono F0.to)).t ((show Fr H (Po a) c _ from z).mono Po.to);have y3:Hid (iR (c.setCell ⟨b,4,none⟩ (Qc ((iD U l S).length:Int))) b {a with f:=((iD U l S).length:Int)} l r):=y;have h0:=HR.o _ _ h5 j5 (by have:=k9.o;rw[List.length_append];simp only[List.length_cons,List.length_nil];omega);rw[y2]at n5 h0;clear x y j z n s k6 V n0 n1 n3 v Q A j5;go_upto_region 4 with fail
  generalize c.setCell ⟨b,4,none⟩ (Qc ((iD U l S).length:Int))=W5 at*;go_wp2_with fail
  refine h0.mono ?_;rintro e T ⟨rfl,W,Z,x6⟩;go_wp2;go_end0
  exact a2.o _ _ W5 T (h9.o g) (k7.o g) y3.o i5 X5.o W Z x6
 ·go_wp2_with fail
  refine(aAK 3 a.e d A (Oi k9.o)).mono ?_;rintro e c ⟨rfl,s,j⟩;have x:iR c b {a with f:=(-1:Int)} l r:=dZ k6.o j F0.body (fun q u a3 Y=>Y) (by have:=p.o;show a.a≠20;omega);have n:bU c (mU U l S)/\bU c r:=R.o 0 S d c (j.mono F0.to) v Q;obtain⟨h5,z,y,⟨q5,c5⟩,z5⟩:=qX (o:=4) (i:=((iD U l S).length:Int)) s x HB.o (.l ⟨.r (.r p.o),rfl⟩);obtain⟨i5,j5⟩:=R.o 0 S c _ z n.1 n.2;obtain⟨_,_,_,n5⟩:=aC0 y p.o;have X5:Hid (Fr H (Pt (.node b o a l r)) w (c.setCell ⟨b,4,none⟩ (Qc ((iD U l S).length:Int)))):=(V.o.t (j.mono F0.to)).t ((show Fr H (Po a) c _ from z).mono Po.to);have y3:Hid (iR (c.setCell ⟨b,4,none⟩ (Qc ((iD U l S).length:Int))) b {a with f:=((iD U l S).length:Int)} l r):=y;have h0:=HR.o _ _ h5 j5 (by have:=k9.o;rw[List.length_append];simp only[List.length_cons,List.length_nil];omega);rw[y2]at n5 h0;clear x y j z n s k6 V n0 n1 n3 v Q A j5;go_upto_region 4 with fail
  generalize c.setCell ⟨b,4,none⟩ (Qc ((iD U l S).length:Int))=W5 at*;go_wp2_with fail
  refine h0.mono ?_;rintro e T ⟨rfl,W,Z,x6⟩;go_wp2;go_end0
  exact a2.o _ _ W5 T (h9.o g) (k7.o g) y3.o i5 X5.o W Z x6
 ·have h0:=HR.o _ _ A Q (Oi k9.o);rw[y2]at n3 h0;clear n1 A Q;go_wp2_with fail
  refine h0.mono ?_;rintro e T ⟨rfl,W,Z,x6⟩;go_wp2;go_end0
  exact a2.o _ _ d T (k8.o g) (y4.o g) k6.o v V.o W Z x6
end
section
variable {H O X:Nat} {it D M:Value} {m:Int} {U:List Tr}
theorem aC2{b o:Nat}{a:Nd}{e r:Tr}(h:a.a=15\/a.a=20\/a.a=18)(S:Sl):iD U (.node b o a e r) S=iD U r (iD U e S)/\mU U (.node b o a e r) S= .node b o a (mU U e S) (mU U r (iD U e S)):=by
 obtain⟨e1,_,_⟩:=qI (U:=U) (a:=a) (S:=S) (G:=S) Oa;have c:∀ G,lH a G=G:=(by grind[qI]);have d:∀ G,qJ U a S G=a.f:=fun G=>(qI (U:=U) (a:=a) (S:=S) (G:=G) Oa).2.2;refine⟨by grind[iD,lH,gO],?_⟩;show BT.node b o {a with f:=qJ U a S (iD U e (gO U a S))} (mU U e (gO U a S)) (mU U r (lH a (iD U e (gO U a S))))=_;simp[*]
structure LpS(H O X:Nat)(it D M:Value)(m:Int)(U:List Tr)(L:Tr)(G:Sl)(C:World)(i:Nat)(J:Sl)(wr:World):Prop where
 rs:SiW H O X it D M m U J wr
 fr:Fr H (Pt L) C wr
 rest:bU wr (bN i L)
 wand:∀ w2,Fr H (Pt (bN i L)) wr w2->bU w2 (mU U (bN i L) J)->bU w2 (mU U L G)
 run:iD U (bN i L) J=iD U L G
variable {L:Tr} {G J:Sl} {C wr w3:World} {i:Nat}
theorem LpS.start(h:SiW H O X it D M m U G C)(hi:bU C L):LpS H O X it D M m U L G C 0 G C:=⟨h,Fr.refl _ _ _,hi,fun _ _ h=>h,rfl⟩
theorem LpS.step(h:LpS H O X it D M m U L G C i J wr){s:Nat}(n:s=13\/s=14\/s=15\/s=16\/s=18)(A:Ws s L)(y:(ps L).Nodup){b o:Nat}{a:Nd}{e r:Tr}(z:bN i L= .node b o a e r)(l:bN (i+1) L=r)(q:SiW H O X it D M m U (iD U e J) w3)(u:bU w3 (mU U e J))(d:Fr H (Pt e) wr w3):LpS H O X it D M m U L G C (i+1) (iD U e J) w3:=by
 have j:=iB n i _ A;have K:=pJ i _ y;have k:=xR i L;obtain⟨_,k0,rest,g,run⟩:=h;rw[z]at j K k rest g run;obtain⟨h0,x,v⟩:=bY n j;have K:=fU K;rw[(aC2 (.l h0) J).2]at g;rw[(aC2 (.l h0) J).1]at run;refine⟨q,k0.t (d.mono fun t p c=>⟨c.1,k p (jI c.2)⟩),?_,fun Q f hi=>?_,?_⟩
 ·rw[l];exact bU.fr d (fun t p c=>(Pt.body t p c).e) v rest.2.1 (Pt.o K.apart)
 ·rw[l]at f hi;refine g Q ((d.mono Pt.left).t (f.mono Pt.right)) ⟨?_,hi,?_⟩
  ·exact aC9 u f x (mK _ _ _) K.apart_
  ·unfold iR;rw[h0];trivial
 simp[*]
theorem LpS.fin(h:LpS H O X it D M m U L G C (bG L) J wr):J=iD U L G/\bU wr (mU U L G):=by
 obtain⟨_,_,_,a,run⟩:=h;rw[nP]at a run;exact⟨run,a wr (Fr.refl _ _ _) trivial⟩
theorem aGQ{s:Nat}{t:Tr}(c:s=3\/s=4\/s=5\/s=6\/s=8)(h:Ws s t)(S:Sl):iD U t S=iD U (aD t) S:=by
 rcases h.lst c with rfl|⟨b,o,a,l,rfl,d,_⟩
 ·rfl
 ·rw[(aC2 (.r (.l d)) S).1];rfl
theorem aL2{s:Nat}{t:Tr}{P:TypeId->Int->Prop}{w w':World}{S:Sl}(k:s=3\/s=4\/s=5\/s=6\/s=8)(h:Ws s t)(hi:bU w t)(q:Fr H P w w')(f:∀ t p,P t p->cD t)(g:bU w' (mU U (aD t) S)):bU w' (mU U t S):=by
 rcases h.lst k with rfl|⟨b,o,a,l,rfl,c,u⟩
 ·trivial
 ·rw[(aC2 (.r (.l c)) S).2];have d:=hi.2.2;have h0:=(bM d (n:=20) c).1;have v:po a=[]:=by unfold po;rw[c];rfl
  have r:=gM.fr q (fun t p j=>(f t p j).e) d Qh (fun e=>⟨h.list e h0,(by grind[cD])⟩);exact⟨g,trivial,kK r (mK _ _ _) Qj⟩
theorem aHE.at{w:World}(h:aHE H M U w){j:Nat}(A:j < U.length):∃ g c b a l p q d f,M= Qe g U.length c/\w.cell? ⟨g,j,none⟩=some (Qd b)/\FnW w b a l p q/\aH p= .slice d (yV U j) f/\Ws 4 q/\yV U j<=10000:=by
 obtain⟨b,o,a,l,x,y,z,p,q,e,u,t,s⟩:=h.own U[j] Od;have r:U[j]?=some (.node b o a l (.node x y z p q)):=Qh
 have K:yV U (j:Int)=aJ p:=by unfold yV;simp[*]
 obtain⟨d,f,Q⟩:=t.w0 Oa
 obtain⟨g,c,n⟩:∃ g c,M= Qe g U.length c:=by
  obtain⟨ao,c,e1,v⟩:=bP h.row
  grind
 have k:=h.row;rw[n]at k;have h0:=k.cellAt j Oa;refine⟨g,c,b,a,l,p,q,d,f,n,?_,u,Qh,s,by grind[mW]⟩;rw[h0,List.getElem?_map,r];rfl
theorem aW7{b o:Nat}{a:Nd}{l r:Tr}(s:a.a=3)(hw:Ws 0 (.node b o a l r))(hH:dE H (.node b o a l r))(j9:(ps (.node b o a l r)).Nodup)(d5:0<=a.c/\a.c < U.length)(hA:sI (fun e=>Ws 0 e/\vX 197 H O X it D M m U aH e) (aD l)):vX 251 H O X it D M m U fO (.node b o a l r):=by
 obtain⟨j0,sx,sy,y0,A,g9⟩:=hw.parts;rw[s]at y0;cases y0;obtain rfl:=g9.nil_of;have a6:=fU j9;have j3:=hH.2.2 (by unfold kJ;omega);intro S w h hi hS;obtain⟨p,hj⟩:∃ p:Nat,a.c=p:=⟨a.c.toNat,Oa⟩;have d4:p < U.length:=Oa
 obtain⟨ao,cp,z4⟩:=A.w0 Oy;have z6:=mO Oy A;have y5:(ps (aD l)).Nodup:=by rw[<-z6];exact a6.left
 have k9:=A.elems Oy;have y6:=nC b o a l .nil;rw[Oh,if_pos ⟨Oa,by rw[s];rfl⟩]at y6
 have b7:∀ C,bU C l->bU C (aD l):=fun C h=>by
  cases l with
  |nil=>trivial
  |node=>exact h.1
 have a8:∀ (a4:World) (i:Int),iR a4 b {a with f:=i} l .nil->a4.cell? ⟨b,1,none⟩=some (Qc a.b)/\a4.cell? ⟨b,2,none⟩=some (Qc a.c)/\a4.cell? ⟨b,3,none⟩=some (aH l):=fun a4 i ho=>by
  obtain⟨cs,hc,hn,h4,_⟩:=bM ho (n:=3) s;exact⟨Og hc hn.2.1,Og hc hn.2.2,Og hc h4⟩
 have Y:Hid (∀ (W2 x:World),Fr H (Po a) W2 x->bU W2 l->bU x l):=fun W2 x b3 k1=>bU.fr b3 (fun t T v=>(Po.body t T v).e) A k1 (Po.o a6.own_l)
 have a5:Hid (∀ (G:Sl) (i:Int) (x k:World),gO U a S=G->qJ U a S S=i->iR x b {a with f:=i} l .nil->Fr H (Pt (.node b o a l .nil)) w x->bU x l->Fr H (Pt (aD l)) x k->SiW H O X it D M m U (iD U (aD l) G) k->bU k (mU U (aD l) G)->
  aE3 H O X it D M m U (Pt (.node b o a l .nil)) (mU U (.node b o a l .nil) S) (iD U (.node b o a l .nil) S) w (.returned (.tuple #[])) k):=by
  intro G i x k e1 j o3 x3 i3 x4 h4 i4;have b4:Fr H (Pt l) x k:=x4.mono fun t T v=>⟨v.1,by rw[z6];exact v.2⟩;have o4:=dZ o3 b4 Pt.body (fun T v a7 hq=>a6.own_l T v hq.2) (by show a.a≠20;omega);have j1:∀ S2,lH a S2=S2:=fun S2=>by unfold lH;rw[Oh]
  have d0:∀ S2,qJ U a S S2=i:=fun S2=>by
   have g2: ¬(a.a=2\/a.a=10):=Oa
   rw[<-j];unfold qJ;rw[if_neg g2,if_pos s,if_neg g2,if_pos s]
  have eR:iD U (.node b o a l .nil) S=iD U (aD l) G:=by show iD U .nil (lH a (iD U l (gO U a S)))=_;rw[j1,e1,aGQ Oy A];rfl
  have eT:mU U (.node b o a l .nil) S= .node b o {a with f:=i} (mU U l G) .nil:=by
   show BT.node b o {a with f:=qJ U a S (iD U l (gO U a S))} (mU U l (gO U a S)) _=_;rw[e1,d0];rfl
  rw[eR,eT];exact⟨rfl,h4,⟨aL2 Oy A i3 b4 Pt.body i4,trivial,kK o4 (mK _ _ _) (Sh.refl _)⟩,x3.t (b4.mono Pt.left)⟩
 obtain⟨Z,x1,o1,⟨q1,c1⟩,z1⟩:=qX (o:=4) (i:=-1) h hi.2.2 j3 (.l ⟨.r (.l s),rfl⟩);have i1:=Y.o w _ x1 hi.1;obtain⟨u1,u2,n3⟩:=a8 _ _ o1;have n1:=u1;have n2:(w.setCell ⟨b,4,none⟩ (Qc (-1))).cell? ⟨b,2,none⟩=some (Qc (p:Int)):=by rw[<-hj];exact u2
 clear u1 u2;have X1:Hid (Fr H (Pt (.node b o a l .nil)) w (w.setCell ⟨b,4,none⟩ (Qc (-1)))):=x1.mono Po.to;have z7:Hid _:=o1;have y2:yV U a.c=yV U (p:Int):=by rw[hj]
 have k0:0 < yV U (p:Int)->gO U a S=S++[(4,a.b)]:=fun hh=>by unfold gO;rw[Oh,Oh,if_pos s,y2,if_pos hh]
 have y3:0 < yV U (p:Int)->qJ U a S S=(S.length:Int):=fun hh=>by unfold qJ;rw[Oh,if_pos s,y2,if_pos hh]
 have k2: ¬0 < yV U (p:Int)->gO U a S=S:=fun hh=>by unfold gO;rw[Oh,Oh,if_pos s,y2,if_neg hh]
 have y4: ¬0 < yV U (p:Int)->qJ U a S S= -1:=fun hh=>by unfold qJ;rw[Oh,if_pos s,y2,if_neg hh]
 have d6:Hid _:=k0;have d8:Hid _:=y3;have d7:Hid _:=k2;have d9:Hid _:=y4;have HT:Hid _:=s;have m0:Hid (H<=b):=j3;have g8:Hid _:=a8;have z2:Hid _:=b7;have g6:Hid _:=y5;have g5:Hid _:=k9;have g4:Hid (Ws 3 l):=A;have j5:Hid (S.length+1+(ps (aD l)).length<=1000000):=by rw[Hid,<-z6];omega
 have g7:Hid _:=mW Oy A;show Calls prog 251 #[Qd X,Qd b] w _;clear k0 y3 k2 y4 a8 b7 y5 k9 A z6 y6 a6 j9 hH hw j0 d5 x1 o1 hS hi y2 hj s j3;go_enter func251,ntmps251
 go_upto_region 1 with fail
 generalize w.setCell ⟨b,4,none⟩ (Qc (-1))=C at*;obtain⟨g,c8,bf,af,lf,pf,qf,ap,c9,j8,g0,g1,j7,_,e3⟩:=Z.fns.at d4;obtain⟨_,_,_,k4,_,_,_⟩:=g1.cells;rw[j7]at k4;have c0:C.cell? ⟨X,0,none⟩=some (Qd O):=Og Z.blk rfl
 have p2:C.cell? ⟨O,2,none⟩=some M:=by
  obtain⟨B,v,_⟩:=Z.prog;rw[cell_of_row _ _ _ _ _ _ v];rfl
 rw[j8]at p2;have e2:(p:Int) < (U.length:Int):=Oa
 clear g1 j7 j8 c1 z1
 by_cases hk:0 < yV U (p:Int)
 ·have d3:(0:Int) < (yV U (p:Int):Int):=Oa
  go_quiet (fail)
  have g3:=Z.drewN nq;have W:Fr H F0 C (C.drewN nq):=(Fr.refl _ _ _).drewN nq;have b8:=dZ z7.o W F0.body (fun T v a7 hq=>hq) (by have:=HT.o;show a.a≠20;omega);have b6:=Y.o C _ (W.mono F0.to) i1;have b5:Hid (Fr H (Pt (.node b o a l .nil)) w (C.drewN nq)):=X1.o.t (W.mono F0.to);have b9:(C.drewN nq).cell? ⟨b,1,none⟩=some (Qc a.b):=n1;clear n1 n2 n3 i1 Z X1 z7 W c0 p2 g0 k4;generalize C.drewN nq=W2 at*;go_wp2_with fail
  refine(aAK 4 a.b W2 g3 (Oi j5.o)).mono ?_;rintro e k ⟨rfl,h4,x4⟩;have o4:iR k b {a with f:=(-1:Int)} l .nil:=dZ b8 x4 F0.body (fun T v a7 hq=>hq) (by have:=HT.o;show a.a≠20;omega);have i4:=Y.o W2 k (x4.mono F0.to) b6;obtain⟨h5,x5,o5,⟨q5,c5⟩,z5⟩:=qX (o:=4) (i:=(S.length:Int)) h4 o4 m0.o (.l ⟨.r (.l HT.o),rfl⟩);have R:=Y.o k _ x5 i4;obtain⟨_,_,m3⟩:=g8.o _ _ o5;rw[z4]at m3;have X5:Hid (Fr H (Pt (.node b o a l .nil)) w (k.setCell ⟨b,4,none⟩ (Qc (S.length:Int)))):=(b5.o.t (x4.mono F0.to)).t ((show Fr H (Po a) k _ from x5).mono Po.to);have k8:Hid (iR (k.setCell ⟨b,4,none⟩ (Qc (S.length:Int))) b {a with f:=(S.length:Int)} l .nil):=o5;clear o4 o5 x4 x5 i4 h4 b5 b8 b6 g3 b9;go_upto_region 3 with fail
  generalize k.setCell ⟨b,4,none⟩ (Qc (S.length:Int))=y at*;obtain⟨d,K⟩:∃ d,d=S++[(4,a.b)]:=⟨_,rfl⟩;rw[<-K]at h5;have HB:Hid (d.length+(ps (aD l)).length<=1000000):=by rw[Hid,K,List.length_append];simp only[List.length_cons,List.length_nil];exact j5.o
  have h7:Hid (gO U a S=d):=by rw[Hid,K];exact d6.o hk
  have z0:Hid (qJ U a S S=(S.length:Int)):=d8.o hk;clear K;have j6:Hid (bU y l):=R;have L0:=LpS.start (L:=aD l) h5 (z2.o _ R);have a3:Hid _:=fun z=>a5.o d _ y z h7.o z0.o k8.o X5.o R;have y7:=HB.o;have d1:=g7.o;clear h5 R X5 k8 a5 Y h7 z0;go_wp2_with fail
  go_loopg [43] (aJ l) (fun q a9 wr=>∃ (i:Nat) (J:Sl),a9= Qc i/\i<=aJ l/\aJ l<=i+q/\J.length+(ps (bN i (aD l))).length<=1000000/\LpS H O X it D M m U (aD l) d y i J wr)
  case atStart=>exact⟨0,d,rfl,Qn _,Oa,y7,L0⟩
  case round=>
   clear L0 m3 y7;obtain⟨i,J,rfl,d2,hm,hb,c⟩:=hrel;have k7:Hid _:=c
   by_cases j2:i < aJ l
   ·have k3:(i:Int) < (aJ l:Int):=Oa
    obtain⟨b2,o2,a2,j,r2,u,k6⟩:=jA i (aD l) (by rw[<-dG];exact j2);have y9:=sI.drop i _ hA;rw[u]at y9 hb;obtain⟨j4,⟨Q,hG⟩,_⟩:=y9
    obtain⟨gg,rfl,h3⟩:=pQ Oy g4.o j6.o c.fr Pt.body z4 u (by
     cases j with
     |nil=>exact absurd Q (by unfold Ws eX;omega)
     |node b o a l r=>
      obtain⟨_,b3,c7,e,_⟩:=Q.parts;exact⟨b,o,a,l,r,rfl,fun h=>(by rw[h]at e;cases e),fun h=>(by rw[h]at e;cases e)⟩)
    obtain⟨c6,T,z8⟩:=Q.g Oy;have k5:=c.rest;rw[u]at k5;have y1:=nC b2 o2 a2 j r2;rw[Oh,if_neg (by rw[j4];intro h;exact absurd h.2 Ob)]at y1;have z9:=qH U j J;have z3:Hid ((iD U j J).length+(ps (bN (i+1) (aD l))).length<=1000000):=by rw[Hid,k6];omega
    have h0:=hG J wr c.rs k5.1 Oa;rw[z8]at h3 h0;have h2:Hid _:=fun w3=>k7.o.step (w3:=w3) Oy g5.o g6.o u k6;clear hG Q u k6 k5 c y1 z9 hb;go_wp2_with fail
    refine h0.mono ?_;rintro e z ⟨rfl,h6,i6,x6⟩;obtain⟨q,rfl⟩:∃ q,gk=q+1:=⟨gk - 1,Oa⟩
    have fin:∃ (V:Nat) (J:Sl),Qc ((i:Int)+1)= Qc V/\V<=aJ l/\aJ l<=V+q/\J.length+(ps (bN V (aD l))).length<=1000000/\LpS H O X it D M m U (aD l) d y V J z:=
     ⟨i+1,_,Od,Oa,Oa,z3.o,h2.o z h6 i6 x6⟩
    clear h2 k7 h6 i6 x6 z3;go_wp2;go_roundg q
    case rel=>exact fin
    case measure=>omega
   ·have k3: ¬(i:Int) < (aJ l:Int):=Oa
    have y8:i=bG (aD l):=by rw[<-dG];omega
    have fin:aE3 H O X it D M m U (Pt (.node b o a l .nil)) (mU U (.node b o a l .nil) S) (iD U (.node b o a l .nil) S) w (.returned (.tuple #[])) wr:=by
     subst y8;obtain⟨e1,j⟩:=c.fin;have hr:=c.rs;rw[e1]at hr;exact a3.o wr c.fr hr j
    clear y8 c k7 a3;go_wp2;go_end0
    exact fin
 ·have d3: ¬(0:Int) < (yV U (p:Int):Int):=Oa
  go_quiet (fail)
  have h5:=Z.drewN nq;have W:Fr H F0 C (C.drewN nq):=(Fr.refl _ _ _).drewN nq;have k8:Hid (iR (C.drewN nq) b {a with f:=(-1:Int)} l .nil):=dZ z7.o W F0.body (fun T v a7 hq=>hq) (by have:=HT.o;show a.a≠20;omega);have R:bU (C.drewN nq) l:=Y.o C _ (W.mono F0.to) i1;have X5:Hid (Fr H (Pt (.node b o a l .nil)) w (C.drewN nq)):=X1.o.t (W.mono F0.to);obtain⟨_,_,m3⟩:=g8.o _ _ k8.o;rw[z4]at m3;clear n1 n2 n3 i1 Z X1 z7 W c0 p2 g0 k4;generalize C.drewN nq=y at*;obtain⟨d,K⟩:∃ d,d=S:=⟨_,rfl⟩;rw[<-K]at h5;have HB:Hid (d.length+(ps (aD l)).length<=1000000):=by rw[Hid,K];have:=j5.o;omega
  have h7:Hid (gO U a S=d):=by rw[Hid,K];exact d7.o hk
  have z0:Hid (qJ U a S S= -1):=d9.o hk;clear K;have j6:Hid (bU y l):=R;have L0:=LpS.start (L:=aD l) h5 (z2.o _ R);have a3:Hid _:=fun z=>a5.o d _ y z h7.o z0.o k8.o X5.o R;have y7:=HB.o;have d1:=g7.o;clear h5 R X5 k8 a5 Y h7 z0;go_wp2_with fail
  go_loopg [43] (aJ l) (fun q a9 wr=>∃ (i:Nat) (J:Sl),a9= Qc i/\i<=aJ l/\aJ l<=i+q/\J.length+(ps (bN i (aD l))).length<=1000000/\LpS H O X it D M m U (aD l) d y i J wr)
  case atStart=>exact⟨0,d,rfl,Qn _,Oa,y7,L0⟩
  case round=>
   clear L0 m3 y7;obtain⟨i,J,rfl,d2,hm,hb,c⟩:=hrel;have k7:Hid _:=c
   by_cases j2:i < aJ l
   ·have k3:(i:Int) < (aJ l:Int):=Oa
    obtain⟨b2,o2,a2,j,r2,u,k6⟩:=jA i (aD l) (by rw[<-dG];exact j2);have y9:=sI.drop i _ hA;rw[u]at y9 hb;obtain⟨j4,⟨Q,hG⟩,_⟩:=y9
    obtain⟨gg,rfl,h3⟩:=pQ Oy g4.o j6.o c.fr Pt.body z4 u (by
     cases j with
     |nil=>exact absurd Q (by unfold Ws eX;omega)
     |node b o a l r=>
      obtain⟨_,b3,c7,e,_⟩:=Q.parts;exact⟨b,o,a,l,r,rfl,fun h=>(by rw[h]at e;cases e),fun h=>(by rw[h]at e;cases e)⟩)
    obtain⟨c6,T,z8⟩:=Q.g Oy;have k5:=c.rest;rw[u]at k5;have y1:=nC b2 o2 a2 j r2;rw[Oh,if_neg (by rw[j4];intro h;exact absurd h.2 Ob)]at y1;have z9:=qH U j J;have z3:Hid ((iD U j J).length+(ps (bN (i+1) (aD l))).length<=1000000):=by rw[Hid,k6];omega
    have h0:=hG J wr c.rs k5.1 Oa;rw[z8]at h3 h0;have h2:Hid _:=fun w3=>k7.o.step (w3:=w3) Oy g5.o g6.o u k6;clear hG Q u k6 k5 c y1 z9 hb;go_wp2_with fail
    refine h0.mono ?_;rintro e z ⟨rfl,h6,i6,x6⟩;obtain⟨q,rfl⟩:∃ q,gk=q+1:=⟨gk - 1,Oa⟩
    have fin:∃ (V:Nat) (J:Sl),Qc ((i:Int)+1)= Qc V/\V<=aJ l/\aJ l<=V+q/\J.length+(ps (bN V (aD l))).length<=1000000/\LpS H O X it D M m U (aD l) d y V J z:=
     ⟨i+1,_,Od,Oa,Oa,z3.o,h2.o z h6 i6 x6⟩
    clear h2 k7 h6 i6 x6 z3;go_wp2;go_roundg q
    case rel=>exact fin
    case measure=>omega
   ·have k3: ¬(i:Int) < (aJ l:Int):=Oa
    have y8:i=bG (aD l):=by rw[<-dG];omega
    have fin:aE3 H O X it D M m U (Pt (.node b o a l .nil)) (mU U (.node b o a l .nil) S) (iD U (.node b o a l .nil) S) w (.returned (.tuple #[])) wr:=by
     subst y8;obtain⟨e1,j⟩:=c.fin;have hr:=c.rs;rw[e1]at hr;exact a3.o wr c.fr hr j
    clear y8 c k7 a3;go_wp2;go_end0
    exact fin
end
end Go.Proofs.YtikffmloeifkpaaGreatDoor
